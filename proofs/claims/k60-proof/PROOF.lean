import PyProof.Rows.All
import Wide.All
import OpenK.AllK
import Wide.FinOn
import Lean
import PyProof.EqAt
import PyProof.EqKinds
import PyProof.TupleCall
import PyProof.StationsW
import PyProof.NeKinds
import KE.KRevIter
import PyProof.SeqI3
import PyProof.ZipIter
import PyProof.EnumIter
import PyProof.EnumStmt
import PyProof.EnumMake
import PyProof.WalksEnum
import PyProof.ExcClass3
import PyProof.ExcInit
import PyProof.ExcBaseAll.ValueError
import PyProof.ExcArgsOwn
import KE.KIsAll
import PyProof.ExcAttrAll.ValueError
import PyProof.InstStoreFacts
import KE.KTryMore
import PyProof.RulesAs
import PyProof.NsDelKeeps
import KE.KDictList
import KE.KItemsList
import PyProof.Rows.SortShell
import KE.IntTextLaws
import KE.KIntText
import PyProof.MeetsSeq
import PyProof.SeqRoads2
import PySem.Challenge.RW_carry_k60_a_new_hall
set_option linter.all false
set_option bootstrap.genMatcherCode false
set_option compiler.extract_closed false
set_option genSizeOf false
set_option genSizeOfSpec false
namespace Carry.Hd
open Lean Meta PySem PySem.W
abbrev Ex:=Lean.Expr
def fit(ds:Array (Ex×Ex×Ex)):MetaM (Array (Ex×Ex×Ex)):=do
 let cs:Std.HashSet Ex:=ds.foldl (fun z d=>if d.1.isConst then z.insert d.1 else z) {}
 ds.filterM fun d=>do
  let ty:=Fast.bareType (<-inferType d.1)
  return (ty.find? fun y=>cs.contains y || y.isConstOf ``PySem.W.Frag).isNone
def spots(ds:Array (Ex×Ex×Ex)):Std.HashMap Ex Nat:=ds.zipIdx.foldl (fun z d=>z.insert d.1.1 d.2) {}
def parts(tw:Name->MetaM Unit)(v:Ex):MetaM (Array (Ex×Ex×Ex)):=do
 for x in Fast.constsOf v do
  if let .const c _:=x then
   if((<-getEnv).getModuleIdxFor? c).isNone || (`PySem.Challenge).isPrefixOf c then tw c
 fit (<-Fast.twinsIn v)
def twin:Nat->Name->MetaM Unit
 |0,_=>return
 |k+1,c=>do
  let (n,e) <-Fast.stemIn c true
  if(<-getEnv).contains e then return
  if let some none:=(<-Fast.primed.get).get? c then return
  let some (.defnInfo d):=(<-getEnv).find? c|return
  let ds <-parts (twin k) d.value
  if ds.isEmpty then
   Fast.primed.modify fun z=>z.insert c none
   return
  let tys <-ds.mapM fun x=>inferType x.1
  let ty <-inferType d.value
  let ix:=spots ds
  let G <-Fast.withLocals tys.toList #[] fun xs=>mkLambdaFVars xs (Fast.putIn ix (fun i=>xs[i]!) d.value)
  let mut B:=#[ty]
  for q in tys.reverse do B:=B.push (<-mkArrow q B.back!)
  let m:=ds.size
  let mut f:=G
  let mut g:=G
  let mut pf:=mkApp2 (mkConst ``Eq.refl [<-getLevel B[m]!]) B[m]! G
  for i in [0:m] do
   let (x,y,h):=ds[i]!
   pf:=mkAppN (mkConst ``congr [<-getLevel tys[i]!,<-getLevel B[m - 1 - i]!]) #[tys[i]!,B[m - 1 - i]!,f,g,x,y,pf,h]
   f:=mkApp f x
   g:=mkApp g y
  withOptions (Elab.async.set · false) do
   addDecl (.defnDecl { name:=n,levelParams:=[],type:=d.type,value:=Fast.putIn ix (fun i=>ds[i]!.2.1) d.value,hints:=d.hints,safety:=.safe})
   addDecl (.thmDecl { name:=e,levelParams:=[],type:=<-mkEq (mkConst c) (mkConst n),value:=pf})
  Fast.primed.modify fun z=>z.insert c (some (n,e))
def prep(v:Ex):MetaM (Array (Ex×Ex×Ex)):=parts (twin 9) v
def put(stem:Name)(ty v:Ex):MetaM Ex:=do
 let ds <-prep v
 let c <-defAt stem ty (Fast.putIn (spots ds) (fun i=>ds[i]!.2.1) v)
 Fast.primed.modify fun z=>z.insert c.constName! none
 return c
abbrev Objs:=Array (Obj×Obj×Ex)
def lay(old:Objs)(s t:Shared):MetaM Objs:=do
 let P:=mkConst ``Params
 unless s.heap.objs.size == t.heap.objs.size && s.toks == t.toks && toExpr s.drawn == toExpr t.drawn && toExpr s.heap.life == toExpr t.heap.life do throwError "the worlds part"
 let mut out:=#[]
 for i in [0:s.heap.objs.size] do
  let (a,b):=(s.heap.objs[i]!,t.heap.objs[i]!)
  if let some (a',b',e):=old[i]? then
   if sameObjNow a' a && sameObjNow b' b then
    out:=out.push (a',b',e)
    continue
  let v <-withLocalDeclD `P P fun p=>do
   let e:=objE p a
   unless e == objE p b do throwError "an object is the world's"
   mkLambdaFVars #[p] e
  out:=out.push (a,b,<-put `o (<-mkArrow P (mkConst ``Obj)) v)
 return out
def state(l:Bool)(old:Objs)(s t:Shared):MetaM (Objs×W.State):=do
 let P:=mkConst ``Params
 let os <-lay old s t
 let life:=toExpr s.heap.life
 let S:W.State:={ heap:=default,gens:=<-gensE s t,drawn:=toExpr s.drawn,toks:=mkRawNatLit s.toks}
 if l then
  let v <-withLocalDeclD `P P fun p=>mkLambdaFVars #[p] (mkApp2 (mkConst ``Heap.mk) (mkApp2 (mkConst ``Array.mk [0]) (mkConst ``Obj) (listE (mkConst ``Obj) (os.toList.map fun x=>mkApp x.2.2 p))) life)
  return (os,{ S with heap:=<-put `h (<-mkArrow P (mkConst ``Heap)) v})
 let v <-withLocalDeclD `P P fun p=>mkLambdaFVars #[p] (treeE p (os.map (·.2.2)) 1 0)
 return (os,{ S with tree:=some (<-put `t (<-mkArrow P (mkConst ``BT)) v,mkRawNatLit s.heap.objs.size,life)})
def aux(ty pf:Ex):MetaM Ex:=do return mkConst (<-withOptions (Elab.async.set · false) (mkAuxLemma [] ty pf (cache:=false)))
def look:Nat->Ex->Ex->MetaM Ex
 |k,l,r=>do
  let W:=mkConst ``World
  let O:=mkConst ``OsState
  let q <-withLocalDeclD `w W fun w=>withLocalDeclD `os O fun os=>do
   let un (e:Ex):MetaM Ex:=do
    let e:=(mkApp2 e w os).headBeta
    if e.isAppOf ``openSeen || e.isAppOf ``openGood then return (<-unfoldDefinition? e).getD e
    return e
   let (a,b):=(<-un l,<-un r)
   unless a.isAppOfArity ``Prod.mk 4 && b.isAppOfArity ``Prod.mk 4 do return none
   let sh (e:Ex) (i:Nat):MetaM Ex:=mkLambdaFVars #[w,os] (e.getArg! i)
   return some (<-sh a 2,<-sh b 2,<-sh a 3,<-sh b 3)
  match k,q with
  |n+1,some (a1,b1,a2,b2)=>
   let (x,y):=(<-look n a1 b1,<-look n a2 b2)
   let (ty,pf) <-withLocalDeclD `w W fun w=>withLocalDeclD `os O fun os=>do
    return (<-mkForallFVars #[w,os] (<-mkEq (mkApp2 l w os).headBeta (mkApp2 r w os).headBeta),<-mkLambdaFVars #[w,os] (<-mkAppM ``looks_pair #[mkApp2 x w os,mkApp2 y w os]))
   aux ty pf
  |_,_=>
   let P <-withLocalDeclD `w W fun w=>do mkLambdaFVars #[w] (<-mkEq (mkApp l w).headBeta (mkApp r w).headBeta)
   discard <| prep P
   let e <-byKernelQuick P []
   withLocalDeclD `w W fun w=>withLocalDeclD `os O fun os=>do mkLambdaFVars #[w,os] (<-mkAppM ``congrFun #[mkApp e w,os])
def most:Nat:=3000
def left(g:MVarId)(pE:Ex)(p:Program)(_:List String):MetaM Unit:=g.withContext do
 let a:=(<-instantiateMVars (<-g.getType)).consumeMData.getAppArgs
 let some N <-(Meta.evalNat a[7]!).run|throwError "no number"
 let (.ok t,.ok t'):=(<-traceTop p N 1,<-traceTop p N 2)|throwError "no trace"
 let tb:=mkConst ``treeTable
 let (W,O):=(mkConst ``World,mkConst ``OsState)
 let m0:=mkRawNatLit t.s0.heap.objs.size
 let ann:=toExpr t.ann
 let main <-mkAppM ``Program.main #[pE]
 let op <-mkAppM ``opening #[pE]
 let e1 <-aux (<-mkEq op (mkApp (mkConst ``plainProg) (<-mkAppM ``Scope.names #[<-mkAppM ``Module.scope #[main]]))) (<-mkEqRefl op)
 let e2 <-withLocalDeclD `s (mkConst ``Shared) fun s=>do
  let r <-mkAppM ``some #[s]
  aux (<-mkForallFVars #[s] (<-mkEq (mkApp2 (mkConst ``fenceModules?) pE s) r)) (<-mkLambdaFVars #[s] (<-mkEqRefl r))
 let e3 <-mkDecideProof (<-mkEq (mkApp2 (mkConst ``Nat.ble) (mkRawNatLit 600) a[7]!) (mkConst ``Bool.true))
 let boot:=mkAppN (mkConst ``boot_open) #[pE,a[7]!,e1,e3,e2]
 let bE <-mkAppM ``behindTheImports #[pE]
 let some cells <-cellsD? bE|throwError "no body"
 let env0 <-Elab.Term.TermElabM.run' do
  let s1 <-Elab.Term.exprToSyntax (<-mkAppM ``Module.scope #[main])
  let s2 <-Elab.Term.exprToSyntax (toExpr t.code)
  let e <-Elab.Term.withSynthesize (Elab.Term.elabTermEnsuringType (<-`(({ scope:=$s1,locals:=mainNs,globals:=mainNs,cells:=[],code:=$s2,frame:=some $(quote t.frame)}:Env))) (mkConst ``Env))
  instantiateMVars e
 let env <-defAt `env (mkConst ``Env) env0
 let fp:=toExpr t.framePos
 let cE:=mkApp2 (mkConst ``Code.body) bE env
 let B:=listE (mkConst ``Frame) [mkApp (mkConst ``topFrame) fp]
 let go (f:Name) (more:Array Ex) (n:Nat) (w s th:Ex):Ex:=mkAppN (mkConst f) (#[tb,pE,w,m0,ann]++more++#[mkRawNatLit n,s,th])
 let one:=#[mkRawNatLit 1]
 let piece (rows:List String) (l r:Ex->Ex->MetaM Ex):MetaM Ex:=do
  for x in [pE,env] do discard <| prep x
  byPiece rows l r
 let ends (S:Ex) (pos:Pos):MetaM Ex:=do mkAppM ``some #[<-mkAppM ``Prod.mk #[mkConst ``Flow.next,<-mkAppM ``Prod.mk #[S,<-mkAppM ``Prod.mk #[cE,toExpr pos]]]]
 let rowsOf (x y:Snap):=(x.rows++y.rows).eraseDups
 let mut o:Objs:=#[]
 for i in [0:t.s0.heap.objs.size] do o:=o.push (t.s0.heap.objs[i]!,t'.s0.heap.objs[i]!,mkConst ((`PySem.W).str s!"boot_o_{i}"))
 let S0:PySem.W.State:={ heap:=mkConst ``boot_heap,gens:=mkApp2 (mkConst ``Array.mk [0]) (mkConst ``GenState) (mkApp (mkConst ``List.nil [0]) (mkConst ``GenState)),drawn:=mkConst ``boot_drawn,toks:=mkConst ``boot_toks}
 let (o1,Sa) <-state true o t.pre.s t'.pre.s
 let thA:=mkApp4 (mkConst ``Thread.mk) (mkApp2 (mkConst ``denote) tb cE) cE (toExpr t.pre.pos) B
 let stub:=mkApp (mkConst ``topStub) pE
 let pre <-piece (rowsOf t.pre t'.pre) (fun w os=>pure (go ``topGo #[] t.pre.steps w (S0.at w os) stub)) fun w os=>do mkAppM ``some #[<-mkAppM ``Prod.mk #[Sa.at w os,thA]]
 let (o2,Sb) <-state false o1 t.block.s t'.block.s
 let block <-piece (rowsOf t.block t'.block) (fun w os=>pure (go ``segRun one t.block.steps.succ w (Sa.at w os) (mkAppN (mkConst ``blockOf) #[bE,env,cE,toExpr t.pre.pos,B]))) fun w os=>ends (Sb.at w os) t.block.pos
 let mut gs:Array (List Ex×Nat×Snap×Snap×List String):=#[]
 for (st,x,x') in cells.zip (t.pieces.zip t'.pieces) do
  let k:=max x.steps x'.steps
  let rs:=rowsOf x x'
  match gs.back? with
  |some (l,n,_,_,r)=>
   if n+k<=most && (r++rs).eraseDups.length<=3 then gs:=gs.pop.push (l++[st],n+k,x,x',(r++rs).eraseDups) else gs:=gs.push ([st],k,x,x',rs)
  |none=>gs:=gs.push ([st],k,x,x',rs)
 let mut cur:=(o2,Sb,t.block.pos)
 let mut lems:=#[]
 for (sts,n,x,x',rs) in gs do
  let stE <-defAt `st (mkApp (mkConst ``List [0]) (mkConst ``Stmt)) (listE (mkConst ``Stmt) sts)
  discard <| prep stE
  let (o0,S1,p1):=cur
  let (o',S') <-state false o0 x.s x'.s
  let th:=mkAppN (mkConst ``piecesOf) #[stE,env,cE,toExpr p1,B]
  let h <-piece rs (fun w os=>pure (go ``segRunT one n.succ w (S1.atT w os) th)) fun w os=>ends (S'.atT w os) x.pos
  lems:=lems.push (stE,n.succ,S1,p1,S',x.pos,<-liftT h ``segRun_of)
  cur:=(o',S',x.pos)
  logInfo m!"PIECE {sts.length} {n} {x.s.heap.objs.size}"
 let (oN,SN,pN):=cur
 let (_,Sf) <-state true oN t.fin.s t'.fin.s
 let fin <-piece (rowsOf t.fin t'.fin) (fun w os=>pure (go ``topRun #[] t.fin.steps.succ w (SN.at w os) (mkApp4 (mkConst ``Thread.mk) (mkApp (mkConst ``doneF) (mkConst ``Flow.next)) cE (toExpr pN) B))) fun w os=>mkAppM ``some #[Sf.at w os]
 let run <-withLocalDeclD `w W fun w=>withLocalDeclD `os O fun os=>do
  let w1 (l:Ex):MetaM Ex:=do mkAppM ``congrFun #[mkApp l w,os]
  let r:=Sf.at w os
  let com:=#[tb,pE,w,m0,ann,env,fp]
  let mut k <-w1 fin
  let mut M:=mkRawNatLit t.fin.steps.succ
  let mut rest:=listE (mkConst ``Stmt) []
  for (stE,n,S1,p1,S',p2,h) in lems.toList.reverse do
   k:=mkAppN (mkConst ``piece_app) (com++#[mkRawNatLit n,M,S1.at w os,S'.at w os,r,stE,rest,cE,toExpr p1,toExpr p2,<-w1 h,k])
   M:=mkApp2 (mkConst ``Nat.add) (mkRawNatLit n) M
   rest <-mkAppM ``HAppend.hAppend #[stE,rest]
  k:=mkAppN (mkConst ``piece_block) (com++#[mkRawNatLit t.block.steps.succ,M,Sa.at w os,Sb.at w os,r,bE,cE,toExpr t.pre.pos,toExpr t.block.pos,<-w1 block,k])
  M:=mkApp2 (mkConst ``Nat.add) (mkRawNatLit t.block.steps.succ) M
  k:=mkAppN (mkConst ``go_top) #[tb,pE,w,m0,ann,mkRawNatLit t.pre.steps,M,S0.at w os,Sa.at w os,r,stub,thA,<-w1 pre,k]
  M:=mkApp2 (mkConst ``Nat.add) (mkRawNatLit t.pre.steps) M
  let ty <-mkEq (mkAppN (mkConst ``topRun) #[tb,pE,w,m0,ann,M,S0.at w os,stub]) (<-mkAppM ``some #[r])
  return (M,<-aux (<-mkForallFVars #[w,os] ty) (<-mkLambdaFVars #[w,os] k))
 let lem:=mkConst ``LeftO.of_pieces
 let (ms,_,_) <-forallMetaTelescope (<-inferType lem)
 let vs:=#[pE,a[1]!,a[2]!,a[3]!,a[4]!,a[5]!,a[6]!,a[7]!,a[8]!,S0.heap,Sf.heap,S0.gens,Sf.gens,S0.drawn,Sf.drawn,S0.toks,Sf.toks,m0,ann,run.1]
 for (m,v) in ms.zip vs do m.mvarId!.assign v
 let want (i:Nat):MetaM Ex:=do instantiateMVars (<-inferType ms[i]!)
 let .forallE n1 d1 b1 i1 <-want 21|throwError "size"
 let size <-byKernelQuick (.lam n1 d1 b1 i1) []
 let .forallE _ _ bl _ <-want 24|throwError "looks"
 let (l,r) <-withLocalDeclD `w W fun w=>do
  let some (_,l,r):=(bl.instantiate1 w).eq?|throwError "looks"
  return (<-mkLambdaFVars #[w] l,<-mkLambdaFVars #[w] r)
 let h <-look 12 l r
 let looks <-withLocalDeclD `w W fun w=>do
  let f <-withLocalDeclD `os O fun os=>mkLambdaFVars #[os] (mkApp2 h w os)
  mkLambdaFVars #[w] (<-mkAppM ``funext #[f])
 g.assign (mkAppN lem (vs++#[boot,size,run.2,<-mkDecideProof (<-want 23),looks]))
simproc_decl hd (PySem.W.OpenRow.Holds _):=fun _=>do
 PySem.W.leftPieces.set (some left)
 return .continue
end Carry.Hd
noncomputable section
set_option Elab.async false
set_option maxRecDepth 100000
abbrev L2.FG:=PySem.W.Frag
namespace L2
open PySem PySem.Spec PyProof.Rows
abbrev Key:=Sum Int Str
def keyIs:Key->Value->Bool
 |.inl k,v=>Value.isInt k v
 |.inr x,v=>Value.isStrOf x v
def keyH(w:World):Key->Int
 |.inl k=>hashInt k
 |.inr x=>hashStr w x
theorem a3k:∀{k:Key} {v:Value},keyIs k v=true->(∃i t,k=Sum.inl i/\v=Value.int i t)\/(∃x t,k=Sum.inr x/\v=Value.str x t)
 |.inl i,v,h=>by
  obtain⟨t,e⟩:=Value.isInt_shape (k:=i) (v:=v) h;exact .inl ⟨i,t,rfl,e⟩
 |.inr x,v,h=>by
  obtain⟨t,e⟩:=Value.isStrOf_shape (x:=x) (v:=v) h;exact .inr ⟨x,t,rfl,e⟩
theorem e2e(a b:Int):decide ((Sum.inl a:Key)=Sum.inl b)=(a == b):=by
 by_cases e:a=b
 ·subst e;simp
 ·have h:¬(Sum.inl a:Key)=Sum.inl b:=fun q=>e (Sum.inl.inj q)
  rw[decide_eq_false h];exact(beq_eq_false_iff_ne.mpr e).symm
theorem e2f(a b:Str):decide ((Sum.inr a:Key)=Sum.inr b)=decide (a=b):=by
 by_cases e:a=b
 ·subst e;simp
 ·have h:¬(Sum.inr a:Key)=Sum.inr b:=fun q=>e (Sum.inr.inj q)
  rw[decide_eq_false h,decide_eq_false e]
theorem e2g(a:Int)(b:Str):decide ((Sum.inl a:Key)=Sum.inr b)=false:=decide_eq_false (fun q=>nomatch q)
theorem e2h(a:Str)(b:Int):decide ((Sum.inr a:Key)=Sum.inl b)=false:=decide_eq_false (fun q=>nomatch q)
def c3g(prog:Program)(w:World):PySem.KeyKind prog w Key where
 is:=keyIs
 hash:=keyH w
 inj:=fun v a b ha hb=>by
  rcases a3k ha with⟨i,t,rfl,rfl⟩|⟨x,t,rfl,rfl⟩
  ·rcases a3k hb with⟨j,u,rfl,e⟩|⟨y,u,rfl,e⟩
   ·injection e with e1 _;rw[e1]
   ·exact nomatch e
  ·rcases a3k hb with⟨j,u,rfl,e⟩|⟨y,u,rfl,e⟩
   ·exact nomatch e
   ·injection e with e1 _;rw[e1]
 byValue:=fun k v h=>by
  rcases a3k h with⟨i,t,rfl,rfl⟩|⟨x,t,rfl,rfl⟩ <;> rfl
 pyHash:=fun hv h=>by
  rcases a3k hv with⟨i,t,rfl,rfl⟩|⟨x,t,rfl,rfl⟩
  ·exact wpAny_pyHash_int h
  ·exact wpAny_pyHash_str h
 eqBool:=fun hu hv h=>by
  rcases a3k hu with⟨i,t,rfl,rfl⟩|⟨x,t,rfl,rfl⟩
  ·rcases a3k hv with⟨j,u,rfl,rfl⟩|⟨y,u,rfl,rfl⟩
   ·rw[e2e] at h;exact wpAny_eqBool_int h
   ·rw[e2g] at h;exact SeqAt.EqAt.int_str i t y u _ _ _ _ h
  ·rcases a3k hv with⟨j,u,rfl,rfl⟩|⟨y,u,rfl,rfl⟩
   ·rw[e2h] at h;exact SeqAt.EqAt.str_int x t j u _ _ _ _ h
   ·rw[e2f] at h;exact wpAny_eqBool_str h
 «strs»:=fun k x t v h=>by
  rcases a3k h with⟨i,u,rfl,e⟩|⟨y,u,rfl,e⟩
  ·exact nomatch e
  ·injection e with e1 _;subst e1;cases v <;> rfl
inductive V where
 |non|bl (b:Bool)|int (i:Int)|str (x:Str)|byt (b:Array UInt8)|flt (b:UInt64)|ref (a:Addr)|ty (n:String)
 deriving DecidableEq
def RelV:V->Value->Prop
 |.non,u=>u=Value.none
 |.bl b,u=>u=Value.bool b
 |.int i,u=>∃t,u=Value.int i t
 |.str x,u=>∃t,u=Value.str x t
 |.byt b,u=>∃t,u=Value.bytes b t
 |.flt b,u=>∃t,u=Value.float b t
 |.ref a,u=>u=Value.ref a
 |.ty n,u=>u=Value.type n
abbrev Vals:List V->List Value->Prop:=Paired RelV
theorem Vals.length{xs:List V}{us:List Value}(r:Vals xs us):xs.length=us.length:=Paired.length r
theorem Vals.get:∀{xs:List V} {us:List Value} {i:Nat} {x:V},Vals xs us->xs[i]?=some x->∃u,us[i]?=some u/\RelV x u
 |_,_,_,_,.nil,e=>by simp at e
 |_,_,0,_,.cons r _,e=>by simp at e;subst e;exact⟨_,rfl,r⟩
 |_,_,i+1,x,.cons _ t,e=>by
  obtain⟨u,h1,h2⟩:=Vals.get (i:=i) (x:=x) t (by simpa using e)
  exact⟨u,by simpa using h1,h2⟩
theorem Vals.set{x:V}{u:Value}(r:RelV x u):∀{xs:List V} {us:List Value} (i:Nat),Vals xs us->Vals (xs.set i x) (us.set i u)
 |_,_,_,.nil=>.nil
 |_,_,0,.cons _ t=>.cons r t
 |_,_,i+1,.cons q t=>.cons q (Vals.set r i t)
theorem Vals.append{xs ys:List V}{us ws:List Value}(h:Vals xs us)(s:Vals ys ws):Vals (xs++ys) (us++ws):=by
 induction h with
 |nil=>exact s
 |cons r t ih=>exact .cons r ih
theorem Vals.take:∀{xs:List V} {us:List Value} (n:Nat),Vals xs us->Vals (xs.take n) (us.take n)
 |_,_,0,_=>.nil
 |_,_,_+1,.nil=>.nil
 |_,_,n+1,.cons r t=>.cons r (Vals.take n t)
theorem Vals.drop:∀{xs:List V} {us:List Value} (n:Nat),Vals xs us->Vals (xs.drop n) (us.drop n)
 |_,_,0,r=>r
 |_,_,_+1,.nil=>.nil
 |_,_,n+1,.cons _ t=>Vals.drop n t
def RelO:Option V->Option Value->Prop
 |some v,some u=>RelV v u
 |none,none=>True
 |_,_=>False
def KV{κ:Type}:List (κ×V)->List (κ×Value)->Prop:=Paired fun(p:κ×V) (q:κ×Value)=>p.1=q.1/\RelV p.2 q.2
def kV:Key->V
 |.inl i=>.int i
 |.inr x=>.str x
inductive TK where
 |inl (i:Int)|inr (x:Str)|tp (l:List TK)
mutual
def TK.beq:TK->TK->Bool
 |.inl a,.inl b=>decide (a=b)
 |.inr a,.inr b=>decide (a=b)
 |.tp l,.tp m=>TK.beqL l m
 |_,_=>false
def TK.beqL:List TK->List TK->Bool
 |[],[]=>true
 |a::l,b::m=>TK.beq a b && TK.beqL l m
 |_,_=>false
end
mutual
theorem TK.beq_iff:∀a b:TK,TK.beq a b=true↔a=b
 |.inl a,.inl b=>by unfold TK.beq;rw[decide_eq_true_eq];exact⟨fun e=>by rw[e],fun e=>by cases e;rfl⟩
 |.inr a,.inr b=>by unfold TK.beq;rw[decide_eq_true_eq];exact⟨fun e=>by rw[e],fun e=>by cases e;rfl⟩
 |.tp l,.tp m=>by unfold TK.beq;rw[TK.beqL_iff l m];exact⟨fun e=>by rw[e],fun e=>by cases e;rfl⟩
 |.inl _,.inr _=>by unfold TK.beq;exact⟨fun e=>(nomatch e),fun e=>(nomatch e)⟩
 |.inl _,.tp _=>by unfold TK.beq;exact⟨fun e=>(nomatch e),fun e=>(nomatch e)⟩
 |.inr _,.inl _=>by unfold TK.beq;exact⟨fun e=>(nomatch e),fun e=>(nomatch e)⟩
 |.inr _,.tp _=>by unfold TK.beq;exact⟨fun e=>(nomatch e),fun e=>(nomatch e)⟩
 |.tp _,.inl _=>by unfold TK.beq;exact⟨fun e=>(nomatch e),fun e=>(nomatch e)⟩
 |.tp _,.inr _=>by unfold TK.beq;exact⟨fun e=>(nomatch e),fun e=>(nomatch e)⟩
theorem TK.beqL_iff:∀l m:List TK,TK.beqL l m=true↔l=m
 |[],[]=>by unfold TK.beqL;exact⟨fun _=>rfl,fun _=>rfl⟩
 |a::l,b::m=>by unfold TK.beqL;rw[Bool.and_eq_true,TK.beq_iff a b,TK.beqL_iff l m];exact⟨fun e=>by rw[e.1,e.2],fun e=>by cases e;exact⟨rfl,rfl⟩⟩
 |[],_::_=>by unfold TK.beqL;exact⟨fun e=>(nomatch e),fun e=>(nomatch e)⟩
 |_::_,[]=>by unfold TK.beqL;exact⟨fun e=>(nomatch e),fun e=>(nomatch e)⟩
end
instance:DecidableEq TK:=fun a b=>decidable_of_iff _ (TK.beq_iff a b)
mutual
def TK.hash(w:World):TK->Int
 |.inl i=>hashInt i
 |.inr x=>hashStr w x
 |.tp l=>reduceHash (Builtin.Tuple.tupleHashOf (TK.hashL w l))
def TK.hashL(w:World):List TK->List Int
 |[]=>[]
 |a::l=>TK.hash w a::TK.hashL w l
end
def TK.ok:Nat->TK->Bool
 |n+1,.tp l=>l.all (TK.ok n)
 |0,.tp _=>false
 |_,_=>true
def EntG(w:World)(e:TK×V×V)(x:DictEntry):Prop:=x.hash=e.1.hash w/\RelV e.2.1 x.key/\RelV e.2.2 x.val/\e.1.ok 8=true
inductive HO where
  |lst (xs:List V)
  |tup (xs:List V)
  |dK (kvs:List (Key×V))|dT (kvs:List (List Key×V))
  |dG (es:List (TK×V×V)) (ep:Nat)
  |set (S:Int->Bool) (n:Nat)
  |ins (C dx:Addr) (fs:List (Str×V))
  |own (x:Addr)
  |xd (fs:List (Str×V))
  |met (f x:Addr)
  |rng (lo hi:Int)
  |frz (o:Obj) (u:HO)
  |tbl (ps:Array Value)
  |ext (φ:Heap->Prop)
abbrev Hp:=Addr->Option HO
noncomputable def upd(H:Hp)(a:Addr)(o:HO):Hp:=fun b=>if b=a then some o else H b
theorem a2d{H:Hp}{a:Addr}{o:HO}:upd H a o a=some o:=by unfold upd;rw[if_pos rfl]
theorem a0v{H:Hp}{a b:Addr}{o:HO}(h:b≠a):upd H a o b=H b:=by unfold upd;rw[if_neg h]
theorem a1q{H:Hp}{a b:Addr}{o:HO}(h:H a=some o)(h':H b=none):a≠b:=by
 intro e;subst e;rw[h] at h';cases h'
section
variable (P:Program) (w:World)
def ObjOk(H:Hp)(h:Heap)(a:Addr):HO->Prop
 |.lst xs=>xs.length<=sizeLine/\∃(its:List Value) (n:Nat),Vals xs its/\h.get? a=some { cls:=.type "list",data:=.seq its.toArray n}
 |.tup xs=>xs.length<=sizeLine/\∃its:List Value,Vals xs its/\IsTup h a its.toArray
 |.dK kvs=>kvs.length<=sizeLine/\(a == sysModules)=false/\∃vs,KV kvs vs/\h.DictOf (c3g P w) a vs
 |.dT kvs=>kvs.length<=sizeLine/\(a == sysModules)=false/\∃xs:List (List Key×Addr×Value),
   Paired (fun(p:List Key×V) (q:List Key×Addr×Value)=>p.1=q.1/\H q.2.1=some (.tup (p.1.map kV))/\RelV p.2 q.2.2) kvs xs/\
   ∃o es ep,h.get? a=some o/\o.ExactDict/\o.data=.dict es ep/\es.toList=xs.map (entryOfKey (tupleKind (c3g P w)))/\(xs.map (·.1)).Nodup
 |.dG es ep=>es.length<=sizeLine/\(a == sysModules)=false/\∃o xs,h.get? a=some o/\o.ExactDict/\o.data=.dict xs ep/\Paired (EntG w) es xs.toList/\(es.map (·.1)).Nodup
 |.set S n=>h.SetOf (intKind P w) a S n
 |.ins C dx fs=>H dx=some (.own a)/\fs.length<=1000/\dx≠a/\h.get? a=some (PySem.W.instObj C dx)/\
   ∃mA,h.Ns1 dx mA/\(∀f,RelO (fs.lookup f) (mA f))/\PySem.Within mA (fs.map (·.1))
 |.own _=>∃o,h.get? a=some o
 |.xd fs=>∃mA,h.Ns1 a mA/\∀f,RelO (fs.lookup f) (mA f)
 |.rng lo hi=>∃t u v,h.get? a=some { cls:=.type "range",data:=.fields #[.int lo t,.int hi u,.int 1 v]}
 |.frz o u=>h.get? a=some o/\ObjOk H h a u
 |.tbl ps=>h.get? a=some { cls:=.none,data:=.fields ps}
 |.met f x=>h.get? a=some (PySem.W.methodObj (.ref f) (.ref x))
 |.ext φ=>φ h/\(∃o,h.get? a=some o)/\∀h1 h2:Heap,φ h1->(∀o,h1.get? a=some o->h2.get? a=some o)->φ h2
def HOk(H:Hp)(h:Heap):Prop:=∀a o,H a=some o->ObjOk P w H h a o
end
section
variable {P:Program} {w:World} {H H':Hp} {h h':Heap} {a:Addr} {o:HO}
theorem ObjOk.lt(x:ObjOk P w H h a o):a < h.objs.size:=by
 cases o with
 |lst xs=>obtain⟨_,_,_,_,e⟩:=x;exact Heap.lt_size e
 |tup xs=>obtain⟨_,_,_,p⟩:=x;exact p.lt
 |dK kvs=>obtain⟨_,_,_,_,o,_,_,e,_⟩:=x;exact Heap.lt_size e
 |dT kvs=>obtain⟨_,_,_,_,o,_,_,e,_⟩:=x;exact Heap.lt_size e
 |dG es ep=>obtain⟨_,_,o,_,e,_⟩:=x;exact Heap.lt_size e
 |set S n=>obtain⟨o,_,_,_,e,_⟩:=x;exact Heap.lt_size e
 |ins C dx fs=>obtain⟨_,_,_,e,_⟩:=x;exact Heap.lt_size e
 |own y=>obtain⟨_,e⟩:=x;exact Heap.lt_size e
 |xd fs=>obtain⟨_,⟨_,_,_,e,_⟩,_⟩:=x;exact Heap.lt_size e
 |rng lo hi=>obtain⟨_,_,_,e⟩:=x;exact Heap.lt_size e
 |frz ob u=>obtain⟨e,_⟩:=x;exact Heap.lt_size e
 |tbl ps=>exact Heap.lt_size (show h.get? a=some _ from x)
 |met f y=>exact Heap.lt_size (show h.get? a=some _ from x)
 |ext φ=>obtain⟨_,⟨_,e⟩,_⟩:=x;exact Heap.lt_size e
theorem Paired.mapP{α β:Type}{F G:α->β->Prop}{l₁:List α}{l₂:List β}(h:Paired F l₁ l₂)(f:∀a b,F a b->G a b):Paired G l₁ l₂:=by
 induction h with
 |nil=>exact .nil
 |cons r t ih=>exact .cons (f _ _ r) ih
theorem ObjOk.stay(x:ObjOk P w H h a o)(k:∀b u,(b=a\/H b=some (.own a))->h.get? b=some u->h'.get? b=some u)
  (ho:∀b,H b=some (.own a)->H' b=some (.own a)) (ht:∀b xs,H b=some (.tup xs)->H' b=some (.tup xs)):ObjOk P w H' h' a o:=by
 induction o with
 |lst xs=>obtain⟨z,its,n,r,e⟩:=x;exact⟨z,its,n,r,k _ _ (.inl rfl) e⟩
 |tup xs=>obtain⟨z,its,r,ob,e,c⟩:=x;exact⟨z,its,r,ob,k _ _ (.inl rfl) e,c⟩
 |dK kvs=>obtain⟨z,y,vs,r,ob,es,ep,e,c⟩:=x;exact⟨z,y,vs,r,ob,es,ep,k _ _ (.inl rfl) e,c⟩
 |dT kvs=>
  obtain⟨z,y,xs,r,ob,es,ep,e,c⟩:=x;exact⟨z,y,xs,Paired.mapP r fun p q z=>⟨z.1,ht _ _ z.2.1,z.2.2⟩,ob,es,ep,k _ _ (.inl rfl) e,c⟩
 |dG es ep=>obtain⟨z,y,ob,xs,e,c⟩:=x;exact⟨z,y,ob,xs,k _ _ (.inl rfl) e,c⟩
 |set S n=>obtain⟨ob,es,ep,t,e,c⟩:=x;exact⟨ob,es,ep,t,k _ _ (.inl rfl) e,c⟩
 |ins C dx fs=>
  obtain⟨d,z,ne,e,mA,⟨od,es,ep,e2,c⟩,r⟩:=x;exact⟨ho _ d,z,ne,k _ _ (.inl rfl) e,mA,⟨od,es,ep,k _ _ (.inr d) e2,c⟩,r⟩
 |own y=>obtain⟨ob,e⟩:=x;exact⟨ob,k _ _ (.inl rfl) e⟩
 |xd fs=>obtain⟨mA,⟨od,es,ep,e,c⟩,r⟩:=x;exact⟨mA,⟨od,es,ep,k _ _ (.inl rfl) e,c⟩,r⟩
 |rng lo hi=>obtain⟨t,u,v,e⟩:=x;exact⟨t,u,v,k _ _ (.inl rfl) e⟩
 |frz ob u ih=>obtain⟨e,q⟩:=x;exact⟨k _ _ (.inl rfl) e,ih q⟩
 |tbl ps=>
  have e:h.get? a=some { cls:=.none,data:=.fields ps}:=x;show h'.get? a=some { cls:=.none,data:=.fields ps};exact k a _ (.inl rfl) e
 |met f y=>
  have e:h.get? a=some (PySem.W.methodObj (.ref f) (.ref y)):=x;show h'.get? a=some (PySem.W.methodObj (.ref f) (.ref y));exact k a _ (.inl rfl) e
 |ext φ=>obtain⟨p,⟨o,e⟩,st⟩:=x;exact⟨st _ _ p fun o q=>k _ _ (.inl rfl) q,⟨o,k _ _ (.inl rfl) e⟩,st⟩
theorem HOk.lt(x:HOk P w H h)(e:H a=some o):a < h.objs.size:=(x a o e).lt
theorem HOk.fresh(x:HOk P w H h)(e:h.objs.size<=a):H a=none:=by
 cases q:H a with
 |none=>rfl
 |some u=>exact absurd (Nat.lt_of_lt_of_le (x.lt q) e) (Nat.lt_irrefl _)
theorem HOk.kept(x:HOk P w H h)(k:∀b u,h.get? b=some u->h'.get? b=some u):HOk P w H h':=fun a o e=>
 (x a o e).stay (fun b u _ q=>k b u q) (fun _ q=>q) fun _ _ q=>q
theorem HOk.laid(x:HOk P w H h)(k:∀b u,h.get? b=some u->h'.get? b=some u)(hp:h.objs.size<=a)(new:ObjOk P w (upd H a o) h' a o):HOk P w (upd H a o) h':=fun b u e=>by
 have hn:=x.fresh hp;by_cases hb:b=a
 ·subst hb;rw[a2d] at e;cases e;exact new
 ·rw[a0v hb] at e;exact(x b u e).stay (fun c v _ q=>k c v q) (fun c q=>by rw[a0v (a1q q hn)];exact q) fun c xs q=>by rw[a0v (a1q q hn)];exact q
end
def Rd(H:Hp)(a:Addr)(u:HO):Prop:=H a=some u\/∃o,H a=some (.frz o u)
theorem Rd.ok{P:Program}{w:World}{H:Hp}{h:Heap}{a:Addr}{u:HO}(r:Rd H a u)(x:HOk P w H h):ObjOk P w H h a u:=by
 rcases r with r|⟨o,r⟩
 ·exact x a u r
 ·obtain⟨_,q⟩:=x a _ r;exact q
def Mut:Option HO->Prop
 |some (.lst _)=>True
 |some (.dK _)=>True
 |some (.dT _)=>True
 |some (.dG _ _)=>True
 |some (.set _ _)=>True
 |some (.ins _ _ _)=>True
 |some (.ext _)=>True
 |_=>False
section
variable {P:Program} {w:World} {H:Hp} {h h':Heap} {x e:Addr} {o':HO}
theorem HOk.write(ok:HOk P w H h)(mu:Mut (H x))(he:e=x\/H e=some (.own x))(k:∀b u,b≠e->h.get? b=some u->h'.get? b=some u)(heo:∃u,h'.get? e=some u)
  (new:ObjOk P w (upd H x o') h' x o'):HOk P w (upd H x o') h':=fun b u q=>by
 have nown:∀c y,H c=some (.own y)->c≠x:=fun c y r z=>by subst z;rw[r] at mu;exact mu
 have ntup:∀c xs,H c=some (.tup xs)->c≠x:=fun c xs r z=>by subst z;rw[r] at mu;exact mu
 by_cases hb:b=x
 ·subst hb;rw[a2d] at q;cases q;exact new
 ·rw[a0v hb] at q;by_cases hbe:b=e
  ·have q':H b=some (.own x):=by
    rcases he with z|z
    ·exact absurd (hbe.trans z) hb
    ·rw[hbe];exact z
   rw[q] at q';cases q';obtain⟨v,hv⟩:=heo;exact⟨v,by rw[hbe];exact hv⟩
  ·refine(ok b u q).stay (fun c v hc r=>k c v ?_ r) (fun c r=>by rw[a0v (nown c b r)];exact r) fun c xs r=>by rw[a0v (ntup c xs r)];exact r
   rcases hc with rfl|hc
   ·exact hbe
   ·rintro rfl;rcases he with z|z
    ·exact nown c b hc z
    ·rw[hc] at z;cases z;exact hb rfl
end
structure Un (fs ex:List Addr) (H H':Hp) (h h':Heap):Prop where
 keep:∀b o,h.get? b=some o->H b=none->b∉fs->b∉ex->h'.get? b=some o
 slot:∀b o,h.get? b=some o->H b=none->b∈fs->b∉ex->∃sl,h'.get? b=some { o with slots:=sl}
 free:∀b o,h.get? b=some o->H b=none->b∉ex->H' b=none
 there:∀b o,h.get? b=some o->b∉ex->∃o',h'.get? b=some o'
 tups:∀b xs,H b=some (.tup xs)->H' b=some (.tup xs)
 frzs:∀b o u,H b=some (.frz o u)->H' b=some (.frz o u)
 tbls:∀b ps,H b=some (.tbl ps)->∃more,H' b=some (.tbl (ps++more))
section
variable {fs fs' ex ex':List Addr} {H H1 H2:Hp} {h h1 h2 h':Heap} {a x e:Addr} {o:HO}
theorem Un.any(u:Un fs ex H H1 h h1){b:Addr}{ob:Obj}(q:h.get? b=some ob)(n:H b=none)(hx:b∉ex):∃sl,h1.get? b=some { ob with slots:=sl}:=by
 by_cases hb:b∈fs
 ·exact u.slot b ob q n hb hx
 ·exact⟨ob.slots,u.keep b ob q n hb hx⟩
theorem Un.kept(k:∀b u,h.get? b=some u->h'.get? b=some u):Un fs ex H H h h':=
 ⟨fun b ob q _ _ _=>k b ob q,fun b ob q _ _ _=>⟨ob.slots,k b ob q⟩,fun _ _ _ n _=>n,fun b ob q _=>⟨ob,k b ob q⟩,fun _ _ q=>q,fun _ _ _ q=>q,fun _ ps q=>⟨#[],by rw[q];simp⟩⟩
theorem Un.refl:Un fs ex H H h h:=Un.kept fun _ _ q=>q
theorem Un.laid(k:∀b u,h.get? b=some u->h'.get? b=some u)(hp:h.objs.size<=a)(hn:H a=none):Un fs ex H (upd H a o) h h' where
 keep:=fun b u q _ _ _=>k b u q
 slot:=fun b u q _ _ _=>⟨u.slots,k b u q⟩
 free:=fun b u q n _=>by rw[a0v (Nat.ne_of_lt (Nat.lt_of_lt_of_le (Heap.lt_size q) hp))];exact n
 there:=fun b u q _=>⟨u,k b u q⟩
 tups:=fun b xs q=>by rw[a0v (a1q q hn)];exact q
 frzs:=fun b u xs q=>by rw[a0v (a1q q hn)];exact q
 tbls:=fun b ps q=>⟨#[],by rw[a0v (a1q q hn),q];simp⟩
theorem Un.write(mu:Mut (H x))(he:e=x\/H e=some (.own x))(k:∀b u,b≠e->h.get? b=some u->h'.get? b=some u)(heo:∃u,h'.get? e=some u):Un fs ex H (upd H x o) h h':=by
 have hx:∀b,H b=none->b≠x:=fun b n z=>by subst z;rw[n] at mu;exact mu
 have hb:∀b,H b=none->b≠e:=fun b n z=>by
  subst z;rcases he with r|r
  ·exact hx b n r
  ·rw[n] at r;cases r
 have hm:∀b u,H b=some u->¬Mut (some u)->b≠x:=fun b u q nm z=>by subst z;rw[q] at mu;exact nm mu
 refine⟨fun b u q n _ _=>k b u (hb b n) q,fun b u q n _ _=>⟨u.slots,k b u (hb b n) q⟩,fun b u q n _=>by rw[a0v (hx b n)];exact n,fun b u q _=>?_,
  fun b xs q=>by rw[a0v (hm b _ q fun z=>z)];exact q,fun b u xs q=>by rw[a0v (hm b _ q fun z=>z)];exact q,fun b ps q=>⟨#[],by rw[a0v (hm b _ q fun z=>z),q];simp⟩⟩
 by_cases hbe:b=e
 ·subst hbe;exact heo
 ·exact⟨u,k b u hbe q⟩
end
def trk(h:Heap)(H:Hp):List Addr:=(List.range h.objs.size).filter fun a=>(H a).isSome
def hidT(h:Heap)(H:Hp):Heap:=PySem.W.hideAll h (trk h H)
theorem c8v(h:Heap)(H:Hp):(hidT h H).objs.size=h.objs.size:=PySem.W.hideAll_size _ _
theorem d4s{h:Heap}{H:Hp}{b:Addr}{o:Obj}(e:h.get? b=some o)(n:H b=none):(hidT h H).get? b=some o:=
 PySem.W.hideAll_get _ e fun hm=>by
  have q:(H b).isSome=true:=(List.mem_filter.mp hm).2;rw[n] at q;simp at q
theorem d8x{h:Heap}{H:Hp}{b:Addr}{o:Obj}(e:(hidT h H).get? b=some o):h.get? b=some o/\H b=none:=by
 have e':h.get? b=some o:=PySem.W.of_hideAll (trk h H) e;refine⟨e',?_⟩;cases q:H b with
 |none=>rfl
 |some x=>
  have hm:b∈trk h H:=List.mem_filter.mpr ⟨List.mem_range.mpr (Heap.lt_size e'),by simp[q]⟩
  have z:(hidT h H).get? b=none:=PySem.W.hideAll_none (trk h H) hm;rw[z] at e;cases e
def d8y(g h:Heap)(L:Addr):List (Addr×Obj):=(List.range h.objs.size).filterMap fun a=>if a=L\/(g.get? a).isSome=true then none else(h.get? a).map fun o=>(a,o)
def rest(g h:Heap)(L d:Addr):List (Addr×Obj):=(d8y g h L).filter fun p=>decide (p.1≠d)
structure Mod (K:L2.FG) (mg:Str->Option Value) (base:Heap):Prop where
 kin:K.In base
 glob:base.Ns mainGlobals mg
 blt:∃mb,base.Ns builtinsNs mb/\∀x:Str,x≠"__name__"->mb x=bootBuiltins x
 nolimit:base.NoLimit
set_option genInjectivity false in
structure Cx where
 prog:Program
 w:World
 K:L2.FG
 mg:Str->Option Value
 base:Heap
 A:Around
 N:List Str
 s₀:Shared
 H₀:Hp
 env:Env
 outer:List Env
 stack:List Env
 ex:List Addr
 fn:Str->Bool
 calm:Bool
 pn:List (Addr×Obj)
 xe:Value->Shared->Prop
def frs(l:List Env):List Addr:=l.filterMap (·.frame)
abbrev Cx.fs(X:Cx):List Addr:=frs X.outer
def Vis(sc:Scope)(x:Str):Prop:=sc.names.lookup x=some .local \/ sc.names.lookup x=some .cell\/sc.names.lookup x=some .free
def Loc(sc:Scope)(x:Str):Prop:=sc.names.lookup x=some .local \/ sc.names.lookup x=some .cell
def Look(env:Env)(h:Heap)(m:Str->Option Value)(x:Str)(u:Value):Prop:=
 (env.kindOf x=some .local /\ m x=some u)\/((env.kindOf x=some .cell\/env.kindOf x=some .free)/\∃c,env.cells.lookup x=some c/\h.IsCell c (some u))
structure Cx.Ok (X:Cx):Prop where
 mod:Mod X.K X.mg X.base
 kind:X.env.scope.kind=.function
 glob:X.env.globals=mainGlobals
 blt:X.env.builtins=builtinsNs
 above:X.s₀.heap.objs.size<=X.env.locals
 inj:∀x y c,X.env.cells.lookup x=some c->X.env.cells.lookup y=some c->x=y
 has:∀x,(X.env.kindOf x=some .cell\/X.env.kindOf x=some .free)->∃c,X.env.cells.lookup x=some c
 cab:∀x c,X.fn x=true->X.env.cells.lookup x=some c->X.s₀.heap.objs.size<=c
 hd:X.calm=true->X.A.handled=none
 frames:X.A.frames=some X.stack
 stk:X.stack=X.outer\/(X.stack=X.env::X.outer/\X.env.frame=some X.env.locals)
 exf:∀b∈X.ex,b≠X.env.locals/\∀x c,X.env.cells.lookup x=some c->c≠b
 bs:∀b o,X.base.get? b=some o->X.s₀.heap.get? b=some o/\X.H₀ b=none
 bsz:X.base.objs.size<=X.s₀.heap.objs.size
 noex:∀b o,X.base.get? b=some o->b∉X.ex
 exfs:∀b∈X.ex,b∉X.fs
 funs:X.s₀.heap.FunFrames X.base X.outer
 frf:∀b∈X.fs,X.H₀ b=none
structure Inv (X:Cx) (pins:List (Addr×Obj)) (σ:List (Option V)) (H:Hp) (s:Shared):Prop where
 ok:X.Ok
 os:s.os=X.s₀.os
 bare:AllBare s.gens
 base:Un X.fs X.ex X.H₀ H X.s₀.heap s.heap
 loc:∃m,s.heap.Ns X.env.locals m/\∀(i:Nat) (x:Str) (v:V),X.N[i]?=some x->σ[i]?=some (some v)->Vis X.env.scope x->∃u,RelV v u/\Look X.env s.heap m x u
 cell:∀x c,X.env.cells.lookup x=some c->∃v,s.heap.IsCell c v
 free:H X.env.locals=none
 freeC:∀x c,X.env.cells.lookup x=some c->H c=none
 pin:∀p∈X.pn++pins,s.heap.get? p.1=some p.2/\H p.1=none/\p.1≠X.env.locals/\p.1∉X.fs/\∀v,p.2.data≠.cell v
 hok:HOk X.prog X.w H s.heap
 len:σ.length=X.N.length
section
variable {X:Cx} {pins:List (Addr×Obj)} {σ:List (Option V)} {H H':Hp} {s:Shared} {h':Heap}
theorem Cx.Ok.nofr(ok:X.Ok){b:Addr}{o:Obj}(e:X.base.get? b=some o):b∉X.fs:=fun hb=>by
 have:=(ok.funs.mem hb).1;rw[e] at this;cases this
theorem Inv.bs(I:Inv X pins σ H s):∀b o,X.base.get? b=some o->s.heap.get? b=some o/\H b=none:=fun b o e=>
 ⟨I.base.keep b o (I.ok.bs b o e).1 (I.ok.bs b o e).2 (I.ok.nofr e) (I.ok.noex b o e),I.base.free b o (I.ok.bs b o e).1 (I.ok.bs b o e).2 (I.ok.noex b o e)⟩
theorem Inv.bk(I:Inv X pins σ H s):∀b o,X.base.get? b=some o->s.heap.get? b=some o:=fun b o e=>(I.bs b o e).1
theorem Inv.mod(I:Inv X pins σ H s):Mod X.K X.mg X.base:=I.ok.mod
theorem Inv.kIn(I:Inv X pins σ H s):X.K.In s.heap:=I.ok.mod.kin.keeps I.bk
theorem Inv.lt(I:Inv X pins σ H s):X.env.locals < s.heap.objs.size:=let ⟨_,hn,_⟩:=I.loc;hn.lt
theorem Inv.sz(I:Inv X pins σ H s):X.s₀.heap.objs.size<=s.heap.objs.size:=Nat.le_trans I.ok.above (Nat.le_of_lt I.lt)
theorem Inv.nofs(I:Inv X pins σ H s){a:Addr}(h:s.heap.objs.size<=a):a∉X.fs:=fun hb=>by
 obtain⟨_,o,ho,_⟩:=I.ok.funs.mem hb;exact absurd (Nat.lt_of_lt_of_le (Heap.lt_size ho) (Nat.le_trans I.sz h)) (Nat.lt_irrefl _)
theorem Inv.cne(I:Inv X pins σ H s):∀x c,X.env.cells.lookup x=some c->c≠X.env.locals:=fun x c e z=>by
 obtain⟨v,o,ho,hd⟩:=I.cell x c e;obtain⟨m,⟨o',es,ep,ho',hd',_⟩,_⟩:=I.loc;rw[z,ho'] at ho;cases ho;rw[hd'] at hd;cases hd
theorem Inv.funs(I:Inv X pins σ H s):s.heap.FunFrames X.base X.outer:=by
 have all:∀(l:List Env),(∀b∈frs l,b∈X.fs)->X.s₀.heap.FunFrames X.base l->s.heap.FunFrames X.base l:=by
  intro l
  induction l with
  |nil=>intro _ _;trivial
  |cons env r ih=>
   intro hs hl;obtain⟨hk,⟨L,o,hf,hn,ho,hd⟩,hr⟩:=hl;have hL:L∈X.fs:=hs L (by unfold frs;rw[List.filterMap_cons,hf];exact List.mem_cons_self)
   obtain⟨sl,e⟩:=I.base.slot L o ho (I.ok.frf L hL) hL fun z=>I.ok.exfs L z hL
   exact⟨hk,⟨L,_,hf,hn,e,hd⟩,ih (fun b hb=>hs b (by unfold frs;rw[List.filterMap_cons,hf];exact List.mem_cons_of_mem _ hb)) hr⟩
 exact all X.outer (fun _ hb=>hb) I.ok.funs
theorem Inv.stack(I:Inv X pins σ H s):s.heap.FunFrames X.base X.stack:=by
 rcases I.ok.stk with e|⟨e,hf⟩
 ·rw[e];exact I.funs
 ·rw[e];obtain⟨m,hn,_⟩:=I.loc;refine .cons (by rw[I.ok.kind];decide) hf hn ?_ I.funs
  exact Heap.get?_none_of_le (Nat.le_trans I.ok.bsz I.ok.above)
theorem Inv.stkSub(I:Inv X pins σ H s):∀b∈frs X.stack,b∈X.env.locals::X.fs:=fun b hb=>by
 rcases I.ok.stk with e|⟨e,hf⟩
 ·rw[e] at hb;exact List.mem_cons_of_mem _ hb
 ·rw[e] at hb;unfold frs at hb;rw[List.filterMap_cons,hf] at hb;exact hb
theorem Inv.stkFree(I:Inv X pins σ H s):∀b∈frs X.stack,H b=none:=fun b hb=>by
 rcases List.mem_cons.mp (I.stkSub b hb) with e|hb
 ·rw[e];exact I.free
 ·obtain⟨_,o,ho,_⟩:=I.ok.funs.mem hb;exact I.base.free b o ho (I.ok.frf b hb) fun z=>I.ok.exfs b z hb
theorem Inv.step{g':Array GenState}{t':Nat}{d':Drawn}{ch:List Addr}(I:Inv X pins σ H s)
  (hch:∀b∈ch,(b∈X.ex\/X.s₀.heap.objs.size<=b)/\b≠X.env.locals/\(∀x c,X.env.cells.lookup x=some c->c≠b)/\∀p∈X.pn++pins,p.1≠b)
  (keep:∀b o,b≠X.env.locals->b∉X.fs->b∉ch->s.heap.get? b=some o->H b=none->h'.get? b=some o)
  (slot:∀b o,b≠X.env.locals->b∈X.fs->b∉ch->s.heap.get? b=some o->H b=none->∃sl,h'.get? b=some { o with slots:=sl}) (free:∀b o,b∉ch->s.heap.get? b=some o->H b=none->H' b=none)
  (there:∀b o,b∉ch->s.heap.get? b=some o->∃o',h'.get? b=some o')
  (tups:∀b xs,H b=some (.tup xs)->H' b=some (.tup xs)) (frzs:∀b o u,H b=some (.frz o u)->H' b=some (.frz o u)) (tbls:∀b ps,H b=some (.tbl ps)->∃more,H' b=some (.tbl (ps++more)))
  (ns:∀m,s.heap.Ns X.env.locals m->h'.Ns X.env.locals m) (hok:HOk X.prog X.w H' h') (hg:AllBare g') :
  Inv X pins σ H' { s with heap:=h',gens:=g',drawn:=d',toks:=t'}:=by
 have neL:∀b o,X.s₀.heap.get? b=some o->b≠X.env.locals:=fun b o e=>Nat.ne_of_lt (Nat.lt_of_lt_of_le (Heap.lt_size e) I.ok.above)
 have neC:∀b o,X.s₀.heap.get? b=some o->b∉X.ex->b∉ch:=fun b o e hx hb=>by
  rcases(hch b hb).1 with z|z
  ·exact hx z
  ·exact absurd (Nat.lt_of_lt_of_le (Heap.lt_size e) z) (Nat.lt_irrefl _)
 have cellK:∀x c,X.env.cells.lookup x=some c->∀v,s.heap.IsCell c v->h'.IsCell c v:=fun x c e v ⟨o,ho,hd⟩=>by
  have nch:c∉ch:=fun z=>(hch c z).2.2.1 x c e rfl
  by_cases hc:c∈X.fs
  ·obtain⟨sl,q⟩:=slot c o (I.cne x c e) hc nch ho (I.freeC x c e);exact⟨_,q,hd⟩
  ·exact⟨o,keep c o (I.cne x c e) hc nch ho (I.freeC x c e),hd⟩
 refine⟨I.ok,I.os,hg,⟨fun b o e n hb hx=>?_,fun b o e n hb hx=>?_,fun b o e n hx=>?_,fun b o e hx=>?_,fun b xs e=>tups b xs (I.base.tups b xs e),fun b o xs e=>frzs b o xs (I.base.frzs b o xs e),fun b ps e=>?_⟩,?_,fun x c e=>?_,?_,fun x c e=>?_,fun p hp=>?_,hok,I.len⟩
 ·exact keep b o (neL b o e) hb (neC b o e hx) (I.base.keep b o e n hb hx) (I.base.free b o e n hx)
 ·obtain⟨sl,e1⟩:=I.base.slot b o e n hb hx;obtain⟨sl',e2⟩:=slot b _ (neL b o e) hb (neC b o e hx) e1 (I.base.free b o e n hx);exact⟨sl',e2⟩
 ·obtain⟨o',e1⟩:=I.base.there b o e hx;exact free b o' (neC b o e hx) e1 (I.base.free b o e n hx)
 ·obtain⟨o',e1⟩:=I.base.there b o e hx;exact there b o' (neC b o e hx) e1
 ·obtain⟨m1,e1⟩:=I.base.tbls b ps e;obtain⟨m2,e2⟩:=tbls b _ e1;exact⟨m1++m2,by rw[e2,Array.append_assoc]⟩
 ·obtain⟨m,hn,hl⟩:=I.loc;refine⟨m,ns m hn,fun i x v e1 e2 e3=>?_⟩
  obtain⟨u,r,l⟩:=hl i x v e1 e2 e3;refine⟨u,r,?_⟩;rcases l with l|⟨k,c,e,z⟩
  ·exact .inl l
  ·exact .inr ⟨k,c,e,cellK x c e _ z⟩
 ·obtain⟨v,z⟩:=I.cell x c e;exact⟨v,cellK x c e v z⟩
 ·obtain⟨m,⟨o,_,_,ho,_⟩,_⟩:=I.loc;exact free _ o (fun z=>(hch _ z).2.1 rfl) ho I.free
 ·obtain⟨v,o,ho,hd⟩:=I.cell x c e;exact free c o (fun z=>(hch c z).2.2.1 x c e rfl) ho (I.freeC x c e)
 ·obtain⟨e,n,ne,nf,d⟩:=I.pin p hp;have nch:p.1∉ch:=fun z=>(hch p.1 z).2.2.2 p hp rfl
  exact⟨keep p.1 p.2 ne nf nch e n,free p.1 p.2 nch e n,ne,nf,d⟩
theorem Inv.un{t':Nat}(I:Inv X pins σ H s)(u:Un X.fs [] H H' s.heap h')(hok:HOk X.prog X.w H' h'):Inv X pins σ H' { s with heap:=h',toks:=t'}:=by
 obtain⟨m,⟨o,es,ep,ho,r⟩,_⟩:=id I.loc;obtain⟨sl,hL⟩:=u.any ho I.free (by simp)
 exact I.step (g':=s.gens) (d':=s.drawn) (ch:=[]) (fun _ z=>nomatch z) (fun b o _ hb _ e n=>u.keep b o e n hb (by simp)) (fun b o _ hb _ e n=>u.slot b o e n hb (by simp)) (fun b o _ e n=>u.free b o e n (by simp)) (fun b o _ e=>u.there b o e (by simp)) u.tups u.frzs u.tbls (fun m' hm=>by
  obtain⟨o',es',ep',ho',r'⟩:=hm;rw[ho] at ho';cases ho';exact⟨_,es',ep',hL,r'⟩) hok I.bare
theorem Inv.call{g':Array GenState}{t':Nat}{d':Drawn}{ch:List Addr}(I:Inv X pins σ H s)(u:Un (frs X.stack) ch H H' s.heap h')(hok:HOk X.prog X.w H' h')(hg:AllBare g')
  (hch:∀b∈ch,(b∈X.ex\/X.s₀.heap.objs.size<=b)/\b≠X.env.locals/\(∀x c,X.env.cells.lookup x=some c->c≠b)/\∀p∈X.pn++pins,p.1≠b) :
  Inv X pins σ H' { s with heap:=h',gens:=g',drawn:=d',toks:=t'}:=by
 obtain⟨m,⟨o,es,ep,ho,r⟩,_⟩:=id I.loc;obtain⟨sl,hL⟩:=u.any ho I.free fun z=>(hch _ z).2.1 rfl
 exact I.step (ch:=ch) hch (fun b o hL hb hc e n=>u.keep b o e n (fun z=>(List.mem_cons.mp (I.stkSub b z)).elim hL hb) hc) (fun b o _ _ hc e n=>u.any e n hc) (fun b o hc e n=>u.free b o e n hc) (fun b o hc e=>u.there b o e hc) u.tups u.frzs u.tbls (fun m' hm=>by
  obtain⟨o',es',ep',ho',r'⟩:=hm;rw[ho] at ho';cases ho';exact⟨_,es',ep',hL,r'⟩) hok hg
theorem Inv.turned{t':Nat}{it:Addr}(I:Inv X pins σ H s)(k:∀b o,b≠it->s.heap.get? b=some o->h'.get? b=some o)(hn:H it=none)(hL:it≠X.env.locals)
  (h1:it∈X.ex\/X.s₀.heap.objs.size<=it) (h2:∀x c,X.env.cells.lookup x=some c->c≠it) (h3:∀p∈X.pn++pins,p.1≠it):Inv X pins σ H { s with heap:=h',toks:=t'}:=by
 have nit:∀b u,H b=some u->b≠it:=fun b u e z=>by rw[z,hn] at e;cases e
 refine I.step (g':=s.gens) (d':=s.drawn) (ch:=[it]) (fun b hb=>?_) (fun b o _ _ hc e _=>k b o (fun z=>hc (by simp[z])) e) (fun b o _ _ hc e _=>⟨o.slots,k b o (fun z=>hc (by simp[z])) e⟩) (fun _ _ _ _ n=>n)
  (fun b o hc e=>⟨o,k b o (fun z=>hc (by simp[z])) e⟩) (fun _ _ e=>e) (fun _ _ _ e=>e) (fun b ps e=>⟨#[],by rw[e];simp⟩) (fun m hm=>?_) (fun b u e=>?_) I.bare
 ·have e:b=it:=by simpa using hb
  subst e;exact⟨h1,hL,h2,h3⟩
 ·obtain⟨o,es,ep,ho,r⟩:=hm;exact⟨o,es,ep,k _ o (Ne.symm hL) ho,r⟩
 ·refine(I.hok b u e).stay (fun c v hc q=>k c v ?_ q) (fun _ q=>q) fun _ _ q=>q
  rcases hc with z|z
  ·rw[z];exact nit b u e
  ·exact nit c _ z
theorem Inv.tok(I:Inv X pins σ H s)(t:Nat):Inv X pins σ H { s with toks:=t}:=I.un (h':=s.heap) (t':=t) Un.refl I.hok
theorem Inv.kept{t':Nat}(I:Inv X pins σ H s)(k:∀b u,s.heap.get? b=some u->h'.get? b=some u):Inv X pins σ H { s with heap:=h',toks:=t'}:=I.un (Un.kept k) (I.hok.kept k)
theorem Inv.laid{a:Addr}{o:HO}{t':Nat}(I:Inv X pins σ H s)(k:∀b u,s.heap.get? b=some u->h'.get? b=some u)(hp:s.heap.objs.size<=a)(new:ObjOk X.prog X.w (upd H a o) h' a o):
  Inv X pins σ (upd H a o) { s with heap:=h',toks:=t'}:=I.un (Un.laid k hp (I.hok.fresh hp)) (I.hok.laid k hp new)
theorem Inv.write{x e:Addr}{o:HO}{t':Nat}(I:Inv X pins σ H s)(mu:Mut (H x))(he:e=x\/H e=some (.own x))(k:∀b u,b≠e->s.heap.get? b=some u->h'.get? b=some u)(heo:∃u,h'.get? e=some u)
  (new:ObjOk X.prog X.w (upd H x o) h' x o):Inv X pins σ (upd H x o) { s with heap:=h',toks:=t'}:=I.un (Un.write mu he k heo) (I.hok.write mu he k heo new)
theorem Inv.pins_of{pins':List (Addr×Obj)}(I:Inv X pins σ H s)(h:∀p∈pins',s.heap.get? p.1=some p.2/\H p.1=none/\p.1≠X.env.locals/\p.1∉X.fs/\∀v,p.2.data≠.cell v):Inv X pins' σ H s:=
 ⟨I.ok,I.os,I.bare,I.base,I.loc,I.cell,I.free,I.freeC,fun p hp=>(List.mem_append.mp hp).elim (fun z=>I.pin p (List.mem_append_left _ z)) (h p),I.hok,I.len⟩
theorem b8p{N:List Str}(hN:N.Nodup){i j:Nat}{x:Str}(a:N[i]?=some x)(b:N[j]?=some x):i=j:=by
 obtain⟨h1,e1⟩:=List.getElem?_eq_some_iff.mp a;obtain⟨h2,e2⟩:=List.getElem?_eq_some_iff.mp b;exact(List.getElem_inj hN).mp (e1.trans e2.symm)
theorem c0y{M:Model}{A:Around}{E:Value->Shared->Prop}{i:Nat}{x:Str}{v:V}{u:Value}{Q:Unit->Shared->Prop}(I:Inv X pins σ H s)(hN:X.N.Nodup)(hi:X.N[i]?=some x)(hx:Loc X.env.scope x)(r:RelV v u)
  (h:∀s',Inv X pins (σ.set i (some v)) H s'->(∃a,Heap.SameBut a s.heap s'.heap/\(a=X.env.locals\/X.env.cells.lookup x=some a))->Q () s') (hf:X.fn x=true\/X.env.scope.names.lookup x=some .local := by first|exact .inl rfl|exact .inr rfl|assumption):wpAny M A (storeName X.env x u) Q E s:=by
 obtain⟨m,hn,hl⟩:=id I.loc;have hcls:(X.env.scope.kind == .class || (X.env.scope.kind == .module && X.env.locals != X.env.globals))=false:=by rw[I.ok.kind];rfl
 have hiσ:i < σ.length:=by rw[I.len];exact(List.getElem?_eq_some_iff.mp hi).1
 have cne:=I.cne;have tracked:∀{a:Addr} {h':Heap},(∃o,s.heap.get? a=some o/\H a=none)->Heap.SameBut a s.heap h'->HOk X.prog X.w H h':=fun{a h'} ha hs b ob e=>by
  obtain⟨_,_,hfree⟩:=ha;refine(I.hok b ob e).stay (fun c w' hc q=>(hs.2 c ?_).trans q) (fun _ q=>q) fun _ _ q=>q
  rintro rfl;rcases hc with rfl|hc
  ·rw[hfree] at e;cases e
  ·rw[hfree] at hc;cases hc
 rcases hx with hk|hk
 ·refine wpAny_storeName_local hk hn (fun h' hn' hs=>?_) hcls
  obtain⟨oL,_,_,hoL,_⟩:=id hn;refine h _ ⟨I.ok,I.os,I.bare,⟨fun b o e n hb hx=>?_,fun b o e n hb hx=>?_,I.base.free,fun b o e hx=>?_,I.base.tups,I.base.frzs,I.base.tbls⟩,⟨_,hn',fun j y v' e1 e2 e3=>?_⟩,fun y c e=>?_,I.free,I.freeC,fun p hp=>?_,tracked ⟨oL,hoL,I.free⟩ hs,by simpa using I.len⟩ ⟨_,hs,.inl rfl⟩
  ·exact(hs.2 b (Nat.ne_of_lt (Nat.lt_of_lt_of_le (Heap.lt_size e) I.ok.above))).trans (I.base.keep b o e n hb hx)
  ·obtain⟨sl,e1⟩:=I.base.slot b o e n hb hx;exact⟨sl,(hs.2 b (Nat.ne_of_lt (Nat.lt_of_lt_of_le (Heap.lt_size e) I.ok.above))).trans e1⟩
  ·obtain⟨o',e1⟩:=I.base.there b o e hx;exact⟨o',(hs.2 b (Nat.ne_of_lt (Nat.lt_of_lt_of_le (Heap.lt_size e) I.ok.above))).trans e1⟩
  ·by_cases hj:j=i
   ·subst hj;rw[hi] at e1;cases e1;rw[List.getElem?_set_self hiσ] at e2;cases e2;exact⟨u,r,.inl ⟨hk,by simp⟩⟩
   ·rw[List.getElem?_set_ne (Ne.symm hj)] at e2;obtain⟨u',r',q⟩:=hl j y v' e1 e2 e3;refine⟨u',r',?_⟩;rcases q with⟨k,e⟩|⟨k,c,e,z⟩
    ·refine .inl ⟨k,?_⟩;have:y≠x:=fun e=>hj (b8p hN e1 (e ▸ hi))
     simp[this,e]
    ·exact .inr ⟨k,c,e,z.sameBut hs (cne y c e)⟩
  ·obtain⟨w',z⟩:=I.cell y c e;exact⟨w',z.sameBut hs (cne y c e)⟩
  ·obtain⟨e,n,ne,nf,d⟩:=I.pin p hp;exact⟨(hs.2 p.1 ne).trans e,n,ne,nf,d⟩
 ·have hfn:X.fn x=true:=by
   rcases hf with z|z
   ·exact z
   ·rw[z] at hk;cases hk
  obtain⟨c,hc⟩:=I.ok.has x (.inl hk);obtain⟨w',z⟩:=I.cell x c hc;refine wpAny_storeName_cell I.ok.kind hk hc z (fun h' hc' hs=>?_)
  obtain⟨oc,hoc,hocd⟩:=id z;refine h { s with heap:=h'} ⟨I.ok,I.os,I.bare,⟨fun b o e n hb hx=>?_,fun b o e n hb hx=>?_,I.base.free,fun b o e hx=>?_,I.base.tups,I.base.frzs,I.base.tbls⟩,⟨m,hn.sameBut hs (Ne.symm (cne x c hc)),fun j y v' e1 e2 e3=>?_⟩,fun y c' e=>?_,I.free,I.freeC,fun p hp=>?_,tracked ⟨oc,hoc,I.freeC x c hc⟩ hs,by simpa using I.len⟩ ⟨c,hs,.inr hc⟩
  ·exact(hs.2 b (Nat.ne_of_lt (Nat.lt_of_lt_of_le (Heap.lt_size e) (I.ok.cab x c hfn hc)))).trans (I.base.keep b o e n hb hx)
  ·obtain⟨sl,e1⟩:=I.base.slot b o e n hb hx;exact⟨sl,(hs.2 b (Nat.ne_of_lt (Nat.lt_of_lt_of_le (Heap.lt_size e) (I.ok.cab x c hfn hc)))).trans e1⟩
  ·obtain⟨o',e1⟩:=I.base.there b o e hx;exact⟨o',(hs.2 b (Nat.ne_of_lt (Nat.lt_of_lt_of_le (Heap.lt_size e) (I.ok.cab x c hfn hc)))).trans e1⟩
  ·by_cases hj:j=i
   ·subst hj;rw[hi] at e1;cases e1;rw[List.getElem?_set_self hiσ] at e2;cases e2;exact⟨u,r,.inr ⟨.inl hk,c,hc,hc'⟩⟩
   ·rw[List.getElem?_set_ne (Ne.symm hj)] at e2;obtain⟨u',r',q⟩:=hl j y v' e1 e2 e3;refine⟨u',r',?_⟩;rcases q with q|⟨k,c',e,z'⟩
    ·exact .inl q
    ·refine .inr ⟨k,c',e,z'.sameBut hs ?_⟩;rintro rfl;exact hj (b8p hN e1 (I.ok.inj _ _ _ e hc ▸ hi))
  ·by_cases hcc:c'=c
   ·subst hcc;exact⟨_,hc'⟩
   ·obtain⟨w2,z2⟩:=I.cell y c' e;exact⟨w2,z2.sameBut hs hcc⟩
  ·obtain⟨e,n,ne,nf,d⟩:=I.pin p hp;refine⟨(hs.2 p.1 ?_).trans e,n,ne,nf,d⟩;intro q;rw[q,hoc] at e;have q':oc=p.2:=Option.some.inj e;exact d w' (by rw[<-q'];exact hocd)
theorem c4x{M:Model}{A:Around}{E:Value->Shared->Prop}{i:Nat}{x:Str}{v:V}{u:Value}{Q:Unit->Shared->Prop}(I:Inv X pins σ H s)(hN:X.N.Nodup)(hi:X.N[i]?=some x)(hx:Loc X.env.scope x)(r:RelV v u)
  (h:∀s',Inv X pins (σ.set i (some v)) H s'->Q () s') (hf:X.fn x=true\/X.env.scope.names.lookup x=some .local := by first|exact .inl rfl|exact .inr rfl|assumption):wpAny M A (storeName X.env x u) Q E s:=
 c0y I hN hi hx r (fun s' I' _=>h s' I') hf
theorem Inv.call'{s':Shared}{ch:List Addr}(I:Inv X pins σ H s)(ho:s'.os=s.os)(u:Un (frs X.stack) ch H H' s.heap s'.heap)(hok:HOk X.prog X.w H' s'.heap)(hg:AllBare s'.gens)
  (hch:∀b∈ch,(b∈X.ex\/X.s₀.heap.objs.size<=b)/\b≠X.env.locals/\(∀x c,X.env.cells.lookup x=some c->c≠b)/\∀p∈X.pn++pins,p.1≠b):Inv X pins σ H' s':=by
 obtain⟨h',g',d',t',o'⟩:=s';have e:o'=s.os:=ho;subst e;exact I.call (g':=g') (t':=t') (d':=d') u hok hg hch
end
abbrev XK:=Value->Option Addr->Hp->Prop
abbrev St:=List (Option V)
abbrev VK:=V->Hp->Prop
abbrev TE:=St->Hp->VK->Prop
abbrev TT:=St->Hp->(Bool->Hp->Prop)->Prop
abbrev TA:=St->Hp->(List V->Hp->Prop)->Prop
set_option genInjectivity false in
structure Ends where
 nx:St->Hp->Prop
 rt:VK
 bk:St->Hp->Prop:=fun _ _=>False
 ct:St->Hp->Prop:=fun _ _=>False
abbrev TS:=Ends->St->Hp->Prop
def EP(X:Cx)(pins:List (Addr×Obj))(σ:St)(Q:VK)(u:Value)(s':Shared):Prop:=∃v H',Inv X pins σ H' s'/\RelV v u/\Q v H'
def TP(X:Cx)(pins:List (Addr×Obj))(σ:St)(Q:Bool->Hp->Prop)(b:Bool)(s':Shared):Prop:=∃H',Inv X pins σ H' s'/\Q b H'
def AP(X:Cx)(pins:List (Addr×Obj))(σ:St)(Q:List V->Hp->Prop)(us:List Value)(s':Shared):Prop:=∃vs H',Inv X pins σ H' s'/\Vals vs us/\Q vs H'
def SP(X:Cx)(pins:List (Addr×Obj))(D:Ends)(f:Flow)(s':Shared):Prop:=
 match f with
 |.next=>∃σ' H',Inv X pins σ' H' s'/\D.nx σ' H'
 |.brk=>∃σ' H',Inv X pins σ' H' s'/\D.bk σ' H'
 |.cont=>∃σ' H',Inv X pins σ' H' s'/\D.ct σ' H'
 |.ret u=>∃v σ' H',Inv X pins σ' H' s'/\RelV v u/\D.rt v H'
def PE(X:Cx)(e:Expr)(t:TE):Prop:=
 ∀(pins:List (Addr×Obj)) (s:Shared) (σ:St) (H:Hp) (Q:VK),Inv X pins σ H s->t σ H Q->wpAny (model X.prog X.w) X.A (eval e X.env) (EP X pins σ Q) X.xe s
def PT(X:Cx)(e:Expr)(t:TT):Prop:=
 ∀(pins:List (Addr×Obj)) (s:Shared) (σ:St) (H:Hp) (Q:Bool->Hp->Prop),Inv X pins σ H s->t σ H Q->wpAny (model X.prog X.w) X.A (isTrue e X.env (eval e X.env)) (TP X pins σ Q) X.xe s
def PW(X:Cx)(e:Expr)(t:TT):Prop:=
 ∀(whole:Sem Value) (pins:List (Addr×Obj)) (s:Shared) (σ:St) (H:Hp) (Q:Bool->Hp->Prop),Inv X pins σ H s->t σ H Q->wpAny (model X.prog X.w) X.A (isTrue e X.env whole) (TP X pins σ Q) X.xe s
theorem PW.pt{X:Cx}{e:Expr}{t:TT}(h:PW X e t):PT X e t:=h _
def PA(X:Cx)(es:List Expr)(t:TA):Prop:=
 ∀(pos:Pos) (pins:List (Addr×Obj)) (s:Shared) (σ:St) (H:Hp) (Q:List V->Hp->Prop),Inv X pins σ H s->t σ H Q->wpAny (model X.prog X.w) X.A (spliced (backTo pos (starEach es X.env))) (AP X pins σ Q) X.xe s
def PS(X:Cx)(st:Stmt)(t:TS):Prop:=
 ∀(pins:List (Addr×Obj)) (s:Shared) (σ:St) (H:Hp) (D:Ends),Inv X pins σ H s->t D σ H->wpAny (model X.prog X.w) X.A (exec st X.env) (SP X pins D) X.xe s
def PSs(X:Cx)(st:List Stmt)(t:TS):Prop:=
 ∀(pins:List (Addr×Obj)) (s:Shared) (σ:St) (H:Hp) (D:Ends),Inv X pins σ H s->t D σ H->wpAny (model X.prog X.w) X.A (execs st X.env) (SP X pins D) X.xe s
theorem thn{α:Type}{t:Sem α}{Q Q':α->Shared->Prop}{M:Model}{A:Around}{E:Value->Shared->Prop}{s:Shared}(h:wpAny M A t Q E s)(hQ:∀a s,Q a s->Q' a s):wpAny M A t Q' E s:=wpAny_mono h hQ fun _ _ x=>x
section
variable {X:Cx}
def tVar(i:Nat):TE:=fun σ H Q=>∃v,σ[i]?=some (some v)/\Q v H
def tC(v:V):TE:=fun _ H Q=>Q v H
theorem e2i{i:Nat}{x:Str}{pos:Pos}(hN:X.N[i]?=some x)(hv:Vis X.env.scope x)(hd:(x == ("__debug__":Str))=false:=by decide)(hcd:(x == ("__classdict__":Str))=false:=by decide):PE X (.Name x pos) (tVar i):=by
 intro pins s σ H Q I h;obtain⟨v,e,h⟩:=h;obtain⟨m,hn,hl⟩:=I.loc;obtain⟨u,r,l⟩:=hl i x v hN e hv;have fin:EP X pins σ Q u s:=⟨v,H,I,r,h⟩;rcases l with⟨hk,hm⟩|⟨hk,c,hc,hcell⟩
 ·exact wpAny_Name (wpAny_loadName_local I.ok.kind hk hn hm fin) hd
 ·rcases hk with hk|hk
  ·exact wpAny_Name (wpAny_loadName_cell I.ok.kind hk hc hcell fin) hd
  ·exact wpAny_Name (wpAny_loadName_free I.ok.kind hk hc hcell fin hcd) hd
theorem a0g{i j pos}:PE X (.Constant (.int i) j pos) (tC (.int i)):=fun _ _ _ H _ I h=>wpAny_Constant_int ⟨.int i,H,I.tok _,⟨_,rfl⟩,h⟩
theorem a8w{b j pos}:PE X (.Constant (.bool b) j pos) (tC (.bl b)):=fun _ _ _ H _ I h=>Constant_bool ⟨.bl b,H,I,rfl,h⟩
theorem c0z{j pos}:PE X (.Constant .none j pos) (tC .non):=fun _ _ _ H _ I h=>Constant_none ⟨.non,H,I,rfl,h⟩
theorem a4h{x j pos}:PE X (.Constant (.str x) j pos) (tC (.str x)):=fun _ _ _ H _ I h=>Calls.Constant_str ⟨.str x,H,I.tok _,⟨_,rfl⟩,h⟩
def Gl(X:Cx)(x:Str):Prop:=X.env.kindOf x=some .globalImplicit
theorem b4z{E:Value->Shared->Prop}{pins:List (Addr×Obj)}{s:Shared}{σ:St}{H:Hp}{x:Str}{u:Value}{pos:Pos}{Q:Value->Shared->Prop}(I:Inv X pins σ H s)(hg:Gl X x)(hm:X.mg x=some u)(h:Q u s)
  (hd:(x == ("__debug__":Str))=false:=by decide):wpAny (model X.prog X.w) X.A (eval (.Name x pos) X.env) Q E s:=
 Calls.Name_function_global I.ok.kind hg (Calls.loadGlobal_global (by rw[I.ok.glob];exact I.mod.glob.keeps I.bk) hm h) hd
theorem b7o{E:Value->Shared->Prop}{pins:List (Addr×Obj)}{s:Shared}{σ:St}{H:Hp}{x:Str}{u:Value}{pos:Pos}{Q:Value->Shared->Prop}(I:Inv X pins σ H s)(hg:Gl X x)(hm:X.mg x=none)(hv:bootBuiltins x=some u)(h:Q u s)
  (hn:x≠"__name__":=by decide) (hd:(x == ("__debug__":Str))=false:=by decide):wpAny (model X.prog X.w) X.A (eval (.Name x pos) X.env) Q E s:=by
 obtain⟨mb,h1,h2⟩:=I.mod.blt;exact Calls.Name_function_global I.ok.kind hg (Calls.loadGlobal_builtin (by rw[I.ok.glob];exact I.mod.glob.keeps I.bk) hm (by rw[I.ok.blt];exact h1.keeps I.bk) ((h2 x hn).trans hv) h) hd
theorem c8w{x:Str}{v:V}{u:Value}{pos:Pos}(hg:Gl X x)(hm:X.mg x=some u)(r:RelV v u)(hd:(x == ("__debug__":Str))=false:=by decide):PE X (.Name x pos) (tC v):=
 fun _ _ _ H _ I h=>b4z I hg hm ⟨v,H,I,r,h⟩ hd
theorem d8z{x:Str}{v:V}{u:Value}{pos:Pos}(hg:Gl X x)(hm:X.mg x=none)(hv:bootBuiltins x=some u)(r:RelV v u)(hn:x≠"__name__":=by decide)(hd:(x == ("__debug__":Str))=false:=by decide):PE X (.Name x pos) (tC v):=
 fun _ _ _ H _ I h=>b7o I hg hm hv ⟨v,H,I,r,h⟩ hn hd
variable {a b:Expr} {ta tb:TE} {pos:Pos}
def tB(t:TE):TT:=fun σ H Q=>t σ H fun x H1=>∃c,x=.bl c/\Q c H1
variable {tA tB':TT} {rest:List Expr}
def tAnd(t u:TT):TT:=fun σ H Q=>t σ H fun c H1=>if c=true then u σ H1 Q else Q false H1
def tOr(t u:TT):TT:=fun σ H Q=>t σ H fun c H1=>if c=true then Q true H1 else u σ H1 Q
def tNot(t:TT):TT:=fun σ H Q=>t σ H fun c H1=>Q (!c) H1
theorem d9a(ha:PT X a tA):PW X (.BoolOp .And [a] pos) tA:=by
 intro wh pins s σ H Q I h;refine isTrue_and (thn (ha pins s σ H Q I h) fun c s1 e=>?_)
 cases c with
 |true=>exact isTrue_and_nil e
 |false=>exact e
theorem e2j(ha:PT X a tA):PW X (.BoolOp .Or [a] pos) tA:=by
 intro wh pins s σ H Q I h;refine isTrue_or (thn (ha pins s σ H Q I h) fun c s1 e=>?_)
 cases c with
 |false=>exact isTrue_or_nil e
 |true=>exact e
theorem e2k(ha:PT X a tA)(hb:PW X (.BoolOp .And (b::rest) pos) tB'):PW X (.BoolOp .And (a::b::rest) pos) (tAnd tA tB'):=by
 intro wh pins s σ H Q I h;refine isTrue_and (thn (ha pins s σ H _ I h) fun c s1 hh=>?_)
 obtain⟨H1,I1,q1⟩:=hh;cases c with
 |true=>exact hb wh pins s1 σ H1 Q I1 q1
 |false=>exact⟨H1,I1,q1⟩
theorem e5c(ha:PT X a tA)(hb:PW X (.BoolOp .Or (b::rest) pos) tB'):PW X (.BoolOp .Or (a::b::rest) pos) (tOr tA tB'):=by
 intro wh pins s σ H Q I h;refine isTrue_or (thn (ha pins s σ H _ I h) fun c s1 hh=>?_)
 obtain⟨H1,I1,q1⟩:=hh;cases c with
 |true=>exact⟨H1,I1,q1⟩
 |false=>exact hb wh pins s1 σ H1 Q I1 q1
theorem e2l(ha:PT X a tA):PT X (.UnaryOp .Not a pos) (tNot tA):=by
 intro pins s σ H Q I h;exact isTrue_not (ha pins s σ H (fun c H1=>Q (!c) H1) I h)
def tAndV(ta tb:TE):TE:=fun σ H Q=>ta σ H fun x H1=>∃c,x=.bl c/\if c=true then tb σ H1 Q else Q (.bl false) H1
def tNotV(ta:TE):TE:=fun σ H Q=>ta σ H fun x H1=>∃c,x=.bl c/\Q (.bl (!c)) H1
theorem e2m{op}{t:TE}(h:PE X a t):PE X (.BoolOp op [a] pos) t:=fun pins s σ H Q I hw=>BoolOp_one (h pins s σ H Q I hw)
theorem e2n(ha:PE X a ta)(hb:PE X (.BoolOp .And (b::rest) pos) tb):PE X (.BoolOp .And (a::b::rest) pos) (tAndV ta tb):=by
 intro pins s σ H Q I h;refine BoolOp_and (thn (ha pins s σ H _ I h) fun v s1 hh=>?_)
 obtain⟨x,H1,I1,r1,q1⟩:=hh;obtain⟨c,rfl,q1⟩:=q1;cases r1;refine wpAny_truthy_bool ?_;cases c with
 |true=>exact hb pins s1 σ H1 Q I1 q1
 |false=>exact⟨.bl false,H1,I1,rfl,q1⟩
theorem e2o(ha:PE X a ta):PE X (.UnaryOp .Not a pos) (tNotV ta):=by
 intro pins s σ H Q I h;refine UnaryOp_ (thn (ha pins s σ H _ I h) fun v s1 hh=>?_)
 obtain⟨x,H1,I1,r1,q1⟩:=hh;obtain⟨c,rfl,q1⟩:=q1;cases r1;exact not_of (wpAny_truthy_bool ⟨.bl (!c),H1,I1,rfl,q1⟩)
def tIf(t:TT)(ta tb:TE):TE:=fun σ H Q=>t σ H fun c H1=>if c=true then ta σ H1 Q else tb σ H1 Q
theorem d4t{c:Expr}(hc:PT X c tA)(ha:PE X a ta)(hb:PE X b tb):PE X (.IfExp c a b pos) (tIf tA ta tb):=by
 intro pins s σ H Q I h;refine wpAny_IfExp (thn (hc pins s σ H _ I h) fun d s1 hh=>?_)
 obtain⟨H1,I1,q1⟩:=hh;cases d with
 |true=>exact ha pins s1 σ H1 Q I1 q1
 |false=>exact hb pins s1 σ H1 Q I1 q1
end
def SqL(K:L2.FG)(H:Hp)(a:Addr)(xs:List V):Prop:=
 Rd H a (.lst xs)\/
  ∃(o:Obj) (its:Array Value) (n:Nat),K.lookup a=some o/\o.cls=.type "list"/\o.dict=none/\o.data=.seq its n/\its.size<=sizeLine/\Vals xs its.toList
def SqT(K:L2.FG)(H:Hp)(a:Addr)(xs:List V):Prop:=
 Rd H a (.tup xs)\/
  ∃(o:Obj) (its:Array Value) (n:Nat),K.lookup a=some o/\o.cls=.type "tuple"/\o.data=.seq its n/\its.size<=sizeLine/\Vals xs its.toList
def absV:Value->Option V
 |.none=>some .non
 |.bool b=>some (.bl b)
 |.int i _=>some (.int i)
 |.str x _=>some (.str x)
 |.bytes b _=>some (.byt b)
 |.float b _=>some (.flt b)
 |.ref a=>some (.ref a)
 |.type n=>some (.ty n)
 |_=>none
theorem RelV.abs{x:V}{u:Value}(r:RelV x u):absV u=some x:=by
 cases x with
 |non=>cases r;rfl
 |bl _=>cases r;rfl
 |int _=>obtain⟨t,rfl⟩:=r;rfl
 |str _=>obtain⟨t,rfl⟩:=r;rfl
 |byt _=>obtain⟨t,rfl⟩:=r;rfl
 |flt _=>obtain⟨t,rfl⟩:=r;rfl
 |ref _=>cases r;rfl
 |ty _=>cases r;rfl
theorem RelV.inj{x y:V}{u:Value}(r:RelV x u)(q:RelV y u):x=y:=Option.some.inj (r.abs.symm.trans q.abs)
theorem Vals.inj{xs ys:List V}{us:List Value}(h:Vals xs us)(h':Vals ys us):xs=ys:=by
 induction h generalizing ys with
 |nil=>cases h';rfl
 |cons r t ih=>
  cases h' with
  |cons r' t'=>rw[r.inj r',ih t']
section
variable {X:Cx} {pins:List (Addr×Obj)} {σ:St} {H:Hp} {s:Shared} {a:Addr} {xs ys:List V}
theorem SqL.of{K:L2.FG}(h:H a=some (.lst xs)):SqL K H a xs:=.inl (.inl h)
theorem SqT.of{K:L2.FG}(h:H a=some (.tup xs)):SqT K H a xs:=.inl (.inl h)
theorem Inv.list(I:Inv X pins σ H s)(h:SqL X.K H a xs):∃its:List Value,Vals xs its/\PlainL s.heap a its.toArray/\xs.length<=sizeLine:=by
 rcases h with h|⟨o,its,n,hk,hc,hd,hs,hz,r⟩
 ·obtain⟨z,its,n,r,e⟩:=h.ok I.hok;exact⟨its,r,⟨_,n,e,rfl,rfl,rfl⟩,z⟩
 ·refine⟨its.toList,r,⟨o,n,I.kIn a o hk,hc,hd,by simpa using hs⟩,?_⟩
  have e:=r.length;simp only[Array.length_toList] at e;omega
theorem Inv.tuple(I:Inv X pins σ H s)(h:SqT X.K H a xs):∃its:List Value,Vals xs its/\IsTup s.heap a its.toArray/\xs.length<=sizeLine:=by
 rcases h with h|⟨o,its,n,hk,hc,hs,hz,r⟩
 ·obtain⟨z,its,r,p⟩:=h.ok I.hok;exact⟨its,r,p,z⟩
 ·refine⟨its.toList,r,⟨o,I.kIn a o hk,hc,n,by simpa using hs⟩,?_⟩
  have e:=r.length;simp only[Array.length_toList] at e;omega
theorem Inv.list_inj(I:Inv X pins σ H s)(h:SqL X.K H a xs)(h':SqL X.K H a ys):xs=ys:=by
 obtain⟨its,r,⟨o,n,e,_,_,d⟩,_⟩:=I.list h;obtain⟨its',r',⟨o',n',e',_,_,d'⟩,_⟩:=I.list h';rw[e] at e';cases e';rw[d] at d';injection d' with d1 _;have:its=its':=by simpa using congrArg Array.toList d1
 subst this;exact r.inj r'
theorem Inv.tuple_inj(I:Inv X pins σ H s)(h:SqT X.K H a xs)(h':SqT X.K H a ys):xs=ys:=by
 obtain⟨its,r,⟨o,e,_,n,d⟩,_⟩:=I.tuple h;obtain⟨its',r',⟨o',e',_,n',d'⟩,_⟩:=I.tuple h';rw[e] at e';cases e';rw[d] at d';injection d' with d1 _;have:its=its':=by simpa using congrArg Array.toList d1
 subst this;exact r.inj r'
end
abbrev Cx.wish(X:Cx)(E:Value->Shared->Prop):Cx:={ X with xe:=E}
abbrev Cx.nox(X:Cx):Cx:=X.wish fun _ _=>False
theorem Cx.Ok.wish{X:Cx}(ok:X.Ok)(E:Value->Shared->Prop):(X.wish E).Ok:=
 ⟨ok.mod,ok.kind,ok.glob,ok.blt,ok.above,ok.inj,ok.has,ok.cab,ok.hd,ok.frames,ok.stk,ok.exf,ok.bs,ok.bsz,ok.noex,ok.exfs,ok.funs,ok.frf⟩
theorem Cx.Ok.unwish{X:Cx}{E:Value->Shared->Prop}(ok:(X.wish E).Ok):X.Ok:=
 ⟨ok.mod,ok.kind,ok.glob,ok.blt,ok.above,ok.inj,ok.has,ok.cab,ok.hd,ok.frames,ok.stk,ok.exf,ok.bs,ok.bsz,ok.noex,ok.exfs,ok.funs,ok.frf⟩
section
variable {X:Cx} {pins:List (Addr×Obj)} {σ:St} {H:Hp} {s:Shared} {E:Value->Shared->Prop}
theorem Inv.wish(I:Inv X pins σ H s)(E:Value->Shared->Prop):Inv (X.wish E) pins σ H s:=⟨I.ok.wish E,I.os,I.bare,I.base,I.loc,I.cell,I.free,I.freeC,I.pin,I.hok,I.len⟩
theorem Inv.unwish(I:Inv (X.wish E) pins σ H s):Inv X pins σ H s:=⟨I.ok.unwish,I.os,I.bare,I.base,I.loc,I.cell,I.free,I.freeC,I.pin,I.hok,I.len⟩
theorem SP.unwish{D:Ends}{f:Flow}{s':Shared}(h:SP (X.wish E) pins D f s'):SP X pins D f s':=by
 cases f with
 |next=>obtain⟨σ',H',I,q⟩:=h;exact⟨σ',H',I.unwish,q⟩
 |brk=>obtain⟨σ',H',I,q⟩:=h;exact⟨σ',H',I.unwish,q⟩
 |cont=>obtain⟨σ',H',I,q⟩:=h;exact⟨σ',H',I.unwish,q⟩
 |ret u=>obtain⟨v,σ',H',I,r,q⟩:=h;exact⟨v,σ',H',I.unwish,r,q⟩
theorem PSs.nox{st:List Stmt}{t:TS}(h:PSs X.nox st t):PSs X st t:=fun pins s σ H D I hw=>
 wpAny_mono (h pins s σ H D (I.wish _) hw) (fun _ _ q=>q.unwish) fun _ _ z=>False.elim z
end
section
variable {X:Cx} {st:Stmt} {rest:List Stmt} {t u:TS} {e:Expr} {te:TE} {pos:Pos}
def tNext:TS:=fun D σ H=>D.nx σ H
def tSeq(t u:TS):TS:=fun D σ H=>t { D with nx:=u D} σ H
theorem pss_nil:PSs X [] tNext:=fun _ _ σ H _ I h=>wpAny_execs_nil ⟨σ,H,I,h⟩
theorem d4u(h1:PS X st t)(h2:PSs X rest u):PSs X (st::rest) (tSeq t u):=by
 intro pins s σ H D I h;refine wpAny_execs_cons (thn (h1 pins s σ H { D with nx:=u D} I h) fun f s1 q=>?_)
 cases f with
 |next=>
  obtain⟨σ',H',I',q⟩:=q;exact h2 pins s1 σ' H' D I' q
 |ret v=>exact q
 |brk=>exact q
 |cont=>exact q
theorem d9b(h1:PS X st t):PSs X [st] t:=by
 intro pins s σ H D I h;refine wpAny_execs_cons (thn (h1 pins s σ H D I h) fun f s1 q=>?_)
 cases f with
 |next=>exact wpAny_execs_nil q
 |ret v=>exact q
 |brk=>exact q
 |cont=>exact q
theorem Inv.quiet{pins:List (Addr×Obj)}{σ:St}{H:Hp}{s:Shared}(I:Inv X pins σ H s):interactive X.env=false:=by simp[interactive,I.ok.kind]
def tDrop(te:TE):TS:=fun D σ H=>te σ H fun _ H1=>D.nx σ H1
theorem c8x(he:PE X e te)(hs:swapsWith e none pos.line X.env=pure false:=by rfl):PS X (.Expr e pos) (tDrop te):=by
 intro pins s σ H D I h;exact wpAny_Expr_any (thn (he pins s σ H _ I h) fun v s1 ⟨x,H1,I1,r1,q1⟩=>⟨σ,H1,I1,q1⟩) I.quiet hs
def tRet(te:TE):TS:=fun D σ H=>te σ H D.rt
theorem d7n(he:PE X e te):PS X (.Return (some e) pos) (tRet te):=by
 intro pins s σ H D I h;exact wpAny_Return_some (thn (he pins s σ H _ I h) fun v s1 ⟨x,H1,I1,r1,q1⟩=>⟨x,σ,H1,I1,r1,q1⟩)
def tIfS(c:TT)(t u:TS):TS:=fun D σ H=>c σ H fun b H1=>if b=true then t D σ H1 else u D σ H1
theorem e5d{c:Expr}{a b:List Stmt}{tc:TT}(hc:PT X c tc)(ha:PSs X a t)(hb:PSs X b u):PS X (.If c a b pos) (tIfS tc t u):=by
 intro pins s σ H D I h;refine wpAny_If (thn (hc pins s σ H _ I h) fun d s1 hh=>?_)
 obtain⟨H1,I1,q1⟩:=hh;cases d with
 |true=>exact ha pins s1 σ H1 D I1 q1
 |false=>exact hb pins s1 σ H1 D I1 q1
end
abbrev TG:=V->St->Hp->(St->Hp->Prop)->Prop
abbrev TGs:=List V->St->Hp->(St->Hp->Prop)->Prop
def PG(X:Cx)(target:Expr)(t:TG):Prop:=
 ∀(pins:List (Addr×Obj)) (s:Shared) (σ:St) (H:Hp) (v:V) (u:Value) (Q:St->Hp->Prop),Inv X pins σ H s->RelV v u->t v σ H Q->
  wpAny (model X.prog X.w) X.A (assign target X.env u) (fun _ s'=>∃σ' H',Inv X pins σ' H' s'/\Q σ' H') X.xe s
def PGs(X:Cx)(ts:List Expr)(t:TGs):Prop:=
 ∀(pins:List (Addr×Obj)) (s:Shared) (σ:St) (H:Hp) (vs:List V) (us:List Value) (Q:St->Hp->Prop),Inv X pins σ H s->Vals vs us->t vs σ H Q->
  wpAny (model X.prog X.w) X.A (assignInOrder ((assignEach ts X.env).map (·.2)) us) (fun _ s'=>∃σ' H',Inv X pins σ' H' s'/\Q σ' H') X.xe s
abbrev TSet:=V->V->V->Hp->(Hp->Prop)->Prop
def PSet(X:Cx)(t:TSet):Prop:=
 ∀(pins:List (Addr×Obj)) (s:Shared) (σ:St) (H:Hp) (o i v:V) (ov iv u:Value) (Q:Hp->Prop),Inv X pins σ H s->RelV o ov->RelV i iv->RelV v u->t o i v H Q->
  wpAny (model X.prog X.w) X.A (setItem ov iv u) (fun _ s'=>∃H',Inv X pins σ H' s'/\Q H') X.xe s
section
variable {X:Cx} {pos:Pos}
def gName(i:Nat):TG:=fun v σ H Q=>Q (σ.set i (some v)) H
theorem a1r{i:Nat}{x:Str}(hN:X.N.Nodup)(hi:X.N[i]?=some x)(hx:Loc X.env.scope x)(hf:X.fn x=true\/X.env.scope.names.lookup x=some .local := by first|exact .inl rfl|exact .inr rfl|assumption):PG X (.Name x pos) (gName i):=by
 intro pins s σ H v u Q I r h;exact wpAny_assign_Name (c4x I hN hi hx r (fun s' I'=>⟨_,H,I',h⟩) hf)
def gNil:TGs:=fun vs σ H Q=>vs=[]/\Q σ H
def gCons(t:TG)(u:TGs):TGs:=fun vs σ H Q=>∃v r,vs=v::r/\t v σ H fun σ' H'=>u r σ' H' Q
theorem b8q:PGs X [] gNil:=by
 intro pins s σ H vs us Q I r h;obtain⟨e,h⟩:=h;subst e;cases r;exact assignInOrder_nil ⟨σ,H,I,h⟩
theorem a4l{e:Expr}{es:List Expr}{t:TG}{u:TGs}(h1:PG X e t)(h2:PGs X es u)
  (hs:(assignEach (e::es) X.env).map (·.2)=assign e X.env::(assignEach es X.env).map (·.2):=by rfl):PGs X (e::es) (gCons t u):=by
 intro pins s σ H vs us Q I r h;obtain⟨v,vr,e1,h⟩:=h;subst e1;cases r with
 |cons r rr=>
  rw[hs];refine assignInOrder_cons (thn (h1 pins s σ H _ _ _ I r h) fun _ s1 hh=>?_)
  obtain⟨σ1,H1,I1,q1⟩:=hh;exact h2 pins s1 σ1 H1 _ _ Q I1 rr q1
def gTup(K:L2.FG)(n:Nat)(t:TGs):TG:=fun v σ H Q=>∃a xs,v=.ref a/\SqT K H a xs/\xs.length=n/\t xs σ H Q
theorem c4y{es:List Expr}{k:Nat}{t:TGs}{n:Nat}(hc:X.calm=true)(h:PGs X es t)
  (hn:(assignEach es X.env).length=n:=by rfl) (hst:(assignEach es X.env).findIdx? (·.1)=none:=by rfl):PG X (.Tuple es k pos) (gTup X.K n t):=by
 intro pins s σ H v u Q I r hw;obtain⟨a,xs,e1,hq,hl,hw⟩:=hw;subst e1;cases r;obtain⟨its,rv,ht,hz⟩:=I.tuple hq;refine assign_Tuple_tuple (I.ok.hd hc) ht (by simp[hn,<-hl,rv.length]) hst fun h' hx=>?_
 have I1:Inv X pins σ H { s with heap:=h'}:=I.kept (t':=s.toks) fun b o e=>hx b o (Nat.ne_of_lt (Heap.lt_size e)) e
 exact h pins _ σ H xs _ Q I1 (by simpa using rv) hw
def gSub(to ti:TE)(t:TSet):TG:=fun v σ H Q=>to σ H fun o H1=>ti σ H1 fun i H2=>t o i v H2 fun H3=>Q σ H3
theorem d7o{o i:Expr}{to ti:TE}{t:TSet}(ho:PE X o to)(hi:PE X i ti)(hs:PSet X t)
  (ha:∀v,assign (.Subscript o i pos) X.env v=(do
   let ov <-holding [v] (eval o X.env)
   let iv <-holding [v,ov] (eval i X.env)
   standAt pos
   holding [v,ov,iv] (setItem ov iv v)
   release [v,ov,iv] []):=by intro _;rfl):PG X (.Subscript o i pos) (gSub to ti t):=by
 intro pins s σ H v u Q I r h;rw[ha];refine wpAny_bind (wpAny_holding (thn (ho pins s σ H _ I h) fun ov s1 hh=>?_))
 obtain⟨x,H1,I1,r1,q1⟩:=hh;refine wpAny_bind (wpAny_holding (thn (hi pins s1 σ H1 _ I1 q1) fun iv s2 hh=>?_))
 obtain⟨y,H2,I2,r2,q2⟩:=hh;refine wpAny_bind (wpAny_standAt (wpAny_bind (wpAny_holding (thn (hs pins s2 σ H2 x y v ov iv u _ I2 r1 r2 r q2) fun _ s3 hh=>?_))))
 obtain⟨H3,I3,q3⟩:=hh;exact wpAny_release ⟨σ,H3,I3,q3⟩
def tAsg(te:TE)(g:TG):TS:=fun D σ H=>te σ H fun x H1=>g x σ H1 D.nx
theorem d7p{tg e:Expr}{te:TE}{g:TG}(he:PE X e te)(hg:PG X tg g)(hs:swapsWithSole [tg] e pos.line X.env=pure false:=by rfl)(hw:swappedStores [tg] e X.env=pure none:=by rfl)
  (h1:(assignEach [tg] X.env).map (·.2)=[assign tg X.env]:=by rfl):PS X (.Assign [tg] e pos) (tAsg te g):=by
 intro pins s σ H D I h;refine wpAny_Assign_stores (thn (he pins s σ H _ I h) fun v s1 hh=>?_) hs hw
 obtain⟨x,H1,I1,r1,q1⟩:=hh;rw[h1];exact thn (hg pins s1 σ H1 x v _ I1 r1 q1) fun _ s2 q=>q
theorem e2p{i:Nat}{x:Str}{e:Expr}{te:TE}{pos':Pos}(hN:X.N.Nodup)(hi:X.N[i]?=some x)(hx:Loc X.env.scope x)(he:PE X e te)(hs:swapsWith e (some (.Name x pos')) pos.line X.env=pure false:=by rfl)(hf:X.fn x=true\/X.env.scope.names.lookup x=some .local := by first|exact .inl rfl|exact .inr rfl|assumption):
  PS X (.Assign [.Name x pos'] e pos) (tAsg te (gName i)):=by
 intro pins s σ H D I h;refine wpAny_Assign_Name (thn (he pins s σ H _ I h) fun v s1 hh=>?_) hs
 obtain⟨y,H1,I1,r1,q1⟩:=hh;exact c4x I1 hN hi hx r1 (fun s2 I2=>⟨_,H1,I2,q1⟩) hf
end
section
variable {X:Cx} {pos:Pos}
end
set_option genInjectivity false in
structure It where
 go:Nat->Hp->Prop
 yld:Nat->Hp->V->Hp->Prop
 stop:Nat->Hp->Prop
def FpOk(X:Cx)(pins:List (Addr×Obj))(H:Hp)(b:Addr):Prop:=
 H b=none/\b≠X.env.locals/\b∉X.fs/\(b∈X.ex\/X.s₀.heap.objs.size<=b)/\(∀x c,X.env.cells.lookup x=some c->c≠b)/\∀p∈X.pn++pins,p.1≠b
theorem Inv.fpOk{X:Cx}{pins:List (Addr×Obj)}{σ:St}{H H':Hp}{s:Shared}{b:Addr}(I:Inv X pins σ H s)(hb:s.heap.objs.size<=b)(hn:H' b=none):FpOk X pins H' b:=by
 refine⟨hn,Nat.ne_of_gt (Nat.lt_of_lt_of_le I.lt hb),I.nofs hb,.inr (Nat.le_trans I.sz hb),fun x c e z=>?_,fun p hp z=>?_⟩
 ·obtain⟨v,q⟩:=I.cell x c e;exact absurd (Nat.lt_of_lt_of_le q.lt (by rw[z];exact hb)) (Nat.lt_irrefl _)
 ·exact absurd (Nat.lt_of_lt_of_le (Heap.lt_size (I.pin p hp).1) (by rw[z];exact hb)) (Nat.lt_irrefl _)
structure Turn (P:Program) (w:World) (K:L2.FG) (tg:Expr) (J:It) (fp:List Addr) (it:Addr) (tn:Nat->Heap->Prop):Prop where
 mem:it∈fp
 obj:∀i h,tn i h->∀b∈fp,∃o,h.get? b=some o/\∀v,o.data≠.cell v
 keep:∀i h h',tn i h->(∀b∈fp,∀o,h.get? b=some o->h'.get? b=some o)->tn i h'
 item:∀(X:Cx),X.prog=P->X.w=w->X.K=K->X.calm=true->∀(i:Nat) (pins:List (Addr×Obj)) (s:Shared) (σ:St) (H:Hp) (E:Value->Shared->Prop),Inv X pins σ H s->(∀b∈fp,FpOk X pins H b)->tn i s.heap->J.go i H->
  wpAny (model P w) X.A (pyNext (.ref it)) (fun r s1=>∃u,r=some u/\
   wpAny (model P w) X.A (letOwnedTupleGo tg (.ref it) u) (fun _ s2=>∃x H',Inv X pins σ H' s2/\RelV x u/\J.yld i H x H'/\tn (i+1) s2.heap/\∀b∈fp,H' b=none) E s1) E s
 done:∀(X:Cx),X.prog=P->X.w=w->X.K=K->X.calm=true->∀(i:Nat) (pins:List (Addr×Obj)) (s:Shared) (σ:St) (H:Hp) (E:Value->Shared->Prop),Inv X pins σ H s->(∀b∈fp,FpOk X pins H b)->tn i s.heap->J.stop i H->
  wpAny (model P w) X.A (pyNext (.ref it)) (fun r s1=>r=none/\Inv X pins σ H s1) E s
 self:∀(A:Around) (i:Nat) (s:Shared) (Q:Value->Shared->Prop) (E:Value->Shared->Prop),tn i s.heap->Q (.ref it) s->wpAny (model P w) A (pyIter (.ref it)) Q E s
abbrev TI:=St->Hp->(It->Hp->Prop)->Prop
def PIE(X:Cx)(pins:List (Addr×Obj))(σ:St)(tg:Expr)(R:It->Hp->Prop)(itv:Value)(s2:Shared):Prop:=
 ∃(it:Addr) (fp:List Addr) (tn:Nat->Heap->Prop) (J:It) (H':Hp),itv=.ref it/\Inv X pins σ H' s2/\Turn X.prog X.w X.K tg J fp it tn/\tn 0 s2.heap/\(∀b∈fp,FpOk X pins H' b)/\R J H'
def PI(X:Cx)(tg iter:Expr)(wi:TI):Prop:=
 ∀(pins:List (Addr×Obj)) (s:Shared) (σ:St) (H:Hp) (R:It->Hp->Prop),Inv X pins σ H s->wi σ H R->
  wpAny (model X.prog X.w) X.A (eval iter X.env) (fun v s1=>wpAny (model X.prog X.w) X.A (pyIter v) (PIE X pins σ tg R) X.xe s1) X.xe s
theorem d9c{M:Model}{A:Around}{E:Value->Shared->Prop}{s:Shared}{tg:Expr}{it:Addr}{u:Value}{o:Obj}{n:String}{vs:Array Value}{Q:Unit->Shared->Prop}(ho:s.heap.get? it=some o)(hc:o.cls=.type n)(hd:o.data=.fields vs)
  (hn:["enumerate","zip","dict_itemiterator","dict_reverseitemiterator","odict_iterator","itertools.zip_longest","itertools.pairwise"].contains n=false) (hQ:Q () s):wpAny M A (letOwnedTupleGo tg (.ref it) u) Q E s:=by
 unfold letOwnedTupleGo;cases tg <;> first
  |exact wpAny_pure hQ
  |(cases u <;> first
    |exact wpAny_pure hQ
    |(refine wpAny_bind (wpAny_load ho ?_)
      rw[hc,hd];show wpAny M A (if(["enumerate","zip","dict_itemiterator","dict_reverseitemiterator","odict_iterator","itertools.zip_longest","itertools.pairwise"].contains n && vs[0]? == some (rawInt _))=true then _ else _) Q E s
      rw[if_neg (by intro h;rw[hn,Bool.false_and] at h;cases h)]
      exact wpAny_pure hQ))
def Itl(K:L2.FG)(a:Addr):It:=
 ⟨fun i H=>∃xs x,SqL K H a xs/\xs[i]?=some x,fun i H x H'=>H'=H/\∀xs,SqL K H a xs->xs[i]?=some x,fun i H=>∃xs,SqL K H a xs/\xs.length<=i⟩
def Itr(lo:Int)(n:Nat):It:=⟨fun i _=>i < n,fun i H x H'=>H'=H/\x=.int (lo+i),fun i _=>n<=i⟩
theorem c8y{P:Program}{w:World}{K:L2.FG}{tg:Expr}(a it:Addr):Turn P w K tg (Itl K a) [it] it (fun i h=>h.IsListIter it a i) where
 mem:=by simp
 obj:=fun i h st b hb=>by
  have e:b=it:=by simpa using hb
  subst e;obtain⟨o,e,c,d⟩:=st;exact⟨o,e,fun v z=>by rw[d] at z;cases z⟩
 keep:=fun i h h' st k=>st.at fun o e=>k it (by simp) o e
 item:=by
  intro X hP hw hK hc i pins s σ H E I hf st hg;subst hP hw hK;obtain⟨xs,x,hq,hx⟩:=hg;obtain⟨its,rv,p,hz⟩:=I.list hq;obtain⟨u,hu,ru⟩:=rv.get hx;obtain⟨f0,f1,f2,f3,f4,f5⟩:=hf it (by simp)
  refine wpAny_pyNext_list_item st p.isList (x:=u) (by simpa using hu) fun h' st' sb=>?_
  have I1:Inv X pins σ H { s with heap:=h'}:=I.turned (t':=s.toks) (fun b o hb e=>(sb.2 b hb).trans e) f0 f1 f3 f4 f5
  obtain⟨o,e,c,d⟩:=id st';exact⟨u,rfl,d9c (s:={ s with heap:=h'}) e c d (by decide) ⟨x,H,I1,ru,⟨rfl,fun ys hy=>by rw[I.list_inj hy hq];exact hx⟩,st',fun b hb=>(hf b hb).1⟩⟩
 done:=by
  intro X hP hw hK hc i pins s σ H E I hf st hg;subst hP hw hK;obtain⟨xs,hq,hx⟩:=hg;obtain⟨its,rv,p,hz⟩:=I.list hq;obtain⟨f0,f1,f2,f3,f4,f5⟩:=hf it (by simp)
  have hl:=rv.length;exact wpAny_pyNext_list_end (I.ok.hd hc) st p.isList (by simp;omega) fun h' eb=>⟨rfl,I.turned (t':=s.toks) (fun b o hb e=>eb b o hb e) f0 f1 f3 f4 f5⟩
 self:=fun _ _ _ _ _ st h=>wpAny_pyIter_listiter st h
theorem c7f{P:Program}{w:World}{K:L2.FG}{tg:Expr}(it:Addr)(lo:Int)(n:Nat):Turn P w K tg (Itr lo n) [it] it (fun i h=>IsRangeIter h it (lo+(i:Nat) * 1) ((n:Int) - (i:Nat)) 1) where
 mem:=by simp
 obj:=fun i h st b hb=>by
  have e:b=it:=by simpa using hb
  subst e;exact⟨_,st,fun v z=>by
   have z':Data.fields _=Data.cell v:=z;cases z'⟩
 keep:=fun i h h' st k=>k it (by simp) _ st
 item:=by
  intro X hP hw hK hc i pins s σ H E I hf st hg;subst hP hw hK;obtain⟨f0,f1,f2,f3,f4,f5⟩:=hf it (by simp)
  have W:=Walks.range (prog:=X.prog) (w:=X.w) (I.ok.hd hc) it lo 1 n;refine W.item i s _ _ hg st fun v h' tk hv st' kk=>?_
  obtain⟨t,rfl⟩:=hv;have I1:Inv X pins σ H { s with heap:=h',toks:=tk}:=I.turned (fun b o hb e=>kk b o (by simpa using hb) e) f0 f1 f3 f4 f5
  refine⟨_,rfl,d9c (s:={ s with heap:=h',toks:=tk}) (n:="range_iterator") st' rfl rfl (by decide) ⟨.int (lo+i),H,I1,⟨t,?_⟩,⟨rfl,rfl⟩,st',fun b hb=>(hf b hb).1⟩⟩
  rw[Int.mul_one]
 done:=by
  intro X hP hw hK hc i pins s σ H E I hf st hg;subst hP hw hK;obtain⟨f0,f1,f2,f3,f4,f5⟩:=hf it (by simp)
  exact wpAny_pyNext_range_end (I.ok.hd hc) st (by have:n<=i:=hg;omega) fun h' eb=>⟨rfl,I.turned (t':=s.toks) (fun b o hb e=>eb b o hb e) f0 f1 f3 f4 f5⟩
 self:=fun _ _ _ _ _ st h=>wpAny_pyIter_rangeiter st h
section
variable {X:Cx} {tg:Expr}
def iList(K:L2.FG)(tl:TE):TI:=fun σ H R=>tl σ H fun x H1=>∃a,x=.ref a/\(∃xs,SqL K H1 a xs)/\R (Itl K a) H1
theorem c8z{l:Expr}{tl:TE}(hl:PE X l tl):PI X tg l (iList X.K tl):=by
 intro pins s σ H R I h;refine thn (hl pins s σ H _ I h) fun v s1 hh=>?_
 obtain⟨x,H1,I1,r1,q1⟩:=hh;obtain⟨a,e,⟨xs,hq⟩,q⟩:=q1;subst e;cases r1;obtain⟨its,rv,p,hz⟩:=I1.list hq;refine wpAny_pyIter_list p.isList ?_;refine⟨s1.heap.objs.size,[s1.heap.objs.size],_,_,H1,rfl,I1.kept (t':=s1.toks) fun b o e=>Heap.get?_push_of_some _ e,c8y a _,⟨_,Heap.get?_push_size _ rfl,rfl,rfl⟩,fun b hb=>?_,q⟩
 have e:b=s1.heap.objs.size:=by simpa using hb
 subst e;exact I1.fpOk (Nat.le_refl _) (I1.hok.fresh (Nat.le_refl _))
theorem d4v{pins:List (Addr×Obj)}{σ:St}{H:Hp}{s:Shared}{R:It->Hp->Prop}{E:Value->Shared->Prop}{lo hi:Int}{t u v:Tok}{tk:Nat}(I:Inv X pins σ H s)(h1:-(2 ^ 62)<=lo)(h2:lo < 2 ^ 62)(h3:-(2 ^ 62)<=hi)(h4:hi < 2 ^ 62)
  (q:R (Itr lo (hi - lo).toNat) H):wpAny (model X.prog X.w) X.A (pyIter (.ref s.heap.objs.size)) (PIE X pins σ tg R) E { s with heap:=s.heap.push { cls:=.type "range",data:=.fields #[.int lo t,.int hi u,.int 1 v]},toks:=tk}:=by
 refine wpAny_pyIter_range (IsRange.new ..) (small_one h1 h2 h3 h4) ?_;have I1:Inv X pins σ H { s with heap:=s.heap.push { cls:=.type "range",data:=.fields #[.int lo t,.int hi u,.int 1 v]},toks:=tk}:=I.kept fun b o e=>Heap.get?_push_of_some _ e
 refine⟨(s.heap.push { cls:=.type "range",data:=.fields #[.int lo t,.int hi u,.int 1 v]}).objs.size,[(s.heap.push { cls:=.type "range",data:=.fields #[.int lo t,.int hi u,.int 1 v]}).objs.size],_,_,H,rfl,
  I1.kept (t':=tk) fun b o e=>Heap.get?_push_of_some _ e,c7f _ lo (hi - lo).toNat,?_,fun b hb=>?_,q⟩
 ·have e1:lo+((0:Nat):Int) * 1=lo:=by simp
  have e2:(((hi - lo).toNat:Nat):Int) - ((0:Nat):Int)=Builtin.Range.rangeSize lo hi 1:=by rw[rangeSize_one];split <;> omega
  show IsRangeIter _ _ (lo+((0:Nat):Int) * 1) ((((hi - lo).toNat:Nat):Int) - ((0:Nat):Int)) 1;rw[e1,e2];exact Heap.get?_push_size _ rfl
 ·have e:b=(s.heap.push { cls:=.type "range",data:=.fields #[.int lo t,.int hi u,.int 1 v]}).objs.size:=by simpa using hb
  subst e;exact I1.fpOk (Nat.le_refl _) (I1.hok.fresh (Nat.le_refl _))
def iRng1(ta:TA):TI:=fun σ H R=>ta σ H fun vs H1=>∃j:Int,vs=[.int j] /\ -(2 ^ 62)<=j/\j < 2 ^ 62/\R (Itr 0 j.toNat) H1
theorem b5a{a:Expr}{ta:TA}{p pos:Pos}(hg:Gl X "range")(hm:X.mg "range"=none)(ha:PA X [a] ta)(hs:starEach [a] X.env=[(false,eval a X.env)]:=by rfl):PI X tg (.Call (.Name "range" p) [a] [] pos) (iRng1 ta):=by
 intro pins s σ H R I h;refine Call_ (b7o I hg hm boot_range (PyProof.Rows.callWith_type1 (thn (ha pos pins s σ H _ I h) fun us s1 hh=>?_) hs rfl))
 obtain⟨vs,H1,I1,r1,q1⟩:=hh;obtain⟨j,e,q1,q2,q⟩:=q1;subst e;cases r1 with
 |cons r rr=>
  cases rr;obtain⟨t,rfl⟩:=r;exact call_range_1 (d4v I1 (by omega) (by omega) q1 q2 (by simpa using q))
def tFor(wi:TI)(g:TG)(tb:TS):TS:=fun D σ H=>wi σ H fun J H1=>∃W:Nat->Nat->St->Hp->Prop,(∃m,W 0 m σ H1)/\∀i m σ H,W i m σ H->
 (J.stop i H/\D.nx σ H)\/(J.go i H/\∃N:St->Hp->Prop,(∀σ' H',N σ' H'->∃m',m' < m/\W (i+1) m' σ' H')/\∀x H',J.yld i H x H'->g x σ H' fun σ2 H2=>tb { D with nx:=N,ct:=N,bk:=D.nx} σ2 H2)
def c1a(fp:List Addr)(h:Heap):List (Addr×Obj):=fp.filterMap fun b=>(h.get? b).map fun o=>(b,o)
theorem a9t{fp:List Addr}{h:Heap}{b:Addr}{o:Obj}(hb:b∈fp)(e:h.get? b=some o):(b,o)∈c1a fp h:=List.mem_filterMap.mpr ⟨b,hb,by rw[e];rfl⟩
theorem c9a{fp:List Addr}{h:Heap}{p:Addr×Obj}(hp:p∈c1a fp h):p.1∈fp/\h.get? p.1=some p.2:=by
 obtain⟨b,hb,e⟩:=List.mem_filterMap.mp hp;cases q:h.get? b with
 |none=>rw[q] at e;cases e
 |some o=>
  rw[q] at e;have e':(b,o)=p:=Option.some.inj e;subst e';exact⟨hb,q⟩
theorem Inv.pinned{pins:List (Addr×Obj)}{σ:St}{H:Hp}{s:Shared}{fp:List Addr}(I:Inv X pins σ H s)(hf:∀b∈fp,FpOk X pins H b)(ho:∀b∈fp,∃o,s.heap.get? b=some o/\∀v,o.data≠.cell v):Inv X (pins++c1a fp s.heap) σ H s:=
 I.pins_of fun p hp=>(List.mem_append.mp hp).elim (fun z=>I.pin p (List.mem_append_right _ z)) fun z=>by
  obtain⟨hb,e⟩:=c9a z;obtain⟨f0,f1,f2,_⟩:=hf p.1 hb;obtain⟨o,e',d⟩:=ho p.1 hb;rw[e] at e';cases e';exact⟨e,f0,f1,f2,d⟩
theorem Inv.unpinned{pins pl:List (Addr×Obj)}{σ:St}{H:Hp}{s:Shared}(I:Inv X (pins++pl) σ H s):Inv X pins σ H s:=I.pins_of fun p hp=>I.pin p (List.mem_append_right _ (List.mem_append_left _ hp))
theorem c9b{iter:Expr}{body:List Stmt}{wi:TI}{g:TG}{tb:TS}{pos:Pos}(hp:PassesOwn (model X.prog X.w) X.A X.env X.xe)(hc:X.calm=true)(hi:PI X tg iter wi)(hg:PG X tg g)(hb:PSs X body tb)
  (hs:∀x,foldedSetIterable iter X.env x=pure x:=by intro _;rfl):PS X (.For tg iter body [] pos) (tFor wi g tb):=by
 intro pins s σ H D I h;refine wpAny_For (thn (hi pins s σ H _ I h) fun v s1 h1=>thn h1 fun itv s2 h2=>?_) hs
 obtain⟨it,fp,tn,J,H2,e,I2,T,st2,f2,W,⟨m0,w0⟩,turn⟩:=h2;subst e;have stat:∀{H':Hp},(∀b∈fp,H' b=none)->∀b∈fp,FpOk X pins H' b:=fun hn b hb=>⟨hn b hb,(f2 b hb).2⟩
 refine codeAny_forLoop_any (fun n s'=>∃i σ' H',Inv X pins σ' H' s'/\tn i s'.heap/\(∀b∈fp,H' b=none)/\W i n σ' H') ?_ m0 ⟨0,σ,H2,I2,st2,fun b hb=>(f2 b hb).1,w0⟩
 rintro n s3 ⟨i,σ3,H3,I3,st3,fr3,w3⟩;rcases turn i n σ3 H3 w3 with⟨stop,qn⟩|⟨go,N,hN,step⟩
 ·refine wpAny_passesOwn hp (thn (T.done X rfl rfl rfl hc i pins s3 σ3 H3 X.xe I3 (stat fr3) st3 stop) fun r s4 ⟨hr,I4⟩=>?_)
  subst hr;exact wpAny_execs_nil ⟨σ3,H3,I4,qn⟩
 ·refine wpAny_passesOwn hp (thn (T.item X rfl rfl rfl hc i pins s3 σ3 H3 X.xe I3 (stat fr3) st3 go) fun r s4 ⟨u,hr,h4⟩=>?_)
  subst hr;refine wpAny_passesOwn hp (thn h4 fun _ s5 hh=>?_)
  obtain⟨x,H5,I5,r5,y5,st5,fr5⟩:=hh;have I5':=I5.pinned (stat fr5) (T.obj _ _ st5);refine wpAny_passesOwn hp (thn (hg _ s5 σ3 H5 x u _ I5' r5 (step x H5 y5)) fun _ s6 hh=>?_)
  obtain⟨σ6,H6,I6,q6⟩:=hh;refine wpAny_passesOwn hp (thn (hb _ s6 σ6 H6 _ I6 q6) fun f s7 q7=>?_)
  have again:∀{σ7:St} {H7:Hp},Inv X (pins++c1a fp s5.heap) σ7 H7 s7->N σ7 H7->∃m,m < n/\∃i σ' H',Inv X pins σ' H' s7/\tn i s7.heap/\(∀b∈fp,H' b=none)/\W i m σ' H':=fun{σ7 H7} I7 n7=>by
   obtain⟨m',hm,w7⟩:=hN σ7 H7 n7;refine⟨m',hm,i+1,σ7,H7,I7.unpinned,T.keep _ _ _ st5 fun b hb o e=>(I7.pin (b,o) (List.mem_append_right _ (List.mem_append_right _ (a9t hb e)))).1,fun b hb=>?_,w7⟩
   obtain⟨o,e,d⟩:=T.obj _ _ st5 b hb;exact(I7.pin (b,o) (List.mem_append_right _ (List.mem_append_right _ (a9t hb e)))).2.1
  cases f with
  |next=>obtain⟨σ7,H7,I7,n7⟩:=q7;exact again I7 n7
  |cont=>obtain⟨σ7,H7,I7,n7⟩:=q7;exact again I7 n7
  |brk=>obtain⟨σ7,H7,I7,q7⟩:=q7;exact⟨σ7,H7,I7.unpinned,q7⟩
  |ret v=>obtain⟨x7,σ7,H7,I7,r7,q7⟩:=q7;exact⟨x7,σ7,H7,I7.unpinned,r7,q7⟩
end
theorem d4w{K:L2.FG}{a:Addr}{xs:List V}{g:TG}{tb:TS}{D:Ends}{σ:St}{H:Hp}(Pv:Nat->St->Hp->Prop)(h0:Pv 0 σ H)(hl:∀i σ H,i<=xs.length->Pv i σ H->SqL K H a xs)
  (hs:∀i x σ H,xs[i]?=some x->Pv i σ H->g x σ H fun σ2 H2=>tb { D with nx:=Pv (i+1),ct:=Pv (i+1),bk:=D.nx} σ2 H2) (hd:∀σ H,Pv xs.length σ H->D.nx σ H) :
  ∃W:Nat->Nat->St->Hp->Prop,(∃m,W 0 m σ H)/\∀i m σ H,W i m σ H->
   ((Itl K a).stop i H/\D.nx σ H)\/((Itl K a).go i H/\∃N:St->Hp->Prop,(∀σ' H',N σ' H'->∃m',m' < m/\W (i+1) m' σ' H')/\∀x H',(Itl K a).yld i H x H'->g x σ H' fun σ2 H2=>tb { D with nx:=N,ct:=N,bk:=D.nx} σ2 H2):=by
 refine⟨fun i m σ H=>m=xs.length - i/\i<=xs.length/\Pv i σ H,⟨xs.length,by simp,Nat.zero_le _,h0⟩,?_⟩
 rintro i m σ H ⟨rfl,hi,p⟩;have q:=hl i σ H hi p;by_cases hlt:i < xs.length
 ·refine .inr ⟨⟨xs,xs[i],q,by simp[hlt]⟩,Pv (i+1),fun σ' H' p'=>⟨xs.length - (i+1),by omega,rfl,hlt,p'⟩,fun x H' y=>?_⟩
  obtain⟨e,y⟩:=y;subst e;exact hs i x σ _ (y xs q) p
 ·have e:i=xs.length:=by omega
  subst e;exact .inl ⟨⟨xs,q,Nat.le_refl _⟩,hd σ H p⟩
theorem c9c{lo:Int}{n:Nat}{g:TG}{tb:TS}{D:Ends}{σ:St}{H:Hp}(Pv:Nat->St->Hp->Prop)(h0:Pv 0 σ H)
  (hs:∀i σ H,i < n->Pv i σ H->g (.int (lo+i)) σ H fun σ2 H2=>tb { D with nx:=Pv (i+1),ct:=Pv (i+1),bk:=D.nx} σ2 H2) (hd:∀σ H,Pv n σ H->D.nx σ H) :
  ∃W:Nat->Nat->St->Hp->Prop,(∃m,W 0 m σ H)/\∀i m σ H,W i m σ H->
   ((Itr lo n).stop i H/\D.nx σ H)\/((Itr lo n).go i H/\∃N:St->Hp->Prop,(∀σ' H',N σ' H'->∃m',m' < m/\W (i+1) m' σ' H')/\∀x H',(Itr lo n).yld i H x H'->g x σ H' fun σ2 H2=>tb { D with nx:=N,ct:=N,bk:=D.nx} σ2 H2):=by
 refine⟨fun i m σ H=>m=n - i/\i<=n/\Pv i σ H,⟨n,by simp,Nat.zero_le _,h0⟩,?_⟩
 rintro i m σ H ⟨rfl,hi,p⟩;by_cases hlt:i < n
 ·refine .inr ⟨hlt,Pv (i+1),fun σ' H' p'=>⟨n - (i+1),by omega,rfl,hlt,p'⟩,fun x H' y=>?_⟩
  obtain⟨e,y⟩:=y;subst e y;exact hs i σ _ hlt p
 ·have e:i=n:=by omega
  subst e;exact .inl ⟨Nat.le_refl _,hd σ H p⟩
abbrev R2:=V->V->Hp->VK->Prop
def OpR(X:Cx)(f:Value->Value->Sem Value)(r:R2):Prop:=
 ∀(pins:List (Addr×Obj)) (s:Shared) (σ:St) (H:Hp) (x y:V) (v u:Value) (Q:VK),Inv X pins σ H s->RelV x v->RelV y u->r x y H Q->
  wpAny (model X.prog X.w) X.A (f v u) (EP X pins σ Q) X.xe s
def UnR(X:Cx)(f:Value->Sem Value)(r:V->Hp->VK->Prop):Prop:=
 ∀(pins:List (Addr×Obj)) (s:Shared) (σ:St) (H:Hp) (x:V) (v:Value) (Q:VK),Inv X pins σ H s->RelV x v->r x H Q->
  wpAny (model X.prog X.w) X.A (f v) (EP X pins σ Q) X.xe s
def CallR(X:Cx)(f:Value)(r:List V->Hp->VK->Prop):Prop:=
 ∀(pins:List (Addr×Obj)) (s:Shared) (σ:St) (H:Hp) (xs:List V) (us:List Value) (Q:VK),Inv X pins σ H s->Vals xs us->r xs H Q->
  wpAny (model X.prog X.w) X.A (call f us) (EP X pins σ Q) X.xe s
def TruR(X:Cx)(r:V->Hp->(Bool->Hp->Prop)->Prop):Prop:=
 ∀(pins:List (Addr×Obj)) (s:Shared) (σ:St) (H:Hp) (x:V) (v:Value) (Q:Bool->Hp->Prop),Inv X pins σ H s->RelV x v->r x H Q->
  wpAny (model X.prog X.w) X.A (truthy v) (TP X pins σ Q) X.xe s
def tOp(r:R2)(ta tb:TE):TE:=fun σ H Q=>ta σ H fun x H1=>tb σ H1 fun y H2=>r x y H2 Q
def tUn(r:V->Hp->VK->Prop)(ta:TE):TE:=fun σ H Q=>ta σ H fun x H1=>r x H1 Q
def rI(C:Int->Int->Prop)(g:Int->Int->V):R2:=fun x y H Q=>∃i j,x=.int i/\y=.int j/\C i j/\Q (g i j) H
def rI0(g:Int->Int->V):R2:=fun x y H Q=>∃i j,x=.int i/\y=.int j/\Q (g i j) H
def rU(g:Int->V):V->Hp->VK->Prop:=fun x H Q=>∃i,x=.int i/\Q (g i) H
section
variable {X:Cx} {a b c:Expr} {ta tb tc:TE} {pos:Pos}
theorem binT(ha:PE X a ta)(hb:PE X b tb){pins:List (Addr×Obj)}{s:Shared}{σ:St}{H:Hp}{R:V->V->Hp->Prop}(I:Inv X pins σ H s)
  (h:ta σ H fun x H1=>tb σ H1 fun y H2=>R x y H2) {Q:Value->Shared->Prop} {f:Value->Value->Sem Value}
  (hf:∀v u s2 x y H2,Inv X pins σ H2 s2->RelV x v->RelV y u->R x y H2->wpAny (model X.prog X.w) X.A (f v u) Q X.xe s2) :
  wpAny (model X.prog X.w) X.A (eval a X.env) (fun v s₁=>wpAny (model X.prog X.w) X.A (eval b X.env) (fun u s₂=>wpAny (model X.prog X.w) X.A (f v u) Q X.xe s₂) X.xe s₁) X.xe s:=by
 refine thn (ha pins s σ H _ I h) fun v s1 hh=>?_
 obtain⟨x,H1,I1,r1,q1⟩:=hh;refine thn (hb pins s1 σ H1 _ I1 q1) fun u s2 hh=>?_
 obtain⟨y,H2,I2,r2,q2⟩:=hh;exact hf v u s2 x y H2 I2 r1 r2 q2
theorem e5e{op:Operator}{r:R2}(ho:OpR X (binaryOp op) r)(ha:PE X a ta)(hb:PE X b tb):PE X (.BinOp a op b pos) (tOp r ta tb):=by
 intro pins s σ H Q I h;exact wpAny_BinOp (binT ha hb I h fun v u s2 x y H2 I2 rx ry q=>ho pins s2 σ H2 x y v u Q I2 rx ry q)
theorem e5f{op:UnaryOp}{r:V->Hp->VK->Prop}(ho:UnR X (unaryOp op) r)(ha:PE X a ta):PE X (.UnaryOp op a pos) (tUn r ta):=by
 intro pins s σ H Q I h;exact UnaryOp_ (thn (ha pins s σ H _ I h) fun v s1 ⟨x,H1,I1,r1,q1⟩=>ho pins s1 σ H1 x v Q I1 r1 q1)
theorem opI{f:Value->Value->Sem Value}{C:Int->Int->Prop}{g:Int->Int->Int}
  (rule:∀(i j:Int) (t u:Tok) (s:Shared) (Q:Value->Shared->Prop) (E:Value->Shared->Prop),C i j->Q (.int (g i j) s.toks) { s with toks:=s.toks+1}->wpAny (model X.prog X.w) X.A (f (.int i t) (.int j u)) Q E s) :
  OpR X f (rI C fun i j=>.int (g i j)):=by
 intro pins s σ H x y v u Q I rx ry h;obtain⟨i,j,rfl,rfl,hc,q⟩:=h;obtain⟨t,rfl⟩:=rx;obtain⟨t',rfl⟩:=ry;exact rule i j t t' s _ _ hc ⟨.int (g i j),H,I.tok _,⟨_,rfl⟩,q⟩
theorem opI0{f:Value->Value->Sem Value}{g:Int->Int->Int}
  (rule:∀(i j:Int) (t u:Tok) (s:Shared) (Q:Value->Shared->Prop) (E:Value->Shared->Prop),Q (.int (g i j) s.toks) { s with toks:=s.toks+1}->wpAny (model X.prog X.w) X.A (f (.int i t) (.int j u)) Q E s) :
  OpR X f (rI0 fun i j=>.int (g i j)):=by
 intro pins s σ H x y v u Q I rx ry h;obtain⟨i,j,rfl,rfl,q⟩:=h;obtain⟨t,rfl⟩:=rx;obtain⟨t',rfl⟩:=ry;exact rule i j t t' s _ _ ⟨.int (g i j),H,I.tok _,⟨_,rfl⟩,q⟩
theorem opB0{f:Value->Value->Sem Value}{g:Int->Int->Bool}
  (rule:∀(i j:Int) (t u:Tok) (s:Shared) (Q:Value->Shared->Prop) (E:Value->Shared->Prop),Q (.bool (g i j)) s->wpAny (model X.prog X.w) X.A (f (.int i t) (.int j u)) Q E s) :
  OpR X f (rI0 fun i j=>.bl (g i j)):=by
 intro pins s σ H x y v u Q I rx ry h;obtain⟨i,j,rfl,rfl,q⟩:=h;obtain⟨t,rfl⟩:=rx;obtain⟨t',rfl⟩:=ry;exact rule i j t t' s _ _ ⟨.bl (g i j),H,I,rfl,q⟩
def CDiv(i j:Int):Prop:=0 < j/\j < 1073741824
def CPow(i j:Int):Prop:=0<=j/\j<=1000000/\i.natAbs < 2 ^ 64
def CMul(i j:Int):Prop:=(-(2 ^ 64) < i/\i < 2 ^ 64)\/(-(2 ^ 64) < j/\j < 2 ^ 64)
theorem CMul.ok{i j:Int}(h:CMul i j):IntMulOk i j:=by
 rcases h with⟨h1,h2⟩|⟨h1,h2⟩
 ·exact .of_left (intBits_le_64 h1 h2)
 ·exact .of_right (intBits_le_64 h1 h2)
theorem op_add:OpR X (binaryOp .Add) (rI0 fun i j=>.int (i+j)):=opI0 fun _ _ _ _ _ _ _ q=>add_int q
theorem c9d:OpR X (binaryOp .Sub) (rI0 fun i j=>.int (i - j)):=opI0 fun _ _ _ _ _ _ _ q=>sub_int q
theorem op_mul:OpR X (binaryOp .Mult) (rI CMul fun i j=>.int (i * j)):=opI fun _ _ _ _ _ _ _ hc q=>mul_int q hc.ok
theorem c3h:OpR X (binaryOp .FloorDiv) (rI CDiv fun i j=>.int (i / j)):=opI fun i j _ _ _ _ _ hc q=>by
 have h1:(0:Int) < j:=hc.1;have h2:j < 1073741824:=hc.2;exact floordiv_int (by omega) (by rw[Int.fdiv_eq_ediv_of_nonneg i (by omega)];exact q) (.inl (PyProof.noPylong_small (by omega)))
theorem a7q:OpR X (binaryOp .Mod) (rI (fun _ j=>0 < j) fun i j=>.int (i % j)):=opI fun i j _ _ _ _ _ hc q=>by
 have h1:(0:Int) < j:=hc;exact mod_int' (by omega) (by rw[Int.fmod_eq_emod_of_nonneg i (by omega)];exact q)
theorem e2q:OpR X (binaryOp .Pow) (rI CPow fun i j=>.int (i ^ j.toNat)):=opI fun _ _ _ _ _ _ _ hc q=>pow_int_small hc.1 hc.2.1 hc.2.2 q
theorem unI{f:Value->Sem Value}{g:Int->Int}
  (rule:∀(i:Int) (t:Tok) (s:Shared) (Q:Value->Shared->Prop) (E:Value->Shared->Prop),Q (.int (g i) s.toks) { s with toks:=s.toks+1}->wpAny (model X.prog X.w) X.A (f (.int i t)) Q E s) :
  UnR X f (rU fun i=>.int (g i)):=by
 intro pins s σ H x v Q I rx h;obtain⟨i,rfl,q⟩:=h;obtain⟨t,rfl⟩:=rx;exact rule i t s _ _ ⟨.int (g i),H,I.tok _,⟨_,rfl⟩,q⟩
theorem e2r:UnR X (unaryOp .USub) (rU fun i=>.int (-i)):=unI fun _ _ _ _ _ q=>neg_int q
end
section
variable {X:Cx} {a b c:Expr} {ta tb tc:TE} {pos:Pos}
theorem b0w{pins:List (Addr×Obj)}{σ:St}{H:Hp}{s:Shared}{Q:VK}{k k':Bool}(I:Inv X pins σ H s)(q:Q (.bl k) H)(e:k=k'):EP X pins σ Q (.bool k') s:=by
 subst e;exact⟨.bl k,H,I,rfl,q⟩
theorem d4x:OpR X (compareOp .Lt) (rI0 fun i j=>.bl (decide (i < j))):=opB0 fun _ _ _ _ _ _ _ q=>lt_int q
theorem e2s:OpR X (compareOp .LtE) (rI0 fun i j=>.bl (decide (i<=j))):=opB0 fun _ _ _ _ _ _ _ q=>le_int q
theorem e5g:OpR X (compareOp .Gt) (rI0 fun i j=>.bl (decide (j < i))):=opB0 fun _ _ _ _ _ _ _ q=>gt_int q
theorem c9e:OpR X (compareOp .In) (fun x y H Q=>∃i j,x=.str i/\y=.str j/\Q (.bl (!(Builtin.Str.occurrences j i 0 j.length 1).isEmpty)) H):=by
 intro pins s σ H x y v u Q I rx ry h;obtain⟨i,j,rfl,rfl,q⟩:=h;obtain⟨t,rfl⟩:=rx;obtain⟨t',rfl⟩:=ry;exact in_str (b0w I q rfl)
theorem op_isN:OpR X (compareOp .Is) (fun x y H Q=>y=.non/\Q (.bl (decide (x=.non))) H):=by
 intro pins s σ H x y v u Q I rx ry h;obtain⟨rfl,q⟩:=h;cases ry;refine is_none_gen (b0w I q ?_);cases x <;> first
  |(cases rx;rfl)
  |(obtain⟨t,rfl⟩:=rx;rfl)
theorem op_notN:OpR X (compareOp .IsNot) (fun x y H Q=>y=.non/\Q (.bl (!decide (x=.non))) H):=by
 intro pins s σ H x y v u Q I rx ry h;obtain⟨rfl,q⟩:=h;cases ry;refine isnot_none_gen (b0w I q ?_);cases x <;> first
  |(cases rx;rfl)
  |(obtain⟨t,rfl⟩:=rx;rfl)
theorem c1b:OpR X (compareOp .NotIn) (fun x y H Q=>∃i j,x=.str i/\y=.str j/\Q (.bl (!(!(Builtin.Str.occurrences j i 0 j.length 1).isEmpty))) H):=by
 intro pins s σ H x y v u Q I rx ry h;obtain⟨i,j,rfl,rfl,q⟩:=h;obtain⟨t,rfl⟩:=rx;obtain⟨t',rfl⟩:=ry;exact notIn_str (b0w I q rfl)
theorem OpR.or{f:Value->Value->Sem Value}{r r':R2}(h:OpR X f r)(h':OpR X f r'):OpR X f (fun x y H Q=>r x y H Q\/r' x y H Q):=by
 intro pins s σ H x y v u Q I rx ry q;rcases q with q|q
 ·exact h pins s σ H x y v u Q I rx ry q
 ·exact h' pins s σ H x y v u Q I rx ry q
theorem d7q(b:Expr){op:CmpOp}(h:op≠.In:=by decide)(h2:op≠.NotIn:=by decide):behindInMarks op b=false:=by
 have e1:(op == CmpOp.In)=false:=by cases op <;> first|rfl|exact absurd rfl h
 have e2:(op == CmpOp.NotIn)=false:=by cases op <;> first|rfl|exact absurd rfl h2
 cases b <;> simp[behindInMarks,e1,e2]
theorem d9d{op:CmpOp}{r:R2}(ho:OpR X (compareOp op) r)(ha:PE X a ta)(hb:PE X b tb)(hm:behindInMarks op b=false):PE X (.Compare a [op] [b] pos) (tOp r ta tb):=by
 intro pins s σ H Q I h;exact wpAny_Compare1 (binT ha hb I h fun v u s2 x y H2 I2 rx ry q=>ho pins s2 σ H2 x y v u Q I2 rx ry q) hm
def tTest(t:TE):TT:=fun σ H Q=>t σ H fun x H'=>∃k,x=.bl k/\Q k H'
theorem d9e{op:CmpOp}{r:R2}(ho:OpR X (compareOp op) r)(ha:PE X a ta)(hb:PE X b tb)(hm:behindInMarks op b=false):PT X (.Compare a [op] [b] pos) (tTest (tOp r ta tb)):=by
 intro pins s σ H Q I h;refine wpAny_isTrue_Compare1 (thn (ha pins s σ H _ I h) fun v s1 ⟨x,H1,I1,r1,q1⟩=>thn (hb pins s1 σ H1 _ I1 q1) fun u s2 ⟨y,H2,I2,r2,q2⟩=>
  thn (ho pins s2 σ H2 x y v u _ I2 r1 r2 q2) fun c s3 ⟨z,H3,I3,r3,k,e,q3⟩=>?_) hm
 subst e;cases r3;exact wpAny_truthy_bool ⟨H3,I3,q3⟩
def e2t(r r':R2)(ta tb tc:TE):TE:=fun σ H Q=>ta σ H fun x H1=>tb σ H1 fun y H2=>r x y H2 fun z H3=>∃k,z=.bl k/\
 (if k=true then tc σ H3 fun w' H4=>r' y w' H4 Q else Q (.bl false) H3)
theorem d4y{op op':CmpOp}{r r':R2}(ho:OpR X (compareOp op) r)(ho':OpR X (compareOp op') r')(ha:PE X a ta)(hb:PE X b tb)(hc:PE X c tc)
  (hm:lastMarks [op,op'] [b,c]=false:=by with_unfolding_all rfl):PT X (.Compare a [op,op'] [b,c] pos) (tTest (e2t r r' ta tb tc)):=by
 intro pins s σ H Q I h;refine isTrue_chain (thn (ha pins s σ H _ I h) fun v s1 ⟨x,H1,I1,r1,q1⟩=>test_link (thn (hb pins s1 σ H1 _ I1 q1) fun u s2 ⟨y,H2,I2,r2,q2⟩=>
  thn (ho pins s2 σ H2 x y v u _ I2 r1 r2 q2) fun d s3 ⟨z,H3,I3,r3,k,e,q3⟩=>?_)) hm
 subst e;cases r3;refine wpAny_truthy_bool ?_;cases k with
 |false=>
  obtain⟨k',e',q'⟩:=q3;cases e';exact ite_ff ⟨H3,I3,q'⟩
 |true=>
  refine ite_tt (test_last (thn (hc pins s3 σ H3 _ I3 q3) fun w' s4 ⟨z',H4,I4,r4,q4⟩=>thn (ho' pins s4 σ H4 y z' u w' _ I4 r2 r4 q4) fun d' s5 ⟨z2,H5,I5,r5,k2,e2,q5⟩=>?_))
  subst e2;cases r5;exact wpAny_truthy_bool ⟨H5,I5,q5⟩
def TruV(K:L2.FG)(x:V)(H:Hp)(k:Bool):Prop:=
 match x with
 |.non=>k=false
 |.bl b=>k=b
 |.int i=>k=(i != 0)
 |.str y=>y.length<=sizeLine/\k=((y.length:Int) != 0)
 |.byt y=>y.size<=sizeLine/\k=((y.size:Int) != 0)
 |.ref p=>(∃xs,SqL K H p xs/\k = !xs.isEmpty)\/(∃xs,SqT K H p xs/\k = !xs.isEmpty)\/∃kvs,H p=some (.dK kvs)/\k = !kvs.isEmpty
 |_=>False
theorem c7g{κ:Type}{kvs:List (κ×V)}{vs:List (κ×Value)}(r:KV kvs vs):(!vs.isEmpty) = !kvs.isEmpty:=by
 cases r <;> rfl
theorem b7p{xs:List V}{its:List Value}(r:Vals xs its):(!its.toArray.isEmpty) = !xs.isEmpty:=by
 cases r <;> simp
theorem b5b:(sizeLine:Nat) < 2 ^ 63:=by rw[sizeLine_eq];decide
theorem e2u:TruR X (fun x H Q=>∃k,TruV X.K x H k/\Q k H):=by
 intro pins s σ H x v Q I rx h;obtain⟨k,e,q⟩:=h;have hl:=b5b;have hs:sizeLine=16777216:=sizeLine_eq;cases x with
 |non=>
  cases rx;have e':k=false:=e;subst e';exact truthy_none ⟨H,I,q⟩
 |bl b=>
  cases rx;have e':k=b:=e;subst e';exact wpAny_truthy_bool ⟨H,I,q⟩
 |int i=>
  obtain⟨t,rfl⟩:=rx;have e':k=(i != 0):=e;subst e';exact PySem.P.truthy_int ⟨H,I,q⟩
 |str y=>
  obtain⟨t,rfl⟩:=rx;obtain⟨hy,e'⟩:y.length<=sizeLine/\k=((y.length:Int) != 0):=e;subst e';exact PySem.P.truthy_str (by omega) ⟨H,I.tok _,q⟩
 |byt y=>
  obtain⟨t,rfl⟩:=rx;obtain⟨hy,e'⟩:y.size<=sizeLine/\k=((y.size:Int) != 0):=e;subst e';exact PySem.W.truthy_bytes (by omega) ⟨H,I.tok _,q⟩
 |ref p=>
  cases rx;have e':(∃xs,SqL X.K H p xs/\k = !xs.isEmpty)\/(∃xs,SqT X.K H p xs/\k = !xs.isEmpty)\/∃kvs,H p=some (.dK kvs)/\k = !kvs.isEmpty:=e;rcases e' with⟨xs,hx,e'⟩|⟨xs,hx,e'⟩|⟨kvs,hx,e'⟩
  ·subst e';obtain⟨its,r,pl,hz⟩:=I.list hx;have hlen:=r.length;exact wpAny_truthy_list pl.isList (by simp only[List.size_toArray];omega) ⟨H,I.tok _,by rw[b7p r];exact q⟩
  ·subst e';obtain⟨its,r,pl,hz⟩:=I.tuple hx;have hlen:=r.length;exact truthy_tuple pl (by simp only[List.size_toArray];omega) ⟨H,I.tok _,by rw[b7p r];exact q⟩
  ·subst e';obtain⟨hz,hS,vs,r,m⟩:kvs.length<=sizeLine/\(p == sysModules)=false/\∃vs,KV kvs vs/\s.heap.DictOf (c3g X.prog X.w) p vs:=I.hok p _ hx;have hlen:kvs.length=vs.length:=Paired.length r;exact wpAny_truthy_dict hS m (by omega) ⟨H,I.tok _,by rw[c7g r];exact q⟩
 |_=>exact(show False from e).elim
theorem d4z(ha:PE X a ta)(he:∀whole,isTrue a X.env whole=(do let v <-whole;standAt a.pos;holding [v] (truthy v))):
  PT X a (fun σ H Q=>ta σ H fun x H'=>∃k,TruV X.K x H' k/\Q k H'):=by
 intro pins s σ H Q I h;exact isTrue_plain (thn (ha pins s σ H _ I h) fun v s1 ⟨x,H1,I1,r1,q1⟩=>e2u pins s1 σ H1 x v Q I1 r1 q1) (he _)
theorem op_add_str:OpR X (binaryOp .Add) (fun x y H Q=>∃i j,x=.str i/\y=.str j/\i.length+j.length<=sizeLine/\Q (.str (i++j)) H):=by
 intro pins s σ H x y v u Q I rx ry h;obtain⟨i,j,rfl,rfl,hz,q⟩:=h;obtain⟨t,rfl⟩:=rx;obtain⟨t',rfl⟩:=ry;exact add_str (fun t' tk=>⟨.str (i++j),H,I.tok _,⟨_,rfl⟩,q⟩) hz
theorem vals1{x:V}{us:List Value}(r:Vals [x] us):∃u,us=[u]/\RelV x u:=by
 cases r with
 |cons r1 r2=>cases r2;exact⟨_,rfl,r1⟩
theorem vals2{x y:V}{us:List Value}(r:Vals [x,y] us):∃u w',us=[u,w']/\RelV x u/\RelV y w':=by
 cases r with
 |cons r1 r2=>
  cases r2 with
  |cons r3 r4=>cases r4;exact⟨_,_,rfl,r1,r3⟩
end
structure ObjM (h:Heap) (x dx C:Addr) (mA:Str->Option Value):Prop where
 obj:h.get? x=some (PySem.W.instObj C dx)
 ns:h.Ns1 dx mA
 ne:dx≠x
theorem c9f{h:Heap}{dx:Addr}{mA:Str->Option Value}(n:h.Ns1 dx mA):∃od,h.get? dx=some od/\∀name,PySem.W.lookIn name od=some (mA name):=by
 obtain⟨o,es,ep,ho,hd,hk,_,hm⟩:=n;refine⟨o,ho,fun name=>?_⟩
 have e:=hm name;unfold nsFind findBy at e;rw[<-Array.find?_toList] at e;unfold PySem.W.lookIn;rw[hd];dsimp only;split
 ·rename_i y q
  rw[q] at e;exact congrArg some e
 ·rename_i q
  rw[q] at e;have a:es.toList.any (·.refKey)=false:=by
   rw[List.any_eq_false];intro y hy;obtain⟨z,t,hkey⟩:=hk y (Array.mem_toList_iff.mp hy);simp[DictEntry.refKey,hkey]
  have a':¬es.toList.any (·.refKey)=true:=by rw[a];exact Bool.false_ne_true
  rw[if_neg a'];exact congrArg some e
theorem ObjM.look{h:Heap}{x dx C:Addr}{mA:Str->Option Value}(I:ObjM h x dx C mA):∃od,PySem.W.InstAt h x (PySem.W.instObj C dx) C (some od)/\∀name,PySem.W.lookIn name od=some (mA name):=
 let ⟨od,ho,hl⟩:=c9f I.ns
 ⟨od,⟨I.obj,rfl,rfl,ho⟩,hl⟩
section
variable {prog:Program} {w:World} {A:Around} {E:Value->Shared->Prop} {s:Shared} {K:L2.FG} {x dx C f:Addr} {mA:Str->Option Value} {name:Str} {v:Value}
theorem d9f{expr:Bool}{Q:Value->Shared->Prop}(X:K.In s.heap)(I:ObjM s.heap x dx C mA)(hg:PySem.W.plainGet K C name=true)(hh:PySem.W.hasDictIn K C=true)
  (ha:PySem.W.findIn K (.ref C) name=some none) (hv:mA name=some v) (hv':PySem.W.handedIn v=true) (h:Q v { s with toks:=s.toks+1}) :
  wpAny (model prog w) A (getAttr (.ref x) name expr) Q E s:=by
 obtain⟨od,J,hl⟩:=I.look;exact PySem.W.get_value X J (PySem.W.plainGet_of hg).1 (PySem.W.findObj_own hh ha rfl (by rw[hl,hv])) hv' h
theorem d5a{pl:Sem Bool}{Q:Value×List Value->Shared->Prop}(X:K.In s.heap)(I:ObjM s.heap x dx C mA)(hg:PySem.W.plainGet K C name=true)
  (hf:PySem.W.findIn K (.ref C) name=some (some (.ref f))) (ht:PySem.W.isFn K (.ref f)=true) (hv:mA name=none) (h:Q (.ref f,[.ref x]) s) :
  wpAny (model prog w) A (getMethod (.ref x) name pl) Q E s:=by
 obtain⟨od,J,hl⟩:=I.look;exact PySem.W.method_fn X J (PySem.W.plainGet_of hg).1 (PySem.W.plainGet_of hg).2 hf (beq_iff_eq.mp ht) (by show(PySem.W.lookIn name od).map (·.isSome)=some false;rw[hl,hv];rfl) h
theorem d9g{ns:List Str}{Q:Unit->Shared->Prop}(X:K.In s.heap)(I:ObjM s.heap x dx C mA)
  (hs:PySem.W.findIn K (.ref C) "__setattr__"=some (some (.builtin "object.__setattr__"))) (hp:PySem.W.plainOver K C=true) (ht:PySem.W.takerIn K C name=some none) (hh:PySem.W.hasDictIn K C=true)
  (hw:PySem.Within mA ns) (hsz:ns.length<=sizeLine)
  (h:∀h',ObjM h' x dx C (fun y=>if y=name then some v else mA y)->Heap.SameBut dx s.heap h'->Q () { s with heap:=h',toks:=s.toks+2}) :
  wpAny (model prog w) A (setAttr (.ref x) name v) Q E s:=by
 obtain⟨od,J,hl⟩:=I.look;refine PySem.W.set_plain X J hs (PySem.W.osa_open (s:={ s with toks:=s.toks+1}) (r:=none) X J hp ht fun b=>?_)
 obtain⟨cd,hc,hd'⟩:=PySem.W.any_some hh;have hx:s.heap.get? x=some ⟨.ref C,some dx,.plain,#[]⟩:=I.obj;refine wpAny_bind (wpAny_pure (wpAny_bind (wpAny_bind (wpAny_loadPart hx (wpAny_bind (PySem.W.Looks.here (s:={ s with toks:=s.toks+1}) (PySem.W.looks_clsIn X hc) ?_))))));rw[hd'];refine wpAny_pure (a:=some dx) (wpAny_bind (wpAny_pure (wpAny_bind ?_)));refine wpAny_nsSet1 (s:={ s with toks:=s.toks+1}) I.ns fun h' hn2 hs2=>?_
 obtain⟨oD,esD,epD,hoD,hdD,hcD⟩:=hn2.count (PySem.Within.cons name v hw);refine wpAny_bind (wpAny_lookBehind hoD (by rw[hdD];exact pastItsLine_dict (Nat.le_trans hcD (by rw[List.length_cons];omega))) ?_)
 exact wpAny_pure (h _ ⟨(hs2.2 _ (Ne.symm I.ne)).trans I.obj,hn2,I.ne⟩ hs2)
theorem d5b{R:Result->Shared->Prop}{vs:List Value}{kw:List (Str×Value)}(X:K.In s.heap)(hm:PySem.W.makesIn K C=true)
  (hi:PySem.W.findIn K (.ref C) "__init__"=some (some (.ref f))) (hf:PySem.W.typeIn K (.ref f)=some (.type "function"))
  (h:codeAny (model prog w) (A.under (.builtin "type.__call__" ⟨.ref C::vs,kw⟩)) (.call (.ref f) ⟨.ref (s.heap.objs.size+1)::vs,kw⟩) (PySem.W.InitBack (s.heap.objs.size+1) R)
   {s with heap:=(s.heap.push PySem.W.emptyDict).push (PySem.W.instObj C s.heap.objs.size)}) :
  codeAny (model prog w) A (.call (.ref C) ⟨vs,kw⟩) R s:=by
 obtain⟨hh,g,d,t,os⟩:=s;exact PySem.W.make_core (PySem.W.makes_of X hm) (PySem.W.looks_findIn X hi) (fun self=>PySem.W.bind_fn X self hf) (.inl rfl) h
end
def putF(f:Str)(v:V):List (Str×V)->List (Str×V)
 |[]=>[(f,v)]
 |(g,x)::r=>if g=f then(g,v)::r else(g,x)::putF f v r
theorem b5c(f g:Str)(v:V):∀fs:List (Str×V),(putF f v fs).lookup g=if g=f then some v else fs.lookup g
 |[]=>by
  show List.lookup g [(f,v)]=_;by_cases h:g=f
  ·have hb:(g == f)=true:=beq_iff_eq.mpr h;simp only[List.lookup,hb,if_pos h]
  ·have hb:(g == f)=false:=beq_eq_false_iff_ne.mpr h;simp only[List.lookup,hb,if_neg h]
 |(k,x)::r=>by
  have ih:=b5c f g v r;rw[show putF f v ((k,x)::r)=(if k=f then(k,v)::r else(k,x)::putF f v r) from rfl]
  by_cases hk:k=f
  ·rw[if_pos hk];by_cases h:g=k
   ·have hb:(g == k)=true:=beq_iff_eq.mpr h;simp only[List.lookup,hb,if_pos (h.trans hk)]
   ·have hb:(g == k)=false:=beq_eq_false_iff_ne.mpr h;simp only[List.lookup,hb,if_neg (fun e:g=f=>h (e.trans hk.symm))]
  ·rw[if_neg hk];by_cases h:g=k
   ·have hb:(g == k)=true:=beq_iff_eq.mpr h;simp only[List.lookup,hb,if_neg (fun e:g=f=>hk (h.symm.trans e))]
   ·have hb:(g == k)=false:=beq_eq_false_iff_ne.mpr h;simp only[List.lookup,hb];exact ih
theorem b5d(f:Str)(v:V):∀fs:List (Str×V),f∈(putF f v fs).map (·.1)/\∀g,g∈fs.map (·.1)->g∈(putF f v fs).map (·.1)
 |[]=>⟨by simp[putF],fun g h=>by simp at h⟩
 |(k,x)::r=>by
  obtain⟨i1,i2⟩:=b5d f v r;rw[show putF f v ((k,x)::r)=(if k=f then(k,v)::r else(k,x)::putF f v r) from rfl]
  by_cases hk:k=f
  ·rw[if_pos hk];subst hk;exact⟨by simp,fun g h=>by simpa using h⟩
  ·rw[if_neg hk];refine⟨?_,fun g h=>?_⟩
   ·rw[List.map_cons];exact List.mem_cons_of_mem _ i1
   ·rw[List.map_cons] at h ⊢;rcases List.mem_cons.mp h with e|e
    ·exact List.mem_cons.mpr (.inl e)
    ·exact List.mem_cons_of_mem _ (i2 g e)
theorem b5e(f:Str)(v:V):∀fs:List (Str×V),(putF f v fs).length<=fs.length+1
 |[]=>by simp[putF]
 |(k,x)::r=>by
  have ih:=b5e f v r;rw[show putF f v ((k,x)::r)=(if k=f then(k,v)::r else(k,x)::putF f v r) from rfl]
  by_cases hk:k=f
  ·rw[if_pos hk,List.length_cons,List.length_cons];omega
  ·rw[if_neg hk,List.length_cons,List.length_cons];omega
theorem RelO.some_of{v:V}{o:Option Value}(r:RelO (some v) o):∃u,o=some u/\RelV v u:=by
 cases o with
 |none=>exact(show False from r).elim
 |some u=>exact⟨u,rfl,r⟩
theorem RelO.none_of{o:Option Value}(r:RelO none o):o=none:=by
 cases o with
 |none=>rfl
 |some u=>exact(show False from r).elim
theorem c9g{v:V}{u:Value}(r:RelV v u):PySem.W.handedIn u=true:=by
 cases v with
 |non=>cases(show u=Value.none from r);rfl
 |bl b=>cases(show u=Value.bool b from r);rfl
 |int i=>obtain⟨t,e⟩:=(show ∃t,u=Value.int i t from r);cases e;rfl
 |str x=>obtain⟨t,e⟩:=(show ∃t,u=Value.str x t from r);cases e;rfl
 |byt b=>obtain⟨t,e⟩:=(show ∃t,u=Value.bytes b t from r);cases e;rfl
 |flt b=>obtain⟨t,e⟩:=(show ∃t,u=Value.float b t from r);cases e;rfl
 |ref a=>cases(show u=Value.ref a from r);rfl
 |ty n=>cases(show u=Value.type n from r);rfl
section
variable {P:Program} {w:World} {H H':Hp} {h h':Heap} {a C dx:Addr} {fs fs':List (Str×V)}
theorem c3i(hok:HOk P w H h)(e:H a=some (.ins C dx fs)):∃mA,ObjM h a dx C mA/\(∀f,RelO (fs.lookup f) (mA f))/\PySem.Within mA (fs.map (·.1))/\fs.length<=1000/\H dx=some (.own a):=by
 obtain⟨d,z,ne,ob,mA,n,r,q⟩:=(show ObjOk P w H h a (.ins C dx fs) from hok a _ e);exact⟨mA,⟨ob,n,ne⟩,r,q,z,d⟩
end
structure Cls (K:L2.FG) (C:Addr):Prop where
 pg:PySem.W.plainGet K C Str.empty=true
 hd:PySem.W.hasDictIn K C=true
 po:PySem.W.plainOver K C=true
 sa:PySem.W.findIn K (.ref C) "__setattr__"=some (some (.builtin "object.__setattr__"))
theorem Cls.get{K:L2.FG}{C:Addr}(c:Cls K C)(f:Str):PySem.W.plainGet K C f=true:=c.pg
def NoAttr(K:L2.FG)(C:Addr)(f:Str):Prop:=PySem.W.findIn K (.ref C) f=some none
theorem NoAttr.taker{K:L2.FG}{C:Addr}{f:Str}(n:NoAttr K C f):PySem.W.takerIn K C f=some none:=by
 unfold PySem.W.takerIn;rw[show PySem.W.findIn K (.ref C) f=some none from n];rfl
structure Con (K:L2.FG) (C:Addr) (f:Str) (v:V) (u:Value):Prop where
 at_:PySem.W.findIn K (.ref C) f=some (some u)
 rel:RelV v u
 get:PySem.W.specialIn K u "__get__"=some none
 cp:PySem.W.copiedNames.contains f=false
structure Meth (K:L2.FG) (C:Addr) (m:Str) (f:Addr):Prop where
 at_:PySem.W.findIn K (.ref C) m=some (some (.ref f))
 fn:PySem.W.isFn K (.ref f)=true
 kp:PySem.W.keepIn K (.ref f)=true
section
variable {X:Cx} {pins:List (Addr×Obj)} {σ:St} {H:Hp} {s:Shared} {a C dx:Addr} {fs:List (Str×V)} {f:Str} {v:V} {A:Around} {E:Value->Shared->Prop}
theorem c7h{b:Bool}{Q:Value->Shared->Prop}(I:Inv X pins σ H s)(e:H a=some (.ins C dx fs))(c:Cls X.K C)(n:NoAttr X.K C f)(l:fs.lookup f=some v)
  (h:∀u s',Inv X pins σ H s'->RelV v u->Q u s'):wpAny (model X.prog X.w) A (getAttr (.ref a) f b) Q E s:=by
 obtain⟨mA,O,r,_,_,_⟩:=c3i I.hok e;obtain⟨u,hu,ru⟩:=RelO.some_of (v:=v) (o:=mA f) (by rw[<-l];exact r f)
 exact d9f I.kIn O (c.get f) c.hd n hu (c9g ru) (h u _ (I.tok _) ru)
theorem b7q{m:Str}{g:Addr}{pl:Sem Bool}{Q:Value×List Value->Shared->Prop}(I:Inv X pins σ H s)(e:H a=some (.ins C dx fs))(c:Cls X.K C)(k:Meth X.K C m g)(l:fs.lookup m=none)
  (h:Q (.ref g,[.ref a]) s):wpAny (model X.prog X.w) A (getMethod (.ref a) m pl) Q E s:=by
 obtain⟨mA,O,r,_,_,_⟩:=c3i I.hok e;have hn:mA m=none:=RelO.none_of (by rw[<-l];exact r m)
 exact d5a I.kIn O (c.get m) k.at_ k.fn hn h
theorem c7i{y:V}{u:Value}{Q:Unit->Shared->Prop}(I:Inv X pins σ H s)(e:H a=some (.ins C dx fs))(c:Cls X.K C)(n:NoAttr X.K C f)(hl:fs.length < 1000)(ry:RelV y u)
  (h:∀s',Inv X pins σ (upd H a (.ins C dx (putF f y fs))) s'->Q () s'):wpAny (model X.prog X.w) A (setAttr (.ref a) f u) Q E s:=by
 obtain⟨mA,O,r,wi,_,ho⟩:=c3i I.hok e;have hz:(fs.map (·.1)).length<=sizeLine:=by rw[List.length_map,sizeLine_eq];omega
 refine d9g I.kIn O c.sa c.po n.taker c.hd wi hz fun h' O' sb=>h _ ?_
 have hd:∃o,h'.get? dx=some o:=let ⟨o,_,_,e',_⟩:=O'.ns;⟨o,e'⟩
 refine I.write (x:=a) (e:=dx) (by rw[e];exact True.intro) (.inr ho) (fun b q hb z=>(sb.2 b hb).trans z) hd ?_
 refine⟨by rw[a0v O.ne];exact ho,?_,O.ne,O'.obj,_,O'.ns,fun g=>?_,fun g hg=>?_⟩
 ·have:=b5e f y fs;omega
 ·show RelO ((putF f y fs).lookup g) (if g=f then some u else mA g)
  rw[b5c];by_cases q:g=f
  ·rw[if_pos q,if_pos q];exact ry
  ·rw[if_neg q,if_neg q];exact r g
 ·by_cases q:g=f
  ·rw[q];exact(b5d f y fs).1
  ·refine(b5d f y fs).2 g (wi g fun z=>hg ?_)
   show(if g=f then some u else mA g)=none
   rw[if_neg q];exact z
theorem Inv.made(I:Inv X pins σ H s):Inv X pins σ (upd (upd H s.heap.objs.size (.own (s.heap.objs.size+1))) (s.heap.objs.size+1) (.ins C s.heap.objs.size []))
  {s with heap:=(s.heap.push PySem.W.emptyDict).push (PySem.W.instObj C s.heap.objs.size)}:=by
 have e1:(s.heap.push PySem.W.emptyDict).get? s.heap.objs.size=some PySem.W.emptyDict:=Heap.get?_push_size s.heap rfl;have e2:((s.heap.push PySem.W.emptyDict).push (PySem.W.instObj C s.heap.objs.size)).get? (s.heap.objs.size+1)=some (PySem.W.instObj C s.heap.objs.size):=by
  have:=Heap.get?_push_size (s.heap.push PySem.W.emptyDict) (o:=PySem.W.instObj C s.heap.objs.size) rfl
  rwa [Heap.size_push] at this
 have e3:(s.heap.push PySem.W.emptyDict).Ns s.heap.objs.size (fun _=>none):=⟨PySem.W.emptyDict,#[],_,e1,rfl,(fun e he=>absurd he (by simp)),fun _=>rfl⟩
 have I1:=I.laid (a:=s.heap.objs.size) (o:=.own (s.heap.objs.size+1)) (h':=s.heap.push PySem.W.emptyDict) (t':=s.toks) (fun b u q=>Heap.get?_push_of_some _ q) (Nat.le_refl _) ⟨_,e1⟩
 refine I1.laid (a:=s.heap.objs.size+1) (o:=.ins C s.heap.objs.size []) (t':=s.toks) (fun b u q=>Heap.get?_push_of_some _ q) (Nat.le_of_eq (Heap.size_push _ _)) ?_
 have ne:s.heap.objs.size≠s.heap.objs.size+1:=Nat.ne_of_lt (Nat.lt_succ_self _);refine⟨by rw[a0v ne,a2d],Nat.zero_le _,ne,e2,fun _=>none,(Heap.Ns1.of_empty e3).at fun o q=>Heap.get?_push_of_some _ q,fun _=>True.intro,fun y hy=>absurd rfl hy⟩
theorem d9h{prog:Program}{w:World}{env:Env}{e:Expr}{f:Str}{pos:Pos}{s:Shared}{Q:Value->Shared->Prop}(hb:attributeBase e f env (eval e env)=eval e env)
  (h:wpAny (model prog w) A (eval e env) (fun o s₁=>wpAny (model prog w) A (getAttr o f true) Q E s₁) E s):wpAny (model prog w) A (eval (.Attribute e f pos) env) Q E s:=
 Attribute_any_ h (by rw[arm_eval_Attribute,hb])
end
def tFld(K:L2.FG)(ta:TE)(f:Str):TE:=fun σ H Q=>ta σ H fun x H1=>∃a C dx fs v,x=.ref a/\H1 a=some (.ins C dx fs)/\Cls K C/\NoAttr K C f/\fs.lookup f=some v/\Q v H1
def sFld(K:L2.FG)(ta tv:TE)(f:Str):TS:=fun D σ H=>tv σ H fun y H1=>ta σ H1 fun x H2=>∃a C dx fs,x=.ref a/\H2 a=some (.ins C dx fs)/\Cls K C/\NoAttr K C f/\fs.length < 1000/\
 D.nx σ (upd H2 a (.ins C dx (putF f y fs)))
section
variable {X:Cx} {o e value:Expr} {f:Str} {pos pos' tpos:Pos} {ta tv:TE}
theorem e2v(he:PE X e ta)(hb:attributeBase e f X.env (eval e X.env)=eval e X.env):PE X (.Attribute e f pos) (tFld X.K ta f):=by
 intro pins s σ H Q I h;refine d9h hb (thn (he pins s σ H _ I h) fun u s1 hh=>?_)
 obtain⟨x,H1,I1,rx,a,C,dx,fs,v,ex,ea,c,n,l,q⟩:=hh;subst ex;obtain rfl:u=Value.ref a:=rx;exact c7h I1 ea c n l fun u' s2 I2 ru=>⟨v,H1,I2,ru,q⟩
theorem e2w(ha:PE X o ta)(hv:PE X value tv)(hs:swapsWith value (some (.Attribute o f pos')) pos.line X.env=pure false):PS X (.Assign [.Attribute o f pos'] value pos) (sFld X.K ta tv f):=by
 intro pins s σ H D I h;refine plainObj_wpAny_Assign_Attribute (thn (hv pins s σ H _ I h) fun u s1 ⟨y,H1,I1,ry,q⟩=>thn (ha pins s1 σ H1 _ I1 q) fun ov s2 ⟨x,H2,I2,rx,a,C,dx,fs,ex,ea,c,n,l,q2⟩=>?_) hs
 subst ex;obtain rfl:ov=Value.ref a:=rx;exact c7i I2 ea c n l ry fun s3 I3=>⟨σ,_,I3,q2⟩
end
section
variable {X:Cx} {pins:List (Addr×Obj)} {σ:St} {H:Hp} {s:Shared} {A:Around} {E:Value->Shared->Prop} {Q:Value->Shared->Prop} {c:Value} {b:Bool}
inductive TyOf (K:L2.FG) (H:Hp):V->Value->Prop where
 |non:TyOf K H .non (.type "NoneType")
 |bl (x:Bool):TyOf K H (.bl x) (.type "bool")
 |int (i:Int):TyOf K H (.int i) (.type "int")
 |str (x:Str):TyOf K H (.str x) (.type "str")
 |flt (x:UInt64):TyOf K H (.flt x) (.type "float")
 |lst {a:Addr} {xs:List V} (e:H a=some (.lst xs)):TyOf K H (.ref a) (.type "list")
 |frz {a:Addr} {o:Obj} {xs:List V} (e:H a=some (.frz o (.lst xs))):TyOf K H (.ref a) (.type "list")
 |tup {a:Addr} {xs:List V} (e:H a=some (.tup xs)):TyOf K H (.ref a) (.type "tuple")
 |dK {a:Addr} {kvs:List (Key×V)} (e:H a=some (.dK kvs)):TyOf K H (.ref a) (.type "dict")
 |dT {a:Addr} {kvs:List (List Key×V)} (e:H a=some (.dT kvs)):TyOf K H (.ref a) (.type "dict")
 |ins {a C dx:Addr} {fs:List (Str×V)} (e:H a=some (.ins C dx fs)) (cl:Cls K C) (ha:PySem.W.findIn K (.ref C) "__class__"=some (some (.builtin "object.__class__")))
   (hn:PySem.W.specialIn K (.builtin "object.__class__") "__get__"=some (some (.builtin "getset_descriptor.__get__"))) (htk:PySem.W.takesIn K (.builtin "object.__class__")=some true)
   (hm:PySem.W.mroIn K C (.type "object")=some true):TyOf K H (.ref a) (.ref C)
end
structure Room (k:Nat) (A:Around):Prop where
 hd:A.handled=none
 dp:A.depth+3 * k+5 < recursionLimit
 un:A.units+16 * k+200 < cLine
theorem Room.mono{j k:Nat}{A:Around}(r:Room k A)(h:j<=k):Room j A:=⟨r.hd,by have:=r.dp;omega,by have:=r.un;omega⟩
theorem Room.deeper{k:Nat}{A:Around}(r:Room (k+1) A)(env:Env):Room k (A.deeper env):=
 ⟨r.hd,by have:=r.dp;show A.depth+1+3 * k+5 < _;omega,by have:=r.un;show A.units+3+16 * k+200 < _;omega⟩
theorem c7j{A:Around}{C:Addr}{us:List Value}{kw:List (Str×Value)}:(A.under (.builtin "type.__call__" ⟨.ref C::us,kw⟩)).depth=A.depth+1:=by
 first|rfl|simp[Around.under,Code.weight,Code.isCreation,Code.isGuard,Code.isCaller,Code.frames,Code.isFrame,guardIds]
theorem c7k{A:Around}{C:Addr}{us:List Value}{kw:List (Str×Value)}:(A.under (.builtin "type.__call__" ⟨.ref C::us,kw⟩)).units=A.units+1:=by
 first|rfl|simp[Around.under,Code.cUnits,Code.frames,Code.isFrame]
theorem Room.make{k:Nat}{A:Around}(r:Room (k+1) A)(C:Addr)(us:List Value)(kw:List (Str×Value)):Room k (A.under (.builtin "type.__call__" ⟨.ref C::us,kw⟩)):=
 ⟨r.hd,by have:=r.dp;rw[c7j];omega,by have:=r.un;rw[c7k];omega⟩
theorem Room.depth{k:Nat}{A:Around}(r:Room k A):A.depth < recursionLimit:=by have:=r.dp;omega
theorem Room.units{k:Nat}{A:Around}(r:Room k A):A.units+64 < cLine:=by have:=r.un;omega
def tNil:TA:=fun _ H Q=>Q [] H
def tCons(ta:TE)(tr:TA):TA:=fun σ H Q=>ta σ H fun x H1=>tr σ H1 fun xs H2=>Q (x::xs) H2
section
variable {X:Cx} {e:Expr} {es:List Expr} {te:TE} {t:TA} {pos:Pos}
theorem pa_nil:PA X [] tNil:=fun _ _ _ _ H Q I h=>Calls.spliced_nil ⟨[],H,I,.nil,h⟩
theorem c9h(ha:PE X e te)(hr:PA X es t)(hs:starEach (e::es) X.env=(false,eval e X.env)::starEach es X.env:=by rfl):PA X (e::es) (tCons te t):=by
 intro pos pins s σ H Q I h;rw[hs];show wpAny _ _ (spliced ((false,eval e X.env)::backTo pos (starEach es X.env))) _ _ s;refine Calls.spliced_cons (thn (ha pins s σ H _ I h) fun u s1 hh=>?_)
 obtain⟨x,H1,I1,r1,q1⟩:=hh;exact thn (hr pos pins s1 σ H1 _ I1 q1) fun us s2 ⟨xs,H2,I2,r2,q2⟩=>⟨x::xs,H2,I2,.cons r1 r2,q2⟩
def tTup(t:TA):TE:=fun σ H Q=>t σ H fun xs H1=>xs.length<=sizeLine/\∀p,H1 p=none->Q (.ref p) (upd H1 p (.tup xs))
def tLst(t:TA):TE:=fun σ H Q=>t σ H fun xs H1=>xs.length<=sizeLine/\∀p,H1 p=none->Q (.ref p) (upd H1 p (.lst xs))
theorem e2x{x1}(h:PA X es t):PE X (.Tuple es x1 pos) (tTup t):=by
 intro pins s σ H Q I hq;refine wpAny_Tuple_spliced (thn (h pos pins s σ H _ I hq) fun us s1 ⟨xs,H1,I1,r,z,q⟩=>⟨by rw[<-r.length];exact z,?_⟩)
 have hf:H1 s1.heap.objs.size=none:=I1.hok.fresh (Nat.le_refl _);refine⟨.ref s1.heap.objs.size,upd H1 s1.heap.objs.size (.tup xs),I1.laid (t':=s1.toks) (fun b u e=>Heap.get?_push_of_some _ e) (Nat.le_refl _) ?_,rfl,q _ hf⟩
 exact⟨z,us,r,⟨_,Heap.get?_push_size _ rfl,rfl,_,rfl⟩⟩
theorem e2y(h:PA X es t):PE X (.List es pos) (tLst t):=by
 intro pins s σ H Q I hq;refine wpAny_List_spliced (thn (h pos pins s σ H _ I hq) fun us s1 ⟨xs,H1,I1,r,z,q⟩=>⟨by rw[<-r.length];exact z,?_⟩)
 have hf:H1 s1.heap.objs.size=none:=I1.hok.fresh (Nat.le_refl _);refine⟨.ref s1.heap.objs.size,upd H1 s1.heap.objs.size (.lst xs),I1.laid (t':=s1.toks) (fun b u e=>Heap.get?_push_of_some _ e) (Nat.le_refl _) ?_,rfl,q _ hf⟩
 exact⟨z,us,0,r,Heap.get?_push_size _ rfl⟩
end
abbrev Sp:=List V->Hp->VK->XK->Prop
abbrev CXT:=List Env->Hp->Shared->XK->Value->Shared->Prop
structure Env0 (P:Program) (w:World) (K:L2.FG) (mg:Str->Option Value) (base:Heap) (A:Around) (outer:List Env) (s:Shared) (H:Hp):Prop where
 frames:A.frames=some outer
 mod:Mod K mg base
 bs:∀b o,base.get? b=some o->s.heap.get? b=some o/\H b=none
 bsz:base.objs.size<=s.heap.objs.size
 funs:s.heap.FunFrames base outer
 frf:∀b∈frs outer,H b=none
 hok:HOk P w H s.heap
 bare:AllBare s.gens
def CE(outer:List Env)(P:Program)(w:World)(H:Hp)(s:Shared)(Q:VK)(u:Value)(s':Shared):Prop:=
 ∃v H',s'.os=s.os/\AllBare s'.gens/\Un (frs outer) [] H H' s.heap s'.heap/\HOk P w H' s'.heap/\RelV v u/\Q v H'
def CR(CX:CXT)(outer:List Env)(P:Program)(w:World)(H:Hp)(s:Shared)(Q:VK)(E:XK)(r:Result)(s':Shared):Prop:=
 match r with
 |.ok (.ret u)=>CE outer P w H s Q u s'
 |.ok _=>False
 |.error e=>CX outer H s E e s'
structure FnOk (P:Program) (w:World) (K:L2.FG) (mg:Str->Option Value) (base:Heap) (CX:CXT) (k:Nat) (f:Addr) (fd:FuncData) (ps:List Str) (sp:Sp):Prop where
 len:∀vs H Q E,sp vs H Q E->vs.length=ps.length
 run:∀(A:Around) (outer:List Env) (s:Shared) (H:Hp) (args:Args) (us:List Value) (vs:List V) (Q:VK) (E:XK),Room k A->Env0 P w K mg base A outer s H->BindsTo s fd args (ps.zip us)->Vals vs us->sp vs H Q E->
  codeAny (model P w) A (.call (.ref f) args) (CR CX outer P w H s Q E) s
theorem FnOk.imp{P:Program}{w:World}{K:L2.FG}{mg:Str->Option Value}{base:Heap}{CX:CXT}{k:Nat}{f:Addr}{fd:FuncData}{ps:List Str}{sp sp':Sp}(F:FnOk P w K mg base CX k f fd ps sp)
  (h:∀vs H Q E,sp' vs H Q E->sp vs H Q E):FnOk P w K mg base CX k f fd ps sp':=
 ⟨fun vs H Q E q=>F.len vs H Q E (h _ _ _ _ q),fun A outer s H args us vs Q E hr he hb hv hs=>F.run A outer s H args us vs Q E hr he hb hv (h _ _ _ _ hs)⟩
theorem Env0.make{P:Program}{w:World}{K:L2.FG}{mg:Str->Option Value}{base:Heap}{A:Around}{outer:List Env}{s:Shared}{H:Hp}(e:Env0 P w K mg base A outer s H)(C:Addr)(us:List Value)(kw:List (Str×Value)):
  Env0 P w K mg base (A.under (.builtin "type.__call__" ⟨.ref C::us,kw⟩)) outer s H:=⟨by first|exact e.frames|(simpa[Around.under,Code.envs,Code.isFrame,pushEnvs] using e.frames),e.mod,e.bs,e.bsz,e.funs,e.frf,e.hok,e.bare⟩
section
variable {X:Cx} {pins:List (Addr×Obj)} {σ:St} {H:Hp} {s s':Shared}
theorem Inv.env0(I:Inv X pins σ H s):Env0 X.prog X.w X.K X.mg X.base X.A X.stack s H:=
 ⟨I.ok.frames,I.ok.mod,I.bs,Nat.le_trans I.ok.bsz I.sz,I.stack,I.stkFree,I.hok,I.bare⟩
theorem Inv.after{Q:VK}{u:Value}(I:Inv X pins σ H s)(h:CE X.stack X.prog X.w H s Q u s'):EP X pins σ Q u s':=by
 obtain⟨v,H',os,bare,un,hok,r,q⟩:=h;obtain⟨hh,g,d,t,os'⟩:=s';obtain rfl:os'=s.os:=os;exact⟨v,H',I.call (h':=hh) (g':=g) (d':=d) (t':=t) (ch:=[]) un hok bare (fun b z=>absurd z (by simp)),r,q⟩
end
def tCall(sp:Sp)(dvs:List V)(E:St->XK)(t:TA):TE:=fun σ H Q=>t σ H fun vs H1=>sp (vs++dvs) H1 Q (E σ)
def tMeth(C:Addr)(m:Str)(sp:Sp)(dvs:List V)(E:St->XK)(ta:TE)(t:TA):TE:=fun σ H Q=>ta σ H fun x H1=>∃a dx fs,x=.ref a/\H1 a=some (.ins C dx fs)/\fs.lookup m=none/\
 t σ H1 fun vs H2=>sp (x::(vs++dvs)) H2 Q (E σ)
def tMake(C:Addr)(sp:Sp)(dvs:List V)(E:St->XK)(t:TA):TE:=fun σ H Q=>t σ H fun vs H1=>∀x dx,H1 x=none->H1 dx=none->dx≠x->
 sp (.ref x::(vs++dvs)) (upd (upd H1 dx (.own x)) x (.ins C dx [])) (fun v H2=>v=.non/\Q (.ref x) H2) (E σ)
def Binds(K:L2.FG)(fd:FuncData)(ps:List Str)(ds:List Value):Prop:=
 ∀(s:Shared) (us:List Value),K.In s.heap->(us++ds).length=ps.length->BindsTo s fd ⟨us,[]⟩ (ps.zip (us++ds))
theorem Binds.all{K:L2.FG}{fd:FuncData}{ps:List Str}(h:∀us:List Value,us.length=ps.length->bindArgs fd ⟨us,[]⟩=pure (ps.zip us)):Binds K fd ps []:=fun s us _ hl=>by
 rw[List.append_nil] at hl ⊢;exact .of_eq (h us hl)
def b3c(CX:CXT)(X:Cx)(E:St->XK):Prop:=∀(pins:List (Addr×Obj)) (σ:St) (H:Hp) (s:Shared) (e:Value) (s':Shared),Inv X pins σ H s->CX X.stack H s (E σ) e s'->X.xe e s'
section
variable {X:Cx} {CX:CXT} {k:Nat} {f C:Addr} {fd:FuncData} {ps:List Str} {sp:Sp} {dvs:List V} {ds:List Value} {E:St->XK} {x m:Str} {p pos apos:Pos} {e o:Expr} {es:List Expr} {ta:TE} {t:TA}
theorem c9i{pins:List (Addr×Obj)}{σ:St}{H:Hp}{s:Shared}{Q:VK}{us:List Value}{vs:List V}(F:FnOk X.prog X.w X.K X.mg X.base CX k f fd ps sp)(hr:Room k X.A)(hb:Binds X.K fd ps ds)(hd:Vals dvs ds)(hx:b3c CX X E)
  (I:Inv X pins σ H s) (r:Vals vs us) (h:sp (vs++dvs) H Q (E σ)):wpAny (model X.prog X.w) X.A (call (.ref f) us) (EP X pins σ Q) X.xe s:=by
 have r2:Vals (vs++dvs) (us++ds):=r.append hd;have hl:(us++ds).length=ps.length:=by rw[<-r2.length];exact F.len _ _ _ _ h
 refine wpAny_call (codeAny_mono (F.run X.A X.stack s H ⟨us,[]⟩ (us++ds) (vs++dvs) Q (E σ) hr I.env0 (hb s us I.kIn hl) r2 h) fun r s' hq=>?_)
 cases r with
 |error e=>exact hx pins σ H s e s' I hq
 |ok fl=>
  cases fl with
  |ret u=>exact I.after hq
  |next=>exact False.elim hq
  |brk=>exact False.elim hq
  |cont=>exact False.elim hq
theorem c9j(F:FnOk X.prog X.w X.K X.mg X.base CX k f fd ps sp)(hr:Room k X.A)(hg:Gl X x)(hm:X.mg x=some (.ref f))(hk:PySem.W.keepIn X.K (.ref f)=true)(hb:Binds X.K fd ps ds)(hd:Vals dvs ds)(hx:b3c CX X E)
  (ha:PA X (e::es) t) (hdb:(x == ("__debug__":Str))=false:=by decide) (he:starEach (e::es) X.env=(false,eval e X.env)::starEach es X.env:=by rfl) (hpl:(backTo pos (starEach es X.env)).any (·.1)=false:=by rfl) :
  PE X (.Call (.Name x p) (e::es) [] pos) (tCall sp dvs E t):=by
 intro pins s σ H Q I h;refine wpAny_Call_Name_kw (b4z I hg hm ?_ hdb);refine PySem.W.callWith_K (h₀:=X.base) I.ok.mod.kin hk (thn (ha pos pins s σ H _ I h) fun us s1 ⟨vs,H1,I1,r,q⟩=>⟨I1.kIn,?_⟩) he hpl
 exact c9i F hr hb hd hx I1 r q
theorem d9i{pl:Sem Bool}(he:PE X o ta)(c:Cls X.K C)(hm:Meth X.K C m f)(F:FnOk X.prog X.w X.K X.mg X.base CX k f fd ps sp)(hr:Room k X.A)(hb:Binds X.K fd ps ds)(hd:Vals dvs ds)(hx:b3c CX X E)(ha:PA X (e::es) t)
  (hst:starEach (e::es) X.env=(false,eval e X.env)::starEach es X.env:=by rfl) (hpl:(backTo pos (starEach es X.env)).any (·.1)=false:=by rfl)
  (ht:eval (.Call (.Attribute o m apos) (e::es) [] pos) X.env=(do
   let ov <-eval o X.env
   standAt apos.atName
   let (f,first) <-holding [ov] (getMethod ov m pl)
   callWith pos f first (backTo pos (starEach (e::es) X.env)) (backToKw pos (keywordEach [] X.env))):=by rfl) :
  PE X (.Call (.Attribute o m apos) (e::es) [] pos) (tMeth C m sp dvs E ta t):=by
 intro pins s σ H Q I h;refine PySem.W.methodCall_KW (pl:=pl) (thn (he pins s σ H _ I h) fun u s1 hh=>?_) ht
 obtain⟨x,H1,I1,rx,a,dx,fs,ex,ea,l,q⟩:=hh;subst ex;obtain rfl:u=Value.ref a:=rx;refine b7q I1 ea c hm l ?_;refine PySem.W.callWith_K (first:=[.ref a]) (h₀:=X.base) I.ok.mod.kin hm.kp (thn (ha pos pins s1 σ H1 _ I1 q) fun us s2 ⟨vs,H2,I2,r,q2⟩=>⟨I2.kIn,?_⟩) hst hpl
 exact c9i (us:=.ref a::us) (vs:=.ref a::vs) F hr hb hd hx I2 (.cons rfl r) q2
theorem d5c{pl:Sem Bool}(he:PE X o ta)(c:Cls X.K C)(hm:Meth X.K C m f)(F:FnOk X.prog X.w X.K X.mg X.base CX k f fd ps sp)(hr:Room k X.A)(hb:Binds X.K fd ps ds)(hd:Vals dvs ds)(hx:b3c CX X E)
  (ht:eval (.Call (.Attribute o m apos) [] [] pos) X.env=(do
   let ov <-eval o X.env
   standAt apos.atName
   let (f,first) <-holding [ov] (getMethod ov m pl)
   callWith pos f first (backTo pos (starEach [] X.env)) (backToKw pos (keywordEach [] X.env))):=by rfl) :
  PE X (.Call (.Attribute o m apos) [] [] pos) (tMeth C m sp dvs E ta tNil):=by
 intro pins s σ H Q I h;refine PySem.W.methodCall_KW (pl:=pl) (thn (he pins s σ H _ I h) fun u s1 hh=>?_) ht
 obtain⟨x,H1,I1,rx,a,dx,fs,ex,ea,l,q⟩:=hh;subst ex;obtain rfl:u=Value.ref a:=rx;refine b7q I1 ea c hm l ?_;exact PySem.W.callWith_K0 (first:=[.ref a]) I1.kIn hm.kp (c9i (us:=[.ref a]) (vs:=[.ref a]) F hr hb hd hx I1 (.cons rfl .nil) q)
structure Mk (K:L2.FG) (C f:Addr):Prop where
 makes:PySem.W.makesIn K C=true
 init:PySem.W.findIn K (.ref C) "__init__"=some (some (.ref f))
 fn:PySem.W.isFn K (.ref f)=true
 kp:PySem.W.keepIn K (.ref C)=true
theorem d5d{pins:List (Addr×Obj)}{σ:St}{H:Hp}{s:Shared}{Q:VK}{us:List Value}{vs:List V}(M:Mk X.K C f)(F:FnOk X.prog X.w X.K X.mg X.base CX k f fd ps sp)(hr:Room (k+1) X.A)(hb:Binds X.K fd ps ds)(hd:Vals dvs ds)
  (hx:b3c CX X E) (I:Inv X pins σ H s) (r:Vals vs us)
  (h:∀x dx,H x=none->H dx=none->dx≠x->sp (.ref x::(vs++dvs)) (upd (upd H dx (.own x)) x (.ins C dx [])) (fun v H2=>v=.non/\Q (.ref x) H2) (E σ)) :
  wpAny (model X.prog X.w) X.A (call (.ref C) us) (EP X pins σ Q) X.xe s:=by
 have hq:=h (s.heap.objs.size+1) s.heap.objs.size (I.hok.fresh (Nat.le_succ _)) (I.hok.fresh (Nat.le_refl _)) (Nat.ne_of_lt (Nat.lt_succ_self _));have I2:=Inv.made (C:=C) I;have r2:Vals (V.ref (s.heap.objs.size+1)::(vs++dvs)) (Value.ref (s.heap.objs.size+1)::(us++ds)):=.cons rfl (r.append hd);have hl:(Value.ref (s.heap.objs.size+1)::us++ds).length=ps.length:=by
  have e:=r2.length;rw[F.len _ _ _ _ hq] at e;exact e.symm
 refine wpAny_call (d5b (f:=f) I.kIn M.makes M.init (beq_iff_eq.mp M.fn) (codeAny_mono (F.run _ X.stack _ _ ⟨Value.ref (s.heap.objs.size+1)::us,[]⟩ (Value.ref (s.heap.objs.size+1)::(us++ds)) _ _ (E σ) (hr.make C us [])
  (I2.env0.make C us []) (hb _ (Value.ref (s.heap.objs.size+1)::us) I2.kIn hl) r2 hq) fun r s' hq'=>?_))
 cases r with
 |error e=>exact hx pins σ _ _ e s' I2 hq'
 |ok fl=>
  cases fl with
  |ret u=>
   obtain⟨v,H',I3,rv,ev,q3⟩:=I2.after hq';subst ev;exact⟨rv,⟨V.ref (s.heap.objs.size+1),H',I3,rfl,q3⟩⟩
  |next=>exact False.elim hq'
  |brk=>exact False.elim hq'
  |cont=>exact False.elim hq'
theorem d9j(M:Mk X.K C f)(F:FnOk X.prog X.w X.K X.mg X.base CX k f fd ps sp)(hr:Room (k+1) X.A)(hg:Gl X x)(hm:X.mg x=some (.ref C))(hb:Binds X.K fd ps ds)(hd:Vals dvs ds)(hx:b3c CX X E)
  (ha:PA X (e::es) t) (hdb:(x == ("__debug__":Str))=false:=by decide) (he:starEach (e::es) X.env=(false,eval e X.env)::starEach es X.env:=by rfl) (hpl:(backTo pos (starEach es X.env)).any (·.1)=false:=by rfl) :
  PE X (.Call (.Name x p) (e::es) [] pos) (tMake C sp dvs E t):=by
 intro pins s σ H Q I h;refine wpAny_Call_Name_kw (b4z I hg hm ?_ hdb);refine PySem.W.callWith_K (h₀:=X.base) I.ok.mod.kin M.kp (thn (ha pos pins s σ H _ I h) fun us s1 ⟨vs,H1,I1,r,q⟩=>⟨I1.kIn,?_⟩) he hpl
 exact d5d M F hr hb hd hx I1 r q
end
section
variable {X:Cx} {CX:CXT} {k:Nat} {f C:Addr} {fd:FuncData} {ps ks:List Str} {sp:Sp} {E:St->XK} {x m:Str} {p pos apos kpos:Pos} {e o:Expr} {es:List Expr} {kws:List Keyword} {te ta:TE} {t tk:TA} {nm:Option Str}
structure KBinds (K:L2.FG) (fd:FuncData) (ps ks:List Str) (g:List Value->List Value->List Value) (gV:List V->List V->List V):Prop where
 to:∀(s:Shared) (us ws:List Value),K.In s.heap->(g us ws).length=ps.length->BindsTo s fd ⟨us,ks.zip ws⟩ (ps.zip (g us ws))
 rel:∀{vs:List V} {us:List Value} {zs:List V} {ws:List Value},Vals vs us->Vals zs ws->Vals (gV vs zs) (g us ws)
variable {g:List Value->List Value->List Value} {gV:List V->List V->List V}
end
structure FnScope (N P:List Str) (sc:Scope):Prop where
 kind:sc.kind=.function
 co:sc.isCoroutine=false
 gen:sc.isGenerator=false
 nd:N.Nodup
 pre:N.take P.length=P
 par:∀x∈P,sc.names.lookup x=some .local \/ sc.names.lookup x=some .cell
 nofree:∀y∈sc.names,y.2≠.free
theorem c1c{kindOf:Str->Option NameKind}{x:Str}:∀{binds:List (Str×Value)} {m:Str->Option Value},(∀v,(x,v)∉binds)->bindL kindOf binds m x=m x
 |[],_,_=>rfl
 |(n,v)::r,m,h=>by
  unfold bindL;rw[c1c fun w hw=>h w (List.mem_cons_of_mem _ hw)]
  split
  ·have:x≠n:=by rintro rfl;exact h v List.mem_cons_self
   simp[this]
  ·rfl
theorem c1d{kindOf:Str->Option NameKind}{x:Str}:∀{binds:List (Str×Value)} {m:Str->Option Value},(∀v,(x,v)∉binds)->bindC kindOf binds m x=m x
 |[],_,_=>rfl
 |(n,v)::r,m,h=>by
  unfold bindC;rw[c1d fun w hw=>h w (List.mem_cons_of_mem _ hw)]
  split
  ·rfl
  ·have:x≠n:=by rintro rfl;exact h v List.mem_cons_self
   simp[this]
theorem c1e{kindOf:Str->Option NameKind}{x:Str}{v:Value}:∀{P:List Str} {vs:List Value} {i:Nat} {m:Str->Option Value},P.Nodup->P[i]?=some x->vs[i]?=some v->kindOf x=some .local ->
  bindL kindOf (P.zip vs) m x=some v
 |[],_,_,_,_,h,_,_=>by simp at h
 |_::_,[],_,_,_,_,h,_=>by simp at h
 |p::P,w::vs,0,m,nd,h1,h2,hk=>by
  simp at h1 h2;subst h1;subst h2;show bindL kindOf ((p,w)::P.zip vs) m p=_;unfold bindL;rw[c1c fun v hv=>(List.nodup_cons.mp nd).1 (List.of_mem_zip hv).1,if_pos hk]
  simp
 |p::P,w::vs,i+1,m,nd,h1,h2,hk=>by
  show bindL kindOf ((p,w)::P.zip vs) m x=_;unfold bindL;exact c1e (i:=i) (List.nodup_cons.mp nd).2 (by simpa using h1) (by simpa using h2) hk
theorem c1f{kindOf:Str->Option NameKind}{x:Str}{v:Value}:∀{P:List Str} {vs:List Value} {i:Nat} {m:Str->Option Value},P.Nodup->P[i]?=some x->vs[i]?=some v->kindOf x≠some .local ->
  bindC kindOf (P.zip vs) m x=some v
 |[],_,_,_,_,h,_,_=>by simp at h
 |_::_,[],_,_,_,_,h,_=>by simp at h
 |p::P,w::vs,0,m,nd,h1,h2,hk=>by
  simp at h1 h2;subst h1;subst h2;show bindC kindOf ((p,w)::P.zip vs) m p=_;unfold bindC;rw[c1d fun v hv=>(List.nodup_cons.mp nd).1 (List.of_mem_zip hv).1,if_neg hk]
  simp
 |p::P,w::vs,i+1,m,nd,h1,h2,hk=>by
  show bindC kindOf ((p,w)::P.zip vs) m x=_;unfold bindC;exact c1f (i:=i) (List.nodup_cons.mp nd).2 (by simpa using h1) (by simpa using h2) hk
def start(N:List Str)(vs:List V):St:=vs.map some++List.replicate (N.length - vs.length) none
def cxOf(CX:CXT)(P:Program)(w:World)(K:L2.FG)(mg:Str->Option Value)(base:Heap)(N:List Str)(qual:Str)(scope:Scope)(f:Addr)(cd:Value)(A:Around)(outer:List Env)(s:Shared)(H:Hp)(E:XK):Cx where
 prog:=P
 w:=w
 K:=K
 mg:=mg
 base:=base
 A:=A.deeper (envOfC qual scope s.heap.objs.size f cd)
 N:=N
 s₀:=s
 H₀:=H
 env:=envOfC qual scope s.heap.objs.size f cd
 outer:=outer
 stack:=envOfC qual scope s.heap.objs.size f cd::outer
 ex:=[]
 calm:=true
 fn:=fun _=>true
 pn:=[]
 xe:=fun e s'=>wpAny (model P w) (A.deeper (envOfC qual scope s.heap.objs.size f cd)) (leaving (envOfC qual scope s.heap.objs.size f cd) e) (fun _ s''=>CX outer H s E e s'') (fun e' s''=>CX outer H s E e' s'') s'
theorem c4z{sc:Scope}{n:Nat}{x:Str}(h:sc.names.lookup x=some .cell):∃c,(cellsFrom n sc.names []).lookup x=some c:=by
 have q:=PySem.W.cellsFrom_some sc.names n [] (.inl h);exact Option.isSome_iff_exists.mp q
theorem c9k{CX:CXT}{P:Program}{w:World}{K:L2.FG}{mg:Str->Option Value}{base:Heap}{N ps:List Str}{qual:Str}{scope:Scope}{f:Addr}{cd:Value}{A:Around}{outer:List Env}{s s1:Shared}{H:Hp}{E:XK}{us:List Value}{vs:List V}
  (S:FnScope N ps scope) (hd:A.handled=none) (e0:Env0 P w K mg base A outer s H) (hl:vs.length=ps.length) (r:Vals vs us)
  (x:InCallC s s.heap.objs.size (bindL (envOfC qual scope s.heap.objs.size f cd).kindOf (ps.zip us) fun _=>none) (cellsFrom (s.heap.objs.size+1) scope.names []) (bindC (envOfC qual scope s.heap.objs.size f cd).kindOf (ps.zip us) fun _=>none) s1) :
  Inv (cxOf CX P w K mg base N qual scope f cd A outer s H E) [] (start N vs) H s1:=by
 have hpl:ps.length<=N.length:=by have:=congrArg List.length S.pre;rw[List.length_take] at this;omega
 obtain⟨h1,tk,rfl,hk⟩:=x.done;have noA:∀b:Addr,b∉(cxOf CX P w K mg base N qual scope f cd A outer s H E).ex:=fun b z=>absurd (show b∈([]:List Addr) from z) (by simp)
 refine⟨⟨e0.mod,S.kind,rfl,rfl,Nat.le_refl _,fun y z c h1 h2=>?_,fun y hy=>?_,fun y c _ h=>?_,fun _=>hd,Around.frames_deeper e0.frames,.inr ⟨rfl,rfl⟩,fun b z=>absurd z (noA b),e0.bs,e0.bsz,fun b _ _=>noA b,fun b z=>absurd z (noA b),e0.funs,e0.frf⟩,
  rfl,e0.bare,Un.kept hk,⟨_,x.toInCall.ns,fun i y v h1 h2 h3=>?_⟩,fun y c h=>⟨_,x.cell y c h⟩,e0.hok.fresh (Nat.le_refl _),fun y c h=>?_,fun p hp=>absurd (show p∈([]:List (Addr×Obj)) from hp) (by simp),e0.hok.kept hk,?_⟩
 ·exact name_of_addr x.apart (PySem.mem_of_lookup h1) (PySem.mem_of_lookup h2)
 ·have hy:scope.names.lookup y=some .cell\/scope.names.lookup y=some .free:=hy;rcases hy with hy|hy
  ·exact c4z hy
  ·exact absurd rfl (S.nofree _ (PySem.mem_of_lookup hy))
 ·exact Nat.le_of_lt (x.above y c (PySem.mem_of_lookup h))
 ·have hi:i < vs.length:=by
   unfold start at h2;by_cases hi:i < vs.length
   ·exact hi
   ·rw[List.getElem?_append_right (by simpa using hi)] at h2
    rw[List.getElem?_replicate] at h2;split at h2 <;> cases h2
  have ha:vs[i]?=some v:=by
   unfold start at h2;rw[List.getElem?_append_left (by simpa using hi),List.getElem?_map] at h2
   cases e:vs[i]? with
   |none=>rw[e] at h2;cases h2
   |some a=>rw[e] at h2;cases h2;rfl
  obtain⟨u,hu,rv⟩:=r.get ha;have hp:ps[i]?=some y:=by
   rw[<-S.pre,List.getElem?_take_of_lt (by omega)];exact h1
  have ndP:ps.Nodup:=by rw[<-S.pre];exact S.nd.sublist (List.take_sublist _ _)
  refine⟨u,rv,?_⟩;rcases S.par y (List.mem_of_getElem? hp) with k|k
  ·exact .inl ⟨k,c1e ndP hp hu k⟩
  ·obtain⟨c,e⟩:=c4z (n:=s.heap.objs.size+1) k;refine .inr ⟨.inl k,c,e,?_⟩;have q:=x.cell y c e;rw[c1f ndP hp hu (by show scope.names.lookup y≠_;rw[k];decide)] at q
   exact q
 ·exact e0.hok.fresh (Nat.le_of_lt (x.above y c (PySem.mem_of_lookup h)))
 ·unfold start;show _=N.length;rw[List.length_append,List.length_map,List.length_replicate];omega
theorem e2z{CX:CXT}{P:Program}{w:World}{K:L2.FG}{mg:Str->Option Value}{base:Heap}{k:Nat}{f:Addr}{name qual:Str}{params:Arguments}{body:List Stmt}{scope:Scope}{dV kV doc pm cdv ct oc:Value}{an od:Option Addr}
  {osl:Array (Option Value)} {N ps:List Str} {sp:Sp} (lk:K.lookup f=some ⟨oc,od,.func (PySem.W.fnOf name qual params body scope dV kV doc pm an cdv ct),osl⟩) (hcd:PySem.W.codeIn K cdv qual=true) (S:FnScope N ps scope)
  (len:∀vs H Q E,sp vs H Q E->vs.length=ps.length)
  (hbody:∀(A:Around) (outer:List Env) (s:Shared) (H:Hp) (vs:List V) (Q:VK) (E:XK),Room k (A.deeper (envOfC qual scope s.heap.objs.size f cdv))->sp vs H Q E->
   ∃t,PSs (cxOf CX P w K mg base N qual scope f cdv A outer s H E) body t/\t { nx:=fun _ H'=>Q .non H',rt:=Q} (start N vs) H) :
  FnOk P w K mg base CX (k+1) f (PySem.W.fnOf name qual params body scope dV kV doc pm an cdv ct) ps sp:=by
 refine⟨len,fun A outer s H args us vs Q E hr e0 hb r hsp=>?_⟩
 have hl:=len _ _ _ _ hsp;have KX:K.In s.heap:=e0.mod.kin.keeps fun b o e=>(e0.bs b o e).1
 have lim:s.heap.NoLimit:=e0.mod.nolimit.keeps fun b o e=>(e0.bs b o e).1
 have hkind:∀y∈ps.zip us,scope.names.lookup y.1=some .local \/ (scope.names.lookup y.1=some .cell/\((cellsFrom (s.heap.objs.size+1) scope.names []).lookup y.1).isSome=true):=fun⟨n,v⟩ hy=>by
  rcases S.par n (List.of_mem_zip hy).1 with q|q
  ·exact .inl q
  ·exact .inr ⟨q,PySem.W.cellsFrom_some _ _ _ (.inl q)⟩
 refine codeAny_call_function hr.depth (KX _ _ lk) rfl S.co S.gen rfl (PySem.W.codeRec_of KX hcd) (hb _ _ _ _ ?_);refine wpAny_newFunctionEnv_cells S.kind hkind fun env he s1 x=>?_
 subst he;refine⟨lim.keeps x.toInCall.keep,codeAny_func ?_⟩;obtain⟨t,ht,hq⟩:=hbody A outer s H vs Q E (hr.deeper _) hsp;have I:Inv (cxOf CX P w K mg base N qual scope f cdv A outer s H E) [] (start N vs) H s1:=c9k S hr.hd e0 hl r x;refine wpAny_mono (ht [] s1 (start N vs) H _ I hq) (fun fl s' hs=>?_) fun e s' hs=>hs
 have fin:∀{σ':St} {H':Hp} {v:V} {u:Value},Inv (cxOf CX P w K mg base N qual scope f cdv A outer s H E) [] σ' H' s'->RelV v u->Q v H'->CE outer P w H s Q u s':=
  fun{σ' H' v u} J rv q=>⟨v,H',J.os,J.bare,J.base,J.hok,rv,q⟩
 cases fl with
 |ret u=>
  obtain⟨v,σ',H',J,rv,q⟩:=hs;exact fin J rv q
 |next=>
  obtain⟨σ',H',J,q⟩:=hs;exact fin (v:=V.non) (u:=Value.none) J rfl q
 |brk=>
  obtain⟨_,_,_,q⟩:=hs;exact False.elim q
 |cont=>
  obtain⟨_,_,_,q⟩:=hs;exact False.elim q
section
variable {X:Cx} {x:Str} {p pos:Pos} {e:Expr} {es:List Expr} {t:TA} {id T:String} {r:List V->Hp->VK->Prop}
def tCB(r:List V->Hp->VK->Prop)(t:TA):TE:=fun σ H Q=>t σ H fun vs H1=>r vs H1 Q
theorem d5e(hc:CallR X (.builtin id) r)(hg:Gl X x)(hm:X.mg x=none)(hv:bootBuiltins x=some (.builtin id))(ha:PA X (e::es) t)(hn:x≠"__name__":=by decide)(hdb:(x == ("__debug__":Str))=false:=by decide)
  (he:starEach (e::es) X.env=(false,eval e X.env)::starEach es X.env:=by rfl) (hpl:(backTo pos (starEach es X.env)).any (·.1)=false:=by rfl):PE X (.Call (.Name x p) (e::es) [] pos) (tCB r t):=by
 intro pins s σ H Q I h;refine wpAny_Call_Name_kw (b7o I hg hm hv ?_ hn hdb);exact PyProof.Rows.callWith_builtin1 (thn (ha pos pins s σ H _ I h) fun us s1 ⟨vs,H1,I1,r1,q1⟩=>hc pins s1 σ H1 vs us Q I1 r1 q1) he hpl
theorem c9l(hc:CallR X (.type T) r)(hg:Gl X x)(hm:X.mg x=none)(hv:bootBuiltins x=some (.type T))(ha:PA X (e::es) t)(hn:x≠"__name__":=by decide)(hdb:(x == ("__debug__":Str))=false:=by decide)
  (he:starEach (e::es) X.env=(false,eval e X.env)::starEach es X.env:=by rfl) (hpl:(backTo pos (starEach es X.env)).any (·.1)=false:=by rfl):PE X (.Call (.Name x p) (e::es) [] pos) (tCB r t):=by
 intro pins s σ H Q I h;refine wpAny_Call_Name_kw (b7o I hg hm hv ?_ hn hdb);exact PyProof.Rows.callWith_type1 (thn (ha pos pins s σ H _ I h) fun us s1 ⟨vs,H1,I1,r1,q1⟩=>hc pins s1 σ H1 vs us Q I1 r1 q1) he hpl
end
end L2
namespace HT
open PySem PyProof.Rows
section
open PySem.SeqAt
open PySem.AutoSeq1 (wpAny_loadPart')
open PySem.MeetsSeq PySem.MeetsSeq2 PySem.MeetsSeq3
end
variable{sl:Addr}{vl vu:Value}{lo hi:Option Int}
section
variable {prog:Program} {w:World} {A:Around} {E:Value->Shared->Prop} {s:Shared}
def sIx(n d:Nat):Option Int->Nat
 |none=>d
 |some v=>if v < 0 then(v+(n:Int)).toNat else min v.toNat n
theorem e3a(n d:Nat)(hd:d<=n)(o:Option Int):sIx n d o<=n:=by
 cases o with
 |none=>exact hd
 |some v=>
  show(if v < 0 then(v+(n:Int)).toNat else min v.toNat n)<=n
  by_cases hv:v < 0
  ·rw[if_pos hv];omega
  ·rw[if_neg hv];exact Nat.min_le_right _ _
theorem c9m(v:Int)(n d:Nat):(if v < 0 then max (v+(n:Int)) 0 else min v (n:Int))=((sIx n d (some v):Nat):Int):=by
 show(if v < 0 then max (v+(n:Int)) 0 else min v (n:Int))=(((if v < 0 then(v+(n:Int)).toNat else min v.toNat n):Nat):Int)
 by_cases hv:v < 0
 ·simp only[if_pos hv];omega
 ·simp only[if_neg hv];omega
theorem c7l(lo hi:Option Int)(n:Nat):Builtin.Slice.sliceAdjust lo hi 1 (n:Int)=(((sIx n 0 lo:Nat):Int),((sIx n n hi:Nat):Int)):=by
 have h1:¬((1:Int) < 0):=by omega
 unfold Builtin.Slice.sliceAdjust;simp only[h1,if_false];refine Prod.ext ?_ ?_
 ·cases lo with
  |none=>rfl
  |some v=>exact c9m v n 0
 ·cases hi with
  |none=>rfl
  |some v=>exact c9m v n n
theorem c7m(i j:Nat):Builtin.Slice.slicePlaces (i:Int) (j:Int) 1=j - i:=by
 unfold Builtin.Slice.slicePlaces;have h1:(1:Int) > 0:=by omega
 simp only[h1,if_true,Int.ediv_one];split <;> omega
theorem b7r{v:Value}{o:Option Int}{Q:Option Int->Shared->Prop}(p:IsPart v o)(h:Q o s):wpAny (model prog w) A (Builtin.Slice.slicePartIndex v) Q E s:=by
 cases p with
 |none=>exact slicePart_none h
 |int i t=>exact slicePart_int h
theorem b3p{n:Nat}{Q:Int×Int×Nat->Shared->Prop}(hs:s.heap.IsSliceOf sl vl vu .none)(pl:IsPart vl lo)(pu:IsPart vu hi)
  (h:Q (((sIx n 0 lo:Nat):Int),1,sIx n n hi - sIx n 0 lo) s):wpAny (model prog w) A (Builtin.Slice.sliceApplied (.ref sl) (pure (n:Int))) Q E s:=by
 obtain⟨os,hos,hcs,hds⟩:=id hs;unfold Builtin.Slice.sliceApplied Builtin.Slice.sliceFields;refine wpAny_bind (wpAny_bind (wpAny_field hos hds (x:=vl) rfl (wpAny_bind (wpAny_field hos hds (x:=vu) rfl (wpAny_bind (wpAny_field hos hds (x:=.none) rfl (wpAny_pure ?_)))))));refine wpAny_bind (slicePart_none ?_);show wpAny _ _ (if((1:Int) == 0)=true then _ else _) _ _ s
 rw[if_neg (by decide)]
 refine wpAny_bind (b7r pl (wpAny_bind (b7r pu (wpAny_bind (wpAny_pure ?_)))));show wpAny _ _ (match Builtin.Slice.sliceAdjust lo hi 1 (n:Int) with|(lo,hi)=>pure (lo,(1:Int),Builtin.Slice.slicePlaces lo hi 1)) _ _ s
 rw[c7l lo hi n];show wpAny _ _ (pure (((sIx n 0 lo:Nat):Int),(1:Int),Builtin.Slice.slicePlaces ((sIx n 0 lo:Nat):Int) ((sIx n n hi:Nat):Int) 1)) _ _ s;rw[c7m];exact wpAny_pure h
theorem d5f(xs:Array Value)(i k:Nat):((List.range k).filterMap fun(m:Nat)=>xs[((i:Int)+(m:Int) * 1).toNat]?).toArray=((xs.toList.drop i).take k).toArray:=by
 have e:(fun(m:Nat)=>xs[((i:Int)+(m:Int) * 1).toNat]?)=fun m=>xs[i+m]?:=by
  funext m;have:((i:Int)+(m:Int) * 1).toNat=i+m:=by omega
  rw[this]
 rw[e];have:=pick_run xs i k;rw[List.filterMap_map] at this;have e2:((fun x=>xs[x]?)∘fun x=>i+x)=fun m=>xs[i+m]?:=rfl
 rw[e2] at this;rw[this]
theorem getItem_tuple_cut{t:Addr}{items:Array Value}{Q:Value->Shared->Prop}(ht:IsTup s.heap t items)(hs:s.heap.IsSliceOf sl vl vu .none)(pl:IsPart vl lo)(pu:IsPart vu hi)
  (hw:¬(sIx items.size 0 lo=0/\sIx items.size items.size hi=items.size))
  (h:Q (.ref s.heap.objs.size) { s with heap:=s.heap.push { cls:=.type "tuple",data:=.seq ((items.toList.drop (sIx items.size 0 lo)).take (sIx items.size items.size hi - sIx items.size 0 lo)).toArray}})
  (hsz:items.size<=sizeLine):wpAny (model prog w) A (getItem (.ref t) (.ref sl)) Q E s:=by
 have htake:sizeOk (.seq ((items.toList.drop (sIx items.size 0 lo)).take (sIx items.size items.size hi - sIx items.size 0 lo)).toArray):=by
  show((items.toList.drop (sIx items.size 0 lo)).take (sIx items.size items.size hi - sIx items.size 0 lo)).toArray.size<=sizeLine;rw[List.size_toArray,List.length_take,List.length_drop,Array.length_toList];omega
 have hj:sIx items.size items.size hi<=items.size:=e3a _ _ (Nat.le_refl _) hi;obtain⟨os,hos,hcs,hds⟩:=id hs;have hTs:s.TypeIs (.ref sl) "slice":=⟨os,hos,hcs⟩;unfold getItem;try with_reducible refine wpAny_holding ?_
 first|refine wpAny_bind (wpAny_pure ?_)|skip
 refine wpAny_bind (wpAny_sequenceKey ht.typeIs (by decide) ?_)
 refine wpAny_bind (wpAny_callSpecial?_slot (name:=Str.ofString "__getitem__") ht.typeIs PyProof.Rows.slot_tuple_getitem
  (wpAny_call_entry PyProof.Rows.slot_tuple_getitem ht.typeIs entry_tuple_getitem ?_ (args_tuple_getitem _ _)))
 show wpAny _ _ (Builtin.Tuple.tupleItemsOf (.ref t) >>= _) _ _ s;refine wpAny_bind (tupleItemsOf_ ht ?_);refine wpAny_bind (wpAny_typeOf hTs ?_);rw[if_pos (by decide)]
 refine wpAny_bind (b3p hs pl pu ?_);have hno:¬((((sIx items.size 0 lo:Nat):Int) == 0 && (1:Int) == 1 && (sIx items.size items.size hi - sIx items.size 0 lo) == items.size)=true):=by
  intro q;rw[Bool.and_eq_true,Bool.and_eq_true] at q;have q1:((sIx items.size 0 lo:Nat):Int)=0:=eq_of_beq q.1.1;have q2:sIx items.size items.size hi - sIx items.size 0 lo=items.size:=eq_of_beq q.2;exact hw ⟨by omega,by omega⟩
 show wpAny _ _ (if(((sIx items.size 0 lo:Nat):Int) == 0 && (1:Int) == 1 && (sIx items.size items.size hi - sIx items.size 0 lo) == items.size)=true then _ else _) _ _ s
 rw[if_neg hno,d5f];first
  |exact wpAny_bind (m:=Builtin.Tuple.tupleExact _) (wpAny_newObj_type (wpAny_pure ⟨_,rfl,wpAny_pure h⟩) htake)
  |exact wpAny_bind (m:=Builtin.Tuple.tupleExact _) (wpAny_newObj_type (wpAny_bind (wpAny_pure (wpAny_pure ⟨_,rfl,wpAny_pure h⟩))) htake)
  |exact wpAny_bind (wpAny_bind (m:=Builtin.Tuple.tupleExact _) (wpAny_newObj_type (wpAny_pure (wpAny_pure ⟨_,rfl,wpAny_pure h⟩)) htake))
  |exact wpAny_bind (wpAny_bind (m:=Builtin.Tuple.tupleExact _) (wpAny_newObj_type (wpAny_pure ⟨_,rfl,wpAny_pure h⟩) htake))
end
end HT
namespace L2
open PySem PySem.Spec PyProof.Rows
variable{r:V->Option Int->Option Int->Hp->VK->Prop}{n j t':Nat}{i:Int}{pins:List (Addr×Obj)}{σ:St}{H:Hp}{s:Shared}{its its' us:List Value}{x:V}
abbrev TO:=St->Hp->(Option Int->Hp->Prop)->Prop
def PO(X:Cx)(e:Option Expr)(t:TO):Prop:=
 ∀(pins:List (Addr×Obj)) (s:Shared) (σ:St) (H:Hp) (Q:Option Int->Hp->Prop),Inv X pins σ H s->t σ H Q->
  wpAny (model X.prog X.w) X.A (evalPart e X.env) (fun u s'=>∃o H',Inv X pins σ H' s'/\IsPart u o/\Q o H') X.xe s
def d9k:TO:=fun _ H Q=>Q none H
def tPart(t:TE):TO:=fun σ H Q=>t σ H fun x H1=>∃i,x=.int i/\Q (some i) H1
section
variable {X:Cx} {e:Expr} {te:TE} {lo hi:Option Expr} {tl th:TO} {pos p2:Pos}
theorem d9l:PO X none d9k:=by
 intro pins s σ H Q I h;rw[evalPart_none];exact wpAny_pure ⟨none,H,I,.none,h⟩
theorem d9m(h:PE X e te):PO X (some e) (tPart te):=by
 intro pins s σ H Q I hw;rw[evalPart_some];refine thn (h pins s σ H _ I hw) fun u s1 hh=>?_
 obtain⟨x,H1,I1,r1,q1⟩:=hh;obtain⟨i,rfl,q⟩:=q1;obtain⟨t,rfl⟩:=r1;exact⟨some i,H1,I1,.int i t,q⟩
def SlR(X:Cx)(r:V->Option Int->Option Int->Hp->VK->Prop):Prop:=
 ∀(pins:List (Addr×Obj)) (s:Shared) (σ:St) (H:Hp) (x:V) (v vl vu:Value) (lo hi:Option Int) (sl:Addr) (Q:VK),Inv X pins σ H s->RelV x v->s.heap.IsSliceOf sl vl vu .none->IsPart vl lo->IsPart vu hi->r x lo hi H Q->
  ∃T id,typeLookup (.type T) "__getitem__"=pure (some (.builtin id))/\s.TypeIs v T/\wpAny (model X.prog X.w) X.A (getItem v (.ref sl)) (EP X pins σ Q) X.xe s
theorem SlR.or{r':V->Option Int->Option Int->Hp->VK->Prop}(h:SlR X r)(h':SlR X r'):SlR X (fun x lo hi H Q=>r x lo hi H Q\/r' x lo hi H Q):=by
 intro pins s σ H x v vl vu lo hi sl Q I rx hs pl pu q;rcases q with q|q
 ·exact h pins s σ H x v vl vu lo hi sl Q I rx hs pl pu q
 ·exact h' pins s σ H x v vl vu lo hi sl Q I rx hs pl pu q
def tSl(r:V->Option Int->Option Int->Hp->VK->Prop)(te:TE)(tl th:TO):TE:=fun σ H Q=>te σ H fun x H1=>tl σ H1 fun l H2=>th σ H2 fun u H3=>r x l u H3 Q
theorem d5g(hr:SlR X r)(he:PE X e te)(hl:PO X lo tl)(hu:PO X hi th):PE X (.Subscript e (.Slice lo hi none p2) pos) (tSl r te tl th):=by
 intro pins s σ H Q I h;refine Subscript_ (thn (he pins s σ H _ I h) fun v s1 hh=>?_)
 obtain⟨x,H1,I1,r1,q1⟩:=hh;refine wpAny_Slice (thn (hl pins s1 σ H1 _ I1 q1) fun vl s2 ⟨l,H2,I2,pl,q2⟩=>thn (hu pins s2 σ H2 _ I2 q2) fun vu s3 ⟨u,H3,I3,pu,q3⟩=>?_)
 rw[evalPart_none];refine wpAny_pure ?_;have I4:Inv X pins σ H3 { s3 with heap:=s3.heap.push { cls:=.type "slice",data:=.fields #[vl,vu,.none]}}:=I3.kept (t':=s3.toks) fun b ob q=>Heap.get?_push_of_some _ q
 obtain⟨T,id,hT,ht,hg⟩:=hr pins { s3 with heap:=s3.heap.push { cls:=.type "slice",data:=.fields #[vl,vu,.none]}} σ H3 x v vl vu l u s3.heap.objs.size Q I4 r1 (Heap.IsSliceOf.new ..) pl pu q3;show wpAny (model X.prog X.w) X.A (subscriptTail e (.Slice lo hi none p2) v (.ref s3.heap.objs.size)) (EP X pins σ Q) X.xe { s3 with heap:=s3.heap.push { cls:=.type "slice",data:=.fields #[vl,vu,.none]}};exact tail_any (ops:=[.ref s3.heap.objs.size,v]) ht hT hg (by with_unfolding_all rfl)
def cutV(xs:List V)(lo hi:Option Int):List V:=(xs.drop (HT.sIx xs.length 0 lo)).take (HT.sIx xs.length xs.length hi - HT.sIx xs.length 0 lo)
theorem b5f(xs:List V)(lo hi:Option Int):(cutV xs lo hi).length<=xs.length:=by
 unfold cutV;rw[List.length_take,List.length_drop];omega
def rSlT(K:L2.FG):V->Option Int->Option Int->Hp->VK->Prop:=fun x lo hi H Q=>∃a xs,x=.ref a/\SqT K H a xs/\
 ¬(HT.sIx xs.length 0 lo=0/\HT.sIx xs.length xs.length hi=xs.length)/\∀p,H p=none->Q (.ref p) (upd H p (.tup (cutV xs lo hi)))
theorem e3b:SlR X (rSlT X.K):=by
 intro pins s σ H x v vl vu lo hi sl Q I rx hs pl pu h;obtain⟨a,xs,rfl,hx,hw,q⟩:=h;cases rx;obtain⟨its,r,ht,hz⟩:=I.tuple hx;have hlen:its.toArray.size=xs.length:=by rw[List.size_toArray];exact r.length.symm
 refine⟨"tuple",_,PyProof.Rows.slot_tuple_getitem.lookup,ht.typeIs,?_⟩;refine HT.getItem_tuple_cut ht hs pl pu (by rw[hlen];exact hw) ?_ (by rw[hlen];exact hz)
 rw[hlen];refine⟨.ref s.heap.objs.size,_,I.laid (t':=s.toks) (o:=.tup (cutV xs lo hi)) (fun b ob q=>Heap.get?_push_of_some _ q) (Nat.le_refl _) ?_,rfl,q _ (I.hok.fresh (Nat.le_refl _))⟩
 exact⟨Nat.le_trans (b5f xs lo hi) hz,_,(r.drop (HT.sIx xs.length 0 lo)).take (HT.sIx xs.length xs.length hi - HT.sIx xs.length 0 lo),IsTup.new _ _⟩
end
def ixN(n:Nat)(i:Int):Option Nat:=if 0<=i then(if i < n then some i.toNat else none) else if -(n:Int)<=i then some (i+n).toNat else none
def atI{α:Type}(xs:List α)(i:Int):Option α:=(ixN xs.length i).bind fun j=>xs[j]?
theorem c3j(h:ixN n i=some j):seqIndex? i n=some j/\j < n /\ -(n:Int)<=i/\i < n:=by
 unfold ixN at h;by_cases h0:0<=i
 ·rw[if_pos h0] at h;by_cases h1:i < n
  ·rw[if_pos h1] at h;have e:i.toNat=j:=Option.some.inj h;exact⟨by rw[seqIndex_of h0 h1,e],by omega,by omega,h1⟩
  ·rw[if_neg h1] at h;cases h
 ·rw[if_neg h0] at h;by_cases h1:-(n:Int)<=i
  ·rw[if_pos h1] at h;have e:(i+n).toNat=j:=Option.some.inj h;exact⟨by rw[seqIndex_neg (by omega) h1,e],by omega,h1,by omega⟩
  ·rw[if_neg h1] at h;cases h
theorem c3k{α:Type}{xs:List α}{v:α}(h:atI xs i=some v):∃j,seqIndex? i xs.length=some j/\xs[j]?=some v/\j < xs.length /\ -(xs.length:Int)<=i/\i < xs.length:=by
 unfold atI at h;cases e:ixN xs.length i with
 |none=>rw[e] at h;cases h
 |some j=>
  rw[e] at h;obtain⟨h1,h2,h3,h4⟩:=c3j e;exact⟨j,h1,h,h2,h3,h4⟩
theorem a5x{α:Type}{xs:List α}{v:α}(h:xs[j]?=some v):atI xs (j:Int)=some v:=by
 have hj:j < xs.length:=(List.getElem?_eq_some_iff.mp h).1;have e:ixN xs.length (j:Int)=some j:=by
  unfold ixN;rw[if_pos (by omega),if_pos (by omega)];simp
 unfold atI;rw[e];exact h
def c3l(b:Expr):Prop:=∀o i,subscripted b false o i=operate [o,i] (getItem o i)
def IxR(X:Cx)(r:R2):Prop:=
 ∀(value slice:Expr) (pins:List (Addr×Obj)) (s:Shared) (σ:St) (H:Hp) (x y:V) (v u:Value) (Q:VK),Inv X pins σ H s->RelV x v->RelV y u->r x y H Q->
  subscripted slice false v u=operate [v,u] (getItem v u)->wpAny (model X.prog X.w) X.A (subscriptTail value slice v u) (EP X pins σ Q) X.xe s
def MtR(X:Cx)(id:String)(r:V->List V->Hp->VK->Prop):Prop:=
 ∀(pins:List (Addr×Obj)) (s:Shared) (σ:St) (H:Hp) (x:V) (xs:List V) (v:Value) (us:List Value) (Q:VK),Inv X pins σ H s->RelV x v->Vals xs us->r x xs H Q->
  wpAny (model X.prog X.w) X.A (call (.builtin id) (v::us)) (EP X pins σ Q) X.xe s
section
variable {X:Cx} {a b:Expr} {ta tb:TE} {pos:Pos}
theorem IxR.or{r r':R2}(h:IxR X r)(h':IxR X r'):IxR X (fun x y H Q=>r x y H Q\/r' x y H Q):=by
 intro value slice pins s σ H x y v u Q I rx ry q hs;rcases q with q|q
 ·exact h value slice pins s σ H x y v u Q I rx ry q hs
 ·exact h' value slice pins s σ H x y v u Q I rx ry q hs
theorem e3c{r:R2}(hr:IxR X r)(ha:PE X a ta)(hb:PE X b tb)(hs:c3l b):PE X (.Subscript a b pos) (tOp r ta tb):=by
 intro pins s σ H Q I h;exact Subscript_ (binT ha hb I h fun v u s2 x y H2 I2 rx ry q=>hr a b pins s2 σ H2 x y v u Q I2 rx ry q (hs _ _))
def rIxL(K:L2.FG):R2:=fun x y H Q=>∃p xs i v,x=.ref p/\y=.int i/\SqL K H p xs/\atI xs i=some v/\Q v H
def rIxT(K:L2.FG):R2:=fun x y H Q=>∃p xs i v,x=.ref p/\y=.int i/\SqT K H p xs/\atI xs i=some v/\Q v H
def rIxS:R2:=fun x y H Q=>∃z i c,x=.str z/\y=.int i/\z.length<=sizeLine/\atI z.cps.toList i=some c/\Q (.str ⟨#[c]⟩) H
theorem d9n:IxR X (rIxL X.K):=by
 intro value slice pins s σ H x y v u Q I rx ry h hs;obtain⟨p,xs,i,z,rfl,rfl,hq,he,q⟩:=h;cases rx;obtain⟨t,rfl⟩:=ry;obtain⟨its,r,pl,hz⟩:=I.list hq;obtain⟨j,h1,h2,h3,h4,h5⟩:=c3k he;obtain⟨w,ew,rw'⟩:=r.get h2;have hl:=r.length;have hn:=b5b;have fin:EP X pins σ Q w s:=⟨z,H,I,rw',q⟩;by_cases h0:0<=i
 ·have hj:i.toNat=j:=by
   rw[seqIndex_of h0 h5] at h1;exact Option.some.inj h1
  exact item_listR pl.isList h0 (by omega) (by rw[hj];simpa using ew) fin hs
 ·have hj:(i+(its.toArray.size:Int)).toNat=j:=by
   rw[seqIndex_neg (by omega) h4] at h1
   rw[List.size_toArray,<-hl];exact Option.some.inj h1
  exact subscriptTail_builtinR (x:=w) pl.isList.typeIs slot_list_getitem.lookup
   (wpAny_getItem_list_neg (Q:=fun r s'=>r=w/\EP X pins σ Q r s') pl.isList (by omega) (by rw[List.size_toArray] <;> omega) (by omega) (by rw[hj];simpa using ew) ⟨rfl,fin⟩) hs
theorem e3d:IxR X (rIxT X.K):=by
 intro value slice pins s σ H x y v u Q I rx ry h hs;obtain⟨p,xs,i,z,rfl,rfl,hq,he,q⟩:=h;cases rx;obtain⟨t,rfl⟩:=ry;obtain⟨its,r,pl,hz⟩:=I.tuple hq;obtain⟨j,h1,h2,h3,h4,h5⟩:=c3k he;obtain⟨w,ew,rw'⟩:=r.get h2;have hl:=r.length;have hn:=b5b;have fin:EP X pins σ Q w s:=⟨z,H,I,rw',q⟩;exact subscriptTail_builtinR (x:=w) pl.typeIs slot_tuple_getitem.lookup
  (getItem_tuple (j:=j) (Q:=fun r s'=>r=w/\EP X pins σ Q r s') pl (by omega) (by omega) (by rw[List.size_toArray,<-hl];exact h1) (by simpa using ew) ⟨rfl,fin⟩) hs
theorem ix_str:IxR X rIxS:=by
 intro value slice pins s σ H x y v u Q I rx ry h hs;obtain⟨z,i,c,rfl,rfl,hz,he,q⟩:=h;obtain⟨t,rfl⟩:=rx;obtain⟨t',rfl⟩:=ry;obtain⟨j,h1,h2,h3,h4,h5⟩:=c3k he;have hl:z.cps.toList.length=z.length:=by simp[Str.length]
 rw[hl] at h1 h4 h5;have hn:=b5b;exact tail_any (typeIs_str s z t) slot_str_getitem.lookup (getItem_str (c:=c) (by
  have e1:decide (i < -(2 ^ 63:Int))=false:=decide_eq_false (by omega)
  have e2:decide (i>=2 ^ 63)=false:=decide_eq_false (by omega)
  rw[e1,e2,Bool.or_false]) (by rw[h1];simpa using h2) ⟨.str ⟨#[c]⟩,H,I.tok _,⟨_,rfl⟩,q⟩) hs
theorem c7n(its:List Value)(n j:Nat)(u:Value):Obj.mapSeq (·.setIfInBounds j u) { cls:=.type "list",data:=.seq its.toArray n}={ cls:=.type "list",data:=.seq (its.set j u).toArray n}:=by
 simp[Obj.mapSeq]
theorem Inv.lst{pins:List (Addr×Obj)}{σ:St}{H:Hp}{s:Shared}{p:Addr}{xs:List V}(I:Inv X pins σ H s)(h:H p=some (.lst xs)):
  ∃(its:List Value) (n:Nat),Vals xs its/\s.heap.get? p=some { cls:=.type "list",data:=.seq its.toArray n}/\xs.length<=sizeLine:=by
 obtain⟨z,its,n,r,e⟩:=I.hok p _ h;exact⟨its,n,r,e,z⟩
theorem Inv.lstUpd{p:Addr}{xs ys:List V}{n':Nat}{f:Obj->Obj}(I:Inv X pins σ H s)(h:H p=some (.lst xs))
  (ho:s.heap.get? p=some { cls:=.type "list",data:=.seq its.toArray n}) (hf:f { cls:=.type "list",data:=.seq its.toArray n}={ cls:=.type "list",data:=.seq its'.toArray n'}) (r:Vals ys its') (hz:ys.length<=sizeLine) (t:Nat) :
  Inv X pins σ (upd H p (.lst ys)) { s with heap:=s.heap.update p f,toks:=t}:=by
 have e:(s.heap.update p f).get? p=some { cls:=.type "list",data:=.seq its'.toArray n'}:=by
  rw[Heap.get?_update_self f ho (by rw[hf] <;> rfl),hf]
 refine I.write (x:=p) (e:=p) (by rw[h];trivial) (.inl rfl) (fun b u hb q=>(Heap.get?_update_other _ _ (Ne.symm hb)).trans q) ⟨_,e⟩ ?_
 exact⟨hz,its',n',r,e⟩
def rSetL:V->V->V->Hp->(Hp->Prop)->Prop:=fun o i v H Q=>∃p xs k j,o=.ref p/\i=.int k/\H p=some (.lst xs)/\ixN xs.length k=some j/\Q (upd H p (.lst (xs.set j v)))
theorem d5h:PSet X rSetL:=by
 intro pins s σ H o i v ov iv u Q I ro ri rv h;obtain⟨p,xs,k,j,rfl,rfl,hp,hj,q⟩:=h;cases ro;obtain⟨t,rfl⟩:=ri;obtain⟨its,n,r,ho,hz⟩:=I.lst hp;obtain⟨h1,h2,h3,h4⟩:=c3j hj;have hl:=r.length;have hn:=b5b;have I':Inv X pins σ (upd H p (.lst (xs.set j v))) { s with heap:=s.heap.update p (Obj.mapSeq (·.setIfInBounds j u))}:=
  I.lstUpd hp ho (c7n its n j u) (r.set rv j) (by rw[List.length_set];exact hz) s.toks
 by_cases h0:0<=k
 ·have hk:k.toNat=j:=by
   rw[seqIndex_of h0 h4] at h1;exact Option.some.inj h1
  exact PySem.W.ki_setAt ho h0 (by omega) (by rw[List.size_toArray,<-hl];exact h4) (by rw[hk];exact⟨_,I',q⟩)
 ·have hk:(k+(its.toArray.size:Int)).toNat=j:=by
   rw[seqIndex_neg (by omega) h3] at h1
   rw[List.size_toArray,<-hl];exact Option.some.inj h1
  exact PySem.W.ki_setBack ho (by omega) (by rw[List.size_toArray,<-hl];exact h3) (by omega) (by rw[hk];exact⟨_,I',q⟩)
theorem c1g(lo hi:Option Int)(n:Nat):(sliceBounds lo hi none n).1=((HT.sIx n 0 lo:Nat):Int)/\(sliceBounds lo hi none n).2.1=((HT.sIx n n hi:Nat):Int)/\(sliceBounds lo hi none n).2.2=1:=by
 refine⟨?_,?_,rfl⟩
 ·cases lo with
  |none=>simp[sliceBounds,HT.sIx]
  |some i=>
   simp only[sliceBounds,HT.sIx,Option.getD_none,show(1:Int) > 0 by decide,if_true]
   by_cases h:i < 0
   ·simp only[h,if_true] <;> omega
   ·simp only[h,if_false] <;> omega
 ·cases hi with
  |none=>simp[sliceBounds,HT.sIx]
  |some i=>
   simp only[sliceBounds,HT.sIx,Option.getD_none,show(1:Int) > 0 by decide,if_true]
   by_cases h:i < 0
   ·simp only[h,if_true] <;> omega
   ·simp only[h,if_false] <;> omega
theorem b8r(its:List Value)(lo hi:Option Int):slicePick its.toArray lo hi none=((its.drop (HT.sIx its.length 0 lo)).take (HT.sIx its.length its.length hi - HT.sIx its.length 0 lo)).toArray:=by
 obtain⟨h1,h2,h3⟩:=c1g lo hi its.toArray.size;unfold slicePick;rw[h1,h2,h3];simp only[sliceRange_one,pick_run,List.size_toArray] <;> rfl
def rSlL(K:L2.FG):V->Option Int->Option Int->Hp->VK->Prop:=fun x lo hi H Q=>∃a xs,x=.ref a/\SqL K H a xs/\∀p,H p=none->Q (.ref p) (upd H p (.lst (cutV xs lo hi)))
theorem d9o:SlR X (rSlL X.K):=by
 intro pins s σ H x v vl vu lo hi sl Q I rx hs pl pu h;obtain⟨a,xs,rfl,hx,q⟩:=h;cases rx;obtain⟨its,r,ht,hz⟩:=I.list hx;have hlen:=r.length;refine⟨"list",_,slot_list_getitem.lookup,ht.isList.typeIs,?_⟩;refine wpAny_getItem_list_slice ht.isList hs pl pu .none (by simp) ?_ (by rw[List.size_toArray] <;> omega)
 rw[b8r,<-hlen];refine⟨.ref s.heap.objs.size,_,I.laid (t':=s.toks) (o:=.lst (cutV xs lo hi)) (fun b ob q=>Heap.get?_push_of_some _ q) (Nat.le_refl _) ?_,rfl,q _ (I.hok.fresh (Nat.le_refl _))⟩
 exact⟨Nat.le_trans (b5f xs lo hi) hz,_,0,(r.drop (HT.sIx xs.length 0 lo)).take (HT.sIx xs.length xs.length hi - HT.sIx xs.length 0 lo),Heap.get?_push_size _ rfl⟩
def flatV:V->Bool
 |.non=>true
 |.bl _=>true
 |.int _=>true
 |.str _=>true
 |_=>false
def eqV:V->V->Bool
 |.non,.non=>true
 |.bl a,.bl b=>a == b
 |.bl a,.int b=>(if a then 1 else 0) == b
 |.int a,.bl b=>a == (if b then 1 else 0)
 |.int a,.int b=>a == b
 |.str a,.str b=>a == b
 |_,_=>false
theorem c1h:CallR X (.builtin "len") (fun xs H Q=>∃p ys,xs=[.ref p]/\(SqL X.K H p ys\/SqT X.K H p ys)/\Q (.int ys.length) H):=by
 intro pins s σ H xs us Q I r h;obtain⟨p,ys,rfl,hq,q⟩:=h;obtain⟨u,rfl,rx⟩:=vals1 r;cases rx;have hn:=b5b;rcases hq with hq|hq
 ·obtain⟨its,r',pl,hz⟩:=I.list hq;have hlen:=r'.length;exact Calls.call_len_list pl.isList (by simp only[List.size_toArray] <;> omega) ⟨.int ys.length,H,I.tok _,⟨s.toks+1,by rw[List.size_toArray,hlen]⟩,q⟩
 ·obtain⟨its,r',pl,hz⟩:=I.tuple hq;have hlen:=r'.length;exact len_tuple pl (by simp only[List.size_toArray] <;> omega) ⟨.int ys.length,H,I.tok _,⟨s.toks+1,by rw[List.size_toArray,hlen]⟩,q⟩
theorem c1i:CallR X (.builtin "len") (fun xs H Q=>∃z,xs=[.str z]/\z.length<=sizeLine/\Q (.int z.length) H):=by
 intro pins s σ H xs us Q I r h;obtain⟨z,rfl,hz,q⟩:=h;obtain⟨u,rfl,t,rfl⟩:=vals1 r;have hn:=b5b;exact len_str (by omega) ⟨.int z.length,H,I.tok _,⟨_,rfl⟩,q⟩
theorem CallR.or{f:Value}{r r':List V->Hp->VK->Prop}(h:CallR X f r)(h':CallR X f r'):CallR X f (fun xs H Q=>r xs H Q\/r' xs H Q):=by
 intro pins s σ H xs us Q I rs q;rcases q with q|q
 ·exact h pins s σ H xs us Q I rs q
 ·exact h' pins s σ H xs us Q I rs q
theorem c1j:CallR X (.type "list") (fun xs H Q=>∃p ys,xs=[.ref p]/\(SqL X.K H p ys\/SqT X.K H p ys)/\∀l,H l=none->Q (.ref l) (upd H l (.lst ys))):=by
 intro pins s σ H xs us Q I r h;obtain⟨p,ys,rfl,hq,q⟩:=h;obtain⟨u,rfl,rx⟩:=vals1 r;cases rx;have fin:∀(its:List Value),Vals ys its->ys.length<=sizeLine->∀(h':Heap) (c':Nat),(∀b o',s.heap.get? b=some o'->h'.get? b=some o')->
   h'.get? s.heap.objs.size=some { cls:=.type "list",dict:=none,data:=.seq its.toArray c',slots:=#[]}->EP X pins σ Q (.ref s.heap.objs.size) { s with heap:=h'}:=fun its r' hz h' c' kp e=>
  ⟨.ref s.heap.objs.size,_,I.laid (t':=s.toks) kp (Nat.le_refl _) (show ObjOk X.prog X.w _ h' _ (.lst ys) from⟨hz,its,c',r',e⟩),rfl,q _ (I.hok.fresh (Nat.le_refl _))⟩
 rcases hq with hq|hq
 ·obtain⟨its,r',pl,hz⟩:=I.list hq;have hlen:=r'.length;obtain⟨o,ho,hc,n,hd⟩:=pl.isList;exact call_list_seq p (.inl rfl) ho hc hd (fun h' c' kp e=>fin its r' hz h' c' kp e) (by simp only[List.size_toArray] <;> omega)
 ·obtain⟨its,r',pl,hz⟩:=I.tuple hq;have hlen:=r'.length;obtain⟨o,ho,hc,n,hd⟩:=pl;exact call_list_seq p (.inr rfl) ho hc hd (fun h' c' kp e=>fin its r' hz h' c' kp e) (by simp only[List.size_toArray] <;> omega)
def tyV(K:L2.FG)(T:String)(x:V)(H:Hp):Prop:=match x with
 |.str _=>T="str"
 |.int _=>T="int"
 |.ref p=>(T="list"/\∃xs,SqL K H p xs)\/(T="tuple"/\∃o,K.lookup p=some o/\o.cls=.type "tuple"/\o.dict=none)\/
   (T="dict"/\((∃kvs,H p=some (.dK kvs))\/(∃kvs,H p=some (.dT kvs))\/∃es ep,H p=some (.dG es ep)))\/(T="set"/\∃S n,H p=some (.set S n))
 |_=>False
theorem c9n{T:String}{v:Value}(I:Inv X pins σ H s)(r:RelV x v)(ty:tyV X.K T x H):
  s.TypeIs v T/\∀a,v=.ref a->∃ob,s.heap.get? a=some ob/\ob.dict=none:=by
 cases x with
 |str z=>
  obtain⟨t,rfl⟩:=r;cases(show T="str" from ty);exact⟨typeIs_str s z t,fun _ e=>nomatch e⟩
 |int i=>
  obtain⟨t,rfl⟩:=r;cases(show T="int" from ty);exact⟨typeIs_int s i t,fun _ e=>nomatch e⟩
 |ref p=>
  cases r;rcases ty with⟨rfl,xs,hq⟩|⟨rfl,o,hk,hc,hd⟩|⟨rfl,hk⟩|⟨rfl,S,n,hk⟩
  ·obtain⟨its,_,pl,_⟩:=I.list hq;refine⟨pl.isList.typeIs,fun a e=>?_⟩
   cases e;obtain⟨o,n,e,c,hd,_⟩:=pl;exact⟨o,e,hd⟩
  ·refine⟨⟨o,I.kIn p o hk,hc⟩,fun a e=>?_⟩
   cases e;exact⟨o,I.kIn _ o hk,hd⟩
  ·have z:∃o,s.heap.get? p=some o/\o.ExactDict:=by
    rcases hk with⟨kvs,hk⟩|⟨kvs,hk⟩|⟨es,ep,hk⟩
    ·obtain⟨_,_,_,_,o,_,_,e,ex,_⟩:=I.hok p _ hk;exact⟨o,e,ex⟩
    ·obtain⟨_,_,_,_,o,_,_,e,ex,_⟩:=I.hok p _ hk;exact⟨o,e,ex⟩
    ·obtain⟨_,_,o,_,e,ex,_⟩:=I.hok p _ hk;exact⟨o,e,ex⟩
   obtain⟨o,e,ex⟩:=z;refine⟨⟨o,e,ex.1⟩,fun a e2=>?_⟩
   cases e2;exact⟨o,e,ex.2.1⟩
  ·obtain⟨o,_,_,_,e,ex,_⟩:=I.hok p _ hk;refine⟨⟨o,e,ex.1⟩,fun a e2=>?_⟩
   cases e2;exact⟨o,e,ex.2.1⟩
 |_=>exact False.elim ty
def tBM0(K:L2.FG)(T:String)(r:V->List V->Hp->VK->Prop)(to:TE):TE:=fun σ H Q=>to σ H fun x H1=>tyV K T x H1/\r x [] H1 Q
def tBM(K:L2.FG)(T:String)(r:V->List V->Hp->VK->Prop)(to:TE)(t:TA):TE:=fun σ H Q=>to σ H fun x H1=>tyV K T x H1/\t σ H1 fun xs H2=>r x xs H2 Q
variable {o e:Expr} {es:List Expr} {to:TE} {t:TA} {name:Str} {apos cpos:Pos} {T id:String} {r:V->List V->Hp->VK->Prop}
theorem e3e(pa:PlainAttrs T)(slot:Slot T name id)(hty:typeOf (.builtin id)=pure (.type "method_descriptor"))(hm:MtR X id r)(ho:PE X o to)
  (hbase:attributeBase o name X.env (eval o X.env)=eval o X.env:=by rfl) (hline:(apos.endLine == cpos.line)=true:=by rfl):PE X (.Call (.Attribute o name apos) [] [] cpos) (tBM0 X.K T r to):=by
 intro pins s σ H Q I h;refine wpAny_Call_method0_late hbase hline (thn (ho pins s σ H _ I h) fun v s1 hh=>?_)
 obtain⟨x,H1,I1,r1,ty,q1⟩:=hh;obtain⟨h1,h2⟩:=c9n I1 r1 ty;exact⟨T,id,pa,slot,hty,h1,h2,Calls.callWith_builtin rfl (PySem.evalArgs_none (hm pins s1 σ H1 x [] v [] Q I1 r1 .nil q1))⟩
theorem d5i(pa:PlainAttrs T)(slot:Slot T name id)(hty:typeOf (.builtin id)=pure (.type "method_descriptor"))(hm:MtR X id r)(ho:PE X o to)(ha:PA X (e::es) t)
  (hbase:attributeBase o name X.env (eval o X.env)=eval o X.env:=by rfl)
  (hfew:((backTo cpos (starEach (e::es) X.env)).all (fun x => !x.1) && (backToKw cpos (keywordEach [] X.env)).all (fun x=>x.1.isSome)
   && decide ((e::es).length+([]:List Keyword).length+(if([]:List Keyword).isEmpty then 0 else 1) < 30))=true:=by rfl)
  (hline:(apos.endLine == cpos.line)=true:=by rfl) (hs:starEach (e::es) X.env=(false,eval e X.env)::starEach es X.env:=by rfl) (hplain:(backTo cpos (starEach es X.env)).any (·.1)=false:=by rfl) :
  PE X (.Call (.Attribute o name apos) (e::es) [] cpos) (tBM X.K T r to t):=by
 intro pins s σ H Q I h;refine wpAny_Call_method_late hbase hfew hline rfl (thn (ho pins s σ H _ I h) fun v s1 hh=>?_)
 obtain⟨x,H1,I1,r1,ty,q1⟩:=hh;obtain⟨h1,h2⟩:=c9n I1 r1 ty;refine⟨T,id,pa,slot,hty,h1,h2,?_⟩;have hA:=ha cpos pins s1 σ H1 _ I1 q1;rw[hs] at hA ⊢;refine Calls.callWith_builtin (by show(false || (backTo cpos (starEach es X.env)).any (·.1))=false;rw[hplain] <;> rfl) (Calls.evalArgs_plain ?_)
 exact thn hA fun us s2 ⟨vs,H2,I2,r2,q2⟩=>hm pins s2 σ H2 x vs v us Q I2 r1 r2 q2
end
def MtM(X:Cx)(id:String)(r:V->List V->Hp->VK->Prop):Prop:=
 ∀(pins:List (Addr×Obj)) (s:Shared) (σ:St) (H:Hp) (x:V) (xs:List V) (v:Value) (us:List Value) (Q:VK),Inv X pins σ H s->RelV x v->Vals xs us->r x xs H Q->
  wpAny (model X.prog X.w) X.A (call (.builtin id) (v::us)) (EP X pins σ Q) X.xe s
theorem Vals.one(h:Vals [x] us):∃u,us=[u]/\RelV x u:=by
 cases h with
 |cons r t=>
  cases t;exact⟨_,rfl,r⟩
theorem Vals.two{y:V}(h:Vals [x,y] us):∃u v,us=[u,v]/\RelV x u/\RelV y v:=by
 cases h with
 |cons r t=>
  obtain⟨v,rfl,q⟩:=Vals.one t;exact⟨_,_,rfl,r,q⟩
theorem Vals.zero:∀{us:List Value},Vals [] us->us=[]
 |_,.nil=>rfl
section
variable {X:Cx} {pins:List (Addr×Obj)} {σ:St} {H:Hp} {s:Shared} {l b:Addr} {xs ys zs:List V}
theorem Inv.lset{f:Array Value->Array Value}(I:Inv X pins σ H s)(hH:H l=some (.lst xs))
  (e:s.heap.get? l=some { cls:=.type "list",data:=.seq its.toArray n}) (hf:f its.toArray=its'.toArray) (hv:Vals ys its') (hz:ys.length<=sizeLine) :
  Inv X pins σ (upd H l (.lst ys)) { s with heap:=s.heap.update l (Obj.mapSeq f),toks:=t'}:=by
 have q:=PySem.IsL.update e f;rw[hf] at q;refine I.write (x:=l) (e:=l) (by rw[hH];exact trivial) (.inl rfl) (fun b' u hb hu=>(Heap.get?_update_other s.heap (Obj.mapSeq f) (Ne.symm hb)).trans hu) ⟨_,q⟩ ?_
 exact⟨hz,its',_,hv,q⟩
theorem Inv.lnew(I:Inv X pins σ H s)(hv:Vals ys its)(hz:ys.length<=sizeLine):
  Inv X pins σ (upd H s.heap.objs.size (.lst ys)) { s with heap:=s.heap.push { cls:=.type "list",data:=.seq its.toArray},toks:=t'}:=
 I.laid (fun _ _ q=>Heap.get?_push_of_some _ q) (Nat.le_refl _) ⟨hz,its,0,hv,Heap.get?_push_size _ rfl⟩
theorem Inv.fresh(I:Inv X pins σ H s):H s.heap.objs.size=none:=I.hok.fresh (Nat.le_refl _)
theorem Inv.lstM(I:Inv X pins σ H s)(hH:H l=some (.lst xs)):xs.length<=sizeLine/\∃(its:List Value) (n:Nat),Vals xs its/\xs.length=its.length/\s.heap.get? l=some { cls:=.type "list",data:=.seq its.toArray n}:=by
 obtain⟨z,its,n,r,e⟩:=I.hok l _ hH;exact⟨z,its,n,r,r.length,e⟩
end
section
variable {X:Cx}
def c9o:V->List V->Hp->VK->Prop:=fun x vs H Q=>∃l xs y,x=.ref l/\vs=[y]/\H l=some (.lst xs)/\xs.length < sizeLine/\Q .non (upd H l (.lst (xs++[y])))
theorem b0x:MtM X "list.append" c9o:=by
 intro pins s σ H x vs v us Q I rx rv h;obtain⟨l,xs,y,rfl,rfl,hH,hz,q⟩:=h;cases rx;obtain⟨u,rfl,ru⟩:=rv.one;obtain⟨z,its,n,r,hl,e⟩:=I.lstM hH;refine call_meets F.slot_list_append ⟨_,e,rfl⟩ F.entry_list_append (F.args_list_append_2 _ _) (PySem.list_append l its.toArray n u (by rw[List.size_toArray];omega)) ⟨e,?_⟩
 refine⟨.non,_,I.lset (its':=its++[u]) hH e (by simp) (r.append (.cons ru .nil)) ?_,rfl,q⟩
 rw[List.length_append,List.length_singleton];omega
def d7r:V->List V->Hp->VK->Prop:=fun x vs H Q=>∃l xs,x=.ref l/\vs=[]/\H l=some (.lst xs)/\Q .non (upd H l (.lst []))
theorem b3w:MtM X "list.clear" d7r:=by
 intro pins s σ H x vs v us Q I rx rv h;obtain⟨l,xs,rfl,rfl,hH,q⟩:=h;cases rx;have hus:=rv.zero;subst hus;obtain⟨z,its,n,r,hl,e⟩:=I.lstM hH;refine call_meets F.slot_list_clear ⟨_,e,rfl⟩ F.entry_list_clear (F.args_list_clear_1 _) (AutoSeq1.list_clear_list_0 l its.toArray n (by rw[List.size_toArray];omega)) ⟨e,?_⟩
 exact⟨.non,_,I.lset (its':=[]) (ys:=[]) hH e rfl .nil (Nat.zero_le _),rfl,q⟩
end
section
variable {prog:Program} {w:World} {A:Around} {E:Value->Shared->Prop} {s:Shared}
end
section
variable {X:Cx}
end
section
variable {κ:Type} [DecidableEq κ]
theorem RelO.isSome_eq{o:Option V}{u:Option Value}(r:RelO o u):o.isSome=u.isSome:=by
 cases o with
 |none=>cases u with
  |none=>rfl
  |some _=>exact(show False from r).elim
 |some _=>cases u with
  |none=>exact(show False from r).elim
  |some _=>rfl
end
section
variable {P:Program} {w:World} {H:Hp} {h:Heap} {a:Addr}
end
section
variable {X:Cx} {pins:List (Addr×Obj)} {σ:St} {H:Hp} {s:Shared} {a:Addr} {y v:V} {u r:Value} {o:Option V} {A:Around} {E:Value->Shared->Prop}
theorem Inv.big(I:Inv X pins σ H s):sysModules < s.heap.objs.size:=by
 have h:mainGlobals < s.heap.objs.size:=(I.mod.glob.keeps I.bk).lt;exact Nat.lt_trans (by decide) h
theorem c9p{h':Heap}{ob:HO}(I:Inv X pins σ H s)(mu:Mut (H a))(hs:Heap.SameBut a s.heap h')(he:∃q,h'.get? a=some q)(new:ObjOk X.prog X.w (upd H a ob) h' a ob):
  Inv X pins σ (upd H a ob) { s with heap:=h',toks:=t'}:=
 I.write (x:=a) (e:=a) mu (.inl rfl) (fun b q hb z=>(hs.2 b hb).trans z) he new
end
section
variable {X:Cx} {pins:List (Addr×Obj)} {σ:St} {H:Hp} {s:Shared} {a:Addr} {kvs:List (Key×V)} {k:Key} {u:Value} {A:Around} {E:Value->Shared->Prop}
end
section
variable {X:Cx} {o i e value:Expr} {pos pos' tpos:Pos} {td ty tv:TE}
end
section
variable {X:Cx} {pos:Pos}
end
structure M1 (X:Cx) (o:Expr) (m:Str) (apos:Pos) (e:Expr) (cpos:Pos):Prop where
 base:attributeBase o m X.env (eval o X.env)=eval o X.env
 few:((backTo cpos (starEach [e] X.env)).all (fun x => !x.1) && (backToKw cpos (keywordEach [] X.env)).all (fun x=>x.1.isSome)
  && decide (([e]:List Expr).length+([]:List Keyword).length+(if([]:List Keyword).isEmpty then 0 else 1) < 30))=true
 line:(apos.endLine == cpos.line)=true
 trees:backTo cpos (starEach [e] X.env)=[(false,eval e X.env)]
structure M2 (X:Cx) (o:Expr) (m:Str) (apos:Pos) (e f:Expr) (cpos:Pos):Prop where
 base:attributeBase o m X.env (eval o X.env)=eval o X.env
 few:((backTo cpos (starEach [e,f] X.env)).all (fun x => !x.1) && (backToKw cpos (keywordEach [] X.env)).all (fun x=>x.1.isSome)
  && decide (([e,f]:List Expr).length+([]:List Keyword).length+(if([]:List Keyword).isEmpty then 0 else 1) < 30))=true
 line:(apos.endLine == cpos.line)=true
 trees:backTo cpos (starEach [e,f] X.env)=[(false,eval e X.env),(false,eval f X.env)]
section
variable {X:Cx} {pins:List (Addr×Obj)} {σ:St} {H:Hp} {s:Shared} {a:Addr} {y d:V} {u r:Value} {o:Option V} {A:Around} {E:Value->Shared->Prop}
end
section
variable {X:Cx} {o e f:Expr} {apos cpos:Pos} {td ty tx:TE}
end
section
variable {X:Cx} {pins:List (Addr×Obj)} {σ:St} {H:Hp} {s:Shared} {a:Addr} {kvs:List (Key×V)} {A:Around} {E:Value->Shared->Prop}
end
section
variable {X:Cx} {pins:List (Addr×Obj)} {σ:St} {H:Hp} {s:Shared} {a:Addr} {y:V} {u:Value} {A:Around} {E:Value->Shared->Prop}
end
end L2
namespace Att
open PySem PySem.W PySem.Calls PyProof.Rows
variable{P:Params}{h:Heap}{l:OpenLaw}{n:Nat}
theorem b5g:∀(ns:List Int) (vs:List Value),WellAll P h vs (ns.map WData.int)->IntsAre vs ns:=by
 intro ns
 induction ns with
 |nil=>
  intro vs w;rw[List.map_nil] at w;cases w;exact .nil
 |cons n ns ih=>
  intro vs w;rw[List.map_cons] at w;cases w with
  |cons a b=>
   cases a;exact .cons _ _ (ih _ b)
theorem c9q(hn:l.most=some n){args:List WData}{vals:List Value}
  (hpre:l.row.toRowW.claim.pre args=true) (hwl:WellAll P h vals args) :
  ∃a vs ns,vals=[Value.ref a]/\args=[WData.list (ns.map WData.int)]/\h.get? a=some { cls:=.type "list",data:=.seq vs.toArray}/\IntsAre vs ns/\ns.length<=n:=by
 have hsh:WShape.hasAll [] args [.list .int]=true:=(pre_splitW hpre).1;have hc:l.pre.holds [] { args:=args}=true:=(pre_splitW hpre).2;obtain⟨d,r,rfl,h1,h2⟩:=hasAllW_cons hsh;obtain rfl:=hasAllW_nil h2;obtain⟨xs,rfl,h3⟩:=hasW_list h1;obtain⟨ns,rfl⟩:=items_int h3;have hlen:ns.length<=n:=by
  unfold OpenLaw.pre at hc;have h4:(WTm.not (.lt (.lit (.int (n:Int))) (.len (.arg 0)))).holds [] { args:=[.list (ns.map .int)]}=true:=by
   have h4:=(holds_andW hc).1;rw[hn] at h4;exact h4
  have h5:=condW_of h4 (w_not (w_lt w_lit (w_len_list (w_arg rfl))));rw[List.length_map] at h5;refine Nat.le_of_not_lt fun q=>?_
  have q':(n:Int) < ((ns.length:Nat):Int):=by omega
  first
   |(rw[decide_eq_true q'] at h5;exact absurd h5 (by decide))
   |(simp at h5;omega)
 cases hwl with
 |cons w1 w2=>
  cases w2;cases w1 with
  |list ho hall=>exact⟨_,_,ns,rfl,rfl,ho,b5g ns _ hall,hlen⟩
theorem c9r(l:OpenLaw)(args:List WData):l.row.toRowW.claim.post args (.bool true) args=true:=
 postW_of (r:=l.row.toRowW) (X:=(true == true))
  (show WShape.has [] (.bool true) .bool=true by first|rfl|decide|simp[WShape.has,WShape.arms,WShape.armsAll])
  (show(WTm.eq .res (.lit (.bool true))).value [] { args:=args,res:=some (.bool true),after:=args}=some (.bool (true == true)) from w_eq_bool (w_res rfl) w_lit) rfl
theorem attach_call{q:Program}{loose:List Str}{XP:(Str->Option Value)->Heap->Prop}{YP:World->Heap->Prop}{d:DefRec}
  (hn:l.most=some n) (hdf:d.params.defaults=[])
  (call:∀(w:World) (s₀ s₁:Shared) (mg mb:Str->Option Value) (fa:Addr) (o:Obj) (pm cd doc:Value) (a:Addr) (vs:List Value) (ns:List Int),
   Ground q loose [] XP w s₀ mg mb s₁.heap->YP w s₁.heap->
   s₁.heap.get? fa=some o->o.data=.func (docDef d.name d.params d.body d.scope pm cd doc)->s₁.heap.CodeRec cd d.name->mg d.name=some (.ref fa)->
   s₁.heap.get? a=some { cls:=.type "list",data:=.seq vs.toArray}->IntsAre vs ns->ns.length<=n->s₁.gens=#[]->
   codeAny (model l.prog w) callerA (.call (.ref fa) ⟨[.ref a],[]⟩) (fun r s'=>r=.ok (.ret (.bool true))/\OldK s₁.heap s'.heap/\s'.os=s₁.os/\AllBare s'.gens) s₁) :
  WalkO q loose XP YP l.row.toRowW d [] (fun f vs=>PySem.call f vs):=by
 intro w s₀ s₁ mg mb G Y fa o pm cd doc dV kV ho hd hcd hD hmg hg args vals as hpre hlay hrd hwl hlo;obtain rfl:dV=.none:=Dflts.none hD hdf;obtain rfl:kV=.none:=Dflts.noKw hD;obtain⟨a,vs,ns,rfl,rfl,hobj,hints,hlen⟩:=c9q hn hpre hwl;refine enter_call (codeAny_mono (call w s₀ s₁ mg mb fa o pm cd doc a vs ns G Y ho (fd_plain hd) hcd hmg hobj hints hlen hg) fun r s' hq=>?_)
 obtain⟨rfl,h2,h3,h4⟩:=hq;exact⟨.inl ⟨.bool true,.bool true,[],rfl,fun _=>rfl,.bool true,c9r l _,fun _=>⟨List.Pairwise.nil,fun _ hm=>(nomatch hm)⟩⟩,h2,h3,h4⟩
section
variable {prog:Program} {w:World} {A:Around} {E:Value->Shared->Prop} {s:Shared} {K:Frag}
end
end Att
namespace L2
open PySem PySem.Spec PyProof.Rows
variable{K:L2.FG}{k:Nat}{a f:Addr}{fd:FuncData}{x qual:Str}{sp:Sp}{st:Stmt}{ps:List Str}{H H':Hp}
theorem c1k:∀{vs:List Value} {ns:List Int},IntsAre vs ns->Vals (ns.map V.int) vs
 |_,_,.nil=>.nil
 |_,_,.cons n t h=>.cons ⟨t,rfl⟩ (c1k h)
def Only(H:Hp):Prop:=∀b,H b=none\/∃o xs,H b=some (.frz o (.lst xs))
theorem d5j{P:Program}{w:World}{mg mb:Str->Option Value}{CX:CXT}{fa:Addr}{s₁:Shared}{vs:List Value}{ns:List Int}
  (KX:K.In s₁.heap) (hns:s₁.heap.Ns mainGlobals mg) (hb:s₁.heap.Ns builtinsNs mb) (hbb:∀x:Str,x≠"__name__"->mb x=bootBuiltins x) (hlim:s₁.heap.NoLimit) (hg:s₁.gens=#[])
  (ha:s₁.heap.get? a=some { cls:=.type "list",data:=.seq vs.toArray}) (hi:IntsAre vs ns) (hl:ns.length<=sizeLine) (hr:Room k callerA)
  (F:∀base:Heap,K.In base->base.Ns mainGlobals mg->FnOk P w K mg base CX k fa fd [x] sp) (hbind:∀(s:Shared) (u:Value),BindsTo s fd ⟨[u],[]⟩ [(x,u)])
  (hsp:∀H:Hp,Only H->SqL K H a (ns.map V.int)->sp [.ref a] H (fun v _=>v=.bl true) fun _ _ _=>False)
  (hCX:∀H e s',CX [] H s₁ (fun _ _ _=>False) e s'->False) :
  codeAny (model P w) callerA (.call (.ref fa) ⟨[.ref a],[]⟩) (fun r s'=>r=.ok (.ret (.bool true))/\OldK s₁.heap s'.heap/\s'.os=s₁.os/\AllBare s'.gens) s₁:=by
 have rv:=c1k hi;have lenV:=hi.length;have core:∀H:Hp,Only H->SqL K H a (ns.map V.int)->HOk P w H s₁.heap->(∀b,H b≠none->b=a)->(H a≠none->K.lookup a=none)->
   codeAny (model P w) callerA (.call (.ref fa) ⟨[.ref a],[]⟩) (fun r s'=>r=.ok (.ret (.bool true))/\OldK s₁.heap s'.heap/\s'.os=s₁.os/\AllBare s'.gens) s₁:=by
  intro H hO hS hok hA hK;have base_of:∀{b:Addr} {o:Obj},s₁.heap.get? b=some o->H b=none->(hidT s₁.heap H).get? b=some o:=fun e n=>d4s e n
  have noA:∀{b:Addr} {o:Obj} {es:Array DictEntry} {ep:Nat},s₁.heap.get? b=some o->o.data=.dict es ep->H b=none:=fun{b o es ep} e d=>by
   cases q:H b with
   |none=>rfl
   |some u=>
    have e':b=a:=hA b (by rw[q];simp)
    subst e';rw[ha] at e;cases e;have d':Data.seq vs.toArray _=Data.dict es ep:=d;cases d'
  have nsK:∀{b:Addr} {m:Str->Option Value},s₁.heap.Ns b m->(hidT s₁.heap H).Ns b m:=fun{b m} ⟨o,es,ep,e,d,r⟩=>⟨o,es,ep,base_of e (noA e d),d,r⟩
  have hKb:K.In (hidT s₁.heap H):=fun b o e=>base_of (KX b o e) (by
   cases q:H b with
   |none=>rfl
   |some u=>
    have e':b=a:=hA b (by rw[q];simp)
    subst e';rw[hK (by rw[q];simp)] at e;cases e)
  have hM:Mod K mg (hidT s₁.heap H):=⟨hKb,nsK hns,⟨mb,nsK hb,hbb⟩,let ⟨mc,h1,h2⟩:=hlim;⟨mc,nsK h1,h2⟩⟩
  have e0:Env0 P w K mg (hidT s₁.heap H) callerA [] s₁ H:=⟨rfl,hM,fun b o e=>d8x e,Nat.le_of_eq (c8v _ _),trivial,fun b hb=>absurd (show b∈([]:List Addr) from hb) (by simp),hok,.of_eq hg⟩
  refine codeAny_mono ((F _ hKb (nsK hns)).run callerA [] s₁ H ⟨[.ref a],[]⟩ [.ref a] [.ref a] _ _ hr e0 (hbind s₁ (.ref a)) (.cons rfl .nil) (hsp H hO hS)) fun r s' h=>?_
  cases r with
  |error e=>exact(hCX H e s' h).elim
  |ok fl=>
   cases fl with
   |next=>exact False.elim h
   |brk=>exact False.elim h
   |cont=>exact False.elim h
   |ret u=>
    obtain⟨v,H',os,bare,un,hok',r',q⟩:=h;have q':v=.bl true:=q;subst q';obtain rfl:u=Value.bool true:=r';refine⟨rfl,OldK.of_keep fun b o e=>?_,os,bare⟩
    cases q:H b with
    |none=>exact un.keep b o e q (by intro z;exact absurd (show b∈([]:List Addr) from z) (by simp)) (by simp)
    |some u=>
     rcases hO b with z|⟨ob,xs,z⟩
     ·rw[q] at z;cases z
     ·have z2:=un.frzs b ob _ z;obtain⟨e1,_⟩:=hok b _ z;obtain⟨e2,_⟩:=hok' b _ z2;rw[e] at e1;cases e1;exact e2
 cases hk:K.lookup a with
 |some o=>
  have e:=KX a o hk;rw[ha] at e;cases e;refine core (fun _=>none) (fun _=>.inl rfl) (.inr ⟨_,vs.toArray,_,hk,rfl,rfl,rfl,by rw[List.size_toArray,lenV];exact hl,by simpa using rv⟩) (fun b u z=>by have z':(none:Option HO)=some u:=z;cases z') (fun b z=>absurd rfl z) fun z=>absurd rfl z
 |none=>
  refine core (fun b=>if b=a then some (.frz { cls:=.type "list",data:=.seq vs.toArray} (.lst (ns.map V.int))) else none) (fun b=>?_) (.inl (.inr ⟨{ cls:=.type "list",data:=.seq vs.toArray},if_pos rfl⟩)) (fun b u z=>?_) (fun b z=>?_) fun _=>hk
  ·by_cases hb:b=a
   ·exact .inr ⟨_,_,if_pos hb⟩
   ·exact .inl (if_neg hb)
  ·by_cases hb:b=a
   ·have z':=(if_pos hb).symm.trans z;cases z';subst hb;exact⟨ha,by rw[List.length_map];exact hl,vs,_,rv,ha⟩
   ·have z':=(if_neg hb).symm.trans z;cases z'
  ·by_cases hb:b=a
   ·exact hb
   ·exact absurd (if_neg hb) z
theorem walk_of{l:PySem.W.OpenLaw}{n:Nat}{q:Program}{loose:List Str}{XP:(Str->Option Value)->Heap->Prop}{YP:World->Heap->Prop}{d:DefRec}{K:Params->L2.FG}{CX:World->CXT}{sp:World->Sp}
  (hn:l.most=some n) (hn2:n<=sizeLine) (hdf:d.params.defaults=[]) (hr:Room k callerA)
  (hY:∀(w:World) (h:Heap),YP w h->(K w.params).In h)
  (F:∀(w:World) (mg:Str->Option Value) (fa:Addr) (h:Heap),(K w.params).In h->h.Ns mainGlobals mg->mg d.name=some (.ref fa)->
   ∃fd:FuncData,(∀(s:Shared) (u:Value),BindsTo s fd ⟨[u],[]⟩ [(x,u)])/\
    ∀base:Heap,(K w.params).In base->base.Ns mainGlobals mg->FnOk l.prog w (K w.params) mg base (CX w) k fa fd [x] (sp w))
  (hsp:∀(w:World) (H:Hp) (a:Addr) (ns:List Int),ns.length<=n->Only H->SqL (K w.params) H a (ns.map V.int)->sp w [.ref a] H (fun v _=>v=.bl true) fun _ _ _=>False)
  (hCX:∀(w:World) (H:Hp) (s:Shared) (e:Value) (s':Shared),CX w [] H s (fun _ _ _=>False) e s'->False) :
  PySem.W.WalkO q loose XP YP l.row.toRowW d [] (fun f vs=>PySem.call f vs):=by
 refine Att.attach_call hn hdf fun w s₀ s₁ mg mb fa o pm cd doc a vs ns G Y ho hd hcd hmg hobj hints hlen hg=>?_
 have KX:=hY w _ Y;obtain⟨fd,hb,hF⟩:=F w mg fa _ KX G.T.g hmg;exact d5j KX G.T.g G.T.b G.T.builtins G.T.nolimit hg hobj hints (Nat.le_trans hlen hn2) hr hF hb (fun H hO hS=>hsp w H a ns hlen hO hS) fun H e s'=>hCX w H s₁ e s'
def a3p(s:Stmt)(j:Nat):Stmt:=match s with
 |.ClassDef _ _ _ body _ _ _ _ _ _ _=>body.getD j (.Pass ⟨0,0,0,0⟩)
 |_=>.Pass ⟨0,0,0,0⟩
def b8s(s:Stmt):Arguments:=match s with
 |.FunctionDef _ a _ _ _ _ _ _ _ _=>a
 |_=>{ posonlyargs:=[],args:=[],vararg:=none,kwonlyargs:=[],kw_defaults:=[],kwarg:=none,defaults:=[]}
def a7y(s:Stmt):List Stmt:=match s with
 |.FunctionDef _ _ b _ _ _ _ _ _ _=>b
 |_=>[]
def a0k(s:Stmt):Scope:=match s with
 |.FunctionDef _ _ _ _ _ _ sc _ _ _=>sc
 |_=>{ kind:=.function,names:=[],isGenerator:=false,isCoroutine:=false}
abbrev CX0:CXT:=fun _ _ _ _ _ _=>False
abbrev E0:XK:=fun _ _ _=>False
abbrev E1:St->XK:=fun _=>E0
theorem pass0{X:Cx}:b3c CX0 X E1:=fun _ _ _ _ _ _ _ h=>h.elim
structure Fun (K:L2.FG) (x qual:Str) (st:Stmt) (f:Addr) (fd:FuncData):Prop where
 ex:∃(oc:Value) (od:Option Addr) (kV doc pm:Value) (an:Option Addr) (cdv ct:Value) (osl:Array (Option Value)),
  fd=PySem.W.fnOf x qual (b8s st) (a7y st) (a0k st) .none kV doc pm an cdv ct/\K.lookup f=some ⟨oc,od,.func fd,osl⟩/\PySem.W.codeIn K cdv qual=true
 kp:PySem.W.keepIn K (.ref f)=true
section
variable {P:Program} {w:World} {K:L2.FG} {mg:Str->Option Value} {base:Heap}
theorem Fun.ok{N:List Str}(F:Fun K x qual st f fd)(S:FnScope N ps (a0k st))(len:∀vs H Q E,sp vs H Q E->vs.length=ps.length)
  (hbody:∀(cdv:Value) (A:Around) (outer:List Env) (s:Shared) (H:Hp) (vs:List V) (Q:VK) (E:XK),Room k (A.deeper (envOfC qual (a0k st) s.heap.objs.size f cdv))->sp vs H Q E->
   ∃t,PSs (cxOf CX0 P w K mg base N qual (a0k st) f cdv A outer s H E).nox (a7y st) t/\t { nx:=fun _ H'=>Q .non H',rt:=Q} (start N vs) H):FnOk P w K mg base CX0 (k+1) f fd ps sp:=by
 obtain⟨oc,od,kV,doc,pm,an,cdv,ct,osl,rfl,lk,hcd⟩:=F.ex;refine e2z lk hcd S len fun A outer s H vs Q E hr hsp=>?_
 obtain⟨t,h,q⟩:=hbody cdv A outer s H vs Q E hr hsp;exact⟨t,h.nox,q⟩
theorem Fun.binds(F:Fun K x qual st f fd)
  (h:∀(kV doc pm:Value) (an:Option Addr) (cdv ct:Value) (us:List Value),us.length=ps.length->bindArgs (PySem.W.fnOf x qual (b8s st) (a7y st) (a0k st) .none kV doc pm an cdv ct) ⟨us,[]⟩=pure (ps.zip us)):Binds K fd ps []:=by
 obtain⟨oc,od,kV,doc,pm,an,cdv,ct,osl,rfl,lk,hcd⟩:=F.ex;exact .all (h kV doc pm an cdv ct)
theorem fun_mk{oc:Value}{od an:Option Addr}{osl:Array (Option Value)}{kV doc pm cdv ct:Value}(l:K.lookup f=some ⟨oc,od,.func (PySem.W.fnOf x qual (b8s st) (a7y st) (a0k st) .none kV doc pm an cdv ct),osl⟩)
  (c:PySem.W.codeIn K cdv qual=true) (k:PySem.W.keepIn K (.ref f)=true):Fun K x qual st f (PySem.W.fnOf x qual (b8s st) (a7y st) (a0k st) .none kV doc pm an cdv ct):=⟨⟨oc,od,kV,doc,pm,an,cdv,ct,osl,rfl,l,c⟩,k⟩
end
theorem hu_of{A:Around}(hr:Room k A):A.units+1 < cLine:=Nat.lt_of_le_of_lt (Nat.add_le_add_left (by decide:1<=64) _) hr.units
section
variable {X:Cx}
theorem pv(i:Nat){pos:Pos}(hN:X.N[i]?=some x:=by rfl)(hv:Vis X.env.scope x:=by first|exact Or.inl rfl|exact Or.inr (Or.inl rfl)|exact Or.inr (Or.inr rfl))(hd:(x == ("__debug__":Str))=false:=by decide)
  (hcd:(x == ("__classdict__":Str))=false:=by decide):PE X (.Name x pos) (tVar i):=e2i hN hv hd hcd
end
theorem iteF{A B:Prop}(h:B):if false=true then A else B:=by
 rw[if_neg Bool.false_ne_true];exact h
theorem iteT{A B:Prop}(h:A):if true=true then A else B:=by
 rw[if_pos rfl];exact h
def Same(H H':Hp):Prop:=∀b o,H b=some o->H' b=some o
theorem Same.refl(H:Hp):Same H H:=fun _ _ h=>h
theorem Same.trans{H1 H2:Hp}(a:Same H H1)(b:Same H1 H2):Same H H2:=fun c o h=>b c o (a c o h)
theorem Same.free(e:Same H H'){l:Addr}(h:H' l=Option.none):H l=Option.none:=by
 cases q:H l with
 |none=>rfl
 |some o=>
  rw[e l o q] at h;cases h
theorem Same.seq{xs:List V}(e:Same H H')(h:SqL K H a xs):SqL K H' a xs:=by
 rcases h with(h|⟨o,h⟩)|h
 ·exact .inl (.inl (e _ _ h))
 ·exact .inl (.inr ⟨o,e _ _ h⟩)
 ·exact .inr h
section
variable {κ:Type} [DecidableEq κ]
end
end L2
set_option maxHeartbeats 4000000
namespace L2
open PySem PySem.Spec PyProof.Rows
variable{env:Env}{names:List (Str×NameKind)}{x:Str}{c a:Addr}{scope:Scope}{X:Cx}{prog:Program}{w:World}{A:Around}{s:Shared}{pos:Pos}{H:Hp}{fp:List Addr}{Fin:List V->Hp->Prop}{wi:TI}{K:L2.FG}{tg l:Expr}{tl te:TE}{g:TG}{tt:TT}{τ:St}{n k:Nat}
def clOf(env:Env)(names:List (Str×NameKind)):List (Str×Addr):=((names.filter fun y=>y.2 == .free).reverse).map fun y=>(y.1,(env.cells.lookup y.1).getD 0)
theorem b5h{g:Str->Addr}{x:Str}:∀{l:List (Str×NameKind)},(∃k,(x,k)∈l)->(l.map fun y=>(y.1,g y.1)).lookup x=some (g x)
 |[],h=>by obtain⟨k,h⟩:=h;cases h
 |(n,k)::r,h=>by
  show List.lookup x ((n,g n)::_)=_;cases hx:x == n with
  |true=>
   have e:x=n:=by simpa using hx
   subst e;simp[List.lookup_cons]
  |false=>
   simp only[List.lookup_cons,hx];refine b5h (l:=r) ?_;obtain⟨k',h⟩:=h;rcases List.mem_cons.mp h with e|e
   ·cases e;simp at hx
   ·exact⟨k',e⟩
theorem b0d{g:Str->Addr}{x:Str}{c:Addr}:∀{l:List (Str×NameKind)},(l.map fun y=>(y.1,g y.1)).lookup x=some c->c=g x/\∃k,(x,k)∈l
 |[],h=>by cases h
 |(n,k)::r,h=>by
  have h:List.lookup x ((n,g n)::(r.map fun y=>(y.1,g y.1)))=some c:=h
  cases hx:x == n with
  |true=>
   have e:x=n:=by simpa using hx
   subst e;simp only[List.lookup_cons,hx] at h;exact⟨(Option.some.inj h).symm,k,List.mem_cons_self⟩
  |false=>
   simp only[List.lookup_cons,hx] at h;obtain⟨e,k',hk⟩:=b0d h;exact⟨e,k',List.mem_cons_of_mem _ hk⟩
theorem c5a(h:(x,NameKind.free)∈names)(hc:env.cells.lookup x=some c):(clOf env names).lookup x=some c:=by
 have:=b5h (g:=fun n=>(env.cells.lookup n).getD 0) (x:=x) (l:=(names.filter fun y=>y.2 == .free).reverse) ⟨.free,by simp[h]⟩
 unfold clOf;rw[this,hc];rfl
theorem c3m(hf:∀y∈names,y.2=.free->∃c,env.cells.lookup y.1=some c)(h:(clOf env names).lookup x=some c):env.cells.lookup x=some c:=by
 obtain⟨e,k,hk⟩:=b0d (g:=fun n=>(env.cells.lookup n).getD 0) h
 have hk':=List.mem_filter.mp (List.mem_reverse.mp hk);obtain⟨c',hc'⟩:=hf _ hk'.1 (by simpa using hk'.2)
 have hc'':env.cells.lookup x=some c':=hc';rw[e,hc''];rfl
theorem b2c{env:Env}:∀(names:List (Str×NameKind)) (cs:List (Str×Addr)),(∀y∈names,y.2=.free->∃c,env.cells.lookup y.1=some c)->
  (forIn names cs (fun(x:Str×NameKind) (r:List (Str×Addr))=>if(x.2 == NameKind.free)=true then(do let a <-cellOf env x.1;pure (ForInStep.yield ((x.1,a)::r))) else(pure (ForInStep.yield r):Sem (ForInStep (List (Str×Addr)))))) =
   pure (clOf env names++cs)
 |[],cs,_=>by rw[List.forIn_nil];rfl
 |(n,k)::r,cs,h=>by
  rw[List.forIn_cons];cases hk:k == NameKind.free with
  |true=>
   obtain⟨c,hc⟩:=h (n,k) List.mem_cons_self (by simpa using hk)
   have hc':env.cells.lookup n=some c:=hc;have e:cellOf env n=pure c:=by unfold cellOf;rw[hc']
   simp only[hk,if_true,e,pure_bind];rw[b2c r _ fun y hy=>h y (List.mem_cons_of_mem _ hy)]
   congr 1
   unfold clOf;rw[List.filter_cons];simp[hk,hc']
  |false=>
   simp only[hk,Bool.false_eq_true,if_false,pure_bind];rw[b2c r _ fun y hy=>h y (List.mem_cons_of_mem _ hy)]
   congr 1
   unfold clOf;rw[List.filter_cons];simp[hk]
theorem a8x(h:∀y∈scope.names,y.2=.free->∃c,env.cells.lookup y.1=some c):closureFor scope env=pure (clOf env scope.names):=by
 have:=b2c (env:=env) scope.names [] h;rw[List.append_nil] at this;unfold closureFor;show(forIn scope.names [] _ >>= fun r=>pure r)=_
 rw[bind_pure];exact this
theorem b3d{env:Env}:∀{names:List (Str×NameKind)} {x:Str},names.lookup x=some .free->
  (names.map fun(n,k)=>if(k == NameKind.free && env.scope.kind == .function && env.kindOf n == some .cell) then(n,NameKind.cell) else(n,k)).lookup x=some .cell\/
  (names.map fun(n,k)=>if(k == NameKind.free && env.scope.kind == .function && env.kindOf n == some .cell) then(n,NameKind.cell) else(n,k)).lookup x=some .free
 |[],_,h=>by simp at h
 |(n,k)::r,x,h=>by
  have ih:=@b3d env r x;show List.lookup x ((if(k == NameKind.free && env.scope.kind == .function && env.kindOf n == some .cell)=true then(n,NameKind.cell) else(n,k))::_)=_\/List.lookup x ((if(k == NameKind.free && env.scope.kind == .function && env.kindOf n == some .cell)=true then(n,NameKind.cell) else(n,k))::_)=_
  cases hx:x == n with
  |true=>
   simp only[List.lookup_cons,hx] at h;cases h;by_cases hc:(NameKind.free == NameKind.free && env.scope.kind == .function && env.kindOf n == some .cell)=true
   ·rw[if_pos hc];simp[List.lookup_cons,hx]
   ·rw[if_neg hc];simp[List.lookup_cons,hx]
  |false=>
   simp only[List.lookup_cons,hx] at h;by_cases hc:(k == NameKind.free && env.scope.kind == .function && env.kindOf n == some .cell)=true
   ·rw[if_pos hc];simp only[List.lookup_cons,hx];exact ih h
   ·rw[if_neg hc];simp only[List.lookup_cons,hx];exact ih h
theorem b2d{env:Env}:∀{names:List (Str×NameKind)} {x:Str} {q:NameKind},(q=.cell\/q=.free)->(∀y∈names,y.2≠.cell)->
  (names.map fun(n,k)=>if(k == NameKind.free && env.scope.kind == .function && env.kindOf n == some .cell) then(n,NameKind.cell) else(n,k)).lookup x=some q->(x,NameKind.free)∈names
 |[],_,_,_,_,h=>by simp at h
 |(n,k)::r,x,q,hq,hn,h=>by
  have ih:=@b2d env r x q hq fun y hy=>hn y (List.mem_cons_of_mem _ hy)
  have hk:k≠.cell:=hn (n,k) List.mem_cons_self;have h:List.lookup x ((if(k == NameKind.free && env.scope.kind == .function && env.kindOf n == some .cell)=true then(n,NameKind.cell) else(n,k))::_)=some q:=h
  cases hx:x == n with
  |true=>
   have e:x=n:=by simpa using hx
   subst e;by_cases hc:(k == NameKind.free && env.scope.kind == .function && env.kindOf x == some .cell)=true
   ·have hf:k=.free:=by
     simp only[Bool.and_eq_true,beq_iff_eq] at hc;exact hc.1.1
    subst hf;exact List.mem_cons_self
   ·rw[if_neg hc] at h;simp only[List.lookup_cons,hx] at h;have e:k=q:=Option.some.inj h;rcases hq with rfl|rfl
    ·exact absurd e hk
    ·rw[e];exact List.mem_cons_self
  |false=>
   by_cases hc:(k == NameKind.free && env.scope.kind == .function && env.kindOf n == some .cell)=true
   ·rw[if_pos hc] at h;simp only[List.lookup_cons,hx] at h;exact List.mem_cons_of_mem _ (ih h)
   ·rw[if_neg hc] at h;simp only[List.lookup_cons,hx] at h;exact List.mem_cons_of_mem _ (ih h)
def a2n(X:Cx)(scope:Scope)(M:List Str)(C:Addr)(s:Shared)(H:Hp)(fp:List Addr):Cx:=
 {X with N:=M,s₀:=s,H₀:=H,env:=compEnvC scope (clOf X.env scope.names) C X.env,outer:=X.stack,ex:=fp,fn:=fun _=>false,pn:=[],xe:=fun _ _=>False}
def capS(k:Nat)(cap:List Nat)(σ:St):St:=List.replicate k none++cap.map fun i=>(σ[i]?).join
def PTs(X:Cx)(ifs:List Expr)(t:TT):Prop:=
 ∀(pins:List (Addr×Obj)) (s:Shared) (σ:St) (H:Hp) (Q:Bool->Hp->Prop),Inv X pins σ H s->t σ H Q->
  wpAny (model X.prog X.w) X.A (forIn ifs true fun c r=>if r=true then do let ok <-isTrue c X.env (eval c X.env);pure (ForInStep.yield ok) else pure (ForInStep.yield r)) (TP X pins σ Q) X.xe s
def tYes:TT:=fun _ H Q=>Q true H
theorem pts_nil:PTs X [] tYes:=fun _ _ σ H _ I h=>wpAny_tests_nil ⟨H,I,h⟩
theorem d9p{c:Expr}{t:TT}(hc:PT X c t):PTs X [c] t:=fun pins s σ H Q I h=>wpAny_tests_one (hc pins s σ H Q I h)
theorem b0j{R:Result->Shared->Prop}{elt target iter:Expr}{ifs:List Expr}{it acc:Value}(I:Nat->Shared->Prop)
  (turn:∀n s,I n s->wpAny (model prog w) A (pyNext it) (fun r s₁=>match r with
   |none=>R (.ok .next) s₁
   |some v=>wpAny (model prog w) A (letOwnedTupleGo target it v) (fun _ s₀=>wpAny (model prog w) A (assign target env v) (fun _ s₂=>
     wpAny (model prog w) A (forIn ifs true fun c r=>if r=true then do let ok <-isTrue c env (eval c env);pure (ForInStep.yield ok) else pure (ForInStep.yield r)) (fun ok s₃=>
      if ok=true then wpAny (model prog w) A (eval elt env) (fun x s₄=>
       wpAny (model prog w) A (call (.builtin "list.append") [acc,x]) (fun _ s₅=>∃m,m < n/\I m s₅) (fun _ _=>False) s₄) (fun _ _=>False) s₃
      else ∃m,m < n/\I m s₃) (fun _ _=>False) s₂) (fun _ _=>False) s₀) (fun _ _=>False) s₁) (fun _ _=>False) s)
  (n:Nat) (h:I n s) :
  codeAny (model prog w) A (.compLoop (.ListComp elt [⟨target,iter,ifs,0⟩] scope pos) 0 it acc env) R s:=by
 refine codeAny_loop rfl I (fun n s hI=>?_) n h
 show wpAny _ A ((compTurn (.ListComp elt [⟨target,iter,ifs,0⟩] scope pos) 0 it acc env).onRaise (fun x=>do noteFrame x env;theTreesLotGoes x)) _ _ s
 refine wpAny_noted ?_;rw[compTurn_list];refine wpAny_bind (wpAny_standAt (wpAny_bind (wpAny_mono (turn n s hI) (fun r s₁ h₁=>?_) fun _ _ h'=>h'.elim)))
 cases r with
 |none=>exact wpAny_pure h₁
 |some v=>
  refine wpAny_bind (wpAny_mono h₁ (fun _ s₀ h₀=>?_) fun _ _ h'=>h'.elim)
  refine wpAny_bind (wpAny_mono h₀ (fun _ s₂ h₂=>wpAny_bind (wpAny_mono h₂ (fun ok s₃ h₃=>?_) fun _ _ h'=>h'.elim)) fun _ _ h'=>h'.elim)
  cases ok with
  |false=>exact wpAny_pure ⟨rfl,h₃⟩
  |true=>
   exact wpAny_bind (wpAny_bind (wpAny_mono h₃ (fun x s₄ h₄=>wpAny_bind (wpAny_mono h₄ (fun _ s₅ h₅=>wpAny_pure (wpAny_pure ⟨rfl,h₅⟩)) fun _ _ h'=>h'.elim)) fun _ _ h'=>h'.elim))
theorem Inv.track{pins:List (Addr×Obj)}{σ:St}{o:HO}(I:Inv X pins σ H s)(hn:H a=none)(hy:X.s₀.heap.objs.size<=a)(hL:a≠X.env.locals)(hC:∀x c,X.env.cells.lookup x=some c->c≠a)
  (hP:∀p∈X.pn++pins,p.1≠a) (new:ObjOk X.prog X.w (upd H a o) s.heap a o):Inv X pins σ (upd H a o) s:=by
 refine⟨I.ok,I.os,I.bare,⟨I.base.keep,I.base.slot,fun b ob e n hx=>?_,I.base.there,fun b xs e=>?_,fun b ob u e=>?_,fun b ps e=>?_⟩,I.loc,I.cell,?_,fun x c e=>?_,fun p hp=>?_,fun b u e=>?_,I.len⟩
 ·rw[a0v (Nat.ne_of_lt (Nat.lt_of_lt_of_le (Heap.lt_size e) hy))];exact I.base.free b ob e n hx
 ·have z:=I.base.tups b xs e;rw[a0v (a1q z hn)];exact z
 ·have z:=I.base.frzs b ob u e;rw[a0v (a1q z hn)];exact z
 ·obtain⟨m,z⟩:=I.base.tbls b ps e;exact⟨m,by rw[a0v (a1q z hn)];exact z⟩
 ·rw[a0v (Ne.symm hL)];exact I.free
 ·rw[a0v (hC x c e)];exact I.freeC x c e
 ·obtain⟨e,n,r⟩:=I.pin p hp;exact⟨e,by rw[a0v (hP p hp)];exact n,r⟩
 ·by_cases hb:b=a
  ·subst hb;rw[a2d] at e;cases e;exact new
  ·rw[a0v hb] at e;exact(I.hok b u e).stay (fun c v _ q=>q) (fun c q=>by rw[a0v (a1q q hn)];exact q) fun c xs q=>by rw[a0v (a1q q hn)];exact q
def CompW(J:It)(g:TG)(tt:TT)(te:TE)(τ₀:St)(H1:Hp)(Fin:List V->Hp->Prop):Prop:=
 ∃(n:Nat) (W:Nat->St->List V->Hp->Prop),W 0 τ₀ [] H1/\∀i τ acc H,i<=n->W i τ acc H->
  (J.stop i H/\Fin acc H)\/(i < n/\J.go i H/\∀x H',J.yld i H x H'->g x τ H' fun τ2 H2=>tt τ2 H2 fun b H3=>if b=true then te τ2 H3 fun v H4=>acc.length < sizeLine/\W (i+1) τ2 (acc++[v]) H4 else W (i+1) τ2 acc H3)
structure CompOk (X:Cx) (scope:Scope) (M:List Str) (k:Nat) (cap:List Nat):Prop where
 kind:scope.kind=.function
 cell:∀y∈scope.names,y.2≠.cell
 free:∀y∈scope.names,y.2=.free->X.env.kindOf y.1=some .cell\/X.env.kindOf y.1=some .free
 names:∀y∈scope.names,y.2=.local -> scope.names.lookup y.1=some .local
 len:M.length=k+cap.length
 caps:∀(j i:Nat) (x:Str),cap[j]?=some i->M[k+j]?=some x->X.N[i]?=some x/\scope.names.lookup x=some .free
section
variable {X:Cx} {pins:List (Addr×Obj)} {σ:St} {tg elt iter:Expr} {ifs:List Expr} {scope:Scope} {pos:Pos} {M:List Str} {k:Nat} {cap:List Nat} {g:TG} {tt:TT} {te:TE}
theorem Inv.hasFree(I:Inv X pins σ H s)(ok:CompOk X scope M k cap):∀y∈scope.names,y.2=.free->∃c,X.env.cells.lookup y.1=some c:=fun y hy e=>I.ok.has y.1 (ok.free y hy e)
theorem Inv.block{s4:Shared}{C D:Addr}{oD:Obj}{m:Str->Option Value}(I:Inv X pins σ H s)(ok:CompOk X scope M k cap)(f2:∀b∈fp,FpOk X pins H b)(hfo:∀b∈fp,∃o,s.heap.get? b=some o/\∀v,o.data≠.cell v)
  (hC:s.heap.objs.size<=C) (hDC:D≠C) (hD:s.heap.objs.size<=D) (old:∀b o,s.heap.get? b=some o->s4.heap.get? b=some o) (os:s4.os=s.os) (gens:s4.gens=s.gens)
  (ns:s4.heap.Ns C m) (hoD:s4.heap.get? D=some oD) (hdD:∀v,oD.data≠.cell v):Inv (a2n X scope M C s H fp) [(D,oD)] (capS k cap σ) H s4:=by
 have hf:=I.hasFree ok;have fr:∀a,s.heap.objs.size<=a->H a=none:=fun a ha=>I.hok.fresh ha
 have nfs:∀b∈frs X.stack,b < s.heap.objs.size:=fun b hb=>by
  rcases List.mem_cons.mp (I.stkSub b hb) with e|e
  ·rw[e];exact I.lt
  ·exact Nat.lt_of_not_le fun z=>I.nofs z e
 have cl:∀x c,(clOf X.env scope.names).lookup x=some c->X.env.cells.lookup x=some c:=fun x c e=>c3m hf e
 refine⟨⟨I.ok.mod,ok.kind,I.ok.glob,I.ok.blt,hC,fun x y c e1 e2=>I.ok.inj x y c (cl x c e1) (cl y c e2),fun x hx=>?_,fun x c e _=>?_,I.ok.hd,I.ok.frames,.inl rfl,fun b hb=>?_,I.bs,Nat.le_trans I.ok.bsz I.sz,fun b o e hb=>?_,fun b hb z=>?_,I.stack,I.stkFree⟩,
  os,by rw[gens];exact I.bare,Un.kept old,⟨m,ns,fun i x v h1 h2 h3=>?_⟩,fun x c e=>?_,fr C hC,fun x c e=>I.freeC x c (cl x c e),fun p hp=>?_,I.hok.kept old,?_⟩
 ·have hx:(relabel scope X.env).names.lookup x=some .cell\/(relabel scope X.env).names.lookup x=some .free:=hx;have hm:(x,NameKind.free)∈scope.names:=by
   rcases hx with h|h
   ·exact b2d (env:=X.env) (.inl rfl) ok.cell h
   ·exact b2d (env:=X.env) (.inr rfl) ok.cell h
  obtain⟨c,hc⟩:=hf _ hm rfl;exact⟨c,c5a hm hc⟩
 ·cases e
 ·obtain⟨f0,f1,f2,f3,f4,f5⟩:=f2 b hb;obtain⟨ob,eb,_⟩:=hfo b hb;exact⟨Nat.ne_of_lt (Nat.lt_of_lt_of_le (Heap.lt_size eb) hC),fun x c e=>f4 x c (cl x c e)⟩
 ·obtain⟨f0,f1,f2,f3,f4,f5⟩:=f2 b hb;rcases f3 with q|q
  ·exact I.ok.noex b o e q
  ·exact absurd (Nat.lt_of_lt_of_le (Heap.lt_size e) (Nat.le_trans I.ok.bsz q)) (Nat.lt_irrefl _)
 ·obtain⟨f0,f1,f2,f3,f4,f5⟩:=f2 b hb;rcases List.mem_cons.mp (I.stkSub b z) with q|q
  ·exact f1 q
  ·exact f2 q
 ·unfold capS at h2;have hk:¬i < k:=fun q=>by
   rw[List.getElem?_append_left (by simpa using q),List.getElem?_replicate] at h2
   split at h2 <;> cases h2
  rw[List.getElem?_append_right (by simpa using hk),List.length_replicate,List.getElem?_map] at h2
  cases e:cap[i - k]? with
  |none=>rw[e] at h2;cases h2
  |some j=>
   rw[e] at h2;have h2':(σ[j]?).join=some v:=Option.some.inj h2;have hj:σ[j]?=some (some v):=by
    cases q:σ[j]? with
    |none=>rw[q] at h2';cases h2'
    |some z=>rw[q] at h2';simp at h2';rw[h2']
   have hix:k+(i - k)=i:=by omega
   obtain⟨hN,hfr⟩:=ok.caps (i - k) j x e (by rw[hix];exact h1)
   have hm:(x,NameKind.free)∈scope.names:=PySem.mem_of_lookup hfr;have hkx:=ok.free _ hm rfl;obtain⟨mX,hnX,hlX⟩:=I.loc;obtain⟨u,ru,lk⟩:=hlX j x v hN hj (by rcases hkx with q|q;exact .inr (.inl q);exact .inr (.inr q))
   refine⟨u,ru,.inr ⟨b3d (env:=X.env) hfr,?_⟩⟩;rcases lk with⟨q,_⟩|⟨_,c,hc,hcell⟩
   ·rcases hkx with z|z
    ·rw[show X.env.kindOf x=some .cell from z] at q;cases q
    ·rw[show X.env.kindOf x=some .free from z] at q;cases q
   ·exact⟨c,c5a hm hc,hcell.keeps old⟩
 ·obtain⟨v,z⟩:=I.cell x c (cl x c e);exact⟨v,z.keeps old⟩
 ·have e:p=(D,oD):=by simpa[a2n] using hp
  subst e;exact⟨hoD,fr D hD,hDC,fun z=>absurd (Nat.lt_of_lt_of_le (nfs D z) hD) (Nat.lt_irrefl _),hdD⟩
 ·unfold capS;rw[List.length_append,List.length_replicate,List.length_map];exact ok.len.symm
theorem c1l{H2:Hp}{s2:Shared}{J:It}{it:Addr}{tn:Nat->Heap->Prop}{RR:Value->Addr->Result->Shared->Prop}{E:Value->Shared->Prop}(I2:Inv X pins σ H2 s2)(hc:X.calm=true)(ok:CompOk X scope M k cap)
  (T:Turn X.prog X.w X.K tg J fp it tn) (st2:tn 0 s2.heap) (f2:∀b∈fp,FpOk X pins H2 b)
  (hg:∀C s H fp,PG (a2n X scope M C s H fp) tg g) (ht:∀C s H fp,PTs (a2n X scope M C s H fp) ifs tt) (he:∀C s H fp,PE (a2n X scope M C s H fp) elt te)
  (hW:CompW J g tt te (capS k cap σ) H2 Fin)
  (hRR:∀D C s' H' acc,Inv X pins σ (upd H' D (.lst acc)) s'->FpOk X pins (upd H' D (.lst acc)) C->(∃m,s'.heap.Ns C m)->H' D=none->Fin acc H'->RR (.ref D) C (.ok .next) s') :
  wpAny (model X.prog X.w) X.A (newList []) (fun acc s₃=>wpAny (model X.prog X.w) X.A (newFunctionEnv scope X.env.globals (clOf X.env scope.names) [] X.env.qual none .none (some X.env)) (fun cenv s₄=>
   codeAny (model X.prog X.w) X.A (.compStart (.ListComp elt [⟨tg,iter,ifs,0⟩] scope pos) 0 (.ref it) acc { cenv with scope:=relabel scope X.env}) (RR acc cenv.locals) s₄) E s₃) E s2:=by
 refine wpAny_newObj_type (wpAny_newFunctionEnv ok.cell (by intro y hy;simp at hy) (fun h₁ hns₁ hsb₁=>?_) ok.kind)
 dsimp only at hns₁ hsb₁ ⊢;generalize hH2:s2.heap.push { cls:=.type "list",dict:=none,data:=.seq ([]:List Value).toArray}=H3 at hns₁ hsb₁ ⊢;have hCs:H3.objs.size=s2.heap.objs.size+1:=by rw[<-hH2,Heap.size_push]
 have hDC:s2.heap.objs.size≠H3.objs.size:=by rw[hCs];exact Nat.ne_of_lt (Nat.lt_succ_self _)
 have below:∀b,b < s2.heap.objs.size->b≠H3.objs.size/\b≠s2.heap.objs.size:=fun b hb=>⟨by rw[hCs];exact Nat.ne_of_lt (Nat.lt_succ_of_lt hb),Nat.ne_of_lt hb⟩
 have old:∀b o,s2.heap.get? b=some o->h₁.get? b=some o:=fun b o e=>hsb₁.extBut b o (below b (Heap.lt_size e)).1 (Heap.get?_push_of_some _ (hH2 ▸ Heap.get?_push_of_some _ e))
 have hacc:h₁.get? s2.heap.objs.size=some { cls:=.type "list",data:=.seq ([]:List Value).toArray 0}:=hsb₁.extBut _ _ hDC (Heap.get?_push_of_some _ (hH2 ▸ Heap.get?_push_size _ rfl));have hfo:=T.obj 0 _ st2;have hCle:s2.heap.objs.size<=H3.objs.size:=by rw[hCs];exact Nat.le_succ _
 obtain⟨N,W,w0,turn⟩:=hW;have st1:tn 0 h₁:=T.keep _ _ _ st2 fun b _ o e=>old b o e
 have loop:∀s₃:Shared,s₃={ s2 with heap:=h₁,toks:=s2.toks+([]:List (Str×Value)).length}->
   codeAny (model X.prog X.w) X.A (.compLoop (.ListComp elt [⟨tg,iter,ifs,0⟩] scope pos) 0 (.ref it) (.ref s2.heap.objs.size) (compEnvC scope (clOf X.env scope.names) H3.objs.size X.env))
    (RR (.ref s2.heap.objs.size) H3.objs.size) s₃:=by
  rintro s₃ rfl;have I3:Inv (a2n X scope M H3.objs.size s2 H2 fp) [(s2.heap.objs.size,{ cls:=.type "list",data:=.seq ([]:List Value).toArray 0})] (capS k cap σ) H2 { s2 with heap:=h₁,toks:=s2.toks+([]:List (Str×Value)).length}:=
   I2.block ok f2 hfo hCle hDC (Nat.le_refl _) old rfl rfl hns₁ hacc (fun v z=>by cases z)
  have fpS:∀b∈fp,b≠H3.objs.size/\b≠s2.heap.objs.size:=fun b hb=>let ⟨o,e,_⟩:=hfo b hb;below b (Heap.lt_size e)
  have stat:∀{H':Hp} {oD:Obj},(∀b∈fp,H' b=none)->∀b∈fp,FpOk (a2n X scope M H3.objs.size s2 H2 fp) [(s2.heap.objs.size,oD)] H' b:=fun{H' oD} hn b hb=>by
   obtain⟨f0,f1,f2,f3,f4,f5⟩:=f2 b hb;refine⟨hn b hb,(fpS b hb).1,fun z=>?_,.inl hb,fun x c e=>f4 x c (c3m (I2.hasFree ok) e),fun p hp z=>?_⟩
   ·rcases List.mem_cons.mp (I2.stkSub b z) with q|q
    ·exact f1 q
    ·exact f2 q
   ·have e:p=(s2.heap.objs.size,oD):=by simpa[a2n] using hp
    subst e;exact(fpS b hb).2 z.symm
  refine b0j (fun n s'=>∃(i:Nat) (τ:St) (acc:List V) (us:List Value) (c:Nat) (H':Hp),Vals acc us/\acc.length<=sizeLine/\
   Inv (a2n X scope M H3.objs.size s2 H2 fp) [(s2.heap.objs.size,{ cls:=.type "list",data:=.seq us.toArray c})] τ H' s'/\tn i s'.heap/\(∀b∈fp,H' b=none)/\n=N - i/\i<=N/\W i τ acc H') ?_ N
   ⟨0,capS k cap σ,[],[],0,H2,.nil,Nat.zero_le _,I3,st1,fun b hb=>(f2 b hb).1,rfl,Nat.zero_le _,w0⟩
  rintro n s3 ⟨i,τ,acc,us,c,H',rv,hlen,I,st,fr,rfl,hiN,w⟩;have pinD:=(I.pin (s2.heap.objs.size,{ cls:=.type "list",data:=.seq us.toArray c}) (by simp[a2n]))
  rcases turn i τ acc H' hiN w with⟨stop,qn⟩|⟨hlt,go,step⟩
  ·refine thn (T.done (a2n X scope M H3.objs.size s2 H2 fp) rfl rfl rfl hc i _ s3 τ H' (fun _ _=>False) I (stat fr) st stop) fun r s4 ⟨hr,I4⟩=>?_
   subst hr;have pinD4:=(I4.pin (s2.heap.objs.size,{ cls:=.type "list",data:=.seq us.toArray c}) (by simp[a2n]))
   have hch:∀b∈fp,(b∈X.ex\/X.s₀.heap.objs.size<=b)/\b≠X.env.locals/\(∀x c,X.env.cells.lookup x=some c->c≠b)/\∀p∈X.pn++pins,p.1≠b:=fun b hb=>by
    obtain⟨f0,f1,f2,f3,f4,f5⟩:=f2 b hb;exact⟨f3,f1,f4,f5⟩
   have J1:Inv X pins σ H' s4:=I2.call' (ch:=fp) I4.os I4.base I4.hok I4.bare hch;have young:X.s₀.heap.objs.size<=s2.heap.objs.size:=I2.sz;have apart:∀a,s2.heap.objs.size<=a->a≠X.env.locals/\(∀x c,X.env.cells.lookup x=some c->c≠a)/\∀p∈X.pn++pins,p.1≠a:=fun a ha=>
    ⟨Nat.ne_of_gt (Nat.lt_of_lt_of_le I2.lt ha),fun x c e z=>by
     obtain⟨v,q⟩:=I2.cell x c e;exact absurd (Nat.lt_of_lt_of_le q.lt (by rw[z];exact ha)) (Nat.lt_irrefl _),fun p hp z=>absurd (Nat.lt_of_lt_of_le (Heap.lt_size (I2.pin p hp).1) (by rw[z];exact ha)) (Nat.lt_irrefl _)⟩
   have aD:=apart _ (Nat.le_refl _);have aC:=apart _ hCle;have J2:Inv X pins σ (upd H' s2.heap.objs.size (.lst acc)) s4:=J1.track pinD4.2.1 young aD.1 aD.2.1 aD.2.2 ⟨hlen,us,c,rv,pinD4.1⟩;obtain⟨m,hn,_⟩:=I4.loc;have hCn:H' H3.objs.size=none:=I4.free;refine hRR _ _ s4 H' acc J2 ⟨?_,aC.1,I2.nofs hCle,.inr (Nat.le_trans young hCle),aC.2.1,aC.2.2⟩ ⟨m,hn⟩ pinD4.2.1 qn;rw[a0v (Ne.symm hDC)];exact hCn
  ·refine thn (T.item (a2n X scope M H3.objs.size s2 H2 fp) rfl rfl rfl hc i _ s3 τ H' (fun _ _=>False) I (stat fr) st go) fun r s4 ⟨u,hr,h4⟩=>?_
   subst hr;refine thn h4 fun _ s5 hh=>?_
   obtain⟨x,H5,I5,r5,y5,st5,fr5⟩:=hh;have I5':=I5.pinned (stat fr5) (T.obj _ _ st5);refine thn (hg _ _ _ _ _ s5 τ H5 x u _ I5' r5 (step x H5 y5)) fun _ s6 hh=>?_
   obtain⟨τ6,H6,I6,q6⟩:=hh;refine thn (ht _ _ _ _ _ s6 τ6 H6 _ I6 q6) fun b s7 hh=>?_
   obtain⟨H7,I7,q7⟩:=hh;have keepit:∀{s':Shared} {τ':St} {Hn:Hp},Inv (a2n X scope M H3.objs.size s2 H2 fp) ([(s2.heap.objs.size,{ cls:=.type "list",data:=.seq us.toArray c})]++c1a fp s5.heap) τ' Hn s'->tn (i+1) s'.heap/\∀b∈fp,Hn b=none:=fun{s' τ' Hn} I'=>by
    refine⟨T.keep _ _ _ st5 fun b hb o e=>(I'.pin (b,o) (List.mem_append_right _ (List.mem_append_right _ (a9t hb e)))).1,fun b hb=>?_⟩
    obtain⟨o,e,d⟩:=T.obj _ _ st5 b hb;exact(I'.pin (b,o) (List.mem_append_right _ (List.mem_append_right _ (a9t hb e)))).2.1
   cases b with
   |false=>
    rw[if_neg Bool.false_ne_true] at q7;show ∃m,m < N - i/\_;obtain⟨st7,fr7⟩:=keepit I7;exact⟨N - (i+1),by omega,i+1,τ6,acc,us,c,H7,rv,hlen,I7.unpinned,st7,fr7,rfl,hlt,q7⟩
   |true=>
    rw[if_pos rfl] at q7;show wpAny _ _ (eval elt _) _ _ s7;refine thn (he _ _ _ _ _ s7 τ6 H7 _ I7 q7) fun v s8 hh=>?_
    obtain⟨y,H8,I8,r8,hl8,w8⟩:=hh;obtain⟨st8,fr8⟩:=keepit I8;have pinD8:=(I8.pin (s2.heap.objs.size,{ cls:=.type "list",data:=.seq us.toArray c}) (by simp[a2n]))
    have hul:=rv.length;refine append_at (hsz:=by show us.toArray.size<=sizeLine;rw[List.size_toArray,<-hul];exact hlen) pinD8.1 fun h9 sb9 e9=>?_
    have e9':h9.get? s2.heap.objs.size=some { cls:=.type "list",data:=.seq (us++[v]).toArray (c+1)}:=by rw[e9,List.push_toArray]
    have I8u:=I8.unpinned;have hLoc:s2.heap.objs.size≠(a2n X scope M H3.objs.size s2 H2 fp).env.locals:=pinD8.2.2.1;have nx:∀(b:Addr),H8 b≠none->b≠s2.heap.objs.size:=fun b hb z=>hb (by rw[z];exact pinD8.2.1)
    refine⟨N - (i+1),by omega,i+1,τ6,acc++[y],us++[v],c+1,H8,rv.append (.cons r8 .nil),by rw[List.length_append,List.length_singleton];exact hl8,?_,?_,fr8,rfl,hlt,w8⟩
    ·have I9:Inv (a2n X scope M H3.objs.size s2 H2 fp) [] τ6 H8 s8:=I8u.pins_of (fun p hp=>absurd hp (by simp))
     have I10:Inv (a2n X scope M H3.objs.size s2 H2 fp) [] τ6 H8 { s8 with heap:=h9}:=I9.turned (t':=s8.toks) (fun b o hb e=>(sb9.2 b hb).trans e) pinD8.2.1 hLoc (.inr (Nat.le_refl _))
      (fun x cc e z=>by
       obtain⟨v',q⟩:=I2.cell x cc (c3m (I2.hasFree ok) e);exact absurd (Nat.lt_of_lt_of_le q.lt (by rw[z];exact Nat.le_refl _)) (Nat.lt_irrefl _)) (fun p hp=>absurd hp (by simp[a2n]))
     refine I10.pins_of fun p hp=>?_
     have e:p=(s2.heap.objs.size,{ cls:=.type "list",data:=.seq (us++[v]).toArray (c+1)}):=by simpa using hp
     subst e;exact⟨e9',pinD8.2.1,hLoc,pinD8.2.2.2.1,fun v' z=>by cases z⟩
    ·exact T.keep _ _ _ st8 fun b hb o e=>sb9.extBut b o (fpS b hb).2 e
 exact codeAny_compStart_list (loop _ rfl) (T.self _ 0 _ _ _ st1 (loop _ rfl))
def tComp(wi:TI)(g:TG)(tt:TT)(te:TE)(k:Nat)(cap:List Nat):TE:=fun σ H Q=>wi σ H fun J H1=>CompW J g tt te (capS k cap σ) H1 fun acc H'=>∀l,H' l=none->Q (.ref l) (upd H' l (.lst acc))
theorem d9q(hc:X.calm=true)(ok:CompOk X scope M k cap)(hi:PI X tg iter wi)
  (hg:∀C s H fp,PG (a2n X scope M C s H fp) tg g) (ht:∀C s H fp,PTs (a2n X scope M C s H fp) ifs tt) (he:∀C s H fp,PE (a2n X scope M C s H fp) elt te)
  (hs:∀x,foldedSetIterable iter X.env x=pure x:=by intro _;rfl):PE X (.ListComp elt [⟨tg,iter,ifs,0⟩] scope pos) (tComp wi g tt te k cap):=by
 intro pins s σ H Q I h;rw[eval_ListComp];refine wpAny_comprehension_free (use:=none) rfl hs (a8x (I.hasFree ok)) ok.kind ok.names (thn (hi pins s σ H _ I h) fun v s1 h1=>thn h1 fun itv s2 h2=>?_)
 obtain⟨it,fp,tn,J,H2,e,I2,T,st2,f2,hW⟩:=h2;subst e;refine c1l (RR:=fun acc C=>compPost (model X.prog X.w) X.A X.xe none (EP X pins σ Q) acc C) I2 hc ok T st2 f2 hg ht he hW ?_
 intro D C s' H' acc I' fC ⟨m,hn⟩ hD hq;refine⟨m,hn,fun h' sb=>?_⟩
 obtain⟨f0,f1,f2,f3,f4,f5⟩:=fC;exact⟨.ref D,_,I'.turned (t':=s'.toks) (fun b o hb e=>(sb.2 b hb).trans e) f0 f1 f3 f4 f5,rfl,hq D hD⟩
def sComp(wi:TI)(g:TG)(tt:TT)(te:TE)(k:Nat)(cap:List Nat)(i:Nat):TS:=fun D σ H=>tComp wi g tt te k cap σ H fun v H'=>D.nx (σ.set i (some v)) H'
theorem c9s{i:Nat}{px spos:Pos}(hc:X.calm=true)(ok:CompOk X scope M k cap)(hN:X.N.Nodup)(hix:X.N[i]?=some x)(hx:Loc X.env.scope x)(hi:PI X tg iter wi)
  (hg:∀C s H fp,PG (a2n X scope M C s H fp) tg g) (ht:∀C s H fp,PTs (a2n X scope M C s H fp) ifs tt) (he:∀C s H fp,PE (a2n X scope M C s H fp) elt te)
  (hsw:swapsWith (.ListComp elt [⟨tg,iter,ifs,0⟩] scope pos) (some (.Name x px)) spos.line X.env=pure true)
  (hs:∀x,foldedSetIterable iter X.env x=pure x:=by intro _;rfl) (hf:X.fn x=true\/X.env.scope.names.lookup x=some .local := by first|exact .inl rfl|exact .inr rfl|assumption) :
  PS X (.Assign [.Name x px] (.ListComp elt [⟨tg,iter,ifs,0⟩] scope pos) spos) (sComp wi g tt te k cap i):=by
 intro pins s σ H D I h;rw[exec_Assign_Name_used _ _ _ _ hsw];refine wpAny_bind (wpAny_standAt (wpAny_bind ?_));show wpAny _ X.A (do let _ <-comprehension (.ListComp elt [⟨tg,iter,ifs,0⟩] scope pos) scope X.env _ (newList []) false (eval iter X.env) (some (assign (.Name x px) X.env))) _ _ s
 refine wpAny_bind (wpAny_mono (wpAny_comprehension_free (use:=some (assign (.Name x px) X.env)) (Q:=fun _ s'=>SP X pins D .next s') rfl hs (a8x (I.hasFree ok)) ok.kind ok.names
  (thn (hi pins s σ H _ I h) fun v s1 h1=>thn h1 fun itv s2 h2=>?_)) (fun _ s' hq=>wpAny_pure (wpAny_pure hq)) fun _ _ e=>e)
 obtain⟨it,fp,tn,J,H2,e,I2,T,st2,f2,hW⟩:=h2;subst e;refine c1l (RR:=fun acc C=>compPost (model X.prog X.w) X.A X.xe (some (assign (.Name x px) X.env)) (fun _ s'=>SP X pins D .next s') acc C) I2 hc ok T st2 f2 hg ht he hW ?_
 intro D' C s' H' acc I' fC ⟨m,hn⟩ hD hq;obtain⟨f0,f1,f2,f3,f4,f5⟩:=fC;show wpAny _ X.A (assign (.Name x px) X.env (.ref D')) _ _ _;refine wpAny_assign_Name (c0y I' hN hix hx (v:=.ref D') rfl (fun s'' I'' hh=>?_) hf)
 obtain⟨a,sb,ha⟩:=hh;have hCa:C≠a:=by
  rcases ha with e|e
  ·rw[e];exact f1
  ·exact fun z=>f4 _ _ e z.symm
 refine⟨m,hn.sameBut sb hCa,fun h' sb'=>⟨_,_,I''.turned (t':=s''.toks) (fun b o hb e=>(sb'.2 b hb).trans e) f0 f1 f3 f4 f5,hq D' hD⟩⟩
end
def chr1(c:Nat):Str:=⟨#[c]⟩
def Its(x:Str):It:=⟨fun i _=>i < x.cps.size,fun i H v H'=>H'=H/\∃c,x.cps[i]?=some c/\v=.str (chr1 c),fun i _=>x.cps.size<=i⟩
theorem d5k{P:Program}(it:Addr)(x:Str)(t:Tok)(ty:String)(hty:ty="str_ascii_iterator"\/ty="str_iterator"):Turn P w K tg (Its x) [it] it (fun i h=>h.IsStrIter it ty x t i) where
 mem:=by simp
 obj:=fun i h st b hb=>by
  have e:b=it:=by simpa using hb
  subst e;obtain⟨o,e,c,d⟩:=st;exact⟨o,e,fun v z=>by rw[d] at z;cases z⟩
 keep:=fun i h h' st k=>by
  obtain⟨o,e,c,d⟩:=st;exact⟨o,k it (by simp) o e,c,d⟩
 item:=by
  intro X hP hw hK hc i pins s σ H E I hf st hg;subst hP hw hK;have hi:i < x.cps.size:=hg;obtain⟨f0,f1,f2,f3,f4,f5⟩:=hf it (by simp)
  have fin:∀h',h'.IsStrIter it ty x t (i+1)->Heap.SameBut it s.heap h'->∃u,some (Value.str ⟨#[x.cps[i]]⟩ s.toks)=some u/\
    wpAny (model X.prog X.w) X.A (letOwnedTupleGo tg (.ref it) u) (fun _ s2=>∃y H',Inv X pins σ H' s2/\RelV y u/\(Its x).yld i H y H'/\s2.heap.IsStrIter it ty x t (i+1)/\∀b∈[it],H' b=none) E { s with heap:=h',toks:=s.toks+1}:=fun h' st' sb=>by
   have I1:Inv X pins σ H { s with heap:=h',toks:=s.toks+1}:=I.turned (fun b o hb e=>(sb.2 b hb).trans e) f0 f1 f3 f4 f5
   obtain⟨o,e,c,d⟩:=id st';refine⟨_,rfl,d9c (s:={ s with heap:=h',toks:=s.toks+1}) e c d (by rcases hty with z|z <;> subst z <;> decide) ⟨.str (chr1 x.cps[i]),H,I1,⟨_,rfl⟩,⟨rfl,_,by simp[hi],rfl⟩,st',fun b hb=>(hf b hb).1⟩⟩
  rcases hty with z|z
  ·subst z;exact wpAny_pyNext_ascii_item st (c:=x.cps[i]) (by simp[hi]) fin
  ·subst z;exact wpAny_pyNext_wide_item st (c:=x.cps[i]) (by simp[hi]) fin
 done:=by
  intro X hP hw hK hc i pins s σ H E I hf st hg;subst hP hw hK;have hi:x.cps.size<=i:=hg;obtain⟨f0,f1,f2,f3,f4,f5⟩:=hf it (by simp)
  rcases hty with z|z
  ·subst z;exact wpAny_pyNext_ascii_end (I.ok.hd hc) st (by simp;omega) fun h' eb=>⟨rfl,I.turned (t':=s.toks) (fun b o hb e=>eb b o hb e) f0 f1 f3 f4 f5⟩
  ·subst z;exact wpAny_pyNext_wide_end (I.ok.hd hc) st (by simp;omega) fun h' eb=>⟨rfl,I.turned (t':=s.toks) (fun b o hb e=>eb b o hb e) f0 f1 f3 f4 f5⟩
 self:=fun _ _ _ _ _ st h=>by
  rcases hty with z|z
  ·subst z;exact wpAny_pyIter_striter_ascii st h
  ·subst z;exact wpAny_pyIter_striter_wide st h
def iStr(tl:TE):TI:=fun σ H R=>tl σ H fun x H1=>∃z,x=.str z/\R (Its z) H1
theorem e3f(hl:PE X l tl):PI X tg l (iStr tl):=by
 intro pins s σ H R I h;refine thn (hl pins s σ H _ I h) fun v s1 hh=>?_
 obtain⟨x,H1,I1,r1,q1⟩:=hh;obtain⟨z,e,q⟩:=q1;subst e;obtain⟨t,rfl⟩:=r1;have key:∀ty:String,ty="str_ascii_iterator"\/ty="str_iterator"->PIE X pins σ tg R (.ref s1.heap.objs.size) { s1 with heap:=s1.heap.push { cls:=.type ty,data:=.fields #[.str z t,.int 0 0]}}:=fun ty hty=>by
  refine⟨s1.heap.objs.size,[s1.heap.objs.size],_,_,H1,rfl,I1.kept (t':=s1.toks) fun b o e=>Heap.get?_push_of_some _ e,d5k _ z t ty hty,⟨_,Heap.get?_push_size _ (by rcases hty with e|e <;> subst e <;> rfl),rfl,rfl⟩,fun b hb=>?_,q⟩
  have e:b=s1.heap.objs.size:=by simpa using hb
  subst e;exact I1.fpOk (Nat.le_refl _) (I1.hok.fresh (Nat.le_refl _))
 cases ha:z.cps.all (· < 128)
 ·exact wpAny_pyIter_wide ha (key _ (.inr rfl))
 ·exact wpAny_pyIter_ascii ha (key _ (.inl rfl))
theorem c1m{xs:List V}(Pv:Nat->St->List V->Hp->Prop)(h0:Pv 0 τ [] H)(hl:∀i τ acc H,i<=xs.length->Pv i τ acc H->SqL K H a xs)
  (hs:∀i x τ acc H,xs[i]?=some x->Pv i τ acc H->g x τ H fun τ2 H2=>tt τ2 H2 fun b H3=>if b=true then te τ2 H3 fun v H4=>acc.length < sizeLine/\Pv (i+1) τ2 (acc++[v]) H4 else Pv (i+1) τ2 acc H3)
  (hd:∀τ acc H,Pv xs.length τ acc H->Fin acc H):CompW (Itl K a) g tt te τ H Fin:=by
 refine⟨xs.length,Pv,h0,fun i τ acc H hi p=>?_⟩
 have q:=hl i τ acc H hi p;by_cases hlt:i < xs.length
 ·refine .inr ⟨hlt,⟨xs,xs[i],q,by simp[hlt]⟩,fun x H' y=>?_⟩
  obtain⟨e,y⟩:=y;subst e;exact hs i x τ acc _ (y xs q) p
 ·have e:i=xs.length:=by omega
  subst e;exact .inl ⟨⟨xs,q,Nat.le_refl _⟩,hd τ acc H p⟩
theorem c7o{lo:Int}(Pv:Nat->St->List V->Hp->Prop)(h0:Pv 0 τ [] H)
  (hs:∀i τ acc H,i < n->Pv i τ acc H->g (.int (lo+i)) τ H fun τ2 H2=>tt τ2 H2 fun b H3=>if b=true then te τ2 H3 fun v H4=>acc.length < sizeLine/\Pv (i+1) τ2 (acc++[v]) H4 else Pv (i+1) τ2 acc H3)
  (hd:∀τ acc H,Pv n τ acc H->Fin acc H):CompW (Itr lo n) g tt te τ H Fin:=by
 refine⟨n,Pv,h0,fun i τ acc H hi p=>?_⟩
 by_cases hlt:i < n
 ·refine .inr ⟨hlt,hlt,fun x H' y=>?_⟩
  obtain⟨e,y⟩:=y;subst e y;exact hs i τ acc _ hlt p
 ·have e:i=n:=by omega
  subst e;exact .inl ⟨Nat.le_refl _,hd τ acc H p⟩
theorem d5l(Pv:Nat->St->List V->Hp->Prop)(h0:Pv 0 τ [] H)
  (hs:∀i c τ acc H,x.cps[i]?=some c->Pv i τ acc H->g (.str (chr1 c)) τ H fun τ2 H2=>tt τ2 H2 fun b H3=>if b=true then te τ2 H3 fun v H4=>acc.length < sizeLine/\Pv (i+1) τ2 (acc++[v]) H4 else Pv (i+1) τ2 acc H3)
  (hd:∀τ acc H,Pv x.cps.size τ acc H->Fin acc H):CompW (Its x) g tt te τ H Fin:=by
 refine⟨x.cps.size,Pv,h0,fun i τ acc H hi p=>?_⟩
 by_cases hlt:i < x.cps.size
 ·refine .inr ⟨hlt,hlt,fun v H' y=>?_⟩
  obtain⟨e,c,hc,y⟩:=y;subst e y;exact hs i c τ acc _ hc p
 ·have e:i=x.cps.size:=by omega
  subst e;exact .inl ⟨Nat.le_refl _,hd τ acc H p⟩
def c9t(names outer:List (Str×NameKind))(N M:List Str)(k:Nat)(cap:List Nat):Bool:=
 names.all (fun y=>y.2 != .cell) && (names.all (fun y=>y.2 != .free || (outer.lookup y.1 == some .cell || outer.lookup y.1 == some .free)) && (names.all (fun y=>y.2 != .local || names.lookup y.1 == some .local) &&
  (M.length == k+cap.length && (List.range cap.length).all (fun j=>match cap[j]?,M[k+j]? with|some i,some x=>N[i]? == some x && names.lookup x == some .free|_,_=>true))))
theorem CompOk.of{M:List Str}{cap:List Nat}(outer:List (Str×NameKind))(N:List Str)(h:c9t scope.names outer N M k cap=true)(ho:X.env.scope.names=outer:=by rfl)(hN:X.N=N:=by rfl)(hk:scope.kind=.function:=by rfl):CompOk X scope M k cap:=by
 unfold c9t at h;simp only[Bool.and_eq_true,List.all_eq_true,Bool.or_eq_true,bne_iff_ne,ne_eq,beq_iff_eq] at h;obtain⟨h1,h2,h3,h4,h5⟩:=h;refine⟨hk,h1,fun y hy e=>?_,fun y hy e=>?_,h4,fun j i x e1 e2=>?_⟩
 ·rcases h2 y hy with z|z
  ·exact absurd e z
  ·show X.env.scope.names.lookup y.1=_\/X.env.scope.names.lookup y.1=_;rw[ho];exact z
 ·rcases h3 y hy with z|z
  ·exact absurd e z
  ·exact z
 ·have hj:j < cap.length:=(List.getElem?_eq_some_iff.mp e1).1;have:=h5 j (List.mem_range.mpr hj);rw[e1,e2] at this;simp only[Bool.and_eq_true,beq_iff_eq] at this;rw[hN];exact this
section
variable {X:Cx}
theorem e3g:OpR X (compareOp .Is) (fun x y H Q=>∃a b,x=.bl a/\y=.bl b/\Q (.bl (a == b)) H):=by
 intro pins s σ H x y v u Q I rx ry h;obtain⟨a,b,rfl,rfl,q⟩:=h;cases rx;cases ry;exact is_bool (b0w I q rfl)
theorem d9r:OpR X (compareOp .IsNot) (fun x y H Q=>∃a b,x=.bl a/\y=.bl b/\Q (.bl (a != b)) H):=by
 intro pins s σ H x y v u Q I rx ry h;obtain⟨a,b,rfl,rfl,q⟩:=h;cases rx;cases ry;exact isnot_bool (b0w I q rfl)
def c1n(K:L2.FG)(H:Hp):V->String->Prop
 |.non,n=>n="NoneType"
 |.bl _,n=>n="bool"
 |.int _,n=>n="int"
 |.str _,n=>n="str"
 |.ref a,n=>(n="list"/\∃xs,SqL K H a xs)\/(n="tuple"/\∃xs,SqT K H a xs)
 |_,_=>False
def isiB(k T:String):Bool:=k == T || (k == "bool" && T == "int")
theorem d5m:CallR X (.builtin "isinstance") (fun xs H Q=>∃x k T,xs=[x,.ty T]/\c1n X.K H x k/\(T="int"\/T="str"\/T="bool"\/T="list"\/T="tuple")/\Q (.bl (isiB k T)) H):=by
 intro pins s σ H xs us Q I r h;obtain⟨x,k,T,rfl,hk,hT,q⟩:=h;obtain⟨u,w',rfl,rx,ry⟩:=vals2 r;cases ry;have fin:∀b,b=isiB k T->EP X pins σ Q (.bool b) s:=fun b e=>b0w I q e.symm
 have fin':∀b,b=isiB k T->EP X pins σ Q (.bool b) { s with toks:=s.toks+1}:=fun b e=>b0w (I.tok _) q e.symm
 cases x with
 |non=>
  cases rx;have hk:k="NoneType":=hk;subst hk;rcases hT with rfl|rfl|rfl|rfl|rfl
  ·exact IsiPair.NoneType_int (fin' _ (by decide))
  ·exact IsiPair.NoneType_str (fin' _ (by decide))
  ·exact IsiPair.NoneType_bool (fin' _ (by decide))
  ·exact IsiPair.NoneType_list (fin' _ (by decide))
  ·exact IsiPair.NoneType_tuple (fin' _ (by decide))
 |bl b=>
  cases rx;have hk:k="bool":=hk;subst hk;rcases hT with rfl|rfl|rfl|rfl|rfl
  ·exact IsiPair.bool_int (fin _ (by decide))
  ·exact IsiPair.bool_str (fin' _ (by decide))
  ·exact IsiPair.bool_bool (fin _ (by decide))
  ·exact IsiPair.bool_list (fin' _ (by decide))
  ·exact IsiPair.bool_tuple (fin' _ (by decide))
 |int i=>
  obtain⟨t,rfl⟩:=rx;have hk:k="int":=hk;subst hk;rcases hT with rfl|rfl|rfl|rfl|rfl
  ·exact IsiPair.int_int (fin _ (by decide))
  ·exact IsiPair.int_str (fin' _ (by decide))
  ·exact IsiPair.int_bool (fin' _ (by decide))
  ·exact IsiPair.int_list (fin' _ (by decide))
  ·exact IsiPair.int_tuple (fin' _ (by decide))
 |str z=>
  obtain⟨t,rfl⟩:=rx;have hk:k="str":=hk;subst hk;rcases hT with rfl|rfl|rfl|rfl|rfl
  ·exact IsiPair.str_int (fin' _ (by decide))
  ·exact IsiPair.str_str (fin _ (by decide))
  ·exact IsiPair.str_bool (fin' _ (by decide))
  ·exact IsiPair.str_list (fin' _ (by decide))
  ·exact IsiPair.str_tuple (fin' _ (by decide))
 |ref a=>
  cases rx;rcases hk with⟨hk,ys,hs⟩|⟨hk,ys,hs⟩
  ·subst hk;obtain⟨its,_,⟨o,n,e,hc,_⟩,_⟩:=I.list hs;rcases hT with rfl|rfl|rfl|rfl|rfl
   ·exact IsiPair.list_int e hc (fin' _ (by decide))
   ·exact IsiPair.list_str e hc (fin' _ (by decide))
   ·exact IsiPair.list_bool e hc (fin' _ (by decide))
   ·exact IsiPair.list_list e hc (fin _ (by decide))
   ·exact IsiPair.list_tuple e hc (fin' _ (by decide))
  ·subst hk;obtain⟨its,_,⟨o,e,hc,_⟩,_⟩:=I.tuple hs;rcases hT with rfl|rfl|rfl|rfl|rfl
   ·exact IsiPair.tuple_int e hc (fin' _ (by decide))
   ·exact IsiPair.tuple_str e hc (fin' _ (by decide))
   ·exact IsiPair.tuple_bool e hc (fin' _ (by decide))
   ·exact IsiPair.tuple_list e hc (fin' _ (by decide))
   ·exact IsiPair.tuple_tuple e hc (fin _ (by decide))
 |byt _=>exact False.elim hk
 |flt _=>exact False.elim hk
 |ty _=>exact False.elim hk
theorem b2e{n:String}(hg:Gl X x)(hm:X.mg x=none)(hv:bootBuiltins x=some (.type n))(hn:x≠"__name__":=by decide)(hd:(x == ("__debug__":Str))=false:=by decide):PE X (.Name x pos) (tC (.ty n)):=
 d8z hg hm hv rfl hn hd
theorem c3n(its:List Value)(bs:List Bool)(hv:Vals (bs.map V.bl) its):TruthOf prog w A (fun i v=>its.toArray[i]?=some v) (fun i=>bs.getD i false):=by
 intro i v s Q E hP hQ;have hP':its[i]?=some v:=by simpa using hP
 have hl:=hv.length;rw[List.length_map] at hl;have hi:i < its.length:=(List.getElem?_eq_some_iff.mp hP').1;have hb:(bs.map V.bl)[i]?=some (.bl bs[i]):=by simp[show i < bs.length by omega]
 obtain⟨u,hu,ru⟩:=hv.get hb;rw[hP'] at hu;cases hu;cases ru;have e:bs.getD i false=bs[i]:=by simp[show i < bs.length by omega]
 have hQ':Q (bs.getD i false) s:=hQ;rw[e] at hQ';exact wpAny_truthy_bool hQ'
theorem c9u(bs:List Bool):(List.range bs.length).all (fun i=>bs.getD i false)=bs.all id:=by
 rw[Bool.eq_iff_iff,List.all_eq_true,List.all_eq_true];constructor
 ·intro h b hb;obtain⟨i,hi,e⟩:=List.mem_iff_getElem.mp hb;have:=h i (List.mem_range.mpr hi);simp[hi] at this;rw[<-e];exact this
 ·intro h i hi;have hi:=List.mem_range.mp hi;have:=h bs[i] (List.getElem_mem hi);simp[hi];exact this
theorem c9v(hc:X.calm=true):CallR X (.builtin "all") (fun xs H Q=>∃(a:Addr) (bs:List Bool),xs=[.ref a]/\SqL X.K H a (bs.map V.bl)/\Q (.bl (bs.all id)) H):=by
 intro pins s σ H xs us Q I r h;obtain⟨a,bs,rfl,hs,q⟩:=h;obtain⟨u,rfl,ru⟩:=vals1 r;cases ru;obtain⟨its,rv,p,hz⟩:=I.list hs;have hl:=rv.length;rw[List.length_map] at hl;refine call_all_walk (wpAny_pyIter_list p.isList ?_);have hne:a≠s.heap.objs.size:=by obtain⟨o,n,e,_⟩:=p;exact Nat.ne_of_lt (Heap.lt_size e)
 refine⟨s.heap.objs.size,_,_,its.toArray.size,_,_,fun i=>bs.getD i false,rfl,Walks.list (A:=X.A.in1) (show X.A.in1.handled=none from I.ok.hd hc) _ a hne its.toArray,⟨⟨_,Heap.get?_push_size _ rfl,rfl,rfl⟩,?_⟩,c3n its bs rv,fun h' tk hk=>?_⟩
 ·exact p.isList.at fun o e=>Heap.get?_push_of_some _ e
 ·have e1:its.toArray.size=bs.length:=by rw[List.size_toArray,<-hl]
  refine⟨.bl (bs.all id),H,I.kept (h':=h') (t':=tk) (fun b o e=>hk b o (fun z=>absurd (Nat.lt_of_lt_of_le (Heap.lt_size e) (Nat.le_of_eq (List.mem_singleton.mp z).symm)) (Nat.lt_irrefl _)) (Heap.get?_push_of_some _ e)),?_,q⟩
  show Value.bool _=Value.bool _;rw[e1,c9u]
end
structure DefAt (K:L2.FG) (mg:Str->Option Value) (x:Str) (st:Stmt) (f:Addr) (fd:FuncData) (ps:List Str):Prop where
 fn:Fun K x x st f fd
 mg:mg x=some (.ref f)
 bd:Binds K fd ps []
section
variable {X:Cx} {k:Nat} {f:Addr} {fd:FuncData} {ps:List Str} {sp:Sp} {x:Str} {p pos:Pos} {e:Expr} {es:List Expr} {t:TA} {st:Stmt}
theorem pcall(D:DefAt X.K X.mg x st f fd ps)(F:FnOk X.prog X.w X.K X.mg X.base CX0 k f fd ps sp)(hr:Room k X.A)(ha:PA X (e::es) t)(hg:Gl X x:=by rfl)(hdb:(x == ("__debug__":Str))=false:=by decide)
  (he:starEach (e::es) X.env=(false,eval e X.env)::starEach es X.env:=by rfl) (hpl:(backTo pos (starEach es X.env)).any (·.1)=false:=by rfl) :
  PE X (.Call (.Name x p) (e::es) [] pos) (tCall sp [] E1 t):=c9j F hr hg D.mg D.fn.kp D.bd .nil pass0 ha hdb he hpl
end
section
variable {X:Cx} {a b:Expr} {rest:List Expr} {pos:Pos} {ta tb:TE} {tA tB:TT}
end
theorem Same.put{H':Hp}{o:HO}(s:Same H H')(h:H' a=none):Same H (upd H' a o):=fun b u e=>by
 have z:=s b u e;rw[a0v (a1q z h)];exact z
theorem a3b{o:HO}(h:H a=none):Same H (upd H a o):=(Same.refl H).put h
theorem d5n{α:Type}{xs:List α}{k:Int}(d:α)(h0:0<=k)(hk:k < xs.length):atI xs k=some (xs.getD k.toNat d):=by
 have hk':k.toNat < xs.length:=by omega
 have e:xs[k.toNat]?=some (xs.getD k.toNat d):=by simp[hk']
 have z:=a5x e
 rwa [show((k.toNat:Nat):Int)=k by omega] at z
theorem e3h:bootBuiltins "int"=some (.type "int"):=by decide +kernel
theorem c9w:bootBuiltins "str"=some (.type "str"):=by decide +kernel
theorem c3o:bootBuiltins "bool"=some (.type "bool"):=by decide +kernel
theorem a7z:bootBuiltins "list"=some (.type "list"):=by decide +kernel
theorem b8t:bootBuiltins "tuple"=some (.type "tuple"):=by decide +kernel
theorem a8r:bootBuiltins "isinstance"=some (.builtin "isinstance"):=by decide +kernel
theorem d7s:bootBuiltins "all"=some (.builtin "all"):=by decide +kernel
theorem a7r:bootBuiltins "len"=some (.builtin "len"):=by decide +kernel
theorem d7t(h:n<=1000):n<=sizeLine:=Nat.le_trans h (by decide)
section
variable {X:Cx}
def insV(xs:List V)(k:Nat)(y:V):List V:=xs.take k++y::xs.drop k
theorem c3p(xs:List V)(k:Nat)(y:V):(insV xs k y).length=xs.length+1:=by
 unfold insV;rw[List.length_append,List.length_cons,List.length_take,List.length_drop];omega
def c9x:V->List V->Hp->VK->Prop:=fun x vs H Q=>∃l xs i y,x=.ref l/\vs=[.int i,y]/\H l=some (.lst xs)/\0<=i/\i < 2 ^ 62/\xs.length < sizeLine/\Q .non (upd H l (.lst (insV xs i.toNat y)))
theorem c1o:MtM X "list.insert" c9x:=by
 intro pins s σ H x vs v us Q I rx rv h;obtain⟨l,xs,i,y,rfl,rfl,hH,h0,hi,hz,q⟩:=h;cases rx;obtain⟨u,u',rfl,⟨t,rfl⟩,ru⟩:=rv.two;obtain⟨z,its,n,r,hl,e⟩:=I.lstM hH;have hfit:¬(!Builtin.List.listFitsIndex i)=true:=by
  unfold Builtin.List.listFitsIndex;simp;omega
 refine call_meets F.slot_list_insert ⟨_,e,rfl⟩ F.entry_list_insert (F.args_list_insert_3 _ _ _) (PySem.AutoSeq1.list_insert_list_int_val_1 l its.toArray n i t u' hfit (by rw[List.size_toArray];omega)) ⟨e,?_⟩
 refine⟨.non,_,I.lset (its':=its.take i.toNat++u'::its.drop i.toNat) hH e ?_ ((r.take i.toNat).append (.cons ru (r.drop i.toNat))) ?_,rfl,q⟩
 ·have h1:¬i < 0:=by omega
  simp only[h1,if_false];apply Array.ext';simp only[Array.toList_append,Array.toList_push,Array.toList_extract,List.size_toArray];rw[List.extract_eq_drop_take,List.extract_eq_drop_take];have e1:min i.toNat its.length - 0=min i.toNat its.length:=by omega
  rw[e1];simp only[List.drop_zero];have e2:its.take (min i.toNat its.length)=its.take i.toNat:=by rw[List.take_eq_take_iff];omega
  rw[e2];by_cases hc:i.toNat<=its.length
  ·rw[Nat.min_eq_left hc,List.take_of_length_le (l:=List.drop i.toNat its) (by rw[List.length_drop];omega)]
   simp
  ·have hc:its.length<=i.toNat:=by omega
   rw[Nat.min_eq_right hc,List.drop_of_length_le (Nat.le_refl _),List.drop_of_length_le hc];simp
 ·show(insV xs i.toNat y).length<=sizeLine;rw[c3p];omega
def rSlS:V->Option Int->Option Int->Hp->VK->Prop:=fun x lo hi H Q=>∃z,x=.str z/\z.length<=sizeLine/\Q (.str (Txt.slice z lo hi)) H
theorem sl_str:SlR X rSlS:=by
 intro pins s σ H x v vl vu lo hi sl Q I rx hs pl pu h;obtain⟨z,rfl,hz,q⟩:=h;obtain⟨t,rfl⟩:=rx;refine⟨"str",_,F.slot_str_getitem.lookup,typeIs_str _ _ _,?_⟩;have fin:∀t' k,EP X pins σ Q (.str (Txt.slice z lo hi) t') { s with toks:=k}:=fun t' k=>⟨.str _,H,I.tok _,⟨_,rfl⟩,q⟩
 cases pl with
 |none=>
  cases pu with
  |none=>exact wpAny_getItem_str_slice (l:=none) (u:=none) (st:=none) hs rfl (post_val_or_str ⟨Nat.le_trans (Txt.slice_le z _ _) hz,fin⟩)
  |int j tj=>exact wpAny_getItem_str_slice (l:=none) (u:=some (j,tj)) (st:=none) hs rfl (post_val_or_str ⟨Nat.le_trans (Txt.slice_le z _ _) hz,fin⟩)
 |int i ti=>
  cases pu with
  |none=>exact wpAny_getItem_str_slice (l:=some (i,ti)) (u:=none) (st:=none) hs rfl (post_val_or_str ⟨Nat.le_trans (Txt.slice_le z _ _) hz,fin⟩)
  |int j tj=>exact wpAny_getItem_str_slice (l:=some (i,ti)) (u:=some (j,tj)) (st:=none) hs rfl (post_val_or_str ⟨Nat.le_trans (Txt.slice_le z _ _) hz,fin⟩)
theorem c7p:OpR X (binaryOp .Mult) (fun x y H Q=>∃z n,x=.str z/\y=.int n/\MulOk z n/\Q (.str (Txt.mul z n)) H):=by
 intro pins s σ H x y v u Q I rx ry h;obtain⟨z,n,rfl,rfl,hm,q⟩:=h;obtain⟨t,rfl⟩:=rx;obtain⟨t',rfl⟩:=ry;exact SB.mul hm fun t' k=>⟨.str _,H,I.tok _,⟨_,rfl⟩,q⟩
end
inductive EqD (K:L2.FG) (H:Hp):Nat->V->V->Bool->Prop
 |flat {d:Nat} {x y:V}:flatV x=true->flatV y=true->EqD K H d x y (eqV x y)
 |same {d:Nat} {a:Addr}:EqD K H d (.ref a) (.ref a) true
 |lst {d:Nat} {a b:Addr} {xs ys:List V} {e:Nat->Bool}:a≠b->SqL K H a xs->SqL K H b ys->xs.length=ys.length->(∀(i:Nat) x y,xs[i]?=some x->ys[i]?=some y->EqD K H d x y (e i))->EqD K H (d+1) (.ref a) (.ref b) ((List.range xs.length).all e)
 |lstN {d:Nat} {a b:Addr} {xs ys:List V}:a≠b->SqL K H a xs->SqL K H b ys->xs.length≠ys.length->EqD K H (d+1) (.ref a) (.ref b) false
 |tup {d:Nat} {a b:Addr} {xs ys:List V} {e:Nat->Bool}:a≠b->SqT K H a xs->SqT K H b ys->(∀(i:Nat) x y,xs[i]?=some x->ys[i]?=some y->EqD K H d x y (e i))->EqD K H (d+1) (.ref a) (.ref b) ((List.range (min xs.length ys.length)).all e && xs.length == ys.length)
section
variable {X:Cx} {pins:List (Addr×Obj)} {σ:St} {H:Hp} {s:Shared}
theorem Vals.at{xs:List V}{us:List Value}(r:Vals xs us){j:Nat}(h:j < us.toArray.size):∃x,xs[j]?=some x/\RelV x us.toArray[j]:=by
 have hl:=r.length;have h':j < us.length:=by simpa using h
 have hx:xs[j]?=some xs[j]:=by simp[show j < xs.length by omega]
 obtain⟨u,hu,ru⟩:=r.get hx;have:us[j]?=some us[j]:=by simp[h']
 rw[this] at hu;cases hu;exact⟨xs[j],hx,by simpa using ru⟩
end
section
variable {X:Cx}
theorem d5o(K:L2.FG)(hK:X.K=K:=by rfl):IxR X (rIxL K):=hK ▸ d9n
theorem d9s(K:L2.FG)(hK:X.K=K:=by rfl):IxR X (rIxT K):=hK ▸ e3d
theorem b8u(K:L2.FG)(hK:X.K=K:=by rfl):CallR X (.builtin "len") (fun xs H Q=>∃p ys,xs=[.ref p]/\(SqL K H p ys\/SqT K H p ys)/\Q (.int ys.length) H):=hK ▸ c1h
theorem d5p(K:L2.FG)(hK:X.K=K:=by rfl):SlR X (rSlL K):=hK ▸ d9o
theorem d9t(K:L2.FG)(hK:X.K=K:=by rfl):SlR X (rSlT K):=hK ▸ e3b
theorem a3x(K:L2.FG)(hK:X.K=K:=by rfl):CallR X (.builtin "isinstance") (fun xs H Q=>∃x k T,xs=[x,.ty T]/\c1n K H x k/\(T="int"\/T="str"\/T="bool"\/T="list"\/T="tuple")/\Q (.bl (isiB k T)) H):=hK ▸ d5m
theorem a4y(K:L2.FG)(hK:X.K=K:=by rfl):CallR X (.type "list") (fun xs H Q=>∃p ys,xs=[.ref p]/\(SqL K H p ys\/SqT K H p ys)/\∀l,H l=none->Q (.ref l) (upd H l (.lst ys))):=hK ▸ c1j
theorem c9y(K:L2.FG){a:Expr}{ta:TE}(ha:PE X a ta)(he:∀whole,isTrue a X.env whole=(do let v <-whole;standAt a.pos;holding [v] (truthy v)))(hK:X.K=K:=by rfl):
  PT X a (fun σ H Q=>ta σ H fun x H'=>∃k,TruV K x H' k/\Q k H'):=hK ▸ d4z ha he
theorem a4z(K:L2.FG)(hl:PE X l tl)(hK:X.K=K:=by rfl):PI X tg l (iList K tl):=hK ▸ c8z hl
end
theorem a8y(hr:Room k A):A.units+40 < cLine:=Nat.lt_of_le_of_lt (Nat.add_le_add_left (by decide:40<=64) _) hr.units
end L2
namespace Carry
open PySem L2
def SB(f:Addr)(H H':Hp):Prop:=∀b o,H b=some o->b≠f->H' b=some o
structure Feed where
 ns:List Int
 pl:Int
 style:Int
 mode:Int
 num:Int
def feedO(sl:Addr)(F:Feed):HO:=.lst [.ref sl,.int F.pl,.int F.style,.int F.mode,.int F.num]
structure FeedAt (H:Hp) (f sl:Addr) (F:Feed):Prop where
 fo:H f=some (feedO sl F)
 so:H sl=some (.lst (F.ns.map V.int))
 pos:0<=F.pl
 len:F.ns.length<=63
def cellOf(F:Feed):Int:=if 0 < F.ns.length then F.ns.getD (F.pl % F.ns.length).toNat 0+F.pl / F.ns.length * 31 else F.pl
structure Belt where
 name:Str
 long:Int
 ring:Bool
 outs:List Str
structure House where
 belts:List Belt
 carts:List Str
def strs'(xs:List Str):List V:=xs.map V.str
def e3i(H:Hp)(v:V)(b:Belt):Prop:=∃p o,v=.ref p/\H p=some (.tup [.str b.name,.int b.long,.bl b.ring,.ref o])/\H o=some (.lst (strs' b.outs))
structure HouseAt (H:Hp) (p pb pc:Addr) (refs:List V) (h:House):Prop where
 top:H p=some (.tup [.ref pb,.ref pc])
 bl:H pb=some (.lst refs)
 ct:H pc=some (.lst (strs' h.carts))
 each:Paired (e3i H) refs h.belts
def insS(xs:List Str)(k:Nat)(y:Str):List Str:=xs.take k++y::xs.drop k
theorem b3x(xs:List Str)(k:Nat)(y:Str):(insS xs k y).length=xs.length+1:=by
 unfold insS;rw[List.length_append,List.length_cons,List.length_take,List.length_drop];omega
theorem mem_insS{xs:List Str}{k:Nat}{y z:Str}:z∈insS xs k y↔z=y\/z∈xs:=by
 unfold insS;rw[List.mem_append,List.mem_cons];constructor
 ·rintro(h|h|h)
  ·exact .inr (List.mem_of_mem_take h)
  ·exact .inl h
  ·exact .inr (List.mem_of_mem_drop h)
 ·rintro(h|h)
  ·exact .inr (.inl h)
  ·rw[<-List.take_append_drop k xs,List.mem_append] at h;rcases h with h|h
   ·exact .inl h
   ·exact .inr (.inr h)
end Carry
namespace L2
open PySem PySem.Spec PyProof.Rows
variable{base:Heap}{env:Env}{outer:List Env}{L e C:Addr}{dx:Option Addr}{n:Nat}{H:Hp}{Q:Unit->Shared->Prop}
structure LeftX (fs ch:List Addr) (h h':Heap):Prop where
 keep:∀b o,b∉fs->b∉ch->h.get? b=some o->h'.get? b=some o
 slot:∀b o,b∈fs->b∉ch->h.get? b=some o->∃sl,h'.get? b=some { o with slots:=sl}
def FlyX(n:Nat)(h:Heap)(H:Hp)(e C:Addr)(dx:Option Addr):Prop:=n<=e/\H e=none/\∃oe vs,h.get? e=some oe/\oe.cls=.ref C/\oe.dict=dx/\oe.data=.fields vs/\1 < vs.size/\
 (vs[1]?=some .none\/∃T oT ts,vs[1]?=some (.ref T)/\n<=T/\H T=none/\T≠e/\h.get? T=some oT/\oT.data=.fields ts/\ts[3]?=some .none)
theorem c9z(f:Array Value->Array Value)(o:Obj):(Obj.mapFields f o).dict=o.dict:=by obtain⟨c,d,dt,sl⟩:=o;cases dt <;> rfl
section
variable {M:Model} {A:Around} {E:Value->Shared->Prop} {s:Shared}
theorem d0a{oe:Obj}{vs:Array Value}{head:Value}{had:Bool}
  (hfr:A.frames=some (env::outer)) (hl:s.heap.FunFrames base (env::outer)) (hf:env.frame=some L) (he:s.heap.get? e=some oe) (hc:oe.cls=.ref C) (hx:oe.dict=dx) (hd:oe.data=.fields vs) (hsz:1 < vs.size) (hn:n<=s.heap.objs.size) (hne:n<=e) (hHe:H e=none) (hH:∀a,s.heap.objs.size<=a->H a=none)
  (h:∀h',LeftX (frs (env::outer)) [e] s.heap h'->FlyX n h' H e C dx->Q () { s with heap:=h'}) :
  wpAny M A (do let a <-frameOf env;let pl <-entryPlaceOf L had;let b <-EntryCells.newEntry head a .none (rawInt L) .none pl;setField (.ref e) 1 b) (fun _ s'=>wpAny M A (setFlight (.ref e) none) Q E s') E s:=by
 have ene:e∉frs (env::outer):=fun m=>by
  obtain⟨_,o,ho,hnf⟩:=hl.mem m;rw[he] at ho;cases ho;exact hnf vs hd
 refine wpAny_bind (wpAny_frameOf_fun hfr hl hf fun h1 so=>wpAny_bind (wpAny_entryPlaceOf fun pl hpl=>?_))
 unfold EntryCells.newEntry newFields;refine wpAny_bind (wpAny_newObj_type ?_ (hpl.sizeOk5 _ _ _ _ _));generalize eN:({ cls:=.type "traceback",dict:=none,data:=.fields ([head,.ref L,.none,rawInt L,.none]++(if pl.isEmpty then List.replicate 6 Value.none else pl)).toArray}:Obj)=oN
 have e1:h1.get? e=some oe:=(so.2.1 e ene).trans he;have e2:(h1.push oN).get? e=some oe:=Heap.get?_push_of_some _ e1;have nT:h1.objs.size≠e:=Nat.ne_of_gt (Heap.lt_size e1);have fN:oN.data=.fields ([head,.ref L,.none,rawInt L,.none]++(if pl.isEmpty then List.replicate 6 Value.none else pl)).toArray:=by rw[<-eN]
 have lN:3 < ([head,.ref L,.none,rawInt L,.none]++(if pl.isEmpty then List.replicate 6 Value.none else pl)).toArray.size:=by simp only[List.size_toArray,List.length_append,List.length_cons,List.length_nil];omega
 have dE:=Obj.data_mapFields hd (·.setIfInBounds 1 (Value.ref h1.objs.size))
 have e3:=Heap.get?_update_self (Obj.mapFields (·.setIfInBounds 1 (Value.ref h1.objs.size))) e2 (Obj.isFreed_of_fields dE)
 have t3:((h1.push oN).update e (Obj.mapFields (·.setIfInBounds 1 (Value.ref h1.objs.size)))).get? h1.objs.size=some oN:=(Heap.get?_update_other _ _ (Ne.symm nT)).trans (Heap.get?_push_size h1 (Obj.isFreed_of_fields fN))
 have dT:=Obj.data_mapFields fN (·.setIfInBounds 3 ((none:Option Addr).elim Value.none fun f=>rawInt f))
 refine wpAny_setField e2 hd hsz ?_;unfold setFlight;refine wpAny_bind (wpAny_field e3 dE (x:=.ref h1.objs.size) (by simp[hsz]) ?_)
 rw[if_pos (show(Value.ref h1.objs.size != Value.none)=true by simp)]
 refine wpAny_setField t3 fN lN (h _ ⟨fun b o hb hc' g=>?_,fun b o hb hc' g=>?_⟩ ⟨hne,hHe,_,_,(Heap.get?_update_other _ _ nT).trans e3,(Obj.cls_mapFields _ _).trans hc,(c9z _ _).trans hx,dE,by simpa using hsz,.inr ⟨h1.objs.size,_,_,by simp[hsz],by rw[so.1];exact hn,hH _ (by rw[so.1];exact Nat.le_refl _),nT,Heap.get?_update_self _ t3 (Obj.isFreed_of_fields dT),dT,by simp[Array.getElem?_setIfInBounds,lN]⟩⟩)
 ·have be:b≠e:=fun z=>hc' (by simp[z])
  have b1:h1.get? b=some o:=(so.2.1 b hb).trans g;rw[Heap.get?_update_other _ _ (Nat.ne_of_gt (Heap.lt_size b1)),Heap.get?_update_other _ _ (Ne.symm be)];exact Heap.get?_push_of_some _ b1
 ·have be:b≠e:=fun z=>hc' (by simp[z])
  obtain⟨sl,b1⟩:=so.2.2 b o g;refine⟨sl,?_⟩;rw[Heap.get?_update_other _ _ (Nat.ne_of_gt (Heap.lt_size b1)),Heap.get?_update_other _ _ (Ne.symm be)];exact Heap.get?_push_of_some _ b1
theorem d7u
  (hfr:A.frames=some (env::outer)) (hl:s.heap.FunFrames base (env::outer)) (hf:env.frame=some L) (hn:n<=s.heap.objs.size) (hH:∀a,s.heap.objs.size<=a->H a=none) (fl:FlyX n s.heap H e C dx)
  (h:∀h' ch,(∀b∈ch,n<=b/\H b=none)->LeftX (frs (env::outer)) ch s.heap h'->FlyX n h' H e C dx->Q () { s with heap:=h'}):wpAny M A (noteFrame (.ref e) env) (fun _ s'=>wpAny M A (setFlight (.ref e) none) Q E s') E s:=by
 obtain⟨hne,hHe,oe,vs,he,hc,hx,hd,hsz,h1⟩:=fl;unfold noteFrame;simp only[hf];rcases h1 with h1|⟨T,oT,ts,h1,hnT,hHT,hTe,hT,hdT,h3⟩
 ·refine wpAny_bind (wpAny_field he hd h1 ?_);rw[if_neg (by decide)]
  exact d0a hfr hl hf he hc hx hd hsz hn hne hHe hH fun h' l f=>h h' [e] (fun b m=>by cases List.mem_singleton.1 m;exact⟨hne,hHe⟩) l f
 ·refine wpAny_bind (wpAny_field he hd h1 ?_);rw[if_pos (show(Value.ref T != Value.none)=true by simp)]
  refine wpAny_bind (wpAny_field hT hdT h3 ?_);rw[if_neg (show ¬(Value.none == rawInt L)=true by simp[rawInt])]
  refine wpAny_bind (wpAny_setField hT hdT (Array.getElem?_eq_some_iff.mp h3).1 ?_);have ot:∀b,b≠T->(s.heap.update T (Obj.mapFields (·.setIfInBounds 3 Value.none))).get? b=s.heap.get? b:=fun b z=>Heap.get?_update_other _ _ (Ne.symm z)
  have nr:∀b o,s.heap.get? b=some o->(∀vs,o.data≠.fields vs)->b≠T:=fun b o hb hnf z=>by
   rw[z,hT] at hb;cases hb;exact hnf ts hdT
  refine d0a (s:={ s with heap:=s.heap.update T (Obj.mapFields (·.setIfInBounds 3 Value.none))}) hfr (hl.of_keeps fun b o hb hnf=>⟨o,(ot b (nr b o hb hnf)).trans hb,rfl⟩) hf ((ot e (Ne.symm hTe)).trans he) hc hx hd hsz (by simpa[Heap.size_after_update] using hn) hne hHe (fun a z=>hH a (by simpa[Heap.size_after_update] using z)) fun h' l f=>h h' [e,T] (fun b m=>?_) ⟨fun b o hb hc' g=>?_,fun b o hb hc' g=>?_⟩ f
  ·simp only[List.mem_cons,List.not_mem_nil,or_false] at m;rcases m with rfl|rfl
   ·exact⟨hne,hHe⟩
   ·exact⟨hnT,hHT⟩
  ·simp only[List.mem_cons,List.not_mem_nil,or_false,not_or] at hc';exact l.keep b o hb (by simp[hc'.1]) ((ot b hc'.2).trans g)
  ·simp only[List.mem_cons,List.not_mem_nil,or_false,not_or] at hc';exact l.slot b o hb (by simp[hc'.1]) ((ot b hc'.2).trans g)
theorem d9u
  (hfr:A.frames=some (env::outer)) (hl:s.heap.FunFrames base (env::outer)) (hf:env.frame=some L) (hn:n<=s.heap.objs.size) (hH:∀a,s.heap.objs.size<=a->H a=none) (fl:FlyX n s.heap H e C dx)
  (h:∀h' ch,(∀b∈ch,n<=b/\H b=none)->LeftX (frs (env::outer)) ch s.heap h'->FlyX n h' H e C dx->Q () { s with heap:=h'}):wpAny M A (leaving env (.ref e)) Q E s:=by
 unfold leaving;exact wpAny_bind (d7u hfr hl hf hn hH fl h)
end
inductive D where
 |non|bl (b:Bool)|int (i:Int)|str (x:Str)|ty (n:String)
 |lst (xs:List D)|tup (xs:List D)|dct (kvs:List (TK×D))|scr (ns:List Int)|exc (C:Addr) (l:Option Int)|obj
mutual
def TK.d:TK->D
 |.inl i=>.int i
 |.inr x=>.str x
 |.tp l=>.tup (TK.dl l)
def TK.dl:List TK->List D
 |[]=>[]
 |k::l=>TK.d k::TK.dl l
end
def a4w:D->Option V
 |.non=>some .non
 |.bl b=>some (.bl b)
 |.int i=>some (.int i)
 |.str x=>some (.str x)
 |.ty n=>some (.ty n)
 |_=>none
def excO(C t:Addr)(d:Option Addr):Obj:={ cls:=.ref C,dict:=d,data:=.fields #[.ref t,.none,.none,.none,.bool false,.none]}
def IsX(o:Obj)(C:Addr)(d:Option Addr):Prop:=o.cls=.ref C/\o.dict=d/\∃vs,o.data=.fields vs
def ExcA(F:Hp)(a C:Addr):Option Int->Prop
 |none=>∃o,F a=some (.frz o (.own 0))/\IsX o C none
 |some n=>∃o dx,F a=some (.frz o (.own 0))/\IsX o C (some dx)/\F dx=some (.xd [("line",.int n)])
inductive RepL (K:L2.FG) (F:Hp):List V->List D->Prop
 |nil:RepL K F [] []
 |flat {v:V} {d:D} {vs:List V} {ds:List D}:a4w d=some v->RepL K F vs ds->RepL K F (v::vs) (d::ds)
 |lst {a:Addr} {ws vs:List V} {es ds:List D}:Rd F a (.lst ws)->RepL K F ws es->RepL K F vs ds->RepL K F (.ref a::vs) (.lst es::ds)
 |tup {a:Addr} {ws vs:List V} {es ds:List D}:SqT K F a ws->RepL K F ws es->RepL K F vs ds->RepL K F (.ref a::vs) (.tup es::ds)
 |dct {a:Addr} {kvs:List (TK×V×V)} {es:List (TK×D)} {ep:Nat} {vs:List V} {ds:List D}:F a=some (.dG kvs ep)->kvs.map (·.1)=es.map (·.1)->RepL K F (kvs.map (·.2.1)) (es.map (·.1.d))->RepL K F (kvs.map (·.2.2)) (es.map (·.2))->RepL K F vs ds->RepL K F (.ref a::vs) (.dct es::ds)
 |scr {a:Addr} {ns:List Int} {vs:List V} {ds:List D}:SqL K F a (ns.map V.int)->RepL K F vs ds->RepL K F (.ref a::vs) (.scr ns::ds)
 |exc {a C:Addr} {l:Option Int} {vs:List V} {ds:List D}:ExcA F a C l->RepL K F vs ds->RepL K F (.ref a::vs) (.exc C l::ds)
 |obj {a:Addr} {vs:List V} {ds:List D}:RepL K F vs ds->RepL K F (.ref a::vs) (.obj::ds)
theorem Same.rd{H H':Hp}{a:Addr}{u:HO}(e:Same H H')(h:Rd H a u):Rd H' a u:=by
 rcases h with h|⟨o,h⟩
 ·exact .inl (e _ _ h)
 ·exact .inr ⟨o,e _ _ h⟩
theorem Same.seqT{K:L2.FG}{H H':Hp}{a:Addr}{xs:List V}(e:Same H H')(h:SqT K H a xs):SqT K H' a xs:=by
 rcases h with(h|⟨o,h⟩)|h
 ·exact .inl (.inl (e _ _ h))
 ·exact .inl (.inr ⟨o,e _ _ h⟩)
 ·exact .inr h
section
variable {K:L2.FG} {F F':Hp}
theorem ExcA.mono{F F':Hp}{a C:Addr}{l:Option Int}(s:Same F F')(h:ExcA F a C l):ExcA F' a C l:=by
 cases l with
 |none=>obtain⟨o,e,z⟩:=h;exact⟨o,s _ _ e,z⟩
 |some n=>obtain⟨o,dx,e,z,q⟩:=h;exact⟨o,dx,s _ _ e,z,s _ _ q⟩
theorem RepL.mono(s:Same F F'){vs:List V}{ds:List D}(h:RepL K F vs ds):RepL K F' vs ds:=by
 induction h with
 |nil=>exact .nil
 |flat e _ ih=>exact .flat e ih
 |lst e _ _ i1 i2=>exact .lst (s.rd e) i1 i2
 |tup e _ _ i1 i2=>exact .tup (s.seqT e) i1 i2
 |dct e k _ _ _ i0 i1 i2=>exact .dct (s _ _ e) k i0 i1 i2
 |scr e _ i=>exact .scr (s.seq e) i
 |exc e _ i=>exact .exc (e.mono s) i
 |obj _ i=>exact .obj i
theorem RepL.length{vs:List V}{ds:List D}(h:RepL K F vs ds):vs.length=ds.length:=by
 induction h with
 |nil=>rfl
 |flat _ _ ih=>simp[ih]
 |lst _ _ _ _ ih=>simp[ih]
 |tup _ _ _ _ ih=>simp[ih]
 |dct _ _ _ _ _ _ _ ih=>simp[ih]
 |scr _ _ ih=>simp[ih]
 |exc _ _ ih=>simp[ih]
 |obj _ ih=>simp[ih]
theorem RepL.inv{v:V}{vs:List V}{d:D}{ds:List D}(h:RepL K F (v::vs) (d::ds)):RepL K F [v] [d]/\RepL K F vs ds:=by
 cases h with
 |flat e t=>exact⟨.flat e .nil,t⟩
 |lst e i t=>exact⟨.lst e i .nil,t⟩
 |tup e i t=>exact⟨.tup e i .nil,t⟩
 |dct e k j i t=>exact⟨.dct e k j i .nil,t⟩
 |scr e t=>exact⟨.scr e .nil,t⟩
 |exc e t=>exact⟨.exc e .nil,t⟩
 |obj t=>exact⟨.obj .nil,t⟩
theorem RepL.cons{v:V}{vs:List V}{d:D}{ds:List D}(h:RepL K F [v] [d])(t:RepL K F vs ds):RepL K F (v::vs) (d::ds):=by
 cases h with
 |flat e _=>exact .flat e t
 |lst e i _=>exact .lst e i t
 |tup e i _=>exact .tup e i t
 |dct e k j i _=>exact .dct e k j i t
 |scr e _=>exact .scr e t
 |exc e _=>exact .exc e t
 |obj _=>exact .obj t
theorem RepL.get:∀{vs:List V} {ds:List D} {i:Nat} {d:D},RepL K F vs ds->ds[i]?=some d->∃v,vs[i]?=some v/\RepL K F [v] [d]
 |[],[],i,d,_,e=>by simp at e
 |v::vs,d'::ds,0,d,h,e=>by simp at e;subst e;exact⟨v,rfl,h.inv.1⟩
 |v::vs,d'::ds,i+1,d,h,e=>by
  obtain⟨u,h1,h2⟩:=RepL.get (i:=i) h.inv.2 (by simpa using e)
  exact⟨u,by simpa using h1,h2⟩
 |[],_::_,_,_,h,_=>by have:=h.length;simp at this
 |_::_,[],_,_,h,_=>by have:=h.length;simp at this
theorem RepL.append:∀{vs:List V} {ds:List D} {ws:List V} {es:List D},RepL K F vs ds->RepL K F ws es->RepL K F (vs++ws) (ds++es)
 |[],[],_,_,_,h=>h
 |v::vs,d::ds,_,_,h,t=>.cons h.inv.1 (RepL.append h.inv.2 t)
 |[],_::_,_,_,h,_=>by have:=h.length;simp at this
 |_::_,[],_,_,h,_=>by have:=h.length;simp at this
theorem RepL.take:∀{vs:List V} {ds:List D} (n:Nat),RepL K F vs ds->RepL K F (vs.take n) (ds.take n)
 |[],[],_,_=>by simp;exact .nil
 |v::vs,d::ds,0,_=>.nil
 |v::vs,d::ds,n+1,h=>.cons h.inv.1 (RepL.take n h.inv.2)
 |[],_::_,_,h=>by have:=h.length;simp at this
 |_::_,[],_,h=>by have:=h.length;simp at this
theorem RepL.drop:∀{vs:List V} {ds:List D} (n:Nat),RepL K F vs ds->RepL K F (vs.drop n) (ds.drop n)
 |[],[],_,_=>by simp;exact .nil
 |v::vs,d::ds,0,h=>h
 |v::vs,d::ds,n+1,h=>by simpa using RepL.drop n h.inv.2
 |[],_::_,_,h=>by have:=h.length;simp at this
 |_::_,[],_,h=>by have:=h.length;simp at this
end
inductive O where
 |frz (d:D)|lst (xs:List O)|tup (xs:List O)|dct (kvs:List (TK×O))|ins (C:Addr) (ns:List Str) (ps:List O)
abbrev Gm:=List (Option O)
inductive OwnL (K:L2.FG) (F H:Hp):St->Gm->List Addr->Prop
 |nil:OwnL K F H [] [] []
 |skip {x:Option V} {σ:St} {Γ:Gm} {B:List Addr}:OwnL K F H σ Γ B->OwnL K F H (x::σ) (none::Γ) B
 |frz {v:V} {d:D} {σ:St} {Γ:Gm} {B:List Addr}:RepL K F [v] [d]->OwnL K F H σ Γ B->OwnL K F H (some v::σ) (some (.frz d)::Γ) B
 |lst {a:Addr} {ws:List V} {ps:List O} {A B:List Addr} {σ:St} {Γ:Gm}:H a=some (.lst ws)->OwnL K F H (ws.map some) (ps.map some) A->OwnL K F H σ Γ B->OwnL K F H (some (.ref a)::σ) (some (.lst ps)::Γ) (a::A++B)
 |tup {a:Addr} {ws:List V} {ps:List O} {A B:List Addr} {σ:St} {Γ:Gm}:H a=some (.tup ws)->OwnL K F H (ws.map some) (ps.map some) A->OwnL K F H σ Γ B->OwnL K F H (some (.ref a)::σ) (some (.tup ps)::Γ) (a::A++B)
 |dct {a:Addr} {kvs:List (TK×V×V)} {ps:List (TK×O)} {ep:Nat} {A B:List Addr} {σ:St} {Γ:Gm}:H a=some (.dG kvs ep)->kvs.map (·.1)=ps.map (·.1)->RepL K F (kvs.map (·.2.1)) (ps.map (·.1.d))->OwnL K F H (kvs.map fun p=>some p.2.2) (ps.map fun p=>some p.2) A->OwnL K F H σ Γ B->
   OwnL K F H (some (.ref a)::σ) (some (.dct ps)::Γ) (a::A++B)
  |ins {a dx C:Addr} {fs:List (Str×V)} {ns:List Str} {ps:List O} {A B:List Addr} {σ:St} {Γ:Gm}:H a=some (.ins C dx fs)->H dx=some (.own a)->fs.map (·.1)=ns.take ps.length->OwnL K F H (fs.map fun p=>some p.2) (ps.map some) A->OwnL K F H σ Γ B->
   OwnL K F H (some (.ref a)::σ) (some (.ins C ns ps)::Γ) (a::dx::A++B)
section
variable {K:L2.FG} {F F' H H':Hp} {σ τ:St} {Γ Θ:Gm} {A B:List Addr}
theorem OwnL.keep(h:OwnL K F H σ Γ A)(s:Same F F')(k:∀a∈A,∀o,H a=some o->H' a=some o):OwnL K F' H' σ Γ A:=by
 induction h with
 |nil=>exact .nil
 |skip _ ih=>exact .skip (ih k)
 |frz r _ ih=>exact .frz (r.mono s) (ih k)
 |lst e _ _ i1 i2=>exact .lst (k _ (by simp) _ e) (i1 fun a ha=>k a (by simp[ha])) (i2 fun a ha=>k a (by simp[ha]))
 |tup e _ _ i1 i2=>exact .tup (k _ (by simp) _ e) (i1 fun a ha=>k a (by simp[ha])) (i2 fun a ha=>k a (by simp[ha]))
 |dct e q r _ _ i1 i2=>exact .dct (k _ (by simp) _ e) q (r.mono s) (i1 fun a ha=>k a (by simp[ha])) (i2 fun a ha=>k a (by simp[ha]))
 |ins e d q _ _ i1 i2=>exact .ins (k _ (by simp) _ e) (k _ (by simp) _ d) q (i1 fun a ha=>k a (by simp[ha])) (i2 fun a ha=>k a (by simp[ha]))
theorem OwnL.there(h:OwnL K F H σ Γ A):∀a∈A,H a≠none:=by
 induction h with
 |nil=>intro a ha;cases ha
 |skip _ ih=>exact ih
 |frz _ _ ih=>exact ih
 |lst e _ _ i1 i2=>
  intro a ha;rcases List.mem_cons.mp ha with rfl|ha
  ·rw[e];exact fun z=>by cases z
  ·rcases List.mem_append.mp ha with ha|ha
   ·exact i1 a ha
   ·exact i2 a ha
 |tup e _ _ i1 i2=>
  intro a ha;rcases List.mem_cons.mp ha with rfl|ha
  ·rw[e];exact fun z=>by cases z
  ·rcases List.mem_append.mp ha with ha|ha
   ·exact i1 a ha
   ·exact i2 a ha
 |dct e _ _ _ _ i1 i2=>
  intro a ha;rcases List.mem_cons.mp ha with rfl|ha
  ·rw[e];exact fun z=>by cases z
  ·rcases List.mem_append.mp ha with ha|ha
   ·exact i1 a ha
   ·exact i2 a ha
 |ins e d _ _ _ i1 i2=>
  intro a ha;simp only[List.cons_append,List.mem_cons,List.mem_append] at ha;rcases ha with rfl|rfl|ha|ha
  ·rw[e];exact fun z=>by cases z
  ·rw[d];exact fun z=>by cases z
  ·exact i1 a ha
  ·exact i2 a ha
theorem OwnL.length(h:OwnL K F H σ Γ A):σ.length=Γ.length:=by
 induction h <;> simp_all
theorem OwnL.app(h:OwnL K F H τ Θ B)(t:OwnL K F H σ Γ A):OwnL K F H (τ++σ) (Θ++Γ) (B++A):=by
 induction h with
 |nil=>exact t
 |skip _ ih=>exact .skip ih
 |frz r _ ih=>exact .frz r ih
 |lst e i _ _ ih=>simp only[List.cons_append,List.append_assoc];exact .lst e i ih
 |tup e i _ _ ih=>simp only[List.cons_append,List.append_assoc];exact .tup e i ih
 |dct e q r i _ _ ih=>simp only[List.cons_append,List.append_assoc];exact .dct e q r i ih
 |ins e d q i _ _ ih=>simp only[List.cons_append,List.append_assoc];exact .ins e d q i ih
theorem OwnL.split:∀{τ:St} {Θ:Gm} {A:List Addr},τ.length=Θ.length->OwnL K F H (τ++σ) (Θ++Γ) A->∃B C,OwnL K F H τ Θ B/\OwnL K F H σ Γ C/\A=B++C
 |[],[],A,_,h=>⟨[],A,.nil,h,rfl⟩
 |[],_::_,_,e,_=>by simp at e
 |_::_,[],_,e,_=>by simp at e
 |x::τ,y::Θ,A,e,h=>by
  have e':τ.length=Θ.length:=by simpa using e
  cases h with
  |skip t=>obtain⟨B,C,h1,h2,h3⟩:=OwnL.split e' t;exact⟨B,C,.skip h1,h2,h3⟩
  |frz r t=>obtain⟨B,C,h1,h2,h3⟩:=OwnL.split e' t;exact⟨B,C,.frz r h1,h2,h3⟩
  |lst q i t=>obtain⟨B,C,h1,h2,h3⟩:=OwnL.split e' t;subst h3;exact⟨_,C,.lst q i h1,h2,by simp⟩
  |tup q i t=>obtain⟨B,C,h1,h2,h3⟩:=OwnL.split e' t;subst h3;exact⟨_,C,.tup q i h1,h2,by simp⟩
  |dct q z r i t=>obtain⟨B,C,h1,h2,h3⟩:=OwnL.split e' t;subst h3;exact⟨_,C,.dct q z r i h1,h2,by simp⟩
  |ins q d z i t=>obtain⟨B,C,h1,h2,h3⟩:=OwnL.split e' t;subst h3;exact⟨_,C,.ins q d z i h1,h2,by simp⟩
theorem OwnL.one{x:Option V}{y:Option O}(h:OwnL K F H (x::σ) (y::Γ) A):∃B C,OwnL K F H [x] [y] B/\OwnL K F H σ Γ C/\A=B++C:=OwnL.split (τ:=[x]) (Θ:=[y]) rfl h
theorem OwnL.take:∀{σ:St} {Γ:Gm} {A:List Addr} {i:Nat} {o:O},OwnL K F H σ Γ A->Γ[i]?=some (some o)->∃v Ai B,σ[i]?=some (some v)/\OwnL K F H [some v] [some o] Ai/\OwnL K F H σ (Γ.set i none) B/\A.Perm (Ai++B)
 |_,[],_,_,_,_,e=>by simp at e
 |[],_::_,_,_,_,h,_=>by have:=h.length;simp at this
 |x::σ,y::Γ,A,0,o,h,e=>by
  have e:y=some o:=by simpa using e
  subst e;obtain⟨B,C,h1,h2,h3⟩:=h.one;cases x with
  |none=>cases h1
  |some v=>exact⟨v,B,C,rfl,h1,.skip h2,by rw[h3]⟩
 |x::σ,y::Γ,A,i+1,o,h,e=>by
  obtain⟨B,C,h1,h2,h3⟩:=h.one;obtain⟨v,Ai,B',g1,g2,g3,g4⟩:=OwnL.take (i:=i) h2 (by simpa using e)
  refine⟨v,Ai,B++B',by simpa using g1,g2,h1.app g3,?_⟩
  subst h3;exact(List.Perm.append_left B g4).trans (by rw[<-List.append_assoc,<-List.append_assoc];exact(List.perm_append_comm).append_right _)
theorem OwnL.forget:∀{σ:St} {Γ:Gm} {A:List Addr} (i:Nat),OwnL K F H σ Γ A->∃B,OwnL K F H σ (Γ.set i none) B/\B.Sublist A
 |σ,[],A,i,h=>⟨A,by simpa using h,List.Sublist.refl _⟩
 |[],_::_,_,_,h=>by have:=h.length;simp at this
 |x::σ,y::Γ,A,0,h=>by
  obtain⟨B,C,h1,h2,h3⟩:=h.one;subst h3;exact⟨C,.skip h2,List.sublist_append_right _ _⟩
 |x::σ,y::Γ,A,i+1,h=>by
  obtain⟨B,C,h1,h2,h3⟩:=h.one;obtain⟨B',g1,g2⟩:=OwnL.forget i h2;subst h3;exact⟨B++B',h1.app g1,g2.append_left _⟩
theorem OwnL.put{v:V}{o:O}{Ai:List Addr}(q:OwnL K F H [some v] [some o] Ai):∀{σ:St} {Γ:Gm} {A:List Addr} (i:Nat),OwnL K F H σ Γ A->i < Γ.length->∃B,OwnL K F H (σ.set i (some v)) (Γ.set i (some o)) B/\∃C,B.Perm (Ai++C)/\C.Sublist A
 |_,[],_,_,_,hi=>by simp at hi
 |[],_::_,_,_,h,_=>by have:=h.length;simp at this
 |x::σ,y::Γ,A,0,h,hi=>by
  obtain⟨B,C,h1,h2,h3⟩:=h.one;subst h3;exact⟨Ai++C,q.app h2,C,.refl _,List.sublist_append_right _ _⟩
 |x::σ,y::Γ,A,i+1,h,hi=>by
  obtain⟨B,C,h1,h2,h3⟩:=h.one;obtain⟨B',g1,C',g2,g3⟩:=OwnL.put q i h2 (by simpa using hi)
  subst h3;refine⟨B++B',h1.app g1,B++C',?_,g3.append_left _⟩;exact(List.Perm.append_left B g2).trans (by rw[<-List.append_assoc,<-List.append_assoc];exact(List.perm_append_comm).append_right _)
end
structure OK (K:L2.FG) (F H:Hp) (σ:St) (Γ:Gm) (A:List Addr):Prop where
 le:Same F H
 os:OwnL K F H σ Γ A
 nd:A.Nodup
 fr:∀a∈A,F a=none
def Att(H H':Hp):Prop:=∀a C dx fs,H a=some (.ins C dx fs)->∃fs',H' a=some (.ins C dx fs')/\∀(j:Nat) f p,fs[j]?=some (f,V.ref p)->fs'[j]?=some (f,V.ref p)
theorem Att.same{H H':Hp}(s:Same H H'):Att H H':=fun a _ _ _ e=>⟨_,s a _ e,fun _ _ _ z=>z⟩
theorem Att.trans{H H1 H2:Hp}(x:Att H H1)(y:Att H1 H2):Att H H2:=fun a C dx fs e=>by
 obtain⟨fs1,e1,z1⟩:=x a C dx fs e;obtain⟨fs2,e2,z2⟩:=y a C dx fs1 e1;exact⟨fs2,e2,fun j f p q=>z2 j f p (z1 j f p q)⟩
theorem Att.upd{H:Hp}{l:Addr}{o:HO}(h:∀C dx fs,H l≠some (.ins C dx fs)):Att H (upd H l o):=fun a C dx fs e=>by
 by_cases z:a=l
 ·subst z;exact absurd e (h C dx fs)
 ·exact⟨fs,by rw[a0v z];exact e,fun _ _ _ q=>q⟩
structure Ext (F H:Hp) (A:List Addr) (F' H':Hp) (A':List Addr):Prop where
 ff:Same F F'
 keep:∀a o,H a=some o->a∉A->H' a=some o
 dom:∀a,H a≠none->H' a≠none
 new:∀a,F' a≠none->F a≠none\/a∈A\/H a=none
 own:∀a∈A',a∈A\/H a=none
 att:Att H H'
section
variable {K:L2.FG} {F F' F1 F2 H H' H1 H2:Hp} {σ σ' τ:St} {Γ Γ' Θ:Gm} {A A' A1 A2 B C:List Addr}
theorem Ext.refl:Ext F H A F H A:=⟨Same.refl _,fun _ _ e _=>e,fun _ h=>h,fun _ h=>.inl h,fun _ h=>.inl h,.same (Same.refl _)⟩
theorem Ext.trans(x:Ext F H A F1 H1 A1)(y:Ext F1 H1 A1 F2 H2 A2):Ext F H A F2 H2 A2 where
 ff:=x.ff.trans y.ff
 keep:=fun a o e n=>y.keep a o (x.keep a o e n) fun m=>by
  rcases x.own a m with z|z
  ·exact n z
  ·rw[e] at z;cases z
 dom:=fun a h=>y.dom a (x.dom a h)
 new:=fun a h=>by
  rcases y.new a h with z|z|z
  ·exact x.new a z
  ·exact .inr (x.own a z)
  ·exact .inr (.inr (Classical.byContradiction fun q=>x.dom a q z))
 own:=fun a h=>by
  rcases y.own a h with z|z
  ·exact x.own a z
  ·exact .inr (Classical.byContradiction fun q=>x.dom a q z)
 att:=x.att.trans y.att
theorem Ext.own'(x:Ext F H A F' H' A')(h:∀a∈B,a∈A'):Ext F H A F' H' B:=⟨x.ff,x.keep,x.dom,x.new,fun a m=>x.own a (h a m),x.att⟩
theorem OK.perm(k:OwnL K F H σ Γ A)(le:Same F H)(nd:B.Nodup)(fr:∀a∈B,F a=none)(p:A.Perm B):OK K F H σ Γ A:=⟨le,k,p.nodup_iff.mpr nd,fun a m=>fr a (p.mem_iff.mp m)⟩
theorem OK.frameAt(k:OK K F H (τ++σ) (Θ++Γ) (B++C))(h1:OwnL K F H τ Θ B)(h2:OwnL K F H σ Γ C):OK K F H σ Γ C/\∀F' H' σ' Γ' A',Ext F H C F' H' A'->OK K F' H' σ' Γ' A'->∃A'',Ext F H (B++C) F' H' A''/\OK K F' H' (τ++σ') (Θ++Γ') A'':=by
 obtain⟨n1,n2,n3⟩:=List.nodup_append.mp k.nd;have nB:∀a∈B,a∉C:=fun a h1 h2=>n3 a h1 a h2 rfl
 refine⟨⟨k.le,h2,n2,fun a m=>k.fr a (List.mem_append_right _ m)⟩,fun F' H' σ' Γ' A' x k'=>?_⟩
 have hB:∀a∈B,F' a=none:=fun a m=>by
  cases e:F' a with
  |none=>rfl
  |some o=>
   rcases x.new a (by rw[e];exact fun z=>by cases z) with z|z|z
   ·exact absurd (k.fr a (List.mem_append_left _ m)) z
   ·exact absurd z (nB a m)
   ·exact absurd z (h1.there a m)
 refine⟨B++A',⟨x.ff,fun a o e n=>x.keep a o e fun m=>n (List.mem_append_right _ m),x.dom,fun a h=>?_,fun a m=>?_,x.att⟩,k'.le,(h1.keep x.ff fun a m o e=>x.keep a o e (nB a m)).app k'.os,?_,?_⟩
 ·rcases x.new a h with z|z|z
  ·exact .inl z
  ·exact .inr (.inl (List.mem_append_right _ z))
  ·exact .inr (.inr z)
 ·rcases List.mem_append.mp m with m|m
  ·exact .inl (List.mem_append_left _ m)
  ·rcases x.own a m with z|z
   ·exact .inl (List.mem_append_right _ z)
   ·exact .inr z
 ·refine List.nodup_append.mpr ⟨n1,k'.nd,fun a m b m' e=>?_⟩
  subst e;rcases x.own a m' with z|z
  ·exact nB a m z
  ·exact h1.there a m z
 ·intro a m;rcases List.mem_append.mp m with m|m
  ·exact hB a m
  ·exact k'.fr a m
theorem OK.frame(k:OK K F H (τ++σ) (Θ++Γ) A)(hl:τ.length=Θ.length):∃C,OK K F H σ Γ C/\∀F' H' σ' Γ' A',Ext F H C F' H' A'->OK K F' H' σ' Γ' A'->∃A'',Ext F H A F' H' A''/\OK K F' H' (τ++σ') (Θ++Γ') A'':=by
 obtain⟨B,C,h1,h2,h3⟩:=OwnL.split hl k.os;subst h3;exact⟨C,k.frameAt h1 h2⟩
theorem OK.swap(k:OK K F H (τ++σ) (Θ++Γ) A)(hl:τ.length=Θ.length):∃B,B.Perm A/\OK K F H (σ++τ) (Γ++Θ) B:=by
 obtain⟨B,C,h1,h2,h3⟩:=OwnL.split hl k.os;subst h3;exact⟨C++B,List.perm_append_comm,.perm (h2.app h1) k.le k.nd k.fr List.perm_append_comm⟩
theorem OK.part(k:OK K F H (τ++σ) (Θ++Γ) A)(hl:τ.length=Θ.length):∃B,OK K F H σ Γ B/\∀a∈B,a∈A:=by
 obtain⟨B,C,h1,h2,h3⟩:=OwnL.split hl k.os;subst h3;exact⟨C,⟨k.le,h2,(List.nodup_append.mp k.nd).2.1,fun a m=>k.fr a (List.mem_append_right _ m)⟩,fun a m=>List.mem_append_right _ m⟩
theorem OK.push{v:V}{o:O}{Av:List Addr}(k:OK K F H σ Γ A)(s:Same H H')(q:OwnL K F H' [some v] [some o] Av)(nd:Av.Nodup)(fresh:∀a∈Av,H a=none):
  OK K F H' (some v::σ) (some o::Γ) (Av++A)/\Ext F H A F H' (Av++A):=by
 have ne:∀a∈Av,a∉A:=fun a m z=>k.os.there a z (fresh a m)
 refine⟨⟨k.le.trans s,q.app (k.os.keep (Same.refl _) fun a _ o e=>s a o e),List.nodup_append.mpr ⟨nd,k.nd,fun a m b m' e=>?_⟩,fun a m=>?_⟩,Same.refl _,fun a o e _=>s a o e,fun a h z=>?_,fun a h=>.inl h,fun a m=>?_,.same s⟩
 ·subst e;exact ne a m m'
 ·rcases List.mem_append.mp m with m|m
  ·exact k.le.free (fresh a m)
  ·exact k.fr a m
 ·exact h (s.free z)
 ·rcases List.mem_append.mp m with m|m
  ·exact .inr (fresh a m)
  ·exact .inl m
end
inductive R where
 |own (o:O)|var (i:Nat)|fld (i j:Nat)
def R.o:R->Option O
 |.own o=>some o
 |_=>none
abbrev GE:=Gm->Option (R×Gm)
abbrev GA:=Gm->Option (List R×Gm)
abbrev GT:=Gm->Option (Bool×Gm)
def HFld(σ:St)(H:Hp)(i j:Nat)(v:V):Prop:=∃a C dx fs f p,σ[i]?=some (some (.ref a))/\H a=some (.ins C dx fs)/\fs[j]?=some (f,v)/\v=.ref p
def Held(σ:St)(H:Hp):List R->List V->Prop
 |[],[]=>True
 |.own _::rs,_::vs=>Held σ H rs vs
 |.var i::rs,v::vs=>σ[i]?=some (some v)/\Held σ H rs vs
 |.fld i j::rs,v::vs=>HFld σ H i j v/\Held σ H rs vs
 |_,_=>False
def Post(K:L2.FG)(F H:Hp)(A:List Addr)(σ:St)(Γ':Gm)(rs:List R)(vs:List V)(H':Hp):Prop:=
 ∃F' A',Ext F H A F' H' A'/\OK K F' H' (vs.map some++σ) (rs.map R.o++Γ') A'/\Held σ H' rs vs
def tG(K:L2.FG)(f:GE):TE:=fun σ H Q=>∃F A Γ r Γ',OK K F H σ Γ A/\f Γ=some (r,Γ')/\∀v H',Post K F H A σ Γ' [r] [v] H'->Q v H'
def tGA(K:L2.FG)(f:GA):TA:=fun σ H Q=>∃F A Γ rs Γ',OK K F H σ Γ A/\f Γ=some (rs,Γ')/\∀vs H',Post K F H A σ Γ' rs vs H'->Q vs H'
def tGT(K:L2.FG)(f:GT):TT:=fun σ H Q=>∃F A Γ b Γ',OK K F H σ Γ A/\f Γ=some (b,Γ')/\∀H',Post K F H A σ Γ' [] [] H'->Q b H'
theorem Held.length:∀{σ:St} {H:Hp} {rs:List R} {vs:List V},Held σ H rs vs->rs.length=vs.length
 |_,_,[],[],_=>rfl
 |_,_,.own _::rs,_::vs,h=>by simp[Held.length (σ:=_) (H:=_) (rs:=rs) (vs:=vs) h]
 |_,_,.var _::rs,_::vs,h=>by simp[Held.length (σ:=_) (H:=_) (rs:=rs) (vs:=vs) h.2]
 |_,_,.fld _ _::rs,_::vs,h=>by simp[Held.length (σ:=_) (H:=_) (rs:=rs) (vs:=vs) h.2]
 |_,_,[],_::_,h=>h.elim
 |_,_,.own _::_,[],h=>h.elim
 |_,_,.var _::_,[],h=>h.elim
 |_,_,.fld _ _::_,[],h=>h.elim
theorem HFld.att{σ:St}{H H':Hp}{i j:Nat}{v:V}(h:HFld σ H i j v)(x:Att H H'):HFld σ H' i j v:=by
 obtain⟨a,C,dx,fs,f,p,h1,h2,h3,rfl⟩:=h;obtain⟨fs',e,z⟩:=x a C dx fs h2;exact⟨a,C,dx,fs',f,p,h1,e,z j f p h3,rfl⟩
theorem Held.att:∀{σ:St} {H H':Hp} {rs:List R} {vs:List V},Held σ H rs vs->Att H H'->Held σ H' rs vs
 |_,_,_,[],[],_,_=>True.intro
 |_,_,_,.own _::rs,_::vs,h,x=>Held.att (rs:=rs) (vs:=vs) h x
 |_,_,_,.var _::rs,_::vs,h,x=>⟨h.1,Held.att (rs:=rs) (vs:=vs) h.2 x⟩
 |_,_,_,.fld _ _::rs,_::vs,h,x=>⟨h.1.att x,Held.att (rs:=rs) (vs:=vs) h.2 x⟩
 |_,_,_,[],_::_,h,_=>h.elim
 |_,_,_,.own _::_,[],h,_=>h.elim
 |_,_,_,.var _::_,[],h,_=>h.elim
 |_,_,_,.fld _ _::_,[],h,_=>h.elim
theorem Held.one{σ:St}{H:Hp}{r:R}{vs:List V}{rs:List R}{v:V}(h:Held σ H [r] [v])(t:Held σ H rs vs):Held σ H (r::rs) (v::vs):=by
 cases r with
 |own o=>exact t
 |var i=>exact⟨h.1,t⟩
 |fld i j=>exact⟨h.1,t⟩
theorem PE.mono{X:Cx}{e:Expr}{t t':TE}(h:PE X e t)(m:∀σ H Q,t' σ H Q->t σ H Q):PE X e t':=fun pins s σ H Q I q=>h pins s σ H Q I (m _ _ _ q)
theorem PT.mono{X:Cx}{e:Expr}{t t':TT}(h:PT X e t)(m:∀σ H Q,t' σ H Q->t σ H Q):PT X e t':=fun pins s σ H Q I q=>h pins s σ H Q I (m _ _ _ q)
theorem PW.mono{X:Cx}{e:Expr}{t t':TT}(h:PW X e t)(m:∀σ H Q,t' σ H Q->t σ H Q):PW X e t':=fun wh pins s σ H Q I q=>h wh pins s σ H Q I (m _ _ _ q)
theorem PA.mono{X:Cx}{e:List Expr}{t t':TA}(h:PA X e t)(m:∀σ H Q,t' σ H Q->t σ H Q):PA X e t':=fun pos pins s σ H Q I q=>h pos pins s σ H Q I (m _ _ _ q)
theorem PS.mono{X:Cx}{e:Stmt}{t t':TS}(h:PS X e t)(m:∀D σ H,t' D σ H->t D σ H):PS X e t':=fun pins s σ H D I q=>h pins s σ H D I (m _ _ _ q)
theorem PSs.mono{X:Cx}{e:List Stmt}{t t':TS}(h:PSs X e t)(m:∀D σ H,t' D σ H->t D σ H):PSs X e t':=fun pins s σ H D I q=>h pins s σ H D I (m _ _ _ q)
section
variable {K:L2.FG} {F H:Hp} {A:List Addr} {σ:St} {Γ Γ':Gm}
def seeR(Γ:Gm):R->Option O
 |.own o=>some o
 |.var i=>(Γ[i]?).join
 |.fld i j=>match Γ[i]? with
  |some (some (.ins _ _ ps))=>ps[j]?
  |_=>none
def seeL(Γ:Gm):List R->Option (List O)
 |[]=>some []
 |r::rs=>(seeR Γ r).bind fun o=>(seeL Γ rs).bind fun os=>some (o::os)
def Sees(K:L2.FG)(F H:Hp):List V->List O->Prop:=Paired fun v o=>∃B,OwnL K F H [some v] [some o] B
theorem b2f:∀{rs:List R} {vs:List V} {os:List O} {B:List Addr},OwnL K F H σ Γ A->OwnL K F H (vs.map some) (rs.map R.o) B->Held σ H rs vs->seeL Γ rs=some os->Sees K F H vs os
 |[],[],os,_,_,_,_,e=>by cases e;exact .nil
 |r::rs,v::vs,os,B,k,h,hh,e=>by
  obtain⟨B1,C1,h1,h2,_⟩:=OwnL.one h;unfold seeL at e;cases e1:seeR Γ r with
  |none=>rw[e1] at e;cases e
  |some o=>
   rw[e1] at e;cases e2:seeL Γ rs with
   |none=>rw[e2] at e;cases e
   |some os'=>
    rw[e2] at e;cases e;cases r with
    |own o'=>cases e1;exact .cons ⟨_,h1⟩ (b2f k h2 hh e2)
    |var i=>
     have e3:Γ[i]?=some (some o):=by
      have:(Γ[i]?).join=some o:=e1;cases q:Γ[i]? with
      |none=>rw[q] at this;cases this
      |some z=>rw[q] at this;exact congrArg some this
     obtain⟨v',Ai,B',g1,g2,_⟩:=k.take e3;have:=hh.1;rw[g1] at this;cases this;exact .cons ⟨_,g2⟩ (b2f k h2 hh.2 e2)
    |fld i j=>
     obtain⟨⟨a,C,dx,fs,f,p,h3,h4,h5,h6⟩,hh2⟩:=hh;unfold seeR at e1;dsimp only at e1;split at e1
     ·rename_i C' ns ps e3
      obtain⟨v',Ai,B',g1,g2,_⟩:=k.take e3;rw[h3] at g1;cases g1;cases g2 with
      |ins q1 q2 q3 q4 _=>
       rw[h4] at q1;cases q1;obtain⟨v2,A2,B2,j1,j2,_⟩:=q4.take (i:=j) (o:=o) (by rw[List.getElem?_map,e1];rfl)
       rw[List.getElem?_map,h5] at j1;cases j1;exact .cons ⟨_,j2⟩ (b2f k h2 hh2 e2)
     ·cases e1
 |[],_::_,_,_,_,_,h,_=>h.elim
 |.own _::_,[],_,_,_,_,h,_=>h.elim
 |.var _::_,[],_,_,_,_,h,_=>h.elim
 |.fld _ _::_,[],_,_,_,_,h,_=>h.elim
def Res(K:L2.FG)(F H:Hp)(o:O)(Q:VK):Prop:=∀v H' Av,Same H H'->OwnL K F H' [some v] [some o] Av->Av.Nodup->(∀a∈Av,H a=none)->Q v H'
theorem Post.res{rs:List R}{vs:List V}{H1:Hp}{os:List O}{o:O}{Q:VK}(h:Post K F H A σ Γ' rs vs H1)(e:seeL Γ' rs=some os)(q:∀v H',Post K F H A σ Γ' [.own o] [v] H'->Q v H'):
  ∃F1,Same F1 H1/\Sees K F1 H1 vs os/\Res K F1 H1 o Q:=by
 obtain⟨F1,A1,x,k,hh⟩:=h;have hl:(vs.map some).length=(rs.map R.o).length:=by rw[List.length_map,List.length_map,hh.length]
 obtain⟨B,C,h1,h2,h3⟩:=OwnL.split hl k.os;refine⟨F1,k.le,b2f h2 h1 hh e,fun v H' Av s w nd fresh=>q v H' ?_⟩
 obtain⟨B',kB,sub⟩:=k.part hl;obtain⟨k2,x2⟩:=kB.push s w nd fresh;exact⟨F1,Av++B',x.trans ((Ext.own' Ext.refl sub).trans x2),k2,True.intro⟩
theorem Res.flat{d:D}{v:V}{Q:VK}(h:Res K F H (.frz d) Q)(e:a4w d=some v):Q v H:=h v H [] (Same.refl _) (.frz (.flat e .nil) .nil) .nil (fun _ m=>by cases m)
theorem Res.frz{d:D}{v:V}{Q:VK}(h:Res K F H (.frz d) Q)(e:RepL K F [v] [d]):Q v H:=h v H [] (Same.refl _) (.frz e .nil) .nil (fun _ m=>by cases m)
end
noncomputable def gC(d:D):GE:=fun Γ=>some (.own (.frz d),Γ)
noncomputable def gVar(i:Nat):GE:=fun Γ=>match Γ[i]? with
 |some (some (.frz d))=>some (.own (.frz d),Γ)
 |some (some _)=>some (.var i,Γ)
 |_=>none
section
variable {X:Cx} {K:L2.FG} {e a b:Expr} {es:List Expr} {fa fb:GE} {fs:GA} {pos:Pos}
theorem a0s{v:V}{d:D}(h:PE X e (tC v))(q:a4w d=some v:=by rfl):PE X e (tG K (gC d)):=h.mono fun σ H Q t=>by
 obtain⟨F,A,Γ,r,Γ',k,e,w⟩:=t;cases e;obtain⟨k2,x⟩:=k.push (v:=v) (o:=.frz d) (Av:=[]) (Same.refl _) (.frz (.flat q .nil) .nil) .nil (fun _ m=>by cases m)
 exact w v H ⟨F,_,x,k2,True.intro⟩
theorem a0d{i:Nat}(h:PE X e (tVar i)):PE X e (tG K (gVar i)):=h.mono fun σ H Q t=>by
 obtain⟨F,A,Γ,r,Γ',k,e,w⟩:=t;unfold gVar at e;cases q:Γ[i]? with
 |none=>rw[q] at e;cases e
 |some z=>
  cases z with
  |none=>rw[q] at e;cases e
  |some o=>
   rw[q] at e;obtain⟨v,Ai,B,g1,g2,g3,g4⟩:=k.os.take q;refine⟨v,g1,w v H ?_⟩;cases o with
   |frz d=>
    cases e;cases g2 with
    |frz rp _=>
     obtain⟨k2,x⟩:=k.push (v:=v) (o:=.frz d) (Av:=[]) (Same.refl _) (.frz rp .nil) .nil (fun _ m=>by cases m)
     exact⟨F,_,x,k2,True.intro⟩
   |_=>
    cases e;exact⟨F,A,Ext.refl,⟨k.le,.skip k.os,k.nd,k.fr⟩,g1,True.intro⟩
noncomputable def gaNil:GA:=fun Γ=>some ([],Γ)
def a0c(f:GE)(g:GA):GA:=fun Γ=>(f Γ).bind fun p=>(g p.2).bind fun q=>some (p.1::q.1,q.2)
theorem b2g{f:GE}{g:GA}{Γ Γ':Gm}{rs:List R}(e:a0c f g Γ=some (rs,Γ')):∃r Γ1 rs',f Γ=some (r,Γ1)/\g Γ1=some (rs',Γ')/\rs=r::rs':=by
 unfold a0c at e;cases e1:f Γ with
 |none=>rw[e1] at e;cases e
 |some p=>
  rw[e1] at e;dsimp only[Option.bind] at e;cases e2:g p.2 with
  |none=>rw[e2] at e;cases e
  |some q=>rw[e2] at e;cases e;exact⟨p.1,p.2,q.1,rfl,e2,rfl⟩
theorem a0h:PA X [] (tGA K gaNil):=pa_nil.mono fun σ H Q t=>by
 obtain⟨F,A,Γ,r,Γ',k,e,w⟩:=t;cases e;exact w [] H ⟨F,A,Ext.refl,k,True.intro⟩
theorem a4m{σ:St}{H:Hp}{Q:List V->Hp->Prop}(t:tGA K (a0c fa fs) σ H Q):tCons (tG K fa) (tGA K fs) σ H Q:=by
 obtain⟨F,A,Γ,r,Γ',k,e,w⟩:=t;obtain⟨r1,Γ1,rs,e1,e2,rfl⟩:=b2g e;refine⟨F,A,Γ,r1,Γ1,k,e1,fun v H1 p=>?_⟩
 obtain⟨F1,A1,x,k1,hh⟩:=id p;obtain⟨C,kC,fr⟩:=OK.frame (τ:=[some v]) (Θ:=[r1.o]) k1 rfl;refine⟨F1,C,Γ1,rs,Γ',kC,e2,fun vs H2 p2=>w (v::vs) H2 ?_⟩
 obtain⟨F2,A2,x2,k2,h2⟩:=p2;obtain⟨A3,x3,k3⟩:=fr _ _ _ _ _ x2 k2;exact⟨F2,A3,x.trans x3,k3,Held.one (hh.att x2.att) h2⟩
theorem a0b(ha:PE X e (tG K fa))(hs:PA X es (tGA K fs))(hp:starEach (e::es) X.env=(false,eval e X.env)::starEach es X.env:=by rfl):PA X (e::es) (tGA K (a0c fa fs)):=
 (c9h ha hs hp).mono fun σ H Q t=>a4m t
def gOp(g:List O->Option O)(fs:GA):GE:=fun Γ=>(fs Γ).bind fun p=>(seeL p.2 p.1).bind fun os=>(g os).bind fun o=>some (.own o,p.2)
abbrev gBin(g:List O->Option O)(fa fb:GE):GE:=gOp g (a0c fa (a0c fb gaNil))
abbrev gUn(g:List O->Option O)(fa:GE):GE:=gOp g (a0c fa gaNil)
theorem d9v{g:List O->Option O}{Γ Γ':Gm}{r:R}(e:gOp g fs Γ=some (r,Γ')):∃rs os o,fs Γ=some (rs,Γ')/\seeL Γ' rs=some os/\g os=some o/\r=.own o:=by
 unfold gOp at e;cases e1:fs Γ with
 |none=>rw[e1] at e;cases e
 |some p=>
  rw[e1] at e;dsimp only[Option.bind] at e;cases e2:seeL p.2 p.1 with
  |none=>rw[e2] at e;cases e
  |some os=>
   rw[e2] at e;dsimp only at e;cases e3:g os with
   |none=>rw[e3] at e;cases e
   |some o=>rw[e3] at e;cases e;exact⟨p.1,os,o,rfl,e2,e3,rfl⟩
def OpOk(K:L2.FG)(r:List V->Hp->VK->Prop)(g:List O->Option O):Prop:=
 ∀(F H:Hp) (vs:List V) (os:List O) (o:O) (Q:VK),Same F H->Sees K F H vs os->g os=some o->Res K F H o Q->r vs H Q
theorem d0b{r:List V->Hp->VK->Prop}{g:List O->Option O}(ok:OpOk K r g){σ:St}{H:Hp}{Q:VK}(t:tG K (gOp g fs) σ H Q):tGA K fs σ H fun vs H1=>r vs H1 Q:=by
 obtain⟨F,A,Γ,rr,Γ',k,e,w⟩:=t;obtain⟨rs,os,o,e1,e2,e3,rfl⟩:=d9v e;refine⟨F,A,Γ,rs,Γ',k,e1,fun vs H1 p=>?_⟩
 obtain⟨F1,le,see,res⟩:=p.res e2 w;exact ok F1 H1 vs os o Q le see e3 res
def r2L(r:R2):List V->Hp->VK->Prop:=fun vs H Q=>∃x y,vs=[x,y]/\r x y H Q
def r1L(r:V->Hp->VK->Prop):List V->Hp->VK->Prop:=fun vs H Q=>∃x,vs=[x]/\r x H Q
theorem tG.mono{f:GE}{Q1 Q2:VK}{σ:St}{H:Hp}(t:tG K f σ H Q1)(q:∀v H',Q1 v H'->Q2 v H'):tG K f σ H Q2:=by
 obtain⟨F,A,Γ,rr,Γ',k,e,w⟩:=t;exact⟨F,A,Γ,rr,Γ',k,e,fun v H' p=>q _ _ (w v H' p)⟩
theorem c5b{r:R2}{g:List O->Option O}(ok:OpOk K (r2L r) g){σ:St}{H:Hp}{Q:VK}(t:tG K (gBin g fa fb) σ H Q):tOp r (tG K fa) (tG K fb) σ H Q:=by
 show tG K fa σ H fun x H1=>tG K fb σ H1 fun y H2=>r x y H2 Q
 refine tG.mono (a4m (d0b ok t)) fun x H1 h=>tG.mono (a4m h) fun y H2 h2=>?_
 obtain⟨F,A,Γ,rs,Γ',k,e,w⟩:=h2;cases e;obtain⟨x',y',e1,h3⟩:=w [] H2 ⟨F,A,Ext.refl,k,True.intro⟩;cases e1;exact h3
theorem e3j{r:V->Hp->VK->Prop}{g:List O->Option O}(ok:OpOk K (r1L r) g){σ:St}{H:Hp}{Q:VK}(t:tG K (gUn g fa) σ H Q):tG K fa σ H fun x H1=>r x H1 Q:=by
 refine tG.mono (a4m (d0b ok t)) fun x H1 h=>?_
 obtain⟨F,A,Γ,rs,Γ',k,e,w⟩:=h;cases e;obtain⟨x',e1,h3⟩:=w [] H1 ⟨F,A,Ext.refl,k,True.intro⟩;cases e1;exact h3
theorem a1y{op:Operator}{r:R2}{g:List O->Option O}(ho:OpR X (binaryOp op) r)(ok:OpOk K (r2L r) g)(ha:PE X a (tG K fa))(hb:PE X b (tG K fb)):PE X (.BinOp a op b pos) (tG K (gBin g fa fb)):=
 (e5e ho ha hb).mono fun _ _ _ t=>c5b ok t
theorem b3e{op:CmpOp}{r:R2}{g:List O->Option O}(ho:OpR X (compareOp op) r)(ok:OpOk K (r2L r) g)(ha:PE X a (tG K fa))(hb:PE X b (tG K fb))(hm:behindInMarks op b=false:=by first|rfl|exact d7q _):PE X (.Compare a [op] [b] pos) (tG K (gBin g fa fb)):=
 (d9d ho ha hb hm).mono fun _ _ _ t=>c5b ok t
theorem a1u{r:R2}{g:List O->Option O}(hr:IxR X r)(ok:OpOk K (r2L r) g)(ha:PE X a (tG K fa))(hb:PE X b (tG K fb))(hs:c3l b:=by exact fun _ _=>rfl):PE X (.Subscript a b pos) (tG K (gBin g fa fb)):=
 (e3c hr ha hb hs).mono fun _ _ _ t=>c5b ok t
theorem e5h{op:UnaryOp}{r:V->Hp->VK->Prop}{g:List O->Option O}(ho:UnR X (unaryOp op) r)(ok:OpOk K (r1L r) g)(ha:PE X a (tG K fa)):PE X (.UnaryOp op a pos) (tG K (gUn g fa)):=
 (e5f ho ha).mono fun _ _ _ t=>e3j ok t
variable {x:Str} {p:Pos} {id T:String} {r:List V->Hp->VK->Prop} {g:List O->Option O}
theorem a1k(hc:CallR X (.builtin id) r)(ok:OpOk K r g)(hm:X.mg x=none)(hv:bootBuiltins x=some (.builtin id))(ha:PA X (e::es) (tGA K fs))(hg:Gl X x:=by rfl)(hn:x≠"__name__":=by decide)(hdb:(x == ("__debug__":Str))=false:=by decide)
  (he:starEach (e::es) X.env=(false,eval e X.env)::starEach es X.env:=by rfl) (hpl:(backTo pos (starEach es X.env)).any (·.1)=false:=by rfl):PE X (.Call (.Name x p) (e::es) [] pos) (tG K (gOp g fs)):=
 (d5e hc hg hm hv ha hn hdb he hpl).mono fun _ _ _ t=>d0b ok t
theorem a8z(hc:CallR X (.type T) r)(ok:OpOk K r g)(hm:X.mg x=none)(hv:bootBuiltins x=some (.type T))(ha:PA X (e::es) (tGA K fs))(hg:Gl X x:=by rfl)(hn:x≠"__name__":=by decide)(hdb:(x == ("__debug__":Str))=false:=by decide)
  (he:starEach (e::es) X.env=(false,eval e X.env)::starEach es X.env:=by rfl) (hpl:(backTo pos (starEach es X.env)).any (·.1)=false:=by rfl):PE X (.Call (.Name x p) (e::es) [] pos) (tG K (gOp g fs)):=
 (c9l hc hg hm hv ha hn hdb he hpl).mono fun _ _ _ t=>d0b ok t
mutual
def O.d:O->D
 |.frz d=>d
 |.lst xs=>.lst (O.dl xs)
 |.tup xs=>.tup (O.dl xs)
 |.dct kvs=>.dct (O.dk kvs)
 |.ins _ _ _=>.obj
def O.dl:List O->List D
 |[]=>[]
 |x::xs=>x.d::O.dl xs
def O.dk:List (TK×O)->List (TK×D)
 |[]=>[]
 |(k,x)::xs=>(k,x.d)::O.dk xs
end
end
theorem OwnL.rep{K:L2.FG}{F F' H:Hp}{σ:St}{Γ:Gm}{A:List Addr}(h:OwnL K F H σ Γ A)(s:Same F F')(k:∀a∈A,∀o,H a=some o->F' a=some o):
  ∀(vs:List V) (os:List O),σ=vs.map some->Γ=os.map some->RepL K F' vs (O.dl os):=by
 induction h with
 |nil=>
  intro vs os e1 e2;cases vs with
  |nil=>cases os with
   |nil=>exact .nil
   |cons _ _=>cases e2
  |cons _ _=>cases e1
 |skip _ _=>
  intro vs os e1 e2;cases os with
  |nil=>cases e2
  |cons _ _=>injection e2 with e3 _;cases e3
 |frz r _ ih=>
  intro vs os e1 e2;cases vs with
  |nil=>cases e1
  |cons v vs=>cases os with
   |nil=>cases e2
   |cons o os=>
    injection e1 with e3 e4;injection e2 with e5 e6;cases e3;cases e5;exact .cons (r.mono s) (ih k vs os e4 e6)
 |lst e _ _ i1 i2=>
  intro vs os e1 e2;cases vs with
  |nil=>cases e1
  |cons v vs=>cases os with
   |nil=>cases e2
   |cons o os=>
    injection e1 with e3 e4;injection e2 with e5 e6;cases e3;cases e5;exact .lst (.inl (k _ (by simp) _ e)) (i1 (fun a m=>k a (by simp[m])) _ _ rfl rfl) (i2 (fun a m=>k a (by simp[m])) vs os e4 e6)
 |tup e _ _ i1 i2=>
  intro vs os e1 e2;cases vs with
  |nil=>cases e1
  |cons v vs=>cases os with
   |nil=>cases e2
   |cons o os=>
    injection e1 with e3 e4;injection e2 with e5 e6;cases e3;cases e5;exact .tup (SqT.of (k _ (by simp) _ e)) (i1 (fun a m=>k a (by simp[m])) _ _ rfl rfl) (i2 (fun a m=>k a (by simp[m])) vs os e4 e6)
 |@dct a kvs ps ep A B σ Γ e q r _ _ i1 i2=>
  intro vs os e1 e2;cases vs with
  |nil=>cases e1
  |cons v vs=>cases os with
   |nil=>cases e2
   |cons o os=>
    injection e1 with e3 e4;injection e2 with e5 e6;cases e3;cases e5;have hk:∀ps:List (TK×O),(O.dk ps).map (·.1)=ps.map (·.1)/\(O.dk ps).map (·.2)=O.dl (ps.map (·.2))/\(O.dk ps).map (·.1.d)=ps.map (·.1.d):=by
     intro ps
     induction ps with
     |nil=>exact⟨rfl,rfl,rfl⟩
     |cons p ps ih=>obtain⟨a,b⟩:=p;exact⟨by simp[O.dk,ih.1],by simp[O.dk,O.dl,ih.2.1],by simp[O.dk,ih.2.2]⟩
    refine .dct (k _ (by simp) _ e) (q.trans (hk ps).1.symm) (by rw[(hk ps).2.2];exact r.mono s) ?_ (i2 (fun a m=>k a (by simp[m])) vs os e4 e6)
    rw[(hk ps).2.1];exact i1 (fun a m=>k a (by simp[m])) _ _ (by simp) (by simp)
 |ins _ _ _ _ _ _ i2=>
  intro vs os e1 e2;cases vs with
  |nil=>cases e1
  |cons v vs=>cases os with
   |nil=>cases e2
   |cons o os=>
    injection e1 with e3 e4;injection e2 with e5 e6;cases e3;cases e5;exact .obj (i2 (fun a m=>k a (by simp[m])) vs os e4 e6)
section
variable {K:L2.FG} {F H:Hp} {A:List Addr} {σ:St} {Γ:Gm}
theorem OK.freeze{v:V}{o:O}(k:OK K F H (some v::σ) (some o::Γ) A):∃F' A',OK K F' H (some v::σ) (some (.frz o.d)::Γ) A'/\Ext F H A F' H A':=by
 obtain⟨B,C,h1,h2,h3⟩:=k.os.one;subst h3;obtain⟨n1,n2,n3⟩:=List.nodup_append.mp k.nd
 let F':Hp:=fun a=>if a∈B then H a else F a
 have in':∀a,a∈B->F' a=H a:=fun a m=>if_pos m
 have out':∀a,a∉B->F' a=F a:=fun a m=>if_neg m
 have s:Same F F':=fun a u e=>by
  rw[out' a fun m=>by rw[k.fr a (List.mem_append_left _ m)] at e;cases e]
  exact e
 have le:Same F' H:=fun a u e=>by
  by_cases m:a∈B
  ·rw[in' a m] at e;exact e
  ·rw[out' a m] at e;exact k.le a u e
 have rp:RepL K F' [v] [o.d]:=h1.rep s (fun a m u e=>by rw[in' a m];exact e) [v] [o] rfl rfl
 refine⟨F',C,⟨le,.frz rp (h2.keep s fun a _ u e=>e),n2,fun a m=>?_⟩,s,fun a u e _=>e,fun a h=>h,fun a h=>?_,fun a m=>.inl (List.mem_append_right _ m),.same (Same.refl _)⟩
 ·rw[out' a fun z=>n3 a z a m rfl]
  exact k.fr a (List.mem_append_right _ m)
 ·by_cases m:a∈B
  ·exact .inr (.inl (List.mem_append_left _ m))
  ·rw[out' a m] at h;exact .inl h
theorem OK.grab{v:V}{o:O}{i:Nat}{A:List Addr}(k:OK K F H (some v::σ) (none::Γ) A)(hv:σ[i]?=some (some v))(ho:Γ[i]?=some (some o)):∃A',OK K F H (some v::σ) (some o::Γ.set i none) A'/\Ext F H A F H A':=by
 obtain⟨B,C,h1,h2,h3⟩:=k.os.one;subst h3;have eB:B=[]:=by cases h1 with|skip t=>cases t;rfl
 subst eB;obtain⟨v',Ai,B',g1,g2,g3,g4⟩:=h2.take ho;rw[hv] at g1;cases g1;have nd:=k.nd;have fr:=k.fr;rw[List.nil_append] at nd fr;exact⟨Ai++B',.perm (g2.app g3) k.le nd fr g4.symm,Ext.own' Ext.refl fun a m=>g4.mem_iff.mpr m⟩
end
def gFrz(f:GE):GE:=fun Γ=>(f Γ).bind fun p=>match p.1 with
 |.own o=>some (.own (.frz o.d),p.2)
 |.var i=>match p.2[i]? with
  |some (some o)=>some (.own (.frz o.d),p.2.set i (some (.frz o.d)))
  |_=>none
 |_=>none
def gMove(f:GE):GE:=fun Γ=>(f Γ).bind fun p=>match p.1 with
 |.own o=>some (.own o,p.2)
 |.var i=>match p.2[i]? with
  |some (some o)=>some (.own o,p.2.set i none)
  |_=>none
 |_=>none
section
variable {X:Cx} {K:L2.FG} {e a b:Expr} {es:List Expr} {fa fb:GE} {fs:GA} {pos:Pos}
theorem a5a{α:Type}:∀{l:List α} {i:Nat} {x:α},l[i]?=some x->l.set i x=l
 |[],_,_,e=>by simp at e
 |y::l,0,x,e=>by simp at e;subst e;rfl
 |y::l,i+1,x,e=>by rw[List.set_cons_succ,a5a (by simpa using e)]
theorem Post.frz{F H:Hp}{A:List Addr}{σ:St}{Γ Γ1 Γ':Gm}{r r':R}{v:V}{H':Hp}{f:GE}(e:f Γ=some (r,Γ1))(e':gFrz f Γ=some (r',Γ'))(h:Post K F H A σ Γ1 [r] [v] H'):Post K F H A σ Γ' [r'] [v] H':=by
 obtain⟨F1,A1,x,k,hh⟩:=h;unfold gFrz at e';rw[e] at e';cases r with
 |own o=>
  cases e';obtain⟨F2,A2,k2,x2⟩:=OK.freeze (σ:=σ) (Γ:=Γ1) k;exact⟨F2,A2,x.trans x2,k2,True.intro⟩
 |var i=>
  dsimp only[Option.bind] at e';cases q:Γ1[i]? with
  |none=>rw[q] at e';cases e'
  |some z=>
   cases z with
   |none=>rw[q] at e';cases e'
   |some o=>
    rw[q] at e';cases e';have hv:σ[i]?=some (some v):=hh.1;obtain⟨A2,k2,x2⟩:=OK.grab (σ:=σ) (Γ:=Γ1) k hv q;obtain⟨F3,A3,k3,x3⟩:=OK.freeze k2;obtain⟨B,C,h1,h2,h3⟩:=k3.os.one;have hi:i < (Γ1.set i none).length:=by
     rw[List.length_set];exact(List.getElem?_eq_some_iff.mp q).1
    have rp:RepL K F3 [v] [o.d]:=by cases h1 with|frz r _=>exact r
    have eB:B=[]:=by cases h1 with|frz _ t=>cases t;rfl
    subst eB;obtain⟨B2,g1,C2,g2,g3⟩:=OwnL.put (.frz rp .nil) i h2 hi;rw[a5a hv,List.set_set] at g1;rw[List.nil_append] at g2 h3;subst h3;have nd2:B2.Nodup:=g2.nodup_iff.mpr (k3.nd.sublist g3);have sub:∀a∈B2,a∈A3:=fun a m=>g3.subset (g2.mem_iff.mp m)
    exact⟨F3,B2,(x.trans (x2.trans x3)).own' sub,⟨k3.le,.frz rp g1,nd2,fun a m=>k3.fr a (sub a m)⟩,True.intro⟩
 |fld i j=>cases e'
theorem d5q{f:GE}{Γ Γ':Gm}{r:R}(e:gFrz f Γ=some (r,Γ')):∃r1 Γ1,f Γ=some (r1,Γ1):=by
 unfold gFrz at e;cases q:f Γ with
 |none=>rw[q] at e;cases e
 |some p=>exact⟨p.1,p.2,rfl⟩
theorem d7v{σ:St}{H:Hp}{Q:VK}(t:tG K (gFrz fa) σ H Q):tG K fa σ H Q:=by
 obtain⟨F,A,Γ,rr,Γ',k,e,w⟩:=t;obtain⟨r1,Γ1,e1⟩:=d5q e;exact⟨F,A,Γ,r1,Γ1,k,e1,fun v H' p=>w v H' (p.frz e1 e)⟩
theorem a2a(h:PE X e (tG K fa)):PE X e (tG K (gFrz fa)):=h.mono fun _ _ _ t=>d7v t
theorem d9w{σ:St}{H:Hp}{Q:VK}(t:tG K (gMove fa) σ H Q):tG K fa σ H Q:=by
 obtain⟨F,A,Γ,rr,Γ',k,e,w⟩:=t;unfold gMove at e;cases q:fa Γ with
 |none=>rw[q] at e;cases e
 |some p=>
  rw[q] at e;refine⟨F,A,Γ,p.1,p.2,k,q,fun v H' pp=>w v H' ?_⟩
  obtain⟨r,Γ1⟩:=p;cases r with
  |own o=>cases e;exact pp
  |var i=>
   dsimp only[Option.bind] at e;cases q:Γ1[i]? with
   |none=>rw[q] at e;cases e
   |some z=>
    cases z with
    |none=>rw[q] at e;cases e
    |some o=>
     rw[q] at e;cases e;obtain⟨F1,A1,x,k,hh⟩:=pp;obtain⟨A2,k2,x2⟩:=OK.grab (σ:=σ) (Γ:=Γ1) k hh.1 q;exact⟨F1,A2,x.trans x2,k2,True.intro⟩
  |fld i j=>cases e
theorem c3q(h:PE X e (tG K fa)):PE X e (tG K (gMove fa)):=h.mono fun _ _ _ t=>d9w t
def ownL:List R->Option (List O)
 |[]=>some []
 |.own o::rs=>(ownL rs).bind fun os=>some (o::os)
 |_::_=>none
theorem a5b:∀{rs:List R} {os:List O},ownL rs=some os->rs.map R.o=os.map some
 |[],os,e=>by cases e;rfl
 |.own o::rs,os,e=>by
  unfold ownL at e;cases q:ownL rs with
  |none=>rw[q] at e;cases e
  |some os'=>rw[q] at e;cases e;simp[a5b q,R.o]
 |.var _::_,_,e=>by cases e
 |.fld _ _::_,_,e=>by cases e
def gSeq(c:List O->O)(fs:GA):GE:=fun Γ=>(fs Γ).bind fun p=>if p.1.length<=1000 then(ownL p.1).bind fun os=>some (.own (c os),p.2) else none
theorem c5c{c:List O->O}{Γ Γ':Gm}{r:R}(e:gSeq c fs Γ=some (r,Γ')):∃rs os,fs Γ=some (rs,Γ')/\rs.length<=1000/\ownL rs=some os/\r=.own (c os):=by
 unfold gSeq at e;cases e1:fs Γ with
 |none=>rw[e1] at e;cases e
 |some p=>
  rw[e1] at e;dsimp only[Option.bind] at e;split at e
  ·cases e2:ownL p.1 with
   |none=>rw[e2] at e;cases e
   |some os=>rw[e2] at e;cases e;exact⟨p.1,os,rfl,by assumption,e2,rfl⟩
  ·cases e
theorem a9a(h:PA X es (tGA K fs)):PE X (.List es pos) (tG K (gSeq .lst fs)):=(e2y h).mono fun σ H Q t=>by
 obtain⟨F,A,Γ,rr,Γ',k,e,w⟩:=t;obtain⟨rs,os,e1,e2,e3,rfl⟩:=c5c e;refine⟨F,A,Γ,rs,Γ',k,e1,fun vs H1 p=>?_⟩
 obtain⟨F1,A1,x,k1,hh⟩:=p;rw[a5b e3] at k1;have hl:=hh.length;have ho:os.length=rs.length:=by have:=congrArg List.length (a5b e3);simpa using this.symm
 refine⟨d7t (by omega),fun l hn=>w (.ref l) _ ?_⟩
 obtain⟨B,C,h1,h2,h3⟩:=OwnL.split (by simp only[List.length_map];omega) k1.os
 have nl:∀a∈A1,a≠l:=fun a m z=>k1.os.there a m (by rw[z];exact hn)
 have kp:∀a∈A1,∀o,H1 a=some o->upd H1 l (.lst vs) a=some o:=fun a m o e=>by rw[a0v (nl a m)];exact e
 subst h3;refine⟨F1,l::B++C,x.trans ⟨Same.refl _,fun a o e _=>?_,fun a h=>?_,fun a h=>.inl h,fun a m=>?_,.same (a3b hn)⟩,⟨fun a o e=>?_,?_,?_,?_⟩,True.intro⟩
 ·rw[a0v (a1q e hn)];exact e
 ·by_cases z:a=l
  ·rw[z,a2d];exact fun z=>by cases z
  ·rw[a0v z];exact h
 ·rcases List.mem_cons.mp m with rfl|m
  ·exact .inr hn
  ·exact .inl m
 ·have:=k1.le a o e;rw[a0v (a1q this hn)];exact this
 ·exact .lst a2d (h1.keep (Same.refl _) fun a m=>kp a (List.mem_append_left _ m)) (h2.keep (Same.refl _) fun a m=>kp a (List.mem_append_right _ m))
 ·exact List.nodup_cons.mpr ⟨fun m=>nl l m rfl,k1.nd⟩
 ·intro a m;rcases List.mem_cons.mp m with rfl|m
  ·exact k1.le.free hn
  ·exact k1.fr a m
theorem a6j{x1}(h:PA X es (tGA K fs)):PE X (.Tuple es x1 pos) (tG K (gSeq .tup fs)):=(e2x h).mono fun σ H Q t=>by
 obtain⟨F,A,Γ,rr,Γ',k,e,w⟩:=t;obtain⟨rs,os,e1,e2,e3,rfl⟩:=c5c e;refine⟨F,A,Γ,rs,Γ',k,e1,fun vs H1 p=>?_⟩
 obtain⟨F1,A1,x,k1,hh⟩:=p;rw[a5b e3] at k1;have hl:=hh.length;have ho:os.length=rs.length:=by have:=congrArg List.length (a5b e3);simpa using this.symm
 refine⟨d7t (by omega),fun l hn=>w (.ref l) _ ?_⟩
 obtain⟨B,C,h1,h2,h3⟩:=OwnL.split (by simp only[List.length_map];omega) k1.os
 have nl:∀a∈A1,a≠l:=fun a m z=>k1.os.there a m (by rw[z];exact hn)
 have kp:∀a∈A1,∀o,H1 a=some o->upd H1 l (.tup vs) a=some o:=fun a m o e=>by rw[a0v (nl a m)];exact e
 subst h3;refine⟨F1,l::B++C,x.trans ⟨Same.refl _,fun a o e _=>?_,fun a h=>?_,fun a h=>.inl h,fun a m=>?_,.same (a3b hn)⟩,⟨fun a o e=>?_,?_,?_,?_⟩,True.intro⟩
 ·rw[a0v (a1q e hn)];exact e
 ·by_cases z:a=l
  ·rw[z,a2d];exact fun z=>by cases z
  ·rw[a0v z];exact h
 ·rcases List.mem_cons.mp m with rfl|m
  ·exact .inr hn
  ·exact .inl m
 ·have:=k1.le a o e;rw[a0v (a1q this hn)];exact this
 ·exact .tup a2d (h1.keep (Same.refl _) fun a m=>kp a (List.mem_append_left _ m)) (h2.keep (Same.refl _) fun a m=>kp a (List.mem_append_right _ m))
 ·exact List.nodup_cons.mpr ⟨fun m=>nl l m rfl,k1.nd⟩
 ·intro a m;rcases List.mem_cons.mp m with rfl|m
  ·exact k1.le.free hn
  ·exact k1.fr a m
def b0e:GE:=fun Γ=>some (.own (.dct []),Γ)
theorem d5r{P:Program}{w:World}{H:Hp}(h:Heap)(hb:sysModules < h.objs.size):ObjOk P w H (h.push { cls:=.type "dict",data:=.dict #[]}) h.objs.size (.dG [] 0):=
 ⟨Nat.zero_le _,beq_eq_false_iff_ne.mpr (Ne.symm (Nat.ne_of_lt hb)),_,#[],Heap.get?_push_size _ rfl,⟨rfl,rfl,rfl⟩,rfl,.nil,List.nodup_nil⟩
def e3k:TE:=fun _ H Q=>∀p,H p=none->Q (.ref p) (upd H p (.dG [] 0))
theorem pe_dnewG:PE X (.Dict [] [] pos) e3k:=fun pins s σ H Q I h=>
 wpAny_Dict_empty ⟨.ref s.heap.objs.size,_,I.laid (a:=s.heap.objs.size) (o:=.dG [] 0) (t':=s.toks) (fun _ _ q=>Heap.get?_push_of_some _ q) (Nat.le_refl _) (d5r s.heap I.big),rfl,h _ (I.hok.fresh (Nat.le_refl _))⟩
theorem a6v:PE X (.Dict [] [] pos) (tG K b0e):=pe_dnewG.mono fun σ H Q t=>by
 obtain⟨F,A,Γ,rr,Γ',k,e,w⟩:=t;cases e;intro l hn;refine w (.ref l) _ ?_;have s:Same H (upd H l (.dG [] 0)):=a3b hn;obtain⟨k2,x⟩:=k.push (v:=.ref l) (o:=.dct []) (Av:=[l]++[]++[]) s (.dct (kvs:=[]) a2d rfl .nil .nil .nil) (by simp) (fun a m=>by simp at m;rw[m];exact hn)
 exact⟨F,_,x,k2,True.intro⟩
def gT(f:GE):GT:=fun Γ=>(f Γ).bind fun p=>match p.1 with
 |.own (.frz (.bl b))=>some (b,p.2)
 |_=>none
theorem Post.drop{F H:Hp}{A:List Addr}{σ:St}{Γ':Gm}{rs:List R}{vs:List V}{H':Hp}(h:Post K F H A σ Γ' rs vs H'):Post K F H A σ Γ' [] [] H':=by
 obtain⟨F1,A1,x,k,hh⟩:=h;obtain⟨B,kB,sub⟩:=k.part (by rw[List.length_map,List.length_map,hh.length])
 exact⟨F1,B,x.own' sub,kB,True.intro⟩
theorem Post.flat{F H:Hp}{A:List Addr}{σ:St}{Γ':Gm}{d:D}{v w:V}{H':Hp}(h:Post K F H A σ Γ' [.own (.frz d)] [v] H')(e:a4w d=some w):v=w:=by
 obtain⟨F1,A1,x,k,hh⟩:=h;obtain⟨B,C,h1,_⟩:=OwnL.one (σ:=σ) (Γ:=Γ') k.os;cases h1 with
 |frz r _=>
  cases r with
  |flat e' _=>rw[e] at e';exact(Option.some.inj e').symm
  |lst _ _ _=>cases e
  |tup _ _ _=>cases e
  |dct _ _ _ _ _=>cases e
  |scr _ _=>cases e
  |exc _ _=>cases e
  |obj _=>cases e
theorem c3r{f:GE}{σ:St}{H:Hp}{Q:Bool->Hp->Prop}(t:tGT K (gT f) σ H Q):tG K f σ H fun x H'=>∃k,x=.bl k/\Q k H':=by
 obtain⟨F,A,Γ,b,Γ',k,e,w⟩:=t;unfold gT at e;cases q:f Γ with
 |none=>rw[q] at e;cases e
 |some p=>
  obtain⟨r,Γ1⟩:=p;rw[q] at e;dsimp only[Option.bind] at e;cases r with
  |var i=>cases e
  |fld i j=>cases e
  |own o=>
   cases o with
   |frz d=>
    cases d with
    |bl b'=>
     cases e;exact⟨F,A,Γ,_,_,k,q,fun v H' pp=>⟨_,pp.flat rfl,w H' pp.drop⟩⟩
    |_=>cases e
   |_=>cases e
theorem a2o{op:CmpOp}{r:R2}{g:List O->Option O}(ho:OpR X (compareOp op) r)(ok:OpOk K (r2L r) g)(ha:PE X a (tG K fa))(hb:PE X b (tG K fb))(hm:behindInMarks op b=false:=by first|rfl|exact d7q _):PT X (.Compare a [op] [b] pos) (tGT K (gT (gBin g fa fb))):=
 (d9e ho ha hb hm).mono fun _ _ _ t=>c5b ok (c3r t)
def truO:O->Option Bool
 |.frz .non=>some false
 |.frz (.bl b)=>some b
 |.frz (.int i)=>some (i != 0)
 |.frz (.str x)=>if x.length<=1000000 then some ((x.length:Int) != 0) else none
 |.frz (.lst xs)=>some (!xs.isEmpty)
 |.frz (.tup xs)=>some (!xs.isEmpty)
 |.lst xs=>some (!xs.isEmpty)
 |.tup xs=>some (!xs.isEmpty)
 |_=>none
def gTru(f:GE):GT:=fun Γ=>(f Γ).bind fun p=>(seeR p.2 p.1).bind fun o=>(truO o).bind fun b=>some (b,p.2)
theorem a8a{α β:Type}{xs:List α}{ys:List β}(h:xs.length=ys.length):(!xs.isEmpty) = !ys.isEmpty:=by
 cases xs <;> cases ys <;> simp_all
theorem d9x{F H:Hp}{v:V}{o:O}{b:Bool}{B:List Addr}(le:Same F H)(h:OwnL K F H [some v] [some o] B)(e:truO o=some b):TruV K v H b:=by
 cases h with
 |lst q i _=>cases e;exact .inl ⟨_,SqL.of q,a8a (by have:=i.length;simpa using this.symm)⟩
 |tup q i _=>cases e;exact .inr (.inl ⟨_,SqT.of q,a8a (by have:=i.length;simpa using this.symm)⟩)
 |dct q z r i _=>cases e
 |ins _ _ _ _ _=>cases e
 |@frz v d σ Γ B r _=>
  cases r with
  |lst q i _=>cases e;exact .inl ⟨_,.inl (le.rd q),a8a i.length.symm⟩
  |tup q i _=>cases e;exact .inr (.inl ⟨_,le.seqT q,a8a i.length.symm⟩)
  |dct q z r i _=>cases e
  |scr _ _=>cases e
  |exc _ _=>cases e
  |obj _=>cases e
  |flat q _=>
   cases d with
   |non=>cases q;cases e;rfl
   |bl b'=>cases q;cases e;rfl
   |int i=>cases q;cases e;rfl
   |str x=>
    cases q;unfold truO at e;dsimp only at e;split at e
    ·cases e;exact⟨Nat.le_trans (by assumption) (by decide),rfl⟩
    ·cases e
   |ty n=>cases e
   |lst _=>cases q
   |tup _=>cases q
   |dct _=>cases q
   |scr _=>cases q
   |exc _ _=>cases q
   |obj=>cases q
theorem a3g{X:Cx}{a:Expr}{fa:GE}(ha:PE X a (tG K fa))(he:∀whole,isTrue a X.env whole=(do let v <-whole;standAt a.pos;holding [v] (truthy v)):=by exact fun _=>rfl)(hK:X.K=K:=by rfl):PT X a (tGT K (gTru fa)):=
 (c9y K ha he hK).mono fun σ H Q t=>by
  obtain⟨F,A,Γ,b,Γ',k,e,w⟩:=t;unfold gTru at e;cases q:fa Γ with
  |none=>rw[q] at e;cases e
  |some p=>
   obtain⟨r,Γ1⟩:=p;rw[q] at e;dsimp only[Option.bind] at e;cases q2:seeR Γ1 r with
   |none=>rw[q2] at e;cases e
   |some o=>
    rw[q2] at e;dsimp only at e;cases q3:truO o with
    |none=>rw[q3] at e;cases e
    |some b'=>
     rw[q3] at e;cases e;refine⟨F,A,Γ,r,_,k,q,fun v H' pp=>⟨_,?_,w H' pp.drop⟩⟩
     obtain⟨F1,le,see,_⟩:=Post.res (Q:=fun _ _=>True) (o:=.frz .non) pp (os:=[o]) (by unfold seeL;rw[q2];rfl) (fun _ _ _=>True.intro)
     cases see with
     |cons hs _=>obtain⟨B,hB⟩:=hs;exact d9x le hB q3
def gNotT(f:GT):GT:=fun Γ=>(f Γ).bind fun p=>some (!p.1,p.2)
def gAndT(f g:GT):GT:=fun Γ=>(f Γ).bind fun p=>if p.1=true then g p.2 else some (false,p.2)
def gOrT(f g:GT):GT:=fun Γ=>(f Γ).bind fun p=>if p.1=true then some (true,p.2) else g p.2
theorem b8v{f:GT}{h:GT}{φ:Bool->GT}(eh:∀Γ,h Γ=(f Γ).bind fun p=>φ p.1 p.2){σ:St}{H:Hp}{Q:Bool->Hp->Prop}(t:tGT K h σ H Q):tGT K f σ H fun c H1=>tGT K (φ c) σ H1 Q:=by
 obtain⟨F,A,Γ,b,Γ',k,e,w⟩:=t;rw[eh] at e;cases q:f Γ with
 |none=>rw[q] at e;cases e
 |some p=>
  obtain⟨c,Γ1⟩:=p;rw[q] at e;refine⟨F,A,Γ,c,Γ1,k,q,fun H1 pp=>?_⟩
  obtain⟨F1,A1,x,k1,_⟩:=pp;exact⟨F1,A1,Γ1,b,Γ',k1,e,fun H2 p2=>w H2 (by obtain⟨F2,A2,x2,k2,h2⟩:=p2;exact⟨F2,A2,x.trans x2,k2,h2⟩)⟩
theorem b3y{b:Bool}{σ:St}{H:Hp}{Q:Bool->Hp->Prop}(t:tGT K (fun Γ=>some (b,Γ)) σ H Q):Q b H:=by
 obtain⟨F,A,Γ,b',Γ',k,e,w⟩:=t;cases e;exact w H ⟨F,A,Ext.refl,k,True.intro⟩
theorem tGT.mono{f:GT}{Q1 Q2:Bool->Hp->Prop}{σ:St}{H:Hp}(t:tGT K f σ H Q1)(q:∀v H',Q1 v H'->Q2 v H'):tGT K f σ H Q2:=by
 obtain⟨F,A,Γ,rr,Γ',k,e,w⟩:=t;exact⟨F,A,Γ,rr,Γ',k,e,fun H' p=>q _ _ (w H' p)⟩
variable {ft gt:GT} {rest:List Expr}
theorem a5c(h:PT X a (tGT K ft)):PT X (.UnaryOp .Not a pos) (tGT K (gNotT ft)):=(e2l h).mono fun σ H Q t=>
 (b8v (φ:=fun c Γ=>some (!c,Γ)) (fun _=>rfl) t).mono fun c H1 h=>b3y h
theorem c3s(h:PT X a (tGT K ft)):PW X (.BoolOp .And [a] pos) (tGT K ft):=d9a h
theorem a9b(h:PT X a (tGT K ft)):PW X (.BoolOp .Or [a] pos) (tGT K ft):=e2j h
theorem c5d(ha:PT X a (tGT K ft))(hb:PW X (.BoolOp .And (b::rest) pos) (tGT K gt)):PW X (.BoolOp .And (a::b::rest) pos) (tGT K (gAndT ft gt)):=(e2k ha hb).mono fun σ H Q t=>
 (b8v (φ:=fun c Γ=>if c=true then gt Γ else some (false,Γ)) (fun _=>rfl) t).mono fun c H1 h=>by
  cases c with
  |true=>exact iteT (by simpa using h)
  |false=>exact iteF (b3y (by simpa using h))
theorem b3q(ha:PT X a (tGT K ft))(hb:PW X (.BoolOp .Or (b::rest) pos) (tGT K gt)):PW X (.BoolOp .Or (a::b::rest) pos) (tGT K (gOrT ft gt)):=(e5c ha hb).mono fun σ H Q t=>
 (b8v (φ:=fun c Γ=>if c=true then some (true,Γ) else gt Γ) (fun _=>rfl) t).mono fun c H1 h=>by
  cases c with
  |true=>exact iteT (b3y (by simpa using h))
  |false=>exact iteF (by simpa using h)
def gIf(c:GT)(f g:GE):GE:=fun Γ=>(c Γ).bind fun p=>if p.1=true then f p.2 else g p.2
def gAndV(f g:GE):GE:=fun Γ=>(gT f Γ).bind fun p=>if p.1=true then g p.2 else gC (.bl false) p.2
def gNotV(f:GE):GE:=fun Γ=>(gT f Γ).bind fun p=>gC (.bl (!p.1)) p.2
theorem d0c{f:GT}{h:GE}{φ:Bool->GE}(eh:∀Γ,h Γ=(f Γ).bind fun p=>φ p.1 p.2){σ:St}{H:Hp}{Q:VK}(t:tG K h σ H Q):tGT K f σ H fun c H1=>tG K (φ c) σ H1 Q:=by
 obtain⟨F,A,Γ,b,Γ',k,e,w⟩:=t;rw[eh] at e;cases q:f Γ with
 |none=>rw[q] at e;cases e
 |some p=>
  obtain⟨c,Γ1⟩:=p;rw[q] at e;refine⟨F,A,Γ,c,Γ1,k,q,fun H1 pp=>?_⟩
  obtain⟨F1,A1,x,k1,_⟩:=pp;exact⟨F1,A1,Γ1,b,Γ',k1,e,fun v H2 p2=>w v H2 (by obtain⟨F2,A2,x2,k2,h2⟩:=p2;exact⟨F2,A2,x.trans x2,k2,h2⟩)⟩
theorem e6a{d:D}{v:V}{σ:St}{H:Hp}{Q:VK}(t:tG K (gC d) σ H Q)(q:a4w d=some v):Q v H:=by
 obtain⟨F,A,Γ,r,Γ',k,e,w⟩:=t;cases e;obtain⟨k2,x⟩:=k.push (v:=v) (o:=.frz d) (Av:=[]) (Same.refl _) (.frz (.flat q .nil) .nil) .nil (fun _ m=>by cases m)
 exact w v H ⟨F,_,x,k2,True.intro⟩
theorem d9y{c:Expr}{fc:GT}(hc:PT X c (tGT K fc))(ha:PE X a (tG K fa))(hb:PE X b (tG K fb)):PE X (.IfExp c a b pos) (tG K (gIf fc fa fb)):=(d4t hc ha hb).mono fun σ H Q t=>
 (d0c (φ:=fun c Γ=>if c=true then fa Γ else fb Γ) (fun _=>rfl) t).mono fun c H1 h=>by
  cases c with
  |true=>exact iteT (by simpa using h)
  |false=>exact iteF (by simpa using h)
theorem c1p{op}(h:PE X a (tG K fa)):PE X (.BoolOp op [a] pos) (tG K fa):=e2m h
theorem b7s(ha:PE X a (tG K fa))(hb:PE X (.BoolOp .And (b::rest) pos) (tG K fb)):PE X (.BoolOp .And (a::b::rest) pos) (tG K (gAndV fa fb)):=(e2n ha hb).mono fun σ H Q t=>
 tG.mono (c3r (d0c (φ:=fun c Γ=>if c=true then fb Γ else gC (.bl false) Γ) (fun _=>rfl) t)) fun v H1 ⟨c,e,h⟩=>⟨c,e,by
  cases c with
  |true=>exact iteT (by simpa using h)
  |false=>exact iteF (e6a (d:=.bl false) (by simpa using h) rfl)⟩
theorem e3l(ha:PE X a (tG K fa)):PE X (.UnaryOp .Not a pos) (tG K (gNotV fa)):=(e2o ha).mono fun σ H Q t=>
 tG.mono (c3r (d0c (φ:=fun c=>gC (.bl (!c))) (fun _=>rfl) t)) fun v H1 ⟨c,e,h⟩=>⟨c,e,e6a h rfl⟩
end
def SubP(A B:List Addr):Prop:=∃L,A.Perm L/\L.Sublist B
theorem SubP.refl(A:List Addr):SubP A A:=⟨A,.refl _,List.Sublist.refl _⟩
theorem SubP.of_perm{A B:List Addr}(p:A.Perm B):SubP A B:=⟨B,p,List.Sublist.refl _⟩
theorem SubP.of_sub{A B:List Addr}(p:A.Sublist B):SubP A B:=⟨A,.refl _,p⟩
theorem SubP.trans{A B C:List Addr}(x:SubP A B)(y:SubP B C):SubP A C:=by
 obtain⟨L,p,s⟩:=x;obtain⟨M,q,t⟩:=y;obtain⟨N,n1,n2⟩:=List.exists_perm_sublist s q;exact⟨N,p.trans n1.symm,n2.trans t⟩
theorem SubP.mem{A B:List Addr}(x:SubP A B):∀a∈A,a∈B:=fun a m=>let ⟨_,p,s⟩:=x;s.subset (p.mem_iff.mp m)
theorem SubP.nodup{A B:List Addr}(x:SubP A B)(n:B.Nodup):A.Nodup:=let ⟨_,p,s⟩:=x;p.nodup_iff.mpr (n.sublist s)
theorem SubP.app{A B C D:List Addr}(x:SubP A B)(y:SubP C D):SubP (A++C) (B++D):=let ⟨_,p,s⟩:=x;let ⟨_,q,t⟩:=y;⟨_,p.append q,s.append t⟩
theorem OK.sub{K:L2.FG}{F H:Hp}{σ σ':St}{Γ Γ':Gm}{A B:List Addr}(k:OK K F H σ Γ A)(h:OwnL K F H σ' Γ' B)(s:SubP B A):OK K F H σ' Γ' B/\Ext F H A F H B:=
 ⟨⟨k.le,h,s.nodup k.nd,fun a m=>k.fr a (s.mem a m)⟩,Ext.own' Ext.refl s.mem⟩
inductive Fl where
 |nx|bk|ct|rt (o:O)
abbrev GS:=Gm->Option (Fl×Gm)
def Kept(m:List Bool)(σ σ':St):Prop:=∀j:Nat,m[j]?=some true->σ'[j]?=σ[j]?
theorem Kept.refl{m:List Bool}{σ:St}:Kept m σ σ:=fun _ _=>rfl
theorem Kept.trans{m:List Bool}{σ σ1 σ2:St}(a:Kept m σ σ1)(b:Kept m σ1 σ2):Kept m σ σ2:=fun j h=>(b j h).trans (a j h)
theorem Kept.set{m:List Bool}{σ:St}{i:Nat}{v:Option V}(h:(m[i]? == some true)=false):Kept m σ (σ.set i v):=fun j hj=>by
 by_cases e:i=j
 ·subst e;rw[hj] at h;simp at h
 ·rw[List.getElem?_set_ne e]
def PostS(K:L2.FG)(F H:Hp)(A:List Addr)(m:List Bool)(σ:St)(Γ':Gm)(σ':St)(H':Hp):Prop:=∃F' A',Ext F H A F' H' A'/\OK K F' H' σ' Γ' A'/\Kept m σ σ'
def PostV(K:L2.FG)(F H:Hp)(A:List Addr)(m:List Bool)(σ:St)(Γ':Gm)(o:O)(v:V)(σ':St)(H':Hp):Prop:=∃F' A',Ext F H A F' H' A'/\OK K F' H' (some v::σ') (some o::Γ') A'/\Kept m σ σ'
abbrev XW:=Addr->Option Addr->St->Hp->Prop
def isX:O->Option (Addr×Option Int)
 |.frz (.exc C l)=>some (C,l)
 |_=>none
def ExcL(F:Hp)(dx:Option Addr):Option Int->Prop
 |none=>dx=none
 |some n=>∃d,dx=some d/\F d=some (.xd [("line",.int n)])
def PostX(K:L2.FG)(F H:Hp)(A:List Addr)(m:List Bool)(σ:St)(Γ':Gm)(l:Option Int)(dx:Option Addr)(σ':St)(H':Hp):Prop:=∃F' A',Ext F H A F' H' A'/\OK K F' H' σ' Γ' A'/\Kept m σ σ'/\ExcL F' dx l
def DoneR(K:L2.FG)(m:List Bool)(D:Ends)(F H:Hp)(A:List Addr)(σ:St)(o:O)(Γ':Gm):Option XW->Prop
 |none=>∀v σ' H',PostV K F H A m σ Γ' o v σ' H'->D.rt v H'
 |some W=>match isX o with
  |some p=>∀dx σ' H',PostX K F H A m σ Γ' p.2 dx σ' H'->W p.1 dx σ' H'
  |none=>∀v σ' H',PostV K F H A m σ Γ' o v σ' H'->D.rt v H'
def Done(K:L2.FG)(m:List Bool)(W:Option XW)(D:Ends)(F H:Hp)(A:List Addr)(σ:St):Fl->Gm->Prop
 |.nx,Γ'=>∀σ' H',PostS K F H A m σ Γ' σ' H'->D.nx σ' H'
 |.bk,Γ'=>∀σ' H',PostS K F H A m σ Γ' σ' H'->D.bk σ' H'
 |.ct,Γ'=>∀σ' H',PostS K F H A m σ Γ' σ' H'->D.ct σ' H'
 |.rt o,Γ'=>DoneR K m D F H A σ o Γ' W
def tS(K:L2.FG)(m:List Bool)(W:Option XW)(f:GS):TS:=fun D σ H=>∃F A Γ fl Γ',OK K F H σ Γ A/\f Γ=some (fl,Γ')/\Done K m W D F H A σ fl Γ'
theorem DoneR.imp{K:L2.FG}{m:List Bool}{W:Option XW}{D D1:Ends}{F H F1 H1:Hp}{A A1:List Addr}{σ σ1:St}{o:O}{Γ':Gm}(d:DoneR K m D F H A σ o Γ' W)(x:Ext F H A F1 H1 A1)(kp:Kept m σ σ1)(h:∀v H,D.rt v H->D1.rt v H):DoneR K m D1 F1 H1 A1 σ1 o Γ' W:=by
 have pv:(∀v σ' H',PostV K F H A m σ Γ' o v σ' H'->D.rt v H')->∀v σ' H',PostV K F1 H1 A1 m σ1 Γ' o v σ' H'->D1.rt v H':=fun d v σ' H' ⟨F',A',x',k,q⟩=>h v H' (d v σ' H' ⟨F',A',x.trans x',k,kp.trans q⟩)
 cases W with
 |none=>exact pv d
 |some W=>
  unfold DoneR at d ⊢;cases q:isX o with
  |none=>rw[q] at d;exact pv d
  |some p=>
   rw[q] at d;exact fun dx σ' H' ⟨F',A',x',k,q,r⟩=>d dx σ' H' ⟨F',A',x.trans x',k,kp.trans q,r⟩
theorem DoneR.val{K:L2.FG}{m:List Bool}{W:Option XW}{D:Ends}{F H:Hp}{A:List Addr}{σ:St}{o:O}{Γ':Gm}(d:DoneR K m D F H A σ o Γ' W)(h:isX o=none):∀v σ' H',PostV K F H A m σ Γ' o v σ' H'->D.rt v H':=by
 cases W with
 |none=>exact d
 |some W=>unfold DoneR at d;rw[h] at d;exact d
theorem Done.step{K:L2.FG}{m:List Bool}{W:Option XW}{D:Ends}{F H F1 H1:Hp}{A A1:List Addr}{σ σ1:St}{fl:Fl}{Γ':Gm}(d:Done K m W D F H A σ fl Γ')(x:Ext F H A F1 H1 A1)(kp:Kept m σ σ1):Done K m W D F1 H1 A1 σ1 fl Γ':=by
 cases fl with
 |nx=>exact fun σ' H' ⟨F',A',x',k,q⟩=>d σ' H' ⟨F',A',x.trans x',k,kp.trans q⟩
 |bk=>exact fun σ' H' ⟨F',A',x',k,q⟩=>d σ' H' ⟨F',A',x.trans x',k,kp.trans q⟩
 |ct=>exact fun σ' H' ⟨F',A',x',k,q⟩=>d σ' H' ⟨F',A',x.trans x',k,kp.trans q⟩
 |rt o=>exact DoneR.imp d x kp fun _ _ z=>z
section
variable {X:Cx} {K:L2.FG} {m:List Bool} {W:Option XW} {st:Stmt} {rest sa sb:List Stmt} {e:Expr} {f g:GS} {fa:GE} {ft:GT} {pos:Pos}
def gsNil:GS:=fun Γ=>some (.nx,Γ)
def a0o(f g:GS):GS:=fun Γ=>(f Γ).bind fun p=>match p.1 with
 |.nx=>g p.2
 |.bk=>some (.bk,p.2)
 |.ct=>some (.ct,p.2)
 |.rt o=>some (.rt o,p.2)
theorem a2f:PSs X [] (tS K m W gsNil):=pss_nil.mono fun D σ H t=>by
 obtain⟨F,A,Γ,fl,Γ',k,e,w⟩:=t;cases e;exact w σ H ⟨F,A,Ext.refl,k,Kept.refl⟩
theorem a0i(h1:PS X st (tS K m W f))(h2:PSs X rest (tS K m W g)):PSs X (st::rest) (tS K m W (a0o f g)):=(d4u h1 h2).mono fun D σ H t=>by
 obtain⟨F,A,Γ,fl,Γ',k,e,w⟩:=t;unfold a0o at e;cases q:f Γ with
 |none=>rw[q] at e;cases e
 |some p=>
  obtain⟨fl1,Γ1⟩:=p;rw[q] at e;dsimp only[Option.bind] at e;refine⟨F,A,Γ,fl1,Γ1,k,q,?_⟩;cases fl1 with
  |nx=>
   intro σ' H' ⟨F1,A1,x,k1,kp⟩;exact⟨F1,A1,Γ1,fl,Γ',k1,e,w.step x kp⟩
  |bk=>cases e;exact w
  |ct=>cases e;exact w
  |rt o=>cases e;exact w
theorem a0q(h1:PS X st (tS K m W f)):PSs X [st] (tS K m W f):=d9b h1
def gsRet(f:GE):GS:=fun Γ=>(f Γ).bind fun p=>match p.1 with
 |.own o=>some (.rt o,p.2)
 |_=>none
theorem a1w(h:PE X e (tG K fa)):PS X (.Return (some e) pos) (tS K m none (gsRet fa)):=(d7n h).mono fun D σ H t=>by
 obtain⟨F,A,Γ,fl,Γ',k,e,w⟩:=t;unfold gsRet at e;cases q:fa Γ with
 |none=>rw[q] at e;cases e
 |some p=>
  obtain⟨r,Γ1⟩:=p;rw[q] at e;cases r with
  |var i=>cases e
  |fld i j=>cases e
  |own o=>
   cases e;exact⟨F,A,Γ,_,_,k,q,fun v H' ⟨F1,A1,x,k1,_⟩=>w v σ H' ⟨F1,A1,x,k1,Kept.refl⟩⟩
def b5i(f:GE):GS:=fun Γ=>(f Γ).bind fun p=>match p.1 with
 |.own o=>match isX o with
  |none=>some (.rt o,p.2)
  |some _=>none
 |_=>none
theorem b8w(h:PE X e (tG K fa)):PS X (.Return (some e) pos) (tS K m W (b5i fa)):=(d7n h).mono fun D σ H t=>by
 obtain⟨F,A,Γ,fl,Γ',k,e,w⟩:=t;obtain⟨⟨r,Γ1⟩,q,e⟩:=Option.bind_eq_some_iff.mp e;cases r with
 |var i=>cases e
 |fld i j=>cases e
 |own o=>
  dsimp only at e;cases hx:isX o with
  |some p=>rw[hx] at e;cases e
  |none=>
   rw[hx] at e;cases e;exact⟨F,A,Γ,_,_,k,q,fun v H' ⟨F1,A1,x,k1,_⟩=>DoneR.val w hx v σ H' ⟨F1,A1,x,k1,Kept.refl⟩⟩
def gsIf(c:GT)(f g:GS):GS:=fun Γ=>(c Γ).bind fun p=>if p.1=true then f p.2 else g p.2
theorem a3l{c:Expr}(hc:PT X c (tGT K ft))(ha:PSs X sa (tS K m W f))(hb:PSs X sb (tS K m W g)):PS X (.If c sa sb pos) (tS K m W (gsIf ft f g)):=(e5d hc ha hb).mono fun D σ H t=>by
 obtain⟨F,A,Γ,fl,Γ',k,e,w⟩:=t;unfold gsIf at e;cases q:ft Γ with
 |none=>rw[q] at e;cases e
 |some p=>
  obtain⟨b,Γ1⟩:=p;rw[q] at e;refine⟨F,A,Γ,b,Γ1,k,q,fun H1 hh=>?_⟩
  obtain⟨F1,A1,x,k1,_⟩:=hh;cases b with
  |true=>exact iteT ⟨F1,A1,Γ1,fl,Γ',k1,e,w.step x Kept.refl⟩
  |false=>exact iteF ⟨F1,A1,Γ1,fl,Γ',k1,e,w.step x Kept.refl⟩
def a3y(f:GE):GS:=fun Γ=>(f Γ).bind fun p=>some (.nx,p.2)
theorem a3q(he:PE X e (tG K fa))(hs:swapsWith e none pos.line X.env=pure false:=by rfl):PS X (.Expr e pos) (tS K m W (a3y fa)):=(c8x he hs).mono fun D σ H t=>by
 obtain⟨F,A,Γ,fl,Γ',k,e,w⟩:=t;unfold a3y at e;cases q:fa Γ with
 |none=>rw[q] at e;cases e
 |some p=>
  rw[q] at e;cases e;exact⟨F,A,Γ,p.1,p.2,k,q,fun v H' pp=>by obtain⟨F1,A1,x,k1,_⟩:=pp.drop;exact w σ H' ⟨F1,A1,x,k1,Kept.refl⟩⟩
def gsSet(i:Nat)(f:GE):GS:=fun Γ=>(f Γ).bind fun p=>match p.1 with
 |.own o=>if i < p.2.length then some (.nx,p.2.set i (some o)) else none
 |_=>none
theorem OK.store{F H:Hp}{A:List Addr}{σ:St}{Γ:Gm}{v:V}{o:O}{i:Nat}(k:OK K F H (some v::σ) (some o::Γ) A)(hi:i < Γ.length):∃B,OK K F H (σ.set i (some v)) (Γ.set i (some o)) B/\Ext F H A F H B:=by
 obtain⟨B,C,h1,h2,h3⟩:=k.os.one;obtain⟨B2,g1,C2,g2,g3⟩:=OwnL.put h1 i h2 hi;subst h3;exact⟨B2,k.sub g1 ((SubP.of_perm g2).trans ((SubP.refl B).app (.of_sub g3)))⟩
theorem a1l{i:Nat}{x:Str}{pos':Pos}(hN:X.N.Nodup)(hi:X.N[i]?=some x)(hx:Loc X.env.scope x)(he:PE X e (tG K fa))(hm:(m[i]? == some true)=false:=by rfl)(hs:swapsWith e (some (.Name x pos')) pos.line X.env=pure false:=by rfl)(hf:X.fn x=true\/X.env.scope.names.lookup x=some .local := by first|exact .inl rfl|exact .inr rfl):
  PS X (.Assign [.Name x pos'] e pos) (tS K m W (gsSet i fa)):=(e2p hN hi hx he hs hf).mono fun D σ H t=>by
 obtain⟨F,A,Γ,fl,Γ',k,e,w⟩:=t;unfold gsSet at e;cases q:fa Γ with
 |none=>rw[q] at e;cases e
 |some p=>
  obtain⟨r,Γ1⟩:=p;rw[q] at e;cases r with
  |var i=>cases e
  |fld i j=>cases e
  |own o=>
   dsimp only[Option.bind] at e;split at e
   ·cases e;refine⟨F,A,Γ,_,Γ1,k,q,fun v H' hh=>?_⟩
    obtain⟨F1,A1,x,k1,_⟩:=hh;obtain⟨B,k2,x2⟩:=OK.store (σ:=σ) (Γ:=Γ1) k1 (by assumption)
    exact w _ H' ⟨F1,B,x.trans x2,k2,Kept.set hm⟩
   ·cases e
abbrev GG:=D->Gm->Option Gm
def TgOk(K:L2.FG)(m:List Bool)(t:TG)(g:GG):Prop:=
 ∀(F H:Hp) (σ:St) (Γ Γ1:Gm) (A:List Addr) (x:V) (d:D) (Q:St->Hp->Prop),OK K F H σ Γ A->RepL K F [x] [d]->g d Γ=some Γ1->(∀σ' A',OK K F H σ' Γ1 A'->Ext F H A F H A'->Kept m σ σ'->Q σ' H)->t x σ H Q
def a0r(i:Nat):GG:=fun d Γ=>if i < Γ.length then some (Γ.set i (some (.frz d))) else none
theorem a1s{i:Nat}(hm:(m[i]? == some true)=false:=by rfl):TgOk K m (gName i) (a0r i):=by
 intro F H σ Γ Γ1 A x d Q k r e w;unfold a0r at e;split at e
 ·cases e;obtain⟨k1,x1⟩:=k.push (v:=x) (o:=.frz d) (Av:=[]) (Same.refl _) (.frz r .nil) .nil (fun _ m=>by cases m)
  obtain⟨B,k2,x2⟩:=OK.store k1 (by assumption)
  exact w _ _ k2 (x1.trans x2) (Kept.set hm)
 ·cases e
def ggAll:List GG->List D->Gm->Option Gm
 |[],[],Γ=>some Γ
 |g::gs,d::ds,Γ=>(g d Γ).bind fun Γ1=>ggAll gs ds Γ1
 |_,_,_=>none
def TgsOk(K:L2.FG)(m:List Bool)(t:TGs)(g:List GG):Prop:=
 ∀(F H:Hp) (σ:St) (Γ Γ1:Gm) (A:List Addr) (xs:List V) (ds:List D) (Q:St->Hp->Prop),OK K F H σ Γ A->RepL K F xs ds->ggAll g ds Γ=some Γ1->(∀σ' A',OK K F H σ' Γ1 A'->Ext F H A F H A'->Kept m σ σ'->Q σ' H)->t xs σ H Q
theorem b8x:TgsOk K m gNil []:=by
 intro F H σ Γ Γ1 A xs ds Q k r e w;cases ds with
 |nil=>
  cases e;cases xs with
  |nil=>exact⟨rfl,w σ A k Ext.refl Kept.refl⟩
  |cons _ _=>have:=r.length;simp at this
 |cons _ _=>cases e
theorem a4n{t:TG}{ts:TGs}{g:GG}{gs:List GG}(h1:TgOk K m t g)(h2:TgsOk K m ts gs):TgsOk K m (L2.gCons t ts) (g::gs):=by
 intro F H σ Γ Γ1 A xs ds Q k r e w;cases ds with
 |nil=>cases e
 |cons d ds=>
  cases xs with
  |nil=>have:=r.length;simp at this
  |cons x xs=>
   unfold ggAll at e;cases q:g d Γ with
   |none=>rw[q] at e;cases e
   |some Γ2=>
    rw[q] at e;refine⟨x,xs,rfl,h1 F H σ Γ Γ2 A x d _ k r.inv.1 q fun σ1 A1 k1 x1 kp1=>?_⟩
    exact h2 F H σ1 Γ2 Γ1 A1 xs ds _ k1 r.inv.2 e fun σ2 A2 k2 x2 kp2=>w σ2 A2 k2 (x1.trans x2) (kp1.trans kp2)
def ggTup(gs:List GG):GG:=fun d Γ=>match d with
 |.tup ds=>ggAll gs ds Γ
 |_=>none
theorem c1q:∀{gs:List GG} {ds:List D} {Γ Γ1:Gm},ggAll gs ds Γ=some Γ1->ds.length=gs.length
 |[],[],_,_,_=>rfl
 |g::gs,d::ds,Γ,Γ1,e=>by
  unfold ggAll at e;cases q:g d Γ with
  |none=>rw[q] at e;cases e
  |some Γ2=>rw[q] at e;simp[c1q (gs:=gs) (ds:=ds) e]
 |[],_::_,_,_,e=>by cases e
 |_::_,[],_,_,e=>by cases e
theorem c5e{ts:TGs}{gs:List GG}{n:Nat}(h:TgsOk K m ts gs)(hn:n=gs.length:=by rfl):TgOk K m (gTup K n ts) (ggTup gs):=by
 intro F H σ Γ Γ1 A x d Q k r e w;cases d with
 |tup ds=>
  have e:ggAll gs ds Γ=some Γ1:=e;cases r with
  |flat z _=>cases z
  |tup q i _=>exact⟨_,_,rfl,k.le.seqT q,by rw[hn,i.length,c1q e],h F H σ Γ Γ1 A _ ds Q k i e w⟩
 |_=>cases e
def a2u(g:GG)(f:GS):List D->GS
 |[]=>fun Γ=>some (.nx,Γ)
 |d::ds=>fun Γ=>(g d Γ).bind fun Γ1=>(f Γ1).bind fun q=>match q.1 with
   |.nx=>a2u g f ds q.2
   |.ct=>a2u g f ds q.2
   |.bk=>some (.nx,q.2)
   |.rt o=>some (.rt o,q.2)
theorem c1r{t:TG}{g:GG}(tg:TgOk K m t g){F H:Hp}{σ:St}{Γ Γ':Gm}{A:List Addr}{x:V}{d:D}{ds:List D}{fl:Fl}{E:Ends}{Pv:St->Hp->Prop}(k:OK K F H σ Γ A)(r:RepL K F [x] [d])
  (e:a2u g f (d::ds) Γ=some (fl,Γ')) (w:Done K m W E F H A σ fl Γ')
  (nxt:∀F1 H1 σ1 Γ1 A1,Ext F H A F1 H1 A1->OK K F1 H1 σ1 Γ1 A1->a2u g f ds Γ1=some (fl,Γ')->Done K m W E F1 H1 A1 σ1 fl Γ'->Pv σ1 H1):t x σ H fun σ2 H2=>tS K m W f { E with nx:=Pv,ct:=Pv,bk:=E.nx} σ2 H2:=by
 unfold a2u at e;cases q:g d Γ with
 |none=>rw[q] at e;cases e
 |some Γ1=>
  rw[q] at e;dsimp only[Option.bind] at e;cases q2:f Γ1 with
  |none=>rw[q2] at e;cases e
  |some p=>
   obtain⟨fl1,Γ2⟩:=p;rw[q2] at e;dsimp only at e;refine tg F H σ Γ Γ1 A x d _ k r q fun σ1 A1 k1 x1 kp=>⟨F,A1,Γ1,fl1,Γ2,k1,q2,?_⟩
   have w1:=w.step x1 kp;cases fl1 with
   |nx=>exact fun σ' H' ⟨F2,A2,x2,k2,kp2⟩=>nxt F2 H' σ' Γ2 A2 (x1.trans x2) k2 e (w1.step x2 kp2)
   |ct=>exact fun σ' H' ⟨F2,A2,x2,k2,kp2⟩=>nxt F2 H' σ' Γ2 A2 (x1.trans x2) k2 e (w1.step x2 kp2)
   |bk=>cases e;exact w1
   |rt o=>cases e;exact w1
theorem d5s{g:GG}{F H:Hp}{σ:St}{Γ Γ':Gm}{A:List Addr}{fl:Fl}{E:Ends}(k:OK K F H σ Γ A)(e:a2u g f [] Γ=some (fl,Γ'))(w:Done K m W E F H A σ fl Γ'):E.nx σ H:=by
 cases e;exact w σ H ⟨F,A,Ext.refl,k,Kept.refl⟩
def gsFor(it:GE)(g:GG)(f:GS):GS:=fun Γ=>(gFrz it Γ).bind fun p=>match p.1 with
 |.own (.frz (.lst ds))=>a2u g f ds p.2
 |_=>none
variable {tg iter:Expr} {t:TG} {gg:GG} {body:List Stmt}
def LI(K:L2.FG)(m:List Bool)(W:Option XW)(gg:GG)(f:GS)(E:Ends)(F1:Hp)(fl:Fl)(Γ':Gm)(ds:List D)(i:Nat)(σ:St)(H:Hp):Prop:=∃F A Γ,OK K F H σ Γ A/\a2u gg f (ds.drop i) Γ=some (fl,Γ')/\Done K m W E F H A σ fl Γ'/\Same F1 F
section
variable {F1 H1:Hp} {σ:St} {ds:List D} {i:Nat} {E:Ends} {fl:Fl} {Γ':Gm}
theorem LI.same(p:LI K m W gg f E F1 fl Γ' ds i σ H1):Same F1 H1:=by
 obtain⟨F',A',Γc,k',e',w',s'⟩:=p;exact s'.trans k'.le
theorem LI.turn(p:LI K m W gg f E F1 fl Γ' ds i σ H1)(ht:TgOk K m t gg){x:V}{d:D}(hd:ds[i]?=some d)(r:RepL K F1 [x] [d]):t x σ H1 fun σ2 H2=>tS K m W f { E with nx:=LI K m W gg f E F1 fl Γ' ds (i+1),ct:=LI K m W gg f E F1 fl Γ' ds (i+1),bk:=E.nx} σ2 H2:=by
 obtain⟨F',A',Γc,k',e',w',s'⟩:=p;obtain⟨hi,he⟩:=List.getElem?_eq_some_iff.mp hd;rw[List.drop_eq_getElem_cons hi,he] at e';exact c1r ht k' (r.mono s') e' w' fun F2 H2 σ2 Γ2 A2 x2 k2 e2 w2=>⟨F2,A2,Γ2,k2,e2,w2,s'.trans x2.ff⟩
theorem LI.step(p:LI K m W gg f E F1 fl Γ' ds i σ H1)(ht:TgOk K m t gg){ws:List V}(ri:RepL K F1 ws ds){x:V}(hx:ws[i]?=some x):t x σ H1 fun σ2 H2=>tS K m W f { E with nx:=LI K m W gg f E F1 fl Γ' ds (i+1),ct:=LI K m W gg f E F1 fl Γ' ds (i+1),bk:=E.nx} σ2 H2:=by
 have hi:i < ds.length:=by rw[<-ri.length];exact(List.getElem?_eq_some_iff.mp hx).1
 obtain⟨x2,hx2,rx⟩:=ri.get (List.getElem?_eq_getElem hi);rw[hx] at hx2;cases hx2;exact p.turn ht (List.getElem?_eq_getElem hi) rx
theorem LI.fin(p:LI K m W gg f E F1 fl Γ' ds i σ H1)(h:ds.length<=i):E.nx σ H1:=by
 obtain⟨F',A',Γc,k',e',w',s'⟩:=p;rw[List.drop_of_length_le h] at e';exact d5s k' e' w'
theorem LI.start{F H:Hp}{A A1:List Addr}{v:V}{d:D}{Γ1:Gm}(k1:OK K F1 H1 (some v::σ) (some (.frz d)::Γ1) A1)(x:Ext F H A F1 H1 A1)(w:Done K m W E F H A σ fl Γ')(e:a2u gg f ds Γ1=some (fl,Γ')):RepL K F1 [v] [d]/\LI K m W gg f E F1 fl Γ' ds 0 σ H1:=by
 obtain⟨B,C,h1,h2,h3⟩:=OwnL.one (σ:=σ) (Γ:=Γ1) k1.os;subst h3;cases h1 with
 |frz rp tl=>exact⟨rp,F1,_,Γ1,(k1.sub h2 (.of_sub (List.sublist_append_right _ _))).1,e,w.step (x.own' fun a m=>List.mem_append_right _ m) Kept.refl,Same.refl _⟩
theorem d9z{α:Type}{φ:List D->Gm->Option α}{z:α}{Γ:Gm}(e:((gFrz fa Γ).bind fun p=>match p.1 with|.own (.frz (.lst ds))=>φ ds p.2|_=>none)=some z):∃ds Γ1,gFrz fa Γ=some (.own (.frz (.lst ds)),Γ1)/\φ ds Γ1=some z:=by
 obtain⟨⟨r,Γ1⟩,q,e⟩:=Option.bind_eq_some_iff.mp e;dsimp only at e;split at e
 ·exact⟨_,Γ1,q,e⟩
 ·cases e
theorem d0d{v:V}(h:RepL K F1 [v] [.lst ds]):∃a ws,v=.ref a/\Rd F1 a (.lst ws)/\RepL K F1 ws ds:=by
 cases h with
 |flat z _=>cases z
 |@lst a ws vs es ds' sq ri _=>exact⟨a,ws,rfl,sq,ri⟩
end
theorem b5j(hp:PassesOwn (model X.prog X.w) X.A X.env X.xe)(hi:PE X iter (tG K fa))(hg:PG X tg t)(ht:TgOk K m t gg)(hb:PSs X body (tS K m W f))(hc:X.calm=true:=by rfl)(hK:X.K=K:=by rfl)(hs:∀x,foldedSetIterable iter X.env x=pure x:=by intro _;rfl):PS X (.For tg iter body [] pos) (tS K m W (gsFor fa gg f)):=by
 subst hK;refine(c9b hp hc (c8z (a2a hi)) hg hb hs).mono fun D σ H tt=>?_
 obtain⟨F,A,Γ,fl,Γ',k,e,w⟩:=tt;obtain⟨ds,Γ1,q,e⟩:=d9z (φ:=fun ds Γ=>a2u gg f ds Γ) e
 refine⟨F,A,Γ,_,Γ1,k,q,fun v H1 pp=>?_⟩
 obtain⟨F1,A1,x,k1,_⟩:=pp;obtain⟨rp,st⟩:=LI.start k1 x w e;obtain⟨a,ws,rfl,sq,ri⟩:=d0d rp;exact⟨a,rfl,⟨ws,.inl (k1.le.rd sq)⟩,d4w (xs:=ws) (LI X.K m W gg f D F1 fl Γ' ds) st (fun i σ' H' _ p=>.inl (p.same.rd sq)) (fun i x' σ' H' hx p=>p.step ht ri hx) fun σ' H' p=>p.fin (by rw[ri.length];exact Nat.le_refl _)⟩
end
def rngD(lo:Int)(n:Nat):List D:=(List.range n).map fun(k:Nat)=>D.int (lo+(k:Int))
theorem b7k{α:Type}(h:Nat->α){i n:Nat}(hi:i < n):((List.range n).map h).drop i=h i::((List.range n).map h).drop (i+1):=by
 have e:i < ((List.range n).map h).length:=by simpa using hi
 rw[List.drop_eq_getElem_cons e];simp
def int1:List R->Option Int
 |[.own (.frz (.int j))]=>if Nat.ble j.natAbs 1000000000000=true then some j else none
 |_=>none
theorem c5f{rs:List R}{j:Int}(e:int1 rs=some j):rs=[.own (.frz (.int j))] /\ -(2 ^ 62)<=j/\j < 2 ^ 62:=by
 unfold int1 at e;split at e
 ·split at e
  ·rename_i h
   have h:=Nat.le_of_ble_eq_true h;cases e;exact⟨rfl,by omega,by omega⟩
  ·cases e
 ·cases e
theorem int1_of{j:Int}(h:j.natAbs<=1000000):int1 [.own (.frz (.int j))]=some j:=by
 unfold int1;dsimp only;rw[if_pos (Nat.ble_eq_true_of_le (by omega))]
def b0y(fs:GA)(g:GG)(f:GS):GS:=fun Γ=>(fs Γ).bind fun p=>(int1 p.1).bind fun j=>a2u g f (rngD 0 j.toNat) p.2
section
variable {X:Cx} {K:L2.FG} {m:List Bool} {W:Option XW} {f:GS} {fa:GE} {fs:GA} {pos p:Pos} {tg a b c:Expr} {t:TG} {gg:GG} {body:List Stmt}
theorem b8y{F H:Hp}{σ:St}{Γ:Gm}{A:List Addr}{v:V}{i:Int}(h:OwnL K F H (some v::σ) (some (.frz (.int i))::Γ) A):v=.int i/\OwnL K F H σ Γ A:=by
 cases h with
 |frz r t=>
  cases r with
  |flat e _=>cases e;exact⟨rfl,t⟩
theorem e0a{α:Type}:∀{l:List α},1=l.length->∃a,l=[a]
 |[a],_=>⟨a,rfl⟩
theorem e3m{α:Type}:∀{l:List α},2=l.length->∃a b,l=[a,b]
 |[a,b],_=>⟨a,b,rfl⟩
theorem e3n{α:Type}:∀{l:List α},3=l.length->∃a b c,l=[a,b,c]
 |[a,b,c],_=>⟨a,b,c,rfl⟩
theorem LI.ints{F1 H1:Hp}{σ:St}{E:Ends}{fl:Fl}{Γ' Γ1:Gm}{F H:Hp}{A A1:List Addr}{τ:St}{Θ:Gm}{ds:List D}(k1:OK K F1 H1 τ Θ A1)(h:OwnL K F1 H1 σ Γ1 A1)(x:Ext F H A F1 H1 A1)(w:Done K m W E F H A σ fl Γ')(e:a2u gg f ds Γ1=some (fl,Γ')):LI K m W gg f E F1 fl Γ' ds 0 σ H1:=
 ⟨F1,A1,Γ1,(k1.sub h (SubP.refl _)).1,e,w.step x Kept.refl,Same.refl _⟩
theorem e3o{g:Nat->D}{n i:Nat}(h:i < n):((List.range n).map g)[i]?=some (g i):=by rw[List.getElem?_map,List.getElem?_range h];rfl
theorem b5k(hp:PassesOwn (model X.prog X.w) X.A X.env X.xe)(hm:X.mg "range"=none)(ha:PA X [a] (tGA K fs))(hg:PG X tg t)(ht:TgOk K m t gg)(hb:PSs X body (tS K m W f))(hc:X.calm=true:=by rfl)(hgl:Gl X "range":=by rfl)
  (hs:starEach [a] X.env=[(false,eval a X.env)]:=by rfl) (hf:∀x,foldedSetIterable (.Call (.Name "range" p) [a] [] pos) X.env x=pure x:=by intro _;rfl) {fp:Pos}:PS X (.For tg (.Call (.Name "range" p) [a] [] pos) body [] fp) (tS K m W (b0y fs gg f)):=by
 refine(c9b hp hc (b5a hgl hm ha hs) hg hb hf).mono fun D σ H tt=>?_
 obtain⟨F,A,Γ,fl,Γ',k,e,w⟩:=tt;obtain⟨⟨rs,Γ1⟩,q,e⟩:=Option.bind_eq_some_iff.mp e;obtain⟨j,q2,e⟩:=Option.bind_eq_some_iff.mp e;obtain⟨hj,hb⟩:=c5f q2;subst hj;refine⟨F,A,Γ,_,Γ1,k,q,fun vs H1 pp=>?_⟩
 obtain⟨F1,A1,x,k1,hh⟩:=pp;obtain⟨v,rfl⟩:=e0a hh.length;obtain⟨rfl,h2⟩:=b8y (σ:=σ) (Γ:=Γ1) k1.os;exact⟨j,rfl,hb.1,hb.2,c9c (LI K m W gg f D F1 fl Γ' (rngD 0 j.toNat)) (.ints k1 h2 x w e) (fun i σ' H' hi p=>p.turn ht (e3o hi) (.flat rfl .nil)) fun σ' H' p=>p.fin (by simp[rngD])⟩
end
abbrev GM:=List O->Option (O×Gm)
def PostC(K:L2.FG)(F H:Hp)(A:List Addr)(vs:List V)(fin:Gm)(o:O)(v:V)(H':Hp):Prop:=∃F' A',Ext F H A F' H' A'/\OK K F' H' (some v::vs.map some) (some o::fin) A'
def SpM(K:L2.FG)(n:Nat)(M:GM):Sp:=fun vs H Q _=>vs.length=n/\∃F A os o fin,OK K F H (vs.map some) (os.map some) A/\M os=some (o,fin)/\∀v H',PostC K F H A vs fin o v H'->Q v H'
def keepM:List Bool->Gm->Gm
 |true::m,x::Γ=>x::keepM m Γ
 |false::m,_::Γ=>none::keepM m Γ
 |[],_::Γ=>none::keepM [] Γ
 |_,[]=>[]
def Fl.val:Fl->Option O
 |.rt o=>some o
 |.nx=>some (.frz .non)
 |_=>none
def runM(n:Nat)(m:List Bool)(f:GS):GM:=fun os=>(f (os.map some++List.replicate (n - os.length) none)).bind fun p=>p.1.val.bind fun o=>if p.2.length=n then some (o,keepM m (p.2.take os.length)) else none
section
variable {K:L2.FG} {F H:Hp} {σ:St} {Γ:Gm} {A:List Addr}
theorem b0z:∀n:Nat,OwnL K F H (List.replicate n none) (List.replicate n none) []
 |0=>.nil
 |n+1=>.skip (b0z n)
theorem b8z:∀{m:List Bool} {vs:List V} {σ':St} {Γ:Gm} {B:List Addr},OwnL K F H σ' Γ B->σ'.length=vs.length->(∀j:Nat,m[j]?=some true->σ'[j]?=(vs.map some)[j]?)->∃C,OwnL K F H (vs.map some) (keepM m Γ) C/\C.Sublist B
 |m,[],[],[],B,h,_,_=>by
  cases m with
  |nil=>exact⟨B,h,List.Sublist.refl _⟩
  |cons b m=>cases b <;> exact⟨B,h,List.Sublist.refl _⟩
 |m,v::vs,x::σ',y::Γ,B,h,hl,hk=>by
  obtain⟨B1,B2,h1,h2,h3⟩:=h.one;subst h3;have hl':σ'.length=vs.length:=by simpa using hl
  cases m with
  |nil=>
   obtain⟨C,g1,g2⟩:=b8z (m:=[]) h2 hl' (fun j hj=>by simp at hj)
   exact⟨C,.skip g1,g2.trans (List.sublist_append_right _ _)⟩
  |cons b m=>
   obtain⟨C,g1,g2⟩:=b8z (m:=m) h2 hl' (fun j hj=>by simpa using hk (j+1) (by simpa using hj))
   cases b with
   |false=>exact⟨C,.skip g1,g2.trans (List.sublist_append_right _ _)⟩
   |true=>
    have hx:x=some v:=by simpa using hk 0 rfl
    subst hx;exact⟨B1++C,h1.app g1,g2.append_left _⟩
 |_,[],_::_,_,_,_,hl,_=>by simp at hl
 |_,_::_,[],_,_,_,hl,_=>by simp at hl
 |_,[],[],_::_,_,h,_,_=>by have:=h.length;simp at this
 |_,_::_,_::_,[],_,h,_,_=>by have:=h.length;simp at this
theorem OK.params{m:List Bool}{vs:List V}{σ':St}{Γ':Gm}{v:V}{o:O}{rest:St}(k:OK K F H (some v::σ') (some o::Γ') A)(hl:vs.length<=σ'.length)(kp:Kept m (vs.map some++rest) σ')(hm:m.length<=vs.length):
  ∃B,OK K F H (some v::vs.map some) (some o::keepM m (Γ'.take vs.length)) B/\Ext F H A F H B:=by
 obtain⟨B,C,h1,h2,h3⟩:=k.os.one;subst h3;have hΓ:=h2.length;have e1:σ'=σ'.take vs.length++σ'.drop vs.length:=(List.take_append_drop _ _).symm;have e2:Γ'=Γ'.take vs.length++Γ'.drop vs.length:=(List.take_append_drop _ _).symm;have h2':OwnL K F H (σ'.take vs.length++σ'.drop vs.length) (Γ'.take vs.length++Γ'.drop vs.length) C:=by rw[<-e1,<-e2];exact h2
 obtain⟨C1,C2,g1,g2,g3⟩:=OwnL.split (by rw[List.length_take,List.length_take];omega) h2'
 subst g3;obtain⟨C3,j1,j2⟩:=b8z (m:=m) (vs:=vs) g1 (by rw[List.length_take];omega) (fun j hj=>by
  have hlt:j < vs.length:=by
   have:=(List.getElem?_eq_some_iff.mp hj).1;omega
  rw[List.getElem?_take_of_lt hlt,kp j hj,List.getElem?_append_left (by simpa using hlt)])
 exact⟨B++C3,k.sub (h1.app j1) ((SubP.refl B).app (.of_sub (j2.trans (List.sublist_append_left _ _))))⟩
end
section
variable {P:Program} {w:World} {K:L2.FG} {mg:Str->Option Value} {base:Heap}
theorem d0e{x qual:Str}{st:Stmt}{fa:Addr}{fd:FuncData}{N ps:List Str}{k:Nat}(m:List Bool)(f:GS)(Fn:Fun K x qual st fa fd)(S:FnScope N ps (a0k st))(hm:m.length<=ps.length)
  (hbody:∀(cdv:Value) (A:Around) (outer:List Env) (s:Shared) (H:Hp) (E:XK),Room k (A.deeper (envOfC qual (a0k st) s.heap.objs.size fa cdv))->
   PSs (cxOf CX0 P w K mg base N qual (a0k st) fa cdv A outer s H E).nox (a7y st) (tS K m none f)):FnOk P w K mg base CX0 (k+1) fa fd ps (SpM K ps.length (runM N.length m f)):=by
 refine Fn.ok S (fun vs H Q E h=>h.1) fun cdv A outer s H vs Q E hr h=>⟨_,hbody cdv A outer s H E hr,?_⟩
 obtain⟨hl,F,A0,os,o,fin,k0,e,q⟩:=h;have hlo:vs.length=os.length:=by have:=k0.os.length;simpa using this
 have hN:ps.length<=N.length:=by have:=congrArg List.length S.pre;rw[List.length_take] at this;omega
 unfold runM at e;cases q1:f (os.map some++List.replicate (N.length - os.length) none) with
 |none=>rw[q1] at e;cases e
 |some p=>
  obtain⟨fl,Γ'⟩:=p;rw[q1] at e;dsimp only[Option.bind] at e;have k1:OK K F H (start N vs) (os.map some++List.replicate (N.length - os.length) none) A0:=by
   unfold start;rw[hlo];have z:=k0.os.app (b0z (K:=K) (F:=F) (H:=H) (N.length - os.length));rw[List.append_nil] at z;exact⟨k0.le,z,k0.nd,k0.fr⟩
  cases q2:fl.val with
  |none=>rw[q2] at e;cases e
  |some o'=>
   rw[q2] at e;dsimp only at e;split at e
   ·rename_i hlen
    cases e;refine⟨F,A0,_,fl,Γ',k1,q1,?_⟩;have fin':∀{F' H':Hp} {A':List Addr} {v:V} {σ':St},Ext F H A0 F' H' A'->OK K F' H' (some v::σ') (some o::Γ') A'->Kept m (start N vs) σ'->Q v H':=by
     intro F' H' A' v σ' x k' kp;unfold start at kp;have hs:σ'.length=Γ'.length:=by have:=k'.os.length;simpa using this
     obtain⟨B,k2,x2⟩:=OK.params (m:=m) (vs:=vs) k' (by omega) kp (by omega)
     rw[hlo] at k2;exact q v H' ⟨F',B,x.trans x2,k2⟩
    cases fl with
    |nx=>
     cases q2;intro σ' H' ⟨F',A',x,k',kp⟩;obtain⟨k2,x2⟩:=k'.push (v:=.non) (o:=.frz .non) (Av:=[]) (Same.refl _) (.frz (.flat rfl .nil) .nil) .nil (fun _ m=>by cases m)
     exact fin' (x.trans x2) k2 kp
    |rt o1=>
     cases q2;intro v σ' H' ⟨F',A',x,k',kp⟩;exact fin' x k' kp
    |bk=>cases q2
    |ct=>cases q2
   ·cases e
theorem a2v{x qual:Str}{st:Stmt}{fa:Addr}{fd:FuncData}{N ps:List Str}{k:Nat}(m:List Bool)(f:GS)(Fn:Fun K x qual st fa fd)(S:FnScope N ps (a0k st)){n pn:Nat}(hn:N.length=n)(hp:ps.length=pn)(hm:m.length<=ps.length)
  (hbody:∀(cdv:Value) (A:Around) (outer:List Env) (s:Shared) (H:Hp) (E:XK),Room k (A.deeper (envOfC qual (a0k st) s.heap.objs.size fa cdv))->
   ∃f',PSs (cxOf CX0 P w K mg base N qual (a0k st) fa cdv A outer s H E).nox (a7y st) (tS K m none f')/\f'=f):FnOk P w K mg base CX0 (k+1) fa fd ps (SpM K pn (runM n m f)):=by
 subst hn hp;exact d0e m f Fn S hm fun cdv A outer s H E hr=>by
  obtain⟨f',h,e⟩:=hbody cdv A outer s H E hr;rw[<-e];exact h
end
def a3c:List R->Gm->Option (List O×Gm)
 |[],Γ=>some ([],Γ)
 |.own o::rs,Γ=>(a3c rs Γ).bind fun p=>some (o::p.1,p.2)
 |.var i::rs,Γ=>match Γ[i]? with
  |some (some o)=>(a3c rs (Γ.set i none)).bind fun p=>some (o::p.1,p.2)
  |_=>none
 |_::_,_=>none
def a5m:List R->Gm->Gm->Gm
 |.own _::rs,_::fin,Γ=>a5m rs fin Γ
 |.var i::rs,f::fin,Γ=>(a5m rs fin Γ).set i f
 |_,_,Γ=>Γ
def gCall(M:GM)(fs:GA):GE:=fun Γ=>(fs Γ).bind fun p=>(a3c p.1 p.2).bind fun q=>(M q.1).bind fun r=>some (.own r.1,a5m p.1 r.2 q.2)
section
variable {K:L2.FG} {F H:Hp} {σ:St}
theorem b1a:∀{rs:List R} {vs:List V} {Γ Γ2:Gm} {os:List O} {B C:List Addr},OwnL K F H (vs.map some) (rs.map R.o) B->OwnL K F H σ Γ C->Held σ H rs vs->a3c rs Γ=some (os,Γ2)->
  ∃B' C',OwnL K F H (vs.map some) (os.map some) B'/\OwnL K F H σ Γ2 C'/\(B'++C').Perm (B++C)
 |[],[],Γ,Γ2,os,B,C,h1,h2,_,e=>by cases e;exact⟨B,C,h1,h2,.refl _⟩
 |.own o::rs,v::vs,Γ,Γ2,os,B,C,h1,h2,hh,e=>by
  obtain⟨B1,B2,g1,g2,rfl⟩:=OwnL.one h1;unfold a3c at e;cases q:a3c rs Γ with
  |none=>rw[q] at e;cases e
  |some p=>
   rw[q] at e;cases e;obtain⟨B',C',j1,j2,j3⟩:=b1a g2 h2 hh q;exact⟨B1++B',C',g1.app j1,j2,by rw[List.append_assoc,List.append_assoc];exact .append_left _ j3⟩
 |.var i::rs,v::vs,Γ,Γ2,os,B,C,h1,h2,hh,e=>by
  obtain⟨B1,B2,g1,g2,rfl⟩:=OwnL.one h1;have eB:B1=[]:=by cases g1 with|skip t=>cases t;rfl
  subst eB;unfold a3c at e;cases q0:Γ[i]? with
  |none=>rw[q0] at e;cases e
  |some z=>
   cases z with
   |none=>rw[q0] at e;cases e
   |some o=>
    rw[q0] at e;dsimp only at e;cases q:a3c rs (Γ.set i none) with
    |none=>rw[q] at e;cases e
    |some p=>
     rw[q] at e;cases e;obtain⟨v',Ai,C1,k1,k2,k3,k4⟩:=h2.take q0;rw[hh.1] at k1;cases k1;obtain⟨B',C',j1,j2,j3⟩:=b1a g2 k3 hh.2 q;refine⟨Ai++B',C',k2.app j1,j2,?_⟩;rw[List.append_assoc,List.nil_append];refine(List.Perm.append_left Ai j3).trans ?_;rw[<-List.append_assoc];refine(List.Perm.append_right C1 List.perm_append_comm).trans ?_;rw[List.append_assoc];exact .append_left _ k4.symm
 |[],_::_,_,_,_,_,_,_,_,h,_=>h.elim
 |.own _::_,[],_,_,_,_,_,_,_,h,_=>h.elim
 |.var _::_,[],_,_,_,_,_,_,_,h,_=>h.elim
theorem b3z:∀{rs:List R} {vs:List V} {fin Γ:Gm} {B C:List Addr},OwnL K F H (vs.map some) fin B->OwnL K F H σ Γ C->Held σ H rs vs->∃D,OwnL K F H σ (a5m rs fin Γ) D/\SubP D (B++C)
 |[],[],fin,Γ,B,C,h1,h2,_=>by
  cases h1;exact⟨C,h2,.of_sub (List.sublist_append_right _ _)⟩
 |.own o::rs,v::vs,[],Γ,B,C,h1,h2,hh=>by have:=h1.length;simp at this
 |.var i::rs,v::vs,[],Γ,B,C,h1,h2,hh=>by have:=h1.length;simp at this
 |.own o::rs,v::vs,f::fin,Γ,B,C,h1,h2,hh=>by
  obtain⟨B1,B2,g1,g2,rfl⟩:=OwnL.one h1;obtain⟨D,j1,j2⟩:=b3z g2 h2 hh;exact⟨D,j1,j2.trans (by rw[List.append_assoc];exact .of_sub (List.sublist_append_right _ _))⟩
 |.var i::rs,v::vs,f::fin,Γ,B,C,h1,h2,hh=>by
  obtain⟨B1,B2,g1,g2,rfl⟩:=OwnL.one h1;obtain⟨D,j1,j2⟩:=b3z g2 h2 hh.2;cases f with
  |none=>
   obtain⟨D',k1,k2⟩:=OwnL.forget i j1;exact⟨D',k1,(SubP.of_sub k2).trans (j2.trans (by rw[List.append_assoc];exact .of_sub (List.sublist_append_right _ _)))⟩
  |some o=>
   have hi:i < (a5m rs fin Γ).length:=by
    rw[<-j1.length];exact(List.getElem?_eq_some_iff.mp hh.1).1
   obtain⟨D',k1,C',k2,k3⟩:=OwnL.put g1 i j1 hi;rw[a5a hh.1] at k1;refine⟨D',k1,(SubP.of_perm k2).trans ?_⟩;rw[List.append_assoc];exact(SubP.refl B1).app ((SubP.of_sub k3).trans j2)
 |.fld _ _::_,_,[],_,_,C,_,h2,_=>⟨C,h2,.of_sub (List.sublist_append_right _ _)⟩
 |.fld _ _::_,_,_::_,_,_,C,_,h2,_=>⟨C,h2,.of_sub (List.sublist_append_right _ _)⟩
 |[],_::_,_,_,_,_,_,_,h=>h.elim
 |.own _::_,[],_,_,_,_,_,_,h=>h.elim
 |.var _::_,[],_,_,_,_,_,_,h=>h.elim
end
section
variable {X:Cx} {K:L2.FG} {k n:Nat} {f:Addr} {fd:FuncData} {ps:List Str} {x:Str} {p pos:Pos} {e:Expr} {es:List Expr} {fs:GA} {st:Stmt} {M:GM}
theorem e0b{σ:St}{H:Hp}{Q:VK}(t:tG K (gCall M fs) σ H Q)(hn:∀rs Γ Γ',fs Γ=some (rs,Γ')->rs.length=n):tCall (SpM K n M) [] E1 (tGA K fs) σ H Q:=by
 obtain⟨F,A,Γ,rr,Γ',k,e,w⟩:=t;unfold gCall at e;cases q:fs Γ with
 |none=>rw[q] at e;cases e
 |some pr=>
  obtain⟨rs,Γ1⟩:=pr;rw[q] at e;dsimp only[Option.bind] at e;cases q2:a3c rs Γ1 with
  |none=>rw[q2] at e;cases e
  |some pr2=>
   obtain⟨os,Γ2⟩:=pr2;rw[q2] at e;dsimp only at e;cases q3:M os with
   |none=>rw[q3] at e;cases e
   |some pr3=>
    obtain⟨o,fin⟩:=pr3;rw[q3] at e;cases e;refine⟨F,A,Γ,rs,Γ1,k,q,fun vs H1 pp=>?_⟩
    show SpM K n M (vs++[]) H1 Q E0;rw[List.append_nil];obtain⟨F1,A1,x,k1,hh⟩:=pp;have hl:(vs.map some).length=(rs.map R.o).length:=by rw[List.length_map,List.length_map,hh.length]
    obtain⟨B,C,h1,h2,h3⟩:=OwnL.split hl k1.os;subst h3;obtain⟨B',C',j1,j2,j3⟩:=b1a h1 h2 hh q2;have k2:OK K F1 H1 (vs.map some++σ) (os.map some++Γ2) (B'++C'):=.perm (j1.app j2) k1.le k1.nd k1.fr j3;obtain⟨A3,p3,k3⟩:=k2.swap j1.length;obtain⟨A4,k4,fr⟩:=k3.frame j2.length;refine⟨by rw[<-hh.length];exact hn rs Γ Γ1 q,F1,A4,os,o,fin,k4,q3,fun v H' pc=>w v H' ?_⟩
    obtain⟨F5,A5,x5,k5⟩:=pc;obtain⟨A6,x6,k6⟩:=fr _ _ _ _ _ x5 k5;obtain⟨D1,D2,g1,g2,g3⟩:=OwnL.split j2.length k6.os;subst g3;obtain⟨D3,D4,g4,g5,g6⟩:=g2.one;subst g6;obtain⟨D5,g7,g8⟩:=b3z g5 g1 (hh.att x6.att);have s1:SubP (D3++D5) (D1++(D3++D4)):=by
     refine((SubP.refl D3).app g8).trans (.of_perm ?_);rw[<-List.append_assoc];exact List.perm_append_comm
    obtain⟨k7,x7⟩:=k6.sub (σ':=some v::σ) (Γ':=some o::a5m rs fin Γ2) (g4.app g7) s1;have x3:Ext F1 H1 (B++C) F1 H1 A3:=Ext.own' Ext.refl fun a m=>j3.mem_iff.mp (p3.mem_iff.mp m)
    exact⟨F5,D3++D5,((x.trans x3).trans x6).trans x7,k7,True.intro⟩
theorem a0e:∀rs Γ Γ',gaNil Γ=some (rs,Γ')->rs.length=0:=fun rs Γ Γ' e=>by cases e;rfl
theorem a0a{f:GE}{g:GA}{n:Nat}(h:∀rs Γ Γ',g Γ=some (rs,Γ')->rs.length=n):∀rs Γ Γ',a0c f g Γ=some (rs,Γ')->rs.length=n+1:=fun rs Γ Γ' e=>by
 obtain⟨r,Γ1,rs',_,e2,rfl⟩:=b2g e;simp[h _ _ _ e2]
theorem a2w(D:DefAt X.K X.mg x st f fd ps)(Fn:FnOk X.prog X.w X.K X.mg X.base CX0 k f fd ps (SpM K n M))(hr:Room k X.A)(ha:PA X (e::es) (tGA K fs))(hn:∀rs Γ Γ',fs Γ=some (rs,Γ')->rs.length=n)(hg:Gl X x:=by rfl)(hdb:(x == ("__debug__":Str))=false:=by decide)
  (he:starEach (e::es) X.env=(false,eval e X.env)::starEach es X.env:=by rfl) (hpl:(backTo pos (starEach es X.env)).any (·.1)=false:=by rfl) :
  PE X (.Call (.Name x p) (e::es) [] pos) (tG K (gCall M fs)):=(pcall D Fn hr ha hg hdb he hpl).mono fun _ _ _ t=>e0b t hn
end
def frzL:List O->Option (List D)
 |[]=>some []
 |.frz d::os=>(frzL os).bind fun ds=>some (d::ds)
 |_::_=>none
def listD:O->Option (List D)
 |.frz (.lst ds)=>some ds
 |.frz (.scr ns)=>some (ns.map .int)
 |.lst os=>frzL os
 |_=>none
def tupD:O->Option (List D)
 |.frz (.tup ds)=>some ds
 |.tup os=>frzL os
 |_=>none
theorem b1b:∀ds:List D,frzL (ds.map .frz)=some ds
 |[]=>rfl
 |d::ds=>by rw[List.map_cons,frzL,b1b ds];rfl
theorem b5l:∀ds:List D,O.dl (ds.map .frz)=ds
 |[]=>rfl
 |d::ds=>by rw[List.map_cons,O.dl,b5l ds];rfl
section
variable {K:L2.FG} {F H:Hp} {x y v:V} {o:O} {B:List Addr} {ds:List D} {d:D} {ws:List V}
theorem a9u:∀{ws:List V} {os:List O} {ds:List D} {B:List Addr},OwnL K F H (ws.map some) (os.map some) B->frzL os=some ds->RepL K F ws ds
 |[],[],_,_,_,e=>by cases e;exact .nil
 |w::ws,o::os,ds,B,h,e=>by
  obtain⟨B1,B2,h1,h2,_⟩:=OwnL.one h;cases o with
  |frz d=>
   unfold frzL at e;cases q:frzL os with
   |none=>rw[q] at e;cases e
   |some ds'=>
    rw[q] at e;cases e;cases h1 with
    |frz r _=>exact .cons r (a9u h2 q)
  |_=>cases e
 |[],_::_,_,_,h,_=>by have:=h.length;simp at this
 |_::_,[],_,_,h,_=>by have:=h.length;simp at this
theorem b1c:∀{ws:List V} {ds:List D},RepL K F ws ds->OwnL K F H (ws.map some) ((ds.map .frz).map some) []
 |[],[],_=>.nil
 |w::ws,d::ds,h=>.frz h.inv.1 (b1c h.inv.2)
 |[],_::_,h=>by have:=h.length;simp at this
 |_::_,[],h=>by have:=h.length;simp at this
theorem b9a:∀ns:List Int,RepL K F (ns.map V.int) (ns.map D.int)
 |[]=>.nil
 |n::ns=>.flat rfl (b9a ns)
theorem a8b(le:Same F H)(h:OwnL K F H [some x] [some o] B)(e:listD o=some ds):∃a ws,x=.ref a/\SqL K H a ws/\RepL K F ws ds:=by
 cases h with
 |@frz _ d _ _ _ r _=>
  cases r with
  |lst q i _=>cases e;exact⟨_,_,rfl,.inl (le.rd q),i⟩
  |exc _ _=>cases e
  |obj _=>cases e
  |scr q _=>cases e;exact⟨_,_,rfl,le.seq q,b9a _⟩
  |flat q _=>cases d <;> first|(cases q;done)|cases e
  |tup _ _ _=>cases e
  |dct _ _ _ _ _=>cases e
 |lst q i _=>exact⟨_,_,rfl,SqL.of q,a9u i e⟩
 |tup _ _ _=>cases e
 |dct _ _ _ _ _=>cases e
 |ins _ _ _ _ _=>cases e
theorem d0f(le:Same F H)(h:OwnL K F H [some x] [some o] B)(e:tupD o=some ds):∃a ws,x=.ref a/\SqT K H a ws/\RepL K F ws ds:=by
 cases h with
 |@frz _ d _ _ _ r _=>
  cases r with
  |tup q i _=>cases e;exact⟨_,_,rfl,le.seqT q,i⟩
  |scr q _=>cases e
  |exc _ _=>cases e
  |obj _=>cases e
  |flat q _=>cases d <;> first|(cases q;done)|cases e
  |lst _ _ _=>cases e
  |dct _ _ _ _ _=>cases e
 |tup q i _=>exact⟨_,_,rfl,SqT.of q,a9u i e⟩
 |lst _ _ _=>cases e
 |dct _ _ _ _ _=>cases e
 |ins _ _ _ _ _=>cases e
theorem a1c(h:OwnL K F H [some x] [some (.frz d)] B)(e:a4w d=some v):x=v:=by
 cases h with
 |frz r _=>
  cases r with
  |flat q _=>rw[e] at q;exact(Option.some.inj q).symm
  |lst _ _ _=>cases e
  |tup _ _ _=>cases e
  |dct _ _ _ _ _=>cases e
  |scr _ _=>cases e
  |exc _ _=>cases e
  |obj _=>cases e
theorem a4s(le:Same F H)(h:OwnL K F H [some x] [some o] B):RepL K H [x] [o.d]:=h.rep le (fun _ _ _ e=>e) [x] [o] rfl rfl
theorem Res.lst{Q:VK}(h:Res K F H (.lst (ds.map .frz)) Q)(r:RepL K F ws ds){l:Addr}(hn:H l=none):Q (.ref l) (upd H l (.lst ws)):=
 h (.ref l) _ ([l]++[]++[]) (a3b hn) (.lst a2d (b1c r) .nil) (by simp) (fun a m=>by simp at m;rw[m];exact hn)
theorem Res.tup{Q:VK}(h:Res K F H (.tup (ds.map .frz)) Q)(r:RepL K F ws ds){l:Addr}(hn:H l=none):Q (.ref l) (upd H l (.tup ws)):=
 h (.ref l) _ ([l]++[]++[]) (a3b hn) (.tup a2d (b1c r) .nil) (by simp) (fun a m=>by simp at m;rw[m];exact hn)
theorem Sees.one{o:O}{vs:List V}(h:Sees K F H vs [o]):∃x B,vs=[x]/\OwnL K F H [some x] [some o] B:=by
 cases h with
 |cons a t=>cases t;obtain⟨B,a⟩:=a;exact⟨_,B,rfl,a⟩
theorem Sees.two{o o':O}{vs:List V}(h:Sees K F H vs [o,o']):∃x y B C,vs=[x,y]/\OwnL K F H [some x] [some o] B/\OwnL K F H [some y] [some o'] C:=by
 cases h with
 |cons a t=>cases t with
  |cons b t=>cases t;obtain⟨B,a⟩:=a;obtain⟨C,b⟩:=b;exact⟨_,_,B,C,rfl,a,b⟩
end
section
variable {X:Cx}
def rCatL(K:L2.FG):R2:=fun x y H Q=>∃l b xs zs,x=.ref l/\y=.ref b/\SqL K H l xs/\SqL K H b zs/\xs.length+zs.length<=sizeLine/\∀p,H p=none->Q (.ref p) (upd H p (.lst (xs++zs)))
theorem e0c:OpR X (binaryOp .Add) (rCatL X.K):=by
 intro pins s σ H x y v u Q I rx ry h;obtain⟨l,b,xs,zs,rfl,rfl,hH,hB,hz,q⟩:=h;cases rx;cases ry;obtain⟨its,r,pl,_⟩:=I.list hH;obtain⟨its2,r2,pl2,_⟩:=I.list hB;have hl:=r.length;have hl2:=r2.length;obtain⟨⟨cls,dd,data,sl⟩,ho,hc,n,hd⟩:=id pl.isList;obtain⟨⟨cls2,dd2,data2,sl2⟩,ho2,hc2,n2,hd2⟩:=id pl2.isList;simp only at hc hd hc2 hd2;subst hc hd hc2 hd2;have ea:its.toArray++its2.toArray=(its++its2).toArray:=by simp
 refine concat_meets ⟨_,ho,rfl⟩ ⟨_,ho2,rfl⟩ noFill_list_add seq_list_add PySem.F.slot_list_add PySem.F.entry_list_add (PySem.F.args_list_add_2 _ _) (list_addW l b its.toArray its2.toArray n n2 dd dd2 sl sl2 (by simp only[List.size_toArray];omega)) ⟨ho,ho2,?_⟩
 rw[ea];exact⟨.ref _,_,I.lnew (t':=s.toks) (r.append r2) (by rw[List.length_append];omega),rfl,q _ I.fresh⟩
theorem d5t(K:L2.FG)(hK:X.K=K:=by rfl):OpR X (binaryOp .Add) (rCatL K):=hK ▸ e0c
def addI:O->O->Option (Option O)
 |.frz (.int i),.frz (.int j)=>some (some (.frz (.int (i+j))))
 |.frz (.str x),.frz (.str y)=>some (if x.length+y.length<=1000000 then some (.frz (.str (x++y))) else none)
 |_,_=>none
def oAdd:List O->Option O
 |[a,b]=>match addI a b with
  |some r=>r
  |none=>(listD a).bind fun xs=>(listD b).bind fun ys=>if xs.length+ys.length<=1000000 then some (.lst ((xs++ys).map .frz)) else none
 |_=>none
def rAddA(K:L2.FG):R2:=fun x y H Q=>rI0 (fun i j=>.int (i+j)) x y H Q\/(∃i j,x=.str i/\y=.str j/\i.length+j.length<=sizeLine/\Q (.str (i++j)) H)\/rCatL K x y H Q
theorem a1t(K:L2.FG)(hK:X.K=K:=by rfl):OpR X (binaryOp .Add) (rAddA K):=op_add.or (op_add_str.or (d5t K hK))
theorem ml{n:Nat}(h:n<=1000000):n<=sizeLine:=Nat.le_trans h (by decide)
theorem a2p{K:L2.FG}:OpOk K (r2L (rAddA K)) oAdd:=by
 intro F H vs os o Q le see e res;unfold oAdd at e;split at e
 ·rename_i a b
  obtain⟨x,y,B,C,rfl,h1,h2⟩:=see.two;split at e
  ·rename_i r q
   unfold addI at q;split at q
   ·cases q;cases e;cases a1c h1 rfl;cases a1c h2 rfl;exact⟨_,_,rfl,.inl ⟨_,_,rfl,rfl,res.flat rfl⟩⟩
   ·cases q;split at e
    ·cases e;cases a1c h1 rfl;cases a1c h2 rfl;exact⟨_,_,rfl,.inr (.inl ⟨_,_,rfl,rfl,ml (by assumption),res.flat rfl⟩)⟩
    ·cases e
   ·cases q
  ·cases q1:listD a with
   |none=>rw[q1] at e;cases e
   |some xs=>
    rw[q1] at e;cases q2:listD b with
    |none=>rw[q2] at e;cases e
    |some ys=>
     rw[q2] at e;dsimp only[Option.bind] at e;split at e
     ·cases e;obtain⟨a1,ws1,rfl,s1,r1⟩:=a8b le h1 q1;obtain⟨a2,ws2,rfl,s2,r2⟩:=a8b le h2 q2;refine⟨_,_,rfl,.inr (.inr ⟨a1,a2,ws1,ws2,rfl,rfl,s1,s2,ml (by rw[r1.length,r2.length];assumption),fun p hp=>res.lst (r1.append r2) hp⟩)⟩
     ·cases e
 ·cases e
def oInt(C:Int->Int->Bool)(f:Int->Int->D):List O->Option O
 |[.frz (.int i),.frz (.int j)]=>if C i j=true then some (.frz (f i j)) else none
 |_=>none
theorem b7t{K:L2.FG}{r:R2}{C:Int->Int->Bool}{f:Int->Int->D}{g:Int->Int->V}(hf:∀i j,a4w (f i j)=some (g i j))(hr:∀i j H Q,C i j=true->Q (g i j) H->r (.int i) (.int j) H Q):OpOk K (r2L r) (oInt C f):=by
 intro F H vs os o Q le see e res;unfold oInt at e;split at e
 ·split at e
  ·cases e;obtain⟨x,y,B,C,rfl,h1,h2⟩:=see.two;cases a1c h1 rfl;cases a1c h2 rfl;exact⟨_,_,rfl,hr _ _ _ _ (by assumption) (res.flat (hf _ _))⟩
  ·cases e
 ·cases e
abbrev oSub:=oInt (fun _ _=>true) fun i j=>.int (i - j)
abbrev oFdiv:=oInt (fun _ j=>decide (0 < j/\j < 1073741824)) fun i j=>.int (i / j)
abbrev oMod:=oInt (fun _ j=>decide (0 < j)) fun i j=>.int (i % j)
abbrev oLt:=oInt (fun _ _=>true) fun i j=>.bl (decide (i < j))
abbrev oGt:=oInt (fun _ _=>true) fun i j=>.bl (decide (j < i))
theorem d0g{K:L2.FG}:OpOk K (r2L (rI0 fun i j=>.int (i - j))) oSub:=b7t (fun _ _=>rfl) fun _ _ _ _ _ q=>⟨_,_,rfl,rfl,q⟩
theorem c3t{K:L2.FG}:OpOk K (r2L (rI CDiv fun i j=>.int (i / j))) oFdiv:=b7t (fun _ _=>rfl) fun i j _ _ c q=>⟨_,_,rfl,rfl,show CDiv i j from of_decide_eq_true (p:=0 < j/\j < 1073741824) c,q⟩
theorem a7s{K:L2.FG}:OpOk K (r2L (rI (fun _ j=>0 < j) fun i j=>.int (i % j))) oMod:=b7t (fun _ _=>rfl) fun _ _ _ _ c q=>⟨_,_,rfl,rfl,of_decide_eq_true c,q⟩
theorem d5u{K:L2.FG}:OpOk K (r2L (rI0 fun i j=>.bl (decide (i < j)))) oLt:=b7t (fun _ _=>rfl) fun _ _ _ _ _ q=>⟨_,_,rfl,rfl,q⟩
theorem e5i{K:L2.FG}:OpOk K (r2L (rI0 fun i j=>.bl (decide (j < i)))) oGt:=b7t (fun _ _=>rfl) fun _ _ _ _ _ q=>⟨_,_,rfl,rfl,q⟩
end
instance (z:Str) (n:Int):Decidable (MulOk z n):=by unfold MulOk;infer_instance
section
variable {X:Cx}
def mulI(j:Int):O->Option O
 |.frz (.int i)=>if(-(2 ^ 64) < i/\i < 2 ^ 64)\/(-(2 ^ 64) < j/\j < 2 ^ 64) then some (.frz (.int (i * j))) else none
 |.frz (.str z)=>if MulOk z j then some (.frz (.str (Txt.mul z j))) else none
 |_=>none
def oMulA:List O->Option O
 |[a,.frz (.int j)]=>mulI j a
 |_=>none
def rMulA:R2:=fun x y H Q=>rI CMul (fun i j=>.int (i * j)) x y H Q\/∃z n,x=.str z/\y=.int n/\MulOk z n/\Q (.str (Txt.mul z n)) H
theorem a7i:OpR X (binaryOp .Mult) rMulA:=op_mul.or c7p
theorem b0f{K:L2.FG}:OpOk K (r2L rMulA) oMulA:=by
 intro F H vs os o Q le see e res;unfold oMulA at e;split at e
 ·obtain⟨x,y,B,C,rfl,h1,h2⟩:=see.two;unfold mulI at e;split at e
  ·split at e
   ·cases e;cases a1c h1 rfl;cases a1c h2 rfl;exact⟨_,_,rfl,.inl ⟨_,_,rfl,rfl,by assumption,res.flat rfl⟩⟩
   ·cases e
  ·split at e
   ·cases e;cases a1c h1 rfl;cases a1c h2 rfl;exact⟨_,_,rfl,.inr ⟨_,_,rfl,rfl,by assumption,res.flat rfl⟩⟩
   ·cases e
  ·cases e
 ·cases e
def oNeg:List O->Option O
 |[.frz (.int i)]=>some (.frz (.int (-i)))
 |_=>none
theorem e3p{K:L2.FG}:OpOk K (r1L (rU fun i=>.int (-i))) oNeg:=by
 intro F H vs os o Q le see e res;unfold oNeg at e;split at e
 ·cases e;obtain⟨x,B,rfl,h1⟩:=see.one;cases a1c h1 rfl;exact⟨_,rfl,_,rfl,res.flat rfl⟩
 ·cases e
mutual
def eqD:D->D->Bool
 |.lst xs,.lst ys=>eqDs xs ys
 |.tup xs,.tup ys=>eqDs xs ys
 |.non,.non=>true
 |.bl a,.bl b=>a == b
 |.bl a,.int b=>(if a then 1 else 0) == b
 |.int a,.bl b=>a == (if b then 1 else 0)
 |.int a,.int b=>a == b
 |.str a,.str b=>a == b
 |_,_=>false
def eqDs:List D->List D->Bool
 |[],[]=>true
 |x::xs,y::ys=>eqD x y && eqDs xs ys
 |_,_=>false
end
def okD:Nat->D->Bool
 |n+1,.lst xs=>xs.all (okD n)
 |n+1,.tup xs=>xs.all (okD n)
 |_,.non=>true
 |_,.bl _=>true
 |_,.int _=>true
 |_,.str _=>true
 |_,_=>false
theorem b1d:∀{xs ys:List D},xs.length≠ys.length->eqDs xs ys=false
 |[],[],h=>absurd rfl h
 |[],_::_,_=>by unfold eqDs;rfl
 |_::_,[],_=>by unfold eqDs;rfl
 |x::xs,y::ys,h=>by unfold eqDs;rw[b1d (by simpa using h),Bool.and_false]
theorem b1e:∀{xs ys:List D} (n:Nat),xs.length=n->ys.length=n->eqDs xs ys=(List.range n).all fun j=>eqD (xs.getD j .non) (ys.getD j .non)
 |[],[],0,_,_=>by unfold eqDs;rfl
 |x::xs,y::ys,n+1,h1,h2=>by
  unfold eqDs;rw[b1e n (by simpa using h1) (by simpa using h2),List.range_succ_eq_map,List.all_cons,List.all_map]
  rfl
 |[],_,_+1,h,_=>by simp at h
 |_::_,[],_+1,_,h=>by simp at h
 |_::_,_,0,h,_=>by simp at h
 |[],_::_,0,_,h=>by simp at h
variable {pins:List (Addr×Obj)} {σ:St} {H:Hp} {s:Shared}
theorem b3f{K:L2.FG}{F:Hp}{ws:List V}{es:List D}(r:RepL K F ws es){its:List Value}(rv:Vals ws its){j:Nat}(h:j < its.toArray.size):∃x,RelV x its.toArray[j]/\RepL K F [x] [es.getD j .non]/\j < es.length:=by
 obtain⟨x,hx,rx⟩:=rv.at h;have hl:=r.length;have hj:j < es.length:=by
  have:=(List.getElem?_eq_some_iff.mp hx).1;omega
 obtain⟨y,hy,ry⟩:=r.get (i:=j) (d:=es[j]) (by simp[hj])
 rw[hx] at hy;cases hy;refine⟨x,rx,?_,hj⟩;rw[show es.getD j .non=es[j] by simp[hj]]
 exact ry
theorem a6w{p:D->Bool}{es:List D}(h:es.all p=true){j:Nat}(hj:j < es.length):p (es.getD j .non)=true:=by
 rw[show es.getD j .non=es[j] by simp[hj]]
 exact List.all_eq_true.mp h _ (List.getElem_mem hj)
inductive Shp (K:L2.FG) (H:Hp) (s:Shared):Value->D->Prop
 |none:Shp K H s .none .non
 |bool (b:Bool):Shp K H s (.bool b) (.bl b)
 |int (i:Int) (t:Tok):Shp K H s (.int i t) (.int i)
 |str (x:Str) (t:Tok):Shp K H s (.str x t) (.str x)
 |list {a:Addr} {its:List Value} {ws:List V} {es:List D}:s.heap.IsList a its.toArray->Vals ws its->RepL K H ws es->Shp K H s (.ref a) (.lst es)
 |tuple {a:Addr} {its:List Value} {ws:List V} {es:List D}:s.heap.IsTuple a its.toArray->Vals ws its->RepL K H ws es->Shp K H s (.ref a) (.tup es)
theorem c5g(I:Inv X pins σ H s){n:Nat}{x:V}{u:Value}{d:D}(r:RepL X.K H [x] [d])(ru:RelV x u)(ok:okD n d=true):Shp X.K H s u d:=by
 cases r with
 |lst q i _=>
  cases ru;obtain⟨its,rv,pl,_⟩:=I.list (.inl q);exact .list pl.isList rv i
 |tup q i _=>
  cases ru;obtain⟨its,rv,pl,_⟩:=I.tuple q;exact .tuple pl rv i
 |dct _ _ _ _ _=>cases n <;> cases ok
 |scr _ _=>cases n <;> cases ok
 |exc _ _=>cases n <;> cases ok
 |obj _=>cases n <;> cases ok
 |flat q _=>
  cases d with
  |non=>cases q;cases ru;exact .none
  |bl b=>cases q;cases ru;exact .bool b
  |int i=>cases q;obtain⟨t,rfl⟩:=ru;exact .int i t
  |str z=>cases q;obtain⟨t,rfl⟩:=ru;exact .str z t
  |ty _=>cases n <;> cases ok
  |lst _=>cases q
  |tup _=>cases q
  |dct _=>cases q
  |scr _=>cases q
  |exc _ _=>cases q
  |obj=>cases q
theorem b2h{n:Nat}{es:List D}(h:okD n (.lst es)=true):∃m,n=m+1/\es.all (okD m)=true:=by
 cases n with
 |zero=>cases h
 |succ n=>exact⟨n,rfl,h⟩
theorem b2i{n:Nat}{es:List D}(h:okD n (.tup es)=true):∃m,n=m+1/\es.all (okD m)=true:=by
 cases n with
 |zero=>cases h
 |succ n=>exact⟨n,rfl,h⟩
theorem c1s{es:List D}(h:∀d∈es,eqD d d=true):eqDs es es=true:=by
 induction es with
 |nil=>unfold eqDs;rfl
 |cons d es ih=>unfold eqDs;rw[h d (by simp),ih fun d m=>h d (by simp[m])];rfl
theorem b9b:∀(n:Nat) {d:D},okD n d=true->eqD d d=true:=by
 intro n
 induction n with
 |zero=>intro d h;cases d <;> first|(cases h;done)|simp[eqD]
 |succ n ih=>
  intro d h;cases d with
  |lst es=>simp only[eqD];exact c1s fun d m=>ih (List.all_eq_true.mp h d m)
  |tup es=>simp only[eqD];exact c1s fun d m=>ih (List.all_eq_true.mp h d m)
  |dct _=>cases h
  |scr _=>cases h
  |exc _ _=>cases h
  |obj=>cases h
  |ty _=>cases h
  |_=>simp[eqD]
theorem c1t{xs ys:List D}(hl:xs.length=ys.length)(h:∀j,j < xs.length->xs.getD j .non=ys.getD j .non):xs=ys:=by
 apply List.ext_getElem hl;intro j h1 h2;have:=h j h1;simpa[h1,h2] using this
def unfl:V->D
 |.bl b=>.bl b
 |.int i=>.int i
 |.str x=>.str x
 |.ty n=>.ty n
 |_=>.non
theorem c1u{d:D}{v:V}(h:a4w d=some v):d=unfl v:=by cases d <;> cases h <;> rfl
theorem a6x{d:D}{a:Addr}(h:a4w d=some (.ref a)):False:=by cases d <;> cases h
theorem b9c(I:Inv X pins σ H s):∀(n m:Nat) {x:V} {d e:D},RepL X.K H [x] [d]->RepL X.K H [x] [e]->okD n d=true->okD m e=true->d=e:=by
 intro n
 induction n using Nat.strongRecOn with
 |ind n ih=>
 intro m x d e rd re od oe;have go:∀{ws:List V} {es es2:List D} {n' m':Nat},n' < n->RepL X.K H ws es->RepL X.K H ws es2->es.all (okD n')=true->es2.all (okD m')=true->es=es2:=by
  intro ws es es2 n' m' hn r1 r2 o1 o2;have l1:=r1.length;have l2:=r2.length;refine c1t (by omega) fun j hj=>?_
  have hj2:j < es2.length:=by omega
  obtain⟨v,g1,g2⟩:=r1.get (i:=j) (d:=es[j]) (by simp[hj])
  obtain⟨v',p1,p2⟩:=r2.get (i:=j) (d:=es2[j]) (by simp[hj2])
  rw[g1] at p1;cases p1;rw[show es.getD j .non=es[j] by simp[hj],show es2.getD j .non=es2[j] by simp[hj2]]
  exact ih n' hn m' g2 p2 (List.all_eq_true.mp o1 _ (List.getElem_mem hj)) (List.all_eq_true.mp o2 _ (List.getElem_mem hj2))
 cases rd with
 |flat q _=>
  cases re with
  |flat q' _=>
   rw[c1u q,c1u q']
  |lst _ _ _=>exact(a6x q).elim
  |tup _ _ _=>exact(a6x q).elim
  |dct _ _ _ _ _=>exact(a6x q).elim
  |scr _ _=>exact(a6x q).elim
  |exc _ _=>exact(a6x q).elim
  |obj _=>exact(a6x q).elim
 |lst q i _=>
  obtain⟨n',rfl,od'⟩:=b2h od;cases re with
  |flat q' _=>exact(a6x q').elim
  |lst q' i' _=>
   obtain⟨m',rfl,oe'⟩:=b2h oe;cases I.list_inj (.inl q) (.inl q');rw[go (Nat.lt_succ_self _) i i' od' oe']
  |tup q' i' _=>
   obtain⟨_,_,p1,_⟩:=I.list (.inl q);obtain⟨_,_,p2,_⟩:=I.tuple q';exact absurd rfl (SeqAt.ne_of_list_tuple p1.isList p2)
  |dct _ _ _ _ _=>cases m <;> cases oe
  |scr _ _=>cases m <;> cases oe
  |exc _ _=>cases m <;> cases oe
  |obj _=>cases m <;> cases oe
 |tup q i _=>
  obtain⟨n',rfl,od'⟩:=b2i od;cases re with
  |flat q' _=>exact(a6x q').elim
  |tup q' i' _=>
   obtain⟨m',rfl,oe'⟩:=b2i oe;cases I.tuple_inj q q';rw[go (Nat.lt_succ_self _) i i' od' oe']
  |lst q' i' _=>
   obtain⟨_,_,p1,_⟩:=I.list (.inl q');obtain⟨_,_,p2,_⟩:=I.tuple q;exact absurd rfl (SeqAt.ne_of_list_tuple p1.isList p2)
  |dct _ _ _ _ _=>cases m <;> cases oe
  |scr _ _=>cases m <;> cases oe
  |exc _ _=>cases m <;> cases oe
  |obj _=>cases m <;> cases oe
 |dct _ _ _ _ _=>cases n <;> cases od
 |scr _ _=>cases n <;> cases od
 |exc _ _=>cases n <;> cases od
 |obj _=>cases n <;> cases od
theorem c1v(I:Inv X pins σ H s):∀(n m:Nat) {A:Around} {x y:V} {u v:Value} {d e:D},RepL X.K H [x] [d]->RepL X.K H [y] [e]->okD n d=true->okD m e=true->RelV x u->RelV y v->A.units+n < cLine->
  SeqAt.EqAt A s u v (eqD d e)/\SeqAt.RcAt A s u v (eqD d e):=by
 intro n
 induction n using Nat.strongRecOn with
 |ind n ih=>
 intro m A x y u v d e rd re od oe ru rv hu;have hu0:A.units < cLine:=by omega
 have s1:=c5g I rd ru od;have s2:=c5g I re rv oe;cases s1 with
 |none=>
  cases s2 with
  |none=>
   exact⟨SeqAt.EqAt.same _,SeqAt.RcAt.none_none⟩
  |bool a2=>
   simp only[eqD];exact⟨SeqAt.EqAt.none_bool a2,SeqAt.RcAt.none_bool a2⟩
  |int a2 t2=>
   simp only[eqD];exact⟨SeqAt.EqAt.none_int a2 t2,SeqAt.RcAt.none_int a2 t2⟩
  |str a2 t2=>
   simp only[eqD];exact⟨SeqAt.EqAt.none_str a2 t2,SeqAt.RcAt.none_str a2 t2⟩
  |list l2 v2 r2=>
   simp only[eqD];exact⟨SeqAt.EqAt.none_list l2 hu0,SeqAt.RcAt.none_list l2 hu0⟩
  |tuple l2 v2 r2=>
   simp only[eqD];exact⟨SeqAt.EqAt.none_tuple l2 hu0,SeqAt.RcAt.none_tuple l2 hu0⟩
 |bool a1=>
  cases s2 with
  |none=>
   simp only[eqD];exact⟨SeqAt.EqAt.bool_none a1,SeqAt.RcAt.bool_none a1⟩
  |bool a2=>
   simp only[eqD];exact⟨SeqAt.EqAt.bool_bool a1 a2,SeqAt.RcAt.bool_bool a1 a2⟩
  |int a2 t2=>
   simp only[eqD];exact⟨SeqAt.EqAt.bool_int a1 a2 t2,SeqAt.RcAt.bool_int a1 a2 t2⟩
  |str a2 t2=>
   simp only[eqD];exact⟨SeqAt.EqAt.bool_str a1 a2 t2,SeqAt.RcAt.bool_str a1 a2 t2⟩
  |list l2 v2 r2=>
   simp only[eqD];exact⟨SeqAt.EqAt.bool_list a1 l2 hu0,SeqAt.RcAt.bool_list a1 l2 hu0⟩
  |tuple l2 v2 r2=>
   simp only[eqD];exact⟨SeqAt.EqAt.bool_tuple a1 l2 hu0,SeqAt.RcAt.bool_tuple a1 l2 hu0⟩
 |int a1 t1=>
  cases s2 with
  |none=>
   simp only[eqD];exact⟨SeqAt.EqAt.int_none a1 t1,SeqAt.RcAt.int_none a1 t1⟩
  |bool a2=>
   simp only[eqD];exact⟨SeqAt.EqAt.int_bool a1 t1 a2,SeqAt.RcAt.int_bool a1 t1 a2⟩
  |int a2 t2=>
   simp only[eqD];exact⟨SeqAt.EqAt.int_int a1 t1 a2 t2,SeqAt.RcAt.int_int a1 t1 a2 t2⟩
  |str a2 t2=>
   simp only[eqD];exact⟨SeqAt.EqAt.int_str a1 t1 a2 t2,SeqAt.RcAt.int_str a1 t1 a2 t2⟩
  |list l2 v2 r2=>
   simp only[eqD];exact⟨SeqAt.EqAt.int_list a1 t1 l2 hu0,SeqAt.RcAt.int_list a1 t1 l2 hu0⟩
  |tuple l2 v2 r2=>
   simp only[eqD];exact⟨SeqAt.EqAt.int_tuple a1 t1 l2 hu0,SeqAt.RcAt.int_tuple a1 t1 l2 hu0⟩
 |str a1 t1=>
  cases s2 with
  |none=>
   simp only[eqD];exact⟨SeqAt.EqAt.str_none a1 t1,SeqAt.RcAt.str_none a1 t1⟩
  |bool a2=>
   simp only[eqD];exact⟨SeqAt.EqAt.str_bool a1 t1 a2,SeqAt.RcAt.str_bool a1 t1 a2⟩
  |int a2 t2=>
   simp only[eqD];exact⟨SeqAt.EqAt.str_int a1 t1 a2 t2,SeqAt.RcAt.str_int a1 t1 a2 t2⟩
  |str a2 t2=>
   simp only[eqD];exact⟨SeqAt.EqAt.str_str a1 t1 a2 t2,SeqAt.RcAt.str_str a1 t1 a2 t2⟩
  |list l2 v2 r2=>
   simp only[eqD];exact⟨SeqAt.EqAt.str_list a1 t1 l2 hu0,SeqAt.RcAt.str_list a1 t1 l2 hu0⟩
  |tuple l2 v2 r2=>
   simp only[eqD];exact⟨SeqAt.EqAt.str_tuple a1 t1 l2 hu0,SeqAt.RcAt.str_tuple a1 t1 l2 hu0⟩
 |list l1 v1 r1=>
  cases s2 with
  |none=>
   simp only[eqD];exact⟨SeqAt.EqAt.list_none l1 hu0,SeqAt.RcAt.list_none l1 hu0⟩
  |bool a2=>
   simp only[eqD];exact⟨SeqAt.EqAt.list_bool a2 l1 hu0,SeqAt.RcAt.list_bool a2 l1 hu0⟩
  |int a2 t2=>
   simp only[eqD];exact⟨SeqAt.EqAt.list_int a2 t2 l1 hu0,SeqAt.RcAt.list_int a2 t2 l1 hu0⟩
  |str a2 t2=>
   simp only[eqD];exact⟨SeqAt.EqAt.list_str a2 t2 l1 hu0,SeqAt.RcAt.list_str a2 t2 l1 hu0⟩
  |list l2 v2 r2=>
   rename_i a its ws es b its2 ws2 es2
   obtain⟨n',rfl,od'⟩:=b2h od;obtain⟨m',rfl,oe'⟩:=b2h oe;have la:=v1.length;have lb:=v2.length;have la':=r1.length;have lb':=r2.length;have rc:SeqAt.RcAt A s (.ref a) (.ref b) (eqD (.lst es) (.lst es2)):=by
    simp only[eqD];by_cases hl:es.length=es2.length
    ·rw[b1e its.toArray.size (by simp only[List.size_toArray];omega) (by simp only[List.size_toArray];omega)]
     refine SeqAt.RcAt.lists (A:=A) l1 l2 (by simp only[List.size_toArray];omega) hu0 fun j h1 h2=>?_
     obtain⟨x1,q1,q2,q3⟩:=b3f r1 v1 h1;obtain⟨y1,p1,p2,p3⟩:=b3f r2 v2 h2;exact(ih n' (Nat.lt_succ_self _) m' q2 p2 (a6w od' q3) (a6w oe' p3) q1 p1 (by show A.units+1+n' < cLine;omega)).1
    ·rw[b1d hl];exact SeqAt.RcAt.lists_lengths (A:=A) l1 l2 (by simp only[List.size_toArray,bne_iff_ne,ne_eq];omega) hu0
   refine⟨?_,rc⟩;by_cases hab:a=b
   ·subst hab;have exy:x=y:=RelV.inj ru rv;subst exy;have e2:=b9c I _ _ rd re od oe;cases e2;rw[b9b _ od];exact SeqAt.EqAt.same _
   ·exact SeqAt.EqAt.of_refs hab rc
  |tuple l2 v2 r2=>
   simp only[eqD];exact⟨SeqAt.EqAt.list_tuple l1 l2 hu0,SeqAt.RcAt.list_tuple l1 l2 hu0⟩
 |tuple l1 v1 r1=>
  cases s2 with
  |none=>
   simp only[eqD];exact⟨SeqAt.EqAt.tuple_none l1 hu0,SeqAt.RcAt.tuple_none l1 hu0⟩
  |bool a2=>
   simp only[eqD];exact⟨SeqAt.EqAt.tuple_bool a2 l1 hu0,SeqAt.RcAt.tuple_bool a2 l1 hu0⟩
  |int a2 t2=>
   simp only[eqD];exact⟨SeqAt.EqAt.tuple_int a2 t2 l1 hu0,SeqAt.RcAt.tuple_int a2 t2 l1 hu0⟩
  |str a2 t2=>
   simp only[eqD];exact⟨SeqAt.EqAt.tuple_str a2 t2 l1 hu0,SeqAt.RcAt.tuple_str a2 t2 l1 hu0⟩
  |list l2 v2 r2=>
   simp only[eqD];exact⟨SeqAt.EqAt.tuple_list l1 l2 hu0,SeqAt.RcAt.tuple_list l1 l2 hu0⟩
  |tuple l2 v2 r2=>
   rename_i a its ws es b its2 ws2 es2
   obtain⟨n',rfl,od'⟩:=b2i od;obtain⟨m',rfl,oe'⟩:=b2i oe;have la:=v1.length;have lb:=v2.length;have la':=r1.length;have lb':=r2.length;have rc:SeqAt.RcAt A s (.ref a) (.ref b) (eqD (.tup es) (.tup es2)):=by
    have z:=SeqAt.RcAt.tuples (A:=A) (e:=fun j=>eqD (es.getD j .non) (es2.getD j .non)) l1 l2 hu0 fun j h1 h2=>by
     obtain⟨x1,q1,q2,q3⟩:=b3f r1 v1 h1;obtain⟨y1,p1,p2,p3⟩:=b3f r2 v2 h2;exact(ih n' (Nat.lt_succ_self _) m' q2 p2 (a6w od' q3) (a6w oe' p3) q1 p1 (by show A.units+1+n' < cLine;omega)).1
    simp only[eqD];by_cases hl:es.length=es2.length
    ·rw[b1e its.toArray.size (by simp only[List.size_toArray];omega) (by simp only[List.size_toArray];omega)]
     have e1:its2.toArray.size=its.toArray.size:=by simp only[List.size_toArray];omega
     rw[e1,Nat.min_self,beq_self_eq_true,Bool.and_true] at z;exact z
    ·rw[b1d hl];have e1:(its.toArray.size == its2.toArray.size)=false:=by rw[beq_eq_false_iff_ne];simp only[List.size_toArray];omega
     rw[e1,Bool.and_false] at z;exact z
   refine⟨?_,rc⟩;by_cases hab:a=b
   ·subst hab;have exy:x=y:=RelV.inj ru rv;subst exy;have e2:=b9c I _ _ rd re od oe;cases e2;rw[b9b _ od];exact SeqAt.EqAt.same _
   ·exact SeqAt.EqAt.of_refs hab rc
end
mutual
theorem c3u:∀k j:TK,eqD k.d j.d=decide (k=j)
 |.inl a,.inl b=>by simp only[TK.d,eqD];rw[Bool.eq_iff_iff];simp
 |.inr a,.inr b=>by simp only[TK.d,eqD];rw[Bool.eq_iff_iff];simp
 |.tp l,.tp m=>by simp only[TK.d,eqD];rw[eqD_keys l m,Bool.eq_iff_iff];simp
 |.inl _,.inr _=>by simp[TK.d,eqD]
 |.inl _,.tp _=>by simp[TK.d,eqD]
 |.inr _,.inl _=>by simp[TK.d,eqD]
 |.inr _,.tp _=>by simp[TK.d,eqD]
 |.tp _,.inl _=>by simp[TK.d,eqD]
 |.tp _,.inr _=>by simp[TK.d,eqD]
theorem eqD_keys:∀l m:List TK,eqDs (TK.dl l) (TK.dl m)=decide (l=m)
 |[],[]=>by simp[TK.dl,eqDs]
 |a::l,b::m=>by simp only[TK.dl,eqDs];rw[c3u a b,eqD_keys l m,Bool.eq_iff_iff];simp
 |[],_::_=>by simp[TK.dl,eqDs]
 |_::_,[]=>by simp[TK.dl,eqDs]
end
theorem d7w:∀l:List TK,TK.dl l=l.map TK.d
 |[]=>by simp[TK.dl]
 |a::l=>by simp[TK.dl,d7w l]
theorem b2j:∀(n:Nat) {k:TK},k.ok n=true->okD n k.d=true
 |n,.inl i,_=>by cases n <;> simp[TK.d,okD]
 |n,.inr i,_=>by cases n <;> simp[TK.d,okD]
 |0,.tp l,h=>by simp[TK.ok] at h
 |n+1,.tp l,h=>by
  simp only[TK.d,okD,d7w,List.all_map];refine List.all_eq_true.mpr fun a m=>?_
  exact b2j n (List.all_eq_true.mp (by simpa only[TK.ok] using h) a m)
theorem d0h{α:Type}{M:Model}{A:Around}{E:Value->Shared->Prop}{s:Shared}{c:Prop}[Decidable c]{a b:Sem α}{Q:α->Shared->Prop}(h1:wpAny M A a Q E s)(h2:wpAny M A b Q E s):wpAny M A (if c then a else b) Q E s:=by
 split
 ·exact h1
 ·exact h2
theorem b3g(w:World):∀l m:List TK,TK.hashL w (l++m)=TK.hashL w l++TK.hashL w m
 |[],m=>by simp[TK.hashL]
 |a::l,m=>by simp[TK.hashL,b3g w l m]
theorem b5m{α β:Type}{R:α->β->Prop}:∀{l:List α} {m:List β} (i:Nat) {b:β},Paired R l m->m[i]?=some b->∃a,l[i]?=some a/\R a b
 |_,_,_,_,.nil,e=>by simp at e
 |_,_,0,_,.cons r _,e=>by simp at e;subst e;exact⟨_,rfl,r⟩
 |_,_,i+1,_,.cons _ t,e=>by
  obtain⟨a,h1,h2⟩:=b5m i t (by simpa using e)
  exact⟨a,by simpa using h1,h2⟩
theorem b5n{α β:Type}{R:α->β->Prop}:∀{l:List α} {m:List β} (i:Nat) {a:α},Paired R l m->l[i]?=some a->∃b,m[i]?=some b/\R a b
 |_,_,_,_,.nil,e=>by simp at e
 |_,_,0,_,.cons r _,e=>by simp at e;subst e;exact⟨_,rfl,r⟩
 |_,_,i+1,_,.cons _ t,e=>by
  obtain⟨a,h1,h2⟩:=b5n i t (by simpa using e)
  exact⟨a,by simpa using h1,h2⟩
section
variable {X:Cx} {pins:List (Addr×Obj)} {σ:St} {H:Hp}
theorem d0i{A:Around}{E:Value->Shared->Prop}{s:Shared}{y:V}{u:Value}{i:Int}{Q:Int->Shared->Prop}(r:RepL X.K H [y] [TK.d (.inl i)])(ru:RelV y u)(h:∀t,Q (TK.hash X.w (.inl i)) { s with toks:=t}):wpAny (model X.prog X.w) A (pyHash u) Q E s:=by
 simp only[TK.d] at r;cases r with
 |flat q _=>cases q;obtain⟨t,rfl⟩:=ru;exact wpAny_pyHash_int (by simpa only[TK.hash] using h _)
theorem d0j{A:Around}{E:Value->Shared->Prop}{s:Shared}{y:V}{u:Value}{i:Str}{Q:Int->Shared->Prop}(r:RepL X.K H [y] [TK.d (.inr i)])(ru:RelV y u)(h:∀t,Q (TK.hash X.w (.inr i)) { s with toks:=t}):wpAny (model X.prog X.w) A (pyHash u) Q E s:=by
 simp only[TK.d] at r;cases r with
 |flat q _=>cases q;obtain⟨t,rfl⟩:=ru;exact wpAny_pyHash_str (by simpa only[TK.hash] using h _)
theorem c5h:∀(n:Nat) {A:Around} {E:Value->Shared->Prop} {s:Shared} {y:V} {u:Value} {k:TK} {Q:Int->Shared->Prop},Inv X pins σ H s->RepL X.K H [y] [k.d]->k.ok n=true->RelV y u->A.units+n < cLine->
  (∀t,Q (k.hash X.w) { s with toks:=t})->wpAny (model X.prog X.w) A (pyHash u) Q E s:=by
 intro n
 induction n with
 |zero=>
  intro A E s y u k Q I r ok ru hu h;cases k with
  |tp l=>simp[TK.ok] at ok
  |inl i=>exact d0i r ru h
  |inr x=>exact d0j r ru h
 |succ n ih=>
  intro A E s y u k Q I r ok ru hu h;cases k with
  |inl i=>exact d0i r ru h
  |inr x=>exact d0j r ru h
  |tp l=>
   simp only[TK.d] at r;cases r with
   |flat q _=>cases q
   |@tup a ws _ _ _ q i _=>
    cases ru;obtain⟨its,rv,pl,_⟩:=I.tuple q;have hT:s.TypeIs (.ref a) "tuple":=pl.typeIs;obtain⟨o,g1,g2,nn,g3⟩:=pl;have ok:l.all (TK.ok n)=true:=by simpa only[TK.ok] using ok
    show wpAny _ _ (pyHashByItsType (.ref a)) Q E s;unfold pyHashByItsType;refine wpAny_bind (wpAny_cRoomFor_or (.inr (by omega)) (wpAny_bind (wpAny_specialOf hT F.slot_tuple_hash.lookup ?_)))
    dsimp only;rw[if_neg (by rw[beq_builtin_none];exact Bool.false_ne_true)]
    refine wpAny_bind (wpAny_specialOf hT F.slot_tuple_hash.lookup (wpAny_bind ?_));refine wpAny_callSpecialIfBoundUnlessNone?_slot hT F.slot_tuple_hash (wpAny_call_entry F.slot_tuple_hash hT F.entry_tuple_hash ?_ (F.args_tuple_hash_1 _));show wpAny _ _ (Builtin.Tuple.tupleItemsOf (.ref a) >>= fun z=>_) _ _ s
    refine wpAny_bind (wpAny_tupleItemsOf g1 g3 (wpAny_bind ?_));rw[<-Array.forIn_toList];refine wpAny_forIn_list _ (fun rest (b:Array Int) s'=>∃done left wl t,l=done++left/\RepL X.K H wl (TK.dl left)/\Vals wl rest/\b.toList=TK.hashL X.w done/\s'={ s with toks:=t}) _ ?_ ?_ _ _ ⟨[],l,ws,s.toks,rfl,i,rv,by simp[TK.hashL],rfl⟩
    ·rintro x rest b s' ⟨done,left,wl,t,e,r',v',hb,rfl⟩;cases v' with
     |@cons w1 _ wl _ rw1 v'=>
      cases left with
      |nil=>have:=r'.length;simp[TK.dl] at this
      |cons k1 left=>
       simp only[TK.dl] at r';have ok1:k1.ok n=true:=List.all_eq_true.mp ok k1 (by rw[e];simp)
       have fin:∀t',∃done' left' wl' t'',l=done'++left'/\RepL X.K H wl' (TK.dl left')/\Vals wl' rest/\(b.push (k1.hash X.w)).toList=TK.hashL X.w done'/\({ s with toks:=t'}:Shared)={ s with toks:=t''}:=
        fun t'=>⟨done++[k1],left,wl,t',by simp[e],r'.inv.2,v',by rw[b3g,<-hb];simp[TK.hashL],rfl⟩
       exact wpAny_bind (ih (I.tok t) r'.inv.1 ok1 rw1 (by show A.units+1+n < cLine;omega) fun t'=>by
        first
         |exact wpAny_pure (fin t')
         |exact wpAny_bind (wpAny_pure (wpAny_pure (fin t'))))
    ·rintro b s' ⟨done,left,wl,t,e,r',v',hb,rfl⟩;cases v';have hl:left=[]:=by
      cases left with
      |nil=>rfl
      |cons _ _=>have:=r'.length;simp[TK.dl] at this
     subst hl;rw[List.append_nil] at e;subst e;show wpAny _ _ (retInt (Builtin.Tuple.tupleHashOf b.toList)) _ _ _;rw[hb];refine wpAny_ret_mkInt ?_;have h':∀t,Q (reduceHash (Builtin.Tuple.tupleHashOf (TK.hashL X.w l))) { s with toks:=t}:=fun t=>by simpa only[TK.hash] using h t
     unfold reduceHash at h';show wpAny _ _ (if(decide (-(2:Int) ^ 63<=Builtin.Tuple.tupleHashOf (TK.hashL X.w l)) && decide (Builtin.Tuple.tupleHashOf (TK.hashL X.w l) < 2 ^ 63))=true then _ else _) Q E _
     split
     ·rename_i hc
      rw[if_pos hc] at h';exact wpAny_pure (h' _)
     ·rename_i hc
      rw[if_neg hc] at h';exact wpAny_bind (wpAny_rule (wpAny_pure (h' _)))
theorem c1w:∀(n:Nat) {A:Around} {E:Value->Shared->Prop} {s:Shared} {y:V} {u:Value} {k:TK} {Q:Bool->Shared->Prop},Inv X pins σ H s->RepL X.K H [y] [k.d]->k.ok n=true->RelV y u->Q true s->
  wpAny (model X.prog X.w) A (eqIsQuiet n u) Q E s:=by
 intro n
 induction n with
 |zero=>
  intro A E s y u k Q I r ok ru h;cases k with
  |tp l=>simp[TK.ok] at ok
  |inl i=>simp only[TK.d] at r;cases r with|flat q _=>cases q;obtain⟨t,rfl⟩:=ru;rw[eqIsQuiet_byValue 0 rfl];exact wpAny_pure h
  |inr i=>simp only[TK.d] at r;cases r with|flat q _=>cases q;obtain⟨t,rfl⟩:=ru;rw[eqIsQuiet_byValue 0 rfl];exact wpAny_pure h
 |succ n ih=>
  intro A E s y u k Q I r ok ru h;cases k with
  |inl i=>simp only[TK.d] at r;cases r with|flat q _=>cases q;obtain⟨t,rfl⟩:=ru;rw[eqIsQuiet_byValue (n+1) rfl];exact wpAny_pure h
  |inr i=>simp only[TK.d] at r;cases r with|flat q _=>cases q;obtain⟨t,rfl⟩:=ru;rw[eqIsQuiet_byValue (n+1) rfl];exact wpAny_pure h
  |tp l=>
   simp only[TK.d] at r;cases r with
   |flat q _=>cases q
   |@tup a ws _ _ _ q i _=>
    cases ru;obtain⟨its,rv,pl,_⟩:=I.tuple q;have hT:s.TypeIs (.ref a) "tuple":=pl.typeIs;obtain⟨o,g1,g2,nn,g3⟩:=pl;have ok:l.all (TK.ok n)=true:=by simpa only[TK.ok] using ok
    unfold eqIsQuiet;refine wpAny_bind (wpAny_specialOf hT F.slot_tuple_eq.lookup (wpAny_bind (wpAny_isInstance hT isSubtype_tuple_tuple ?_)));simp only[Bool.not_true,Bool.false_eq_true,if_false];refine wpAny_bind (wpAny_seqItems g1 g3 (wpAny_bind ?_));show wpAny _ _ (forIn its.toArray _ _) _ _ s;rw[<-Array.forIn_toList];refine wpAny_forIn_list _ (fun rest r s'=>r.1=none/\s'=s/\∃left wl,RepL X.K H wl (TK.dl left)/\Vals wl rest/\∀x∈left,x.ok n=true) _ ?_ ?_ _ _ ⟨rfl,rfl,l,ws,i,rv,fun x m=>List.all_eq_true.mp ok x m⟩
    ·rintro v rest r s' ⟨hr,rfl,left,wl,r',v',hk⟩;cases v' with
     |@cons w1 _ wl _ rw1 v'=>
      cases left with
      |nil=>have:=r'.length;simp[TK.dl] at this
      |cons k1 left=>
       simp only[TK.dl] at r';refine wpAny_bind (ih I r'.inv.1 (hk k1 (by simp)) rw1 ?_)
       simp only[Bool.not_true,Bool.false_eq_true,if_false];exact wpAny_pure ⟨rfl,rfl,left,wl,r'.inv.2,v',fun x m=>hk x (by simp[m])⟩
    ·rintro⟨r1,r2⟩ s' ⟨hr,rfl,_⟩;cases(show r1=none from hr);exact wpAny_pure h
structure DAt (X:Cx) (A:Around) (E:Value->Shared->Prop) (s:Shared) (xs:Array DictEntry) (es:List (TK×V×V)) (k:TK) (u:Value):Prop where
 ent:∀(j:Nat) (x:DictEntry),xs[j]?=some x->∃e,es[j]?=some e/\EntG X.w e x/\(∀(R:Bool->Shared->Prop),R (decide (e.1=k)) s->wpAny (model X.prog X.w) A (eqBool x.key u) R E s)/\
  ∀(R:Bool->Shared->Prop),R true s->wpAny (model X.prog X.w) A (eqIsQuiet 8 x.key) R E s
 ents:∀(j:Nat) (e:TK×V×V),es[j]?=some e->∃x:DictEntry,xs[j]?=some x/\EntG X.w e x
 uniq:∀(i j:Nat) (e f:TK×V×V),es[i]?=some e->es[j]?=some f->e.1=k->f.1=k->i=j
theorem e3q{A:Around}{E:Value->Shared->Prop}{s:Shared}{xs:Array DictEntry}{es:List (TK×V×V)}{k:TK}{y:V}{u:Value}(I:Inv X pins σ H s)(g3:Paired (EntG X.w) es xs.toList)(g4:(es.map (·.1)).Nodup)
  (rk:RepL X.K H (es.map (·.2.1)) (es.map (·.1.d))) (ry:RepL X.K H [y] [k.d]) (ok:k.ok 8=true) (ru:RelV y u) (hu:A.units+8 < cLine):DAt X A E s xs es k u where
 ent:=fun j x hx=>by
  obtain⟨e,e1,e2⟩:=b5m j g3 (by rw[Array.getElem?_toList];exact hx)
  obtain⟨v,v1,v2⟩:=rk.get (i:=j) (d:=e.1.d) (by rw[List.getElem?_map,e1];rfl)
  rw[List.getElem?_map,e1] at v1;cases v1;refine⟨e,e1,e2,fun R hR=>?_,fun R hR=>c1w 8 I v2 e2.2.2.2 e2.2.1 hR⟩
  refine(c1v I 8 8 v2 ry (b2j 8 e2.2.2.2) (b2j 8 ok) e2.2.1 ru hu).1 X.prog X.w E R ?_;rw[c3u];exact hR
 ents:=fun j e he=>by
  obtain⟨x,x1,x2⟩:=b5n j g3 he;exact⟨x,by rw[<-Array.getElem?_toList];exact x1,x2⟩
 uniq:=fun i j e f he hf ek fk=>by
  have hi:(es.map (·.1))[i]?=some k:=by rw[List.getElem?_map,he,<-ek];rfl
  have hj:(es.map (·.1))[j]?=some k:=by rw[List.getElem?_map,hf,<-fk];rfl
  exact(List.getElem?_inj (List.getElem?_eq_some_iff.mp hi).1 g4).mp (hi.trans hj.symm)
section
variable {A:Around} {E:Value->Shared->Prop} {s:Shared} {d:Addr} {o:Obj} {xs:Array DictEntry} {ep:Nat} {es:List (TK×V×V)} {k:TK} {u:Value} {Q:Option Nat->Shared->Prop}
abbrev plc(xs:Array DictEntry)(h:Int):List Nat:=placesWithHash xs.size (fun i=>xs[i]?.map (·.hash)) h
theorem plc_mem{h:Int}{i:Nat}:i∈plc xs h↔∃x,xs[i]?=some x/\x.hash=h:=by
 unfold plc placesWithHash;rw[List.mem_filter,List.mem_range];constructor
 ·rintro⟨h1,h2⟩;refine⟨xs[i],Array.getElem?_eq_getElem h1,?_⟩;dsimp only at h2;rw[Array.getElem?_eq_getElem h1] at h2;simpa using h2
 ·rintro⟨x,h1,h2⟩;refine⟨(Array.getElem?_eq_some_iff.mp h1).1,?_⟩;dsimp only;rw[h1,Option.map_some,h2];simp
theorem d0k{h:Int}:(plc xs h).Nodup:=List.Nodup.sublist List.filter_sublist List.nodup_range
theorem DAt.plc(D:DAt X A E s xs es k u){j:Nat}{e:TK×V×V}(he:es[j]?=some e)(ek:e.1=k):j∈plc xs (k.hash X.w):=by
 obtain⟨x,x1,x2⟩:=D.ents j e he;exact plc_mem.mpr ⟨x,x1,by rw[x2.1,ek]⟩
theorem d0l(D:DAt X A E s xs es k u)(g1:s.heap.get? d=some o)(g2:o.data=.dict xs ep)
  (q0:(∀(j:Nat) (e:TK×V×V),es[j]?=some e->e.1≠k)->Q none s) (q1:∀(j:Nat) (e:TK×V×V),es[j]?=some e->e.1=k->Q (some j) s) :
  wpAny (model X.prog X.w) A (dictWalkPlain d u (k.hash X.w) xs (plc xs (k.hash X.w))) Q E s:=by
 unfold dictWalkPlain;refine wpAny_bind (wpAny_forIn_list _ (fun rest b s'=>s'=s/\b=(none,())/\∃done,plc xs (k.hash X.w)=done++rest/\∀j e,j∈done->es[j]?=some e->e.1≠k) _ ?_ ?_ _ _ ⟨rfl,rfl,[],rfl,fun _ _ m=>by cases m⟩)
 ·rintro i rest b s' ⟨rfl,rfl,done,hd,hno⟩;obtain⟨x,x1,x2⟩:=plc_mem.mp (show i∈plc xs (k.hash X.w) by rw[hd];simp)
  obtain⟨e,e1,e2,eq,_⟩:=D.ent i x x1;simp only[x1];rw[if_pos (by rw[x2];simp)]
  refine wpAny_bind (wpAny_dictEpoch g1 g2 (wpAny_bind (eq _ (wpAny_bind (wpAny_dictEpoch g1 g2 ?_)))));rw[if_neg (by simp)]
  by_cases ek:e.1=k
  ·rw[decide_eq_true ek];exact wpAny_bind (wpAny_rule (wpAny_pure (wpAny_pure (q1 i e e1 ek))))
  ·rw[decide_eq_false ek];refine wpAny_bind (wpAny_rule (wpAny_pure ⟨rfl,rfl,done++[i],by simp[hd],fun j f m hf=>?_⟩))
   rcases List.mem_append.mp m with m|m
   ·exact hno j f m hf
   ·simp at m;subst m;rw[e1] at hf;cases hf;exact ek
 ·rintro b s' ⟨rfl,rfl,done,hd,hno⟩;refine wpAny_pure (q0 fun j e he ek=>hno j e ?_ he ek)
  have:=D.plc he ek;rw[hd] at this;simpa using this
def idv(u:Value):Value:=u
theorem d5v(D:DAt X A E s xs es k u)(g1:s.heap.get? d=some o)(g2:o.data=.dict xs ep)(hq:∀(R:Bool->Shared->Prop),R true s->wpAny (model X.prog X.w) A (eqIsQuiet 8 u) R E s)
  (hs:∀z t,u=.str z t->k=.inr z) (hst:∀(j:Nat) (x:DictEntry) (e:TK×V×V) z t,xs[j]?=some x->es[j]?=some e->x.key=.str z t->e.1=.inr z) (hh:∀a (j:Nat) (x:DictEntry) (e:TK×V×V),u=.ref a->xs[j]?=some x->es[j]?=some e->x.key=u->e.1=k)
  (q0:(∀(j:Nat) (e:TK×V×V),es[j]?=some e->e.1≠k)->Q none s) (q1:∀(j:Nat) (e:TK×V×V),es[j]?=some e->e.1=k->Q (some j) s) :
  wpAny (model X.prog X.w) A (dictFind d u (k.hash X.w)) Q E s:=by
 have walk:=d0l D g1 g2 q0 q1;have stored:∀v∈(plc xs (k.hash X.w)).filterMap (fun i=>xs[i]?.map (·.key)),∀(R:Bool->Shared->Prop),R true s->wpAny (model X.prog X.w) A (eqIsQuiet 8 v) R E s:=by
  intro v hv R hR;obtain⟨i,_,hi⟩:=List.mem_filterMap.mp hv;cases hx:xs[i]? with
  |none=>rw[hx] at hi;cases hi
  |some x=>
   rw[hx] at hi;obtain rfl:x.key=v:=by simpa using hi
   obtain⟨e,_,_,_,h⟩:=D.ent i x hx;exact h R hR
 have tell:∀(R:Bool->Shared->Prop),R false s->wpAny (model X.prog X.w) A (tableMayTell u ((plc xs (k.hash X.w)).filterMap fun i=>xs[i]?.map (·.key))) R E s:=by
  intro R hR;unfold tableMayTell;split
  ·exact wpAny_pure hR
  ·refine wpAny_bind (hq _ ?_);simp only[Bool.not_true,Bool.false_eq_true,if_false];refine wpAny_bind (wpAny_forIn_list _ (fun rest r s'=>s'=s/\r=(none,())/\∀v∈rest,∀(R:Bool->Shared->Prop),R true s->wpAny (model X.prog X.w) A (eqIsQuiet 8 v) R E s) _ ?_ ?_ _ _ ⟨rfl,rfl,stored⟩)
   ·rintro x rest r s' ⟨rfl,rfl,hr⟩;refine wpAny_bind (hr x (by simp) _ ?_)
    simp only[Bool.not_true,Bool.false_eq_true,if_false];exact wpAny_pure ⟨rfl,rfl,fun v hv=>hr v (by simp[hv])⟩
   ·rintro r s' ⟨rfl,rfl,_⟩;exact wpAny_pure hR
 have tell2:∀(R:Bool->Shared->Prop),R false s->wpAny (model X.prog X.w) A (if((plc xs (k.hash X.w)).filterMap (fun i=>xs[i]?.map (·.key)) == [u])=true then pure false else tableMayTell u ((plc xs (k.hash X.w)).filterMap fun i=>xs[i]?.map (·.key))) R E s:=by
  intro R hR;split
  ·exact wpAny_pure hR
  ·exact tell R hR
 have fin:∀(i:Nat) (x:DictEntry) (e:TK×V×V),xs[i]?=some x->es[i]?=some e->EntG X.w e x->(x.hash == k.hash X.w)=false->e.1≠k:=fun i x e _ _ he hf ek=>by
  rw[he.1,ek] at hf;simp at hf
 unfold dictFind
 (try with_reducible refine wpAny_holding ?_);refine wpAny_bind (wpAny_dictEntries g1 g2 ?_)
 dsimp only;by_cases hall:((u::(plc xs (k.hash X.w)).filterMap fun i=>xs[i]?.map (·.key)).all carriedByValue)=true
 ·rw[if_pos hall];split;next z t=>
   split;next hstr=>
    unfold foundByValue;cases hf:xs.findIdx? (fun e=>e.key.isStr z) with
    |none=>
     refine wpAny_pure (q0 fun j e he ek=>?_)
     obtain⟨x,x1,x2⟩:=D.ents j e he;have n1:=Array.findIdx?_eq_none_iff.mp hf x (Array.mem_of_getElem? x1);have e2:=x2.2.1;have n2:isExactStrKey x.key=true:=by
      have h:=Array.all_eq_true.mp hstr j (Array.getElem?_eq_some_iff.mp x1).1;rw[(Array.getElem?_eq_some_iff.mp x1).2] at h;exact h
     cases hk:x.key with
     |str z2 t2=>
      have e3:=hst j x e z2 t2 x1 he hk;rw[ek,hs z t rfl] at e3;cases e3;rw[hk] at n1;simp[Value.isStr] at n1
     |_=>rw[hk] at n2;cases n2
    |some i=>
     obtain⟨hlt,hi,_⟩:=Array.findIdx?_eq_some_iff_getElem.mp hf;obtain⟨e,e1,e2,eq,_⟩:=D.ent i xs[i] (Array.getElem?_eq_getElem hlt);have ek:e.1=k:=by
      cases hk:xs[i].key with
      |str z2 t2=>
       rw[hk] at hi;have:z2=z:=by simpa[Value.isStr] using hi
       subst this;rw[hst i _ e z2 t2 (Array.getElem?_eq_getElem hlt) e1 hk,hs z2 t rfl]
      |_=>rw[hk] at hi;simp[Value.isStr] at hi
     simp only[Array.getElem?_eq_getElem hlt];refine wpAny_bind (wpAny_dictEpoch g1 g2 (wpAny_bind (eq _ (wpAny_bind (wpAny_dictEpoch g1 g2 ?_)))));rw[if_neg (by simp),decide_eq_true ek]
     exact wpAny_bind (wpAny_rule (wpAny_pure (q1 i e e1 ek)))
   next=>exact walk
  next=>exact walk
 ·rw[if_neg hall];have nostr:∀z t,u=.str z t->¬(xs.all fun e=>isExactStrKey e.key)=true:=by
   intro z t hu hx;refine hall (List.all_eq_true.mpr fun v hv=>?_)
   rcases List.mem_cons.mp hv with rfl|hv
   ·rw[hu];rfl
   ·obtain⟨i,_,hi⟩:=List.mem_filterMap.mp hv;cases hx1:xs[i]? with
    |none=>rw[hx1] at hi;cases hi
    |some x=>
     rw[hx1] at hi;obtain rfl:x.key=v:=by simpa using hi
     have h:=Array.all_eq_true.mp hx i (Array.getElem?_eq_some_iff.mp hx1).1;rw[(Array.getElem?_eq_some_iff.mp hx1).2] at h;cases hk:x.key with
     |str _ _=>rfl
     |_=>rw[hk] at h;cases h
  have noany:∀a,u=.ref a->¬(xs.any fun e=>e.key == u && e.hash != k.hash X.w)=true:=by
   intro a hu hx;rw[Array.any_eq_true] at hx;obtain⟨i,hi,hc⟩:=hx;rw[Bool.and_eq_true,beq_iff_eq,bne_iff_ne] at hc;obtain⟨e,e1,e2,_⟩:=D.ent i xs[i] (Array.getElem?_eq_getElem hi);have:=hh a i _ e hu (Array.getElem?_eq_getElem hi) e1 hc.1;exact hc.2 (by rw[e2.1,this])
  have hid:u=idv u:=rfl;refine(fun(key:?P)=>?main) ?k
  case main=>
   rw(occs:=.pos [1]) [hid];split
   ·rename_i z t hz
    rw[if_neg (nostr z t hz)];rw(occs:=.pos [1]) [hid];split
    ·rename_i a ha
     rw[if_neg (noany a ha)];exact key
    ·exact key
   ·rw(occs:=.pos [1]) [hid];split
    ·rename_i a ha
     rw[if_neg (noany a ha)];exact key
    ·exact key
  refine(fun(key2:?P2)=>?main2) ?k2
  case main2=>
   refine d0h ?_ ?_
   ·refine wpAny_bind (wpAny_pure ?_);exact key2
   ·refine wpAny_bind (tell _ ?_);exact key2
  all_goals (
   show wpAny _ _ (if(false && _)=true then _ else _) _ _ _
   rw[if_neg (by rw[Bool.false_and];exact Bool.false_ne_true)]
   refine wpAny_bind (wpAny_forIn_list _ (fun rest b s'=>s'=s/\∃hit done,b=(none,hit)/\plc xs (k.hash X.w)=done++rest/\((hit=none/\∀(j:Nat) (e:TK×V×V),j∈done->es[j]?=some e->e.1≠k)\/∃(j:Nat) (e:TK×V×V),hit=some j/\j∈done/\es[j]?=some e/\e.1=k)) _ ?_ ?_ _ _
    ⟨rfl,none,[],rfl,rfl,.inl ⟨rfl,fun _ _ m=>by cases m⟩⟩)
   ·rintro i rest b s' ⟨rfl,hit,done,rfl,hd,hH⟩;obtain⟨x,x1,x2⟩:=plc_mem.mp (show i∈plc xs (k.hash X.w) by rw[hd];simp)
    obtain⟨e,e1,e2,eq,_⟩:=D.ent i x x1;have hni:i∉done:=fun m=>by
     have:=d0k (xs:=xs) (h:=k.hash X.w);rw[hd] at this;exact(List.nodup_append.mp this).2.2 i m i (by simp) rfl
    simp only[x1];rw[if_pos (by rw[x2];simp)]
    refine wpAny_bind (wpAny_dictEpoch g1 g2 (wpAny_bind (eq _ (wpAny_bind (wpAny_dictEpoch g1 g2 ?_)))));rw[if_neg (by simp)]
    by_cases ek:e.1=k
    ·rw[decide_eq_true ek];rcases hH with⟨rfl,hno⟩|⟨j,f,rfl,jd,jf,fk⟩
     ·first|rw[if_pos rfl]|skip
      simp only[Option.isSome_none,Bool.false_eq_true,if_false];first|refine wpAny_bind (wpAny_pure ?_)|skip
      refine wpAny_bind (wpAny_rule ?_);split
      ·exact wpAny_pure (wpAny_pure (q1 i e e1 ek))
      ·exact wpAny_pure ⟨rfl,some i,done++[i],rfl,by simp[hd],.inr ⟨i,e,rfl,by simp,e1,ek⟩⟩
     ·exact absurd (D.uniq i j e f e1 jf ek fk) fun z=>hni (by rw[z];exact jd)
    ·rw[decide_eq_false ek];have nx:(hit=none/\∀(j:Nat) (e:TK×V×V),j∈done++[i]->es[j]?=some e->e.1≠k)\/∃(j:Nat) (e:TK×V×V),hit=some j/\j∈done++[i]/\es[j]?=some e/\e.1=k:=by
      rcases hH with⟨h0,hno⟩|⟨j,f,h0,jd,jf,fk⟩
      ·refine .inl ⟨h0,fun j f m hf=>?_⟩
       rcases List.mem_append.mp m with m|m
       ·exact hno j f m hf
       ·simp at m;subst m;rw[e1] at hf;cases hf;exact ek
      ·exact .inr ⟨j,f,h0,by simp[jd],jf,fk⟩
     simp only[Bool.false_eq_true,if_false];refine wpAny_bind (wpAny_rule ?_);first|rw[if_neg (by simp)]|skip
     first
      |exact wpAny_pure ⟨rfl,hit,done++[i],rfl,by simp[hd],nx⟩
      |exact wpAny_bind (wpAny_pure (wpAny_pure ⟨rfl,hit,done++[i],rfl,by simp[hd],nx⟩))
   ·rintro b s' ⟨rfl,hit,done,rfl,hd,hH⟩;rcases hH with⟨rfl,hno⟩|⟨j,f,rfl,jd,jf,fk⟩
    ·refine wpAny_pure (q0 fun j e he ek=>hno j e ?_ he ek)
     have:=D.plc he ek;rw[hd] at this;simpa using this
    ·exact wpAny_pure (q1 j f jf fk))
end
end
def valX(es:List (TK×V×V))(k:TK):Option V:=(es.find? fun e=>decide (e.1=k)).map (·.2.2)
def putX:List (TK×V×V)->TK->V->V->List (TK×V×V)
 |[],k,y,v=>[(k,y,v)]
 |e::es,k,y,v=>if e.1=k then(e.1,e.2.1,v)::es else e::putX es k y v
def putE(es:List (TK×V×V))(k:TK)(ep:Nat):Nat:=if(es.any fun e=>decide (e.1=k))=true then ep else ep+1
def XGet(K:L2.FG)(H:Hp)(a:Addr)(y:V)(r:Option V):Prop:=∃es ep k,H a=some (.dG es ep)/\RepL K H (es.map (·.2.1)) (es.map (·.1.d))/\RepL K H [y] [k.d]/\k.ok 8=true/\r=valX es k
def XPut(K:L2.FG)(H:Hp)(a:Addr)(y v:V)(H':Hp):Prop:=∃es ep k,H a=some (.dG es ep)/\RepL K H (es.map (·.2.1)) (es.map (·.1.d))/\RepL K H [y] [k.d]/\k.ok 8=true/\es.length < sizeLine/\H'=upd H a (.dG (putX es k y v) (putE es k ep))
theorem e0d{k j:TK}(e:k.d=j.d)(h:k.ok 8=true):k=j:=by
 have h1:=c3u k j;rw[<-e,b9b 8 (b2j 8 h)] at h1;exact of_decide_eq_true h1.symm
section
variable {X:Cx} {pins:List (Addr×Obj)} {σ:St} {H:Hp}
theorem d0m{y:V}{z:Str}{t:Tok}{k:TK}(r:RepL X.K H [y] [k.d])(ru:RelV y (.str z t)):k=.inr z:=by
 cases k with
 |inl i=>simp only[TK.d] at r;cases r with|flat q _=>cases q;obtain⟨t,e⟩:=ru;cases e
 |inr i=>simp only[TK.d] at r;cases r with|flat q _=>cases q;obtain⟨t,e⟩:=ru;cases e;rfl
 |tp l=>simp only[TK.d] at r;cases r with|flat q _=>cases q|tup q _ _=>cases ru
theorem d0n{y:V}{a:Addr}(ru:RelV y (.ref a)):y=.ref a:=by
 cases y with
 |ref b=>cases ru;rfl
 |non=>cases ru
 |bl _=>cases ru
 |ty _=>cases ru
 |_=>obtain⟨t,e⟩:=ru;cases e
section
variable {A:Around} {E:Value->Shared->Prop} {s:Shared} {d:Addr} {es:List (TK×V×V)} {k:TK} {y v:V} {u r:Value}
theorem d7x{o:Obj}{xs:Array DictEntry}{ep:Nat}{Q:Option Nat->Shared->Prop}(I:Inv X pins σ H s)(g1:s.heap.get? d=some o)(g2:o.data=.dict xs ep)(g3:Paired (EntG X.w) es xs.toList)(g4:(es.map (·.1)).Nodup)
  (rk:RepL X.K H (es.map (·.2.1)) (es.map (·.1.d))) (ry:RepL X.K H [y] [k.d]) (ok:k.ok 8=true) (ru:RelV y u) (hu:A.units+8 < cLine)
  (q0:(∀(j:Nat) (e:TK×V×V),es[j]?=some e->e.1≠k)->Q none s) (q1:∀(j:Nat) (e:TK×V×V),es[j]?=some e->e.1=k->Q (some j) s):wpAny (model X.prog X.w) A (dictFind d u (k.hash X.w)) Q E s:=by
 have at':∀(j:Nat) (x:DictEntry) (e:TK×V×V),xs[j]?=some x->es[j]?=some e->EntG X.w e x/\RepL X.K H [e.2.1] [e.1.d]:=by
  intro j x e hx he;obtain⟨e',e1,e2⟩:=b5m j g3 (by rw[Array.getElem?_toList];exact hx)
  rw[he] at e1;cases e1;obtain⟨v,v1,v2⟩:=rk.get (i:=j) (d:=e.1.d) (by rw[List.getElem?_map,he];rfl)
  rw[List.getElem?_map,he] at v1;cases v1;exact⟨e2,v2⟩
 refine d5v (e3q I g3 g4 rk ry ok ru hu) g1 g2 (fun R hR=>c1w 8 I ry ok ru hR) (fun z t e=>d0m ry (by rw[<-e];exact ru)) (fun j x e z t hx he hk=>?_) (fun a j x e hu' hx he hk=>?_) q0 q1
 ·obtain⟨g,r'⟩:=at' j x e hx he;exact d0m r' (by rw[<-hk];exact g.2.1)
 ·obtain⟨g,r'⟩:=at' j x e hx he;have h1:=g.2.1;rw[hk,hu'] at h1;rw[hu'] at ru;rw[d0n h1] at r';rw[d0n ru] at ry;exact e0d (b9c I 8 8 r' ry (b2j 8 g.2.2.2) (b2j 8 ok)) g.2.2.2
theorem d0o(h:∀(j:Nat) (e:TK×V×V),es[j]?=some e->e.1≠k):valX es k=none:=by
 unfold valX;rw[List.find?_eq_none.mpr fun e m z=>?_,Option.map_none]
 obtain⟨j,hj⟩:=List.mem_iff_getElem?.mp m;exact h j e hj (of_decide_eq_true z)
theorem d0p(hn:(es.map (·.1)).Nodup){j:Nat}{e:TK×V×V}(he:es[j]?=some e)(ek:e.1=k):valX es k=some e.2.2:=by
 induction es generalizing j with
 |nil=>simp at he
 |cons x es ih=>
  rw[List.map_cons,List.nodup_cons] at hn;unfold valX;rw[List.find?_cons];cases j with
  |zero=>
   simp only[List.getElem?_cons_zero,Option.some.injEq] at he;subst he;rw[decide_eq_true ek];rfl
  |succ j=>
   simp only[List.getElem?_cons_succ] at he;have ne:¬x.1=k:=fun z=>hn.1 (by rw[z,<-ek];exact List.mem_map.mpr ⟨e,List.mem_of_getElem? he,rfl⟩)
   rw[decide_eq_false ne];exact ih hn.2 he
theorem c1x{o:Option V}{Q:Option Value->Shared->Prop}(hu:A.units+8 < cLine)(I:Inv X pins σ H s)(g:XGet X.K H d y o)(ru:RelV y u)(h:∀w t,RelO o w->Q w { s with toks:=t}):
  wpAny (model X.prog X.w) A (dictGet d u) Q E s:=by
 obtain⟨es,ep,k,hd,rk,ry,ok,rfl⟩:=g;obtain⟨_,_,ob,xs,g1,_,g2,g3,g4⟩:=(show ObjOk X.prog X.w H s.heap d (.dG es ep) from I.hok d _ hd);unfold dictGet
 (try with_reducible refine wpAny_holding ?_);refine wpAny_bind (c5h 8 I ry ok ru hu fun t=>wpAny_bind (d7x (I.tok t) g1 g2 g3 g4 rk ry ok ru hu (fun q0=>?_) (fun j e he ek=>?_)))
 ·exact wpAny_pure (h none t (by rw[d0o q0];exact True.intro))
 ·obtain⟨x,x1,x2⟩:=b5n j g3 he;refine wpAny_bind (wpAny_dictEntries (s:={ s with toks:=t}) g1 g2 (wpAny_pure ?_));rw[<-Array.getElem?_toList,x1];exact h (some x.val) t (by rw[d0p g4 he ek];exact x2.2.2.1)
theorem XGet.ty{o:Option V}(I:Inv X pins σ H s)(g:XGet X.K H d y o):s.TypeIs (.ref d) "dict"/\(d == sysModules)=false:=by
 obtain⟨es,ep,k,hd,_⟩:=g;obtain⟨_,z,ob,xs,g1,g5,_⟩:=(show ObjOk X.prog X.w H s.heap d (.dG es ep) from I.hok d _ hd);exact⟨⟨ob,g1,g5.1⟩,z⟩
theorem d0q{Q:Value->Shared->Prop}(hu:A.units+9 < cLine)(I:Inv X pins σ H s)(g:XGet X.K H d y (some v))(ru:RelV y u)(h:∀w' s',Inv X pins σ H s'->RelV v w'->Q w' s'):wpAny (model X.prog X.w) A (getItem (.ref d) u) Q E s:=by
 have hT:=(g.ty I).1;unfold getItem
 (try with_reducible refine wpAny_holding ?_);refine wpAny_bind (wpAny_sequenceKey hT (by decide) (wpAny_bind (wpAny_callSpecial?_slot (name:=Str.ofString "__getitem__") hT slot_dict_getitem (wpAny_call_entry slot_dict_getitem hT entry_dict_getitem ?_ (args_dict_getitem _ _)))))
 show wpAny _ _ (dictGet d u >>= _) _ _ s;refine wpAny_bind (c1x (by show A.units+1+8 < cLine;omega) I g ru fun w t rw'=>?_)
 obtain⟨w',rfl,r'⟩:=RelO.some_of rw';exact wpAny_pure ⟨w',rfl,wpAny_pure (h w' _ (I.tok t) r')⟩
theorem b7u{o:Option V}{Q:Bool->Shared->Prop}(hu:A.units+9 < cLine)(I:Inv X pins σ H s)(g:XGet X.K H d y o)(ru:RelV y u)(h:∀s',Inv X pins σ H s'->Q o.isSome s'):wpAny (model X.prog X.w) A (contains (.ref d) u) Q E s:=by
 obtain⟨hT,hd⟩:=g.ty I;unfold contains
 (try with_reducible refine wpAny_holding ?_);refine wpAny_bind (wpAny_specialOf hT slot_dict_contains.lookup ?_)
 dsimp only;rw[if_neg (by rw[beq_builtin_none];exact Bool.false_ne_true)]
 refine wpAny_bind (wpAny_callSpecialUnlessNone?_slot (name:=Str.ofString "__contains__") hT slot_dict_contains (wpAny_call_entry slot_dict_contains hT entry_dict_contains ?_ (args_dict_contains _ _)));show wpAny _ _ (dictGet d u >>= _) _ _ s;refine wpAny_bind (c1x (by show A.units+1+8 < cLine;omega) I g ru fun w t rw'=>?_)
 have e:=rw'.isSome_eq;cases w with
 |some w=>
  show wpAny _ _ (ret (.bool true)) _ _ _;refine wpAny_pure ⟨_,rfl,wpAny_truthy_bool ?_⟩;have:=h _ (I.tok t);rw[e] at this;exact this
 |none=>
  show wpAny _ _ (Builtin.Dict.pendingKey? d u >>= _) _ _ _;refine wpAny_bind (wpAny_pendingKey_other hd (wpAny_pure ⟨_,rfl,wpAny_truthy_bool ?_⟩));have:=h _ (I.tok t);rw[e] at this;exact this
theorem x_in{o:Option V}{Q:Value->Shared->Prop}(hu:A.units+9 < cLine)(I:Inv X pins σ H s)(g:XGet X.K H d y o)(ru:RelV y u)(h:∀s',Inv X pins σ H s'->Q (.bool o.isSome) s'):wpAny (model X.prog X.w) A (compareOp .In u (.ref d)) Q E s:=
 wpAny_bind (b7u hu I g ru fun s' I'=>wpAny_pure (h s' I'))
theorem e0e{o:Option V}{Q:Value->Shared->Prop}(hu:A.units+9 < cLine)(I:Inv X pins σ H s)(g:XGet X.K H d y o)(ru:RelV y u)(h:∀s',Inv X pins σ H s'->Q (.bool (!o.isSome)) s'):wpAny (model X.prog X.w) A (compareOp .NotIn u (.ref d)) Q E s:=
 wpAny_bind (b7u hu I g ru fun s' I'=>wpAny_pure (h s' I'))
theorem b5o(k:TK)(y v:V):∀es:List (TK×V×V),(putX es k y v).length<=es.length+1
 |[]=>by simp[putX]
 |e::es=>by
  unfold putX;have:=b5o k y v es;split <;> simp <;> omega
theorem c5i:∀{es:List (TK×V×V)},(∀(j:Nat) (e:TK×V×V),es[j]?=some e->e.1≠k)->putX es k y v=es++[(k,y,v)]
 |[],_=>rfl
 |e::es,h=>by
  unfold putX;rw[if_neg (h 0 e rfl),c5i fun j x hx=>h (j+1) x (by simpa using hx)]
  rfl
theorem e0f{w:World}{xs:List DictEntry}(g3:Paired (EntG w) es xs)(ry:RelV y u)(rv:RelV v r)(ok:k.ok 8=true):Paired (EntG w) (es++[(k,y,v)]) (xs++[⟨k.hash w,u,r⟩]):=by
 induction g3 with
 |nil=>exact .cons ⟨rfl,ry,rv,ok⟩ .nil
 |cons a _ ih=>exact .cons a ih
theorem d0r{w:World}:∀{es:List (TK×V×V)} {xs:List DictEntry} {j:Nat} {e:TK×V×V},Paired (EntG w) es xs->(es.map (·.1)).Nodup->es[j]?=some e->e.1=k->RelV v r->
  Paired (EntG w) (putX es k y v) (xs.modify j fun x=>{ x with val:=r})/\(putX es k y v).map (·.1)=es.map (·.1)
 |_,_,_,_,.nil,_,he,_,_=>by simp at he
 |_::es,_::xs,0,e,.cons a t,hn,he,ek,rv=>by
  simp only[List.getElem?_cons_zero,Option.some.injEq] at he;subst he;unfold putX;rw[if_pos ek];exact⟨.cons ⟨a.1,a.2.1,rv,a.2.2.2⟩ t,rfl⟩
 |x::es,_::xs,j+1,e,.cons a t,hn,he,ek,rv=>by
  simp only[List.getElem?_cons_succ] at he;rw[List.map_cons,List.nodup_cons] at hn;have ne:¬x.1=k:=fun z=>hn.1 (by rw[z,<-ek];exact List.mem_map.mpr ⟨e,List.mem_of_getElem? he,rfl⟩)
  unfold putX;rw[if_neg ne];have ih:=d0r t hn.2 he ek rv;exact⟨.cons a ih.1,by rw[List.map_cons,List.map_cons,ih.2]⟩
theorem d0s{H':Hp}{Q:Unit->Shared->Prop}(hu:A.units+8 < cLine)(I:Inv X pins σ H s)(g:XPut X.K H d y v H')(ru:RelV y u)(rv:RelV v r)(h:∀s',Inv X pins σ H' s'->Q () s'):
  wpAny (model X.prog X.w) A (dictSet d u r) Q E s:=by
 obtain⟨es,ep,k,hd,rk,ry,ok,hl,rfl⟩:=g;obtain⟨_,z,ob,xs,g1,g5,g2,g3,g4⟩:=(show ObjOk X.prog X.w H s.heap d (.dG es ep) from I.hok d _ hd);have hz:xs.size<=sizeLine:=by have:=Paired.length g3;simp at this;omega
 have hl2:(putX es k y v).length<=sizeLine:=by have:=b5o k y v es;omega
 unfold dictSet
 (try with_reducible refine wpAny_holding ?_);refine wpAny_bind (c5h 8 I ry ok ru hu fun t=>?_)
 unfold dictSetHashed
 (try with_reducible refine wpAny_holding ?_);refine wpAny_bind (d7x (I.tok t) g1 g2 g3 g4 rk ry ok ru hu (fun q0=>?_) (fun j e he ek=>?_))
 ·have ep2:putX es k y v=es++[(k,y,v)]:=c5i q0;have ep3:putE es k ep=ep+1:=if_neg (by
   rw[List.any_eq_true];rintro⟨e,m,q⟩;obtain⟨j,hj⟩:=List.mem_iff_getElem?.mp m;exact q0 j e hj (of_decide_eq_true q))
  rw[ep3] at h;refine wpAny_bind (wpAny_rule (wpAny_updateDictKeys (hz:=hz) (s:={ s with toks:=t}) g1 g2 (h _ ?_)));refine c9p (I.tok t) (by rw[hd];exact True.intro) (Heap.SameBut.update ..) ⟨_,Heap.get?_update_self _ g1 (Obj.isFreed_of_dict (Obj.data_mapDictKeys g2 _))⟩ ⟨hl2,z,_,_,Heap.get?_update_self _ g1 (Obj.isFreed_of_dict (Obj.data_mapDictKeys g2 _)),g5.mapDictKeys _,Obj.data_mapDictKeys g2 _,?_,?_⟩
  ·rw[ep2,Array.toList_push];exact e0f g3 ru rv ok
  ·rw[ep2,List.map_append,List.nodup_append];refine⟨g4,by simp,fun a m b m' e=>?_⟩
   simp at m';subst m';obtain⟨x,mx,rfl⟩:=List.mem_map.mp m;obtain⟨j,hj⟩:=List.mem_iff_getElem?.mp mx;exact q0 j x hj e
 ·have em:=d0r (y:=y) g3 g4 he ek rv;have ep3:putE es k ep=ep:=if_pos (List.any_eq_true.mpr ⟨e,List.mem_of_getElem? he,decide_eq_true ek⟩);rw[ep3] at h;refine wpAny_bind (wpAny_rule (wpAny_bind (wpAny_updateDict (s:={ s with toks:=t}) g1 g2 (wpAny_point (h _ ?_)))));refine c9p (I.tok t) (by rw[hd];exact True.intro) (Heap.SameBut.update ..) ⟨_,Heap.get?_update_self _ g1 (Obj.isFreed_of_dict (Obj.data_mapDict g2 _))⟩ ⟨hl2,z,_,_,Heap.get?_update_self _ g1 (Obj.isFreed_of_dict (Obj.data_mapDict g2 _)),g5.mapDict _,Obj.data_mapDict g2 _,?_,?_⟩
  ·obtain⟨l⟩:=xs;simpa using em.1
  ·rw[em.2];exact g4
theorem d0t{H':Hp}{Q:Unit->Shared->Prop}(hu:A.units+9 < cLine)(I:Inv X pins σ H s)(g:XPut X.K H d y v H')(ru:RelV y u)(rv:RelV v r)(h:∀s',Inv X pins σ H' s'->Q () s'):
  wpAny (model X.prog X.w) A (setItem (.ref d) u r) Q E s:=by
 have hT:s.TypeIs (.ref d) "dict":=by
  obtain⟨es,ep,k,hd,rk,ry,ok,_⟩:=g;exact(XGet.ty I ⟨es,ep,k,hd,rk,ry,ok,rfl⟩).1
 unfold setItem
 (try with_reducible refine wpAny_holding ?_);refine wpAny_bind (wpAny_sequenceKey hT (by decide) (wpAny_bind (wpAny_callSpecial?_slot (name:=Str.ofString "__setitem__") hT slot_dict_setitem (wpAny_call_entry slot_dict_setitem hT entry_dict_setitem ?_ (args_dict_setitem _ _ _)))))
 show wpAny _ _ (Builtin.Dict.notOrdered "__setitem__" ⟨[.ref d,u,r],[]⟩ >>= _) _ _ s;refine wpAny_bind (wpAny_notOrdered_dict hT ?_);show wpAny _ _ (dictSet d u r >>= fun z=>_) _ _ s
 exact wpAny_bind (d0s (by show A.units+1+8 < cLine;omega) I g ru rv fun s' I'=>wpAny_pure ⟨.none,rfl,wpAny_pure (h s' I')⟩)
end
end
section
variable {X:Cx} {K:L2.FG}
def rEqA(K:L2.FG):R2:=fun x y H Q=>∃d e,RepL K H [x] [d]/\RepL K H [y] [e]/\okD 40 d=true/\okD 40 e=true/\Q (.bl (eqD d e)) H
theorem a6y(K:L2.FG)(hu:X.A.units+40 < cLine)(hK:X.K=K:=by rfl):OpR X (compareOp .Eq) (rEqA K):=by
 subst hK;intro pins s σ H x y v u Q I rx ry h;obtain⟨d,e,r1,r2,o1,o2,q⟩:=h;exact(c1v I 40 40 r1 r2 o1 o2 rx ry hu).2 X.prog X.w _ _ ⟨.bl _,H,I,rfl,q⟩
open Classical in
noncomputable def inE (K:L2.FG) (H:Hp) (dx:D) (u:Value):Bool:=decide (∃x d,RelV x u/\RepL K H [x] [d]/\okD 40 d=true/\eqD d dx=true)
open Classical in
theorem d7y{pins:List (Addr×Obj)}{s:Shared}{σ:St}{H:Hp}(I:Inv X pins σ H s){dx d:D}{x:V}{u:Value}(rx:RelV x u)(r:RepL X.K H [x] [d])(ok:okD 40 d=true):inE X.K H dx u=eqD d dx:=by
 unfold inE;rw[Bool.eq_iff_iff,decide_eq_true_iff];constructor
 ·rintro⟨x',d',rx',r',ok',e⟩;have:=RelV.inj rx rx';subst this;rw[b9c I 40 40 r r' ok ok'];exact e
 ·exact fun e=>⟨x,d,rx,r,ok,e⟩
theorem c5j{pins:List (Addr×Obj)}{s:Shared}{σ:St}{H:Hp}(I:Inv X pins σ H s){dx:D}{ws:List V}{its:List Value}{ds:List D}(t:Vals ws its)(rp:RepL X.K H ws ds)(ok:ds.all (okD 40)=true):its.any (inE X.K H dx)=ds.any fun d=>eqD d dx:=by
 induction t generalizing ds with
 |nil=>
  cases ds with
  |nil=>rfl
  |cons _ _=>have:=rp.length;simp at this
 |cons r t ih=>
  cases ds with
  |nil=>have:=rp.length;simp at this
  |cons d ds=>
   rw[List.all_cons,Bool.and_eq_true] at ok;rw[List.any_cons,List.any_cons,d7y I r rp.inv.1 ok.1,ih rp.inv.2 ok.2]
theorem c5k{pins:List (Addr×Obj)}{s:Shared}{σ:St}{H:Hp}(I:Inv X pins σ H s){dx:D}{y:V}{v:Value}{A:Around}(rv:RelV y v)(ry:RepL X.K H [y] [dx])(oy:okD 40 dx=true)(hu:A.units+40 < cLine):
  ∀{ws:List V} {its:List Value} {ds:List D},Vals ws its->RepL X.K H ws ds->ds.all (okD 40)=true->∀u∈its,SeqAt.EqAt A s u v (inE X.K H dx u):=by
 intro ws its ds t
 induction t generalizing ds with
 |nil=>intro _ _ u m;cases m
 |cons r t ih=>
  intro rp ok u' m;cases ds with
  |nil=>have:=rp.length;simp at this
  |cons d ds=>
   rw[List.all_cons,Bool.and_eq_true] at ok;rcases List.mem_cons.mp m with rfl|m
   ·rw[d7y I r rp.inv.1 ok.1];exact(c1v I 40 40 rp.inv.1 ry ok.1 oy r rv hu).1
   ·exact ih rp.inv.2 ok.2 u' m
def seqO:D->Option (List D)
 |.lst ds=>some ds
 |.tup ds=>some ds
 |_=>none
def rInA(K:L2.FG)(neg:Bool):R2:=fun x y H Q=>
 (∃d e ds,RepL K H [x] [d]/\RepL K H [y] [e]/\seqO e=some ds/\okD 40 d=true/\ds.all (okD 40)=true/\Q (.bl (if neg then !ds.any fun z=>eqD z d else ds.any fun z=>eqD z d)) H)\/
 (∃i j,x=.str i/\y=.str j/\Q (.bl (if neg then !(!(Builtin.Str.occurrences j i 0 j.length 1).isEmpty) else !(Builtin.Str.occurrences j i 0 j.length 1).isEmpty)) H)\/
 ∃a o,y=.ref a/\XGet K H a x o/\Q (.bl (if neg then !o.isSome else o.isSome)) H
theorem a9c(K:L2.FG)(hu:X.A.units+41 < cLine)(hK:X.K=K:=by rfl):OpR X (compareOp .In) (rInA K false):=by
 subst hK;intro pins s σ H x y v u Q I rx ry h;rcases h with⟨d,e,ds,r1,r2,es,o1,o2,q⟩|⟨i,j,rfl,rfl,q⟩|⟨a,o,rfl,g,q⟩
 ·have hu':X.A.in1.units+40 < cLine:=by show X.A.units+1+40 < cLine;omega
  cases r2 with
  |flat z _=>cases e <;> first|(cases z;done)|cases es
  |lst sq i _=>
   cases es;cases ry;obtain⟨its,r,pl,hz⟩:=I.list (.inl sq);refine SeqAt.in_listAt (inE X.K H d) pl.isList (fun w hw=>c5k I rx r1 o1 hu' r i o2 w (by simpa using hw)) ⟨.bl _,H,I,rfl,?_⟩
   rw[show its.toArray.any (inE X.K H d)=its.any (inE X.K H d) by simp,c5j I r i o2]
   exact q
  |tup sq i _=>
   cases es;cases ry;obtain⟨its,r,pl,hz⟩:=I.tuple sq;refine SeqAt.in_tupleAt (inE X.K H d) pl (fun w hw=>c5k I rx r1 o1 hu' r i o2 w (by simpa using hw)) ⟨.bl _,H,I,rfl,?_⟩
   rw[show its.toArray.any (inE X.K H d)=its.any (inE X.K H d) by simp,c5j I r i o2]
   exact q
  |dct _ _ _ _ _=>cases es
  |scr _ _=>cases es
  |exc _ _=>cases es
  |obj _=>cases es
 ·exact c9e pins s σ H _ _ v u Q I rx ry ⟨i,j,rfl,rfl,q⟩
 ·cases ry;exact x_in (by omega) I g rx fun s3 I3=>⟨.bl o.isSome,H,I3,rfl,q⟩
theorem a5s(K:L2.FG)(hu:X.A.units+41 < cLine)(hK:X.K=K:=by rfl):OpR X (compareOp .NotIn) (rInA K true):=by
 subst hK;intro pins s σ H x y v u Q I rx ry h;rcases h with⟨d,e,ds,r1,r2,es,o1,o2,q⟩|⟨i,j,rfl,rfl,q⟩|⟨a,o,rfl,g,q⟩
 ·have hu':X.A.in1.units+40 < cLine:=by show X.A.units+1+40 < cLine;omega
  cases r2 with
  |flat z _=>cases e <;> first|(cases z;done)|cases es
  |lst sq i _=>
   cases es;cases ry;obtain⟨its,r,pl,hz⟩:=I.list (.inl sq);refine SeqAt.notIn_listAt (inE X.K H d) pl.isList (fun w hw=>c5k I rx r1 o1 hu' r i o2 w (by simpa using hw)) ⟨.bl _,H,I,rfl,?_⟩
   rw[show its.toArray.any (inE X.K H d)=its.any (inE X.K H d) by simp,c5j I r i o2]
   exact q
  |tup sq i _=>
   cases es;cases ry;obtain⟨its,r,pl,hz⟩:=I.tuple sq;refine SeqAt.notIn_tupleAt (inE X.K H d) pl (fun w hw=>c5k I rx r1 o1 hu' r i o2 w (by simpa using hw)) ⟨.bl _,H,I,rfl,?_⟩
   rw[show its.toArray.any (inE X.K H d)=its.any (inE X.K H d) by simp,c5j I r i o2]
   exact q
  |dct _ _ _ _ _=>cases es
  |scr _ _=>cases es
  |exc _ _=>cases es
  |obj _=>cases es
 ·exact c1b pins s σ H _ _ v u Q I rx ry ⟨i,j,rfl,rfl,q⟩
 ·cases ry;exact e0e (by omega) I g rx fun s3 I3=>⟨.bl (!o.isSome),H,I3,rfl,q⟩
def oEq:List O->Option O
 |[a,b]=>if okD 40 a.d=true/\okD 40 b.d=true then some (.frz (.bl (eqD a.d b.d))) else none
 |_=>none
theorem b1f:OpOk K (r2L (rEqA K)) oEq:=by
 intro F H vs os o Q le see e res;unfold oEq at e;split at e
 ·split at e
  ·cases e;obtain⟨x,y,B,C,rfl,h1,h2⟩:=see.two
   rename_i hh
   exact⟨_,_,rfl,_,_,a4s le h1,a4s le h2,hh.1,hh.2,res.flat rfl⟩
  ·cases e
 ·cases e
mutual
def tkD:D->Option TK
 |.int i=>some (.inl i)
 |.str x=>some (.inr x)
 |.tup l=>(tkDs l).map .tp
 |_=>none
def tkDs:List D->Option (List TK)
 |[]=>some []
 |d::l=>(tkD d).bind fun k=>(tkDs l).map fun ks=>k::ks
end
def keyD:D->Option TK
 |.int i=>some (.inl i)
 |.str x=>some (.inr x)
 |.tup l=>(tkDs l).bind fun ks=>if TK.ok 8 (.tp ks)=true then some (.tp ks) else none
 |_=>none
mutual
theorem e5j:∀{d:D} {k:TK},tkD d=some k->k.d=d
 |.int i,k,e=>by simp only[tkD] at e;cases e;simp[TK.d]
 |.str i,k,e=>by simp only[tkD] at e;cases e;simp[TK.d]
 |.tup l,k,e=>by
  simp only[tkD] at e;obtain⟨ks,h1,rfl⟩:=Option.map_eq_some_iff.mp e;simp only[TK.d];rw[tkDs_d h1]
 |.non,k,e=>by simp[tkD] at e
 |.bl _,k,e=>by simp[tkD] at e
 |.ty _,k,e=>by simp[tkD] at e
 |.lst _,k,e=>by simp[tkD] at e
 |.dct _,k,e=>by simp[tkD] at e
 |.scr _,k,e=>by simp[tkD] at e
 |.exc _ _,k,e=>by simp[tkD] at e
theorem tkDs_d:∀{l:List D} {ks:List TK},tkDs l=some ks->TK.dl ks=l
 |[],ks,e=>by simp only[tkDs] at e;cases e;simp[TK.dl]
 |d::l,ks,e=>by
  simp only[tkDs] at e;obtain⟨k,h1,e⟩:=Option.bind_eq_some_iff.mp e;obtain⟨ks',h2,rfl⟩:=Option.map_eq_some_iff.mp e;simp only[TK.dl];rw[e5j h1,tkDs_d h2]
end
theorem a9d{d:D}{k:TK}(e:keyD d=some k):k.d=d/\k.ok 8=true:=by
 cases d with
 |int i=>cases e;exact⟨by simp[TK.d],rfl⟩
 |str i=>cases e;exact⟨by simp[TK.d],rfl⟩
 |tup l=>
  simp only[keyD] at e;obtain⟨ks,h1,e⟩:=Option.bind_eq_some_iff.mp e;split at e
  ·rename_i h
   cases e;exact⟨by simp only[TK.d];rw[tkDs_d h1],h⟩
  ·cases e
 |_=>cases e
def dictO:O->Option (List (TK×D))
 |.frz (.dct kvs)=>some kvs
 |.dct kvs=>some (O.dk kvs)
 |_=>none
theorem c5l{α β:Type}:∀{ws:List (TK×α)} {kvs:List (TK×β)},ws.map (·.1)=kvs.map (·.1)->ws.map (·.1.d)=kvs.map (·.1.d):=fun{ws kvs} h=>by
 have:=congrArg (List.map TK.d) h;rw[List.map_map,List.map_map] at this;exact this
theorem d5w{F H:Hp}{x:V}{o:O}{B:List Addr}{kvs:List (TK×D)}(le:Same F H)(h:OwnL K F H [some x] [some o] B)(e:dictO o=some kvs):∃a ws ep,x=.ref a/\H a=some (.dG ws ep)/\ws.map (·.1)=kvs.map (·.1)/\RepL K H (ws.map (·.2.1)) (ws.map (·.1.d))/\RepL K H (ws.map (·.2.2)) (kvs.map (·.2)):=by
 have r:=a4s le h;have ed:o.d=.dct kvs:=by
  cases o with
  |frz d=>cases d <;> cases e;rfl
  |dct _=>cases e;rfl
  |_=>cases e
 rw[ed] at r;cases r with
 |flat z _=>cases z
 |dct q k r i _=>exact⟨_,_,_,rfl,q,k,by rw[c5l k];exact r,i⟩
def valD(kvs:List (TK×D))(k:TK):Option D:=(kvs.find? fun kv=>decide (kv.1=k)).map (·.2)
theorem c3v{F:Hp}{k:TK}:∀{ws:List (TK×V×V)} {kvs:List (TK×D)},ws.map (·.1)=kvs.map (·.1)->RepL K F (ws.map (·.2.2)) (kvs.map (·.2))->(valX ws k=none/\valD kvs k=none)\/∃v d,valX ws k=some v/\valD kvs k=some d/\RepL K F [v] [d]
 |[],[],_,_=>.inl ⟨rfl,rfl⟩
 |w::ws,p::kvs,h,r=>by
  rw[List.map_cons,List.map_cons] at h;injection h with h1 h2;unfold valX valD;rw[List.find?_cons,List.find?_cons,h1];by_cases e:p.1=k
  ·rw[decide_eq_true e];exact .inr ⟨w.2.2,p.2,rfl,rfl,r.inv.1⟩
  ·rw[decide_eq_false e];exact c3v h2 r.inv.2
 |[],_::_,h,_=>by simp at h
 |_::_,[],h,_=>by simp at h
theorem c7q{F:Hp}{k:TK}{ws:List (TK×V×V)}{kvs:List (TK×D)}(h:ws.map (·.1)=kvs.map (·.1))(r:RepL K F (ws.map (·.2.2)) (kvs.map (·.2))):(valX ws k).isSome=(valD kvs k).isSome:=by
 rcases c3v (k:=k) h r with⟨e1,e2⟩|⟨v,d,e1,e2,_⟩ <;> rw[e1,e2] <;> rfl
def oInG(neg:Bool):List O->Option O
 |[a,b]=>match dictO b with
  |some kvs=>(match a with
   |.frz d=>(keyD d).bind fun k=>some (.frz (.bl (if neg then !(valD kvs k).isSome else(valD kvs k).isSome)))
   |_=>none)
  |none=>(match a,b with
   |.frz (.str i),.frz (.str j)=>some (.frz (.bl (if neg then !(!(Builtin.Str.occurrences j i 0 j.length 1).isEmpty) else !(Builtin.Str.occurrences j i 0 j.length 1).isEmpty)))
   |a,b=>(seqO b.d).bind fun ds=>if okD 40 a.d=true/\ds.all (okD 40)=true then some (.frz (.bl (if neg then !ds.any fun z=>eqD z a.d else ds.any fun z=>eqD z a.d))) else none)
 |_=>none
theorem a8c(neg:Bool):OpOk K (r2L (rInA K neg)) (oInG neg):=by
 intro F H vs os o Q le see e res;unfold oInG at e;split at e
 ·rename_i a b
  obtain⟨x,y,B,C,rfl,h1,h2⟩:=see.two;cases q:dictO b with
  |some kvs=>
   rw[q] at e;dsimp only at e;cases a with
   |frz d=>
    dsimp only at e;cases q2:keyD d with
    |none=>rw[q2] at e;cases e
    |some k=>
     rw[q2] at e;cases e;obtain⟨p,ws,ep,rfl,hp,hk,rk,hr⟩:=d5w le h2 q;refine⟨_,_,rfl,.inr (.inr ⟨p,valX ws k,rfl,⟨ws,ep,k,hp,rk,by rw[(a9d q2).1];exact a4s le h1,(a9d q2).2,rfl⟩,?_⟩)⟩
     rw[c7q hk hr];exact res.flat rfl
   |_=>cases e
  |none=>
   rw[q] at e;dsimp only at e;split at e
   ·cases e;cases a1c h1 rfl;cases a1c h2 rfl;exact⟨_,_,rfl,.inr (.inl ⟨_,_,rfl,rfl,res.flat rfl⟩)⟩
   ·cases q3:seqO b.d with
    |none=>rw[q3] at e;cases e
    |some ds=>
     rw[q3] at e;dsimp only[Option.bind] at e;split at e
     ·rename_i hh
      cases e;exact⟨_,_,rfl,.inl ⟨_,_,ds,a4s le h1,a4s le h2,q3,hh.1,hh.2,res.flat rfl⟩⟩
     ·cases e
 ·cases e
def rIsA(neg:Bool):R2:=fun x y H Q=>(y=.non/\Q (.bl (if neg then !decide (x=.non) else decide (x=.non))) H)\/∃a b,x=.bl a/\y=.bl b/\Q (.bl (if neg then a != b else a == b)) H
theorem d7z:OpR X (compareOp .Is) (rIsA false):=op_isN.or e3g
theorem e0g:OpR X (compareOp .IsNot) (rIsA true):=op_notN.or d9r
def noneO:O->Bool
 |.frz .non=>true
 |_=>false
def isB(neg b:Bool):O->Option O
 |.frz (.bl a)=>some (.frz (.bl (if neg then a != b else a == b)))
 |_=>none
def isO(neg:Bool)(a:O):O->Option O
 |.frz .non=>some (.frz (.bl (if neg then !noneO a else noneO a)))
 |.frz (.bl b)=>isB neg b a
 |_=>none
def oIsG(neg:Bool):List O->Option O
 |[a,b]=>isO neg a b
 |_=>none
theorem d5x{F H:Hp}{x:V}{o:O}{B:List Addr}(h:OwnL K F H [some x] [some o] B):decide (x=.non)=noneO o:=by
 cases h with
 |@frz _ d _ _ _ r _=>
  cases r with
  |flat q _=>cases d <;> cases q <;> rfl
  |lst _ _ _=>rfl
  |tup _ _ _=>rfl
  |dct _ _ _ _ _=>rfl
  |scr _ _=>rfl
  |exc _ _=>rfl
  |obj _=>rfl
 |lst _ _ _=>rfl
 |tup _ _ _=>rfl
 |dct _ _ _ _ _=>rfl
 |ins _ _ _ _ _=>rfl
theorem e0h(neg:Bool):OpOk K (r2L (rIsA neg)) (oIsG neg):=by
 intro F H vs os o Q le see e res;unfold oIsG at e;split at e
 ·obtain⟨x,y,B,C,rfl,h1,h2⟩:=see.two;unfold isO at e;split at e
  ·cases e;cases a1c h2 rfl;refine⟨_,_,rfl,.inl ⟨rfl,?_⟩⟩;rw[d5x h1];exact res.flat rfl
  ·unfold isB at e;split at e
   ·cases e;cases a1c h1 rfl;cases a1c h2 rfl;exact⟨_,_,rfl,.inr ⟨_,_,rfl,rfl,res.flat rfl⟩⟩
   ·cases e
  ·cases e
 ·cases e
def rIxA(K:L2.FG):R2:=fun x y H Q=>rIxL K x y H Q\/rIxT K x y H Q\/rIxS x y H Q\/∃a v,x=.ref a/\XGet K H a y (some v)/\Q v H
theorem e0i(hu:X.A.units+9 < cLine):IxR X (fun x y H Q=>∃a v,x=.ref a/\XGet X.K H a y (some v)/\Q v H):=by
 intro value slice pins s σ H x y v u Q I rx ry h hs;obtain⟨a,w,rfl,g,q⟩:=h;cases rx;exact tail_any (g.ty I).1 PySem.F.slot_dict_getitem.lookup (d0q hu I g ry fun w' s3 I3 rw'=>⟨w,H,I3,rw',q⟩) hs
theorem a4f(K:L2.FG)(hu:X.A.units+41 < cLine)(hK:X.K=K:=by rfl):IxR X (rIxA K):=by
 subst hK;exact(d5o X.K rfl).or ((d9s X.K rfl).or (ix_str.or (e0i (by omega))))
def unfrz:O->Option O
 |.frz d=>some (.frz d)
 |_=>none
def valO(kvs:List (TK×O))(k:TK):Option O:=(kvs.find? fun kv=>decide (kv.1=k)).map (·.2)
def intD:D->Option Int
 |.int k=>some k
 |_=>none
theorem b0k{i:D}{k:Int}(h:intD i=some k):i=.int k:=by
 cases i with
 |int _=>cases h;rfl
 |_=>cases h
def ixD(d i:D):Option O:=match d with
 |.lst ds=>(intD i).bind fun k=>(atI ds k).map .frz
 |.tup ds=>(intD i).bind fun k=>(atI ds k).map .frz
 |.scr ns=>(intD i).bind fun k=>(atI (ns.map D.int) k).map .frz
 |.str z=>(intD i).bind fun k=>if z.length<=1000000 then(atI z.cps.toList k).map fun c=>.frz (.str ⟨#[c]⟩) else none
 |.dct kvs=>(keyD i).bind fun k=>(valD kvs k).map .frz
 |_=>none
def oIx1(a:O)(i:D):Option O:=match a with
 |.frz d=>ixD d i
 |.lst os=>(intD i).bind fun k=>(atI os k).bind unfrz
 |.tup os=>(intD i).bind fun k=>(atI os k).bind unfrz
 |.dct kvs=>(keyD i).bind fun k=>(valO kvs k).bind unfrz
 |_=>none
def oIx:List O->Option O
 |[a,.frz i]=>oIx1 a i
 |_=>none
theorem c3w{F:Hp}{ws:List V}{ds:List D}{i:Int}{d:D}(r:RepL K F ws ds)(e:atI ds i=some d):∃v,atI ws i=some v/\RepL K F [v] [d]:=by
 unfold atI at e ⊢;rw[r.length];cases q:ixN ds.length i with
 |none=>rw[q] at e;cases e
 |some j=>
  rw[q] at e;exact r.get e
theorem d0u{F H:Hp}:∀{ws:List V} {os:List O} {B:List Addr} {j:Nat} {d:D},OwnL K F H (ws.map some) (os.map some) B->os[j]?=some (.frz d)->∃v,ws[j]?=some v/\RepL K F [v] [d]
 |w::ws,o::os,B,0,d,h,e=>by
  obtain⟨B1,B2,h1,h2,_⟩:=OwnL.one h;simp at e;subst e;cases h1 with
  |frz r _=>exact⟨w,rfl,r⟩
 |w::ws,o::os,B,j+1,d,h,e=>by
  obtain⟨B1,B2,h1,h2,_⟩:=OwnL.one h;obtain⟨v,g1,g2⟩:=d0u (j:=j) h2 (by simpa using e)
  exact⟨v,by simpa using g1,g2⟩
 |[],[],_,_,_,_,e=>by simp at e
 |[],_::_,_,_,_,h,_=>by have:=h.length;simp at this
 |_::_,[],_,_,_,h,_=>by have:=h.length;simp at this
theorem d0v{F H:Hp}{ws:List V}{os:List O}{B:List Addr}{i:Int}{o:O}(r:OwnL K F H (ws.map some) (os.map some) B)(e:(atI os i).bind unfrz=some o):∃v d,atI ws i=some v/\RepL K F [v] [d]/\o=.frz d:=by
 have hl:ws.length=os.length:=by have:=r.length;simpa using this
 unfold atI at e ⊢;rw[hl];cases q:ixN os.length i with
 |none=>rw[q] at e;cases e
 |some j=>
  rw[q] at e;dsimp only[Option.bind] at e;cases q2:os[j]? with
  |none=>rw[q2] at e;cases e
  |some o'=>
   rw[q2] at e;dsimp only at e;cases o' with
   |frz d=>cases e;obtain⟨v,g1,g2⟩:=d0u r q2;exact⟨v,d,g1,g2,rfl⟩
   |_=>cases e
theorem b4a{F H:Hp}{v:V}{d:D}{B:List Addr}(h:OwnL K F H [some v] [some (.frz d)] B):RepL K F [v] [d]:=by
 cases h with
 |frz r _=>exact r
theorem d0w{F H:Hp}{k:TK}{d:D}:∀{ws:List (TK×V×V)} {kvs:List (TK×O)} {B:List Addr},ws.map (·.1)=kvs.map (·.1)->OwnL K F H (ws.map fun p=>some p.2.2) (kvs.map fun p=>some p.2) B->valO kvs k=some (.frz d)->∃v,valX ws k=some v/\RepL K F [v] [d]
 |[],[],_,_,_,e=>by cases e
 |w::ws,p::kvs,B,h,r,e=>by
  rw[List.map_cons,List.map_cons] at h;injection h with h1 h2;obtain⟨B1,B2,g1,g2,_⟩:=OwnL.one r;unfold valO at e;unfold valX;rw[List.find?_cons] at e ⊢;rw[h1];by_cases q:p.1=k
  ·rw[decide_eq_true q] at e ⊢;have e:some p.2=some (.frz d):=e;injection e with e;have g1:OwnL K F H [some w.2.2] [some p.2] B1:=g1;rw[e] at g1;exact⟨w.2.2,rfl,b4a g1⟩
  ·rw[decide_eq_false q] at e ⊢;exact d0w h2 g2 e
 |[],_::_,_,h,_,_=>by simp at h
 |_::_,[],_,h,_,_=>by simp at h
theorem a1v:OpOk K (r2L (rIxA K)) oIx:=by
 intro F H vs os o Q le see e res;unfold oIx at e;split at e
 ·rename_i a i
  obtain⟨x,y,B,C,rfl,h1,h2⟩:=see.two;refine⟨_,_,rfl,?_⟩;cases h1 with
  |ins _ _ _ _ _=>cases e
  |@frz _ da _ _ _ r _=>
   cases r with
   |lst sq ri _=>
    obtain⟨k,hk,ee⟩:=Option.bind_eq_some_iff.mp (show(intD i).bind (fun k=>(atI _ k).map O.frz)=some o from e)
    cases b0k hk;cases a1c h2 rfl;obtain⟨d,q1,q2⟩:=Option.map_eq_some_iff.mp ee;subst q2;obtain⟨v,g1,g2⟩:=c3w ri q1;exact .inl ⟨_,_,_,v,rfl,rfl,.inl (le.rd sq),g1,res.frz g2⟩
   |exc _ _=>cases e
   |obj _=>cases e
   |@scr _ ns _ _ sq _=>
    obtain⟨k,hk,ee⟩:=Option.bind_eq_some_iff.mp (show(intD i).bind (fun k=>(atI (ns.map D.int) k).map O.frz)=some o from e)
    cases b0k hk;cases a1c h2 rfl;obtain⟨d,q1,q2⟩:=Option.map_eq_some_iff.mp ee;subst q2;obtain⟨v,g1,g2⟩:=c3w (b9a (K:=K) (F:=F) ns) q1;exact .inl ⟨_,_,_,v,rfl,rfl,le.seq sq,g1,res.frz g2⟩
   |tup sq ri _=>
    obtain⟨k,hk,ee⟩:=Option.bind_eq_some_iff.mp (show(intD i).bind (fun k=>(atI _ k).map O.frz)=some o from e)
    cases b0k hk;cases a1c h2 rfl;obtain⟨d,q1,q2⟩:=Option.map_eq_some_iff.mp ee;subst q2;obtain⟨v,g1,g2⟩:=c3w ri q1;exact .inr (.inl ⟨_,_,_,v,rfl,rfl,le.seqT sq,g1,res.frz g2⟩)
   |@dct _ ws es ep _ _ hd hk rk ri _=>
    obtain⟨k,q,e⟩:=Option.bind_eq_some_iff.mp (show(keyD i).bind (fun k=>(valD es k).map O.frz)=some o from e)
    obtain⟨d,q1,q2⟩:=Option.map_eq_some_iff.mp e;subst q2;rcases c3v (k:=k) hk ri with⟨_,z⟩|⟨v,d',g1,g2,g3⟩
    ·rw[q1] at z;cases z
    ·rw[q1] at g2;cases g2;exact .inr (.inr (.inr ⟨_,v,rfl,⟨ws,ep,k,le _ _ hd,by rw[c5l hk];exact rk.mono le,by rw[(a9d q).1];exact a4s le h2,(a9d q).2,g1.symm⟩,res.frz g3⟩))
   |flat z _=>
    cases da with
    |str zz=>
     obtain⟨k,hk,ee⟩:=Option.bind_eq_some_iff.mp (show(intD i).bind (fun k=>if zz.length<=1000000 then(atI zz.cps.toList k).map fun c=>O.frz (.str ⟨#[c]⟩) else none)=some o from e)
     cases b0k hk;split at ee
     ·obtain⟨c,q1,q2⟩:=Option.map_eq_some_iff.mp ee;subst q2;cases z;cases a1c h2 rfl;exact .inr (.inr (.inl ⟨_,_,c,rfl,rfl,ml (by assumption),q1,res.flat rfl⟩))
     ·cases ee
    |non=>cases e
    |bl _=>cases e
    |int _=>cases e
    |ty _=>cases e
    |_=>cases z
  |lst sq ri _=>
   obtain⟨k,hk,ee⟩:=Option.bind_eq_some_iff.mp (show(intD i).bind (fun k=>(atI _ k).bind unfrz)=some o from e)
   cases b0k hk;cases a1c h2 rfl;obtain⟨v,d,g1,g2,rfl⟩:=d0v ri ee;exact .inl ⟨_,_,_,v,rfl,rfl,SqL.of sq,g1,res.frz g2⟩
  |tup sq ri _=>
   obtain⟨k,hk,ee⟩:=Option.bind_eq_some_iff.mp (show(intD i).bind (fun k=>(atI _ k).bind unfrz)=some o from e)
   cases b0k hk;cases a1c h2 rfl;obtain⟨v,d,g1,g2,rfl⟩:=d0v ri ee;exact .inr (.inl ⟨_,_,_,v,rfl,rfl,SqT.of sq,g1,res.frz g2⟩)
  |@dct _ ws es ep _ _ _ _ hd hk rk ri _=>
   obtain⟨k,q,e⟩:=Option.bind_eq_some_iff.mp (show(keyD i).bind (fun k=>(valO es k).bind unfrz)=some o from e)
   obtain⟨o',q2,e⟩:=Option.bind_eq_some_iff.mp e;cases o' with
   |frz d=>
    cases e;obtain⟨v,g1,g2⟩:=d0w hk ri q2;exact .inr (.inr (.inr ⟨_,v,rfl,⟨ws,ep,k,hd,by rw[c5l hk];exact rk.mono le,by rw[(a9d q).1];exact a4s le h2,(a9d q).2,g1.symm⟩,res.frz g2⟩))
   |_=>cases e
 ·cases e
def rLenA(K:L2.FG):List V->Hp->VK->Prop:=fun xs H Q=>(∃p ys,xs=[.ref p]/\(SqL K H p ys\/SqT K H p ys)/\Q (.int ys.length) H)\/(∃z,xs=[.str z]/\z.length<=sizeLine/\Q (.int z.length) H)
theorem a3d(K:L2.FG)(hK:X.K=K:=by rfl):CallR X (.builtin "len") (rLenA K):=(b8u K hK).or c1i
def lenD:D->Option Int
 |.lst ds=>some ds.length
 |.tup ds=>some ds.length
 |.str z=>if z.length<=1000000 then some z.length else none
 |.scr ns=>some ns.length
 |_=>none
def oLen:List O->Option O
 |[a]=>(lenD a.d).map fun n=>.frz (.int n)
 |_=>none
theorem a7t:OpOk K (rLenA K) oLen:=by
 intro F H vs os o Q le see e res;unfold oLen at e;split at e
 ·rename_i a
  obtain⟨x,B,rfl,h1⟩:=see.one;obtain⟨n,q1,q2⟩:=Option.map_eq_some_iff.mp e;subst q2;have r:=a4s le h1;cases hd:a.d with
  |lst ds=>
   rw[hd] at q1 r;cases q1;cases r with
   |flat z _=>cases z
   |lst sq ri _=>exact .inl ⟨_,_,rfl,.inl (.inl sq),by rw[ri.length];exact res.flat rfl⟩
  |tup ds=>
   rw[hd] at q1 r;cases q1;cases r with
   |flat z _=>cases z
   |tup sq ri _=>exact .inl ⟨_,_,rfl,.inr sq,by rw[ri.length];exact res.flat rfl⟩
  |str z=>
   rw[hd] at q1 r;unfold lenD at q1;dsimp only at q1;split at q1
   ·cases q1;cases r with
    |flat z _=>cases z;exact .inr ⟨_,rfl,ml (by assumption),res.flat rfl⟩
   ·cases q1
  |scr ns=>
   rw[hd] at q1 r;cases q1;cases r with
   |flat z _=>cases z
   |scr sq _=>exact .inl ⟨_,_,rfl,.inl sq,by rw[List.length_map];exact res.flat rfl⟩
  |_=>rw[hd] at q1;cases q1
 ·cases e
def kindD:D->Option String
 |.non=>some "NoneType"
 |.bl _=>some "bool"
 |.int _=>some "int"
 |.str _=>some "str"
 |.lst _=>some "list"
 |.tup _=>some "tuple"
 |_=>none
def oIsi:List O->Option O
 |[a,.frz (.ty T)]=>if T="int"\/T="str"\/T="bool"\/T="list"\/T="tuple" then(kindD a.d).map fun k=>.frz (.bl (isiB k T)) else none
 |_=>none
theorem c5m{H:Hp}{x:V}{d:D}{k:String}(r:RepL K H [x] [d])(e:kindD d=some k):c1n K H x k:=by
 cases r with
 |flat q _=>cases d <;> cases e <;> cases q <;> rfl
 |lst sq _ _=>cases e;exact .inl ⟨rfl,_,.inl sq⟩
 |tup sq _ _=>cases e;exact .inr ⟨rfl,_,sq⟩
 |dct _ _ _ _ _=>cases e
 |scr _ _=>cases e
 |exc _ _=>cases e
 |obj _=>cases e
theorem a9e:OpOk K (fun xs H Q=>∃x k T,xs=[x,.ty T]/\c1n K H x k/\(T="int"\/T="str"\/T="bool"\/T="list"\/T="tuple")/\Q (.bl (isiB k T)) H) oIsi:=by
 intro F H vs os o Q le see e res;unfold oIsi at e;split at e
 ·split at e
  ·obtain⟨x,y,B,C,rfl,h1,h2⟩:=see.two;obtain⟨k,q1,q2⟩:=Option.map_eq_some_iff.mp e;subst q2;cases a1c h2 rfl;exact⟨x,k,_,rfl,c5m (a4s le h1) q1,by assumption,res.flat rfl⟩
  ·cases e
 ·cases e
def seqA(o:O):Option (List D):=match listD o with
 |some ds=>some ds
 |none=>tupD o
def oList:List O->Option O
 |[a]=>(seqA a).map fun ds=>.lst (ds.map .frz)
 |_=>none
theorem b5p:OpOk K (fun xs H Q=>∃p ys,xs=[.ref p]/\(SqL K H p ys\/SqT K H p ys)/\∀l,H l=none->Q (.ref l) (upd H l (.lst ys))) oList:=by
 intro F H vs os o Q le see e res;unfold oList at e;split at e
 ·rename_i a
  obtain⟨x,B,rfl,h1⟩:=see.one;obtain⟨ds,q1,q2⟩:=Option.map_eq_some_iff.mp e;subst q2;unfold seqA at q1;cases q:listD a with
  |some ds'=>
   rw[q] at q1;cases q1;obtain⟨p,ws,rfl,sq,r⟩:=a8b le h1 q;exact⟨p,ws,rfl,.inl sq,fun l hl=>res.lst r hl⟩
  |none=>
   rw[q] at q1;obtain⟨p,ws,rfl,sq,r⟩:=d0f le h1 q1;exact⟨p,ws,rfl,.inr sq,fun l hl=>res.lst r hl⟩
 ·cases e
end
def MutOk(K:L2.FG)(r:V->List V->Hp->VK->Prop)(g:O->List O->Option (O×O)):Prop:=
 ∀(F H:Hp) (x:V) (vs:List V) (o:O) (os:List O) (o' res:O) (Ai Aτ:List Addr) (Q:VK),Same F H->OwnL K F H [some x] [some o] Ai->OwnL K F H (vs.map some) (os.map some) Aτ->(Ai++Aτ).Nodup->(∀a∈Ai++Aτ,F a=none)->
  g o os=some (o',res)->
  (∀v H' A' Ar,(∀a u,a∉Ai->H a=some u->H' a=some u)->(∀a,H a≠none->H' a≠none)->Att H H'->OwnL K F H' [some x] [some o'] A'->OwnL K F H' [some v] [some res] Ar->SubP (Ar++A') (Ai++Aτ)->Q v H')->r x vs H Q
def gMut(g:O->List O->Option (O×O))(fo:GE)(fs:GA):GE:=fun Γ=>(fo Γ).bind fun p=>match p.1 with
 |.var i=>match p.2[i]? with
  |some (some (.lst _))=>(fs p.2).bind fun q=>(ownL q.1).bind fun os=>match q.2[i]? with
   |some (some o)=>(g o os).bind fun z=>some (.own z.2,q.2.set i (some z.1))
   |_=>none
  |_=>none
 |_=>none
section
variable {K:L2.FG} {F H:Hp} {A:List Addr} {σ:St} {Γ:Gm}
theorem d5y{g:O->List O->Option (O×O)}{fo:GE}{fs:GA}{Γ Γ':Gm}{r:R}(e:gMut g fo fs Γ=some (r,Γ')):
  ∃i Γ1 ps rs Γ2 os o z,fo Γ=some (.var i,Γ1)/\Γ1[i]?=some (some (.lst ps))/\fs Γ1=some (rs,Γ2)/\ownL rs=some os/\Γ2[i]?=some (some o)/\g o os=some z/\r=.own z.2/\Γ'=Γ2.set i (some z.1):=by
 unfold gMut at e;cases q:fo Γ with
 |none=>rw[q] at e;cases e
 |some p=>
  obtain⟨r1,Γ1⟩:=p;rw[q] at e;dsimp only[Option.bind] at e;cases r1 with
  |own _=>cases e
  |fld _ _=>cases e
  |var i=>
   dsimp only at e;split at e
   ·rename_i ps h1
    cases q2:fs Γ1 with
    |none=>rw[q2] at e;cases e
    |some p2=>
     obtain⟨rs,Γ2⟩:=p2;rw[q2] at e;dsimp only at e;cases q3:ownL rs with
     |none=>rw[q3] at e;cases e
     |some os=>
      rw[q3] at e;dsimp only at e;split at e
      ·rename_i o h2
       cases q4:g o os with
       |none=>rw[q4] at e;cases e
       |some z=>rw[q4] at e;cases e;exact⟨i,Γ1,ps,rs,Γ2,os,o,z,rfl,h1,q2,q3,h2,q4,rfl,rfl⟩
      ·cases e
   ·cases e
theorem OK.mutate{vs:List V}{os:List O}{i:Nat}{x:V}{o o' res:O}{g:O->List O->Option (O×O)}{r:V->List V->Hp->VK->Prop}{Q:VK}(ok:MutOk K r g)(k:OK K F H (vs.map some++σ) (os.map some++Γ) A)(hx:σ[i]?=some (some x))(ho:Γ[i]?=some (some o))
  (hl:vs.length=os.length) (e:g o os=some (o',res)) (q:∀v H' A',Ext F H A F H' A'->OK K F H' (some v::σ) (some res::Γ.set i (some o')) A'->Q v H'):r x vs H Q:=by
 obtain⟨B,C,h1,h2,h3⟩:=OwnL.split (by simpa using hl) k.os
 subst h3;obtain⟨x',Ai,C',g1,g2,g3,g4⟩:=h2.take ho;rw[hx] at g1;cases g1;have p1:(B++C).Perm ((Ai++B)++C'):=by
  refine(List.Perm.append_left B g4).trans ?_;rw[<-List.append_assoc];exact List.perm_append_comm.append_right _
 have nd:((Ai++B)++C').Nodup:=p1.nodup_iff.mp k.nd;have fr:∀a∈(Ai++B)++C',F a=none:=fun a m=>k.fr a (p1.mem_iff.mpr m)
 obtain⟨n1,n2,n3⟩:=List.nodup_append.mp nd;have nC:∀a∈C',a∉Ai:=fun a m z=>n3 a (List.mem_append_left _ z) a m rfl
 refine ok F H x vs o os o' res Ai B Q k.le g2 h1 n1 (fun a m=>fr a (List.mem_append_left _ m)) e fun v H' A' Ar kp dm at' w1 w2 sp=>?_
 have s2:SubP ((Ar++A')++C') ((Ai++B)++C'):=sp.app (SubP.refl C');have hi:i < Γ.length:=(List.getElem?_eq_some_iff.mp ho).1;have g3':OwnL K F H' σ (Γ.set i none) C':=g3.keep (Same.refl _) fun a m u e=>kp a u (nC a m) e
 obtain⟨D,j1,C2,j2,j3⟩:=OwnL.put w1 i g3' (by rw[List.length_set];exact hi)
 rw[a5a hx,List.set_set] at j1;have s3:SubP (Ar++D) (B++C):=by
  have a1:SubP (Ar++D) (Ar++(A'++C')):=(SubP.refl Ar).app ((SubP.of_perm j2).trans ((SubP.refl A').app (.of_sub j3)));rw[<-List.append_assoc] at a1;exact a1.trans (s2.trans (.of_perm p1.symm))
 refine q v H' (Ar++D) ⟨Same.refl _,fun a u e n=>kp a u (fun m=>n (p1.mem_iff.mpr (by simp[m]))) e,dm,fun a h=>.inl h,fun a m=>.inl (s3.mem a m),at'⟩ ⟨fun a u e=>?_,w2.app j1,s3.nodup k.nd,fun a m=>k.fr a (s3.mem a m)⟩
 refine kp a u (fun m=>?_) (k.le a u e)
 rw[fr a (by simp[m])] at e
 cases e
end
section
variable {X:Cx} {K:L2.FG} {o e:Expr} {es:List Expr} {fo:GE} {fs:GA} {name:Str} {apos cpos:Pos} {id:String} {r:V->List V->Hp->VK->Prop} {g:O->List O->Option (O×O)}
theorem e3r(ok:MutOk K r g){σ:St}{H:Hp}{Q:VK}(t:tG K (gMut g fo fs) σ H Q):tBM K "list" r (tG K fo) (tGA K fs) σ H Q:=by
 obtain⟨F,A,Γ,rr,Γ',k,e,w⟩:=t;obtain⟨i,Γ1,ps,rs,Γ2,os,o,z,e1,e2,e3,e4,e5,e6,rfl,rfl⟩:=d5y e;refine⟨F,A,Γ,_,Γ1,k,e1,fun x H1 p=>?_⟩
 obtain⟨F1,A1,x1,k1,hh⟩:=p;have hx:σ[i]?=some (some x):=hh.1;obtain⟨k2,x2⟩:=k1.sub (σ':=σ) (Γ':=Γ1) (by cases k1.os with|skip t=>exact t) (SubP.refl _)
 refine⟨?_,F1,A1,Γ1,rs,Γ2,k2,e3,fun vs H2 p2=>?_⟩
 ·obtain⟨v,Ai,B,g1,g2,_⟩:=k2.os.take e2;rw[hx] at g1;cases g1;cases g2 with
  |lst hq _ _=>exact .inl ⟨rfl,_,SqL.of hq⟩
 ·obtain⟨F3,A3,x3,k3,h3⟩:=p2;rw[a5b e4] at k3;have hl:vs.length=os.length:=by
   have:=h3.length;have h4:=congrArg List.length (a5b e4);simp at h4;omega
  exact OK.mutate ok k3 hx e5 hl e6 fun v H' A' x4 k4=>w v H' ⟨F3,A',(x1.trans (x2.trans (x3.trans x4))),k4,True.intro⟩
theorem c5n(slot:Slot "list" name id)(hty:typeOf (.builtin id)=pure (.type "method_descriptor"))(hm:MtM X id r)(ok:MutOk K r g)(ho:PE X o (tG K fo))(ha:PA X (e::es) (tGA K fs))
  (hbase:attributeBase o name X.env (eval o X.env)=eval o X.env:=by rfl)
  (hfew:((backTo cpos (starEach (e::es) X.env)).all (fun x => !x.1) && (backToKw cpos (keywordEach [] X.env)).all (fun x=>x.1.isSome)
   && decide ((e::es).length+([]:List Keyword).length+(if([]:List Keyword).isEmpty then 0 else 1) < 30))=true:=by rfl)
  (hline:(apos.endLine == cpos.line)=true:=by rfl) (hs:starEach (e::es) X.env=(false,eval e X.env)::starEach es X.env:=by rfl) (hplain:(backTo cpos (starEach es X.env)).any (·.1)=false:=by rfl) (hK:X.K=K:=by rfl) :
  PE X (.Call (.Attribute o name apos) (e::es) [] cpos) (tG K (gMut g fo fs)):=by
 subst hK;exact(d5i PySem.F.plainAttrs_list slot hty hm ho ha hbase hfew hline hs hplain).mono fun _ _ _ t=>e3r ok t
end
section
variable {K:L2.FG} {F H:Hp} {l:Addr} {ws ws':List V} {ps ps':List O} {Ap A':List Addr}
theorem c7r(hn:l∉A')(h:OwnL K F H (ws'.map some) (ps'.map some) A'):OwnL K F (upd H l (.lst ws')) [some (.ref l)] [some (.lst ps')] (l::A'++[]):=
 .lst a2d (h.keep (Same.refl _) fun a m u e=>by rw[a0v (fun z=>hn (by rw[<-z];exact m):a≠l)];exact e) .nil
theorem c5o{o:HO}{Ai:List Addr}(hm:l∈Ai):∀a u,a∉Ai->H a=some u->upd H l o a=some u:=fun a u n e=>by
 rw[a0v (fun z=>n (by rw[z];exact hm):a≠l)];exact e
theorem b9d{o:HO}:∀a,H a≠none->upd H l o a≠none:=fun a h=>by
 by_cases z:a=l
 ·rw[z,a2d];exact fun z=>by cases z
 ·rw[a0v z];exact h
theorem b1g{x:V}{Ai Aτ:List Addr}{Q:VK}{o:O}(h:OwnL K F H [some x] [some o] Ai)(hps:o=.lst ps)(nd:(Ai++Aτ).Nodup){o' res:O}
  (q:∀v H' A' Ar,(∀a u,a∉Ai->H a=some u->H' a=some u)->(∀a,H a≠none->H' a≠none)->Att H H'->OwnL K F H' [some x] [some o'] A'->OwnL K F H' [some v] [some res] Ar->SubP (Ar++A') (Ai++Aτ)->Q v H') :
  ∃l ws Ap,x=.ref l/\H l=some (.lst ws)/\OwnL K F H (ws.map some) (ps.map some) Ap/\(Ap++Aτ).Nodup/\∀ws' ps' A' v Ar,o'=.lst ps'->OwnL K F H (ws'.map some) (ps'.map some) A'->OwnL K F H [some v] [some res] Ar->SubP (Ar++A') (Ap++Aτ)->Q v (upd H l (.lst ws')):=by
 subst hps;cases h with
 |@lst l ws _ Ap B _ _ hl i t=>
  have eB:B=[]:=by cases t;rfl
  subst eB;rw[List.append_nil] at nd q;obtain⟨nl,nd'⟩:=List.nodup_cons.mp (by simpa using nd:(l::(Ap++Aτ)).Nodup)
  refine⟨l,ws,Ap,rfl,hl,i,nd',fun ws' ps' A' v Ar eo w1 w2 sp=>?_⟩
  subst eo;have nA:l∉A':=fun m=>nl (sp.mem l (List.mem_append_right _ m))
  have nR:l∉Ar:=fun m=>nl (sp.mem l (List.mem_append_left _ m))
  refine q v _ _ Ar (c5o (by simp)) b9d (.upd fun C dx fs z=>by rw[hl] at z;cases z) (c7r nA w1) (w2.keep (Same.refl _) fun a m u e=>by rw[a0v (fun z=>nR (by rw[<-z];exact m):a≠l)];exact e) ?_
  rw[List.append_nil];have s1:SubP (Ar++l::A') (l::(Ar++A')):=.of_perm (by simpa using List.perm_middle)
  refine s1.trans ?_;obtain⟨L,p1,p2⟩:=sp;exact⟨l::L,p1.cons l,by rw[List.cons_append];exact p2.cons_cons l⟩
theorem b2k:OwnL K F H [some .non] [some (.frz .non)] []:=.frz (.flat rfl .nil) .nil
def a7j:O->List O->Option (O×O)
 |.lst ps,[y]=>if ps.length < 1000000 then some (.lst (ps++[y]),.frz .non) else none
 |_,_=>none
theorem b1h:MutOk K c9o a7j:=by
 intro F H x vs o os o' res Ai Aτ Q le h1 h2 nd fr e q;unfold a7j at e;split at e
 ·rename_i ps y
  split at e
  ·rename_i hz
   cases e;obtain⟨l,ws,Ap,rfl,hl,i,nd',go⟩:=b1g h1 rfl nd q
   match vs,h2 with
   |[v],h2=>
    have hlen:ws.length=ps.length:=by have:=i.length;simpa using this
    refine⟨l,ws,v,rfl,rfl,hl,Nat.lt_of_lt_of_le (by omega:ws.length < 1000000) (by decide),?_⟩
    refine go (ws++[v]) (ps++[y]) (Ap++Aτ) .non [] rfl ?_ b2k (SubP.refl _);rw[List.map_append,List.map_append];exact i.app h2
   |[],h2=>have:=h2.length;simp at this
   |_::_::_,h2=>have:=h2.length;simp at this
  ·cases e
 ·cases e
def a9f:O->List O->Option (O×O)
 |.lst ps,[.frz (.int i),y]=>if 0<=i/\i < 1000000/\ps.length < 1000000 then some (.lst (ps.take i.toNat++y::ps.drop i.toNat),.frz .non) else none
 |_,_=>none
theorem c1y:MutOk K c9x a9f:=by
 intro F H x vs o os o' res Ai Aτ Q le h1 h2 nd fr e q;unfold a9f at e;split at e
 ·rename_i ps k y
  split at e
  ·rename_i hz
   cases e;obtain⟨l,ws,Ap,rfl,hl,i,nd',go⟩:=b1g h1 rfl nd q
   match vs,h2 with
   |[v,v'],h2=>
    have hlen:ws.length=ps.length:=by have:=i.length;simpa using this
    obtain⟨rfl,h3⟩:=b8y h2;refine⟨l,ws,k,v',rfl,rfl,hl,hz.1,by omega,Nat.lt_of_lt_of_le (by omega:ws.length < 1000000) (by decide),?_⟩
    have es:OwnL K F H ((ws.take k.toNat).map some++(ws.drop k.toNat).map some) ((ps.take k.toNat).map some++(ps.drop k.toNat).map some) Ap:=by
     rw[<-List.map_append,<-List.map_append,List.take_append_drop,List.take_append_drop];exact i
    obtain⟨B,C,g1,g2,g3⟩:=OwnL.split (by simp[hlen]) es
    subst g3;refine go (insV ws k.toNat v') (ps.take k.toNat++y::ps.drop k.toNat) (B++(Aτ++C)) .non [] rfl ?_ b2k ?_
    ·unfold insV;rw[List.map_append,List.map_append,List.map_cons,List.map_cons];exact g1.app (h3.app g2)
    ·rw[List.nil_append,List.append_assoc];exact(SubP.refl B).app (.of_perm List.perm_append_comm)
   |[],h2=>have:=h2.length;simp at this
   |[_],h2=>have:=h2.length;simp at this
   |_::_::_::_,h2=>have:=h2.length;simp at this
  ·cases e
 ·cases e
def b0g:O->List O->Option (O×O)
 |.lst _,[]=>some (.lst [],.frz .non)
 |_,_=>none
theorem b4b:MutOk K d7r b0g:=by
 intro F H x vs o os o' res Ai Aτ Q le h1 h2 nd fr e q;unfold b0g at e;split at e
 ·cases e;obtain⟨l,ws,Ap,rfl,hl,i,nd',go⟩:=b1g h1 rfl nd q
  match vs,h2 with
  |[],h2=>exact⟨l,ws,rfl,rfl,hl,go [] [] [] .non [] rfl .nil b2k (.of_sub (List.nil_sublist _))⟩
  |_::_,h2=>have:=h2.length;simp at this
 ·cases e
end
def rSetA(K:L2.FG):TSet:=fun o i v H Q=>rSetL o i v H Q\/∃a H4,o=.ref a/\XPut K H a i v H4/\Q H4
theorem e3s{X:Cx}(hu:X.A.units+41 < cLine):PSet X (rSetA X.K):=by
 intro pins s σ H o i v ov iv u Q I ro ri rv h;rcases h with h|⟨a,H4,rfl,g,q⟩
 ·exact d5h pins s σ H o i v ov iv u Q I ro ri rv h
 ·cases ro;exact d0t (by omega) I g ri rv fun s4 I4=>⟨H4,I4,q⟩
def putG{α:Type}:List (TK×α)->TK->α->List (TK×α)
 |[],k,v=>[(k,v)]
 |e::es,k,v=>if e.1=k then(e.1,v)::es else e::putG es k v
def setO(v:O)(i:D):O->Option (O×O)
 |.lst ps=>(intD i).bind fun k=>(ixN ps.length k).map fun j=>(.lst (ps.set j v),.frz .non)
 |.dct kvs=>(keyD i).bind fun k=>if kvs.length < 1000000 then some (.dct (putG kvs k v),.frz .non) else none
 |_=>none
def mSet(o:O):List O->Option (O×O)
 |[v,.frz i]=>setO v i o
 |_=>none
def rSetM(K:L2.FG):V->List V->Hp->VK->Prop:=fun x vs H Q=>∃v i,vs=[v,i]/\rSetA K x i v H fun H'=>Q .non H'
section
variable {K:L2.FG} {F H:Hp}
theorem c5p{k:TK}{y v:V}{o:O}{Bv:List Addr}(q:OwnL K F H [some v] [some o] Bv)(ry:RepL K F [y] [k.d]):∀{ws:List (TK×V×V)} {kvs:List (TK×O)} {B:List Addr},ws.map (·.1)=kvs.map (·.1)->RepL K F (ws.map (·.2.1)) (kvs.map (·.1.d))->
  OwnL K F H (ws.map fun p=>some p.2.2) (kvs.map fun p=>some p.2) B->∃C,OwnL K F H ((putX ws k y v).map fun p=>some p.2.2) ((putG kvs k o).map fun p=>some p.2) C/\SubP C (Bv++B)/\(putX ws k y v).map (·.1)=(putG kvs k o).map (·.1)/\
   RepL K F ((putX ws k y v).map (·.2.1)) ((putG kvs k o).map (·.1.d))
 |[],[],B,_,_,h=>⟨Bv,q,.of_sub (List.sublist_append_left _ _),rfl,ry⟩
 |w::ws,p::kvs,B,hk,rk,h=>by
  rw[List.map_cons,List.map_cons] at hk;injection hk with h1 h2;obtain⟨B1,B2,g1,g2,rfl⟩:=OwnL.one h;unfold putX putG;rw[h1];by_cases e:p.1=k
  ·rw[if_pos e,if_pos e];refine⟨Bv++B2,OwnL.app (τ:=[some v]) (Θ:=[some o]) q g2,.of_sub ((List.Sublist.refl _).append (List.sublist_append_right _ _)),?_,?_⟩
   ·simp only[List.map_cons,h2]
   ·simp only[List.map_cons];exact rk
  ·rw[if_neg e,if_neg e];obtain⟨C,j1,j2,j3,j4⟩:=c5p q ry h2 rk.inv.2 g2;refine⟨B1++C,OwnL.app (τ:=[some w.2.2]) (Θ:=[some p.2]) g1 j1,?_,?_,?_⟩
   ·refine((SubP.refl B1).app j2).trans (.of_perm ?_);rw[<-List.append_assoc,<-List.append_assoc];exact List.perm_append_comm.append_right _
   ·simp only[List.map_cons,h1,j3]
   ·exact .cons rk.inv.1 j4
 |[],_::_,_,h,_,_=>by simp at h
 |_::_,[],_,h,_,_=>by simp at h
theorem e0j{F H:Hp}{v:V}{kvs:List (TK×O)}{A:List Addr}(h:OwnL K F H [some v] [some (.dct kvs)] A):∃a ws ep Ap,v=.ref a/\A=a::Ap/\H a=some (.dG ws ep)/\ws.map (·.1)=kvs.map (·.1)/\RepL K F (ws.map (·.2.1)) (kvs.map (·.1.d))/\OwnL K F H (ws.map fun p=>some p.2.2) (kvs.map fun p=>some p.2) Ap:=by
 cases h with
 |@dct a ws _ ep Ap B _ _ hl hk rk ch t=>
  cases t;exact⟨a,ws,ep,Ap,rfl,List.append_nil _,hl,hk,rk,ch⟩
theorem d8a:MutOk K (rSetM K) mSet:=by
 intro F H x vs o os o' res Ai Aτ Q le h1 h2 nd fr e q;unfold mSet at e;split at e
 case h_2=>cases e
 rename_i ov i
 unfold setO at e;split at e
 ·rename_i ps
  obtain⟨k,hk,e⟩:=Option.bind_eq_some_iff.mp e;cases b0k hk;obtain⟨j,e1,e2⟩:=Option.map_eq_some_iff.mp e;cases e2;obtain⟨l,ws,Ap,rfl,hl,i,nd',go⟩:=b1g h1 rfl nd q;obtain⟨v,v',rfl⟩:=e3m (l:=vs) (by have:=h2.length;simp at this;omega)
  have hlen:ws.length=ps.length:=by have:=i.length;simpa using this
  obtain⟨B1,B2,g1,g2,rfl⟩:=OwnL.one h2;obtain⟨rfl,g3⟩:=b8y g2;cases g3;have hj:j < ps.length:=(c3j e1).2.1;refine⟨v,.int k,rfl,.inl ⟨l,ws,k,j,rfl,rfl,hl,by rw[hlen];exact e1,?_⟩⟩
  obtain⟨D,j1,C2,j2,j3⟩:=OwnL.put g1 j i (by simpa using hj)
  refine go (ws.set j v) (ps.set j ov) D .non [] rfl (by rw[List.map_set,List.map_set];exact j1) b2k ?_
  rw[List.nil_append,List.append_nil];exact((SubP.of_perm j2).trans ((SubP.refl B1).app (.of_sub j3))).trans (.of_perm List.perm_append_comm)
 ·rename_i kvs
  cases q1:keyD i with
  |none=>rw[q1] at e;cases e
  |some k=>
   rw[q1] at e;dsimp only[Option.bind] at e;split at e
   ·rename_i hz
    cases e;obtain⟨v,v',rfl⟩:=e3m (l:=vs) (by have:=h2.length;simp at this;omega)
    obtain⟨B1,B2,g1,g2,rfl⟩:=OwnL.one h2;have ry:RepL K F [v'] [k.d]:=by rw[(a9d q1).1];exact b4a g2
    obtain⟨l,ws,ep,Ap,rfl,rfl,hl,hk,rk,ch⟩:=e0j h1;obtain⟨C,j1,j2,j3,j4⟩:=c5p (k:=k) g1 ry hk rk ch;have hlen:ws.length=kvs.length:=by have:=congrArg List.length hk;simpa using this
    have nd1:(l::(Ap++(B1++B2))).Nodup:=by simpa using nd
    have nC:l∉C:=fun m=>(List.nodup_cons.mp nd1).1 (by
     rcases List.mem_append.mp (j2.mem l m) with z|z
     ·simp[z]
     ·simp[z])
    refine⟨v,v',rfl,.inr ⟨l,_,rfl,⟨ws,ep,k,hl,by rw[c5l hk];exact rk.mono le,ry.mono le,(a9d q1).2,Nat.lt_of_lt_of_le (by omega:ws.length < 1000000) (by decide),rfl⟩,?_⟩⟩
    refine q .non _ (l::C++[]) [] (c5o (by simp)) b9d (.upd fun C dx fs z=>by rw[hl] at z;cases z) (.dct a2d j3 j4 (j1.keep (Same.refl _) fun a m u e=>by rw[a0v (fun z=>nC (by rw[<-z];exact m):a≠l)];exact e) .nil) b2k ?_
    rw[List.nil_append,List.append_nil];refine((SubP.refl [l]).app j2).trans ⟨l::(Ap++B1),?_,?_⟩
    ·show(l::(B1++Ap)).Perm _;exact List.perm_append_comm.cons l
    ·exact((List.Sublist.refl Ap).append (List.sublist_append_left B1 B2)).cons_cons l
   ·cases e
 ·cases e
end
def gsPut(fv fo fi:GE):GS:=fun Γ=>(fv Γ).bind fun p=>(fo p.2).bind fun q=>(fi q.2).bind fun r=>match p.1,q.1,r.1 with
 |.own v,.var i,.own y=>match r.2[i]? with
  |some (some o)=>(mSet o [v,y]).bind fun z=>some (.nx,r.2.set i (some z.1))
  |_=>none
 |_,_,_=>none
section
variable {X:Cx} {K:L2.FG} {m:List Bool} {W:Option XW} {e o i:Expr} {fv fo fi:GE} {pos pos':Pos}
theorem d0x{Γ Γ':Gm}{fl:Fl}(e:gsPut fv fo fi Γ=some (fl,Γ')):∃v Γ1 j Γ2 y Γ3 o z,fv Γ=some (.own v,Γ1)/\fo Γ1=some (.var j,Γ2)/\fi Γ2=some (.own y,Γ3)/\Γ3[j]?=some (some o)/\mSet o [v,y]=some z/\fl=.nx/\Γ'=Γ3.set j (some z.1):=by
 unfold gsPut at e;cases q1:fv Γ with
 |none=>rw[q1] at e;cases e
 |some p=>
  obtain⟨r1,Γ1⟩:=p;rw[q1] at e;dsimp only[Option.bind] at e;cases q2:fo Γ1 with
  |none=>rw[q2] at e;cases e
  |some p=>
   obtain⟨r2,Γ2⟩:=p;rw[q2] at e;dsimp only at e;cases q3:fi Γ2 with
   |none=>rw[q3] at e;cases e
   |some p=>
    obtain⟨r3,Γ3⟩:=p;rw[q3] at e;dsimp only at e;cases r1 with
    |var _=>cases e
    |fld _ _=>cases e
    |own v=>
     cases r2 with
     |own _=>cases e
     |fld _ _=>cases e
     |var j=>
      cases r3 with
      |var _=>cases e
      |fld _ _=>cases e
      |own y=>
       dsimp only at e;split at e
       ·rename_i oo h
        cases q4:mSet oo [v,y] with
        |none=>rw[q4] at e;cases e
        |some z=>rw[q4] at e;cases e;exact⟨v,Γ1,j,Γ2,y,Γ3,oo,z,rfl,q2,q3,h,q4,rfl,rfl⟩
       ·cases e
theorem d8b(he:PE X e (tG K fv))(ho:PE X o (tG K fo))(hi:PE X i (tG K fi))(hu:X.A.units+41 < cLine)
  (ha:∀v,assign (.Subscript o i pos') X.env v=(do
   let ov <-holding [v] (eval o X.env)
   let iv <-holding [v,ov] (eval i X.env)
   standAt pos'
   holding [v,ov,iv] (setItem ov iv v)
   release [v,ov,iv] []):=by intro _;rfl)
  (hs:swapsWithSole [.Subscript o i pos'] e pos.line X.env=pure false:=by rfl) (hw:swappedStores [.Subscript o i pos'] e X.env=pure none:=by rfl)
  (h1:(assignEach [.Subscript o i pos'] X.env).map (·.2)=[assign (.Subscript o i pos') X.env]:=by rfl) (hK:X.K=K:=by rfl):PS X (.Assign [.Subscript o i pos'] e pos) (tS K m W (gsPut fv fo fi)):=by
 subst hK;refine(d7p he (d7o ho hi (e3s hu) ha) hs hw h1).mono fun D σ H t=>?_
 obtain⟨F,A,Γ,fl,Γ',k,e,w⟩:=t;obtain⟨v,Γ1,j,Γ2,y,Γ3,oo,z,e1,e2,e3,e4,e5,rfl,rfl⟩:=d0x e;have t:tGA X.K (a0c fv (a0c fo (a0c fi gaNil))) σ H fun vs H'=>∃a b c,vs=[a,b,c]/\rSetA X.K b c a H' fun H4=>D.nx σ H4:=by
  refine⟨F,A,Γ,[.own v,.var j,.own y],Γ3,k,?_,fun vs H1 p=>?_⟩
  ·unfold a0c;simp only[e1,e2,e3,Option.bind,gaNil]
  ·obtain⟨F1,A1,x,k1,hh⟩:=p;obtain⟨a,b,c,rfl⟩:=e3n hh.length;refine⟨a,b,c,rfl,?_⟩;have hx:σ[j]?=some (some b):=hh.1;have k2:OK X.K F1 H1 ([a,c].map some++σ) ([v,y].map some++Γ3) A1:=by
    obtain⟨B1,C1,g1,g2,g3⟩:=OwnL.one (σ:=some b::some c::σ) (Γ:=none::some y::Γ3) k1.os;cases g2 with
    |skip g2=>subst g3;exact⟨k1.le,g1.app g2,k1.nd,k1.fr⟩
   have z':=OK.mutate (r:=rSetM X.K) (g:=mSet) (Q:=fun _ H4=>D.nx σ H4) (o':=z.1) (res:=z.2) d8a k2 hx e4 rfl e5 fun v' H' A' x4 k4=>by
    obtain⟨B2,k5,sub⟩:=OK.part (τ:=[some v']) (Θ:=[some z.2]) k4 rfl;exact w σ H' ⟨F1,B2,(x.trans x4).own' sub,k5,Kept.refl⟩
   obtain⟨v',i',ee,q⟩:=z';cases ee;exact q
 have t1:=a4m t;refine tG.mono t1 fun a H1 h=>tG.mono (a4m h) fun b H2 h2=>tG.mono (a4m h2) fun c H3 h3=>?_
 obtain⟨F,A,Γ,rs,Γ',k,e,w⟩:=h3;cases e;obtain⟨a',b',c',ee,q⟩:=w [] H3 ⟨F,A,Ext.refl,k,True.intro⟩;cases ee;exact q
end
abbrev GO:=Gm->Option (Option Int×Gm)
def tGO(K:L2.FG)(f:GO):TO:=fun σ H Q=>∃F A Γ b Γ',OK K F H σ Γ A/\f Γ=some (b,Γ')/\∀H',Post K F H A σ Γ' [] [] H'->Q b H'
def b7v:GO:=fun Γ=>some (none,Γ)
def intR:R->Option Int
 |.own (.frz (.int i))=>some i
 |_=>none
def b5q(f:GE):GO:=fun Γ=>(f Γ).bind fun p=>(intR p.1).map fun i=>(some i,p.2)
section
variable {X:Cx} {K:L2.FG} {e:Expr} {fa:GE} {lo hi:Option Expr} {fl fh:GO} {pos p2:Pos}
theorem b9e:PO X none (tGO K b7v):=by
 intro pins s σ H Q I t;refine d9l pins s σ H Q I ?_;obtain⟨F,A,Γ,b,Γ',k,e,w⟩:=t;cases e;exact w H ⟨F,A,Ext.refl,k,True.intro⟩
theorem b9f(h:PE X e (tG K fa)):PO X (some e) (tGO K (b5q fa)):=by
 intro pins s σ H Q I t;refine d9m h pins s σ H Q I ?_;obtain⟨F,A,Γ,b,Γ',k,e,w⟩:=t;unfold b5q at e;cases q:fa Γ with
 |none=>rw[q] at e;cases e
 |some p=>
  obtain⟨r,Γ1⟩:=p;rw[q] at e;obtain⟨i,e1,e2⟩:=Option.map_eq_some_iff.mp e;cases e2;have er:r=.own (.frz (.int i)):=by
   unfold intR at e1;split at e1
   ·rename_i hh;cases e1;exact hh
   ·cases e1
  subst er;exact⟨F,A,Γ,_,_,k,q,fun v H' pp=>⟨i,pp.flat rfl,w H' pp.drop⟩⟩
def cutD(ds:List D)(lo hi:Option Int):List D:=(ds.drop (HT.sIx ds.length 0 lo)).take (HT.sIx ds.length ds.length hi - HT.sIx ds.length 0 lo)
def slO(o:O)(lo hi:Option Int):Option O:=match o,listD o,tupD o with
 |.frz (.str z),_,_=>if z.length<=1000000 then some (.frz (.str (Txt.slice z lo hi))) else none
 |_,some ds,_=>some (.lst ((cutD ds lo hi).map .frz))
 |_,none,some ds=>if HT.sIx ds.length 0 lo=0/\HT.sIx ds.length ds.length hi=ds.length then none else some (.tup ((cutD ds lo hi).map .frz))
 |_,_,_=>none
def rSlA(K:L2.FG):V->Option Int->Option Int->Hp->VK->Prop:=fun x lo hi H Q=>rSlS x lo hi H Q\/rSlL K x lo hi H Q\/rSlT K x lo hi H Q
theorem sl_A(K:L2.FG)(hK:X.K=K:=by rfl):SlR X (rSlA K):=sl_str.or ((d5p K hK).or (d9t K hK))
theorem e5k{F H:Hp}{x:V}{o o':O}{B:List Addr}{Q:VK}{lo hi:Option Int}(le:Same F H)(h:OwnL K F H [some x] [some o] B)(e:slO o lo hi=some o')(res:Res K F H o' Q):rSlA K x lo hi H Q:=by
 unfold slO at e;split at e
 ·split at e
  ·cases e;cases a1c h rfl;exact .inl ⟨_,rfl,ml (by assumption),res.flat rfl⟩
  ·cases e
 ·rename_i ds _ _ q1 _
  cases e;obtain⟨a,ws,rfl,sq,r⟩:=a8b le h (by assumption)
  refine .inr (.inl ⟨a,ws,rfl,sq,fun p hp=>res.lst ?_ hp⟩)
  unfold cutV cutD;rw[r.length];exact(r.drop _).take _
 ·split at e
  ·cases e
  ·rename_i hne
   cases e;obtain⟨a,ws,rfl,sq,r⟩:=d0f le h (by assumption)
   refine .inr (.inr ⟨a,ws,rfl,sq,by rw[r.length];exact hne,fun p hp=>res.tup ?_ hp⟩)
   unfold cutV cutD;rw[r.length];exact(r.drop _).take _
 ·cases e
def b3h(f:GE)(lo hi:GO):GE:=fun Γ=>(f Γ).bind fun p=>(lo p.2).bind fun q=>(hi q.2).bind fun r=>(seeR r.2 p.1).bind fun o=>(slO o q.1 r.1).bind fun o'=>some (.own o',r.2)
theorem c7s{Γ Γ':Gm}{r:R}(e:b3h fa fl fh Γ=some (r,Γ')):∃r1 Γ1 l Γ2 u o o',fa Γ=some (r1,Γ1)/\fl Γ1=some (l,Γ2)/\fh Γ2=some (u,Γ')/\seeR Γ' r1=some o/\slO o l u=some o'/\r=.own o':=by
 unfold b3h at e;cases q1:fa Γ with
 |none=>rw[q1] at e;cases e
 |some p=>
  rw[q1] at e;dsimp only[Option.bind] at e;cases q2:fl p.2 with
  |none=>rw[q2] at e;cases e
  |some q=>
   rw[q2] at e;dsimp only at e;cases q3:fh q.2 with
   |none=>rw[q3] at e;cases e
   |some w=>
    rw[q3] at e;dsimp only at e;cases q4:seeR w.2 p.1 with
    |none=>rw[q4] at e;cases e
    |some o=>
     rw[q4] at e;dsimp only at e;cases q5:slO o q.1 w.1 with
     |none=>rw[q5] at e;cases e
     |some o'=>rw[q5] at e;cases e;exact⟨p.1,p.2,q.1,q.2,w.1,o,o',rfl,q2,q3,q4,q5,rfl⟩
theorem b4c(he:PE X e (tG K fa))(hl:PO X lo (tGO K fl))(hu:PO X hi (tGO K fh))(hK:X.K=K:=by rfl):PE X (.Subscript e (.Slice lo hi none p2) pos) (tG K (b3h fa fl fh)):=by
 refine(d5g (sl_A K hK) he hl hu).mono fun σ H Q t=>?_
 obtain⟨F,A,Γ,rr,Γ',k,e,w⟩:=t;obtain⟨r1,Γ1,l,Γ2,u,o,o',e1,e2,e3,e4,e5,rfl⟩:=c7s e;refine⟨F,A,Γ,r1,Γ1,k,e1,fun v H1 p=>?_⟩
 obtain⟨F1,A1,x1,k1,hh⟩:=p;obtain⟨C,kC,fr⟩:=OK.frame (τ:=[some v]) (Θ:=[r1.o]) k1 rfl;refine⟨F1,C,Γ1,l,Γ2,kC,e2,fun H2 p2=>?_⟩
 obtain⟨F2,A2,x2,k2,_⟩:=p2;obtain⟨A3,x3,k3⟩:=fr _ _ _ _ _ x2 k2;obtain⟨C2,kC2,fr2⟩:=OK.frame (τ:=[some v]) (Θ:=[r1.o]) k3 rfl;refine⟨F2,C2,Γ2,u,Γ',kC2,e3,fun H3 p3=>?_⟩
 obtain⟨F4,A4,x4,k4,_⟩:=p3;obtain⟨A5,x5,k5⟩:=fr2 _ _ _ _ _ x4 k4;have pp:Post K F H A σ Γ' [r1] [v] H3:=⟨F4,A5,x1.trans (x3.trans x5),k5,hh.att (x3.trans x5).att⟩;obtain⟨F6,le,see,res⟩:=pp.res (os:=[o]) (o:=o') (by unfold seeL;rw[e4];rfl) w
 obtain⟨x,B,ev,h1⟩:=see.one;cases ev;exact e5k le h1 e5 res
end
def capIn:List Nat->Gm->Gm×Gm
 |[],Γ=>([],Γ)
 |i::cap,Γ=>let p:=capIn cap (Γ.set i none);((Γ[i]?).join::p.1,p.2)
def b0h:List Nat->Gm->Gm->Gm
 |i::cap,x::Γi,Γ=>(b0h cap Γi Γ).set i x
 |_,_,Γ=>Γ
def compLoop(g:GG)(ct:GT)(ce:GE):List D->Gm->List O->Option (List O×Gm)
 |[],Γ,acc=>some (acc,Γ)
 |d::ds,Γ,acc=>(g d Γ).bind fun Γ1=>(ct Γ1).bind fun p=>if p.1=true then
   (ce p.2).bind fun q=>(ownL [q.1]).bind fun os=>if acc.length < 1000000 then compLoop g ct ce ds q.2 (acc++os) else none
  else compLoop g ct ce ds p.2 acc
section
variable {K:L2.FG} {F H:Hp} {σ:St}
theorem c5q:∀{cap:List Nat} {Γ:Gm} {C:List Addr},OwnL K F H σ Γ C->∃B C',OwnL K F H (cap.map fun i=>(σ[i]?).join) (capIn cap Γ).1 B/\OwnL K F H σ (capIn cap Γ).2 C'/\SubP (B++C') C
 |[],Γ,C,h=>⟨[],C,.nil,h,SubP.refl _⟩
 |i::cap,Γ,C,h=>by
  cases q:Γ[i]? with
  |none=>
   obtain⟨C1,g1,g2⟩:=OwnL.forget i h;obtain⟨B,C',j1,j2,j3⟩:=c5q (cap:=cap) g1;refine⟨B,C',?_,j2,j3.trans (.of_sub g2)⟩;unfold capIn;simp only[q,List.map_cons];exact .skip j1
  |some z=>
   cases z with
   |none=>
    obtain⟨C1,g1,g2⟩:=OwnL.forget i h;obtain⟨B,C',j1,j2,j3⟩:=c5q (cap:=cap) g1;refine⟨B,C',?_,j2,j3.trans (.of_sub g2)⟩;unfold capIn;simp only[q,List.map_cons];exact .skip j1
   |some o=>
    obtain⟨v,Ai,C1,g1,g2,g3,g4⟩:=h.take q;obtain⟨B,C',j1,j2,j3⟩:=c5q (cap:=cap) g3;refine⟨Ai++B,C',?_,j2,?_⟩
    ·unfold capIn;simp only[q,List.map_cons,g1];exact g2.app j1
    ·rw[List.append_assoc];exact((SubP.refl Ai).app j3).trans (.of_perm g4.symm)
theorem d0y:∀{cap:List Nat} {τ:St} {Γi Γ:Gm} {B C:List Addr},OwnL K F H τ Γi B->OwnL K F H σ Γ C->τ=(cap.map fun i=>(σ[i]?).join)->∃D,OwnL K F H σ (b0h cap Γi Γ) D/\SubP D (B++C)
 |[],_,Γi,Γ,B,C,h1,h2,e=>by
  subst e;cases h1;exact⟨C,h2,.of_sub (List.sublist_append_right _ _)⟩
 |i::cap,τ,[],Γ,B,C,h1,h2,e=>by subst e;have:=h1.length;simp at this
 |i::cap,τ,x::Γi,Γ,B,C,h1,h2,e=>by
  subst e;obtain⟨B1,B2,g1,g2,rfl⟩:=OwnL.one h1;obtain⟨D,j1,j2⟩:=d0y (cap:=cap) g2 h2 rfl;have s1:SubP D ((B1++B2)++C):=j2.trans (by rw[List.append_assoc];exact .of_sub (List.sublist_append_right _ _))
  cases x with
  |none=>
   obtain⟨D',k1,k2⟩:=OwnL.forget i j1;exact⟨D',k1,(SubP.of_sub k2).trans s1⟩
  |some o=>
   have g1:OwnL K F H [(σ[i]?).join] [some o] B1:=g1;cases q:σ[i]? with
   |none=>rw[q] at g1;cases g1
   |some z=>
    cases z with
    |none=>rw[q] at g1;cases g1
    |some v=>
     rw[q] at g1;have hi:i < (b0h cap Γi Γ).length:=by rw[<-j1.length];exact(List.getElem?_eq_some_iff.mp q).1
     obtain⟨D',k1,C',k2,k3⟩:=OwnL.put (show OwnL K F H [some v] [some o] B1 from g1) i j1 hi;rw[a5a q] at k1;refine⟨D',k1,(SubP.of_perm k2).trans ?_⟩;rw[List.append_assoc];exact(SubP.refl B1).app ((SubP.of_sub k3).trans j2)
end
def capM(k:Nat)(cap:List Nat):List Bool:=List.replicate k false++List.replicate cap.length true
def a3z(src:Gm->Option (List D×Gm))(g:GG)(ct:GT)(ce:GE)(k:Nat)(cap:List Nat):GE:=fun Γ=>(src Γ).bind fun p=>
 (compLoop g ct ce p.1 (List.replicate k none++(capIn cap p.2).1) []).bind fun q=>if q.2.length=k+cap.length then some (.own (.lst q.1),b0h cap (q.2.drop k) (capIn cap p.2).2) else none
section
variable {K:L2.FG}
structure CPv (K:L2.FG) (m:List Bool) (g:GG) (ct:GT) (ce:GE) (ds:List D) (fin:List O×Gm) (F1 H1:Hp) (C:List Addr) (τ₀:St) (i:Nat) (τ:St) (acc:List V) (H:Hp):Prop where
 ex:∃F A Γc accs,OK K F H (acc.map some++τ) (accs.map some++Γc) A/\Ext F1 H1 C F H A/\compLoop g ct ce (ds.drop i) Γc accs=some fin/\acc.length=accs.length/\Kept m τ₀ τ
theorem b7w{m:List Bool}{t:TG}{g:GG}{ct:GT}{ce:GE}(tg:TgOk K m t g){ds:List D}{fin:List O×Gm}{F1 H1:Hp}{C:List Addr}{τ₀:St}{i:Nat}{τ:St}{acc:List V}{H:Hp}{x:V}{d:D}{F:Hp}{A:List Addr}{Γc:Gm}{accs:List O}
  (k:OK K F H (acc.map some++τ) (accs.map some++Γc) A) (x0:Ext F1 H1 C F H A) (e:compLoop g ct ce (ds.drop i) Γc accs=some fin) (hl:acc.length=accs.length) (kp:Kept m τ₀ τ) (ed:ds.drop i=d::ds.drop (i+1)) (rx:RepL K F [x] [d]) :
  t x τ H fun τ2 H2=>tGT K ct τ2 H2 fun b H3=>if b=true then tG K ce τ2 H3 fun v H4=>acc.length < sizeLine/\CPv K m g ct ce ds fin F1 H1 C τ₀ (i+1) τ2 (acc++[v]) H4 else CPv K m g ct ce ds fin F1 H1 C τ₀ (i+1) τ2 acc H3:=by
 rw[ed] at e;unfold compLoop at e;cases q1:g d Γc with
 |none=>rw[q1] at e;cases e
 |some Γ1=>
  rw[q1] at e;dsimp only[Option.bind] at e;cases q2:ct Γ1 with
  |none=>rw[q2] at e;cases e
  |some pb=>
   obtain⟨b,Γ2⟩:=pb;rw[q2] at e;dsimp only at e;have hle:(acc.map some).length=(accs.map some).length:=by simp[hl]
   obtain⟨C1,k1,fr1⟩:=k.frame hle;refine tg F H τ Γc Γ1 C1 x d _ k1 rx q1 fun τ2 A2 k2 x2 kp2=>?_
   obtain⟨A3,x3,k3⟩:=fr1 _ _ _ _ _ x2 k2;obtain⟨C4,k4,fr4⟩:=k3.frame hle;refine⟨F,C4,Γ1,b,Γ2,k4,q2,fun H3 pp=>?_⟩
   obtain⟨F5,A5,x5,k5,_⟩:=pp;obtain⟨A6,x6,k6⟩:=fr4 _ _ _ _ _ x5 k5;cases b with
   |false=>exact iteF ⟨F5,A6,Γ2,accs,k6,x0.trans (x3.trans x6),e,hl,kp.trans kp2⟩
   |true=>
    have e:((ce Γ2).bind fun q=>(ownL [q.1]).bind fun os=>if accs.length < 1000000 then compLoop g ct ce (ds.drop (i+1)) q.2 (accs++os) else none)=some fin:=e
    cases q3:ce Γ2 with
    |none=>rw[q3] at e;cases e
    |some pr=>
     obtain⟨r,Γ3⟩:=pr;rw[q3] at e;dsimp only[Option.bind] at e;cases q4:ownL [r] with
     |none=>rw[q4] at e;cases e
     |some os=>
      rw[q4] at e;dsimp only at e;split at e
      ·rename_i hz
       obtain⟨C7,k7,fr7⟩:=k6.frame hle;refine iteT ⟨F5,C7,Γ2,r,Γ3,k7,q3,fun v H4 pp=>⟨Nat.lt_of_lt_of_le (by omega:acc.length < 1000000) (by decide),?_⟩⟩
       obtain⟨F8,A8,x8,k8,_⟩:=pp;rw[a5b q4] at k8;obtain⟨A9,x9,k9⟩:=fr7 _ _ _ _ _ x8 k8;refine⟨F8,A9,Γ3,accs++os,?_,x0.trans (x3.trans (x6.trans x9)),e,?_,kp.trans kp2⟩
       ·rw[List.map_append,List.map_append,List.append_assoc,List.append_assoc];exact k9
       ·have:=congrArg List.length (a5b q4);simp at this;simp[hl,this]
      ·cases e
theorem e0k{F H:Hp}{σ:St}{Γ:Gm}{A:List Addr}{p:Addr}{u:HO}(k:OK K F H σ Γ A)(hn:H p=none):OK K (upd F p u) (upd H p u) σ Γ A/\Ext F H A (upd F p u) (upd H p u) A:=by
 have hF:F p=none:=k.le.free hn;have np:∀a∈A,a≠p:=fun a m z=>k.os.there a m (by rw[z];exact hn)
 refine⟨⟨fun a o e=>?_,k.os.keep (a3b hF) fun a m o e=>by rw[a0v (np a m)];exact e,k.nd,fun a m=>by rw[a0v (np a m)];exact k.fr a m⟩,⟨a3b hF,fun a o e _=>a3b hn a o e,fun a h z=>h ((a3b hn).free z),fun a h=>?_,fun a m=>.inl m,.same (a3b hn)⟩⟩
 ·by_cases z:a=p
  ·subst z;rw[a2d] at e ⊢;exact e
  ·rw[a0v z] at e ⊢;exact k.le a o e
 ·by_cases z:a=p
  ·subst z;exact .inr (.inr hn)
  ·rw[a0v z] at h;exact .inl h
theorem d0z{m:List Bool}{t:TG}{g:GG}{ct:GT}{ce:GE}(tg:TgOk K m t g){ds:List D}{fin:List O×Gm}{F1 H1:Hp}{C:List Addr}{τ₀:St}{i:Nat}{τ:St}{acc:List V}{H:Hp}{x:V}{d:D}(p:CPv K m g ct ce ds fin F1 H1 C τ₀ i τ acc H)
  (ed:ds.drop i=d::ds.drop (i+1)) (rx:∀F,Same F1 F->RepL K F [x] [d]) :
  t x τ H fun τ2 H2=>tGT K ct τ2 H2 fun b H3=>if b=true then tG K ce τ2 H3 fun v H4=>acc.length < sizeLine/\CPv K m g ct ce ds fin F1 H1 C τ₀ (i+1) τ2 (acc++[v]) H4 else CPv K m g ct ce ds fin F1 H1 C τ₀ (i+1) τ2 acc H3:=by
 obtain⟨F,A,Γc,accs,k,x0,e,hl,kp⟩:=p.ex;exact b7w tg k x0 e hl kp ed (rx F x0.ff)
theorem c7t{m:List Bool}{t:TG}{g:GG}{ct:GT}{ce:GE}(tg:TgOk K m t g){ds:List D}{fin:List O×Gm}{F1 H1:Hp}{C:List Addr}{τ₀:St}{i:Nat}{τ:St}{acc:List V}{H:Hp}{q:Addr}{ws:List V}{es:List D}(p:CPv K m g ct ce ds fin F1 H1 C τ₀ i τ acc H)
  (ed:ds.drop i=.tup es::ds.drop (i+1)) (hq:H q=none) (rx:∀F,Same F1 F->RepL K F ws es) :
  t (.ref q) τ (upd H q (.tup ws)) fun τ2 H2=>tGT K ct τ2 H2 fun b H3=>if b=true then tG K ce τ2 H3 fun v H4=>acc.length < sizeLine/\CPv K m g ct ce ds fin F1 H1 C τ₀ (i+1) τ2 (acc++[v]) H4 else CPv K m g ct ce ds fin F1 H1 C τ₀ (i+1) τ2 acc H3:=by
 obtain⟨F,A,Γc,accs,k,x0,e,hl,kp⟩:=p.ex;obtain⟨k2,x2⟩:=e0k (u:=.tup ws) k hq;exact b7w tg k2 (x0.trans x2) e hl kp ed (.tup (SqT.of a2d) ((rx F x0.ff).mono x2.ff) .nil)
theorem d5z{m:List Bool}{g:GG}{ct:GT}{ce:GE}{ds:List D}{fin:List O×Gm}{F1 H1:Hp}{C:List Addr}{τ₀:St}{τ:St}{acc:List V}{H:Hp}(p:CPv K m g ct ce ds fin F1 H1 C τ₀ ds.length τ acc H):
  ∃F A,OK K F H (acc.map some++τ) (fin.1.map some++fin.2) A/\Ext F1 H1 C F H A/\acc.length=fin.1.length/\Kept m τ₀ τ:=by
 obtain⟨F,A,Γc,accs,k,x0,e,hl,kp⟩:=p.ex;rw[List.drop_of_length_le (Nat.le_refl _)] at e;cases e;exact⟨F,A,k,x0,hl,kp⟩
theorem b5r:∀{cap:List Nat} {Γ:Gm} {j:Nat},j∉cap->(capIn cap Γ).2[j]?=Γ[j]?
 |[],Γ,j,_=>rfl
 |i::cap,Γ,j,h=>by
  unfold capIn;dsimp only;rw[b5r (fun z=>h (List.mem_cons_of_mem _ z)),List.getElem?_set_ne (fun z=>h (by rw[z];exact List.mem_cons_self))]
theorem d6a{F H:Hp}{σ:St}{Γ:Gm}{A:List Addr}{j:Nat}{ps:List O}{a:Addr}(h:OwnL K F H σ Γ A)(hΓ:Γ[j]?=some (some (.lst ps)))(hσ:σ[j]?=some (some (.ref a))):a∈A:=by
 obtain⟨v,Ai,B,g1,g2,_,g4⟩:=h.take hΓ;rw[hσ] at g1;cases g1;cases g2 with
 |lst _ _ _=>exact g4.mem_iff.mpr (by simp)
def InSlot(σ:St)(Γ:Gm)(H:Hp)(j:Nat)(a:Addr):Prop:=(∃ps,Γ[j]?=some (some (.lst ps))/\σ[j]?=some (some (.ref a)))\/∃C ns qs i kvs,Γ[j]?=some (some (.ins C ns qs))/\qs[i]?=some (.dct kvs)/\HFld σ H j i (.ref a)
theorem e0l{F H:Hp}{σ:St}{Γ:Gm}{A:List Addr}{j:Nat}{a:Addr}(h:OwnL K F H σ Γ A)(i:InSlot σ Γ H j a):a∈A:=by
 rcases i with⟨ps,e1,e2⟩|⟨C,ns,qs,i,kvs,e1,e2,hf⟩
 ·exact d6a h e1 e2
 ·obtain⟨x,Ai,C',g1,g2,g3,g4⟩:=h.take e1;obtain⟨b,C2,dx,fs,f,p,y1,y2,y3,y4⟩:=hf;cases y4;rw[g1] at y1;cases y1;cases g2 with
  |ins q1 q2 q3 q4 t=>
   rw[y2] at q1;cases q1;have e2':(qs.map some)[i]?=some (some (.dct kvs)):=by rw[List.getElem?_map,e2];rfl
   obtain⟨v,Ac,C3,z1,z2,z3,z4⟩:=q4.take e2';rw[List.getElem?_map,y3] at z1;cases z1;refine g4.mem_iff.mpr (List.mem_append_left _ (List.mem_append_left _ ?_));refine List.mem_cons_of_mem _ (List.mem_cons_of_mem _ (z4.mem_iff.mpr (List.mem_append_left _ ?_)));cases z2 with
   |dct _ _ _ _ _=>simp
theorem InSlot.cap{σ:St}{Γ:Gm}{H:Hp}{cap:List Nat}{j:Nat}{a:Addr}(hj:j∉cap)(i:InSlot σ Γ H j a):InSlot σ (capIn cap Γ).2 H j a:=by
 rcases i with⟨ps,e1,e2⟩|⟨C,ns,qs,i,kvs,e1,r⟩
 ·exact .inl ⟨ps,by rw[b5r hj];exact e1,e2⟩
 ·exact .inr ⟨C,ns,qs,i,kvs,by rw[b5r hj];exact e1,r⟩
theorem c7u{k:Nat}{cap:List Nat}{F H:Hp}{σ:St}{Γ:Gm}{A:List Addr}(ok:OK K F H σ Γ A):∃C,OK K F H (capS k cap σ) (List.replicate k none++(capIn cap Γ).1) C/\
  (∀j a,j∉cap->InSlot σ Γ H j a->a∉C)/\
  ∀F' H' τ' accs acc Γi A',Ext F H C F' H' A'->OK K F' H' (acc.map some++τ') (accs.map some++Γi) A'->acc.length=accs.length->Kept (capM k cap) (capS k cap σ) τ'->Γi.length=k+cap.length->∀l,H' l=none->
   ∃A'',Ext F H A F' (upd H' l (.lst acc)) A''/\OK K F' (upd H' l (.lst acc)) (some (.ref l)::σ) (some (.lst accs)::b0h cap (Γi.drop k) (capIn cap Γ).2) A'':=by
 obtain⟨B,C',h1,h2,h3⟩:=c5q (cap:=cap) ok.os;have k0:OwnL K F H (capS k cap σ++σ) ((List.replicate k none++(capIn cap Γ).1)++(capIn cap Γ).2) (B++C'):=by
  have:=(b0z (K:=K) (F:=F) (H:=H) k).app h1;exact this.app h2
 obtain⟨k1,x1⟩:=ok.sub k0 h3;have hl0:(capS k cap σ).length=(List.replicate k (none:Option O)++(capIn cap Γ).1).length:=by
  have:=h1.length;unfold capS;simp at this ⊢;omega
 obtain⟨A1,p1,k2⟩:=k1.swap hl0;have k2':=k2;obtain⟨D0,C,hd0,hd1,hd2⟩:=OwnL.split h2.length k2.os;have nn:∀a∈D0,a∉C:=fun a m z=>(List.nodup_append.mp (hd2 ▸ k2.nd)).2.2 a m a z rfl
 obtain⟨k3,fr⟩:OK K F H (capS k cap σ) (List.replicate k none++(capIn cap Γ).1) C/\∀F' H' σ' Γ' A',Ext F H C F' H' A'->OK K F' H' σ' Γ' A'->∃A'',Ext F H A1 F' H' A''/\OK K F' H' (σ++σ') ((capIn cap Γ).2++Γ') A'':=by
  subst hd2;exact k2.frameAt hd0 hd1
 refine⟨C,k3,fun j a hj i=>nn a (e0l hd0 (i.cap hj)),fun F' H' τ' accs acc Γi A' x k' hl kp hΓ l hn=>?_⟩
 have hΓl:=k'.os.length;have k5:∃A5,OK K F' (upd H' l (.lst acc)) (some (.ref l)::τ') (some (.lst accs)::Γi) A5/\Ext F' H' A' F' (upd H' l (.lst acc)) A5:=by
  obtain⟨B1,C1,g1,g2,g3⟩:=OwnL.split (by simp[hl]) k'.os
  have nl:∀a∈A',a≠l:=fun a m z=>k'.os.there a m (by rw[z];exact hn)
  have kpp:∀a∈A',∀o,H' a=some o->upd H' l (.lst acc) a=some o:=fun a m o e=>by rw[a0v (nl a m)];exact e
  subst g3;refine⟨l::B1++C1,⟨fun a o e=>?_,.lst a2d (g1.keep (Same.refl _) fun a m=>kpp a (List.mem_append_left _ m)) (g2.keep (Same.refl _) fun a m=>kpp a (List.mem_append_right _ m)),List.nodup_cons.mpr ⟨fun m=>nl l m rfl,k'.nd⟩,fun a m=>?_⟩,
   Same.refl _,fun a o e _=>?_,b9d,fun a h=>.inl h,fun a m=>?_,.same (a3b hn)⟩
  ·have:=k'.le a o e;rw[a0v (a1q this hn)];exact this
  ·rcases List.mem_cons.mp m with rfl|m
   ·exact k'.le.free hn
   ·exact k'.fr a m
  ·rw[a0v (a1q e hn)];exact e
  ·rcases List.mem_cons.mp m with rfl|m
   ·exact .inr hn
   ·exact .inl m
 obtain⟨A5,k5,x5⟩:=k5;obtain⟨A6,x6,k6⟩:=fr _ _ _ _ _ (x.trans x5) k5;obtain⟨D1,D2,g1,g2,g3⟩:=OwnL.split h2.length k6.os;subst g3;obtain⟨D3,D4,g4,g5,g6⟩:=g2.one;subst g6;have hτ:τ'.length=k+cap.length:=by
  have:=g5.length;omega
 have e1:τ'=τ'.take k++τ'.drop k:=(List.take_append_drop _ _).symm;have e2:Γi=Γi.take k++Γi.drop k:=(List.take_append_drop _ _).symm;have g5':OwnL K F' (upd H' l (.lst acc)) (τ'.take k++τ'.drop k) (Γi.take k++Γi.drop k) D4:=by rw[<-e1,<-e2];exact g5
 obtain⟨D5,D6,g7,g8,g9⟩:=OwnL.split (by rw[List.length_take,List.length_take];omega) g5'
 subst g9;have eτ:τ'.drop k=cap.map fun i=>(σ[i]?).join:=by
  apply List.ext_getElem?;intro j;by_cases hj:j < cap.length
  ·have hm:(capM k cap)[k+j]?=some true:=by
    unfold capM;rw[List.getElem?_append_right (by simp)]
    simp[hj]
   have:=kp (k+j) hm;rw[List.getElem?_drop,this];unfold capS;rw[List.getElem?_append_right (by simp)]
   simp
  ·rw[List.getElem?_eq_none (by rw[List.length_drop];omega),List.getElem?_eq_none (by rw[List.length_map];omega)]
 obtain⟨D7,g10,g11⟩:=d0y g8 g1 eτ;have s1:SubP (D3++D7) (D1++(D3++(D5++D6))):=by
  refine((SubP.refl D3).app g11).trans ?_;refine SubP.trans (B:=D3++(D5++D6)++D1) ?_ (.of_perm List.perm_append_comm);rw[List.append_assoc];refine(SubP.refl D3).app ?_;rw[List.append_assoc];exact .of_sub (List.sublist_append_right _ _)
 obtain⟨k7,x7⟩:=k6.sub (σ':=some (.ref l)::σ) (Γ':=some (.lst accs)::b0h cap (Γi.drop k) (capIn cap Γ).2) (g4.app g10) s1;exact⟨D3++D7,(x1.trans (Ext.own' Ext.refl fun a m=>p1.mem_iff.mp m)).trans (x6.trans x7),k7⟩
end
def srcL(it:GE):Gm->Option (List D×Gm):=fun Γ=>(gFrz it Γ).bind fun p=>match p.1 with
 |.own (.frz (.lst ds))=>some (ds,p.2)
 |_=>none
def srcS(it:GE):Gm->Option (List D×Gm):=fun Γ=>(it Γ).bind fun p=>match p.1 with
 |.own (.frz (.str z))=>some (z.cps.toList.map fun c=>.str (chr1 c),p.2)
 |_=>none
def srcR1(fs:GA):Gm->Option (List D×Gm):=fun Γ=>(fs Γ).bind fun p=>(int1 p.1).map fun j=>(rngD 0 j.toNat,p.2)
def srcV(i:Nat)(cap:List Nat):Gm->Option (List D×Gm):=fun Γ=>if i∈cap then none else match Γ[i]? with
 |some (some (.lst os))=>(frzL os).map fun ds=>(ds,Γ)
 |_=>none
def Nw(K:L2.FG)(F1 H:Hp)(x:V)(d:D)(H':Hp):Prop:=(H'=H/\∀F,Same F1 F->RepL K F [x] [d])\/∃p ws es,x=.ref p/\d=.tup es/\H p=none/\H'=upd H p (.tup ws)/\∀F,Same F1 F->RepL K F ws es
def SrcOk(K:L2.FG)(cap:List Nat)(wi:TI)(src:Gm->Option (List D×Gm)):Prop:=
 ∀(σ:St) (F H:Hp) (A:List Addr) (Γ Γ1:Gm) (ds:List D) (R:It->Hp->Prop),OK K F H σ Γ A->src Γ=some (ds,Γ1)->
  (∀J H1 F1 A1,Ext F H A F1 H1 A1->OK K F1 H1 σ Γ1 A1->
   (∀(g:TG) (tt:TT) (te:TE) (τ:St) (Fin:List V->Hp->Prop) (Pv:Nat->St->List V->Hp->Prop),Pv 0 τ [] H1->(∀i τ acc H,Pv i τ acc H->(∃F,Same F1 F/\Same F H)/\∀(j:Nat) a o,j∉cap->InSlot σ Γ1 H1 j a->H1 a=some o->H a=some o)->
    (∀i d x τ acc H H',ds.drop i=d::ds.drop (i+1)->Nw K F1 H x d H'->Pv i τ acc H->g x τ H' fun τ2 H2=>tt τ2 H2 fun b H3=>if b=true then te τ2 H3 fun v H4=>acc.length < sizeLine/\Pv (i+1) τ2 (acc++[v]) H4 else Pv (i+1) τ2 acc H3)->
    (∀τ acc H,Pv ds.length τ acc H->Fin acc H)->CompW J g tt te τ H1 Fin)->R J H1)->wi σ H R
section
variable {X:Cx} {K:L2.FG} {fa:GE} {fs:GA}
theorem b9g{α:Type}{l:List α}{i:Nat}{x:α}(h:l[i]?=some x):l.drop i=x::l.drop (i+1):=by
 obtain⟨hi,e⟩:=List.getElem?_eq_some_iff.mp h;rw[List.drop_eq_getElem_cons hi,e]
theorem a5o{cap:List Nat}:SrcOk K cap (iList K (tG K (gFrz fa))) (srcL fa):=by
 intro σ F H A Γ Γ1 ds R k e w;unfold srcL at e;cases q:gFrz fa Γ with
 |none=>rw[q] at e;cases e
 |some p=>
  obtain⟨r,Γ2⟩:=p;rw[q] at e;dsimp only[Option.bind] at e;cases r with
  |var i=>cases e
  |fld _ _=>cases e
  |own o=>
   cases o with
   |frz d=>
    cases d with
    |lst es=>
     cases e;refine⟨F,A,Γ,_,_,k,q,fun v H1 pp=>?_⟩
     obtain⟨F1,A1,x,k1,_⟩:=pp;obtain⟨B,C,h1,h2,h3⟩:=OwnL.one (σ:=σ) k1.os;have rp:=b4a h1;subst h3;obtain⟨k2,x2⟩:=k1.sub h2 (.of_sub (List.sublist_append_right _ _));cases rp with
     |flat z _=>cases z
     |@lst a ws _ _ _ sq ri _=>
      refine⟨a,rfl,⟨ws,.inl (k1.le.rd sq)⟩,w (Itl K a) H1 F1 C (x.trans x2) k2 fun g tt te τ Fin Pv h0 hF hs hd=>?_⟩
      have hl:=ri.length;refine c1m (xs:=ws) Pv h0 (fun i τ acc H hi p=>?_) (fun i x τ acc H hx p=>?_) (fun τ acc H p=>hd τ acc H (by rw[<-hl];exact p))
      ·obtain⟨⟨F',s1,s2⟩,_⟩:=hF i τ acc H p;exact .inl ((s1.trans s2).rd sq)
      ·have hi:i < ds.length:=by
        have:=(List.getElem?_eq_some_iff.mp hx).1;omega
       obtain⟨x2,hx2,rx⟩:=ri.get (i:=i) (d:=ds[i]) (by simp[hi])
       rw[hx] at hx2;cases hx2;exact hs i ds[i] x τ acc H H (b9g (by simp[hi])) (.inl ⟨rfl,fun F' s=>rx.mono s⟩) p
    |_=>cases e
   |_=>cases e
theorem e0m{i:Nat}{cap:List Nat}:SrcOk K cap (iList K (tVar i)) (srcV i cap):=by
 intro σ F H A Γ Γ1 ds R k e w;unfold srcV at e;split at e
 ·cases e
 ·rename_i hi
  split at e
  ·rename_i os hΓ
   obtain⟨ds',e1,e2⟩:=Option.map_eq_some_iff.mp e;cases e2;obtain⟨v,Ai,B,g1,g2,_⟩:=k.os.take hΓ;refine⟨v,g1,?_⟩;cases g2 with
   |@lst a ws _ _ _ _ _ hl ch _=>
    have ri:=a9u ch e1;refine⟨a,rfl,⟨ws,SqL.of hl⟩,w (Itl K a) H F A Ext.refl k fun g tt te τ Fin Pv h0 hF hs hd=>?_⟩
    have hln:=ri.length;refine c1m (xs:=ws) Pv h0 (fun j τ acc H' hj p=>?_) (fun j x τ acc H' hx p=>?_) (fun τ acc H' p=>hd τ acc H' (by rw[<-hln];exact p))
    ·exact SqL.of ((hF j τ acc H' p).2 i a _ hi (.inl ⟨os,hΓ,g1⟩) hl)
    ·have hj:j < ds.length:=by
      have:=(List.getElem?_eq_some_iff.mp hx).1;omega
     obtain⟨x2,hx2,rx⟩:=ri.get (i:=j) (d:=ds[j]) (by simp[hj])
     rw[hx] at hx2;cases hx2;exact hs j ds[j] x τ acc H' H' (b9g (by simp[hj])) (.inl ⟨rfl,fun F' s=>rx.mono s⟩) p
  ·cases e
theorem e0n{cap:List Nat}:SrcOk K cap (iStr (tG K fa)) (srcS fa):=by
 intro σ F H A Γ Γ1 ds R k e w;unfold srcS at e;cases q:fa Γ with
 |none=>rw[q] at e;cases e
 |some p=>
  obtain⟨r,Γ2⟩:=p;rw[q] at e;dsimp only[Option.bind] at e;cases r with
  |var i=>cases e
  |fld _ _=>cases e
  |own o=>
   cases o with
   |frz d=>
    cases d with
    |str z=>
     cases e;refine⟨F,A,Γ,_,_,k,q,fun v H1 pp=>?_⟩
     have ev:=pp.flat rfl;obtain⟨F1,A1,x,k1,_⟩:=pp.drop;refine⟨z,ev,w (Its z) H1 F1 A1 x k1 fun g tt te τ Fin Pv h0 hF hs hd=>?_⟩
     refine d5l Pv h0 (fun i c τ acc H hc p=>?_) (fun τ acc H p=>hd τ acc H (by simpa using p))
     refine hs i (.str (chr1 c)) _ τ acc H H (b9g ?_) (.inl ⟨rfl,fun F' s=>.flat rfl .nil⟩) p
     rw[List.getElem?_map,Array.getElem?_toList,hc];rfl
    |_=>cases e
   |_=>cases e
theorem d8c{cap:List Nat}:SrcOk K cap (iRng1 (tGA K fs)) (srcR1 fs):=by
 intro σ F H A Γ Γ1 ds R k e w;unfold srcR1 at e;cases q:fs Γ with
 |none=>rw[q] at e;cases e
 |some p=>
  obtain⟨rs,Γ2⟩:=p;rw[q] at e;obtain⟨j,e1,e2⟩:=Option.map_eq_some_iff.mp e;cases e2;obtain⟨hj,hb⟩:=c5f e1;have hj:rs=_:=hj;subst hj;refine⟨F,A,Γ,_,_,k,q,fun vs H1 pp=>?_⟩
  obtain⟨F1,A1,x,k1,hh⟩:=pp
  match vs,hh with
  |[v],_=>
   obtain⟨rfl,h2⟩:=b8y (σ:=σ) k1.os;obtain⟨k2,x2⟩:=k1.sub h2 (SubP.refl _);refine⟨j,rfl,hb.1,hb.2,w (Itr 0 j.toNat) H1 F1 A1 x k2 fun g tt te τ Fin Pv h0 hF hs hd=>?_⟩
   refine c7o Pv h0 (fun i τ acc H hi p=>?_) (fun τ acc H p=>hd τ acc H (by simpa[rngD] using p))
   exact hs i (.int (0+(i:Int))) _ τ acc H H (by unfold rngD;exact b7k _ hi) (.inl ⟨rfl,fun F' s=>.flat rfl .nil⟩) p
theorem PTs.mono{ifs:List Expr}{t t':TT}(h:PTs X ifs t)(m:∀σ H Q,t' σ H Q->t σ H Q):PTs X ifs t':=fun pins s σ H Q I q=>h pins s σ H Q I (m _ _ _ q)
def gYes:GT:=fun Γ=>some (true,Γ)
theorem a6k:PTs X [] (tGT K gYes):=pts_nil.mono fun σ H Q t=>b3y t
theorem b9h{c:Expr}{ft:GT}(h:PT X c (tGT K ft)):PTs X [c] (tGT K ft):=d9p h
variable {tg elt iter:Expr} {ifs:List Expr} {scope:Scope} {pos:Pos} {M:List Str} {k:Nat} {cap:List Nat} {t:TG} {gg:GG} {ct:GT} {ce:GE} {wi:TI} {src:Gm->Option (List D×Gm)}
theorem c3x(so:SrcOk K cap wi src)(tg':TgOk K (capM k cap) t gg){σ:St}{H:Hp}{Q:VK}(tt:tG K (a3z src gg ct ce k cap) σ H Q):tComp wi t (tGT K ct) (tG K ce) k cap σ H Q:=by
 obtain⟨F,A,Γ,rr,Γ',ok,e,w⟩:=tt;unfold a3z at e;cases q1:src Γ with
 |none=>rw[q1] at e;cases e
 |some p=>
  obtain⟨ds,Γ1⟩:=p;rw[q1] at e;dsimp only[Option.bind] at e;cases q2:compLoop gg ct ce ds (List.replicate k none++(capIn cap Γ1).1) [] with
  |none=>rw[q2] at e;cases e
  |some fin=>
   rw[q2] at e;dsimp only at e;split at e
   ·rename_i hlen
    cases e;refine so σ F H A Γ Γ1 ds _ ok q1 fun J H1 F1 A1 x1 k1 mk=>?_
    obtain⟨C,kC,nC,back⟩:=c7u (k:=k) (cap:=cap) k1;refine mk t (tGT K ct) (tG K ce) (capS k cap σ) _ (CPv K (capM k cap) gg ct ce ds fin F1 H1 C (capS k cap σ)) ?_ ?_ ?_ ?_
    ·exact⟨F1,C,_,[],kC,Ext.refl,q2,rfl,Kept.refl⟩
    ·rintro i τ acc H ⟨F',A',Γc,accs,k',x',_⟩;exact⟨⟨F',x'.ff,k'.le⟩,fun j a o hj h1 h3=>x'.keep a o h3 (nC j a hj h1)⟩
    ·intro i d x τ acc H H' ed nw p;rcases nw with⟨rfl,rx⟩|⟨q,ws,es,rfl,rfl,hq,rfl,rx⟩
     ·obtain⟨F',A',Γc,accs,k',x',_⟩:=p.ex;exact d0z tg' p ed fun F e=>rx F e
     ·exact c7t tg' p ed hq rx
    ·intro τ acc H p l hn;obtain⟨F',A',k',x',hl,kp⟩:=d5z p;obtain⟨A'',x'',k''⟩:=back F' H τ fin.1 acc fin.2 A' x' k' hl kp hlen l hn;exact w _ _ ⟨F',A'',x1.trans x'',k'',True.intro⟩
   ·cases e
theorem a6l(so:SrcOk K cap wi src)(tg':TgOk K (capM k cap) t gg)(ok:CompOk X scope M k cap)(hi:PI X tg iter wi)
  (hg:∀C s H fp,PG (a2n X scope M C s H fp) tg t) (ht:∀C s H fp,PTs (a2n X scope M C s H fp) ifs (tGT K ct)) (he:∀C s H fp,PE (a2n X scope M C s H fp) elt (tG K ce)) (hc:X.calm=true:=by rfl)
  (hs:∀x,foldedSetIterable iter X.env x=pure x:=by intro _;rfl):PE X (.ListComp elt [⟨tg,iter,ifs,0⟩] scope pos) (tG K (a3z src gg ct ce k cap)):=
 (d9q hc ok hi hg ht he hs).mono fun _ _ _ t=>c3x so tg' t
variable {m:List Bool} {W:Option XW}
theorem e0o{i:Nat}{x:Str}{px spos:Pos}(so:SrcOk K cap wi src)(tg':TgOk K (capM k cap) t gg)(ok:CompOk X scope M k cap)(hN:X.N.Nodup)(hix:X.N[i]?=some x)(hx:Loc X.env.scope x)(hi:PI X tg iter wi)
  (hg:∀C s H fp,PG (a2n X scope M C s H fp) tg t) (ht:∀C s H fp,PTs (a2n X scope M C s H fp) ifs (tGT K ct)) (he:∀C s H fp,PE (a2n X scope M C s H fp) elt (tG K ce)) (hc:X.calm=true:=by rfl) (hm:(m[i]? == some true)=false:=by rfl)
  (hsw:swapsWith (.ListComp elt [⟨tg,iter,ifs,0⟩] scope pos) (some (.Name x px)) spos.line X.env=pure true:=by rfl)
  (hs:∀x,foldedSetIterable iter X.env x=pure x:=by intro _;rfl) (hf:X.fn x=true\/X.env.scope.names.lookup x=some .local := by first|exact .inl rfl|exact .inr rfl) :
  PS X (.Assign [.Name x px] (.ListComp elt [⟨tg,iter,ifs,0⟩] scope pos) spos) (tS K m W (gsSet i (a3z src gg ct ce k cap))):=(c9s hc ok hN hix hx hi hg ht he hsw hs hf).mono fun D σ H tt=>by
 obtain⟨F,A,Γ,fl,Γ',k,e,w⟩:=tt;unfold gsSet at e;cases q:a3z src gg ct ce _ cap Γ with
 |none=>rw[q] at e;cases e
 |some p=>
  obtain⟨r,Γ1⟩:=p;rw[q] at e;cases r with
  |var i=>cases e
  |fld _ _=>cases e
  |own o=>
   dsimp only[Option.bind] at e;split at e
   ·cases e;refine c3x so tg' ⟨F,A,Γ,_,Γ1,k,q,fun v H' hh=>?_⟩
    obtain⟨F1,A1,x,k1,_⟩:=hh;obtain⟨B,k2,x2⟩:=OK.store (σ:=σ) (Γ:=Γ1) k1 (by assumption)
    exact w _ H' ⟨F1,B,x.trans x2,k2,Kept.set hm⟩
   ·cases e
theorem b9i{i:Nat}{x:Str}{px spos:Pos}(so:SrcOk K cap wi src)(tg':TgOk K (capM k cap) t gg)(ok:CompOk X scope M k cap)(hN:X.N.Nodup)(hix:X.N[i]?=some x)(hx:Loc X.env.scope x)(hi:PI X tg iter wi)
  (hg:∀C s H fp,PG (a2n X scope M C s H fp) tg t) (ht:∀C s H fp,PTs (a2n X scope M C s H fp) ifs (tGT K ct)) (he:∀C s H fp,PE (a2n X scope M C s H fp) elt (tG K ce)) (hc:X.calm=true:=by rfl) (hm:(m[i]? == some true)=false:=by rfl)
  (hsw:swapsWith (.ListComp elt [⟨tg,iter,ifs,0⟩] scope pos) (some (.Name x px)) spos.line X.env=pure true:=by rfl)
  (hs:∀x,foldedSetIterable iter X.env x=pure x:=by intro _;rfl) (hf:X.fn x=true\/X.env.scope.names.lookup x=some .local := by first|exact .inl rfl|exact .inr rfl) :
  PS X (.Assign [.Name x px] (.ListComp elt [⟨tg,iter,ifs,0⟩] scope pos) spos) (tS K m W (gsSet i (gFrz (a3z src gg ct ce k cap)))):=(c9s hc ok hN hix hx hi hg ht he hsw hs hf).mono fun D σ H tt=>by
 obtain⟨F,A,Γ,fl,Γ',k,e,w⟩:=tt;unfold gsSet at e;cases q:gFrz (a3z src gg ct ce _ cap) Γ with
 |none=>rw[q] at e;cases e
 |some p=>
  obtain⟨r,Γ1⟩:=p;rw[q] at e;cases r with
  |var i=>cases e
  |fld _ _=>cases e
  |own o=>
   dsimp only[Option.bind] at e;split at e
   ·cases e;refine c3x so tg' (d7v ⟨F,A,Γ,_,Γ1,k,q,fun v H' hh=>?_⟩)
    obtain⟨F1,A1,x,k1,_⟩:=hh;obtain⟨B,k2,x2⟩:=OK.store (σ:=σ) (Γ:=Γ1) k1 (by assumption)
    exact w _ H' ⟨F1,B,x.trans x2,k2,Kept.set hm⟩
   ·cases e
end
inductive Wk (K:L2.FG) (H:Hp):V->List Nat->V->Prop
 |nil {x:V}:Wk K H x [] x
 |cons {p:Addr} {ws:List V} {j:Nat} {y v:V} {π:List Nat}:(SqL K H p ws\/SqT K H p ws)->ws[j]?=some y->Wk K H y π v->Wk K H (.ref p) (j::π) v
theorem Wk.snoc{K:L2.FG}{H:Hp}{x v:V}{π:List Nat}{j:Nat}(h:Wk K H x (π++[j]) v):∃p ws,Wk K H x π (.ref p)/\(SqL K H p ws\/SqT K H p ws)/\ws[j]?=some v:=by
 induction π generalizing x with
 |nil=>
  cases h with
  |cons s e t=>cases t;exact⟨_,_,.nil,s,e⟩
 |cons i π ih=>
  cases h with
  |cons s e t=>
   obtain⟨p,ws,h1,h2,h3⟩:=ih t;exact⟨p,ws,.cons s e h1,h2,h3⟩
def tPath(K:L2.FG)(i:Nat)(π:List Nat):TE:=fun σ H Q=>∃x v,σ[i]?=some (some x)/\Wk K H x π v/\Q v H
section
variable {X:Cx} {K:L2.FG} {e:Expr} {i j:Nat} {π:List Nat} {pos p1 p2:Pos} {n:Nat}
theorem c1z(h:PE X e (tVar i)):PE X e (tPath K i []):=h.mono fun σ H Q t=>by
 obtain⟨x,v,e,w,q⟩:=t;cases w;exact⟨x,e,q⟩
theorem b9j(h:PE X e (tPath K i π))(hu:X.A.units+41 < cLine)(hK:X.K=K:=by rfl)(hs:c3l (.Constant (.int (j:Int)) n p1):=by exact fun _ _=>rfl):PE X (.Subscript e (.Constant (.int (j:Int)) n p1) pos) (tPath K i (π++[j])):=
 (e3c (a4f K hu hK) h a0g hs).mono fun σ H Q t=>by
  obtain⟨x,v,e,w,q⟩:=t;obtain⟨p,ws,h1,h2,h3⟩:=w.snoc;refine⟨x,.ref p,e,h1,?_⟩;rcases h2 with h2|h2
  ·exact .inl ⟨p,ws,j,v,rfl,rfl,h2,a5x h3,q⟩
  ·exact .inr (.inl ⟨p,ws,j,v,rfl,rfl,h2,a5x h3,q⟩)
end
def setP(f:O->Option (O×O)):O->List Nat->Option (O×O)
 |.lst ps,[]=>f (.lst ps)
 |.tup os,j::π=>(os[j]?).bind fun c=>(setP f c π).bind fun z=>some (.tup (os.set j z.1),z.2)
 |.lst os,j::π=>(os[j]?).bind fun c=>(setP f c π).bind fun z=>some (.lst (os.set j z.1),z.2)
 |_,_=>none
section
variable {K:L2.FG} {F H:Hp}
theorem b7x{ws:List V}{os:List O}{A:List Addr}{j:Nat}{c:O}(h:OwnL K F H (ws.map some) (os.map some) A)(e:os[j]?=some c):∃v Ac B,ws[j]?=some v/\OwnL K F H [some v] [some c] Ac/\A.Perm (Ac++B)/\
  ∀F' H' c' A',Same F F'->(∀a∈B,∀u,H a=some u->H' a=some u)->OwnL K F' H' [some v] [some c'] A'->∃D,OwnL K F' H' (ws.map some) ((os.set j c').map some) D/\SubP D (A'++B):=by
 have e':(os.map some)[j]?=some (some c):=by rw[List.getElem?_map,e];rfl
 obtain⟨v,Ac,B,g1,g2,g3,g4⟩:=h.take e';have hv:ws[j]?=some v:=by
  rw[List.getElem?_map] at g1;cases q:ws[j]? with
  |none=>rw[q] at g1;cases g1
  |some z=>rw[q] at g1;cases g1;rfl
 refine⟨v,Ac,B,hv,g2,g4,fun F' H' c' A' sf kp w=>?_⟩
 have g3':OwnL K F' H' (ws.map some) ((os.map some).set j none) B:=g3.keep sf kp;have hj:j < ((os.map some).set j none).length:=by
  rw[List.length_set,List.length_map];exact(List.getElem?_eq_some_iff.mp e).1
 obtain⟨D,k1,C,k2,k3⟩:=OwnL.put w j g3' hj;rw[List.set_set,a5a g1] at k1;refine⟨D,by rw[List.map_set];exact k1,(SubP.of_perm k2).trans ((SubP.refl A').app (.of_sub k3))⟩
def PaW(K:L2.FG)(F H:Hp)(f:O->Option (O×O))(π:List Nat)(x:V)(o' res:O)(A:List Addr):Prop:=∃v c c' Ac B,Wk K H x π v/\OwnL K F H [some v] [some c] Ac/\(∃ps,c=.lst ps)/\f c=some (c',res)/\A.Perm (Ac++B)/\
   ∀F' H' A',Same F F'->(∀a u,a∉Ac->H a=some u->H' a=some u)->OwnL K F' H' [some v] [some c'] A'->∃D,OwnL K F' H' [some x] [some o'] D/\SubP D (A'++B)
theorem c2a{f:O->Option (O×O)}{π:List Nat}{x:V}{a:Addr}{ws:List V}{os:List O}{c0 d res:O}{Ap:List Addr}{j:Nat}{N:List O->O}(nd:(a::Ap).Nodup)(ch:OwnL K F H (ws.map some) (os.map some) Ap)(q1:os[j]?=some c0)
  (ih:∀{y A},OwnL K F H [some y] [some c0] A->A.Nodup->PaW K F H f π y d res A) (hx:∀{y v},ws[j]?=some y->Wk K H y π v->Wk K H x (j::π) v)
  (mk:∀{F' H' D},(∀u,H a=some u->H' a=some u)->OwnL K F' H' (ws.map some) ((os.set j d).map some) D->OwnL K F' H' [some x] [some (N (os.set j d))] (a::D++[])):PaW K F H f (j::π) x (N (os.set j d)) res (a::Ap):=by
 obtain⟨na,nd1⟩:=List.nodup_cons.mp nd;obtain⟨y,Ay,B1,g1,g2,g3,g4⟩:=b7x ch q1;have nd2:(Ay++B1).Nodup:=g3.nodup_iff.mp nd1;obtain⟨v,c,c',Ac,B2,k1,k2,k3,k4,k5,k6⟩:=ih g2 (List.nodup_append.mp nd2).1;refine⟨v,c,c',Ac,a::(B2++B1),hx g1 k1,k2,k3,k4,?_,fun F' H' A' sf kp w=>?_⟩
 ·refine((g3.trans (k5.append_right _)).cons a).trans ?_;rw[List.append_assoc];exact List.perm_middle.symm
 ·obtain⟨D,w1,w2⟩:=k6 F' H' A' sf kp w;have hac:∀b∈Ac,b∈Ay:=fun b m=>k5.mem_iff.mpr (List.mem_append_left _ m)
  obtain⟨D2,w3,w4⟩:=g4 F' H' d D sf (fun b m u e=>kp b u (fun z=>(List.nodup_append.mp nd2).2.2 b (hac b z) b m rfl) e) w1
  have ha:a∉Ac:=fun z=>na (g3.mem_iff.mpr (List.mem_append_left _ (hac a z)))
  refine⟨a::D2++[],mk (fun u=>kp a u ha) w3,?_⟩
  rw[List.append_nil];have s1:SubP D2 (A'++(B2++B1)):=w4.trans (by rw[<-List.append_assoc];exact w2.app (SubP.refl B1))
  obtain⟨L,p1,p2⟩:=s1;exact SubP.trans ⟨a::L,p1.cons a,p2.cons_cons a⟩ (.of_perm List.perm_middle.symm)
theorem c2b{f:O->Option (O×O)}{os:List O}{N:List O->O}{j:Nat}{π:List Nat}{o' res:O}(e:((os[j]?).bind fun c=>(setP f c π).bind fun z=>some (N (os.set j z.1),z.2))=some (o',res)):∃c0 d,os[j]?=some c0/\setP f c0 π=some (d,res)/\o'=N (os.set j d):=by
 obtain⟨c,q1,e⟩:=Option.bind_eq_some_iff.1 e;obtain⟨z,q2,e⟩:=Option.bind_eq_some_iff.1 e;cases e;exact⟨c,_,q1,q2,rfl⟩
theorem d1a{f:O->Option (O×O)}{π:List Nat}:∀{x:V} {o o' res:O} {A:List Addr},OwnL K F H [some x] [some o] A->A.Nodup->setP f o π=some (o',res)->PaW K F H f π x o' res A:=by
 induction π with
 |nil=>
  intro x o o' res A h nd e;cases o with
  |lst ps=>exact⟨x,_,o',A,[],.nil,h,⟨ps,rfl⟩,e,by rw[List.append_nil],fun F' H' A' _ _ w=>⟨A',w,by rw[List.append_nil];exact SubP.refl _⟩⟩
  |_=>cases e
 |cons j π ih=>
  intro x o o' res A h nd e;cases o with
  |tup os=>
   obtain⟨c0,d,q1,q2,rfl⟩:=c2b (N:=.tup) e;cases h with
   |@tup a ws _ Ap B0 _ _ hl ch t=>
    have eB:B0=[]:=by cases t;rfl
    subst eB;rw[List.append_nil] at nd ⊢;exact c2a nd ch q1 (fun h n=>ih h n q2) (fun g1 k1=>.cons (.inr (SqT.of hl)) g1 k1) fun kp w=>.tup (kp _ hl) w .nil
  |lst os=>
   obtain⟨c0,d,q1,q2,rfl⟩:=c2b (N:=.lst) e;cases h with
   |@lst a ws _ Ap B0 _ _ hl ch t=>
    have eB:B0=[]:=by cases t;rfl
    subst eB;rw[List.append_nil] at nd ⊢;exact c2a nd ch q1 (fun h n=>ih h n q2) (fun g1 k1=>.cons (.inl (SqL.of hl)) g1 k1) fun kp w=>.lst (kp _ hl) w .nil
  |_=>cases e
end
def gMutC(g:O->List O->Option (O×O))(i:Nat)(π:List Nat)(ds:List D):GE:=fun Γ=>match Γ[i]? with
 |some (some o)=>(setP (fun c=>g c (ds.map .frz)) o π).bind fun z=>some (.own z.2,Γ.set i (some z.1))
 |_=>none
section
variable {X:Cx} {K:L2.FG} {o e:Expr} {es:List Expr} {i:Nat} {π:List Nat} {t:TA} {name:Str} {apos cpos:Pos} {id:String} {r:V->List V->Hp->VK->Prop} {g:O->List O->Option (O×O)} {ds:List D} {vs:List V}
theorem c2c{F H:Hp}:∀{ds:List D} {vs:List V},ds.map a4w=vs.map some->OwnL K F H (vs.map some) ((ds.map .frz).map some) []
 |[],[],_=>.nil
 |d::ds,v::vs,h=>by
  rw[List.map_cons,List.map_cons] at h;injection h with h1 h2;exact .frz (.flat h1 .nil) (c2c h2)
 |[],_::_,h=>by simp at h
 |_::_,[],h=>by simp at h
theorem d1b(ok:MutOk K r g)(hv:ds.map a4w=vs.map some)(ht:∀σ H Q,Q vs H->t σ H Q){σ:St}{H:Hp}{Q:VK}(tt:tG K (gMutC g i π ds) σ H Q):tBM K "list" r (tPath K i π) t σ H Q:=by
 obtain⟨F,A,Γ,rr,Γ',k,e,w⟩:=tt;unfold gMutC at e;split at e
 ·rename_i oo hΓ
  cases q:setP (fun c=>g c (ds.map .frz)) oo π with
  |none=>rw[q] at e;cases e
  |some z=>
   rw[q] at e;cases e;obtain⟨x,Ai,C,g1,g2,g3,g4⟩:=k.os.take hΓ;have nd:(Ai++C).Nodup:=g4.nodup_iff.mp k.nd;have fr:∀a∈Ai++C,F a=none:=fun a m=>k.fr a (g4.mem_iff.mpr m)
   obtain⟨n1,n2,n3⟩:=List.nodup_append.mp nd;obtain⟨v,c,c',Ac,B,k1,k2,⟨ps,k3⟩,k4,k5,k6⟩:=d1a g2 n1 q;refine⟨x,v,g1,k1,?_,ht σ H _ ?_⟩
   ·subst k3;cases k2 with
    |lst hq _ _=>exact .inl ⟨rfl,_,SqL.of hq⟩
   ·have ndc:(Ac++B).Nodup:=k5.nodup_iff.mp n1;have hac:∀a∈Ac,a∈Ai:=fun a m=>k5.mem_iff.mpr (List.mem_append_left _ m)
    refine ok F H v vs c (ds.map .frz) c' z.2 Ac [] Q k.le k2 (c2c hv) (by rw[List.append_nil];exact(List.nodup_append.mp ndc).1) (fun a m=>fr a (List.mem_append_left _ (hac a (by simpa using m)))) k4 fun v' H' A' Ar kp dm at' w1 w2 sp=>?_
    rw[List.append_nil] at sp;obtain⟨D,j1,j2⟩:=k6 F H' A' (Same.refl _) kp w1;have nC:∀a∈C,a∉Ac:=fun a m y=>n3 a (hac a y) a m rfl
    have g3':OwnL K F H' σ (Γ.set i none) C:=g3.keep (Same.refl _) fun a m u e=>kp a u (nC a m) e
    have hi:i < (Γ.set i none).length:=by rw[List.length_set];exact(List.getElem?_eq_some_iff.mp hΓ).1
    obtain⟨D2,j3,C2,j4,j5⟩:=OwnL.put j1 i g3' hi;rw[a5a g1,List.set_set] at j3;have s1:SubP (Ar++D2) A:=by
     have a1:SubP D2 (D++C):=(SubP.of_perm j4).trans ((SubP.refl D).app (.of_sub j5));have a2:SubP (Ar++D2) (Ar++((A'++B)++C)):=(SubP.refl Ar).app (a1.trans (j2.app (SubP.refl C)));have a3:SubP (Ar++((A'++B)++C)) ((Ac++B)++C):=by
      rw[<-List.append_assoc,<-List.append_assoc];exact(sp.app (SubP.refl B)).app (SubP.refl C)
     exact a2.trans (a3.trans (.of_perm ((k5.symm.append_right C).trans g4.symm)))
    refine w v' H' ⟨F,Ar++D2,⟨Same.refl _,fun a u e n=>kp a u (fun y=>n (g4.mem_iff.mpr (List.mem_append_left _ (hac a y)))) e,dm,fun a h=>.inl h,fun a m=>.inl (s1.mem a m),at'⟩,⟨fun a u e=>?_,w2.app j3,s1.nodup k.nd,fun a m=>k.fr a (s1.mem a m)⟩,True.intro⟩
    refine kp a u (fun y=>?_) (k.le a u e)
    rw[fr a (List.mem_append_left _ (hac a y))] at e;cases e
 ·cases e
theorem e0p(slot:Slot "list" name id)(hty:typeOf (.builtin id)=pure (.type "method_descriptor"))(hm:MtM X id r)(ok:MutOk K r g)(ho:PE X o (tPath K i π))(ha:PA X (e::es) t)(hv:ds.map a4w=vs.map some)(ht:∀σ H Q,Q vs H->t σ H Q)
  (hbase:attributeBase o name X.env (eval o X.env)=eval o X.env:=by rfl)
  (hfew:((backTo cpos (starEach (e::es) X.env)).all (fun x => !x.1) && (backToKw cpos (keywordEach [] X.env)).all (fun x=>x.1.isSome)
   && decide ((e::es).length+([]:List Keyword).length+(if([]:List Keyword).isEmpty then 0 else 1) < 30))=true:=by rfl)
  (hline:(apos.endLine == cpos.line)=true:=by rfl) (hs:starEach (e::es) X.env=(false,eval e X.env)::starEach es X.env:=by rfl) (hplain:(backTo cpos (starEach es X.env)).any (·.1)=false:=by rfl) (hK:X.K=K:=by rfl) :
  PE X (.Call (.Attribute o name apos) (e::es) [] cpos) (tG K (gMutC g i π ds)):=by
 subst hK;exact(d5i PySem.F.plainAttrs_list slot hty hm ho ha hbase hfew hline hs hplain).mono fun _ _ _ t=>d1b ok hv ht t
theorem b4d(slot:Slot "list" name id)(hty:typeOf (.builtin id)=pure (.type "method_descriptor"))(hm:MtM X id r)(ok:MutOk K r g)(ho:PE X o (tPath K i π))
  (hbase:attributeBase o name X.env (eval o X.env)=eval o X.env:=by rfl) (hline:(apos.endLine == cpos.line)=true:=by rfl) (hK:X.K=K:=by rfl) :
  PE X (.Call (.Attribute o name apos) [] [] cpos) (tG K (gMutC g i π [])):=by
 subst hK;refine(e3e PySem.F.plainAttrs_list slot hty hm ho hbase hline).mono fun σ H Q t=>?_
 obtain⟨x,v,h1,h2,h3,h4⟩:=d1b (t:=fun _ H Q=>Q [] H) (vs:=[]) ok rfl (fun _ _ _ q=>q) t
 exact⟨x,v,h1,h2,h3,h4⟩
end
def a1i(M:GM)(fs:GA):GE:=fun Γ=>(fs Γ).bind fun p=>(seeL p.2 p.1).bind fun os=>(M ((O.dl os).map .frz)).bind fun r=>match r.1 with
 |.frz d=>(a4w d).bind fun _=>some (.own (.frz d),p.2)
 |_=>none
section
variable {K:L2.FG}
theorem c5r{F H:Hp}(le:Same F H){vs:List V}{os:List O}(h:Sees K F H vs os):RepL K H vs (O.dl os):=by
 unfold Sees at h
 induction h with
 |nil=>exact .nil
 |cons p t ih=>obtain⟨B,h⟩:=p;exact .cons (a4s le h) ih
theorem c7v{M:GM}{fs:GA}{Γ Γ':Gm}{r:R}(e:a1i M fs Γ=some (r,Γ')):∃rs os d fin v,fs Γ=some (rs,Γ')/\seeL Γ' rs=some os/\M ((O.dl os).map .frz)=some (.frz d,fin)/\a4w d=some v/\r=.own (.frz d):=by
 unfold a1i at e;cases q1:fs Γ with
 |none=>rw[q1] at e;cases e
 |some p=>
  rw[q1] at e;dsimp only[Option.bind] at e;cases q2:seeL p.2 p.1 with
  |none=>rw[q2] at e;cases e
  |some os=>
   rw[q2] at e;dsimp only at e;cases q3:M ((O.dl os).map .frz) with
   |none=>rw[q3] at e;cases e
   |some z=>
    obtain⟨o,fin⟩:=z;rw[q3] at e;dsimp only at e;cases o with
    |frz d=>
     dsimp only at e;cases q4:a4w d with
     |none=>rw[q4] at e;cases e
     |some v=>rw[q4] at e;cases e;exact⟨p.1,os,d,fin,v,rfl,q2,q3,q4,rfl⟩
    |_=>cases e
variable {X:Cx} {k n:Nat} {f:Addr} {fd:FuncData} {ps:List Str} {x:Str} {p pos:Pos} {e:Expr} {es:List Expr} {fs:GA} {st:Stmt} {M:GM}
theorem d6b{σ:St}{H:Hp}{Q:VK}(t:tG K (a1i M fs) σ H Q)(hn:∀rs Γ Γ',fs Γ=some (rs,Γ')->rs.length=n):tCall (SpM K n M) [] E1 (tGA K fs) σ H Q:=by
 obtain⟨F,A,Γ,rr,Γ',k,e,w⟩:=t;obtain⟨rs,os,d,fin,v0,e1,e2,e3,e4,rfl⟩:=c7v e;refine⟨F,A,Γ,rs,Γ',k,e1,fun vs H1 pp=>?_⟩
 show SpM K n M (vs++[]) H1 Q E0;rw[List.append_nil];obtain⟨F1,le,see,res⟩:=pp.res e2 w;obtain⟨_,_,_,_,hh⟩:=pp;refine⟨by rw[<-hh.length];exact hn rs Γ Γ' e1,H1,[],(O.dl os).map .frz,.frz d,fin,⟨Same.refl _,b1c (c5r le see),.nil,fun _ m=>by cases m⟩,e3,fun v H' pc=>?_⟩
 obtain⟨F5,A5,x5,k5⟩:=pc;have s:Same H1 H':=fun a o e=>x5.keep a o e (by simp)
 have ev:v=v0:=by
  obtain⟨B,C,h1,_⟩:=k5.os.one;exact a1c h1 e4
 subst ev;exact res v H' [] s (.frz (.flat e4 .nil) .nil) .nil (fun _ m=>by cases m)
theorem a0w(D:DefAt X.K X.mg x st f fd ps)(Fn:FnOk X.prog X.w X.K X.mg X.base CX0 k f fd ps (SpM K n M))(hr:Room k X.A)(ha:PA X (e::es) (tGA K fs))(hn:∀rs Γ Γ',fs Γ=some (rs,Γ')->rs.length=n)(hg:Gl X x:=by rfl)(hdb:(x == ("__debug__":Str))=false:=by decide)
  (he:starEach (e::es) X.env=(false,eval e X.env)::starEach es X.env:=by rfl) (hpl:(backTo pos (starEach es X.env)).any (·.1)=false:=by rfl) :
  PE X (.Call (.Name x p) (e::es) [] pos) (tG K (a1i M fs)):=(pcall D Fn hr ha hg hdb he hpl).mono fun _ _ _ t=>d6b t hn
theorem e0q{P:Program}{w:World}{mg:Str->Option Value}{base:Heap}{k:Nat}{f:Addr}{fd:FuncData}{ps:List Str}{M:GM}(F:FnOk P w K mg base CX0 k f fd ps (SpM K 1 M))(h:∀ns:List Int,ns.length<=63->∃fin,M [.frz (.scr ns)]=some (.frz (.bl true),fin)):
  FnOk P w K mg base CX0 k f fd ps (fun vs H Q _=>∃(a:Addr) (ns:List Int),vs=[.ref a]/\SqL K H a (ns.map V.int)/\ns.length<=63/\∀H',Q (.bl true) H'):=F.imp fun vs H Q E q=>by
 obtain⟨a,ns,rfl,hS,hl,q⟩:=q;obtain⟨fin,e⟩:=h ns hl;refine⟨rfl,H,[],[.frz (.scr ns)],_,fin,⟨Same.refl _,.frz (.scr hS .nil) .nil,.nil,fun _ m=>by cases m⟩,e,fun v H' pc=>?_⟩
 obtain⟨F5,A5,x5,k5⟩:=pc;obtain⟨B,C,h1,_⟩:=k5.os.one;cases a1c h1 rfl;exact q H'
end
end L2
namespace L2
open PySem
open Lean Meta in
simproc_decl evBind (Option.bind _ _):=fun e=>do
 let a:=e.getAppArgs
 unless a.size == 4 do return .continue
 let r0 <-Simp.simp a[2]!
 let r:={ r0 with expr:=(<-instantiateMVars r0.expr).cleanupAnnotations.headBeta}
 let pr <-match r.proof? with
  |none=>pure none
  |some p=>pure (some (<-mkCongrArg (.lam `z (<-inferType a[2]!) (mkApp4 e.getAppFn a[0]! a[1]! (.bvar 0) a[3]!) .default) p))
 if r.expr.isAppOfArity ``Option.some 2 then
  return .visit { expr:=(mkApp a[3]! r.expr.appArg!).headBeta,proof?:=pr}
 if r.expr.isAppOfArity ``Option.none 1 then
  return .done { expr:=mkApp (.const ``Option.none (e.getAppFn.constLevels!.drop 1)) a[1]!,proof?:=pr}
 return .done { expr:=mkApp4 e.getAppFn a[0]! a[1]! r.expr a[3]!,proof?:=pr}
open Lean Meta in
simproc_decl evMap (Option.map _ _):=fun e=>do
 let a:=e.getAppArgs
 unless a.size == 4 do return .continue
 let r0 <-Simp.simp a[3]!
 let r:={ r0 with expr:=(<-instantiateMVars r0.expr).cleanupAnnotations.headBeta}
 let pr <-match r.proof? with
  |none=>pure none
  |some p=>pure (some (<-mkCongrArg (.lam `z (<-inferType a[3]!) (mkApp4 e.getAppFn a[0]! a[1]! a[2]! (.bvar 0)) .default) p))
 if r.expr.isAppOfArity ``Option.some 2 then
  return .visit { expr:=mkApp2 (.const ``Option.some (e.getAppFn.constLevels!.drop 1)) a[1]! (mkApp a[2]! r.expr.appArg!).headBeta,proof?:=pr}
 if r.expr.isAppOfArity ``Option.none 1 then
  return .done { expr:=mkApp (.const ``Option.none (e.getAppFn.constLevels!.drop 1)) a[1]!,proof?:=pr}
 return .done { expr:=mkApp4 e.getAppFn a[0]! a[1]! a[2]! r.expr,proof?:=pr}
section
variable (f g h:GS) (fa fb fc:GE) (fs:GA) (ft gt:GT) (lo hi:GO) (Γ:Gm) (i n:Nat) (o:O) (d:D) (ds:List D) (os:List O) (gg:GG) (M:GM) (op:List O->Option O) (mu:O->List O->Option (O×O)) (c:List O->O)
theorem a0x:a0o f g Γ=(f Γ).bind fun p=>match p.1 with
 |.nx=>g p.2
 |.bk=>some (.bk,p.2)
 |.ct=>some (.ct,p.2)
 |.rt o=>some (.rt o,p.2):=rfl
theorem a1e:gsNil Γ=some (.nx,Γ):=rfl
theorem a1m:gsSet i fa Γ=(fa Γ).bind fun p=>match p.1 with
 |.own o=>if i < p.2.length then some (.nx,p.2.set i (some o)) else none
 |_=>none:=rfl
theorem a2b:gsRet fa Γ=(fa Γ).bind fun p=>match p.1 with
 |.own o=>some (.rt o,p.2)
 |_=>none:=rfl
theorem a2x:a3y fa Γ=(fa Γ).bind fun p=>some (.nx,p.2):=rfl
theorem a1f:gsIf ft f g Γ=(ft Γ).bind fun p=>if p.1=true then f p.2 else g p.2:=rfl
theorem d8d:gsPut fa fb fc Γ=(fa Γ).bind fun p=>(fb p.2).bind fun q=>(fc q.2).bind fun r=>match p.1,q.1,r.1 with
 |.own v,.var i,.own y=>match r.2[i]? with
  |some (some o)=>(mSet o [v,y]).bind fun z=>some (.nx,r.2.set i (some z.1))
  |_=>none
 |_,_,_=>none:=rfl
theorem a8s:gsFor fa gg f Γ=(gFrz fa Γ).bind fun p=>match p.1 with
 |.own (.frz (.lst ds))=>a2u gg f ds p.2
 |_=>none:=rfl
theorem d6c:b0y fs gg f Γ=(fs Γ).bind fun p=>(int1 p.1).bind fun j=>a2u gg f (rngD 0 j.toNat) p.2:=rfl
theorem a3h:gC d Γ=some (.own (.frz d),Γ):=rfl
theorem a0p:gVar i Γ=match Γ[i]? with
 |some (some (.frz d))=>some (.own (.frz d),Γ)
 |some (some _)=>some (.var i,Γ)
 |_=>none:=rfl
theorem a1o:gFrz fa Γ=(fa Γ).bind fun p=>match p.1 with
 |.own o=>some (.own (.frz o.d),p.2)
 |.var i=>match p.2[i]? with
  |some (some o)=>some (.own (.frz o.d),p.2.set i (some (.frz o.d)))
  |_=>none
 |_=>none:=rfl
theorem c3y:gMove fa Γ=(fa Γ).bind fun p=>match p.1 with
 |.own o=>some (.own o,p.2)
 |.var i=>match p.2[i]? with
  |some (some o)=>some (.own o,p.2.set i none)
  |_=>none
 |_=>none:=rfl
theorem a0j:gaNil Γ=some ([],Γ):=rfl
theorem a0f:a0c fa fs Γ=(fa Γ).bind fun p=>(fs p.2).bind fun q=>some (p.1::q.1,q.2):=rfl
theorem a1g:gOp op fs Γ=(fs Γ).bind fun p=>(seeL p.2 p.1).bind fun os=>(op os).bind fun o=>some (.own o,p.2):=rfl
theorem a3i:gSeq c fs Γ=(fs Γ).bind fun p=>if p.1.length<=1000 then(ownL p.1).bind fun os=>some (.own (c os),p.2) else none:=rfl
theorem b1i:b0e Γ=some (.own (.dct []),Γ):=rfl
theorem a6e:gT fa Γ=(fa Γ).bind fun p=>match p.1 with
 |.own (.frz (.bl b))=>some (b,p.2)
 |_=>none:=rfl
theorem a3o:gTru fa Γ=(fa Γ).bind fun p=>(seeR p.2 p.1).bind fun o=>(truO o).bind fun b=>some (b,p.2):=rfl
theorem a4i:gNotT ft Γ=(ft Γ).bind fun p=>some (!p.1,p.2):=rfl
theorem a8d:gAndT ft gt Γ=(ft Γ).bind fun p=>if p.1=true then gt p.2 else some (false,p.2):=rfl
theorem a7u:gOrT ft gt Γ=(ft Γ).bind fun p=>if p.1=true then some (true,p.2) else gt p.2:=rfl
theorem b9k:gIf ft fa fb Γ=(ft Γ).bind fun p=>if p.1=true then fa p.2 else fb p.2:=rfl
theorem b5s:gAndV fa fb Γ=(gT fa Γ).bind fun p=>if p.1=true then fb p.2 else gC (.bl false) p.2:=rfl
theorem e0r:gNotV fa Γ=(gT fa Γ).bind fun p=>gC (.bl (!p.1)) p.2:=rfl
theorem a1b:gCall M fs Γ=(fs Γ).bind fun p=>(a3c p.1 p.2).bind fun q=>(M q.1).bind fun r=>some (.own r.1,a5m p.1 r.2 q.2):=rfl
theorem b5t:gMut mu fa fs Γ=(fa Γ).bind fun p=>match p.1 with
 |.var i=>match p.2[i]? with
  |some (some (.lst _))=>(fs p.2).bind fun q=>(ownL q.1).bind fun os=>match q.2[i]? with
   |some (some o)=>(mu o os).bind fun z=>some (.own z.2,q.2.set i (some z.1))
   |_=>none
  |_=>none
 |_=>none:=rfl
theorem b5u:b7v Γ=some (none,Γ):=rfl
theorem b5v:b5q fa Γ=(fa Γ).bind fun p=>(intR p.1).map fun i=>(some i,p.2):=rfl
theorem b1j:b3h fa lo hi Γ=(fa Γ).bind fun p=>(lo p.2).bind fun q=>(hi q.2).bind fun r=>(seeR r.2 p.1).bind fun o=>(slO o q.1 r.1).bind fun o'=>some (.own o',r.2):=rfl
theorem a4t(src:Gm->Option (List D×Gm))(k:Nat)(cap:List Nat):a3z src gg ft fa k cap Γ=(src Γ).bind fun p=>
 (compLoop gg ft fa p.1 (List.replicate k none++(capIn cap p.2).1) []).bind fun q=>if q.2.length=k+cap.length then some (.own (.lst q.1),b0h cap (q.2.drop k) (capIn cap p.2).2) else none:=rfl
theorem a7k:srcL fa Γ=(gFrz fa Γ).bind fun p=>match p.1 with
 |.own (.frz (.lst ds))=>some (ds,p.2)
 |_=>none:=rfl
theorem d6d:srcR1 fs Γ=(fs Γ).bind fun p=>(int1 p.1).map fun j=>(rngD 0 j.toNat,p.2):=rfl
theorem e0s:srcS fa Γ=(fa Γ).bind fun p=>match p.1 with
 |.own (.frz (.str z))=>some (z.cps.toList.map fun c=>.str (chr1 c),p.2)
 |_=>none:=rfl
theorem b5w:gYes Γ=some (true,Γ):=rfl
theorem a2j:a0r i d Γ=if i < Γ.length then some (Γ.set i (some (.frz d))) else none:=rfl
theorem b0l(gs:List GG):ggTup gs (.tup ds) Γ=ggAll gs ds Γ:=rfl
theorem a8e:ggAll [] [] Γ=some Γ:=rfl
theorem a8f(gs:List GG):ggAll (gg::gs) (d::ds) Γ=(gg d Γ).bind fun Γ1=>ggAll gs ds Γ1:=rfl
theorem a1a(m:List Bool):runM n m f os=(f (os.map some++List.replicate (n - os.length) none)).bind fun p=>p.1.val.bind fun o=>if p.2.length=n then some (o,keepM m (p.2.take os.length)) else none:=rfl
theorem c5s:a2u gg f [] Γ=some (.nx,Γ):=rfl
theorem a6f:a2u gg f (d::ds) Γ=(gg d Γ).bind fun Γ1=>(f Γ1).bind fun q=>match q.1 with
 |.nx=>a2u gg f ds q.2
 |.ct=>a2u gg f ds q.2
 |.bk=>some (.nx,q.2)
 |.rt o=>some (.rt o,q.2):=rfl
theorem b1k:compLoop gg ft fa [] Γ os=some (os,Γ):=rfl
theorem c2d:compLoop gg ft fa (d::ds) Γ os=(gg d Γ).bind fun Γ1=>(ft Γ1).bind fun p=>if p.1=true then
   (fa p.2).bind fun q=>(ownL [q.1]).bind fun os'=>if os.length < 1000000 then compLoop gg ft fa ds q.2 (os++os') else none
  else compLoop gg ft fa ds p.2 os:=rfl
theorem d1c:slO (.frz (.lst ds)) l u=some (.lst ((cutD ds l u).map .frz)):=rfl
theorem e3t:listD (.frz (.lst ds))=some ds:=rfl
theorem e3u:listD (.lst (ds.map .frz))=some ds:=b1b ds
theorem d1d:listD (.lst os)=frzL os:=rfl
theorem e3v:frzL []=some []:=rfl
theorem a4a(a b:Int):oAdd [.frz (.int a),.frz (.int b)]=some (.frz (.int (a+b))):=rfl
theorem e0t(a b:Str):oAdd [.frz (.str a),.frz (.str b)]=if a.length+b.length<=1000000 then some (.frz (.str (a++b))) else none:=rfl
theorem e0u(a b:List O):oAdd [.lst a,.lst b]=(listD (.lst a)).bind fun xs=>(listD (.lst b)).bind fun ys=>if xs.length+ys.length<=1000000 then some (.lst ((xs++ys).map .frz)) else none:=rfl
theorem e0v(a b:List D):oAdd [.frz (.lst a),.frz (.lst b)]=if a.length+b.length<=1000000 then some (.lst ((a++b).map .frz)) else none:=rfl
theorem b9l(a:List O)(b:List D):oAdd [.lst a,.frz (.lst b)]=(listD (.lst a)).bind fun xs=>if xs.length+b.length<=1000000 then some (.lst ((xs++b).map .frz)) else none:=rfl
theorem a5t(C:Int->Int->Bool)(q:Int->Int->D)(a b:Int):oInt C q [.frz (.int a),.frz (.int b)]=if C a b=true then some (.frz (q a b)) else none:=rfl
theorem d1e(a b:Int):oMulA [.frz (.int a),.frz (.int b)]=if(-(2 ^ 64) < a/\a < 2 ^ 64)\/(-(2 ^ 64) < b/\b < 2 ^ 64) then some (.frz (.int (a * b))) else none:=rfl
theorem d1f(a:Str)(b:Int):oMulA [.frz (.str a),.frz (.int b)]=if MulOk a b then some (.frz (.str (Txt.mul a b))) else none:=rfl
theorem a3f(a:O):oIx [a,.frz d]=oIx1 a d:=rfl
theorem b0i(k:Int):oIx1 (.frz (.lst ds)) (.int k)=(atI ds k).map .frz:=rfl
theorem a6z(k:Int):oIx1 (.frz (.tup ds)) (.int k)=(atI ds k).map .frz:=rfl
theorem c5t(k:Int):oIx1 (.lst os) (.int k)=(atI os k).bind unfrz:=rfl
theorem d8e(z:Str)(k:Int):oIx1 (.frz (.str z)) (.int k)=if z.length<=1000000 then(atI z.cps.toList k).map fun c=>.frz (.str ⟨#[c]⟩) else none:=rfl
theorem c5u:unfrz (.frz d)=some (.frz d):=rfl
theorem a5l(a:O):oLen [a]=(lenD a.d).map fun n=>.frz (.int n):=rfl
theorem a5d:lenD (.lst ds)=some (ds.length:Int):=rfl
theorem e0w:lenD (.tup ds)=some (ds.length:Int):=rfl
theorem a7l(a b:O):oEq [a,b]=if okD 40 a.d=true/\okD 40 b.d=true then some (.frz (.bl (eqD a.d b.d))) else none:=rfl
theorem a0t:a3c [] Γ=some ([],Γ):=rfl
theorem a0y(rs:List R):a3c (.own o::rs) Γ=(a3c rs Γ).bind fun p=>some (o::p.1,p.2):=rfl
theorem a2g(rs:List R):a3c (.var i::rs) Γ=match Γ[i]? with
  |some (some o)=>(a3c rs (Γ.set i none)).bind fun p=>some (o::p.1,p.2)
  |_=>none:=rfl
theorem a2c(fin:Gm):a5m [] fin Γ=Γ:=by cases fin <;> rfl
theorem a2l(rs:List R)(x:Option O)(fin:Gm):a5m (.own o::rs) (x::fin) Γ=a5m rs fin Γ:=rfl
theorem a4b(rs:List R)(x:Option O)(fin:Gm):a5m (.var i::rs) (x::fin) Γ=(a5m rs fin Γ).set i x:=rfl
theorem a0l:seeL Γ []=some []:=rfl
theorem a0m(r:R)(rs:List R):seeL Γ (r::rs)=(seeR Γ r).bind fun o=>(seeL Γ rs).bind fun os=>some (o::os):=rfl
theorem a0n:seeR Γ (.own o)=some o:=rfl
theorem a5y:seeR Γ (.var i)=(Γ[i]?).join:=rfl
theorem a1x:ownL []=some []:=rfl
theorem a2k(rs:List R):ownL (.own o::rs)=(ownL rs).bind fun os=>some (o::os):=rfl
theorem b9m(k:Int):intR (.own (.frz (.int k)))=some k:=rfl
theorem a5u(m:List Bool)(x:Option O):keepM (true::m) (x::Γ)=x::keepM m Γ:=rfl
theorem a2s(m:List Bool)(x:Option O):keepM (false::m) (x::Γ)=none::keepM m Γ:=rfl
theorem a2i(m:List Bool):keepM m []=[]:=by
 cases m with
 |nil=>rfl
 |cons b m=>cases b <;> rfl
theorem a2z:(Fl.rt o).val=some o:=rfl
theorem b3r:Fl.nx.val=some (.frz .non):=rfl
theorem a2y(b:Bool):truO (.frz (.bl b))=some b:=rfl
theorem b9n:truO (.frz (.lst ds))=some (!ds.isEmpty):=rfl
theorem a1h:(O.frz d).d=d:=rfl
theorem a6m:(O.lst os).d=.lst (O.dl os):=rfl
theorem b9o:(O.tup os).d=.tup (O.dl os):=rfl
theorem a1j:O.dl []=[]:=rfl
theorem a1p:O.dl (o::os)=o.d::O.dl os:=rfl
theorem b7y:O.dl (ds.map .frz)=ds:=b5l ds
end
theorem a4o{α:Type}(a:α)(l:List α):atI (a::l) 0=some a:=a5x (j:=0) rfl
theorem a7a{α:Type}(a b:α)(l:List α):atI (a::b::l) 1=some b:=a5x (j:=1) rfl
theorem b4e{α:Type}(a b c:α)(l:List α):atI (a::b::c::l) 2=some c:=a5x (j:=2) rfl
theorem b4f{α:Type}(a b c d:α)(l:List α):atI (a::b::c::d::l) 3=some d:=a5x (j:=3) rfl
theorem d8f(ns:List Int)(k:Int):oIx1 (.frz (.scr ns)) (.int k)=(atI (ns.map D.int) k).map .frz:=rfl
theorem d1g(ns:List Int):lenD (.scr ns)=some (ns.length:Int):=rfl
theorem c3z(i:Nat)(cap:List Nat)(Γ:Gm):srcV i cap Γ=if i∈cap then none else match Γ[i]? with
 |some (some (.lst os))=>(frzL os).map fun ds=>(ds,Γ)
 |_=>none:=rfl
theorem b5x(g:O->List O->Option (O×O))(i:Nat)(π:List Nat)(ds:List D)(Γ:Gm):gMutC g i π ds Γ=match Γ[i]? with
 |some (some o)=>(setP (fun c=>g c (ds.map .frz)) o π).bind fun z=>some (.own z.2,Γ.set i (some z.1))
 |_=>none:=rfl
theorem a3s(Γ:Gm):capIn [] Γ=([],Γ):=rfl
theorem a5p(i:Nat)(cap:List Nat)(Γ:Gm):capIn (i::cap) Γ=((Γ[i]?).join::(capIn cap (Γ.set i none)).1,(capIn cap (Γ.set i none)).2):=rfl
theorem a3t(x Γ:Gm):b0h [] x Γ=Γ:=by cases x <;> rfl
theorem a5q(i:Nat)(cap:List Nat)(x:Option O)(Γi Γ:Gm):b0h (i::cap) (x::Γi) Γ=(b0h cap Γi Γ).set i x:=rfl
theorem a0z(M:GM)(fs:GA)(Γ:Gm):a1i M fs Γ=(fs Γ).bind fun p=>(seeL p.2 p.1).bind fun os=>(M ((O.dl os).map .frz)).bind fun r=>match r.1 with
 |.frz d=>(a4w d).bind fun _=>some (.own (.frz d),p.2)
 |_=>none:=rfl
theorem a3r(a:Int):a4w (.int a)=some (.int a):=rfl
theorem d1h(a:Str):a4w (.str a)=some (.str a):=rfl
theorem a6n(a:Bool):a4w (.bl a)=some (.bl a):=rfl
theorem a5e(n:Nat)(a:Int):okD n (.int a)=true:=by cases n <;> rfl
theorem a7m(n:Nat)(a:Str):okD n (.str a)=true:=by cases n <;> rfl
theorem a7b(a b:Int):eqD (.int a) (.int b)=(a == b):=by unfold eqD;rfl
theorem b3i(a b:Str):eqD (.str a) (.str b)=(a == b):=by unfold eqD;rfl
end L2
namespace L2
open PySem PySem.Spec PyProof.Rows
section
variable {X:Cx} {pins:List (Addr×Obj)} {s:Shared} {σ:St} {H:Hp}
theorem e3w(I:Inv X pins σ H s){n m:Nat}{A:Around}{x y:V}{u v:Value}{d e:D}(rd:RepL X.K H [x] [d])(re:RepL X.K H [y] [e])(od:okD n d=true)(oe:okD m e=true)(ru:RelV x u)(rv:RelV y v)(hu:A.units+n < cLine):SeqAt.RcNeAt A s u v (!eqD d e):=by
 have hu0:A.units < cLine:=by omega
 have s1:=c5g I rd ru od;have s2:=c5g I re rv oe;cases s1 with
 |none=>
  cases s2 with
  |none=>
   simp only[eqD];exact SeqAt.RcNeAt.none_none
  |bool a2=>
   simp only[eqD];exact SeqAt.RcNeAt.none_bool a2
  |int a2 t2=>
   simp only[eqD];exact SeqAt.RcNeAt.none_int a2 t2
  |str a2 t2=>
   simp only[eqD];exact SeqAt.RcNeAt.none_str a2 t2
  |list l2 v2 r2=>
   simp only[eqD];exact SeqAt.RcNeAt.none_list l2 hu0
  |tuple l2 v2 r2=>
   simp only[eqD];exact SeqAt.RcNeAt.none_tuple l2 hu0
 |bool a1=>
  cases s2 with
  |none=>
   simp only[eqD];exact SeqAt.RcNeAt.bool_none a1
  |bool a2=>
   simp only[eqD];exact SeqAt.RcNeAt.bool_bool a1 a2
  |int a2 t2=>
   simp only[eqD];exact SeqAt.RcNeAt.bool_int a1 a2 t2
  |str a2 t2=>
   simp only[eqD];exact SeqAt.RcNeAt.bool_str a1 a2 t2
  |list l2 v2 r2=>
   simp only[eqD];exact SeqAt.RcNeAt.bool_list a1 l2 hu0
  |tuple l2 v2 r2=>
   simp only[eqD];exact SeqAt.RcNeAt.bool_tuple a1 l2 hu0
 |int a1 t1=>
  cases s2 with
  |none=>
   simp only[eqD];exact SeqAt.RcNeAt.int_none a1 t1
  |bool a2=>
   simp only[eqD];exact SeqAt.RcNeAt.int_bool a1 t1 a2
  |int a2 t2=>
   simp only[eqD];exact SeqAt.RcNeAt.int_int a1 t1 a2 t2
  |str a2 t2=>
   simp only[eqD];exact SeqAt.RcNeAt.int_str a1 t1 a2 t2
  |list l2 v2 r2=>
   simp only[eqD];exact SeqAt.RcNeAt.int_list a1 t1 l2 hu0
  |tuple l2 v2 r2=>
   simp only[eqD];exact SeqAt.RcNeAt.int_tuple a1 t1 l2 hu0
 |str a1 t1=>
  cases s2 with
  |none=>
   simp only[eqD];exact SeqAt.RcNeAt.str_none a1 t1
  |bool a2=>
   simp only[eqD];exact SeqAt.RcNeAt.str_bool a1 t1 a2
  |int a2 t2=>
   simp only[eqD];exact SeqAt.RcNeAt.str_int a1 t1 a2 t2
  |str a2 t2=>
   simp only[eqD];exact SeqAt.RcNeAt.str_str a1 t1 a2 t2
  |list l2 v2 r2=>
   simp only[eqD];exact SeqAt.RcNeAt.str_list a1 t1 l2 hu0
  |tuple l2 v2 r2=>
   simp only[eqD];exact SeqAt.RcNeAt.str_tuple a1 t1 l2 hu0
 |list l1 v1 r1=>
  cases s2 with
  |none=>
   simp only[eqD];exact SeqAt.RcNeAt.list_none l1 hu0
  |bool a2=>
   simp only[eqD];exact SeqAt.RcNeAt.list_bool a2 l1 hu0
  |int a2 t2=>
   simp only[eqD];exact SeqAt.RcNeAt.list_int a2 t2 l1 hu0
  |str a2 t2=>
   simp only[eqD];exact SeqAt.RcNeAt.list_str a2 t2 l1 hu0
  |list l2 v2 r2=>
   rename_i a its ws es b its2 ws2 es2
   obtain⟨n',rfl,od'⟩:=b2h od;obtain⟨m',rfl,oe'⟩:=b2h oe;have la:=v1.length;have lb:=v2.length;have la':=r1.length;have lb':=r2.length;simp only[eqD];by_cases hl:es.length=es2.length
   ·rw[b1e its.toArray.size (by simp only[List.size_toArray];omega) (by simp only[List.size_toArray];omega)]
    refine SeqAt.RcNeAt.lists (A:=A) l1 l2 (by simp only[List.size_toArray];omega) hu0 fun j h1 h2=>?_
    obtain⟨x1,q1,q2,q3⟩:=b3f r1 v1 h1;obtain⟨y1,p1,p2,p3⟩:=b3f r2 v2 h2;exact(c1v I n' m' q2 p2 (a6w od' q3) (a6w oe' p3) q1 p1 (by show A.units+1+n' < cLine;omega)).1
   ·rw[b1d hl];exact SeqAt.RcNeAt.lists_lengths (A:=A) l1 l2 (by simp only[List.size_toArray,bne_iff_ne,ne_eq];omega) hu0
  |tuple l2 v2 r2=>
   simp only[eqD];exact SeqAt.RcNeAt.list_tuple l1 l2 hu0
 |tuple l1 v1 r1=>
  cases s2 with
  |none=>
   simp only[eqD];exact SeqAt.RcNeAt.tuple_none l1 hu0
  |bool a2=>
   simp only[eqD];exact SeqAt.RcNeAt.tuple_bool a2 l1 hu0
  |int a2 t2=>
   simp only[eqD];exact SeqAt.RcNeAt.tuple_int a2 t2 l1 hu0
  |str a2 t2=>
   simp only[eqD];exact SeqAt.RcNeAt.tuple_str a2 t2 l1 hu0
  |list l2 v2 r2=>
   simp only[eqD];exact SeqAt.RcNeAt.tuple_list l1 l2 hu0
  |tuple l2 v2 r2=>
   rename_i a its ws es b its2 ws2 es2
   obtain⟨n',rfl,od'⟩:=b2i od;obtain⟨m',rfl,oe'⟩:=b2i oe;have la:=v1.length;have lb:=v2.length;have la':=r1.length;have lb':=r2.length;have z:=SeqAt.RcNeAt.tuples (A:=A) (e:=fun j=>eqD (es.getD j .non) (es2.getD j .non)) l1 l2 hu0 fun j h1 h2=>by
    obtain⟨x1,q1,q2,q3⟩:=b3f r1 v1 h1;obtain⟨y1,p1,p2,p3⟩:=b3f r2 v2 h2;exact(c1v I n' m' q2 p2 (a6w od' q3) (a6w oe' p3) q1 p1 (by show A.units+1+n' < cLine;omega)).1
   simp only[eqD];by_cases hl:es.length=es2.length
   ·rw[b1e its.toArray.size (by simp only[List.size_toArray];omega) (by simp only[List.size_toArray];omega)]
    have e1:its2.toArray.size=its.toArray.size:=by simp only[List.size_toArray];omega
    rw[e1,Nat.min_self,beq_self_eq_true,Bool.and_true] at z;exact z
   ·rw[b1d hl];have e1:(its.toArray.size == its2.toArray.size)=false:=by rw[beq_eq_false_iff_ne];simp only[List.size_toArray];omega
    rw[e1,Bool.and_false] at z;exact z
end
section
variable {X:Cx} {K:L2.FG}
def rNeA(K:L2.FG):R2:=fun x y H Q=>∃d e,RepL K H [x] [d]/\RepL K H [y] [e]/\okD 40 d=true/\okD 40 e=true/\Q (.bl (!eqD d e)) H
theorem e3x(K:L2.FG)(hu:X.A.units+40 < cLine)(hK:X.K=K:=by rfl):OpR X (compareOp .NotEq) (rNeA K):=by
 subst hK;intro pins s σ H x y v u Q I rx ry h;obtain⟨d,e,r1,r2,o1,o2,q⟩:=h;exact(e3w I r1 r2 o1 o2 rx ry hu) X.prog X.w _ _ ⟨.bl _,H,I,rfl,q⟩
def oNeA:List O->Option O
 |[a,b]=>if okD 40 a.d=true/\okD 40 b.d=true then some (.frz (.bl (!eqD a.d b.d))) else none
 |_=>none
theorem e3y:OpOk K (r2L (rNeA K)) oNeA:=by
 intro F H vs os o Q le see e res;unfold oNeA at e;split at e
 ·split at e
  ·cases e;obtain⟨x,y,B,C,rfl,h1,h2⟩:=see.two
   rename_i hh
   exact⟨_,_,rfl,_,_,a4s le h1,a4s le h2,hh.1,hh.2,res.flat rfl⟩
  ·cases e
 ·cases e
end
end L2
namespace L2
open PySem
variable{g:GG}{ct:GT}{ce:GE}
def a9v(g:GG)(ct:GT)(ce:GE)(d:D)(Γ:Gm):Option (Option R×Gm):=(g d Γ).bind fun Γ1=>(ct Γ1).bind fun p=>if p.1=true then(ce p.2).bind fun q=>some (some q.1,q.2) else some (none,p.2)
theorem b5y{d:D}{ds:List D}{Γ Γ':Gm}{os:List O}{r:Option R}(h:a9v g ct ce d Γ=some (r,Γ')):
  compLoop g ct ce (d::ds) Γ os=match r with
   |some r=>(ownL [r]).bind fun os'=>if os.length < 1000000 then compLoop g ct ce ds Γ' (os++os') else none
   |none=>compLoop g ct ce ds Γ' os:=by
 rw[c2d];unfold a9v at h;cases e1:g d Γ with
 |none=>rw[e1] at h;cases h
 |some Γ1=>
  rw[e1] at h;rw[Option.bind_some] at h ⊢;cases e2:ct Γ1 with
  |none=>rw[e2] at h;cases h
  |some p=>
   rw[e2] at h;rw[Option.bind_some] at h ⊢;by_cases hp:p.1=true
   ·rw[if_pos hp] at h ⊢;cases e3:ce p.2 with
    |none=>rw[e3] at h;cases h
    |some q=>rw[e3] at h;cases h;rfl
   ·rw[if_neg hp] at h ⊢;cases h;rfl
theorem b1l{α:Type}{g:GG}{ct:GT}{ce:GE}(St:Gm->Prop)(enc:α->D)(p:α->Bool)(val:α->D):∀(xs:List α) (acc:List D) (Γ:Gm),St Γ->acc.length+xs.length < 1000000->
  (∀x∈xs,∀Γ,St Γ->∃Γ',a9v g ct ce (enc x) Γ=some (if p x=true then some (.own (.frz (val x))) else none,Γ')/\St Γ')->
  ∃Γ',St Γ'/\compLoop g ct ce (xs.map enc) Γ (acc.map .frz)=some ((acc++(xs.filter p).map val).map .frz,Γ')
 |[],acc,Γ,hS,_,_=>⟨Γ,hS,by rw[List.map_nil,b1k,List.filter_nil,List.map_nil,List.append_nil]⟩
 |x::xs,acc,Γ,hS,hl,h=>by
  rw[List.length_cons] at hl;obtain⟨Γ1,e1,s1⟩:=h x (.head _) Γ hS;by_cases hp:p x=true
  ·rw[if_pos hp] at e1;rw[List.map_cons,b5y e1];obtain⟨Γ2,s2,e2⟩:=b1l St enc p val xs (acc++[val x]) Γ1 s1 (by rw[List.length_append,List.length_singleton];omega) fun y hy=>h y (.tail _ hy)
   refine⟨Γ2,s2,?_⟩;show(if(acc.map O.frz).length < 1000000 then compLoop g ct ce (xs.map enc) Γ1 (acc.map O.frz++[O.frz (val x)]) else none)=_
   rw[if_pos (by rw[List.length_map];omega),List.filter_cons_of_pos hp,List.map_cons,show acc++val x::(xs.filter p).map val=acc++[val x]++(xs.filter p).map val by simp,<-e2,List.map_append]
   rfl
  ·rw[if_neg hp] at e1;rw[List.map_cons,b5y e1];obtain⟨Γ2,s2,e2⟩:=b1l St enc p val xs acc Γ1 s1 (by omega) fun y hy=>h y (.tail _ hy)
   refine⟨Γ2,s2,?_⟩;rw[List.filter_cons_of_neg hp];exact e2
theorem b9p{α:Type}(St:Gm->Prop)(enc:α->D)(val:α->D)(xs:List α)(Γ:Gm)(hS:St Γ)(hl:xs.length < 1000000)
  (h:∀x∈xs,∀Γ,St Γ->∃Γ',a9v g ct ce (enc x) Γ=some (some (.own (.frz (val x))),Γ')/\St Γ'):∃Γ',St Γ'/\compLoop g ct ce (xs.map enc) Γ []=some ((xs.map val).map .frz,Γ'):=by
 obtain⟨Γ',s,e⟩:=b1l St enc (fun _=>true) val xs [] Γ hS (by rw[List.length_nil];omega) fun x hx Γ hΓ=>h x hx Γ hΓ
 refine⟨Γ',s,?_⟩;rw[List.nil_append,List.filter_eq_self.mpr (fun _ _=>rfl)] at e
 exact e
theorem a7c(g:GG)(ct:GT)(ce:GE)(d:D)(Γ:Gm):a9v g ct ce d Γ=(g d Γ).bind fun Γ1=>(ct Γ1).bind fun p=>if p.1=true then(ce p.2).bind fun q=>some (some q.1,q.2) else some (none,p.2):=rfl
theorem d8g(a b:Int):oNeA [.frz (.int a),.frz (.int b)]=some (.frz (.bl (!(a == b)))):=by
 unfold oNeA;simp[O.d,okD,eqD]
theorem a7d{α:Type}{g:GG}{f:GS}(enc:α->D)(P:List α->Gm->Prop):∀(xs pre:List α) (Γ:Gm),P pre Γ->
  (∀q x post Γ,xs=q++x::post->P (pre++q) Γ->∃Γ2,(g (enc x) Γ).bind f=some (.nx,Γ2)/\P (pre++q++[x]) Γ2)->∃Γ',a2u g f (xs.map enc) Γ=some (.nx,Γ')/\P (pre++xs) Γ'
 |[],pre,Γ,h,_=>⟨Γ,rfl,by rw[List.append_nil];exact h⟩
 |x::xs,pre,Γ,h,st=>by
  obtain⟨Γ2,h2,h3⟩:=st [] x xs Γ rfl (by rw[List.append_nil];exact h)
  rw[List.append_nil] at h3;obtain⟨Γ',h4,h5⟩:=a7d enc P xs (pre++[x]) Γ2 h3 fun q y post Γ e p=>by
   obtain⟨Γ2,b,c⟩:=st (x::q) y post Γ (by rw[e];rfl) (by rw[show pre++x::q=pre++[x]++q by simp];exact p)
   exact⟨Γ2,b,by rw[show pre++[x]++q++[y]=pre++x::q++[y] by simp];exact c⟩
  refine⟨Γ',?_,by rw[show pre++x::xs=pre++[x]++xs by simp];exact h5⟩
  rw[List.map_cons,a6f];cases q:g (enc x) Γ with
  |none=>rw[q] at h2;cases h2
  |some Γ1=>
   rw[q] at h2;have h2:f Γ1=some (.nx,Γ2):=h2;show(f Γ1).bind _=_;rw[h2];exact h4
theorem c5v{α:Type}{f:GS}(enc:α->D)(P:Gm->Prop)(xs:List α)(Γ:Gm)(h:P Γ)(st:∀x∈xs,∀Γ,P Γ->∃Γ2,(g (enc x) Γ).bind f=some (.nx,Γ2)/\P Γ2):∃Γ',a2u g f (xs.map enc) Γ=some (.nx,Γ')/\P Γ':=
 a7d enc (fun _ Γ=>P Γ) xs [] Γ h fun q x post Γ e p=>st x (by rw[e];simp) Γ p
theorem b4g(lo:Int)(n:Nat):rngD lo n=(List.range n).map fun(k:Nat)=>D.int (lo+(k:Int)):=rfl
end L2
namespace L2
open PySem PySem.Spec PyProof.Rows
section
variable {X:Cx} {K:L2.FG} {fa fk fv:GE} {f:GS} {m:List Bool} {W:Option XW} {tg l:Expr} {t:TG} {gg:GG} {body:List Stmt} {p0 p1 pos:Pos}
end
variable{L A ch:List Addr}{t' x1 n k:Nat}{P:Program}{w:World}{K:L2.FG}{elts:List Expr}{pos:Pos}{it l e C fa:Addr}{Src:Hp->Prop}{σ:St}{H F:Hp}{h h':Heap}{X:Cx}{Q:VK}{dx:Option Addr}{vs:List V}{x qual:Str}{st:Stmt}{fd:FuncData}{N ps:List Str}{W:XW}{mN:Str->Option Value}
section
variable {X:Cx} {K:L2.FG} {fo f:GE} {fs:GA} {g:List O->Option O} {r:V->List V->Hp->VK->Prop} {o e:Expr} {es:List Expr} {name:Str} {id:String} {apos cpos pos:Pos}
def rMeth(r:V->List V->Hp->VK->Prop):List V->Hp->VK->Prop:=fun vs H Q=>∃x xs,vs=x::xs/\r x xs H Q
def strsD:List D->Option (List Str)
 |[]=>some []
 |.str x::ds=>(strsD ds).map fun xs=>x::xs
 |_=>none
theorem c2e:∀{ds:List D} {xs:List Str},strsD ds=some xs->ds=xs.map .str
 |[],xs,e=>by cases e;rfl
 |d::ds,xs,e=>by
  cases d with
  |str i=>
   obtain⟨js,e1,e2⟩:=Option.map_eq_some_iff.mp (show(strsD ds).map _=some xs from e);rw[<-e2,c2e e1];rfl
  |_=>cases e
theorem b5z{F:Hp}:∀{ws:List V} {xs:List Str},RepL K F ws (xs.map .str)->ws=xs.map .str
 |[],[],_=>rfl
 |[],_::_,h=>by have:=h.length;simp at this
 |_::_,[],h=>by have:=h.length;simp at this
 |w::ws,i::is,h=>by
  rw[List.map_cons] at h;have h1:=h.inv.1;have h2:=b5z h.inv.2;rw[h2,List.map_cons];cases h1 with
  |flat e _=>cases e;rfl
theorem b2l:∀{xs:List Str} {its:List Value},Vals (xs.map V.str) its->∃ps:List (Str×Tok),its=ps.map (fun p=>Value.str p.1 p.2)/\ps.map (·.1)=xs
 |[],its,h=>by
  rw[List.map_nil] at h;cases h;exact⟨[],rfl,rfl⟩
 |i::is,its,h=>by
  rw[List.map_cons] at h;cases h with
  |cons r t=>
   obtain⟨ps,e1,e2⟩:=b2l t;obtain⟨tk,rfl⟩:=r;exact⟨(i,tk)::ps,by rw[e1];rfl,by rw[List.map_cons,e2]⟩
def oFmt:List O->Option O
 |[.frz (.str x)]=>if x.length<=1000000 then some (.frz (.str x)) else none
 |[.frz (.int i)]=>if i.natAbs.log2 < 1920 then some (.frz (.str (Str.ofString (toString i)))) else none
 |_=>none
theorem d1i(x:Str):oFmt [.frz (.str x)]=if x.length<=1000000 then some (.frz (.str x)) else none:=rfl
theorem e0x{v:Expr}(h:PE X v (tG K f)):PE X (.FormattedValue v (-1) none pos) (tG K (gUn oFmt f)):=by
 intro pins s σ H Q I t;have ok:OpOk K (r1L fun x H Q=>(∃z:Str,x=.str z/\z.length<=sizeLine/\Q (.str z) H)\/∃i:Int,x=.int i/\i.natAbs.log2 < 1920/\Q (.str (Str.ofString (toString i))) H) oFmt:=by
  intro F H vs os o Q le see e res;unfold oFmt at e;split at e
  ·split at e
   ·rename_i hi
    cases e;obtain⟨x,B,rfl,h1⟩:=see.one;cases a1c h1 rfl;exact⟨_,rfl,.inl ⟨_,rfl,ml hi,res.flat rfl⟩⟩
   ·cases e
  ·split at e
   ·rename_i hi
    cases e;obtain⟨x,B,rfl,h1⟩:=see.one;cases a1c h1 rfl;exact⟨_,rfl,.inr ⟨_,rfl,hi,res.flat rfl⟩⟩
   ·cases e
  ·cases e
 refine wpAny_FormattedValue_plain (thn (h pins s σ H _ I (e3j ok t)) fun u s1 ⟨x,H1,I1,r1,q1⟩=>?_)
 rcases q1 with⟨z,rfl,hz,q⟩|⟨i,rfl,hi,q⟩
 ·obtain⟨t',rfl⟩:=r1;exact PyProof.Rows.formatField_str (fun t2 tk=>⟨.str z,H1,I1.tok _,⟨_,rfl⟩,q⟩) hz
 ·obtain⟨t',rfl⟩:=r1;exact wpAny_formatField_int hi ⟨.str _,H1,I1.tok _,⟨_,rfl⟩,q⟩
abbrev GJ:=Gm->Option (Str×Gm)
def gjNil:GJ:=fun Γ=>some (Str.empty,Γ)
def b1m(f:GE)(j:GJ):GJ:=fun Γ=>(f Γ).bind fun p=>match p.1 with
 |.own (.frz (.str z))=>(j p.2).bind fun q=>some (z++q.1,q.2)
 |_=>none
def b6a(j:GJ):GE:=fun Γ=>(j Γ).bind fun p=>if p.1.length<=1000000 then some (.own (.frz (.str p.1)),p.2) else none
theorem e0y(Γ:Gm):gjNil Γ=some (Str.empty,Γ):=rfl
theorem c5w(f:GE)(j:GJ)(Γ:Gm):b1m f j Γ=(f Γ).bind fun p=>match p.1 with
 |.own (.frz (.str z))=>(j p.2).bind fun q=>some (z++q.1,q.2)
 |_=>none:=rfl
theorem c2f(j:GJ)(Γ:Gm):b6a j Γ=(j Γ).bind fun p=>if p.1.length<=1000000 then some (.own (.frz (.str p.1)),p.2) else none:=rfl
def PJ(X:Cx)(K:L2.FG)(es:List Expr)(j:GJ):Prop:=∀(acc:Str) (pins:List (Addr×Obj)) (s:Shared) (σ:St) (H:Hp) (Q:Str->Hp->Prop) (R:Str->Shared->Prop) (F:Hp) (A:List Addr) (Γ Γ':Gm) (z:Str),Inv X pins σ H s->OK K F H σ Γ A->j Γ=some (z,Γ')->acc.length+z.length<=sizeLine->
 (∀H',Post K F H A σ Γ' [] [] H'->Q (acc++z) H')->(∀out s' H',out.length<=sizeLine->Inv X pins σ H' s'->Q out H'->R out s')->Joins (model X.prog X.w) X.A X.xe (evalEach es X.env) acc R s
theorem b3s(a:Str):a++Str.empty=a:=by
 show Str.mk (a.cps++#[])=a;rw[Array.append_empty]
theorem d1j:PJ X K [] gjNil:=by
 intro acc pins s σ H Q R F A Γ Γ' z I k e hl q hR;cases e;have q':=q H ⟨F,A,Ext.refl,k,True.intro⟩;rw[b3s] at q';exact Joins_nil (hR _ _ _ (by omega) I q')
theorem a8g{es:List Expr}{j:GJ}(he:PE X e (tG K f))(hj:PJ X K es j):PJ X K (e::es) (b1m f j):=by
 intro acc pins s σ H Q R F A Γ Γ' z I k e1 hl q hR;unfold b1m at e1;obtain⟨⟨r1,Γ1⟩,e2,e3⟩:=Option.bind_eq_some_iff.mp e1;dsimp only at e3;split at e3
 ·rename_i y
  obtain⟨⟨z2,Γ2⟩,e4,e5⟩:=Option.bind_eq_some_iff.mp e3;cases e5;rw[Str.length_append] at hl;dsimp only at hl;refine Joins_cons (thn (he pins s σ H (fun v H1=>v=.str y/\Post K F H A σ Γ1 [.own (.frz (.str y))] [v] H1) I ⟨F,A,Γ,_,Γ1,k,e2,fun v H1 pp=>⟨Post.flat pp rfl,pp⟩⟩) fun u s1 ⟨x,H1,I1,r1,hx,pp⟩=>?_)
  subst hx;obtain⟨t,rfl⟩:=r1;refine⟨y,t,rfl,by rw[Str.length_append];omega,?_⟩
  obtain⟨F1,A1,x1,k1,hh⟩:=pp;obtain⟨B,C,h1,h2,h3⟩:=OwnL.one (σ:=σ) (Γ:=Γ1) k1.os;subst h3;obtain⟨k2,x2⟩:=k1.sub h2 (.of_sub (List.sublist_append_right _ _));refine hj (acc++y) pins s1 σ H1 Q R F1 C Γ1 Γ2 z2 I1 k2 e4 (by rw[Str.length_append];omega) (fun H' p2=>?_) hR
  rw[Str.append_assoc];apply q;obtain⟨F2,A2,x3,k3,hh3⟩:=p2;exact⟨F2,A2,(x1.trans x2).trans x3,k3,hh3⟩
 ·cases e3
theorem b6b{v1 v2:Expr}{rest:List Expr}{j:GJ}(h:PJ X K (v1::v2::rest) j):PE X (.JoinedStr (v1::v2::rest) pos) (tG K (b6a j)):=by
 intro pins s σ H Q I t;obtain⟨F,A,Γ,rr,Γ',k,e,w⟩:=t;unfold b6a at e;obtain⟨⟨z,Γ1⟩,e2,e3⟩:=Option.bind_eq_some_iff.mp e;dsimp only at e3;split at e3
 ·rename_i hl
  cases e3;have eacc:Str.empty++z=z:=by
   show Str.mk (#[]++z.cps)=z;rw[Array.empty_append]
  refine wpAny_JoinedStr (h Str.empty pins s σ H (fun out H'=>out=z/\∃v,v=V.str z/\Q v H') _ F A Γ Γ' z I k e2 (by have:Str.empty.length=0:=rfl;rw[this];have:=ml hl;omega) (fun H' pp=>⟨eacc,_,rfl,w _ _ (by
   obtain⟨F1,A1,x1,k1,hh⟩:=pp;exact⟨F1,A1,x1,⟨k1.le,.frz (.flat rfl .nil) k1.os,k1.nd,k1.fr⟩,True.intro⟩)⟩) ?_)
  rintro out s' H' h1 I' ⟨h2,v,hv,hQ⟩;subst hv;subst h2;exact⟨h1,.str out,H',I'.tok _,⟨_,rfl⟩,hQ⟩
 ·cases e3
end
section
variable {X:Cx} {pins:List (Addr×Obj)} {σ:List (Option V)} {H:Hp} {s:Shared} {h':Heap}
theorem Inv.turnLay{T:Addr}{o:HO}(I:Inv X pins σ H s)(k:∀b ob,b∉L->s.heap.get? b=some ob->h'.get? b=some ob)(hL:∀b∈L,FpOk X pins H b)(hT:s.heap.objs.size<=T)
  (new:ObjOk X.prog X.w (upd H T o) h' T o):Inv X pins σ (upd H T o) { s with heap:=h',toks:=t'}:=by
 have hn:H T=none:=I.hok.fresh hT;have nL:∀b u,H b=some u->b∉L:=fun b u e z=>by rw[(hL b z).1] at e;cases e
 have nT:∀b u,H b=some u->b≠T:=fun b u e z=>by rw[z,hn] at e;cases e
 refine I.step (g':=s.gens) (d':=s.drawn) (ch:=L) (fun b hb=>?_) (fun b ob _ _ hc e _=>k b ob hc e) (fun b ob _ _ hc e _=>⟨ob.slots,k b ob hc e⟩) (fun b ob _ e n=>?_)
  (fun b ob hc e=>⟨ob,k b ob hc e⟩) (fun b xs e=>?_) (fun b ob u e=>?_) (fun b ps e=>⟨#[],?_⟩) (fun m hm=>?_) (fun b u e=>?_) I.bare
 ·obtain⟨f0,f1,f2,f3,f4,f5⟩:=hL b hb;exact⟨f3,f1,f4,f5⟩
 ·rw[a0v (fun z=>by subst z;exact absurd (Nat.lt_of_lt_of_le (Heap.lt_size e) hT) (Nat.lt_irrefl _))];exact n
 ·rw[a0v (nT b _ e)];exact e
 ·rw[a0v (nT b _ e)];exact e
 ·rw[a0v (nT b _ e),e];simp
 ·obtain⟨ob,es,ep,ho,r⟩:=hm;exact⟨ob,es,ep,k _ ob (fun z=>(hL _ z).2.1 rfl) ho,r⟩
 ·by_cases hb:b=T
  ·subst hb;rw[a2d] at e;cases e;exact new
  ·rw[a0v hb] at e;refine(I.hok b u e).stay (fun c v hc q=>k c v ?_ q) (fun c q=>by rw[a0v (nT c _ q)];exact q) fun c xs q=>by rw[a0v (nT c _ q)];exact q
   rcases hc with z|z
   ·rw[z];exact nL b u e
   ·exact nL c _ z
theorem Inv.turnL(I:Inv X pins σ H s)(k:∀b ob,b∉L->s.heap.get? b=some ob->h'.get? b=some ob)(hL:∀b∈L,FpOk X pins H b):Inv X pins σ H { s with heap:=h',toks:=t'}:=by
 have nL:∀b u,H b=some u->b∉L:=fun b u e z=>by rw[(hL b z).1] at e;cases e
 refine I.step (g':=s.gens) (d':=s.drawn) (ch:=L) (fun b hb=>?_) (fun b ob _ _ hc e _=>k b ob hc e) (fun b ob _ _ hc e _=>⟨ob.slots,k b ob hc e⟩) (fun b ob _ e n=>n)
  (fun b ob hc e=>⟨ob,k b ob hc e⟩) (fun b xs e=>e) (fun b ob u e=>e) (fun b ps e=>⟨#[],by rw[e];simp⟩) (fun m hm=>?_) (fun b u e=>?_) I.bare
 ·obtain⟨f0,f1,f2,f3,f4,f5⟩:=hL b hb;exact⟨f3,f1,f4,f5⟩
 ·obtain⟨ob,es,ep,ho,r⟩:=hm;exact⟨ob,es,ep,k _ ob (fun z=>(hL _ z).2.1 rfl) ho,r⟩
 ·refine(I.hok b u e).stay (fun c v hc q=>k c v ?_ q) (fun c q=>q) fun c xs q=>q
  rcases hc with z|z
  ·rw[z];exact nL b u e
  ·exact nL c _ z
end
def ItP(Src:Hp->Prop)(n:Nat)(val:Nat->List V->Prop):It:=
 ⟨fun i H=>i < n/\Src H,fun i H x H'=>∃p ws,x=.ref p/\H p=none/\val i ws/\H'=upd H p (.tup ws),fun i H=>n<=i/\Src H⟩
theorem c2g{FP wr:List Addr}{val:Nat->List V->Prop}{tn:Nat->Heap->Prop}(mem:it∈FP)(sub:∀b∈wr,b∈FP)
  (obj:∀i h,tn i h->∀b∈FP,∃o,h.get? b=some o/\∀v,o.data≠.cell v) (keep:∀i h h',tn i h->(∀b∈FP,∀o,h.get? b=some o->h'.get? b=some o)->tn i h')
  (hW:∀(X:Cx),X.prog=P->X.w=w->X.K=K->X.calm=true->∀(pins:List (Addr×Obj)) (s:Shared) (σ:St) (H:Hp),Inv X pins σ H s->Src H->∃(fpW:List Addr) (Pt:Nat->Array Value->Prop) (St:Nat->Heap->Prop) (Mid:Nat->Addr->Heap->Prop),
   WalksT P w X.A it fpW wr n Pt St Mid/\(∀i,tn i s.heap->St i s.heap)/\(∀i h,St i h->tn i h)/\∀i vals,Pt i vals->∃ws,val i ws/\Vals ws vals.toList/\ws.length<=10)
  (self:∀(A:Around) (i:Nat) (s:Shared) (Q:Value->Shared->Prop) (E:Value->Shared->Prop),tn i s.heap->Q (.ref it) s->wpAny (model P w) A (pyIter (.ref it)) Q E s) :
  Turn P w K (.Tuple elts x1 pos) (ItP Src n val) FP it (fun i h=>i<=n/\tn i h) where
 mem:=mem
 obj:=fun i h st=>obj i h st.2
 keep:=fun i h h' st k=>⟨st.1,keep i h h' st.2 k⟩
 item:=by
  intro X hP hw hK hc i pins s σ H E I hf st hg;obtain⟨fpW,Pt,St,Mid,W,toSt,ofSt,pv⟩:=hW X hP hw hK hc pins s σ H I hg.2;subst hP hw hK;refine W.item i s _ E hg.1 (toSt i st.2) fun T vals h1 tk hPt hsz hTup hMid hk1=>?_
  refine⟨.ref T,rfl,W.go elts x1 pos i T _ _ E hMid fun h2 hSt hk2=>?_⟩
  obtain⟨ws,hv,rv,hwl⟩:=pv i vals hPt;have hT2:IsTup h2 T vals:=by
   obtain⟨o,e,c⟩:=hTup;exact⟨o,hk2 T o (W.apart i T h1 hMid) e,c⟩
  have hn:H T=none:=I.hok.fresh hsz;have I2:Inv X pins σ (upd H T (.tup ws)) { s with heap:=h2,toks:=tk}:=I.turnLay (L:=wr) (fun b ob hb e=>hk2 b ob hb (hk1 b ob hb e)) (fun b hb=>hf b (sub b hb)) hsz ⟨by rw[sizeLine_eq];omega,vals.toList,rv,by simpa using hT2⟩
  refine⟨.ref T,_,I2,rfl,⟨T,ws,rfl,hn,hv,rfl⟩,⟨by have:=hg.1;omega,ofSt _ _ hSt⟩,fun b hb=>?_⟩
  have hb0:=(hf b hb).1;rw[a0v]
  ·exact hb0
  ·intro z;subst z;obtain⟨o,e,_⟩:=obj i s.heap st.2 b hb;exact absurd (Nat.lt_of_lt_of_le (Heap.lt_size e) hsz) (Nat.lt_irrefl _)
 done:=by
  intro X hP hw hK hc i pins s σ H E I hf st hg;obtain⟨fpW,Pt,St,Mid,W,toSt,ofSt,pv⟩:=hW X hP hw hK hc pins s σ H I hg.2;subst hP hw hK;have ei:i=n:=by have:=hg.1;have:=st.1;omega
  subst ei;exact W.done s _ E (toSt i st.2) fun h2 tk hk=>⟨rfl,I.turnL (L:=wr) (fun b ob hb e=>hk b ob hb e) fun b hb=>hf b (sub b hb)⟩
 self:=fun A i s Q E st h=>self A i s Q E st.2 h
theorem d6e{val:Nat->List V->Prop}{g:TG}{tb:TS}{D:Ends}(Pv:Nat->St->Hp->Prop)(h0:Pv 0 σ H)(hl:∀i σ H,i<=n->Pv i σ H->Src H)
  (hs:∀i p ws σ H,i < n->H p=none->val i ws->Pv i σ H->g (.ref p) σ (upd H p (.tup ws)) fun σ2 H2=>tb { D with nx:=Pv (i+1),ct:=Pv (i+1),bk:=D.nx} σ2 H2) (hd:∀σ H,Pv n σ H->D.nx σ H) :
  ∃W:Nat->Nat->St->Hp->Prop,(∃m,W 0 m σ H)/\∀i m σ H,W i m σ H->
   ((ItP Src n val).stop i H/\D.nx σ H)\/((ItP Src n val).go i H/\∃N:St->Hp->Prop,(∀σ' H',N σ' H'->∃m',m' < m/\W (i+1) m' σ' H')/\∀x H',(ItP Src n val).yld i H x H'->g x σ H' fun σ2 H2=>tb { D with nx:=N,ct:=N,bk:=D.nx} σ2 H2):=by
 refine⟨fun i m σ H=>m=n - i/\i<=n/\Pv i σ H,⟨n,by simp,Nat.zero_le _,h0⟩,?_⟩
 rintro i m σ H ⟨rfl,hi,p⟩;have q:=hl i σ H hi p;by_cases hlt:i < n
 ·refine .inr ⟨⟨hlt,q⟩,Pv (i+1),fun σ' H' p'=>⟨n - (i+1),by omega,rfl,hlt,p'⟩,fun x H' y=>?_⟩
  obtain⟨pp,ws,rfl,hn,hv,rfl⟩:=y;exact hs i pp ws σ H hlt hn hv p
 ·have e:i=n:=by omega
  subst e;exact .inl ⟨⟨Nat.le_refl _,q⟩,hd σ H p⟩
theorem d6f{a:Addr}{i:Nat}(p:h.IsListIter a l i):∃o,h.get? a=some o/\∀v,o.data≠.cell v:=by
 obtain⟨o,e,_,d⟩:=p;exact⟨o,e,fun v z=>by rw[d] at z;cases z⟩
def valE(xs:List V)(i:Nat)(ws:List V):Prop:=∃x,xs[i]?=some x/\ws=[.int i,x]
theorem d1k(n1:e≠it)(n2:l≠e)(n3:l≠it)(xs:List V):
  Turn P w K (.Tuple elts x1 pos) (ItP (fun H=>SqL K H l xs) xs.length (valE xs)) [e,it] e (fun i h=>i<=xs.length/\((∃old,IsEnum h e it (i:Int) old)/\h.IsListIter it l i)):=by
 refine c2g (FP:=[e,it]) (wr:=[e,it]) (by simp) (fun b hb=>hb) (fun i h st b hb=>?_) (fun i h h' st k=>?_) (fun X hP hw hK hc pins s σ H I hS=>?_) (fun A i s Q E st h=>?_)
 ·obtain⟨⟨old,s1⟩,s2⟩:=st;simp only[List.mem_cons,List.not_mem_nil,or_false] at hb;rcases hb with rfl|rfl
  ·exact⟨_,s1,fun v z=>by cases z⟩
  ·exact d6f s2
 ·obtain⟨⟨old,s1⟩,s2⟩:=st;exact⟨⟨old,k e (by simp) _ s1⟩,s2.at fun o q=>k it (by simp) o q⟩
 ·subst hP hw hK;obtain⟨its1,rv1,p1,_⟩:=I.list hS;have e1:=rv1.length;have W:=WalksT.enumerate (prog:=X.prog) (w:=X.w) (A:=X.A) (I.ok.hd hc) e it l n1 n2 n3 its1.toArray;rw[show its1.toArray.size=xs.length by rw[List.size_toArray,<-e1]] at W
  refine⟨_,_,_,_,W,fun i st=>?_,fun i h st=>?_,fun i vals hp=>?_⟩
  ·exact⟨st.1,st.2,p1.isList⟩
  ·exact⟨st.1,st.2.1⟩
  ·obtain⟨t,u,hu,rfl⟩:=hp;have hu:its1[i]?=some u:=by simpa using hu
   have hi1:i < xs.length:=by have:=(List.getElem?_eq_some_iff.mp hu).1;omega
   obtain⟨u',hu',ru⟩:=rv1.get (List.getElem?_eq_getElem hi1);rw[hu] at hu';cases hu';exact⟨[.int i,xs[i]],⟨_,List.getElem?_eq_getElem hi1,rfl⟩,.cons ⟨t,rfl⟩ (.cons ru .nil),by show 2<=10;decide⟩
 ·obtain⟨old,s1⟩:=st.1;exact wpAny_pyIter_enum s1 h
def iEnum(K:L2.FG)(ta:TA):TI:=fun σ H R=>ta σ H fun vs H1=>∃a xs,vs=[.ref a]/\SqL K H1 a xs/\R (ItP (fun H=>SqL K H a xs) xs.length (valE xs)) H1
theorem e0z{tpos:Pos}{a:Expr}{ta:TA}{p:Pos}(hg:Gl X "enumerate")(hm:X.mg "enumerate"=none)(ha:PA X [a] ta)(hs:starEach [a] X.env=[(false,eval a X.env)]:=by rfl):
  PI X (.Tuple elts x1 tpos) (.Call (.Name "enumerate" p) [a] [] pos) (iEnum X.K ta):=by
 intro pins s σ H R I h;refine Call_ (b7o I hg hm PyProof.Rows.Boot.enumerate (PyProof.Rows.callWith_type1 (thn (ha pos pins s σ H _ I h) fun us s1 hh=>?_) hs rfl))
 obtain⟨vs,H1,I1,r1,q1⟩:=hh;obtain⟨l1,xs,e,hq1,q⟩:=q1;subst e;cases r1 with
 |cons r rr=>
  cases rr;cases r;obtain⟨its1,rv1,p1,_⟩:=I1.list hq1;refine call_enumerate_list p1.isList fun h' z1 z2 z3 z4=>?_
  have L1:l1 < s1.heap.objs.size:=by obtain⟨o,n,e,_⟩:=p1;exact Heap.lt_size e
  refine wpAny_pyIter_enum z1 ?_;refine⟨s1.heap.objs.size+1,[s1.heap.objs.size+1,s1.heap.objs.size],_,_,H1,rfl,I1.kept (t':=s1.toks) z4,d1k (e:=s1.heap.objs.size+1) (it:=s1.heap.objs.size) (l:=l1) (Nat.ne_of_gt (by omega)) (Nat.ne_of_lt (Nat.lt_of_lt_of_le L1 (Nat.le_add_right _ _))) (Nat.ne_of_lt L1) xs,⟨Nat.zero_le _,⟨_,z1⟩,z2⟩,fun b hb=>?_,q⟩
  simp only[List.mem_cons,List.not_mem_nil,or_false] at hb;have hb':s1.heap.objs.size<=b:=by rcases hb with rfl|rfl <;> omega
  exact I1.fpOk hb' (I1.hok.fresh hb')
section
variable {X:Cx} {K:L2.FG} {fa fb:GE} {f:GS} {m:List Bool} {W:Option XW} {l l':Expr} {elts:List Expr} {x1:Nat} {tpos:Pos} {t:TG} {gg:GG} {body:List Stmt} {p0 p1 pos:Pos}
theorem e1a{Γ:Gm}{p:Addr}{ws:List V}(k:OK K F H σ Γ A)(hn:H p=none):OK K (upd F p (.tup ws)) (upd H p (.tup ws)) σ Γ A/\Ext F H A (upd F p (.tup ws)) (upd H p (.tup ws)) A:=by
 have hF:F p=none:=k.le.free hn;have np:∀a∈A,a≠p:=fun a m z=>k.os.there a m (by rw[z];exact hn)
 refine⟨⟨fun a o e=>?_,k.os.keep (a3b hF) fun a m o e=>by rw[a0v (np a m)];exact e,k.nd,fun a m=>by rw[a0v (np a m)];exact k.fr a m⟩,⟨a3b hF,fun a o e _=>a3b hn a o e,fun a h z=>h ((a3b hn).free z),fun a h=>?_,fun a m=>.inl m,.same (a3b hn)⟩⟩
 ·by_cases z:a=p
  ·subst z;rw[a2d] at e ⊢;exact e
  ·rw[a0v z] at e ⊢;exact k.le a o e
 ·by_cases z:a=p
  ·subst z;exact .inr (.inr hn)
  ·rw[a0v z] at h;exact .inl h
theorem LI.tup{m:List Bool}{W:Option XW}{gg:GG}{f:GS}{t:TG}{F1 H1:Hp}{σ:St}{ds es:List D}{i:Nat}{E:Ends}{fl:Fl}{Γ':Gm}{p:Addr}{us:List V}(q:LI K m W gg f E F1 fl Γ' ds i σ H1)(ht:TgOk K m t gg)(hn:H1 p=none)(hd:ds[i]?=some (.tup es))(r:RepL K F1 us es):
  t (.ref p) σ (upd H1 p (.tup us)) fun σ2 H2=>tS K m W f { E with nx:=LI K m W gg f E F1 fl Γ' ds (i+1),ct:=LI K m W gg f E F1 fl Γ' ds (i+1),bk:=E.nx} σ2 H2:=by
 obtain⟨F',A',Γc,k',e',w',s'⟩:=q;obtain⟨k2,x2⟩:=e1a (ws:=us) k' hn;have s2:Same F1 (upd F' p (.tup us)):=s'.trans x2.ff;obtain⟨hi,he⟩:=List.getElem?_eq_some_iff.mp hd;rw[List.drop_eq_getElem_cons hi,he] at e';exact c1r ht k2 (.tup (.inl (.inl a2d)) (r.mono s2) .nil) e' (w'.step x2 Kept.refl) fun F2 H2 σ2 Γ3 A2 x3 k3 e3 w3=>⟨F2,A2,Γ3,k3,e3,w3,s2.trans x3.ff⟩
def enumD(ds:List D):List D:=(List.range ds.length).zipWith (fun(i:Nat) d=>D.tup [.int i,d]) ds
def c5x(fa:GE)(gg:GG)(f:GS):GS:=fun Γ=>(gFrz fa Γ).bind fun p=>match p.1 with
 |.own (.frz (.lst ds))=>a2u gg f (enumD ds) p.2
 |_=>none
theorem d1l(fa:GE)(gg:GG)(f:GS)(Γ:Gm):c5x fa gg f Γ=(gFrz fa Γ).bind fun p=>match p.1 with
 |.own (.frz (.lst ds))=>a2u gg f (enumD ds) p.2
 |_=>none:=rfl
theorem e1b(hp:PassesOwn (model X.prog X.w) X.A X.env X.xe)(hm:X.mg "enumerate"=none)(hi:PE X l (tG K fa))(hg:PG X (.Tuple elts x1 tpos) t)(ht:TgOk K m t gg)(hb:PSs X body (tS K m W f))(hc:X.calm=true:=by rfl)(hgl:Gl X "enumerate":=by rfl)(hst:starEach [l] X.env=(false,eval l X.env)::starEach [] X.env:=by rfl)(hst2:starEach [l] X.env=[(false,eval l X.env)]:=by rfl)(hK:X.K=K:=by rfl)(hs:∀x,foldedSetIterable (.Call (.Name "enumerate" p0) [l] [] p1) X.env x=pure x:=by intro _;rfl):PS X (.For (.Tuple elts x1 tpos) (.Call (.Name "enumerate" p0) [l] [] p1) body [] pos) (tS K m W (c5x fa gg f)):=by
 subst hK;refine(c9b hp hc (e0z hgl hm (a0b (a2a hi) a0h hst) hst2) hg hb hs).mono fun De σ H tt=>?_
 obtain⟨F,A,Γ,fl,Γ',k,e,w⟩:=tt;unfold c5x at e;obtain⟨⟨r1,Γ1⟩,q1,e'⟩:=Option.bind_eq_some_iff.mp e;clear e;dsimp only at e';split at e'
 ·rename_i ds
  refine⟨F,A,Γ,[.own (.frz (.lst ds))],Γ1,k,by rw[a0f,q1];rfl,fun vs H1 pp=>?_⟩
  obtain⟨F1,A1,x,k1,hh⟩:=pp;have hlv:=hh.length;obtain⟨v1,rfl⟩:=e0a hlv;obtain⟨rp1,st⟩:=LI.start k1 x w e';obtain⟨a,ws1,rfl,sq1,ri1⟩:=d0d rp1;have hl1:=ri1.length;refine⟨a,ws1,rfl,.inl (k1.le.rd sq1),d6e (LI X.K m W gg f De F1 fl Γ' (enumD ds)) st (fun i σ' H' _ p=>.inl (p.same.rd sq1)) ?_ fun σ' H' p=>p.fin (by unfold enumD;rw[List.length_zipWith,List.length_range,hl1,Nat.min_self];exact Nat.le_refl _)⟩
  rintro i p ws σ' H' hlt hn ⟨u1,hu1,rfl⟩ q;have hi1:i < ds.length:=by omega
  obtain⟨y1,hy1,ry1⟩:=ri1.get (i:=i) (d:=ds[i]) (List.getElem?_eq_getElem hi1);rw[hu1] at hy1;cases hy1;exact q.tup ht hn (by unfold enumD;rw[List.getElem?_zipWith,List.getElem?_range hi1,List.getElem?_eq_getElem hi1]) (.flat rfl (.cons ry1 .nil))
 ·cases e'
end
section
variable {X:Cx} {K:L2.FG} {fa fo:GE} {fs:GA} {f:GS} {m:List Bool} {W:Option XW} {e o:Expr} {es:List Expr} {tg:Expr} {t:TG} {gg:GG} {pos apos cpos:Pos} {name:Str} {idn:String} {g:List O->Option O} {r:V->List V->Hp->VK->Prop}
def b6c:List D->Option (List Bool)
 |[]=>some []
 |.bl b::ds=>(b6c ds).map fun bs=>b::bs
 |_=>none
theorem b7z:∀bs:List Bool,b6c (bs.map .bl)=some bs
 |[]=>rfl
 |i::is=>by rw[List.map_cons];show(b6c (is.map .bl)).map _=_;rw[b7z is];rfl
theorem b8a:∀{ds:List D} {bs:List Bool},b6c ds=some bs->ds=bs.map .bl
 |[],bs,e=>by cases e;rfl
 |d::ds,bs,e=>by
  cases d with
  |bl i=>
   obtain⟨js,e1,e2⟩:=Option.map_eq_some_iff.mp (show(b6c ds).map _=some bs from e);rw[<-e2,b8a e1];rfl
  |_=>cases e
theorem b8b{F:Hp}:∀{ws:List V} {bs:List Bool},RepL K F ws (bs.map .bl)->ws=bs.map .bl
 |[],[],_=>rfl
 |[],_::_,h=>by have:=h.length;simp at this
 |_::_,[],h=>by have:=h.length;simp at this
 |w::ws,i::is,h=>by
  rw[List.map_cons] at h;have h1:=h.inv.1;have h2:=b8b h.inv.2;rw[h2,List.map_cons];cases h1 with
  |flat e _=>cases e;rfl
def b8c(q:List Bool->Bool):List O->Option O
 |[o]=>(listD o).bind fun ds=>(b6c ds).bind fun bs=>some (.frz (.bl (q bs)))
 |_=>none
theorem c5y(q:List Bool->Bool):OpOk K (fun xs H Q=>∃(a:Addr) (bs:List Bool),xs=[.ref a]/\SqL K H a (bs.map V.bl)/\Q (.bl (q bs)) H) (b8c q):=by
 intro F H vs os o Q le see e res;unfold b8c at e;split at e
 ·obtain⟨ds,e1,e2⟩:=Option.bind_eq_some_iff.mp e;obtain⟨bs,e3,e4⟩:=Option.bind_eq_some_iff.mp e2;cases e4;obtain⟨x,B,rfl,h1⟩:=see.one;obtain⟨a,ws,rfl,sq,ri⟩:=a8b le h1 e1;rw[b8a e3] at ri;have:=b8b ri;subst this;exact⟨a,bs,rfl,sq,res.flat rfl⟩
 ·cases e
theorem c2h(K:L2.FG)(hc:X.calm=true:=by rfl)(hK:X.K=K:=by rfl):CallR X (.builtin "all") (fun xs H Q=>∃(a:Addr) (bs:List Bool),xs=[.ref a]/\SqL K H a (bs.map V.bl)/\Q (.bl (bs.all id)) H):=hK ▸ c9v hc
theorem d1m(q:List Bool->Bool)(bs:List Bool):b8c q [.lst ((bs.map D.bl).map .frz)]=some (.frz (.bl (q bs))):=by
 show((listD (.lst ((bs.map D.bl).map .frz))).bind fun ds=>(b6c ds).bind fun bs=>some (O.frz (.bl (q bs))))=_
 rw[e3u,Option.bind_some,b7z,Option.bind_some]
def c5z(g:List O->Option O)(fo:GE)(fs:GA):GE:=fun Γ=>(fo Γ).bind fun p=>match p.1 with
 |.own (.frz (.lst ds))=>(fs p.2).bind fun q=>(seeL q.2 q.1).bind fun os=>(g (.frz (.lst ds)::os)).bind fun o=>some (.own o,q.2)
 |_=>none
theorem d6g(ok:OpOk K (rMeth r) g)(t:tG K (c5z g fo fs) σ H Q):tBM K "list" r (tG K fo) (tGA K fs) σ H Q:=by
 obtain⟨F,A,Γ,rr,Γ',k,e,w⟩:=t;unfold c5z at e;obtain⟨⟨r1,Γ1⟩,e1,e'⟩:=Option.bind_eq_some_iff.mp e;clear e;dsimp only at e';split at e'
 ·rename_i ds
  obtain⟨⟨rs,Γ2⟩,e2,e3⟩:=Option.bind_eq_some_iff.mp e';obtain⟨os,e4,e5⟩:=Option.bind_eq_some_iff.mp e3;obtain⟨ob,e6,e7⟩:=Option.bind_eq_some_iff.mp e5;cases e7;refine⟨F,A,Γ,_,Γ1,k,e1,fun v H1 pp=>?_⟩
  obtain⟨F1,A1,x1,k1,hh⟩:=pp;obtain⟨B,C,h1,h2,h3⟩:=OwnL.one (σ:=σ) (Γ:=Γ1) k1.os;have rp:=b4a h1;subst h3;obtain⟨k2,x2⟩:=k1.sub h2 (.of_sub (List.sublist_append_right _ _));have hty:tyV K "list" v H1:=by
   cases rp with
   |flat z _=>cases z
   |lst sq ri _=>exact .inl ⟨rfl,_,.inl (k1.le.rd sq)⟩
  refine⟨hty,F1,C,Γ1,rs,_,k2,e2,fun vs H2 p2=>?_⟩
  obtain⟨F2,A2,x3,k3,hh3⟩:=p2;have p3:Post K F1 H1 C σ Γ2 rs vs H2:=⟨F2,A2,x3,k3,hh3⟩;have hl:(vs.map some).length=(rs.map R.o).length:=by rw[List.length_map,List.length_map,hh3.length]
  obtain⟨B3,C3,o1,o2,o3⟩:=OwnL.split hl k3.os;have see:=b2f o2 o1 hh3 e4;have res:Res K F2 H2 ob Q:=fun v' H' Av s' w' nd fresh=>by
   obtain⟨B',kB,sub⟩:=k3.part hl;obtain⟨k4,x4⟩:=kB.push s' w' nd fresh;exact w v' H' ⟨F2,Av++B',(x1.trans x2).trans (x3.trans ((Ext.own' Ext.refl sub).trans x4)),k4,True.intro⟩
  obtain⟨y,ys,exs,rr'⟩:=ok F2 H2 (v::vs) (.frz (.lst ds)::os) ob Q k3.le (.cons ⟨[],.frz (rp.mono x3.ff) .nil⟩ see) e6 res;cases exs;exact rr'
 ·cases e'
theorem d6h(slot:Slot "list" name idn)(hty:typeOf (.builtin idn)=pure (.type "method_descriptor"))(hm:MtM X idn r)(ok:OpOk K (rMeth r) g)(ho:PE X o (tG K fo))(ha:PA X (e::es) (tGA K fs))
  (hbase:attributeBase o name X.env (eval o X.env)=eval o X.env:=by rfl)
  (hfew:((backTo cpos (starEach (e::es) X.env)).all (fun x => !x.1) && (backToKw cpos (keywordEach [] X.env)).all (fun x=>x.1.isSome)
   && decide ((e::es).length+([]:List Keyword).length+(if([]:List Keyword).isEmpty then 0 else 1) < 30))=true:=by rfl)
  (hline:(apos.endLine == cpos.line)=true:=by rfl) (hs:starEach (e::es) X.env=(false,eval e X.env)::starEach es X.env:=by rfl) (hplain:(backTo cpos (starEach es X.env)).any (·.1)=false:=by rfl) (hK:X.K=K:=by rfl) :
  PE X (.Call (.Attribute o name apos) (e::es) [] cpos) (tG K (c5z g fo fs)):=by
 subst hK;exact(d5i PySem.F.plainAttrs_list slot hty hm ho ha hbase hfew hline hs hplain).mono fun _ _ _ t=>d6g ok t
def b8d(z:Str):Value->Bool
 |.str y _=>y == z
 |_=>false
def d8h(K:L2.FG):V->List V->Hp->VK->Prop:=fun x xs H Q=>∃(a:Addr) (ys:List Str) (z:Str) (j:Nat),x=.ref a/\xs=[.str z]/\SqL K H a (ys.map V.str)/\ys[j]?=some z/\(∀i y,i < j->ys[i]?=some y->y≠z)/\Q (.int (j:Nat)) H
theorem d6i(K:L2.FG)(hK:X.K=K:=by rfl):MtM X "list.index" (d8h K):=by
 subst hK;intro pins s σ H x xs v us Q I rx rs h;obtain⟨a,ys,z,j,rfl,rfl,hq,hj,hne,q⟩:=h;cases rx;obtain⟨u,rfl,ru⟩:=vals1 rs;obtain⟨t,rfl⟩:=ru;obtain⟨its,rv,p,hz⟩:=I.list hq;obtain⟨ps,e1,e2⟩:=b2l rv;subst e1;obtain⟨ob,n,eo,hcl,hdi,hda⟩:=p;have hlen:ps.length=ys.length:=by rw[<-e2,List.length_map]
 have hjl:j < ys.length:=(List.getElem?_eq_some_iff.mp hj).1;have hit:∀i (hi:i < ps.length),(ps.map fun p=>Value.str p.1 p.2)[i]?=some (Value.str ps[i].1 ps[i].2):=fun i hi=>by simp[hi]
 have hys:∀i (hi:i < ps.length),ys[i]?=some ps[i].1:=fun i hi=>by rw[<-e2];simp[hi]
 have hsz:(ps.map fun p=>Value.str p.1 p.2).toArray.size=ps.length:=by simp
 have hjz:ps[j].1=z:=by
  have:=hys j (by omega)
  rw[hj] at this;exact(Option.some.inj this).symm
 obtain⟨cl,di,da,sl⟩:=ob;cases hcl;cases hda;have hz':ys.length<=16777216:=by rw[List.length_map,sizeLine_eq] at hz;exact hz
 refine call_meets F.slot_list_index ⟨_,eo,rfl⟩ F.entry_list_index (F.args_list_index_2 _ _) (SeqAt.list_indexAt a _ n di sl (.str z t) (b8d z) j (by rw[hsz];omega) (by omega) ?_ ?_) ⟨eo,?_,?_⟩
 ·simp[b8d,hjz]
 ·intro i hi hij;rw[hsz] at hi;have:=hne i _ hij (hys i hi);simp[b8d];exact this
 ·intro y hy;simp at hy;obtain⟨b,t',_,rfl⟩:=hy;exact SeqAt.EqAt.str_str b t' z t
 ·exact⟨.int (j:Nat),H,I.tok _,⟨_,rfl⟩,q⟩
def findS(ys:List Str)(z:Str):Option Nat:=ys.findIdx? (· == z)
def d1n:List O->Option O
 |[.frz (.lst ds),.frz (.str z)]=>(strsD ds).bind fun ys=>(findS ys z).map fun j=>.frz (.int (j:Nat))
 |_=>none
theorem b2m{ys:List Str}{z:Str}{j:Nat}(e:findS ys z=some j):ys[j]?=some z/\∀i y,i < j->ys[i]?=some y->y≠z:=by
 unfold findS at e;rw[List.findIdx?_eq_some_iff_getElem] at e;obtain⟨h,h1,h2⟩:=e;refine⟨by rw[List.getElem?_eq_getElem h];congr 1;exact eq_of_beq h1,fun i y hi ey=>?_⟩
 have:=h2 i hi;obtain⟨hl,e3⟩:=List.getElem?_eq_some_iff.mp ey;rw[e3] at this;intro z';subst z';simp at this
theorem d6j:OpOk K (rMeth (d8h K)) d1n:=by
 intro F H vs os o Q le see e res;unfold d1n at e;split at e
 ·rename_i ds z
  obtain⟨ys,e1,e2⟩:=Option.bind_eq_some_iff.mp e;obtain⟨j,e3,e4⟩:=Option.map_eq_some_iff.mp e2;cases e4;obtain⟨x,y,B,C,rfl,h1,h2⟩:=see.two;obtain⟨a,ws,rfl,sq,ri⟩:=a8b le h1 (e3t _);rw[c2e e1] at ri;have:=b5z ri;subst this;cases a1c h2 rfl;obtain⟨s1,s2⟩:=b2m e3;exact⟨_,_,rfl,a,ys,z,j,rfl,rfl,sq,s1,s2,res.flat rfl⟩
 ·cases e
end
structure CXr (P:Program) (w:World) (outer:List Env) (H:Hp) (s:Shared) (H':Hp) (s':Shared) (e C:Addr) (dx:Option Addr):Prop where
 os:s'.os=s.os
 bare:AllBare s'.gens
 un:Un (frs outer) [] H H' s.heap s'.heap
 hok:HOk P w H' s'.heap
 fly:FlyX s.heap.objs.size s'.heap H' e C dx
def CX1(P:Program)(w:World):CXT:=fun outer H s E e s'=>∃a C dx H',e=.ref a/\CXr P w outer H s H' s' a C dx/\E (.ref C) dx H'
def XPass(X:Cx)(W:XW):Prop:=∀(pins:List (Addr×Obj)) (σ:St) (H:Hp) (s:Shared) (H':Hp) (s':Shared) (e C:Addr) (dx:Option Addr),Inv X pins σ H s->CXr X.prog X.w X.stack H s H' s' e C dx->W C dx σ H'->X.xe (.ref e) s'
theorem FlyX.mono{n':Nat}(f:FlyX n h H e C dx)(l:n'<=n):FlyX n' h H e C dx:=by
 obtain⟨a,b,oe,vs,c1,c2,c3,c4,c5,c6⟩:=f;refine⟨Nat.le_trans l a,b,oe,vs,c1,c2,c3,c4,c5,?_⟩;rcases c6 with c6|⟨T,oT,ts,d1,d2,d3⟩
 ·exact .inl c6
 ·exact .inr ⟨T,oT,ts,d1,Nat.le_trans l d2,d3⟩
theorem FlyX.lt(f:FlyX n h H e C dx):n<=h.objs.size:=by
 obtain⟨a,b,oe,vs,c1,_⟩:=f;exact Nat.le_of_lt (Nat.lt_of_le_of_lt a (Heap.lt_size c1))
theorem CXr.inv{pins:List (Addr×Obj)}{H':Hp}{s s':Shared}(c:CXr X.prog X.w X.stack H s H' s' e C dx)(I:Inv X pins σ H s):Inv X pins σ H' s':=
 I.call' (ch:=[]) c.os c.un c.hok c.bare fun _ z=>nomatch z
theorem LeftX.hok{fs:List Addr}(l:LeftX fs ch h h')(k:HOk P w H h)(hf:∀b∈fs,H b=none)(hc:∀b∈ch,H b=none):HOk P w H h':=fun b o q=>
 (k b o q).stay (fun c u z g=>l.keep c u (fun m=>by
  have:=hf c m;rcases z with z|z
  ·rw[z,q] at this;cases this
  ·rw[z] at this;cases this) (fun m=>by
  have:=hc c m;rcases z with z|z
  ·rw[z,q] at this;cases this
  ·rw[z] at this;cases this) g) (fun _ z=>z) fun _ _ z=>z
theorem LeftX.any{fs:List Addr}(l:LeftX fs ch h h'){b:Addr}{o:Obj}(g:h.get? b=some o)(hc:b∉ch):∃sl,h'.get? b=some { o with slots:=sl}:=by
 by_cases m:b∈fs
 ·exact l.slot b o m hc g
 ·exact⟨o.slots,l.keep b o m hc g⟩
def WF(E:XK):XW:=fun C dx _ H'=>E (.ref C) dx H'
section
variable {P:Program} {w:World} {K:L2.FG} {mg:Str->Option Value} {base:Heap} {N:List Str} {qual:Str} {scope:Scope} {f:Addr} {cd:Value} {A:Around} {outer:List Env} {s₀:Shared} {H₀:Hp} {E:XK}
theorem a3e:XPass (cxOf (CX1 P w) P w K mg base N qual scope f cd A outer s₀ H₀ E) (WF E):=by
 intro pins σ H s H' s' e C dx I c q;have I':=c.inv I;have hfr:(A.deeper (envOfC qual scope s₀.heap.objs.size f cd)).frames=some (envOfC qual scope s₀.heap.objs.size f cd::outer):=I.ok.frames;have sz:s₀.heap.objs.size<=s.heap.objs.size:=I.sz;refine d9u (base:=base) (L:=s₀.heap.objs.size) hfr I'.stack rfl c.fly.lt (fun a z=>I'.hok.fresh z) c.fly fun h' ch hch lx fl=>⟨e,C,dx,H',rfl,⟨I'.os,I'.bare,?_,lx.hok I'.hok I'.stkFree fun b m=>(hch b m).2,fl.mono sz⟩,q⟩
 have nch:∀b o,s₀.heap.get? b=some o->b∉ch:=fun b o g m=>absurd (Nat.lt_of_lt_of_le (Heap.lt_size g) (Nat.le_trans sz (hch b m).1)) (Nat.lt_irrefl _)
 have nL:∀b o,s₀.heap.get? b=some o->b∉frs outer->b∉frs (envOfC qual scope s₀.heap.objs.size f cd::outer):=fun b o g z m=>by
  rcases List.mem_cons.mp (show b∈s₀.heap.objs.size::frs outer from m) with m|m
  ·exact absurd (m ▸ Heap.lt_size g) (Nat.lt_irrefl _)
  ·exact z m
 have B:Un (frs outer) [] H₀ H' s₀.heap s'.heap:=I'.base;refine⟨fun b o g n hb hx=>lx.keep b o (nL b o g hb) (nch b o g) (B.keep b o g n hb hx),fun b o g n hb hx=>?_,B.free,fun b o g hx=>?_,B.tups,B.frzs,B.tbls⟩
 ·obtain⟨sl,g1⟩:=B.slot b o g n hb hx;obtain⟨sl',g2⟩:=lx.any g1 (nch b o g);exact⟨sl',g2⟩
 ·obtain⟨o',g1⟩:=B.there b o g hx;obtain⟨sl,g2⟩:=lx.any g1 (nch b o g);exact⟨_,g2⟩
theorem e1c:PassesOwn (model P w) (A.deeper (envOfC qual scope s₀.heap.objs.size f cd)) (envOfC qual scope s₀.heap.objs.size f cd) (cxOf (CX1 P w) P w K mg base N qual scope f cd A outer s₀ H₀ E).xe:=PassesOwn.leaving
end
def PostD(K:L2.FG)(F H:Hp)(A:List Addr)(vs:List V)(fin:Gm)(l:Option Int)(dx:Option Addr)(H':Hp):Prop:=∃F' A',Ext F H A F' H' A'/\OK K F' H' (vs.map some) fin A'/\ExcL F' dx l
def SpX(K:L2.FG)(n:Nat)(M:GM):Sp:=fun vs H Q E=>vs.length=n/\∃F A os o fin,OK K F H (vs.map some) (os.map some) A/\M os=some (o,fin)/\match isX o with
 |none=>∀v H',PostC K F H A vs fin o v H'->Q v H'
 |some p=>∀dx H',PostD K F H A vs fin p.2 dx H'->E (.ref p.1) dx H'
section
variable {P:Program} {w:World} {K:L2.FG} {mg:Str->Option Value} {base:Heap}
theorem OK.params0{m:List Bool}{σ':St}{Γ':Gm}{rest:St}(k:OK K F H σ' Γ' A)(hl:vs.length<=σ'.length)(kp:Kept m (vs.map some++rest) σ')(hm:m.length<=vs.length):
  ∃B,OK K F H (vs.map some) (keepM m (Γ'.take vs.length)) B/\Ext F H A F H B:=by
 obtain⟨k2,x2⟩:=k.push (v:=.non) (o:=.frz .non) (Av:=[]) (Same.refl _) (.frz (.flat rfl .nil) .nil) .nil (fun _ m=>by cases m)
 obtain⟨B,k3,x3⟩:=OK.params k2 hl kp hm;obtain⟨C,k4,sub⟩:=OK.part (τ:=[some V.non]) (Θ:=[some (O.frz .non)]) k3 rfl;exact⟨C,k4,(x2.trans x3).own' sub⟩
theorem c7w(m:List Bool)(f:GS)(Fn:Fun K x qual st fa fd)(S:FnScope N ps (a0k st))(hm:m.length<=ps.length)
  (hbody:∀(cdv:Value) (A:Around) (outer:List Env) (s:Shared) (H:Hp) (E:XK),Room k (A.deeper (envOfC qual (a0k st) s.heap.objs.size fa cdv))->
   PSs (cxOf (CX1 P w) P w K mg base N qual (a0k st) fa cdv A outer s H E) (a7y st) (tS K m (some (WF E)) f)):FnOk P w K mg base (CX1 P w) (k+1) fa fd ps (SpX K ps.length (runM N.length m f)):=by
 obtain⟨oc,od,kV,doc,pm,an,cdv,ct,osl,rfl,lk,hcd⟩:=Fn.ex;refine e2z lk hcd S (fun vs H Q E h=>h.1) fun A outer s H vs Q E hr h=>⟨_,hbody cdv A outer s H E hr,?_⟩
 obtain⟨hl,F,A0,os,o,fin,k0,e,q⟩:=h;have hlo:vs.length=os.length:=by have:=k0.os.length;simpa using this
 have hN:ps.length<=N.length:=by have:=congrArg List.length S.pre;rw[List.length_take] at this;omega
 obtain⟨⟨fl,Γ'⟩,q1,e⟩:=Option.bind_eq_some_iff.mp e;obtain⟨o',q2,e⟩:=Option.bind_eq_some_iff.mp e;dsimp only at e q2;split at e
 ·rename_i hlen
  cases e;have k1:OK K F H (start N vs) (os.map some++List.replicate (N.length - os.length) none) A0:=by
   unfold start;rw[hlo];have z:=k0.os.app (b0z (K:=K) (F:=F) (H:=H) (N.length - os.length));rw[List.append_nil] at z;exact⟨k0.le,z,k0.nd,k0.fr⟩
  refine⟨F,A0,_,fl,Γ',k1,q1,?_⟩;have fin':isX o=none->∀{F' H':Hp} {A':List Addr} {v:V} {σ':St},Ext F H A0 F' H' A'->OK K F' H' (some v::σ') (some o::Γ') A'->Kept m (start N vs) σ'->Q v H':=by
   intro hx F' H' A' v σ' x k' kp;rw[hx] at q;unfold start at kp;have hs:σ'.length=Γ'.length:=by have:=k'.os.length;simpa using this
   obtain⟨B,k2,x2⟩:=OK.params (m:=m) (vs:=vs) k' (by omega) kp (by omega)
   rw[hlo] at k2;exact q v H' ⟨F',B,x.trans x2,k2⟩
  cases fl with
  |nx=>
   cases q2;intro σ' H' ⟨F',A',x,k',kp⟩;obtain⟨k2,x2⟩:=k'.push (v:=.non) (o:=.frz .non) (Av:=[]) (Same.refl _) (.frz (.flat rfl .nil) .nil) .nil (fun _ m=>by cases m)
   exact fin' rfl (x.trans x2) k2 kp
  |rt o1=>
   cases q2;show DoneR K m _ F H A0 _ o Γ' (some (WF E));unfold DoneR;cases hx:isX o with
   |none=>
    intro v σ' H' ⟨F',A',x,k',kp⟩;exact fin' hx x k' kp
   |some p=>
    rw[hx] at q;intro dx σ' H' ⟨F',A',x,k',kp,el⟩;unfold start at kp;have hs:σ'.length=Γ'.length:=k'.os.length;obtain⟨B,k2,x2⟩:=OK.params0 (m:=m) (vs:=vs) k' (by omega) kp (by omega)
    rw[hlo] at k2;exact q dx H' ⟨F',B,x.trans x2,k2,el⟩
  |bk=>cases q2
  |ct=>cases q2
 ·cases e
theorem a5n(m:List Bool)(f:GS)(Fn:Fun K x qual st fa fd)(S:FnScope N ps (a0k st)){pn:Nat}(hn:N.length=n)(hp:ps.length=pn)(hm:m.length<=ps.length)
  (hbody:∀(cdv:Value) (A:Around) (outer:List Env) (s:Shared) (H:Hp) (E:XK),Room k (A.deeper (envOfC qual (a0k st) s.heap.objs.size fa cdv))->
   ∃f',PSs (cxOf (CX1 P w) P w K mg base N qual (a0k st) fa cdv A outer s H E) (a7y st) (tS K m (some (WF E)) f')/\f'=f):FnOk P w K mg base (CX1 P w) (k+1) fa fd ps (SpX K pn (runM n m f)):=by
 subst hn hp;exact c7w m f Fn S hm fun cdv A outer s H E hr=>by
  obtain⟨f',h,e⟩:=hbody cdv A outer s H E hr;rw[<-e];exact h
end
def EW(W:XW):St->XK:=fun σ c dx H'=>∃C,c=.ref C/\W C dx σ H'
theorem passW(h:XPass X W):b3c (CX1 X.prog X.w) X (EW W):=fun pins σ H s e s' I ⟨a,C,dx,H',he,c,C',hc,q⟩=>by
 cases hc;subst he;exact h pins σ H s H' s' a C dx I c q
section
variable {K:L2.FG} {F H:Hp} {σ:St}
theorem b6d{F1 H1:Hp}{rs:List R}{os:List O}{Γ1 Γ2:Gm}{A1:List Addr}(k1:OK K F1 H1 (vs.map some++σ) (rs.map R.o++Γ1) A1)(hh:Held σ H1 rs vs)(q2:a3c rs Γ1=some (os,Γ2)):
  ∃A4,OK K F1 H1 (vs.map some) (os.map some) A4/\∀F5 H' A5 (τ:St) (Θ:Gm) fin,τ.length=Θ.length->Ext F1 H1 A4 F5 H' A5->OK K F5 H' (τ++vs.map some) (Θ++fin) A5->∃A7,Ext F1 H1 A1 F5 H' A7/\OK K F5 H' (τ++σ) (Θ++a5m rs fin Γ2) A7:=by
 have hl:(vs.map some).length=(rs.map R.o).length:=by rw[List.length_map,List.length_map,hh.length]
 obtain⟨B,C,h1,h2,h3⟩:=OwnL.split hl k1.os;subst h3;obtain⟨B',C',j1,j2,j3⟩:=b1a h1 h2 hh q2;have k2:OK K F1 H1 (vs.map some++σ) (os.map some++Γ2) (B'++C'):=.perm (j1.app j2) k1.le k1.nd k1.fr j3;obtain⟨A3,p3,k3⟩:=k2.swap j1.length;obtain⟨A4,k4,fr⟩:=k3.frame j2.length;refine⟨A4,k4,fun F5 H' A5 τ Θ fin hτ x5 k5=>?_⟩
 obtain⟨A6,x6,k6⟩:=fr _ _ _ _ _ x5 k5;obtain⟨D1,D2,g1,g2,g3⟩:=OwnL.split j2.length k6.os;subst g3;obtain⟨D3,D4,g4,g5,g6⟩:=OwnL.split hτ g2;subst g6;obtain⟨D5,g7,g8⟩:=b3z g5 g1 (hh.att x6.att);have s1:SubP (D3++D5) (D1++(D3++D4)):=by
  refine((SubP.refl D3).app g8).trans (.of_perm ?_);rw[<-List.append_assoc];exact List.perm_append_comm
 obtain⟨k7,x7⟩:=k6.sub (g4.app g7) s1;have x3:Ext F1 H1 (B++C) F1 H1 A3:=Ext.own' Ext.refl fun a m=>j3.mem_iff.mp (p3.mem_iff.mp m)
 exact⟨D3++D5,(x3.trans x6).trans x7,k7⟩
def a5f(f:GE):GS:=fun Γ=>(f Γ).bind fun p=>match p.1 with
 |.own o=>match isX o with
  |some _=>some (.rt o,p.2)
  |none=>some (.nx,p.2)
 |_=>none
def PostE(K:L2.FG)(F H:Hp)(A:List Addr)(σ:St)(Γ':Gm)(W:XW)(Q:VK)(o:O):Prop:=match isX o with
 |none=>∀v H',(∃F' A',Ext F H A F' H' A'/\OK K F' H' (some v::σ) (some o::Γ') A')->Q v H'
 |some p=>∀dx H',(∃F' A',Ext F H A F' H' A'/\OK K F' H' σ Γ' A'/\ExcL F' dx p.2)->W p.1 dx σ H'
def tGX(K:L2.FG)(W:XW)(f:GE):TE:=fun σ H Q=>∃F A Γ o Γ',OK K F H σ Γ A/\f Γ=some (.own o,Γ')/\PostE K F H A σ Γ' W Q o
theorem d6k{M:GM}{fs:GA}(t:tGX K W (gCall M fs) σ H Q)(hn:∀rs Γ Γ',fs Γ=some (rs,Γ')->rs.length=n):tCall (SpX K n M) [] (EW W) (tGA K fs) σ H Q:=by
 obtain⟨F,A,Γ,o,Γ',k,e,w⟩:=t;obtain⟨⟨rs,Γ1⟩,q,e⟩:=Option.bind_eq_some_iff.mp e;obtain⟨⟨os,Γ2⟩,q2,e⟩:=Option.bind_eq_some_iff.mp e;obtain⟨⟨o',fin⟩,q3,e⟩:=Option.bind_eq_some_iff.mp e;cases e;refine⟨F,A,Γ,rs,Γ1,k,q,fun vs H1 pp=>?_⟩
 show SpX K n M (vs++[]) H1 Q (EW W σ);rw[List.append_nil];obtain⟨F1,A1,x,k1,hh⟩:=pp;obtain⟨A4,k4,back⟩:=b6d k1 hh q2;refine⟨by rw[<-hh.length];exact hn rs Γ Γ1 q,F1,A4,os,o',fin,k4,q3,?_⟩
 unfold PostE at w;cases hx:isX o' with
 |none=>
  rw[hx] at w;intro v H' ⟨F5,A5,x5,k5⟩;obtain⟨A7,x7,k7⟩:=back F5 H' A5 [some v] [some o'] fin rfl x5 k5;exact w v H' ⟨F5,A7,x.trans x7,k7⟩
 |some p=>
  rw[hx] at w;intro dx H' ⟨F5,A5,x5,k5,el⟩;obtain⟨A7,x7,k7⟩:=back F5 H' A5 [] [] fin rfl x5 k5;exact⟨p.1,rfl,w dx H' ⟨F5,A7,x.trans x7,k7,el⟩⟩
variable {X:Cx} {m:List Bool} {W:XW} {e:Expr} {fa:GE} {pos:Pos}
theorem a4p(he:PE X e (tGX K W fa))(hs:swapsWith e none pos.line X.env=pure false:=by rfl):PS X (.Expr e pos) (tS K m (some W) (a5f fa)):=(c8x he hs).mono fun D σ H t=>by
 obtain⟨F,A,Γ,fl,Γ',k,e,w⟩:=t;obtain⟨⟨r,Γ1⟩,q,e⟩:=Option.bind_eq_some_iff.mp e;cases r with
 |var _=>cases e
 |fld _ _=>cases e
 |own o=>
  dsimp only at e;refine⟨F,A,Γ,o,Γ1,k,q,?_⟩;unfold PostE;cases hx:isX o with
  |some p=>
   rw[hx] at e;cases e;have w:DoneR K m D F H A σ o _ (some W):=w;unfold DoneR at w;rw[hx] at w;exact fun dx H' ⟨F',A',x,k',el⟩=>w dx σ H' ⟨F',A',x,k',Kept.refl,el⟩
  |none=>
   rw[hx] at e;cases e;intro v H' ⟨F',A',x,k'⟩;obtain⟨B,kB,sub⟩:=OK.part (τ:=[some v]) (Θ:=[some o]) k' rfl;exact w σ H' ⟨F',B,x.own' sub,kB,Kept.refl⟩
variable {k n:Nat} {f:Addr} {fd:FuncData} {ps:List Str} {x:Str} {p:Pos} {es:List Expr} {fs:GA} {st:Stmt} {M:GM}
theorem b4h(D:DefAt X.K X.mg x st f fd ps)(Fn:FnOk X.prog X.w X.K X.mg X.base (CX1 X.prog X.w) k f fd ps (SpX K n M))(hr:Room k X.A)(hp:XPass X W)(ha:PA X (e::es) (tGA K fs))(hn:∀rs Γ Γ',fs Γ=some (rs,Γ')->rs.length=n)(hg:Gl X x:=by rfl)(hdb:(x == ("__debug__":Str))=false:=by decide)
  (he:starEach (e::es) X.env=(false,eval e X.env)::starEach es X.env:=by rfl) (hpl:(backTo pos (starEach es X.env)).any (·.1)=false:=by rfl) :
  PE X (.Call (.Name x p) (e::es) [] pos) (tGX K W (gCall M fs)):=(c9j Fn hr hg D.mg D.fn.kp D.bd .nil (passW hp) ha hdb he hpl).mono fun _ _ _ t=>d6k t hn
end
section
variable {prog:Program} {w:World} {A:Around} {E:Value->Shared->Prop} {h:Heap} {g:Array GenState} {d:Drawn} {t:Nat} {os:OsState}
variable {nm q:Str} {C N:Addr} {bs bm bmB:List Value} {hdct:Bool} {sn:List Str} {sub:List Value} {ab:Bool} {col:Option Bool} {dd:Option Addr} {k0 k1 k2 k3 k5:Option Value} {B Bn newId nid initId inN:String} {bmN:List Value}
theorem tcall(Fn:ExcBaseFacts Bn newId inN bmN)(hBn:bmB.contains (.type Bn)=true)(F:ExcBaseFacts B nid initId bmB)(T:OwnTail h bmB bm){rest:List Value}{Q:Fin->Shared->Prop}
  (hC:h.get? C=some (excClassObj nm q C N bs bm hdct sn sub ab col dd k0 k1 k2 k3 k5 newId)) (hn:h.Ns N mN) (hrest:rest.length<=sizeLine)
  (hq:∀i,i=(mN "__init__").getD (.builtin initId)->wpAny (model prog w) A (bindSpecial i (.ref (h.objs.size+1))) (fun p s'=>wpAny (model prog w) A (call p.1 (p.2++rest)) (fun r s''=>r=.none/\Q (.done (.ret (.ref (h.objs.size+1)))) s'') E s') E ⟨((h.push { cls:=.type "tuple",data:=.seq rest.toArray}).push { cls:=.ref C,data:=.fields #[.ref h.objs.size,.none,.none,.none,.bool false,.none]}),g,d,t,os⟩) :
  wpAny (model prog w) A (Builtin.«type.__call__» ⟨.ref C::rest,[]⟩) Q E ⟨h,g,d,t,os⟩:=by
 repeat (first|with_reducible refine wpAny_loadPart_at hC ?_|with_reducible refine wpAny_madeBy_exc hC ?_|wp_step)
 refine codeAny_call_builtin_code (Code.quiet_builtin _ Fn.quiet) (wpAny_check_new_subU Fn hBn T hC (codeAny_exc_new_subU Fn hBn F T hC ?_ hrest));show wpAny _ _ _ _ _ _;have st:∀b o,h.get? b=some o->((h.push { cls:=.type "tuple",data:=.seq rest.toArray}).push { cls:=.ref C,data:=.fields #[.ref h.objs.size,.none,.none,.none,.bool false,.none]}).get? b=some o:=fun b o e=>Heap.get?_push_of_some _ (Heap.get?_push_of_some _ e)
 have hC₁:=st _ _ hC;have hget:((h.push { cls:=.type "tuple",data:=.seq rest.toArray}).push { cls:=.ref C,data:=.fields #[.ref h.objs.size,.none,.none,.none,.bool false,.none]}).get? (h.objs.size+1)=some { cls:=.ref C,data:=.fields #[.ref h.objs.size,.none,.none,.none,.bool false,.none]}:=by heap_get
 have hcC:(Value.ref C::bm).contains (.ref C)=true:=by simp
 unfold isInstance
 repeat (first|with_reducible refine wpAny_loadPart_at hget ?_|(with_reducible refine wpAny_isSubtype_exc hC₁ ?_;rw[hcC])|wp_step)
 show wpAny _ _ (typeLookup (.ref C) _) _ _ _;refine wpAny_typeLookup_tail hC₁ (hn.keeps st) (T.keeps st) F.mroIs F.init.lookup ?_;cases hv:mN "__init__" with
 |none=>
  refine wpAny_holding (wpAny_bind (wpAny_mono (hq _ (by rw[hv];rfl)) (fun p s' z=>wpAny_bind (wpAny_mono z (fun r s'' y=>?_) fun _ _ y=>y)) fun _ _ y=>y))
  obtain⟨rfl,y⟩:=y
  wp_walk
  exact y
 |some v=>
  refine wpAny_holding (wpAny_bind (wpAny_mono (hq _ (by rw[hv];rfl)) (fun p s' z=>wpAny_bind (wpAny_mono z (fun r s'' y=>?_) fun _ _ y=>y)) fun _ _ y=>y))
  obtain⟨rfl,y⟩:=y
  wp_walk
  exact y
theorem d6l(Fn:ExcBaseFacts Bn newId inN bmN)(hBn:bmB.contains (.type Bn)=true)(F:ExcBaseFacts B nid initId bmB)(T:OwnTail h bmB bm){rest:List Value}{Q:Value->Shared->Prop}
  (hC:h.get? C=some (excClassObj nm q C N bs bm hdct sn sub ab col dd k0 k1 k2 k3 k5 newId)) (hn:h.Ns N mN) (hrest:rest.length<=sizeLine)
  (hq:∀i,i=(mN "__init__").getD (.builtin initId)->wpAny (model prog w) (A.under (.builtin "type.__call__" ⟨.ref C::rest,[]⟩)) (bindSpecial i (.ref (h.objs.size+1))) (fun p s'=>wpAny (model prog w) (A.under (.builtin "type.__call__" ⟨.ref C::rest,[]⟩)) (call p.1 (p.2++rest)) (fun r s''=>r=.none/\Q (.ref (h.objs.size+1)) s'') E s') E ⟨((h.push { cls:=.type "tuple",data:=.seq rest.toArray}).push { cls:=.ref C,data:=.fields #[.ref h.objs.size,.none,.none,.none,.bool false,.none]}),g,d,t,os⟩) :
  wpAny (model prog w) A (call (.ref C) rest) Q E ⟨h,g,d,t,os⟩:=by
 have f1:=tc_lookup;have f2:=tc_bind (.ref C);have hT:(⟨h,g,d,t,os⟩:Shared).TypeIs (.ref C) "type":=⟨_,hC,rfl⟩;refine wpAny_call (codeAny_of_tree (show wpAny _ _ (callAny (.ref C) _) _ _ _ from ?_))
 repeat (any_goals (first|assumption|with_reducible refine wpAny_loadPart_at hC ?_|wp_step))
 exact⟨rfl,codeAny_call_builtin_at (Code.quiet_builtin _ (by decide +kernel)) entry_typeCall (wpAny_check_type_call_sub hC (tcall Fn hBn F T hC hn hrest fun i e=>hq i e))⟩
end
end L2
namespace L2
open PySem PySem.Spec PySem.W PySem.Calls PyProof.Rows
section
variable {prog:Program} {w:World} {A:Around} {E:Value->Shared->Prop} {s:Shared} {K:Frag} {x C:Addr} {ox:Obj} {od:Option Obj} {name:Str} {tk:Tok}
end
end L2
namespace L2
open PySem PySem.Spec PySem.W PySem.Calls PyProof.Rows Builtin Builtin.ObjectAttr
section
variable {prog:Program} {w:World} {A:Around} {E:Value->Shared->Prop} {s:Shared} {K:Frag} {x C B0 t:Addr} {name:Str} {tk:Tok} {v:Value} {cd:ClassData}
end
section
variable {prog:Program} {w:World} {A:Around} {E:Value->Shared->Prop} {h:Heap} {g:Array GenState} {d:Drawn} {tt:Nat} {os:OsState} {x t:Addr}
variable {nm q:Str} {C N:Addr} {bs bm bmB:List Value} {hdct:Bool} {sn:List Str} {sub:List Value} {ab:Bool} {col:Option Bool} {dd:Option Addr} {k0 k1 k2 k3 k5:Option Value} {newId:String}
theorem xinit{u:Value}{Q:Value->Shared->Prop}(T:OwnTail h [.type "ValueError",.type "Exception",.type "BaseException",.type "object"] bm)(hC:h.get? C=some (excClassObj nm q C N bs bm hdct sn sub ab col dd k0 k1 k2 k3 k5 newId))(hx:h.get? x=some (excO C t none))
  (hq:∀h',h'.get? x=some (excO C h.objs.size none)->(∀b o,b≠x->h.get? b=some o->h'.get? b=some o)->Q .none ⟨h',g,d,tt,os⟩) :
  wpAny (model prog w) A (call (.builtin "ValueError.__init__") [.ref x,u]) Q E ⟨h,g,d,tt,os⟩:=by
 have FB:=F.excBase_ValueError;have hx':h.get? x=some { cls:=.ref C,data:=.fields #[.ref t,.none,.none,.none,.bool false,.none]}:=hx;refine wpAny_call (codeAny_call_builtin FB.init.plain FB.initEntry (wpAny_check_init_subU FB T hC hx' rfl ?_))
 wp_walk
 refine hq _ ?_ fun b o n e=>?_
 ·rw[Heap.get?_update_self _ (Heap.get?_push_of_some _ hx') rfl];rfl
 ·rw[Heap.get?_update_other _ _ (Ne.symm n)];exact Heap.get?_push_of_some _ e
end
end L2
namespace L2
open PySem PySem.Spec PySem.W PySem.Calls PyProof.Rows
variable{K:Frag}{C:Addr}{hp:Pos}{g:GS}{hs:List ExceptHandler}
abbrev bmV:List Value:=[.type "ValueError",.type "Exception",.type "BaseException",.type "object"]
def ErrC(K:Frag)(C:Addr)(bm:List Value)(ini:Option Value):Prop:=∃nm q N bs sn sub ab col dd k0 k1 k2 k3 k5 on odn es ep sln,
 K.lookup C=some (excClassObj nm q C N bs bm true sn sub ab col dd k0 k1 k2 k3 k5 "ValueError.__new__")/\K.lookup N=some ⟨on,odn,.dict es ep,sln⟩/\StrKeys es/\nsFind es "__init__"=ini
section
variable {X:Cx} {pins:List (Addr×Obj)} {σ:St} {H:Hp} {s:Shared} {Q:VK} {C B0:Addr} {x:Str} {p pos:Pos} {e:Expr} {t:TA}
end
structure IsErr (K:Frag) (C:Addr):Prop where
 g:findIn K (.ref C) "__getattribute__"=some (some (.builtin "BaseException.__getattribute__"))
 n:findIn K (.ref C) "__getattr__"=some none
 c:findIn K (.ref C) "__class__"=some (some (.builtin "object.__class__"))
 s:specialIn K (.builtin "object.__class__") "__get__"=some (some (.builtin "getset_descriptor.__get__"))
 t:takesIn K (.builtin "object.__class__")=some true
section
variable {K:Frag} {C C' B0 a:Addr} {bm bm':List Value} {i i':Option Value} {l:Option Int}
theorem ErrC.cls(G:ErrC K C bm i):∃cd,clsIn K C=some cd/\cd.mro=.ref C::bm/\cd.hasDict=true/\typeIn K (.ref C)=some (.type "type"):=by
 obtain⟨nm,q,N,bs,sn,sub,ab,col,dd,k0,k1,k2,k3,k5,on,odn,es,ep,sln,g1,g2,g3,g4⟩:=G;exact⟨_,by unfold clsIn;rw[g1],rfl,rfl,by show(K.lookup C).map (·.cls)=_;rw[g1];rfl⟩
theorem ErrC.sub(G:ErrC K C bm i)(b:Value):subIn K (.ref C) b=some ((Value.ref C::bm).contains b):=by
 obtain⟨cd,c1,c2,c3,c4⟩:=G.cls;show mroIn K C b=_;unfold mroIn;rw[c1,Option.bind_some,c2];rfl
end
section
variable {K:Frag} {F H:Hp} {σ:St} {Γ:Gm} {A:List Addr} {p:Addr}
end
section
variable {K:Frag} {X:Cx} {C B0:Addr} {x:Str} {p pos:Pos} {e:Expr} {fe:GE}
end
structure InitK (K:Frag) (B0:Addr):Prop where
 g:specialIn K (.ref B0) "__getattribute__"=some (some (.builtin "type.__getattribute__"))
 r:readsIn K B0 (.type "type")=true
 c:findCls K (.ref B0) (.type "type") "__init__"=some (.val (.builtin "ValueError.__init__"))
def exD(C t dx:Addr):HO:=.frz (excO C t (some dx)) (.own 0)
section
variable {X:Cx} {pins:List (Addr×Obj)} {σ:St} {H:Hp} {s:Shared} {C B0 e t:Addr} {i:Option Value}
variable {x0:Str} {p0 ap cp pos p1:Pos} {e1 e2 o value:Expr} {k j:Nat} {v:V}
end
structure Lined (H H':Hp) (C e t dx:Addr) (n:Int):Prop where
 ne:dx≠e
 d0:H dx=none
 e1:H' e=some (exD C t dx)
 d1:H' dx=some (.xd [("line",.int n)])
 old:∀b,b≠e->b≠dx->H' b=H b
section
variable {X:Cx} {pins:List (Addr×Obj)} {σ:St} {H:Hp} {s:Shared} {Q:VK} {C B0 fI:Addr} {x:Str} {p pos:Pos} {e:Expr} {t:TA} {fd:FuncData} {k:Nat}
end
section
variable {X:Cx} {C B0 fI:Addr} {x:Str} {p pos:Pos} {e:Expr} {t:TA} {fd:FuncData} {k:Nat} {K:Frag} {fe:GE}
end
structure Errs (K:Frag) (mg:Str->Option Value) (tab:List (Str×Addr)) (L B0 fI:Addr):Prop where
 all:∀p∈tab,mg p.1=some (.ref p.2)/\ErrC K p.2 (.ref B0::bmV) none/\IsErr K p.2/\keepIn K (.ref p.2)=true
 mgL:mg "NoLine"=some (.ref L)
 GL:ErrC K L (.ref B0::bmV) (some (.ref fI))
 EL:IsErr K L
 kL:keepIn K (.ref L)=true
 sL:findIn K (.ref L) "__setattr__"=some (some (.builtin "object.__setattr__"))
 nL:findIn K (.ref L) "line"=some none
 fL:isFn K (.ref fI)=true
 mg0:mg "CarryError"=some (.ref B0)
 G0:ErrC K B0 bmV none
 I0:InitK K B0
def wE(cs:List Addr)(c:Addr)(C:Addr):Option Bool:=if cs.contains C then some (C == c) else none
section
variable {K:Frag} {mg:Str->Option Value} {tab:List (Str×Addr)} {L B0 fI:Addr}
end
def powC(i j:Int):Bool:=decide (0<=j) && decide (j<=1000000) && decide (i.natAbs < 2 ^ 64)
abbrev oPow:=oInt powC fun i j=>.int (i ^ j.toNat)
theorem e3z:OpOk K (r2L (rI CPow fun i j=>.int (i ^ j.toNat))) oPow:=b7t (fun _ _=>rfl) fun _ _ _ _ c q=>by
 simp only[powC,Bool.and_eq_true,decide_eq_true_eq] at c;exact⟨_,_,rfl,rfl,⟨c.1.1,c.1.2,c.2⟩,q⟩
def d8i(e:DictEntry):Bool:=match e.key with|.str _ _=>true|_=>false
theorem errC_mk{bm:List Value}{ini:Option Value}{nm q:Str}{N:Addr}{bs:List Value}{sn:List Str}{sub:List Value}{ab:Bool}{col:Option Bool}{dd:Option Addr}{k0 k1 k2 k3 k5:Option Value}{on:Value}{odn:Option Addr}{es:Array DictEntry}{ep:Nat}{sln:Array (Option Value)}
  (l:K.lookup C=some (excClassObj nm q C N bs bm true sn sub ab col dd k0 k1 k2 k3 k5 "ValueError.__new__")) (d:K.lookup N=some ⟨on,odn,.dict es ep,sln⟩) (s:es.toList.all d8i=true) (i:nsFind es "__init__"=ini):ErrC K C bm ini:=by
 refine⟨_,_,_,_,_,_,_,_,_,_,_,_,_,_,_,_,_,_,_,l,d,fun e he=>?_,i⟩
 have:=List.all_eq_true.1 s e (Array.mem_toList_iff.2 he);unfold d8i at this;split at this
 ·exact⟨_,_,by assumption⟩
 ·cases this
section
variable {X:Cx} {pins:List (Addr×Obj)} {σ:St} {H:Hp} {s:Shared} {C B0:Addr} {R:Value->Shared->Prop}
theorem d6m{u:Value}(G:ErrC X.K C (.ref B0::bmV) none)(G0:ErrC X.K B0 bmV none)(I:Inv X pins σ H s)(h:∀h' t,(∀b o,s.heap.get? b=some o->h'.get? b=some o)->h'.get? (s.heap.objs.size+1)=some (excO C t none)->R (.ref (s.heap.objs.size+1)) { s with heap:=h'}):
  wpAny (model X.prog X.w) X.A (call (.ref C) [u]) R X.xe s:=by
 obtain⟨hh,g,d,tt,os⟩:=s;have KX:X.K.In hh:=I.kIn;obtain⟨nm,q,N,bs,sn,sub,ab,col,dd,k0,k1,k2,k3,k5,on,odn,es,ep,sln,g1,g2,g3,g4⟩:=G;obtain⟨nm',q',N',bs',sn',sub',ab',col',dd',k0',k1',k2',k3',k5',on',odn',es',ep',sln',g1',g2',g3',g4'⟩:=G0;have FB:=F.excBase_ValueError;have T:OwnTail hh bmV (.ref B0::bmV):=.own (KX _ _ g1') (mA:=fun n=>nsFind es' n) ⟨_,_,_,KX _ _ g2',rfl,g3',fun _=>rfl⟩ g4' .base
 refine d6l FB rfl FB T (KX _ _ g1) (mN:=fun n=>nsFind es n) ⟨_,_,_,KX _ _ g2,rfl,g3,fun _=>rfl⟩ (by rw[sizeLine_eq];exact(by decide:1<=16777216)) fun i ei=>?_
 rw[g4] at ei;subst ei;have st:∀b o,hh.get? b=some o->((hh.push { cls:=.type "tuple",data:=.seq [u].toArray}).push { cls:=.ref C,data:=.fields #[.ref hh.objs.size,.none,.none,.none,.bool false,.none]}).get? b=some o:=fun b o e=>Heap.get?_push_of_some _ (Heap.get?_push_of_some _ e)
 have hget:((hh.push { cls:=.type "tuple",data:=.seq [u].toArray}).push { cls:=.ref C,data:=.fields #[.ref hh.objs.size,.none,.none,.none,.bool false,.none]}).get? (hh.objs.size+1)=some (excO C hh.objs.size none):=by unfold excO;heap_get
 refine wpAny_of_eq (FB.init.bind _) (xinit (T.keeps st) (st _ _ (KX _ _ g1)) hget fun h' e1 e2=>?_)
 exact⟨rfl,h h' _ (fun b o z=>e2 b o (Nat.ne_of_lt (Nat.lt_succ_of_lt (Heap.lt_size z))) (st b o z)) e1⟩
end
def a5z(C:Addr)(fe:GE):GS:=fun Γ=>(fe Γ).bind fun p=>some (.rt (.frz (.exc C none)),p.2)
section
variable {X:Cx} {K:Frag} {m:List Bool} {W:XW} {C B0:Addr} {x:Str} {p cp pos:Pos} {e:Expr} {fe:GE}
theorem a5g(G:ErrC K C (.ref B0::bmV) none)(G0:ErrC K B0 bmV none)(hk:keepIn K (.ref C)=true)(hm:X.mg x=some (.ref C))(hp:XPass X W)(he:PE X e (tG K fe))(hc:X.calm=true:=by rfl)(hg:Gl X x:=by rfl)(hdb:(x == ("__debug__":Str))=false:=by decide)
  (hst:starEach [e] X.env=(false,eval e X.env)::starEach [] X.env:=by rfl) (hpl:(backTo cp (starEach [] X.env)).any (·.1)=false:=by rfl) (hK:X.K=K:=by rfl):PS X (.Raise (some (.Call (.Name x p) [e] [] cp)) none pos) (tS K m (some W) (a5z C fe)):=by
 subst hK;intro pins s σ H D I t;obtain⟨F,A,Γ,fl,Γ',k,ee,w⟩:=t;obtain⟨⟨r1,Γ1⟩,q,ee⟩:=Option.bind_eq_some_iff.mp ee;cases ee;have w:∀dx σ' H',PostX X.K F H A m σ Γ1 none dx σ' H'->W C dx σ' H':=w;obtain⟨nm,qq,N,bs,sn,sub,ab,col,dd,k0,k1,k2,k3,k5,on,odn,es,ep,sln,g1,g2,g3,g4⟩:=id G;rw[arm_exec_Raise];show wpAny _ _ (do standAt pos;raiseStmt X.env (some (do let v <-eval (.Call (.Name x p) [e] [] cp) X.env;standAt pos;pure v)) none) _ _ _
 refine wpAny_bind (wpAny_standAt (wpAny_raiseStmt_made_sub (C:=C) (nm:=nm) (q:=qq) (N:=N) (bs:=bs) (bm:=.ref B0::bmV) (hdct:=true) (sn:=sn) (sub:=sub) (ab:=ab) (col:=col) (dd:=dd) (k0:=k0) (k1:=k1) (k2:=k2) (k3:=k3) (k5:=k5) (newId:="ValueError.__new__") rfl (I.ok.hd hc) (wpAny_bind (thn ?_ fun v s3 h3=>wpAny_bind (wpAny_standAt (wpAny_pure h3))))))
 refine wpAny_Call_Name_kw (b4z I hg hm ?_ hdb);have ha:PA X [e] (tGA X.K (a0c fe gaNil)):=a0b he a0h hst;refine PySem.W.callWith_K (h₀:=X.base) I.ok.mod.kin hk (thn (ha cp pins s σ H (fun vs H1=>vs.length=1/\Post X.K F H A σ Γ1 [r1] vs H1) I ⟨F,A,Γ,[r1],Γ1,k,by rw[a0f,q];rfl,fun vs H1 pp=>⟨by obtain⟨_,_,_,_,hh⟩:=pp;exact hh.length.symm,pp⟩⟩) fun us s1 hh=>?_) hst hpl
 obtain⟨vs,H1,I1,r,hl,pp⟩:=hh;refine⟨I1.kIn,?_⟩;obtain⟨u,rfl⟩:=e0a (show 1=us.length by rw[<-hl,r.length])
 refine d6m G G0 I1 fun h' t kp g=>⟨_,t,rfl,kp _ _ (I1.kIn _ _ g1),g,?_⟩
 obtain⟨F1,A1,x1,kk,_⟩:=pp.drop;refine hp pins σ H1 s1 H1 _ _ C none I1 ⟨rfl,I1.bare,Un.kept kp,I1.hok.kept kp,Nat.le_succ _,I1.hok.fresh (Nat.le_succ _),_,_,g,rfl,rfl,rfl,by show 1 < 6;decide,.inl rfl⟩ (w none σ H1 ⟨F1,A1,x1,kk,Kept.refl,rfl⟩)
theorem a6g(Γ:Gm):a5z C fe Γ=(fe Γ).bind fun p=>some (.rt (.frz (.exc C none)),p.2):=rfl
end
abbrev Cx.inTry(X:Cx)(pn:List (Addr×Obj))(E:Value->Shared->Prop):Cx:={ X with pn:=pn,xe:=E}
abbrev Cx.inSuite(X:Cx)(e:Value):Cx:={ X with A:=X.A.mark (some e),calm:=false,xe:=fun _ _=>False}
structure Yng (X:Cx) (pins:List (Addr×Obj)) (n:Nat):Prop where
 s:X.s₀.heap.objs.size<=n
 l:X.env.locals < n
 c:∀x c,X.env.cells.lookup x=some c->c < n
 p:∀q∈X.pn++pins,q.1 < n
section
variable {X:Cx} {pins pins':List (Addr×Obj)} {pn:List (Addr×Obj)} {σ:St} {H:Hp} {s:Shared} {E:Value->Shared->Prop} {n:Nat} {ch:List Addr} {h':Heap}
theorem Cx.Ok.inTry(ok:X.Ok):(X.inTry pn E).Ok:=⟨ok.mod,ok.kind,ok.glob,ok.blt,ok.above,ok.inj,ok.has,ok.cab,ok.hd,ok.frames,ok.stk,ok.exf,ok.bs,ok.bsz,ok.noex,ok.exfs,ok.funs,ok.frf⟩
theorem Cx.Ok.outTry(ok:(X.inTry pn E).Ok):X.Ok:=⟨ok.mod,ok.kind,ok.glob,ok.blt,ok.above,ok.inj,ok.has,ok.cab,ok.hd,ok.frames,ok.stk,ok.exf,ok.bs,ok.bsz,ok.noex,ok.exfs,ok.funs,ok.frf⟩
theorem Inv.inTry(I:Inv X pins σ H s):Inv (X.inTry (X.pn++pins) E) [] σ H s:=⟨I.ok.inTry,I.os,I.bare,I.base,I.loc,I.cell,I.free,I.freeC,fun p hp=>I.pin p (by rw[List.append_nil] at hp;exact hp),I.hok,I.len⟩
theorem Inv.outTry(I:Inv (X.inTry (X.pn++pins) E) pins' σ H s):Inv X pins σ H s:=⟨I.ok.outTry,I.os,I.bare,I.base,I.loc,I.cell,I.free,I.freeC,fun p hp=>I.pin p (List.mem_append_left _ hp),I.hok,I.len⟩
theorem Inv.inSuite{e:Value}(I:Inv X pins σ H s):Inv (X.inSuite e) pins σ H s:=
 ⟨⟨I.ok.mod,I.ok.kind,I.ok.glob,I.ok.blt,I.ok.above,I.ok.inj,I.ok.has,I.ok.cab,fun z=>(nomatch z),I.ok.frames,I.ok.stk,I.ok.exf,I.ok.bs,I.ok.bsz,I.ok.noex,I.ok.exfs,I.ok.funs,I.ok.frf⟩,I.os,I.bare,I.base,I.loc,I.cell,I.free,I.freeC,I.pin,I.hok,I.len⟩
theorem Inv.outSuite{e:Value}(I:Inv (X.inSuite e) pins σ H s)(hd:X.calm=true->X.A.handled=none):Inv X pins σ H s:=
 ⟨⟨I.ok.mod,I.ok.kind,I.ok.glob,I.ok.blt,I.ok.above,I.ok.inj,I.ok.has,I.ok.cab,hd,I.ok.frames,I.ok.stk,I.ok.exf,I.ok.bs,I.ok.bsz,I.ok.noex,I.ok.exfs,I.ok.funs,I.ok.frf⟩,I.os,I.bare,I.base,I.loc,I.cell,I.free,I.freeC,I.pin,I.hok,I.len⟩
theorem Inv.yng(I:Inv X pins σ H s):Yng X pins s.heap.objs.size:=⟨I.sz,I.lt,fun x c e=>by obtain⟨v,o,ho,_⟩:=I.cell x c e;exact Heap.lt_size ho,fun q hq=>Heap.lt_size (I.pin q hq).1⟩
theorem Yng.far(y:Yng X pins n){b:Addr}(h:n<=b):(b∈X.ex\/X.s₀.heap.objs.size<=b)/\b≠X.env.locals/\(∀x c,X.env.cells.lookup x=some c->c≠b)/\∀p∈X.pn++pins,p.1≠b:=
 ⟨.inr (Nat.le_trans y.s h),fun z=>absurd (Nat.lt_of_lt_of_le y.l h) (z ▸ Nat.lt_irrefl _),fun x c e z=>absurd (Nat.lt_of_lt_of_le (y.c x c e) h) (z ▸ Nat.lt_irrefl _),fun p hp z=>absurd (Nat.lt_of_lt_of_le (y.p p hp) h) (z ▸ Nat.lt_irrefl _)⟩
theorem LeftX.un{fs:List Addr}{h:Heap}(l:LeftX fs ch h h'):Un fs ch H H h h':=
 ⟨fun b o g _ hb hx=>l.keep b o hb hx g,fun b o g _ hb hx=>l.slot b o hb hx g,fun _ _ _ n _=>n,fun b o g hx=>let ⟨_,g2⟩:=l.any g hx;⟨_,g2⟩,fun _ _ q=>q,fun _ _ _ q=>q,fun _ ps q=>⟨#[],by rw[q];simp⟩⟩
theorem Inv.left{t':Nat}(I:Inv X pins σ H s)(y:Yng X pins n)(l:LeftX (frs X.stack) ch s.heap h')(hch:∀b∈ch,n<=b/\H b=none):Inv X pins σ H { s with heap:=h',toks:=t'}:=
 I.call (g':=s.gens) (d':=s.drawn) (ch:=ch) l.un (l.hok I.hok I.stkFree fun b m=>(hch b m).2) I.bare fun b m=>y.far (hch b m).1
theorem d6n{M:Model}{A:Around}{e:Addr}{dx:Option Addr}{Q:Unit->Shared->Prop}(fl:FlyX n s.heap H e C dx)(h:∀h' ch,(∀b∈ch,n<=b/\H b=none)->LeftX (frs X.stack) ch s.heap h'->FlyX n h' H e C dx->Q () { s with heap:=h'}):wpAny M A (setFlight (.ref e) none) Q E s:=by
 obtain⟨hne,hHe,oe,vs,he,hc,hx,hd,hsz,h1⟩:=fl;unfold setFlight;rcases h1 with h1|⟨T,oT,ts,h1,hnT,hHT,hTe,hT,hdT,h3⟩
 ·refine wpAny_bind (wpAny_field he hd h1 ?_);rw[if_neg (by decide)]
  exact wpAny_pure (h s.heap [] (fun _ z=>nomatch z) ⟨fun _ _ _ _ g=>g,fun _ o _ _ g=>⟨o.slots,g⟩⟩ ⟨hne,hHe,oe,vs,he,hc,hx,hd,hsz,.inl h1⟩)
 ·refine wpAny_bind (wpAny_field he hd h1 ?_);rw[if_pos (show(Value.ref T != Value.none)=true by simp)]
  have l3:3 < ts.size:=(Array.getElem?_eq_some_iff.mp h3).1;have dT:=Obj.data_mapFields hdT (·.setIfInBounds 3 ((none:Option Addr).elim Value.none fun f=>rawInt f))
  refine wpAny_setField hT hdT l3 (h _ [T] (fun b m=>by cases List.mem_singleton.1 m;exact⟨hnT,hHT⟩) ⟨fun b o _ hb g=>(Heap.get?_update_other _ _ (by simpa using Ne.symm (by simpa using hb:b≠T))).trans g,fun b o _ hb g=>⟨o.slots,(Heap.get?_update_other _ _ (by simpa using Ne.symm (by simpa using hb:b≠T))).trans g⟩⟩
   ⟨hne,hHe,oe,vs,(Heap.get?_update_other _ _ hTe).trans he,hc,hx,hd,hsz,.inr ⟨T,_,_,h1,hnT,hHT,hTe,Heap.get?_update_self _ hT (Obj.isFreed_of_fields dT),dT,by simp[Array.getElem?_setIfInBounds,l3]⟩⟩)
end
abbrev GH:=Option Nat×(Addr->Option Bool)×GS
variable{gs:List GH}
def c6a(i:Option Nat)(g:GS)(C:Addr)(l:Option Int):GS:=fun Γ=>match i with
 |none=>g Γ
 |some i=>if i < Γ.length then(g (Γ.set i (some (.frz (.exc C l))))).bind fun q=>some (q.1,q.2.set i none) else none
def tryH:List GH->Addr->Option Int->GS
 |[],_,_=>fun _=>none
 |h::hs,C,l=>fun Γ=>(h.2.1 C).bind fun b=>if b=true then c6a h.1 h.2.2 C l Γ else tryH hs C l Γ
def gsTry(f:GS)(hs:List GH):GS:=fun Γ=>(f Γ).bind fun p=>match p.1 with
 |.rt o=>match isX o with
  |some c=>tryH hs c.1 c.2 p.2
  |none=>some (.rt o,p.2)
 |fl=>some (fl,p.2)
section
variable {X:Cx} {K:Frag} {m:List Bool}
def SuOk(X:Cx)(K:Frag)(m:List Bool)(nm:Option Str)(b:List Stmt)(hp:Pos)(i:Option Nat)(g:GS):Prop:=∀(pins:List (Addr×Obj)) (σ:St) (H:Hp) (s:Shared) (D:Ends) (e C:Addr) (dx:Option Addr) (l:Option Int) (F:Hp) (A:List Addr) (Γ:Gm) (fl:Fl) (Γ':Gm) (n:Nat),Inv X pins σ H s->Yng X pins n->FlyX n s.heap H e C dx->OK K F H σ Γ A->ExcL F dx l->c6a i g C l Γ=some (fl,Γ')->Done K m none D F H A σ fl Γ'->
 codeAny (model X.prog X.w) (X.A.mark (some (.ref e))) (.handlers (.ref e) [.ExceptHandler none nm b hp] X.env) (fun r s₂=>match r with
     |.ok f=>(match nm with
      |none=>SP X pins D f s₂
      |some n=>wpAny (model X.prog X.w) X.A (do bindName X.env n .none;unbindBehindTheSuite X.env n hp) (fun _ s₃=>SP X pins D f s₃) X.xe s₂)
     |.error x=>cameBackBy (model X.prog X.w) X.A X.env X.xe x s₂) s
theorem SP.outSuite{pins:List (Addr×Obj)}{D:Ends}{f:Flow}{s':Shared}{e:Value}(h:SP (X.inSuite e) pins D f s')(hd:X.calm=true->X.A.handled=none):SP X pins D f s':=by
 cases f with
 |next=>obtain⟨σ',H',I,q⟩:=h;exact⟨σ',H',I.outSuite hd,q⟩
 |brk=>obtain⟨σ',H',I,q⟩:=h;exact⟨σ',H',I.outSuite hd,q⟩
 |cont=>obtain⟨σ',H',I,q⟩:=h;exact⟨σ',H',I.outSuite hd,q⟩
 |ret u=>obtain⟨v,σ',H',I,r,q⟩:=h;exact⟨v,σ',H',I.outSuite hd,r,q⟩
theorem b9q{b0:Stmt}{suite:List Stmt}(hS:∀e,PSs (X.inSuite e) (b0::suite) (tS K m none g)):SuOk X K m none (b0::suite) hp none g:=by
 intro pins σ H s D e C dx l F A Γ fl Γ' n I y f k el ee w;refine codeAny_handlers_suite (d6n (X:=X) f fun h' ch hch lx f2=>?_)
 have I2:Inv X pins σ H { s with heap:=h',toks:=s.toks}:=I.left y lx hch;refine wpAny_mono (hS (.ref e) pins _ σ H D I2.inSuite ⟨F,A,Γ,fl,Γ',k,ee,w⟩) (fun fl s2 q=>?_) fun _ _ z=>z.elim
 exact q.outSuite I.ok.hd
def HB(X:Cx)(K:Frag)(m:List Bool)(hs:List ExceptHandler)(gs:List GH):Prop:=∀(pins:List (Addr×Obj)) (σ:St) (H:Hp) (s:Shared) (D:Ends) (e C:Addr) (dx:Option Addr) (l:Option Int) (F:Hp) (A:List Addr) (Γ:Gm) (fl:Fl) (Γ':Gm) (n:Nat),Inv X pins σ H s->Yng X pins n->FlyX n s.heap H e C dx->OK K F H σ Γ A->ExcL F dx l->tryH gs C l Γ=some (fl,Γ')->Done K m none D F H A σ fl Γ'->
 wpAny (model X.prog X.w) X.A (handleBy (.ref e) X.env hs) (SP X pins D) X.xe s
theorem d1o:HB X K m [] []:=fun _ _ _ _ _ _ _ _ _ _ _ _ _ _ _ _ _ _ _ _ e _=>by cases e
theorem b9r{x:Str}{np:Pos}{nm:Option Str}{b:List Stmt}{i:Option Nat}{wh:Addr->Option Bool}{Cc:Addr}(hm:X.mg x=some (.ref Cc))(hw:∀C b,wh C=some b->exmOne K (.ref C) (.ref Cc)=some b)(su:SuOk X K m nm b hp i g)(rest:HB X K m hs gs)(hg:Gl X x:=by rfl)(hdb:(x == ("__debug__":Str))=false:=by decide)(hK:X.K=K:=by rfl):
  HB X K m (.ExceptHandler (some (.Name x np)) nm b hp::hs) ((i,wh,g)::gs):=by
 subst hK;intro pins σ H s D e C dx l F A Γ fl Γ' n I y f k el ee w;obtain⟨bb,q1,ee⟩:=Option.bind_eq_some_iff.mp ee;dsimp only at q1 ee;refine wpAny_handleBy_cons (codeAny_handlers_test (b4z (I.inSuite (e:=.ref e)) hg hm ?_ hdb)) (by intro q;cases q)
 obtain⟨hne,hHe,oe,vs,he,hc,hr⟩:=id f;have LT:Looks (model X.prog X.w) s.heap (typeOf (.ref e)) (.ref C):=by
  rw[<-hc];exact(Looks.ld he).andThen .now
 refine(exm_one I.kIn LT (hw C bb q1)).here ?_;cases bb with
 |true=>exact su pins σ H s D e C dx l F A Γ fl Γ' n I y f k el (by simpa using ee) w
 |false=>exact rest pins σ H s D e C dx l F A Γ fl Γ' n I y f k el (by simpa using ee) w
theorem SP.outTry{pins:List (Addr×Obj)}{E:Value->Shared->Prop}{D:Ends}{f:Flow}{s':Shared}(h:SP (X.inTry (X.pn++pins) E) [] D f s'):SP X pins D f s':=by
 cases f with
 |next=>obtain⟨σ',H',I,q⟩:=h;exact⟨σ',H',I.outTry,q⟩
 |brk=>obtain⟨σ',H',I,q⟩:=h;exact⟨σ',H',I.outTry,q⟩
 |cont=>obtain⟨σ',H',I,q⟩:=h;exact⟨σ',H',I.outTry,q⟩
 |ret u=>obtain⟨v,σ',H',I,r,q⟩:=h;exact⟨v,σ',H',I.outTry,r,q⟩
theorem d1p{body:List Stmt}{h0:ExceptHandler}{f:GS}{pos:Pos}(hb:∀(pn:List (Addr×Obj)) (E:Value->Shared->Prop) (W:XW),XPass (X.inTry pn E) W->PSs (X.inTry pn E) body (tS K m (some W) f))(hh:HB X K m (h0::hs) gs)(hst:X.stack=X.env::X.outer:=by rfl)(hf:X.env.frame=some X.env.locals:=by rfl):
  PS X (.Try body (h0::hs) [] [] pos) (tS K m none (gsTry f gs)):=by
 intro pins s σ H D I t;obtain⟨F,A,Γ,fl,Γ',k,e,w⟩:=t;obtain⟨⟨fl1,Γ1⟩,q,e⟩:=Option.bind_eq_some_iff.mp e;refine wpAny_Try_except ?_;have hp:XPass (X.inTry (X.pn++pins) fun e s₁=>wpAny (model X.prog X.w) X.A (noteFrame e X.env) (fun _ s₂=>wpAny (model X.prog X.w) X.A (setFlight e none) (fun _ s₃=>wpAny (model X.prog X.w) X.A (handleBy e X.env (h0::hs)) (SP X pins D) X.xe s₃) X.xe s₂) X.xe s₁)
   (fun C dx σ' H'=>∃F' A' Γ1 l fl Γ',OK K F' H' σ' Γ1 A'/\ExcL F' dx l/\tryH gs C l Γ1=some (fl,Γ')/\Done K m none D F' H' A' σ' fl Γ'):=by
  intro pins' σ' H1 s1 H' s' e C dx I1 c q;obtain⟨F',A',Γ2,l,fl2,Γ3,k2,el,e2,w2⟩:=q;have I':Inv X pins σ' H' s':=(c.inv I1).outTry;have J:Inv X pins σ' H1 s1:=I1.outTry;refine d7u (base:=X.base) (n:=s1.heap.objs.size) (by rw[<-hst];exact I.ok.frames) (by rw[<-hst];exact I'.stack) hf c.fly.lt (fun a z=>I'.hok.fresh z) c.fly fun h' ch hch lx fl=>?_
  rw[<-hst] at lx;have I3:Inv X pins σ' H' { s' with heap:=h',toks:=s'.toks}:=I'.left J.yng lx hch;exact hh pins σ' H' _ D e C dx l F' A' Γ2 fl2 Γ3 _ I3 J.yng fl k2 el e2 w2
 refine wpAny_mono (hb _ _ _ hp [] s σ H D I.inTry ⟨F,A,Γ,fl1,Γ1,k,q,?_⟩) (fun ff s1 z=>?_) fun e s1 z=>z
 ·dsimp only at e;cases fl1 with
  |nx=>cases e;exact w
  |bk=>cases e;exact w
  |ct=>cases e;exact w
  |rt o=>
   dsimp only at e;unfold Done;dsimp only;unfold DoneR;cases hx:isX o with
   |none=>rw[hx] at e;cases e;exact w
   |some c=>
    rw[hx] at e;exact fun dx σ' H' ⟨F',A',x,k',kp,el⟩=>⟨F',A',Γ1,c.2,fl,Γ',k',el,e,w.step x kp⟩
 ·have z:=z.outTry;cases ff with
  |next=>
   obtain⟨σ',H',J,r⟩:=z;exact pss_nil pins s1 σ' H' D J r
  |brk=>exact z
  |cont=>exact z
  |ret u=>exact z
end
end L2
namespace L2
open PySem PySem.Spec PyProof.Rows
variable{v:V}{r:R}{Q:VK}{Γ Γ':Gm}{F H:Hp}{A:List Addr}{σ:St}{qual:Str}{st:Stmt}{pl:Sem Bool}
theorem perm2{α:Type}{a b:α}{L M:List α}:(a::b::(L++M)).Perm (L++a::b::M):=((List.perm_middle (a:=b) (l₁:=L) (l₂:=M)).symm.cons a).trans (List.perm_middle (a:=a) (l₁:=L) (l₂:=b::M)).symm
section
variable {K:L2.FG} {F H:Hp} {σ:St} {Γ:Gm} {A:List Addr} {C:Addr} {ns:List Str} {ps:List O} {x:V} {i j:Nat} {c:O}
theorem c4a(h:OwnL K F H [some x] [some (.ins C ns ps)] A):∃a dx fs Ap,x=.ref a/\A=a::dx::Ap/\H a=some (.ins C dx fs)/\H dx=some (.own a)/\fs.map (·.1)=ns.take ps.length/\OwnL K F H ((fs.map (·.2)).map some) (ps.map some) Ap:=by
 cases h with
 |ins q1 q2 q3 q4 t=>
  cases t;exact⟨_,_,_,_,rfl,by rw[List.append_nil],q1,q2,q3,by rw[List.map_map];exact q4⟩
theorem c6b{F' H':Hp}{a dx:Addr}{fs:List (Str×V)}{Ap:List Addr}(q1:H' a=some (.ins C dx fs))(q2:H' dx=some (.own a))(q3:fs.map (·.1)=ns.take ps.length)(q4:OwnL K F' H' ((fs.map (·.2)).map some) (ps.map some) Ap):OwnL K F' H' [some (.ref a)] [some (.ins C ns ps)] (a::dx::Ap):=by
 have:=OwnL.ins (σ:=[]) (Γ:=[]) (B:=[]) q1 q2 q3 (by rw[List.map_map] at q4;exact q4) .nil
 rw[List.append_nil] at this;exact this
theorem b6e(h:OwnL K F H [some x] [some (.ins C ns ps)] A)(nd:A.Nodup)(e:ps[j]?=some c):∃a dx fs f v Ac B,x=.ref a/\H a=some (.ins C dx fs)/\fs.map (·.1)=ns.take ps.length/\fs[j]?=some (f,v)/\OwnL K F H [some v] [some c] Ac/\A.Perm (Ac++B)/\
  ∀F' H' c' A',Same F F'->(∀b u,b∉Ac->H b=some u->H' b=some u)->OwnL K F' H' [some v] [some c'] A'->∃D,OwnL K F' H' [some x] [some (.ins C ns (ps.set j c'))] D/\SubP D (A'++B):=by
 obtain⟨a,dx,fs,Ap,rfl,rfl,q1,q2,q3,q4⟩:=c4a h;obtain⟨v,Ac,B1,g1,g2,g3,g4⟩:=b7x q4 e;obtain⟨⟨f,v'⟩,g5,g6⟩:∃p,fs[j]?=some p/\p.2=v:=by
  rw[List.getElem?_map] at g1;exact Option.map_eq_some_iff.mp g1
 dsimp only at g6;subst g6;obtain⟨na,nd1⟩:=List.nodup_cons.mp nd;obtain⟨nx,nd2⟩:=List.nodup_cons.mp nd1;have nd3:(Ac++B1).Nodup:=g3.nodup_iff.mp nd2;refine⟨a,dx,fs,f,v',Ac,a::dx::B1,rfl,q1,q3,g5,g2,?_,fun F' H' c' A' sf kp w=>?_⟩
 ·refine((g3.cons dx).cons a).trans ?_;exact perm2
 ·have ia:a∉Ac:=fun m=>na (by simp[g3.mem_iff,m])
  have ix:dx∉Ac:=fun m=>nx (by simp[g3.mem_iff,m])
  obtain⟨D,w1,w2⟩:=g4 F' H' c' A' sf (fun b m u g=>kp b u (fun z=>(List.nodup_append.mp nd3).2.2 b z b m rfl) g) w
  refine⟨a::dx::D,c6b (kp a _ ia q1) (kp dx _ ix q2) (by rw[List.length_set];exact q3) w1,?_⟩
  obtain⟨L,p1,p2⟩:=w2;refine SubP.trans ⟨a::dx::L,(p1.cons dx).cons a,(p2.cons_cons dx).cons_cons a⟩ (.of_perm ?_);exact perm2
theorem d1q:∀{fs:List (Str×V)} {j:Nat} {f:Str} {v:V},(fs.map (·.1)).Nodup->fs[j]?=some (f,v)->fs.lookup f=some v
 |[],_,_,_,_,g=>by simp at g
 |(f',v')::fs,0,f,v,_,g=>by simp at g;obtain⟨rfl,rfl⟩:=g;simp
 |(f',v')::fs,j+1,f,v,nd,g=>by
  have nd':f'∉fs.map (·.1)/\(fs.map (·.1)).Nodup:=List.nodup_cons.mp nd
  have g':fs[j]?=some (f,v):=by simpa using g
  have ne:f≠f':=fun z=>nd'.1 (by rw[<-z];exact List.mem_map.2 ⟨_,List.mem_of_getElem? g',rfl⟩)
  rw[List.lookup_cons,beq_false_of_ne ne];exact d1q nd'.2 g'
theorem e1d{fs:List (Str×V)}{n:Nat}{f f':Str}(h:fs.map (·.1)=ns.take n)(nd:ns.Nodup)(g:fs[j]?=some (f',v))(hj:ns[j]?=some f):f'=f/\fs.lookup f=some v:=by
 have e1:(fs.map (·.1))[j]?=some f':=by rw[List.getElem?_map,g];rfl
 have e2:f'=f:=by
  rw[h] at e1;have lt:j < n:=by
   have:=(List.getElem?_eq_some_iff.mp e1).1;rw[List.length_take] at this;omega
  rw[List.getElem?_take_of_lt lt,hj] at e1;exact(Option.some.inj e1).symm
 subst e2;exact⟨rfl,d1q (by rw[h];exact nd.sublist (List.take_sublist _ _)) g⟩
theorem OK.mutA{vs:List V}{os:List O}{v0:V}{c' res:O}{g:O->List O->Option (O×O)}{r:V->List V->Hp->VK->Prop}(ok:MutOk K r g)(k:OK K F H (vs.map some++σ) (os.map some++Γ) A)(hf:HFld σ H i j v0)(ho:Γ[i]?=some (some (.ins C ns ps)))(hc:ps[j]?=some c)
  (hl:vs.length=os.length) (e:g c os=some (c',res)) (q:∀v H' A',Ext F H A F H' A'->OK K F H' (some v::σ) (some res::Γ.set i (some (.ins C ns (ps.set j c')))) A'->Q v H'):r v0 vs H Q:=by
 obtain⟨B,C0,h1,h2,h3⟩:=OwnL.split (by simpa using hl) k.os
 subst h3;obtain⟨x',Ai,C',g1,g2,g3,g4⟩:=h2.take ho;have p1:(B++C0).Perm ((Ai++B)++C'):=by
  refine(List.Perm.append_left B g4).trans ?_;rw[<-List.append_assoc];exact List.perm_append_comm.append_right _
 have nd:((Ai++B)++C').Nodup:=p1.nodup_iff.mp k.nd;have fr:∀a∈(Ai++B)++C',F a=none:=fun a m=>k.fr a (p1.mem_iff.mpr m)
 obtain⟨n1,n2,n3⟩:=List.nodup_append.mp nd;obtain⟨n4,n5,n6⟩:=List.nodup_append.mp n1;obtain⟨a,dx,fs,f,v,Ac,B1,rfl,q1,q2,q3,q4,q5,q6⟩:=b6e g2 n4 hc;obtain⟨a',C2,dx',fs',f',p,e1,e2,e3,e4⟩:=hf;rw[g1] at e1;cases e1;rw[q1] at e2;cases e2;rw[q3] at e3;cases e3;have hac:∀b∈Ac,b∈Ai:=fun b m=>q5.mem_iff.mpr (List.mem_append_left _ m)
 have nB:(Ac++B).Nodup:=List.nodup_append.mpr ⟨(List.nodup_append.mp (q5.nodup_iff.mp n4)).1,n5,fun b m b' m' z=>n6 b (hac b m) b' m' z⟩
 refine ok F H _ vs c os c' res Ac B Q k.le q4 h1 nB (fun b m=>?_) e fun v1 H' A' Ar kp dm at' w1 w2 sp=>?_
 ·rcases List.mem_append.mp m with m|m
  ·exact fr b (by simp[hac b m])
  ·exact fr b (by simp[m])
 obtain⟨D,j1,j2⟩:=q6 F H' c' A' (Same.refl _) kp w1;have nC:∀b∈C',b∉Ac:=fun b m z=>n3 b (List.mem_append_left _ (hac b z)) b m rfl
 have g3':OwnL K F H' σ (Γ.set i none) C':=g3.keep (Same.refl _) fun b m u e=>kp b u (nC b m) e
 have hi:i < (Γ.set i none).length:=by rw[List.length_set];exact(List.getElem?_eq_some_iff.mp ho).1
 obtain⟨D2,k1,C3,k2,k3⟩:=OwnL.put j1 i g3' hi;rw[a5a g1,List.set_set] at k1;have s3:SubP (Ar++D2) (B++C0):=by
  have a1:SubP D2 ((A'++B1)++C'):=((SubP.of_perm k2).trans ((SubP.refl D).app (.of_sub k3))).trans (j2.app (SubP.refl C'));have a2:SubP (Ar++D2) (((Ar++A')++B1)++C'):=by
   have:=(SubP.refl Ar).app a1;rw[<-List.append_assoc,<-List.append_assoc] at this;exact this
  have a3:SubP (((Ar++A')++B1)++C') (((Ac++B)++B1)++C'):=(sp.app (SubP.refl B1)).app (SubP.refl C');have a4:(((Ac++B)++B1)++C').Perm ((Ai++B)++C'):=by
   refine List.Perm.append_right C' ?_;rw[List.append_assoc];refine(List.Perm.append_left Ac List.perm_append_comm).trans ?_;rw[<-List.append_assoc];exact q5.symm.append_right B
  exact a2.trans (a3.trans (.of_perm (a4.trans p1.symm)))
 refine q v1 H' (Ar++D2) ⟨Same.refl _,fun b u e n=>kp b u (fun m=>n (p1.mem_iff.mpr (by simp[hac b m]))) e,dm,fun b h=>.inl h,fun b m=>.inl (s3.mem b m),at'⟩ ⟨fun b u e=>?_,w2.app k1,s3.nodup k.nd,fun b m=>k.fr b (s3.mem b m)⟩
 refine kp b u (fun m=>?_) (k.le b u e)
 rw[fr b (by simp[hac b m])] at e
 cases e
end
def gFld(Ch:Addr)(ns:List Str)(i j:Nat):GE:=fun Γ=>match Γ[i]? with
 |some (some (.ins C ns' ps))=>if C=Ch/\ns'=ns then(match ps[j]? with
   |some (.frz d)=>some (.own (.frz d),Γ)
   |some _=>some (.fld i j,Γ)
   |none=>none) else none
 |_=>none
theorem c6c{Ch:Addr}{ns:List Str}{i j:Nat}(e:gFld Ch ns i j Γ=some (r,Γ')):∃ps c,Γ[i]?=some (some (.ins Ch ns ps))/\ps[j]?=some c/\Γ'=Γ/\((∃d,c=.frz d/\r=.own (.frz d))\/((∀d,c≠.frz d)/\r=.fld i j)):=by
 unfold gFld at e;split at e
 ·rename_i C ns' ps h
  split at e
  ·rename_i hh
   obtain⟨rfl,rfl⟩:=hh;split at e
   ·rename_i d h2
    cases e;exact⟨ps,_,h,h2,rfl,.inl ⟨d,rfl,rfl⟩⟩
   ·rename_i c hn h2
    cases e;exact⟨ps,c,h,h2,rfl,.inr ⟨fun d z=>hn d (by rw[z]),rfl⟩⟩
   ·cases e
  ·cases e
 ·cases e
section
variable {X:Cx} {K:L2.FG} {m:List Bool} {W:Option XW} {Ch:Addr} {ns:List Str} {i j:Nat} {e o value:Expr} {f:Str} {pos pos' apos cpos:Pos} {fe:GE}
theorem e1e{c:O}(h:OwnL K F H [some v] [some c] A)(hn:∀d,c≠.frz d):∃p,v=.ref p:=by
 cases h with
 |frz _ _=>exact absurd rfl (hn _)
 |lst _ _ _=>exact⟨_,rfl⟩
 |tup _ _ _=>exact⟨_,rfl⟩
 |dct _ _ _ _ _=>exact⟨_,rfl⟩
 |ins _ _ _ _ _=>exact⟨_,rfl⟩
theorem a3a(he:PE X e (tVar i))(c:Cls K Ch)(na:NoAttr K Ch f)(hj:ns[j]?=some f)(hnd:ns.Nodup)(hb:attributeBase e f X.env (eval e X.env)=eval e X.env:=by rfl)(hK:X.K=K:=by rfl):PE X (.Attribute e f pos) (tG K (gFld Ch ns i j)):=by
 subst hK;refine(e2v he hb).mono fun σ H Q t=>?_
 obtain⟨F,A,Γ,r,Γ',k,e,w⟩:=t;obtain⟨ps,cc,h1,h2,rfl,h3⟩:=c6c e;obtain⟨x,Ai,C',g1,g2,g3,g4⟩:=k.os.take h1;have nd:Ai.Nodup:=(List.nodup_append.mp (g4.nodup_iff.mp k.nd)).1;obtain⟨a,dx,fs,f',v,Ac,B1,rfl,q1,q2,q3,q4,q5,q6⟩:=b6e g2 nd h2;obtain⟨rfl,q7⟩:=e1d q2 hnd q3 hj;refine⟨_,g1,a,Ch,dx,fs,v,rfl,q1,c,na,q7,w v H ?_⟩;rcases h3 with⟨d,rfl,rfl⟩|⟨hn,rfl⟩
 ·cases q4 with
  |frz rp _=>
   obtain⟨k2,x⟩:=k.push (v:=v) (o:=.frz d) (Av:=[]) (Same.refl _) (.frz rp .nil) .nil (fun _ m=>by cases m)
   exact⟨F,_,x,k2,True.intro⟩
 ·obtain⟨p,rfl⟩:=e1e q4 hn;exact⟨F,A,Ext.refl,⟨k.le,.skip k.os,k.nd,k.fr⟩,⟨a,Ch,dx,fs,_,p,g1,q1,q3,rfl⟩,True.intro⟩
end
def b6f(fv:GE)(Ch:Addr)(ns:List Str)(i j:Nat)(fi:GE):GS:=fun Γ=>(fv Γ).bind fun p=>(gFld Ch ns i j p.2).bind fun q=>(fi q.2).bind fun r=>match p.1,q.1,r.1 with
 |.own v,.fld _ _,.own y=>(match r.2[i]? with
  |some (some (.ins C1 ns1 ps1))=>(ps1[j]?).bind fun c=>(mSet c [v,y]).bind fun z=>some (.nx,r.2.set i (some (.ins C1 ns1 (ps1.set j z.1))))
  |_=>none)
 |_,_,_=>none
def a4q(Ch:Addr)(ns:List Str)(i j:Nat)(fe:GE):GS:=fun Γ=>(fe Γ).bind fun p=>match p.1 with
 |.own o=>(match p.2[i]? with
  |some (some (.ins C ns' ps))=>if C=Ch/\ns'=ns/\ps.length=j then some (.nx,p.2.set i (some (.ins C ns' (ps++[o])))) else none
  |_=>none)
 |_=>none
section
variable {X:Cx} {K:L2.FG} {m:List Bool} {W:Option XW} {Ch:Addr} {ns:List Str} {i j:Nat} {e o value ei:Expr} {es:List Expr} {f name:Str} {pos pos' apos cpos tpos:Pos} {fe fv fi:GE} {fs:GA} {id:String} {r:V->List V->Hp->VK->Prop} {g:O->List O->Option (O×O)}
theorem b6g(he:PE X e (tG K fv))(ho:PE X o (tG K (gFld Ch ns i j)))(hi:PE X ei (tG K fi))(hu:X.A.units+41 < cLine)
  (ha:∀v,assign (.Subscript o ei pos') X.env v=(do
   let ov <-holding [v] (eval o X.env)
   let iv <-holding [v,ov] (eval ei X.env)
   standAt pos'
   holding [v,ov,iv] (setItem ov iv v)
   release [v,ov,iv] []):=by intro _;rfl)
  (hs:swapsWithSole [.Subscript o ei pos'] e pos.line X.env=pure false:=by rfl) (hw:swappedStores [.Subscript o ei pos'] e X.env=pure none:=by rfl)
  (h1:(assignEach [.Subscript o ei pos'] X.env).map (·.2)=[assign (.Subscript o ei pos') X.env]:=by rfl) (hK:X.K=K:=by rfl):PS X (.Assign [.Subscript o ei pos'] e pos) (tS K m W (b6f fv Ch ns i j fi)):=by
 subst hK;refine(d7p he (d7o ho hi (e3s hu) ha) hs hw h1).mono fun D σ H t=>?_
 obtain⟨F,A,Γ,fl,Γ',k,e,w⟩:=t;obtain⟨⟨r1,Γ1⟩,e1,ee⟩:=Option.bind_eq_some_iff.mp e;clear e;obtain⟨⟨r2,Γ2⟩,e2,e⟩:=Option.bind_eq_some_iff.mp ee;clear ee;obtain⟨⟨r3,Γ3⟩,e3,ee⟩:=Option.bind_eq_some_iff.mp e;clear e;have e:=ee;clear ee;dsimp only at e2 e3 e;split at e
 ·rename_i v i' j' y
  obtain⟨ps0,c0,_,_,_,hr⟩:=c6c e2;obtain⟨rfl,rfl⟩:i'=i/\j'=j:=by
   rcases hr with⟨d,_,z⟩|⟨_,z⟩
   ·cases z
   ·cases z;exact⟨rfl,rfl⟩
  split at e
  ·rename_i C1 ns1 ps1 e4
   obtain⟨c,e5,e⟩:=Option.bind_eq_some_iff.mp e;obtain⟨z,e6,e⟩:=Option.bind_eq_some_iff.mp e;cases e;have t:tGA X.K (a0c fv (a0c (gFld Ch ns i' j') (a0c fi gaNil))) σ H fun vs H'=>∃a b c,vs=[a,b,c]/\rSetA X.K b c a H' fun H4=>D.nx σ H4:=by
    refine⟨F,A,Γ,[.own v,.fld i' j',.own y],Γ3,k,?_,fun vs H1 p=>?_⟩
    ·unfold a0c;simp only[e1,e2,e3,Option.bind,gaNil]
    ·obtain⟨F1,A1,x,k1,hh⟩:=p;obtain⟨a,b,c2,rfl⟩:=e3n hh.length;refine⟨a,b,c2,rfl,?_⟩;have hx:HFld σ H1 i' j' b:=hh.1;have k2:OK X.K F1 H1 ([a,c2].map some++σ) ([v,y].map some++Γ3) A1:=by
      obtain⟨B1,C1',g1,g2,g3⟩:=OwnL.one (σ:=some b::some c2::σ) (Γ:=none::some y::Γ3) k1.os;cases g2 with
      |skip g2=>subst g3;exact⟨k1.le,g1.app g2,k1.nd,k1.fr⟩
     have z':=OK.mutA (r:=rSetM X.K) (g:=mSet) (Q:=fun _ H4=>D.nx σ H4) (c':=z.1) (res:=z.2) d8a k2 hx e4 e5 rfl e6 fun v' H' A' x4 k4=>by
      obtain⟨B2,k5,sub⟩:=OK.part (τ:=[some v']) (Θ:=[some z.2]) k4 rfl;exact w σ H' ⟨F1,B2,(x.trans x4).own' sub,k5,Kept.refl⟩
     obtain⟨v',i',ee,q⟩:=z';cases ee;exact q
   have t1:=a4m t;refine tG.mono t1 fun a H1 h=>tG.mono (a4m h) fun b H2 h2=>tG.mono (a4m h2) fun c H3 h3=>?_
   obtain⟨F,A,Γ,rs,Γ',k,e,w⟩:=h3;cases e;obtain⟨a',b',c',ee,q⟩:=w [] H3 ⟨F,A,Ext.refl,k,True.intro⟩;cases ee;exact q
  ·cases e
 ·cases e
theorem c6d{f:Str}{v:V}:∀{fs:List (Str×V)},f∉fs.map (·.1)->putF f v fs=fs++[(f,v)]
 |[],_=>rfl
 |(g,x)::fs,h=>by
  have hh:g≠f/\f∉fs.map (·.1):=by
   rw[List.map_cons,List.mem_cons,not_or] at h;exact⟨fun z=>h.1 z.symm,h.2⟩
  show(if g=f then(g,v)::fs else(g,x)::putF f v fs)=_
  rw[if_neg hh.1,c6d hh.2];rfl
theorem a4j(ho:PE X o (tVar i))(hv:PE X value (tG K fe))(c:Cls K Ch)(na:NoAttr K Ch f)(hj:ns[j]?=some f)(hnd:ns.Nodup)(hsz:ns.length<=900)(hm:(m[i]? == some true)=true:=by rfl)(hs:swapsWith value (some (.Attribute o f pos')) pos.line X.env=pure false:=by rfl)(hK:X.K=K:=by rfl):PS X (.Assign [.Attribute o f pos'] value pos) (tS K m W (a4q Ch ns i j fe)):=by
 subst hK;refine(e2w ho hv hs).mono fun D σ H t=>?_
 obtain⟨F,A,Γ,fl,Γ',k,e,w⟩:=t;obtain⟨⟨r1,Γ1⟩,q,ee⟩:=Option.bind_eq_some_iff.mp e;clear e;have e:=ee;clear ee;dsimp only at e;cases r1 with
 |var _=>cases e
 |fld _ _=>cases e
 |own oo=>
  dsimp only at e;split at e
  ·rename_i C ns' ps h1
   split at e
   ·rename_i hh
    obtain⟨rfl,rfl,rfl⟩:=hh;cases e;refine⟨F,A,Γ,_,Γ1,k,q,fun y H1 pp=>?_⟩
    obtain⟨F1,A1,x1,k1,_⟩:=pp;obtain⟨By,Cy,y1,y2,y3⟩:=OwnL.one (σ:=σ) (Γ:=Γ1) k1.os;subst y3;obtain⟨x,Ai,C',g1,g2,g3,g4⟩:=y2.take h1;obtain⟨a,dx,fs,Ap,rfl,rfl,q1,q2,q3,q4⟩:=c4a g2;have kn:f∉fs.map (·.1):=by
     rw[q3];intro mm;obtain⟨jj,hjj⟩:=List.mem_iff_getElem?.1 mm;have lt:jj < ps.length:=by
      have:=(List.getElem?_eq_some_iff.mp hjj).1;rw[List.length_take] at this;omega
     rw[List.getElem?_take_of_lt lt] at hjj;exact absurd (b8p hnd hjj hj) (Nat.ne_of_lt lt)
    have lj:ps.length < ns'.length:=(List.getElem?_eq_some_iff.mp hj).1;have lf:fs.length=ps.length:=by
     have:=congrArg List.length q3;rw[List.length_map,List.length_take] at this;omega
    refine⟨_,g1,a,C,dx,fs,rfl,q1,c,na,by omega,?_⟩
    rw[c6d kn];have p1:(By++Cy).Perm ((a::dx::(Ap++By))++C'):=by
     refine(List.Perm.append_left By g4).trans ?_;rw[<-List.append_assoc];refine List.Perm.append_right C' ?_;refine List.perm_append_comm.trans ?_;exact .refl _
    have nd:((a::dx::(Ap++By))++C').Nodup:=p1.nodup_iff.mp k1.nd;have na1:a∉dx::((Ap++By)++C'):=(List.nodup_cons.mp (by simpa using nd)).1
    have ne:∀b,b∈Ap++By\/b∈C'\/b=dx->b≠a:=fun b hb z=>na1 (by subst z;rcases hb with hb|hb|hb <;> simp_all)
    have kp:∀b u,b≠a->H1 b=some u->upd H1 a (.ins C dx (fs++[(f,y)])) b=some u:=fun b u z g=>by rw[a0v z];exact g
    have w1:OwnL X.K F1 (upd H1 a (.ins C dx (fs++[(f,y)]))) [some (.ref a)] [some (.ins C ns' (ps++[oo]))] (a::dx::(Ap++By)):=by
     refine c6b a2d (kp _ _ (ne dx (.inr (.inr rfl))) q2) ?_ ?_
     ·rw[List.map_append,q3,List.length_append,List.map_cons,List.map_nil,List.length_cons,List.length_nil,List.take_succ,hj];rfl
     ·rw[List.map_append,List.map_append,List.map_append];exact(q4.app y1).keep (Same.refl _) fun b mb u g=>kp b u (ne b (.inl mb)) g
    have g3':OwnL X.K F1 (upd H1 a (.ins C dx (fs++[(f,y)]))) σ (Γ1.set i none) C':=g3.keep (Same.refl _) fun b mb u g=>kp b u (ne b (.inr (.inl mb))) g
    have hi:i < (Γ1.set i none).length:=by rw[List.length_set];exact(List.getElem?_eq_some_iff.mp h1).1
    obtain⟨D2,k4,C3,k5,k6⟩:=OwnL.put w1 i g3' hi;rw[a5a g1,List.set_set] at k4;have s3:SubP D2 (By++Cy):=((SubP.of_perm k5).trans ((SubP.refl _).app (.of_sub k6))).trans (.of_perm p1.symm);have aA:a∈By++Cy:=p1.mem_iff.mpr (by simp)
    refine w σ _ ⟨F1,D2,x1.trans ⟨Same.refl _,fun b u g n=>kp b u (fun z=>n (z ▸ aA)) g,b9d,fun b h=>.inl h,fun b mb=>.inl (s3.mem b mb),fun b C2 dx2 fs2 g=>?_⟩,⟨fun b u g=>kp b u (fun z=>by subst z;rw[k1.fr b aA] at g;cases g) (k1.le b u g),k4,s3.nodup k1.nd,fun b mb=>k1.fr b (s3.mem b mb)⟩,Kept.refl⟩
    by_cases z:b=a
    ·subst z;rw[q1] at g;cases g;exact⟨_,a2d,fun jj f2 p2 hj2=>by rw[List.getElem?_append_left (List.getElem?_eq_some_iff.mp hj2).1];exact hj2⟩
    ·exact⟨fs2,by rw[a0v z];exact g,fun _ _ _ q=>q⟩
   ·cases e
  ·cases e
end
def gMeth(M:GM)(Ch:Addr)(ns:List Str)(i:Nat)(fs:GA):GE:=fun Γ=>match Γ[i]? with
 |some (some (.ins C ns' _))=>if C=Ch/\ns'=ns then gCall M (a0c (gVar i) fs) Γ else none
 |_=>none
def gNX(f:GE):GE:=fun Γ=>(f Γ).bind fun p=>match p.1 with
 |.own o=>match isX o with
  |none=>some p
  |some _=>none
 |_=>none
section
variable {X:Cx} {K:L2.FG} {W:XW} {Ch:Addr} {ns:List Str} {i k n:Nat} {e o:Expr} {es:List Expr} {f:Addr} {fd:FuncData} {ps:List Str} {m:Str} {pos apos p:Pos} {fs:GA} {M:GM} {fa:GE}
theorem c2i(e:gMeth M Ch ns i fs Γ=some (r,Γ')):∃qs,Γ[i]?=some (some (.ins Ch ns qs))/\gCall M (a0c (gVar i) fs) Γ=some (r,Γ'):=by
 unfold gMeth at e;split at e
 ·rename_i C ns' qs h
  split at e
  ·rename_i hh
   obtain⟨rfl,rfl⟩:=hh;exact⟨qs,h,e⟩
  ·cases e
 ·cases e
theorem c2j{qs:List O}{t:List V->Hp->Prop}(k:OK K F H σ Γ A)(h:Γ[i]?=some (some (.ins Ch ns qs)))(hm:m∉ns){rs:List R}{Γ1:Gm}(q:a0c (gVar i) fs Γ=some (rs,Γ1))(w:∀vs H',Post K F H A σ Γ1 rs vs H'->t vs H'):
  tVar i σ H fun x H1=>∃a dx gs,x=.ref a/\H1 a=some (.ins Ch dx gs)/\gs.lookup m=none/\tGA K fs σ H1 fun vs H2=>t (x::vs) H2:=by
 have tt:tG K (gVar i) σ H fun x H1=>tGA K fs σ H1 fun vs H2=>t (x::vs) H2:=a4m ⟨F,A,Γ,rs,Γ1,k,q,w⟩
 obtain⟨x,Ai,C',g1,g2,g3,g4⟩:=k.os.take h;obtain⟨a,dx,gs,Ap,rfl,rfl,q1,q2,q3,q4⟩:=c4a g2;refine⟨_,g1,a,dx,gs,rfl,q1,?_,?_⟩
 ·cases z:gs.lookup m with
  |none=>rfl
  |some v=>
   have:m∈gs.map (·.1):=by
    clear q1 q3 q4 g2 tt w
    induction gs with
    |nil=>cases z
    |cons p gs ih=>
     obtain⟨g,y⟩:=p;rw[List.lookup_cons] at z;by_cases e:m=g
     ·subst e;simp
     ·rw[beq_false_of_ne e] at z;exact List.mem_cons_of_mem _ (ih z)
   rw[q3] at this;exact absurd (List.mem_of_mem_take this) hm
 ·obtain⟨r1,Γ2,rs',e1,e2,rfl⟩:=b2g q;have ev:gVar i Γ=some (.var i,Γ):=by unfold gVar;rw[h]
  rw[ev] at e1;cases e1;refine⟨F,A,Γ,rs',Γ1,k,e2,fun vs H2 pp=>w _ H2 ?_⟩
  obtain⟨F2,A2,x2,k2,hh⟩:=pp;exact⟨F2,A2,x2,⟨k2.le,.skip k2.os,k2.nd,k2.fr⟩,g1,hh⟩
theorem c7x{E:XK}(e:gCall M fs Γ=some (r,Γ'))(w:∀v H',Post K F H A σ Γ' [r] [v] H'->Q v H')(hn:∀rs Γ Γ',fs Γ=some (rs,Γ')->rs.length=n):∃rs Γ1,fs Γ=some (rs,Γ1)/\∀vs H',Post K F H A σ Γ1 rs vs H'->SpM K n M vs H' Q E:=by
 obtain⟨⟨rs,Γ1⟩,q,e⟩:=Option.bind_eq_some_iff.mp e;obtain⟨⟨os,Γ2⟩,q2,e⟩:=Option.bind_eq_some_iff.mp e;obtain⟨⟨o',fin⟩,q3,e⟩:=Option.bind_eq_some_iff.mp e;cases e;refine⟨rs,Γ1,q,fun vs H1 pp=>?_⟩
 obtain⟨F1,A1,x,k1,hh⟩:=pp;obtain⟨A4,k4,back⟩:=b6d k1 hh q2;refine⟨by rw[<-hh.length];exact hn rs Γ Γ1 q,F1,A4,os,o',fin,k4,q3,fun v H' ⟨F5,A5,x5,k5⟩=>?_⟩
 obtain⟨A7,x7,k7⟩:=back F5 H' A5 [some v] [some o'] fin rfl x5 k5;exact w v H' ⟨F5,A7,x.trans x7,k7,True.intro⟩
theorem c7y{oo:O}(e:gCall M fs Γ=some (.own oo,Γ'))(w:PostE K F H A σ Γ' W Q oo)(hn:∀rs Γ Γ',fs Γ=some (rs,Γ')->rs.length=n):∃rs Γ1,fs Γ=some (rs,Γ1)/\∀vs H',Post K F H A σ Γ1 rs vs H'->SpX K n M vs H' Q (EW W σ):=by
 obtain⟨⟨rs,Γ1⟩,q,e⟩:=Option.bind_eq_some_iff.mp e;obtain⟨⟨os,Γ2⟩,q2,e⟩:=Option.bind_eq_some_iff.mp e;obtain⟨⟨o',fin⟩,q3,e⟩:=Option.bind_eq_some_iff.mp e;cases e;refine⟨rs,Γ1,q,fun vs H1 pp=>?_⟩
 obtain⟨F1,A1,x,k1,hh⟩:=pp;obtain⟨A4,k4,back⟩:=b6d k1 hh q2;refine⟨by rw[<-hh.length];exact hn rs Γ Γ1 q,F1,A4,os,o',fin,k4,q3,?_⟩
 unfold PostE at w;cases hx:isX o' with
 |none=>
  rw[hx] at w;intro v H' ⟨F5,A5,x5,k5⟩;obtain⟨A7,x7,k7⟩:=back F5 H' A5 [some v] [some o'] fin rfl x5 k5;exact w v H' ⟨F5,A7,x.trans x7,k7⟩
 |some p=>
  rw[hx] at w;intro dx H' ⟨F5,A5,x5,k5,el⟩;obtain⟨A7,x7,k7⟩:=back F5 H' A5 [] [] fin rfl x5 k5;exact⟨p.1,rfl,w dx H' ⟨F5,A7,x.trans x7,k7,el⟩⟩
theorem e1f(t:tG K (gMeth M Ch ns i fs) σ H Q)(hm:m∉ns)(hn:∀rs Γ Γ',fs Γ=some (rs,Γ')->rs.length=n):tMeth Ch m (SpM K (n+1) M) [] E1 (tVar i) (tGA K fs) σ H Q:=by
 obtain⟨F,A,Γ,r,Γ',k,e,w⟩:=t;obtain⟨qs,h,e⟩:=c2i e;obtain⟨rs,Γ1,q,w'⟩:=c7x (n:=n+1) (E:=E0) e w (a0a hn);obtain⟨x,g1,a,dx,gs,q1,q2,q3,q4⟩:=c2j (t:=fun vs H'=>SpM K (n+1) M vs H' Q E0) k h hm q w'
 exact⟨x,g1,a,dx,gs,q1,q2,q3,by simpa only[List.append_nil] using q4⟩
theorem d6o(t:tGX K W (gMeth M Ch ns i fs) σ H Q)(hm:m∉ns)(hn:∀rs Γ Γ',fs Γ=some (rs,Γ')->rs.length=n):tMeth Ch m (SpX K (n+1) M) [] (EW W) (tVar i) (tGA K fs) σ H Q:=by
 obtain⟨F,A,Γ,r,Γ',k,e,w⟩:=t;obtain⟨qs,h,e⟩:=c2i e;obtain⟨rs,Γ1,q,w'⟩:=c7y (n:=n+1) e w (a0a hn);obtain⟨x,g1,a,dx,gs,q1,q2,q3,q4⟩:=c2j (t:=fun vs H'=>SpX K (n+1) M vs H' Q (EW W σ)) k h hm q w'
 exact⟨x,g1,a,dx,gs,q1,q2,q3,by simpa only[List.append_nil] using q4⟩
structure MethAt (K:L2.FG) (C:Addr) (m qual:Str) (st:Stmt) (f:Addr) (fd:FuncData) (ps:List Str):Prop where
 fn:Fun K m qual st f fd
 mt:Meth K C m f
 bd:Binds K fd ps []
theorem a4g(ho:PE X o (tVar i))(c:Cls X.K Ch)(D:MethAt X.K Ch m qual st f fd ps)(Fn:FnOk X.prog X.w X.K X.mg X.base CX0 k f fd ps (SpM K 1 M))(hr:Room k X.A)(hm:m∉ns)
  (ht:eval (.Call (.Attribute o m apos) [] [] pos) X.env=(do
   let ov <-eval o X.env
   standAt apos.atName
   let (f,first) <-holding [ov] (getMethod ov m pl)
   callWith pos f first (backTo pos (starEach [] X.env)) (backToKw pos (keywordEach [] X.env))):=by rfl) :
  PE X (.Call (.Attribute o m apos) [] [] pos) (tG K (gMeth M Ch ns i gaNil)):=(d5c ho c D.mt Fn hr D.bd .nil pass0 ht).mono fun σ H Q t=>by
 obtain⟨x,g1,a,dx,gs,q1,q2,q3,F,A,Γ,rs,Γ',k,ee,w⟩:=e1f (n:=0) t hm a0e;cases ee;exact⟨x,g1,a,dx,gs,q1,q2,q3,w [] H ⟨F,A,Ext.refl,k,True.intro⟩⟩
theorem a5h(ho:PE X o (tVar i))(c:Cls X.K Ch)(D:MethAt X.K Ch m qual st f fd ps)(Fn:FnOk X.prog X.w X.K X.mg X.base (CX1 X.prog X.w) k f fd ps (SpX K (n+1) M))(hr:Room k X.A)(hp:XPass X W)(hm:m∉ns)(ha:PA X (e::es) (tGA K fs))(hn:∀rs Γ Γ',fs Γ=some (rs,Γ')->rs.length=n)
  (hst:starEach (e::es) X.env=(false,eval e X.env)::starEach es X.env:=by rfl) (hpl:(backTo pos (starEach es X.env)).any (·.1)=false:=by rfl)
  (ht:eval (.Call (.Attribute o m apos) (e::es) [] pos) X.env=(do
   let ov <-eval o X.env
   standAt apos.atName
   let (f,first) <-holding [ov] (getMethod ov m pl)
   callWith pos f first (backTo pos (starEach (e::es) X.env)) (backToKw pos (keywordEach [] X.env))):=by rfl) :
  PE X (.Call (.Attribute o m apos) (e::es) [] pos) (tGX K W (gMeth M Ch ns i fs)):=(d9i ho c D.mt Fn hr D.bd .nil (passW hp) ha hst hpl ht).mono fun _ _ _ t=>d6o t hm hn
theorem c7z(h:∀W,XPass X W->PE X e (tGX K W fa)):PE X e (tG K (gNX fa)):=(h (fun _ _ _ _=>False) fun _ _ _ _ _ _ _ _ _ _ _ z=>z.elim).mono fun σ H Q t=>by
 obtain⟨F,A,Γ,r,Γ',k,e,w⟩:=t;obtain⟨⟨r1,Γ1⟩,q,e⟩:=Option.bind_eq_some_iff.mp e;cases r1 with
 |var _=>cases e
 |fld _ _=>cases e
 |own o=>
  dsimp only at e;cases hx:isX o with
  |some p=>rw[hx] at e;cases e
  |none=>
   rw[hx] at e;cases e;refine⟨F,A,Γ,o,_,k,q,?_⟩;unfold PostE;rw[hx];exact fun v H' ⟨F',A',x,k'⟩=>w v H' ⟨F',A',x,k',True.intro⟩
def newI(r:O×Gm):Option (O×Gm):=match r.1,r.2 with
 |.frz .non,some o::fin=>some (o,fin)
 |_,_=>none
end
end L2
namespace L2
open PySem PySem.Spec PySem.W PySem.Calls PyProof.Rows
variable{P:Program}{w:World}{to:TE}{p apos cpos pos:Pos}{K:Frag}{fo:GE}{vs:List Value}{n x1:Nat}{Q:Value->Shared->Prop}{elts:List Expr}
def TxtK(es:List (TK×V×V)):Prop:=∀e∈es,∃x,e.1=.inr x/\e.2.1=.str x
theorem e1g{es:List (TK×V×V)}{xs:List DictEntry}(p:Paired (EntG w) es xs)(h:TxtK es):∃kvs:List (Str×Value),(∀x∈xs,∃k,(strKind P w).is k x.key=true/\x.hash=(strKind P w).hash k)/\Pairs (strKind P w) xs kvs/\kvs.map (fun p=>TK.inr p.1)=es.map (·.1)/\Vals (es.map (·.2.2)) (kvs.map (·.2)):=by
 induction p with
 |nil=>exact⟨[],by simp,.nil,rfl,.nil⟩
 |@cons e x es xs r t ih=>
  obtain⟨kvs,h1,h2,h3,h4⟩:=ih fun e m=>h e (List.mem_cons_of_mem _ m)
  obtain⟨z,e1,e2⟩:=h e (List.mem_cons_self ..);obtain⟨r1,r2,r3,r4⟩:=r;rw[e2] at r2;obtain⟨t',r2⟩:=r2;have hk:(strKind P w).is z x.key=true:=by rw[r2];show Value.isStrOf z (.str z t')=true;simp[Value.isStrOf]
  refine⟨(z,x.val)::kvs,fun y m=>?_,.cons hk rfl h2,by rw[List.map_cons,List.map_cons,h3,e1],.cons r3 h4⟩
  rcases List.mem_cons.mp m with rfl|m
  ·exact⟨z,hk,by rw[r1,e1];rfl⟩
  ·exact h1 y m
section
variable {X:Cx} {pins:List (Addr×Obj)} {σ:St} {H:Hp} {s:Shared} {d:Addr} {es:List (TK×V×V)} {ep:Nat}
theorem b9s(I:Inv X pins σ H s)(hd:H d=some (.dG es ep))(ht:TxtK es):∃kvs,s.heap.DictAt (strKind X.prog X.w) d kvs ep/\Vals (es.map (·.2.2)) (kvs.map (·.2))/\kvs.map (fun p=>TK.inr p.1)=es.map (·.1)/\kvs.length<=sizeLine/\(d == sysModules)=false:=by
 obtain⟨hz,lo,ob,xs,g1,g5,g2,g3,g4⟩:=(show ObjOk X.prog X.w H s.heap d (.dG es ep) from I.hok d _ hd);obtain⟨kvs,h1,h2,h3,h4⟩:=e1g (P:=X.prog) g3 ht;refine⟨kvs,⟨ob,xs,g1,g5,g2,fun x m=>h1 x (Array.mem_toList_iff.mpr m),h2,?_⟩,h4,h3,?_,lo⟩
 ·rw[<-h3] at g4;rw[show(fun p:Str×Value=>TK.inr p.1)=TK.inr∘(·.1) from rfl,<-List.map_map] at g4
  exact List.Pairwise.of_map _ (fun a b ne z=>ne (by rw[z])) g4
 ·have:=congrArg List.length h3;rw[List.length_map,List.length_map] at this;omega
theorem d1r(I:Inv X pins σ H s)(hd:H d=some (.dG es ep)):s.TypeIs (.ref d) "dict"/\∀a,Value.ref d=.ref a->∃ob,s.heap.get? a=some ob/\ob.dict=none:=
 c9n (x:=.ref d) I rfl (.inr (.inr (.inl ⟨rfl,.inr (.inr ⟨es,ep,hd⟩)⟩)))
theorem c8a{ys:List V}{kvs:List (Str×Value)}{acc:Array Value}(rv:Vals ys (kvs.map (·.2)))(h:ItemsOf (fun i v=>∃k,kvs[i]?=some (k,v)) acc kvs.length):Vals ys acc.toList:=by
 have e:acc.toList=kvs.map (·.2):=by
  apply List.ext_getElem?;intro i;by_cases hi:i < acc.toList.length
  ·have hi':i < acc.size:=by simpa using hi
   obtain⟨k,hk⟩:=h.2 i acc[i] (Array.getElem?_eq_getElem hi');rw[List.getElem?_map,hk,Array.getElem?_toList,Array.getElem?_eq_getElem hi'];rfl
  ·rw[List.getElem?_eq_none (by omega),List.getElem?_eq_none (by rw[List.length_map];have:=h.1;simp at hi;omega)]
 rw[e];exact rv
def e4a(to:TE):TE:=fun σ H Q=>to σ H fun x H1=>∃d es ep,x=.ref d/\H1 d=some (.dG es ep)/\TxtK es/\∀q,H1 q=none->Q (.ref q) (upd H1 q (.lst (es.map (·.2.2))))
theorem d6p{o:Expr}(hgl:Gl X "list")(hml:X.mg "list"=none)(ho:PE X o to)(hc:X.calm=true)
  (hs:starEach [.Call (.Attribute o "values" apos) [] [] cpos] X.env=[(false,eval (.Call (.Attribute o "values" apos) [] [] cpos) X.env)]:=by rfl)
  (hbase:attributeBase o "values" X.env (eval o X.env)=eval o X.env:=by rfl) (hline:(apos.endLine == cpos.line)=true:=by rfl):PE X (.Call (.Name "list" p) [.Call (.Attribute o "values" apos) [] [] cpos] [] pos) (e4a to):=by
 intro pins s σ H Q I h;refine Call_ (b7o I hgl hml a7z (PyProof.Rows.callWith_type1 ?_ hs rfl));rw[hs];show wpAny _ _ (spliced ((false,eval (.Call (.Attribute o "values" apos) [] [] cpos) X.env)::[])) _ _ s;refine Calls.spliced_cons (wpAny_Call_method0_late hbase hline (thn (ho pins s σ H _ I h) fun v s1 hh=>?_))
 obtain⟨x,H1,I1,r1,d,es,ep,rfl,hd,ht,q⟩:=hh;cases r1;obtain⟨t1,t2⟩:=d1r I1 hd;obtain⟨kvs,D1,D2,D3,D4,lo⟩:=b9s I1 hd ht;refine⟨"dict","dict.values",PySem.F.plainAttrs_dict,PySem.F.slot_dict_values,PySem.F.type_dict_values,t1,t2,Calls.callWith_builtin rfl (PySem.evalArgs_none ?_)⟩;refine call_meetsIn PySem.F.slot_dict_values t1 PySem.F.entry_dict_values (PySem.F.args_dict_values_1 _) (meets_dict_values (strKind X.prog X.w) d lo) ⟨⟨kvs,D1.dictOf⟩,?_⟩;refine Calls.spliced_nil ?_;refine kdl_call (kdl_values (knd:=strKind X.prog X.w) (r:=s1.heap.objs.size) (d:=d) (kvs:=kvs) (ep:=ep)) (I1.ok.hd hc) ⟨⟨_,Heap.get?_push_size _ rfl,rfl,rfl⟩,D1.push _⟩ D4 fun h' tk acc c kp hg hi=>?_
 have sz:(s1.heap.push { cls:=.type "dict_values",data:=.fields #[.ref d]}).objs.size=s1.heap.objs.size+1:=by simp[Heap.push]
 rw[show({ s1 with heap:=s1.heap.push { cls:=.type "dict_values",data:=.fields #[.ref d]}}:Shared).heap.objs.size=s1.heap.objs.size+1 from sz] at hg ⊢;have rv:=c8a D2 hi;refine⟨.ref (s1.heap.objs.size+1),_,I1.laid (t':=tk) (fun b o e=>kp b o (Heap.get?_push_of_some _ e)) (Nat.le_succ _) (show ObjOk X.prog X.w _ h' _ (.lst (es.map (·.2.2))) from⟨?_,acc.toList,c,rv,by simpa using hg⟩),rfl,q _ (I1.hok.fresh (Nat.le_succ _))⟩
 have:=congrArg List.length D3;rw[List.length_map,List.length_map] at this;rw[List.length_map];omega
def isTxt:TK->Bool
 |.inr _=>true
 |_=>false
def oVals:List O->Option O
 |[.dct kvs]=>if kvs.all (fun p=>isTxt p.1)=true then(frzL (kvs.map (·.2))).map fun ds=>.lst (ds.map .frz) else none
 |_=>none
theorem c6e{K:Frag}{F:Hp}:∀{ws:List (TK×V×V)} {ks:List TK},ws.map (·.1)=ks->RepL K F (ws.map (·.2.1)) (ks.map (·.d))->ks.all isTxt=true->TxtK ws
 |[],_,_,_,_=>fun e m=>nomatch m
 |w::ws,[],e,_,_=>by cases e
 |w::ws,k::ks,e,r,a=>by
  rw[List.map_cons,List.cons.injEq] at e;obtain⟨e1,e2⟩:=e;rw[List.all_cons,Bool.and_eq_true] at a;rw[List.map_cons,List.map_cons] at r;intro y m;rcases List.mem_cons.mp m with rfl|m
  ·cases k with
   |inr x=>
    refine⟨x,e1,?_⟩;have:=r.inv.1;obtain⟨y1,y2,y3⟩:=y;dsimp only at this ⊢;cases this with
    |flat z _=>cases z;rfl
   |inl _=>cases a.1
   |tp _=>cases a.1
  ·exact c6e e2 r.inv.2 a.2 y m
theorem e1h:OpOk K (fun xs H Q=>∃d es ep,xs=[.ref d]/\H d=some (.dG es ep)/\TxtK es/\∀q,H q=none->Q (.ref q) (upd H q (.lst (es.map (·.2.2))))) oVals:=by
 intro F H vs os o Q le see e res;unfold oVals at e;split at e
 ·rename_i kvs
  split at e
  ·rename_i ha
   obtain⟨x,B,rfl,h1⟩:=see.one;obtain⟨ds,q1,q2⟩:=Option.map_eq_some_iff.mp e;subst q2;cases h1 with
   |@dct a ws _ ep A1 B1 _ _ hd hk rk ch t=>
    rw[show kvs.map (fun p=>p.1.d)=(kvs.map (·.1)).map (·.d) by rw[List.map_map];rfl] at rk
    have ch':OwnL K F H ((ws.map (·.2.2)).map some) ((kvs.map (·.2)).map some) A1:=by rw[List.map_map,List.map_map];exact ch
    exact⟨a,ws,ep,rfl,hd,c6e hk rk (by rw[List.all_map];exact ha),fun q hq=>res.lst (a9u ch' q1) hq⟩
  ·cases e
 ·cases e
theorem d6q{o:Expr}(hml:X.mg "list"=none)(ho:PE X o (tG K fo))(hc:X.calm=true:=by rfl)(hgl:Gl X "list":=by rfl)
  (hs:starEach [.Call (.Attribute o "values" apos) [] [] cpos] X.env=[(false,eval (.Call (.Attribute o "values" apos) [] [] cpos) X.env)]:=by rfl)
  (hbase:attributeBase o "values" X.env (eval o X.env)=eval o X.env:=by rfl) (hline:(apos.endLine == cpos.line)=true:=by rfl):PE X (.Call (.Name "list" p) [.Call (.Attribute o "values" apos) [] [] cpos] [] pos) (tG K (gOp oVals (a0c fo gaNil))):=
 (d6p hgl hml ho hc hs hbase hline).mono fun σ H Q t=>by
  have t1:=a4m (d0b e1h t);refine tG.mono t1 fun v H1 h=>?_
  obtain⟨F,A,Γ,rs,Γ',k,e,w⟩:=h;cases e;obtain⟨d,es,ep,ee,r⟩:=w [] H1 ⟨F,A,Ext.refl,k,True.intro⟩;cases ee;exact⟨d,es,ep,rfl,r⟩
end
section
variable {prog:Program} {w:World} {A:Around} {E:Value->Shared->Prop} {s:Shared}
theorem d8j(h:vs.length < 2):(arrOf (SortSt.mk' general' (vs.toArray.zip vs.toArray) #[] 7 none)).map (·.2)=vs.toArray:=by
 show((vs.toArray.zip vs.toArray).map (·.2))=vs.toArray
 match vs,h with
 |[],_=>simp
 |[_],_=>simp
theorem c8b{a:Addr}{P:Fin->Shared->Prop}(ho:s.heap.get? a=some (seqObj "list" vs.toArray n))(h1:vs.length < 2)
  (h:P (.done (.ret .none)) { s with heap:=sortedHeap s.heap a vs vs.toArray}):wpAny (model prog w) A (Builtin.«list.sort» ⟨[.ref a],[]⟩) P E s:=by
 rw[list_sort_plain];have ha:a < s.heap.objs.size:=Heap.lt_size ho;have hz:vs.length<=sizeLine:=by rw[sizeLine_eq];omega
 refine wpAny_bind (listItems_at ho rfl ?_);refine wpAny_bind (listUpdate_at ho rfl ?_ (by rw[List.size_toArray];exact hz) (Nat.zero_le _))
 obtain⟨e1,ho1⟩:∃e1,(s.heap.update a (Obj.mapSeq fun _=>#[])).get? a=some (seqObj "list" #[] e1):=⟨_,get?_update_seq ho (fun _=>#[])⟩
 refine wpAny_bind (seqEpoch_at ho1 rfl ?_);refine wpAny_bind (wpAny_newTuple ?_ (by show vs.length<=_;exact hz))
 refine wpAny_bind (wpAny_newList ?_ (Nat.zero_le _));refine wpAny_holding ?_;have ho6:(((s.heap.update a (Obj.mapSeq fun _=>#[])).push (seqObj "tuple" vs.toArray 0)).push (seqObj "list" #[] 0)).get? a=some (seqObj "list" #[] e1):=by
  rw[Heap.get?_push_ne _ _ _ (by rw[size_push',Heap.size_update];exact Nat.ne_of_lt (Nat.lt_succ_of_lt ha)),Heap.get?_push_ne _ _ _ (by rw[Heap.size_update];exact Nat.ne_of_lt ha)]
  exact ho1
 show wpAny (model prog w) A _ P E { s with heap:=((s.heap.update a (Obj.mapSeq fun _=>#[])).push (seqObj "tuple" vs.toArray 0)).push (seqObj "list" #[] 0)}
 dsimp only;have h2:vs.toArray.size < 2:=by simpa using h1
 rw[if_pos h2,if_pos h2];refine wpAny_bind (wpAny_pure ?_);rw[StateT.run_pure];refine wpAny_bind (wpAny_pure ?_);dsimp only;refine wpAny_bind (seqEpoch_at ho6 rfl ?_);refine wpAny_bind (listUpdate_at ho6 rfl ?_ (Nat.zero_le _) (by rw[d8j h1,List.size_toArray];first|exact hz|exact Nat.le_succ_of_le hz))
 simp only[bne_self_eq_false,Bool.false_eq_true,if_false];rw[d8j h1];exact wpAny_pure h
theorem d6r{h0:Heap}(h1:vs.length < 2)(h:∀h' c,(∀b o,h0.get? b=some o->h'.get? b=some o)->h'.get? h0.objs.size=some (seqObj "list" vs.toArray c)->Q (.ref h0.objs.size) { s with heap:=h'}):
  wpAny (model prog w) A (call (.builtin "list.sort") [.ref h0.objs.size]) (fun _ s'=>Q (.ref h0.objs.size) s') E { s with heap:=h0.push (seqObj "list" vs.toArray 0)}:=by
 have ho:(h0.push (seqObj "list" vs.toArray 0)).get? h0.objs.size=some (seqObj "list" vs.toArray 0):=Heap.get?_push_size _ rfl;refine wpAny_call_entry slot_list_sort ⟨_,ho,rfl⟩ entry_list_sort ?_ (args_list_sort _);refine c8b (s:={ s with heap:=h0.push (seqObj "list" vs.toArray 0)}) ho h1 ⟨_,rfl,?_⟩;have lt:h0.objs.size < (h0.push (seqObj "list" vs.toArray 0)).objs.size:=Heap.lt_size ho;obtain⟨e1,ho1⟩:∃e1,((h0.push (seqObj "list" vs.toArray 0)).update h0.objs.size (Obj.mapSeq fun _=>#[])).get? h0.objs.size=some (seqObj "list" #[] e1):=⟨_,get?_update_seq ho (fun _=>#[])⟩
 have ho6:((((h0.push (seqObj "list" vs.toArray 0)).update h0.objs.size (Obj.mapSeq fun _=>#[])).push (seqObj "tuple" vs.toArray 0)).push (seqObj "list" #[] 0)).get? h0.objs.size=some (seqObj "list" #[] e1):=Heap.get?_push_of_some _ (Heap.get?_push_of_some _ ho1)
 have ho7:=get?_update_seq ho6 (fun _=>vs.toArray)
 refine h _ _ (fun b o e=>?_) ho7
 have nb:b≠h0.objs.size:=Nat.ne_of_lt (Heap.lt_size e);unfold sortedHeap;rw[Heap.get?_update_ne _ _ _ _ nb];refine Heap.get?_push_of_some _ (Heap.get?_push_of_some _ ?_);rw[Heap.get?_update_ne _ _ _ _ nb];exact Heap.get?_push_of_some _ e
theorem d1s{P:List Value->Prop}{r:Addr}(h1:∀vs,P vs->vs.length < 2)(hc:∀R:List Value->Shared->Prop,(∀vs (h':Heap) (tk:Nat),P vs->(∀b o,s.heap.get? b=some o->h'.get? b=some o)->R vs { s with heap:=h',toks:=tk})->wpAny (model prog w) A.in1 (collect (.ref r)) R E s)
  (h:∀vs (h0:Heap) (tk:Nat),P vs->(∀b o,s.heap.get? b=some o->h0.get? b=some o)->∀(h':Heap) (c:Nat),(∀b o,h0.get? b=some o->h'.get? b=some o)->h'.get? h0.objs.size=some (seqObj "list" vs.toArray c)->Q (.ref h0.objs.size) { s with heap:=h',toks:=tk}):wpAny (model prog w) A (call (.builtin "sorted") [.ref r]) Q E s:=by
 refine Calls.call_function_entry kind_sorted plain_sorted entry_sorted (args_sorted1 _) ?_;unfold Builtin.«sorted»;refine wpAny_bind (m:=checkCount "sorted" 1 1 _) (wpAny_pure ?_);refine wpAny_bind (hc _ fun vs h' tk hP kp=>?_)
 have hl:=h1 vs hP;refine wpAny_bind (wpAny_newList ?_ (by rw[sizeLine_eq];omega))
 refine wpAny_bind (wpAny_holding (wpAny_mono (d6r (s:={ s with heap:=h',toks:=tk}) (h0:=h') (vs:=vs) (Q:=fun v s'=>Q v s') hl fun h2 c kp2 hg=>h vs h' tk hP kp h2 c kp2 hg) (fun _ s' x=>?_) fun _ _ e=>e))
 exact wpAny_pure ⟨_,rfl,x⟩
end
section
variable {X:Cx} {K:Frag}
theorem d1t:bootBuiltins "sorted"=some (.builtin "sorted"):=by decide +kernel
theorem c6f:∀{ys:List V} {us:List Value},ys.length=us.length->(∀(j:Nat) (y:V) (u:Value),ys[j]?=some y->us[j]?=some u->RelV y u)->Vals ys us
 |[],[],_,_=>.nil
 |[],_::_,h,_=>by simp at h
 |_::_,[],h,_=>by simp at h
 |y::ys,u::us,h,r=>.cons (r 0 y u rfl rfl) (c6f (by simpa using h) fun j y' u' e1 e2=>r (j+1) y' u' (by simpa using e1) (by simpa using e2))
def d8k(K:Frag):List V->Hp->VK->Prop:=fun xs H Q=>∃a ys,xs=[.ref a]/\(SqL K H a ys\/∃es ep,H a=some (.dG es ep)/\TxtK es/\ys=es.map (·.2.1))/\ys.length < 2/\∀l,H l=none->Q (.ref l) (upd H l (.lst ys))
theorem c2k(hc:X.calm=true):CallR X (.builtin "sorted") (d8k X.K):=by
 intro pins s σ H xs us Q I r h;obtain⟨a,ys,rfl,hq,hl,q⟩:=h;obtain⟨u,rfl,ru⟩:=Vals.one r;cases ru;refine d1s (P:=Vals ys) (fun vs rv=>by have:=rv.length;omega) ?_ fun vs h0 tk rv kp h' c kp2 hg=>?_
 ·intro R hR;rcases hq with hq|⟨es,ep,hd,ht,rfl⟩
  ·obtain⟨its,rv,pl,hz⟩:=I.list hq;refine collect_list pl.isList (hR its _ s.toks rv fun b o e=>?_) (by have:=rv.length;rw[sizeLine_eq];omega)
   have nb:b≠s.heap.objs.size:=Nat.ne_of_lt (Heap.lt_size e);rw[Heap.get?_update_ne _ _ _ _ nb];exact Heap.get?_push_of_some _ e
  ·obtain⟨kvs,D1,D2,D3,D4,lo⟩:=b9s I hd ht;have l1:kvs.length=es.length:=by have:=congrArg List.length D3;simpa using this
   refine kdu_collect (kdl_dict (knd:=strKind X.prog X.w) (kvs:=kvs) (ep:=ep) lo) (I.ok.hd hc) D1 D4 fun h' tk acc kp hi=>hR _ h' tk ?_ kp
   refine c6f (by have:=hi.1;rw[List.length_map,<-l1,<-this];simp) fun j y u e1 e2=>?_
   rw[List.getElem?_map] at e1;obtain⟨e,e3,rfl⟩:=Option.map_eq_some_iff.mp e1;obtain⟨z,z1,z2⟩:=ht e (List.mem_of_getElem? e3);obtain⟨k,v,k1,k2⟩:=hi.2 j u (by rw[<-Array.getElem?_toList];exact e2)
   have k3:(kvs.map (fun p=>TK.inr p.1))[j]?=(es.map (·.1))[j]?:=by rw[D3]
   rw[List.getElem?_map,List.getElem?_map,k1,e3] at k3;have k4:TK.inr k=e.1:=Option.some.inj k3;rw[z1] at k4;cases k4;rw[z2];exact Value.isStrOf_shape k2
 ·have e:=rv.length;have I0:Inv X pins σ H { s with heap:=h0,toks:=tk}:=I.kept kp;have I1:=I0.laid (h':=h') (t':=tk) (o:=.lst ys) kp2 (Nat.le_refl _) (show ObjOk X.prog X.w _ h' _ (.lst ys) from⟨by rw[sizeLine_eq];omega,vs,c,rv,hg⟩)
  exact⟨.ref h0.objs.size,_,I1,rfl,q _ (I0.hok.fresh (Nat.le_refl _))⟩
def b6h:List O->Option O
 |[.dct kvs]=>if kvs.all (fun p=>isTxt p.1)=true/\kvs.length < 2 then some (.lst ((kvs.map (·.1.d)).map .frz)) else none
 |[a]=>(listD a).bind fun ds=>if ds.length < 2 then some (.lst (ds.map .frz)) else none
 |_=>none
theorem d6s:OpOk K (d8k K) b6h:=by
 intro F H vs os o Q le see e res;unfold b6h at e;split at e
 ·rename_i kvs
  split at e
  ·rename_i ha
   cases e;obtain⟨x,B,rfl,h1⟩:=see.one;cases h1 with
   |@dct a ws _ ep A1 B1 _ _ hd hk rk ch t=>
    have hl:ws.length=kvs.length:=by have:=congrArg List.length hk;simpa using this
    refine⟨a,ws.map (·.2.1),rfl,.inr ⟨ws,ep,hd,c6e hk (by rw[List.map_map];exact rk) (by rw[List.all_map];exact ha.1),rfl⟩,by rw[List.length_map,hl];exact ha.2,fun q hq=>res.lst rk hq⟩
  ·cases e
 ·rename_i a _
  obtain⟨ds,q1,q2⟩:=Option.bind_eq_some_iff.mp e;split at q2
  ·cases q2;obtain⟨x,B,rfl,h1⟩:=see.one;obtain⟨p,ws,rfl,sq,r⟩:=a8b le h1 q1;exact⟨p,ws,rfl,.inl sq,by rw[r.length];assumption,fun l hl=>res.lst r hl⟩
  ·cases q2
 ·cases e
theorem b8e{e:Expr}{fs:GA}(hm:X.mg "sorted"=none)(ha:PA X [e] (tGA K fs))(hc:X.calm=true:=by rfl)(hg:Gl X "sorted":=by rfl)(he:starEach [e] X.env=(false,eval e X.env)::starEach [] X.env:=by rfl)(hpl:(backTo pos (starEach [] X.env)).any (·.1)=false:=by rfl)(hK:X.K=K:=by rfl):PE X (.Call (.Name "sorted" p) [e] [] pos) (tG K (gOp b6h fs)):=by
 subst hK;exact a1k (c2k hc) d6s hm d1t ha hg (by decide) (by decide) he hpl
end
theorem b3t:entryFor table "dict_itemiterator.__iter__"=some Builtin.«dict_keyiterator.__iter__»:=
 entryFor_alias (id':="dict_keyiterator.__iter__") (by kernel_rfl) rfl (by decide +kernel) (by kernel_rfl)
section
variable {prog:Program} {w:World} {A:Around} {E:Value->Shared->Prop} {s:Shared} {it d:Addr} {kvs:List (Str×Value)} {ep:Nat}
theorem b3j{i ep:Nat}{ok ov:Value}(hit:IsItemIter s.heap it d i n ep ok ov)(h:Q (.ref it) s):wpAny (model prog w) A (pyIter (.ref it)) Q E s:=by
 have hT:s.TypeIs (.ref it) "dict_itemiterator":=⟨_,hit,rfl⟩;refine wpAny_pyIter_slot hT PySem.F.slot_dict_itemiterator_iter (wpAny_call_entry PySem.F.slot_dict_itemiterator_iter hT b3t ?_ (PySem.F.args_dict_itemiterator_iter_1 _));show wpAny _ _ (ret (.ref it)) _ _ s;exact wpAny_pure ⟨_,rfl,"dict_itemiterator",_,hT,PySem.F.slot_dict_itemiterator_next.lookup,h⟩
theorem c4b(hh:A.handled=none)(it d:Addr)(hne:d≠it)(kvs:List (Str×Value))(ep:Nat):
  WalksT prog w A it [it,d] [it] kvs.length (fun i vals=>∃k x key,kvs[i]?=some (k,x)/\(PySem.strKind prog w).is k key=true/\vals=#[key,x])
   (fun i h=>(∃ok ov,IsItemIter h it d i kvs.length ep ok ov)/\h.DictAt (PySem.strKind prog w) d kvs ep)
   (fun i T h=>(∃ok ov,IsItemIterOut h it d (i+1) kvs.length ep ok ov T)/\T≠it/\h.DictAt (PySem.strKind prog w) d kvs ep) where
 sub:=fun b hb=>by simp at hb;simp[hb]
 frame:=fun i h h' ⟨⟨ok,ov,a⟩,b⟩ k=>⟨⟨ok,ov,k it (by simp) _ a⟩,b.at' fun o e=>k d (by simp) o e⟩
 item:=fun i s Q E hi ⟨⟨ok,ov,a⟩,b⟩ hQ=>by
  obtain⟨⟨k,x⟩,hx⟩:∃p,kvs[i]?=some p:=⟨kvs[i],by simp[hi]⟩
  have lt:it < s.heap.objs.size:=Heap.lt_size a;refine wpAny_pyNext_items_item a b hx fun key h' hk o1 o2 o3 kp=>?_
  exact hQ s.heap.objs.size #[key,x] h' s.toks ⟨k,x,key,hx,hk,rfl⟩ (Nat.le_refl _) ⟨_,o2,rfl,_,rfl⟩ ⟨⟨_,_,o1⟩,Nat.ne_of_gt lt,b.at' fun o e=>kp d o hne e⟩ fun b o hb e=>kp b o (fun z=>hb (by simp[z])) e
 go:=fun elts k pos i T s Q E ⟨⟨ok,ov,a⟩,b,c⟩ hQ=>wpAny_letOwnedTupleGo_items a fun h' a' sb=>hQ h' ⟨⟨ok,ov,a'⟩,c.at' fun o e=>(sb.2 d hne).trans e⟩ fun b o hb e=>(sb.2 b (fun z=>hb (by simp[z]))).trans e
 apart:=fun i T h ⟨_,b,_⟩=>by simpa using b
 done:=fun s Q E ⟨⟨ok,ov,a⟩,b⟩ hQ=>wpAny_pyNext_items_end hh a b (by simp) fun h' eb=>hQ h' s.toks fun b o hb e=>eb b o (fun z=>hb (by simp[z])) e
 self:=fun i s Q E ⟨⟨ok,ov,a⟩,_⟩ hQ=>b3j a hQ
end
def valI(es:List (TK×V×V))(i:Nat)(ws:List V):Prop:=∃e,es[i]?=some e/\ws=[e.2.1,e.2.2]
theorem c8c{it d:Addr}(hne:d≠it)(es:List (TK×V×V))(ep:Nat):
  Turn P w K (.Tuple elts x1 pos) (ItP (fun H=>H d=some (.dG es ep)/\TxtK es) es.length (valI es)) [it] it (fun i h=>i<=es.length/\∃ok ov,IsItemIter h it d i es.length ep ok ov):=by
 refine c2g (FP:=[it]) (wr:=[it]) (by simp) (fun b hb=>hb) (fun i h st b hb=>?_) (fun i h h' st k=>?_) (fun X hP hw hK hc pins s σ H I hS=>?_) (fun A i s Q E st h=>?_)
 ·obtain⟨ok,ov,a⟩:=st;cases List.mem_singleton.mp hb;exact⟨_,a,fun v z=>by cases z⟩
 ·obtain⟨ok,ov,a⟩:=st;exact⟨ok,ov,k it (by simp) _ a⟩
 ·subst hP hw hK;obtain⟨kvs,D1,D2,D3,D4,lo⟩:=b9s I hS.1 hS.2;have l1:kvs.length=es.length:=by have:=congrArg List.length D3;simpa using this
  have W:=c4b (prog:=X.prog) (w:=X.w) (A:=X.A) (I.ok.hd hc) it d hne kvs ep;rw[l1] at W;refine⟨_,_,_,_,W,fun i st=>⟨st,D1⟩,fun i h st=>st.1,fun i vals hp=>?_⟩
  obtain⟨k,x,key,k1,k2,rfl⟩:=hp;have hi:i < es.length:=by have:=(List.getElem?_eq_some_iff.mp k1).1;omega
  have e3:es[i]?=some es[i]:=List.getElem?_eq_getElem hi;refine⟨[es[i].2.1,es[i].2.2],⟨_,e3,rfl⟩,.cons ?_ (.cons ?_ .nil),by show 2<=10;decide⟩
  ·obtain⟨z,z1,z2⟩:=hS.2 es[i] (List.getElem_mem hi);have k3:(kvs.map (fun p=>TK.inr p.1))[i]?=(es.map (·.1))[i]?:=by rw[D3]
   rw[List.getElem?_map,List.getElem?_map,k1,e3] at k3;have k4:TK.inr k=es[i].1:=Option.some.inj k3;rw[z1] at k4;cases k4;rw[z2];exact Value.isStrOf_shape k2
  ·obtain⟨u,u1,u2⟩:=D2.get (i:=i) (x:=es[i].2.2) (by rw[List.getElem?_map,e3];rfl)
   rw[List.getElem?_map,k1] at u1;cases u1;exact u2
 ·obtain⟨ok,ov,a⟩:=st;exact b3j a h
def d8l(to:TE):TI:=fun σ H R=>to σ H fun x H1=>∃d es ep,x=.ref d/\H1 d=some (.dG es ep)/\TxtK es/\R (ItP (fun H=>H d=some (.dG es ep)/\TxtK es) es.length (valI es)) H1
section
variable {X:Cx} {K:Frag}
theorem d6t{tpos:Pos}{o:Expr}(ho:PE X o to)(hbase:attributeBase o "items" X.env (eval o X.env)=eval o X.env:=by rfl)(hline:(apos.endLine == cpos.line)=true:=by rfl):
  PI X (.Tuple elts x1 tpos) (.Call (.Attribute o "items" apos) [] [] cpos) (d8l to):=by
 intro pins s σ H R I h;refine wpAny_Call_method0_late hbase hline (thn (ho pins s σ H _ I h) fun v s1 hh=>?_)
 obtain⟨x,H1,I1,r1,d,es,ep,rfl,hd,ht,q⟩:=hh;cases r1;obtain⟨t1,t2⟩:=d1r I1 hd;obtain⟨kvs,D1,D2,D3,D4,lo⟩:=b9s I1 hd ht;have l1:kvs.length=es.length:=by have:=congrArg List.length D3;simpa using this
 have ld:d < s1.heap.objs.size:=D1.lt_size;refine⟨"dict","dict.items",PySem.F.plainAttrs_dict,PySem.F.slot_dict_items,PySem.F.type_dict_items,t1,t2,Calls.callWith_builtin rfl (PySem.evalArgs_none ?_)⟩;refine call_meetsIn PySem.F.slot_dict_items t1 PySem.F.entry_dict_items (PySem.F.args_dict_items_1 _) (meets_dict_items (PySem.strKind X.prog X.w) d lo) ⟨⟨kvs,D1.dictOf⟩,?_⟩;refine wpAny_pyIter_items (knd:=PySem.strKind X.prog X.w) (v:=s1.heap.objs.size) (d:=d) (kvs:=kvs) (ep:=ep) ⟨_,Heap.get?_push_size _ rfl,rfl,rfl⟩ (D1.push _) ?_;have sz:(s1.heap.push { cls:=.type "dict_items",data:=.fields #[.ref d]}).objs.size=s1.heap.objs.size+1:=by simp[Heap.push]
 have hg:=Heap.get?_push_size (s1.heap.push { cls:=.type "dict_items",data:=.fields #[.ref d]}) (o:={ cls:=.type "dict_itemiterator",data:=.fields #[.none,.bool false,.ref d,.int 0 0,.int kvs.length 0,.int ep 0,.none,.none]}) rfl;rw[l1] at hg ⊢;refine⟨(s1.heap.push { cls:=.type "dict_items",data:=.fields #[.ref d]}).objs.size,[(s1.heap.push { cls:=.type "dict_items",data:=.fields #[.ref d]}).objs.size],_,_,H1,rfl,I1.kept (t':=s1.toks) fun b o e=>Heap.get?_push_of_some _ (Heap.get?_push_of_some _ e),c8c (it:=(s1.heap.push { cls:=.type "dict_items",data:=.fields #[.ref d]}).objs.size) (d:=d) (by rw[sz];exact Nat.ne_of_lt (Nat.lt_succ_of_lt ld)) es ep,⟨Nat.zero_le _,.none,.none,hg⟩,fun b hb=>?_,q⟩
 cases List.mem_singleton.mp hb;have hb':s1.heap.objs.size<=(s1.heap.push { cls:=.type "dict_items",data:=.fields #[.ref d]}).objs.size:=by rw[sz];exact Nat.le_succ _
 exact I1.fpOk hb' (I1.hok.fresh hb')
theorem d1u{Src:Hp->Prop}{val:Nat->List V->Prop}{g:TG}{tt:TT}{te:TE}{τ:St}{H:Hp}{Fin:List V->Hp->Prop}(Pv:Nat->St->List V->Hp->Prop)(h0:Pv 0 τ [] H)(hl:∀i τ acc H,i<=n->Pv i τ acc H->Src H)
  (hs:∀i p ws τ acc H,i < n->H p=none->val i ws->Pv i τ acc H->g (.ref p) τ (upd H p (.tup ws)) fun τ2 H2=>tt τ2 H2 fun b H3=>if b=true then te τ2 H3 fun v H4=>acc.length < sizeLine/\Pv (i+1) τ2 (acc++[v]) H4 else Pv (i+1) τ2 acc H3)
  (hd:∀τ acc H,Pv n τ acc H->Fin acc H):CompW (ItP Src n val) g tt te τ H Fin:=by
 refine⟨n,Pv,h0,fun i τ acc H hi p=>?_⟩
 have q:=hl i τ acc H hi p;by_cases hlt:i < n
 ·refine .inr ⟨hlt,⟨hlt,q⟩,fun x H' y=>?_⟩
  obtain⟨pp,ws,rfl,hn,hv,rfl⟩:=y;exact hs i pp ws τ acc H hlt hn hv p
 ·have e:i=n:=by omega
  subst e;exact .inl ⟨⟨Nat.le_refl _,q⟩,hd τ acc H p⟩
def srcIt(fo:GE)(cap:List Nat):Gm->Option (List D×Gm):=fun Γ=>(fo Γ).bind fun p=>match p.1 with
 |.fld i j=>if i∈cap then none else match p.2[i]? with
  |some (some (.ins _ _ ps))=>(match ps[j]? with
   |some (.dct kvs)=>if kvs.all (fun p=>isTxt p.1)=true then(frzL (kvs.map (·.2))).map fun ds=>(List.zipWith (fun k d=>D.tup [k,d]) (kvs.map (·.1.d)) ds,p.2) else none
   |_=>none)
  |_=>none
 |_=>none
theorem d1v{cap:List Nat}:SrcOk K cap (d8l (tG K fo)) (srcIt fo cap):=by
 intro σ F H A Γ Γ1 ds R k e w;unfold srcIt at e;obtain⟨⟨r,Γ2⟩,q,e⟩:=Option.bind_eq_some_iff.mp e;dsimp only at e;split at e
 ·rename_i i j
  split at e
  ·cases e
  ·rename_i hi
   split at e
   ·rename_i C ns ps h1
    split at e
    ·rename_i kvs h2
     split at e
     ·rename_i ha
      obtain⟨ds',q1,q2⟩:=Option.map_eq_some_iff.mp e;cases q2;refine⟨F,A,Γ,_,_,k,q,fun v H1 pp=>?_⟩
      obtain⟨F1,A1,x,k1,hh⟩:=pp;obtain⟨hf,_⟩:=hh;obtain⟨k2,x2⟩:=k1.sub (σ':=σ) (Γ':=Γ1) (by cases k1.os with|skip t=>exact t) (SubP.refl _)
      obtain⟨x0,Ai,C',g1,g2,g3,g4⟩:=k2.os.take h1;obtain⟨a,dx,fs,f',v',Ac,B1,rfl,z1,z2,z3,z4,_⟩:=b6e g2 (List.nodup_append.mp (g4.nodup_iff.mp k2.nd)).1 h2;obtain⟨a',C2,dx',fs2,f2,pd,y1,y2,y3,rfl⟩:=id hf;rw[g1] at y1;cases y1;rw[z1] at y2;cases y2;rw[z3] at y3;cases y3;cases z4 with
      |@dct _ ws _ ep Aw _ _ _ hd hk rk ch t=>
       have ht:TxtK ws:=c6e hk (by rw[List.map_map];exact rk) (by rw[List.all_map];exact ha)
       have ch':OwnL K F1 H1 ((ws.map (·.2.2)).map some) ((kvs.map (·.2)).map some) Aw:=by rw[List.map_map,List.map_map];exact ch
       have rv:=a9u ch' q1;have hl:ws.length=(List.zipWith (fun k d=>D.tup [k,d]) (kvs.map (·.1.d)) ds').length:=by
        have a1:=rk.length;have a2:=rv.length;simp only[List.length_map] at a1 a2;rw[List.length_zipWith,List.length_map,<-a1,<-a2,Nat.min_self]
       refine⟨_,ws,ep,rfl,hd,ht,w _ H1 F1 A1 (x.trans x2) k2 fun g tt te τ Fin Pv h0 hF hs hdn=>?_⟩
       refine d1u Pv h0 (fun i' τ acc H hi' p=>⟨(hF i' τ acc H p).2 i _ _ hi (.inr ⟨C,ns,ps,j,kvs,h1,h2,hf⟩) hd,ht⟩) (fun i' p us τ acc H hi' hp hv pv=>?_) (fun τ acc H p=>hdn τ acc H (by rw[<-hl];exact p))
       obtain⟨ee,e3,rfl⟩:=hv;have a1:i' < (kvs.map (·.1.d)).length:=by have:=rk.length;rw[List.length_map] at this;omega
       have a2:i' < ds'.length:=by have:=rv.length;rw[List.length_map] at this;omega
       obtain⟨u1,u2,u3⟩:=rk.get (i:=i') (List.getElem?_eq_getElem a1);obtain⟨u4,u5,u6⟩:=rv.get (i:=i') (List.getElem?_eq_getElem a2);rw[List.getElem?_map,e3] at u2 u5;cases u2;cases u5;refine hs i' (.tup [(kvs.map (fun p:TK×O=>p.1.d))[i'],ds'[i']]) _ τ acc H _ (b9g ?_) (.inr ⟨p,[ee.2.1,ee.2.2],[(kvs.map (fun p:TK×O=>p.1.d))[i'],ds'[i']],rfl,rfl,hp,rfl,fun F' s=>((u3.mono s).append (u6.mono s))⟩) pv
       rw[List.getElem?_zipWith,List.getElem?_eq_getElem a1,List.getElem?_eq_getElem a2]
     ·cases e
    ·cases e
   ·cases e
 ·cases e
end
section
variable {K:Frag} {mg:Str->Option Value} {tab:List (Str×Addr)} {L B0 fI:Addr}
theorem ErrC.exm{C C':Addr}{bm bm':List Value}{i i':Option Value}(G:ErrC K C bm i)(G':ErrC K C' bm' i')(h:(Value.ref C'::bm').contains (.type "BaseException")=true):exmOne K (.ref C) (.ref C')=some ((Value.ref C::bm).contains (.ref C')):=by
 obtain⟨cd,c1,c2,c3,c4⟩:=G'.cls;unfold exmOne;rw[G'.sub,h,if_pos (by decide)]
 unfold kitCls;dsimp only;rw[if_pos (by rw[c1,c4];rfl)]
 exact G.sub _
end
section
variable {X:Cx} {K:Frag} {B0:Addr}
end
end L2
namespace L2
open PySem PySem.Spec PyProof.Rows
section
variable {X:Cx} {K:L2.FG} {fa fb fc:GE} {m:List Bool} {W:Option XW} {a b c:Expr} {pos:Pos}
def b3k:GS:=fun _=>none
theorem b4i(Γ:Gm):b3k Γ=none:=rfl
theorem b9t{st:Stmt}:PS X st (tS K m W b3k):=fun _ _ _ _ _ _ ⟨_,_,_,_,_,_,e,_⟩=>by cases e
def c6g(c1 c2:Int->Int->Bool)(fa fb fc:GE):GT:=fun Γ=>(fa Γ).bind fun p=>(fb p.2).bind fun q=>match p.1,q.1 with
 |.own (.frz (.int x)),.own (.frz (.int y))=>if c1 x y=true then(fc q.2).bind fun r=>match r.1 with
   |.own (.frz (.int z))=>some (c2 y z,r.2)
   |_=>none
  else some (false,q.2)
 |_,_=>none
theorem d6u(c1 c2:Int->Int->Bool)(fa fb fc:GE)(Γ:Gm):c6g c1 c2 fa fb fc Γ=(fa Γ).bind fun p=>(fb p.2).bind fun q=>match p.1,q.1 with
 |.own (.frz (.int x)),.own (.frz (.int y))=>if c1 x y=true then(fc q.2).bind fun r=>match r.1 with
   |.own (.frz (.int z))=>some (c2 y z,r.2)
   |_=>none
  else some (false,q.2)
 |_,_=>none:=rfl
theorem d6v{op op':CmpOp}{c1 c2:Int->Int->Bool}(ho:OpR X (compareOp op) (rI0 fun i j=>.bl (c1 i j)))(ho':OpR X (compareOp op') (rI0 fun i j=>.bl (c2 i j)))(ha:PE X a (tG K fa))(hb:PE X b (tG K fb))(hc:PE X c (tG K fc))
  (hm:lastMarks [op,op'] [b,c]=false:=by with_unfolding_all rfl):PT X (.Compare a [op,op'] [b,c] pos) (tGT K (c6g c1 c2 fa fb fc)):=(d4y ho ho' ha hb hc hm).mono fun σ H Q t=>by
 obtain⟨F,A,Γ,rb,Γ',k,e,w⟩:=t;unfold c6g at e;obtain⟨⟨r1,Γ1⟩,e1,e'⟩:=Option.bind_eq_some_iff.mp e;clear e;obtain⟨⟨r2,Γ2⟩,e2,e⟩:=Option.bind_eq_some_iff.mp e';clear e';dsimp only at e2 e;split at e
 ·rename_i x y
  refine⟨F,A,Γ,_,Γ1,k,e1,fun v H1 pp=>?_⟩
  have hv:v=.int x:=Post.flat pp rfl;subst hv;obtain⟨F1,A1,x1,k1,hh⟩:=pp;obtain⟨B,C,h1,h2,h3⟩:=OwnL.one (σ:=σ) (Γ:=Γ1) k1.os;subst h3;obtain⟨k2,x2⟩:=k1.sub h2 (.of_sub (List.sublist_append_right _ _));refine⟨F1,C,Γ1,_,Γ2,k2,e2,fun v2 H2 pp2=>?_⟩
  have hv2:v2=.int y:=Post.flat pp2 rfl;subst hv2;obtain⟨F2,A2,x3,k3,hh2⟩:=pp2;obtain⟨B2,C2,h4,h5,h6⟩:=OwnL.one (σ:=σ) (Γ:=Γ2) k3.os;subst h6;obtain⟨k4,x4⟩:=k3.sub h5 (.of_sub (List.sublist_append_right _ _));have x12:=(x1.trans x2).trans (x3.trans x4);refine⟨x,y,rfl,rfl,c1 x y,rfl,?_⟩;cases hc1:c1 x y with
  |true=>
   rw[hc1,if_pos rfl] at e;rw[if_pos rfl];obtain⟨⟨r3,Γ3⟩,e3,e4⟩:=Option.bind_eq_some_iff.mp e;dsimp only at e4;split at e4
   ·rename_i z
    cases e4;refine⟨F2,C2,Γ2,_,_,k4,e3,fun v3 H3 pp3=>?_⟩
    have hv3:v3=.int z:=Post.flat pp3 rfl;subst hv3;obtain⟨F3,A3,x5,k5,hh3⟩:=pp3;obtain⟨B3,C3,h7,h8,h9⟩:=OwnL.one (σ:=σ) k5.os;subst h9;obtain⟨k6,x6⟩:=k5.sub h8 (.of_sub (List.sublist_append_right _ _));exact⟨y,z,rfl,rfl,_,rfl,w H3 ⟨F3,C3,x12.trans (x5.trans x6),k6,True.intro⟩⟩
   ·cases e4
  |false=>
   rw[hc1,if_neg Bool.false_ne_true] at e;rw[if_neg Bool.false_ne_true];cases e;exact⟨_,rfl,w H2 ⟨F2,C2,x12,k4,True.intro⟩⟩
 ·cases e
end
variable{k:Nat}{x:Str}
theorem e1i{P:Program}{w:World}{K:L2.FG}{mg:Str->Option Value}{base:Heap}{CX:CXT}{n:Nat}{f:Addr}{fd:FuncData}{ps:List Str}:FnOk P w K mg base CX k f fd ps (SpM K n fun _=>none):=
 {len:=fun _ _ _ _ q=>(by
   obtain⟨_,_,_,_,_,_,_,e,_⟩:=q;cases e)
  run:=fun _ _ _ _ _ _ _ _ _ _ _ _ _ q=>(by
   obtain⟨_,_,_,_,_,_,_,e,_⟩:=q;cases e)}
section
variable {X:Cx} {K:L2.FG} {pos:Pos}
theorem d1w{n:Int}(hg:Gl X x)(hm:∃t,X.mg x=some (.int n t))(hd:(x == ("__debug__":Str))=false:=by decide):PE X (.Name x pos) (tC (.int n)):=by
 obtain⟨t,h⟩:=hm;exact c8w hg h ⟨t,rfl⟩ hd
theorem d1x{z:Str}(hg:Gl X x)(hm:∃t,X.mg x=some (.str z t))(hd:(x == ("__debug__":Str))=false:=by decide):PE X (.Name x pos) (tC (.str z)):=by
 obtain⟨t,h⟩:=hm;exact c8w hg h ⟨t,rfl⟩ hd
end
section
variable {X:Cx} {K:L2.FG}
def d1y:V->List V->Hp->VK->Prop:=fun x xs H Q=>∃(l:Addr) (ys:List Str) (z:Str) (j:Nat),x=.ref l/\xs=[.str z]/\H l=some (.lst (ys.map V.str))/\ys[j]?=some z/\(∀i y,i < j->ys[i]?=some y->y≠z)/\Q .non (upd H l (.lst ((ys.eraseIdx j).map V.str)))
theorem b6i{α β:Type}(f:α->β):∀(xs:List α) (j:Nat),(xs.map f).eraseIdx j=(xs.eraseIdx j).map f
 |[],j=>by simp
 |_::_,0=>rfl
 |x::xs,j+1=>by show f x::(xs.map f).eraseIdx j=f x::(xs.eraseIdx j).map f;rw[b6i f xs j]
theorem b1n:∀{ps:List (Str×Tok)},Vals ((ps.map (·.1)).map V.str) (ps.map fun p=>Value.str p.1 p.2)
 |[]=>.nil
 |p::ps=>.cons ⟨p.2,rfl⟩ b1n
theorem d1z:MtM X "list.remove" d1y:=by
 intro pins s σ H x xs v us Q I rx rs h;obtain⟨l,ys,z,j,rfl,rfl,hH,hj,hne,q⟩:=h;cases rx;obtain⟨u,rfl,ru⟩:=vals1 rs;obtain⟨t,rfl⟩:=ru;obtain⟨hz,its,n,rv,hl,eo⟩:=I.lstM hH;obtain⟨ps,e1,e2⟩:=b2l rv;subst e1;have hlen:ps.length=ys.length:=by rw[<-e2,List.length_map]
 have hjl:j < ys.length:=(List.getElem?_eq_some_iff.mp hj).1;have hys:∀i (hi:i < ps.length),ys[i]?=some ps[i].1:=fun i hi=>by rw[<-e2];simp[hi]
 have hsz:(ps.map fun p=>Value.str p.1 p.2).toArray.size=ps.length:=by simp
 have hjz:ps[j].1=z:=by
  have:=hys j (by omega)
  rw[hj] at this;exact(Option.some.inj this).symm
 refine call_meets F.slot_list_remove ⟨_,eo,rfl⟩ F.entry_list_remove (F.args_list_remove_2 _ _) (MeetsSeq.list_remove l _ n (.str z t) (b8d z) ?_ j (by rw[hsz];omega) ?_ ?_ (by rw[hsz,hlen];simpa using hz)) ⟨eo,?_⟩
 ·intro y hy;simp at hy;obtain⟨b,t',_,rfl⟩:=hy;show MeetsSeq.EqGives _ _ (b == z);rw[<-SeqAt.str_beq];exact SeqRoads2.EqGives.str b z t' t
 ·simp[b8d,hjz]
 ·intro i hi hij;rw[hsz] at hi;have:=hne i _ hij (hys i hi);simp[b8d];exact this
 ·refine⟨.non,_,I.lset (its':=(ps.eraseIdx j).map fun p=>Value.str p.1 p.2) hH eo ?_ ?_ ?_,rfl,q⟩
  ·apply Array.toList_inj.mp;simp[Array.toList_eraseIdxIfInBounds,b6i]
  ·rw[<-e2,b6i];exact b1n
  ·rw[List.length_map];have:=List.length_eraseIdx_le ys j;rw[List.length_map] at hz;omega
def strsO:List O->Option (List Str)
 |[]=>some []
 |.frz (.str x)::os=>(strsO os).map fun xs=>x::xs
 |_=>none
abbrev fzS(y:Str):O:=.frz (.str y)
theorem c2l:∀xs:List Str,strsO (xs.map fzS)=some xs
 |[]=>rfl
 |i::is=>by rw[List.map_cons];show(strsO (is.map fzS)).map _=_;rw[c2l is];rfl
theorem c2m:∀{os:List O} {xs:List Str},strsO os=some xs->os=xs.map fzS
 |[],xs,e=>by cases e;rfl
 |o::os,xs,e=>by
  unfold strsO at e;split at e
  ·cases e
   rename_i h
   cases h
  ·rename_i x os' h
   cases h;obtain⟨ys,e1,e2⟩:=Option.map_eq_some_iff.mp e;subst e2;rw[List.map_cons,<-c2m e1]
  ·cases e
theorem b3l{F H:Hp}:∀{ws:List V} {xs:List Str} {A:List Addr},OwnL K F H (ws.map some) ((xs.map fzS).map some) A->ws=xs.map .str
 |[],[],_,_=>rfl
 |[],_::_,_,h=>by have:=h.length;simp at this
 |_::_,[],_,h=>by have:=h.length;simp at this
 |w::ws,i::is,A,h=>by
  obtain⟨B1,B2,g1,g2,rfl⟩:=OwnL.one h;cases a1c g1 rfl;rw[b3l g2];rfl
theorem c6h{F H:Hp}:∀(xs:List Str),OwnL K F H ((xs.map V.str).map some) ((xs.map fzS).map some) []
 |[]=>.nil
 |_::xs=>.frz (.flat rfl .nil) (c6h xs)
def b6j:O->List O->Option (O×O)
 |.lst ps,[.frz (.str z)]=>(strsO ps).bind fun ys=>(findS ys z).map fun j=>(.lst ((ys.eraseIdx j).map fzS),.frz .non)
 |_,_=>none
theorem d2a:MutOk K d1y b6j:=by
 intro F H x vs o os o' res Ai Aτ Q le h1 h2 nd fr e q;unfold b6j at e;split at e
 ·rename_i ps z
  obtain⟨ys,e1,e2⟩:=Option.bind_eq_some_iff.mp e;obtain⟨j,e3,e4⟩:=Option.map_eq_some_iff.mp e2;cases e4;cases c2m e1;obtain⟨l,ws,Ap,rfl,hl,i,nd',go⟩:=b1g h1 rfl nd q
  match vs,h2 with
  |[v],h2=>
   cases a1c h2 rfl;cases b3l i;obtain⟨s1,s2⟩:=b2m e3;exact⟨l,ys,z,j,rfl,rfl,hl,s1,s2,go _ _ [] .non [] rfl (c6h _) b2k ⟨_,List.Perm.refl _,List.nil_sublist _⟩⟩
  |[],h2=>have:=h2.length;simp at this
  |_::_::_,h2=>have:=h2.length;simp at this
 ·cases e
theorem d2b(ys:List Str)(z:Str):b6j (.lst (ys.map fzS)) [.frz (.str z)]=(findS ys z).map fun j=>(.lst ((ys.eraseIdx j).map fzS),.frz .non):=by
 show((strsO (ys.map fzS)).bind _)=_;rw[c2l,Option.bind_some]
end
theorem fnsc{N P:List Str}{sc:Scope}(h1:sc.kind=.function:=by rfl)(h2:sc.isCoroutine=false:=by rfl)(h3:sc.isGenerator=false:=by rfl)(h4:N.Nodup:=by decide +kernel)(h5:N.take P.length=P:=by rfl)(h6:∀x∈P,sc.names.lookup x=some .local \/ sc.names.lookup x=some .cell:=by decide +kernel)(h7:∀y∈sc.names,y.2≠.free:=by decide +kernel):FnScope N P sc:=⟨h1,h2,h3,h4,h5,h6,h7⟩
theorem Room.le{k':Nat}{A:PySem.Around}(h:Room k A)(e:k'<=k:=by decide):Room k' A:=h.mono e
section
variable {C Ch:Addr} {ns:List Str} {Γ:Gm}
theorem a6d(i j:Nat):gFld Ch ns i j Γ=match Γ[i]? with
 |some (some (.ins C ns' ps))=>if C=Ch/\ns'=ns then(match ps[j]? with
   |some (.frz d)=>some (.own (.frz d),Γ)
   |some _=>some (.fld i j,Γ)
   |none=>none) else none
 |_=>none:=rfl
theorem a4c(M:GM)(i:Nat)(fs:GA):gMeth M Ch ns i fs Γ=match Γ[i]? with
 |some (some (.ins C ns' _))=>if C=Ch/\ns'=ns then gCall M (a0c (gVar i) fs) Γ else none
 |_=>none:=rfl
theorem c4c(f:GE):gNX f Γ=(f Γ).bind fun p=>match p.1 with
 |.own o=>match isX o with
  |none=>some p
  |some _=>none
 |_=>none:=rfl
theorem a3u(f:GE):a5f f Γ=(f Γ).bind fun p=>match p.1 with
 |.own o=>match isX o with
  |some _=>some (.rt o,p.2)
  |none=>some (.nx,p.2)
 |_=>none:=rfl
theorem c4d(fa:GE):b5i fa Γ=(fa Γ).bind fun p=>match p.1 with
 |.own o=>match isX o with
  |none=>some (.rt o,p.2)
  |some _=>none
 |_=>none:=by first|rfl|(unfold b5i;rfl)
theorem a8h(i j:Nat):seeR Γ (.fld i j)=match Γ[i]? with
 |some (some (.ins _ _ ps))=>ps[j]?
 |_=>none:=by first|rfl|(unfold seeR;rfl)
theorem c4e(fv fi:GE)(i j:Nat):b6f fv Ch ns i j fi Γ=(fv Γ).bind fun p=>(gFld Ch ns i j p.2).bind fun q=>(fi q.2).bind fun r=>match p.1,q.1,r.1 with
 |.own v,.fld _ _,.own y=>(match r.2[i]? with
  |some (some (.ins C1 ns1 ps1))=>(ps1[j]?).bind fun c=>(mSet c [v,y]).bind fun z=>some (.nx,r.2.set i (some (.ins C1 ns1 (ps1.set j z.1))))
  |_=>none)
 |_,_,_=>none:=rfl
theorem d2c(fe:GE)(i j:Nat):a4q Ch ns i j fe Γ=(fe Γ).bind fun p=>match p.1 with
 |.own o=>(match p.2[i]? with
  |some (some (.ins C ns' ps))=>if C=Ch/\ns'=ns/\ps.length=j then some (.nx,p.2.set i (some (.ins C ns' (ps++[o])))) else none
  |_=>none)
 |_=>none:=rfl
theorem d2d(o:O)(fin:Gm):newI (.frz .non,some o::fin)=some (o,fin):=rfl
theorem d2e(f:GS)(hs:List GH):gsTry f hs Γ=(f Γ).bind fun p=>match p.1 with
 |.rt o=>match isX o with
  |some c=>tryH hs c.1 c.2 p.2
  |none=>some (.rt o,p.2)
 |fl=>some (fl,p.2):=rfl
theorem c4f(h:GH)(hs:List GH)(C:Addr)(l:Option Int):tryH (h::hs) C l Γ=(h.2.1 C).bind fun b=>if b=true then c6a h.1 h.2.2 C l Γ else tryH hs C l Γ:=rfl
theorem b6k(g:GS)(C:Addr)(l:Option Int):c6a none g C l Γ=g Γ:=rfl
theorem a9g(C:Addr)(l:Option Int):isX (.frz (.exc C l))=some (C,l):=rfl
theorem a6o:isX (.frz .non)=none:=rfl
theorem d6w(fo:GE)(cap:List Nat):srcIt fo cap Γ=(fo Γ).bind fun p=>match p.1 with
 |.fld i j=>if i∈cap then none else match p.2[i]? with
  |some (some (.ins _ _ ps))=>(match ps[j]? with
   |some (.dct kvs)=>if kvs.all (fun p=>isTxt p.1)=true then(frzL (kvs.map (·.2))).map fun ds=>(List.zipWith (fun k d=>D.tup [k,d]) (kvs.map (·.1.d)) ds,p.2) else none
   |_=>none)
  |_=>none
 |_=>none:=rfl
end
end L2
namespace L2
open PySem PySem.Spec PySem.W PyProof.Rows
mutual
def plO:O->Bool
 |.frz d=>(a4w d).isSome
 |.lst xs=>plL xs
 |.tup xs=>plL xs
 |.dct kvs=>kvs.isEmpty
 |.ins _ _ ps=>plL ps
def plL:List O->Bool
 |[]=>true
 |o::os=>plO o && plL os
end
section
variable {K:Frag} {F F' H:Hp} {σ:St} {Γ:Gm} {A:List Addr}
theorem b9u:∀{os:List O},plL os=true->∀o,some o∈os.map some->plO o=true
 |[],_,o,m=>by cases m
 |p::os,h,o,m=>by
  rw[plL,Bool.and_eq_true] at h;rcases List.mem_cons.mp m with e|m
  ·cases e;exact h.1
  ·exact b9u h.2 o m
theorem d2f(h:OwnL K F H σ Γ A):(∀o,some o∈Γ->plO o=true)->OwnL K F' H σ Γ A:=by
 induction h with
 |nil=>exact fun _=>.nil
 |skip _ ih=>exact fun p=>.skip (ih fun o m=>p o (List.mem_cons_of_mem _ m))
 |frz r _ ih=>
  intro p;have q:=p _ (List.mem_cons_self ..);rw[plO] at q;refine .frz ?_ (ih fun o m=>p o (List.mem_cons_of_mem _ m))
  cases r with
  |flat e _=>exact .flat e .nil
  |_=>exact nomatch q
 |lst e _ _ i1 i2=>
  intro p;have q:=p _ (List.mem_cons_self ..);rw[plO] at q;exact .lst e (i1 (b9u q)) (i2 fun o m=>p o (List.mem_cons_of_mem _ m))
 |tup e _ _ i1 i2=>
  intro p;have q:=p _ (List.mem_cons_self ..);rw[plO] at q;exact .tup e (i1 (b9u q)) (i2 fun o m=>p o (List.mem_cons_of_mem _ m))
 |@dct a kvs ps ep A B σ Γ e k r _ _ i1 i2=>
  intro p;have q:=p _ (List.mem_cons_self ..);rw[plO] at q;cases ps with
  |nil=>
   cases kvs with
   |nil=>exact .dct e k .nil (i1 fun o m=>by cases m) (i2 fun o m=>p o (List.mem_cons_of_mem _ m))
   |cons=>cases k
  |cons=>cases q
 |ins e d k _ _ i1 i2=>
  intro p;have q:=p _ (List.mem_cons_self ..);rw[plO] at q;exact .ins e d k (i1 (b9u q)) (i2 fun o m=>p o (List.mem_cons_of_mem _ m))
end
def b8f(M:GM)(Ch:Addr)(ns:List Str)(fs:GA):GE:=fun Γ=>(fs Γ).bind fun p=>(seeL p.2 p.1).bind fun os=>(M (.ins Ch ns []::(O.dl os).map .frz)).bind fun r=>match isX r.1 with
 |some (_,none)=>some (.own r.1,p.2)
 |some _=>none
 |none=>(newI r).bind fun z=>if plO z.1=true then some (.own z.1,p.2) else none
theorem d2g{o:O}(h:plO o=true):isX o=none:=by
 cases o with
 |frz d=>
  rw[plO] at h;cases d <;> first|rfl|cases h
 |_=>rfl
section
variable {X:Cx} {K:Frag} {k n:Nat} {f Ch:Addr} {fd:FuncData} {ps ns:List Str} {p pos:Pos} {e:Expr} {es:List Expr} {fs:GA} {M:GM} {W:XW}
theorem d2h{σ:St}{H:Hp}{Q:VK}(t:tGX K W (b8f M Ch ns fs) σ H Q)(hn:∀rs Γ Γ',fs Γ=some (rs,Γ')->rs.length=n):tMake Ch (SpX K (n+1) M) [] (EW W) (tGA K fs) σ H Q:=by
 obtain⟨F,A,Γ,o,Γ',k,e,w⟩:=t;obtain⟨⟨rs,Γ1⟩,q,e⟩:=Option.bind_eq_some_iff.mp e;obtain⟨os,q2,e⟩:=Option.bind_eq_some_iff.mp e;obtain⟨⟨o',fin⟩,q3,e⟩:=Option.bind_eq_some_iff.mp e;dsimp only at q2 e;refine⟨F,A,Γ,rs,Γ1,k,q,fun vs H1 pp x dx hx hd ne=>?_⟩
 show SpX K (n+1) M (.ref x::(vs++[])) _ _ _;rw[List.append_nil];have s1:Same H1 (upd (upd H1 dx (.own x)) x (.ins Ch dx [])):=fun b u g=>by rw[a0v (a1q g hx),a0v (a1q g hd)];exact g
 have w1:OwnL K H1 (upd (upd H1 dx (.own x)) x (.ins Ch dx [])) [some (.ref x)] [some (.ins Ch ns [])] [x,dx]:=c6b (ps:=[]) a2d (by rw[a0v ne,a2d]) rfl .nil
 have sm:∀{F6 H':Hp} {A6:List Addr},Ext H1 (upd (upd H1 dx (.own x)) x (.ins Ch dx [])) ([x,dx]++[]) F6 H' A6->Same H1 H':=fun x6 a u g=>x6.keep a u (s1 a u g) fun m=>by
  simp at m;rcases m with rfl|rfl
  ·rw[hx] at g;cases g
  ·rw[hd] at g;cases g
 have see':∃F1,Same F1 H1/\Sees K F1 H1 vs os:=by
  obtain⟨F1,A1,x1,k1,hh⟩:=pp;obtain⟨B,C,h1,h2,h3⟩:=OwnL.split (by rw[List.length_map,List.length_map,hh.length]) k1.os
  exact⟨F1,k1.le,b2f h2 h1 hh q2⟩
 obtain⟨F0,le0,see0⟩:=see';refine⟨by obtain⟨_,_,_,_,hh⟩:=pp;simp only[List.length_cons];rw[<-hh.length,hn rs Γ Γ1 q],H1,[x,dx]++[],.ins Ch ns []::(O.dl os).map .frz,o',fin,⟨s1,w1.app (b1c (c5r le0 see0)),by simp[Ne.symm ne],fun b m=>by simp at m;rcases m with rfl|rfl <;> assumption⟩,q3,?_⟩
 cases hX:isX o' with
 |some c=>
  obtain⟨C,l⟩:=c;rw[hX] at e;cases l with
  |some _=>cases e
  |none=>
   cases e;unfold PostE at w;rw[hX] at w;intro dy H' ⟨F6,A6,x6,_,el⟩;have s:=sm x6;have dm:∀a,H1 a≠none->H' a≠none:=fun a h z=>by
    cases g:H1 a with
    |none=>exact h g
    |some u=>rw[s a u g] at z;cases z
   obtain⟨F1,A1,x1,k1,hh⟩:=pp;obtain⟨B,kB,sub⟩:=k1.part (by rw[List.length_map,List.length_map,hh.length])
   exact⟨C,rfl,w dy H' ⟨F1,B,(x1.own' sub).trans ⟨Same.refl _,fun a u g _=>s a u g,dm,fun a h=>.inl h,fun a m=>.inl m,.same s⟩,⟨kB.le.trans s,kB.os.keep (Same.refl _) fun a _ u g=>s a u g,kB.nd,kB.fr⟩,el⟩⟩
 |none=>
  rw[hX] at e;obtain⟨⟨oi,fin2⟩,q4,e⟩:=Option.bind_eq_some_iff.mp e;dsimp only at e;split at e
  ·rename_i pl
   cases e;obtain⟨rfl,rfl⟩:o'=.frz .non/\fin=some o::fin2:=by
    unfold newI at q4;split at q4
    ·rename_i h1 h2
     cases q4;exact⟨h1,h2⟩
    ·cases q4
   unfold PostE at w;rw[d2g pl] at w;obtain⟨F1,le,see,res⟩:=pp.res q2 fun v H' ⟨F',A',x,k,_⟩=>w v H' ⟨F',A',x,k⟩
   intro v H' ⟨F6,A6,x6,k6⟩;obtain⟨B,C,h1,h2,h3⟩:=OwnL.one k6.os;obtain⟨B2,C2,h4,_,h5⟩:=OwnL.one h2;subst h3;subst h5;refine⟨a1c h1 rfl,res _ H' B2 (sm x6) (d2f h4 fun o m=>by cases List.mem_singleton.mp m;exact pl) (List.nodup_append.mp (List.nodup_append.mp k6.nd).2.1).1 fun a m=>?_⟩
   rcases x6.own a (List.mem_append_right _ (List.mem_append_left _ m)) with z|z
   ·simp at z;rcases z with rfl|rfl <;> assumption
   ·cases g:H1 a with
    |none=>rfl
    |some u=>rw[s1 a u g] at z;cases z
  ·cases e
theorem b9v{x:Str}(Mk':Mk X.K Ch f)(hmg:X.mg x=some (.ref Ch))(Fn:FnOk X.prog X.w X.K X.mg X.base (CX1 X.prog X.w) k f fd ps (SpX K (n+1) M))(hb:Binds X.K fd ps [])(hr:Room (k+1) X.A)(hp:XPass X W)(ha:PA X (e::es) (tGA K fs))(hn:∀rs Γ Γ',fs Γ=some (rs,Γ')->rs.length=n)(hg:Gl X x:=by rfl)
  (hdb:(x == ("__debug__":Str))=false:=by decide) (he:starEach (e::es) X.env=(false,eval e X.env)::starEach es X.env:=by rfl) (hpl:(backTo pos (starEach es X.env)).any (·.1)=false:=by rfl) :
  PE X (.Call (.Name x p) (e::es) [] pos) (tGX K W (b8f M Ch ns fs)):=(d9j Mk' Fn hr hg hmg hb .nil (passW hp) ha hdb he hpl).mono fun _ _ _ t=>d2h t hn
end
def gsFzF(i j:Nat)(f:GS):GS:=fun Γ=>match Γ[i]? with
 |some (some (.ins C ns ps))=>match ps[j]? with
  |some o=>f (Γ.set i (some (.ins C ns (ps.set j (.frz o.d)))))
  |_=>none
 |_=>none
section
variable {X:Cx} {K:Frag} {m:List Bool} {W:Option XW} {body:List Stmt} {f:GS} {i j:Nat}
theorem OK.freezeAt{F H:Hp}{σ:St}{Γ:Gm}{A:List Addr}{o:O}(k:OK K F H σ Γ A)(ho:Γ[i]?=some (some o)):∃F' A',OK K F' H σ (Γ.set i (some (.frz o.d))) A'/\Ext F H A F' H A':=by
 obtain⟨v,Ai,B,g1,g2,g3,g4⟩:=k.os.take ho;have nd:(Ai++B).Nodup:=g4.nodup_iff.mp k.nd;have k1:OK K F H (some v::σ) (some o::Γ.set i none) (Ai++B):=⟨k.le,g2.app g3,nd,fun a m=>k.fr a (g4.mem_iff.mpr m)⟩
 obtain⟨F',A',k2,x⟩:=k1.freeze;obtain⟨B1,C1,h1,h2,h3⟩:=OwnL.one k2.os;have eB:B1=[]:=by cases h1 with|frz _ t=>cases t;rfl
 subst eB;rw[List.nil_append] at h3;subst h3;have hi:i < Γ.length:=(List.getElem?_eq_some_iff.mp ho).1;obtain⟨G,w1,C2,w2,w3⟩:=OwnL.put h1 i h2 (by rw[List.length_set];exact hi)
 rw[a5a g1,List.set_set] at w1;have sG:SubP G A':=(SubP.of_perm w2).trans (by rw[List.nil_append];exact .of_sub w3)
 refine⟨F',G,⟨k2.le,w1,sG.nodup k2.nd,fun a m=>k2.fr a (sG.mem a m)⟩,⟨x.ff,fun a u e n=>x.keep a u e (fun m=>n (g4.mem_iff.mpr m)),x.dom,fun a h=>?_,fun a m=>?_,x.att⟩⟩
 ·rcases x.new a h with z|z|z
  ·exact .inl z
  ·exact .inr (.inl (g4.mem_iff.mpr z))
  ·exact .inr (.inr z)
 ·rcases x.own a (sG.mem a m) with z|z
  ·exact .inl (g4.mem_iff.mpr z)
  ·exact .inr z
theorem OK.freezeF{F H:Hp}{σ:St}{Γ:Gm}{A:List Addr}{C:Addr}{ns:List Str}{ps:List O}{o:O}(k:OK K F H σ Γ A)(ho:Γ[i]?=some (some (.ins C ns ps)))(hj:ps[j]?=some o):
  ∃F' A',OK K F' H σ (Γ.set i (some (.ins C ns (ps.set j (.frz o.d))))) A'/\Ext F H A F' H A':=by
 obtain⟨v,Ai,B,g1,g2,g3,g4⟩:=k.os.take ho;have nd:(Ai++B).Nodup:=g4.nodup_iff.mp k.nd;have fr:∀a∈Ai++B,F a=none:=fun a m=>k.fr a (g4.mem_iff.mpr m)
 cases g2 with
 |@ins a dx _ fs _ _ Ap _ _ _ e1 e2 e3 w0 w9=>
  cases w9;rw[List.append_nil] at nd fr g4;have sub:∀b∈Ap++B,b∈(a::dx::Ap)++B:=fun b m=>by simp only[List.cons_append,List.mem_cons];exact .inr (.inr m)
  have hj':j < (ps.map some).length:=by rw[List.length_map];exact(List.getElem?_eq_some_iff.mp hj).1
  have nd':a∉dx::(Ap++B)/\dx∉Ap++B/\(Ap++B).Nodup:=by
   simp only[List.cons_append] at nd;obtain⟨z1,z2⟩:=List.nodup_cons.mp nd;obtain⟨z3,z4⟩:=List.nodup_cons.mp z2;exact⟨z1,z3,z4⟩
  obtain⟨F',A',k2,x⟩:=OK.freezeAt (i:=j) (o:=o) (⟨k.le,w0.app g3,nd'.2.2,fun b m=>fr b (sub b m)⟩:OK K F H _ (ps.map some++Γ.set i none) _) (by rw[List.getElem?_append_left hj',List.getElem?_map,hj];rfl)
  rw[List.set_append_left _ _ hj',<-List.map_set] at k2;obtain⟨B1,C1,h1,h2,h3⟩:=OwnL.split (by have:=w0.length;simpa using this) k2.os
  subst h3;have w5:OwnL K F' H [some (.ref a)] [some (.ins C ns (ps.set j (.frz o.d)))] (a::dx::B1):=c6b e1 e2 (by rw[List.length_set];exact e3) (by rw[List.map_map];exact h1)
  have hi:i < Γ.length:=(List.getElem?_eq_some_iff.mp ho).1;obtain⟨G,w1,C2,w2,w3⟩:=OwnL.put w5 i h2 (by rw[List.length_set];exact hi)
  rw[a5a g1,List.set_set] at w1;have out:∀b,(b=a\/b=dx)->b∉B1++C1/\F' b=none:=fun b hb=>by
   have hH:H b≠none:=by rcases hb with rfl|rfl;{ rw[e1];exact fun z=>by cases z};{ rw[e2];exact fun z=>by cases z}
   have hn:b∉Ap++B:=by rcases hb with rfl|rfl;{ exact fun m=>nd'.1 (List.mem_cons_of_mem _ m)};{ exact nd'.2.1}
   refine⟨fun m=>?_,?_⟩
   ·rcases x.own b m with z|z
    ·exact hn z
    ·exact hH z
   ·cases q:F' b with
    |none=>rfl
    |some u=>
     rcases x.new b (by rw[q];exact fun z=>by cases z) with z|z|z
     ·exact absurd (fr b (by rcases hb with rfl|rfl <;> simp)) z
     ·exact absurd z hn
     ·exact absurd z hH
  have sG:SubP G ((a::dx::B1)++C1):=(SubP.of_perm w2).trans ((SubP.refl _).app (.of_sub w3));have ndG:((a::dx::B1)++C1).Nodup:=by
   simp only[List.cons_append];refine List.nodup_cons.mpr ⟨fun m=>?_,List.nodup_cons.mpr ⟨(out dx (.inr rfl)).1,k2.nd⟩⟩
   rcases List.mem_cons.mp m with z|m
   ·exact nd'.1 (by rw[z];exact List.mem_cons_self ..)
   ·exact(out a (.inl rfl)).1 m
  have mem:∀b∈(a::dx::B1)++C1,b=a\/b=dx\/b∈B1++C1:=fun b m=>by simpa only[List.cons_append,List.mem_cons] using m
  refine⟨F',G,⟨k2.le,w1,sG.nodup ndG,fun b m=>?_⟩,⟨x.ff,fun b u e n=>x.keep b u e (fun m=>n (g4.mem_iff.mpr (sub b m))),x.dom,fun b h=>?_,fun b m=>?_,x.att⟩⟩
  ·rcases mem b (sG.mem b m) with z|z|z
   ·exact(out b (.inl z)).2
   ·exact(out b (.inr z)).2
   ·exact k2.fr b z
  ·rcases x.new b h with z|z|z
   ·exact .inl z
   ·exact .inr (.inl (g4.mem_iff.mpr (sub b z)))
   ·exact .inr (.inr z)
  ·rcases mem b (sG.mem b m) with rfl|rfl|z
   ·exact .inl (g4.mem_iff.mpr (by simp))
   ·exact .inl (g4.mem_iff.mpr (by simp))
   ·rcases x.own b z with z|z
    ·exact .inl (g4.mem_iff.mpr (sub b z))
    ·exact .inr z
theorem d8m(h:PSs X body (tS K m W f)):PSs X body (tS K m W (gsFzF i j f)):=by
 intro pins s σ H D I t;refine h pins s σ H D I ?_;obtain⟨F,A,Γ,fl,Γ',k,e,w⟩:=t;unfold gsFzF at e;split at e
 ·rename_i C ns ps ho
  split at e
  ·rename_i o hj
   obtain⟨F',A',k',x⟩:=k.freezeF ho hj;exact⟨F',A',_,fl,Γ',k',e,w.step x Kept.refl⟩
  ·cases e
 ·cases e
end
def gMutT(g:O->List O->Option (O×O))(fo:GE)(fs:GA):GE:=fun Γ=>(fo Γ).bind fun p=>match p.1 with
 |.own (.lst ps)=>(fs p.2).bind fun q=>(ownL q.1).bind fun os=>(g (.lst ps) os).bind fun z=>some (.own z.2,q.2)
 |_=>none
section
variable {X:Cx} {K:Frag} {o e:Expr} {es:List Expr} {fo:GE} {fs:GA} {name:Str} {apos cpos:Pos} {id:String} {r:V->List V->Hp->VK->Prop} {g:O->List O->Option (O×O)}
theorem e1j(ok:MutOk K r g){σ:St}{H:Hp}{Q:VK}(tt:tG K (gMutT g fo fs) σ H Q):tBM K "list" r (tG K fo) (tGA K fs) σ H Q:=by
 obtain⟨F,A,Γ,rr,Γ',k,e,w⟩:=tt;obtain⟨⟨r1,Γ1⟩,q,e⟩:=Option.bind_eq_some_iff.mp e;dsimp only at e;split at e
 ·rename_i ps
  obtain⟨⟨rs,Γ2⟩,q2,e⟩:=Option.bind_eq_some_iff.mp e;obtain⟨os,q3,e⟩:=Option.bind_eq_some_iff.mp e;obtain⟨z,q4,e⟩:=Option.bind_eq_some_iff.mp e;cases e;dsimp only at q3;refine⟨F,A,Γ,.own (.lst ps),Γ1,k,q,fun v H1 ⟨F1,A1,x1,k1,_⟩=>?_⟩
  have k1:OK K F1 H1 ([some v]++σ) ([some (.lst ps)]++Γ1) A1:=k1;obtain⟨C,kC,fr⟩:=k1.frame rfl;refine⟨?_,F1,C,Γ1,rs,Γ2,kC,q2,fun vs H2 ⟨F2,A2,x2,k2,hh⟩=>?_⟩
  ·obtain⟨B,_,h1,_⟩:=OwnL.one k1.os;cases h1 with
   |lst hq _ _=>exact .inl ⟨rfl,_,SqL.of hq⟩
  obtain⟨A3,x3,k3⟩:=fr _ _ _ _ _ x2 k2;rw[a5b q3] at k3;have hl:vs.length=os.length:=by
   have:=hh.length;have h4:=congrArg List.length (a5b q3);simp at h4;omega
  obtain⟨B,C1,h1,h2,h3⟩:=OwnL.one k3.os;obtain⟨B1,C2,h4,h5,h6⟩:=OwnL.split (τ:=vs.map some) (Θ:=os.map some) (by simpa using hl) h2
  subst h3;subst h6;have pm:(B1++(B++C2)).Perm (B++(B1++C2)):=by rw[<-List.append_assoc,<-List.append_assoc];exact List.perm_append_comm.append_right _
  have k4:OK K F2 H2 (vs.map some++(some v::σ)) (os.map some++(some (.lst ps)::Γ2)) (B1++(B++C2)):=OK.perm (h4.app (h1.app h5)) k3.le k3.nd k3.fr pm;refine OK.mutate ok k4 (i:=0) rfl rfl hl q4 fun v' H' A' x5 k5=>w v' H' ?_
  obtain⟨B5,C5,j1,j2,j3⟩:=OwnL.one k5.os;obtain⟨B6,C6,_,j5,j6⟩:=OwnL.one (y:=some z.1) (Γ:=Γ2) j2;subst j3;subst j6;have sb:(B5++C6).Sublist (B5++(B6++C6)):=(List.sublist_append_right B6 C6).append_left _;exact⟨F2,B5++C6,x1.trans (x3.trans ⟨x5.ff,fun a u e n=>x5.keep a u e fun m=>n (pm.mem_iff.mp m),x5.dom,fun a h=>(x5.new a h).imp id fun z=>z.imp (fun m=>pm.mem_iff.mp m) id,fun a m=>(x5.own a (sb.subset m)).imp (fun m=>pm.mem_iff.mp m) id,x5.att⟩),⟨k5.le,j1.app j5,sb.nodup k5.nd,fun a m=>k5.fr a (sb.subset m)⟩,True.intro⟩
 ·cases e
theorem d2i(slot:Slot "list" name id)(hty:typeOf (.builtin id)=pure (.type "method_descriptor"))(hm:MtM X id r)(ok:MutOk K r g)(ho:PE X o (tG K fo))(ha:PA X (e::es) (tGA K fs))
  (hbase:attributeBase o name X.env (eval o X.env)=eval o X.env:=by rfl)
  (hfew:((backTo cpos (starEach (e::es) X.env)).all (fun x => !x.1) && (backToKw cpos (keywordEach [] X.env)).all (fun x=>x.1.isSome)
   && decide ((e::es).length+([]:List Keyword).length+(if([]:List Keyword).isEmpty then 0 else 1) < 30))=true:=by rfl)
  (hline:(apos.endLine == cpos.line)=true:=by rfl) (hs:starEach (e::es) X.env=(false,eval e X.env)::starEach es X.env:=by rfl) (hplain:(backTo cpos (starEach es X.env)).any (·.1)=false:=by rfl) (hK:X.K=K:=by rfl) :
  PE X (.Call (.Attribute o name apos) (e::es) [] cpos) (tG K (gMutT g fo fs)):=by
 subst hK;exact(d5i PySem.F.plainAttrs_list slot hty hm ho ha hbase hfew hline hs hplain).mono fun _ _ _ t=>e1j ok t
def tlB(k:String):Bool:=k == "tuple" || k == "list"
def rIsi2(K:Frag):List V->Hp->VK->Prop:=fun xs H Q=>∃x k q,xs=[x,.ref q]/\c1n K H x k/\SqT K H q [.ty "tuple",.ty "list"]/\Q (.bl (tlB k)) H
theorem d2j(K:Frag)(hK:X.K=K:=by rfl):CallR X (.builtin "isinstance") (rIsi2 K):=by
 subst hK;intro pins s σ H xs us Q I r h;obtain⟨x,k,q,rfl,hk,hq,qq⟩:=h;obtain⟨u,w',rfl,rx,ry⟩:=vals2 r;cases ry;obtain⟨its,rv,⟨ot,h1,h2,n,h3⟩,_⟩:=I.tuple hq;obtain⟨oc,odd,odt,osl⟩:=ot;dsimp only at h2 h3;subst h2;subst h3;obtain⟨u1,u2,rfl,r1,r2⟩:=vals2 rv;cases r1;cases r2;have fin:∀b,b=tlB k->∀tk,EP X pins σ Q (.bool b) { s with toks:=tk}:=fun b e tk=>b0w (I.tok _) qq e.symm
 cases x with
 |non=>
  cases rx;have hk:k="NoneType":=hk;subst hk;exact kia_tup (b:=false) kitx_none I.kIn True.intro h1 (by rfl) (fun z=>nomatch z) (fin _ rfl)
 |bl b=>
  cases rx;have hk:k="bool":=hk;subst hk;exact kia_tup (b:=false) kitx_bool I.kIn True.intro h1 (by rfl) (fun z=>nomatch z) (fin _ rfl)
 |int i=>
  obtain⟨t,rfl⟩:=rx;have hk:k="int":=hk;subst hk;exact kia_tup (b:=false) kitx_int I.kIn True.intro h1 (by rfl) (fun z=>nomatch z) (fin _ rfl)
 |str z=>
  obtain⟨t,rfl⟩:=rx;have hk:k="str":=hk;subst hk;exact kia_tup (b:=false) kitx_str I.kIn True.intro h1 (by rfl) (fun z=>nomatch z) (fin _ rfl)
 |ref a=>
  cases rx;rcases hk with⟨hk,ys,hs⟩|⟨hk,ys,hs⟩
  ·subst hk;obtain⟨its,_,⟨o,n,e,hc,_⟩,_⟩:=I.list hs;exact kia_tup (b:=true) kitx_list I.kIn ⟨o,e,hc⟩ h1 (by rfl) (fun z=>nomatch z) (fin _ rfl)
  ·subst hk;obtain⟨its,_,⟨o,e,hc,_⟩,_⟩:=I.tuple hs;exact kia_tup (b:=true) kitx_tuple I.kIn ⟨o,e,hc⟩ h1 (by rfl) (fun z=>nomatch z) (fin _ rfl)
 |byt _=>exact False.elim hk
 |flt _=>exact False.elim hk
 |ty _=>exact False.elim hk
def oIsi2:List O->Option O
 |[a,.tup [.frz (.ty T),.frz (.ty U)]]=>if T="tuple"/\U="list" then(kindD a.d).map fun k=>.frz (.bl (tlB k)) else none
 |_=>none
theorem e1k:OpOk K (rIsi2 K) oIsi2:=by
 intro F H vs os o Q le see e res;unfold oIsi2 at e;split at e
 ·rename_i a T U
  split at e
  ·rename_i h
   obtain⟨rfl,rfl⟩:=h;obtain⟨x,y,B,C,rfl,h1,h2⟩:=see.two;obtain⟨k,q1,q2⟩:=Option.map_eq_some_iff.mp e;subst q2;cases a4s le h2 with
   |flat z _=>cases z
   |@tup p ws _ _ _ hq hr _=>
    cases hr with
    |flat z1 hr=>
     cases hr with
     |flat z2 hr=>
      cases hr;cases z1;cases z2;exact⟨x,k,p,rfl,c5m (a4s le h1) q1,hq,res.flat rfl⟩
  ·cases e
 ·cases e
def d8n:GT:=fun _=>none
theorem e1l{e:Expr}:PT X e (tGT K d8n):=fun _ _ _ _ _ _ ⟨_,_,_,_,_,_,e,_⟩=>by cases e
end
end L2
namespace L2
open PySem PySem.Spec PySem.W PySem.Calls PyProof.Rows
structure Errz (K:Frag) (mg:Str->Option Value) (tab:List (Str×Addr)) (B0:Addr):Prop where
 all:∀p∈tab,mg p.1=some (.ref p.2)/\ErrC K p.2 (.ref B0::bmV) none/\IsErr K p.2/\keepIn K (.ref p.2)=true
 G0:ErrC K B0 bmV none
section
variable {K:Frag} {mg:Str->Option Value} {tab:List (Str×Addr)} {B0:Addr}
theorem Errz.ix(E:Errz K mg tab B0){i:Nat}{n:Str}{C:Addr}(h:tab[i]?=some (n,C)):mg n=some (.ref C)/\ErrC K C (.ref B0::bmV) none/\IsErr K C/\keepIn K (.ref C)=true:=E.all (n,C) (List.mem_of_getElem? h)
theorem Errz.xE(E:Errz K mg tab B0){c:Addr}(hc:(tab.map (·.2)).contains c=true)(h0:(c == B0)=false)(C:Addr)(b:Bool)(h:L2.wE (tab.map (·.2)) c C=some b):exmOne K (.ref C) (.ref c)=some b:=by
 have one:∀{c:Addr},(tab.map (·.2)).contains c=true->ErrC K c (.ref B0::bmV) none:=fun{c} h=>by
  obtain⟨p,m,e⟩:=List.mem_map.mp (List.contains_iff_mem.mp h);rw[<-e];exact(E.all p m).2.1
 unfold L2.wE at h;split at h
 ·rename_i hC
  cases h;refine((one hC).exm (one hc) rfl).trans (congrArg some ?_);have n0:c≠B0:=fun z=>by rw[z] at h0;simp at h0
  by_cases z:C=c
  ·subst z;simp
  ·rw[show(C == c)=false from beq_false_of_ne z];simp[bmV,Ne.symm z,n0]
 ·cases h
end
end L2
namespace L2
open PySem PySem.Spec PyProof.Rows
section
variable {C Ch:Addr} {ns:List Str} {Γ:Gm}
theorem b4j(M:GM)(fs:GA):b8f M Ch ns fs Γ=(fs Γ).bind fun p=>(seeL p.2 p.1).bind fun os=>(M (.ins Ch ns []::(O.dl os).map .frz)).bind fun r=>match isX r.1 with
 |some (_,none)=>some (.own r.1,p.2)
 |some _=>none
 |none=>(newI r).bind fun z=>if plO z.1=true then some (.own z.1,p.2) else none:=rfl
theorem d2k(g:O->List O->Option (O×O))(fo:GE)(fs:GA):gMutT g fo fs Γ=(fo Γ).bind fun p=>match p.1 with
 |.own (.lst ps)=>(fs p.2).bind fun q=>(ownL q.1).bind fun os=>(g (.lst ps) os).bind fun z=>some (.own z.2,q.2)
 |_=>none:=rfl
theorem d2l(ps:List O):isX (.ins C ns ps)=none:=rfl
theorem d2m(b:Bool):isX (.frz (.bl b))=none:=rfl
theorem d2n(ds:List D):isX (.frz (.tup ds))=none:=rfl
end
end L2
namespace L2
theorem a2h{A:PySem.Around}{k:Nat}(hr:Room k A):A.units+41 < PySem.cLine:=Nat.lt_of_le_of_lt (Nat.add_le_add_left (by decide:41<=64) _) hr.units
end L2
namespace Carry
open PySem L2
seal PE PA PT PS PSs
def top(i:Nat):Stmt:=PySem.Challenge.pw_carry_k60_a_new_hall.main.body.getD i (.Pass ⟨0,0,0,0⟩)
abbrev b1o:Stmt:=top 15
abbrev a8i:Stmt:=top 17
abbrev a8j:Stmt:=top 18
abbrev a8k:Stmt:=top 19
abbrev b0m:Stmt:=top 20
abbrev a9h:Stmt:=top 21
abbrev a9i:Stmt:=top 22
abbrev a7e:Stmt:=top 23
abbrev b1p:Stmt:=top 24
abbrev b6l:Stmt:=top 25
abbrev b4k:Stmt:=top 31
abbrev a6p:Stmt:=top 32
abbrev b9w:Stmt:=top 34
abbrev b6m:Stmt:=top 35
abbrev b9x:Stmt:=top 36
abbrev b6n:Stmt:=top 37
abbrev b6o:Stmt:=top 38
abbrev b9y:Stmt:=top 39
abbrev b4l:Stmt:=top 40
abbrev a9j:Stmt:=top 41
abbrev b9z:Stmt:=top 42
abbrev b2n:Stmt:=top 43
abbrev a9w:Stmt:=top 44
abbrev b0n:Stmt:=top 45
abbrev b4m:Stmt:=top 46
abbrev e1m:Stmt:=top 47
abbrev c0a:Stmt:=a3p (top 30) 0
abbrev b2o:Stmt:=a3p (top 30) 1
abbrev c4g:Stmt:=a3p (top 30) 4
abbrev c0b:Stmt:=a3p (top 30) 6
abbrev a6a:Stmt:=a3p (top 30) 8
abbrev a7n:Stmt:=a3p (top 30) 9
abbrev a6b:Stmt:=a3p (top 30) 10
abbrev b6p:Stmt:=a3p (top 30) 11
abbrev b2p:Stmt:=a3p (top 30) 12
abbrev b2q:Stmt:=a3p (top 30) 13
abbrev a8l:Stmt:=a3p (top 30) 14
abbrev a8m:Stmt:=a3p (top 30) 15
abbrev b4n:Stmt:=a3p (top 30) 16
abbrev c4h:Stmt:=a3p (top 30) 17
abbrev b4o:Stmt:=a3p (top 30) 18
abbrev b6q:Stmt:=a3p (top 30) 19
abbrev b0o:Stmt:=a3p (top 30) 20
abbrev a5v:Stmt:=a3p (top 30) 22
abbrev errTab:List (Str×Addr):=[("NoName",44),("NoSize",56),("NoOut",68),("NoHand",80),("NoMoment",92),("NoFlight",104),("NoBelt",116),("NoRoom",128),("NoBag",140)]
abbrev errCs:List Addr:=errTab.map (·.2)
abbrev cHall:Addr:=400
abbrev hns:List Str:=["built","told_rounds","now","book","halts","places","readings","rounded","gone","carted"]
theorem a2e:hns.Nodup:=by decide +kernel
set_option genInjectivity false in
set_option genSizeOfSpec false in
structure Adr where
 f0:Addr
 d0:FuncData
 f1:Addr
 d1:FuncData
 f2:Addr
 d2:FuncData
 f3:Addr
 d3:FuncData
 f4:Addr
 d4:FuncData
 f5:Addr
 d5:FuncData
 f6:Addr
 d6:FuncData
 f7:Addr
 d7:FuncData
 f8:Addr
 d8:FuncData
 f9:Addr
 d9:FuncData
 f10:Addr
 d10:FuncData
 f11:Addr
 d11:FuncData
 f12:Addr
 d12:FuncData
 f13:Addr
 d13:FuncData
 f14:Addr
 d14:FuncData
 f15:Addr
 d15:FuncData
 f16:Addr
 d16:FuncData
 f17:Addr
 d17:FuncData
 f18:Addr
 d18:FuncData
 f19:Addr
 d19:FuncData
 f20:Addr
 d20:FuncData
 f21:Addr
 d21:FuncData
 f22:Addr
 d22:FuncData
 f23:Addr
 d23:FuncData
 f24:Addr
 d24:FuncData
 f25:Addr
 d25:FuncData
 f26:Addr
 d26:FuncData
 f27:Addr
 d27:FuncData
 f28:Addr
 d28:FuncData
 f29:Addr
 d29:FuncData
 f30:Addr
 d30:FuncData
 f31:Addr
 d31:FuncData
 f32:Addr
 d32:FuncData
 f33:Addr
 d33:FuncData
 f34:Addr
 d34:FuncData
 f35:Addr
 d35:FuncData
 f36:Addr
 d36:FuncData
 f37:Addr
 d37:FuncData
 f38:Addr
 d38:FuncData
 f39:Addr
 d39:FuncData
 f40:Addr
 d40:FuncData
 f41:Addr
 d41:FuncData
 f42:Addr
 d42:FuncData
 f43:Addr
 d43:FuncData
structure Txt (K:L2.FG) (mg:Str->Option Value) (t:Adr):Prop where
 F0:DefAt K mg "is_name" b1o t.f0 t.d0 ["thing"]
 F1:DefAt K mg "right_house" a8i t.f1 t.d1 ["house"]
 F2:DefAt K mg "check_carts" a8j t.f2 t.d2 ["carts","taken"]
 F3:DefAt K mg "check_belts" a8k t.f3 t.d3 ["belts","taken"]
 F4:DefAt K mg "take_name" b0m t.f4 t.d4 ["name","taken"]
 F5:DefAt K mg "check_outs" a9h t.f5 t.d5 ["belts","carts"]
 F6:DefAt K mg "check_hand" a9i t.f6 t.d6 ["house"]
 F7:DefAt K mg "belt_names" a7e t.f7 t.d7 ["belts"]
 F8:DefAt K mg "reached" b1p t.f8 t.d8 ["house","belt"]
 F9:DefAt K mg "belt_of" b6l t.f9 t.d9 ["house","name"]
 F10:DefAt K mg "copied" b4k t.f10 t.d10 ["house"]
 F11:DefAt K mg "check_closing" a6p t.f11 t.d11 ["closing"]
 F12:DefAt K mg "_law_cell" b9w t.f12 t.d12 ["_law_script","_law_k"]
 F13:DefAt K mg "_law_digit" b6m t.f13 t.d13 ["_law_script","_law_k","_law_at","_law_many"]
 F14:DefAt K mg "_law_pick" b9x t.f14 t.d14 ["_law_script","_law_k","_law_many"]
 F15:DefAt K mg "_law_other" b6n t.f15 t.d15 ["_law_script","_law_k","_law_many"]
 F16:DefAt K mg "_law_third" b6o t.f16 t.d16 ["_law_script","_law_k","_law_many"]
 F17:DefAt K mg "_law_name" b9y t.f17 t.d17 ["_law_script","_law_k","_law_n"]
 F18:DefAt K mg "_law_outs" b4l t.f18 t.d18 ["_law_script","_law_k","_law_names","_law_carts"]
 F19:DefAt K mg "_law_house" a9j t.f19 t.d19 ["_law_script"]
 F20:DefAt K mg "_law_same" b9z t.f20 t.d20 ["_law_found","_law_due"]
 F21:DefAt K mg "_law_no_bag" b2n t.f21 t.d21 ["_law_hall","_law_name_here"]
 F22:DefAt K mg "_law_is_new" a9w t.f22 t.d22 ["_law_hall","_law_house_here","_law_rounds","_law_name_here"]
 F23:DefAt K mg "_law_refused" b0n t.f23 t.d23 ["_law_house_here"]
 F24:DefAt K mg "_law_copy" b4m t.f24 t.d24 ["_law_house_here"]
 F25:DefAt K mg "law" e1m t.f25 t.d25 ["_law_script"]
 F26:Fun K "__init__" "Hall.__init__" c0a t.f26 t.d26
 B26:Binds K t.d26 ["self","house","rounds"] []
 F27:MethAt K cHall "flight" "Hall.flight" b2o t.f27 t.d27 ["self","name","cart","closing"]
 F28:MethAt K cHall "put" "Hall.put" c4g t.f28 t.d28 ["self","bag","flight","belt"]
 F29:MethAt K cHall "stop" "Hall.stop" c0b t.f29 t.d29 ["self","belt"]
 F30:MethAt K cHall "check_flight" "Hall.check_flight" a6a t.f30 t.d30 ["self","name"]
 F31:MethAt K cHall "check_belt" "Hall.check_belt" a7n t.f31 t.d31 ["self","name"]
 F32:MethAt K cHall "check_inside" "Hall.check_inside" a6b t.f32 t.d32 ["self","bag"]
 F33:MethAt K cHall "house" "Hall.house" b6p t.f33 t.d33 ["self"]
 F34:MethAt K cHall "rounds" "Hall.rounds" b2p t.f34 t.d34 ["self"]
 F35:MethAt K cHall "moment" "Hall.moment" b2q t.f35 t.d35 ["self"]
 F36:MethAt K cHall "flights" "Hall.flights" a8l t.f36 t.d36 ["self"]
 F37:MethAt K cHall "stopped" "Hall.stopped" a8m t.f37 t.d37 ["self"]
 F38:MethAt K cHall "bags" "Hall.bags" b4n t.f38 t.d38 ["self"]
 F39:MethAt K cHall "out" "Hall.out" c4h t.f39 t.d39 ["self"]
 F40:MethAt K cHall "late" "Hall.late" b4o t.f40 t.d40 ["self"]
 F41:MethAt K cHall "where" "Hall.where" b6q t.f41 t.d41 ["self","bag"]
 F42:MethAt K cHall "cart_of" "Hall.cart_of" b0o t.f42 t.d42 ["self","bag"]
 F43:MethAt K cHall "in_order" "Hall.in_order" a5v t.f43 t.d43 ["self"]
 C_Hall:Cls K cHall
 Mk_Hall:Mk K cHall t.f26
 mg_Hall:mg "Hall"=some (.ref cHall)
 na_built:NoAttr K cHall "built"
 na_told_rounds:NoAttr K cHall "told_rounds"
 na_now:NoAttr K cHall "now"
 na_book:NoAttr K cHall "book"
 na_halts:NoAttr K cHall "halts"
 na_places:NoAttr K cHall "places"
 na_readings:NoAttr K cHall "readings"
 na_rounded:NoAttr K cHall "rounded"
 na_gone:NoAttr K cHall "gone"
 na_carted:NoAttr K cHall "carted"
 er:Errz K mg errTab 31
 b_len:mg "len"=none
 b_isinstance:mg "isinstance"=none
 b_int:mg "int"=none
 b_bool:mg "bool"=none
 b_str:mg "str"=none
 b_list:mg "list"=none
 b_tuple:mg "tuple"=none
 b_range:mg "range"=none
 b_enumerate:mg "enumerate"=none
 b_all:mg "all"=none
 b_sorted:mg "sorted"=none
 c_LETTERS:∃t,mg "LETTERS"=some (.str "abcdefghijklmnopqrstuvwxyz" t)
 c_MOST_LETTERS:∃t,mg "MOST_LETTERS"=some (.int 8 t)
section
variable {P:Program} {w:World} {K:L2.FG} {mg:Str->Option Value} {base:Heap} {t:Adr}
theorem c8d:FnScope ["thing"] ["thing"] (a0k b1o):=fnsc
def b6r:GS:=(a0o (gsIf (gNotT (gTru (gOp oIsi (a0c (gVar 0) (a0c (gC (.ty "str")) gaNil)))))
  (gsRet (gC (.bl false)))
  gsNil)
 (a0o (gsIf (gNotT (c6g (fun i j=>decide (i<=j)) (fun i j=>decide (i<=j)) (gC (.int 1)) (gOp oLen (a0c (gVar 0) gaNil)) (gC (.int 8))))
  (gsRet (gC (.bl false)))
  gsNil)
 (gsRet (gOp (b8c fun bs=>bs.all id) (a0c (a3z (srcS (gVar 0)) (a0r 0) gYes (gBin (oInG false) (gVar 0) (gC (.str "abcdefghijklmnopqrstuvwxyz"))) 1 []) gaNil)))))
def a4d:GM:=runM 1 [false] b6r
abbrev a6q(P:Program)(w:World)(K:L2.FG)(mg:Str->Option Value)(base:Heap)(t:Adr):Prop:=FnOk P w K mg base CX0 1 t.f0 t.d0 ["thing"] (SpM K 1 a4d)
theorem c8e(T:Txt K mg t):a6q P w K mg base t:=
 a2v (k:=0) [false] b6r T.F0.fn c8d rfl rfl (by decide) fun cdv A outer s H E hr=>(by
  have hu41:=a2h hr;exact⟨_,(a0i (a3l (a5c (a3g (a1k (a3x K) a9e T.b_isinstance a8r (a0b (a0d (pv 0)) (a0b (a0s (d:=.ty "str") (b2e (by rfl) T.b_str c9w)) a0h)))))
   (a0q (a1w (a0s (d:=.bl false) a8w)))
   a2f)
   (a0i (a3l (a5c (d6v e2s e2s (a0s (d:=.int 1) a0g) (a1k (a3d K) a7t T.b_len a7r (a0b (a0d (pv 0)) a0h)) (a0s (d:=(.int 8)) (d1w (by rfl) T.c_MOST_LETTERS))))
   (a0q (a1w (a0s (d:=.bl false) a8w)))
   a2f)
   (a0q (a1w (a1k (c2h K) (c5y _) T.b_all d7s (a0b (a6l e0n (k:=1) (cap:=[]) a1s (M:=["sign"]) (CompOk.of (a0k b1o).names ["thing"] (by decide +kernel)) (e3f (a0d (pv 0)))
    (fun _ _ _ _=>(a1r (i:=0) (show List.Nodup (["sign"]:List Str) by decide +kernel) rfl (Or.inl rfl))) (fun _ _ _ _=>a6k) (fun _ _ _ _=>(b3e (a9c K (by exact hu41)) (a8c false) (a0d (pv 0)) (a0s (d:=(.str "abcdefghijklmnopqrstuvwxyz")) (d1x (by rfl) T.c_LETTERS))))) a0h)))))),rfl⟩)
theorem c0c:FnScope ["belts"] ["belts"] (a0k a7e):=fnsc
def a9k:GS:=(gsRet (a3z (srcL (gVar 0)) (a0r 0) gYes (gBin oIx (gVar 0) (gC (.int 0))) 1 []))
def a2m:GM:=runM 1 [false] a9k
abbrev a3j(P:Program)(w:World)(K:L2.FG)(mg:Str->Option Value)(base:Heap)(t:Adr):Prop:=FnOk P w K mg base CX0 1 t.f7 t.d7 ["belts"] (SpM K 1 a2m)
theorem c0d(T:Txt K mg t):a3j P w K mg base t:=
 a2v (k:=0) [false] a9k T.F7.fn c0c rfl rfl (by decide) fun cdv A outer s H E hr=>(by
  have hu41:=a2h hr;exact⟨_,(a0q (a1w (a6l a5o (k:=1) (cap:=[]) a1s (M:=["belt"]) (CompOk.of (a0k a7e).names ["belts"] (by decide +kernel)) (a4z K (a2a (a0d (pv 0))))
    (fun _ _ _ _=>(a1r (i:=0) (show List.Nodup (["belt"]:List Str) by decide +kernel) rfl (Or.inl rfl))) (fun _ _ _ _=>a6k) (fun _ _ _ _=>(a1u (a4f K (by exact hu41)) a1v (a0d (pv 0)) (a0s (d:=.int 0) a0g)))))),rfl⟩)
theorem sc_belt_of:FnScope ["house","name","belt"] ["house","name"] (a0k b6l):=fnsc
def b6s:GS:=(a0o (gsFor (gBin oIx (gVar 0) (gC (.int 0))) (a0r 2)
  (gsIf (gT (gBin oEq (gBin oIx (gVar 2) (gC (.int 0))) (gVar 1)))
  (gsRet (gSeq .tup (a0c (gBin oIx (gVar 2) (gC (.int 0))) (a0c (gBin oIx (gVar 2) (gC (.int 1))) (a0c (gBin oIx (gVar 2) (gC (.int 2))) (a0c (gOp oList (a0c (gBin oIx (gVar 2) (gC (.int 3))) gaNil)) gaNil))))))
  gsNil))
 (gsRet (gC .non)))
def a7v:GM:=runM 3 [false,false] b6s
abbrev c2n(P:Program)(w:World)(K:L2.FG)(mg:Str->Option Value)(base:Heap)(t:Adr):Prop:=FnOk P w K mg base CX0 1 t.f9 t.d9 ["house","name"] (SpM K 2 a7v)
theorem c8f(T:Txt K mg t):c2n P w K mg base t:=
 a2v (k:=0) [false,false] b6s T.F9.fn sc_belt_of rfl rfl (by decide) fun cdv A outer s H E hr=>(by
  have hu40:=a8y hr;have hu41:=a2h hr;exact⟨_,(a0i (b5j PassesOwn.never (a1u (a4f K (by exact hu41)) a1v (a0d (pv 0)) (a0s (d:=.int 0) a0g)) (a1r (i:=2) sc_belt_of.nd rfl (Or.inl rfl)) a1s
   (a0q (a3l (a2o (a6y K (by exact hu40)) b1f (a1u (a4f K (by exact hu41)) a1v (a0d (pv 2)) (a0s (d:=.int 0) a0g)) (a0d (pv 1)))
   (a0q (a1w (a6j (a0b (a1u (a4f K (by exact hu41)) a1v (a0d (pv 2)) (a0s (d:=.int 0) a0g)) (a0b (a1u (a4f K (by exact hu41)) a1v (a0d (pv 2)) (a0s (d:=.int 1) a0g)) (a0b (a1u (a4f K (by exact hu41)) a1v (a0d (pv 2)) (a0s (d:=.int 2) a0g)) (a0b (a8z (a4y K) b5p T.b_list a7z (a0b (a1u (a4f K (by exact hu41)) a1v (a0d (pv 2)) (a0s (d:=.int 3) a0g)) a0h)) a0h)))))))
   a2f)))
   (a0q (a1w (a0s (d:=.non) c0z)))),rfl⟩)
theorem b3u:FnScope ["closing"] ["closing"] (a0k a6p):=fnsc
def a6r:GS:=(gsIf (gT (gBin oLt (gVar 0) (gC (.int 0))))
  (a5z 92 (gC (.str "a flight closes at a moment from 0 on")))
  gsNil)
def a5i:GM:=runM 1 [false] a6r
abbrev a9l(P:Program)(w:World)(K:L2.FG)(mg:Str->Option Value)(base:Heap)(t:Adr):Prop:=FnOk P w K mg base (CX1 P w) 1 t.f11 t.d11 ["closing"] (SpX K 1 a5i)
theorem b3v(T:Txt K mg t):a9l P w K mg base t:=
 a5n (k:=0) [false] a6r T.F11.fn b3u rfl rfl (by decide) fun cdv A outer s H E hr=>(by
  exact⟨_,(a0q (a3l (a2o d4x d5u (a0d (pv 0)) (a0s (d:=.int 0) a0g))
   (a0q (a5g (T.er.ix (i:=4) rfl).2.1 T.er.G0 (T.er.ix (i:=4) rfl).2.2.2 (T.er.ix (i:=4) rfl).1 a3e (a0s (d:=.str "a flight closes at a moment from 0 on") a4h)))
   a2f)),rfl⟩)
theorem d2o:FnScope ["_law_script","_law_k"] ["_law_script","_law_k"] (a0k b9w):=fnsc
def b4p:GS:=(a0o (gsIf (gT (gBin oLt (gVar 1) (gOp oLen (a0c (gVar 0) gaNil))))
  (gsRet (gBin oIx (gVar 0) (gVar 1)))
  gsNil)
 (gsRet (gC (.int 0))))
def a3v:GM:=runM 2 [false,false] b4p
abbrev c0e(P:Program)(w:World)(K:L2.FG)(mg:Str->Option Value)(base:Heap)(t:Adr):Prop:=FnOk P w K mg base CX0 1 t.f12 t.d12 ["_law_script","_law_k"] (SpM K 2 a3v)
theorem d2p(T:Txt K mg t):c0e P w K mg base t:=
 a2v (k:=0) [false,false] b4p T.F12.fn d2o rfl rfl (by decide) fun cdv A outer s H E hr=>(by
  have hu41:=a2h hr;exact⟨_,(a0i (a3l (a2o d4x d5u (a0d (pv 1)) (a1k (a3d K) a7t T.b_len a7r (a0b (a0d (pv 0)) a0h)))
   (a0q (a1w (a1u (a4f K (by exact hu41)) a1v (a0d (pv 0)) (a0d (pv 1)))))
   a2f)
   (a0q (a1w (a0s (d:=.int 0) a0g)))),rfl⟩)
theorem d2q:FnScope ["_law_house_here"] ["_law_house_here"] (a0k b4m):=fnsc
def c0f:GS:=(gsRet (gSeq .tup (a0c (a3z (srcL (gBin oIx (gVar 0) (gC (.int 0)))) (a0r 0) gYes (gSeq .tup (a0c (gBin oIx (gVar 0) (gC (.int 0))) (a0c (gBin oIx (gVar 0) (gC (.int 1))) (a0c (gBin oIx (gVar 0) (gC (.int 2))) (a0c (gOp oList (a0c (gBin oIx (gVar 0) (gC (.int 3))) gaNil)) gaNil))))) 1 []) (a0c (gOp oList (a0c (gBin oIx (gVar 0) (gC (.int 1))) gaNil)) gaNil))))
def b4q:GM:=runM 1 [false] c0f
abbrev c6i(P:Program)(w:World)(K:L2.FG)(mg:Str->Option Value)(base:Heap)(t:Adr):Prop:=FnOk P w K mg base CX0 1 t.f24 t.d24 ["_law_house_here"] (SpM K 1 b4q)
theorem d2r(T:Txt K mg t):c6i P w K mg base t:=
 a2v (k:=0) [false] c0f T.F24.fn d2q rfl rfl (by decide) fun cdv A outer s H E hr=>(by
  have hu41:=a2h hr;exact⟨_,(a0q (a1w (a6j (a0b (a6l a5o (k:=1) (cap:=[]) a1s (M:=["_law_belt"]) (CompOk.of (a0k b4m).names ["_law_house_here"] (by decide +kernel)) (a4z K (a2a (a1u (a4f K (by exact hu41)) a1v (a0d (pv 0)) (a0s (d:=.int 0) a0g))))
    (fun _ _ _ _=>(a1r (i:=0) (show List.Nodup (["_law_belt"]:List Str) by decide +kernel) rfl (Or.inl rfl))) (fun _ _ _ _=>a6k) (fun _ _ _ _=>(a6j (a0b (a1u (a4f K (by exact hu41)) a1v (a0d (pv 0)) (a0s (d:=.int 0) a0g)) (a0b (a1u (a4f K (by exact hu41)) a1v (a0d (pv 0)) (a0s (d:=.int 1) a0g)) (a0b (a1u (a4f K (by exact hu41)) a1v (a0d (pv 0)) (a0s (d:=.int 2) a0g)) (a0b (a8z (a4y K) b5p T.b_list a7z (a0b (a1u (a4f K (by exact hu41)) a1v (a0d (pv 0)) (a0s (d:=.int 3) a0g)) a0h)) a0h))))))) (a0b (a8z (a4y K) b5p T.b_list a7z (a0b (a1u (a4f K (by exact hu41)) a1v (a0d (pv 0)) (a0s (d:=.int 1) a0g)) a0h)) a0h))))),rfl⟩)
theorem c4i:FnScope ["self"] ["self"] (a0k b2p):=fnsc
def b2r:GS:=(gsRet (gFld cHall hns 0 1))
def a9x:GM:=runM 1 [true] b2r
abbrev b8g(P:Program)(w:World)(K:L2.FG)(mg:Str->Option Value)(base:Heap)(t:Adr):Prop:=FnOk P w K mg base CX0 1 t.f34 t.d34 ["self"] (SpM K 1 a9x)
theorem c4j(T:Txt K mg t):b8g P w K mg base t:=
 a2v (k:=0) [true] b2r T.F34.fn c4i rfl rfl (by decide) fun cdv A outer s H E hr=>(by
  exact⟨_,(a0q (a1w (a3a (pv 0) T.C_Hall T.na_told_rounds rfl a2e))),rfl⟩)
theorem c4k:FnScope ["self"] ["self"] (a0k b2q):=fnsc
def b2s:GS:=(gsRet (gFld cHall hns 0 2))
def a9y:GM:=runM 1 [true] b2s
abbrev b8h(P:Program)(w:World)(K:L2.FG)(mg:Str->Option Value)(base:Heap)(t:Adr):Prop:=FnOk P w K mg base CX0 1 t.f35 t.d35 ["self"] (SpM K 1 a9y)
theorem c4l(T:Txt K mg t):b8h P w K mg base t:=
 a2v (k:=0) [true] b2s T.F35.fn c4k rfl rfl (by decide) fun cdv A outer s H E hr=>(by
  exact⟨_,(a0q (a1w (a3a (pv 0) T.C_Hall T.na_now rfl a2e))),rfl⟩)
theorem c2o:FnScope ["self"] ["self"] (a0k a8l):=fnsc
def b0p:GS:=(gsRet (a3z (srcL (gOp b6h (a0c (gFld cHall hns 0 3) gaNil))) (a0r 0) gYes (gBin oIx (gFld cHall hns 1 3) (gVar 0)) 1 [0]))
def a6s:GM:=runM 1 [true] b0p
abbrev b0q(P:Program)(w:World)(K:L2.FG)(mg:Str->Option Value)(base:Heap)(t:Adr):Prop:=FnOk P w K mg base CX0 1 t.f36 t.d36 ["self"] (SpM K 1 a6s)
theorem c2p(T:Txt K mg t):b0q P w K mg base t:=
 a2v (k:=0) [true] b0p T.F36.fn c2o rfl rfl (by decide) fun cdv A outer s H E hr=>(by
  have hu41:=a2h hr;exact⟨_,(a0q (a1w (a6l a5o (k:=1) (cap:=[0]) a1s (M:=["name","self"]) (CompOk.of (a0k a8l).names ["self"] (by decide +kernel)) (a4z K (a2a (b8e T.b_sorted (a0b (a3a (pv 0) T.C_Hall T.na_book rfl a2e) a0h))))
    (fun _ _ _ _=>(a1r (i:=0) (show List.Nodup (["name","self"]:List Str) by decide +kernel) rfl (Or.inl rfl))) (fun _ _ _ _=>a6k) (fun _ _ _ _=>(a1u (a4f K (by exact hu41)) a1v (a3a (pv 1) T.C_Hall T.na_book rfl a2e) (a0d (pv 0))))))),rfl⟩)
theorem d6x:FnScope ["self"] ["self"] (a0k c4h):=fnsc
def c4m:GS:=(gsRet (gOp oList (a0c (gFld cHall hns 0 8) gaNil)))
def c0g:GM:=runM 1 [true] c4m
abbrev d2s(P:Program)(w:World)(K:L2.FG)(mg:Str->Option Value)(base:Heap)(t:Adr):Prop:=FnOk P w K mg base CX0 1 t.f39 t.d39 ["self"] (SpM K 1 c0g)
theorem d6y(T:Txt K mg t):d2s P w K mg base t:=
 a2v (k:=0) [true] c4m T.F39.fn d6x rfl rfl (by decide) fun cdv A outer s H E hr=>(by
  exact⟨_,(a0q (a1w (a8z (a4y K) b5p T.b_list a7z (a0b (a3a (pv 0) T.C_Hall T.na_gone rfl a2e) a0h)))),rfl⟩)
theorem c2q:FnScope ["name","taken"] ["name","taken"] (a0k b0m):=fnsc
def b0r:GS:=(a0o (gsIf (gOrT (gNotT (gTru (a1i a4d (a0c (gVar 0) gaNil)))) (gT (gBin (oInG false) (gVar 0) (gVar 1))))
  b3k
  gsNil)
 (gsPut (gC (.bl true)) (gVar 1) (gVar 0)))
def a4u:GM:=runM 2 [false,true] b0r
abbrev b0s(P:Program)(w:World)(K:L2.FG)(mg:Str->Option Value)(base:Heap)(t:Adr):Prop:=FnOk P w K mg base CX0 2 t.f4 t.d4 ["name","taken"] (SpM K 2 a4u)
theorem c2r(T:Txt K mg t)(g0:a6q P w K mg base t):b0s P w K mg base t:=
 a2v (k:=1) [false,true] b0r T.F4.fn c2q rfl rfl (by decide) fun cdv A outer s H E hr=>(by
  have hu41:=a2h hr;exact⟨_,(a0i (a3l (PW.pt (b3q (a5c (a3g (a0w T.F0 g0 hr.le (a0b (a0d (pv 0)) a0h) (a0a a0e)))) (a9b (a2o (a9c K (by exact hu41)) (a8c false) (a0d (pv 0)) (a0d (pv 1))))))
   (a0q b9t)
   a2f)
   (a0q (d8b (a0s (d:=.bl true) a8w) (a0d (pv 1)) (a0d (pv 0)) (by exact hu41)))),rfl⟩)
theorem sc_check_outs:FnScope ["belts","carts","k","belt","name","outs","left","out"] ["belts","carts"] (a0k a9h):=fnsc
def noO(t:Str):GS:=a5z 68 (b6a (b1m (gC (.str "belt ")) (b1m (gUn oFmt (gVar 4)) (b1m (gC (.str t)) gjNil))))
def outC:GS:=(a0o (gsIf (gT (gBin (oInG true) (gVar 7) (gVar 6)))
  (noO " has an out that is no cart, no belt behind it, or there twice")
  gsNil)
 (a3y (gMut b6j (gVar 6) (a0c (gVar 7) gaNil))))
def b2t:GS:=(a0o (gsSet 4 (gBin oIx (gVar 3) (gC (.int 0))))
 (a0o (gsSet 5 (gFrz (gIf (gTru (gOp oIsi (a0c (gBin oIx (gVar 3) (gC (.int 3))) (a0c (gC (.ty "list")) gaNil)))) (gBin oIx (gVar 3) (gC (.int 3))) (gSeq .lst gaNil))))
 (a0o (gsSet 6 (gBin oAdd (gCall a2m (a0c (gFrz (b3h (gVar 0) (b5q (gBin oAdd (gVar 2) (gC (.int 1)))) b7v)) gaNil)) (gVar 1)))
 (a0o (gsFor (gVar 5) (a0r 7) outC)
 (gsIf (gNotT (gTru (gVar 5)))
  (noO " has no outs")
  gsNil)))))
def a7f:GS:=c5x (gVar 0) (ggTup [(a0r 2),(a0r 3)]) b2t
def a4x:GM:=runM 8 [false,false] a7f
abbrev b3m(P:Program)(w:World)(K:L2.FG)(mg:Str->Option Value)(base:Heap)(t:Adr):Prop:=FnOk P w K mg base (CX1 P w) 2 t.f5 t.d5 ["belts","carts"] (SpX K 2 a4x)
theorem c0h(T:Txt K mg t)(g7:a3j P w K mg base t):b3m P w K mg base t:=
 a5n (k:=1) [false,false] a7f T.F5.fn sc_check_outs rfl rfl (by decide) fun cdv A outer s H E hr=>(by
  have hu41:=a2h hr;exact⟨_,(a0q (e1b e1c T.b_enumerate (a0d (pv 0)) (c4y rfl (a4l (a1r (i:=2) sc_check_outs.nd rfl (Or.inl rfl)) (a4l (a1r (i:=3) sc_check_outs.nd rfl (Or.inl rfl)) b8q))) (c5e (a4n a1s (a4n a1s b8x)))
   (a0i (a1l (i:=4) sc_check_outs.nd rfl (Or.inl rfl) (a1u (a4f K (by exact hu41)) a1v (a0d (pv 3)) (a0s (d:=.int 0) a0g)))
   (a0i (a1l (i:=5) sc_check_outs.nd rfl (Or.inl rfl) (a2a (d9y (a3g (a1k (a3x K) a9e T.b_isinstance a8r (a0b (a1u (a4f K (by exact hu41)) a1v (a0d (pv 3)) (a0s (d:=.int 3) a0g)) (a0b (a0s (d:=.ty "list") (b2e (by rfl) T.b_list a7z)) a0h)))) (a1u (a4f K (by exact hu41)) a1v (a0d (pv 3)) (a0s (d:=.int 3) a0g)) (a9a a0h))))
   (a0i (a1l (i:=6) sc_check_outs.nd rfl (Or.inl rfl) (a1y (a1t K) a2p (a2w T.F7 g7 hr.le (a0b (a2a (b4c (a0d (pv 0)) (b9f (a1y (a1t K) a2p (a0d (pv 2)) (a0s (d:=.int 1) a0g))) b9e)) a0h) (a0a a0e)) (a0d (pv 1))))
   (a0i (b5j e1c (a0d (pv 5)) (a1r (i:=7) sc_check_outs.nd rfl (Or.inl rfl)) a1s
   (a0i (a3l (a2o (a5s K (by exact hu41)) (a8c true) (a0d (pv 7)) (a0d (pv 6)))
   (a0q (a5g (T.er.ix (i:=2) rfl).2.1 T.er.G0 (T.er.ix (i:=2) rfl).2.2.2 (T.er.ix (i:=2) rfl).1 a3e (b6b (a8g (a0s (d:=.str "belt ") a4h) (a8g (e0x (a0d (pv 4))) (a8g (a0s (d:=.str " has an out that is no cart, no belt behind it, or there twice") a4h) d1j))))))
   a2f)
   (a0q (a3q (c5n PySem.F.slot_list_remove PySem.F.type_list_remove d1z d2a (a0d (pv 6)) (a0b (a0d (pv 7)) a0h))))))
   (a0q (a3l (a5c (a3g (a0d (pv 5))))
   (a0q (a5g (T.er.ix (i:=2) rfl).2.1 T.er.G0 (T.er.ix (i:=2) rfl).2.2.2 (T.er.ix (i:=2) rfl).1 a3e (b6b (a8g (a0s (d:=.str "belt ") a4h) (a8g (e0x (a0d (pv 4))) (a8g (a0s (d:=.str " has no outs") a4h) d1j))))))
   a2f)))))))),rfl⟩)
theorem sc_reached:FnScope ["house","belt","found","name","long","ring","outs","out"] ["house","belt"] (a0k b1p):=fnsc
def b6t:GS:=(a0o (gsSet 2 b0e)
 (a0o (gsFor (gBin oIx (gVar 0) (gC (.int 0))) (ggTup [(a0r 3),(a0r 4),(a0r 5),(a0r 6)])
  (gsIf (gOrT (gT (gBin oEq (gVar 3) (gVar 1))) (gT (gBin (oInG false) (gVar 3) (gVar 2))))
  (gsFor (gVar 6) (a0r 7)
  (gsPut (gC (.bl true)) (gVar 2) (gVar 7)))
  gsNil))
 (gsRet (a3z (srcL (gBin oAdd (gCall a2m (a0c (gBin oIx (gVar 0) (gC (.int 0))) gaNil)) (gBin oIx (gVar 0) (gC (.int 1))))) (a0r 0) (gT (gBin (oInG false) (gVar 0) (gVar 1))) (gVar 0) 1 [2]))))
def a9m:GM:=runM 8 [false,false] b6t
abbrev c2s(P:Program)(w:World)(K:L2.FG)(mg:Str->Option Value)(base:Heap)(t:Adr):Prop:=FnOk P w K mg base CX0 2 t.f8 t.d8 ["house","belt"] (SpM K 2 a9m)
theorem c8g(T:Txt K mg t)(g7:a3j P w K mg base t):c2s P w K mg base t:=
 a2v (k:=1) [false,false] b6t T.F8.fn sc_reached rfl rfl (by decide) fun cdv A outer s H E hr=>(by
  have hu40:=a8y hr;have hu41:=a2h hr;exact⟨_,(a0i (a1l (i:=2) sc_reached.nd rfl (Or.inr rfl) a6v)
   (a0i (b5j PassesOwn.never (a1u (a4f K (by exact hu41)) a1v (a0d (pv 0)) (a0s (d:=.int 0) a0g)) (c4y rfl (a4l (a1r (i:=3) sc_reached.nd rfl (Or.inl rfl)) (a4l (a1r (i:=4) sc_reached.nd rfl (Or.inl rfl)) (a4l (a1r (i:=5) sc_reached.nd rfl (Or.inl rfl)) (a4l (a1r (i:=6) sc_reached.nd rfl (Or.inl rfl)) b8q))))) (c5e (a4n a1s (a4n a1s (a4n a1s (a4n a1s b8x)))))
   (a0q (a3l (PW.pt (b3q (a2o (a6y K (by exact hu40)) b1f (a0d (pv 3)) (a0d (pv 1))) (a9b (a2o (a9c K (by exact hu41)) (a8c false) (a0d (pv 3)) (a0d (pv 2))))))
   (a0q (b5j PassesOwn.never (a0d (pv 6)) (a1r (i:=7) sc_reached.nd rfl (Or.inl rfl)) a1s
   (a0q (d8b (a0s (d:=.bl true) a8w) (a0d (pv 2)) (a0d (pv 7)) (by exact hu41)))))
   a2f)))
   (a0q (a1w (a6l a5o (k:=1) (cap:=[2]) a1s (M:=["name","found"]) (CompOk.of (a0k b1p).names ["house","belt","found","name","long","ring","outs","out"] (by decide +kernel)) (a4z K (a2a (a1y (a1t K) a2p (a2w T.F7 g7 hr.le (a0b (a1u (a4f K (by exact hu41)) a1v (a0d (pv 0)) (a0s (d:=.int 0) a0g)) a0h) (a0a a0e)) (a1u (a4f K (by exact hu41)) a1v (a0d (pv 0)) (a0s (d:=.int 1) a0g)))))
    (fun _ _ _ _=>(a1r (i:=0) (show List.Nodup (["name","found"]:List Str) by decide +kernel) rfl (Or.inl rfl))) (fun _ _ _ _=>(b9h (a2o (a9c K (by exact hu41)) (a8c false) (a0d (pv 0)) (a0d (pv 1))))) (fun _ _ _ _=>(a0d (pv 0)))))))),rfl⟩)
theorem sc_copied:FnScope ["house","belts"] ["house"] (a0k b4k):=fnsc
def c0i:GS:=(a0o (gsSet 1 (a3z (srcL (gCall a2m (a0c (gBin oIx (gVar 0) (gC (.int 0))) gaNil))) (a0r 0) gYes (gCall a7v (a0c (gVar 1) (a0c (gVar 0) gaNil))) 1 [0]))
 (gsRet (gSeq .tup (a0c (gMove (gVar 1)) (a0c (gOp oList (a0c (gBin oIx (gVar 0) (gC (.int 1))) gaNil)) gaNil)))))
def b1q:GM:=runM 2 [false] c0i
abbrev c0j(P:Program)(w:World)(K:L2.FG)(mg:Str->Option Value)(base:Heap)(t:Adr):Prop:=FnOk P w K mg base CX0 2 t.f10 t.d10 ["house"] (SpM K 1 b1q)
theorem d2t(T:Txt K mg t)(g7:a3j P w K mg base t)(g9:c2n P w K mg base t):c0j P w K mg base t:=
 a2v (k:=1) [false] c0i T.F10.fn sc_copied rfl rfl (by decide) fun cdv A outer s H E hr=>(by
  have hu41:=a2h hr;exact⟨_,(a0i (e0o (i:=1) a5o (k:=1) (cap:=[0]) a1s (M:=["name","house"]) (CompOk.of (a0k b4k).names ["house","belts"] (by decide +kernel)) sc_copied.nd rfl (Or.inl rfl) (a4z K (a2a (a2w T.F7 g7 hr.le (a0b (a1u (a4f K (by exact hu41)) a1v (a0d (pv 0)) (a0s (d:=.int 0) a0g)) a0h) (a0a a0e))))
    (fun _ _ _ _=>(a1r (i:=0) (show List.Nodup (["name","house"]:List Str) by decide +kernel) rfl (Or.inl rfl))) (fun _ _ _ _=>a6k) (fun _ _ _ _=>(a2w T.F9 g9 hr.le (a0b (a0d (pv 1)) (a0b (a0d (pv 0)) a0h)) (a0a (a0a a0e)))))
   (a0q (a1w (a6j (a0b (c3q (a0d (pv 1))) (a0b (a8z (a4y K) b5p T.b_list a7z (a0b (a1u (a4f K (by exact hu41)) a1v (a0d (pv 0)) (a0s (d:=.int 1) a0g)) a0h)) a0h)))))),rfl⟩)
theorem sc_l_digit:FnScope ["_law_script","_law_k","_law_at","_law_many","_law_cell_here","_law_mixed"] ["_law_script","_law_k","_law_at","_law_many"] (a0k b6m):=fnsc
def b1r:GS:=(a0o (gsSet 4 (a1i a3v (a0c (gVar 0) (a0c (gVar 1) gaNil))))
 (a0o (gsIf (gT (gBin oEq (gBin oMod (a1i a3v (a0c (gVar 0) (a0c (gC (.int 0)) gaNil))) (gC (.int 2))) (gC (.int 1))))
  (gsRet (gBin oMod (gBin oMod (gBin oFdiv (gVar 4) (gBin oIx (gSeq .lst (a0c (gC (.int 2)) (a0c (gC (.int 128)) (a0c (gC (.int 8192)) (a0c (gC (.int 524288)) (a0c (gC (.int 33554432)) gaNil)))))) (gVar 2))) (gC (.int 64))) (gVar 3)))
  gsNil)
 (a0o (gsSet 5 (gBin oMod (gBin oMulA (gBin oAdd (gBin oAdd (gBin oAdd (gBin oMod (gVar 4) (gC (.int 1000003))) (gBin oMulA (gVar 1) (gVar 1))) (gBin oMulA (gC (.int 1009)) (gVar 2))) (gC (.int 7))) (gC (.int 48271))) (gC (.int 999983))))
 (gsRet (gBin oMod (gBin oMod (gBin oMulA (gBin oAdd (gBin oAdd (gVar 5) (gBin oMulA (gC (.int 5)) (gVar 1))) (gVar 2)) (gBin oAdd (gC (.int 69621)) (gBin oMulA (gC (.int 2)) (gVar 2)))) (gC (.int 1000033))) (gVar 3))))))
def a1n:GM:=runM 6 [false,false,false,false] b1r
abbrev a6t(P:Program)(w:World)(K:L2.FG)(mg:Str->Option Value)(base:Heap)(t:Adr):Prop:=FnOk P w K mg base CX0 2 t.f13 t.d13 ["_law_script","_law_k","_law_at","_law_many"] (SpM K 4 a1n)
theorem c8h(T:Txt K mg t)(g12:c0e P w K mg base t):a6t P w K mg base t:=
 a2v (k:=1) [false,false,false,false] b1r T.F13.fn sc_l_digit rfl rfl (by decide) fun cdv A outer s H E hr=>(by
  have hu40:=a8y hr;have hu41:=a2h hr;exact⟨_,(a0i (a1l (i:=4) sc_l_digit.nd rfl (Or.inl rfl) (a0w T.F12 g12 hr.le (a0b (a0d (pv 0)) (a0b (a0d (pv 1)) a0h)) (a0a (a0a a0e))))
   (a0i (a3l (a2o (a6y K (by exact hu40)) b1f (a1y a7q a7s (a0w T.F12 g12 hr.le (a0b (a0d (pv 0)) (a0b (a0s (d:=.int 0) a0g) a0h)) (a0a (a0a a0e))) (a0s (d:=.int 2) a0g)) (a0s (d:=.int 1) a0g))
   (a0q (a1w (a1y a7q a7s (a1y a7q a7s (a1y c3h c3t (a0d (pv 4)) (a1u (a4f K (by exact hu41)) a1v (a9a (a0b (a0s (d:=.int 2) a0g) (a0b (a0s (d:=.int 128) a0g) (a0b (a0s (d:=.int 8192) a0g) (a0b (a0s (d:=.int 524288) a0g) (a0b (a0s (d:=.int 33554432) a0g) a0h)))))) (a0d (pv 2)))) (a0s (d:=.int 64) a0g)) (a0d (pv 3)))))
   a2f)
   (a0i (a1l (i:=5) sc_l_digit.nd rfl (Or.inl rfl) (a1y a7q a7s (a1y a7i b0f (a1y (a1t K) a2p (a1y (a1t K) a2p (a1y (a1t K) a2p (a1y a7q a7s (a0d (pv 4)) (a0s (d:=.int 1000003) a0g)) (a1y a7i b0f (a0d (pv 1)) (a0d (pv 1)))) (a1y a7i b0f (a0s (d:=.int 1009) a0g) (a0d (pv 2)))) (a0s (d:=.int 7) a0g)) (a0s (d:=.int 48271) a0g)) (a0s (d:=.int 999983) a0g)))
   (a0q (a1w (a1y a7q a7s (a1y a7q a7s (a1y a7i b0f (a1y (a1t K) a2p (a1y (a1t K) a2p (a0d (pv 5)) (a1y a7i b0f (a0s (d:=.int 5) a0g) (a0d (pv 1)))) (a0d (pv 2))) (a1y (a1t K) a2p (a0s (d:=.int 69621) a0g) (a1y a7i b0f (a0s (d:=.int 2) a0g) (a0d (pv 2))))) (a0s (d:=.int 1000033) a0g)) (a0d (pv 3)))))))),rfl⟩)
theorem c4n:FnScope ["self","name","cart","closing"] ["self","name","cart","closing"] (a0k b2o):=fnsc
def b2u:GS:=(a0o (gsIf (gOrT (gNotT (gTru (a1i a4d (a0c (gVar 1) gaNil)))) (gT (gBin (oInG false) (gVar 1) (gFld cHall hns 0 3))))
  (a5z 44 (gC (.str "a flight has no name, or one that another flight has")))
  gsNil)
 (a0o (gsIf (gT (gBin (oInG true) (gVar 2) (b3h (gBin oIx (gFld cHall hns 0 0) (gC (.int 1))) (b5q (gC (.int 1))) b7v)))
  (a5z 68 (gC (.str "a flight's cart is none of the house, or the hand")))
  gsNil)
 (a0o (a5f (gCall a5i (a0c (gVar 3) gaNil)))
 (b6f (gFrz (gSeq .tup (a0c (gVar 1) (a0c (gVar 2) (a0c (gVar 3) gaNil))))) cHall hns 0 3 (gVar 1)))))
def a9z:GM:=runM 4 [true,false,false,false] b2u
abbrev b8i(P:Program)(w:World)(K:L2.FG)(mg:Str->Option Value)(base:Heap)(t:Adr):Prop:=FnOk P w K mg base (CX1 P w) 2 t.f27 t.d27 ["self","name","cart","closing"] (SpX K 4 a9z)
theorem c4o(T:Txt K mg t)(g11:a9l P w K mg base t)(g0:a6q P w K mg base t):b8i P w K mg base t:=
 a5n (k:=1) [true,false,false,false] b2u T.F27.fn c4n rfl rfl (by decide) fun cdv A outer s H E hr=>(by
  have hu41:=a2h hr;exact⟨_,(a0i (a3l (PW.pt (b3q (a5c (a3g (a0w T.F0 g0 hr.le (a0b (a0d (pv 1)) a0h) (a0a a0e)))) (a9b (a2o (a9c K (by exact hu41)) (a8c false) (a0d (pv 1)) (a3a (pv 0) T.C_Hall T.na_book rfl a2e)))))
   (a0q (a5g (T.er.ix (i:=0) rfl).2.1 T.er.G0 (T.er.ix (i:=0) rfl).2.2.2 (T.er.ix (i:=0) rfl).1 a3e (a0s (d:=.str "a flight has no name, or one that another flight has") a4h)))
   a2f)
   (a0i (a3l (a2o (a5s K (by exact hu41)) (a8c true) (a0d (pv 2)) (b4c (a1u (a4f K (by exact hu41)) a1v (a3a (pv 0) T.C_Hall T.na_built rfl a2e) (a0s (d:=.int 1) a0g)) (b9f (a0s (d:=.int 1) a0g)) b9e))
   (a0q (a5g (T.er.ix (i:=2) rfl).2.1 T.er.G0 (T.er.ix (i:=2) rfl).2.2.2 (T.er.ix (i:=2) rfl).1 a3e (a0s (d:=.str "a flight's cart is none of the house, or the hand") a4h)))
   a2f)
   (a0i (a4p (b4h T.F11 g11 hr.le a3e (a0b (a0d (pv 3)) a0h) (a0a a0e)))
   (a0q (b6g (a2a (a6j (a0b (a0d (pv 1)) (a0b (a0d (pv 2)) (a0b (a0d (pv 3)) a0h))))) (a3a (pv 0) T.C_Hall T.na_book rfl a2e) (a0d (pv 1)) (by exact hu41)))))),rfl⟩)
theorem b2v:FnScope ["self","name"] ["self","name"] (a0k a6a):=fnsc
def a8t:GS:=(gsIf (gOrT (gNotT (gTru (a1i a4d (a0c (gVar 1) gaNil)))) (gT (gBin (oInG true) (gVar 1) (gFld cHall hns 0 3))))
  (a5z 104 (gC (.str "no flight is called so")))
  gsNil)
def a8u:GM:=runM 2 [true,false] a8t
abbrev a8v(P:Program)(w:World)(K:L2.FG)(mg:Str->Option Value)(base:Heap)(t:Adr):Prop:=FnOk P w K mg base (CX1 P w) 2 t.f30 t.d30 ["self","name"] (SpX K 2 a8u)
theorem b2w(T:Txt K mg t)(g0:a6q P w K mg base t):a8v P w K mg base t:=
 a5n (k:=1) [true,false] a8t T.F30.fn b2v rfl rfl (by decide) fun cdv A outer s H E hr=>(by
  have hu41:=a2h hr;exact⟨_,(a0q (a3l (PW.pt (b3q (a5c (a3g (a0w T.F0 g0 hr.le (a0b (a0d (pv 1)) a0h) (a0a a0e)))) (a9b (a2o (a5s K (by exact hu41)) (a8c true) (a0d (pv 1)) (a3a (pv 0) T.C_Hall T.na_book rfl a2e)))))
   (a0q (a5g (T.er.ix (i:=5) rfl).2.1 T.er.G0 (T.er.ix (i:=5) rfl).2.2.2 (T.er.ix (i:=5) rfl).1 a3e (a0s (d:=.str "no flight is called so") a4h)))
   a2f)),rfl⟩)
theorem b6u:FnScope ["self","name"] ["self","name"] (a0k a7n):=fnsc
def a7o:GS:=(gsIf (gT (gBin (oInG true) (gVar 1) (gCall a2m (a0c (gBin oIx (gFld cHall hns 0 0) (gC (.int 0))) gaNil))))
  (a5z 116 (gC (.str "no belt is called so")))
  gsNil)
def a4k:GM:=runM 2 [true,false] a7o
abbrev a7p(P:Program)(w:World)(K:L2.FG)(mg:Str->Option Value)(base:Heap)(t:Adr):Prop:=FnOk P w K mg base (CX1 P w) 2 t.f31 t.d31 ["self","name"] (SpX K 2 a4k)
theorem b6v(T:Txt K mg t)(g7:a3j P w K mg base t):a7p P w K mg base t:=
 a5n (k:=1) [true,false] a7o T.F31.fn b6u rfl rfl (by decide) fun cdv A outer s H E hr=>(by
  have hu41:=a2h hr;exact⟨_,(a0q (a3l (a2o (a5s K (by exact hu41)) (a8c true) (a0d (pv 1)) (a2w T.F7 g7 hr.le (a0b (a1u (a4f K (by exact hu41)) a1v (a3a (pv 0) T.C_Hall T.na_built rfl a2e) (a0s (d:=.int 0) a0g)) a0h) (a0a a0e)))
   (a0q (a5g (T.er.ix (i:=6) rfl).2.1 T.er.G0 (T.er.ix (i:=6) rfl).2.2.2 (T.er.ix (i:=6) rfl).1 a3e (a0s (d:=.str "no belt is called so") a4h)))
   a2f)),rfl⟩)
theorem b2x:FnScope ["self","bag"] ["self","bag"] (a0k a6b):=fnsc
def a4r:GS:=(gsIf (gOrT (gNotT (gTru (a1i a4d (a0c (gVar 1) gaNil)))) (gT (gBin (oInG true) (gVar 1) (gFld cHall hns 0 5))))
  (a5z 140 (gC (.str "no bag in the house is called so")))
  gsNil)
def a2q:GM:=runM 2 [true,false] a4r
abbrev a6c(P:Program)(w:World)(K:L2.FG)(mg:Str->Option Value)(base:Heap)(t:Adr):Prop:=FnOk P w K mg base (CX1 P w) 2 t.f32 t.d32 ["self","bag"] (SpX K 2 a2q)
theorem b2y(T:Txt K mg t)(g0:a6q P w K mg base t):a6c P w K mg base t:=
 a5n (k:=1) [true,false] a4r T.F32.fn b2x rfl rfl (by decide) fun cdv A outer s H E hr=>(by
  have hu41:=a2h hr;exact⟨_,(a0q (a3l (PW.pt (b3q (a5c (a3g (a0w T.F0 g0 hr.le (a0b (a0d (pv 1)) a0h) (a0a a0e)))) (a9b (a2o (a5s K (by exact hu41)) (a8c true) (a0d (pv 1)) (a3a (pv 0) T.C_Hall T.na_places rfl a2e)))))
   (a0q (a5g (T.er.ix (i:=8) rfl).2.1 T.er.G0 (T.er.ix (i:=8) rfl).2.2.2 (T.er.ix (i:=8) rfl).1 a3e (a0s (d:=.str "no bag in the house is called so") a4h)))
   a2f)),rfl⟩)
theorem c2t:FnScope ["self"] ["self"] (a0k a8m):=fnsc
def b0t:GS:=(gsRet (a3z (srcL (gCall a2m (a0c (gBin oIx (gFld cHall hns 0 0) (gC (.int 0))) gaNil))) (a0r 0) (gT (gBin (oInG false) (gVar 0) (gFld cHall hns 1 4))) (gVar 0) 1 [0]))
def a8n:GM:=runM 1 [true] b0t
abbrev b6w(P:Program)(w:World)(K:L2.FG)(mg:Str->Option Value)(base:Heap)(t:Adr):Prop:=FnOk P w K mg base CX0 2 t.f37 t.d37 ["self"] (SpM K 1 a8n)
theorem c2u(T:Txt K mg t)(g7:a3j P w K mg base t):b6w P w K mg base t:=
 a2v (k:=1) [true] b0t T.F37.fn c2t rfl rfl (by decide) fun cdv A outer s H E hr=>(by
  have hu41:=a2h hr;exact⟨_,(a0q (a1w (a6l a5o (k:=1) (cap:=[0]) a1s (M:=["name","self"]) (CompOk.of (a0k a8m).names ["self"] (by decide +kernel)) (a4z K (a2a (a2w T.F7 g7 hr.le (a0b (a1u (a4f K (by exact hu41)) a1v (a3a (pv 0) T.C_Hall T.na_built rfl a2e) (a0s (d:=.int 0) a0g)) a0h) (a0a a0e))))
    (fun _ _ _ _=>(a1r (i:=0) (show List.Nodup (["name","self"]:List Str) by decide +kernel) rfl (Or.inl rfl))) (fun _ _ _ _=>(b9h (a2o (a9c K (by exact hu41)) (a8c false) (a0d (pv 0)) (a3a (pv 1) T.C_Hall T.na_halts rfl a2e)))) (fun _ _ _ _=>(a0d (pv 0)))))),rfl⟩)
theorem sc_h_in_order:FnScope ["self","ranks","spots"] ["self"] (a0k a5v):=fnsc
def a9n:GS:=(a0o (gsSet 1 (gFrz (gCall a2m (a0c (gBin oIx (gFld cHall hns 0 0) (gC (.int 0))) gaNil))))
 (a0o (gsSet 2 (gFrz (a3z (srcIt (gFld cHall hns 0 5) [1]) (ggTup [(a0r 0),(a0r 1)]) gYes (gFrz (gSeq .tup (a0c (c5z d1n (gVar 2) (a0c (gBin oIx (gVar 1) (gC (.int 0))) gaNil)) (a0c (gBin oIx (gVar 1) (gC (.int 1))) (a0c (gVar 0) gaNil))))) 2 [1])))
 (gsRet (a3z (srcL (gOp b6h (a0c (gVar 2) gaNil))) (a0r 0) gYes (gBin oIx (gVar 0) (gC (.int 2))) 1 []))))
def a5w:GM:=runM 3 [true] a9n
abbrev a9o(P:Program)(w:World)(K:L2.FG)(mg:Str->Option Value)(base:Heap)(t:Adr):Prop:=FnOk P w K mg base CX0 2 t.f43 t.d43 ["self"] (SpM K 1 a5w)
theorem c0k(T:Txt K mg t)(g7:a3j P w K mg base t):a9o P w K mg base t:=
 a2v (k:=1) [true] a9n T.F43.fn sc_h_in_order rfl rfl (by decide) fun cdv A outer s H E hr=>(by
  have hu41:=a2h hr;exact⟨_,(a0i (a1l (i:=1) sc_h_in_order.nd rfl (Or.inr rfl) (a2a (a2w T.F7 g7 hr.le (a0b (a1u (a4f K (by exact hu41)) a1v (a3a (pv 0) T.C_Hall T.na_built rfl a2e) (a0s (d:=.int 0) a0g)) a0h) (a0a a0e))))
   (a0i (b9i (i:=2) d1v (k:=2) (cap:=[1]) (c5e (a4n a1s (a4n a1s b8x))) (M:=["bag","place","ranks"]) (CompOk.of (a0k a5v).names ["self","ranks","spots"] (by decide +kernel)) sc_h_in_order.nd rfl (Or.inl rfl) (d6t (a3a (pv 0) T.C_Hall T.na_places rfl a2e))
    (fun _ _ _ _=>(c4y rfl (a4l (a1r (i:=0) (show List.Nodup (["bag","place","ranks"]:List Str) by decide +kernel) rfl (Or.inl rfl)) (a4l (a1r (i:=1) (show List.Nodup (["bag","place","ranks"]:List Str) by decide +kernel) rfl (Or.inl rfl)) b8q)))) (fun _ _ _ _=>a6k) (fun _ _ _ _=>(a2a (a6j (a0b (d6h PySem.F.slot_list_index PySem.F.type_list_index (d6i K) d6j (a0d (pv 2)) (a0b (a1u (a4f K (by exact hu41)) a1v (a0d (pv 1)) (a0s (d:=.int 0) a0g)) a0h)) (a0b (a1u (a4f K (by exact hu41)) a1v (a0d (pv 1)) (a0s (d:=.int 1) a0g)) (a0b (a0d (pv 0)) a0h)))))))
   (a0q (a1w (a6l a5o (k:=1) (cap:=[]) a1s (M:=["spot"]) (CompOk.of (a0k a5v).names ["self","ranks","spots"] (by decide +kernel)) (a4z K (a2a (b8e T.b_sorted (a0b (a0d (pv 2)) a0h))))
    (fun _ _ _ _=>(a1r (i:=0) (show List.Nodup (["spot"]:List Str) by decide +kernel) rfl (Or.inl rfl))) (fun _ _ _ _=>a6k) (fun _ _ _ _=>(a1u (a4f K (by exact hu41)) a1v (a0d (pv 0)) (a0s (d:=.int 2) a0g)))))))),rfl⟩)
theorem sc_check_carts:FnScope ["carts","taken","cart"] ["carts","taken"] (a0k a8j):=fnsc
def a6h:GS:=(a0o (gsFor (gVar 0) (a0r 2)
  (a3y (gCall a4u (a0c (gVar 2) (a0c (gVar 1) gaNil)))))
 (gsIf (gNotT (gTru (gVar 0)))
  (a5z 80 (gC (.str "a house has a cart at least, the hand")))
  gsNil))
def a2t:GM:=runM 3 [false,true] a6h
abbrev b1s(P:Program)(w:World)(K:L2.FG)(mg:Str->Option Value)(base:Heap)(t:Adr):Prop:=FnOk P w K mg base (CX1 P w) 3 t.f2 t.d2 ["carts","taken"] (SpX K 2 a2t)
theorem b7l(T:Txt K mg t)(g4:b0s P w K mg base t):b1s P w K mg base t:=
 a5n (k:=2) [false,true] a6h T.F2.fn sc_check_carts rfl rfl (by decide) fun cdv A outer s H E hr=>(by
  exact⟨_,(a0i (b5j e1c (a0d (pv 0)) (a1r (i:=2) sc_check_carts.nd rfl (Or.inl rfl)) a1s
   (a0q (a3q (a2w T.F4 g4 hr.le (a0b (a0d (pv 2)) (a0b (a0d (pv 1)) a0h)) (a0a (a0a a0e))))))
   (a0q (a3l (a5c (a3g (a0d (pv 0))))
   (a0q (a5g (T.er.ix (i:=3) rfl).2.1 T.er.G0 (T.er.ix (i:=3) rfl).2.2.2 (T.er.ix (i:=3) rfl).1 a3e (a0s (d:=.str "a house has a cart at least, the hand") a4h)))
   a2f))),rfl⟩)
theorem sc_check_belts:FnScope ["belts","taken","name","long","ring","outs","least"] ["belts","taken"] (a0k a8k):=fnsc
def a8o:GS:=(gsFor (gVar 0) (ggTup [(a0r 2),(a0r 3),(a0r 4),(a0r 5)])
  (a0o (a3y (gCall a4u (a0c (gVar 2) (a0c (gVar 1) gaNil))))
 (a0o (gsSet 6 (gFrz (gIf (gTru (gVar 4)) (gC (.int 2)) (gC (.int 1)))))
 (gsIf (gT (gBin oLt (gVar 3) (gVar 6)))
  b3k
  gsNil))))
def a6i:GM:=runM 7 [false,true] a8o
abbrev b1t(P:Program)(w:World)(K:L2.FG)(mg:Str->Option Value)(base:Heap)(t:Adr):Prop:=FnOk P w K mg base CX0 3 t.f3 t.d3 ["belts","taken"] (SpM K 2 a6i)
theorem b7m(T:Txt K mg t)(g4:b0s P w K mg base t):b1t P w K mg base t:=
 a2v (k:=2) [false,true] a8o T.F3.fn sc_check_belts rfl rfl (by decide) fun cdv A outer s H E hr=>(by
  exact⟨_,(a0q (b5j PassesOwn.never (a0d (pv 0)) (c4y rfl (a4l (a1r (i:=2) sc_check_belts.nd rfl (Or.inl rfl)) (a4l (a1r (i:=3) sc_check_belts.nd rfl (Or.inl rfl)) (a4l (a1r (i:=4) sc_check_belts.nd rfl (Or.inl rfl)) (a4l (a1r (i:=5) sc_check_belts.nd rfl (Or.inl rfl)) b8q))))) (c5e (a4n a1s (a4n a1s (a4n a1s (a4n a1s b8x)))))
   (a0i (a3q (a2w T.F4 g4 hr.le (a0b (a0d (pv 2)) (a0b (a0d (pv 1)) a0h)) (a0a (a0a a0e))))
   (a0i (a1l (i:=6) sc_check_belts.nd rfl (Or.inl rfl) (a2a (d9y (a3g (a0d (pv 4))) (a0s (d:=.int 2) a0g) (a0s (d:=.int 1) a0g))))
   (a0q (a3l (a2o d4x d5u (a0d (pv 3)) (a0d (pv 6)))
   (a0q b9t)
   a2f)))))),rfl⟩)
theorem sc_check_hand:FnScope ["house","hand","name"] ["house"] (a0k a9i):=fnsc
def a9p:GS:=(a0o (gsSet 1 (gBin oIx (gBin oIx (gVar 0) (gC (.int 1))) (gC (.int 0))))
 (gsFor (gCall a2m (a0c (gBin oIx (gVar 0) (gC (.int 0))) gaNil)) (a0r 2)
  (gsIf (gT (gBin (oInG true) (gVar 1) (gCall a9m (a0c (gVar 0) (a0c (gVar 2) gaNil)))))
  b3k
  gsNil)))
def a7g:GM:=runM 3 [false] a9p
abbrev b3n(P:Program)(w:World)(K:L2.FG)(mg:Str->Option Value)(base:Heap)(t:Adr):Prop:=FnOk P w K mg base CX0 3 t.f6 t.d6 ["house"] (SpM K 1 a7g)
theorem c0l(T:Txt K mg t)(g7:a3j P w K mg base t)(g8:c2s P w K mg base t):b3n P w K mg base t:=
 a2v (k:=2) [false] a9p T.F6.fn sc_check_hand rfl rfl (by decide) fun cdv A outer s H E hr=>(by
  have hu41:=a2h hr;exact⟨_,(a0i (a1l (i:=1) sc_check_hand.nd rfl (Or.inl rfl) (a1u (a4f K (by exact hu41)) a1v (a1u (a4f K (by exact hu41)) a1v (a0d (pv 0)) (a0s (d:=.int 1) a0g)) (a0s (d:=.int 0) a0g)))
   (a0q (b5j PassesOwn.never (a2w T.F7 g7 hr.le (a0b (a1u (a4f K (by exact hu41)) a1v (a0d (pv 0)) (a0s (d:=.int 0) a0g)) a0h) (a0a a0e)) (a1r (i:=2) sc_check_hand.nd rfl (Or.inl rfl)) a1s
   (a0q (a3l (a2o (a5s K (by exact hu41)) (a8c true) (a0d (pv 1)) (a2w T.F8 g8 hr.le (a0b (a0d (pv 0)) (a0b (a0d (pv 2)) a0h)) (a0a (a0a a0e))))
   (a0q b9t)
   a2f))))),rfl⟩)
theorem d2u:FnScope ["_law_script","_law_k","_law_many"] ["_law_script","_law_k","_law_many"] (a0k b9x):=fnsc
def c0m:GS:=(gsRet (a1i a1n (a0c (gVar 0) (a0c (gVar 1) (a0c (gC (.int 0)) (a0c (gVar 2) gaNil))))))
def a3m:GM:=runM 3 [false,false,false] c0m
abbrev b1u(P:Program)(w:World)(K:L2.FG)(mg:Str->Option Value)(base:Heap)(t:Adr):Prop:=FnOk P w K mg base CX0 3 t.f14 t.d14 ["_law_script","_law_k","_law_many"] (SpM K 3 a3m)
theorem d2v(T:Txt K mg t)(g13:a6t P w K mg base t):b1u P w K mg base t:=
 a2v (k:=2) [false,false,false] c0m T.F14.fn d2u rfl rfl (by decide) fun cdv A outer s H E hr=>(by
  exact⟨_,(a0q (a1w (a0w T.F13 g13 hr.le (a0b (a0d (pv 0)) (a0b (a0d (pv 1)) (a0b (a0s (d:=.int 0) a0g) (a0b (a0d (pv 2)) a0h)))) (a0a (a0a (a0a (a0a a0e))))))),rfl⟩)
theorem c8i:FnScope ["_law_script","_law_k","_law_many"] ["_law_script","_law_k","_law_many"] (a0k b6n):=fnsc
def b6x:GS:=(gsRet (a1i a1n (a0c (gVar 0) (a0c (gVar 1) (a0c (gC (.int 1)) (a0c (gVar 2) gaNil))))))
def a4e:GM:=runM 3 [false,false,false] b6x
abbrev b6y(P:Program)(w:World)(K:L2.FG)(mg:Str->Option Value)(base:Heap)(t:Adr):Prop:=FnOk P w K mg base CX0 3 t.f15 t.d15 ["_law_script","_law_k","_law_many"] (SpM K 3 a4e)
theorem c8j(T:Txt K mg t)(g13:a6t P w K mg base t):b6y P w K mg base t:=
 a2v (k:=2) [false,false,false] b6x T.F15.fn c8i rfl rfl (by decide) fun cdv A outer s H E hr=>(by
  exact⟨_,(a0q (a1w (a0w T.F13 g13 hr.le (a0b (a0d (pv 0)) (a0b (a0d (pv 1)) (a0b (a0s (d:=.int 1) a0g) (a0b (a0d (pv 2)) a0h)))) (a0a (a0a (a0a (a0a a0e))))))),rfl⟩)
theorem c8k:FnScope ["_law_script","_law_k","_law_many"] ["_law_script","_law_k","_law_many"] (a0k b6o):=fnsc
def b6z:GS:=(gsRet (a1i a1n (a0c (gVar 0) (a0c (gVar 1) (a0c (gC (.int 2)) (a0c (gVar 2) gaNil))))))
def a5j:GM:=runM 3 [false,false,false] b6z
abbrev b1v(P:Program)(w:World)(K:L2.FG)(mg:Str->Option Value)(base:Heap)(t:Adr):Prop:=FnOk P w K mg base CX0 3 t.f16 t.d16 ["_law_script","_law_k","_law_many"] (SpM K 3 a5j)
theorem c8l(T:Txt K mg t)(g13:a6t P w K mg base t):b1v P w K mg base t:=
 a2v (k:=2) [false,false,false] b6z T.F16.fn c8k rfl rfl (by decide) fun cdv A outer s H E hr=>(by
  exact⟨_,(a0q (a1w (a0w T.F13 g13 hr.le (a0b (a0d (pv 0)) (a0b (a0d (pv 1)) (a0b (a0s (d:=.int 2) a0g) (a0b (a0d (pv 2)) a0h)))) (a0a (a0a (a0a (a0a a0e))))))),rfl⟩)
theorem sc_h_put:FnScope ["self","bag","flight","belt","place"] ["self","bag","flight","belt"] (a0k c4g):=fnsc
def c4p:GS:=(a0o (gsIf (gOrT (gNotT (gTru (a1i a4d (a0c (gVar 1) gaNil)))) (gOrT (gT (gBin (oInG false) (gVar 1) (gFld cHall hns 0 5))) (gT (gBin (oInG false) (gVar 1) (gFld cHall hns 0 9)))))
  (a5z 44 (gC (.str "a bag has no name, or one that a bag of this hall has or had")))
  gsNil)
 (a0o (gsIf (gT (gBin (oIsG true) (gVar 2) (gC .non)))
  (a5f (gMeth a8u cHall hns 0 (a0c (gVar 2) gaNil)))
  gsNil)
 (a0o (a5f (gMeth a4k cHall hns 0 (a0c (gVar 3) gaNil)))
 (a0o (gsSet 4 (gFrz (gSeq .tup (a0c (gVar 3) (a0c (gC (.int 0)) gaNil)))))
 (a0o (gsIf (gT (gBin (oInG false) (gVar 4) (gOp oVals (a0c (gFld cHall hns 0 5) gaNil))))
  (a5z 128 (b6a (b1m (gC (.str "cell 0 of belt ")) (b1m (gUn oFmt (gVar 3)) (b1m (gC (.str " has a bag")) gjNil)))))
  gsNil)
 (a0o (b6f (gVar 4) cHall hns 0 5 (gVar 1))
 (a0o (b6f (gVar 2) cHall hns 0 6 (gVar 1))
 (b6f (gC (.int 0)) cHall hns 0 7 (gVar 1)))))))))
def c0n:GM:=runM 5 [true,false,false,false] c4p
abbrev d2w(P:Program)(w:World)(K:L2.FG)(mg:Str->Option Value)(base:Heap)(t:Adr):Prop:=FnOk P w K mg base (CX1 P w) 3 t.f28 t.d28 ["self","bag","flight","belt"] (SpX K 4 c0n)
theorem d6z(T:Txt K mg t)(g31:a7p P w K mg base t)(g30:a8v P w K mg base t)(g0:a6q P w K mg base t):d2w P w K mg base t:=
 a5n (k:=2) [true,false,false,false] c4p T.F28.fn sc_h_put rfl rfl (by decide) fun cdv A outer s H E hr=>(by
  have hu41:=a2h hr;exact⟨_,(a0i (a3l (PW.pt (b3q (a5c (a3g (a0w T.F0 g0 hr.le (a0b (a0d (pv 1)) a0h) (a0a a0e)))) (b3q (a2o (a9c K (by exact hu41)) (a8c false) (a0d (pv 1)) (a3a (pv 0) T.C_Hall T.na_places rfl a2e)) (a9b (a2o (a9c K (by exact hu41)) (a8c false) (a0d (pv 1)) (a3a (pv 0) T.C_Hall T.na_carted rfl a2e))))))
   (a0q (a5g (T.er.ix (i:=0) rfl).2.1 T.er.G0 (T.er.ix (i:=0) rfl).2.2.2 (T.er.ix (i:=0) rfl).1 a3e (a0s (d:=.str "a bag has no name, or one that a bag of this hall has or had") a4h)))
   a2f)
   (a0i (a3l (a2o e0g (e0h true) (a0d (pv 2)) (a0s (d:=.non) c0z))
   (a0q (a4p (a5h (pv 0) T.C_Hall T.F30 g30 hr.le a3e (by decide +kernel) (a0b (a0d (pv 2)) a0h) (a0a a0e))))
   a2f)
   (a0i (a4p (a5h (pv 0) T.C_Hall T.F31 g31 hr.le a3e (by decide +kernel) (a0b (a0d (pv 3)) a0h) (a0a a0e)))
   (a0i (a1l (i:=4) sc_h_put.nd rfl (Or.inl rfl) (a2a (a6j (a0b (a0d (pv 3)) (a0b (a0s (d:=.int 0) a0g) a0h)))))
   (a0i (a3l (a2o (a9c K (by exact hu41)) (a8c false) (a0d (pv 4)) (d6q T.b_list (a3a (pv 0) T.C_Hall T.na_places rfl a2e)))
   (a0q (a5g (T.er.ix (i:=7) rfl).2.1 T.er.G0 (T.er.ix (i:=7) rfl).2.2.2 (T.er.ix (i:=7) rfl).1 a3e (b6b (a8g (a0s (d:=.str "cell 0 of belt ") a4h) (a8g (e0x (a0d (pv 3))) (a8g (a0s (d:=.str " has a bag") a4h) d1j))))))
   a2f)
   (a0i (b6g (a0d (pv 4)) (a3a (pv 0) T.C_Hall T.na_places rfl a2e) (a0d (pv 1)) (by exact hu41))
   (a0i (b6g (a0d (pv 2)) (a3a (pv 0) T.C_Hall T.na_readings rfl a2e) (a0d (pv 1)) (by exact hu41))
   (a0q (b6g (a0s (d:=.int 0) a0g) (a3a (pv 0) T.C_Hall T.na_rounded rfl a2e) (a0d (pv 1)) (by exact hu41)))))))))),rfl⟩)
theorem d2x:FnScope ["self","belt"] ["self","belt"] (a0k c0b):=fnsc
def c0o:GS:=(a0o (a5f (gMeth a4k cHall hns 0 (a0c (gVar 1) gaNil)))
 (b6f (gC (.bl true)) cHall hns 0 4 (gVar 1)))
def b4r:GM:=runM 2 [true,false] c0o
abbrev c6j(P:Program)(w:World)(K:L2.FG)(mg:Str->Option Value)(base:Heap)(t:Adr):Prop:=FnOk P w K mg base (CX1 P w) 3 t.f29 t.d29 ["self","belt"] (SpX K 2 b4r)
theorem d2y(T:Txt K mg t)(g31:a7p P w K mg base t):c6j P w K mg base t:=
 a5n (k:=2) [true,false] c0o T.F29.fn d2x rfl rfl (by decide) fun cdv A outer s H E hr=>(by
  have hu41:=a2h hr;exact⟨_,(a0i (a4p (a5h (pv 0) T.C_Hall T.F31 g31 hr.le a3e (by decide +kernel) (a0b (a0d (pv 1)) a0h) (a0a a0e)))
   (a0q (b6g (a0s (d:=.bl true) a8w) (a3a (pv 0) T.C_Hall T.na_halts rfl a2e) (a0d (pv 1)) (by exact hu41)))),rfl⟩)
theorem c8m:FnScope ["self"] ["self"] (a0k b6p):=fnsc
def b7a:GS:=(gsRet (gCall b1q (a0c (gFld cHall hns 0 0) gaNil)))
def a9q:GM:=runM 1 [true] b7a
abbrev b7b(P:Program)(w:World)(K:L2.FG)(mg:Str->Option Value)(base:Heap)(t:Adr):Prop:=FnOk P w K mg base CX0 3 t.f33 t.d33 ["self"] (SpM K 1 a9q)
theorem c8n(T:Txt K mg t)(g10:c0j P w K mg base t):b7b P w K mg base t:=
 a2v (k:=2) [true] b7a T.F33.fn c8m rfl rfl (by decide) fun cdv A outer s H E hr=>(by
  exact⟨_,(a0q (a1w (a2w T.F10 g10 hr.le (a0b (a3a (pv 0) T.C_Hall T.na_built rfl a2e) a0h) (a0a a0e)))),rfl⟩)
theorem d2z:FnScope ["self"] ["self"] (a0k b4n):=fnsc
def c0p:GS:=(gsRet (a3z (srcL (gMeth a5w cHall hns 0 gaNil)) (a0r 0) gYes (gFrz (gSeq .tup (a0c (gVar 0) (a0c (gBin oIx (gFld cHall hns 1 6) (gVar 0)) (a0c (gBin oIx (gFld cHall hns 1 5) (gVar 0)) (a0c (gBin oIx (gFld cHall hns 1 7) (gVar 0)) gaNil)))))) 1 [0]))
def b1w:GM:=runM 1 [true] c0p
abbrev c0q(P:Program)(w:World)(K:L2.FG)(mg:Str->Option Value)(base:Heap)(t:Adr):Prop:=FnOk P w K mg base CX0 3 t.f38 t.d38 ["self"] (SpM K 1 b1w)
theorem d3a(T:Txt K mg t)(g43:a9o P w K mg base t):c0q P w K mg base t:=
 a2v (k:=2) [true] c0p T.F38.fn d2z rfl rfl (by decide) fun cdv A outer s H E hr=>(by
  have hu41:=a2h hr;exact⟨_,(a0q (a1w (a6l a5o (k:=1) (cap:=[0]) a1s (M:=["bag","self"]) (CompOk.of (a0k b4n).names ["self"] (by decide +kernel)) (a4z K (a2a (a4g (pv 0) T.C_Hall T.F43 g43 hr.le (by decide +kernel))))
    (fun _ _ _ _=>(a1r (i:=0) (show List.Nodup (["bag","self"]:List Str) by decide +kernel) rfl (Or.inl rfl))) (fun _ _ _ _=>a6k) (fun _ _ _ _=>(a2a (a6j (a0b (a0d (pv 0)) (a0b (a1u (a4f K (by exact hu41)) a1v (a3a (pv 1) T.C_Hall T.na_readings rfl a2e) (a0d (pv 0))) (a0b (a1u (a4f K (by exact hu41)) a1v (a3a (pv 1) T.C_Hall T.na_places rfl a2e) (a0d (pv 0))) (a0b (a1u (a4f K (by exact hu41)) a1v (a3a (pv 1) T.C_Hall T.na_rounded rfl a2e) (a0d (pv 0))) a0h)))))))))),rfl⟩)
theorem d3b:FnScope ["self"] ["self"] (a0k b4o):=fnsc
def c0r:GS:=(gsRet (a3z (srcL (gMeth a5w cHall hns 0 gaNil)) (a0r 0) d8n (gVar 0) 1 [0]))
def b4s:GM:=runM 1 [true] c0r
abbrev c6k(P:Program)(w:World)(K:L2.FG)(mg:Str->Option Value)(base:Heap)(t:Adr):Prop:=FnOk P w K mg base CX0 3 t.f40 t.d40 ["self"] (SpM K 1 b4s)
theorem d3c(T:Txt K mg t)(g43:a9o P w K mg base t):c6k P w K mg base t:=
 a2v (k:=2) [true] c0r T.F40.fn d3b rfl rfl (by decide) fun cdv A outer s H E hr=>(by
  exact⟨_,(a0q (a1w (a6l a5o (k:=1) (cap:=[0]) a1s (M:=["bag","self"]) (CompOk.of (a0k b4o).names ["self"] (by decide +kernel)) (a4z K (a2a (a4g (pv 0) T.C_Hall T.F43 g43 hr.le (by decide +kernel))))
    (fun _ _ _ _=>(a1r (i:=0) (show List.Nodup (["bag","self"]:List Str) by decide +kernel) rfl (Or.inl rfl))) (fun _ _ _ _=>(b9h e1l)) (fun _ _ _ _=>(a0d (pv 0)))))),rfl⟩)
theorem c8o:FnScope ["self","bag"] ["self","bag"] (a0k b6q):=fnsc
def b1x:GS:=(a0o (gsIf (gAndT (gTru (a1i a4d (a0c (gVar 1) gaNil))) (gT (gBin (oInG false) (gVar 1) (gFld cHall hns 0 9))))
  (b5i (gBin oIx (gFld cHall hns 0 9) (gVar 1)))
  gsNil)
 (a0o (a5f (gMeth a2q cHall hns 0 (a0c (gVar 1) gaNil)))
 (b5i (gBin oIx (gFld cHall hns 0 5) (gVar 1)))))
def a6u:GM:=runM 2 [true,false] b1x
abbrev b7c(P:Program)(w:World)(K:L2.FG)(mg:Str->Option Value)(base:Heap)(t:Adr):Prop:=FnOk P w K mg base (CX1 P w) 3 t.f41 t.d41 ["self","bag"] (SpX K 2 a6u)
theorem c8p(T:Txt K mg t)(g32:a6c P w K mg base t)(g0:a6q P w K mg base t):b7c P w K mg base t:=
 a5n (k:=2) [true,false] b1x T.F41.fn c8o rfl rfl (by decide) fun cdv A outer s H E hr=>(by
  have hu41:=a2h hr;exact⟨_,(a0i (a3l (PW.pt (c5d (a3g (a0w T.F0 g0 hr.le (a0b (a0d (pv 1)) a0h) (a0a a0e))) (c3s (a2o (a9c K (by exact hu41)) (a8c false) (a0d (pv 1)) (a3a (pv 0) T.C_Hall T.na_carted rfl a2e)))))
   (a0q (b8w (a1u (a4f K (by exact hu41)) a1v (a3a (pv 0) T.C_Hall T.na_carted rfl a2e) (a0d (pv 1)))))
   a2f)
   (a0i (a4p (a5h (pv 0) T.C_Hall T.F32 g32 hr.le a3e (by decide +kernel) (a0b (a0d (pv 1)) a0h) (a0a a0e)))
   (a0q (b8w (a1u (a4f K (by exact hu41)) a1v (a3a (pv 0) T.C_Hall T.na_places rfl a2e) (a0d (pv 1))))))),rfl⟩)
theorem c2v:FnScope ["self","bag"] ["self","bag"] (a0k b0o):=fnsc
def b0u:GS:=(a0o (a5f (gMeth a2q cHall hns 0 (a0c (gVar 1) gaNil)))
 (a0o b3k
 (b5i (gBin oIx (gBin oIx (gFld cHall hns 0 0) (gC (.int 1))) (gC (.int 0))))))
def a8p:GM:=runM 2 [true,false] b0u
abbrev b7d(P:Program)(w:World)(K:L2.FG)(mg:Str->Option Value)(base:Heap)(t:Adr):Prop:=FnOk P w K mg base (CX1 P w) 3 t.f42 t.d42 ["self","bag"] (SpX K 2 a8p)
theorem c2w(T:Txt K mg t)(g32:a6c P w K mg base t):b7d P w K mg base t:=
 a5n (k:=2) [true,false] b0u T.F42.fn c2v rfl rfl (by decide) fun cdv A outer s H E hr=>(by
  have hu41:=a2h hr;exact⟨_,(a0i (a4p (a5h (pv 0) T.C_Hall T.F32 g32 hr.le a3e (by decide +kernel) (a0b (a0d (pv 1)) a0h) (a0a a0e)))
   (a0i b9t
   (a0q (b8w (a1u (a4f K (by exact hu41)) a1v (a1u (a4f K (by exact hu41)) a1v (a3a (pv 0) T.C_Hall T.na_built rfl a2e) (a0s (d:=.int 1) a0g)) (a0s (d:=.int 0) a0g)))))),rfl⟩)
theorem sc_right_house:FnScope ["house","belts","carts","taken"] ["house"] (a0k a8i):=fnsc
def a5k:GS:=(a0o (gsSet 1 (gBin oIx (gVar 0) (gC (.int 0))))
 (a0o (gsSet 2 (gBin oIx (gVar 0) (gC (.int 1))))
 (a0o (gsSet 3 b0e)
 (a0o (a5f (gCall a2t (a0c (gVar 2) (a0c (gVar 3) gaNil))))
 (a0o (a3y (gCall a6i (a0c (gVar 1) (a0c (gVar 3) gaNil))))
 (a0o (a5f (gCall a4x (a0c (gVar 1) (a0c (gVar 2) gaNil))))
 (a0o (a3y (gCall a7g (a0c (gVar 0) gaNil)))
 (b5i (gC (.bl true))))))))))
def a1z:GM:=runM 4 [false] a5k
abbrev b1y(P:Program)(w:World)(K:L2.FG)(mg:Str->Option Value)(base:Heap)(t:Adr):Prop:=FnOk P w K mg base (CX1 P w) 4 t.f1 t.d1 ["house"] (SpX K 1 a1z)
theorem b7n(T:Txt K mg t)(g3:b1t P w K mg base t)(g2:b1s P w K mg base t)(g6:b3n P w K mg base t)(g5:b3m P w K mg base t):b1y P w K mg base t:=
 a5n (k:=3) [false] a5k T.F1.fn sc_right_house rfl rfl (by decide) fun cdv A outer s H E hr=>(by
  have hu41:=a2h hr;exact⟨_,(a0i (a1l (i:=1) sc_right_house.nd rfl (Or.inl rfl) (a1u (a4f K (by exact hu41)) a1v (a0d (pv 0)) (a0s (d:=.int 0) a0g)))
   (a0i (a1l (i:=2) sc_right_house.nd rfl (Or.inl rfl) (a1u (a4f K (by exact hu41)) a1v (a0d (pv 0)) (a0s (d:=.int 1) a0g)))
   (a0i (a1l (i:=3) sc_right_house.nd rfl (Or.inl rfl) a6v)
   (a0i (a4p (b4h T.F2 g2 hr.le a3e (a0b (a0d (pv 2)) (a0b (a0d (pv 3)) a0h)) (a0a (a0a a0e))))
   (a0i (a3q (a2w T.F3 g3 hr.le (a0b (a0d (pv 1)) (a0b (a0d (pv 3)) a0h)) (a0a (a0a a0e))))
   (a0i (a4p (b4h T.F5 g5 hr.le a3e (a0b (a0d (pv 1)) (a0b (a0d (pv 2)) a0h)) (a0a (a0a a0e))))
   (a0i (a3q (a2w T.F6 g6 hr.le (a0b (a0d (pv 0)) a0h) (a0a a0e)))
   (a0q (b8w (a0s (d:=.bl true) a8w)))))))))),rfl⟩)
theorem sc_l_name:FnScope ["_law_script","_law_k","_law_n","_law_letters","_law_base","_law_many","_law_spot","_law_rest"] ["_law_script","_law_k","_law_n"] (a0k b9y):=fnsc
def b4t:GS:=(a0o (gsSet 3 (gC (.str "abcdefghijklmnopqrstuvwxyz")))
 (a0o (gsSet 4 (a1i a3m (a0c (gVar 0) (a0c (gVar 1) (a0c (gC (.int 26)) gaNil)))))
 (a0o (gsIf (gT (gBin oEq (a1i a4e (a0c (gVar 0) (a0c (gVar 1) (a0c (gC (.int 3)) gaNil)))) (gC (.int 0))))
  (gsRet (gBin oMulA (gBin oIx (gVar 3) (gBin oMod (gBin oAdd (gVar 4) (gBin oFdiv (gVar 2) (gC (.int 8)))) (gC (.int 26)))) (gBin oAdd (gC (.int 1)) (gBin oMod (gVar 2) (gC (.int 8))))))
  gsNil)
 (a0o (gsSet 5 (gFrz (gBin oAdd (gC (.int 1)) (a1i a5j (a0c (gVar 0) (a0c (gVar 1) (a0c (gC (.int 8)) gaNil)))))))
 (a0o (gsSet 6 (a1i a4e (a0c (gVar 0) (a0c (gVar 1) (a0c (gVar 5) gaNil)))))
 (a0o (gsSet 7 (gBin oIx (gVar 3) (a1i a1n (a0c (gVar 0) (a0c (gVar 1) (a0c (gC (.int 3)) (a0c (gC (.int 26)) gaNil)))))))
 (gsRet (gBin oAdd (gBin oAdd (gBin oMulA (gVar 7) (gVar 6)) (gBin oIx (gVar 3) (gBin oMod (gBin oAdd (gBin oMulA (gC (.int 7)) (gVar 2)) (gVar 4)) (gC (.int 26))))) (gBin oMulA (gVar 7) (gBin oSub (gBin oSub (gVar 5) (gC (.int 1))) (gVar 6)))))))))))
def a3w:GM:=runM 8 [false,false,false] b4t
abbrev c6l(P:Program)(w:World)(K:L2.FG)(mg:Str->Option Value)(base:Heap)(t:Adr):Prop:=FnOk P w K mg base CX0 4 t.f17 t.d17 ["_law_script","_law_k","_law_n"] (SpM K 3 a3w)
theorem d3d(T:Txt K mg t)(g13:a6t P w K mg base t)(g15:b6y P w K mg base t)(g14:b1u P w K mg base t)(g16:b1v P w K mg base t):c6l P w K mg base t:=
 a2v (k:=3) [false,false,false] b4t T.F17.fn sc_l_name rfl rfl (by decide) fun cdv A outer s H E hr=>(by
  have hu40:=a8y hr;have hu41:=a2h hr;exact⟨_,(a0i (a1l (i:=3) sc_l_name.nd rfl (Or.inl rfl) (a0s (d:=.str "abcdefghijklmnopqrstuvwxyz") a4h))
   (a0i (a1l (i:=4) sc_l_name.nd rfl (Or.inl rfl) (a0w T.F14 g14 hr.le (a0b (a0d (pv 0)) (a0b (a0d (pv 1)) (a0b (a0s (d:=.int 26) a0g) a0h))) (a0a (a0a (a0a a0e)))))
   (a0i (a3l (a2o (a6y K (by exact hu40)) b1f (a0w T.F15 g15 hr.le (a0b (a0d (pv 0)) (a0b (a0d (pv 1)) (a0b (a0s (d:=.int 3) a0g) a0h))) (a0a (a0a (a0a a0e)))) (a0s (d:=.int 0) a0g))
   (a0q (a1w (a1y a7i b0f (a1u (a4f K (by exact hu41)) a1v (a0d (pv 3)) (a1y a7q a7s (a1y (a1t K) a2p (a0d (pv 4)) (a1y c3h c3t (a0d (pv 2)) (a0s (d:=.int 8) a0g))) (a0s (d:=.int 26) a0g))) (a1y (a1t K) a2p (a0s (d:=.int 1) a0g) (a1y a7q a7s (a0d (pv 2)) (a0s (d:=.int 8) a0g))))))
   a2f)
   (a0i (a1l (i:=5) sc_l_name.nd rfl (Or.inl rfl) (a2a (a1y (a1t K) a2p (a0s (d:=.int 1) a0g) (a0w T.F16 g16 hr.le (a0b (a0d (pv 0)) (a0b (a0d (pv 1)) (a0b (a0s (d:=.int 8) a0g) a0h))) (a0a (a0a (a0a a0e)))))))
   (a0i (a1l (i:=6) sc_l_name.nd rfl (Or.inl rfl) (a0w T.F15 g15 hr.le (a0b (a0d (pv 0)) (a0b (a0d (pv 1)) (a0b (a0d (pv 5)) a0h))) (a0a (a0a (a0a a0e)))))
   (a0i (a1l (i:=7) sc_l_name.nd rfl (Or.inl rfl) (a1u (a4f K (by exact hu41)) a1v (a0d (pv 3)) (a0w T.F13 g13 hr.le (a0b (a0d (pv 0)) (a0b (a0d (pv 1)) (a0b (a0s (d:=.int 3) a0g) (a0b (a0s (d:=.int 26) a0g) a0h)))) (a0a (a0a (a0a (a0a a0e)))))))
   (a0q (a1w (a1y (a1t K) a2p (a1y (a1t K) a2p (a1y a7i b0f (a0d (pv 7)) (a0d (pv 6))) (a1u (a4f K (by exact hu41)) a1v (a0d (pv 3)) (a1y a7q a7s (a1y (a1t K) a2p (a1y a7i b0f (a0s (d:=.int 7) a0g) (a0d (pv 2))) (a0d (pv 4))) (a0s (d:=.int 26) a0g)))) (a1y a7i b0f (a0d (pv 7)) (a1y c9d d0g (a1y c9d d0g (a0d (pv 5)) (a0s (d:=.int 1) a0g)) (a0d (pv 6))))))))))))),rfl⟩)
theorem sc_l_outs:FnScope ["_law_script","_law_k","_law_names","_law_carts","_law_later","_law_some","_law_outs_here","_law_spots","_law_j","_law_out"] ["_law_script","_law_k","_law_names","_law_carts"] (a0k b4l):=fnsc
def oB:GS:=(a0o (gsSet 9 (gBin oIx (gVar 5) (a1i a1n (a0c (gVar 0) (a0c (gBin oAdd (gC (.int 6)) (gVar 1)) (a0c (gBin oAdd (gC (.int 1)) (gVar 8)) (a0c (gOp oLen (a0c (gVar 5) gaNil)) gaNil)))))))
 (gsIf (gT (gBin (oInG true) (gVar 9) (gVar 6)))
  (a3y (gMut a9f (gVar 6) (a0c (gBin oMod (gBin oMod (gBin oFdiv (gVar 7) (gBin oIx (gSeq .lst (a0c (gC (.int 1)) (a0c (gC (.int 4)) (a0c (gC (.int 16)) gaNil)))) (gVar 8))) (gC (.int 4))) (gBin oAdd (gOp oLen (a0c (gVar 6) gaNil)) (gC (.int 1)))) (a0c (gVar 9) gaNil))))
  gsNil))
def oW:GS:=(gsIf (gAndT (gT (gBin (oInG true) (gBin oIx (gVar 3) (gC (.int 0))) (gVar 6))) (gT (gBin oEq (gOp oLen (a0c (a3z (srcV 6 [4]) (a0r 0) (gT (gBin (oInG false) (gVar 0) (gVar 1))) (gVar 0) 1 [4]) gaNil)) (gC (.int 0)))))
  (a3y (gMut a9f (gVar 6) (a0c (a1i a1n (a0c (gVar 0) (a0c (gBin oAdd (gC (.int 1)) (gVar 1)) (a0c (gC (.int 3)) (a0c (gBin oAdd (gOp oLen (a0c (gVar 6) gaNil)) (gC (.int 1))) gaNil))))) (a0c (gBin oIx (gVar 3) (gC (.int 0))) gaNil))))
  gsNil)
def c0s:GS:=(a0o (gsSet 4 (gFrz (b3h (gVar 2) (b5q (gBin oAdd (gVar 1) (gC (.int 1)))) b7v)))
 (a0o (gsSet 5 (gFrz (gBin oAdd (gVar 4) (gVar 3))))
 (a0o (gsSet 6 (gSeq .lst gaNil))
 (a0o (gsSet 7 (a1i a5j (a0c (gVar 0) (a0c (gBin oAdd (gC (.int 1)) (gVar 1)) (a0c (gC (.int 64)) gaNil)))))
 (a0o (b0y (a0c (gBin oAdd (gC (.int 1)) (a1i a3m (a0c (gVar 0) (a0c (gBin oAdd (gC (.int 6)) (gVar 1)) (a0c (gC (.int 3)) gaNil))))) gaNil) (a0r 8) oB)
 (a0o oW (gsRet (gMove (gVar 6)))))))))
def b0a:GM:=runM 10 [false,false,false,false] c0s
abbrev c6m(P:Program)(w:World)(K:L2.FG)(mg:Str->Option Value)(base:Heap)(t:Adr):Prop:=FnOk P w K mg base CX0 4 t.f18 t.d18 ["_law_script","_law_k","_law_names","_law_carts"] (SpM K 4 b0a)
theorem d3e(T:Txt K mg t)(g13:a6t P w K mg base t)(g14:b1u P w K mg base t)(g16:b1v P w K mg base t):c6m P w K mg base t:=
 a2v (k:=3) [false,false,false,false] c0s T.F18.fn sc_l_outs rfl rfl (by decide) fun cdv A outer s H E hr=>(by
  have hu40:=a8y hr;have hu41:=a2h hr;exact⟨_,(a0i (a1l (i:=4) sc_l_outs.nd rfl (Or.inr rfl) (a2a (b4c (a0d (pv 2)) (b9f (a1y (a1t K) a2p (a0d (pv 1)) (a0s (d:=.int 1) a0g))) b9e)))
   (a0i (a1l (i:=5) sc_l_outs.nd rfl (Or.inl rfl) (a2a (a1y (a1t K) a2p (a0d (pv 4)) (a0d (pv 3)))))
   (a0i (a1l (i:=6) sc_l_outs.nd rfl (Or.inl rfl) (a9a a0h))
   (a0i (a1l (i:=7) sc_l_outs.nd rfl (Or.inl rfl) (a0w T.F16 g16 hr.le (a0b (a0d (pv 0)) (a0b (a1y (a1t K) a2p (a0s (d:=.int 1) a0g) (a0d (pv 1))) (a0b (a0s (d:=.int 64) a0g) a0h))) (a0a (a0a (a0a a0e)))))
   (a0i (b5k PassesOwn.never T.b_range (a0b (a1y (a1t K) a2p (a0s (d:=.int 1) a0g) (a0w T.F14 g14 hr.le (a0b (a0d (pv 0)) (a0b (a1y (a1t K) a2p (a0s (d:=.int 6) a0g) (a0d (pv 1))) (a0b (a0s (d:=.int 3) a0g) a0h))) (a0a (a0a (a0a a0e))))) a0h) (a1r (i:=8) sc_l_outs.nd rfl (Or.inl rfl)) a1s
   (a0i (a1l (i:=9) sc_l_outs.nd rfl (Or.inl rfl) (a1u (a4f K (by exact hu41)) a1v (a0d (pv 5)) (a0w T.F13 g13 hr.le (a0b (a0d (pv 0)) (a0b (a1y (a1t K) a2p (a0s (d:=.int 6) a0g) (a0d (pv 1))) (a0b (a1y (a1t K) a2p (a0s (d:=.int 1) a0g) (a0d (pv 8))) (a0b (a1k (a3d K) a7t T.b_len a7r (a0b (a0d (pv 5)) a0h)) a0h)))) (a0a (a0a (a0a (a0a a0e)))))))
   (a0q (a3l (a2o (a5s K (by exact hu41)) (a8c true) (a0d (pv 9)) (a0d (pv 6)))
   (a0q (a3q (c5n PySem.F.slot_list_insert PySem.F.type_list_insert c1o c1y (a0d (pv 6)) (a0b (a1y a7q a7s (a1y a7q a7s (a1y c3h c3t (a0d (pv 7)) (a1u (a4f K (by exact hu41)) a1v (a9a (a0b (a0s (d:=.int 1) a0g) (a0b (a0s (d:=.int 4) a0g) (a0b (a0s (d:=.int 16) a0g) a0h)))) (a0d (pv 8)))) (a0s (d:=.int 4) a0g)) (a1y (a1t K) a2p (a1k (a3d K) a7t T.b_len a7r (a0b (a0d (pv 6)) a0h)) (a0s (d:=.int 1) a0g))) (a0b (a0d (pv 9)) a0h)))))
   a2f))))
   (a0i (a3l (PW.pt (c5d (a2o (a5s K (by exact hu41)) (a8c true) (a1u (a4f K (by exact hu41)) a1v (a0d (pv 3)) (a0s (d:=.int 0) a0g)) (a0d (pv 6))) (c3s (a2o (a6y K (by exact hu40)) b1f (a1k (a3d K) a7t T.b_len a7r (a0b (a6l e0m (k:=1) (cap:=[4]) a1s (M:=["_law_out","_law_later"]) (CompOk.of (a0k b4l).names ["_law_script","_law_k","_law_names","_law_carts","_law_later","_law_some","_law_outs_here","_law_spots","_law_j","_law_out"] (by decide +kernel)) (a4z K (pv 6))
    (fun _ _ _ _=>(a1r (i:=0) (show List.Nodup (["_law_out","_law_later"]:List Str) by decide +kernel) rfl (Or.inl rfl))) (fun _ _ _ _=>(b9h (a2o (a9c K (by exact hu41)) (a8c false) (a0d (pv 0)) (a0d (pv 1))))) (fun _ _ _ _=>(a0d (pv 0)))) a0h)) (a0s (d:=.int 0) a0g)))))
   (a0q (a3q (c5n PySem.F.slot_list_insert PySem.F.type_list_insert c1o c1y (a0d (pv 6)) (a0b (a0w T.F13 g13 hr.le (a0b (a0d (pv 0)) (a0b (a1y (a1t K) a2p (a0s (d:=.int 1) a0g) (a0d (pv 1))) (a0b (a0s (d:=.int 3) a0g) (a0b (a1y (a1t K) a2p (a1k (a3d K) a7t T.b_len a7r (a0b (a0d (pv 6)) a0h)) (a0s (d:=.int 1) a0g)) a0h)))) (a0a (a0a (a0a (a0a a0e))))) (a0b (a1u (a4f K (by exact hu41)) a1v (a0d (pv 3)) (a0s (d:=.int 0) a0g)) a0h)))))
   a2f)
   (a0q (a1w (c3q (a0d (pv 6))))))))))),rfl⟩)
theorem sc_l_no_bag:FnScope ["_law_hall","_law_name_here","_law_where","_law_cart"] ["_law_hall","_law_name_here"] (a0k b2n):=fnsc
def b2z:GS:=(a0o (gsSet 2 (gC (.bl false)))
 (a0o (gsSet 3 (gC (.bl false)))
 (a0o (gsTry (a5f (gMeth a6u cHall hns 0 (a0c (gVar 1) gaNil))) [(none,wE errCs 140,(gsSet 2 (gC (.bl true))))])
 (a0o (gsTry (a5f (gMeth a8p cHall hns 0 (a0c (gVar 1) gaNil))) [(none,wE errCs 140,(gsSet 3 (gC (.bl true))))])
 (gsRet (gAndV (gVar 2) (gVar 3)))))))
def b0b:GM:=runM 4 [true,false] b2z
abbrev b8j(P:Program)(w:World)(K:L2.FG)(mg:Str->Option Value)(base:Heap)(t:Adr):Prop:=FnOk P w K mg base CX0 4 t.f21 t.d21 ["_law_hall","_law_name_here"] (SpM K 2 b0b)
theorem c4q(T:Txt K mg t)(g42:b7d P w K mg base t)(g41:b7c P w K mg base t):b8j P w K mg base t:=
 a2v (k:=3) [true,false] b2z T.F21.fn sc_l_no_bag rfl rfl (by decide) fun cdv A outer s H E hr=>(by
  exact⟨_,(a0i (a1l (i:=2) sc_l_no_bag.nd rfl (Or.inl rfl) (a0s (d:=.bl false) a8w))
   (a0i (a1l (i:=3) sc_l_no_bag.nd rfl (Or.inl rfl) (a0s (d:=.bl false) a8w))
   (a0i (d1p (fun _ _ _ hp=>(a0q (a4p (a5h (pv 0) T.C_Hall T.F41 g41 hr.le hp (by decide +kernel) (a0b (a0d (pv 1)) a0h) (a0a a0e))))) (b9r (T.er.ix (i:=8) rfl).1 (T.er.xE (c:=140) rfl rfl) (b9q fun _=>(a0q (a1l (i:=2) sc_l_no_bag.nd rfl (Or.inl rfl) (a0s (d:=.bl true) a8w)))) d1o))
   (a0i (d1p (fun _ _ _ hp=>(a0q (a4p (a5h (pv 0) T.C_Hall T.F42 g42 hr.le hp (by decide +kernel) (a0b (a0d (pv 1)) a0h) (a0a a0e))))) (b9r (T.er.ix (i:=8) rfl).1 (T.er.xE (c:=140) rfl rfl) (b9q fun _=>(a0q (a1l (i:=3) sc_l_no_bag.nd rfl (Or.inl rfl) (a0s (d:=.bl true) a8w)))) d1o))
   (a0q (a1w (b7s (a0d (pv 2)) (c1p (a0d (pv 3)))))))))),rfl⟩)
theorem sc_l_house:FnScope ["_law_script","_law_names","_law_carts","_law_belts","_law_k","_law_ring","_law_long"] ["_law_script"] (a0k a9j):=fnsc
def hI1:GS:=(gsIf (gAndT (gT (gBin oEq (gVar 4) (gC (.int 0)))) (gAndT (gT (gBin oLt (gOp oLen (a0c (gVar 1) gaNil)) (gC (.int 3)))) (gT (gBin oEq (a1i a5j (a0c (gVar 0) (a0c (gC (.int 0)) (a0c (gC (.int 3)) gaNil)))) (gC (.int 1))))))
  (gsSet 6 (gFrz (gBin oAdd (gC (.int 10)) (a1i a1n (a0c (gVar 0) (a0c (gC (.int 0)) (a0c (gC (.int 3)) (a0c (gC (.int 14)) gaNil))))))))
  gsNil)
def hI2:GS:=(gsIf (gTru (gVar 5))
  (gsSet 6 (gFrz (gBin oAdd (gVar 6) (gC (.int 1)))))
  gsNil)
def hA:GS:=(a3y (gMut a7j (gVar 3) (a0c (gFrz (gSeq .tup (a0c (gBin oIx (gVar 1) (gVar 4)) (a0c (gVar 6) (a0c (gVar 5) (a0c (gFrz (gCall b0a (a0c (gVar 0) (a0c (gVar 4) (a0c (gVar 1) (a0c (gVar 2) gaNil)))))) gaNil)))))) gaNil)))
def hB:GS:=(a0o (gsSet 5 (gBin oEq (a1i a3m (a0c (gVar 0) (a0c (gBin oAdd (gC (.int 1)) (gVar 4)) (a0c (gC (.int 3)) gaNil)))) (gC (.int 0))))
 (a0o (gsSet 6 (gFrz (gBin oAdd (gC (.int 1)) (a1i a4e (a0c (gVar 0) (a0c (gBin oAdd (gC (.int 1)) (gVar 4)) (a0c (gC (.int 5)) gaNil)))))))
 (a0o hI1 (a0o hI2 hA))))
def cN:GE:=a3z (srcR1 (a0c (gBin oAdd (gC (.int 1)) (a1i a3m (a0c (gVar 0) (a0c (gC (.int 0)) (a0c (gC (.int 5)) gaNil))))) gaNil)) (a0r 0) gYes (a1i a3w (a0c (gVar 1) (a0c (gC (.int 11)) (a0c (gVar 0) gaNil)))) 1 [0]
def cC:GE:=a3z (srcR1 (a0c (gBin oAdd (gC (.int 1)) (a1i a4e (a0c (gVar 0) (a0c (gC (.int 0)) (a0c (gC (.int 4)) gaNil))))) gaNil)) (a0r 0) gYes (a1i a3w (a0c (gVar 1) (a0c (gC (.int 11)) (a0c (gBin oAdd (gC (.int 10)) (gVar 0)) gaNil)))) 1 [0]
def b7e:GS:=(a0o (gsSet 1 (gFrz cN)) (a0o (gsSet 2 (gFrz cC)) (a0o (gsSet 3 (gSeq .lst gaNil)) (a0o (b0y (a0c (gOp oLen (a0c (gVar 1) gaNil)) gaNil) (a0r 4) hB)
 (gsRet (gSeq .tup (a0c (gMove (gVar 3)) (a0c (gVar 2) gaNil))))))))
def a7w:GM:=runM 7 [false] b7e
abbrev c2x(P:Program)(w:World)(K:L2.FG)(mg:Str->Option Value)(base:Heap)(t:Adr):Prop:=FnOk P w K mg base CX0 5 t.f19 t.d19 ["_law_script"] (SpM K 1 a7w)
theorem c8q(T:Txt K mg t)(g13:a6t P w K mg base t)(g17:c6l P w K mg base t)(g15:b6y P w K mg base t)(g18:c6m P w K mg base t)(g14:b1u P w K mg base t)(g16:b1v P w K mg base t):c2x P w K mg base t:=
 a2v (k:=4) [false] b7e T.F19.fn sc_l_house rfl rfl (by decide) fun cdv A outer s H E hr=>(by
  have hu40:=a8y hr;have hu41:=a2h hr;exact⟨_,(a0i (b9i (i:=1) d8c (k:=1) (cap:=[0]) a1s (M:=["_law_k","_law_script"]) (CompOk.of (a0k a9j).names ["_law_script","_law_names","_law_carts","_law_belts","_law_k","_law_ring","_law_long"] (by decide +kernel)) sc_l_house.nd rfl (Or.inl rfl) (b5a (by rfl) T.b_range (a0b (a1y (a1t K) a2p (a0s (d:=.int 1) a0g) (a0w T.F14 g14 hr.le (a0b (a0d (pv 0)) (a0b (a0s (d:=.int 0) a0g) (a0b (a0s (d:=.int 5) a0g) a0h))) (a0a (a0a (a0a a0e))))) a0h))
    (fun _ _ _ _=>(a1r (i:=0) (show List.Nodup (["_law_k","_law_script"]:List Str) by decide +kernel) rfl (Or.inl rfl))) (fun _ _ _ _=>a6k) (fun _ _ _ _=>(a0w T.F17 g17 hr.le (a0b (a0d (pv 1)) (a0b (a0s (d:=.int 11) a0g) (a0b (a0d (pv 0)) a0h))) (a0a (a0a (a0a a0e))))))
   (a0i (b9i (i:=2) d8c (k:=1) (cap:=[0]) a1s (M:=["_law_k","_law_script"]) (CompOk.of (a0k a9j).names ["_law_script","_law_names","_law_carts","_law_belts","_law_k","_law_ring","_law_long"] (by decide +kernel)) sc_l_house.nd rfl (Or.inl rfl) (b5a (by rfl) T.b_range (a0b (a1y (a1t K) a2p (a0s (d:=.int 1) a0g) (a0w T.F15 g15 hr.le (a0b (a0d (pv 0)) (a0b (a0s (d:=.int 0) a0g) (a0b (a0s (d:=.int 4) a0g) a0h))) (a0a (a0a (a0a a0e))))) a0h))
    (fun _ _ _ _=>(a1r (i:=0) (show List.Nodup (["_law_k","_law_script"]:List Str) by decide +kernel) rfl (Or.inl rfl))) (fun _ _ _ _=>a6k) (fun _ _ _ _=>(a0w T.F17 g17 hr.le (a0b (a0d (pv 1)) (a0b (a0s (d:=.int 11) a0g) (a0b (a1y (a1t K) a2p (a0s (d:=.int 10) a0g) (a0d (pv 0))) a0h))) (a0a (a0a (a0a a0e))))))
   (a0i (a1l (i:=3) sc_l_house.nd rfl (Or.inl rfl) (a9a a0h))
   (a0i (b5k PassesOwn.never T.b_range (a0b (a1k (a3d K) a7t T.b_len a7r (a0b (a0d (pv 1)) a0h)) a0h) (a1r (i:=4) sc_l_house.nd rfl (Or.inl rfl)) a1s
   (a0i (a1l (i:=5) sc_l_house.nd rfl (Or.inl rfl) (b3e (a6y K (by exact hu40)) b1f (a0w T.F14 g14 hr.le (a0b (a0d (pv 0)) (a0b (a1y (a1t K) a2p (a0s (d:=.int 1) a0g) (a0d (pv 4))) (a0b (a0s (d:=.int 3) a0g) a0h))) (a0a (a0a (a0a a0e)))) (a0s (d:=.int 0) a0g)))
   (a0i (a1l (i:=6) sc_l_house.nd rfl (Or.inl rfl) (a2a (a1y (a1t K) a2p (a0s (d:=.int 1) a0g) (a0w T.F15 g15 hr.le (a0b (a0d (pv 0)) (a0b (a1y (a1t K) a2p (a0s (d:=.int 1) a0g) (a0d (pv 4))) (a0b (a0s (d:=.int 5) a0g) a0h))) (a0a (a0a (a0a a0e)))))))
   (a0i (a3l (PW.pt (c5d (a2o (a6y K (by exact hu40)) b1f (a0d (pv 4)) (a0s (d:=.int 0) a0g)) (c5d (a2o d4x d5u (a1k (a3d K) a7t T.b_len a7r (a0b (a0d (pv 1)) a0h)) (a0s (d:=.int 3) a0g)) (c3s (a2o (a6y K (by exact hu40)) b1f (a0w T.F16 g16 hr.le (a0b (a0d (pv 0)) (a0b (a0s (d:=.int 0) a0g) (a0b (a0s (d:=.int 3) a0g) a0h))) (a0a (a0a (a0a a0e)))) (a0s (d:=.int 1) a0g))))))
   (a0q (a1l (i:=6) sc_l_house.nd rfl (Or.inl rfl) (a2a (a1y (a1t K) a2p (a0s (d:=.int 10) a0g) (a0w T.F13 g13 hr.le (a0b (a0d (pv 0)) (a0b (a0s (d:=.int 0) a0g) (a0b (a0s (d:=.int 3) a0g) (a0b (a0s (d:=.int 14) a0g) a0h)))) (a0a (a0a (a0a (a0a a0e)))))))))
   a2f)
   (a0i (a3l (a3g (a0d (pv 5)))
   (a0q (a1l (i:=6) sc_l_house.nd rfl (Or.inl rfl) (a2a (a1y (a1t K) a2p (a0d (pv 6)) (a0s (d:=.int 1) a0g)))))
   a2f)
   (a0q (a3q (c5n PySem.F.slot_list_append PySem.F.type_list_append b0x b1h (a0d (pv 3)) (a0b (a2a (a6j (a0b (a1u (a4f K (by exact hu41)) a1v (a0d (pv 1)) (a0d (pv 4))) (a0b (a0d (pv 6)) (a0b (a0d (pv 5)) (a0b (a2a (a2w T.F18 g18 hr.le (a0b (a0d (pv 0)) (a0b (a0d (pv 4)) (a0b (a0d (pv 1)) (a0b (a0d (pv 2)) a0h)))) (a0a (a0a (a0a (a0a a0e)))))) a0h)))))) a0h)))))))))
   (a0q (a1w (a6j (a0b (c3q (a0d (pv 3))) (a0b (a0d (pv 2)) a0h))))))))),rfl⟩)
theorem d3f:FnScope ["self","house","rounds"] ["self","house","rounds"] (a0k c0a):=fnsc
def b4u:GS:=(a0o (a5f (gCall a1z (a0c (gVar 1) gaNil)))
 (a0o (a4q cHall hns 0 0 (gCall b1q (a0c (gVar 1) gaNil)))
 (a0o (a4q cHall hns 0 1 (gVar 2))
 (a0o (a4q cHall hns 0 2 (gC (.int 0)))
 (a0o (a4q cHall hns 0 3 b0e)
 (a0o (a4q cHall hns 0 4 b0e)
 (a0o (a4q cHall hns 0 5 b0e)
 (a0o (a4q cHall hns 0 6 b0e)
 (a0o (a4q cHall hns 0 7 b0e)
 (a0o (a4q cHall hns 0 8 (gSeq .lst gaNil))
 (a4q cHall hns 0 9 b0e)))))))))))
def a7h:GM:=runM 3 [true,false,false] b4u
abbrev c0t(P:Program)(w:World)(K:L2.FG)(mg:Str->Option Value)(base:Heap)(t:Adr):Prop:=FnOk P w K mg base (CX1 P w) 5 t.f26 t.d26 ["self","house","rounds"] (SpX K 3 a7h)
theorem d3g(T:Txt K mg t)(g10:c0j P w K mg base t)(g1:b1y P w K mg base t):c0t P w K mg base t:=
 a5n (k:=4) [true,false,false] b4u T.F26 d3f rfl rfl (by decide) fun cdv A outer s H E hr=>(by
  exact⟨_,(a0i (a4p (b4h T.F1 g1 hr.le a3e (a0b (a0d (pv 1)) a0h) (a0a a0e)))
   (a0i (a4j (pv 0) (a2w T.F10 g10 hr.le (a0b (a0d (pv 1)) a0h) (a0a a0e)) T.C_Hall T.na_built rfl a2e (by decide))
   (a0i (a4j (pv 0) (a0d (pv 2)) T.C_Hall T.na_told_rounds rfl a2e (by decide))
   (a0i (a4j (pv 0) (a0s (d:=.int 0) a0g) T.C_Hall T.na_now rfl a2e (by decide))
   (a0i (a4j (pv 0) a6v T.C_Hall T.na_book rfl a2e (by decide))
   (a0i (a4j (pv 0) a6v T.C_Hall T.na_halts rfl a2e (by decide))
   (a0i (a4j (pv 0) a6v T.C_Hall T.na_places rfl a2e (by decide))
   (a0i (a4j (pv 0) a6v T.C_Hall T.na_readings rfl a2e (by decide))
   (a0i (a4j (pv 0) a6v T.C_Hall T.na_rounded rfl a2e (by decide))
   (a0i (a4j (pv 0) (a9a a0h) T.C_Hall T.na_gone rfl a2e (by decide))
   (a0q (a4j (pv 0) a6v T.C_Hall T.na_carted rfl a2e (by decide))))))))))))),rfl⟩)
theorem sc_l_refused:FnScope ["_law_house_here","_law_word"] ["_law_house_here"] (a0k b0n):=fnsc
def a8q:GS:=(a0o (gsSet 1 (gC (.str "")))
 (a0o (gsTry (a5f (b8f a7h cHall hns (a0c (gVar 0) (a0c (gC (.int 1)) gaNil)))) [(none,wE errCs 80,(gsSet 1 (gC (.str "hand")))),(none,wE errCs 68,(gsSet 1 (gC (.str "out"))))])
 (gsRet (gVar 1))))
def a4v:GM:=runM 2 [false] a8q
abbrev b7f(P:Program)(w:World)(K:L2.FG)(mg:Str->Option Value)(base:Heap)(t:Adr):Prop:=FnOk P w K mg base CX0 7 t.f23 t.d23 ["_law_house_here"] (SpM K 1 a4v)
theorem c2y(T:Txt K mg t)(g26:c0t P w K mg base t):b7f P w K mg base t:=
 a2v (k:=6) [false] a8q T.F23.fn sc_l_refused rfl rfl (by decide) fun cdv A outer s H E hr=>(by
  exact⟨_,(a0i (a1l (i:=1) sc_l_refused.nd rfl (Or.inl rfl) (a0s (d:=.str "") a4h))
   (a0i (d1p (fun _ _ _ hp=>(a0q (a4p (b9v T.Mk_Hall T.mg_Hall g26 T.B26 hr.le hp (a0b (a0d (pv 0)) (a0b (a0s (d:=.int 1) a0g) a0h)) (a0a (a0a a0e)))))) (b9r (T.er.ix (i:=3) rfl).1 (T.er.xE (c:=80) rfl rfl) (b9q fun _=>(a0q (a1l (i:=1) sc_l_refused.nd rfl (Or.inl rfl) (a0s (d:=.str "hand") a4h)))) (b9r (T.er.ix (i:=2) rfl).1 (T.er.xE (c:=68) rfl rfl) (b9q fun _=>(a0q (a1l (i:=1) sc_l_refused.nd rfl (Or.inl rfl) (a0s (d:=.str "out") a4h)))) d1o)))
   (a0q (a1w (a0d (pv 1)))))),rfl⟩)
theorem sc_l_same:FnScope ["_law_found","_law_due","_law_kind","_law_k"] ["_law_found","_law_due"] (a0k b9z):=fnsc
def a5r(S:GM):GS:=(a0o (gsIf (gTru (gOp oIsi2 (a0c (gVar 1) (a0c (gSeq .tup (a0c (gC (.ty "tuple")) (a0c (gC (.ty "list")) gaNil))) gaNil))))
  (a0o (gsSet 2 (gFrz (gIf (gTru (gOp oIsi (a0c (gVar 1) (a0c (gC (.ty "tuple")) gaNil)))) (gOp oIsi (a0c (gVar 0) (a0c (gC (.ty "tuple")) gaNil))) (gOp oIsi (a0c (gVar 0) (a0c (gC (.ty "list")) gaNil))))))
 (a0o (gsIf (gOrT (gNotT (gTru (gVar 2))) (gT (gBin oNeA (gOp oLen (a0c (gVar 0) gaNil)) (gOp oLen (a0c (gVar 1) gaNil)))))
  (gsRet (gC (.bl false)))
  gsNil)
 (a0o (b0y (a0c (gOp oLen (a0c (gVar 1) gaNil)) gaNil) (a0r 3)
  (gsIf (gNotT (gTru (a1i S (a0c (gBin oIx (gVar 0) (gVar 3)) (a0c (gBin oIx (gVar 1) (gVar 3)) gaNil)))))
  (gsRet (gC (.bl false)))
  gsNil))
 (gsRet (gC (.bl true))))))
  gsNil)
 (a0o (gsIf (gT (gBin (oIsG false) (gVar 1) (gC .non)))
  (gsRet (gBin (oIsG false) (gVar 0) (gC .non)))
  gsNil)
 (a0o (gsIf (gTru (gOp oIsi (a0c (gVar 1) (a0c (gC (.ty "bool")) gaNil))))
  (gsRet (gAndV (gOp oIsi (a0c (gVar 0) (a0c (gC (.ty "bool")) gaNil))) (gBin oEq (gVar 0) (gVar 1))))
  gsNil)
 (a0o (gsIf (gTru (gOp oIsi (a0c (gVar 1) (a0c (gC (.ty "str")) gaNil))))
  (gsRet (gAndV (gOp oIsi (a0c (gVar 0) (a0c (gC (.ty "str")) gaNil))) (gBin oEq (gVar 0) (gVar 1))))
  gsNil)
 (gsRet (gAndV (gOp oIsi (a0c (gVar 0) (a0c (gC (.ty "int")) gaNil))) (gAndV (gNotV (gOp oIsi (a0c (gVar 0) (a0c (gC (.ty "bool")) gaNil)))) (gBin oEq (gVar 0) (gVar 1)))))))))
def a1d:Nat->GM
 |0=>fun _=>none
 |n+1=>runM 4 [false,false] (a5r (a1d n))
theorem b7g(T:Txt K mg t):∀n:Nat,FnOk P w K mg base CX0 (1+n) t.f20 t.d20 ["_law_found","_law_due"] (SpM K 2 (a1d n))
 |0=>e1i
 |n+1=>by
  have G_self:=b7g T n;exact a2v (k:=1+n) [false,false] (a5r (a1d n)) T.F20.fn sc_l_same rfl rfl (by decide) fun cdv A outer s H E hr=>(by
   have hu40:=a8y hr;have hu41:=a2h hr;exact⟨_,(a0i (a3l (a3g (a1k (d2j K) e1k T.b_isinstance a8r (a0b (a0d (pv 1)) (a0b (a6j (a0b (a0s (d:=.ty "tuple") (b2e (by rfl) T.b_tuple b8t)) (a0b (a0s (d:=.ty "list") (b2e (by rfl) T.b_list a7z)) a0h))) a0h))))
   (a0i (a1l (i:=2) sc_l_same.nd rfl (Or.inl rfl) (a2a (d9y (a3g (a1k (a3x K) a9e T.b_isinstance a8r (a0b (a0d (pv 1)) (a0b (a0s (d:=.ty "tuple") (b2e (by rfl) T.b_tuple b8t)) a0h)))) (a1k (a3x K) a9e T.b_isinstance a8r (a0b (a0d (pv 0)) (a0b (a0s (d:=.ty "tuple") (b2e (by rfl) T.b_tuple b8t)) a0h))) (a1k (a3x K) a9e T.b_isinstance a8r (a0b (a0d (pv 0)) (a0b (a0s (d:=.ty "list") (b2e (by rfl) T.b_list a7z)) a0h))))))
   (a0i (a3l (PW.pt (b3q (a5c (a3g (a0d (pv 2)))) (a9b (a2o (e3x K (by exact hu40)) e3y (a1k (a3d K) a7t T.b_len a7r (a0b (a0d (pv 0)) a0h)) (a1k (a3d K) a7t T.b_len a7r (a0b (a0d (pv 1)) a0h))))))
   (a0q (a1w (a0s (d:=.bl false) a8w)))
   a2f)
   (a0i (b5k PassesOwn.never T.b_range (a0b (a1k (a3d K) a7t T.b_len a7r (a0b (a0d (pv 1)) a0h)) a0h) (a1r (i:=3) sc_l_same.nd rfl (Or.inl rfl)) a1s
   (a0q (a3l (a5c (a3g (a0w T.F20 G_self hr (a0b (a1u (a4f K (by exact hu41)) a1v (a0d (pv 0)) (a0d (pv 3))) (a0b (a1u (a4f K (by exact hu41)) a1v (a0d (pv 1)) (a0d (pv 3))) a0h)) (a0a (a0a a0e)))))
   (a0q (a1w (a0s (d:=.bl false) a8w)))
   a2f)))
   (a0q (a1w (a0s (d:=.bl true) a8w))))))
   a2f)
   (a0i (a3l (a2o d7z (e0h false) (a0d (pv 1)) (a0s (d:=.non) c0z))
   (a0q (a1w (b3e d7z (e0h false) (a0d (pv 0)) (a0s (d:=.non) c0z))))
   a2f)
   (a0i (a3l (a3g (a1k (a3x K) a9e T.b_isinstance a8r (a0b (a0d (pv 1)) (a0b (a0s (d:=.ty "bool") (b2e (by rfl) T.b_bool c3o)) a0h))))
   (a0q (a1w (b7s (a1k (a3x K) a9e T.b_isinstance a8r (a0b (a0d (pv 0)) (a0b (a0s (d:=.ty "bool") (b2e (by rfl) T.b_bool c3o)) a0h))) (c1p (b3e (a6y K (by exact hu40)) b1f (a0d (pv 0)) (a0d (pv 1)))))))
   a2f)
   (a0i (a3l (a3g (a1k (a3x K) a9e T.b_isinstance a8r (a0b (a0d (pv 1)) (a0b (a0s (d:=.ty "str") (b2e (by rfl) T.b_str c9w)) a0h))))
   (a0q (a1w (b7s (a1k (a3x K) a9e T.b_isinstance a8r (a0b (a0d (pv 0)) (a0b (a0s (d:=.ty "str") (b2e (by rfl) T.b_str c9w)) a0h))) (c1p (b3e (a6y K (by exact hu40)) b1f (a0d (pv 0)) (a0d (pv 1)))))))
   a2f)
   (a0q (a1w (b7s (a1k (a3x K) a9e T.b_isinstance a8r (a0b (a0d (pv 0)) (a0b (a0s (d:=.ty "int") (b2e (by rfl) T.b_int e3h)) a0h))) (b7s (e3l (a1k (a3x K) a9e T.b_isinstance a8r (a0b (a0d (pv 0)) (a0b (a0s (d:=.ty "bool") (b2e (by rfl) T.b_bool c3o)) a0h)))) (c1p (b3e (a6y K (by exact hu40)) b1f (a0d (pv 0)) (a0d (pv 1)))))))))))),rfl⟩)
theorem d3h(T:Txt K mg t):FnOk P w K mg base CX0 9 t.f20 t.d20 ["_law_found","_law_due"] (SpM K 2 (a1d 8)):=b7g T 8
theorem sc_l_is_new:FnScope ["_law_hall","_law_house_here","_law_rounds","_law_name_here","_law_lists"] ["_law_hall","_law_house_here","_law_rounds","_law_name_here"] (a0k a9w):=fnsc
def b3a:GS:=(a0o (gsIf (gOrT (gNotT (gTru (a1i (a1d 8) (a0c (gMeth a9q cHall hns 0 gaNil) (a0c (gVar 1) gaNil))))) (gNotT (gTru (a1i (a1d 8) (a0c (gMeth a9x cHall hns 0 gaNil) (a0c (gVar 2) gaNil))))))
  (gsRet (gC (.bl false)))
  gsNil)
 (a0o (gsIf (gOrT (gNotT (gTru (a1i (a1d 8) (a0c (gMeth a9y cHall hns 0 gaNil) (a0c (gC (.int 0)) gaNil))))) (gNotT (gTru (gCall b0b (a0c (gVar 0) (a0c (gVar 3) gaNil))))))
  (gsRet (gC (.bl false)))
  gsNil)
 (a0o (gsSet 4 (gFrz (gSeq .lst (a0c (gFrz (gMeth a6s cHall hns 0 gaNil)) (a0c (gFrz (gMeth a8n cHall hns 0 gaNil)) (a0c (gFrz (gMeth b1w cHall hns 0 gaNil)) (a0c (gFrz (gMeth c0g cHall hns 0 gaNil)) (a0c (gFrz (gMeth b4s cHall hns 0 gaNil)) gaNil))))))))
 (gsRet (gOp (b8c fun bs=>bs.all id) (a0c (a3z (srcL (gVar 4)) (a0r 0) gYes (a1i (a1d 8) (a0c (gVar 0) (a0c (gSeq .lst gaNil) gaNil))) 1 []) gaNil))))))
def a7x:GM:=runM 5 [true,false,false,false] b3a
abbrev b8k(P:Program)(w:World)(K:L2.FG)(mg:Str->Option Value)(base:Heap)(t:Adr):Prop:=FnOk P w K mg base CX0 10 t.f22 t.d22 ["_law_hall","_law_house_here","_law_rounds","_law_name_here"] (SpM K 4 a7x)
theorem c4r(T:Txt K mg t)(g38:c0q P w K mg base t)(g36:b0q P w K mg base t)(g33:b7b P w K mg base t)(g40:c6k P w K mg base t)(g35:b8h P w K mg base t)(g39:d2s P w K mg base t)(g34:b8g P w K mg base t)(g37:b6w P w K mg base t)(g21:b8j P w K mg base t)(g20:FnOk P w K mg base CX0 9 t.f20 t.d20 ["_law_found","_law_due"] (SpM K 2 (a1d 8))):b8k P w K mg base t:=
 a2v (k:=9) [true,false,false,false] b3a T.F22.fn sc_l_is_new rfl rfl (by decide) fun cdv A outer s H E hr=>(by
  exact⟨_,(a0i (a3l (PW.pt (b3q (a5c (a3g (a0w T.F20 g20 hr.le (a0b (a4g (pv 0) T.C_Hall T.F33 g33 hr.le (by decide +kernel)) (a0b (a0d (pv 1)) a0h)) (a0a (a0a a0e))))) (a9b (a5c (a3g (a0w T.F20 g20 hr.le (a0b (a4g (pv 0) T.C_Hall T.F34 g34 hr.le (by decide +kernel)) (a0b (a0d (pv 2)) a0h)) (a0a (a0a a0e))))))))
   (a0q (a1w (a0s (d:=.bl false) a8w)))
   a2f)
   (a0i (a3l (PW.pt (b3q (a5c (a3g (a0w T.F20 g20 hr.le (a0b (a4g (pv 0) T.C_Hall T.F35 g35 hr.le (by decide +kernel)) (a0b (a0s (d:=.int 0) a0g) a0h)) (a0a (a0a a0e))))) (a9b (a5c (a3g (a2w T.F21 g21 hr.le (a0b (a0d (pv 0)) (a0b (a0d (pv 3)) a0h)) (a0a (a0a a0e))))))))
   (a0q (a1w (a0s (d:=.bl false) a8w)))
   a2f)
   (a0i (a1l (i:=4) sc_l_is_new.nd rfl (Or.inl rfl) (a2a (a9a (a0b (a2a (a4g (pv 0) T.C_Hall T.F36 g36 hr.le (by decide +kernel))) (a0b (a2a (a4g (pv 0) T.C_Hall T.F37 g37 hr.le (by decide +kernel))) (a0b (a2a (a4g (pv 0) T.C_Hall T.F38 g38 hr.le (by decide +kernel))) (a0b (a2a (a4g (pv 0) T.C_Hall T.F39 g39 hr.le (by decide +kernel))) (a0b (a2a (a4g (pv 0) T.C_Hall T.F40 g40 hr.le (by decide +kernel))) a0h))))))))
   (a0q (a1w (a1k (c2h K) (c5y _) T.b_all d7s (a0b (a6l a5o (k:=1) (cap:=[]) a1s (M:=["_law_told"]) (CompOk.of (a0k a9w).names ["_law_hall","_law_house_here","_law_rounds","_law_name_here","_law_lists"] (by decide +kernel)) (a4z K (a2a (a0d (pv 4))))
    (fun _ _ _ _=>(a1r (i:=0) (show List.Nodup (["_law_told"]:List Str) by decide +kernel) rfl (Or.inl rfl))) (fun _ _ _ _=>a6k) (fun _ _ _ _=>(a0w T.F20 g20 hr.le (a0b (a0d (pv 0)) (a0b (a9a a0h) a0h)) (a0a (a0a a0e))))) a0h))))))),rfl⟩)
theorem sc_law:FnScope ["_law_script","_law_house_here","_law_rounds","_law_handed","_law_hall","_law_other_here","_law_name_here","_law_told","_law_last","_law_bare"] ["_law_script"] (a0k e1m):=fnsc
def a1:GS:=(gsSet 1 (gFrz (gCall a7w (a0c (gVar 0) gaNil))))
def a2:GS:=(gsSet 2 (a1i a3m (a0c (gVar 0) (a0c (gC (.int 14)) (a0c (gC (.int 4)) gaNil)))))
def a3:GS:=(gsIf (gT (gBin oEq (a1i a3m (a0c (gVar 0) (a0c (gC (.int 15)) (a0c (gC (.int 4)) gaNil)))) (gC (.int 1)))) (gsSet 2 (gBin oMod (a1i a3v (a0c (gVar 0) (a0c (gC (.int 15)) gaNil))) (gBin oPow (gC (.int 10)) (gC (.int 9))))) gsNil)
def a4:GS:=(gsSet 3 (gCall b4q (a0c (gVar 1) gaNil)))
def a5:GS:=(gsSet 4 (gNX (b8f a7h cHall hns (a0c (gVar 3) (a0c (gVar 2) gaNil)))))
def a6:GS:=(gsSet 5 (gNX (b8f a7h cHall hns (a0c (gVar 1) (a0c (gC (.int 1)) gaNil)))))
def a7:GS:=(gsSet 6 (gBin oIx (gBin oIx (gBin oIx (gVar 1) (gC (.int 0))) (gC (.int 0))) (gC (.int 0))))
def a8:GS:=(gsIf (gOrT (gNotT (gTru (gCall a7x (a0c (gVar 4) (a0c (gVar 1) (a0c (gVar 2) (a0c (gVar 6) gaNil))))))) (gNotT (gTru (a1i (a1d 8) (a0c (gVar 3) (a0c (gVar 1) gaNil)))))) (gsRet (gC (.bl false))) gsNil)
def a9:GS:=(a3y (gMutC b0g 3 [0,0,3] []))
def a10:GS:=(a3y (gMutC b0g 3 [0] []))
def a11:GS:=(a3y (gMutC b0g 3 [1] []))
def a12:GS:=(gsSet 7 (gMeth a9q cHall hns 4 gaNil))
def a13:GS:=(a3y (gMutC a7j 7 [0,0,3] [.str "a"]))
def a14:GS:=(a3y (gMutC b0g 7 [1] []))
def a15:GS:=(a3y (gMutT a7j (gMeth b1w cHall hns 4 gaNil) (a0c (gVar 6) gaNil)))
def a16:GS:=(a3y (gMutT a7j (gMeth a6s cHall hns 4 gaNil) (a0c (gVar 6) gaNil)))
def a17:GS:=(gsIf (gT (gBin oGt (gOp oLen (a0c (gBin oIx (gVar 1) (gC (.int 1))) gaNil)) (gC (.int 1)))) (a3y (gNX (gMeth a9z cHall hns 5 (a0c (gC (.str "a")) (a0c (gBin oIx (gBin oIx (gVar 1) (gC (.int 1))) (gC (.int 1))) (a0c (gC (.int 5)) gaNil)))))) gsNil)
def a18:GS:=(a3y (gNX (gMeth c0n cHall hns 5 (a0c (gVar 6) (a0c (gC .non) (a0c (gVar 6) gaNil))))))
def a19:GS:=(a3y (gNX (gMeth b4r cHall hns 5 (a0c (gVar 6) gaNil))))
def a20:GS:=(gsIf (gOrT (gNotT (gTru (gCall a7x (a0c (gVar 4) (a0c (gVar 1) (a0c (gVar 2) (a0c (gVar 6) gaNil))))))) (gNotT (gTru (a1i (a1d 8) (a0c (gNX (gMeth a6u cHall hns 5 (a0c (gVar 6) gaNil))) (a0c (gSeq .tup (a0c (gVar 6) (a0c (gC (.int 0)) gaNil))) gaNil)))))) (gsRet (gC (.bl false))) gsNil)
def a21:GS:=(gsSet 8 (gBin oIx (gBin oIx (gVar 1) (gC (.int 0))) (gBin oSub (gOp oLen (a0c (gBin oIx (gVar 1) (gC (.int 0))) gaNil)) (gC (.int 1)))))
def a22:GS:=(gsSet 9 (gFrz (gSeq .tup (a0c (gFrz (gBin oAdd (b3h (gBin oIx (gVar 1) (gC (.int 0))) b7v (b5q (gUn oNeg (gC (.int 1))))) (gSeq .lst (a0c (gFrz (gSeq .tup (a0c (gBin oIx (gVar 8) (gC (.int 0))) (a0c (gBin oIx (gVar 8) (gC (.int 1))) (a0c (gBin oIx (gVar 8) (gC (.int 2))) (a0c (gFrz (gSeq .lst gaNil)) gaNil)))))) gaNil)))) (a0c (gBin oIx (gVar 1) (gC (.int 1))) gaNil)))))
def a23:GS:=(gsRet (gAndV (gBin oEq (gCall a4v (a0c (gFrz (gSeq .tup (a0c (gBin oIx (gVar 1) (gC (.int 0))) (a0c (gFrz (gSeq .lst gaNil)) gaNil)))) gaNil)) (gC (.str "hand"))) (gBin oEq (gCall a4v (a0c (gVar 9) gaNil)) (gC (.str "out")))))
def e1n:GS:=a0o a1 (a0o a2 (a0o a3 (a0o a4 (a0o a5 (gsFzF 4 0 (a0o a6 (gsFzF 5 0 (a0o a7 (a0o a8 (a0o a9 (a0o a10 (a0o a11 (a0o a12 (a0o a13 (a0o a14 (a0o a15 (a0o a16 (a0o a17 (a0o a18 (a0o a19 (a0o a20 (a0o a21 (a0o a22 (a23))))))))))))))))))))))))
def d7a:GM:=runM 10 [false] e1n
theorem e4b(T:Txt K mg t)(g26:c0t P w K mg base t)(g38:c0q P w K mg base t)(g27:b8i P w K mg base t)(g36:b0q P w K mg base t)(g33:b7b P w K mg base t)(g28:d2w P w K mg base t)(g29:c6j P w K mg base t)(g41:b7c P w K mg base t)(g12:c0e P w K mg base t)(g24:c6i P w K mg base t)(g19:c2x P w K mg base t)(g22:b8k P w K mg base t)(g14:b1u P w K mg base t)(g23:b7f P w K mg base t)(g20:FnOk P w K mg base CX0 9 t.f20 t.d20 ["_law_found","_law_due"] (SpM K 2 (a1d 8))):FnOk P w K mg base CX0 11 t.f25 t.d25 ["_law_script"] (SpM K 1 d7a):=
 a2v (k:=10) [false] e1n T.F25.fn sc_law rfl rfl (by decide) fun cdv A outer s H E hr=>(by
  have hu40:=a8y hr;have hu41:=a2h hr;exact⟨_,(a0i (a1l (i:=1) sc_law.nd rfl (Or.inl rfl) (a2a (a2w T.F19 g19 hr.le (a0b (a0d (pv 0)) a0h) (a0a a0e))))
   (a0i (a1l (i:=2) sc_law.nd rfl (Or.inl rfl) (a0w T.F14 g14 hr.le (a0b (a0d (pv 0)) (a0b (a0s (d:=.int 14) a0g) (a0b (a0s (d:=.int 4) a0g) a0h))) (a0a (a0a (a0a a0e)))))
   (a0i (a3l (a2o (a6y K (by exact hu40)) b1f (a0w T.F14 g14 hr.le (a0b (a0d (pv 0)) (a0b (a0s (d:=.int 15) a0g) (a0b (a0s (d:=.int 4) a0g) a0h))) (a0a (a0a (a0a a0e)))) (a0s (d:=.int 1) a0g))
   (a0q (a1l (i:=2) sc_law.nd rfl (Or.inl rfl) (a1y a7q a7s (a0w T.F12 g12 hr.le (a0b (a0d (pv 0)) (a0b (a0s (d:=.int 15) a0g) a0h)) (a0a (a0a a0e))) (a1y e2q e3z (a0s (d:=.int 10) a0g) (a0s (d:=.int 9) a0g)))))
   a2f)
   (a0i (a1l (i:=3) sc_law.nd rfl (Or.inl rfl) (a2w T.F24 g24 hr.le (a0b (a0d (pv 1)) a0h) (a0a a0e)))
   (a0i (a1l (i:=4) sc_law.nd rfl (Or.inl rfl) (c7z fun _ hp=>(b9v T.Mk_Hall T.mg_Hall g26 T.B26 hr.le hp (a0b (a0d (pv 3)) (a0b (a0d (pv 2)) a0h)) (a0a (a0a a0e)))))
   (d8m (i:=4) (j:=0) (a0i (a1l (i:=5) sc_law.nd rfl (Or.inl rfl) (c7z fun _ hp=>(b9v T.Mk_Hall T.mg_Hall g26 T.B26 hr.le hp (a0b (a0d (pv 1)) (a0b (a0s (d:=.int 1) a0g) a0h)) (a0a (a0a a0e)))))
   (d8m (i:=5) (j:=0) (a0i (a1l (i:=6) sc_law.nd rfl (Or.inl rfl) (a1u (a4f K (by exact hu41)) a1v (a1u (a4f K (by exact hu41)) a1v (a1u (a4f K (by exact hu41)) a1v (a0d (pv 1)) (a0s (d:=.int 0) a0g)) (a0s (d:=.int 0) a0g)) (a0s (d:=.int 0) a0g)))
   (a0i (a3l (PW.pt (b3q (a5c (a3g (a2w T.F22 g22 hr.le (a0b (a0d (pv 4)) (a0b (a0d (pv 1)) (a0b (a0d (pv 2)) (a0b (a0d (pv 6)) a0h)))) (a0a (a0a (a0a (a0a a0e))))))) (a9b (a5c (a3g (a0w T.F20 g20 hr.le (a0b (a0d (pv 3)) (a0b (a0d (pv 1)) a0h)) (a0a (a0a a0e))))))))
   (a0q (a1w (a0s (d:=.bl false) a8w)))
   a2f)
   (a0i (a3q (b4d (π:=[0,0,3]) PySem.F.slot_list_clear PySem.F.type_list_clear b3w b4b (b9j (j:=3) (b9j (j:=0) (b9j (j:=0) (c1z (pv 3)) (by exact hu41)) (by exact hu41)) (by exact hu41))))
   (a0i (a3q (b4d (π:=[0]) PySem.F.slot_list_clear PySem.F.type_list_clear b3w b4b (b9j (j:=0) (c1z (pv 3)) (by exact hu41))))
   (a0i (a3q (b4d (π:=[1]) PySem.F.slot_list_clear PySem.F.type_list_clear b3w b4b (b9j (j:=1) (c1z (pv 3)) (by exact hu41))))
   (a0i (a1l (i:=7) sc_law.nd rfl (Or.inl rfl) (a4g (pv 4) T.C_Hall T.F33 g33 hr.le (by decide +kernel)))
   (a0i (a3q (e0p (π:=[0,0,3]) (ds:=[.str "a"]) (vs:=[.str "a"]) PySem.F.slot_list_append PySem.F.type_list_append b0x b1h (b9j (j:=3) (b9j (j:=0) (b9j (j:=0) (c1z (pv 7)) (by exact hu41)) (by exact hu41)) (by exact hu41)) (c9h a4h pa_nil) rfl (fun _ _ _ h=>h)))
   (a0i (a3q (b4d (π:=[1]) PySem.F.slot_list_clear PySem.F.type_list_clear b3w b4b (b9j (j:=1) (c1z (pv 7)) (by exact hu41))))
   (a0i (a3q (d2i PySem.F.slot_list_append PySem.F.type_list_append b0x b1h (a4g (pv 4) T.C_Hall T.F38 g38 hr.le (by decide +kernel)) (a0b (a0d (pv 6)) a0h)))
   (a0i (a3q (d2i PySem.F.slot_list_append PySem.F.type_list_append b0x b1h (a4g (pv 4) T.C_Hall T.F36 g36 hr.le (by decide +kernel)) (a0b (a0d (pv 6)) a0h)))
   (a0i (a3l (a2o e5g e5i (a1k (a3d K) a7t T.b_len a7r (a0b (a1u (a4f K (by exact hu41)) a1v (a0d (pv 1)) (a0s (d:=.int 1) a0g)) a0h)) (a0s (d:=.int 1) a0g))
   (a0q (a3q (c7z fun _ hp=>(a5h (pv 5) T.C_Hall T.F27 g27 hr.le hp (by decide +kernel) (a0b (a0s (d:=.str "a") a4h) (a0b (a1u (a4f K (by exact hu41)) a1v (a1u (a4f K (by exact hu41)) a1v (a0d (pv 1)) (a0s (d:=.int 1) a0g)) (a0s (d:=.int 1) a0g)) (a0b (a0s (d:=.int 5) a0g) a0h))) (a0a (a0a (a0a a0e)))))))
   a2f)
   (a0i (a3q (c7z fun _ hp=>(a5h (pv 5) T.C_Hall T.F28 g28 hr.le hp (by decide +kernel) (a0b (a0d (pv 6)) (a0b (a0s (d:=.non) c0z) (a0b (a0d (pv 6)) a0h))) (a0a (a0a (a0a a0e))))))
   (a0i (a3q (c7z fun _ hp=>(a5h (pv 5) T.C_Hall T.F29 g29 hr.le hp (by decide +kernel) (a0b (a0d (pv 6)) a0h) (a0a a0e))))
   (a0i (a3l (PW.pt (b3q (a5c (a3g (a2w T.F22 g22 hr.le (a0b (a0d (pv 4)) (a0b (a0d (pv 1)) (a0b (a0d (pv 2)) (a0b (a0d (pv 6)) a0h)))) (a0a (a0a (a0a (a0a a0e))))))) (a9b (a5c (a3g (a0w T.F20 g20 hr.le (a0b (c7z fun _ hp=>(a5h (pv 5) T.C_Hall T.F41 g41 hr.le hp (by decide +kernel) (a0b (a0d (pv 6)) a0h) (a0a a0e))) (a0b (a6j (a0b (a0d (pv 6)) (a0b (a0s (d:=.int 0) a0g) a0h))) a0h)) (a0a (a0a a0e))))))))
   (a0q (a1w (a0s (d:=.bl false) a8w)))
   a2f)
   (a0i (a1l (i:=8) sc_law.nd rfl (Or.inl rfl) (a1u (a4f K (by exact hu41)) a1v (a1u (a4f K (by exact hu41)) a1v (a0d (pv 1)) (a0s (d:=.int 0) a0g)) (a1y c9d d0g (a1k (a3d K) a7t T.b_len a7r (a0b (a1u (a4f K (by exact hu41)) a1v (a0d (pv 1)) (a0s (d:=.int 0) a0g)) a0h)) (a0s (d:=.int 1) a0g))))
   (a0i (a1l (i:=9) sc_law.nd rfl (Or.inl rfl) (a2a (a6j (a0b (a2a (a1y (a1t K) a2p (b4c (a1u (a4f K (by exact hu41)) a1v (a0d (pv 1)) (a0s (d:=.int 0) a0g)) b9e (b9f (e5h e2r e3p (a0s (d:=.int 1) a0g)))) (a9a (a0b (a2a (a6j (a0b (a1u (a4f K (by exact hu41)) a1v (a0d (pv 8)) (a0s (d:=.int 0) a0g)) (a0b (a1u (a4f K (by exact hu41)) a1v (a0d (pv 8)) (a0s (d:=.int 1) a0g)) (a0b (a1u (a4f K (by exact hu41)) a1v (a0d (pv 8)) (a0s (d:=.int 2) a0g)) (a0b (a2a (a9a a0h)) a0h)))))) a0h)))) (a0b (a1u (a4f K (by exact hu41)) a1v (a0d (pv 1)) (a0s (d:=.int 1) a0g)) a0h)))))
   (a0q (a1w (b7s (b3e (a6y K (by exact hu40)) b1f (a2w T.F23 g23 hr.le (a0b (a2a (a6j (a0b (a1u (a4f K (by exact hu41)) a1v (a0d (pv 1)) (a0s (d:=.int 0) a0g)) (a0b (a2a (a9a a0h)) a0h)))) a0h) (a0a a0e)) (a0s (d:=.str "hand") a4h)) (c1p (b3e (a6y K (by exact hu40)) b1f (a2w T.F23 g23 hr.le (a0b (a0d (pv 9)) a0h) (a0a a0e)) (a0s (d:=.str "out") a4h)))))))))))))))))))))))))))))),rfl⟩)
end
end Carry
namespace Carry
open PySem L2
variable{i:Nat}{n b:Str}{l:List O}{xs ks outs:List Str}{g:GG}{f:GS}{h:House}{x z:Belt}{ys:List Belt}{w:World}{S:GM}{ds:List D}{L:Int}{C:Addr}{K:L2.FG}{mg:Str->Option Value}{us:List Value}
theorem qq0{α:Type _}{a:α}{l:List α}:(a::l)[0]?=some a:=rfl
theorem qq1{α:Type _}{a:α}{l:List α}:(a::l)[i+1]?=l[i]?:=rfl
theorem qq2{α:Type _}{a:α}{l:List α}:(a::l).length=l.length+1:=rfl
theorem qq3{α:Type _}:([]:List α).length=0:=rfl
theorem qq4{α:Type _}{x a:α}{l:List α}:(x::l).set 0 a=a::l:=rfl
theorem qq5{α:Type _}{x a:α}{n:Nat}{l:List α}:(x::l).set (n+1) a=x::l.set n a:=rfl
theorem qq6{α β:Type _}{f:α->β}{a:α}{l:List α}:(a::l).map f=f a::l.map f:=rfl
theorem qq7{α β:Type _}{f:α->β}:([]:List α).map f=[]:=rfl
theorem qq8{α:Type _}{a:α}:List.replicate 0 a=[]:=rfl
theorem qq9{α:Type _}{a:α}{n:Nat}:List.replicate (n+1) a=a::List.replicate n a:=rfl
theorem qqa{α:Type _}{a:α}{l:List α}:(a::l).take (i+1)=a::l.take i:=rfl
theorem qqb{α:Type _}{a:α}{l r:List α}:(a::l)++r=a::(l++r):=rfl
theorem qqc{α:Type _}(l:List α):[]++l=l:=rfl
theorem qqd{α:Type _}{l:List α}:l.take 0=[]:=rfl
theorem qqe:(false=true)=False:=Bool.false_eq_true
theorem qqf(n:Nat):0+n=n:=Nat.zero_add n
theorem d3i(ns:List Int)(k v:Int)(h1:(k < (ns.length:Int))=True)(h2:atI (ns.map D.int) k=some (.int v)):a3v [.frz (.scr ns),.frz (.int k)]=some (.frz (.int v),[none,none]):=by
 unfold a3v b4p;simp only[a1a,qq6,qq7,qq2,qq3,qqf,Nat.reduceAdd,Nat.reduceSub,qq8,List.append_nil,a0x,a1f,a6e,a1g,a0f,a0p,qq1,qq0,↓evBind,a0j,a0m,a0n,a0l,a5l,a1h,d1g,↓evMap,a5t,h1,decide_true,if_true,a2b,a3f,d8f,h2,a1e,a2z,qqa,qqd,a2s,a2i]
theorem d3j(ns:List Int)(k:Int)(h1:(k < (ns.length:Int))=False):a3v [.frz (.scr ns),.frz (.int k)]=some (.frz (.int 0),[none,none]):=by
 unfold a3v b4p;simp only[a1a,qq6,qq7,qq2,qq3,qqf,Nat.reduceAdd,Nat.reduceSub,qq8,List.append_nil,a0x,a1f,a6e,a1g,a0f,a0p,qq1,qq0,↓evBind,a0j,a0m,a0n,a0l,a5l,a1h,d1g,↓evMap,a5t,h1,decide_false,if_true,qqe,a2b,a3f,d8f,a1e,if_false,a3h,a2z,qqa,qqd,a2s,a2i]
theorem d3k(ns:List Int)(k:Nat):∃v,a3v [.frz (.scr ns),.frz (.int k)]=some (.frz (.int v),[none,none]):=by
 by_cases h:k < ns.length
 ·exact⟨_,d3i ns k _ (eq_true (by omega)) (a5x (by rw[List.getElem?_map,List.getElem?_eq_getElem h];rfl))⟩
 ·exact⟨_,d3j ns k (eq_false (by omega))⟩
abbrev pw5:List O:=[.frz (.int 2),.frz (.int 128),.frz (.int 8192),.frz (.int 524288),.frz (.int 33554432)]
theorem dig1(ns:List Int)(k a many c0 c d:Int)(h0:a3v [.frz (.scr ns),.frz (.int 0)]=some (.frz (.int c0),[none,none]))(hk:a3v [.frz (.scr ns),.frz (.int k)]=some (.frz (.int c),[none,none]))(e:(c0 % 2 == 1)=true)
  (ha:atI pw5 a=some (.frz (.int d))) (d0:(0 < d)=True) (d1:(d < 1073741824)=True) (m0:(0 < many)=True):a1n [.frz (.scr ns),.frz (.int k),.frz (.int a),.frz (.int many)]=some (.frz (.int (c / d % 64 % many)),[none,none,none,none]):=by
 unfold a1n b1r;simp only[a1a,qq6,qq7,qq2,qq3,qqf,Nat.reduceAdd,Nat.reduceSub,qq9,qq8,qqb,qqc,a0x,a1m,a0z,a0f,a0p,qq0,↓evBind,qq1,a0j,a0m,a0n,a0l,a1p,a1h,a1j,hk,a3r,Nat.reduceLT,qq5,qq4,if_true,a1f,a6e,a1g,a3h,h0,a5t,Int.reduceLT,decide_true,a7l,a5e,and_self,a7b,e,a2b,a3i,Nat.reduceLeDiff,a2k,a1x,a3f,c5t,ha,c5u,d0,d1,m0,a1e,a2z,qqa,qqd,a2s,a2i]
theorem dig2(ns:List Int)(k a many c0 c:Int)(h0:a3v [.frz (.scr ns),.frz (.int 0)]=some (.frz (.int c0),[none,none]))(hk:a3v [.frz (.scr ns),.frz (.int k)]=some (.frz (.int c),[none,none]))(e:(c0 % 2 == 1)=false)
  (k0:0<=k) (k1:k < 1000) (a0:0<=a) (a1:a < 1000) (m0:(0 < many)=True):∃v,a1n [.frz (.scr ns),.frz (.int k),.frz (.int a),.frz (.int many)]=some (.frz (.int (v % many)),[none,none,none,none]):=by
 have mk:((-(2 ^ 64) < k/\k < 2 ^ 64 \/ -(2 ^ 64) < k/\k < 2 ^ 64)=True):=eq_true (.inl ⟨by omega,by omega⟩)
 have m1:∀x:Int,(((-(2 ^ 64):Int) < 1009/\(1009:Int) < 2 ^ 64 \/ -(2 ^ 64) < x/\x < 2 ^ 64)=True):=fun x=>eq_true (.inl ⟨by decide,by decide⟩)
 have m2:∀x:Int,((-(2 ^ 64) < x/\x < 2 ^ 64\/(-(2 ^ 64):Int) < 48271/\(48271:Int) < 2 ^ 64)=True):=fun x=>eq_true (.inr ⟨by decide,by decide⟩)
 have m3:∀x:Int,(((-(2 ^ 64):Int) < 5/\(5:Int) < 2 ^ 64 \/ -(2 ^ 64) < x/\x < 2 ^ 64)=True):=fun x=>eq_true (.inl ⟨by decide,by decide⟩)
 have m4:∀x:Int,(((-(2 ^ 64):Int) < 2/\(2:Int) < 2 ^ 64 \/ -(2 ^ 64) < x/\x < 2 ^ 64)=True):=fun x=>eq_true (.inl ⟨by decide,by decide⟩)
 have m5:∀x:Int,((-(2 ^ 64) < x/\x < 2 ^ 64\/(-(2 ^ 64):Int) < 69621+2 * a/\69621+2 * a < 2 ^ 64)=True):=fun x=>eq_true (.inr ⟨by omega,by omega⟩)
 refine⟨((c % 1000003+k * k+1009 * a+7) * 48271 % 999983+5 * k+a) * (69621+2 * a) % 1000033,?_⟩;unfold a1n b1r;simp only[a1a,qq6,qq7,qq2,qq3,qqf,Nat.reduceAdd,Nat.reduceSub,qq9,qq8,qqb,qqc,a0x,a1m,a0z,a0f,a0p,qq0,↓evBind,qq1,a0j,a0m,a0n,a0l,a1p,a1h,a1j,hk,a3r,Nat.reduceLT,qq5,qq4,if_true,a1f,a6e,a1g,a3h,h0,a5t,Int.reduceLT,decide_true,a7l,a5e,and_self,a7b,e,qqe,a2b,a3i,Nat.reduceLeDiff,a2k,a1x,a3f,c5t,a1e,if_false,d1e,mk,a4a,m1,m2,m3,m4,m5,m0,a2z,qqa,qqd,a2s,a2i]
def dgv(ns:List Int)(k a:Nat)(many:Int):Int:=match a1n [.frz (.scr ns),.frz (.int k),.frz (.int a),.frz (.int many)] with
 |some (.frz (.int v),_)=>v
 |_=>0
theorem e5l:∀a:Nat,a < 5->∃d:Int,atI pw5 (a:Int)=some (.frz (.int d))/\0 < d/\d < 1073741824
 |0,_=>⟨2,rfl,by decide,by decide⟩
 |1,_=>⟨128,rfl,by decide,by decide⟩
 |2,_=>⟨8192,rfl,by decide,by decide⟩
 |3,_=>⟨524288,rfl,by decide,by decide⟩
 |4,_=>⟨33554432,rfl,by decide,by decide⟩
 |n+5,h=>absurd h (by omega)
theorem a3n(ns:List Int)(k a:Nat)(many:Int)(hk:k < 1000)(ha:a < 5)(m0:0 < many):a1n [.frz (.scr ns),.frz (.int k),.frz (.int a),.frz (.int many)]=some (.frz (.int (dgv ns k a many)),[none,none,none,none])/\0<=dgv ns k a many/\dgv ns k a many < many:=by
 obtain⟨c0,h0⟩:=d3k ns 0;obtain⟨c,h1⟩:=d3k ns k;obtain⟨v,e⟩:∃v,a1n [.frz (.scr ns),.frz (.int k),.frz (.int a),.frz (.int many)]=some (.frz (.int (v % many)),[none,none,none,none]):=by
  cases e:(c0 % 2 == 1) with
  |true=>
   obtain⟨d,d1,d2,d3⟩:=e5l a ha;exact⟨_,dig1 ns k a many c0 c d h0 h1 e d1 (eq_true d2) (eq_true d3) (eq_true m0)⟩
  |false=>exact dig2 ns k a many c0 c h0 h1 e (by omega) (by omega) (by omega) (by omega) (eq_true m0)
 have z:dgv ns k a many=v % many:=by unfold dgv;rw[e]
 rw[z];exact⟨e,Int.emod_nonneg _ (by omega),Int.emod_lt_of_pos _ m0⟩
theorem b8l(ns:List Int)(k:Nat)(many:Int)(hk:k < 1000)(m0:0 < many):a3m [.frz (.scr ns),.frz (.int k),.frz (.int many)]=some (.frz (.int (dgv ns k 0 many)),[none,none,none]):=by
 have h:=(a3n ns k 0 many hk (by decide) m0).1
 have h:a1n [.frz (.scr ns),.frz (.int k),.frz (.int 0),.frz (.int many)]=_:=h;unfold a3m c0m;simp only[a1a,qq6,qq7,qq2,qq3,qqf,Nat.reduceAdd,Nat.reduceSub,qq8,List.append_nil,a2b,a0z,a0f,a0p,qq0,↓evBind,qq1,a3h,a0j,a0m,a0n,a0l,a1p,a1h,a1j,h,a3r,a2z,qqa,qqd,a2s,a2i,if_true]
theorem c0u(ns:List Int)(k:Nat)(many:Int)(hk:k < 1000)(m0:0 < many):a4e [.frz (.scr ns),.frz (.int k),.frz (.int many)]=some (.frz (.int (dgv ns k 1 many)),[none,none,none]):=by
 have h:=(a3n ns k 1 many hk (by decide) m0).1
 have h:a1n [.frz (.scr ns),.frz (.int k),.frz (.int 1),.frz (.int many)]=_:=h;unfold a4e b6x;simp only[a1a,qq6,qq7,qq2,qq3,qqf,Nat.reduceAdd,Nat.reduceSub,qq8,List.append_nil,a2b,a0z,a0f,a0p,qq0,↓evBind,qq1,a3h,a0j,a0m,a0n,a0l,a1p,a1h,a1j,h,a3r,a2z,qqa,qqd,a2s,a2i,if_true]
theorem c4s(ns:List Int)(k:Nat)(many:Int)(hk:k < 1000)(m0:0 < many):a5j [.frz (.scr ns),.frz (.int k),.frz (.int many)]=some (.frz (.int (dgv ns k 2 many)),[none,none,none]):=by
 have h:=(a3n ns k 2 many hk (by decide) m0).1
 have h:a1n [.frz (.scr ns),.frz (.int k),.frz (.int 2),.frz (.int many)]=_:=h;unfold a5j b6z;simp only[a1a,qq6,qq7,qq2,qq3,qqf,Nat.reduceAdd,Nat.reduceSub,qq8,List.append_nil,a2b,a0z,a0f,a0p,qq0,↓evBind,qq1,a3h,a0j,a0m,a0n,a0l,a1p,a1h,a1j,h,a3r,a2z,qqa,qqd,a2s,a2i,if_true]
abbrev abc:Str:="abcdefghijklmnopqrstuvwxyz"
abbrev A26:List Nat:=abc.cps.toList
theorem l26:A26.length=26:=by decide +kernel
theorem d3l:(abc.length<=1000000)=True:=eq_true (by decide +kernel)
theorem e4c:A26.Nodup:=by decide +kernel
theorem at26(k:Int)(h0:0<=k)(h1:k < 26):atI A26 k=some (A26.getD k.toNat 0):=d5n 0 h0 (by rw[l26];exact h1)
theorem mulA1:∀i:Nat,i < 26->∀n:Nat,n < 9->MulOk ⟨#[A26.getD i 0]⟩ (n:Int):=by decide +kernel
theorem mulA2:∀i:Nat,i < 26->∀n:Nat,n < 9->Txt.mul ⟨#[A26.getD i 0]⟩ (n:Int)=⟨(List.replicate n (A26.getD i 0)).toArray⟩:=by decide +kernel
theorem mulA(i:Nat)(hi:i < 26)(n:Nat)(hn:n < 9):MulOk ⟨#[A26.getD i 0]⟩ (n:Int)/\Txt.mul ⟨#[A26.getD i 0]⟩ (n:Int)=⟨(List.replicate n (A26.getD i 0)).toArray⟩:=⟨mulA1 i hi n hn,mulA2 i hi n hn⟩
theorem d3m(a b:List Nat):(⟨a.toArray⟩:Str)++(⟨b.toArray⟩:Str)=⟨(a++b).toArray⟩:=by
 show(⟨a.toArray++b.toArray⟩:Str)=_;rw[List.append_toArray]
theorem name1(ns:List Int)(n b m:Int)(c:Nat)(z:Str)(hp:a3m [.frz (.scr ns),.frz (.int 11),.frz (.int 26)]=some (.frz (.int b),[none,none,none]))(ho:a4e [.frz (.scr ns),.frz (.int 11),.frz (.int 3)]=some (.frz (.int 0),[none,none,none]))
  (hat:atI A26 ((b+n / 8) % 26)=some c) (em:1+n % 8=m) (hm:MulOk ⟨#[c]⟩ m=True) (hz:Txt.mul ⟨#[c]⟩ m=z):a3w [.frz (.scr ns),.frz (.int 11),.frz (.int n)]=some (.frz (.str z),[none,none,none]):=by
 unfold a3w b4t;simp only[a1a,qq6,qq7,qq2,qq3,qqf,Nat.reduceAdd,Nat.reduceSub,qq9,qq8,qqb,qqc,a0x,a1m,a3h,↓evBind,Nat.reduceLT,qq5,qq4,if_true,a0z,a0f,a0p,qq0,qq1,a0j,a0m,a0n,a0l,a1p,a1h,a1j,hp,a3r,a1f,a6e,a1g,ho,a7l,a5e,and_self,a7b,beq_self_eq_true,a2b,a5t,Int.reduceLT,decide_true,a4a,a3f,d8e,d3l,hat,↓evMap,em,d1f,hm,hz,a1e,a2z,qqa,qqd,a2s,a2i]
theorem name2(ns:List Int)(n b v t sp r:Int)(cr cc:Nat)(z1 z2 z3 z4:Str)(hp:a3m [.frz (.scr ns),.frz (.int 11),.frz (.int 26)]=some (.frz (.int b),[none,none,none]))(ho:a4e [.frz (.scr ns),.frz (.int 11),.frz (.int 3)]=some (.frz (.int v),[none,none,none]))(hv:(v == 0)=false)
  (ht:a5j [.frz (.scr ns),.frz (.int 11),.frz (.int 8)]=some (.frz (.int t),[none,none,none])) (hs:a4e [.frz (.scr ns),.frz (.int 11),.frz (.int (1+t))]=some (.frz (.int sp),[none,none,none])) (hr:a1n [.frz (.scr ns),.frz (.int 11),.frz (.int 3),.frz (.int 26)]=some (.frz (.int r),[none,none,none,none]))
  (har:atI A26 r=some cr) (hac:atI A26 ((7 * n+b) % 26)=some cc) (h7:((-(2 ^ 64):Int) < 7/\(7:Int) < 2 ^ 64 \/ -(2 ^ 64) < n/\n < 2 ^ 64)=True) (m1:MulOk ⟨#[cr]⟩ sp=True) (e1:Txt.mul ⟨#[cr]⟩ sp=z1) (m2:MulOk ⟨#[cr]⟩ (1+t - 1 - sp)=True) (e2:Txt.mul ⟨#[cr]⟩ (1+t - 1 - sp)=z2)
  (l1:(z1.length+(⟨#[cc]⟩:Str).length<=1000000)=True) (e3:z1++(⟨#[cc]⟩:Str)=z3) (l2:(z3.length+z2.length<=1000000)=True) (e4:z3++z2=z4):a3w [.frz (.scr ns),.frz (.int 11),.frz (.int n)]=some (.frz (.str z4),[none,none,none]):=by
 unfold a3w b4t;simp only[a1a,qq6,qq7,qq2,qq3,qqf,Nat.reduceAdd,Nat.reduceSub,qq9,qq8,qqb,qqc,a0x,a1m,a3h,↓evBind,Nat.reduceLT,qq5,qq4,if_true,a0z,a0f,a0p,qq0,qq1,a0j,a0m,a0n,a0l,a1p,a1h,a1j,hp,a3r,a1f,a6e,a1g,ho,a7l,a5e,and_self,a7b,hv,qqe,a2b,a5t,Int.reduceLT,decide_true,a4a,a3f,d8e,d3l,↓evMap,a1e,if_false,a1o,ht,hs,hr,har,d1f,m1,e1,d1e,h7,hac,e0t,l1,e3,m2,e2,l2,e4,a2z,qqa,qqd,a2s,a2i]
def nmL(ns:List Int)(n:Nat):List Nat:=if dgv ns 11 1 3=0 then List.replicate (1+n % 8) (A26.getD (((dgv ns 11 0 26).toNat+n / 8) % 26) 0)
 else List.replicate (dgv ns 11 1 (1+dgv ns 11 2 8)).toNat (A26.getD (dgv ns 11 3 26).toNat 0)++A26.getD ((7 * n+(dgv ns 11 0 26).toNat) % 26) 0::List.replicate ((dgv ns 11 2 8).toNat - (dgv ns 11 1 (1+dgv ns 11 2 8)).toNat) (A26.getD (dgv ns 11 3 26).toNat 0)
def nmS(ns:List Int)(n:Nat):Str:=⟨(nmL ns n).toArray⟩
theorem b0v(l:List Nat):(⟨l.toArray⟩:Str).length=l.length:=by show l.toArray.size=_;simp
theorem d8o(ns:List Int)(n:Nat)(hn:n < 14):a3w [.frz (.scr ns),.frz (.int 11),.frz (.int n)]=some (.frz (.str (nmS ns n)),[none,none,none]):=by
 obtain⟨p1,p2,p3⟩:=a3n ns 11 0 26 (by decide) (by decide) (by decide)
 obtain⟨o1,o2,o3⟩:=a3n ns 11 1 3 (by decide) (by decide) (by decide)
 obtain⟨t1,t2,t3⟩:=a3n ns 11 2 8 (by decide) (by decide) (by decide)
 obtain⟨r1,r2,r3⟩:=a3n ns 11 3 26 (by decide) (by decide) (by decide)
 obtain⟨s1,s2,s3⟩:=a3n ns 11 1 (1+dgv ns 11 2 8) (by decide) (by decide) (by omega)
 have hp:=b8l ns 11 26 (by decide) (by decide)
 have ho:=c0u ns 11 3 (by decide) (by decide)
 have ht:=c4s ns 11 8 (by decide) (by decide)
 have hs:=c0u ns 11 (1+dgv ns 11 2 8) (by decide) (by omega)
 unfold nmS nmL;split
 ·rename_i h
  rw[h] at ho;have ei:(((dgv ns 11 0 26).toNat+n / 8) % 26:Nat)=((dgv ns 11 0 26+(n:Int) / 8) % 26).toNat:=by omega
  rw[ei];obtain⟨q1,q2⟩:=mulA ((dgv ns 11 0 26+(n:Int) / 8) % 26).toNat (by omega) (1+n % 8) (by omega)
  exact name1 ns n _ ((1+n % 8:Nat):Int) _ _ hp ho (at26 _ (by omega) (by omega)) (by omega) (eq_true q1) q2
 ·rename_i h
  have ei:((7 * n+(dgv ns 11 0 26).toNat) % 26:Nat)=((7 * (n:Int)+dgv ns 11 0 26) % 26).toNat:=by omega
  rw[ei];obtain⟨q1,q2⟩:=mulA (dgv ns 11 3 26).toNat (by omega) (dgv ns 11 1 (1+dgv ns 11 2 8)).toNat (by omega)
  obtain⟨q3,q4⟩:=mulA (dgv ns 11 3 26).toNat (by omega) ((dgv ns 11 2 8).toNat - (dgv ns 11 1 (1+dgv ns 11 2 8)).toNat) (by omega)
  rw[show(((dgv ns 11 1 (1+dgv ns 11 2 8)).toNat:Nat):Int)=dgv ns 11 1 (1+dgv ns 11 2 8) by omega] at q1 q2
  rw[show(((dgv ns 11 2 8).toNat - (dgv ns 11 1 (1+dgv ns 11 2 8)).toNat:Nat):Int)=1+dgv ns 11 2 8 - 1 - dgv ns 11 1 (1+dgv ns 11 2 8) by omega] at q3 q4
  refine name2 ns n _ _ _ _ _ _ _ _ _ (⟨(List.replicate (dgv ns 11 1 (1+dgv ns 11 2 8)).toNat (A26.getD (dgv ns 11 3 26).toNat 0)++[A26.getD ((7 * (n:Int)+dgv ns 11 0 26) % 26).toNat 0]).toArray⟩:Str) _ hp ho (by simpa using h) ht hs r1 (at26 _ r2 r3) (at26 _ (by omega) (by omega)) (eq_true (.inl ⟨by decide,by decide⟩)) (eq_true q1) q2 (eq_true q3) q4 (eq_true ?_) ?_ (eq_true ?_) ?_
  ·rw[b0v,List.length_replicate];show _+1<=_;omega
  ·exact d3m _ [_]
  ·rw[b0v,b0v,List.length_append,List.length_replicate,List.length_replicate];simp only[qq2,qq3];omega
  ·rw[d3m,List.append_assoc];rfl
theorem b4v{l:List Nat}(h:i < l.length):l.getD i 0∈l:=by
 rw[List.getD_eq_getElem?_getD,List.getElem?_eq_getElem h];exact List.getElem_mem h
theorem c6n(ns:List Int)(n:Nat):∀c∈nmL ns n,c∈A26:=by
 obtain⟨r1,r2,r3⟩:=a3n ns 11 3 26 (by decide) (by decide) (by decide)
 intro c hc;unfold nmL at hc;split at hc
 ·rw[List.eq_of_mem_replicate hc];exact b4v (by rw[l26];omega)
 ·rw[List.mem_append,List.mem_cons] at hc;rcases hc with hc|hc|hc
  ·rw[List.eq_of_mem_replicate hc];exact b4v (by rw[l26];omega)
  ·rw[hc];exact b4v (by rw[l26];omega)
  ·rw[List.eq_of_mem_replicate hc];exact b4v (by rw[l26];omega)
theorem c2z(ns:List Int)(n:Nat):1<=(nmL ns n).length/\(nmL ns n).length<=8:=by
 obtain⟨t1,t2,t3⟩:=a3n ns 11 2 8 (by decide) (by decide) (by decide)
 obtain⟨s1,s2,s3⟩:=a3n ns 11 1 (1+dgv ns 11 2 8) (by decide) (by decide) (by omega)
 unfold nmL;split
 ·rw[List.length_replicate];omega
 ·rw[List.length_append,List.length_cons,List.length_replicate,List.length_replicate];omega
theorem c6o{j:Nat}(hi:i < 26)(hj:j < 26)(e:A26.getD i 0=A26.getD j 0):i=j:=by
 have h1:i < A26.length:=by rw[l26];exact hi
 have h2:j < A26.length:=by rw[l26];exact hj
 rw[List.getD_eq_getElem?_getD,List.getElem?_eq_getElem h1,List.getD_eq_getElem?_getD,List.getElem?_eq_getElem h2] at e;exact(List.getElem_inj e4c).mp e
theorem d8p(ns:List Int)(n m:Nat)(hn:n < 14)(hm:m < 14)(e:nmS ns n=nmS ns m):n=m:=by
 obtain⟨p1,p2,p3⟩:=a3n ns 11 0 26 (by decide) (by decide) (by decide)
 have e:nmL ns n=nmL ns m:=by
  have:=congrArg Str.cps e;simpa[nmS] using this
 unfold nmL at e;split at e
 ·have l:=congrArg List.length e;rw[List.length_replicate,List.length_replicate] at l;have z:A26.getD (((dgv ns 11 0 26).toNat+n / 8) % 26) 0=A26.getD (((dgv ns 11 0 26).toNat+m / 8) % 26) 0:=by
   have h1:∀(k:Nat) (x:Nat),(List.replicate (1+k) x).head?=some x:=fun k x=>by rw[Nat.add_comm];rfl
   have h:=congrArg List.head? e;rw[h1,h1] at h;exact Option.some.inj h
  have:=c6o (by omega) (by omega) z
  omega
 ·have e:=List.append_cancel_left e;rw[List.cons.injEq] at e;have:=c6o (by omega) (by omega) e.1
  omega
theorem e1o:∀c∈A26,(Builtin.Str.occurrences abc ⟨#[c]⟩ 0 abc.length 1).isEmpty=false:=by decide +kernel
theorem e4d(c:Nat)(h:c∈A26):oInG false [.frz (.str ⟨#[c]⟩),.frz (.str abc)]=some (.frz (.bl true)):=by
 show some (O.frz (.bl (!(Builtin.Str.occurrences abc ⟨#[c]⟩ 0 abc.length 1).isEmpty)))=_;rw[e1o c h];rfl
theorem c6p:∀n:Nat,(List.replicate n true).all id=true
 |0=>rfl
 |n+1=>by rw[List.replicate_succ,List.all_cons,c6p n];rfl
theorem e1p(z:Str):oIsi [.frz (.str z),.frz (.ty "str")]=some (.frz (.bl true)):=rfl
theorem len_str(z:Str)(h:z.length<=1000000):lenD (.str z)=some (z.length:Int):=if_pos h
theorem c3a(l:List Nat)(h1:1<=l.length)(h2:l.length<=8)(hc:∀c∈l,c∈A26):a4d [.frz (.str ⟨l.toArray⟩)]=some (.frz (.bl true),[none]):=by
 obtain⟨a,e⟩:∃a,compLoop (a0r 0) gYes (gBin (oInG false) (gVar 0) (gC (.str (Str.ofString "abcdefghijklmnopqrstuvwxyz")))) (l.map fun c=>.str (chr1 c)) [none] []=some (((List.replicate l.length true).map D.bl).map .frz,[a]):=by
  obtain⟨Γ,⟨a,rfl⟩,e⟩:=b9p (g:=a0r 0) (ct:=gYes) (ce:=gBin (oInG false) (gVar 0) (gC (.str (Str.ofString "abcdefghijklmnopqrstuvwxyz")))) (fun Γ=>∃a,Γ=[a]) (fun c:Nat=>D.str (chr1 c)) (fun _=>D.bl true) l [none] ⟨_,rfl⟩ (by omega) fun c m Γ hΓ=>by
   obtain⟨a,rfl⟩:=hΓ;refine⟨[some (.frz (.str (chr1 c)))],?_,⟨_,rfl⟩⟩;have h:oInG false [.frz (.str (chr1 c)),.frz (.str (Str.ofString "abcdefghijklmnopqrstuvwxyz"))]=some (.frz (.bl true)):=e4d c (hc c m);simp only[a7c,a2j,qq2,qq3,qqf,Nat.reduceLT,qq4,if_true,↓evBind,b5w,a1g,a0f,a0p,qq0,a3h,a0j,a0m,a0n,a0l,h]
  refine⟨a,e.trans ?_⟩;rw[show(l.map fun _=>D.bl true)=(List.replicate l.length true).map D.bl by rw[List.map_replicate];exact List.map_const']
 have c1:(1<=((⟨l.toArray⟩:Str).length:Int))=True:=eq_true (by rw[b0v];omega)
 have c2:(((⟨l.toArray⟩:Str).length:Int)<=8)=True:=eq_true (by rw[b0v];omega)
 have c3:(⟨l.toArray⟩:Str).length<=1000000:=by rw[b0v];omega
 unfold a4d b6r;simp only[a1a,qq6,qq7,qq2,qq3,qqf,Nat.reduceSub,qq8,List.append_nil,a0x,a1f,a4i,a3o,a1g,a0f,a0p,qq0,↓evBind,a3h,a0j,a0m,a0n,a0l,e1p,a2y,Bool.not_true,qqe,a2b,a1e,if_false,d6u,a5l,a1h,len_str _ c3,↓evMap,c1,decide_true,c2,if_true,a4t,e0s,qq9,a3s,e,Nat.reduceAdd,List.drop_succ_cons,List.drop_zero,a3t,d1m,c6p,a2z,qqa,qqd,a2s,a2i]
abbrev fS(x:Str):O:=.frz (.str x)
theorem c6q(xs:List Str):xs.map fS=(xs.map D.str).map .frz:=by rw[List.map_map];rfl
theorem d3n(xs:List Str):O.dl (xs.map fS)=xs.map D.str:=by rw[c6q,b5l]
theorem e1q(xs:List Str):frzL (xs.map fS)=some (xs.map D.str):=by rw[c6q,b1b]
theorem c4t(x:Str):∀xs:List Str,((xs.map D.str).any fun z=>eqD z (.str x))=xs.contains x
 |[]=>rfl
 |y::r=>by
  rw[List.map_cons,List.any_cons,c4t x r,List.contains_cons,b3i]
  congr 1
  exact BEq.comm
theorem d3o(n:Nat)(xs:List Str):(xs.map D.str).all (okD n)=true:=by
 rw[List.all_eq_true];intro d hd;obtain⟨y,_,rfl⟩:=List.mem_map.mp hd;exact a7m n y
theorem b1z(neg:Bool)(x:Str)(xs:List Str):oInG neg [.frz (.str x),.lst (xs.map fS)]=some (.frz (.bl (if neg then !xs.contains x else xs.contains x))):=by
 unfold oInG;have e:seqO (O.lst (xs.map fS)).d=some (xs.map D.str):=by rw[c6q];show some (O.dl _)=_;rw[b5l]
 simp only[dictO,e,Option.bind_some,a1h,a7m,d3o,and_self,if_true,c4t]
theorem e4e(neg:Bool)(x:Str)(xs:List Str):oInG neg [.frz (.str x),.frz (.lst (xs.map D.str))]=some (.frz (.bl (if neg then !xs.contains x else xs.contains x))):=by
 unfold oInG;have e:seqO (.lst (xs.map D.str))=some (xs.map D.str):=rfl;simp only[dictO,e,Option.bind_some,a1h,a7m,d3o,and_self,if_true,c4t]
theorem d3p(xs:List Str)(i:Int)(y:Str)(h0:0<=i)(h1:i < 1000000)(hl:xs.length < 1000000):a9f (.lst (xs.map fS)) [.frz (.int i),.frz (.str y)]=some (.lst ((insS xs i.toNat y).map fS),.frz .non):=by
 unfold a9f;dsimp only;rw[if_pos ⟨h0,h1,by rw[List.length_map];exact hl⟩]
 unfold insS;rw[List.map_append,List.map_cons,List.map_take,List.map_drop]
def beltD(b:Belt):D:=.tup [.str b.name,.int b.long,.bl b.ring,.lst (b.outs.map .str)]
def a0u(h:House):D:=.tup [.lst (h.belts.map beltD),.lst (h.carts.map .str)]
abbrev fB(b:Belt):O:=.frz (beltD b)
theorem b8m:∀(xs:List Belt) (acc:List Str) (a:Option O),acc.length+xs.length < 1000000->∃a',compLoop (a0r 0) gYes (gBin oIx (gVar 0) (gC (.int 0))) (xs.map beltD) [a] (acc.map fS)=some ((acc++xs.map Belt.name).map fS,[a'])
 |[],acc,a,_=>⟨a,by rw[List.map_nil,b1k,List.map_nil,List.append_nil]⟩
 |x::xs,acc,a,h=>by
  rw[List.length_cons] at h;have hl:(acc.map fS).length < 1000000:=by rw[List.length_map];omega
  obtain⟨a',e⟩:=b8m xs (acc++[x.name]) (some (fB x)) (by rw[List.length_append,List.length_singleton];omega)
  refine⟨a',?_⟩;rw[List.map_cons (f:=Belt.name),show acc++x.name::xs.map Belt.name=acc++[x.name]++xs.map Belt.name by simp]
  rw[<-e,List.map_append];simp only[qq6,beltD,c2d,a2j,qq2,qq3,qqf,Nat.reduceLT,qq4,if_true,↓evBind,b5w,a1g,a0f,a0p,qq0,a3h,a0j,a0m,a0n,a0l,a3f,a6z,a4o,↓evMap,a2k,a1x,hl,qq7];rfl
abbrev fL(xs:List Str):O:=.frz (.lst (xs.map .str))
abbrev W3:List O:=[.frz (.int 1),.frz (.int 4),.frz (.int 16)]
theorem e5m(ns:List Int)(k j sp d ll:Int)(s2 s3 s4:D)(som:List D)(outs:List Str)(y:Str)(a9:Option O)(hl:(som.length:Int)=ll)(hd:a1n [.frz (.scr ns),.frz (.int (6+k)),.frz (.int (1+j)),.frz (.int ll)]=some (.frz (.int d),[none,none,none,none]))(ha:atI som d=some (.str y))(hc:outs.contains y=true):
  oB [some (.frz (.scr ns)),some (.frz (.int k)),some (.frz s2),some (.frz s3),some (.frz s4),some (.frz (.lst som)),some (.lst (outs.map fS)),some (.frz (.int sp)),some (.frz (.int j)),a9]=some (.nx,[some (.frz (.scr ns)),some (.frz (.int k)),some (.frz s2),some (.frz s3),some (.frz s4),some (.frz (.lst som)),some (.lst (outs.map fS)),some (.frz (.int sp)),some (.frz (.int j)),some (.frz (.str y))]):=by
 have hi:=b1z true y outs;rw[hc] at hi;unfold oB;simp only[a0x,a1m,a1g,a0f,a0p,qq1,qq0,↓evBind,a0z,a3h,a0j,a0m,a0n,a0l,a4a,a5l,a1h,a5d,hl,↓evMap,a1p,a1j,qq6,qq7,hd,a3r,a3f,b0i,ha,qq2,qq3,qqf,Nat.reduceAdd,Nat.reduceLT,qq5,qq4,if_true,a1f,a6e,a5y,Option.join_some,hi,Bool.not_true,qqe,a2x,b5t,a3i,Nat.reduceLeDiff,a2k,a1x,c5t,a1e,if_false]
theorem e4f(ns:List Int)(k j sp d ll w ol p:Int)(s2 s3 s4:D)(som:List D)(outs o2:List Str)(y:Str)(a9:Option O)(hl:(som.length:Int)=ll)(hd:a1n [.frz (.scr ns),.frz (.int (6+k)),.frz (.int (1+j)),.frz (.int ll)]=some (.frz (.int d),[none,none,none,none]))(ha:atI som d=some (.str y))(hc:outs.contains y=false)
  (hw:atI W3 j=some (.frz (.int w))) (w0:(0 < w)=True) (w1:(w < 1073741824)=True) (el:((outs.map D.str).length:Int)=ol) (o0:(0 < ol+1)=True) (hp:sp / w % 4 % (ol+1)=p) (hn:a9f (.lst (outs.map fS)) [.frz (.int p),.frz (.str y)]=some (.lst (o2.map fS),.frz .non)) :
  oB [some (.frz (.scr ns)),some (.frz (.int k)),some (.frz s2),some (.frz s3),some (.frz s4),some (.frz (.lst som)),some (.lst (outs.map fS)),some (.frz (.int sp)),some (.frz (.int j)),a9]=some (.nx,[some (.frz (.scr ns)),some (.frz (.int k)),some (.frz s2),some (.frz s3),some (.frz s4),some (.frz (.lst som)),some (.lst (o2.map fS)),some (.frz (.int sp)),some (.frz (.int j)),some (.frz (.str y))]):=by
 have hi:=b1z true y outs;rw[hc] at hi;unfold oB;simp only[a0x,a1m,a1g,a0f,a0p,qq1,qq0,↓evBind,a0z,a3h,a0j,a0m,a0n,a0l,a4a,a5l,a1h,a5d,hl,↓evMap,a1p,a1j,qq6,qq7,hd,a3r,a3f,b0i,ha,qq2,qq3,qqf,Nat.reduceAdd,Nat.reduceLT,qq5,qq4,if_true,a1f,a6e,a5y,Option.join_some,hi,Bool.not_false,a2x,b5t,a3i,Nat.reduceLeDiff,a2k,a1x,c5t,hw,c5u,a5t,w0,w1,and_self,decide_true,Int.reduceLT,a6m,d3n,el,o0,hp,hn,a1e]
theorem d3q(outs later:List Str)(h:outs.length < 1000):∃a,compLoop (a0r 0) (gT (gBin (oInG false) (gVar 0) (gVar 1))) (gVar 0) (outs.map D.str) [none,some (fL later)] []=some (((outs.filter fun o=>later.contains o).map D.str).map .frz,[a,some (fL later)]):=by
 obtain⟨Γ,⟨a,rfl⟩,e⟩:=b1l (g:=a0r 0) (ct:=gT (gBin (oInG false) (gVar 0) (gVar 1))) (ce:=gVar 0) (fun Γ=>∃a,Γ=[a,some (fL later)]) D.str (fun o=>later.contains o) D.str outs [] [none,some (fL later)] ⟨_,rfl⟩ (by simp;omega) fun o m Γ hΓ=>by
  obtain⟨a,rfl⟩:=hΓ;refine⟨[some (.frz (.str o)),some (fL later)],?_,⟨_,rfl⟩⟩;have hi:=e4e false o later;cases hc:later.contains o with
  |true=>
   rw[hc] at hi;simp only[a7c,a2j,qq2,qq3,qqf,Nat.reduceAdd,Nat.reduceLT,qq4,if_true,↓evBind,a6e,a1g,a0f,a0p,qq0,qq1,a0j,a0m,a0n,a0l,hi,qqe,if_false]
  |false=>
   rw[hc] at hi;simp only[a7c,a2j,qq2,qq3,qqf,Nat.reduceAdd,Nat.reduceLT,qq4,if_true,↓evBind,a6e,a1g,a0f,a0p,qq0,qq1,a0j,a0m,a0n,a0l,hi,qqe,if_false]
 rw[List.nil_append] at e;exact⟨a,e⟩
abbrev outSt(ns:List Int)(k sp:Int)(s2:D)(carts later:List Str)(s5:D)(outs:List Str)(a8 a9:Option O):Gm:=[some (.frz (.scr ns)),some (.frz (.int k)),some (.frz s2),some (fL carts),some (fL later),some (.frz s5),some (.lst (outs.map fS)),some (.frz (.int sp)),a8,a9]
theorem e5n(ns:List Int)(k sp:Int)(s2 s5:D)(carts later outs:List Str)(a8 a9:Option O)(hand:Str)(hh:atI (carts.map D.str) 0=some (.str hand))(hc:outs.contains hand=true):oW (outSt ns k sp s2 carts later s5 outs a8 a9)=some (.nx,outSt ns k sp s2 carts later s5 outs a8 a9):=by
 have hi:=b1z true hand outs;rw[hc] at hi;unfold oW outSt;simp only[a1f,a8d,a6e,a1g,a0f,a0p,qq1,qq0,↓evBind,a3h,a0j,a0m,a0n,a0l,a3f,b0i,hh,↓evMap,a5y,Option.join_some,hi,Bool.not_true,if_true,qqe,a4t,c3z,List.mem_cons,Nat.reduceEqDiff,List.not_mem_nil,or_false,if_false,a2x,b5t,a0z,a4a,a5l,a6m,a5d,a1p,a1h,a1j,qq6,qq7,a1e]
theorem e5o(ns:List Int)(k sp:Int)(s2 s5:D)(carts later outs:List Str)(a8 a9:Option O)(hand:Str)(hh:atI (carts.map D.str) 0=some (.str hand))(hc:outs.contains hand=false)(hl:outs.length < 1000)(n:Int)(hn:(((outs.filter fun o=>later.contains o).map D.str).length:Int)=n)(hz:(n == 0)=false):oW (outSt ns k sp s2 carts later s5 outs a8 a9)=some (.nx,outSt ns k sp s2 carts later s5 outs a8 a9):=by
 have hi:=b1z true hand outs;rw[hc] at hi;obtain⟨a,e⟩:=d3q outs later hl;unfold oW outSt;simp only[a1f,a8d,a6e,a1g,a0f,a0p,qq1,qq0,↓evBind,a3h,a0j,a0m,a0n,a0l,a3f,b0i,hh,↓evMap,a5y,Option.join_some,hi,Bool.not_false,if_true,a4t,c3z,List.mem_cons,Nat.reduceEqDiff,List.not_mem_nil,or_false,e1q,if_false,qq9,qq8,a5p,qq5,qq4,a3s,qqb,qqc,e,qq2,qq3,qqf,Nat.reduceAdd,List.drop_succ_cons,List.drop_zero,a5q,a3t,a5l,a6m,b7y,a5d,hn,a7l,a1h,a5e,and_self,a7b,hz,qqe,a2x,b5t,a0z,a4a,a1p,a1j,qq6,qq7,a1e]
theorem e4g(ns:List Int)(k sp d ol:Int)(s2 s5:D)(carts later outs o2:List Str)(a8 a9:Option O)(hand:Str)(hh:atI (carts.map D.str) 0=some (.str hand))(hc:outs.contains hand=false)(hl:outs.length < 1000)(hn:(((outs.filter fun o=>later.contains o).map D.str).length:Int)=0)
  (el:((outs.map D.str).length:Int)=ol) (hd:a1n [.frz (.scr ns),.frz (.int (1+k)),.frz (.int 3),.frz (.int (ol+1))]=some (.frz (.int d),[none,none,none,none])) (hm:a9f (.lst (outs.map fS)) [.frz (.int d),.frz (.str hand)]=some (.lst (o2.map fS),.frz .non)):oW (outSt ns k sp s2 carts later s5 outs a8 a9)=some (.nx,outSt ns k sp s2 carts later s5 o2 a8 a9):=by
 have hi:=b1z true hand outs;rw[hc] at hi;obtain⟨a,e⟩:=d3q outs later hl;unfold oW outSt;simp only[a1f,a8d,a6e,a1g,a0f,a0p,qq1,qq0,↓evBind,a3h,a0j,a0m,a0n,a0l,a3f,b0i,hh,↓evMap,a5y,Option.join_some,hi,Bool.not_false,if_true,a4t,c3z,List.mem_cons,Nat.reduceEqDiff,List.not_mem_nil,or_false,e1q,if_false,qq9,qq8,a5p,qq5,qq4,a3s,qqb,qqc,e,qq2,qq3,qqf,Nat.reduceAdd,List.drop_succ_cons,List.drop_zero,a5q,a3t,a5l,a6m,b7y,a5d,hn,a7l,a1h,a5e,and_self,a7b,beq_self_eq_true,a2x,b5t,a0z,a4a,d3n,el,a1p,a1j,qq6,qq7,hd,a3r,a2k,a1x,hm,a1e]
theorem c6r(ds:List D)(n:Nat):cutD ds (some (n:Int)) none=ds.drop n:=by
 unfold cutD;have e:HT.sIx ds.length 0 (some (n:Int))=min n ds.length:=by
  unfold HT.sIx;simp;omega
 have e2:HT.sIx ds.length ds.length none=ds.length:=rfl;rw[e,e2];by_cases h:n<=ds.length
 ·rw[Nat.min_eq_left h];exact List.take_of_length_le (by rw[List.length_drop];exact Nat.le_refl _)
 ·rw[Nat.min_eq_right (by omega),List.drop_eq_nil_of_le (Nat.le_refl _),List.drop_eq_nil_of_le (by omega),List.take_nil]
theorem d3r(xs:List Str)(k:Nat)(y:Str):(insS xs k y).Perm (y::xs):=by
 unfold insS;refine(List.perm_middle (l₁:=xs.take k) (l₂:=xs.drop k)).trans ?_;rw[List.take_append_drop]
theorem d3s{k:Nat}{y:Str}(h:xs.Nodup)(hy:y∉xs):(insS xs k y).Nodup:=(d3r xs k y).nodup_iff.mpr (List.nodup_cons.mpr ⟨hy,h⟩)
structure OutsOk (later carts:List Str) (hd:Str) (outs:List Str):Prop where
 nd:outs.Nodup
 sub:∀o∈outs,o∈later++carts
 ne:outs≠[]
 hand:hd∈outs\/∃o∈outs,o∈later
 len:outs.length<=4
theorem d3t{k:Int}(h0:0<=k)(h1:k < xs.length):atI (xs.map D.str) k=some (.str (xs.getD k.toNat "")):=by
 have hk':k.toNat < xs.length:=by omega
 have e:(xs.map D.str)[k.toNat]?=some (.str (xs.getD k.toNat "")):=by simp[hk']
 have z:=a5x e
 rwa [show((k.toNat:Nat):Int)=k by omega] at z
theorem d3u(h:i < xs.length):xs.getD i ""∈xs:=by
 rw[List.getD_eq_getElem?_getD,List.getElem?_eq_getElem h];exact List.getElem_mem h
theorem e5p:∀j:Nat,j < 3->∃d:Int,atI W3 (j:Int)=some (.frz (.int d))/\0 < d/\d < 1073741824
 |0,_=>⟨1,rfl,by decide,by decide⟩
 |1,_=>⟨4,rfl,by decide,by decide⟩
 |2,_=>⟨16,rfl,by decide,by decide⟩
 |n+3,h=>absurd h (by omega)
theorem e1r(ns:List Int)(k j:Nat)(sp:Int)(s2 s3 s4:D)(som outs:List Str)(a9:Option O)(hk:k < 5)(hj:j < 3)(sl:0 < som.length)(sl2:som.length<=100)(nd:outs.Nodup)(sb:∀o∈outs,o∈som)(ol:outs.length<=j):
  ∃o2 y,o2.Nodup/\(∀o∈o2,o∈som)/\o2.length<=j+1/\o2≠[]/\oB [some (.frz (.scr ns)),some (.frz (.int k)),some (.frz s2),some (.frz s3),some (.frz s4),some (fL som),some (.lst (outs.map fS)),some (.frz (.int sp)),some (.frz (.int j)),a9]=some (.nx,[some (.frz (.scr ns)),some (.frz (.int k)),some (.frz s2),some (.frz s3),some (.frz s4),some (fL som),some (.lst (o2.map fS)),some (.frz (.int sp)),some (.frz (.int j)),some (.frz (.str y))]):=by
 obtain⟨d1,d2,d3⟩:=a3n ns (6+k) (1+j) (som.length:Int) (by omega) (by omega) (by omega)
 rw[show((6+k:Nat):Int)=6+(k:Int) by omega,show((1+j:Nat):Int)=1+(j:Int) by omega] at d1
 have ha:=d3t (xs:=som) d2 d3;have hm:som.getD (dgv ns (6+k) (1+j) (som.length:Int)).toNat ""∈som:=d3u (by omega)
 generalize som.getD (dgv ns (6+k) (1+j) (som.length:Int)).toNat ""=y at ha hm;have hl:((som.map D.str).length:Int)=(som.length:Int):=by rw[List.length_map]
 cases hc:outs.contains y with
 |true=>
  refine⟨outs,y,nd,sb,by omega,fun z=>?_,e5m ns k j sp _ _ s2 s3 s4 _ outs y a9 hl d1 ha hc⟩
  rw[z] at hc;cases hc
 |false=>
  obtain⟨w,w1,w2,w3⟩:=e5p j hj;have o0:(0:Int) < (outs.length:Int)+1:=by omega
  have el:((outs.map D.str).length:Int)=(outs.length:Int):=by rw[List.length_map]
  have p0:0<=sp / w % 4 % ((outs.length:Int)+1):=Int.emod_nonneg _ (by omega)
  have p1:sp / w % 4 % ((outs.length:Int)+1) < (outs.length:Int)+1:=Int.emod_lt_of_pos _ o0;have hn:=d3p outs (sp / w % 4 % ((outs.length:Int)+1)) y p0 (by omega) (by omega)
  have hy:y∉outs:=by simpa using hc
  refine⟨_,y,d3s (k:=(sp / w % 4 % ((outs.length:Int)+1)).toNat) nd hy,fun o ho=>?_,by rw[b3x];omega,fun z=>?_,e4f ns k j sp _ _ w _ _ s2 s3 s4 _ outs _ y a9 hl d1 ha hc w1 (eq_true w2) (eq_true w3) el (eq_true o0) rfl hn⟩
  ·rcases mem_insS.mp ho with z|z
   ·rw[z];exact hm
   ·exact sb o z
  ·have:=b3x outs (sp / w % 4 % ((outs.length:Int)+1)).toNat y;rw[z] at this;simp at this
theorem int1_of{i:Int}(h:i.natAbs<=1000000):int1 [.own (.frz (.int i))]=some i:=by
 unfold int1;dsimp only;rw[if_pos (Nat.ble_eq_true_of_le (by omega))]
theorem d7b(ns:List Int)(k:Int)(later carts:List Str)(names:List D)(sp r:Int)(o1 outs:List Str)(a8 a9:Option O)(c1:cutD names (some (k+1)) none=later.map D.str)(c2:((later.map D.str).length+(carts.map D.str).length<=1000000)=True)
  (ht:a5j [.frz (.scr ns),.frz (.int (1+k)),.frz (.int 64)]=some (.frz (.int sp),[none,none,none])) (hp:a3m [.frz (.scr ns),.frz (.int (6+k)),.frz (.int 3)]=some (.frz (.int r),[none,none,none])) (hi:int1 [.own (.frz (.int (1+r)))]=some (1+r))
  (hl:a2u (a0r 8) oB (rngD 0 (1+r).toNat) [some (.frz (.scr ns)),some (.frz (.int k)),some (.frz (.lst names)),some (fL carts),some (fL later),some (.frz (.lst (later.map D.str++carts.map D.str))),some (.lst []),some (.frz (.int sp)),none,none]=some (.nx,[some (.frz (.scr ns)),some (.frz (.int k)),some (.frz (.lst names)),some (fL carts),some (fL later),some (.frz (.lst (later.map D.str++carts.map D.str))),some (.lst (o1.map fS)),some (.frz (.int sp)),a8,a9]))
  (hw:oW [some (.frz (.scr ns)),some (.frz (.int k)),some (.frz (.lst names)),some (fL carts),some (fL later),some (.frz (.lst (later.map D.str++carts.map D.str))),some (.lst (o1.map fS)),some (.frz (.int sp)),a8,a9]=some (.nx,[some (.frz (.scr ns)),some (.frz (.int k)),some (.frz (.lst names)),some (fL carts),some (fL later),some (.frz (.lst (later.map D.str++carts.map D.str))),some (.lst (outs.map fS)),some (.frz (.int sp)),a8,a9])) :
  b0a [.frz (.scr ns),.frz (.int k),.frz (.lst names),fL carts]=some (.lst (outs.map fS),[none,none,none,none]):=by
 unfold b0a;unfold c0s;simp only[a1a,qq6,qq7,qq2,qq3,qqf,Nat.reduceAdd,Nat.reduceSub,qq9,qq8,qqb,qqc,a0x,a1m,a1o,b1j,a0p,qq1,qq0,↓evBind,b5v,a1g,a0f,a3h,a0j,a0m,a0n,a0l,a4a,b9m,↓evMap,b5u,d1c,c1,a6m,b7y,Nat.reduceLT,qq5,qq4,if_true,e0v,c2,a3i,Nat.reduceLeDiff,a1x,a0z,a1p,a1h,a1j,ht,a3r,d6c,hp,hi,hl,hw,a2b,c3y,a2z,qqa,qqd,a2s,a2i]
theorem e4h(ns:List Int)(k:Nat)(names carts:List Str)(hand:Str)(hk:k < 5)(hl:names.length<=5)(hh:carts.head?=some hand)(hc:carts.length<=4):
  ∃outs,OutsOk (names.drop (k+1)) carts hand outs/\b0a [.frz (.scr ns),.frz (.int k),fL names,fL carts]=some (.lst (outs.map fS),[none,none,none,none]):=by
 have hc0:0 < carts.length:=by cases carts with|nil=>cases hh|cons a b=>simp
 obtain⟨r1,r2,r3⟩:=a3n ns (6+k) 0 3 (by omega) (by decide) (by decide)
 have hp:=b8l ns (6+k) 3 (by omega) (by decide)
 have ht:=c4s ns (1+k) 64 (by omega) (by decide)
 rw[show((6+k:Nat):Int)=6+(k:Int) by omega] at hp
 rw[show((1+k:Nat):Int)=1+(k:Int) by omega] at ht
 have sl:0 < (names.drop (k+1)++carts).length:=by rw[List.length_append];omega
 have sl2:(names.drop (k+1)++carts).length<=100:=by rw[List.length_append,List.length_drop];omega
 obtain⟨Γ1,e1,o1,a8,a9,nd,sb,ol,one,rfl⟩:=a7d (g:=a0r 8) (f:=oB) (fun(i:Nat)=>D.int (0+(i:Int))) (fun pre Γ=>∃(outs:List Str) (a8 a9:Option O),outs.Nodup/\(∀o∈outs,o∈names.drop (k+1)++carts)/\outs.length<=pre.length/\(pre≠[]->outs≠[])/\Γ=[some (.frz (.scr ns)),some (.frz (.int k)),some (fL names),some (fL carts),some (fL (names.drop (k+1))),some (fL (names.drop (k+1)++carts)),some (.lst (outs.map fS)),some (.frz (.int (dgv ns (1+k) 2 64))),a8,a9]) (List.range (1+dgv ns (6+k) 0 3).toNat) []
  [some (.frz (.scr ns)),some (.frz (.int k)),some (fL names),some (fL carts),some (fL (names.drop (k+1))),some (fL (names.drop (k+1)++carts)),some (.lst []),some (.frz (.int (dgv ns (1+k) 2 64))),none,none] ⟨[],none,none,List.nodup_nil,fun o m=>(by cases m),Nat.le_refl _,fun z=>absurd rfl z,rfl⟩ (by
   rintro q i post Γ eq ⟨outs,a8,a9,nd,sb,ol,_,rfl⟩;rw[List.nil_append] at *;have hi:i < (1+dgv ns (6+k) 0 3).toNat:=by
    have:i∈List.range (1+dgv ns (6+k) 0 3).toNat:=by rw[eq];simp
    exact List.mem_range.mp this
   have hq:q.length=i:=by
    have h1:=congrArg (fun l=>l[q.length]?) eq
    simp only[List.getElem?_append_right (Nat.le_refl _),Nat.sub_self,qq0] at h1;have h2:q.length < (1+dgv ns (6+k) 0 3).toNat:=by have:=congrArg List.length eq;simp at this;omega
    rw[List.getElem?_range h2] at h1;exact Option.some.inj h1
   obtain⟨o2,y,n2,s2,l2,ne2,e2⟩:=e1r ns k i (dgv ns (1+k) 2 64) (.lst (names.map .str)) (.lst (carts.map .str)) (.lst ((names.drop (k+1)).map .str)) (names.drop (k+1)++carts) outs a9 hk (by omega) sl sl2 nd sb (by omega)
   refine⟨_,?_,o2,some (.frz (.int i)),some (.frz (.str y)),n2,s2,by rw[List.length_append,List.length_singleton];omega,fun _=>ne2,rfl⟩
   rw[Int.zero_add];generalize(i:Int)=ii at *;simp only[a2j,qq2,qq3,qqf,Nat.reduceAdd,Nat.reduceLT,qq5,qq4,if_true,↓evBind,e2])
 rw[List.nil_append,List.length_range] at ol;have one:o1≠[]:=one (by rw[List.nil_append];intro z;have:=congrArg List.length z;simp at this;omega)
 rw[<-b4g] at e1;have hat:atI (carts.map D.str) 0=some (.str hand):=by
  cases carts with
  |nil=>cases hh
  |cons a b=>cases hh;exact a5x (xs:=D.str hand::b.map D.str) (j:=0) rfl
 have hm:hand∈names.drop (k+1)++carts:=List.mem_append_right _ (List.mem_of_mem_head? hh);have hi:int1 [.own (.frz (.int (1+dgv ns (6+k) 0 3)))]=some (1+dgv ns (6+k) 0 3):=int1_of (by omega)
 have c1:cutD (names.map D.str) (some ((k:Int)+1)) none=(names.drop (k+1)).map D.str:=by
  rw[show(k:Int)+1=((k+1:Nat):Int) by omega,c6r,List.map_drop]
 have c2:(((names.drop (k+1)).map D.str).length+(carts.map D.str).length<=1000000)=True:=eq_true (by rw[List.length_map,List.length_map,List.length_drop];omega)
 have som:(names.drop (k+1)++carts).map D.str=(names.drop (k+1)).map D.str++carts.map D.str:=List.map_append;obtain⟨outs,ok,hw⟩:∃outs,OutsOk (names.drop (k+1)) carts hand outs/\oW (outSt ns k (dgv ns (1+k) 2 64) (.lst (names.map .str)) carts (names.drop (k+1)) (.lst ((names.drop (k+1)++carts).map .str)) o1 a8 a9)=some (.nx,outSt ns k (dgv ns (1+k) 2 64) (.lst (names.map .str)) carts (names.drop (k+1)) (.lst ((names.drop (k+1)++carts).map .str)) outs a8 a9):=by
  cases hcn:o1.contains hand with
  |true=>exact⟨o1,⟨nd,sb,one,.inl (by simpa using hcn),by omega⟩,e5n ns k _ _ _ carts _ o1 a8 a9 hand hat hcn⟩
  |false=>
   by_cases hf:(o1.filter fun o=>(names.drop (k+1)).contains o).length=0
   ·obtain⟨d1,d2,d3⟩:=a3n ns (1+k) 3 ((o1.length:Int)+1) (by omega) (by decide) (by omega)
    rw[show((1+k:Nat):Int)=1+(k:Int) by omega] at d1
    have hn:=d3p o1 (dgv ns (1+k) 3 ((o1.length:Int)+1)) hand d2 (by omega) (by omega)
    have hy:hand∉o1:=by simpa using hcn
    refine⟨_,⟨d3s (k:=(dgv ns (1+k) 3 ((o1.length:Int)+1)).toNat) nd hy,fun o ho=>?_,fun z=>?_,.inl (mem_insS.mpr (.inl rfl)),by rw[b3x];omega⟩,e4g ns k _ _ _ _ _ carts _ o1 _ a8 a9 hand hat hcn (by omega) (by rw[List.length_map,hf];rfl) (by rw[List.length_map]) d1 hn⟩
    ·rcases mem_insS.mp ho with z|z
     ·rw[z];exact hm
     ·exact sb o z
    ·have:=b3x o1 (dgv ns (1+k) 3 ((o1.length:Int)+1)).toNat hand;rw[z] at this;simp at this
   ·refine⟨o1,⟨nd,sb,one,.inr ?_,by omega⟩,e5o ns k _ _ _ carts _ o1 a8 a9 hand hat hcn (by omega) _ rfl (by rw[List.length_map];simp only[beq_eq_false_iff_ne];omega)⟩
    obtain⟨o,ho⟩:∃o,o∈o1.filter fun o=>(names.drop (k+1)).contains o:=List.exists_mem_of_length_pos (by omega)
    rw[List.mem_filter] at ho;exact⟨o,ho.1,by simpa using ho.2⟩
 unfold fL at e1;unfold outSt fL at hw;rw[som] at e1 hw;exact⟨outs,ok,d7b ns k _ carts _ _ _ o1 outs a8 a9 c1 c2 ht hp hi e1 hw⟩
def findB(bs:List Belt)(n:Str):Option Belt:=bs.find? fun b=>b.name == n
structure SmallH (h:House):Prop where
 bl:h.belts.length<=100
 ct:h.carts.length<=100
 ou:(h.belts.map fun x=>x.outs.length).sum<=900
def Fwd(carts:List Str):List Belt->Prop
 |[]=>True
 |b::bs=>(∀o∈b.outs,o∈bs.map Belt.name\/o∈carts)/\b.name∉bs.map Belt.name/\b.name∉carts/\Fwd carts bs
theorem c6s{carts:List Str}:∀{bs:List Belt},Fwd carts bs->∀x∈bs,∀y∈bs,x.name=y.name->x=y
 |z::bs,f,x,hx,y,hy,e=>by
  rcases List.mem_cons.mp hx with hx1|hx1
  ·rcases List.mem_cons.mp hy with hy1|hy1
   ·rw[hx1,hy1]
   ·exact absurd (List.mem_map_of_mem (f:=Belt.name) hy1) (by rw[<-e,hx1];exact f.2.1)
  ·rcases List.mem_cons.mp hy with hy1|hy1
   ·exact absurd (List.mem_map_of_mem (f:=Belt.name) hx1) (by rw[e,hy1];exact f.2.1)
   ·exact c6s f.2.2.2 x hx1 y hy1 e
theorem b7h{carts:List Str}:∀{bs:List Belt},Fwd carts bs->∀c∈carts,c∉bs.map Belt.name
 |[],_,c,_,h=>by cases h
 |b::bs,f,c,hc,h=>by
  rcases List.mem_cons.mp h with z|z
  ·exact f.2.2.1 (by rw[<-z];exact hc)
  ·exact b7h f.2.2.2 c hc z
theorem b3b{carts:List Str}:∀{xs ys:List Belt},Fwd carts (xs++ys)->Fwd carts ys
 |[],_,f=>f
 |_::xs,ys,f=>b3b (xs:=xs) f.2.2.2
theorem c6t{α:Type}(enc:α->D)(xs:List α):enumD (xs.map enc)=((List.range xs.length).zip xs).map fun(p:Nat×α)=>D.tup [.int (p.1:Nat),enc p.2]:=by
 unfold enumD;rw[List.length_map,List.zipWith_map_right,List.map_zip_eq_zipWith];rfl
theorem d3v{α:Type}(enc:α->D)(P:List α->Gm->Prop)(xs:List α)(Γ:Gm)(h:P [] Γ)
  (st:∀q x post Γ (i:Int),xs=q++x::post->i=(q.length:Nat)->P q Γ->∃Γ2,(g (.tup [.int i,enc x]) Γ).bind f=some (.nx,Γ2)/\P (q++[x]) Γ2):∃Γ',a2u g f (enumD (xs.map enc)) Γ=some (.nx,Γ')/\P xs Γ':=by
 have hs:((List.range xs.length).zip xs).map Prod.snd=xs:=by rw[List.map_snd_zip];simp
 rw[c6t];obtain⟨Γ',e,p⟩:=a7d (g:=g) (f:=f) (fun(p:Nat×α)=>D.tup [.int (p.1:Nat),enc p.2]) (fun pre Γ=>P (pre.map Prod.snd) Γ) ((List.range xs.length).zip xs) [] Γ h (by
  intro q x post Γ e p;rw[List.nil_append] at p ⊢;have hx:xs=q.map Prod.snd++x.2::post.map Prod.snd:=by
   have:=congrArg (List.map Prod.snd) e;rw[hs] at this;rw[this,List.map_append,List.map_cons]
  have hi:x.1=q.length:=by
   have:((List.range xs.length).zip xs)[q.length]?=some x:=by rw[e,List.getElem?_append_right (Nat.le_refl _)];simp
   rw[List.getElem?_zip_eq_some] at this;have h1:=this.1;rw[List.getElem?_eq_some_iff] at h1;obtain⟨hl,h1⟩:=h1;rw[List.getElem_range] at h1;exact h1.symm
  obtain⟨Γ2,a,b⟩:=st (q.map Prod.snd) x.2 (post.map Prod.snd) Γ (x.1:Nat) hx (by rw[hi,List.length_map]) p
  exact⟨Γ2,a,by rw[List.map_append];exact b⟩)
 exact⟨Γ',e,by rw[List.nil_append,hs] at p;exact p⟩
theorem c3b{α:Type}{g:GG}{f:GS}(enc:α->D)(P:List α->Gm->Prop)(o:O)(R:Gm->Prop)(z:α):∀(xs pre:List α) (Γ:Gm),P pre Γ->
  (∀q x post Γ,xs=q++x::post->P (pre++q) Γ->∃Γ2,(g (enc x) Γ).bind f=some (.nx,Γ2)/\P (pre++q++[x]) Γ2)->(∀Γ,P (pre++xs) Γ->∃Γ2,(g (enc z) Γ).bind f=some (.rt o,Γ2)/\R Γ2)->∃Γ',a2u g f ((xs++[z]).map enc) Γ=some (.rt o,Γ')/\R Γ'
 |[],pre,Γ,h,_,last=>by
  rw[List.append_nil] at last;obtain⟨Γ2,h2,h3⟩:=last Γ h;refine⟨Γ2,?_,h3⟩;rw[List.nil_append,List.map_cons,a6f];cases q:g (enc z) Γ with
  |none=>rw[q] at h2;cases h2
  |some Γ1=>
   rw[q] at h2;have h2:f Γ1=some (.rt o,Γ2):=h2;show(f Γ1).bind _=_;rw[h2];rfl
 |x::xs,pre,Γ,h,st,last=>by
  obtain⟨Γ2,h2,h3⟩:=st [] x xs Γ rfl (by rw[List.append_nil];exact h)
  rw[List.append_nil] at h3;obtain⟨Γ',h4,h5⟩:=c3b enc P o R z xs (pre++[x]) Γ2 h3 (fun q y post Γ e p=>by
   obtain⟨Γ2,b,c⟩:=st (x::q) y post Γ (by rw[e];rfl) (by rw[show pre++x::q=pre++[x]++q by simp];exact p)
   exact⟨Γ2,b,by rw[show pre++[x]++q++[y]=pre++x::q++[y] by simp];exact c⟩) (by rw[show pre++[x]++xs=pre++x::xs by simp];exact last)
  refine⟨Γ',?_,h5⟩;rw[List.cons_append,List.map_cons,a6f];cases q:g (enc x) Γ with
  |none=>rw[q] at h2;cases h2
  |some Γ1=>
   rw[q] at h2;have h2:f Γ1=some (.nx,Γ2):=h2;show(f Γ1).bind _=_;rw[h2];exact h4
theorem d3w{α:Type}{xs:List α}{q post:List (Nat×α)}{x:Nat×α}{n:Nat}(e:(List.range n).zip xs=q++x::post)(hn:n=xs.length):xs=q.map Prod.snd++x.2::post.map Prod.snd/\x.1=q.length:=by
 subst hn;refine⟨?_,?_⟩
 ·have:=congrArg (List.map Prod.snd) e;rw[List.map_snd_zip (by simp)] at this
  rw[this,List.map_append,List.map_cons]
 ·have:((List.range xs.length).zip xs)[q.length]?=some x:=by rw[e,List.getElem?_append_right (Nat.le_refl _)];simp
  rw[List.getElem?_zip_eq_some] at this;have h1:=this.1;rw[List.getElem?_eq_some_iff] at h1;obtain⟨hl,h1⟩:=h1;rw[List.getElem_range] at h1;exact h1.symm
theorem c8r{α:Type}(enc:α->D)(P:List α->Gm->Prop)(o:O)(R:Gm->Prop)(xs:List α)(z:α)(Γ:Gm)(h:P [] Γ)
  (st:∀q x post Γ (i:Int),xs=q++x::post->i=(q.length:Nat)->P q Γ->∃Γ2,(g (.tup [.int i,enc x]) Γ).bind f=some (.nx,Γ2)/\P (q++[x]) Γ2) (last:∀Γ (i:Int),i=(xs.length:Nat)->P xs Γ->∃Γ2,(g (.tup [.int i,enc z]) Γ).bind f=some (.rt o,Γ2)/\R Γ2):∃Γ',a2u g f (enumD ((xs++[z]).map enc)) Γ=some (.rt o,Γ')/\R Γ':=by
 rw[c6t,List.length_append,List.length_singleton,List.range_succ,List.zip_append (by simp)]
 refine c3b (g:=g) (f:=f) (fun(p:Nat×α)=>D.tup [.int (p.1:Nat),enc p.2]) (fun pre Γ=>P (pre.map Prod.snd) Γ) o R (xs.length,z) ((List.range xs.length).zip xs) [] Γ h ?_ ?_
 ·intro q x post Γ e p;rw[List.nil_append] at p ⊢;obtain⟨hx,hi⟩:=d3w e rfl;obtain⟨Γ2,a,b⟩:=st (q.map Prod.snd) x.2 (post.map Prod.snd) Γ (x.1:Nat) hx (by rw[hi,List.length_map]) p
  exact⟨Γ2,a,by rw[List.map_append];exact b⟩
 ·intro Γ p;rw[List.nil_append,List.map_snd_zip (by simp)] at p
  exact last Γ _ rfl p
theorem e4i(ds:List D):oIsi [.frz (.lst ds),.frz (.ty "list")]=some (.frz (.bl true)):=by unfold oIsi;simp[kindD,isiB,O.d]
theorem xb0(b:Belt):oIx1 (.frz (beltD b)) (.int 0)=some (.frz (.str b.name)):=by unfold beltD;simp only[a6z,a4o,Option.map_some]
theorem xb3(b:Belt):oIx1 (.frz (beltD b)) (.int 3)=some (.frz (.lst (b.outs.map .str))):=by unfold beltD;simp only[a6z,b4f,Option.map_some]
theorem xh0(h:House):oIx1 (.frz (a0u h)) (.int 0)=some (.frz (.lst (h.belts.map beltD))):=by unfold a0u;simp only[a6z,a4o,Option.map_some]
theorem xh1(h:House):oIx1 (.frz (a0u h)) (.int 1)=some (.frz (.lst (h.carts.map .str))):=by unfold a0u;simp only[a6z,a7a,Option.map_some]
theorem e5b(cs:List Str):O.dl (cs.map fS)=cs.map D.str:=by
 rw[show cs.map fS=(cs.map D.str).map O.frz by rw[List.map_map];rfl,b5l]
theorem e1s(x:Str)(xs:List Str):oIx1 (fL (x::xs)) (.int 0)=some (.frz (.str x)):=by simp only[b0i,qq6,a4o,Option.map_some]
abbrev isN(x:Str):Prop:=a4d [.frz (.str x)]=some (.frz (.bl true),[none])
structure GoodW (h:House):Prop where
 fwd:Fwd h.carts h.belts
 sm:SmallH h
 cm:∀c∈h.carts,isN c
 nm:∀b∈h.belts,isN b.name
 lg:∀b∈h.belts,1<=b.long/\(b.ring=true->2<=b.long)
 cn:h.carts.Nodup
 c0:0 < h.carts.length
 nd:∀b∈h.belts,b.outs.Nodup
structure GoodH (h:House):Prop where
 fwd:Fwd h.carts h.belts
 sm:SmallH h
 nm:∀b∈h.belts,isN b.name
 cm:∀c∈h.carts,isN c
 lg:∀b∈h.belts,1<=b.long/\(b.ring=true->2<=b.long)
 hd:∀b∈h.belts,h.carts.getD 0 ""∈b.outs\/∃o∈b.outs,o∈h.belts.map Belt.name
 cn:h.carts.Nodup
 c0:0 < h.carts.length
 nd:∀b∈h.belts,b.outs.Nodup
theorem GoodH.gw(g:GoodH h):GoodW h:=⟨g.fwd,g.sm,g.cm,g.nm,g.lg,g.cn,g.c0,g.nd⟩
theorem a9r(bs:List Belt)(h:bs.length < 1000000):a2m [.frz (.lst (bs.map beltD))]=some (.lst ((bs.map Belt.name).map fS),[none]):=by
 obtain⟨a',e⟩:=b8m bs [] none (by rw[List.length_nil];omega)
 rw[List.map_nil,List.nil_append] at e;unfold a2m a9k;simp only[a1a,qq6,qq7,qq2,qq3,qqf,Nat.reduceSub,qq8,List.append_nil,a2b,a4t,a7k,a1o,a0p,qq0,↓evBind,a1h,qq9,a3s,e,Nat.reduceAdd,List.drop_succ_cons,List.drop_zero,a3t,if_true,a2z,qqa,qqd,a2s,a2i]
def kd(ks:List Str):List (TK×O):=ks.map fun k=>(TK.inr k,.frz (.bl true))
def kdD(ks:List Str):List (TK×D):=ks.map fun k=>(TK.inr k,.bl true)
def addS(ks:List Str)(k:Str):List Str:=if ks.contains k then ks else ks++[k]
theorem e4j:∀ks:List Str,O.dk (kd ks)=kdD ks
 |[]=>rfl
 |k::ks=>by
  show(_,_)::O.dk (kd ks)=_;rw[e4j ks];rfl
theorem d8q(x:Str):∀ks:List Str,(valD (kdD ks) (.inr x)).isSome=ks.contains x
 |[]=>rfl
 |k::ks=>by
  have ih:=d8q x ks;unfold valD kdD at *;rw[List.map_cons,List.find?_cons,List.contains_cons];by_cases e:k=x
  ·rw[decide_eq_true (by rw[e]),e,beq_self_eq_true]
   rfl
  ·rw[decide_eq_false (fun z=>e (TK.inr.inj z)),show(x == k)=false by rw[beq_eq_false_iff_ne];exact fun z=>e z.symm]
   rw[Bool.false_or];exact ih
theorem c6u(neg:Bool)(x:Str)(ks:List Str):oInG neg [.frz (.str x),.dct (kd ks)]=some (.frz (.bl (if neg then !ks.contains x else ks.contains x))):=by
 unfold oInG;simp only[dictO,e4j,keyD,Option.bind_some,d8q]
theorem d8r(k:Str):∀ks:List Str,putG (kd ks) (.inr k) (.frz (.bl true))=kd (addS ks k)
 |[]=>rfl
 |j::ks=>by
  have ih:=d8r k ks;show(if(TK.inr j)=TK.inr k then(TK.inr j,O.frz (.bl true))::kd ks else(TK.inr j,O.frz (.bl true))::putG (kd ks) (.inr k) (.frz (.bl true)))=_
  unfold addS at *;rw[List.contains_cons];by_cases e:j=k
  ·rw[if_pos (by rw[e]),e,beq_self_eq_true,Bool.true_or,if_pos rfl];rfl
  ·rw[if_neg (fun z=>e (TK.inr.inj z)),ih,show(k == j)=false by rw[beq_eq_false_iff_ne];exact fun z=>e z.symm,Bool.false_or]
   cases ks.contains k with
   |true=>rw[if_pos rfl,if_pos rfl];rfl
   |false=>rw[if_neg Bool.false_ne_true,if_neg Bool.false_ne_true];rfl
theorem d8s(ks:List Str)(k:Str)(h:ks.length < 1000000):mSet (.dct (kd ks)) [.frz (.bl true),.frz (.str k)]=some (.dct (kd (addS ks k)),.frz .non):=by
 show(if(kd ks).length < 1000000 then some (O.dct (putG (kd ks) (.inr k) (.frz (.bl true))),O.frz .non) else none)=_
 rw[if_pos (by unfold kd;rw[List.length_map];exact h),d8r]
theorem c6v(ks:List Str)(k:Str):(addS ks k).length<=ks.length+1:=by
 unfold addS;split
 ·omega
 ·rw[List.length_append,List.length_singleton];exact Nat.le_refl _
theorem d7c{k:Str}:n∈addS ks k↔n=k\/n∈ks:=by
 unfold addS;split
 ·rename_i h
  rw[List.contains_iff_mem] at h;constructor
  ·exact .inr
  ·rintro(rfl|h')
   ·exact h
   ·exact h'
 ·rw[List.mem_append,List.mem_singleton];exact Or.comm
theorem c6w:∀(outs ks:List Str) (g0 g1 g3 g4 g5 g6 a:Option O),ks.length+outs.length < 1000000->∃a',a2u (a0r 7) (gsPut (gC (.bl true)) (gVar 2) (gVar 7)) (outs.map D.str) [g0,g1,some (.dct (kd ks)),g3,g4,g5,g6,a] =
  some (.nx,[g0,g1,some (.dct (kd (outs.foldl addS ks))),g3,g4,g5,g6,a'])
 |[],ks,g0,g1,g3,g4,g5,g6,a,_=>⟨a,rfl⟩
 |o::outs,ks,g0,g1,g3,g4,g5,g6,a,h=>by
  rw[List.length_cons] at h;have hl:=c6v ks o;obtain⟨a',e⟩:=c6w outs (addS ks o) g0 g1 g3 g4 g5 g6 (some (fS o)) (by omega)
  refine⟨a',?_⟩;rw[List.foldl_cons,<-e];simp only[qq6,a6f,a2j,qq2,qq3,qqf,Nat.reduceAdd,Nat.reduceLT,qq5,qq4,if_true,↓evBind,d8d,a3h,a0p,qq1,qq0,d8s ks o (by omega)]
def stepF(b:Str)(ks:List Str)(x:Belt):List Str:=if(x.name == b || ks.contains x.name)=true then x.outs.foldl addS ks else ks
theorem d7d(outs:List Str):∀ks:List Str,(outs.foldl addS ks).length<=ks.length+outs.length:=by
 induction outs with
 |nil=>intro ks;exact Nat.le_refl _
 |cons o outs ih=>
  intro ks;rw[List.foldl_cons,List.length_cons];have:=ih (addS ks o);have:=c6v ks o;omega
theorem b0c(b:Str)(hd:D):∀(bs:List Belt) (ks:List Str) (a3 a4 a5 a6 a7:Option O),ks.length+(bs.map fun x=>x.outs.length).sum < 1000000->∃b3 b4 b5 b6 b7,a2u (ggTup [(a0r 3),(a0r 4),(a0r 5),(a0r 6)])
  (gsIf (gOrT (gT (gBin oEq (gVar 3) (gVar 1))) (gT (gBin (oInG false) (gVar 3) (gVar 2))))
  (gsFor (gVar 6) (a0r 7)
  (gsPut (gC (.bl true)) (gVar 2) (gVar 7)))
  gsNil) (bs.map beltD) [some (.frz hd),some (fS b),some (.dct (kd ks)),a3,a4,a5,a6,a7]=some (.nx,[some (.frz hd),some (fS b),some (.dct (kd (bs.foldl (stepF b) ks))),b3,b4,b5,b6,b7])
 |[],ks,a3,a4,a5,a6,a7,_=>⟨a3,a4,a5,a6,a7,rfl⟩
 |x::bs,ks,a3,a4,a5,a6,a7,h=>by
  rw[List.map_cons,List.sum_cons] at h;have hf:=d7d x.outs ks;obtain⟨a',e1⟩:=c6w x.outs ks (some (.frz hd)) (some (fS b)) (some (.frz (.str x.name))) (some (.frz (.int x.long))) (some (.frz (.bl x.ring))) (some (.frz (.lst (x.outs.map .str)))) a7 (by omega)
  cases c1:x.name == b with
  |true=>
   obtain⟨b3,b4,b5,b6,b7,e⟩:=b0c b hd bs (x.outs.foldl addS ks) (some (.frz (.str x.name))) (some (.frz (.int x.long))) (some (.frz (.bl x.ring))) (some (.frz (.lst (x.outs.map .str)))) a' (by omega)
   refine⟨b3,b4,b5,b6,b7,?_⟩;rw[List.foldl_cons,show stepF b ks x=x.outs.foldl addS ks by unfold stepF;rw[c1,Bool.true_or,if_pos rfl],<-e,List.map_cons]
   rw[show beltD x=.tup [.str x.name,.int x.long,.bl x.ring,.lst (x.outs.map .str)] from rfl];simp only[a6f,b0l,a8f,a2j,qq2,qq3,qqf,Nat.reduceAdd,Nat.reduceLT,qq5,qq4,if_true,↓evBind,a8e,a1f,a7u,a6e,a1g,a0f,a0p,qq1,qq0,a0j,a0m,a0n,a0l,a7l,a1h,a7m,and_self,b3i,c1,a5y,Option.join_some,a8s,a1o,e1,a1e]
  |false=>
   cases c2:ks.contains x.name with
   |true=>
    obtain⟨b3,b4,b5,b6,b7,e⟩:=b0c b hd bs (x.outs.foldl addS ks) (some (.frz (.str x.name))) (some (.frz (.int x.long))) (some (.frz (.bl x.ring))) (some (.frz (.lst (x.outs.map .str)))) a' (by omega)
    refine⟨b3,b4,b5,b6,b7,?_⟩;rw[List.foldl_cons,show stepF b ks x=x.outs.foldl addS ks by unfold stepF;rw[c1,c2,Bool.or_true,if_pos rfl],<-e,List.map_cons]
    rw[show beltD x=.tup [.str x.name,.int x.long,.bl x.ring,.lst (x.outs.map .str)] from rfl];simp only[a6f,b0l,a8f,a2j,qq2,qq3,qqf,Nat.reduceAdd,Nat.reduceLT,qq5,qq4,if_true,↓evBind,a8e,a1f,a7u,a6e,a1g,a0f,a0p,qq1,qq0,a0j,a0m,a0n,a0l,a7l,a1h,a7m,and_self,b3i,c1,qqe,a5y,Option.join_some,c6u,c2,if_false,a8s,a1o,e1,a1e]
   |false=>
    obtain⟨b3,b4,b5,b6,b7,e⟩:=b0c b hd bs ks (some (.frz (.str x.name))) (some (.frz (.int x.long))) (some (.frz (.bl x.ring))) (some (.frz (.lst (x.outs.map .str)))) a7 (by omega)
    refine⟨b3,b4,b5,b6,b7,?_⟩;rw[List.foldl_cons,show stepF b ks x=ks by unfold stepF;rw[c1,c2,Bool.false_or,if_neg Bool.false_ne_true],<-e,List.map_cons]
    rw[show beltD x=.tup [.str x.name,.int x.long,.bl x.ring,.lst (x.outs.map .str)] from rfl];simp only[a6f,b0l,a8f,a2j,qq2,qq3,qqf,Nat.reduceAdd,Nat.reduceLT,qq5,qq4,if_true,↓evBind,a8e,a1f,a7u,a6e,a1g,a0f,a0p,qq1,qq0,a0j,a0m,a0n,a0l,a7l,a1h,a7m,and_self,b3i,c1,qqe,a5y,Option.join_some,c6u,c2,if_false,a8s,a1o,a1e]
theorem c0v(ks:List Str)(o:O)(ho:∀x,oInG false [.frz (.str x),o]=some (.frz (.bl (ks.contains x))))(hv:gVar 1=gVar 1):∀(xs acc:List Str) (a:Option O),acc.length+xs.length < 1000000->(∀Γ0:Option O,∃r,gVar 1 [Γ0,some o]=some (r,[Γ0,some o])/\seeR [Γ0,some o] r=some o)->
  ∃a',compLoop (a0r 0) (gT (gBin (oInG false) (gVar 0) (gVar 1))) (gVar 0) (xs.map D.str) [a,some o] (acc.map fS)=some ((acc++xs.filter fun x=>ks.contains x).map fS,[a',some o])
 |[],acc,a,_,_=>⟨a,by rw[List.map_nil,b1k,List.filter_nil,List.append_nil]⟩
 |x::xs,acc,a,h,hg=>by
  rw[List.length_cons] at h;have hl:(acc.map fS).length < 1000000:=by rw[List.length_map];omega
  obtain⟨r,r1,r2⟩:=hg (some (.frz (.str x)));have v0:gVar 0 [some (.frz (.str x)),some o]=some (.own (.frz (.str x)),[some (.frz (.str x)),some o]):=rfl;cases hc:ks.contains x with
  |true=>
   obtain⟨a',e⟩:=c0v ks o ho hv xs (acc++[x]) (some (fS x)) (by rw[List.length_append,List.length_singleton];omega) hg
   refine⟨a',?_⟩;rw[List.filter_cons,if_pos hc,show acc++x::(xs.filter fun o=>ks.contains o)=acc++[x]++(xs.filter fun o=>ks.contains o) by simp]
   rw[<-e,List.map_append];simp only[↓evBind,↓evMap,qq6,qq7,c2d,a2j,qq2,qq3,Nat.reduceAdd,Nat.reduceLT,if_true,qq4,Option.bind_some,a6e,a1g,a0f,a0j,v0,r1,a0m,a0l,a0n,r2,ho,hc,a2k,a1x,hl]
  |false=>
   obtain⟨a',e⟩:=c0v ks o ho hv xs acc (some (fS x)) (by omega) hg
   refine⟨a',?_⟩;rw[List.filter_cons,if_neg (by rw[hc];exact Bool.false_ne_true)]
   rw[<-e];simp only[↓evBind,↓evMap,qq6,qq7,c2d,a2j,qq2,qq3,Nat.reduceAdd,Nat.reduceLT,if_true,qq4,Option.bind_some,a6e,a1g,a0f,a0j,v0,r1,a0m,a0l,a0n,r2,ho,hc,a2k,a1x,hl,qqe,if_false]
def b2a(bs:List Belt)(b:Str):List Str:=bs.foldl (stepF b) []
theorem d3x(h:House)(b:Str)(sm:SmallH h):a9m [.frz (a0u h),fS b]=some (.lst (((h.belts.map Belt.name++h.carts).filter fun x=>(b2a h.belts b).contains x).map fS),[none,none]):=by
 have hb:=sm.bl;have hc:=sm.ct;obtain⟨b3,b4,b5,b6,b7,e1⟩:=b0c b (a0u h) h.belts [] none none none none none (by have:=sm.ou;rw[List.length_nil];omega)
 have e2:=a9r h.belts (by omega)
 obtain⟨a',e3⟩:=c0v (b2a h.belts b) (.dct (kd (b2a h.belts b))) (fun x=>c6u false x _) rfl (h.belts.map Belt.name++h.carts) [] none (by rw[List.length_nil,List.length_append,List.length_map];omega) (fun Γ0=>⟨.var 1,rfl,rfl⟩)
 rw[List.map_nil,List.nil_append] at e3;have c1:(h.belts.length+h.carts.length<=1000000)=True:=eq_true (by omega)
 have kd0:kd []=[]:=rfl;unfold a9m b6t;unfold b2a at *;rw[kd0] at e1;unfold a0u at *;simp only[a1a,qq6,qq7,qq2,qq3,qqf,Nat.reduceAdd,Nat.reduceSub,qq9,qq8,qqb,qqc,a0x,a1m,b1i,↓evBind,Nat.reduceLT,qq5,qq4,if_true,a8s,a1o,a1g,a0f,a0p,qq0,a3h,a0j,a0m,a0n,a0l,a3f,a6z,a4o,↓evMap,a1h,e1,a2b,a4t,a7k,a1b,a0y,a0t,e2,a2l,a2c,a7a,b9l,d1d,e1q,List.length_map,c1,<-List.map_append,a6m,b7y,a5p,qq1,Option.join_some,a3s,e3,List.drop_succ_cons,List.drop_zero,a5q,a3t,a2z,qqa,qqd,a2s,a2i]
inductive RR (bs:List Belt) (outs:List Str):Str->Prop
 |base {n:Str}:n∈outs->RR bs outs n
 |step {m n:Str} {b:Belt}:RR bs outs m->b∈bs->b.name=m->n∈b.outs->RR bs outs n
theorem mem_fold:∀{ks:List Str} {n:Str},n∈outs.foldl addS ks↔n∈outs\/n∈ks:=by
 induction outs with
 |nil=>intro ks n;simp
 |cons o outs ih=>
  intro ks n;rw[List.foldl_cons,ih,d7c,List.mem_cons];constructor
  ·rintro(h|h|h)
   ·exact .inl (.inr h)
   ·exact .inl (.inl h)
   ·exact .inr h
  ·rintro((h|h)|h)
   ·exact .inr (.inl h)
   ·exact .inl h
   ·exact .inr (.inr h)
theorem d3y(h:n∈ks):n∈stepF b ks x:=by
 unfold stepF;split
 ·exact mem_fold.mpr (.inr h)
 ·exact h
theorem d3z{bs:List Belt}:∀{ks:List Str} {n:Str},n∈ks->n∈bs.foldl (stepF b) ks:=by
 induction bs with
 |nil=>intro ks n h;exact h
 |cons x bs ih=>intro ks n h;exact ih (d3y h)
theorem c3c{carts:List Str}{b:Str}:∀{bs:List Belt} {ks:List Str} {n:Str},Fwd carts bs->n∈bs.foldl (stepF b) ks->n∈ks\/n∈bs.tail.map Belt.name\/n∈carts
 |[],ks,n,_,h=>.inl h
 |x::bs,ks,n,f,h=>by
  rcases c3c f.2.2.2 h with z|z|z
  ·unfold stepF at z;split at z
   ·rcases mem_fold.mp z with z|z
    ·rcases f.1 n z with z|z
     ·exact .inr (.inl z)
     ·exact .inr (.inr z)
    ·exact .inl z
   ·exact .inl z
  ·refine .inr (.inl ?_);cases bs with
   |nil=>exact z
   |cons y bs=>exact List.mem_cons_of_mem _ z
  ·exact .inr (.inr z)
theorem a9s{carts:List Str}{b:Str}:∀{bs:List Belt} {ks:List Str},Fwd carts bs->∀x∈bs,(x.name=b\/x.name∈bs.foldl (stepF b) ks)->∀o∈x.outs,o∈bs.foldl (stepF b) ks
 |y::bs,ks,f,x,hx,hn,o,ho=>by
  rcases List.mem_cons.mp hx with rfl|hx
  ·have h1:(x.name == b || ks.contains x.name)=true:=by
    rcases hn with hn|hn
    ·rw[hn,beq_self_eq_true,Bool.true_or]
    ·rcases c3c (b:=b) f hn with z|z|z
     ·rw[List.contains_iff_mem.mpr z,Bool.or_true]
     ·exact absurd z f.2.1
     ·exact absurd z f.2.2.1
   show o∈bs.foldl (stepF b) (stepF b ks x);refine d3z ?_;unfold stepF;rw[if_pos h1];exact mem_fold.mpr (.inl ho)
  ·exact a9s (ks:=stepF b ks y) f.2.2.2 x hx hn o ho
theorem c6x{bs0:List Belt}{b:Belt}(hb:b∈bs0)(hu:∀x∈bs0,x.name=b.name->x=b):∀{bs:List Belt} {ks:List Str},(∀x∈bs,x∈bs0)->(∀n∈ks,RR bs0 b.outs n)->∀n∈bs.foldl (stepF b.name) ks,RR bs0 b.outs n
 |[],ks,_,h,n,hn=>h n hn
 |x::bs,ks,hs,h,n,hn=>c6x hb hu (fun y hy=>hs y (List.mem_cons_of_mem _ hy)) (fun m hm=>by
   unfold stepF at hm;split at hm
   ·rename_i hc
    rcases mem_fold.mp hm with z|z
    ·rw[Bool.or_eq_true,beq_iff_eq,List.contains_iff_mem] at hc;rcases hc with hc|hc
     ·rw[hu x (hs x List.mem_cons_self) hc] at z;exact .base z
     ·exact .step (h _ hc) (hs x List.mem_cons_self) rfl z
    ·exact h m z
   ·exact h m hm) n hn
theorem d4a(f:Fwd h.carts h.belts){b:Belt}(hb:b∈h.belts)(n:Str):n∈b2a h.belts b.name↔RR h.belts b.outs n:=by
 unfold b2a;constructor
 ·exact c6x hb (fun x hx e=>c6s f x hx b hb e) (fun _ m=>m) (fun _ m=>by cases m) n
 ·intro r
  induction r with
  |base m=>exact a9s f b hb (.inl rfl) _ m
  |step r hx hn hm ih=>exact a9s f _ hx (.inr (by rw[hn];exact ih)) _ hm
theorem d8t(x:Str)(ks:List Str)(e1:isN x)(hx:x∉ks)(hl:ks.length < 1000):a4u [fS x,.dct (kd ks)]=some (.frz .non,[none,some (.dct (kd (ks++[x])))]):=by
 have hc:ks.contains x=false:=by rw[<-Bool.not_eq_true,List.contains_iff_mem];exact hx
 have e2:=c6u false x ks;rw[hc,if_neg Bool.false_ne_true] at e2;have e3:=d8s ks x (by omega)
 have ea:addS ks x=ks++[x]:=by unfold addS;rw[hc,if_neg Bool.false_ne_true]
 rw[ea] at e3;generalize kd (ks++[x])=k2 at *;generalize kd ks=k1 at *;unfold a4u b0r;simp only[a1a,qq6,qq7,qq2,qq3,qqf,Nat.reduceAdd,Nat.reduceSub,qq8,List.append_nil,a0x,a1f,a7u,a4i,a3o,a0z,a0f,a0p,qq0,↓evBind,a0j,a0m,a0n,a0l,a1p,a1h,a1j,e1,a6n,a2y,Bool.not_true,qqe,a6e,a1g,qq1,a5y,Option.join_some,e2,if_false,b4i,a1e,d8d,a3h,e3,qq5,qq4,b3r,qqa,qqd,a2s,a5u,a2i,if_true]
theorem d4b(g:GoodW h):a2t [fL h.carts,.dct (kd [])]=some (.frz .non,[none,some (.dct (kd h.carts))]):=by
 have ct:=g.sm.ct;have hn:=g.cn;obtain⟨Γ',e,a,rfl⟩:=a7d (g:=a0r 2) (f:=a3y (gCall a4u (a0c (gVar 2) (a0c (gVar 1) gaNil)))) D.str (fun pre Γ=>∃a,Γ=[some (fL h.carts),some (.dct (kd pre)),a]) h.carts [] [some (fL h.carts),some (.dct (kd [])),none] ⟨_,rfl⟩ (by
  rintro q x post Γ eq ⟨a,rfl⟩;rw[List.nil_append] at *;have hx:x∉q:=fun z=>by
   rw[eq] at hn;exact(List.nodup_append.mp hn).2.2 x z x (.head _) rfl
  have hc:x∈h.carts:=by rw[eq];simp
  have hq:q.length < 1000:=by have:=congrArg List.length eq;simp at this;omega
  have e1:=d8t x q (g.cm x hc) hx hq;refine⟨_,?_,some (fS x),rfl⟩;generalize kd (q++[x])=k2 at *;generalize kd q=k1 at *;generalize h.carts=cs at *;simp only[a2j,qq2,qq3,qqf,Nat.reduceAdd,Nat.reduceLT,qq5,qq4,if_true,↓evBind,a2x,a1b,a0f,a0p,qq1,qq0,a0j,a0y,a2g,a0t,e1,a2l,a4b,a2c])
 rw[List.nil_append] at e;have ht:(h.carts.map D.str).isEmpty=false:=by
  have:=g.c0;cases hcs:h.carts with
  |nil=>rw[hcs] at this;simp at this
  |cons _ _=>rfl
 unfold a2t a6h;generalize kd h.carts=k2 at *;generalize kd []=k1 at *;simp only[a1a,qq6,qq7,qq2,qq3,qqf,Nat.reduceAdd,Nat.reduceSub,qq9,qq8,qqb,qqc,a0x,a8s,a1o,a0p,qq0,↓evBind,a1h,e,a1f,a4i,a3o,a0n,b9n,ht,Bool.not_false,Bool.not_true,qqe,a6g,a3h,a1e,if_false,b3r,qqa,qqd,a2s,a5u,a2i,if_true]
theorem d4c(g:GoodW h):a6i [.frz (.lst (h.belts.map beltD)),.dct (kd h.carts)]=some (.frz .non,[none,some (.dct (kd (h.carts++h.belts.map Belt.name)))]):=by
 have ct:=g.sm.ct;have bl:=g.sm.bl;have fw:=g.fwd;have lg:=g.lg;obtain⟨Γ',e,a2,a3,a4,a5,a6,rfl⟩:=a7d (g:=ggTup [(a0r 2),(a0r 3),(a0r 4),(a0r 5)]) (f:=(a0o (a3y (gCall a4u (a0c (gVar 2) (a0c (gVar 1) gaNil))))
 (a0o (gsSet 6 (gFrz (gIf (gTru (gVar 4)) (gC (.int 2)) (gC (.int 1)))))
 (gsIf (gT (gBin oLt (gVar 3) (gVar 6)))
  b3k
  gsNil)))) beltD (fun pre Γ=>∃a2 a3 a4 a5 a6,Γ=[some (.frz (.lst (h.belts.map beltD))),some (.dct (kd (h.carts++pre.map Belt.name))),a2,a3,a4,a5,a6]) h.belts [] [some (.frz (.lst (h.belts.map beltD))),some (.dct (kd h.carts)),none,none,none,none,none] ⟨none,none,none,none,none,by rw[List.map_nil,List.append_nil]⟩ (by
  rintro q x post Γ eq ⟨a2,a3,a4,a5,a6,rfl⟩;rw[List.nil_append] at *;have hb:x∈h.belts:=by rw[eq];simp
  have hx:x.name∉h.carts++q.map Belt.name:=fun z=>by
   rcases List.mem_append.mp z with z|z
   ·exact b7h fw _ z (List.mem_map_of_mem hb)
   ·obtain⟨y,hy,ey⟩:=List.mem_map.mp z;have:∀{bs q:List Belt} {x:Belt} {post:List Belt},Fwd h.carts bs->bs=q++x::post->∀y∈q,y.name≠x.name:=by
     intro bs q
     induction q generalizing bs with
     |nil=>intro x post _ _ y hy;cases hy
     |cons w q ih=>
      intro x post fw eq y hy;rw[eq] at fw;rcases List.mem_cons.mp hy with rfl|hy
      ·intro z;exact fw.2.1 (by rw[z];simp)
      ·exact ih fw.2.2.2 rfl y hy
    exact this fw eq y hy ey
  have hq:(h.carts++q.map Belt.name).length < 1000:=by have:=congrArg List.length eq;simp at this ⊢;omega
  have e1:=d8t x.name _ (g.nm x hb) hx hq;have hk:h.carts++(q++[x]).map Belt.name=h.carts++q.map Belt.name++[x.name]:=by simp
  have hg:=lg x hb;rw[hk];refine⟨[some (.frz (.lst (h.belts.map beltD))),some (.dct (kd (h.carts++q.map Belt.name++[x.name]))),some (fS x.name),some (.frz (.int x.long)),some (.frz (.bl x.ring)),some (fL x.outs),some (.frz (.int (if x.ring=true then 2 else 1)))],?_,_,_,_,_,_,rfl⟩
  generalize kd (h.carts++q.map Belt.name++[x.name])=k2 at *;generalize kd (h.carts++q.map Belt.name)=k1 at *;generalize h.belts.map beltD=bs at *;unfold beltD;cases hr:x.ring with
  |true=>
   have c2:decide (x.long < 2)=false:=by have:=hg.2 hr;simp;omega
   simp only[b0l,a8f,a2j,qq2,qq3,qqf,Nat.reduceAdd,Nat.reduceLT,qq5,qq4,if_true,↓evBind,a8e,a0x,a2x,a1b,a0f,a0p,qq1,qq0,a0j,a0y,a2g,a0t,e1,a2l,a4b,a2c,a1m,a1o,b9k,a3o,a0n,a2y,a3h,a1h,a1f,a6e,a1g,a0m,a0l,a5t,c2,qqe,b4i,a1e,if_false]
  |false=>
   have c2:decide (x.long < 1)=false:=by have:=hg.1;simp;omega
   simp only[b0l,a8f,a2j,qq2,qq3,qqf,Nat.reduceAdd,Nat.reduceLT,qq5,qq4,if_true,↓evBind,a8e,a0x,a2x,a1b,a0f,a0p,qq1,qq0,a0j,a0y,a2g,a0t,e1,a2l,a4b,a2c,a1m,a1o,b9k,a3o,a0n,a2y,qqe,a3h,if_false,a1h,a1f,a6e,a1g,a0m,a0l,a5t,c2,b4i,a1e])
 rw[List.nil_append] at e;unfold a6i a8o;generalize kd (h.carts++h.belts.map Belt.name)=k2 at *;generalize kd h.carts=k1 at *;generalize h.belts.map beltD=bs at *;simp only[a1a,qq6,qq7,qq2,qq3,qqf,Nat.reduceAdd,Nat.reduceSub,qq9,qq8,qqb,qqc,a8s,a1o,a0p,qq0,↓evBind,a1h,e,b3r,qqa,qqd,a2s,a5u,a2i,if_true]
theorem b3o{x z:Str}:∀{ys:List Str} {j:Nat},ys[j]?=some z->x∈ys->x≠z->x∈ys.eraseIdx j
 |y::ys,0,e,hx,hne=>by
  rw[List.getElem?_cons_zero] at e;cases e;rcases List.mem_cons.mp hx with rfl|hx
  ·exact absurd rfl hne
  ·exact hx
 |y::ys,j+1,e,hx,hne=>by
  rw[List.getElem?_cons_succ] at e;show x∈y::ys.eraseIdx j;rcases List.mem_cons.mp hx with rfl|hx
  ·exact .head _
  ·exact .tail _ (b3o e hx hne)
 |[],_,_,hx,_=>by cases hx
theorem d4d{z:Str}{ys:List Str}(h:z∈ys):∃j,findS ys z=some j:=by
 cases q:findS ys z with
 |some j=>exact⟨j,rfl⟩
 |none=>
  unfold findS at q;rw[List.findIdx?_eq_none_iff] at q;have:=q z h;simp at this
theorem e1t(outs L:List Str)(nd:outs.Nodup)(hs:∀o∈outs,o∈L)(s0 s1 s2 s3 s4 s5 a7:Option O):∃b6 b7,a2u (a0r 7) outC (outs.map D.str) [s0,s1,s2,s3,s4,s5,some (.lst (L.map fS)),a7]=some (.nx,[s0,s1,s2,s3,s4,s5,b6,b7]):=by
 obtain⟨Γ',e,L',b7,rfl,_⟩:=a7d (g:=a0r 7) (f:=outC) D.str (fun pre Γ=>∃L' b7,Γ=[s0,s1,s2,s3,s4,s5,some (.lst (L'.map fS)),b7]/\∀o∈outs,o∉pre->o∈L') outs [] [s0,s1,s2,s3,s4,s5,some (.lst (L.map fS)),a7] ⟨L,a7,rfl,fun o ho _=>hs o ho⟩ (by
  rintro q x post Γ eq ⟨L',b7,rfl,hL⟩;rw[List.nil_append] at *;have hxq:x∉q:=fun z=>by
   rw[eq] at nd;exact(List.nodup_append.mp nd).2.2 x z x (.head _) rfl
  have hx:x∈L':=hL x (by rw[eq];simp) hxq
  obtain⟨j,hj⟩:=d4d hx;have e1:=b1z true x L';rw[List.contains_iff_mem.mpr hx,if_pos rfl] at e1;have e2:b6j (.lst (L'.map fS)) [.frz (.str x)]=some (.lst ((L'.eraseIdx j).map fS),.frz .non):=(d2b L' x).trans (by rw[hj];rfl)
  refine⟨[s0,s1,s2,s3,s4,s5,some (.lst ((L'.eraseIdx j).map fS)),some (fS x)],?_,L'.eraseIdx j,some (fS x),rfl,fun o ho hq=>?_⟩
  ·generalize(L'.eraseIdx j).map fS=l2 at *;generalize L'.map fS=l1 at *;unfold outC;simp only[a2j,qq2,qq3,qqf,Nat.reduceAdd,Nat.reduceLT,qq5,qq4,if_true,↓evBind,a0x,a1f,a6e,a1g,a0f,a0p,qq1,qq0,a0j,a0m,a0n,a5y,Option.join_some,a0l,e1,Bool.not_true,qqe,a1e,if_false,a2x,b5t,a2k,a1x,e2]
  ·simp only[List.mem_append,List.mem_singleton,not_or] at hq;exact b3o (b2m hj).1 (hL o ho hq.1) hq.2)
 exact⟨_,b7,e⟩
theorem c6y(q:List Belt)(x:Belt)(post:List Belt)(i:Int)(hi:i=(q.length:Nat)):slO (.frz (.lst ((q++x::post).map beltD))) (some (i+1)) none=some (.lst ((post.map beltD).map .frz)):=by
 show some (O.lst ((cutD ((q++x::post).map beltD) (some (i+1)) none).map .frz))=_;have:cutD ((q++x::post).map beltD) (some (i+1)) none=post.map beltD:=by
  unfold cutD;have e4:HT.sIx ((q++x::post).map beltD).length 0 (some (i+1))=q.length+1:=by
   unfold HT.sIx;simp only[List.length_map,List.length_append,qq2];rw[if_neg (by omega)]
   omega
  have e5:HT.sIx ((q++x::post).map beltD).length ((q++x::post).map beltD).length none=((q++x::post).map beltD).length:=rfl;have e6:((q++x::post).map beltD).drop (q.length+1)=post.map beltD:=by
   rw[<-List.map_drop,show q++x::post=(q++[x])++post by simp,List.drop_left' (by simp)]
  rw[e4,e5,e6];exact List.take_of_length_le (by rw[List.length_map,List.length_map,List.length_append,List.length_cons];omega)
 rw[this]
theorem c6z(g:GoodW h){q post:List Belt}{i:Int}(eq:h.belts=q++x::post)(hi:i=(q.length:Nat))(ho:x.outs≠[])(a2 a3 a4 a5 a6 a7:Option O):∃b6 b7,(ggTup [(a0r 2),(a0r 3)] (.tup [.int i,beltD x]) [some (.frz (.lst (h.belts.map beltD))),some (fL h.carts),a2,a3,a4,a5,a6,a7]).bind b2t=some (.nx,[some (.frz (.lst (h.belts.map beltD))),some (fL h.carts),some (.frz (.int i)),some (fB x),some (fS x.name),some (fL x.outs),b6,b7]):=by
 have bl:=g.sm.bl;have ct:=g.sm.ct;have hb:x∈h.belts:=by rw[eq];simp
 have hp:post.length < 1000000:=by have:=congrArg List.length eq;simp at this;omega
 have fx:Fwd h.carts (x::post):=b3b (by rw[<-eq];exact g.fwd)
 have sl:=c6y q x post i hi;rw[<-eq] at sl;have e1:=a9r post hp;have fz:frzL ((post.map Belt.name).map fS)=some ((post.map Belt.name).map D.str):=by
  rw[show(post.map Belt.name).map fS=((post.map Belt.name).map D.str).map O.frz by simp[Function.comp_def],b1b]
 have c1:(((post.map Belt.name).map D.str).length+(h.carts.map D.str).length<=1000000)=True:=eq_true (by rw[List.length_map,List.length_map,List.length_map];have:=congrArg List.length eq;simp at this;omega)
 have en:((post.map Belt.name).map D.str++h.carts.map D.str).map O.frz=(post.map Belt.name++h.carts).map fS:=by rw[<-List.map_append,List.map_map];rfl
 obtain⟨b6,b7,el⟩:=e1t x.outs (post.map Belt.name++h.carts) (g.nd x hb) (fun o m=>by
  rcases fx.1 o m with z|z
  ·exact List.mem_append_left _ z
  ·exact List.mem_append_right _ z) (some (.frz (.lst (h.belts.map beltD)))) (some (fL h.carts)) (some (.frz (.int i))) (some (fB x)) (some (fS x.name)) (some (fL x.outs)) a7
 have ht:(x.outs.map D.str).isEmpty=false:=by
  cases hcs:x.outs with
  |nil=>exact absurd hcs ho
  |cons _ _=>rfl
 have il:=e4i (x.outs.map D.str);have i0:=xb0 x;have i3:=xb3 x;refine⟨b6,b7,?_⟩;generalize(post.map Belt.name++h.carts).map fS=l2 at *;generalize(post.map Belt.name).map fS=l1 at *;generalize(post.map Belt.name).map D.str=l3 at *;generalize h.belts.map beltD=bs at *;generalize post.map beltD=ps at *;unfold b2t;simp only[b0l,a8f,a2j,qq2,qq3,qqf,Nat.reduceAdd,Nat.reduceLT,qq5,qq4,if_true,↓evBind,a8e,a0x,a1m,a1g,a0f,a0p,qq1,qq0,a3h,a0j,a0m,a0n,a0l,a3f,i0,a1o,b9k,a3o,i3,il,a2y,a3i,Nat.reduceLeDiff,a1x,a1h,a1b,b1j,b5v,a4a,b9m,↓evMap,b5u,sl,a6m,b7y,a0y,a0t,e1,a2l,a2c,b9l,d1d,fz,c1,en,a8s,el,a1f,a4i,b9n,ht,Bool.not_false,Bool.not_true,qqe,a1e,if_false]
theorem d4e(g:GoodW h)(ho:∀b∈h.belts,b.outs≠[]):a4x [.frz (.lst (h.belts.map beltD)),fL h.carts]=some (.frz .non,[none,none]):=by
 obtain⟨Γ',e,a2,a3,a4,a5,a6,a7,rfl⟩:=d3v (g:=ggTup [(a0r 2),(a0r 3)]) (f:=b2t) beltD (fun pre Γ=>∃a2 a3 a4 a5 a6 a7,Γ=[some (.frz (.lst (h.belts.map beltD))),some (fL h.carts),a2,a3,a4,a5,a6,a7]) h.belts [some (.frz (.lst (h.belts.map beltD))),some (fL h.carts),none,none,none,none,none,none] ⟨_,_,_,_,_,_,rfl⟩ (by
  rintro q x post Γ i eq hi ⟨a2,a3,a4,a5,a6,a7,rfl⟩;obtain⟨b6,b7,e⟩:=c6z g eq hi (ho x (by rw[eq];simp)) a2 a3 a4 a5 a6 a7
  exact⟨_,e,_,_,_,_,_,_,rfl⟩)
 unfold a4x;unfold a7f;generalize h.belts.map beltD=bs at *;simp only[a1a,qq6,qq7,qq2,qq3,qqf,Nat.reduceAdd,Nat.reduceSub,qq9,qq8,qqb,qqc,d1l,a1o,a0p,qq0,↓evBind,a1h,e,b3r,qqa,qqd,a2s,a2i,if_true]
theorem d4f(g:GoodW h)(eq:h.belts=ys++[z])(hz:z.outs=[])(ho:∀b∈ys,b.outs≠[])(hl:z.name.length<=100):a4x [.frz (.lst (h.belts.map beltD)),fL h.carts]=some (.frz (.exc 68 none),[none,none]):=by
 have bl:=g.sm.bl;have ct:=g.sm.ct;obtain⟨Γ',e,a2,a3,a4,a5,a6,a7,rfl⟩:=c8r (g:=ggTup [(a0r 2),(a0r 3)]) (f:=b2t) beltD (fun pre Γ=>∃a2 a3 a4 a5 a6 a7,Γ=[some (.frz (.lst (h.belts.map beltD))),some (fL h.carts),a2,a3,a4,a5,a6,a7]) (.frz (.exc 68 none)) (fun Γ=>∃a2 a3 a4 a5 a6 a7,Γ=[some (.frz (.lst (h.belts.map beltD))),some (fL h.carts),a2,a3,a4,a5,a6,a7]) ys z [some (.frz (.lst (h.belts.map beltD))),some (fL h.carts),none,none,none,none,none,none] ⟨_,_,_,_,_,_,rfl⟩ (by
  rintro q x post Γ i eq' hi ⟨a2,a3,a4,a5,a6,a7,rfl⟩;obtain⟨b6,b7,e⟩:=c6z g (post:=post++[z]) (by rw[eq,eq'];simp) hi (ho x (by rw[eq'];simp)) a2 a3 a4 a5 a6 a7
  exact⟨_,e,_,_,_,_,_,_,rfl⟩) (by
  rintro Γ i hi ⟨a2,a3,a4,a5,a6,a7,rfl⟩;have sl:slO (.frz (.lst ((ys++[z]).map beltD))) (some (i+1)) none=some (.lst []):=c6y ys z [] i hi;rw[<-eq] at sl;have e1:a2m [.frz (.lst [])]=some (.lst [],[none]):=a9r [] (by decide)
  have il:=e4i [];have i0:=xb0 z;have i3:=xb3 z;have c1:((h.carts.map D.str).length<=1000000)=True:=eq_true (by rw[List.length_map];omega)
  have c2:(z.name.length<=1000000)=True:=eq_true (by omega)
  have c3:((Str.ofString "belt "++(z.name++(Str.ofString " has no outs"++Str.empty))).length<=1000000)=True:=eq_true (by
   have a1:(Str.ofString "belt ").length=5:=by decide +kernel
   have a2:(Str.ofString " has no outs").length=12:=by decide +kernel
   have a3:Str.empty.length=0:=rfl;rw[Str.length_append,Str.length_append,Str.length_append,a1,a2,a3];omega)
  rw[hz] at i3;have i3:oIx1 (.frz (beltD z)) (.int 3)=some (.frz (.lst [])):=i3;refine⟨[some (.frz (.lst (h.belts.map beltD))),some (fL h.carts),some (.frz (.int i)),some (fB z),some (fS z.name),some (fL []),some (.lst ((h.carts.map D.str).map .frz)),a7],?_,_,_,_,_,_,_,rfl⟩;generalize h.belts.map beltD=bs at *;unfold b2t noO;simp only[b0l,a8f,a2j,qq2,qq3,qqf,Nat.reduceAdd,Nat.reduceLT,qq5,qq4,if_true,↓evBind,a8e,a0x,a1m,a1g,a0f,a0p,qq1,qq0,a3h,a0j,a0m,a0n,a0l,a3f,i0,a1o,b9k,a3o,i3,il,a2y,a3i,Nat.reduceLeDiff,a1x,a1h,a1b,b1j,b5v,a4a,b9m,↓evMap,b5u,sl,a6m,a1j,a0y,a0t,e1,a2l,a2c,b9l,d1d,e3v,c1,qqc,a8s,c5s,a1f,a4i,b9n,List.isEmpty_nil,Bool.not_true,Bool.not_false,a6g,c2f,c5w,d1i,c2,e0y,c3,a1e];rfl)
 rw[<-eq] at e;unfold a4x;unfold a7f;generalize h.belts.map beltD=bs at *;simp only[a1a,qq6,qq7,qq2,qq3,qqf,Nat.reduceAdd,Nat.reduceSub,qq9,qq8,qqb,qqc,d1l,a1o,a0p,qq0,↓evBind,a1h,e,a2z,qqa,qqd,a2s,a2i,if_true]
theorem d7e{bs:List Belt}{w:Belt}(hw:w∈bs)(r:RR bs outs w.name)(r2:RR bs w.outs n):RR bs outs n:=by
 induction r2 with
 |base m=>exact .step r hw rfl m
 |step _ hb hn hm ih=>exact .step ih hb hn hm
theorem c4u{h:House}(g:GoodH h):∀{bs pre:List Belt},h.belts=pre++bs->∀b∈bs,RR h.belts b.outs (h.carts.getD 0 "")
 |x::bs,pre,eq,b,hb=>by
  have eq':h.belts=(pre++[x])++bs:=by rw[eq];simp
  rcases List.mem_cons.mp hb with rfl|hb
  ·have hbm:b∈h.belts:=by rw[eq];simp
   have fx:Fwd h.carts (b::bs):=b3b (by rw[<-eq];exact g.fwd)
   rcases g.hd b hbm with z|⟨o,z1,z2⟩
   ·exact .base z
   ·rcases fx.1 o z1 with y|y
    ·obtain⟨w,hw,ew⟩:=List.mem_map.mp y;exact d7e (w:=w) (by rw[eq'];simp[hw]) (by rw[ew];exact .base z1) (c4u g eq' w hw)
    ·exact absurd z2 (b7h g.fwd o y)
  ·exact c4u g eq' b hb
theorem e4k(g:GoodH h):a7g [.frz (a0u h)]=some (.frz .non,[none]):=by
 have bl:=g.sm.bl;have hc:h.carts.getD 0 ""∈h.carts:=by
  have:=g.c0;cases hcs:h.carts with
  |nil=>rw[hcs] at this;simp at this
  |cons c cs=>simp
 have i0:oIx1 (.frz (.lst (h.carts.map .str))) (.int 0)=some (fS (h.carts.getD 0 "")):=by
  have:=g.c0;cases hcs:h.carts with
  |nil=>rw[hcs] at this;simp at this
  |cons c cs=>exact e1s c cs
 have e1:=a9r h.belts (by omega)
 obtain⟨Γ',e,a,rfl⟩:=c5v (g:=a0r 2) (f:=(gsIf (gT (gBin (oInG true) (gVar 1) (gCall a9m (a0c (gVar 0) (a0c (gVar 2) gaNil)))))
  b3k
  gsNil)) (fun b:Belt=>D.str b.name) (fun Γ=>∃a,Γ=[some (.frz (a0u h)),some (fS (h.carts.getD 0 "")),a]) h.belts [some (.frz (a0u h)),some (fS (h.carts.getD 0 "")),none] ⟨_,rfl⟩ (by
  rintro b hb Γ ⟨a,rfl⟩;have e1:=d3x h b.name g.sm;have hm:h.carts.getD 0 ""∈(h.belts.map Belt.name++h.carts).filter fun x=>(b2a h.belts b.name).contains x:=by
   rw[List.mem_filter];exact⟨List.mem_append_right _ hc,List.contains_iff_mem.mpr ((d4a g.fwd hb _).mpr (c4u g (pre:=[]) rfl b hb))⟩
  have e2:=b1z true (h.carts.getD 0 "") ((h.belts.map Belt.name++h.carts).filter fun x=>(b2a h.belts b.name).contains x)
  rw[List.contains_iff_mem.mpr hm,if_pos rfl] at e2;refine⟨[some (.frz (a0u h)),some (fS (h.carts.getD 0 "")),some (fS b.name)],?_,_,rfl⟩;generalize((h.belts.map Belt.name++h.carts).filter fun x=>(b2a h.belts b.name).contains x).map fS=l at *
  generalize h.carts.getD 0 ""=hand at *;simp only[a2j,qq2,qq3,qqf,Nat.reduceAdd,Nat.reduceLT,qq5,qq4,if_true,↓evBind,a1f,a6e,a1g,a0f,a0p,qq1,qq0,a1b,a0j,a0y,a0t,e1,a2l,a2c,a0m,a0n,a0l,e2,Bool.not_true,qqe,b4i,a1e,if_false])
 have e0:=xh0 h;have e01:=xh1 h;have dn:=e5b (h.belts.map Belt.name);have mn:(h.belts.map Belt.name).map D.str=h.belts.map fun b=>D.str b.name:=by rw[List.map_map];rfl
 rw[mn] at dn;unfold a7g a9p;generalize h.belts.map (fun b=>D.str b.name)=l1 at *
 generalize(h.belts.map Belt.name).map fS=l2 at *;generalize h.carts.getD 0 ""=hand at *;simp only[a1a,qq6,qq7,qq2,qq3,qqf,Nat.reduceSub,qq9,qq8,qqb,qqc,a0x,a1m,a1g,a0f,a0p,qq0,↓evBind,a3h,a0j,a0m,a0n,a0l,a3f,e01,i0,Nat.reduceAdd,Nat.reduceLT,qq5,qq4,if_true,a8s,a1o,a1b,e0,a0y,a0t,e1,a2l,a2c,a6m,dn,e,b3r,qqa,qqd,a2s,a2i]
theorem e1u(g:GoodH h):a1z [.frz (a0u h)]=some (.frz (.bl true),[none]):=by
 have ho:∀b∈h.belts,b.outs≠[]:=fun b hb z=>by
  rcases g.hd b hb with y|⟨o,y,_⟩
  ·rw[z] at y;cases y
  ·rw[z] at y;cases y
 have e1:a2t [fL h.carts,.dct []]=some (.frz .non,[none,some (.dct (kd h.carts))]):=d4b g.gw;have e2:=d4c g.gw;have e3:=d4e g.gw ho;have e4:=e4k g;have e0:=xh0 h;have e01:=xh1 h;unfold a1z a5k;generalize kd (h.carts++h.belts.map Belt.name)=k2 at *;generalize kd h.carts=k1 at *;simp only[a1a,qq6,qq7,qq2,qq3,qqf,Nat.reduceSub,qq9,qq8,qqb,qqc,a0x,a1m,a1g,a0f,a0p,qq0,↓evBind,a3h,a0j,a0m,a0n,a0l,a3f,e0,Nat.reduceAdd,Nat.reduceLT,qq5,qq4,if_true,e01,b1i,a3u,a1b,qq1,a0y,a2g,a0t,e1,a2l,a4b,a2c,a6o,a2x,e2,e3,e4,c4d,d2m,a2z,qqa,qqd,a2s,a2i]
theorem e4l(ns:List Int)(k:Nat)(names carts:List Str)(bs:List O)(rg:Bool)(l:Int)(hl:1<=l):∃l':Int,1<=l'/\hI1 [some (.frz (.scr ns)),some (fL names),some (fL carts),some (.lst bs),some (.frz (.int k)),some (.frz (.bl rg)),some (.frz (.int l))]=some (.nx,[some (.frz (.scr ns)),some (fL names),some (fL carts),some (.lst bs),some (.frz (.int k)),some (.frz (.bl rg)),some (.frz (.int l'))]):=by
 have ht:a5j [.frz (.scr ns),.frz (.int 0),.frz (.int 3)]=_:=c4s ns 0 3 (by decide) (by decide)
 obtain⟨d1,d2,d3⟩:=a3n ns 0 3 14 (by decide) (by decide) (by decide)
 have d1:a1n [.frz (.scr ns),.frz (.int 0),.frz (.int 3),.frz (.int 14)]=_:=d1;have el:((names.map D.str).length:Int)=(names.length:Int):=by rw[List.length_map]
 generalize(k:Int)=ki;generalize(names.length:Int)=nl at el;generalize dgv ns 0 2 3=tv at ht;generalize dgv ns 0 3 14=dv at d1 d2 d3;cases e1:(ki == 0) with
 |false=>
  refine⟨l,hl,?_⟩;unfold hI1;simp only[a1f,a8d,a6e,a1g,a0f,a0p,qq1,qq0,↓evBind,a3h,a0j,a0m,a0n,a0l,a7l,a1h,a5e,and_self,a7b,e1,if_true,qqe,a5l,a5d,↓evMap,a5t,decide_eq_true_eq,a0z,a1p,a1j,qq6,qq7,if_false,a1m,a1o,a1e]
 |true=>
  by_cases e2:nl < 3
  ·cases e3:(tv == 1) with
   |false=>
    refine⟨l,hl,?_⟩;have e2':=eq_true e2;unfold hI1;simp only[a1f,a8d,a6e,a1g,a0f,a0p,qq1,qq0,↓evBind,a3h,a0j,a0m,a0n,a0l,a7l,a1h,a5e,and_self,a7b,e1,if_true,a5l,a5d,el,↓evMap,a5t,e2',decide_true,a0z,a1p,a1j,qq6,qq7,ht,a3r,e3,qqe,a1m,a1o,a1e,if_false]
   |true=>
    refine⟨10+dv,by omega,?_⟩
    have e2':=eq_true e2;unfold hI1;simp only[a1f,a8d,a6e,a1g,a0f,a0p,qq1,qq0,↓evBind,a3h,a0j,a0m,a0n,a0l,a7l,a1h,a5e,and_self,a7b,e1,if_true,a5l,a5d,el,↓evMap,a5t,e2',decide_true,a0z,a1p,a1j,qq6,qq7,ht,a3r,e3,a1m,a1o,d1,a4a,qq2,qq3,qqf,Nat.reduceAdd,Nat.reduceLT,qq5,qq4,a1e]
  ·refine⟨l,hl,?_⟩;have e2':=eq_false e2;unfold hI1;simp only[a1f,a8d,a6e,a1g,a0f,a0p,qq1,qq0,↓evBind,a3h,a0j,a0m,a0n,a0l,a7l,a1h,a5e,and_self,a7b,e1,if_true,a5l,a5d,el,↓evMap,a5t,e2',decide_false,qqe,a0z,a1p,a1j,qq6,qq7,if_false,a1m,a1o,a1e]
theorem e4m(ns:List Int)(k:Int)(names carts:List Str)(bs:List O)(rg:Bool)(l:Int):hI2 [some (.frz (.scr ns)),some (fL names),some (fL carts),some (.lst bs),some (.frz (.int k)),some (.frz (.bl rg)),some (.frz (.int l))]=some (.nx,[some (.frz (.scr ns)),some (fL names),some (fL carts),some (.lst bs),some (.frz (.int k)),some (.frz (.bl rg)),some (.frz (.int (if rg=true then l+1 else l)))]):=by
 unfold hI2;cases rg with
 |true=>simp only[a1f,a3o,a0p,qq1,qq0,↓evBind,a0n,a2y,a1m,a1o,a1g,a0f,a3h,a0j,a0m,a0l,a4a,a1h,qq2,qq3,qqf,Nat.reduceAdd,Nat.reduceLT,qq5,qq4,if_true,a1e]
 |false=>simp only[a1f,a3o,a0p,qq1,qq0,↓evBind,a0n,a2y,qqe,a1m,a1o,a1g,a0f,a3h,a0j,a0m,a0l,a4a,a1h,qq2,qq3,qqf,Nat.reduceAdd,Nat.reduceLT,qq5,qq4,if_true,a1e,if_false]
theorem e5q(ns:List Int)(k:Int)(names carts:List Str)(bs:List Belt)(rg:Bool)(l:Int)(nm:Str)(outs:List Str)(hb:(bs.map fB).length < 1000000)(ha:atI (names.map D.str) k=some (.str nm))(ho:b0a [.frz (.scr ns),.frz (.int k),fL names,fL carts]=some (.lst (outs.map fS),[none,none,none,none])):
  hA [some (.frz (.scr ns)),some (fL names),some (fL carts),some (.lst (bs.map fB)),some (.frz (.int k)),some (.frz (.bl rg)),some (.frz (.int l))]=some (.nx,[some (.frz (.scr ns)),some (fL names),some (fL carts),some (.lst ((bs++[Belt.mk nm l rg outs]).map fB)),some (.frz (.int k)),some (.frz (.bl rg)),some (.frz (.int l))]):=by
 rw[List.map_append,List.map_cons,List.map_nil];rw[show fB (Belt.mk nm l rg outs)=.frz (.tup [.str nm,.int l,.bl rg,.lst (outs.map .str)]) from rfl];unfold hA;generalize bs.map fB=bl at *;have hm:∀x:O,a7j (.lst bl) [x]=some (.lst (bl++[x]),.frz .non):=fun x=>if_pos hb
 simp only[a2x,b5t,a0p,qq1,qq0,↓evBind,a0f,a1o,a3i,a1g,a0j,a0m,a0n,a0l,a3f,b0i,ha,↓evMap,a1b,a0y,a0t,ho,a2l,a2c,a6m,d3n,qq2,qq3,qqf,Nat.reduceAdd,Nat.reduceLeDiff,a2k,a1x,if_true,b9o,a1p,a1h,a1j,hm,qq5,qq4]
theorem e1v(ns:List Int)(k:Nat)(names carts:List Str)(hand:Str)(bs:List Belt)(a5 a6:Option O)(hk:k < names.length)(hl:names.length<=5)(hh:carts.head?=some hand)(hc:carts.length<=4)(hb:bs.length<=100):
  ∃b:Belt,b.name=names.getD k ""/\1<=b.long/\(b.ring=true->2<=b.long)/\OutsOk (names.drop (k+1)) carts hand b.outs/\∃a5' a6',hB [some (.frz (.scr ns)),some (fL names),some (fL carts),some (.lst (bs.map fB)),some (.frz (.int k)),a5,a6]=some (.nx,[some (.frz (.scr ns)),some (fL names),some (fL carts),some (.lst ((bs++[b]).map fB)),some (.frz (.int k)),a5',a6']):=by
 have hp:=b8l ns (1+k) 3 (by omega) (by decide)
 have ho:=c0u ns (1+k) 5 (by omega) (by decide)
 obtain⟨o1,o2,o3⟩:=a3n ns (1+k) 1 5 (by omega) (by decide) (by decide)
 rw[show((1+k:Nat):Int)=1+(k:Int) by omega] at hp ho
 obtain⟨outs,ok,eo⟩:=e4h ns k names carts hand (by omega) hl hh hc
 obtain⟨l',l1,e1⟩:=e4l ns k names carts (bs.map fB) (dgv ns (1+k) 0 3 == 0) (1+dgv ns (1+k) 1 5) (by omega)
 have e2:=e4m ns k names carts (bs.map fB) (dgv ns (1+k) 0 3 == 0) l';have ha:=d3t (xs:=names) (k:=(k:Int)) (by omega) (by omega)
 rw[Int.toNat_natCast] at ha;have e3:=e5q ns k names carts bs (dgv ns (1+k) 0 3 == 0) (if(dgv ns (1+k) 0 3 == 0)=true then l'+1 else l') _ outs (by rw[List.length_map];omega) ha eo
 refine⟨Belt.mk (names.getD k "") (if(dgv ns (1+k) 0 3 == 0)=true then l'+1 else l') (dgv ns (1+k) 0 3 == 0) outs,rfl,?_,fun hr=>?_,ok,some (.frz (.bl (dgv ns (1+k) 0 3 == 0))),some (.frz (.int (if(dgv ns (1+k) 0 3 == 0)=true then l'+1 else l'))),?_⟩
 ·show 1<=if(dgv ns (1+k) 0 3 == 0)=true then l'+1 else l'
  split <;> omega
 ·have hr:(dgv ns (1+k) 0 3 == 0)=true:=hr;show 2<=if(dgv ns (1+k) 0 3 == 0)=true then l'+1 else l'
  rw[if_pos hr];omega
 ·generalize(bs++[Belt.mk (names.getD k "") (if(dgv ns (1+k) 0 3 == 0)=true then l'+1 else l') (dgv ns (1+k) 0 3 == 0) outs]).map fB=b2 at *
  generalize bs.map fB=b1 at *;generalize(if(dgv ns (1+k) 0 3 == 0)=true then l'+1 else l')=l2 at *
  generalize(k:Int)=ki at *;generalize dgv ns (1+k) 0 3=pv at *;unfold hB;simp only[a0x,a1m,a1g,a0f,a0z,a0p,qq0,↓evBind,a3h,qq1,a0j,a0m,a0n,a0l,a4a,a1p,a1h,a1j,qq6,qq7,hp,a3r,a7l,a5e,and_self,a7b,if_true,qq2,qq3,qqf,Nat.reduceAdd,Nat.reduceLT,qq5,qq4,a1o,ho,e1,e2,e3]
theorem c8s(ns:List Int)(n:Nat)(hn:n<=14):∃a,compLoop (a0r 0) gYes (a1i a3w (a0c (gVar 1) (a0c (gC (.int 11)) (a0c (gVar 0) gaNil)))) (rngD 0 n) [none,some (.frz (.scr ns))] []=some ((((List.range n).map (nmS ns)).map D.str).map .frz,[a,some (.frz (.scr ns))]):=by
 obtain⟨Γ,⟨a,rfl⟩,e⟩:=b9p (g:=a0r 0) (ct:=gYes) (ce:=a1i a3w (a0c (gVar 1) (a0c (gC (.int 11)) (a0c (gVar 0) gaNil)))) (fun Γ=>∃a,Γ=[a,some (.frz (.scr ns))]) (fun(k:Nat)=>D.int (0+(k:Int))) (fun k=>D.str (nmS ns k)) (List.range n) [none,some (.frz (.scr ns))] ⟨_,rfl⟩ (by rw[List.length_range];omega) fun i m Γ hΓ=>by
  obtain⟨a,rfl⟩:=hΓ;have h:=d8o ns i (by have:=List.mem_range.mp m;omega)
  refine⟨[some (.frz (.int (i:Int))),some (.frz (.scr ns))],?_,⟨_,rfl⟩⟩;rw[Int.zero_add];generalize(i:Int)=ii at *;simp only[a7c,a2j,qq2,qq3,qqf,Nat.reduceAdd,Nat.reduceLT,qq4,if_true,↓evBind,b5w,a0z,a0f,a0p,qq1,qq0,a3h,a0j,a0m,a0n,a0l,a1p,a1h,a1j,qq6,qq7,h,d1h]
 rw[b4g];exact⟨a,by rw[e];simp only[List.map_map,Function.comp_def]⟩
theorem c8t(ns:List Int)(n:Nat)(hn:n<=4):∃a,compLoop (a0r 0) gYes (a1i a3w (a0c (gVar 1) (a0c (gC (.int 11)) (a0c (gBin oAdd (gC (.int 10)) (gVar 0)) gaNil)))) (rngD 0 n) [none,some (.frz (.scr ns))] []=some ((((List.range n).map fun i=>nmS ns (10+i)).map D.str).map .frz,[a,some (.frz (.scr ns))]):=by
 obtain⟨Γ,⟨a,rfl⟩,e⟩:=b9p (g:=a0r 0) (ct:=gYes) (ce:=a1i a3w (a0c (gVar 1) (a0c (gC (.int 11)) (a0c (gBin oAdd (gC (.int 10)) (gVar 0)) gaNil)))) (fun Γ=>∃a,Γ=[a,some (.frz (.scr ns))]) (fun(k:Nat)=>D.int (0+(k:Int))) (fun k=>D.str (nmS ns (10+k))) (List.range n) [none,some (.frz (.scr ns))] ⟨_,rfl⟩ (by rw[List.length_range];omega) fun i m Γ hΓ=>by
  obtain⟨a,rfl⟩:=hΓ;have h:=d8o ns (10+i) (by have:=List.mem_range.mp m;omega)
  rw[show((10+i:Nat):Int)=10+(i:Int) by omega] at h
  refine⟨[some (.frz (.int (i:Int))),some (.frz (.scr ns))],?_,⟨_,rfl⟩⟩;rw[Int.zero_add];generalize(i:Int)=ii at *;simp only[a7c,a2j,qq2,qq3,qqf,Nat.reduceAdd,Nat.reduceLT,qq4,if_true,↓evBind,b5w,a0z,a0f,a0p,qq1,qq0,a3h,a1g,a0j,a0m,a0n,a0l,a4a,a1p,a1h,a1j,qq6,qq7,h,d1h]
 rw[b4g];exact⟨a,by rw[e];simp only[List.map_map,Function.comp_def]⟩
theorem c3d(names carts:List Str)(nd:names.Nodup)(dj:∀x∈names,x∉carts):∀(bs:List Belt) (j:Nat),j+bs.length=names.length->(∀i b,bs[i]?=some b->b.name=names.getD (j+i) ""/\∀o∈b.outs,o∈names.drop (j+i+1)++carts)->Fwd carts bs/\bs.map Belt.name=names.drop j
 |[],j,hl,_=>⟨True.intro,by rw[List.drop_eq_nil_of_le (by simp at hl;omega)];rfl⟩
 |b::bs,j,hl,h=>by
  rw[List.length_cons] at hl;obtain⟨f,e⟩:=c3d names carts nd dj bs (j+1) (by omega) fun i b hb=>by
   have:=h (i+1) b (by simpa using hb)
   rw[show j+(i+1)=j+1+i by omega] at this
   exact this
  obtain⟨h1,h2⟩:=h 0 b rfl;rw[Nat.add_zero] at h1 h2;have hj:j < names.length:=by omega
  have ed:names.drop j=names[j]::names.drop (j+1):=List.drop_eq_getElem_cons hj;have en:b.name=names[j]:=by rw[h1,List.getD_eq_getElem?_getD,List.getElem?_eq_getElem hj];rfl
  have nd':(names.drop j).Nodup:=nd.sublist (List.drop_sublist _ _);rw[ed] at nd';refine⟨⟨fun o ho=>?_,?_,?_,f⟩,by rw[List.map_cons,e,en,ed]⟩
  ·rcases List.mem_append.mp (h2 o ho) with z|z
   ·exact .inl (by rw[e];exact z)
   ·exact .inr z
  ·rw[e,en];exact(List.nodup_cons.mp nd').1
  ·rw[en];exact dj _ (List.getElem_mem hj)
theorem d4g:∀{bs:List Belt},(∀b∈bs,b.outs.length<=4)->(bs.map fun x=>x.outs.length).sum<=4 * bs.length
 |[],_=>Nat.le_refl _
 |b::bs,h=>by
  rw[List.map_cons,List.sum_cons,List.length_cons];have:=d4g fun b m=>h b (List.mem_cons_of_mem _ m)
  have:=h b (List.mem_cons_self ..);omega
theorem c7a(ns:List Int)(l:List Nat)(nd:l.Nodup)(hl:∀i∈l,i < 14):(l.map (nmS ns)).Nodup:=by
 rw[List.Nodup,List.pairwise_map];exact nd.imp_of_mem fun ha hb ne z=>ne (d8p ns _ _ (hl _ ha) (hl _ hb) z)
theorem d4h(ns:List Int)(n c:Int)(names carts:List Str)(a1 a2 a4 a5 a6:Option O)(bs:List O)(hp:a3m [.frz (.scr ns),.frz (.int 0),.frz (.int 5)]=some (.frz (.int n),[none,none,none]))(ho:a4e [.frz (.scr ns),.frz (.int 0),.frz (.int 4)]=some (.frz (.int c),[none,none,none]))
  (i1:int1 [.own (.frz (.int (1+n)))]=some (1+n)) (i2:int1 [.own (.frz (.int (1+c)))]=some (1+c)) (nl:Int) (el:((names.map D.str).length:Int)=nl) (i3:int1 [.own (.frz (.int nl))]=some nl)
  (e1:compLoop (a0r 0) gYes (a1i a3w (a0c (gVar 1) (a0c (gC (.int 11)) (a0c (gVar 0) gaNil)))) (rngD 0 (1+n).toNat) [none,some (.frz (.scr ns))] []=some ((names.map D.str).map .frz,[a1,some (.frz (.scr ns))]))
  (e2:compLoop (a0r 0) gYes (a1i a3w (a0c (gVar 1) (a0c (gC (.int 11)) (a0c (gBin oAdd (gC (.int 10)) (gVar 0)) gaNil)))) (rngD 0 (1+c).toNat) [none,some (.frz (.scr ns))] []=some ((carts.map D.str).map .frz,[a2,some (.frz (.scr ns))]))
  (e3:a2u (a0r 4) hB (rngD 0 nl.toNat) [some (.frz (.scr ns)),some (fL names),some (fL carts),some (.lst []),none,none,none]=some (.nx,[some (.frz (.scr ns)),some (fL names),some (fL carts),some (.lst bs),a4,a5,a6])) :
  a7w [.frz (.scr ns)]=some (.tup [.lst bs,fL carts],[none]):=by
 unfold a7w;unfold b7e;unfold cN cC;simp only[a1a,qq6,qq7,qq2,qq3,qqf,Nat.reduceSub,qq9,qq8,qqb,qqc,a0x,a1m,a1o,a4t,d6d,a0f,a1g,a3h,↓evBind,a0z,a0p,qq0,a0j,a0m,a0n,a0l,a1p,a1h,a1j,hp,a3r,a4a,i1,↓evMap,a5p,Option.join_some,qq4,a3s,e1,Nat.reduceAdd,List.drop_succ_cons,List.drop_zero,a5q,a3t,if_true,a6m,b7y,Nat.reduceLT,qq5,ho,i2,e2,a3i,Nat.reduceLeDiff,a1x,d6c,qq1,a5l,a5d,el,i3,e3,a2b,c3y,a2k,a2z,qqa,qqd,a2s,a2i]
theorem e1w(ns:List Int):∃h:House,GoodH h/\(∀b∈h.belts,∃i,b.name=nmS ns i)/\0 < h.belts.length/\h.belts.length<=5/\h.carts.length<=4/\a7w [.frz (.scr ns)]=some (.tup [.lst (h.belts.map fB),fL h.carts],[none]):=by
 obtain⟨p1,p2,p3⟩:=a3n ns 0 0 5 (by decide) (by decide) (by decide)
 obtain⟨q1,q2,q3⟩:=a3n ns 0 1 4 (by decide) (by decide) (by decide)
 have hp:=b8l ns 0 5 (by decide) (by decide)
 have ho:=c0u ns 0 4 (by decide) (by decide)
 obtain⟨a1,e1⟩:=c8s ns (1+dgv ns 0 0 5).toNat (by omega)
 obtain⟨a2,e2⟩:=c8t ns (1+dgv ns 0 1 4).toNat (by omega)
 have nl:((List.range (1+dgv ns 0 0 5).toNat).map (nmS ns)).length=(1+dgv ns 0 0 5).toNat:=by simp
 have cl:((List.range (1+dgv ns 0 1 4).toNat).map fun i=>nmS ns (10+i)).length=(1+dgv ns 0 1 4).toNat:=by simp
 have nnd:((List.range (1+dgv ns 0 0 5).toNat).map (nmS ns)).Nodup:=c7a ns _ List.nodup_range fun i m=>by have:=List.mem_range.mp m;omega
 have cnd:((List.range (1+dgv ns 0 1 4).toNat).map fun i=>nmS ns (10+i)).Nodup:=by
  rw[show(fun i=>nmS ns (10+i))=nmS ns∘(10+·) from rfl,<-List.map_map]
  refine c7a ns _ ?_ fun i m=>?_
  ·rw[List.Nodup,List.pairwise_map];exact List.nodup_range.imp fun ne z=>ne (by omega)
  ·obtain⟨j,hj,rfl⟩:=List.mem_map.mp m;have:=List.mem_range.mp hj;omega
 have dj:∀x∈(List.range (1+dgv ns 0 0 5).toNat).map (nmS ns),x∉(List.range (1+dgv ns 0 1 4).toNat).map fun i=>nmS ns (10+i):=fun x hx hc=>by
  obtain⟨i,hi,rfl⟩:=List.mem_map.mp hx;obtain⟨j,hj,e⟩:=List.mem_map.mp hc;have h1:=List.mem_range.mp hi;have h2:=List.mem_range.mp hj;have:=d8p ns _ _ (by omega) (by omega) e
  omega
 have nmN:∀x∈(List.range (1+dgv ns 0 0 5).toNat).map (nmS ns),isN x:=fun x hx=>by
  obtain⟨i,hi,rfl⟩:=List.mem_map.mp hx;exact c3a _ (c2z ns i).1 (c2z ns i).2 (c6n ns i)
 have nmC:∀x∈(List.range (1+dgv ns 0 1 4).toNat).map (fun i=>nmS ns (10+i)),isN x:=fun x hx=>by
  obtain⟨i,hi,rfl⟩:=List.mem_map.mp hx;exact c3a _ (c2z ns (10+i)).1 (c2z ns (10+i)).2 (c6n ns (10+i))
 have nmI:∀x∈(List.range (1+dgv ns 0 0 5).toNat).map (nmS ns),∃i,x=nmS ns i:=fun x hx=>by
  obtain⟨i,hi,rfl⟩:=List.mem_map.mp hx;exact⟨i,rfl⟩
 generalize(List.range (1+dgv ns 0 0 5).toNat).map (nmS ns)=names at *;generalize((List.range (1+dgv ns 0 1 4).toNat).map fun i=>nmS ns (10+i))=carts at *
 obtain⟨hand,hh⟩:∃x,carts.head?=some x:=by
  cases carts with
  |nil=>simp at cl;omega
  |cons a b=>exact⟨a,rfl⟩
 obtain⟨Γ1,e3,bs,a4,a5,a6,bl,bp,rfl⟩:=a7d (g:=a0r 4) (f:=hB) (fun(i:Nat)=>D.int (0+(i:Int))) (fun pre Γ=>∃(bs:List Belt) (a4 a5 a6:Option O),bs.length=pre.length/\(∀i b,bs[i]?=some b->b.name=names.getD i ""/\1<=b.long/\(b.ring=true->2<=b.long)/\OutsOk (names.drop (i+1)) carts hand b.outs)/\Γ=[some (.frz (.scr ns)),some (fL names),some (fL carts),some (.lst (bs.map fB)),a4,a5,a6]) (List.range (names.length:Int).toNat) []
  [some (.frz (.scr ns)),some (fL names),some (fL carts),some (.lst []),none,none,none] ⟨[],none,none,none,rfl,fun i b e=>(by simp at e),rfl⟩ (by
   rintro q i post Γ eq ⟨bs,a4,a5,a6,bl,bp,rfl⟩;rw[List.nil_append] at *;have hi:i < names.length:=by
    have:i∈List.range (names.length:Int).toNat:=by rw[eq];simp
    have:=List.mem_range.mp this;omega
   have hq:q.length=i:=by
    have h1:=congrArg (fun l=>l[q.length]?) eq
    simp only[List.getElem?_append_right (Nat.le_refl _),Nat.sub_self,qq0] at h1;have h2:q.length < (names.length:Int).toNat:=by have:=congrArg List.length eq;simp at this;omega
    rw[List.getElem?_range h2] at h1;exact Option.some.inj h1
   obtain⟨b,b1,b2,b3,b4,a5',a6',e⟩:=e1v ns i names carts hand bs a5 a6 hi (by omega) hh (by omega) (by omega)
   refine⟨_,?_,bs++[b],some (.frz (.int i)),a5',a6',by rw[List.length_append,List.length_append,bl];rfl,fun j b' hb'=>?_,rfl⟩
   ·rw[Int.zero_add];generalize(i:Int)=ii at *;generalize(bs++[b]).map fB=l2 at *;generalize bs.map fB=l1 at *;simp only[a2j,qq2,qq3,qqf,Nat.reduceAdd,Nat.reduceLT,qq5,qq4,if_true,↓evBind,e]
   ·by_cases hj:j < bs.length
    ·rw[List.getElem?_append_left hj] at hb';exact bp j b' hb'
    ·rw[List.getElem?_append_right (by omega)] at hb'
     have:j - bs.length=0:=by
      have:=(List.getElem?_eq_some_iff.mp hb').1;simp at this;omega
     rw[this] at hb';cases hb';have ej:j=i:=by omega
     rw[ej];exact⟨b1,b2,b3,b4⟩)
 rw[List.nil_append,List.length_range] at bl;rw[<-b4g] at e3;obtain⟨fw,en⟩:=c3d names carts nnd dj bs 0 (by omega) fun i b hb=>by
  rw[Nat.zero_add];exact⟨(bp i b hb).1,(bp i b hb).2.2.2.sub⟩
 rw[List.drop_zero] at en;have gi:∀b∈bs,∃i,bs[i]?=some b:=fun b hb=>List.mem_iff_getElem?.mp hb
 have hg:carts.getD 0 ""=hand:=by
  cases carts with
  |nil=>cases hh
  |cons a b=>cases hh;rfl
 refine⟨⟨bs,carts⟩,⟨fw,⟨by show bs.length<=100;omega,by show carts.length<=100;omega,?_⟩,fun b hb=>?_,nmC,fun b hb=>?_,fun b hb=>?_,cnd,by show 0 < carts.length;omega,fun b hb=>?_⟩,fun b hb=>nmI _ (by rw[<-en];exact List.mem_map_of_mem hb),by show 0 < bs.length;omega,by show bs.length<=5;omega,by show carts.length<=4;omega,d4h ns _ _ names carts a1 a2 a4 a5 a6 _ hp ho (int1_of (by omega)) (int1_of (by omega)) (names.length:Int) (by rw[List.length_map]) (int1_of (by omega)) e1 e2 e3⟩
 ·have:=d4g (bs:=bs) fun b hb=>by
   obtain⟨i,hi⟩:=gi b hb;exact(bp i b hi).2.2.2.len
  show(bs.map fun x=>x.outs.length).sum<=900
  omega
 ·exact nmN _ (by rw[<-en];exact List.mem_map_of_mem hb)
 ·obtain⟨i,hi⟩:=gi b hb;exact⟨(bp i b hi).2.1,(bp i b hi).2.2.1⟩
 ·obtain⟨i,hi⟩:=gi b hb;show carts.getD 0 ""∈b.outs\/∃o∈b.outs,o∈bs.map Belt.name;rw[hg,en];rcases(bp i b hi).2.2.2.hand with z|⟨o,z1,z2⟩
  ·exact .inl z
  ·exact .inr ⟨o,z1,List.mem_of_mem_drop z2⟩
 ·obtain⟨i,hi⟩:=gi b hb;exact(bp i b hi).2.2.2.nd
theorem b8n{carts:List Str}:∀{bs:List Belt},Fwd carts bs->∀b∈bs,findB bs b.name=some b
 |x::bs,f,b,hb=>by
  rcases List.mem_cons.mp hb with rfl|hb
  ·unfold findB;rw[List.find?_cons,beq_self_eq_true]
  ·have:(x.name == b.name)=false:=by
    rw[beq_eq_false_iff_ne];exact fun e=>f.2.1 (by rw[e];exact List.mem_map_of_mem (f:=Belt.name) hb)
   unfold findB;rw[List.find?_cons,this];exact b8n f.2.2.2 b hb
def toldL(b:Belt):List O:=[.frz (.str b.name),.frz (.int b.long),.frz (.bl b.ring),.lst (b.outs.map fS)]
abbrev toldO(b:Belt):O:=.tup (toldL b)
theorem b2b(xs:List Str):oList [.frz (.lst (xs.map .str))]=some (.lst (xs.map fS)):=by
 rw[c6q];rfl
theorem d4i(n:Str)(hd:D):∀(bs:List Belt) (a:Option O),∃Γ',a2u (a0r 2) (gsIf (gT (gBin oEq (gBin oIx (gVar 2) (gC (.int 0))) (gVar 1)))
  (gsRet (gSeq .tup (a0c (gBin oIx (gVar 2) (gC (.int 0))) (a0c (gBin oIx (gVar 2) (gC (.int 1))) (a0c (gBin oIx (gVar 2) (gC (.int 2))) (a0c (gOp oList (a0c (gBin oIx (gVar 2) (gC (.int 3))) gaNil)) gaNil))))))
  gsNil) (bs.map beltD) [some (.frz hd),some (fS n),a]=some (match findB bs n with|some b=>.rt (toldO b)|none=>.nx,[some (.frz hd),some (fS n),Γ'])
 |[],a=>⟨a,rfl⟩
 |b::bs,a=>by
  cases hc:b.name == n with
  |true=>
   have e:findB (b::bs) n=some b:=by unfold findB;rw[List.find?_cons,hc]
   refine⟨some (fB b),?_⟩;rw[e];simp only[qq6,beltD,a6f,a2j,qq2,qq3,qqf,Nat.reduceAdd,Nat.reduceLT,qq5,qq4,if_true,↓evBind,a1f,a6e,a1g,a0f,a0p,qq1,qq0,a3h,a0j,a0m,a0n,a0l,a3f,a6z,a4o,↓evMap,a7l,a1h,a7m,and_self,b3i,hc,a2b,a3i,a7a,b4e,b4f,b2b,Nat.reduceLeDiff,a2k,a1x,a1e];rfl
  |false=>
   have e:findB (b::bs) n=findB bs n:=by unfold findB;rw[List.find?_cons,hc]
   obtain⟨g',e'⟩:=d4i n hd bs (some (fB b));refine⟨g',?_⟩;rw[e,<-e'];unfold beltD at *;simp only[qq6,a6f,a2j,qq2,qq3,qqf,Nat.reduceAdd,Nat.reduceLT,qq5,qq4,if_true,↓evBind,a1f,a6e,a1g,a0f,a0p,qq1,qq0,a3h,a0j,a0m,a0n,a0l,a3f,a6z,a4o,↓evMap,a7l,a1h,a7m,and_self,b3i,hc,qqe,a2b,a3i,a7a,b4e,b4f,a1e,if_false];rfl
theorem x_of(h:House)(n:Str):a7v [.frz (a0u h),fS n]=some (match findB h.belts n with|some b=>toldO b|none=>.frz .non,[none,none]):=by
 obtain⟨g',e⟩:=d4i n (a0u h) h.belts none;unfold a7v b6s;unfold a0u at *;cases q:findB h.belts n with
 |none=>
  rw[q] at e;simp only[a1a,qq6,qq7,qq2,qq3,qqf,Nat.reduceAdd,Nat.reduceSub,qq9,qq8,qqb,qqc,a0x,a8s,a1o,a1g,a0f,a0p,qq0,↓evBind,a3h,a0j,a0m,a0n,a0l,a3f,a6z,a4o,↓evMap,a1h,e,a2b,a2z,qqa,qqd,a2s,a2i,if_true]
 |some b=>
  rw[q] at e;simp only[a1a,qq6,qq7,qq2,qq3,qqf,Nat.reduceAdd,Nat.reduceSub,qq9,qq8,qqb,qqc,a0x,a8s,a1o,a1g,a0f,a0p,qq0,↓evBind,a3h,a0j,a0m,a0n,a0l,a3f,a6z,a4o,↓evMap,a1h,e,a2z,qqa,qqd,a2s,a2i,if_true]
theorem e4n(b:Belt):(toldO b).d=beltD b:=by unfold toldO toldL beltD;simp only[a1p,a1j,a1h,a6m,b9o,d3n]
theorem e5r(h:House)(b:Belt)(f:Fwd h.carts h.belts)(hb:b∈h.belts):a7v [.frz (a0u h),fS b.name]=some (toldO b,[none,none]):=by
 have e:=x_of h b.name;rw[b8n f b hb] at e;exact e
theorem b7i{α:Type}{g:GG}{ct:GT}{ce:GE}(St:Gm->Prop)(enc:α->D)(val:α->O):∀(xs:List α) (acc:List O) (Γ:Gm),St Γ->acc.length+xs.length < 1000000->
  (∀x∈xs,∀Γ,St Γ->∃Γ',a9v g ct ce (enc x) Γ=some (some (.own (val x)),Γ')/\St Γ')->∃Γ',St Γ'/\compLoop g ct ce (xs.map enc) Γ acc=some (acc++xs.map val,Γ')
 |[],acc,Γ,hS,_,_=>⟨Γ,hS,by rw[List.map_nil,b1k,List.map_nil,List.append_nil]⟩
 |x::xs,acc,Γ,hS,hl,h=>by
  rw[List.length_cons] at hl;obtain⟨Γ1,e1,s1⟩:=h x (.head _) Γ hS;rw[List.map_cons,b5y e1];obtain⟨Γ2,s2,e2⟩:=b7i St enc val xs (acc++[val x]) Γ1 s1 (by rw[List.length_append,List.length_singleton];omega) fun y hy=>h y (.tail _ hy)
  refine⟨Γ2,s2,?_⟩;show(if acc.length < 1000000 then compLoop g ct ce (xs.map enc) Γ1 (acc++[val x]) else none)=_
  rw[if_pos (by omega),e2,List.map_cons,List.append_assoc]
  rfl
abbrev a2r(h:House):O:=.tup [.lst (h.belts.map toldO),.lst (h.carts.map fS)]
theorem e1x(bs:List Belt):O.dl (bs.map toldO)=bs.map beltD:=by
 induction bs with
 |nil=>rfl
 |cons b bs ih=>rw[List.map_cons,List.map_cons,a1p,e4n,ih]
theorem b7j(h:House):(a2r h).d=a0u h:=by
 unfold a2r a0u;simp only[a1p,a1j,a1h,a6m,b9o,d3n,e1x]
theorem c7b(g:GoodH h):b1q [.frz (a0u h)]=some (a2r h,[none]):=by
 have bl:=g.sm.bl;have e1:=a9r h.belts (by omega)
 obtain⟨Γ,⟨a,rfl⟩,e⟩:=b7i (g:=a0r 0) (ct:=gYes) (ce:=gCall a7v (a0c (gVar 1) (a0c (gVar 0) gaNil))) (fun Γ=>∃a,Γ=[a,some (.frz (a0u h))]) (fun b:Belt=>D.str b.name) toldO h.belts [] [none,some (.frz (a0u h))] ⟨_,rfl⟩ (by rw[List.length_nil];omega) fun b m Γ hΓ=>by
  obtain⟨a,rfl⟩:=hΓ;have h1:=e5r h b g.fwd m;refine⟨[some (.frz (.str b.name)),some (.frz (a0u h))],?_,⟨_,rfl⟩⟩;generalize toldO b=tb at *;simp only[a7c,a2j,qq2,qq3,qqf,Nat.reduceAdd,Nat.reduceLT,qq4,if_true,↓evBind,b5w,a1b,a0f,a0p,qq1,qq0,a0j,a0y,a0t,h1,a2l,a2c]
 rw[List.nil_append] at e;have dn:=e5b (h.belts.map Belt.name);have mn:(h.belts.map Belt.name).map D.str=h.belts.map fun b=>D.str b.name:=by rw[List.map_map];rfl
 rw[mn] at dn;have e0:=xh0 h;have e01:=xh1 h;have ol:=b2b h.carts;unfold b1q c0i a2r;generalize h.belts.map (fun b=>D.str b.name)=l1 at *
 generalize(h.belts.map Belt.name).map fS=l2 at *;generalize h.belts.map toldO=l3 at *;simp only[a1a,qq6,qq7,qq2,qq3,qqf,Nat.reduceSub,qq9,qq8,qqb,qqc,a0x,a1m,a4t,a7k,a1o,a1b,a0f,a1g,a0p,qq0,↓evBind,a3h,a0j,a0m,a0n,a0l,a3f,e0,a0y,a0t,e1,a2l,a2c,a6m,dn,a5p,Option.join_some,qq4,a3s,e,Nat.reduceAdd,List.drop_succ_cons,List.drop_zero,a5q,a3t,if_true,Nat.reduceLT,qq5,a2b,a3i,c3y,qq1,e01,ol,Nat.reduceLeDiff,a2k,a1x,a2z,qqa,qqd,a2s,a2i]
abbrev rest0(n:Int)(bk hl pl rd ro:List (TK×O)):List O:=[.frz (.int n),.frz (.int 0),.dct bk,.dct hl,.dct pl,.dct rd,.dct ro,.lst [],.dct []]
abbrev HL(h:House)(n:Int)(bk hl pl rd ro:List (TK×O)):O:=.ins cHall hns (.frz (a0u h)::rest0 n bk hl pl rd ro)
abbrev HN(h:House)(n:Int):O:=HL h n [] [] [] [] []
abbrev HM(h:House)(n:Int):O:=.ins cHall hns (a2r h::rest0 n [] [] [] [] [])
theorem d8u(g:GoodH h)(n:Int):a7h [.ins cHall hns [],.frz (a0u h),.frz (.int n)]=some (.frz .non,[some (HM h n),none,none]):=by
 have e1:=e1u g;have e2:=c7b g;unfold a7h b4u HM;generalize a0u h=hd at *;generalize a2r h=ho at *;simp only[a1a,qq6,qq7,qq2,qq3,qqf,Nat.reduceAdd,Nat.reduceSub,qq8,List.append_nil,a0x,a3u,a1b,a0f,a0p,qq1,qq0,↓evBind,a0j,a0y,a0t,e1,a2l,a2c,d2m,d2c,e2,and_self,qqc,qq4,if_true,qqb,a3h,b1i,a3i,Nat.reduceLeDiff,a1x,b3r,qqa,qqd,a5u,a2s,a2i]
theorem d4j(xs:List Str):plL (xs.map fS)=true:=by
 induction xs with
 |nil=>rfl
 |cons x xs ih=>rw[List.map_cons,plL,ih];rfl
theorem e1y(bs:List Belt):plL (bs.map toldO)=true:=by
 induction bs with
 |nil=>rfl
 |cons b bs ih=>
  rw[List.map_cons,plL,ih];unfold toldO toldL;rw[plO,plL,plL,plL,plL,plO,plO,plO,plO,d4j];rfl
theorem d4k(h:House)(n:Int):plO (HM h n)=true:=by
 unfold HM a2r rest0;rw[plO,plL,plO,plL,plO,e1y,plL,plO,d4j];rfl
section
variable {h:House} {n:Int} {bk hl pl rd ro:List (TK×O)} {x:Str}
theorem e4o(g:GoodH h)(hx:x∈h.belts.map Belt.name):a4k [HL h n bk hl pl rd ro,fS x]=some (.frz .non,[some (HL h n bk hl pl rd ro),none]):=by
 have bl:=g.sm.bl;have e1:=a9r h.belts (by omega)
 have e0:=xh0 h;have e2:=b1z true x (h.belts.map Belt.name);rw[List.contains_iff_mem.mpr hx,if_pos rfl] at e2;unfold a4k a7o;generalize(h.belts.map Belt.name).map fS=l2 at *;generalize h.belts.map beltD=l1 at *;simp only[a1a,qq6,qq7,qq2,qq3,qqf,Nat.reduceAdd,Nat.reduceSub,qq8,List.append_nil,a1f,a6e,a1g,a0f,a0p,qq1,qq0,↓evBind,a1b,a6d,and_self,if_true,a3h,a0j,a0m,a0n,a0l,a3f,e0,a0y,a0t,e1,a2l,a2c,e2,Bool.not_true,qqe,a6g,a1e,if_false,b3r,qqa,qqd,a5u,a2s,a2i]
theorem e4p(hn:isN x)(hx:oInG true [.frz (.str x),.dct pl]=some (.frz (.bl true))):a2q [HL h n bk hl pl rd ro,fS x]=some (.frz (.exc 140 none),[some (HL h n bk hl pl rd ro),none]):=by
 unfold isN at hn;unfold a2q a4r;simp only[a1a,qq6,qq7,qq2,qq3,qqf,Nat.reduceAdd,Nat.reduceSub,qq8,List.append_nil,a1f,a7u,a4i,a3o,a0z,a0f,a0p,qq1,qq0,↓evBind,a0j,a0m,a0n,a0l,a1p,a1h,a1j,hn,a6n,a2y,Bool.not_true,qqe,a6e,a1g,a6d,and_self,if_true,a8h,hx,if_false,a6g,a3h,a1e,a2z,qqa,qqd,a5u,a2s,a2i]
theorem e5s(hn:isN x)(hx:oInG true [.frz (.str x),.dct pl]=some (.frz (.bl false))):a2q [HL h n bk hl pl rd ro,fS x]=some (.frz .non,[some (HL h n bk hl pl rd ro),none]):=by
 unfold isN at hn;unfold a2q a4r;simp only[a1a,qq6,qq7,qq2,qq3,qqf,Nat.reduceAdd,Nat.reduceSub,qq8,List.append_nil,a1f,a7u,a4i,a3o,a0z,a0f,a0p,qq1,qq0,↓evBind,a0j,a0m,a0n,a0l,a1p,a1h,a1j,hn,a6n,a2y,Bool.not_true,qqe,a6e,a1g,a6d,and_self,if_true,a8h,hx,if_false,a6g,a3h,a1e,b3r,qqa,qqd,a5u,a2s,a2i]
theorem c3e(x:Str):oInG false [.frz (.str x),.dct []]=some (.frz (.bl false)):=rfl
theorem d4l(x:Str):oInG true [.frz (.str x),.dct []]=some (.frz (.bl true)):=rfl
theorem d7f:b6h [.dct []]=some (.lst []):=rfl
theorem d4m(g:GoodH h):a9q [HN h n]=some (a2r h,[some (HN h n)]):=by
 have e2:=c7b g;unfold a9q b7a;generalize a2r h=ho at *;simp only[a1a,qq6,qq7,qq2,qq3,qqf,Nat.reduceSub,qq8,List.append_nil,a2b,a1b,a0f,a6d,qq0,and_self,if_true,↓evBind,a0j,a0y,a0t,e2,a2l,a2c,a2z,qqa,qqd,a5u,a2i]
theorem d7g:a9x [HN h n]=some (.frz (.int n),[some (HN h n)]):=by
 unfold a9x b2r;simp only[a1a,qq6,qq7,qq2,qq3,qqf,Nat.reduceSub,qq8,List.append_nil,a2b,a6d,qq0,and_self,qq1,if_true,↓evBind,a2z,qqa,qqd,a5u,a2i]
theorem d7h:a9y [HN h n]=some (.frz (.int 0),[some (HN h n)]):=by
 unfold a9y b2s;simp only[a1a,qq6,qq7,qq2,qq3,qqf,Nat.reduceSub,qq8,List.append_nil,a2b,a6d,qq0,and_self,qq1,if_true,↓evBind,a2z,qqa,qqd,a5u,a2i]
theorem c3f:a6s [HN h n]=some (.lst [],[some (HN h n)]):=by
 unfold a6s b0p;simp only[a1a,qq6,qq7,qq2,qq3,qqf,Nat.reduceSub,qq8,List.append_nil,a2b,a4t,a7k,a1o,a1g,a0f,a6d,qq0,and_self,qq1,if_true,↓evBind,a0j,a0m,a8h,a0l,d7f,a6m,a1j,qq9,a5p,Option.join_some,qq4,a3s,qqb,qqc,b1k,Nat.reduceAdd,List.drop_succ_cons,List.drop_zero,a5q,a3t,a2z,qqa,qqd,a5u,a2i]
theorem e5t:c0g [HN h n]=some (.lst [],[some (HN h n)]):=by
 have e:oList [.lst []]=some (.lst []):=rfl;unfold c0g c4m;simp only[a1a,qq6,qq7,qq2,qq3,qqf,Nat.reduceSub,qq8,List.append_nil,a2b,a1g,a0f,a6d,qq0,and_self,qq1,if_true,↓evBind,a0j,a0m,a8h,a0l,e,a2z,qqa,qqd,a5u,a2i]
theorem d4n(g:GoodH h):a8n [HN h n]=some (.lst [],[some (HN h n)]):=by
 have bl:=g.sm.bl;have e1:=a9r h.belts (by omega)
 have e0:=xh0 h;obtain⟨Γ,⟨a,rfl⟩,e⟩:=b1l (g:=a0r 0) (ct:=gT (gBin (oInG false) (gVar 0) (gFld cHall hns 1 4))) (ce:=gVar 0) (fun Γ=>∃a,Γ=[a,some (HN h n)]) D.str (fun _=>false) D.str (h.belts.map Belt.name) [] [none,some (HN h n)] ⟨_,rfl⟩ (by simp;omega) fun o m Γ hΓ=>by
  obtain⟨a,rfl⟩:=hΓ;refine⟨[some (.frz (.str o)),some (HN h n)],?_,⟨_,rfl⟩⟩;have hi:=c3e o;simp only[a7c,a2j,qq2,qq3,qqf,Nat.reduceAdd,Nat.reduceLT,qq4,if_true,↓evBind,a6e,a1g,a0f,a0p,qq0,a6d,qq1,and_self,a0j,a0m,a0n,a8h,a0l,hi,qqe,if_false]
 rw[List.nil_append,List.map_nil,List.filter_eq_nil_iff.mpr (fun _ _=>Bool.false_ne_true),List.map_nil,List.map_nil] at e
 have dn:=e5b (h.belts.map Belt.name);unfold a8n b0t;generalize(h.belts.map Belt.name).map fS=l2 at *;generalize h.belts.map beltD=l1 at *;simp only[a1a,qq6,qq7,qq2,qq3,qqf,Nat.reduceSub,qq8,List.append_nil,a2b,a4t,a7k,a1o,a1b,a0f,a1g,a6d,qq0,and_self,if_true,↓evBind,a3h,a0j,a0m,a0n,a0l,a3f,e0,a0y,a0t,e1,a2l,a2c,a6m,dn,qq9,a5p,Option.join_some,qq4,a3s,qqb,qqc,e,Nat.reduceAdd,List.drop_succ_cons,List.drop_zero,a5q,a3t,a2z,qqa,qqd,a5u,a2i]
theorem d4o(g:GoodH h):a5w [HN h n]=some (.lst [],[some (HN h n)]):=by
 have bl:=g.sm.bl;have e1:=a9r h.belts (by omega)
 have e0:=xh0 h;have dn:=e5b (h.belts.map Belt.name);have e3:List.all (α:=TK×O) [] (fun p=>isTxt p.1)=true:=rfl
 have e2:frzL []=some []:=rfl;have e4:List.zipWith (fun k d=>D.tup [k,d]) [] []=[]:=rfl
 have e5:b6h [.frz (.lst [])]=some (.lst []):=rfl;have e6:(0∈[1])=False:=eq_false (by decide)
 unfold a5w a9n;generalize(h.belts.map Belt.name).map fS=l2 at *;generalize(h.belts.map Belt.name).map D.str=l3 at *;generalize h.belts.map beltD=l1 at *;simp only[a1a,qq6,qq7,qq2,qq3,qqf,Nat.reduceSub,qq9,qq8,qqb,qqc,a0x,a1m,a1o,a1b,a0f,a1g,a6d,qq0,and_self,if_true,↓evBind,a3h,a0j,a0m,a0n,a0l,a3f,e0,a0y,a0t,e1,a2l,a2c,a6m,dn,Nat.reduceAdd,Nat.reduceLT,qq5,qq4,a4t,d6w,qq1,e6,e3,e2,↓evMap,e4,if_false,a5p,Option.join_some,a3s,b1k,List.drop_succ_cons,List.drop_zero,a5q,a3t,a1j,a2b,a7k,a0p,e5,List.append_nil,a2z,qqa,qqd,a5u,a2i]
theorem d8v(g:GoodH h):b1w [HN h n]=some (.lst [],[some (HN h n)]):=by
 have e1:=d4o (n:=n) g;unfold b1w c0p;simp only[a1a,qq6,qq7,qq2,qq3,qqf,Nat.reduceSub,qq8,List.append_nil,a2b,a4t,a7k,a1o,a4c,qq0,and_self,a1b,a0f,a0p,↓evBind,a0j,a2g,qq4,a0t,e1,a4b,a2c,if_true,a6m,a1j,qq9,a5p,Option.join_some,a3s,qqb,qqc,b1k,Nat.reduceAdd,List.drop_succ_cons,List.drop_zero,a5q,a3t,a2z,qqa,qqd,a5u,a2i]
theorem e4q(g:GoodH h):b4s [HN h n]=some (.lst [],[some (HN h n)]):=by
 have e1:=d4o (n:=n) g;unfold b4s c0r;simp only[a1a,qq6,qq7,qq2,qq3,qqf,Nat.reduceSub,qq8,List.append_nil,a2b,a4t,a7k,a1o,a4c,qq0,and_self,a1b,a0f,a0p,↓evBind,a0j,a2g,qq4,a0t,e1,a4b,a2c,if_true,a6m,a1j,qq9,a5p,Option.join_some,a3s,qqb,qqc,b1k,Nat.reduceAdd,List.drop_succ_cons,List.drop_zero,a5q,a3t,a2z,qqa,qqd,a5u,a2i]
theorem e1z(hn:isN x):a6u [HN h n,fS x]=some (.frz (.exc 140 none),[some (HN h n),none]):=by
 have e1:=e4p (h:=h) (n:=n) (bk:=[]) (hl:=[]) (rd:=[]) (ro:=[]) hn (d4l x);have e2:=c3e x;unfold isN at hn;unfold a6u b1x;simp only[a1a,qq6,qq7,qq2,qq3,qqf,Nat.reduceAdd,Nat.reduceSub,qq8,List.append_nil,a0x,a1f,a8d,a3o,a0z,a0f,a0p,qq1,qq0,↓evBind,a0j,a0m,a0n,a0l,a1p,a1h,a1j,hn,a6n,a2y,a6e,a1g,a6d,and_self,if_true,a8h,e2,qqe,c4d,a3f,a1e,if_false,a3u,a4c,a1b,a2g,qq4,a0y,a0t,e1,a4b,a2l,a2c,a9g,a2z,qqa,qqd,a5u,a2s,a2i]
theorem e4r(hn:isN x):a8p [HN h n,fS x]=some (.frz (.exc 140 none),[some (HN h n),none]):=by
 have e1:=e4p (h:=h) (n:=n) (bk:=[]) (hl:=[]) (rd:=[]) (ro:=[]) hn (d4l x);unfold a8p b0u;simp only[a1a,qq6,qq7,qq2,qq3,qqf,Nat.reduceAdd,Nat.reduceSub,qq8,List.append_nil,a0x,a3u,a4c,qq0,and_self,a1b,a0f,a0p,↓evBind,qq1,a0j,a2g,qq4,a0y,a0t,e1,a4b,a2l,a2c,if_true,a9g,a2z,qqa,qqd,a5u,a2s,a2i]
theorem d7i(hn:isN x):b0b [HN h n,fS x]=some (.frz (.bl true),[some (HN h n),none]):=by
 have e1:=e1z (h:=h) (n:=n) hn;have e2:=e4r (h:=h) (n:=n) hn;have e3:wE [44,56,68,80,92,104,116,128,140] 140 140=some true:=rfl;unfold b0b b2z;simp only[qq6,qq7,a1a,qq2,qq3,qqf,Nat.reduceAdd,Nat.reduceSub,qq9,qq8,qqb,qqc,a0x,a1m,a3h,↓evBind,Nat.reduceLT,qq5,qq4,if_true,d2e,a3u,a4c,qq0,and_self,a1b,a0f,a0p,qq1,a0j,a2g,a0y,a0t,e1,a4b,a2l,a2c,a9g,c4f,e3,b6k,e2,a2b,b5s,a6e,a2z,qqa,qqd,a5u,a2s,a2i]
end
def sB(S:GM):GS:=(gsIf (gNotT (gTru (a1i S (a0c (gBin oIx (gVar 0) (gVar 3)) (a0c (gBin oIx (gVar 1) (gVar 3)) gaNil)))))
  (gsRet (gC (.bl false)))
  gsNil)
abbrev yes2:Option (O×Gm):=some (.frz (.bl true),[none,none])
abbrev TL:O:=.tup [.frz (.ty "tuple"),.frz (.ty "list")]
theorem e5u{o p d:D}{ki:Int}(hx:oIx1 (.frz o) (.int ki)=some (.frz d))(hy:oIx1 (.frz p) (.int ki)=some (.frz d))(hS:S [.frz d,.frz d]=yes2)(kd a3:Option O):(a0r 3 (.int ki) [some (.frz o),some (.frz p),kd,a3]).bind (sB S)=some (.nx,[some (.frz o),some (.frz p),kd,some (.frz (.int ki))]):=by
 unfold sB yes2 at *;simp only[a2j,qq2,qq3,qqf,Nat.reduceAdd,Nat.reduceLT,qq5,qq4,if_true,↓evBind,a1f,a4i,a3o,a0z,a0f,a1g,a0p,qq0,qq1,a0j,a0m,a0n,a0l,a3f,hx,hy,a1p,a1h,a1j,qq6,qq7,hS,a6n,a2y,Bool.not_true,qqe,a2b,a3h,a1e,if_false]
theorem c7c{o:D}(it:Bool)(h2:oIsi2 [.frz o,TL]=some (.frz (.bl true)))(ht:oIsi [.frz o,.frz (.ty "tuple")]=some (.frz (.bl it)))(hl:oIsi [.frz o,.frz (.ty "list")]=some (.frz (.bl (!it))))(ln:lenD o=some L)(hL:L=(ds.length:Nat))(hz:ds.length<=1000)(ix:∀k:Int,oIx1 (.frz o) (.int k)=(atI ds k).map .frz)
  (hS:∀d∈ds,S [.frz d,.frz d]=yes2):runM 4 [false,false] (a5r S) [.frz o,.frz o]=yes2:=by
 have lp:∃a,a2u (a0r 3) (sB S) (rngD 0 L.toNat) [some (.frz o),some (.frz o),some (.frz (.bl true)),none]=some (.nx,[some (.frz o),some (.frz o),some (.frz (.bl true)),a]):=by
  obtain⟨Γ',e,a,rfl⟩:=c5v (g:=a0r 3) (f:=sB S) (fun k:Nat=>D.int (0+(k:Int))) (fun Γ=>∃a,Γ=[some (.frz o),some (.frz o),some (.frz (.bl true)),a]) (List.range L.toNat) [some (.frz o),some (.frz o),some (.frz (.bl true)),none] ⟨_,rfl⟩ (by
   rintro k hk Γ ⟨a,rfl⟩;have hk:k < ds.length:=by have:=List.mem_range.mp hk;omega
   have hx:oIx1 (.frz o) (.int (0+(k:Int)))=some (.frz ds[k]):=by
    rw[ix,show(0+(k:Int))=((k:Nat):Int) by omega,a5x (List.getElem?_eq_getElem hk)]
    rfl
   exact⟨_,e5u hx hx (hS _ (List.getElem_mem hk)) _ _,_,rfl⟩)
  exact⟨a,e⟩
 obtain⟨a,lp⟩:=lp;have bs:(L == L)=true:=beq_self_eq_true L;have i1:int1 [R.own (.frz (.int L))]=some L:=int1_of (by omega)
 unfold sB at lp;unfold a5r;cases it with
 |true=>
  simp only[a1a,qq6,qq7,qq2,qq3,qqf,Nat.reduceAdd,Nat.reduceSub,qq9,qq8,qqb,qqc,a0x,a1f,a3o,a1g,a0f,a0p,qq1,qq0,↓evBind,a3i,a3h,a0j,Nat.reduceLeDiff,a2k,a1x,if_true,a0m,a0n,a0l,h2,a2y,a1m,a1o,b9k,ht,hl,Bool.not_true,a1h,Nat.reduceLT,qq5,qq4,a7u,a4i,qqe,a6e,a5l,ln,↓evMap,d8g,bs,if_false,a2b,a1e,d6c,i1,lp,a2z,qqa,qqd,a2s,a2i]
 |false=>
  have hl:oIsi [.frz o,.frz (.ty "list")]=some (.frz (.bl true)):=hl;simp only[a1a,qq6,qq7,qq2,qq3,qqf,Nat.reduceAdd,Nat.reduceSub,qq9,qq8,qqb,qqc,a0x,a1f,a3o,a1g,a0f,a0p,qq1,qq0,↓evBind,a3i,a3h,a0j,Nat.reduceLeDiff,a2k,a1x,if_true,a0m,a0n,a0l,h2,a2y,a1m,a1o,b9k,ht,qqe,hl,if_false,a1h,Nat.reduceLT,qq5,qq4,a7u,a4i,Bool.not_true,a6e,a5l,ln,↓evMap,d8g,bs,a2b,a1e,d6c,i1,lp,a2z,qqa,qqd,a2s,a2i]
section
variable {n:Nat}
theorem b4w(hz:ds.length<=1000)(hS:∀d∈ds,a1d n [.frz d,.frz d]=yes2):a1d (n+1) [.frz (.lst ds),.frz (.lst ds)]=yes2:=
 c7c false rfl (by unfold oIsi;simp[kindD,isiB,O.d]) (by unfold oIsi;simp[kindD,isiB,O.d]) (a5d _) rfl hz (fun _=>rfl) hS
theorem c0w(hz:ds.length<=1000)(hS:∀d∈ds,a1d n [.frz d,.frz d]=yes2):a1d (n+1) [.frz (.tup ds),.frz (.tup ds)]=yes2:=
 c7c true rfl (by unfold oIsi;simp[kindD,isiB,O.d]) (by unfold oIsi;simp[kindD,isiB,O.d]) (e0w _) rfl hz (fun _=>rfl) hS
theorem b4x(x:Str):a1d (n+1) [.frz (.str x),.frz (.str x)]=yes2:=by
 have h2:oIsi2 [.frz (.str x),TL]=some (.frz (.bl false)):=rfl;have h3:oIsG false [.frz (.str x),.frz .non]=some (.frz (.bl false)):=rfl;have h4:oIsi [.frz (.str x),.frz (.ty "bool")]=some (.frz (.bl false)):=by unfold oIsi;simp[kindD,isiB,O.d]
 have h5:oIsi [.frz (.str x),.frz (.ty "str")]=some (.frz (.bl true)):=by unfold oIsi;simp[kindD,isiB,O.d]
 have h6:(x == x)=true:=beq_self_eq_true x;show runM 4 [false,false] (a5r (a1d n)) _=_;unfold a5r;generalize a1d n=S;simp only[a1a,qq6,qq7,qq2,qq3,qqf,Nat.reduceAdd,Nat.reduceSub,qq9,qq8,qqb,qqc,a0x,a1f,a3o,a1g,a0f,a0p,qq1,qq0,↓evBind,a3i,a3h,a0j,Nat.reduceLeDiff,a2k,a1x,if_true,a0m,a0n,a0l,h2,a2y,qqe,a1m,a1o,b9k,a1e,if_false,a6e,h3,a2b,h4,b5s,a7l,a1h,a7m,and_self,b3i,h6,h5,a2z,qqa,qqd,a2s,a2i]
theorem b4y(x:Int):a1d (n+1) [.frz (.int x),.frz (.int x)]=yes2:=by
 have h2:oIsi2 [.frz (.int x),TL]=some (.frz (.bl false)):=rfl;have h3:oIsG false [.frz (.int x),.frz .non]=some (.frz (.bl false)):=rfl;have h4:oIsi [.frz (.int x),.frz (.ty "bool")]=some (.frz (.bl false)):=by unfold oIsi;simp[kindD,isiB,O.d]
 have h5:oIsi [.frz (.int x),.frz (.ty "str")]=some (.frz (.bl false)):=by unfold oIsi;simp[kindD,isiB,O.d]
 have h7:oIsi [.frz (.int x),.frz (.ty "int")]=some (.frz (.bl true)):=by unfold oIsi;simp[kindD,isiB,O.d]
 have h6:(x == x)=true:=beq_self_eq_true x;show runM 4 [false,false] (a5r (a1d n)) _=_;unfold a5r;generalize a1d n=S;simp only[a1a,qq6,qq7,qq2,qq3,qqf,Nat.reduceAdd,Nat.reduceSub,qq9,qq8,qqb,qqc,a0x,a1f,a3o,a1g,a0f,a0p,qq1,qq0,↓evBind,a3i,a3h,a0j,Nat.reduceLeDiff,a2k,a1x,if_true,a0m,a0n,a0l,h2,a2y,qqe,a1m,a1o,b9k,a1e,if_false,a6e,h3,a2b,h4,b5s,a7l,a1h,a5e,and_self,a7b,h6,h5,h7,e0r,Bool.not_false,a2z,qqa,qqd,a2s,a2i]
theorem e2a(x:Bool):a1d (n+1) [.frz (.bl x),.frz (.bl x)]=yes2:=by
 have h2:oIsi2 [.frz (.bl x),TL]=some (.frz (.bl false)):=rfl;have h3:oIsG false [.frz (.bl x),.frz .non]=some (.frz (.bl false)):=rfl;have h4:oIsi [.frz (.bl x),.frz (.ty "bool")]=some (.frz (.bl true)):=by unfold oIsi;simp[kindD,isiB,O.d]
 have h5:oEq [.frz (.bl x),.frz (.bl x)]=some (.frz (.bl true)):=by cases x <;> rfl
 show runM 4 [false,false] (a5r (a1d n)) _=_;unfold a5r;generalize a1d n=S;simp only[a1a,qq6,qq7,qq2,qq3,qqf,Nat.reduceAdd,Nat.reduceSub,qq9,qq8,qqb,qqc,a0x,a1f,a3o,a1g,a0f,a0p,qq1,qq0,↓evBind,a3i,a3h,a0j,Nat.reduceLeDiff,a2k,a1x,if_true,a0m,a0n,a0l,h2,a2y,qqe,a1m,a1o,b9k,a1e,if_false,a6e,h3,a2b,h4,b5s,h5,a2z,qqa,qqd,a2s,a2i]
end
theorem d4p(n:Nat)(b:Belt)(hb:b.outs.length<=1000):a1d (n+3) [fB b,fB b]=yes2:=c0w (n:=n+2) (by simp) fun d m=>by
 simp only[List.mem_cons,List.not_mem_nil,or_false] at m;rcases m with rfl|rfl|rfl|rfl
 ·exact b4x _
 ·exact b4y _
 ·exact e2a _
 ·exact b4w (n:=n+1) (by rw[List.length_map];exact hb) fun d m=>by
   obtain⟨x,_,rfl⟩:=List.mem_map.mp m;exact b4x _
theorem d4q{x:Belt}:∀{l:List Belt},x∈l->x.outs.length<=(l.map fun y=>y.outs.length).sum
 |y::l,m=>by
  rw[List.map_cons,List.sum_cons];rcases List.mem_cons.mp m with rfl|m
  ·omega
  ·have:=d4q m;omega
theorem b8o(s:SmallH h):a1d 8 [.frz (a0u h),.frz (a0u h)]=yes2:=c0w (n:=7) (by simp) fun d m=>by
 simp only[List.mem_cons,List.not_mem_nil,or_false] at m;rcases m with rfl|rfl
 ·exact b4w (n:=6) (by rw[List.length_map];have:=s.bl;omega) fun d m=>by
   obtain⟨x,hx,rfl⟩:=List.mem_map.mp m;exact d4p 3 x (by have:=d4q hx;have:=s.ou;omega)
 ·exact b4w (n:=6) (by rw[List.length_map];have:=s.ct;omega) fun d m=>by
   obtain⟨x,_,rfl⟩:=List.mem_map.mp m;exact b4x _
theorem d7j:a1d 8 [.frz (.lst []),.frz (.lst [])]=yes2:=b4w (n:=7) (by decide) fun d m=>by cases m
theorem c8u(b:Str):a1d 8 [.frz (.tup [.str b,.int 0]),.frz (.tup [.str b,.int 0])]=yes2:=c0w (n:=7) (by simp) fun d m=>by
 simp only[List.mem_cons,List.not_mem_nil,or_false] at m;rcases m with rfl|rfl
 ·exact b4x _
 ·exact b4y _
theorem c7d(g:GoodH h)(n:Int)(hn:isN b):a7x [HN h n,.frz (a0u h),.frz (.int n),fS b]=some (.frz (.bl true),[some (HN h n),none,none,none]):=by
 have e1:=d4m (n:=n) g;have e2:=d7g (h:=h) (n:=n);have e3:=d7h (h:=h) (n:=n);have e4:=d7i (h:=h) (n:=n) hn;have e5:=c3f (h:=h) (n:=n);have e6:=d4n (n:=n) g;have e7:=d8v (n:=n) g;have e8:=e5t (h:=h) (n:=n);have e9:=e4q (n:=n) g;have s1:=b8o g.sm;have s2:=b4y (n:=7) n;have s3:=b4y (n:=7) 0;have s4:=d7j;have d1:=b7j h;have q:b8c (fun bs=>bs.all id) [.lst [.frz (.bl true),.frz (.bl true),.frz (.bl true),.frz (.bl true),.frz (.bl true)]]=some (.frz (.bl true)):=rfl
 unfold yes2 at *;unfold a7x b3a;generalize a1d 8=S at *;generalize a2r h=ho at *;simp only[a1a,qq6,qq7,qq2,qq3,qqf,Nat.reduceAdd,Nat.reduceSub,qq9,qq8,qqb,qqc,a0x,a1f,a7u,a4i,a3o,a0z,a0f,a4c,qq0,and_self,a1b,a0p,↓evBind,a0j,a2g,qq4,a0t,e1,a4b,a2c,if_true,qq1,a0m,a0n,a0l,a1p,d1,a1h,a1j,s1,a6n,a2y,Bool.not_true,qqe,e2,s2,if_false,a2b,a3h,a1e,e3,s3,a0y,e4,a2l,a1m,a1o,a3i,e5,a6m,e6,e7,e8,e9,Nat.reduceLeDiff,a2k,a1x,Nat.reduceLT,qq5,a1g,a4t,a7k,a3s,List.append_nil,c2d,a2j,b5w,s4,b1k,List.drop_succ_cons,List.drop_zero,a3t,q,a2z,qqa,qqd,a5u,a2s,a2i]
abbrev pl1(b:Str):List (TK×O):=[(.inr b,.frz (.tup [.str b,.int 0]))]
abbrev rd1(b:Str):List (TK×O):=[(.inr b,.frz .non)]
abbrev ro1(b:Str):List (TK×O):=[(.inr b,.frz (.int 0))]
abbrev bkA(c:Str):List (TK×O):=[(.inr "a",.frz (.tup [.str "a",.str c,.int 5]))]
abbrev hl1(b:Str):List (TK×O):=[(.inr b,.frz (.bl true))]
theorem is_a:a4d [.frz (.str (Str.ofString "a"))]=some (.frz (.bl true),[none]):=by kernel_rfl
theorem e4s:oIsG true [.frz .non,.frz .non]=some (.frz (.bl false)):=rfl
theorem c4v(x:Str)(d:D):mSet (.dct []) [.frz d,.frz (.str x)]=some (.dct [(.inr x,.frz d)],.frz .non):=rfl
theorem d7k:oVals [.dct []]=some (.lst []):=rfl
theorem e2b(b:Str):oInG false [.frz (.tup [.str b,.int 0]),.lst []]=some (.frz (.bl false)):=rfl
theorem e5v(n:Int)(h:(n < 0)=False):a5i [.frz (.int n)]=some (.frz .non,[none]):=by
 unfold a5i a6r;simp only[a1a,qq6,qq7,qq2,qq3,qqf,Nat.reduceSub,qq8,List.append_nil,a1f,a6e,a1g,a0f,a0p,qq0,↓evBind,a3h,a0j,a0m,a0n,a0l,a5t,h,decide_false,if_true,qqe,a6g,a1e,if_false,b3r,qqa,qqd,a2s,a2i]
section
variable {h:House} {b c:Str} {bk:List (TK×O)}
theorem d7l(hc:c∈h.carts.tail):a9z [HN h 1,fS (Str.ofString "a"),fS c,.frz (.int 5)]=some (.frz .non,[some (HL h 1 (bkA c) [] [] [] []),none,none,none]):=by
 have e2:=is_a;have e3:=c3e (Str.ofString "a");have e5:=c4v (Str.ofString "a");have e0:=xh1 h;have e6:=e5v 5 (eq_false (by decide))
 have e7:slO (.frz (.lst (h.carts.map D.str))) (some 1) none=some (.lst (h.carts.tail.map fS)):=by
  show some (O.lst ((cutD (h.carts.map D.str) (some ((1:Nat):Int)) none).map .frz))=_;rw[c6r,List.drop_one,<-List.map_tail,List.map_map];rfl
 have e8:=b1z true c h.carts.tail;rw[List.contains_iff_mem.mpr hc,if_pos rfl] at e8;unfold a9z b2u;generalize h.carts.tail.map fS=l2 at *;simp only[a1a,qq6,qq7,qq2,qq3,qqf,Nat.reduceAdd,Nat.reduceSub,qq8,List.append_nil,a0x,a1f,a7u,a4i,a3o,a0z,a0f,a0p,qq1,qq0,↓evBind,a0j,a0m,a0n,a0l,a1p,a1h,a1j,e2,a6n,a2y,Bool.not_true,qqe,a6e,a1g,a6d,and_self,if_true,a8h,e3,if_false,a6g,a3h,a1e,b1j,a3f,e0,b5v,b9m,↓evMap,b5u,e7,e8,a3u,a1b,a0y,a0t,e6,a2l,a2c,a6o,c4e,a1o,a3i,Nat.reduceLeDiff,a2k,a1x,b9o,e5,qq5,qq4,b3r,qqa,qqd,a5u,a2s,a2i]
theorem e5w(g:GoodH h)(hb:b∈h.belts.map Belt.name)(hn:isN b):c0n [HL h 1 bk [] [] [] [],fS b,.frz .non,fS b]=some (.frz .non,[some (HL h 1 bk [] (pl1 b) (rd1 b) (ro1 b)),none,none,none]):=by
 have e1:=e4o (n:=1) (bk:=bk) (hl:=[]) (pl:=[]) (rd:=[]) (ro:=[]) g hb;have e3:=c3e b;have e5:=c4v b;unfold isN at hn;unfold c0n c4p;simp only[a1a,qq6,qq7,qq2,qq3,qqf,Nat.reduceAdd,Nat.reduceSub,qq9,qq8,qqb,qqc,a0x,a1f,a7u,a4i,a3o,a0z,a0f,a0p,qq1,qq0,↓evBind,a0j,a0m,a0n,a0l,a1p,a1h,a1j,hn,a6n,a2y,Bool.not_true,qqe,a6e,a1g,a6d,and_self,if_true,a8h,e3,if_false,a6g,a3h,a1e,e4s,a3u,a4c,a1b,a2g,qq4,a0y,a0t,e1,a4b,a2l,a2c,a6o,a1m,a1o,a3i,Nat.reduceLeDiff,a2k,a1x,b9o,Nat.reduceLT,qq5,d7k,e2b,c2f,c5w,d1i,c4e,e5,b3r,qqa,qqd,a5u,a2s,a2i]
theorem e4t(g:GoodH h)(hb:b∈h.belts.map Belt.name):b4r [HL h 1 bk [] (pl1 b) (rd1 b) (ro1 b),fS b]=some (.frz .non,[some (HL h 1 bk (hl1 b) (pl1 b) (rd1 b) (ro1 b)),none]):=by
 have e1:=e4o (n:=1) (bk:=bk) (hl:=[]) (pl:=pl1 b) (rd:=rd1 b) (ro:=ro1 b) g hb;have e5:=c4v b;unfold b4r c0o;simp only[a1a,qq6,qq7,qq2,qq3,qqf,Nat.reduceAdd,Nat.reduceSub,qq8,List.append_nil,a0x,a3u,a4c,qq0,and_self,a1b,a0f,a0p,↓evBind,qq1,a0j,a2g,qq4,a0y,a0t,e1,a4b,a2l,a2c,if_true,a6o,c4e,a3h,a6d,e5,qq5,b3r,qqa,qqd,a5u,a2s,a2i]
theorem e4u(b:Str):oInG true [.frz (.str b),.dct (pl1 b)]=some (.frz (.bl false)):=by
 unfold oInG;simp only[dictO,keyD,Option.bind_some];show some (O.frz (.bl (!(valD [(TK.inr b,D.tup [.str b,.int 0])] (.inr b)).isSome)))=_;unfold valD;rw[List.find?_cons,decide_eq_true rfl];rfl
theorem e5x(b:Str):oIx1 (.dct (pl1 b)) (.str b)=some (.frz (.tup [.str b,.int 0])):=by
 show(valO (pl1 b) (.inr b)).bind unfrz=_;unfold valO pl1;rw[List.find?_cons,decide_eq_true rfl];rfl
theorem e2c(hn:isN b):a6u [HL h 1 bk (hl1 b) (pl1 b) (rd1 b) (ro1 b),fS b]=some (.frz (.tup [.str b,.int 0]),[some (HL h 1 bk (hl1 b) (pl1 b) (rd1 b) (ro1 b)),none]):=by
 have e1:=e5s (h:=h) (n:=1) (bk:=bk) (hl:=hl1 b) (rd:=rd1 b) (ro:=ro1 b) hn (e4u b);have e2:=c3e b;have e3:=e5x b;unfold isN at hn;unfold a6u b1x;simp only[a1a,qq6,qq7,qq2,qq3,qqf,Nat.reduceAdd,Nat.reduceSub,qq8,List.append_nil,a0x,a1f,a8d,a3o,a0z,a0f,a0p,qq1,qq0,↓evBind,a0j,a0m,a0n,a0l,a1p,a1h,a1j,hn,a6n,a2y,a6e,a1g,a6d,and_self,if_true,a8h,e2,qqe,c4d,a3f,a1e,if_false,a3u,a4c,a1b,a2g,qq4,a0y,a0t,e1,a4b,a2l,a2c,a6o,e3,d2n,a2z,qqa,qqd,a5u,a2s,a2i]
end
theorem e4v(g:GoodH h):b4q [.frz (a0u h)]=some (a2r h,[none]):=by
 have bl:=g.sm.bl;obtain⟨Γ,⟨a,rfl⟩,e⟩:=b7i (g:=a0r 0) (ct:=gYes) (ce:=(gSeq .tup (a0c (gBin oIx (gVar 0) (gC (.int 0))) (a0c (gBin oIx (gVar 0) (gC (.int 1))) (a0c (gBin oIx (gVar 0) (gC (.int 2))) (a0c (gOp oList (a0c (gBin oIx (gVar 0) (gC (.int 3))) gaNil)) gaNil)))))) (fun Γ=>∃a,Γ=[a]) beltD toldO h.belts [] [none] ⟨_,rfl⟩ (by rw[List.length_nil];omega) fun b m Γ hΓ=>by
  obtain⟨a,rfl⟩:=hΓ;refine⟨[some (fB b)],?_,⟨_,rfl⟩⟩;have ol:=b2b b.outs;unfold toldO toldL beltD;simp only[a7c,a2j,qq2,qq3,qqf,Nat.reduceLT,qq4,if_true,↓evBind,b5w,a3i,a0f,a1g,a0p,qq0,a3h,a0j,a0m,a0n,a0l,a3f,a6z,a4o,↓evMap,a7a,b4e,b4f,ol,Nat.reduceAdd,Nat.reduceLeDiff,a2k,a1x];rfl
 rw[List.nil_append] at e;have e0:=xh0 h;have e01:=xh1 h;have ol:=b2b h.carts;unfold b4q c0f a2r;generalize h.belts.map toldO=l3 at *;generalize h.belts.map beltD=l1 at *;simp only[a1a,qq6,qq7,qq2,qq3,qqf,Nat.reduceSub,qq8,List.append_nil,a2b,a3i,a0f,a4t,a7k,a1o,a1g,a0p,qq0,↓evBind,a3h,a0j,a0m,a0n,a0l,a3f,e0,a1h,qq9,a3s,e,Nat.reduceAdd,List.drop_succ_cons,List.drop_zero,a3t,if_true,e01,ol,Nat.reduceLeDiff,a2k,a1x,a2z,qqa,qqd,a2s,a2i]
theorem e4w:a2t [fL [],.dct []]=some (.frz (.exc 80 none),[none,some (.dct [])]):=by
 unfold a2t a6h fL;simp only[qq7,a1a,qq6,qq2,qq3,qqf,Nat.reduceAdd,Nat.reduceSub,qq9,qq8,qqb,qqc,a0x,a8s,a1o,a0p,qq0,↓evBind,a1h,c5s,a1f,a4i,a3o,a0n,b9n,List.isEmpty_nil,Bool.not_true,Bool.not_false,a6g,a3h,a1e,if_true,a2z,qqa,qqd,a2s,a5u,a2i]
theorem d8w{d:D}(e:a1z [.frz d]=some (.frz (.exc C none),[none])):a7h [.ins cHall hns [],.frz d,.frz (.int 1)]=some (.frz (.exc C none),[some (.ins cHall hns []),none,none]):=by
 unfold a7h b4u;simp only[a1a,qq6,qq7,qq2,qq3,qqf,Nat.reduceAdd,Nat.reduceSub,qq8,List.append_nil,a0x,a3u,a1b,a0f,a0p,qq1,qq0,↓evBind,a0j,a0y,a0t,e,a2l,a2c,a9g,a2z,qqa,qqd,a5u,a2s,a2i,if_true]
theorem d7m{d:D}(e:a1z [.frz d]=some (.frz (.exc 80 none),[none])):a4v [.frz d]=some (fS (Str.ofString "hand"),[none]):=by
 have e1:=d8w e;have e3:wE [44,56,68,80,92,104,116,128,140] 80 80=some true:=rfl;unfold a4v a8q;simp only[qq6,qq7,a1a,qq2,qq3,qqf,Nat.reduceSub,qq9,qq8,qqb,qqc,a0x,a1m,a3h,↓evBind,Nat.reduceAdd,Nat.reduceLT,qq5,qq4,if_true,d2e,a3u,b4j,a0f,a0p,qq0,a0j,a0m,a0n,a0l,a1p,a1h,a1j,e1,a9g,c4f,e3,b6k,a2b,qq1,a2z,qqa,qqd,a2s,a2i]
theorem e2d{d:D}(e:a1z [.frz d]=some (.frz (.exc 68 none),[none])):a4v [.frz d]=some (fS (Str.ofString "out"),[none]):=by
 have e1:=d8w e;have e3:wE [44,56,68,80,92,104,116,128,140] 80 68=some false:=rfl;have e4:wE [44,56,68,80,92,104,116,128,140] 68 68=some true:=rfl;unfold a4v a8q;simp only[qq6,qq7,a1a,qq2,qq3,qqf,Nat.reduceSub,qq9,qq8,qqb,qqc,a0x,a1m,a3h,↓evBind,Nat.reduceAdd,Nat.reduceLT,qq5,qq4,if_true,d2e,a3u,b4j,a0f,a0p,qq0,a0j,a0m,a0n,a0l,a1p,a1h,a1j,e1,a9g,c4f,e3,qqe,b6k,e4,if_false,a2b,qq1,a2z,qqa,qqd,a2s,a2i]
theorem e4x(l:List D):a1z [.frz (.tup [.lst l,.lst []])]=some (.frz (.exc 80 none),[none]):=by
 have e1:a2t [.frz (.lst []),.dct []]=some (.frz (.exc 80 none),[none,some (.dct [])]):=e4w;unfold a1z a5k;simp only[a1a,qq6,qq7,qq2,qq3,qqf,Nat.reduceSub,qq9,qq8,qqb,qqc,a0x,a1m,a1g,a0f,a0p,qq0,↓evBind,a3h,a0j,a0m,a0n,a0l,a3f,a6z,a4o,↓evMap,Nat.reduceAdd,Nat.reduceLT,qq5,qq4,if_true,a7a,b1i,a3u,a1b,qq1,a0y,a2g,a0t,e1,a2l,a4b,a2c,a9g,a2z,qqa,qqd,a2s,a2i]
theorem e5y(g:GoodW h)(eq:h.belts=ys++[z])(hz:z.outs=[])(ho:∀b∈ys,b.outs≠[])(hl:z.name.length<=100):a1z [.frz (a0u h)]=some (.frz (.exc 68 none),[none]):=by
 have e1:a2t [fL h.carts,.dct []]=some (.frz .non,[none,some (.dct (kd h.carts))]):=d4b g;have e2:=d4c g;have e3:=d4f g eq hz ho hl;have e0:=xh0 h;have e01:=xh1 h;unfold a1z a5k;generalize kd (h.carts++h.belts.map Belt.name)=k2 at *;generalize kd h.carts=k1 at *;simp only[a1a,qq6,qq7,qq2,qq3,qqf,Nat.reduceSub,qq9,qq8,qqb,qqc,a0x,a1m,a1g,a0f,a0p,qq0,↓evBind,a3h,a0j,a0m,a0n,a0l,a3f,e0,Nat.reduceAdd,Nat.reduceLT,qq5,qq4,if_true,e01,b1i,a3u,a1b,qq1,a0y,a2g,a0t,e1,a2l,a4b,a2c,a6o,a2x,e2,e3,a9g,a2z,qqa,qqd,a2s,a2i]
theorem c7e{carts:List Str}{l l':Belt}(hn:l'.name=l.name)(ho:l'.outs=[]):∀{ys:List Belt},Fwd carts (ys++[l])->Fwd carts (ys++[l'])
 |[],f=>by
  show(∀o∈l'.outs,o∈List.map Belt.name []\/o∈carts)/\l'.name∉List.map Belt.name []/\l'.name∉carts/\True;rw[ho,hn];exact⟨fun o m=>(List.not_mem_nil m).elim,List.not_mem_nil,f.2.2.1,trivial⟩
 |y::ys,f=>by
  have em:(ys++[l']).map Belt.name=(ys++[l]).map Belt.name:=by simp[hn]
  show(∀o∈y.outs,o∈(ys++[l']).map Belt.name\/o∈carts)/\y.name∉(ys++[l']).map Belt.name/\y.name∉carts/\Fwd carts (ys++[l']);rw[em];exact⟨f.1,f.2.1,f.2.2.1,c7e hn ho f.2.2.2⟩
theorem d4r(g:GoodH h){l:Belt}(eq:h.belts=ys++[l]):GoodW ⟨ys++[{ l with outs:=[]}],h.carts⟩:=by
 have hy:∀b∈ys++[{ l with outs:=[]}],∃b'∈h.belts,b'.name=b.name/\b'.long=b.long/\b'.ring=b.ring/\(b=b'\/b.outs=[]):=fun b m=>by
  rcases List.mem_append.mp m with m|m
  ·exact⟨b,by rw[eq];simp[m],rfl,rfl,rfl,.inl rfl⟩
  ·cases List.mem_singleton.mp m;exact⟨l,by rw[eq];simp,rfl,rfl,rfl,.inr rfl⟩
 refine⟨c7e (l:=l) (l':={ l with outs:=[]}) rfl rfl (by rw[<-eq];exact g.fwd),⟨?_,g.sm.ct,?_⟩,g.cm,fun b m=>?_,fun b m=>?_,g.cn,g.c0,fun b m=>?_⟩
 ·have:=g.sm.bl;rw[eq] at this;simpa using this
 ·have:=g.sm.ou;rw[eq] at this;simp at this ⊢;omega
 ·obtain⟨b',m',e,_⟩:=hy b m;rw[<-e];exact g.nm b' m'
 ·obtain⟨b',m',_,e2,e3,_⟩:=hy b m;rw[<-e2,<-e3];exact g.lg b' m'
 ·obtain⟨b',m',_,_,_,e|e⟩:=hy b m
  ·rw[e];exact g.nd b' m'
  ·rw[e];exact .nil
theorem setP3{f:O->Option (O×O)}{l' bs:List O}{r x0 x1 x2 o:O}(hf:f (.lst l)=some (.lst l',r)):setP f (.tup [.lst (.tup [x0,x1,x2,.lst l]::bs),o]) [0,0,3]=some (.tup [.lst (.tup [x0,x1,x2,.lst l']::bs),o],r):=by
 simp[setP,hf]
section
variable {ns:List Int} {h:House} {n:Int} {b c:Str} {s0 s1 s2 s3 s4 s5 s6 s7 s8 s9:Option O} {bk:List (TK×O)}
abbrev SC(ns:List Int):Option O:=some (.frz (.scr ns))
theorem t1(e:a7w [.frz (.scr ns)]=some (.tup [.lst (h.belts.map fB),fL h.carts],[none])):a1 [SC ns,none,none,none,none,none,none,none,none,none]=some (.nx,[SC ns,some (.frz (a0u h)),none,none,none,none,none,none,none,none]):=by
 have d:(O.tup [.lst (h.belts.map fB),fL h.carts]).d=a0u h:=by
  have e:O.dl (h.belts.map fB)=h.belts.map beltD:=by
   rw[show h.belts.map fB=(h.belts.map beltD).map O.frz by rw[List.map_map];rfl]
   exact b5l _
  unfold a0u;simp only[a1p,a1j,a1h,a6m,b9o,e]
 unfold a1;generalize(O.tup [.lst (h.belts.map fB),fL h.carts])=t at *;simp only[a1m,a1o,a1b,a0f,a0p,qq0,↓evBind,a0j,a0y,a0t,e,a2l,a2c,d,qq2,qq3,qqf,Nat.reduceAdd,Nat.reduceLT,qq5,qq4,if_true]
theorem t3:∃n,a2 [SC ns,s1,none,none,none,none,none,none,none,none]=some (.nx,[SC ns,s1,some (.frz (.int n)),none,none,none,none,none,none,none])/\∃m,a3 [SC ns,s1,some (.frz (.int n)),none,none,none,none,none,none,none]=some (.nx,[SC ns,s1,some (.frz (.int m)),none,none,none,none,none,none,none]):=by
 have e1:a3m [.frz (.scr ns),.frz (.int 14),.frz (.int 4)]=_:=b8l ns 14 4 (by decide) (by decide)
 have e2:a3m [.frz (.scr ns),.frz (.int 15),.frz (.int 4)]=_:=b8l ns 15 4 (by decide) (by decide)
 obtain⟨v,e3⟩:=d3k ns 15;have e3:a3v [.frz (.scr ns),.frz (.int 15)]=some (.frz (.int v),[none,none]):=e3;have p1:powC 10 9=true:=by decide +kernel
 have p2:oPow [.frz (.int 10),.frz (.int 9)]=some (.frz (.int 1000000000)):=by
  show(if powC 10 9=true then some (O.frz (D.int ((10:Int) ^ (9:Int).toNat))) else none)=_
  rw[if_pos p1];rfl
 have p3:oMod [.frz (.int v),.frz (.int 1000000000)]=some (.frz (.int (v % 1000000000))):=by rfl
 generalize dgv ns 14 0 4=x at *;generalize dgv ns 15 0 4=y at *;refine⟨x,?_,?_⟩
 ·unfold a2;simp only[a1m,a0z,a0f,a0p,qq0,↓evBind,a3h,a0j,a0m,a0n,a0l,a1p,a1h,a1j,qq6,qq7,e1,a3r,qq2,qq3,qqf,Nat.reduceAdd,Nat.reduceLT,qq5,qq4,if_true]
 ·cases q:(y == 1) with
  |true=>
   refine⟨v % 1000000000,?_⟩;unfold a3;generalize v % 1000000000=vm at *;simp only[a1f,a6e,a1g,a0f,a0z,a0p,qq0,↓evBind,a3h,a0j,a0m,a0n,a0l,a1p,a1h,a1j,qq6,qq7,e2,a3r,a7l,a5e,and_self,a7b,q,if_true,a1m,e3,p2,p3,qq2,qq3,qqf,Nat.reduceAdd,Nat.reduceLT,qq5,qq4,a1e]
  |false=>
   refine⟨x,?_⟩;unfold a3;simp only[a1f,a6e,a1g,a0f,a0z,a0p,qq0,↓evBind,a3h,a0j,a0m,a0n,a0l,a1p,a1h,a1j,qq6,qq7,e2,a3r,a7l,a5e,and_self,a7b,q,if_true,qqe,a1m,a1e,if_false]
theorem t4(g:GoodH h):a4 [s0,some (.frz (a0u h)),s2,none,none,none,none,none,none,none]=some (.nx,[s0,some (.frz (a0u h)),s2,some (a2r h),none,none,none,none,none,none]):=by
 have e:=e4v g;unfold a4;generalize a0u h=hd at *;generalize a2r h=ho at *;simp only[a1m,a1b,a0f,a0p,qq1,qq0,↓evBind,a0j,a0y,a0t,e,a2l,a2c,qq2,qq3,qqf,Nat.reduceAdd,Nat.reduceLT,qq5,qq4,if_true]
theorem t5(g:GoodH h):a5 [s0,s1,some (.frz (.int n)),some (a2r h),none,none,none,none,none,none]=some (.nx,[s0,s1,some (.frz (.int n)),some (a2r h),some (HM h n),none,none,none,none,none]):=by
 have e:=d8u g n;have p:=d4k h n;have d:=b7j h;unfold a5;unfold HM at *;generalize rest0 n [] [] [] [] []=r at *;generalize a0u h=hd at *;unfold a2r at *;generalize[O.lst (h.belts.map toldO),O.lst (h.carts.map fS)]=l at *;simp only[a1m,c4c,b4j,a0f,a0p,qq1,qq0,↓evBind,a0j,a0m,a5y,Option.join_some,a0n,a0l,a1p,d,a1h,a1j,qq6,qq7,e,a6o,d2d,p,if_true,d2l,qq2,qq3,qqf,Nat.reduceAdd,Nat.reduceLT,qq5,qq4]
theorem t6(g:GoodH h):a6 [s0,some (.frz (a0u h)),s2,s3,s4,none,none,none,none,none]=some (.nx,[s0,some (.frz (a0u h)),s2,s3,s4,some (HM h 1),none,none,none,none]):=by
 have e:=d8u g 1;have p:=d4k h 1;unfold a6;unfold HM at *;generalize rest0 1 [] [] [] [] []=r at *;generalize a0u h=hd at *;generalize a2r h=ho at *;simp only[a1m,c4c,b4j,a0f,a0p,qq1,qq0,↓evBind,a3h,a0j,a0m,a0n,a0l,a1p,a1h,a1j,qq6,qq7,e,a6o,d2d,p,if_true,d2l,qq2,qq3,qqf,Nat.reduceAdd,Nat.reduceLT,qq5,qq4]
theorem t7{bs:List Belt}(eq:h.belts=x::bs):a7 [s0,some (.frz (a0u h)),s2,s3,s4,s5,none,none,none,none]=some (.nx,[s0,some (.frz (a0u h)),s2,s3,s4,s5,some (fS x.name),none,none,none]):=by
 have e0:=xh0 h;have e1:=xb0 x;rw[eq,List.map_cons] at e0;unfold a7;generalize a0u h=hd at *;simp only[a1m,a1g,a0f,a0p,qq1,qq0,↓evBind,a3h,a0j,a0m,a0n,a0l,a3f,e0,b0i,a4o,↓evMap,e1,qq2,qq3,qqf,Nat.reduceAdd,Nat.reduceLT,qq5,qq4,if_true]
theorem t8(g:GoodH h)(hn:isN b):a8 [s0,some (.frz (a0u h)),some (.frz (.int n)),some (a2r h),some (HN h n),s5,some (fS b),none,none,none]=some (.nx,[s0,some (.frz (a0u h)),some (.frz (.int n)),some (a2r h),some (HN h n),s5,some (fS b),none,none,none]):=by
 have e1:=c7d g n hn;have e2:=b8o g.sm;have d:=b7j h;unfold yes2 at e2;unfold a8;generalize a1d 8=S at *;unfold HN HL a2r at *;generalize(O.frz (a0u h)::rest0 n [] [] [] [] [])=fs at *;generalize a0u h=hd at *;generalize[O.lst (h.belts.map toldO),O.lst (h.carts.map fS)]=l at *;simp only[a1f,a7u,a4i,a3o,a1b,a0f,a0p,qq1,qq0,↓evBind,a0j,a2g,qq5,qq4,a0y,a0t,e1,a4b,a2l,a2c,a0n,a2y,Bool.not_true,qqe,a0z,a0m,a5y,Option.join_some,a0l,a1p,d,a1h,a1j,qq6,qq7,e2,a6n,if_false,a2b,a3h,a1e]
theorem t9{bs:List Belt}(eq:h.belts=x::bs):a9 [s0,s1,s2,some (a2r h),s4,s5,s6,none,none,none]=some (.nx,[s0,s1,s2,some (.tup [.lst (.tup [fS x.name,.frz (.int x.long),.frz (.bl x.ring),.lst []]::bs.map toldO),.lst (h.carts.map fS)]),s4,s5,s6,none,none,none]):=by
 have e:setP (fun c=>b0g c []) (a2r h) [0,0,3]=some (.tup [.lst (.tup [fS x.name,.frz (.int x.long),.frz (.bl x.ring),.lst []]::bs.map toldO),.lst (h.carts.map fS)],.frz .non):=by
  unfold a2r;rw[eq];exact setP3 rfl
 unfold a9;unfold a2r at *;generalize[O.lst (h.belts.map toldO),O.lst (h.carts.map fS)]=l at *;simp only[a2x,b5x,qq1,qq0,qq7,e,↓evBind,qq5,qq4]
theorem t10{o:O}:a10 [s0,s1,s2,some (.tup [.lst l,o]),s4,s5,s6,none,none,none]=some (.nx,[s0,s1,s2,some (.tup [.lst [],o]),s4,s5,s6,none,none,none]):=by
 have e:setP (fun c=>b0g c []) (.tup [.lst l,o]) [0]=some (.tup [.lst [],o],.frz .non):=rfl
 unfold a10;simp only[a2x,b5x,qq1,qq0,qq7,e,↓evBind,qq5,qq4]
theorem t11{o:O}:a11 [s0,s1,s2,some (.tup [o,.lst l]),s4,s5,s6,none,none,none]=some (.nx,[s0,s1,s2,some (.tup [o,.lst []]),s4,s5,s6,none,none,none]):=by
 have e:setP (fun c=>b0g c []) (.tup [o,.lst l]) [1]=some (.tup [o,.lst []],.frz .non):=rfl
 unfold a11;simp only[a2x,b5x,qq1,qq0,qq7,e,↓evBind,qq5,qq4]
theorem t12(g:GoodH h):a12 [s0,s1,s2,s3,some (HN h n),s5,s6,none,none,none]=some (.nx,[s0,s1,s2,s3,some (HN h n),s5,s6,some (a2r h),none,none]):=by
 have e:=d4m (n:=n) g;unfold a12;generalize a2r h=ho at *;simp only[a1m,a4c,qq1,qq0,and_self,a1b,a0f,a0p,↓evBind,a0j,a2g,qq5,qq4,a0t,e,a4b,a2c,if_true,qq2,qq3,qqf,Nat.reduceAdd,Nat.reduceLT]
theorem t13(g:GoodH h){bs:List Belt}(eq:h.belts=x::bs):a13 [s0,s1,s2,s3,s4,s5,s6,some (a2r h),none,none]=some (.nx,[s0,s1,s2,s3,s4,s5,s6,some (.tup [.lst (.tup [fS x.name,.frz (.int x.long),.frz (.bl x.ring),.lst (x.outs.map fS++[fS "a"])]::bs.map toldO),.lst (h.carts.map fS)]),none,none]):=by
 have hl:(x.outs.map fS).length < 1000000:=by
  have:=d4q (x:=x) (l:=h.belts) (by rw[eq];simp)
  have:=g.sm.ou;rw[List.length_map];omega
 have e:setP (fun c=>a7j c [fS "a"]) (a2r h) [0,0,3]=some (.tup [.lst (.tup [fS x.name,.frz (.int x.long),.frz (.bl x.ring),.lst (x.outs.map fS++[fS "a"])]::bs.map toldO),.lst (h.carts.map fS)],.frz .non):=by
  unfold a2r;rw[eq];exact setP3 (by
   show(if(x.outs.map fS).length < 1000000 then _ else _)=_
   rw[if_pos hl])
 unfold a13;unfold a2r at *;generalize[O.lst (h.belts.map toldO),O.lst (h.carts.map fS)]=l at *;generalize x.outs.map fS++[fS "a"]=l2 at *;simp only[a2x,b5x,qq1,qq0,qq6,qq7,e,↓evBind,qq5,qq4]
theorem t14{o:O}:a14 [s0,s1,s2,s3,s4,s5,s6,some (.tup [o,.lst l]),none,none]=some (.nx,[s0,s1,s2,s3,s4,s5,s6,some (.tup [o,.lst []]),none,none]):=by
 have e:setP (fun c=>b0g c []) (.tup [o,.lst l]) [1]=some (.tup [o,.lst []],.frz .non):=rfl
 unfold a14;simp only[a2x,b5x,qq1,qq0,qq7,e,↓evBind,qq5,qq4]
theorem t15(g:GoodH h):a15 [s0,s1,s2,s3,some (HN h n),s5,some (fS b),s7,none,none]=some (.nx,[s0,s1,s2,s3,some (HN h n),s5,some (fS b),s7,none,none]):=by
 have e:=d8v (n:=n) g;have ap:a7j (.lst []) [fS b]=some (.lst [fS b],.frz .non):=rfl;unfold a15;simp only[a2x,d2k,a4c,qq1,qq0,and_self,a1b,a0f,a0p,↓evBind,a0j,a2g,qq5,qq4,a0t,e,a4b,a2c,if_true,a2k,a1x,ap]
theorem t16:a16 [s0,s1,s2,s3,some (HN h n),s5,some (fS b),s7,none,none]=some (.nx,[s0,s1,s2,s3,some (HN h n),s5,some (fS b),s7,none,none]):=by
 have e:=c3f (h:=h) (n:=n);have ap:a7j (.lst []) [fS b]=some (.lst [fS b],.frz .non):=rfl;unfold a16;simp only[a2x,d2k,a4c,qq1,qq0,and_self,a1b,a0f,a0p,↓evBind,a0j,a2g,qq5,qq4,a0t,e,a4b,a2c,if_true,a2k,a1x,ap]
theorem t17y(el:(((h.carts.map D.str).length:Nat):Int)=L)(hL:(1 < L)=True)(hc:c∈h.carts.tail)(i1:oIx1 (.frz (.lst (h.carts.map D.str))) (.int 1)=some (fS c)):a17 [s0,some (.frz (a0u h)),s2,s3,s4,some (HN h 1),s6,s7,none,none]=some (.nx,[s0,some (.frz (a0u h)),s2,s3,s4,some (HL h 1 (bkA c) [] [] [] []),s6,s7,none,none]):=by
 have e:=d7l hc;have e1:=xh1 h;unfold a17;generalize h.carts.map D.str=cs at *;simp only[a1f,a6e,a1g,a0f,a0p,qq1,qq0,↓evBind,a3h,a0j,a0m,a0n,a0l,a3f,e1,a5l,a1h,a5d,el,↓evMap,a5t,hL,decide_true,if_true,a2x,c4c,a4c,and_self,a1b,i1,a2g,qq5,qq4,a0y,a0t,e,a4b,a2l,a2c,a6o,a1e]
theorem t17n(el:(((h.carts.map D.str).length:Nat):Int)=L)(hL:(1 < L)=False):a17 [s0,some (.frz (a0u h)),s2,s3,s4,s5,s6,s7,none,none]=some (.nx,[s0,some (.frz (a0u h)),s2,s3,s4,s5,s6,s7,none,none]):=by
 have e1:=xh1 h;unfold a17;generalize a0u h=hd at *;generalize h.carts.map D.str=cs at *;simp only[a1f,a6e,a1g,a0f,a0p,qq1,qq0,↓evBind,a3h,a0j,a0m,a0n,a0l,a3f,e1,a5l,a1h,a5d,el,↓evMap,a5t,hL,decide_false,if_true,qqe,a2x,c4c,a4c,a1b,a1e,if_false]
theorem t18(g:GoodH h)(hb:b∈h.belts.map Belt.name)(hn:isN b):a18 [s0,s1,s2,s3,s4,some (HL h 1 bk [] [] [] []),some (fS b),s7,none,none]=some (.nx,[s0,s1,s2,s3,s4,some (HL h 1 bk [] (pl1 b) (rd1 b) (ro1 b)),some (fS b),s7,none,none]):=by
 have e:=e5w (bk:=bk) g hb hn;unfold a18;simp only[a2x,c4c,a4c,qq1,qq0,and_self,a1b,a0f,a0p,↓evBind,a3h,a0j,a2g,qq5,qq4,a0y,a0t,e,a4b,a2l,a2c,if_true,a6o]
theorem t19(g:GoodH h)(hb:b∈h.belts.map Belt.name):a19 [s0,s1,s2,s3,s4,some (HL h 1 bk [] (pl1 b) (rd1 b) (ro1 b)),some (fS b),s7,none,none]=some (.nx,[s0,s1,s2,s3,s4,some (HL h 1 bk (hl1 b) (pl1 b) (rd1 b) (ro1 b)),some (fS b),s7,none,none]):=by
 have e:=e4t (bk:=bk) g hb;unfold a19;simp only[a2x,c4c,a4c,qq1,qq0,and_self,a1b,a0f,a0p,↓evBind,a0j,a2g,qq5,qq4,a0y,a0t,e,a4b,a2l,a2c,if_true,a6o]
theorem t20(g:GoodH h)(hn:isN b):a20 [s0,some (.frz (a0u h)),some (.frz (.int n)),s3,some (HN h n),some (HL h 1 bk (hl1 b) (pl1 b) (rd1 b) (ro1 b)),some (fS b),s7,none,none]=some (.nx,[s0,some (.frz (a0u h)),some (.frz (.int n)),s3,some (HN h n),some (HL h 1 bk (hl1 b) (pl1 b) (rd1 b) (ro1 b)),some (fS b),s7,none,none]):=by
 have e1:=c7d g n hn;have e2:=e2c (h:=h) (bk:=bk) hn;have e3:=c8u b;unfold yes2 at e3;unfold a20;generalize a1d 8=S at *;simp only[a1f,a7u,a4i,a3o,a1b,a0f,a0p,qq1,qq0,↓evBind,a0j,a2g,qq5,qq4,a0y,a0t,e1,a4b,a2l,a2c,a0n,a2y,Bool.not_true,qqe,a0z,c4c,a4c,and_self,e2,if_true,d2n,a3i,a3h,qq2,qq3,qqf,Nat.reduceAdd,Nat.reduceLeDiff,a2k,a1x,a0m,a0l,a1p,a1h,b9o,a1j,qq6,qq7,e3,a6n,if_false,a2b,a1e]
end
section
variable {ns:List Int} {h:House} {n:Int} {s0 s1 s2 s3 s4 s5 s6 s7:Option O}
abbrev bareB(l:Belt):Belt:={ l with outs:=[]}
theorem t21{l:Belt}(eq:h.belts=ys++[l]):a21 [s0,some (.frz (a0u h)),s2,s3,s4,s5,s6,s7,none,none]=some (.nx,[s0,some (.frz (a0u h)),s2,s3,s4,s5,s6,s7,some (fB l),none]):=by
 have e0:=xh0 h;have e1:atI (h.belts.map beltD) (((h.belts.map beltD).length:Int) - 1)=some (beltD l):=by
  rw[eq,show(((ys++[l]).map beltD).length:Int) - 1=((ys.length:Nat):Int) by simp]
  exact a5x (by simp)
 obtain⟨L,el⟩:∃L,((h.belts.map beltD).length:Int)=L:=⟨_,rfl⟩;rw[el] at e1;unfold a21;generalize h.belts.map beltD=l1 at *;generalize a0u h=hd at *;simp only[a1m,a1g,a0f,a0p,qq1,qq0,↓evBind,a3h,a0j,a0m,a0n,a0l,a3f,e0,a5l,a1h,a5d,el,↓evMap,a5t,if_true,b0i,e1,qq2,qq3,qqf,Nat.reduceAdd,Nat.reduceLT,qq5,qq4]
theorem t22{l:Belt}(eq:h.belts=ys++[l])(hy:ys.length<=100):a22 [s0,some (.frz (a0u h)),s2,s3,s4,s5,s6,s7,some (fB l),none]=some (.nx,[s0,some (.frz (a0u h)),s2,s3,s4,s5,s6,s7,some (fB l),some (.frz (a0u ⟨ys++[bareB l],h.carts⟩))]):=by
 have e0:=xh0 h;have e1:=xh1 h;have i0:=xb0 l;have i1:oIx1 (.frz (beltD l)) (.int 1)=some (.frz (.int l.long)):=by unfold beltD;simp only[a6z,a7a,Option.map_some]
 have i2:oIx1 (.frz (beltD l)) (.int 2)=some (.frz (.bl l.ring)):=by unfold beltD;simp only[a6z,b4e,Option.map_some]
 have sl:slO (.frz (.lst (h.belts.map beltD))) none (some (-1))=some (.lst ((ys.map beltD).map .frz)):=by
  show some (O.lst ((cutD (h.belts.map beltD) none (some (-1))).map .frz))=_;have:cutD (h.belts.map beltD) none (some (-1))=ys.map beltD:=by
   unfold cutD;have e4:HT.sIx (h.belts.map beltD).length 0 none=0:=rfl;have e5:HT.sIx (h.belts.map beltD).length (h.belts.map beltD).length (some (-1))=ys.length:=by
    unfold HT.sIx;dsimp only;rw[if_pos (by decide),eq]
    simp;omega
   rw[e4,e5,List.drop_zero,eq,List.map_append,Nat.sub_zero];exact List.take_left' (by simp)
  rw[this]
 have ng:oNeg [.frz (.int 1)]=some (.frz (.int (-1))):=rfl;have ir:intR (.own (.frz (.int (-1))))=some (-1):=rfl;have ad:oAdd [.lst ((ys.map beltD).map .frz),.lst [.frz (beltD (bareB l))]]=some (.lst (((ys++[bareB l]).map beltD).map .frz)):=by
  rw[e0u];show((frzL ((ys.map beltD).map .frz)).bind fun xs=>(frzL [O.frz (beltD (bareB l))]).bind fun zs=>_)=_
  rw[b1b];show(if(ys.map beltD).length+1<=1000000 then _ else _)=_
  rw[if_pos (by rw[List.length_map];omega),show(ys++[bareB l]).map beltD=ys.map beltD++[beltD (bareB l)] by simp]
 have ad:oAdd [.lst ((ys.map beltD).map .frz),.lst [.frz (.tup [.str l.name,.int l.long,.bl l.ring,.lst []])]]=some (.lst (((ys++[bareB l]).map beltD).map .frz)):=ad;have d1:=b5l ((ys++[bareB l]).map beltD);have hd:D.tup [.lst ((ys++[bareB l]).map beltD),.lst (h.carts.map .str)]=a0u ⟨ys++[bareB l],h.carts⟩:=rfl;rw[<-hd];unfold a22;generalize h.belts.map beltD=l1 at *;generalize(ys++[bareB l]).map beltD=l2 at *;generalize(ys.map beltD).map O.frz=l3 at *;generalize a0u h=hd at *;simp only[a1m,a1o,a3i,a0f,a1g,b1j,a0p,qq1,qq0,↓evBind,a3h,a0j,a0m,a0n,a0l,a3f,e0,b5u,b5v,ng,Int.reduceNeg,ir,↓evMap,sl,i0,i1,i2,qq3,Nat.reduceLeDiff,a1x,if_true,a6m,a1j,qq2,qqf,Nat.reduceAdd,a2k,b9o,a1p,a1h,ad,d1,e1,Nat.reduceLT,qq5,qq4]
theorem t23{l1:List D}{d:D}{s8:Option O}(e0:oIx1 (.frz (a0u h)) (.int 0)=some (.frz (.lst l1)))(e:a1z [.frz d]=some (.frz (.exc 68 none),[none])):a23 [s0,some (.frz (a0u h)),s2,s3,s4,s5,s6,s7,s8,some (.frz d)]=some (.rt (.frz (.bl true)),[s0,some (.frz (a0u h)),s2,s3,s4,s5,s6,s7,s8,some (.frz d)]):=by
 have e1:=d7m (e4x l1);have e2:=e2d e;have q1:(Str.ofString "hand" == Str.ofString "hand")=true:=beq_self_eq_true _;have q2:(Str.ofString "out" == Str.ofString "out")=true:=beq_self_eq_true _;unfold a23;generalize a0u h=hd at *;simp only[a2b,b5s,a6e,a1g,a0f,a1b,a1o,a3i,a0p,qq1,qq0,↓evBind,a3h,a0j,a0m,a0n,a0l,a3f,e0,qq3,Nat.reduceLeDiff,a1x,if_true,a6m,a1j,qq2,qqf,Nat.reduceAdd,a2k,b9o,a1p,a1h,a0y,a0t,e1,a2l,a2c,a7l,a7m,and_self,b3i,q1,e2,q2]
end
theorem gd(h:House)(n:Int)(f:GS)(s0 s1 s2 s3 s5:Option O):gsFzF 4 0 f [s0,s1,s2,s3,some (HM h n),s5,none,none,none,none]=f [s0,s1,s2,s3,some (HN h n),s5,none,none,none,none]:=by
 have d:=b7j h;show f [s0,s1,s2,s3,some (.ins cHall hns (.frz (a2r h).d::rest0 n [] [] [] [] [])),s5,none,none,none,none]=_;rw[d]
theorem gd5(h:House)(n:Int)(f:GS)(s0 s1 s2 s3 s4:Option O):gsFzF 5 0 f [s0,s1,s2,s3,s4,some (HM h n),none,none,none,none]=f [s0,s1,s2,s3,s4,some (HN h n),none,none,none,none]:=by
 have d:=b7j h;show f [s0,s1,s2,s3,s4,some (.ins cHall hns (.frz (a2r h).d::rest0 n [] [] [] [] [])),none,none,none,none]=_;rw[d]
theorem e5z(ns:List Int)(hn:ns.length<=63):∃fin,d7a [.frz (.scr ns)]=some (.frz (.bl true),fin):=by
 obtain⟨h,g,hnm,h0,_,_,eh⟩:=e1w ns;obtain⟨x,bs,eq⟩:∃x bs,h.belts=x::bs:=by
  cases q:h.belts with
  |nil=>rw[q] at h0;simp at h0
  |cons x bs=>exact⟨x,bs,rfl⟩
 obtain⟨ys,l,eq2⟩:∃ys l,h.belts=ys++[l]:=⟨h.belts.dropLast,h.belts.getLast (by rw[eq];simp),(List.dropLast_concat_getLast _).symm⟩
 have hx:x∈h.belts:=by rw[eq];simp
 have hl:l∈h.belts:=by rw[eq2];simp
 have hb:x.name∈h.belts.map Belt.name:=List.mem_map_of_mem hx;have nx:=g.nm x hx;have bl:=g.sm.bl;have hy:ys.length<=100:=by rw[eq2] at bl;simp at bl;omega
 have l8:l.name.length<=100:=by
  obtain⟨i,hi⟩:=hnm l hl;have:=(c2z ns i).2;rw[hi];unfold nmS;rw[b0v];omega
 have ho:∀b∈ys,b.outs≠[]:=fun b m z=>by
  rcases g.hd b (by rw[eq2];simp[m]) with y|⟨o,y,_⟩
  ·rw[z] at y;cases y
  ·rw[z] at y;cases y
 have er:=e5y (d4r g eq2) (ys:=ys) (z:=bareB l) rfl rfl ho l8;obtain⟨n,e2,m,e3⟩:=t3 (ns:=ns) (s1:=some (.frz (a0u h)));have go:∀(bk:List (TK×O)),(∀{s0 s2 s3 s4 s6 s7:Option O},a17 [s0,some (.frz (a0u h)),s2,s3,s4,some (HN h 1),s6,s7,none,none]=some (.nx,[s0,some (.frz (a0u h)),s2,s3,s4,some (HL h 1 bk [] [] [] []),s6,s7,none,none]))->∃fin,d7a [.frz (.scr ns)]=some (.frz (.bl true),fin):=fun bk e17=>by
  have q1:=t1 (ns:=ns) eh;have q23:=fun s0 s2 s3 s4 s5 s6 s7 s8=>t23 (s0:=s0) (s2:=s2) (s3:=s3) (s4:=s4) (s5:=s5) (s6:=s6) (s7:=s7) (s8:=s8) (xh0 h) er
  refine⟨[none],?_⟩;unfold d7a;unfold e1n;show((a0o a1 _ [SC ns,none,none,none,none,none,none,none,none,none]).bind fun p=>p.1.val.bind fun o=>if p.2.length=10 then some (o,keepM [false] (p.2.take 1)) else none)=_
  simp only[a0x,q1,e2,e3,t4 g,t5 g,gd,t6 g,gd5,t7 eq,t8 g nx,t9 eq,t10,t11,t12 g,t13 g eq,t14,t15 g,t16,e17,t18 g hb nx,t19 g hb,t20 g nx,t21 eq2,t22 eq2 hy,q23,Option.bind_some];rfl
 by_cases hc:(1:Int) < ((h.carts.map D.str).length:Int)
 ·obtain⟨c,r2,hand,hcs⟩:∃c r2 hand,h.carts=hand::c::r2:=by
   match q:h.carts,hc with
   |[],hc=>simp at hc
   |[_],hc=>simp at hc
   |a::c::r,_=>exact⟨c,r,a,rfl⟩
  have hm:c∈h.carts.tail:=by rw[hcs];exact List.mem_cons_self ..
  have i1:oIx1 (.frz (.lst (h.carts.map D.str))) (.int 1)=some (fS c):=by
   rw[b0i,hcs];rw[show(hand::c::r2).map D.str=D.str hand::D.str c::r2.map D.str from rfl,a7a];rfl
  exact go (bkA c) (t17y rfl (eq_true hc) hm i1)
 ·exact go [] (t17n rfl (eq_false hc))
def spLaw(K:L2.FG):L2.Sp:=fun vs H Q _=>∃(a:Addr) (ns:List Int),vs=[.ref a]/\SqL K H a (ns.map V.int)/\ns.length<=63/\∀H',Q (.bl true) H'
theorem e4y{P:Program}{base:Heap}{t:Adr}(T:Txt K mg t):FnOk P w K mg base CX0 11 t.f25 t.d25 ["_law_script"] (spLaw K):=by
 have z0:=c8e (P:=P) (w:=w) (base:=base) T;have z7:=c0d (P:=P) (w:=w) (base:=base) T;have z9:=c8f (P:=P) (w:=w) (base:=base) T;have z11:=b3v (P:=P) (w:=w) (base:=base) T;have z12:=d2p (P:=P) (w:=w) (base:=base) T;have z24:=d2r (P:=P) (w:=w) (base:=base) T;have z34:=c4j (P:=P) (w:=w) (base:=base) T;have z35:=c4l (P:=P) (w:=w) (base:=base) T;have z36:=c2p (P:=P) (w:=w) (base:=base) T;have z39:=d6y (P:=P) (w:=w) (base:=base) T;have z4:=c2r (P:=P) (w:=w) (base:=base) T z0;have z5:=c0h (P:=P) (w:=w) (base:=base) T z7;have z8:=c8g (P:=P) (w:=w) (base:=base) T z7;have z10:=d2t (P:=P) (w:=w) (base:=base) T z7 z9;have z13:=c8h (P:=P) (w:=w) (base:=base) T z12;have z27:=c4o (P:=P) (w:=w) (base:=base) T z11 z0;have z30:=b2w (P:=P) (w:=w) (base:=base) T z0;have z31:=b6v (P:=P) (w:=w) (base:=base) T z7;have z32:=b2y (P:=P) (w:=w) (base:=base) T z0;have z37:=c2u (P:=P) (w:=w) (base:=base) T z7;have z43:=c0k (P:=P) (w:=w) (base:=base) T z7;have z2:=b7l (P:=P) (w:=w) (base:=base) T z4;have z3:=b7m (P:=P) (w:=w) (base:=base) T z4;have z6:=c0l (P:=P) (w:=w) (base:=base) T z7 z8;have z14:=d2v (P:=P) (w:=w) (base:=base) T z13;have z15:=c8j (P:=P) (w:=w) (base:=base) T z13;have z16:=c8l (P:=P) (w:=w) (base:=base) T z13;have z28:=d6z (P:=P) (w:=w) (base:=base) T z31 z30 z0;have z29:=d2y (P:=P) (w:=w) (base:=base) T z31;have z33:=c8n (P:=P) (w:=w) (base:=base) T z10;have z38:=d3a (P:=P) (w:=w) (base:=base) T z43;have z40:=d3c (P:=P) (w:=w) (base:=base) T z43;have z41:=c8p (P:=P) (w:=w) (base:=base) T z32 z0;have z42:=c2w (P:=P) (w:=w) (base:=base) T z32;have z1:=b7n (P:=P) (w:=w) (base:=base) T z3 z2 z6 z5;have z17:=d3d (P:=P) (w:=w) (base:=base) T z13 z15 z14 z16;have z18:=d3e (P:=P) (w:=w) (base:=base) T z13 z14 z16;have z21:=c4q (P:=P) (w:=w) (base:=base) T z42 z41;have z19:=c8q (P:=P) (w:=w) (base:=base) T z13 z17 z15 z18 z14 z16;have z26:=d3g (P:=P) (w:=w) (base:=base) T z10 z1;have z23:=c2y (P:=P) (w:=w) (base:=base) T z26;have z20:=d3h (P:=P) (w:=w) (base:=base) T;have z22:=c4r (P:=P) (w:=w) (base:=base) T z38 z36 z33 z40 z35 z39 z34 z37 z21 z20;exact e0q (e4b T z26 z38 z27 z36 z33 z28 z29 z41 z12 z24 z19 z22 z14 z23 z20) e5z
theorem c0x(h:us.length=1):∃a0,us=[a0]:=by
 obtain _|⟨a0,us⟩:=us
 ·cases h
 obtain _|⟨z,us⟩:=us
 ·exact⟨a0,rfl⟩
 ·simp at h
theorem c4w(h:us.length=2):∃a0 a1,us=[a0,a1]:=by
 obtain _|⟨a0,us⟩:=us
 ·cases h
 obtain _|⟨a1,us⟩:=us
 ·cases h
 obtain _|⟨z,us⟩:=us
 ·exact⟨a0,a1,rfl⟩
 ·simp at h
theorem e4z(h:us.length=3):∃a0 a1 a2,us=[a0,a1,a2]:=by
 obtain _|⟨a0,us⟩:=us
 ·cases h
 obtain _|⟨a1,us⟩:=us
 ·cases h
 obtain _|⟨a2,us⟩:=us
 ·cases h
 obtain _|⟨z,us⟩:=us
 ·exact⟨a0,a1,a2,rfl⟩
 ·simp at h
theorem e5a(h:us.length=4):∃a0 a1 a2 a3,us=[a0,a1,a2,a3]:=by
 obtain _|⟨a0,us⟩:=us
 ·cases h
 obtain _|⟨a1,us⟩:=us
 ·cases h
 obtain _|⟨a2,us⟩:=us
 ·cases h
 obtain _|⟨a3,us⟩:=us
 ·cases h
 obtain _|⟨z,us⟩:=us
 ·exact⟨a0,a1,a2,a3,rfl⟩
 ·simp at h
abbrev ErrAt(K:L2.FG)(n:Str)(C:Addr)(ini:Option Value):Prop:=PySem.W.nsIn K mainGlobals n=some (some (.ref C))/\ErrC K C (.ref 31::bmV) ini/\IsErr K C/\PySem.W.keepIn K (.ref C)=true
theorem ea_mk{ini:Option Value}(a:PySem.W.nsIn K mainGlobals n=some (some (.ref C)))(b:ErrC K C (.ref 31::bmV) ini)(p:PySem.W.findIn K (.ref C) "__getattribute__"=some (some (.builtin "BaseException.__getattribute__")))(q:PySem.W.findIn K (.ref C) "__getattr__"=some none)(r:PySem.W.findIn K (.ref C) "__class__"=some (some (.builtin "object.__class__")))(x:PySem.W.specialIn K (.builtin "object.__class__") "__get__"=some (some (.builtin "getset_descriptor.__get__")))(y:PySem.W.takesIn K (.builtin "object.__class__")=some true)(d:PySem.W.keepIn K (.ref C)=true):ErrAt K n C ini:=⟨a,b,⟨p,q,r,x,y⟩,d⟩
theorem errs_mk{h:Heap}(X:K.In h)(G:h.Ns mainGlobals mg)(h0:ErrAt K "NoName" 44 none)(h1:ErrAt K "NoSize" 56 none)(h2:ErrAt K "NoOut" 68 none)(h3:ErrAt K "NoHand" 80 none)(h4:ErrAt K "NoMoment" 92 none)(h5:ErrAt K "NoFlight" 104 none)(h6:ErrAt K "NoBelt" 116 none)(h7:ErrAt K "NoRoom" 128 none)(h8:ErrAt K "NoBag" 140 none)(GB:ErrC K 31 bmV none):Errz K mg errTab 31:=by
 refine⟨fun p hp=>?_,GB⟩
 simp only[errTab,List.mem_cons,List.not_mem_nil,or_false] at hp;rcases hp with rfl|rfl|rfl|rfl|rfl|rfl|rfl|rfl|rfl
 ·exact⟨PySem.W.mg_of X G h0.1,h0.2⟩
 ·exact⟨PySem.W.mg_of X G h1.1,h1.2⟩
 ·exact⟨PySem.W.mg_of X G h2.1,h2.2⟩
 ·exact⟨PySem.W.mg_of X G h3.1,h3.2⟩
 ·exact⟨PySem.W.mg_of X G h4.1,h4.2⟩
 ·exact⟨PySem.W.mg_of X G h5.1,h5.2⟩
 ·exact⟨PySem.W.mg_of X G h6.1,h6.2⟩
 ·exact⟨PySem.W.mg_of X G h7.1,h7.2⟩
 ·exact⟨PySem.W.mg_of X G h8.1,h8.2⟩
theorem all_mk{l:PySem.W.OpenLaw}{h:Heap}{fa f0 f1 f2 f3 f4 f5 f6 f7 f8 f9 f10 f11 f12 f13 f14 f15 f16 f17 f18 f19 f20 f21 f22 f23 f24 f25 f26 f27 f28 f29 f30 f31 f32 f33 f34 f35 f36 f37 f38 f39 f40 f41 f42 f43:Addr}{d0 d1 d2 d3 d4 d5 d6 d7 d8 d9 d10 d11 d12 d13 d14 d15 d16 d17 d18 d19 d20 d21 d22 d23 d24 d25 d26 d27 d28 d29 d30 d31 d32 d33 d34 d35 d36 d37 d38 d39 d40 d41 d42 d43:FuncData}(X:K.In h)(G:h.Ns mainGlobals mg)(hfa:mg "law"=some (.ref fa))
  (a0:PySem.W.nsIn K mainGlobals "is_name"=some (some (.ref f0)))
  (a1:PySem.W.nsIn K mainGlobals "right_house"=some (some (.ref f1)))
  (a2:PySem.W.nsIn K mainGlobals "check_carts"=some (some (.ref f2)))
  (a3:PySem.W.nsIn K mainGlobals "check_belts"=some (some (.ref f3)))
  (a4:PySem.W.nsIn K mainGlobals "take_name"=some (some (.ref f4)))
  (a5:PySem.W.nsIn K mainGlobals "check_outs"=some (some (.ref f5)))
  (a6:PySem.W.nsIn K mainGlobals "check_hand"=some (some (.ref f6)))
  (a7:PySem.W.nsIn K mainGlobals "belt_names"=some (some (.ref f7)))
  (a8:PySem.W.nsIn K mainGlobals "reached"=some (some (.ref f8)))
  (a9:PySem.W.nsIn K mainGlobals "belt_of"=some (some (.ref f9)))
  (a10:PySem.W.nsIn K mainGlobals "copied"=some (some (.ref f10)))
  (a11:PySem.W.nsIn K mainGlobals "check_closing"=some (some (.ref f11)))
  (a12:PySem.W.nsIn K mainGlobals "_law_cell"=some (some (.ref f12)))
  (a13:PySem.W.nsIn K mainGlobals "_law_digit"=some (some (.ref f13)))
  (a14:PySem.W.nsIn K mainGlobals "_law_pick"=some (some (.ref f14)))
  (a15:PySem.W.nsIn K mainGlobals "_law_other"=some (some (.ref f15)))
  (a16:PySem.W.nsIn K mainGlobals "_law_third"=some (some (.ref f16)))
  (a17:PySem.W.nsIn K mainGlobals "_law_name"=some (some (.ref f17)))
  (a18:PySem.W.nsIn K mainGlobals "_law_outs"=some (some (.ref f18)))
  (a19:PySem.W.nsIn K mainGlobals "_law_house"=some (some (.ref f19)))
  (a20:PySem.W.nsIn K mainGlobals "_law_same"=some (some (.ref f20)))
  (a21:PySem.W.nsIn K mainGlobals "_law_no_bag"=some (some (.ref f21)))
  (a22:PySem.W.nsIn K mainGlobals "_law_is_new"=some (some (.ref f22)))
  (a23:PySem.W.nsIn K mainGlobals "_law_refused"=some (some (.ref f23)))
  (a24:PySem.W.nsIn K mainGlobals "_law_copy"=some (some (.ref f24)))
  (a25:PySem.W.nsIn K mainGlobals "law"=some (some (.ref f25)))
  (a26:PySem.W.findIn K (.ref 400) "__init__"=some (some (.ref f26))) (n26:PySem.W.isFn K (.ref f26)=true)
  (a27:PySem.W.findIn K (.ref 400) "flight"=some (some (.ref f27))) (n27:PySem.W.isFn K (.ref f27)=true)
  (a28:PySem.W.findIn K (.ref 400) "put"=some (some (.ref f28))) (n28:PySem.W.isFn K (.ref f28)=true)
  (a29:PySem.W.findIn K (.ref 400) "stop"=some (some (.ref f29))) (n29:PySem.W.isFn K (.ref f29)=true)
  (a30:PySem.W.findIn K (.ref 400) "check_flight"=some (some (.ref f30))) (n30:PySem.W.isFn K (.ref f30)=true)
  (a31:PySem.W.findIn K (.ref 400) "check_belt"=some (some (.ref f31))) (n31:PySem.W.isFn K (.ref f31)=true)
  (a32:PySem.W.findIn K (.ref 400) "check_inside"=some (some (.ref f32))) (n32:PySem.W.isFn K (.ref f32)=true)
  (a33:PySem.W.findIn K (.ref 400) "house"=some (some (.ref f33))) (n33:PySem.W.isFn K (.ref f33)=true)
  (a34:PySem.W.findIn K (.ref 400) "rounds"=some (some (.ref f34))) (n34:PySem.W.isFn K (.ref f34)=true)
  (a35:PySem.W.findIn K (.ref 400) "moment"=some (some (.ref f35))) (n35:PySem.W.isFn K (.ref f35)=true)
  (a36:PySem.W.findIn K (.ref 400) "flights"=some (some (.ref f36))) (n36:PySem.W.isFn K (.ref f36)=true)
  (a37:PySem.W.findIn K (.ref 400) "stopped"=some (some (.ref f37))) (n37:PySem.W.isFn K (.ref f37)=true)
  (a38:PySem.W.findIn K (.ref 400) "bags"=some (some (.ref f38))) (n38:PySem.W.isFn K (.ref f38)=true)
  (a39:PySem.W.findIn K (.ref 400) "out"=some (some (.ref f39))) (n39:PySem.W.isFn K (.ref f39)=true)
  (a40:PySem.W.findIn K (.ref 400) "late"=some (some (.ref f40))) (n40:PySem.W.isFn K (.ref f40)=true)
  (a41:PySem.W.findIn K (.ref 400) "where"=some (some (.ref f41))) (n41:PySem.W.isFn K (.ref f41)=true)
  (a42:PySem.W.findIn K (.ref 400) "cart_of"=some (some (.ref f42))) (n42:PySem.W.isFn K (.ref f42)=true)
  (a43:PySem.W.findIn K (.ref 400) "in_order"=some (some (.ref f43))) (n43:PySem.W.isFn K (.ref f43)=true)
  (F0:Fun K "is_name" "is_name" b1o f0 d0)
  (F1:Fun K "right_house" "right_house" a8i f1 d1)
  (F2:Fun K "check_carts" "check_carts" a8j f2 d2)
  (F3:Fun K "check_belts" "check_belts" a8k f3 d3)
  (F4:Fun K "take_name" "take_name" b0m f4 d4)
  (F5:Fun K "check_outs" "check_outs" a9h f5 d5)
  (F6:Fun K "check_hand" "check_hand" a9i f6 d6)
  (F7:Fun K "belt_names" "belt_names" a7e f7 d7)
  (F8:Fun K "reached" "reached" b1p f8 d8)
  (F9:Fun K "belt_of" "belt_of" b6l f9 d9)
  (F10:Fun K "copied" "copied" b4k f10 d10)
  (F11:Fun K "check_closing" "check_closing" a6p f11 d11)
  (F12:Fun K "_law_cell" "_law_cell" b9w f12 d12)
  (F13:Fun K "_law_digit" "_law_digit" b6m f13 d13)
  (F14:Fun K "_law_pick" "_law_pick" b9x f14 d14)
  (F15:Fun K "_law_other" "_law_other" b6n f15 d15)
  (F16:Fun K "_law_third" "_law_third" b6o f16 d16)
  (F17:Fun K "_law_name" "_law_name" b9y f17 d17)
  (F18:Fun K "_law_outs" "_law_outs" b4l f18 d18)
  (F19:Fun K "_law_house" "_law_house" a9j f19 d19)
  (F20:Fun K "_law_same" "_law_same" b9z f20 d20)
  (F21:Fun K "_law_no_bag" "_law_no_bag" b2n f21 d21)
  (F22:Fun K "_law_is_new" "_law_is_new" a9w f22 d22)
  (F23:Fun K "_law_refused" "_law_refused" b0n f23 d23)
  (F24:Fun K "_law_copy" "_law_copy" b4m f24 d24)
  (F25:Fun K "law" "law" e1m f25 d25)
  (F26:Fun K "__init__" "Hall.__init__" c0a f26 d26)
  (F27:Fun K "flight" "Hall.flight" b2o f27 d27)
  (F28:Fun K "put" "Hall.put" c4g f28 d28)
  (F29:Fun K "stop" "Hall.stop" c0b f29 d29)
  (F30:Fun K "check_flight" "Hall.check_flight" a6a f30 d30)
  (F31:Fun K "check_belt" "Hall.check_belt" a7n f31 d31)
  (F32:Fun K "check_inside" "Hall.check_inside" a6b f32 d32)
  (F33:Fun K "house" "Hall.house" b6p f33 d33)
  (F34:Fun K "rounds" "Hall.rounds" b2p f34 d34)
  (F35:Fun K "moment" "Hall.moment" b2q f35 d35)
  (F36:Fun K "flights" "Hall.flights" a8l f36 d36)
  (F37:Fun K "stopped" "Hall.stopped" a8m f37 d37)
  (F38:Fun K "bags" "Hall.bags" b4n f38 d38)
  (F39:Fun K "out" "Hall.out" c4h f39 d39)
  (F40:Fun K "late" "Hall.late" b4o f40 d40)
  (F41:Fun K "where" "Hall.where" b6q f41 d41)
  (F42:Fun K "cart_of" "Hall.cart_of" b0o f42 d42)
  (F43:Fun K "in_order" "Hall.in_order" a5v f43 d43)
  (h_c:Cls K 400) (h_mk:PySem.W.makesIn K 400=true) (h_kp:PySem.W.keepIn K (.ref 400)=true) (h_mg:PySem.W.nsIn K mainGlobals "Hall"=some (some (.ref 400)))
  (t_built:PySem.W.findIn K (.ref 400) "built"=some none)
  (t_told_rounds:PySem.W.findIn K (.ref 400) "told_rounds"=some none)
  (t_now:PySem.W.findIn K (.ref 400) "now"=some none)
  (t_book:PySem.W.findIn K (.ref 400) "book"=some none)
  (t_halts:PySem.W.findIn K (.ref 400) "halts"=some none)
  (t_places:PySem.W.findIn K (.ref 400) "places"=some none)
  (t_readings:PySem.W.findIn K (.ref 400) "readings"=some none)
  (t_rounded:PySem.W.findIn K (.ref 400) "rounded"=some none)
  (t_gone:PySem.W.findIn K (.ref 400) "gone"=some none)
  (t_carted:PySem.W.findIn K (.ref 400) "carted"=some none)
  (er:Errz K mg errTab 31)
  (z_len:PySem.W.nsIn K mainGlobals "len"=some none)
  (z_isinstance:PySem.W.nsIn K mainGlobals "isinstance"=some none)
  (z_int:PySem.W.nsIn K mainGlobals "int"=some none)
  (z_bool:PySem.W.nsIn K mainGlobals "bool"=some none)
  (z_str:PySem.W.nsIn K mainGlobals "str"=some none)
  (z_list:PySem.W.nsIn K mainGlobals "list"=some none)
  (z_tuple:PySem.W.nsIn K mainGlobals "tuple"=some none)
  (z_range:PySem.W.nsIn K mainGlobals "range"=some none)
  (z_enumerate:PySem.W.nsIn K mainGlobals "enumerate"=some none)
  (z_all:PySem.W.nsIn K mainGlobals "all"=some none)
  (z_sorted:PySem.W.nsIn K mainGlobals "sorted"=some none)
  {t_LETTERS:Tok} (y_LETTERS:PySem.W.nsIn K mainGlobals "LETTERS"=some (some (.str "abcdefghijklmnopqrstuvwxyz" t_LETTERS)))
  {t_MOST_LETTERS:Tok} (y_MOST_LETTERS:PySem.W.nsIn K mainGlobals "MOST_LETTERS"=some (some (.int 8 t_MOST_LETTERS)))
  : ∃fd:FuncData,(∀(s:Shared) (v:Value),BindsTo s fd ⟨[v],[]⟩ [("_law_script",v)])/\∀base:Heap,K.In base->base.Ns mainGlobals mg->FnOk l.prog w K mg base CX0 11 fa fd ["_law_script"] (spLaw K):=by
 have e:=hfa.symm.trans (PySem.W.mg_of X G a25);cases e;have T:Txt K mg ⟨f0,d0,f1,d1,f2,d2,f3,d3,f4,d4,f5,d5,f6,d6,f7,d7,f8,d8,f9,d9,f10,d10,f11,d11,f12,d12,f13,d13,f14,d14,f15,d15,f16,d16,f17,d17,f18,d18,f19,d19,f20,d20,f21,d21,f22,d22,f23,d23,f24,d24,fa,d25,f26,d26,f27,d27,f28,d28,f29,d29,f30,d30,f31,d31,f32,d32,f33,d33,f34,d34,f35,d35,f36,d36,f37,d37,f38,d38,f39,d39,f40,d40,f41,d41,f42,d42,f43,d43⟩:=⟨⟨F0,PySem.W.mg_of X G a0,F0.binds fun _ _ _ _ _ _ us hl=>by obtain⟨_,rfl⟩:=c0x hl;rfl⟩,⟨F1,PySem.W.mg_of X G a1,F1.binds fun _ _ _ _ _ _ us hl=>by obtain⟨_,rfl⟩:=c0x hl;rfl⟩,⟨F2,PySem.W.mg_of X G a2,F2.binds fun _ _ _ _ _ _ us hl=>by obtain⟨_,_,rfl⟩:=c4w hl;rfl⟩,⟨F3,PySem.W.mg_of X G a3,F3.binds fun _ _ _ _ _ _ us hl=>by obtain⟨_,_,rfl⟩:=c4w hl;rfl⟩,⟨F4,PySem.W.mg_of X G a4,F4.binds fun _ _ _ _ _ _ us hl=>by obtain⟨_,_,rfl⟩:=c4w hl;rfl⟩,⟨F5,PySem.W.mg_of X G a5,F5.binds fun _ _ _ _ _ _ us hl=>by obtain⟨_,_,rfl⟩:=c4w hl;rfl⟩,⟨F6,PySem.W.mg_of X G a6,F6.binds fun _ _ _ _ _ _ us hl=>by obtain⟨_,rfl⟩:=c0x hl;rfl⟩,⟨F7,PySem.W.mg_of X G a7,F7.binds fun _ _ _ _ _ _ us hl=>by obtain⟨_,rfl⟩:=c0x hl;rfl⟩,⟨F8,PySem.W.mg_of X G a8,F8.binds fun _ _ _ _ _ _ us hl=>by obtain⟨_,_,rfl⟩:=c4w hl;rfl⟩,⟨F9,PySem.W.mg_of X G a9,F9.binds fun _ _ _ _ _ _ us hl=>by obtain⟨_,_,rfl⟩:=c4w hl;rfl⟩,⟨F10,PySem.W.mg_of X G a10,F10.binds fun _ _ _ _ _ _ us hl=>by obtain⟨_,rfl⟩:=c0x hl;rfl⟩,⟨F11,PySem.W.mg_of X G a11,F11.binds fun _ _ _ _ _ _ us hl=>by obtain⟨_,rfl⟩:=c0x hl;rfl⟩,⟨F12,PySem.W.mg_of X G a12,F12.binds fun _ _ _ _ _ _ us hl=>by obtain⟨_,_,rfl⟩:=c4w hl;rfl⟩,⟨F13,PySem.W.mg_of X G a13,F13.binds fun _ _ _ _ _ _ us hl=>by obtain⟨_,_,_,_,rfl⟩:=e5a hl;rfl⟩,⟨F14,PySem.W.mg_of X G a14,F14.binds fun _ _ _ _ _ _ us hl=>by obtain⟨_,_,_,rfl⟩:=e4z hl;rfl⟩,⟨F15,PySem.W.mg_of X G a15,F15.binds fun _ _ _ _ _ _ us hl=>by obtain⟨_,_,_,rfl⟩:=e4z hl;rfl⟩,⟨F16,PySem.W.mg_of X G a16,F16.binds fun _ _ _ _ _ _ us hl=>by obtain⟨_,_,_,rfl⟩:=e4z hl;rfl⟩,⟨F17,PySem.W.mg_of X G a17,F17.binds fun _ _ _ _ _ _ us hl=>by obtain⟨_,_,_,rfl⟩:=e4z hl;rfl⟩,⟨F18,PySem.W.mg_of X G a18,F18.binds fun _ _ _ _ _ _ us hl=>by obtain⟨_,_,_,_,rfl⟩:=e5a hl;rfl⟩,⟨F19,PySem.W.mg_of X G a19,F19.binds fun _ _ _ _ _ _ us hl=>by obtain⟨_,rfl⟩:=c0x hl;rfl⟩,⟨F20,PySem.W.mg_of X G a20,F20.binds fun _ _ _ _ _ _ us hl=>by obtain⟨_,_,rfl⟩:=c4w hl;rfl⟩,⟨F21,PySem.W.mg_of X G a21,F21.binds fun _ _ _ _ _ _ us hl=>by obtain⟨_,_,rfl⟩:=c4w hl;rfl⟩,⟨F22,PySem.W.mg_of X G a22,F22.binds fun _ _ _ _ _ _ us hl=>by obtain⟨_,_,_,_,rfl⟩:=e5a hl;rfl⟩,⟨F23,PySem.W.mg_of X G a23,F23.binds fun _ _ _ _ _ _ us hl=>by obtain⟨_,rfl⟩:=c0x hl;rfl⟩,⟨F24,PySem.W.mg_of X G a24,F24.binds fun _ _ _ _ _ _ us hl=>by obtain⟨_,rfl⟩:=c0x hl;rfl⟩,⟨F25,PySem.W.mg_of X G a25,F25.binds fun _ _ _ _ _ _ us hl=>by obtain⟨_,rfl⟩:=c0x hl;rfl⟩,F26,F26.binds fun _ _ _ _ _ _ us hl=>by obtain⟨_,_,_,rfl⟩:=e4z hl;rfl,⟨F27,⟨a27,n27,F27.kp⟩,F27.binds fun _ _ _ _ _ _ us hl=>by obtain⟨_,_,_,_,rfl⟩:=e5a hl;rfl⟩,⟨F28,⟨a28,n28,F28.kp⟩,F28.binds fun _ _ _ _ _ _ us hl=>by obtain⟨_,_,_,_,rfl⟩:=e5a hl;rfl⟩,⟨F29,⟨a29,n29,F29.kp⟩,F29.binds fun _ _ _ _ _ _ us hl=>by obtain⟨_,_,rfl⟩:=c4w hl;rfl⟩,⟨F30,⟨a30,n30,F30.kp⟩,F30.binds fun _ _ _ _ _ _ us hl=>by obtain⟨_,_,rfl⟩:=c4w hl;rfl⟩,⟨F31,⟨a31,n31,F31.kp⟩,F31.binds fun _ _ _ _ _ _ us hl=>by obtain⟨_,_,rfl⟩:=c4w hl;rfl⟩,⟨F32,⟨a32,n32,F32.kp⟩,F32.binds fun _ _ _ _ _ _ us hl=>by obtain⟨_,_,rfl⟩:=c4w hl;rfl⟩,⟨F33,⟨a33,n33,F33.kp⟩,F33.binds fun _ _ _ _ _ _ us hl=>by obtain⟨_,rfl⟩:=c0x hl;rfl⟩,⟨F34,⟨a34,n34,F34.kp⟩,F34.binds fun _ _ _ _ _ _ us hl=>by obtain⟨_,rfl⟩:=c0x hl;rfl⟩,⟨F35,⟨a35,n35,F35.kp⟩,F35.binds fun _ _ _ _ _ _ us hl=>by obtain⟨_,rfl⟩:=c0x hl;rfl⟩,⟨F36,⟨a36,n36,F36.kp⟩,F36.binds fun _ _ _ _ _ _ us hl=>by obtain⟨_,rfl⟩:=c0x hl;rfl⟩,⟨F37,⟨a37,n37,F37.kp⟩,F37.binds fun _ _ _ _ _ _ us hl=>by obtain⟨_,rfl⟩:=c0x hl;rfl⟩,⟨F38,⟨a38,n38,F38.kp⟩,F38.binds fun _ _ _ _ _ _ us hl=>by obtain⟨_,rfl⟩:=c0x hl;rfl⟩,⟨F39,⟨a39,n39,F39.kp⟩,F39.binds fun _ _ _ _ _ _ us hl=>by obtain⟨_,rfl⟩:=c0x hl;rfl⟩,⟨F40,⟨a40,n40,F40.kp⟩,F40.binds fun _ _ _ _ _ _ us hl=>by obtain⟨_,rfl⟩:=c0x hl;rfl⟩,⟨F41,⟨a41,n41,F41.kp⟩,F41.binds fun _ _ _ _ _ _ us hl=>by obtain⟨_,_,rfl⟩:=c4w hl;rfl⟩,⟨F42,⟨a42,n42,F42.kp⟩,F42.binds fun _ _ _ _ _ _ us hl=>by obtain⟨_,_,rfl⟩:=c4w hl;rfl⟩,⟨F43,⟨a43,n43,F43.kp⟩,F43.binds fun _ _ _ _ _ _ us hl=>by obtain⟨_,rfl⟩:=c0x hl;rfl⟩,h_c,⟨h_mk,a26,n26,h_kp⟩,PySem.W.mg_of X G h_mg,t_built,t_told_rounds,t_now,t_book,t_halts,t_places,t_readings,t_rounded,t_gone,t_carted,er,PySem.W.mg_none_of X G z_len,PySem.W.mg_none_of X G z_isinstance,PySem.W.mg_none_of X G z_int,PySem.W.mg_none_of X G z_bool,PySem.W.mg_none_of X G z_str,PySem.W.mg_none_of X G z_list,PySem.W.mg_none_of X G z_tuple,PySem.W.mg_none_of X G z_range,PySem.W.mg_none_of X G z_enumerate,PySem.W.mg_none_of X G z_all,PySem.W.mg_none_of X G z_sorted,⟨_,PySem.W.mg_of X G y_LETTERS⟩,⟨_,PySem.W.mg_of X G y_MOST_LETTERS⟩⟩
 obtain⟨oc,od,kV,doc,pm,an,cdv,ct,osl,rfl,_,_⟩:=F25.ex;exact⟨_,fun s v=>.of_eq rfl,fun base _ _=>e4y T⟩
theorem walk{l:PySem.W.OpenLaw}{q:Program}{loose:List Str}{XP:(Str->Option Value)->Heap->Prop}{YP:World->Heap->Prop}{d:DefRec}{K:Params->L2.FG}(hn:l.most=some 63)(hdf:d.params.defaults=[])
  (hY:∀(w:World) (h:Heap),YP w h->(K w.params).In h)
  (F:∀(w:World) (mg:Str->Option Value) (fa:Addr) (h:Heap),(K w.params).In h->h.Ns mainGlobals mg->mg d.name=some (.ref fa)->
   ∃fd:FuncData,(∀(s:Shared) (u:Value),BindsTo s fd ⟨[u],[]⟩ [("_law_script",u)])/\∀base:Heap,(K w.params).In base->base.Ns mainGlobals mg->FnOk l.prog w (K w.params) mg base CX0 11 fa fd ["_law_script"] (spLaw (K w.params))) :
  PySem.W.WalkO q loose XP YP l.row.toRowW d [] (fun f vs=>PySem.call f vs):=
 L2.walk_of (n:=63) (k:=11) (x:="_law_script") (CX:=fun _=>CX0) (sp:=fun w=>spLaw (K w.params)) hn (by decide) hdf ⟨rfl,by decide,by decide⟩ hY F (fun _ _ a ns hl _ hS=>⟨a,ns,rfl,hS,hl,fun _=>rfl⟩) fun _ _ _ _ _ z=>z
end Carry
end
open PySem PySem.W PyProof.Rows
set_option maxRecDepth 100000 in
set_option maxHeartbeats 0 in
theorem PySem.Challenge.cw_carry_k60_a_new_hall_holds : PySem.Challenge.rw_carry_k60_a_new_hall.Holds := by
 w_on;o_law;(try simp only[Carry.Hd.hd]);k_head;(case hw=>w_witness2)
 k_fill
 refine Carry.walk (l:=PySem.Challenge.rw_carry_k60_a_new_hall) rfl rfl (fun w h Y=>PySem.W.kIn_of Y) ?F
 case F=>
  intro w mg fa h KX G hmg;refine' Carry.all_mk KX G hmg ?a0 ?a1 ?a2 ?a3 ?a4 ?a5 ?a6 ?a7 ?a8 ?a9 ?a10 ?a11 ?a12 ?a13 ?a14 ?a15 ?a16 ?a17 ?a18 ?a19 ?a20 ?a21 ?a22 ?a23 ?a24 ?a25 ?a26 ?n26 ?a27 ?n27 ?a28 ?n28 ?a29 ?n29 ?a30 ?n30 ?a31 ?n31 ?a32 ?n32 ?a33 ?n33 ?a34 ?n34 ?a35 ?n35 ?a36 ?n36 ?a37 ?n37 ?a38 ?n38 ?a39 ?n39 ?a40 ?n40 ?a41 ?n41 ?a42 ?n42 ?a43 ?n43 ?F0 ?F1 ?F2 ?F3 ?F4 ?F5 ?F6 ?F7 ?F8 ?F9 ?F10 ?F11 ?F12 ?F13 ?F14 ?F15 ?F16 ?F17 ?F18 ?F19 ?F20 ?F21 ?F22 ?F23 ?F24 ?F25 ?F26 ?F27 ?F28 ?F29 ?F30 ?F31 ?F32 ?F33 ?F34 ?F35 ?F36 ?F37 ?F38 ?F39 ?F40 ?F41 ?F42 ?F43 ?h_c ?h_mk ?h_kp ?h_mg ?t_built ?t_told_rounds ?t_now ?t_book ?t_halts ?t_places ?t_readings ?t_rounded ?t_gone ?t_carted ?er ?z_len ?z_isinstance ?z_int ?z_bool ?z_str ?z_list ?z_tuple ?z_range ?z_enumerate ?z_all ?z_sorted ?y_LETTERS ?y_MOST_LETTERS
  case h_c=>exact⟨by k_is,by k_is,by k_is,by k_is⟩
  case er=>
   refine' Carry.errs_mk KX G ?h0 ?h1 ?h2 ?h3 ?h4 ?h5 ?h6 ?h7 ?h8 ?GB
   all_goals first|(refine' Carry.ea_mk ?za ?zb ?zp ?zq ?zr ?zx ?zy ?zd;(case zb=>refine' L2.errC_mk ?zl ?zm ?zs ?zi;(case zl=>k_is);(case zm=>k_is);(case zs=>kernel_rfl);(case zi=>kernel_rfl));(case za=>k_is);(case zp=>k_is);(case zq=>k_is);(case zr=>k_is);(case zx=>k_is);(case zy=>k_is);(case zd=>k_is))|(refine' L2.errC_mk ?zl ?zm ?zs ?zi;(case zl=>k_is);(case zm=>k_is);(case zs=>kernel_rfl);(case zi=>kernel_rfl))|k_is
  all_goals first|(refine' L2.fun_mk ?zl ?zc ?zk;(case zl=>k_is);(case zc=>k_is);(case zk=>k_is))|k_is|skip