import PyProof.Rows.All
import Wide.All
import OpenK.AllK
import Wide.FinOn
import Lean
import PyProof.EqAt
import PyProof.EqKinds
import PyProof.TupleCall
import PyProof.StationsW
import PyProof.NeKinds
import KE.KRevIter
import PyProof.SeqI3
import PyProof.ZipIter
import PyProof.EnumIter
import PyProof.EnumStmt
import PyProof.EnumMake
import PyProof.WalksEnum
import PyProof.ExcClass3
import PyProof.ExcInit
import PyProof.ExcBaseAll.ValueError
import PyProof.ExcArgsOwn
import KE.KIsAll
import PyProof.ExcAttrAll.ValueError
import PyProof.InstStoreFacts
import KE.KTryMore
import PyProof.RulesAs
import PyProof.NsDelKeeps
import KE.KDictList
import KE.KItemsList
import PyProof.Rows.SortShell
import KE.IntTextLaws
import KE.KIntText
import PyProof.MeetsSeq
import PyProof.SeqRoads2
import PyProof.Rows.SortRev
import PyProof.Rows.CallKwBuiltin
import KE.KSort
import PyProof.StrLawsChain
import PyProof.WalkInts
import PySem.Challenge.RW_carry_k09_no_houses_read
set_option linter.all false
set_option bootstrap.genMatcherCode false
set_option compiler.extract_closed false
set_option genSizeOf false
set_option genSizeOfSpec false
namespace Carry.Hd
open Lean Meta PySem PySem.W
abbrev Ex:=Lean.Expr
def fit(ds:Array (Ex×Ex×Ex)):MetaM (Array (Ex×Ex×Ex)):=do
 let cs:Std.HashSet Ex:=ds.foldl (fun z d=>if d.1.isConst then z.insert d.1 else z) {}
 ds.filterM fun d=>do
  let ty:=Fast.bareType (<-inferType d.1)
  return (ty.find? fun y=>cs.contains y || y.isConstOf ``PySem.W.Frag).isNone
def spots(ds:Array (Ex×Ex×Ex)):Std.HashMap Ex Nat:=ds.zipIdx.foldl (fun z d=>z.insert d.1.1 d.2) {}
def parts(tw:Name->MetaM Unit)(v:Ex):MetaM (Array (Ex×Ex×Ex)):=do
 for x in Fast.constsOf v do
  if let .const c _:=x then
   if((<-getEnv).getModuleIdxFor? c).isNone || (`PySem.Challenge).isPrefixOf c then tw c
 fit (<-Fast.twinsIn v)
def twin:Nat->Name->MetaM Unit
 |0,_=>return
 |k+1,c=>do
  let (n,e) <-Fast.stemIn c true
  if(<-getEnv).contains e then return
  if let some none:=(<-Fast.primed.get).get? c then return
  let some (.defnInfo d):=(<-getEnv).find? c|return
  let ds <-parts (twin k) d.value
  if ds.isEmpty then
   Fast.primed.modify fun z=>z.insert c none
   return
  let tys <-ds.mapM fun x=>inferType x.1
  let ty <-inferType d.value
  let ix:=spots ds
  let G <-Fast.withLocals tys.toList #[] fun xs=>mkLambdaFVars xs (Fast.putIn ix (fun i=>xs[i]!) d.value)
  let mut B:=#[ty]
  for q in tys.reverse do B:=B.push (<-mkArrow q B.back!)
  let m:=ds.size
  let mut f:=G
  let mut g:=G
  let mut pf:=mkApp2 (mkConst ``Eq.refl [<-getLevel B[m]!]) B[m]! G
  for i in [0:m] do
   let (x,y,h):=ds[i]!
   pf:=mkAppN (mkConst ``congr [<-getLevel tys[i]!,<-getLevel B[m - 1 - i]!]) #[tys[i]!,B[m - 1 - i]!,f,g,x,y,pf,h]
   f:=mkApp f x
   g:=mkApp g y
  withOptions (Elab.async.set · false) do
   addDecl (.defnDecl { name:=n,levelParams:=[],type:=d.type,value:=Fast.putIn ix (fun i=>ds[i]!.2.1) d.value,hints:=d.hints,safety:=.safe})
   addDecl (.thmDecl { name:=e,levelParams:=[],type:=<-mkEq (mkConst c) (mkConst n),value:=pf})
  Fast.primed.modify fun z=>z.insert c (some (n,e))
def prep(v:Ex):MetaM (Array (Ex×Ex×Ex)):=parts (twin 9) v
def put(stem:Name)(ty v:Ex):MetaM Ex:=do
 let ds <-prep v
 let c <-defAt stem ty (Fast.putIn (spots ds) (fun i=>ds[i]!.2.1) v)
 Fast.primed.modify fun z=>z.insert c.constName! none
 return c
abbrev Objs:=Array (Obj×Obj×Ex)
def lay(old:Objs)(s t:Shared):MetaM Objs:=do
 let P:=mkConst ``Params
 unless s.heap.objs.size == t.heap.objs.size && s.toks == t.toks && toExpr s.drawn == toExpr t.drawn && toExpr s.heap.life == toExpr t.heap.life do throwError "the worlds part"
 let mut out:=#[]
 for i in [0:s.heap.objs.size] do
  let (a,b):=(s.heap.objs[i]!,t.heap.objs[i]!)
  if let some (a',b',e):=old[i]? then
   if sameObjNow a' a && sameObjNow b' b then
    out:=out.push (a',b',e)
    continue
  let v <-withLocalDeclD `P P fun p=>do
   let e:=objE p a
   unless e == objE p b do throwError "an object is the world's"
   mkLambdaFVars #[p] e
  out:=out.push (a,b,<-put `o (<-mkArrow P (mkConst ``Obj)) v)
 return out
def state(l:Bool)(old:Objs)(s t:Shared):MetaM (Objs×W.State):=do
 let P:=mkConst ``Params
 let os <-lay old s t
 let life:=toExpr s.heap.life
 let S:W.State:={ heap:=default,gens:=<-gensE s t,drawn:=toExpr s.drawn,toks:=mkRawNatLit s.toks}
 if l then
  let v <-withLocalDeclD `P P fun p=>mkLambdaFVars #[p] (mkApp2 (mkConst ``Heap.mk) (mkApp2 (mkConst ``Array.mk [0]) (mkConst ``Obj) (listE (mkConst ``Obj) (os.toList.map fun x=>mkApp x.2.2 p))) life)
  return (os,{ S with heap:=<-put `h (<-mkArrow P (mkConst ``Heap)) v})
 let v <-withLocalDeclD `P P fun p=>mkLambdaFVars #[p] (treeE p (os.map (·.2.2)) 1 0)
 return (os,{ S with tree:=some (<-put `t (<-mkArrow P (mkConst ``BT)) v,mkRawNatLit s.heap.objs.size,life)})
def aux(ty pf:Ex):MetaM Ex:=do return mkConst (<-withOptions (Elab.async.set · false) (mkAuxLemma [] ty pf (cache:=false)))
def look:Nat->Ex->Ex->MetaM Ex
 |k,l,r=>do
  let W:=mkConst ``World
  let O:=mkConst ``OsState
  let q <-withLocalDeclD `w W fun w=>withLocalDeclD `os O fun os=>do
   let un (e:Ex):MetaM Ex:=do
    let e:=(mkApp2 e w os).headBeta
    if e.isAppOf ``openSeen || e.isAppOf ``openGood then return (<-unfoldDefinition? e).getD e
    return e
   let (a,b):=(<-un l,<-un r)
   unless a.isAppOfArity ``Prod.mk 4 && b.isAppOfArity ``Prod.mk 4 do return none
   let sh (e:Ex) (i:Nat):MetaM Ex:=mkLambdaFVars #[w,os] (e.getArg! i)
   return some (<-sh a 2,<-sh b 2,<-sh a 3,<-sh b 3)
  match k,q with
  |n+1,some (a1,b1,a2,b2)=>
   let (x,y):=(<-look n a1 b1,<-look n a2 b2)
   let (ty,pf) <-withLocalDeclD `w W fun w=>withLocalDeclD `os O fun os=>do
    return (<-mkForallFVars #[w,os] (<-mkEq (mkApp2 l w os).headBeta (mkApp2 r w os).headBeta),<-mkLambdaFVars #[w,os] (<-mkAppM ``looks_pair #[mkApp2 x w os,mkApp2 y w os]))
   aux ty pf
  |_,_=>
   let P <-withLocalDeclD `w W fun w=>do mkLambdaFVars #[w] (<-mkEq (mkApp l w).headBeta (mkApp r w).headBeta)
   discard <| prep P
   let e <-byKernelQuick P []
   withLocalDeclD `w W fun w=>withLocalDeclD `os O fun os=>do mkLambdaFVars #[w,os] (<-mkAppM ``congrFun #[mkApp e w,os])
def most:Nat:=3000
def left(g:MVarId)(pE:Ex)(p:Program)(_:List String):MetaM Unit:=g.withContext do
 let a:=(<-instantiateMVars (<-g.getType)).consumeMData.getAppArgs
 let some N <-(Meta.evalNat a[7]!).run|throwError "no number"
 let (.ok t,.ok t'):=(<-traceTop p N 1,<-traceTop p N 2)|throwError "no trace"
 let tb:=mkConst ``treeTable
 let (W,O):=(mkConst ``World,mkConst ``OsState)
 let m0:=mkRawNatLit t.s0.heap.objs.size
 let ann:=toExpr t.ann
 let main <-mkAppM ``Program.main #[pE]
 let op <-mkAppM ``opening #[pE]
 let e1 <-aux (<-mkEq op (mkApp (mkConst ``plainProg) (<-mkAppM ``Scope.names #[<-mkAppM ``Module.scope #[main]]))) (<-mkEqRefl op)
 let e2 <-withLocalDeclD `s (mkConst ``Shared) fun s=>do
  let r <-mkAppM ``some #[s]
  aux (<-mkForallFVars #[s] (<-mkEq (mkApp2 (mkConst ``fenceModules?) pE s) r)) (<-mkLambdaFVars #[s] (<-mkEqRefl r))
 let e3 <-mkDecideProof (<-mkEq (mkApp2 (mkConst ``Nat.ble) (mkRawNatLit 600) a[7]!) (mkConst ``Bool.true))
 let boot:=mkAppN (mkConst ``boot_open) #[pE,a[7]!,e1,e3,e2]
 let bE <-mkAppM ``behindTheImports #[pE]
 let some cells <-cellsD? bE|throwError "no body"
 let env0 <-Elab.Term.TermElabM.run' do
  let s1 <-Elab.Term.exprToSyntax (<-mkAppM ``Module.scope #[main])
  let s2 <-Elab.Term.exprToSyntax (toExpr t.code)
  let e <-Elab.Term.withSynthesize (Elab.Term.elabTermEnsuringType (<-`(({ scope:=$s1,locals:=mainNs,globals:=mainNs,cells:=[],code:=$s2,frame:=some $(quote t.frame)}:Env))) (mkConst ``Env))
  instantiateMVars e
 let env <-defAt `env (mkConst ``Env) env0
 let fp:=toExpr t.framePos
 let cE:=mkApp2 (mkConst ``Code.body) bE env
 let B:=listE (mkConst ``Frame) [mkApp (mkConst ``topFrame) fp]
 let go (f:Name) (more:Array Ex) (n:Nat) (w s th:Ex):Ex:=mkAppN (mkConst f) (#[tb,pE,w,m0,ann]++more++#[mkRawNatLit n,s,th])
 let one:=#[mkRawNatLit 1]
 let piece (rows:List String) (l r:Ex->Ex->MetaM Ex):MetaM Ex:=do
  for x in [pE,env] do discard <| prep x
  byPiece rows l r
 let ends (S:Ex) (pos:Pos):MetaM Ex:=do mkAppM ``some #[<-mkAppM ``Prod.mk #[mkConst ``Flow.next,<-mkAppM ``Prod.mk #[S,<-mkAppM ``Prod.mk #[cE,toExpr pos]]]]
 let rowsOf (x y:Snap):=(x.rows++y.rows).eraseDups
 let mut o:Objs:=#[]
 for i in [0:t.s0.heap.objs.size] do o:=o.push (t.s0.heap.objs[i]!,t'.s0.heap.objs[i]!,mkConst ((`PySem.W).str s!"boot_o_{i}"))
 let S0:PySem.W.State:={ heap:=mkConst ``boot_heap,gens:=mkApp2 (mkConst ``Array.mk [0]) (mkConst ``GenState) (mkApp (mkConst ``List.nil [0]) (mkConst ``GenState)),drawn:=mkConst ``boot_drawn,toks:=mkConst ``boot_toks}
 let (o1,Sa) <-state true o t.pre.s t'.pre.s
 let thA:=mkApp4 (mkConst ``Thread.mk) (mkApp2 (mkConst ``denote) tb cE) cE (toExpr t.pre.pos) B
 let stub:=mkApp (mkConst ``topStub) pE
 let pre <-piece (rowsOf t.pre t'.pre) (fun w os=>pure (go ``topGo #[] t.pre.steps w (S0.at w os) stub)) fun w os=>do mkAppM ``some #[<-mkAppM ``Prod.mk #[Sa.at w os,thA]]
 let (o2,Sb) <-state false o1 t.block.s t'.block.s
 let block <-piece (rowsOf t.block t'.block) (fun w os=>pure (go ``segRun one t.block.steps.succ w (Sa.at w os) (mkAppN (mkConst ``blockOf) #[bE,env,cE,toExpr t.pre.pos,B]))) fun w os=>ends (Sb.at w os) t.block.pos
 let mut gs:Array (List Ex×Nat×Snap×Snap×List String):=#[]
 for (st,x,x') in cells.zip (t.pieces.zip t'.pieces) do
  let k:=max x.steps x'.steps
  let rs:=rowsOf x x'
  match gs.back? with
  |some (l,n,_,_,r)=>
   if n+k<=most && (r++rs).eraseDups.length<=3 then gs:=gs.pop.push (l++[st],n+k,x,x',(r++rs).eraseDups) else gs:=gs.push ([st],k,x,x',rs)
  |none=>gs:=gs.push ([st],k,x,x',rs)
 let mut cur:=(o2,Sb,t.block.pos)
 let mut lems:=#[]
 for (sts,n,x,x',rs) in gs do
  let stE <-defAt `st (mkApp (mkConst ``List [0]) (mkConst ``Stmt)) (listE (mkConst ``Stmt) sts)
  discard <| prep stE
  let (o0,S1,p1):=cur
  let (o',S') <-state false o0 x.s x'.s
  let th:=mkAppN (mkConst ``piecesOf) #[stE,env,cE,toExpr p1,B]
  let h <-piece rs (fun w os=>pure (go ``segRunT one n.succ w (S1.atT w os) th)) fun w os=>ends (S'.atT w os) x.pos
  lems:=lems.push (stE,n.succ,S1,p1,S',x.pos,<-liftT h ``segRun_of)
  cur:=(o',S',x.pos)
  logInfo m!"PIECE {sts.length} {n} {x.s.heap.objs.size}"
 let (oN,SN,pN):=cur
 let (_,Sf) <-state true oN t.fin.s t'.fin.s
 let fin <-piece (rowsOf t.fin t'.fin) (fun w os=>pure (go ``topRun #[] t.fin.steps.succ w (SN.at w os) (mkApp4 (mkConst ``Thread.mk) (mkApp (mkConst ``doneF) (mkConst ``Flow.next)) cE (toExpr pN) B))) fun w os=>mkAppM ``some #[Sf.at w os]
 let run <-withLocalDeclD `w W fun w=>withLocalDeclD `os O fun os=>do
  let w1 (l:Ex):MetaM Ex:=do mkAppM ``congrFun #[mkApp l w,os]
  let r:=Sf.at w os
  let com:=#[tb,pE,w,m0,ann,env,fp]
  let mut k <-w1 fin
  let mut M:=mkRawNatLit t.fin.steps.succ
  let mut rest:=listE (mkConst ``Stmt) []
  for (stE,n,S1,p1,S',p2,h) in lems.toList.reverse do
   k:=mkAppN (mkConst ``piece_app) (com++#[mkRawNatLit n,M,S1.at w os,S'.at w os,r,stE,rest,cE,toExpr p1,toExpr p2,<-w1 h,k])
   M:=mkApp2 (mkConst ``Nat.add) (mkRawNatLit n) M
   rest <-mkAppM ``HAppend.hAppend #[stE,rest]
  k:=mkAppN (mkConst ``piece_block) (com++#[mkRawNatLit t.block.steps.succ,M,Sa.at w os,Sb.at w os,r,bE,cE,toExpr t.pre.pos,toExpr t.block.pos,<-w1 block,k])
  M:=mkApp2 (mkConst ``Nat.add) (mkRawNatLit t.block.steps.succ) M
  k:=mkAppN (mkConst ``go_top) #[tb,pE,w,m0,ann,mkRawNatLit t.pre.steps,M,S0.at w os,Sa.at w os,r,stub,thA,<-w1 pre,k]
  M:=mkApp2 (mkConst ``Nat.add) (mkRawNatLit t.pre.steps) M
  let ty <-mkEq (mkAppN (mkConst ``topRun) #[tb,pE,w,m0,ann,M,S0.at w os,stub]) (<-mkAppM ``some #[r])
  return (M,<-aux (<-mkForallFVars #[w,os] ty) (<-mkLambdaFVars #[w,os] k))
 let lem:=mkConst ``LeftO.of_pieces
 let (ms,_,_) <-forallMetaTelescope (<-inferType lem)
 let vs:=#[pE,a[1]!,a[2]!,a[3]!,a[4]!,a[5]!,a[6]!,a[7]!,a[8]!,S0.heap,Sf.heap,S0.gens,Sf.gens,S0.drawn,Sf.drawn,S0.toks,Sf.toks,m0,ann,run.1]
 for (m,v) in ms.zip vs do m.mvarId!.assign v
 let want (i:Nat):MetaM Ex:=do instantiateMVars (<-inferType ms[i]!)
 let .forallE n1 d1 b1 i1 <-want 21|throwError "size"
 let size <-byKernelQuick (.lam n1 d1 b1 i1) []
 let .forallE _ _ bl _ <-want 24|throwError "looks"
 let (l,r) <-withLocalDeclD `w W fun w=>do
  let some (_,l,r):=(bl.instantiate1 w).eq?|throwError "looks"
  return (<-mkLambdaFVars #[w] l,<-mkLambdaFVars #[w] r)
 let h <-look 12 l r
 let looks <-withLocalDeclD `w W fun w=>do
  let f <-withLocalDeclD `os O fun os=>mkLambdaFVars #[os] (mkApp2 h w os)
  mkLambdaFVars #[w] (<-mkAppM ``funext #[f])
 g.assign (mkAppN lem (vs++#[boot,size,run.2,<-mkDecideProof (<-want 23),looks]))
simproc_decl hd (PySem.W.OpenRow.Holds _):=fun _=>do
 PySem.W.leftPieces.set (some left)
 return .continue
end Carry.Hd
noncomputable section
set_option Elab.async false
set_option maxRecDepth 100000
abbrev L2.FG:=PySem.W.Frag
namespace L2
open PySem PySem.Spec PyProof.Rows
abbrev Key:=Sum Int Str
def keyIs:Key->Value->Bool
 |.inl k,v=>Value.isInt k v
 |.inr x,v=>Value.isStrOf x v
def keyH(w:World):Key->Int
 |.inl k=>hashInt k
 |.inr x=>hashStr w x
theorem a3v:∀{k:Key} {v:Value},keyIs k v=true->(∃i t,k=Sum.inl i/\v=Value.int i t)\/(∃x t,k=Sum.inr x/\v=Value.str x t)
 |.inl i,v,h=>by
  obtain⟨t,e⟩:=Value.isInt_shape (k:=i) (v:=v) h;exact .inl ⟨i,t,rfl,e⟩
 |.inr x,v,h=>by
  obtain⟨t,e⟩:=Value.isStrOf_shape (x:=x) (v:=v) h;exact .inr ⟨x,t,rfl,e⟩
theorem d7s(a b:Int):decide ((Sum.inl a:Key)=Sum.inl b)=(a == b):=by
 by_cases e:a=b
 ·subst e;simp
 ·have h:¬(Sum.inl a:Key)=Sum.inl b:=fun q=>e (Sum.inl.inj q)
  rw[decide_eq_false h];exact(beq_eq_false_iff_ne.mpr e).symm
theorem d7t(a b:Str):decide ((Sum.inr a:Key)=Sum.inr b)=decide (a=b):=by
 by_cases e:a=b
 ·subst e;simp
 ·have h:¬(Sum.inr a:Key)=Sum.inr b:=fun q=>e (Sum.inr.inj q)
  rw[decide_eq_false h,decide_eq_false e]
theorem d7u(a:Int)(b:Str):decide ((Sum.inl a:Key)=Sum.inr b)=false:=decide_eq_false (fun q=>nomatch q)
theorem d7v(a:Str)(b:Int):decide ((Sum.inr a:Key)=Sum.inl b)=false:=decide_eq_false (fun q=>nomatch q)
def b9t(prog:Program)(w:World):PySem.KeyKind prog w Key where
 is:=keyIs
 hash:=keyH w
 inj:=fun v a b ha hb=>by
  rcases a3v ha with⟨i,t,rfl,rfl⟩|⟨x,t,rfl,rfl⟩
  ·rcases a3v hb with⟨j,u,rfl,e⟩|⟨y,u,rfl,e⟩
   ·injection e with e1 _;rw[e1]
   ·exact nomatch e
  ·rcases a3v hb with⟨j,u,rfl,e⟩|⟨y,u,rfl,e⟩
   ·exact nomatch e
   ·injection e with e1 _;rw[e1]
 byValue:=fun k v h=>by
  rcases a3v h with⟨i,t,rfl,rfl⟩|⟨x,t,rfl,rfl⟩ <;> rfl
 pyHash:=fun hv h=>by
  rcases a3v hv with⟨i,t,rfl,rfl⟩|⟨x,t,rfl,rfl⟩
  ·exact wpAny_pyHash_int h
  ·exact wpAny_pyHash_str h
 eqBool:=fun hu hv h=>by
  rcases a3v hu with⟨i,t,rfl,rfl⟩|⟨x,t,rfl,rfl⟩
  ·rcases a3v hv with⟨j,u,rfl,rfl⟩|⟨y,u,rfl,rfl⟩
   ·rw[d7s] at h;exact wpAny_eqBool_int h
   ·rw[d7u] at h;exact SeqAt.EqAt.int_str i t y u _ _ _ _ h
  ·rcases a3v hv with⟨j,u,rfl,rfl⟩|⟨y,u,rfl,rfl⟩
   ·rw[d7v] at h;exact SeqAt.EqAt.str_int x t j u _ _ _ _ h
   ·rw[d7t] at h;exact wpAny_eqBool_str h
 «strs»:=fun k x t v h=>by
  rcases a3v h with⟨i,u,rfl,e⟩|⟨y,u,rfl,e⟩
  ·exact nomatch e
  ·injection e with e1 _;subst e1;cases v <;> rfl
inductive V where
 |non|bl (b:Bool)|int (i:Int)|str (x:Str)|byt (b:Array UInt8)|flt (b:UInt64)|ref (a:Addr)|ty (n:String)
 deriving DecidableEq
def RelV:V->Value->Prop
 |.non,u=>u=Value.none
 |.bl b,u=>u=Value.bool b
 |.int i,u=>∃t,u=Value.int i t
 |.str x,u=>∃t,u=Value.str x t
 |.byt b,u=>∃t,u=Value.bytes b t
 |.flt b,u=>∃t,u=Value.float b t
 |.ref a,u=>u=Value.ref a
 |.ty n,u=>u=Value.type n
abbrev Vals:List V->List Value->Prop:=Paired RelV
theorem Vals.length{xs:List V}{us:List Value}(r:Vals xs us):xs.length=us.length:=Paired.length r
theorem Vals.get:∀{xs:List V} {us:List Value} {i:Nat} {x:V},Vals xs us->xs[i]?=some x->∃u,us[i]?=some u/\RelV x u
 |_,_,_,_,.nil,e=>by simp at e
 |_,_,0,_,.cons r _,e=>by simp at e;subst e;exact⟨_,rfl,r⟩
 |_,_,i+1,x,.cons _ t,e=>by
  obtain⟨u,h1,h2⟩:=Vals.get (i:=i) (x:=x) t (by simpa using e)
  exact⟨u,by simpa using h1,h2⟩
theorem Vals.set{x:V}{u:Value}(r:RelV x u):∀{xs:List V} {us:List Value} (i:Nat),Vals xs us->Vals (xs.set i x) (us.set i u)
 |_,_,_,.nil=>.nil
 |_,_,0,.cons _ t=>.cons r t
 |_,_,i+1,.cons q t=>.cons q (Vals.set r i t)
theorem Vals.append{xs ys:List V}{us ws:List Value}(h:Vals xs us)(s:Vals ys ws):Vals (xs++ys) (us++ws):=by
 induction h with
 |nil=>exact s
 |cons r t ih=>exact .cons r ih
theorem Vals.take:∀{xs:List V} {us:List Value} (n:Nat),Vals xs us->Vals (xs.take n) (us.take n)
 |_,_,0,_=>.nil
 |_,_,_+1,.nil=>.nil
 |_,_,n+1,.cons r t=>.cons r (Vals.take n t)
theorem Vals.drop:∀{xs:List V} {us:List Value} (n:Nat),Vals xs us->Vals (xs.drop n) (us.drop n)
 |_,_,0,r=>r
 |_,_,_+1,.nil=>.nil
 |_,_,n+1,.cons _ t=>Vals.drop n t
def RelO:Option V->Option Value->Prop
 |some v,some u=>RelV v u
 |none,none=>True
 |_,_=>False
def KV{κ:Type}:List (κ×V)->List (κ×Value)->Prop:=Paired fun(p:κ×V) (q:κ×Value)=>p.1=q.1/\RelV p.2 q.2
def kV:Key->V
 |.inl i=>.int i
 |.inr x=>.str x
inductive TK where
 |inl (i:Int)|inr (x:Str)|tp (l:List TK)
mutual
def TK.beq:TK->TK->Bool
 |.inl a,.inl b=>decide (a=b)
 |.inr a,.inr b=>decide (a=b)
 |.tp l,.tp m=>TK.beqL l m
 |_,_=>false
def TK.beqL:List TK->List TK->Bool
 |[],[]=>true
 |a::l,b::m=>TK.beq a b && TK.beqL l m
 |_,_=>false
end
mutual
theorem TK.beq_iff:∀a b:TK,TK.beq a b=true↔a=b
 |.inl a,.inl b=>by unfold TK.beq;rw[decide_eq_true_eq];exact⟨fun e=>by rw[e],fun e=>by cases e;rfl⟩
 |.inr a,.inr b=>by unfold TK.beq;rw[decide_eq_true_eq];exact⟨fun e=>by rw[e],fun e=>by cases e;rfl⟩
 |.tp l,.tp m=>by unfold TK.beq;rw[TK.beqL_iff l m];exact⟨fun e=>by rw[e],fun e=>by cases e;rfl⟩
 |.inl _,.inr _=>by unfold TK.beq;exact⟨fun e=>(nomatch e),fun e=>(nomatch e)⟩
 |.inl _,.tp _=>by unfold TK.beq;exact⟨fun e=>(nomatch e),fun e=>(nomatch e)⟩
 |.inr _,.inl _=>by unfold TK.beq;exact⟨fun e=>(nomatch e),fun e=>(nomatch e)⟩
 |.inr _,.tp _=>by unfold TK.beq;exact⟨fun e=>(nomatch e),fun e=>(nomatch e)⟩
 |.tp _,.inl _=>by unfold TK.beq;exact⟨fun e=>(nomatch e),fun e=>(nomatch e)⟩
 |.tp _,.inr _=>by unfold TK.beq;exact⟨fun e=>(nomatch e),fun e=>(nomatch e)⟩
theorem TK.beqL_iff:∀l m:List TK,TK.beqL l m=true↔l=m
 |[],[]=>by unfold TK.beqL;exact⟨fun _=>rfl,fun _=>rfl⟩
 |a::l,b::m=>by unfold TK.beqL;rw[Bool.and_eq_true,TK.beq_iff a b,TK.beqL_iff l m];exact⟨fun e=>by rw[e.1,e.2],fun e=>by cases e;exact⟨rfl,rfl⟩⟩
 |[],_::_=>by unfold TK.beqL;exact⟨fun e=>(nomatch e),fun e=>(nomatch e)⟩
 |_::_,[]=>by unfold TK.beqL;exact⟨fun e=>(nomatch e),fun e=>(nomatch e)⟩
end
instance:DecidableEq TK:=fun a b=>decidable_of_iff _ (TK.beq_iff a b)
mutual
def TK.hash(w:World):TK->Int
 |.inl i=>hashInt i
 |.inr x=>hashStr w x
 |.tp l=>reduceHash (Builtin.Tuple.tupleHashOf (TK.hashL w l))
def TK.hashL(w:World):List TK->List Int
 |[]=>[]
 |a::l=>TK.hash w a::TK.hashL w l
end
def TK.ok:Nat->TK->Bool
 |n+1,.tp l=>l.all (TK.ok n)
 |0,.tp _=>false
 |_,_=>true
def EntG(w:World)(e:TK×V×V)(x:DictEntry):Prop:=x.hash=e.1.hash w/\RelV e.2.1 x.key/\RelV e.2.2 x.val/\e.1.ok 8=true
inductive HO where
  |lst (xs:List V)
  |tup (xs:List V)
  |dK (kvs:List (Key×V))|dT (kvs:List (List Key×V))
  |dG (es:List (TK×V×V)) (ep:Nat)
  |set (S:Int->Bool) (n:Nat)
  |ins (C dx:Addr) (fs:List (Str×V))
  |own (x:Addr)
  |xd (fs:List (Str×V))
  |met (f x:Addr)
  |rng (lo hi:Int)
  |frz (o:Obj) (u:HO)
  |tbl (ps:Array Value)
  |ext (φ:Heap->Prop)
abbrev Hp:=Addr->Option HO
noncomputable def upd(H:Hp)(a:Addr)(o:HO):Hp:=fun b=>if b=a then some o else H b
theorem a1l{H:Hp}{a:Addr}{o:HO}:upd H a o a=some o:=by unfold upd;rw[if_pos rfl]
theorem a0v{H:Hp}{a b:Addr}{o:HO}(h:b≠a):upd H a o b=H b:=by unfold upd;rw[if_neg h]
theorem a1t{H:Hp}{a b:Addr}{o:HO}(h:H a=some o)(h':H b=none):a≠b:=by
 intro e;subst e;rw[h] at h';cases h'
section
variable (P:Program) (w:World)
def ObjOk(H:Hp)(h:Heap)(a:Addr):HO->Prop
 |.lst xs=>xs.length<=sizeLine/\∃(its:List Value) (n:Nat),Vals xs its/\h.get? a=some { cls:=.type "list",data:=.seq its.toArray n}
 |.tup xs=>xs.length<=sizeLine/\∃its:List Value,Vals xs its/\IsTup h a its.toArray
 |.dK kvs=>kvs.length<=sizeLine/\(a == sysModules)=false/\∃vs,KV kvs vs/\h.DictOf (b9t P w) a vs
 |.dT kvs=>kvs.length<=sizeLine/\(a == sysModules)=false/\∃xs:List (List Key×Addr×Value),
   Paired (fun(p:List Key×V) (q:List Key×Addr×Value)=>p.1=q.1/\H q.2.1=some (.tup (p.1.map kV))/\RelV p.2 q.2.2) kvs xs/\
   ∃o es ep,h.get? a=some o/\o.ExactDict/\o.data=.dict es ep/\es.toList=xs.map (entryOfKey (tupleKind (b9t P w)))/\(xs.map (·.1)).Nodup
 |.dG es ep=>es.length<=sizeLine/\(a == sysModules)=false/\∃o xs,h.get? a=some o/\o.ExactDict/\o.data=.dict xs ep/\Paired (EntG w) es xs.toList/\(es.map (·.1)).Nodup
 |.set S n=>h.SetOf (intKind P w) a S n
 |.ins C dx fs=>H dx=some (.own a)/\fs.length<=1000/\dx≠a/\h.get? a=some (PySem.W.instObj C dx)/\
   ∃mA,h.Ns1 dx mA/\(∀f,RelO (fs.lookup f) (mA f))/\PySem.Within mA (fs.map (·.1))
 |.own _=>∃o,h.get? a=some o
 |.xd fs=>∃mA,h.Ns1 a mA/\∀f,RelO (fs.lookup f) (mA f)
 |.rng lo hi=>∃t u v,h.get? a=some { cls:=.type "range",data:=.fields #[.int lo t,.int hi u,.int 1 v]}
 |.frz o u=>h.get? a=some o/\ObjOk H h a u
 |.tbl ps=>h.get? a=some { cls:=.none,data:=.fields ps}
 |.met f x=>h.get? a=some (PySem.W.methodObj (.ref f) (.ref x))
 |.ext φ=>φ h/\(∃o,h.get? a=some o)/\∀h1 h2:Heap,φ h1->(∀o,h1.get? a=some o->h2.get? a=some o)->φ h2
def HOk(H:Hp)(h:Heap):Prop:=∀a o,H a=some o->ObjOk P w H h a o
end
section
variable {P:Program} {w:World} {H H':Hp} {h h':Heap} {a:Addr} {o:HO}
theorem ObjOk.lt(x:ObjOk P w H h a o):a < h.objs.size:=by
 cases o with
 |lst xs=>obtain⟨_,_,_,_,e⟩:=x;exact Heap.lt_size e
 |tup xs=>obtain⟨_,_,_,p⟩:=x;exact p.lt
 |dK kvs=>obtain⟨_,_,_,_,o,_,_,e,_⟩:=x;exact Heap.lt_size e
 |dT kvs=>obtain⟨_,_,_,_,o,_,_,e,_⟩:=x;exact Heap.lt_size e
 |dG es ep=>obtain⟨_,_,o,_,e,_⟩:=x;exact Heap.lt_size e
 |set S n=>obtain⟨o,_,_,_,e,_⟩:=x;exact Heap.lt_size e
 |ins C dx fs=>obtain⟨_,_,_,e,_⟩:=x;exact Heap.lt_size e
 |own y=>obtain⟨_,e⟩:=x;exact Heap.lt_size e
 |xd fs=>obtain⟨_,⟨_,_,_,e,_⟩,_⟩:=x;exact Heap.lt_size e
 |rng lo hi=>obtain⟨_,_,_,e⟩:=x;exact Heap.lt_size e
 |frz ob u=>obtain⟨e,_⟩:=x;exact Heap.lt_size e
 |tbl ps=>exact Heap.lt_size (show h.get? a=some _ from x)
 |met f y=>exact Heap.lt_size (show h.get? a=some _ from x)
 |ext φ=>obtain⟨_,⟨_,e⟩,_⟩:=x;exact Heap.lt_size e
theorem Paired.mapP{α β:Type}{F G:α->β->Prop}{l₁:List α}{l₂:List β}(h:Paired F l₁ l₂)(f:∀a b,F a b->G a b):Paired G l₁ l₂:=by
 induction h with
 |nil=>exact .nil
 |cons r t ih=>exact .cons (f _ _ r) ih
theorem ObjOk.stay(x:ObjOk P w H h a o)(k:∀b u,(b=a\/H b=some (.own a))->h.get? b=some u->h'.get? b=some u)
  (ho:∀b,H b=some (.own a)->H' b=some (.own a)) (ht:∀b xs,H b=some (.tup xs)->H' b=some (.tup xs)):ObjOk P w H' h' a o:=by
 induction o with
 |lst xs=>obtain⟨z,its,n,r,e⟩:=x;exact⟨z,its,n,r,k _ _ (.inl rfl) e⟩
 |tup xs=>obtain⟨z,its,r,ob,e,c⟩:=x;exact⟨z,its,r,ob,k _ _ (.inl rfl) e,c⟩
 |dK kvs=>obtain⟨z,y,vs,r,ob,es,ep,e,c⟩:=x;exact⟨z,y,vs,r,ob,es,ep,k _ _ (.inl rfl) e,c⟩
 |dT kvs=>
  obtain⟨z,y,xs,r,ob,es,ep,e,c⟩:=x;exact⟨z,y,xs,Paired.mapP r fun p q z=>⟨z.1,ht _ _ z.2.1,z.2.2⟩,ob,es,ep,k _ _ (.inl rfl) e,c⟩
 |dG es ep=>obtain⟨z,y,ob,xs,e,c⟩:=x;exact⟨z,y,ob,xs,k _ _ (.inl rfl) e,c⟩
 |set S n=>obtain⟨ob,es,ep,t,e,c⟩:=x;exact⟨ob,es,ep,t,k _ _ (.inl rfl) e,c⟩
 |ins C dx fs=>
  obtain⟨d,z,ne,e,mA,⟨od,es,ep,e2,c⟩,r⟩:=x;exact⟨ho _ d,z,ne,k _ _ (.inl rfl) e,mA,⟨od,es,ep,k _ _ (.inr d) e2,c⟩,r⟩
 |own y=>obtain⟨ob,e⟩:=x;exact⟨ob,k _ _ (.inl rfl) e⟩
 |xd fs=>obtain⟨mA,⟨od,es,ep,e,c⟩,r⟩:=x;exact⟨mA,⟨od,es,ep,k _ _ (.inl rfl) e,c⟩,r⟩
 |rng lo hi=>obtain⟨t,u,v,e⟩:=x;exact⟨t,u,v,k _ _ (.inl rfl) e⟩
 |frz ob u ih=>obtain⟨e,q⟩:=x;exact⟨k _ _ (.inl rfl) e,ih q⟩
 |tbl ps=>
  have e:h.get? a=some { cls:=.none,data:=.fields ps}:=x;show h'.get? a=some { cls:=.none,data:=.fields ps};exact k a _ (.inl rfl) e
 |met f y=>
  have e:h.get? a=some (PySem.W.methodObj (.ref f) (.ref y)):=x;show h'.get? a=some (PySem.W.methodObj (.ref f) (.ref y));exact k a _ (.inl rfl) e
 |ext φ=>obtain⟨p,⟨o,e⟩,st⟩:=x;exact⟨st _ _ p fun o q=>k _ _ (.inl rfl) q,⟨o,k _ _ (.inl rfl) e⟩,st⟩
theorem HOk.lt(x:HOk P w H h)(e:H a=some o):a < h.objs.size:=(x a o e).lt
theorem HOk.fresh(x:HOk P w H h)(e:h.objs.size<=a):H a=none:=by
 cases q:H a with
 |none=>rfl
 |some u=>exact absurd (Nat.lt_of_lt_of_le (x.lt q) e) (Nat.lt_irrefl _)
theorem HOk.kept(x:HOk P w H h)(k:∀b u,h.get? b=some u->h'.get? b=some u):HOk P w H h':=fun a o e=>
 (x a o e).stay (fun b u _ q=>k b u q) (fun _ q=>q) fun _ _ q=>q
theorem HOk.laid(x:HOk P w H h)(k:∀b u,h.get? b=some u->h'.get? b=some u)(hp:h.objs.size<=a)(new:ObjOk P w (upd H a o) h' a o):HOk P w (upd H a o) h':=fun b u e=>by
 have hn:=x.fresh hp;by_cases hb:b=a
 ·subst hb;rw[a1l] at e;cases e;exact new
 ·rw[a0v hb] at e;exact(x b u e).stay (fun c v _ q=>k c v q) (fun c q=>by rw[a0v (a1t q hn)];exact q) fun c xs q=>by rw[a0v (a1t q hn)];exact q
end
def Rd(H:Hp)(a:Addr)(u:HO):Prop:=H a=some u\/∃o,H a=some (.frz o u)
theorem Rd.ok{P:Program}{w:World}{H:Hp}{h:Heap}{a:Addr}{u:HO}(r:Rd H a u)(x:HOk P w H h):ObjOk P w H h a u:=by
 rcases r with r|⟨o,r⟩
 ·exact x a u r
 ·obtain⟨_,q⟩:=x a _ r;exact q
def Mut:Option HO->Prop
 |some (.lst _)=>True
 |some (.dK _)=>True
 |some (.dT _)=>True
 |some (.dG _ _)=>True
 |some (.set _ _)=>True
 |some (.ins _ _ _)=>True
 |some (.ext _)=>True
 |_=>False
section
variable {P:Program} {w:World} {H:Hp} {h h':Heap} {x e:Addr} {o':HO}
theorem HOk.write(ok:HOk P w H h)(mu:Mut (H x))(he:e=x\/H e=some (.own x))(k:∀b u,b≠e->h.get? b=some u->h'.get? b=some u)(heo:∃u,h'.get? e=some u)
  (new:ObjOk P w (upd H x o') h' x o'):HOk P w (upd H x o') h':=fun b u q=>by
 have nown:∀c y,H c=some (.own y)->c≠x:=fun c y r z=>by subst z;rw[r] at mu;exact mu
 have ntup:∀c xs,H c=some (.tup xs)->c≠x:=fun c xs r z=>by subst z;rw[r] at mu;exact mu
 by_cases hb:b=x
 ·subst hb;rw[a1l] at q;cases q;exact new
 ·rw[a0v hb] at q;by_cases hbe:b=e
  ·have q':H b=some (.own x):=by
    rcases he with z|z
    ·exact absurd (hbe.trans z) hb
    ·rw[hbe];exact z
   rw[q] at q';cases q';obtain⟨v,hv⟩:=heo;exact⟨v,by rw[hbe];exact hv⟩
  ·refine(ok b u q).stay (fun c v hc r=>k c v ?_ r) (fun c r=>by rw[a0v (nown c b r)];exact r) fun c xs r=>by rw[a0v (ntup c xs r)];exact r
   rcases hc with rfl|hc
   ·exact hbe
   ·rintro rfl;rcases he with z|z
    ·exact nown c b hc z
    ·rw[hc] at z;cases z;exact hb rfl
end
structure Un (fs ex:List Addr) (H H':Hp) (h h':Heap):Prop where
 keep:∀b o,h.get? b=some o->H b=none->b∉fs->b∉ex->h'.get? b=some o
 slot:∀b o,h.get? b=some o->H b=none->b∈fs->b∉ex->∃sl,h'.get? b=some { o with slots:=sl}
 free:∀b o,h.get? b=some o->H b=none->b∉ex->H' b=none
 there:∀b o,h.get? b=some o->b∉ex->∃o',h'.get? b=some o'
 tups:∀b xs,H b=some (.tup xs)->H' b=some (.tup xs)
 frzs:∀b o u,H b=some (.frz o u)->H' b=some (.frz o u)
 tbls:∀b ps,H b=some (.tbl ps)->∃more,H' b=some (.tbl (ps++more))
section
variable {fs fs' ex ex':List Addr} {H H1 H2:Hp} {h h1 h2 h':Heap} {a x e:Addr} {o:HO}
theorem Un.any(u:Un fs ex H H1 h h1){b:Addr}{ob:Obj}(q:h.get? b=some ob)(n:H b=none)(hx:b∉ex):∃sl,h1.get? b=some { ob with slots:=sl}:=by
 by_cases hb:b∈fs
 ·exact u.slot b ob q n hb hx
 ·exact⟨ob.slots,u.keep b ob q n hb hx⟩
theorem Un.trans(a:Un fs ex H H1 h h1)(b:Un fs ex H1 H2 h1 h2):Un fs ex H H2 h h2 where
 keep:=fun c ob q n hc hx=>b.keep c ob (a.keep c ob q n hc hx) (a.free c ob q n hx) hc hx
 slot:=fun c ob q n hc hx=>by
  obtain⟨sl,e1⟩:=a.slot c ob q n hc hx;obtain⟨sl',e2⟩:=b.slot c _ e1 (a.free c ob q n hx) hc hx;exact⟨sl',e2⟩
 free:=fun c ob q n hx=>by
  obtain⟨o',e1⟩:=a.there c ob q hx;exact b.free c o' e1 (a.free c ob q n hx) hx
 there:=fun c ob q hx=>by
  obtain⟨o',e1⟩:=a.there c ob q hx;exact b.there c o' e1 hx
 tups:=fun c xs q=>b.tups c xs (a.tups c xs q)
 frzs:=fun c ob xs q=>b.frzs c ob xs (a.frzs c ob xs q)
 tbls:=fun c ps q=>by
  obtain⟨m1,e1⟩:=a.tbls c ps q;obtain⟨m2,e2⟩:=b.tbls c _ e1;exact⟨m1++m2,by rw[e2,Array.append_assoc]⟩
theorem Un.kept(k:∀b u,h.get? b=some u->h'.get? b=some u):Un fs ex H H h h':=
 ⟨fun b ob q _ _ _=>k b ob q,fun b ob q _ _ _=>⟨ob.slots,k b ob q⟩,fun _ _ _ n _=>n,fun b ob q _=>⟨ob,k b ob q⟩,fun _ _ q=>q,fun _ _ _ q=>q,fun _ ps q=>⟨#[],by rw[q];simp⟩⟩
theorem Un.refl:Un fs ex H H h h:=Un.kept fun _ _ q=>q
theorem Un.laid(k:∀b u,h.get? b=some u->h'.get? b=some u)(hp:h.objs.size<=a)(hn:H a=none):Un fs ex H (upd H a o) h h' where
 keep:=fun b u q _ _ _=>k b u q
 slot:=fun b u q _ _ _=>⟨u.slots,k b u q⟩
 free:=fun b u q n _=>by rw[a0v (Nat.ne_of_lt (Nat.lt_of_lt_of_le (Heap.lt_size q) hp))];exact n
 there:=fun b u q _=>⟨u,k b u q⟩
 tups:=fun b xs q=>by rw[a0v (a1t q hn)];exact q
 frzs:=fun b u xs q=>by rw[a0v (a1t q hn)];exact q
 tbls:=fun b ps q=>⟨#[],by rw[a0v (a1t q hn),q];simp⟩
theorem Un.write(mu:Mut (H x))(he:e=x\/H e=some (.own x))(k:∀b u,b≠e->h.get? b=some u->h'.get? b=some u)(heo:∃u,h'.get? e=some u):Un fs ex H (upd H x o) h h':=by
 have hx:∀b,H b=none->b≠x:=fun b n z=>by subst z;rw[n] at mu;exact mu
 have hb:∀b,H b=none->b≠e:=fun b n z=>by
  subst z;rcases he with r|r
  ·exact hx b n r
  ·rw[n] at r;cases r
 have hm:∀b u,H b=some u->¬Mut (some u)->b≠x:=fun b u q nm z=>by subst z;rw[q] at mu;exact nm mu
 refine⟨fun b u q n _ _=>k b u (hb b n) q,fun b u q n _ _=>⟨u.slots,k b u (hb b n) q⟩,fun b u q n _=>by rw[a0v (hx b n)];exact n,fun b u q _=>?_,
  fun b xs q=>by rw[a0v (hm b _ q fun z=>z)];exact q,fun b u xs q=>by rw[a0v (hm b _ q fun z=>z)];exact q,fun b ps q=>⟨#[],by rw[a0v (hm b _ q fun z=>z),q];simp⟩⟩
 by_cases hbe:b=e
 ·subst hbe;exact heo
 ·exact⟨u,k b u hbe q⟩
end
def trk(h:Heap)(H:Hp):List Addr:=(List.range h.objs.size).filter fun a=>(H a).isSome
def hidT(h:Heap)(H:Hp):Heap:=PySem.W.hideAll h (trk h H)
theorem c4r(h:Heap)(H:Hp):(hidT h H).objs.size=h.objs.size:=PySem.W.hideAll_size _ _
theorem d0g{h:Heap}{H:Hp}{b:Addr}{o:Obj}(e:h.get? b=some o)(n:H b=none):(hidT h H).get? b=some o:=
 PySem.W.hideAll_get _ e fun hm=>by
  have q:(H b).isSome=true:=(List.mem_filter.mp hm).2;rw[n] at q;simp at q
theorem d4q{h:Heap}{H:Hp}{b:Addr}{o:Obj}(e:(hidT h H).get? b=some o):h.get? b=some o/\H b=none:=by
 have e':h.get? b=some o:=PySem.W.of_hideAll (trk h H) e;refine⟨e',?_⟩;cases q:H b with
 |none=>rfl
 |some x=>
  have hm:b∈trk h H:=List.mem_filter.mpr ⟨List.mem_range.mpr (Heap.lt_size e'),by simp[q]⟩
  have z:(hidT h H).get? b=none:=PySem.W.hideAll_none (trk h H) hm;rw[z] at e;cases e
def d4r(g h:Heap)(L:Addr):List (Addr×Obj):=(List.range h.objs.size).filterMap fun a=>if a=L\/(g.get? a).isSome=true then none else(h.get? a).map fun o=>(a,o)
def rest(g h:Heap)(L d:Addr):List (Addr×Obj):=(d4r g h L).filter fun p=>decide (p.1≠d)
structure Mod (K:L2.FG) (mg:Str->Option Value) (base:Heap):Prop where
 kin:K.In base
 glob:base.Ns mainGlobals mg
 blt:∃mb,base.Ns builtinsNs mb/\∀x:Str,x≠"__name__"->mb x=bootBuiltins x
 nolimit:base.NoLimit
set_option genInjectivity false in
structure Cx where
 prog:Program
 w:World
 K:L2.FG
 mg:Str->Option Value
 base:Heap
 A:Around
 N:List Str
 s₀:Shared
 H₀:Hp
 env:Env
 outer:List Env
 stack:List Env
 ex:List Addr
 fn:Str->Bool
 calm:Bool
 pn:List (Addr×Obj)
 xe:Value->Shared->Prop
def frs(l:List Env):List Addr:=l.filterMap (·.frame)
abbrev Cx.fs(X:Cx):List Addr:=frs X.outer
def Vis(sc:Scope)(x:Str):Prop:=sc.names.lookup x=some .local \/ sc.names.lookup x=some .cell\/sc.names.lookup x=some .free
def Loc(sc:Scope)(x:Str):Prop:=sc.names.lookup x=some .local \/ sc.names.lookup x=some .cell
def Look(env:Env)(h:Heap)(m:Str->Option Value)(x:Str)(u:Value):Prop:=
 (env.kindOf x=some .local /\ m x=some u)\/((env.kindOf x=some .cell\/env.kindOf x=some .free)/\∃c,env.cells.lookup x=some c/\h.IsCell c (some u))
structure Cx.Ok (X:Cx):Prop where
 mod:Mod X.K X.mg X.base
 kind:X.env.scope.kind=.function
 glob:X.env.globals=mainGlobals
 blt:X.env.builtins=builtinsNs
 above:X.s₀.heap.objs.size<=X.env.locals
 inj:∀x y c,X.env.cells.lookup x=some c->X.env.cells.lookup y=some c->x=y
 has:∀x,(X.env.kindOf x=some .cell\/X.env.kindOf x=some .free)->∃c,X.env.cells.lookup x=some c
 cab:∀x c,X.fn x=true->X.env.cells.lookup x=some c->X.s₀.heap.objs.size<=c
 hd:X.calm=true->X.A.handled=none
 frames:X.A.frames=some X.stack
 stk:X.stack=X.outer\/(X.stack=X.env::X.outer/\X.env.frame=some X.env.locals)
 exf:∀b∈X.ex,b≠X.env.locals/\∀x c,X.env.cells.lookup x=some c->c≠b
 bs:∀b o,X.base.get? b=some o->X.s₀.heap.get? b=some o/\X.H₀ b=none
 bsz:X.base.objs.size<=X.s₀.heap.objs.size
 noex:∀b o,X.base.get? b=some o->b∉X.ex
 exfs:∀b∈X.ex,b∉X.fs
 funs:X.s₀.heap.FunFrames X.base X.outer
 frf:∀b∈X.fs,X.H₀ b=none
structure Inv (X:Cx) (pins:List (Addr×Obj)) (σ:List (Option V)) (H:Hp) (s:Shared):Prop where
 ok:X.Ok
 os:s.os=X.s₀.os
 bare:AllBare s.gens
 base:Un X.fs X.ex X.H₀ H X.s₀.heap s.heap
 loc:∃m,s.heap.Ns X.env.locals m/\∀(i:Nat) (x:Str) (v:V),X.N[i]?=some x->σ[i]?=some (some v)->Vis X.env.scope x->∃u,RelV v u/\Look X.env s.heap m x u
 cell:∀x c,X.env.cells.lookup x=some c->∃v,s.heap.IsCell c v
 free:H X.env.locals=none
 freeC:∀x c,X.env.cells.lookup x=some c->H c=none
 pin:∀p∈X.pn++pins,s.heap.get? p.1=some p.2/\H p.1=none/\p.1≠X.env.locals/\p.1∉X.fs/\∀v,p.2.data≠.cell v
 hok:HOk X.prog X.w H s.heap
 len:σ.length=X.N.length
section
variable {X:Cx} {pins:List (Addr×Obj)} {σ:List (Option V)} {H H':Hp} {s:Shared} {h':Heap}
theorem Cx.Ok.nofr(ok:X.Ok){b:Addr}{o:Obj}(e:X.base.get? b=some o):b∉X.fs:=fun hb=>by
 have:=(ok.funs.mem hb).1;rw[e] at this;cases this
theorem Inv.bs(I:Inv X pins σ H s):∀b o,X.base.get? b=some o->s.heap.get? b=some o/\H b=none:=fun b o e=>
 ⟨I.base.keep b o (I.ok.bs b o e).1 (I.ok.bs b o e).2 (I.ok.nofr e) (I.ok.noex b o e),I.base.free b o (I.ok.bs b o e).1 (I.ok.bs b o e).2 (I.ok.noex b o e)⟩
theorem Inv.bk(I:Inv X pins σ H s):∀b o,X.base.get? b=some o->s.heap.get? b=some o:=fun b o e=>(I.bs b o e).1
theorem Inv.mod(I:Inv X pins σ H s):Mod X.K X.mg X.base:=I.ok.mod
theorem Inv.kIn(I:Inv X pins σ H s):X.K.In s.heap:=I.ok.mod.kin.keeps I.bk
theorem Inv.lt(I:Inv X pins σ H s):X.env.locals < s.heap.objs.size:=let ⟨_,hn,_⟩:=I.loc;hn.lt
theorem Inv.sz(I:Inv X pins σ H s):X.s₀.heap.objs.size<=s.heap.objs.size:=Nat.le_trans I.ok.above (Nat.le_of_lt I.lt)
theorem Inv.nofs(I:Inv X pins σ H s){a:Addr}(h:s.heap.objs.size<=a):a∉X.fs:=fun hb=>by
 obtain⟨_,o,ho,_⟩:=I.ok.funs.mem hb;exact absurd (Nat.lt_of_lt_of_le (Heap.lt_size ho) (Nat.le_trans I.sz h)) (Nat.lt_irrefl _)
theorem Inv.cne(I:Inv X pins σ H s):∀x c,X.env.cells.lookup x=some c->c≠X.env.locals:=fun x c e z=>by
 obtain⟨v,o,ho,hd⟩:=I.cell x c e;obtain⟨m,⟨o',es,ep,ho',hd',_⟩,_⟩:=I.loc;rw[z,ho'] at ho;cases ho;rw[hd'] at hd;cases hd
theorem Inv.funs(I:Inv X pins σ H s):s.heap.FunFrames X.base X.outer:=by
 have all:∀(l:List Env),(∀b∈frs l,b∈X.fs)->X.s₀.heap.FunFrames X.base l->s.heap.FunFrames X.base l:=by
  intro l
  induction l with
  |nil=>intro _ _;trivial
  |cons env r ih=>
   intro hs hl;obtain⟨hk,⟨L,o,hf,hn,ho,hd⟩,hr⟩:=hl;have hL:L∈X.fs:=hs L (by unfold frs;rw[List.filterMap_cons,hf];exact List.mem_cons_self)
   obtain⟨sl,e⟩:=I.base.slot L o ho (I.ok.frf L hL) hL fun z=>I.ok.exfs L z hL
   exact⟨hk,⟨L,_,hf,hn,e,hd⟩,ih (fun b hb=>hs b (by unfold frs;rw[List.filterMap_cons,hf];exact List.mem_cons_of_mem _ hb)) hr⟩
 exact all X.outer (fun _ hb=>hb) I.ok.funs
theorem Inv.stack(I:Inv X pins σ H s):s.heap.FunFrames X.base X.stack:=by
 rcases I.ok.stk with e|⟨e,hf⟩
 ·rw[e];exact I.funs
 ·rw[e];obtain⟨m,hn,_⟩:=I.loc;refine .cons (by rw[I.ok.kind];decide) hf hn ?_ I.funs
  exact Heap.get?_none_of_le (Nat.le_trans I.ok.bsz I.ok.above)
theorem Inv.stkSub(I:Inv X pins σ H s):∀b∈frs X.stack,b∈X.env.locals::X.fs:=fun b hb=>by
 rcases I.ok.stk with e|⟨e,hf⟩
 ·rw[e] at hb;exact List.mem_cons_of_mem _ hb
 ·rw[e] at hb;unfold frs at hb;rw[List.filterMap_cons,hf] at hb;exact hb
theorem Inv.stkFree(I:Inv X pins σ H s):∀b∈frs X.stack,H b=none:=fun b hb=>by
 rcases List.mem_cons.mp (I.stkSub b hb) with e|hb
 ·rw[e];exact I.free
 ·obtain⟨_,o,ho,_⟩:=I.ok.funs.mem hb;exact I.base.free b o ho (I.ok.frf b hb) fun z=>I.ok.exfs b z hb
theorem Inv.step{g':Array GenState}{t':Nat}{d':Drawn}{ch:List Addr}(I:Inv X pins σ H s)
  (hch:∀b∈ch,(b∈X.ex\/X.s₀.heap.objs.size<=b)/\b≠X.env.locals/\(∀x c,X.env.cells.lookup x=some c->c≠b)/\∀p∈X.pn++pins,p.1≠b)
  (keep:∀b o,b≠X.env.locals->b∉X.fs->b∉ch->s.heap.get? b=some o->H b=none->h'.get? b=some o)
  (slot:∀b o,b≠X.env.locals->b∈X.fs->b∉ch->s.heap.get? b=some o->H b=none->∃sl,h'.get? b=some { o with slots:=sl}) (free:∀b o,b∉ch->s.heap.get? b=some o->H b=none->H' b=none)
  (there:∀b o,b∉ch->s.heap.get? b=some o->∃o',h'.get? b=some o')
  (tups:∀b xs,H b=some (.tup xs)->H' b=some (.tup xs)) (frzs:∀b o u,H b=some (.frz o u)->H' b=some (.frz o u)) (tbls:∀b ps,H b=some (.tbl ps)->∃more,H' b=some (.tbl (ps++more)))
  (ns:∀m,s.heap.Ns X.env.locals m->h'.Ns X.env.locals m) (hok:HOk X.prog X.w H' h') (hg:AllBare g') :
  Inv X pins σ H' { s with heap:=h',gens:=g',drawn:=d',toks:=t'}:=by
 have neL:∀b o,X.s₀.heap.get? b=some o->b≠X.env.locals:=fun b o e=>Nat.ne_of_lt (Nat.lt_of_lt_of_le (Heap.lt_size e) I.ok.above)
 have neC:∀b o,X.s₀.heap.get? b=some o->b∉X.ex->b∉ch:=fun b o e hx hb=>by
  rcases(hch b hb).1 with z|z
  ·exact hx z
  ·exact absurd (Nat.lt_of_lt_of_le (Heap.lt_size e) z) (Nat.lt_irrefl _)
 have cellK:∀x c,X.env.cells.lookup x=some c->∀v,s.heap.IsCell c v->h'.IsCell c v:=fun x c e v ⟨o,ho,hd⟩=>by
  have nch:c∉ch:=fun z=>(hch c z).2.2.1 x c e rfl
  by_cases hc:c∈X.fs
  ·obtain⟨sl,q⟩:=slot c o (I.cne x c e) hc nch ho (I.freeC x c e);exact⟨_,q,hd⟩
  ·exact⟨o,keep c o (I.cne x c e) hc nch ho (I.freeC x c e),hd⟩
 refine⟨I.ok,I.os,hg,⟨fun b o e n hb hx=>?_,fun b o e n hb hx=>?_,fun b o e n hx=>?_,fun b o e hx=>?_,fun b xs e=>tups b xs (I.base.tups b xs e),fun b o xs e=>frzs b o xs (I.base.frzs b o xs e),fun b ps e=>?_⟩,?_,fun x c e=>?_,?_,fun x c e=>?_,fun p hp=>?_,hok,I.len⟩
 ·exact keep b o (neL b o e) hb (neC b o e hx) (I.base.keep b o e n hb hx) (I.base.free b o e n hx)
 ·obtain⟨sl,e1⟩:=I.base.slot b o e n hb hx;obtain⟨sl',e2⟩:=slot b _ (neL b o e) hb (neC b o e hx) e1 (I.base.free b o e n hx);exact⟨sl',e2⟩
 ·obtain⟨o',e1⟩:=I.base.there b o e hx;exact free b o' (neC b o e hx) e1 (I.base.free b o e n hx)
 ·obtain⟨o',e1⟩:=I.base.there b o e hx;exact there b o' (neC b o e hx) e1
 ·obtain⟨m1,e1⟩:=I.base.tbls b ps e;obtain⟨m2,e2⟩:=tbls b _ e1;exact⟨m1++m2,by rw[e2,Array.append_assoc]⟩
 ·obtain⟨m,hn,hl⟩:=I.loc;refine⟨m,ns m hn,fun i x v e1 e2 e3=>?_⟩
  obtain⟨u,r,l⟩:=hl i x v e1 e2 e3;refine⟨u,r,?_⟩;rcases l with l|⟨k,c,e,z⟩
  ·exact .inl l
  ·exact .inr ⟨k,c,e,cellK x c e _ z⟩
 ·obtain⟨v,z⟩:=I.cell x c e;exact⟨v,cellK x c e v z⟩
 ·obtain⟨m,⟨o,_,_,ho,_⟩,_⟩:=I.loc;exact free _ o (fun z=>(hch _ z).2.1 rfl) ho I.free
 ·obtain⟨v,o,ho,hd⟩:=I.cell x c e;exact free c o (fun z=>(hch c z).2.2.1 x c e rfl) ho (I.freeC x c e)
 ·obtain⟨e,n,ne,nf,d⟩:=I.pin p hp;have nch:p.1∉ch:=fun z=>(hch p.1 z).2.2.2 p hp rfl
  exact⟨keep p.1 p.2 ne nf nch e n,free p.1 p.2 nch e n,ne,nf,d⟩
theorem Inv.un{t':Nat}(I:Inv X pins σ H s)(u:Un X.fs [] H H' s.heap h')(hok:HOk X.prog X.w H' h'):Inv X pins σ H' { s with heap:=h',toks:=t'}:=by
 obtain⟨m,⟨o,es,ep,ho,r⟩,_⟩:=id I.loc;obtain⟨sl,hL⟩:=u.any ho I.free (by simp)
 exact I.step (g':=s.gens) (d':=s.drawn) (ch:=[]) (fun _ z=>nomatch z) (fun b o _ hb _ e n=>u.keep b o e n hb (by simp)) (fun b o _ hb _ e n=>u.slot b o e n hb (by simp)) (fun b o _ e n=>u.free b o e n (by simp)) (fun b o _ e=>u.there b o e (by simp)) u.tups u.frzs u.tbls (fun m' hm=>by
  obtain⟨o',es',ep',ho',r'⟩:=hm;rw[ho] at ho';cases ho';exact⟨_,es',ep',hL,r'⟩) hok I.bare
theorem Inv.call{g':Array GenState}{t':Nat}{d':Drawn}{ch:List Addr}(I:Inv X pins σ H s)(u:Un (frs X.stack) ch H H' s.heap h')(hok:HOk X.prog X.w H' h')(hg:AllBare g')
  (hch:∀b∈ch,(b∈X.ex\/X.s₀.heap.objs.size<=b)/\b≠X.env.locals/\(∀x c,X.env.cells.lookup x=some c->c≠b)/\∀p∈X.pn++pins,p.1≠b) :
  Inv X pins σ H' { s with heap:=h',gens:=g',drawn:=d',toks:=t'}:=by
 obtain⟨m,⟨o,es,ep,ho,r⟩,_⟩:=id I.loc;obtain⟨sl,hL⟩:=u.any ho I.free fun z=>(hch _ z).2.1 rfl
 exact I.step (ch:=ch) hch (fun b o hL hb hc e n=>u.keep b o e n (fun z=>(List.mem_cons.mp (I.stkSub b z)).elim hL hb) hc) (fun b o _ _ hc e n=>u.any e n hc) (fun b o hc e n=>u.free b o e n hc) (fun b o hc e=>u.there b o e hc) u.tups u.frzs u.tbls (fun m' hm=>by
  obtain⟨o',es',ep',ho',r'⟩:=hm;rw[ho] at ho';cases ho';exact⟨_,es',ep',hL,r'⟩) hok hg
theorem Inv.turned{t':Nat}{it:Addr}(I:Inv X pins σ H s)(k:∀b o,b≠it->s.heap.get? b=some o->h'.get? b=some o)(hn:H it=none)(hL:it≠X.env.locals)
  (h1:it∈X.ex\/X.s₀.heap.objs.size<=it) (h2:∀x c,X.env.cells.lookup x=some c->c≠it) (h3:∀p∈X.pn++pins,p.1≠it):Inv X pins σ H { s with heap:=h',toks:=t'}:=by
 have nit:∀b u,H b=some u->b≠it:=fun b u e z=>by rw[z,hn] at e;cases e
 refine I.step (g':=s.gens) (d':=s.drawn) (ch:=[it]) (fun b hb=>?_) (fun b o _ _ hc e _=>k b o (fun z=>hc (by simp[z])) e) (fun b o _ _ hc e _=>⟨o.slots,k b o (fun z=>hc (by simp[z])) e⟩) (fun _ _ _ _ n=>n)
  (fun b o hc e=>⟨o,k b o (fun z=>hc (by simp[z])) e⟩) (fun _ _ e=>e) (fun _ _ _ e=>e) (fun b ps e=>⟨#[],by rw[e];simp⟩) (fun m hm=>?_) (fun b u e=>?_) I.bare
 ·have e:b=it:=by simpa using hb
  subst e;exact⟨h1,hL,h2,h3⟩
 ·obtain⟨o,es,ep,ho,r⟩:=hm;exact⟨o,es,ep,k _ o (Ne.symm hL) ho,r⟩
 ·refine(I.hok b u e).stay (fun c v hc q=>k c v ?_ q) (fun _ q=>q) fun _ _ q=>q
  rcases hc with z|z
  ·rw[z];exact nit b u e
  ·exact nit c _ z
theorem Inv.tok(I:Inv X pins σ H s)(t:Nat):Inv X pins σ H { s with toks:=t}:=I.un (h':=s.heap) (t':=t) Un.refl I.hok
theorem Inv.kept{t':Nat}(I:Inv X pins σ H s)(k:∀b u,s.heap.get? b=some u->h'.get? b=some u):Inv X pins σ H { s with heap:=h',toks:=t'}:=I.un (Un.kept k) (I.hok.kept k)
theorem Inv.laid{a:Addr}{o:HO}{t':Nat}(I:Inv X pins σ H s)(k:∀b u,s.heap.get? b=some u->h'.get? b=some u)(hp:s.heap.objs.size<=a)(new:ObjOk X.prog X.w (upd H a o) h' a o):
  Inv X pins σ (upd H a o) { s with heap:=h',toks:=t'}:=I.un (Un.laid k hp (I.hok.fresh hp)) (I.hok.laid k hp new)
theorem Inv.write{x e:Addr}{o:HO}{t':Nat}(I:Inv X pins σ H s)(mu:Mut (H x))(he:e=x\/H e=some (.own x))(k:∀b u,b≠e->s.heap.get? b=some u->h'.get? b=some u)(heo:∃u,h'.get? e=some u)
  (new:ObjOk X.prog X.w (upd H x o) h' x o):Inv X pins σ (upd H x o) { s with heap:=h',toks:=t'}:=I.un (Un.write mu he k heo) (I.hok.write mu he k heo new)
theorem Inv.pins_of{pins':List (Addr×Obj)}(I:Inv X pins σ H s)(h:∀p∈pins',s.heap.get? p.1=some p.2/\H p.1=none/\p.1≠X.env.locals/\p.1∉X.fs/\∀v,p.2.data≠.cell v):Inv X pins' σ H s:=
 ⟨I.ok,I.os,I.bare,I.base,I.loc,I.cell,I.free,I.freeC,fun p hp=>(List.mem_append.mp hp).elim (fun z=>I.pin p (List.mem_append_left _ z)) (h p),I.hok,I.len⟩
theorem b5u{N:List Str}(hN:N.Nodup){i j:Nat}{x:Str}(a:N[i]?=some x)(b:N[j]?=some x):i=j:=by
 obtain⟨h1,e1⟩:=List.getElem?_eq_some_iff.mp a;obtain⟨h2,e2⟩:=List.getElem?_eq_some_iff.mp b;exact(List.getElem_inj hN).mp (e1.trans e2.symm)
theorem b7k{M:Model}{A:Around}{E:Value->Shared->Prop}{i:Nat}{x:Str}{v:V}{u:Value}{Q:Unit->Shared->Prop}(I:Inv X pins σ H s)(hN:X.N.Nodup)(hi:X.N[i]?=some x)(hx:Loc X.env.scope x)(r:RelV v u)
  (h:∀s',Inv X pins (σ.set i (some v)) H s'->(∃a,Heap.SameBut a s.heap s'.heap/\(a=X.env.locals\/X.env.cells.lookup x=some a))->Q () s') (hf:X.fn x=true\/X.env.scope.names.lookup x=some .local := by first|exact .inl rfl|exact .inr rfl|assumption):wpAny M A (storeName X.env x u) Q E s:=by
 obtain⟨m,hn,hl⟩:=id I.loc;have hcls:(X.env.scope.kind == .class || (X.env.scope.kind == .module && X.env.locals != X.env.globals))=false:=by rw[I.ok.kind];rfl
 have hiσ:i < σ.length:=by rw[I.len];exact(List.getElem?_eq_some_iff.mp hi).1
 have cne:=I.cne;have tracked:∀{a:Addr} {h':Heap},(∃o,s.heap.get? a=some o/\H a=none)->Heap.SameBut a s.heap h'->HOk X.prog X.w H h':=fun{a h'} ha hs b ob e=>by
  obtain⟨_,_,hfree⟩:=ha;refine(I.hok b ob e).stay (fun c w' hc q=>(hs.2 c ?_).trans q) (fun _ q=>q) fun _ _ q=>q
  rintro rfl;rcases hc with rfl|hc
  ·rw[hfree] at e;cases e
  ·rw[hfree] at hc;cases hc
 rcases hx with hk|hk
 ·refine wpAny_storeName_local hk hn (fun h' hn' hs=>?_) hcls
  obtain⟨oL,_,_,hoL,_⟩:=id hn;refine h _ ⟨I.ok,I.os,I.bare,⟨fun b o e n hb hx=>?_,fun b o e n hb hx=>?_,I.base.free,fun b o e hx=>?_,I.base.tups,I.base.frzs,I.base.tbls⟩,⟨_,hn',fun j y v' e1 e2 e3=>?_⟩,fun y c e=>?_,I.free,I.freeC,fun p hp=>?_,tracked ⟨oL,hoL,I.free⟩ hs,by simpa using I.len⟩ ⟨_,hs,.inl rfl⟩
  ·exact(hs.2 b (Nat.ne_of_lt (Nat.lt_of_lt_of_le (Heap.lt_size e) I.ok.above))).trans (I.base.keep b o e n hb hx)
  ·obtain⟨sl,e1⟩:=I.base.slot b o e n hb hx;exact⟨sl,(hs.2 b (Nat.ne_of_lt (Nat.lt_of_lt_of_le (Heap.lt_size e) I.ok.above))).trans e1⟩
  ·obtain⟨o',e1⟩:=I.base.there b o e hx;exact⟨o',(hs.2 b (Nat.ne_of_lt (Nat.lt_of_lt_of_le (Heap.lt_size e) I.ok.above))).trans e1⟩
  ·by_cases hj:j=i
   ·subst hj;rw[hi] at e1;cases e1;rw[List.getElem?_set_self hiσ] at e2;cases e2;exact⟨u,r,.inl ⟨hk,by simp⟩⟩
   ·rw[List.getElem?_set_ne (Ne.symm hj)] at e2;obtain⟨u',r',q⟩:=hl j y v' e1 e2 e3;refine⟨u',r',?_⟩;rcases q with⟨k,e⟩|⟨k,c,e,z⟩
    ·refine .inl ⟨k,?_⟩;have:y≠x:=fun e=>hj (b5u hN e1 (e ▸ hi))
     simp[this,e]
    ·exact .inr ⟨k,c,e,z.sameBut hs (cne y c e)⟩
  ·obtain⟨w',z⟩:=I.cell y c e;exact⟨w',z.sameBut hs (cne y c e)⟩
  ·obtain⟨e,n,ne,nf,d⟩:=I.pin p hp;exact⟨(hs.2 p.1 ne).trans e,n,ne,nf,d⟩
 ·have hfn:X.fn x=true:=by
   rcases hf with z|z
   ·exact z
   ·rw[z] at hk;cases hk
  obtain⟨c,hc⟩:=I.ok.has x (.inl hk);obtain⟨w',z⟩:=I.cell x c hc;refine wpAny_storeName_cell I.ok.kind hk hc z (fun h' hc' hs=>?_)
  obtain⟨oc,hoc,hocd⟩:=id z;refine h { s with heap:=h'} ⟨I.ok,I.os,I.bare,⟨fun b o e n hb hx=>?_,fun b o e n hb hx=>?_,I.base.free,fun b o e hx=>?_,I.base.tups,I.base.frzs,I.base.tbls⟩,⟨m,hn.sameBut hs (Ne.symm (cne x c hc)),fun j y v' e1 e2 e3=>?_⟩,fun y c' e=>?_,I.free,I.freeC,fun p hp=>?_,tracked ⟨oc,hoc,I.freeC x c hc⟩ hs,by simpa using I.len⟩ ⟨c,hs,.inr hc⟩
  ·exact(hs.2 b (Nat.ne_of_lt (Nat.lt_of_lt_of_le (Heap.lt_size e) (I.ok.cab x c hfn hc)))).trans (I.base.keep b o e n hb hx)
  ·obtain⟨sl,e1⟩:=I.base.slot b o e n hb hx;exact⟨sl,(hs.2 b (Nat.ne_of_lt (Nat.lt_of_lt_of_le (Heap.lt_size e) (I.ok.cab x c hfn hc)))).trans e1⟩
  ·obtain⟨o',e1⟩:=I.base.there b o e hx;exact⟨o',(hs.2 b (Nat.ne_of_lt (Nat.lt_of_lt_of_le (Heap.lt_size e) (I.ok.cab x c hfn hc)))).trans e1⟩
  ·by_cases hj:j=i
   ·subst hj;rw[hi] at e1;cases e1;rw[List.getElem?_set_self hiσ] at e2;cases e2;exact⟨u,r,.inr ⟨.inl hk,c,hc,hc'⟩⟩
   ·rw[List.getElem?_set_ne (Ne.symm hj)] at e2;obtain⟨u',r',q⟩:=hl j y v' e1 e2 e3;refine⟨u',r',?_⟩;rcases q with q|⟨k,c',e,z'⟩
    ·exact .inl q
    ·refine .inr ⟨k,c',e,z'.sameBut hs ?_⟩;rintro rfl;exact hj (b5u hN e1 (I.ok.inj _ _ _ e hc ▸ hi))
  ·by_cases hcc:c'=c
   ·subst hcc;exact⟨_,hc'⟩
   ·obtain⟨w2,z2⟩:=I.cell y c' e;exact⟨w2,z2.sameBut hs hcc⟩
  ·obtain⟨e,n,ne,nf,d⟩:=I.pin p hp;refine⟨(hs.2 p.1 ?_).trans e,n,ne,nf,d⟩;intro q;rw[q,hoc] at e;have q':oc=p.2:=Option.some.inj e;exact d w' (by rw[<-q'];exact hocd)
theorem b5v{M:Model}{A:Around}{E:Value->Shared->Prop}{i:Nat}{x:Str}{v:V}{u:Value}{Q:Unit->Shared->Prop}(I:Inv X pins σ H s)(hN:X.N.Nodup)(hi:X.N[i]?=some x)(hx:Loc X.env.scope x)(r:RelV v u)
  (h:∀s',Inv X pins (σ.set i (some v)) H s'->Q () s') (hf:X.fn x=true\/X.env.scope.names.lookup x=some .local := by first|exact .inl rfl|exact .inr rfl|assumption):wpAny M A (storeName X.env x u) Q E s:=
 b7k I hN hi hx r (fun s' I' _=>h s' I') hf
theorem Inv.call'{s':Shared}{ch:List Addr}(I:Inv X pins σ H s)(ho:s'.os=s.os)(u:Un (frs X.stack) ch H H' s.heap s'.heap)(hok:HOk X.prog X.w H' s'.heap)(hg:AllBare s'.gens)
  (hch:∀b∈ch,(b∈X.ex\/X.s₀.heap.objs.size<=b)/\b≠X.env.locals/\(∀x c,X.env.cells.lookup x=some c->c≠b)/\∀p∈X.pn++pins,p.1≠b):Inv X pins σ H' s':=by
 obtain⟨h',g',d',t',o'⟩:=s';have e:o'=s.os:=ho;subst e;exact I.call (g':=g') (t':=t') (d':=d') u hok hg hch
end
abbrev XK:=Value->Option Addr->Hp->Prop
abbrev St:=List (Option V)
abbrev VK:=V->Hp->Prop
abbrev TE:=St->Hp->VK->Prop
abbrev TT:=St->Hp->(Bool->Hp->Prop)->Prop
abbrev TA:=St->Hp->(List V->Hp->Prop)->Prop
set_option genInjectivity false in
structure Ends where
 nx:St->Hp->Prop
 rt:VK
 bk:St->Hp->Prop:=fun _ _=>False
 ct:St->Hp->Prop:=fun _ _=>False
abbrev TS:=Ends->St->Hp->Prop
def EP(X:Cx)(pins:List (Addr×Obj))(σ:St)(Q:VK)(u:Value)(s':Shared):Prop:=∃v H',Inv X pins σ H' s'/\RelV v u/\Q v H'
def TP(X:Cx)(pins:List (Addr×Obj))(σ:St)(Q:Bool->Hp->Prop)(b:Bool)(s':Shared):Prop:=∃H',Inv X pins σ H' s'/\Q b H'
def AP(X:Cx)(pins:List (Addr×Obj))(σ:St)(Q:List V->Hp->Prop)(us:List Value)(s':Shared):Prop:=∃vs H',Inv X pins σ H' s'/\Vals vs us/\Q vs H'
def SP(X:Cx)(pins:List (Addr×Obj))(D:Ends)(f:Flow)(s':Shared):Prop:=
 match f with
 |.next=>∃σ' H',Inv X pins σ' H' s'/\D.nx σ' H'
 |.brk=>∃σ' H',Inv X pins σ' H' s'/\D.bk σ' H'
 |.cont=>∃σ' H',Inv X pins σ' H' s'/\D.ct σ' H'
 |.ret u=>∃v σ' H',Inv X pins σ' H' s'/\RelV v u/\D.rt v H'
def PE(X:Cx)(e:Expr)(t:TE):Prop:=
 ∀(pins:List (Addr×Obj)) (s:Shared) (σ:St) (H:Hp) (Q:VK),Inv X pins σ H s->t σ H Q->wpAny (model X.prog X.w) X.A (eval e X.env) (EP X pins σ Q) X.xe s
def PT(X:Cx)(e:Expr)(t:TT):Prop:=
 ∀(pins:List (Addr×Obj)) (s:Shared) (σ:St) (H:Hp) (Q:Bool->Hp->Prop),Inv X pins σ H s->t σ H Q->wpAny (model X.prog X.w) X.A (isTrue e X.env (eval e X.env)) (TP X pins σ Q) X.xe s
def PW(X:Cx)(e:Expr)(t:TT):Prop:=
 ∀(whole:Sem Value) (pins:List (Addr×Obj)) (s:Shared) (σ:St) (H:Hp) (Q:Bool->Hp->Prop),Inv X pins σ H s->t σ H Q->wpAny (model X.prog X.w) X.A (isTrue e X.env whole) (TP X pins σ Q) X.xe s
theorem PW.pt{X:Cx}{e:Expr}{t:TT}(h:PW X e t):PT X e t:=h _
def PA(X:Cx)(es:List Expr)(t:TA):Prop:=
 ∀(pos:Pos) (pins:List (Addr×Obj)) (s:Shared) (σ:St) (H:Hp) (Q:List V->Hp->Prop),Inv X pins σ H s->t σ H Q->wpAny (model X.prog X.w) X.A (spliced (backTo pos (starEach es X.env))) (AP X pins σ Q) X.xe s
def PS(X:Cx)(st:Stmt)(t:TS):Prop:=
 ∀(pins:List (Addr×Obj)) (s:Shared) (σ:St) (H:Hp) (D:Ends),Inv X pins σ H s->t D σ H->wpAny (model X.prog X.w) X.A (exec st X.env) (SP X pins D) X.xe s
def PSs(X:Cx)(st:List Stmt)(t:TS):Prop:=
 ∀(pins:List (Addr×Obj)) (s:Shared) (σ:St) (H:Hp) (D:Ends),Inv X pins σ H s->t D σ H->wpAny (model X.prog X.w) X.A (execs st X.env) (SP X pins D) X.xe s
theorem thn{α:Type}{t:Sem α}{Q Q':α->Shared->Prop}{M:Model}{A:Around}{E:Value->Shared->Prop}{s:Shared}(h:wpAny M A t Q E s)(hQ:∀a s,Q a s->Q' a s):wpAny M A t Q' E s:=wpAny_mono h hQ fun _ _ x=>x
section
variable {X:Cx}
def tVar(i:Nat):TE:=fun σ H Q=>∃v,σ[i]?=some (some v)/\Q v H
def tC(v:V):TE:=fun _ H Q=>Q v H
theorem d7w{i:Nat}{x:Str}{pos:Pos}(hN:X.N[i]?=some x)(hv:Vis X.env.scope x)(hd:(x == ("__debug__":Str))=false:=by decide)(hcd:(x == ("__classdict__":Str))=false:=by decide):PE X (.Name x pos) (tVar i):=by
 intro pins s σ H Q I h;obtain⟨v,e,h⟩:=h;obtain⟨m,hn,hl⟩:=I.loc;obtain⟨u,r,l⟩:=hl i x v hN e hv;have fin:EP X pins σ Q u s:=⟨v,H,I,r,h⟩;rcases l with⟨hk,hm⟩|⟨hk,c,hc,hcell⟩
 ·exact wpAny_Name (wpAny_loadName_local I.ok.kind hk hn hm fin) hd
 ·rcases hk with hk|hk
  ·exact wpAny_Name (wpAny_loadName_cell I.ok.kind hk hc hcell fin) hd
  ·exact wpAny_Name (wpAny_loadName_free I.ok.kind hk hc hcell fin hcd) hd
theorem a0f{i j pos}:PE X (.Constant (.int i) j pos) (tC (.int i)):=fun _ _ _ H _ I h=>wpAny_Constant_int ⟨.int i,H,I.tok _,⟨_,rfl⟩,h⟩
theorem b7l{b j pos}:PE X (.Constant (.bool b) j pos) (tC (.bl b)):=fun _ _ _ H _ I h=>Constant_bool ⟨.bl b,H,I,rfl,h⟩
theorem a0q{x j pos}:PE X (.Constant (.str x) j pos) (tC (.str x)):=fun _ _ _ H _ I h=>Calls.Constant_str ⟨.str x,H,I.tok _,⟨_,rfl⟩,h⟩
def Gl(X:Cx)(x:Str):Prop:=X.env.kindOf x=some .globalImplicit
theorem b1a{E:Value->Shared->Prop}{pins:List (Addr×Obj)}{s:Shared}{σ:St}{H:Hp}{x:Str}{u:Value}{pos:Pos}{Q:Value->Shared->Prop}(I:Inv X pins σ H s)(hg:Gl X x)(hm:X.mg x=some u)(h:Q u s)
  (hd:(x == ("__debug__":Str))=false:=by decide):wpAny (model X.prog X.w) X.A (eval (.Name x pos) X.env) Q E s:=
 Calls.Name_function_global I.ok.kind hg (Calls.loadGlobal_global (by rw[I.ok.glob];exact I.mod.glob.keeps I.bk) hm h) hd
theorem b7m{E:Value->Shared->Prop}{pins:List (Addr×Obj)}{s:Shared}{σ:St}{H:Hp}{x:Str}{u:Value}{pos:Pos}{Q:Value->Shared->Prop}(I:Inv X pins σ H s)(hg:Gl X x)(hm:X.mg x=none)(hv:bootBuiltins x=some u)(h:Q u s)
  (hn:x≠"__name__":=by decide) (hd:(x == ("__debug__":Str))=false:=by decide):wpAny (model X.prog X.w) X.A (eval (.Name x pos) X.env) Q E s:=by
 obtain⟨mb,h1,h2⟩:=I.mod.blt;exact Calls.Name_function_global I.ok.kind hg (Calls.loadGlobal_builtin (by rw[I.ok.glob];exact I.mod.glob.keeps I.bk) hm (by rw[I.ok.blt];exact h1.keeps I.bk) ((h2 x hn).trans hv) h) hd
theorem b1b{x:Str}{v:V}{u:Value}{pos:Pos}(hg:Gl X x)(hm:X.mg x=some u)(r:RelV v u)(hd:(x == ("__debug__":Str))=false:=by decide):PE X (.Name x pos) (tC v):=
 fun _ _ _ H _ I h=>b1a I hg hm ⟨v,H,I,r,h⟩ hd
theorem d4s{x:Str}{v:V}{u:Value}{pos:Pos}(hg:Gl X x)(hm:X.mg x=none)(hv:bootBuiltins x=some u)(r:RelV v u)(hn:x≠"__name__":=by decide)(hd:(x == ("__debug__":Str))=false:=by decide):PE X (.Name x pos) (tC v):=
 fun _ _ _ H _ I h=>b7m I hg hm hv ⟨v,H,I,r,h⟩ hn hd
variable {a b:Expr} {ta tb:TE} {pos:Pos}
def tB(t:TE):TT:=fun σ H Q=>t σ H fun x H1=>∃c,x=.bl c/\Q c H1
variable {tA tB':TT} {rest:List Expr}
def tAnd(t u:TT):TT:=fun σ H Q=>t σ H fun c H1=>if c=true then u σ H1 Q else Q false H1
def tOr(t u:TT):TT:=fun σ H Q=>t σ H fun c H1=>if c=true then Q true H1 else u σ H1 Q
def tNot(t:TT):TT:=fun σ H Q=>t σ H fun c H1=>Q (!c) H1
theorem d4t(ha:PT X a tA):PW X (.BoolOp .And [a] pos) tA:=by
 intro wh pins s σ H Q I h;refine isTrue_and (thn (ha pins s σ H Q I h) fun c s1 e=>?_)
 cases c with
 |true=>exact isTrue_and_nil e
 |false=>exact e
theorem d7x(ha:PT X a tA):PW X (.BoolOp .Or [a] pos) tA:=by
 intro wh pins s σ H Q I h;refine isTrue_or (thn (ha pins s σ H Q I h) fun c s1 e=>?_)
 cases c with
 |false=>exact isTrue_or_nil e
 |true=>exact e
theorem d7y(ha:PT X a tA)(hb:PW X (.BoolOp .And (b::rest) pos) tB'):PW X (.BoolOp .And (a::b::rest) pos) (tAnd tA tB'):=by
 intro wh pins s σ H Q I h;refine isTrue_and (thn (ha pins s σ H _ I h) fun c s1 hh=>?_)
 obtain⟨H1,I1,q1⟩:=hh;cases c with
 |true=>exact hb wh pins s1 σ H1 Q I1 q1
 |false=>exact⟨H1,I1,q1⟩
theorem e0p(ha:PT X a tA)(hb:PW X (.BoolOp .Or (b::rest) pos) tB'):PW X (.BoolOp .Or (a::b::rest) pos) (tOr tA tB'):=by
 intro wh pins s σ H Q I h;refine isTrue_or (thn (ha pins s σ H _ I h) fun c s1 hh=>?_)
 obtain⟨H1,I1,q1⟩:=hh;cases c with
 |true=>exact⟨H1,I1,q1⟩
 |false=>exact hb wh pins s1 σ H1 Q I1 q1
theorem d7z(ha:PT X a tA):PT X (.UnaryOp .Not a pos) (tNot tA):=by
 intro pins s σ H Q I h;exact isTrue_not (ha pins s σ H (fun c H1=>Q (!c) H1) I h)
def tAndV(ta tb:TE):TE:=fun σ H Q=>ta σ H fun x H1=>∃c,x=.bl c/\if c=true then tb σ H1 Q else Q (.bl false) H1
theorem d8a{op}{t:TE}(h:PE X a t):PE X (.BoolOp op [a] pos) t:=fun pins s σ H Q I hw=>BoolOp_one (h pins s σ H Q I hw)
theorem d8b(ha:PE X a ta)(hb:PE X (.BoolOp .And (b::rest) pos) tb):PE X (.BoolOp .And (a::b::rest) pos) (tAndV ta tb):=by
 intro pins s σ H Q I h;refine BoolOp_and (thn (ha pins s σ H _ I h) fun v s1 hh=>?_)
 obtain⟨x,H1,I1,r1,q1⟩:=hh;obtain⟨c,rfl,q1⟩:=q1;cases r1;refine wpAny_truthy_bool ?_;cases c with
 |true=>exact hb pins s1 σ H1 Q I1 q1
 |false=>exact⟨.bl false,H1,I1,rfl,q1⟩
def tIf(t:TT)(ta tb:TE):TE:=fun σ H Q=>t σ H fun c H1=>if c=true then ta σ H1 Q else tb σ H1 Q
theorem d0h{c:Expr}(hc:PT X c tA)(ha:PE X a ta)(hb:PE X b tb):PE X (.IfExp c a b pos) (tIf tA ta tb):=by
 intro pins s σ H Q I h;refine wpAny_IfExp (thn (hc pins s σ H _ I h) fun d s1 hh=>?_)
 obtain⟨H1,I1,q1⟩:=hh;cases d with
 |true=>exact ha pins s1 σ H1 Q I1 q1
 |false=>exact hb pins s1 σ H1 Q I1 q1
end
def SqL(K:L2.FG)(H:Hp)(a:Addr)(xs:List V):Prop:=
 Rd H a (.lst xs)\/
  ∃(o:Obj) (its:Array Value) (n:Nat),K.lookup a=some o/\o.cls=.type "list"/\o.dict=none/\o.data=.seq its n/\its.size<=sizeLine/\Vals xs its.toList
def SqT(K:L2.FG)(H:Hp)(a:Addr)(xs:List V):Prop:=
 Rd H a (.tup xs)\/
  ∃(o:Obj) (its:Array Value) (n:Nat),K.lookup a=some o/\o.cls=.type "tuple"/\o.data=.seq its n/\its.size<=sizeLine/\Vals xs its.toList
def absV:Value->Option V
 |.none=>some .non
 |.bool b=>some (.bl b)
 |.int i _=>some (.int i)
 |.str x _=>some (.str x)
 |.bytes b _=>some (.byt b)
 |.float b _=>some (.flt b)
 |.ref a=>some (.ref a)
 |.type n=>some (.ty n)
 |_=>none
theorem RelV.abs{x:V}{u:Value}(r:RelV x u):absV u=some x:=by
 cases x with
 |non=>cases r;rfl
 |bl _=>cases r;rfl
 |int _=>obtain⟨t,rfl⟩:=r;rfl
 |str _=>obtain⟨t,rfl⟩:=r;rfl
 |byt _=>obtain⟨t,rfl⟩:=r;rfl
 |flt _=>obtain⟨t,rfl⟩:=r;rfl
 |ref _=>cases r;rfl
 |ty _=>cases r;rfl
theorem RelV.inj{x y:V}{u:Value}(r:RelV x u)(q:RelV y u):x=y:=Option.some.inj (r.abs.symm.trans q.abs)
theorem Vals.inj{xs ys:List V}{us:List Value}(h:Vals xs us)(h':Vals ys us):xs=ys:=by
 induction h generalizing ys with
 |nil=>cases h';rfl
 |cons r t ih=>
  cases h' with
  |cons r' t'=>rw[r.inj r',ih t']
section
variable {X:Cx} {pins:List (Addr×Obj)} {σ:St} {H:Hp} {s:Shared} {a:Addr} {xs ys:List V}
theorem SqL.of{K:L2.FG}(h:H a=some (.lst xs)):SqL K H a xs:=.inl (.inl h)
theorem SqT.of{K:L2.FG}(h:H a=some (.tup xs)):SqT K H a xs:=.inl (.inl h)
theorem Inv.list(I:Inv X pins σ H s)(h:SqL X.K H a xs):∃its:List Value,Vals xs its/\PlainL s.heap a its.toArray/\xs.length<=sizeLine:=by
 rcases h with h|⟨o,its,n,hk,hc,hd,hs,hz,r⟩
 ·obtain⟨z,its,n,r,e⟩:=h.ok I.hok;exact⟨its,r,⟨_,n,e,rfl,rfl,rfl⟩,z⟩
 ·refine⟨its.toList,r,⟨o,n,I.kIn a o hk,hc,hd,by simpa using hs⟩,?_⟩
  have e:=r.length;simp only[Array.length_toList] at e;omega
theorem Inv.tuple(I:Inv X pins σ H s)(h:SqT X.K H a xs):∃its:List Value,Vals xs its/\IsTup s.heap a its.toArray/\xs.length<=sizeLine:=by
 rcases h with h|⟨o,its,n,hk,hc,hs,hz,r⟩
 ·obtain⟨z,its,r,p⟩:=h.ok I.hok;exact⟨its,r,p,z⟩
 ·refine⟨its.toList,r,⟨o,I.kIn a o hk,hc,n,by simpa using hs⟩,?_⟩
  have e:=r.length;simp only[Array.length_toList] at e;omega
theorem Inv.list_inj(I:Inv X pins σ H s)(h:SqL X.K H a xs)(h':SqL X.K H a ys):xs=ys:=by
 obtain⟨its,r,⟨o,n,e,_,_,d⟩,_⟩:=I.list h;obtain⟨its',r',⟨o',n',e',_,_,d'⟩,_⟩:=I.list h';rw[e] at e';cases e';rw[d] at d';injection d' with d1 _;have:its=its':=by simpa using congrArg Array.toList d1
 subst this;exact r.inj r'
theorem Inv.tuple_inj(I:Inv X pins σ H s)(h:SqT X.K H a xs)(h':SqT X.K H a ys):xs=ys:=by
 obtain⟨its,r,⟨o,e,_,n,d⟩,_⟩:=I.tuple h;obtain⟨its',r',⟨o',e',_,n',d'⟩,_⟩:=I.tuple h';rw[e] at e';cases e';rw[d] at d';injection d' with d1 _;have:its=its':=by simpa using congrArg Array.toList d1
 subst this;exact r.inj r'
end
abbrev Cx.wish(X:Cx)(E:Value->Shared->Prop):Cx:={ X with xe:=E}
abbrev Cx.nox(X:Cx):Cx:=X.wish fun _ _=>False
theorem Cx.Ok.wish{X:Cx}(ok:X.Ok)(E:Value->Shared->Prop):(X.wish E).Ok:=
 ⟨ok.mod,ok.kind,ok.glob,ok.blt,ok.above,ok.inj,ok.has,ok.cab,ok.hd,ok.frames,ok.stk,ok.exf,ok.bs,ok.bsz,ok.noex,ok.exfs,ok.funs,ok.frf⟩
theorem Cx.Ok.unwish{X:Cx}{E:Value->Shared->Prop}(ok:(X.wish E).Ok):X.Ok:=
 ⟨ok.mod,ok.kind,ok.glob,ok.blt,ok.above,ok.inj,ok.has,ok.cab,ok.hd,ok.frames,ok.stk,ok.exf,ok.bs,ok.bsz,ok.noex,ok.exfs,ok.funs,ok.frf⟩
section
variable {X:Cx} {pins:List (Addr×Obj)} {σ:St} {H:Hp} {s:Shared} {E:Value->Shared->Prop}
theorem Inv.wish(I:Inv X pins σ H s)(E:Value->Shared->Prop):Inv (X.wish E) pins σ H s:=⟨I.ok.wish E,I.os,I.bare,I.base,I.loc,I.cell,I.free,I.freeC,I.pin,I.hok,I.len⟩
theorem Inv.unwish(I:Inv (X.wish E) pins σ H s):Inv X pins σ H s:=⟨I.ok.unwish,I.os,I.bare,I.base,I.loc,I.cell,I.free,I.freeC,I.pin,I.hok,I.len⟩
theorem SP.unwish{D:Ends}{f:Flow}{s':Shared}(h:SP (X.wish E) pins D f s'):SP X pins D f s':=by
 cases f with
 |next=>obtain⟨σ',H',I,q⟩:=h;exact⟨σ',H',I.unwish,q⟩
 |brk=>obtain⟨σ',H',I,q⟩:=h;exact⟨σ',H',I.unwish,q⟩
 |cont=>obtain⟨σ',H',I,q⟩:=h;exact⟨σ',H',I.unwish,q⟩
 |ret u=>obtain⟨v,σ',H',I,r,q⟩:=h;exact⟨v,σ',H',I.unwish,r,q⟩
theorem PSs.nox{st:List Stmt}{t:TS}(h:PSs X.nox st t):PSs X st t:=fun pins s σ H D I hw=>
 wpAny_mono (h pins s σ H D (I.wish _) hw) (fun _ _ q=>q.unwish) fun _ _ z=>False.elim z
end
section
variable {X:Cx} {st:Stmt} {rest:List Stmt} {t u:TS} {e:Expr} {te:TE} {pos:Pos}
def tNext:TS:=fun D σ H=>D.nx σ H
def tSeq(t u:TS):TS:=fun D σ H=>t { D with nx:=u D} σ H
theorem pss_nil:PSs X [] tNext:=fun _ _ σ H _ I h=>wpAny_execs_nil ⟨σ,H,I,h⟩
theorem a9q(h1:PS X st t)(h2:PSs X rest u):PSs X (st::rest) (tSeq t u):=by
 intro pins s σ H D I h;refine wpAny_execs_cons (thn (h1 pins s σ H { D with nx:=u D} I h) fun f s1 q=>?_)
 cases f with
 |next=>
  obtain⟨σ',H',I',q⟩:=q;exact h2 pins s1 σ' H' D I' q
 |ret v=>exact q
 |brk=>exact q
 |cont=>exact q
theorem c4s(h1:PS X st t):PSs X [st] t:=by
 intro pins s σ H D I h;refine wpAny_execs_cons (thn (h1 pins s σ H D I h) fun f s1 q=>?_)
 cases f with
 |next=>exact wpAny_execs_nil q
 |ret v=>exact q
 |brk=>exact q
 |cont=>exact q
theorem Inv.quiet{pins:List (Addr×Obj)}{σ:St}{H:Hp}{s:Shared}(I:Inv X pins σ H s):interactive X.env=false:=by simp[interactive,I.ok.kind]
def tDrop(te:TE):TS:=fun D σ H=>te σ H fun _ H1=>D.nx σ H1
theorem b9u(he:PE X e te)(hs:swapsWith e none pos.line X.env=pure false:=by rfl):PS X (.Expr e pos) (tDrop te):=by
 intro pins s σ H D I h;exact wpAny_Expr_any (thn (he pins s σ H _ I h) fun v s1 ⟨x,H1,I1,r1,q1⟩=>⟨σ,H1,I1,q1⟩) I.quiet hs
def tRet(te:TE):TS:=fun D σ H=>te σ H D.rt
theorem d3h(he:PE X e te):PS X (.Return (some e) pos) (tRet te):=by
 intro pins s σ H D I h;exact wpAny_Return_some (thn (he pins s σ H _ I h) fun v s1 ⟨x,H1,I1,r1,q1⟩=>⟨x,σ,H1,I1,r1,q1⟩)
def tIfS(c:TT)(t u:TS):TS:=fun D σ H=>c σ H fun b H1=>if b=true then t D σ H1 else u D σ H1
theorem e0q{c:Expr}{a b:List Stmt}{tc:TT}(hc:PT X c tc)(ha:PSs X a t)(hb:PSs X b u):PS X (.If c a b pos) (tIfS tc t u):=by
 intro pins s σ H D I h;refine wpAny_If (thn (hc pins s σ H _ I h) fun d s1 hh=>?_)
 obtain⟨H1,I1,q1⟩:=hh;cases d with
 |true=>exact ha pins s1 σ H1 D I1 q1
 |false=>exact hb pins s1 σ H1 D I1 q1
end
abbrev TG:=V->St->Hp->(St->Hp->Prop)->Prop
abbrev TGs:=List V->St->Hp->(St->Hp->Prop)->Prop
def PG(X:Cx)(target:Expr)(t:TG):Prop:=
 ∀(pins:List (Addr×Obj)) (s:Shared) (σ:St) (H:Hp) (v:V) (u:Value) (Q:St->Hp->Prop),Inv X pins σ H s->RelV v u->t v σ H Q->
  wpAny (model X.prog X.w) X.A (assign target X.env u) (fun _ s'=>∃σ' H',Inv X pins σ' H' s'/\Q σ' H') X.xe s
def PGs(X:Cx)(ts:List Expr)(t:TGs):Prop:=
 ∀(pins:List (Addr×Obj)) (s:Shared) (σ:St) (H:Hp) (vs:List V) (us:List Value) (Q:St->Hp->Prop),Inv X pins σ H s->Vals vs us->t vs σ H Q->
  wpAny (model X.prog X.w) X.A (assignInOrder ((assignEach ts X.env).map (·.2)) us) (fun _ s'=>∃σ' H',Inv X pins σ' H' s'/\Q σ' H') X.xe s
abbrev TSet:=V->V->V->Hp->(Hp->Prop)->Prop
def PSet(X:Cx)(t:TSet):Prop:=
 ∀(pins:List (Addr×Obj)) (s:Shared) (σ:St) (H:Hp) (o i v:V) (ov iv u:Value) (Q:Hp->Prop),Inv X pins σ H s->RelV o ov->RelV i iv->RelV v u->t o i v H Q->
  wpAny (model X.prog X.w) X.A (setItem ov iv u) (fun _ s'=>∃H',Inv X pins σ H' s'/\Q H') X.xe s
section
variable {X:Cx} {pos:Pos}
def gName(i:Nat):TG:=fun v σ H Q=>Q (σ.set i (some v)) H
theorem a2j{i:Nat}{x:Str}(hN:X.N.Nodup)(hi:X.N[i]?=some x)(hx:Loc X.env.scope x)(hf:X.fn x=true\/X.env.scope.names.lookup x=some .local := by first|exact .inl rfl|exact .inr rfl|assumption):PG X (.Name x pos) (gName i):=by
 intro pins s σ H v u Q I r h;exact wpAny_assign_Name (b5v I hN hi hx r (fun s' I'=>⟨_,H,I',h⟩) hf)
def gNil:TGs:=fun vs σ H Q=>vs=[]/\Q σ H
def gCons(t:TG)(u:TGs):TGs:=fun vs σ H Q=>∃v r,vs=v::r/\t v σ H fun σ' H'=>u r σ' H' Q
theorem b5w:PGs X [] gNil:=by
 intro pins s σ H vs us Q I r h;obtain⟨e,h⟩:=h;subst e;cases r;exact assignInOrder_nil ⟨σ,H,I,h⟩
theorem a4t{e:Expr}{es:List Expr}{t:TG}{u:TGs}(h1:PG X e t)(h2:PGs X es u)
  (hs:(assignEach (e::es) X.env).map (·.2)=assign e X.env::(assignEach es X.env).map (·.2):=by rfl):PGs X (e::es) (gCons t u):=by
 intro pins s σ H vs us Q I r h;obtain⟨v,vr,e1,h⟩:=h;subst e1;cases r with
 |cons r rr=>
  rw[hs];refine assignInOrder_cons (thn (h1 pins s σ H _ _ _ I r h) fun _ s1 hh=>?_)
  obtain⟨σ1,H1,I1,q1⟩:=hh;exact h2 pins s1 σ1 H1 _ _ Q I1 rr q1
def gTup(K:L2.FG)(n:Nat)(t:TGs):TG:=fun v σ H Q=>∃a xs,v=.ref a/\SqT K H a xs/\xs.length=n/\t xs σ H Q
theorem c0y{es:List Expr}{k:Nat}{t:TGs}{n:Nat}(hc:X.calm=true)(h:PGs X es t)
  (hn:(assignEach es X.env).length=n:=by rfl) (hst:(assignEach es X.env).findIdx? (·.1)=none:=by rfl):PG X (.Tuple es k pos) (gTup X.K n t):=by
 intro pins s σ H v u Q I r hw;obtain⟨a,xs,e1,hq,hl,hw⟩:=hw;subst e1;cases r;obtain⟨its,rv,ht,hz⟩:=I.tuple hq;refine assign_Tuple_tuple (I.ok.hd hc) ht (by simp[hn,<-hl,rv.length]) hst fun h' hx=>?_
 have I1:Inv X pins σ H { s with heap:=h'}:=I.kept (t':=s.toks) fun b o e=>hx b o (Nat.ne_of_lt (Heap.lt_size e)) e
 exact h pins _ σ H xs _ Q I1 (by simpa using rv) hw
def gSub(to ti:TE)(t:TSet):TG:=fun v σ H Q=>to σ H fun o H1=>ti σ H1 fun i H2=>t o i v H2 fun H3=>Q σ H3
theorem d8c{o i:Expr}{to ti:TE}{t:TSet}(ho:PE X o to)(hi:PE X i ti)(hs:PSet X t)
  (ha:∀v,assign (.Subscript o i pos) X.env v=(do
   let ov <-holding [v] (eval o X.env)
   let iv <-holding [v,ov] (eval i X.env)
   standAt pos
   holding [v,ov,iv] (setItem ov iv v)
   release [v,ov,iv] []):=by intro _;rfl):PG X (.Subscript o i pos) (gSub to ti t):=by
 intro pins s σ H v u Q I r h;rw[ha];refine wpAny_bind (wpAny_holding (thn (ho pins s σ H _ I h) fun ov s1 hh=>?_))
 obtain⟨x,H1,I1,r1,q1⟩:=hh;refine wpAny_bind (wpAny_holding (thn (hi pins s1 σ H1 _ I1 q1) fun iv s2 hh=>?_))
 obtain⟨y,H2,I2,r2,q2⟩:=hh;refine wpAny_bind (wpAny_standAt (wpAny_bind (wpAny_holding (thn (hs pins s2 σ H2 x y v ov iv u _ I2 r1 r2 r q2) fun _ s3 hh=>?_))))
 obtain⟨H3,I3,q3⟩:=hh;exact wpAny_release ⟨σ,H3,I3,q3⟩
def tAsg(te:TE)(g:TG):TS:=fun D σ H=>te σ H fun x H1=>g x σ H1 D.nx
theorem d8d{tg e:Expr}{te:TE}{g:TG}(he:PE X e te)(hg:PG X tg g)(hs:swapsWithSole [tg] e pos.line X.env=pure false:=by rfl)(hw:swappedStores [tg] e X.env=pure none:=by rfl)
  (h1:(assignEach [tg] X.env).map (·.2)=[assign tg X.env]:=by rfl):PS X (.Assign [tg] e pos) (tAsg te g):=by
 intro pins s σ H D I h;refine wpAny_Assign_stores (thn (he pins s σ H _ I h) fun v s1 hh=>?_) hs hw
 obtain⟨x,H1,I1,r1,q1⟩:=hh;rw[h1];exact thn (hg pins s1 σ H1 x v _ I1 r1 q1) fun _ s2 q=>q
theorem c4t{i:Nat}{x:Str}{e:Expr}{te:TE}{pos':Pos}(hN:X.N.Nodup)(hi:X.N[i]?=some x)(hx:Loc X.env.scope x)(he:PE X e te)(hs:swapsWith e (some (.Name x pos')) pos.line X.env=pure false:=by rfl)(hf:X.fn x=true\/X.env.scope.names.lookup x=some .local := by first|exact .inl rfl|exact .inr rfl|assumption):
  PS X (.Assign [.Name x pos'] e pos) (tAsg te (gName i)):=by
 intro pins s σ H D I h;refine wpAny_Assign_Name (thn (he pins s σ H _ I h) fun v s1 hh=>?_) hs
 obtain⟨y,H1,I1,r1,q1⟩:=hh;exact b5v I1 hN hi hx r1 (fun s2 I2=>⟨_,H1,I2,q1⟩) hf
end
section
variable {X:Cx} {pos:Pos}
end
set_option genInjectivity false in
structure It where
 go:Nat->Hp->Prop
 yld:Nat->Hp->V->Hp->Prop
 stop:Nat->Hp->Prop
def FpOk(X:Cx)(pins:List (Addr×Obj))(H:Hp)(b:Addr):Prop:=
 H b=none/\b≠X.env.locals/\b∉X.fs/\(b∈X.ex\/X.s₀.heap.objs.size<=b)/\(∀x c,X.env.cells.lookup x=some c->c≠b)/\∀p∈X.pn++pins,p.1≠b
theorem Inv.fpOk{X:Cx}{pins:List (Addr×Obj)}{σ:St}{H H':Hp}{s:Shared}{b:Addr}(I:Inv X pins σ H s)(hb:s.heap.objs.size<=b)(hn:H' b=none):FpOk X pins H' b:=by
 refine⟨hn,Nat.ne_of_gt (Nat.lt_of_lt_of_le I.lt hb),I.nofs hb,.inr (Nat.le_trans I.sz hb),fun x c e z=>?_,fun p hp z=>?_⟩
 ·obtain⟨v,q⟩:=I.cell x c e;exact absurd (Nat.lt_of_lt_of_le q.lt (by rw[z];exact hb)) (Nat.lt_irrefl _)
 ·exact absurd (Nat.lt_of_lt_of_le (Heap.lt_size (I.pin p hp).1) (by rw[z];exact hb)) (Nat.lt_irrefl _)
structure Turn (P:Program) (w:World) (K:L2.FG) (tg:Expr) (J:It) (fp:List Addr) (it:Addr) (tn:Nat->Heap->Prop):Prop where
 mem:it∈fp
 obj:∀i h,tn i h->∀b∈fp,∃o,h.get? b=some o/\∀v,o.data≠.cell v
 keep:∀i h h',tn i h->(∀b∈fp,∀o,h.get? b=some o->h'.get? b=some o)->tn i h'
 item:∀(X:Cx),X.prog=P->X.w=w->X.K=K->X.calm=true->∀(i:Nat) (pins:List (Addr×Obj)) (s:Shared) (σ:St) (H:Hp) (E:Value->Shared->Prop),Inv X pins σ H s->(∀b∈fp,FpOk X pins H b)->tn i s.heap->J.go i H->
  wpAny (model P w) X.A (pyNext (.ref it)) (fun r s1=>∃u,r=some u/\
   wpAny (model P w) X.A (letOwnedTupleGo tg (.ref it) u) (fun _ s2=>∃x H',Inv X pins σ H' s2/\RelV x u/\J.yld i H x H'/\tn (i+1) s2.heap/\∀b∈fp,H' b=none) E s1) E s
 done:∀(X:Cx),X.prog=P->X.w=w->X.K=K->X.calm=true->∀(i:Nat) (pins:List (Addr×Obj)) (s:Shared) (σ:St) (H:Hp) (E:Value->Shared->Prop),Inv X pins σ H s->(∀b∈fp,FpOk X pins H b)->tn i s.heap->J.stop i H->
  wpAny (model P w) X.A (pyNext (.ref it)) (fun r s1=>r=none/\Inv X pins σ H s1) E s
 self:∀(A:Around) (i:Nat) (s:Shared) (Q:Value->Shared->Prop) (E:Value->Shared->Prop),tn i s.heap->Q (.ref it) s->wpAny (model P w) A (pyIter (.ref it)) Q E s
abbrev TI:=St->Hp->(It->Hp->Prop)->Prop
def PIE(X:Cx)(pins:List (Addr×Obj))(σ:St)(tg:Expr)(R:It->Hp->Prop)(itv:Value)(s2:Shared):Prop:=
 ∃(it:Addr) (fp:List Addr) (tn:Nat->Heap->Prop) (J:It) (H':Hp),itv=.ref it/\Inv X pins σ H' s2/\Turn X.prog X.w X.K tg J fp it tn/\tn 0 s2.heap/\(∀b∈fp,FpOk X pins H' b)/\R J H'
def PI(X:Cx)(tg iter:Expr)(wi:TI):Prop:=
 ∀(pins:List (Addr×Obj)) (s:Shared) (σ:St) (H:Hp) (R:It->Hp->Prop),Inv X pins σ H s->wi σ H R->
  wpAny (model X.prog X.w) X.A (eval iter X.env) (fun v s1=>wpAny (model X.prog X.w) X.A (pyIter v) (PIE X pins σ tg R) X.xe s1) X.xe s
theorem d4u{M:Model}{A:Around}{E:Value->Shared->Prop}{s:Shared}{tg:Expr}{it:Addr}{u:Value}{o:Obj}{n:String}{vs:Array Value}{Q:Unit->Shared->Prop}(ho:s.heap.get? it=some o)(hc:o.cls=.type n)(hd:o.data=.fields vs)
  (hn:["enumerate","zip","dict_itemiterator","dict_reverseitemiterator","odict_iterator","itertools.zip_longest","itertools.pairwise"].contains n=false) (hQ:Q () s):wpAny M A (letOwnedTupleGo tg (.ref it) u) Q E s:=by
 unfold letOwnedTupleGo;cases tg <;> first
  |exact wpAny_pure hQ
  |(cases u <;> first
    |exact wpAny_pure hQ
    |(refine wpAny_bind (wpAny_load ho ?_)
      rw[hc,hd];show wpAny M A (if(["enumerate","zip","dict_itemiterator","dict_reverseitemiterator","odict_iterator","itertools.zip_longest","itertools.pairwise"].contains n && vs[0]? == some (rawInt _))=true then _ else _) Q E s
      rw[if_neg (by intro h;rw[hn,Bool.false_and] at h;cases h)]
      exact wpAny_pure hQ))
def Itl(K:L2.FG)(a:Addr):It:=
 ⟨fun i H=>∃xs x,SqL K H a xs/\xs[i]?=some x,fun i H x H'=>H'=H/\∀xs,SqL K H a xs->xs[i]?=some x,fun i H=>∃xs,SqL K H a xs/\xs.length<=i⟩
def Itr(lo:Int)(n:Nat):It:=⟨fun i _=>i < n,fun i H x H'=>H'=H/\x=.int (lo+i),fun i _=>n<=i⟩
theorem c4u{P:Program}{w:World}{K:L2.FG}{tg:Expr}(a it:Addr):Turn P w K tg (Itl K a) [it] it (fun i h=>h.IsListIter it a i) where
 mem:=by simp
 obj:=fun i h st b hb=>by
  have e:b=it:=by simpa using hb
  subst e;obtain⟨o,e,c,d⟩:=st;exact⟨o,e,fun v z=>by rw[d] at z;cases z⟩
 keep:=fun i h h' st k=>st.at fun o e=>k it (by simp) o e
 item:=by
  intro X hP hw hK hc i pins s σ H E I hf st hg;subst hP hw hK;obtain⟨xs,x,hq,hx⟩:=hg;obtain⟨its,rv,p,hz⟩:=I.list hq;obtain⟨u,hu,ru⟩:=rv.get hx;obtain⟨f0,f1,f2,f3,f4,f5⟩:=hf it (by simp)
  refine wpAny_pyNext_list_item st p.isList (x:=u) (by simpa using hu) fun h' st' sb=>?_
  have I1:Inv X pins σ H { s with heap:=h'}:=I.turned (t':=s.toks) (fun b o hb e=>(sb.2 b hb).trans e) f0 f1 f3 f4 f5
  obtain⟨o,e,c,d⟩:=id st';exact⟨u,rfl,d4u (s:={ s with heap:=h'}) e c d (by decide) ⟨x,H,I1,ru,⟨rfl,fun ys hy=>by rw[I.list_inj hy hq];exact hx⟩,st',fun b hb=>(hf b hb).1⟩⟩
 done:=by
  intro X hP hw hK hc i pins s σ H E I hf st hg;subst hP hw hK;obtain⟨xs,hq,hx⟩:=hg;obtain⟨its,rv,p,hz⟩:=I.list hq;obtain⟨f0,f1,f2,f3,f4,f5⟩:=hf it (by simp)
  have hl:=rv.length;exact wpAny_pyNext_list_end (I.ok.hd hc) st p.isList (by simp;omega) fun h' eb=>⟨rfl,I.turned (t':=s.toks) (fun b o hb e=>eb b o hb e) f0 f1 f3 f4 f5⟩
 self:=fun _ _ _ _ _ st h=>wpAny_pyIter_listiter st h
theorem c3o{P:Program}{w:World}{K:L2.FG}{tg:Expr}(it:Addr)(lo:Int)(n:Nat):Turn P w K tg (Itr lo n) [it] it (fun i h=>IsRangeIter h it (lo+(i:Nat) * 1) ((n:Int) - (i:Nat)) 1) where
 mem:=by simp
 obj:=fun i h st b hb=>by
  have e:b=it:=by simpa using hb
  subst e;exact⟨_,st,fun v z=>by
   have z':Data.fields _=Data.cell v:=z;cases z'⟩
 keep:=fun i h h' st k=>k it (by simp) _ st
 item:=by
  intro X hP hw hK hc i pins s σ H E I hf st hg;subst hP hw hK;obtain⟨f0,f1,f2,f3,f4,f5⟩:=hf it (by simp)
  have W:=Walks.range (prog:=X.prog) (w:=X.w) (I.ok.hd hc) it lo 1 n;refine W.item i s _ _ hg st fun v h' tk hv st' kk=>?_
  obtain⟨t,rfl⟩:=hv;have I1:Inv X pins σ H { s with heap:=h',toks:=tk}:=I.turned (fun b o hb e=>kk b o (by simpa using hb) e) f0 f1 f3 f4 f5
  refine⟨_,rfl,d4u (s:={ s with heap:=h',toks:=tk}) (n:="range_iterator") st' rfl rfl (by decide) ⟨.int (lo+i),H,I1,⟨t,?_⟩,⟨rfl,rfl⟩,st',fun b hb=>(hf b hb).1⟩⟩
  rw[Int.mul_one]
 done:=by
  intro X hP hw hK hc i pins s σ H E I hf st hg;subst hP hw hK;obtain⟨f0,f1,f2,f3,f4,f5⟩:=hf it (by simp)
  exact wpAny_pyNext_range_end (I.ok.hd hc) st (by have:n<=i:=hg;omega) fun h' eb=>⟨rfl,I.turned (t':=s.toks) (fun b o hb e=>eb b o hb e) f0 f1 f3 f4 f5⟩
 self:=fun _ _ _ _ _ st h=>wpAny_pyIter_rangeiter st h
section
variable {X:Cx} {tg:Expr}
def iList(K:L2.FG)(tl:TE):TI:=fun σ H R=>tl σ H fun x H1=>∃a,x=.ref a/\(∃xs,SqL K H1 a xs)/\R (Itl K a) H1
theorem b5x{l:Expr}{tl:TE}(hl:PE X l tl):PI X tg l (iList X.K tl):=by
 intro pins s σ H R I h;refine thn (hl pins s σ H _ I h) fun v s1 hh=>?_
 obtain⟨x,H1,I1,r1,q1⟩:=hh;obtain⟨a,e,⟨xs,hq⟩,q⟩:=q1;subst e;cases r1;obtain⟨its,rv,p,hz⟩:=I1.list hq;refine wpAny_pyIter_list p.isList ?_;refine⟨s1.heap.objs.size,[s1.heap.objs.size],_,_,H1,rfl,I1.kept (t':=s1.toks) fun b o e=>Heap.get?_push_of_some _ e,c4u a _,⟨_,Heap.get?_push_size _ rfl,rfl,rfl⟩,fun b hb=>?_,q⟩
 have e:b=s1.heap.objs.size:=by simpa using hb
 subst e;exact I1.fpOk (Nat.le_refl _) (I1.hok.fresh (Nat.le_refl _))
theorem d0i{pins:List (Addr×Obj)}{σ:St}{H:Hp}{s:Shared}{R:It->Hp->Prop}{E:Value->Shared->Prop}{lo hi:Int}{t u v:Tok}{tk:Nat}(I:Inv X pins σ H s)(h1:-(2 ^ 62)<=lo)(h2:lo < 2 ^ 62)(h3:-(2 ^ 62)<=hi)(h4:hi < 2 ^ 62)
  (q:R (Itr lo (hi - lo).toNat) H):wpAny (model X.prog X.w) X.A (pyIter (.ref s.heap.objs.size)) (PIE X pins σ tg R) E { s with heap:=s.heap.push { cls:=.type "range",data:=.fields #[.int lo t,.int hi u,.int 1 v]},toks:=tk}:=by
 refine wpAny_pyIter_range (IsRange.new ..) (small_one h1 h2 h3 h4) ?_;have I1:Inv X pins σ H { s with heap:=s.heap.push { cls:=.type "range",data:=.fields #[.int lo t,.int hi u,.int 1 v]},toks:=tk}:=I.kept fun b o e=>Heap.get?_push_of_some _ e
 refine⟨(s.heap.push { cls:=.type "range",data:=.fields #[.int lo t,.int hi u,.int 1 v]}).objs.size,[(s.heap.push { cls:=.type "range",data:=.fields #[.int lo t,.int hi u,.int 1 v]}).objs.size],_,_,H,rfl,
  I1.kept (t':=tk) fun b o e=>Heap.get?_push_of_some _ e,c3o _ lo (hi - lo).toNat,?_,fun b hb=>?_,q⟩
 ·have e1:lo+((0:Nat):Int) * 1=lo:=by simp
  have e2:(((hi - lo).toNat:Nat):Int) - ((0:Nat):Int)=Builtin.Range.rangeSize lo hi 1:=by rw[rangeSize_one];split <;> omega
  show IsRangeIter _ _ (lo+((0:Nat):Int) * 1) ((((hi - lo).toNat:Nat):Int) - ((0:Nat):Int)) 1;rw[e1,e2];exact Heap.get?_push_size _ rfl
 ·have e:b=(s.heap.push { cls:=.type "range",data:=.fields #[.int lo t,.int hi u,.int 1 v]}).objs.size:=by simpa using hb
  subst e;exact I1.fpOk (Nat.le_refl _) (I1.hok.fresh (Nat.le_refl _))
def iRng1(ta:TA):TI:=fun σ H R=>ta σ H fun vs H1=>∃j:Int,vs=[.int j] /\ -(2 ^ 62)<=j/\j < 2 ^ 62/\R (Itr 0 j.toNat) H1
theorem b7n{a:Expr}{ta:TA}{p pos:Pos}(hg:Gl X "range")(hm:X.mg "range"=none)(ha:PA X [a] ta)(hs:starEach [a] X.env=[(false,eval a X.env)]:=by rfl):PI X tg (.Call (.Name "range" p) [a] [] pos) (iRng1 ta):=by
 intro pins s σ H R I h;refine Call_ (b7m I hg hm boot_range (PyProof.Rows.callWith_type1 (thn (ha pos pins s σ H _ I h) fun us s1 hh=>?_) hs rfl))
 obtain⟨vs,H1,I1,r1,q1⟩:=hh;obtain⟨j,e,q1,q2,q⟩:=q1;subst e;cases r1 with
 |cons r rr=>
  cases rr;obtain⟨t,rfl⟩:=r;exact call_range_1 (d0i I1 (by omega) (by omega) q1 q2 (by simpa using q))
def tFor(wi:TI)(g:TG)(tb:TS):TS:=fun D σ H=>wi σ H fun J H1=>∃W:Nat->Nat->St->Hp->Prop,(∃m,W 0 m σ H1)/\∀i m σ H,W i m σ H->
 (J.stop i H/\D.nx σ H)\/(J.go i H/\∃N:St->Hp->Prop,(∀σ' H',N σ' H'->∃m',m' < m/\W (i+1) m' σ' H')/\∀x H',J.yld i H x H'->g x σ H' fun σ2 H2=>tb { D with nx:=N,ct:=N,bk:=D.nx} σ2 H2)
def b7o(fp:List Addr)(h:Heap):List (Addr×Obj):=fp.filterMap fun b=>(h.get? b).map fun o=>(b,o)
theorem a8o{fp:List Addr}{h:Heap}{b:Addr}{o:Obj}(hb:b∈fp)(e:h.get? b=some o):(b,o)∈b7o fp h:=List.mem_filterMap.mpr ⟨b,hb,by rw[e];rfl⟩
theorem c4v{fp:List Addr}{h:Heap}{p:Addr×Obj}(hp:p∈b7o fp h):p.1∈fp/\h.get? p.1=some p.2:=by
 obtain⟨b,hb,e⟩:=List.mem_filterMap.mp hp;cases q:h.get? b with
 |none=>rw[q] at e;cases e
 |some o=>
  rw[q] at e;have e':(b,o)=p:=Option.some.inj e;subst e';exact⟨hb,q⟩
theorem Inv.pinned{pins:List (Addr×Obj)}{σ:St}{H:Hp}{s:Shared}{fp:List Addr}(I:Inv X pins σ H s)(hf:∀b∈fp,FpOk X pins H b)(ho:∀b∈fp,∃o,s.heap.get? b=some o/\∀v,o.data≠.cell v):Inv X (pins++b7o fp s.heap) σ H s:=
 I.pins_of fun p hp=>(List.mem_append.mp hp).elim (fun z=>I.pin p (List.mem_append_right _ z)) fun z=>by
  obtain⟨hb,e⟩:=c4v z;obtain⟨f0,f1,f2,_⟩:=hf p.1 hb;obtain⟨o,e',d⟩:=ho p.1 hb;rw[e] at e';cases e';exact⟨e,f0,f1,f2,d⟩
theorem Inv.unpinned{pins pl:List (Addr×Obj)}{σ:St}{H:Hp}{s:Shared}(I:Inv X (pins++pl) σ H s):Inv X pins σ H s:=I.pins_of fun p hp=>I.pin p (List.mem_append_right _ (List.mem_append_left _ hp))
theorem c4w{iter:Expr}{body:List Stmt}{wi:TI}{g:TG}{tb:TS}{pos:Pos}(hp:PassesOwn (model X.prog X.w) X.A X.env X.xe)(hc:X.calm=true)(hi:PI X tg iter wi)(hg:PG X tg g)(hb:PSs X body tb)
  (hs:∀x,foldedSetIterable iter X.env x=pure x:=by intro _;rfl):PS X (.For tg iter body [] pos) (tFor wi g tb):=by
 intro pins s σ H D I h;refine wpAny_For (thn (hi pins s σ H _ I h) fun v s1 h1=>thn h1 fun itv s2 h2=>?_) hs
 obtain⟨it,fp,tn,J,H2,e,I2,T,st2,f2,W,⟨m0,w0⟩,turn⟩:=h2;subst e;have stat:∀{H':Hp},(∀b∈fp,H' b=none)->∀b∈fp,FpOk X pins H' b:=fun hn b hb=>⟨hn b hb,(f2 b hb).2⟩
 refine codeAny_forLoop_any (fun n s'=>∃i σ' H',Inv X pins σ' H' s'/\tn i s'.heap/\(∀b∈fp,H' b=none)/\W i n σ' H') ?_ m0 ⟨0,σ,H2,I2,st2,fun b hb=>(f2 b hb).1,w0⟩
 rintro n s3 ⟨i,σ3,H3,I3,st3,fr3,w3⟩;rcases turn i n σ3 H3 w3 with⟨stop,qn⟩|⟨go,N,hN,step⟩
 ·refine wpAny_passesOwn hp (thn (T.done X rfl rfl rfl hc i pins s3 σ3 H3 X.xe I3 (stat fr3) st3 stop) fun r s4 ⟨hr,I4⟩=>?_)
  subst hr;exact wpAny_execs_nil ⟨σ3,H3,I4,qn⟩
 ·refine wpAny_passesOwn hp (thn (T.item X rfl rfl rfl hc i pins s3 σ3 H3 X.xe I3 (stat fr3) st3 go) fun r s4 ⟨u,hr,h4⟩=>?_)
  subst hr;refine wpAny_passesOwn hp (thn h4 fun _ s5 hh=>?_)
  obtain⟨x,H5,I5,r5,y5,st5,fr5⟩:=hh;have I5':=I5.pinned (stat fr5) (T.obj _ _ st5);refine wpAny_passesOwn hp (thn (hg _ s5 σ3 H5 x u _ I5' r5 (step x H5 y5)) fun _ s6 hh=>?_)
  obtain⟨σ6,H6,I6,q6⟩:=hh;refine wpAny_passesOwn hp (thn (hb _ s6 σ6 H6 _ I6 q6) fun f s7 q7=>?_)
  have again:∀{σ7:St} {H7:Hp},Inv X (pins++b7o fp s5.heap) σ7 H7 s7->N σ7 H7->∃m,m < n/\∃i σ' H',Inv X pins σ' H' s7/\tn i s7.heap/\(∀b∈fp,H' b=none)/\W i m σ' H':=fun{σ7 H7} I7 n7=>by
   obtain⟨m',hm,w7⟩:=hN σ7 H7 n7;refine⟨m',hm,i+1,σ7,H7,I7.unpinned,T.keep _ _ _ st5 fun b hb o e=>(I7.pin (b,o) (List.mem_append_right _ (List.mem_append_right _ (a8o hb e)))).1,fun b hb=>?_,w7⟩
   obtain⟨o,e,d⟩:=T.obj _ _ st5 b hb;exact(I7.pin (b,o) (List.mem_append_right _ (List.mem_append_right _ (a8o hb e)))).2.1
  cases f with
  |next=>obtain⟨σ7,H7,I7,n7⟩:=q7;exact again I7 n7
  |cont=>obtain⟨σ7,H7,I7,n7⟩:=q7;exact again I7 n7
  |brk=>obtain⟨σ7,H7,I7,q7⟩:=q7;exact⟨σ7,H7,I7.unpinned,q7⟩
  |ret v=>obtain⟨x7,σ7,H7,I7,r7,q7⟩:=q7;exact⟨x7,σ7,H7,I7.unpinned,r7,q7⟩
end
theorem d0j{K:L2.FG}{a:Addr}{xs:List V}{g:TG}{tb:TS}{D:Ends}{σ:St}{H:Hp}(Pv:Nat->St->Hp->Prop)(h0:Pv 0 σ H)(hl:∀i σ H,i<=xs.length->Pv i σ H->SqL K H a xs)
  (hs:∀i x σ H,xs[i]?=some x->Pv i σ H->g x σ H fun σ2 H2=>tb { D with nx:=Pv (i+1),ct:=Pv (i+1),bk:=D.nx} σ2 H2) (hd:∀σ H,Pv xs.length σ H->D.nx σ H) :
  ∃W:Nat->Nat->St->Hp->Prop,(∃m,W 0 m σ H)/\∀i m σ H,W i m σ H->
   ((Itl K a).stop i H/\D.nx σ H)\/((Itl K a).go i H/\∃N:St->Hp->Prop,(∀σ' H',N σ' H'->∃m',m' < m/\W (i+1) m' σ' H')/\∀x H',(Itl K a).yld i H x H'->g x σ H' fun σ2 H2=>tb { D with nx:=N,ct:=N,bk:=D.nx} σ2 H2):=by
 refine⟨fun i m σ H=>m=xs.length - i/\i<=xs.length/\Pv i σ H,⟨xs.length,by simp,Nat.zero_le _,h0⟩,?_⟩
 rintro i m σ H ⟨rfl,hi,p⟩;have q:=hl i σ H hi p;by_cases hlt:i < xs.length
 ·refine .inr ⟨⟨xs,xs[i],q,by simp[hlt]⟩,Pv (i+1),fun σ' H' p'=>⟨xs.length - (i+1),by omega,rfl,hlt,p'⟩,fun x H' y=>?_⟩
  obtain⟨e,y⟩:=y;subst e;exact hs i x σ _ (y xs q) p
 ·have e:i=xs.length:=by omega
  subst e;exact .inl ⟨⟨xs,q,Nat.le_refl _⟩,hd σ H p⟩
theorem c4x{lo:Int}{n:Nat}{g:TG}{tb:TS}{D:Ends}{σ:St}{H:Hp}(Pv:Nat->St->Hp->Prop)(h0:Pv 0 σ H)
  (hs:∀i σ H,i < n->Pv i σ H->g (.int (lo+i)) σ H fun σ2 H2=>tb { D with nx:=Pv (i+1),ct:=Pv (i+1),bk:=D.nx} σ2 H2) (hd:∀σ H,Pv n σ H->D.nx σ H) :
  ∃W:Nat->Nat->St->Hp->Prop,(∃m,W 0 m σ H)/\∀i m σ H,W i m σ H->
   ((Itr lo n).stop i H/\D.nx σ H)\/((Itr lo n).go i H/\∃N:St->Hp->Prop,(∀σ' H',N σ' H'->∃m',m' < m/\W (i+1) m' σ' H')/\∀x H',(Itr lo n).yld i H x H'->g x σ H' fun σ2 H2=>tb { D with nx:=N,ct:=N,bk:=D.nx} σ2 H2):=by
 refine⟨fun i m σ H=>m=n - i/\i<=n/\Pv i σ H,⟨n,by simp,Nat.zero_le _,h0⟩,?_⟩
 rintro i m σ H ⟨rfl,hi,p⟩;by_cases hlt:i < n
 ·refine .inr ⟨hlt,Pv (i+1),fun σ' H' p'=>⟨n - (i+1),by omega,rfl,hlt,p'⟩,fun x H' y=>?_⟩
  obtain⟨e,y⟩:=y;subst e y;exact hs i σ _ hlt p
 ·have e:i=n:=by omega
  subst e;exact .inl ⟨Nat.le_refl _,hd σ H p⟩
abbrev R2:=V->V->Hp->VK->Prop
def OpR(X:Cx)(f:Value->Value->Sem Value)(r:R2):Prop:=
 ∀(pins:List (Addr×Obj)) (s:Shared) (σ:St) (H:Hp) (x y:V) (v u:Value) (Q:VK),Inv X pins σ H s->RelV x v->RelV y u->r x y H Q->
  wpAny (model X.prog X.w) X.A (f v u) (EP X pins σ Q) X.xe s
def CallR(X:Cx)(f:Value)(r:List V->Hp->VK->Prop):Prop:=
 ∀(pins:List (Addr×Obj)) (s:Shared) (σ:St) (H:Hp) (xs:List V) (us:List Value) (Q:VK),Inv X pins σ H s->Vals xs us->r xs H Q->
  wpAny (model X.prog X.w) X.A (call f us) (EP X pins σ Q) X.xe s
def TruR(X:Cx)(r:V->Hp->(Bool->Hp->Prop)->Prop):Prop:=
 ∀(pins:List (Addr×Obj)) (s:Shared) (σ:St) (H:Hp) (x:V) (v:Value) (Q:Bool->Hp->Prop),Inv X pins σ H s->RelV x v->r x H Q->
  wpAny (model X.prog X.w) X.A (truthy v) (TP X pins σ Q) X.xe s
def tOp(r:R2)(ta tb:TE):TE:=fun σ H Q=>ta σ H fun x H1=>tb σ H1 fun y H2=>r x y H2 Q
def rI(C:Int->Int->Prop)(g:Int->Int->V):R2:=fun x y H Q=>∃i j,x=.int i/\y=.int j/\C i j/\Q (g i j) H
def rI0(g:Int->Int->V):R2:=fun x y H Q=>∃i j,x=.int i/\y=.int j/\Q (g i j) H
section
variable {X:Cx} {a b c:Expr} {ta tb tc:TE} {pos:Pos}
theorem binT(ha:PE X a ta)(hb:PE X b tb){pins:List (Addr×Obj)}{s:Shared}{σ:St}{H:Hp}{R:V->V->Hp->Prop}(I:Inv X pins σ H s)
  (h:ta σ H fun x H1=>tb σ H1 fun y H2=>R x y H2) {Q:Value->Shared->Prop} {f:Value->Value->Sem Value}
  (hf:∀v u s2 x y H2,Inv X pins σ H2 s2->RelV x v->RelV y u->R x y H2->wpAny (model X.prog X.w) X.A (f v u) Q X.xe s2) :
  wpAny (model X.prog X.w) X.A (eval a X.env) (fun v s₁=>wpAny (model X.prog X.w) X.A (eval b X.env) (fun u s₂=>wpAny (model X.prog X.w) X.A (f v u) Q X.xe s₂) X.xe s₁) X.xe s:=by
 refine thn (ha pins s σ H _ I h) fun v s1 hh=>?_
 obtain⟨x,H1,I1,r1,q1⟩:=hh;refine thn (hb pins s1 σ H1 _ I1 q1) fun u s2 hh=>?_
 obtain⟨y,H2,I2,r2,q2⟩:=hh;exact hf v u s2 x y H2 I2 r1 r2 q2
theorem e0r{op:Operator}{r:R2}(ho:OpR X (binaryOp op) r)(ha:PE X a ta)(hb:PE X b tb):PE X (.BinOp a op b pos) (tOp r ta tb):=by
 intro pins s σ H Q I h;exact wpAny_BinOp (binT ha hb I h fun v u s2 x y H2 I2 rx ry q=>ho pins s2 σ H2 x y v u Q I2 rx ry q)
theorem opI{f:Value->Value->Sem Value}{C:Int->Int->Prop}{g:Int->Int->Int}
  (rule:∀(i j:Int) (t u:Tok) (s:Shared) (Q:Value->Shared->Prop) (E:Value->Shared->Prop),C i j->Q (.int (g i j) s.toks) { s with toks:=s.toks+1}->wpAny (model X.prog X.w) X.A (f (.int i t) (.int j u)) Q E s) :
  OpR X f (rI C fun i j=>.int (g i j)):=by
 intro pins s σ H x y v u Q I rx ry h;obtain⟨i,j,rfl,rfl,hc,q⟩:=h;obtain⟨t,rfl⟩:=rx;obtain⟨t',rfl⟩:=ry;exact rule i j t t' s _ _ hc ⟨.int (g i j),H,I.tok _,⟨_,rfl⟩,q⟩
theorem opI0{f:Value->Value->Sem Value}{g:Int->Int->Int}
  (rule:∀(i j:Int) (t u:Tok) (s:Shared) (Q:Value->Shared->Prop) (E:Value->Shared->Prop),Q (.int (g i j) s.toks) { s with toks:=s.toks+1}->wpAny (model X.prog X.w) X.A (f (.int i t) (.int j u)) Q E s) :
  OpR X f (rI0 fun i j=>.int (g i j)):=by
 intro pins s σ H x y v u Q I rx ry h;obtain⟨i,j,rfl,rfl,q⟩:=h;obtain⟨t,rfl⟩:=rx;obtain⟨t',rfl⟩:=ry;exact rule i j t t' s _ _ ⟨.int (g i j),H,I.tok _,⟨_,rfl⟩,q⟩
theorem opB0{f:Value->Value->Sem Value}{g:Int->Int->Bool}
  (rule:∀(i j:Int) (t u:Tok) (s:Shared) (Q:Value->Shared->Prop) (E:Value->Shared->Prop),Q (.bool (g i j)) s->wpAny (model X.prog X.w) X.A (f (.int i t) (.int j u)) Q E s) :
  OpR X f (rI0 fun i j=>.bl (g i j)):=by
 intro pins s σ H x y v u Q I rx ry h;obtain⟨i,j,rfl,rfl,q⟩:=h;obtain⟨t,rfl⟩:=rx;obtain⟨t',rfl⟩:=ry;exact rule i j t t' s _ _ ⟨.bl (g i j),H,I,rfl,q⟩
def CDiv(i j:Int):Prop:=0 < j/\j < 1073741824
def CMul(i j:Int):Prop:=(-(2 ^ 64) < i/\i < 2 ^ 64)\/(-(2 ^ 64) < j/\j < 2 ^ 64)
theorem CMul.ok{i j:Int}(h:CMul i j):IntMulOk i j:=by
 rcases h with⟨h1,h2⟩|⟨h1,h2⟩
 ·exact .of_left (intBits_le_64 h1 h2)
 ·exact .of_right (intBits_le_64 h1 h2)
theorem op_add:OpR X (binaryOp .Add) (rI0 fun i j=>.int (i+j)):=opI0 fun _ _ _ _ _ _ _ q=>add_int q
theorem op_mul:OpR X (binaryOp .Mult) (rI CMul fun i j=>.int (i * j)):=opI fun _ _ _ _ _ _ _ hc q=>mul_int q hc.ok
theorem b2r:OpR X (binaryOp .FloorDiv) (rI CDiv fun i j=>.int (i / j)):=opI fun i j _ _ _ _ _ hc q=>by
 have h1:(0:Int) < j:=hc.1;have h2:j < 1073741824:=hc.2;exact floordiv_int (by omega) (by rw[Int.fdiv_eq_ediv_of_nonneg i (by omega)];exact q) (.inl (PyProof.noPylong_small (by omega)))
theorem a5c:OpR X (binaryOp .Mod) (rI (fun _ j=>0 < j) fun i j=>.int (i % j)):=opI fun i j _ _ _ _ _ hc q=>by
 have h1:(0:Int) < j:=hc;exact mod_int' (by omega) (by rw[Int.fmod_eq_emod_of_nonneg i (by omega)];exact q)
end
section
variable {X:Cx} {a b c:Expr} {ta tb tc:TE} {pos:Pos}
theorem c0z{pins:List (Addr×Obj)}{σ:St}{H:Hp}{s:Shared}{Q:VK}{k k':Bool}(I:Inv X pins σ H s)(q:Q (.bl k) H)(e:k=k'):EP X pins σ Q (.bool k') s:=by
 subst e;exact⟨.bl k,H,I,rfl,q⟩
theorem d0k:OpR X (compareOp .Lt) (rI0 fun i j=>.bl (decide (i < j))):=opB0 fun _ _ _ _ _ _ _ q=>lt_int q
theorem d0l:OpR X (compareOp .LtE) (rI0 fun i j=>.bl (decide (i<=j))):=opB0 fun _ _ _ _ _ _ _ q=>le_int q
theorem d8e:OpR X (compareOp .Gt) (rI0 fun i j=>.bl (decide (j < i))):=opB0 fun _ _ _ _ _ _ _ q=>gt_int q
theorem c4y:OpR X (compareOp .In) (fun x y H Q=>∃i j,x=.str i/\y=.str j/\Q (.bl (!(Builtin.Str.occurrences j i 0 j.length 1).isEmpty)) H):=by
 intro pins s σ H x y v u Q I rx ry h;obtain⟨i,j,rfl,rfl,q⟩:=h;obtain⟨t,rfl⟩:=rx;obtain⟨t',rfl⟩:=ry;exact in_str (c0z I q rfl)
theorem b7p:OpR X (compareOp .NotIn) (fun x y H Q=>∃i j,x=.str i/\y=.str j/\Q (.bl (!(!(Builtin.Str.occurrences j i 0 j.length 1).isEmpty))) H):=by
 intro pins s σ H x y v u Q I rx ry h;obtain⟨i,j,rfl,rfl,q⟩:=h;obtain⟨t,rfl⟩:=rx;obtain⟨t',rfl⟩:=ry;exact notIn_str (c0z I q rfl)
theorem OpR.or{f:Value->Value->Sem Value}{r r':R2}(h:OpR X f r)(h':OpR X f r'):OpR X f (fun x y H Q=>r x y H Q\/r' x y H Q):=by
 intro pins s σ H x y v u Q I rx ry q;rcases q with q|q
 ·exact h pins s σ H x y v u Q I rx ry q
 ·exact h' pins s σ H x y v u Q I rx ry q
theorem d3i(b:Expr){op:CmpOp}(h:op≠.In:=by decide)(h2:op≠.NotIn:=by decide):behindInMarks op b=false:=by
 have e1:(op == CmpOp.In)=false:=by cases op <;> first|rfl|exact absurd rfl h
 have e2:(op == CmpOp.NotIn)=false:=by cases op <;> first|rfl|exact absurd rfl h2
 cases b <;> simp[behindInMarks,e1,e2]
theorem d4v{op:CmpOp}{r:R2}(ho:OpR X (compareOp op) r)(ha:PE X a ta)(hb:PE X b tb)(hm:behindInMarks op b=false):PE X (.Compare a [op] [b] pos) (tOp r ta tb):=by
 intro pins s σ H Q I h;exact wpAny_Compare1 (binT ha hb I h fun v u s2 x y H2 I2 rx ry q=>ho pins s2 σ H2 x y v u Q I2 rx ry q) hm
def tTest(t:TE):TT:=fun σ H Q=>t σ H fun x H'=>∃k,x=.bl k/\Q k H'
theorem d4w{op:CmpOp}{r:R2}(ho:OpR X (compareOp op) r)(ha:PE X a ta)(hb:PE X b tb)(hm:behindInMarks op b=false):PT X (.Compare a [op] [b] pos) (tTest (tOp r ta tb)):=by
 intro pins s σ H Q I h;refine wpAny_isTrue_Compare1 (thn (ha pins s σ H _ I h) fun v s1 ⟨x,H1,I1,r1,q1⟩=>thn (hb pins s1 σ H1 _ I1 q1) fun u s2 ⟨y,H2,I2,r2,q2⟩=>
  thn (ho pins s2 σ H2 x y v u _ I2 r1 r2 q2) fun c s3 ⟨z,H3,I3,r3,k,e,q3⟩=>?_) hm
 subst e;cases r3;exact wpAny_truthy_bool ⟨H3,I3,q3⟩
def d8f(r r':R2)(ta tb tc:TE):TE:=fun σ H Q=>ta σ H fun x H1=>tb σ H1 fun y H2=>r x y H2 fun z H3=>∃k,z=.bl k/\
 (if k=true then tc σ H3 fun w' H4=>r' y w' H4 Q else Q (.bl false) H3)
theorem d0m{op op':CmpOp}{r r':R2}(ho:OpR X (compareOp op) r)(ho':OpR X (compareOp op') r')(ha:PE X a ta)(hb:PE X b tb)(hc:PE X c tc)
  (hm:lastMarks [op,op'] [b,c]=false:=by with_unfolding_all rfl):PT X (.Compare a [op,op'] [b,c] pos) (tTest (d8f r r' ta tb tc)):=by
 intro pins s σ H Q I h;refine isTrue_chain (thn (ha pins s σ H _ I h) fun v s1 ⟨x,H1,I1,r1,q1⟩=>test_link (thn (hb pins s1 σ H1 _ I1 q1) fun u s2 ⟨y,H2,I2,r2,q2⟩=>
  thn (ho pins s2 σ H2 x y v u _ I2 r1 r2 q2) fun d s3 ⟨z,H3,I3,r3,k,e,q3⟩=>?_)) hm
 subst e;cases r3;refine wpAny_truthy_bool ?_;cases k with
 |false=>
  obtain⟨k',e',q'⟩:=q3;cases e';exact ite_ff ⟨H3,I3,q'⟩
 |true=>
  refine ite_tt (test_last (thn (hc pins s3 σ H3 _ I3 q3) fun w' s4 ⟨z',H4,I4,r4,q4⟩=>thn (ho' pins s4 σ H4 y z' u w' _ I4 r2 r4 q4) fun d' s5 ⟨z2,H5,I5,r5,k2,e2,q5⟩=>?_))
  subst e2;cases r5;exact wpAny_truthy_bool ⟨H5,I5,q5⟩
def TruV(K:L2.FG)(x:V)(H:Hp)(k:Bool):Prop:=
 match x with
 |.non=>k=false
 |.bl b=>k=b
 |.int i=>k=(i != 0)
 |.str y=>y.length<=sizeLine/\k=((y.length:Int) != 0)
 |.byt y=>y.size<=sizeLine/\k=((y.size:Int) != 0)
 |.ref p=>(∃xs,SqL K H p xs/\k = !xs.isEmpty)\/(∃xs,SqT K H p xs/\k = !xs.isEmpty)\/∃kvs,H p=some (.dK kvs)/\k = !kvs.isEmpty
 |_=>False
theorem c3p{κ:Type}{kvs:List (κ×V)}{vs:List (κ×Value)}(r:KV kvs vs):(!vs.isEmpty) = !kvs.isEmpty:=by
 cases r <;> rfl
theorem b5a{xs:List V}{its:List Value}(r:Vals xs its):(!its.toArray.isEmpty) = !xs.isEmpty:=by
 cases r <;> simp
theorem b2s:(sizeLine:Nat) < 2 ^ 63:=by rw[sizeLine_eq];decide
theorem d8g:TruR X (fun x H Q=>∃k,TruV X.K x H k/\Q k H):=by
 intro pins s σ H x v Q I rx h;obtain⟨k,e,q⟩:=h;have hl:=b2s;have hs:sizeLine=16777216:=sizeLine_eq;cases x with
 |non=>
  cases rx;have e':k=false:=e;subst e';exact truthy_none ⟨H,I,q⟩
 |bl b=>
  cases rx;have e':k=b:=e;subst e';exact wpAny_truthy_bool ⟨H,I,q⟩
 |int i=>
  obtain⟨t,rfl⟩:=rx;have e':k=(i != 0):=e;subst e';exact PySem.P.truthy_int ⟨H,I,q⟩
 |str y=>
  obtain⟨t,rfl⟩:=rx;obtain⟨hy,e'⟩:y.length<=sizeLine/\k=((y.length:Int) != 0):=e;subst e';exact PySem.P.truthy_str (by omega) ⟨H,I.tok _,q⟩
 |byt y=>
  obtain⟨t,rfl⟩:=rx;obtain⟨hy,e'⟩:y.size<=sizeLine/\k=((y.size:Int) != 0):=e;subst e';exact PySem.W.truthy_bytes (by omega) ⟨H,I.tok _,q⟩
 |ref p=>
  cases rx;have e':(∃xs,SqL X.K H p xs/\k = !xs.isEmpty)\/(∃xs,SqT X.K H p xs/\k = !xs.isEmpty)\/∃kvs,H p=some (.dK kvs)/\k = !kvs.isEmpty:=e;rcases e' with⟨xs,hx,e'⟩|⟨xs,hx,e'⟩|⟨kvs,hx,e'⟩
  ·subst e';obtain⟨its,r,pl,hz⟩:=I.list hx;have hlen:=r.length;exact wpAny_truthy_list pl.isList (by simp only[List.size_toArray];omega) ⟨H,I.tok _,by rw[b5a r];exact q⟩
  ·subst e';obtain⟨its,r,pl,hz⟩:=I.tuple hx;have hlen:=r.length;exact truthy_tuple pl (by simp only[List.size_toArray];omega) ⟨H,I.tok _,by rw[b5a r];exact q⟩
  ·subst e';obtain⟨hz,hS,vs,r,m⟩:kvs.length<=sizeLine/\(p == sysModules)=false/\∃vs,KV kvs vs/\s.heap.DictOf (b9t X.prog X.w) p vs:=I.hok p _ hx;have hlen:kvs.length=vs.length:=Paired.length r;exact wpAny_truthy_dict hS m (by omega) ⟨H,I.tok _,by rw[c3p r];exact q⟩
 |_=>exact(show False from e).elim
theorem d0n(ha:PE X a ta)(he:∀whole,isTrue a X.env whole=(do let v <-whole;standAt a.pos;holding [v] (truthy v))):
  PT X a (fun σ H Q=>ta σ H fun x H'=>∃k,TruV X.K x H' k/\Q k H'):=by
 intro pins s σ H Q I h;exact isTrue_plain (thn (ha pins s σ H _ I h) fun v s1 ⟨x,H1,I1,r1,q1⟩=>d8g pins s1 σ H1 x v Q I1 r1 q1) (he _)
theorem op_add_str:OpR X (binaryOp .Add) (fun x y H Q=>∃i j,x=.str i/\y=.str j/\i.length+j.length<=sizeLine/\Q (.str (i++j)) H):=by
 intro pins s σ H x y v u Q I rx ry h;obtain⟨i,j,rfl,rfl,hz,q⟩:=h;obtain⟨t,rfl⟩:=rx;obtain⟨t',rfl⟩:=ry;exact add_str (fun t' tk=>⟨.str (i++j),H,I.tok _,⟨_,rfl⟩,q⟩) hz
theorem vals1{x:V}{us:List Value}(r:Vals [x] us):∃u,us=[u]/\RelV x u:=by
 cases r with
 |cons r1 r2=>cases r2;exact⟨_,rfl,r1⟩
theorem vals2{x y:V}{us:List Value}(r:Vals [x,y] us):∃u w',us=[u,w']/\RelV x u/\RelV y w':=by
 cases r with
 |cons r1 r2=>
  cases r2 with
  |cons r3 r4=>cases r4;exact⟨_,_,rfl,r1,r3⟩
theorem b7q:CallR X (.type "int") (fun xs H Q=>(∃i,xs=[.int i]/\Q (.int i) H)\/∃k,xs=[.bl k]/\Q (.int (if k then 1 else 0)) H):=by
 intro pins s σ H xs us Q I r h;rcases h with⟨i,rfl,q⟩|⟨k,rfl,q⟩
 ·obtain⟨u,rfl,t,rfl⟩:=vals1 r;exact call_int_int ⟨.int i,H,I,⟨_,rfl⟩,q⟩
 ·obtain⟨u,rfl,r1⟩:=vals1 r;cases r1;exact call_int_bool ⟨.int (if k then 1 else 0),H,I.tok _,⟨_,rfl⟩,q⟩
end
structure ObjM (h:Heap) (x dx C:Addr) (mA:Str->Option Value):Prop where
 obj:h.get? x=some (PySem.W.instObj C dx)
 ns:h.Ns1 dx mA
 ne:dx≠x
theorem c4z{h:Heap}{dx:Addr}{mA:Str->Option Value}(n:h.Ns1 dx mA):∃od,h.get? dx=some od/\∀name,PySem.W.lookIn name od=some (mA name):=by
 obtain⟨o,es,ep,ho,hd,hk,_,hm⟩:=n;refine⟨o,ho,fun name=>?_⟩
 have e:=hm name;unfold nsFind findBy at e;rw[<-Array.find?_toList] at e;unfold PySem.W.lookIn;rw[hd];dsimp only;split
 ·rename_i y q
  rw[q] at e;exact congrArg some e
 ·rename_i q
  rw[q] at e;have a:es.toList.any (·.refKey)=false:=by
   rw[List.any_eq_false];intro y hy;obtain⟨z,t,hkey⟩:=hk y (Array.mem_toList_iff.mp hy);simp[DictEntry.refKey,hkey]
  have a':¬es.toList.any (·.refKey)=true:=by rw[a];exact Bool.false_ne_true
  rw[if_neg a'];exact congrArg some e
section
variable {prog:Program} {w:World} {A:Around} {E:Value->Shared->Prop} {s:Shared} {K:L2.FG} {x dx C f:Addr} {mA:Str->Option Value} {name:Str} {v:Value}
end
theorem RelO.some_of{v:V}{o:Option Value}(r:RelO (some v) o):∃u,o=some u/\RelV v u:=by
 cases o with
 |none=>exact(show False from r).elim
 |some u=>exact⟨u,rfl,r⟩
section
variable {P:Program} {w:World} {H H':Hp} {h h':Heap} {a C dx:Addr} {fs fs':List (Str×V)}
end
structure Cls (K:L2.FG) (C:Addr):Prop where
 pg:PySem.W.plainGet K C Str.empty=true
 hd:PySem.W.hasDictIn K C=true
 po:PySem.W.plainOver K C=true
 sa:PySem.W.findIn K (.ref C) "__setattr__"=some (some (.builtin "object.__setattr__"))
structure Con (K:L2.FG) (C:Addr) (f:Str) (v:V) (u:Value):Prop where
 at_:PySem.W.findIn K (.ref C) f=some (some u)
 rel:RelV v u
 get:PySem.W.specialIn K u "__get__"=some none
 cp:PySem.W.copiedNames.contains f=false
structure Meth (K:L2.FG) (C:Addr) (m:Str) (f:Addr):Prop where
 at_:PySem.W.findIn K (.ref C) m=some (some (.ref f))
 fn:PySem.W.isFn K (.ref f)=true
 kp:PySem.W.keepIn K (.ref f)=true
section
variable {X:Cx} {pins:List (Addr×Obj)} {σ:St} {H:Hp} {s:Shared} {a C dx:Addr} {fs:List (Str×V)} {f:Str} {v:V} {A:Around} {E:Value->Shared->Prop}
theorem d4x{prog:Program}{w:World}{env:Env}{e:Expr}{f:Str}{pos:Pos}{s:Shared}{Q:Value->Shared->Prop}(hb:attributeBase e f env (eval e env)=eval e env)
  (h:wpAny (model prog w) A (eval e env) (fun o s₁=>wpAny (model prog w) A (getAttr o f true) Q E s₁) E s):wpAny (model prog w) A (eval (.Attribute e f pos) env) Q E s:=
 Attribute_any_ h (by rw[arm_eval_Attribute,hb])
end
section
variable {X:Cx} {o e value:Expr} {f:Str} {pos pos' tpos:Pos} {ta tv:TE}
end
section
variable {X:Cx} {pins:List (Addr×Obj)} {σ:St} {H:Hp} {s:Shared} {A:Around} {E:Value->Shared->Prop} {Q:Value->Shared->Prop} {c:Value} {b:Bool}
inductive TyOf (K:L2.FG) (H:Hp):V->Value->Prop where
 |non:TyOf K H .non (.type "NoneType")
 |bl (x:Bool):TyOf K H (.bl x) (.type "bool")
 |int (i:Int):TyOf K H (.int i) (.type "int")
 |str (x:Str):TyOf K H (.str x) (.type "str")
 |flt (x:UInt64):TyOf K H (.flt x) (.type "float")
 |lst {a:Addr} {xs:List V} (e:H a=some (.lst xs)):TyOf K H (.ref a) (.type "list")
 |frz {a:Addr} {o:Obj} {xs:List V} (e:H a=some (.frz o (.lst xs))):TyOf K H (.ref a) (.type "list")
 |tup {a:Addr} {xs:List V} (e:H a=some (.tup xs)):TyOf K H (.ref a) (.type "tuple")
 |dK {a:Addr} {kvs:List (Key×V)} (e:H a=some (.dK kvs)):TyOf K H (.ref a) (.type "dict")
 |dT {a:Addr} {kvs:List (List Key×V)} (e:H a=some (.dT kvs)):TyOf K H (.ref a) (.type "dict")
 |ins {a C dx:Addr} {fs:List (Str×V)} (e:H a=some (.ins C dx fs)) (cl:Cls K C) (ha:PySem.W.findIn K (.ref C) "__class__"=some (some (.builtin "object.__class__")))
   (hn:PySem.W.specialIn K (.builtin "object.__class__") "__get__"=some (some (.builtin "getset_descriptor.__get__"))) (htk:PySem.W.takesIn K (.builtin "object.__class__")=some true)
   (hm:PySem.W.mroIn K C (.type "object")=some true):TyOf K H (.ref a) (.ref C)
end
structure Room (k:Nat) (A:Around):Prop where
 hd:A.handled=none
 dp:A.depth+3 * k+5 < recursionLimit
 un:A.units+16 * k+200 < cLine
theorem Room.mono{j k:Nat}{A:Around}(r:Room k A)(h:j<=k):Room j A:=⟨r.hd,by have:=r.dp;omega,by have:=r.un;omega⟩
theorem Room.deeper{k:Nat}{A:Around}(r:Room (k+1) A)(env:Env):Room k (A.deeper env):=
 ⟨r.hd,by have:=r.dp;show A.depth+1+3 * k+5 < _;omega,by have:=r.un;show A.units+3+16 * k+200 < _;omega⟩
theorem c3q{A:Around}{C:Addr}{us:List Value}{kw:List (Str×Value)}:(A.under (.builtin "type.__call__" ⟨.ref C::us,kw⟩)).depth=A.depth+1:=by
 first|rfl|simp[Around.under,Code.weight,Code.isCreation,Code.isGuard,Code.isCaller,Code.frames,Code.isFrame,guardIds]
theorem c3r{A:Around}{C:Addr}{us:List Value}{kw:List (Str×Value)}:(A.under (.builtin "type.__call__" ⟨.ref C::us,kw⟩)).units=A.units+1:=by
 first|rfl|simp[Around.under,Code.cUnits,Code.frames,Code.isFrame]
theorem Room.make{k:Nat}{A:Around}(r:Room (k+1) A)(C:Addr)(us:List Value)(kw:List (Str×Value)):Room k (A.under (.builtin "type.__call__" ⟨.ref C::us,kw⟩)):=
 ⟨r.hd,by have:=r.dp;rw[c3q];omega,by have:=r.un;rw[c3r];omega⟩
theorem Room.depth{k:Nat}{A:Around}(r:Room k A):A.depth < recursionLimit:=by have:=r.dp;omega
theorem Room.units{k:Nat}{A:Around}(r:Room k A):A.units+64 < cLine:=by have:=r.un;omega
def tNil:TA:=fun _ H Q=>Q [] H
def tCons(ta:TE)(tr:TA):TA:=fun σ H Q=>ta σ H fun x H1=>tr σ H1 fun xs H2=>Q (x::xs) H2
section
variable {X:Cx} {e:Expr} {es:List Expr} {te:TE} {t:TA} {pos:Pos}
theorem pa_nil:PA X [] tNil:=fun _ _ _ _ H Q I h=>Calls.spliced_nil ⟨[],H,I,.nil,h⟩
theorem b2t(ha:PE X e te)(hr:PA X es t)(hs:starEach (e::es) X.env=(false,eval e X.env)::starEach es X.env:=by rfl):PA X (e::es) (tCons te t):=by
 intro pos pins s σ H Q I h;rw[hs];show wpAny _ _ (spliced ((false,eval e X.env)::backTo pos (starEach es X.env))) _ _ s;refine Calls.spliced_cons (thn (ha pins s σ H _ I h) fun u s1 hh=>?_)
 obtain⟨x,H1,I1,r1,q1⟩:=hh;exact thn (hr pos pins s1 σ H1 _ I1 q1) fun us s2 ⟨xs,H2,I2,r2,q2⟩=>⟨x::xs,H2,I2,.cons r1 r2,q2⟩
def tTup(t:TA):TE:=fun σ H Q=>t σ H fun xs H1=>xs.length<=sizeLine/\∀p,H1 p=none->Q (.ref p) (upd H1 p (.tup xs))
def tLst(t:TA):TE:=fun σ H Q=>t σ H fun xs H1=>xs.length<=sizeLine/\∀p,H1 p=none->Q (.ref p) (upd H1 p (.lst xs))
theorem d8h{x1}(h:PA X es t):PE X (.Tuple es x1 pos) (tTup t):=by
 intro pins s σ H Q I hq;refine wpAny_Tuple_spliced (thn (h pos pins s σ H _ I hq) fun us s1 ⟨xs,H1,I1,r,z,q⟩=>⟨by rw[<-r.length];exact z,?_⟩)
 have hf:H1 s1.heap.objs.size=none:=I1.hok.fresh (Nat.le_refl _);refine⟨.ref s1.heap.objs.size,upd H1 s1.heap.objs.size (.tup xs),I1.laid (t':=s1.toks) (fun b u e=>Heap.get?_push_of_some _ e) (Nat.le_refl _) ?_,rfl,q _ hf⟩
 exact⟨z,us,r,⟨_,Heap.get?_push_size _ rfl,rfl,_,rfl⟩⟩
theorem d8i(h:PA X es t):PE X (.List es pos) (tLst t):=by
 intro pins s σ H Q I hq;refine wpAny_List_spliced (thn (h pos pins s σ H _ I hq) fun us s1 ⟨xs,H1,I1,r,z,q⟩=>⟨by rw[<-r.length];exact z,?_⟩)
 have hf:H1 s1.heap.objs.size=none:=I1.hok.fresh (Nat.le_refl _);refine⟨.ref s1.heap.objs.size,upd H1 s1.heap.objs.size (.lst xs),I1.laid (t':=s1.toks) (fun b u e=>Heap.get?_push_of_some _ e) (Nat.le_refl _) ?_,rfl,q _ hf⟩
 exact⟨z,us,0,r,Heap.get?_push_size _ rfl⟩
end
abbrev Sp:=List V->Hp->VK->XK->Prop
abbrev CXT:=List Env->Hp->Shared->XK->Value->Shared->Prop
structure Env0 (P:Program) (w:World) (K:L2.FG) (mg:Str->Option Value) (base:Heap) (A:Around) (outer:List Env) (s:Shared) (H:Hp):Prop where
 frames:A.frames=some outer
 mod:Mod K mg base
 bs:∀b o,base.get? b=some o->s.heap.get? b=some o/\H b=none
 bsz:base.objs.size<=s.heap.objs.size
 funs:s.heap.FunFrames base outer
 frf:∀b∈frs outer,H b=none
 hok:HOk P w H s.heap
 bare:AllBare s.gens
def CE(outer:List Env)(P:Program)(w:World)(H:Hp)(s:Shared)(Q:VK)(u:Value)(s':Shared):Prop:=
 ∃v H',s'.os=s.os/\AllBare s'.gens/\Un (frs outer) [] H H' s.heap s'.heap/\HOk P w H' s'.heap/\RelV v u/\Q v H'
def CR(CX:CXT)(outer:List Env)(P:Program)(w:World)(H:Hp)(s:Shared)(Q:VK)(E:XK)(r:Result)(s':Shared):Prop:=
 match r with
 |.ok (.ret u)=>CE outer P w H s Q u s'
 |.ok _=>False
 |.error e=>CX outer H s E e s'
structure FnOk (P:Program) (w:World) (K:L2.FG) (mg:Str->Option Value) (base:Heap) (CX:CXT) (k:Nat) (f:Addr) (fd:FuncData) (ps:List Str) (sp:Sp):Prop where
 len:∀vs H Q E,sp vs H Q E->vs.length=ps.length
 run:∀(A:Around) (outer:List Env) (s:Shared) (H:Hp) (args:Args) (us:List Value) (vs:List V) (Q:VK) (E:XK),Room k A->Env0 P w K mg base A outer s H->BindsTo s fd args (ps.zip us)->Vals vs us->sp vs H Q E->
  codeAny (model P w) A (.call (.ref f) args) (CR CX outer P w H s Q E) s
theorem FnOk.imp{P:Program}{w:World}{K:L2.FG}{mg:Str->Option Value}{base:Heap}{CX:CXT}{k:Nat}{f:Addr}{fd:FuncData}{ps:List Str}{sp sp':Sp}(F:FnOk P w K mg base CX k f fd ps sp)
  (h:∀vs H Q E,sp' vs H Q E->sp vs H Q E):FnOk P w K mg base CX k f fd ps sp':=
 ⟨fun vs H Q E q=>F.len vs H Q E (h _ _ _ _ q),fun A outer s H args us vs Q E hr he hb hv hs=>F.run A outer s H args us vs Q E hr he hb hv (h _ _ _ _ hs)⟩
theorem Env0.make{P:Program}{w:World}{K:L2.FG}{mg:Str->Option Value}{base:Heap}{A:Around}{outer:List Env}{s:Shared}{H:Hp}(e:Env0 P w K mg base A outer s H)(C:Addr)(us:List Value)(kw:List (Str×Value)):
  Env0 P w K mg base (A.under (.builtin "type.__call__" ⟨.ref C::us,kw⟩)) outer s H:=⟨by first|exact e.frames|(simpa[Around.under,Code.envs,Code.isFrame,pushEnvs] using e.frames),e.mod,e.bs,e.bsz,e.funs,e.frf,e.hok,e.bare⟩
section
variable {X:Cx} {pins:List (Addr×Obj)} {σ:St} {H:Hp} {s s':Shared}
theorem Inv.env0(I:Inv X pins σ H s):Env0 X.prog X.w X.K X.mg X.base X.A X.stack s H:=
 ⟨I.ok.frames,I.ok.mod,I.bs,Nat.le_trans I.ok.bsz I.sz,I.stack,I.stkFree,I.hok,I.bare⟩
theorem Inv.after{Q:VK}{u:Value}(I:Inv X pins σ H s)(h:CE X.stack X.prog X.w H s Q u s'):EP X pins σ Q u s':=by
 obtain⟨v,H',os,bare,un,hok,r,q⟩:=h;obtain⟨hh,g,d,t,os'⟩:=s';obtain rfl:os'=s.os:=os;exact⟨v,H',I.call (h':=hh) (g':=g) (d':=d) (t':=t) (ch:=[]) un hok bare (fun b z=>absurd z (by simp)),r,q⟩
end
def tCall(sp:Sp)(dvs:List V)(E:St->XK)(t:TA):TE:=fun σ H Q=>t σ H fun vs H1=>sp (vs++dvs) H1 Q (E σ)
def Binds(K:L2.FG)(fd:FuncData)(ps:List Str)(ds:List Value):Prop:=
 ∀(s:Shared) (us:List Value),K.In s.heap->(us++ds).length=ps.length->BindsTo s fd ⟨us,[]⟩ (ps.zip (us++ds))
theorem Binds.all{K:L2.FG}{fd:FuncData}{ps:List Str}(h:∀us:List Value,us.length=ps.length->bindArgs fd ⟨us,[]⟩=pure (ps.zip us)):Binds K fd ps []:=fun s us _ hl=>by
 rw[List.append_nil] at hl ⊢;exact .of_eq (h us hl)
def c1a(CX:CXT)(X:Cx)(E:St->XK):Prop:=∀(pins:List (Addr×Obj)) (σ:St) (H:Hp) (s:Shared) (e:Value) (s':Shared),Inv X pins σ H s->CX X.stack H s (E σ) e s'->X.xe e s'
section
variable {X:Cx} {CX:CXT} {k:Nat} {f C:Addr} {fd:FuncData} {ps:List Str} {sp:Sp} {dvs:List V} {ds:List Value} {E:St->XK} {x m:Str} {p pos apos:Pos} {e o:Expr} {es:List Expr} {ta:TE} {t:TA}
theorem d8j{pins:List (Addr×Obj)}{σ:St}{H:Hp}{s:Shared}{Q:VK}{us:List Value}{vs:List V}(F:FnOk X.prog X.w X.K X.mg X.base CX k f fd ps sp)(hr:Room k X.A)(hb:Binds X.K fd ps ds)(hd:Vals dvs ds)(hx:c1a CX X E)
  (I:Inv X pins σ H s) (r:Vals vs us) (h:sp (vs++dvs) H Q (E σ)):wpAny (model X.prog X.w) X.A (call (.ref f) us) (EP X pins σ Q) X.xe s:=by
 have r2:Vals (vs++dvs) (us++ds):=r.append hd;have hl:(us++ds).length=ps.length:=by rw[<-r2.length];exact F.len _ _ _ _ h
 refine wpAny_call (codeAny_mono (F.run X.A X.stack s H ⟨us,[]⟩ (us++ds) (vs++dvs) Q (E σ) hr I.env0 (hb s us I.kIn hl) r2 h) fun r s' hq=>?_)
 cases r with
 |error e=>exact hx pins σ H s e s' I hq
 |ok fl=>
  cases fl with
  |ret u=>exact I.after hq
  |next=>exact False.elim hq
  |brk=>exact False.elim hq
  |cont=>exact False.elim hq
theorem c5a(F:FnOk X.prog X.w X.K X.mg X.base CX k f fd ps sp)(hr:Room k X.A)(hg:Gl X x)(hm:X.mg x=some (.ref f))(hk:PySem.W.keepIn X.K (.ref f)=true)(hb:Binds X.K fd ps ds)(hd:Vals dvs ds)(hx:c1a CX X E)
  (ha:PA X (e::es) t) (hdb:(x == ("__debug__":Str))=false:=by decide) (he:starEach (e::es) X.env=(false,eval e X.env)::starEach es X.env:=by rfl) (hpl:(backTo pos (starEach es X.env)).any (·.1)=false:=by rfl) :
  PE X (.Call (.Name x p) (e::es) [] pos) (tCall sp dvs E t):=by
 intro pins s σ H Q I h;refine wpAny_Call_Name_kw (b1a I hg hm ?_ hdb);refine PySem.W.callWith_K (h₀:=X.base) I.ok.mod.kin hk (thn (ha pos pins s σ H _ I h) fun us s1 ⟨vs,H1,I1,r,q⟩=>⟨I1.kIn,?_⟩) he hpl
 exact d8j F hr hb hd hx I1 r q
structure Mk (K:L2.FG) (C f:Addr):Prop where
 makes:PySem.W.makesIn K C=true
 init:PySem.W.findIn K (.ref C) "__init__"=some (some (.ref f))
 fn:PySem.W.isFn K (.ref f)=true
 kp:PySem.W.keepIn K (.ref C)=true
end
section
variable {X:Cx} {CX:CXT} {k:Nat} {f C:Addr} {fd:FuncData} {ps ks:List Str} {sp:Sp} {E:St->XK} {x m:Str} {p pos apos kpos:Pos} {e o:Expr} {es:List Expr} {kws:List Keyword} {te ta:TE} {t tk:TA} {nm:Option Str}
structure KBinds (K:L2.FG) (fd:FuncData) (ps ks:List Str) (g:List Value->List Value->List Value) (gV:List V->List V->List V):Prop where
 to:∀(s:Shared) (us ws:List Value),K.In s.heap->(g us ws).length=ps.length->BindsTo s fd ⟨us,ks.zip ws⟩ (ps.zip (g us ws))
 rel:∀{vs:List V} {us:List Value} {zs:List V} {ws:List Value},Vals vs us->Vals zs ws->Vals (gV vs zs) (g us ws)
variable {g:List Value->List Value->List Value} {gV:List V->List V->List V}
end
structure FnScope (N P:List Str) (sc:Scope):Prop where
 kind:sc.kind=.function
 co:sc.isCoroutine=false
 gen:sc.isGenerator=false
 nd:N.Nodup
 pre:N.take P.length=P
 par:∀x∈P,sc.names.lookup x=some .local \/ sc.names.lookup x=some .cell
 nofree:∀y∈sc.names,y.2≠.free
theorem b7r{kindOf:Str->Option NameKind}{x:Str}:∀{binds:List (Str×Value)} {m:Str->Option Value},(∀v,(x,v)∉binds)->bindL kindOf binds m x=m x
 |[],_,_=>rfl
 |(n,v)::r,m,h=>by
  unfold bindL;rw[b7r fun w hw=>h w (List.mem_cons_of_mem _ hw)]
  split
  ·have:x≠n:=by rintro rfl;exact h v List.mem_cons_self
   simp[this]
  ·rfl
theorem b7s{kindOf:Str->Option NameKind}{x:Str}:∀{binds:List (Str×Value)} {m:Str->Option Value},(∀v,(x,v)∉binds)->bindC kindOf binds m x=m x
 |[],_,_=>rfl
 |(n,v)::r,m,h=>by
  unfold bindC;rw[b7s fun w hw=>h w (List.mem_cons_of_mem _ hw)]
  split
  ·rfl
  ·have:x≠n:=by rintro rfl;exact h v List.mem_cons_self
   simp[this]
theorem b7t{kindOf:Str->Option NameKind}{x:Str}{v:Value}:∀{P:List Str} {vs:List Value} {i:Nat} {m:Str->Option Value},P.Nodup->P[i]?=some x->vs[i]?=some v->kindOf x=some .local ->
  bindL kindOf (P.zip vs) m x=some v
 |[],_,_,_,_,h,_,_=>by simp at h
 |_::_,[],_,_,_,_,h,_=>by simp at h
 |p::P,w::vs,0,m,nd,h1,h2,hk=>by
  simp at h1 h2;subst h1;subst h2;show bindL kindOf ((p,w)::P.zip vs) m p=_;unfold bindL;rw[b7r fun v hv=>(List.nodup_cons.mp nd).1 (List.of_mem_zip hv).1,if_pos hk]
  simp
 |p::P,w::vs,i+1,m,nd,h1,h2,hk=>by
  show bindL kindOf ((p,w)::P.zip vs) m x=_;unfold bindL;exact b7t (i:=i) (List.nodup_cons.mp nd).2 (by simpa using h1) (by simpa using h2) hk
theorem b7u{kindOf:Str->Option NameKind}{x:Str}{v:Value}:∀{P:List Str} {vs:List Value} {i:Nat} {m:Str->Option Value},P.Nodup->P[i]?=some x->vs[i]?=some v->kindOf x≠some .local ->
  bindC kindOf (P.zip vs) m x=some v
 |[],_,_,_,_,h,_,_=>by simp at h
 |_::_,[],_,_,_,_,h,_=>by simp at h
 |p::P,w::vs,0,m,nd,h1,h2,hk=>by
  simp at h1 h2;subst h1;subst h2;show bindC kindOf ((p,w)::P.zip vs) m p=_;unfold bindC;rw[b7s fun v hv=>(List.nodup_cons.mp nd).1 (List.of_mem_zip hv).1,if_neg hk]
  simp
 |p::P,w::vs,i+1,m,nd,h1,h2,hk=>by
  show bindC kindOf ((p,w)::P.zip vs) m x=_;unfold bindC;exact b7u (i:=i) (List.nodup_cons.mp nd).2 (by simpa using h1) (by simpa using h2) hk
def start(N:List Str)(vs:List V):St:=vs.map some++List.replicate (N.length - vs.length) none
def cxOf(CX:CXT)(P:Program)(w:World)(K:L2.FG)(mg:Str->Option Value)(base:Heap)(N:List Str)(qual:Str)(scope:Scope)(f:Addr)(cd:Value)(A:Around)(outer:List Env)(s:Shared)(H:Hp)(E:XK):Cx where
 prog:=P
 w:=w
 K:=K
 mg:=mg
 base:=base
 A:=A.deeper (envOfC qual scope s.heap.objs.size f cd)
 N:=N
 s₀:=s
 H₀:=H
 env:=envOfC qual scope s.heap.objs.size f cd
 outer:=outer
 stack:=envOfC qual scope s.heap.objs.size f cd::outer
 ex:=[]
 calm:=true
 fn:=fun _=>true
 pn:=[]
 xe:=fun e s'=>wpAny (model P w) (A.deeper (envOfC qual scope s.heap.objs.size f cd)) (leaving (envOfC qual scope s.heap.objs.size f cd) e) (fun _ s''=>CX outer H s E e s'') (fun e' s''=>CX outer H s E e' s'') s'
theorem c1b{sc:Scope}{n:Nat}{x:Str}(h:sc.names.lookup x=some .cell):∃c,(cellsFrom n sc.names []).lookup x=some c:=by
 have q:=PySem.W.cellsFrom_some sc.names n [] (.inl h);exact Option.isSome_iff_exists.mp q
theorem c5b{CX:CXT}{P:Program}{w:World}{K:L2.FG}{mg:Str->Option Value}{base:Heap}{N ps:List Str}{qual:Str}{scope:Scope}{f:Addr}{cd:Value}{A:Around}{outer:List Env}{s s1:Shared}{H:Hp}{E:XK}{us:List Value}{vs:List V}
  (S:FnScope N ps scope) (hd:A.handled=none) (e0:Env0 P w K mg base A outer s H) (hl:vs.length=ps.length) (r:Vals vs us)
  (x:InCallC s s.heap.objs.size (bindL (envOfC qual scope s.heap.objs.size f cd).kindOf (ps.zip us) fun _=>none) (cellsFrom (s.heap.objs.size+1) scope.names []) (bindC (envOfC qual scope s.heap.objs.size f cd).kindOf (ps.zip us) fun _=>none) s1) :
  Inv (cxOf CX P w K mg base N qual scope f cd A outer s H E) [] (start N vs) H s1:=by
 have hpl:ps.length<=N.length:=by have:=congrArg List.length S.pre;rw[List.length_take] at this;omega
 obtain⟨h1,tk,rfl,hk⟩:=x.done;have noA:∀b:Addr,b∉(cxOf CX P w K mg base N qual scope f cd A outer s H E).ex:=fun b z=>absurd (show b∈([]:List Addr) from z) (by simp)
 refine⟨⟨e0.mod,S.kind,rfl,rfl,Nat.le_refl _,fun y z c h1 h2=>?_,fun y hy=>?_,fun y c _ h=>?_,fun _=>hd,Around.frames_deeper e0.frames,.inr ⟨rfl,rfl⟩,fun b z=>absurd z (noA b),e0.bs,e0.bsz,fun b _ _=>noA b,fun b z=>absurd z (noA b),e0.funs,e0.frf⟩,
  rfl,e0.bare,Un.kept hk,⟨_,x.toInCall.ns,fun i y v h1 h2 h3=>?_⟩,fun y c h=>⟨_,x.cell y c h⟩,e0.hok.fresh (Nat.le_refl _),fun y c h=>?_,fun p hp=>absurd (show p∈([]:List (Addr×Obj)) from hp) (by simp),e0.hok.kept hk,?_⟩
 ·exact name_of_addr x.apart (PySem.mem_of_lookup h1) (PySem.mem_of_lookup h2)
 ·have hy:scope.names.lookup y=some .cell\/scope.names.lookup y=some .free:=hy;rcases hy with hy|hy
  ·exact c1b hy
  ·exact absurd rfl (S.nofree _ (PySem.mem_of_lookup hy))
 ·exact Nat.le_of_lt (x.above y c (PySem.mem_of_lookup h))
 ·have hi:i < vs.length:=by
   unfold start at h2;by_cases hi:i < vs.length
   ·exact hi
   ·rw[List.getElem?_append_right (by simpa using hi)] at h2
    rw[List.getElem?_replicate] at h2;split at h2 <;> cases h2
  have ha:vs[i]?=some v:=by
   unfold start at h2;rw[List.getElem?_append_left (by simpa using hi),List.getElem?_map] at h2
   cases e:vs[i]? with
   |none=>rw[e] at h2;cases h2
   |some a=>rw[e] at h2;cases h2;rfl
  obtain⟨u,hu,rv⟩:=r.get ha;have hp:ps[i]?=some y:=by
   rw[<-S.pre,List.getElem?_take_of_lt (by omega)];exact h1
  have ndP:ps.Nodup:=by rw[<-S.pre];exact S.nd.sublist (List.take_sublist _ _)
  refine⟨u,rv,?_⟩;rcases S.par y (List.mem_of_getElem? hp) with k|k
  ·exact .inl ⟨k,b7t ndP hp hu k⟩
  ·obtain⟨c,e⟩:=c1b (n:=s.heap.objs.size+1) k;refine .inr ⟨.inl k,c,e,?_⟩;have q:=x.cell y c e;rw[b7u ndP hp hu (by show scope.names.lookup y≠_;rw[k];decide)] at q
   exact q
 ·exact e0.hok.fresh (Nat.le_of_lt (x.above y c (PySem.mem_of_lookup h)))
 ·unfold start;show _=N.length;rw[List.length_append,List.length_map,List.length_replicate];omega
theorem d8k{CX:CXT}{P:Program}{w:World}{K:L2.FG}{mg:Str->Option Value}{base:Heap}{k:Nat}{f:Addr}{name qual:Str}{params:Arguments}{body:List Stmt}{scope:Scope}{dV kV doc pm cdv ct oc:Value}{an od:Option Addr}
  {osl:Array (Option Value)} {N ps:List Str} {sp:Sp} (lk:K.lookup f=some ⟨oc,od,.func (PySem.W.fnOf name qual params body scope dV kV doc pm an cdv ct),osl⟩) (hcd:PySem.W.codeIn K cdv qual=true) (S:FnScope N ps scope)
  (len:∀vs H Q E,sp vs H Q E->vs.length=ps.length)
  (hbody:∀(A:Around) (outer:List Env) (s:Shared) (H:Hp) (vs:List V) (Q:VK) (E:XK),Room k (A.deeper (envOfC qual scope s.heap.objs.size f cdv))->sp vs H Q E->
   ∃t,PSs (cxOf CX P w K mg base N qual scope f cdv A outer s H E) body t/\t { nx:=fun _ H'=>Q .non H',rt:=Q} (start N vs) H) :
  FnOk P w K mg base CX (k+1) f (PySem.W.fnOf name qual params body scope dV kV doc pm an cdv ct) ps sp:=by
 refine⟨len,fun A outer s H args us vs Q E hr e0 hb r hsp=>?_⟩
 have hl:=len _ _ _ _ hsp;have KX:K.In s.heap:=e0.mod.kin.keeps fun b o e=>(e0.bs b o e).1
 have lim:s.heap.NoLimit:=e0.mod.nolimit.keeps fun b o e=>(e0.bs b o e).1
 have hkind:∀y∈ps.zip us,scope.names.lookup y.1=some .local \/ (scope.names.lookup y.1=some .cell/\((cellsFrom (s.heap.objs.size+1) scope.names []).lookup y.1).isSome=true):=fun⟨n,v⟩ hy=>by
  rcases S.par n (List.of_mem_zip hy).1 with q|q
  ·exact .inl q
  ·exact .inr ⟨q,PySem.W.cellsFrom_some _ _ _ (.inl q)⟩
 refine codeAny_call_function hr.depth (KX _ _ lk) rfl S.co S.gen rfl (PySem.W.codeRec_of KX hcd) (hb _ _ _ _ ?_);refine wpAny_newFunctionEnv_cells S.kind hkind fun env he s1 x=>?_
 subst he;refine⟨lim.keeps x.toInCall.keep,codeAny_func ?_⟩;obtain⟨t,ht,hq⟩:=hbody A outer s H vs Q E (hr.deeper _) hsp;have I:Inv (cxOf CX P w K mg base N qual scope f cdv A outer s H E) [] (start N vs) H s1:=c5b S hr.hd e0 hl r x;refine wpAny_mono (ht [] s1 (start N vs) H _ I hq) (fun fl s' hs=>?_) fun e s' hs=>hs
 have fin:∀{σ':St} {H':Hp} {v:V} {u:Value},Inv (cxOf CX P w K mg base N qual scope f cdv A outer s H E) [] σ' H' s'->RelV v u->Q v H'->CE outer P w H s Q u s':=
  fun{σ' H' v u} J rv q=>⟨v,H',J.os,J.bare,J.base,J.hok,rv,q⟩
 cases fl with
 |ret u=>
  obtain⟨v,σ',H',J,rv,q⟩:=hs;exact fin J rv q
 |next=>
  obtain⟨σ',H',J,q⟩:=hs;exact fin (v:=V.non) (u:=Value.none) J rfl q
 |brk=>
  obtain⟨_,_,_,q⟩:=hs;exact False.elim q
 |cont=>
  obtain⟨_,_,_,q⟩:=hs;exact False.elim q
section
variable {X:Cx} {x:Str} {p pos:Pos} {e:Expr} {es:List Expr} {t:TA} {id T:String} {r:List V->Hp->VK->Prop}
def tCB(r:List V->Hp->VK->Prop)(t:TA):TE:=fun σ H Q=>t σ H fun vs H1=>r vs H1 Q
theorem c1c(hc:CallR X (.builtin id) r)(hg:Gl X x)(hm:X.mg x=none)(hv:bootBuiltins x=some (.builtin id))(ha:PA X (e::es) t)(hn:x≠"__name__":=by decide)(hdb:(x == ("__debug__":Str))=false:=by decide)
  (he:starEach (e::es) X.env=(false,eval e X.env)::starEach es X.env:=by rfl) (hpl:(backTo pos (starEach es X.env)).any (·.1)=false:=by rfl):PE X (.Call (.Name x p) (e::es) [] pos) (tCB r t):=by
 intro pins s σ H Q I h;refine wpAny_Call_Name_kw (b7m I hg hm hv ?_ hn hdb);exact PyProof.Rows.callWith_builtin1 (thn (ha pos pins s σ H _ I h) fun us s1 ⟨vs,H1,I1,r1,q1⟩=>hc pins s1 σ H1 vs us Q I1 r1 q1) he hpl
theorem c5c(hc:CallR X (.type T) r)(hg:Gl X x)(hm:X.mg x=none)(hv:bootBuiltins x=some (.type T))(ha:PA X (e::es) t)(hn:x≠"__name__":=by decide)(hdb:(x == ("__debug__":Str))=false:=by decide)
  (he:starEach (e::es) X.env=(false,eval e X.env)::starEach es X.env:=by rfl) (hpl:(backTo pos (starEach es X.env)).any (·.1)=false:=by rfl):PE X (.Call (.Name x p) (e::es) [] pos) (tCB r t):=by
 intro pins s σ H Q I h;refine wpAny_Call_Name_kw (b7m I hg hm hv ?_ hn hdb);exact PyProof.Rows.callWith_type1 (thn (ha pos pins s σ H _ I h) fun us s1 ⟨vs,H1,I1,r1,q1⟩=>hc pins s1 σ H1 vs us Q I1 r1 q1) he hpl
end
end L2
namespace HT
open PySem PyProof.Rows
section
open PySem.SeqAt
open PySem.AutoSeq1 (wpAny_loadPart')
open PySem.MeetsSeq PySem.MeetsSeq2 PySem.MeetsSeq3
end
variable{sl:Addr}{vl vu:Value}{lo hi:Option Int}
section
variable {prog:Program} {w:World} {A:Around} {E:Value->Shared->Prop} {s:Shared}
def sIx(n d:Nat):Option Int->Nat
 |none=>d
 |some v=>if v < 0 then(v+(n:Int)).toNat else min v.toNat n
theorem d8l(n d:Nat)(hd:d<=n)(o:Option Int):sIx n d o<=n:=by
 cases o with
 |none=>exact hd
 |some v=>
  show(if v < 0 then(v+(n:Int)).toNat else min v.toNat n)<=n
  by_cases hv:v < 0
  ·rw[if_pos hv];omega
  ·rw[if_neg hv];exact Nat.min_le_right _ _
theorem c5d(v:Int)(n d:Nat):(if v < 0 then max (v+(n:Int)) 0 else min v (n:Int))=((sIx n d (some v):Nat):Int):=by
 show(if v < 0 then max (v+(n:Int)) 0 else min v (n:Int))=(((if v < 0 then(v+(n:Int)).toNat else min v.toNat n):Nat):Int)
 by_cases hv:v < 0
 ·simp only[if_pos hv];omega
 ·simp only[if_neg hv];omega
theorem c3s(lo hi:Option Int)(n:Nat):Builtin.Slice.sliceAdjust lo hi 1 (n:Int)=(((sIx n 0 lo:Nat):Int),((sIx n n hi:Nat):Int)):=by
 have h1:¬((1:Int) < 0):=by omega
 unfold Builtin.Slice.sliceAdjust;simp only[h1,if_false];refine Prod.ext ?_ ?_
 ·cases lo with
  |none=>rfl
  |some v=>exact c5d v n 0
 ·cases hi with
  |none=>rfl
  |some v=>exact c5d v n n
theorem c3t(i j:Nat):Builtin.Slice.slicePlaces (i:Int) (j:Int) 1=j - i:=by
 unfold Builtin.Slice.slicePlaces;have h1:(1:Int) > 0:=by omega
 simp only[h1,if_true,Int.ediv_one];split <;> omega
theorem b5b{v:Value}{o:Option Int}{Q:Option Int->Shared->Prop}(p:IsPart v o)(h:Q o s):wpAny (model prog w) A (Builtin.Slice.slicePartIndex v) Q E s:=by
 cases p with
 |none=>exact slicePart_none h
 |int i t=>exact slicePart_int h
theorem b2d{n:Nat}{Q:Int×Int×Nat->Shared->Prop}(hs:s.heap.IsSliceOf sl vl vu .none)(pl:IsPart vl lo)(pu:IsPart vu hi)
  (h:Q (((sIx n 0 lo:Nat):Int),1,sIx n n hi - sIx n 0 lo) s):wpAny (model prog w) A (Builtin.Slice.sliceApplied (.ref sl) (pure (n:Int))) Q E s:=by
 obtain⟨os,hos,hcs,hds⟩:=id hs;unfold Builtin.Slice.sliceApplied Builtin.Slice.sliceFields;refine wpAny_bind (wpAny_bind (wpAny_field hos hds (x:=vl) rfl (wpAny_bind (wpAny_field hos hds (x:=vu) rfl (wpAny_bind (wpAny_field hos hds (x:=.none) rfl (wpAny_pure ?_)))))));refine wpAny_bind (slicePart_none ?_);show wpAny _ _ (if((1:Int) == 0)=true then _ else _) _ _ s
 rw[if_neg (by decide)]
 refine wpAny_bind (b5b pl (wpAny_bind (b5b pu (wpAny_bind (wpAny_pure ?_)))));show wpAny _ _ (match Builtin.Slice.sliceAdjust lo hi 1 (n:Int) with|(lo,hi)=>pure (lo,(1:Int),Builtin.Slice.slicePlaces lo hi 1)) _ _ s
 rw[c3s lo hi n];show wpAny _ _ (pure (((sIx n 0 lo:Nat):Int),(1:Int),Builtin.Slice.slicePlaces ((sIx n 0 lo:Nat):Int) ((sIx n n hi:Nat):Int) 1)) _ _ s;rw[c3t];exact wpAny_pure h
theorem d0o(xs:Array Value)(i k:Nat):((List.range k).filterMap fun(m:Nat)=>xs[((i:Int)+(m:Int) * 1).toNat]?).toArray=((xs.toList.drop i).take k).toArray:=by
 have e:(fun(m:Nat)=>xs[((i:Int)+(m:Int) * 1).toNat]?)=fun m=>xs[i+m]?:=by
  funext m;have:((i:Int)+(m:Int) * 1).toNat=i+m:=by omega
  rw[this]
 rw[e];have:=pick_run xs i k;rw[List.filterMap_map] at this;have e2:((fun x=>xs[x]?)∘fun x=>i+x)=fun m=>xs[i+m]?:=rfl
 rw[e2] at this;rw[this]
theorem getItem_tuple_cut{t:Addr}{items:Array Value}{Q:Value->Shared->Prop}(ht:IsTup s.heap t items)(hs:s.heap.IsSliceOf sl vl vu .none)(pl:IsPart vl lo)(pu:IsPart vu hi)
  (hw:¬(sIx items.size 0 lo=0/\sIx items.size items.size hi=items.size))
  (h:Q (.ref s.heap.objs.size) { s with heap:=s.heap.push { cls:=.type "tuple",data:=.seq ((items.toList.drop (sIx items.size 0 lo)).take (sIx items.size items.size hi - sIx items.size 0 lo)).toArray}})
  (hsz:items.size<=sizeLine):wpAny (model prog w) A (getItem (.ref t) (.ref sl)) Q E s:=by
 have htake:sizeOk (.seq ((items.toList.drop (sIx items.size 0 lo)).take (sIx items.size items.size hi - sIx items.size 0 lo)).toArray):=by
  show((items.toList.drop (sIx items.size 0 lo)).take (sIx items.size items.size hi - sIx items.size 0 lo)).toArray.size<=sizeLine;rw[List.size_toArray,List.length_take,List.length_drop,Array.length_toList];omega
 have hj:sIx items.size items.size hi<=items.size:=d8l _ _ (Nat.le_refl _) hi;obtain⟨os,hos,hcs,hds⟩:=id hs;have hTs:s.TypeIs (.ref sl) "slice":=⟨os,hos,hcs⟩;unfold getItem;try with_reducible refine wpAny_holding ?_
 first|refine wpAny_bind (wpAny_pure ?_)|skip
 refine wpAny_bind (wpAny_sequenceKey ht.typeIs (by decide) ?_)
 refine wpAny_bind (wpAny_callSpecial?_slot (name:=Str.ofString "__getitem__") ht.typeIs PyProof.Rows.slot_tuple_getitem
  (wpAny_call_entry PyProof.Rows.slot_tuple_getitem ht.typeIs entry_tuple_getitem ?_ (args_tuple_getitem _ _)))
 show wpAny _ _ (Builtin.Tuple.tupleItemsOf (.ref t) >>= _) _ _ s;refine wpAny_bind (tupleItemsOf_ ht ?_);refine wpAny_bind (wpAny_typeOf hTs ?_);rw[if_pos (by decide)]
 refine wpAny_bind (b2d hs pl pu ?_);have hno:¬((((sIx items.size 0 lo:Nat):Int) == 0 && (1:Int) == 1 && (sIx items.size items.size hi - sIx items.size 0 lo) == items.size)=true):=by
  intro q;rw[Bool.and_eq_true,Bool.and_eq_true] at q;have q1:((sIx items.size 0 lo:Nat):Int)=0:=eq_of_beq q.1.1;have q2:sIx items.size items.size hi - sIx items.size 0 lo=items.size:=eq_of_beq q.2;exact hw ⟨by omega,by omega⟩
 show wpAny _ _ (if(((sIx items.size 0 lo:Nat):Int) == 0 && (1:Int) == 1 && (sIx items.size items.size hi - sIx items.size 0 lo) == items.size)=true then _ else _) _ _ s
 rw[if_neg hno,d0o];first
  |exact wpAny_bind (m:=Builtin.Tuple.tupleExact _) (wpAny_newObj_type (wpAny_pure ⟨_,rfl,wpAny_pure h⟩) htake)
  |exact wpAny_bind (m:=Builtin.Tuple.tupleExact _) (wpAny_newObj_type (wpAny_bind (wpAny_pure (wpAny_pure ⟨_,rfl,wpAny_pure h⟩))) htake)
  |exact wpAny_bind (wpAny_bind (m:=Builtin.Tuple.tupleExact _) (wpAny_newObj_type (wpAny_pure (wpAny_pure ⟨_,rfl,wpAny_pure h⟩)) htake))
  |exact wpAny_bind (wpAny_bind (m:=Builtin.Tuple.tupleExact _) (wpAny_newObj_type (wpAny_pure ⟨_,rfl,wpAny_pure h⟩) htake))
end
end HT
namespace L2
open PySem PySem.Spec PyProof.Rows
variable{r:V->Option Int->Option Int->Hp->VK->Prop}{n j t':Nat}{i:Int}{pins:List (Addr×Obj)}{σ:St}{H:Hp}{s:Shared}{its its' us:List Value}{x:V}
abbrev TO:=St->Hp->(Option Int->Hp->Prop)->Prop
def PO(X:Cx)(e:Option Expr)(t:TO):Prop:=
 ∀(pins:List (Addr×Obj)) (s:Shared) (σ:St) (H:Hp) (Q:Option Int->Hp->Prop),Inv X pins σ H s->t σ H Q->
  wpAny (model X.prog X.w) X.A (evalPart e X.env) (fun u s'=>∃o H',Inv X pins σ H' s'/\IsPart u o/\Q o H') X.xe s
def d4y:TO:=fun _ H Q=>Q none H
def tPart(t:TE):TO:=fun σ H Q=>t σ H fun x H1=>∃i,x=.int i/\Q (some i) H1
section
variable {X:Cx} {e:Expr} {te:TE} {lo hi:Option Expr} {tl th:TO} {pos p2:Pos}
theorem d4z:PO X none d4y:=by
 intro pins s σ H Q I h;rw[evalPart_none];exact wpAny_pure ⟨none,H,I,.none,h⟩
theorem d5a(h:PE X e te):PO X (some e) (tPart te):=by
 intro pins s σ H Q I hw;rw[evalPart_some];refine thn (h pins s σ H _ I hw) fun u s1 hh=>?_
 obtain⟨x,H1,I1,r1,q1⟩:=hh;obtain⟨i,rfl,q⟩:=q1;obtain⟨t,rfl⟩:=r1;exact⟨some i,H1,I1,.int i t,q⟩
def SlR(X:Cx)(r:V->Option Int->Option Int->Hp->VK->Prop):Prop:=
 ∀(pins:List (Addr×Obj)) (s:Shared) (σ:St) (H:Hp) (x:V) (v vl vu:Value) (lo hi:Option Int) (sl:Addr) (Q:VK),Inv X pins σ H s->RelV x v->s.heap.IsSliceOf sl vl vu .none->IsPart vl lo->IsPart vu hi->r x lo hi H Q->
  ∃T id,typeLookup (.type T) "__getitem__"=pure (some (.builtin id))/\s.TypeIs v T/\wpAny (model X.prog X.w) X.A (getItem v (.ref sl)) (EP X pins σ Q) X.xe s
theorem SlR.or{r':V->Option Int->Option Int->Hp->VK->Prop}(h:SlR X r)(h':SlR X r'):SlR X (fun x lo hi H Q=>r x lo hi H Q\/r' x lo hi H Q):=by
 intro pins s σ H x v vl vu lo hi sl Q I rx hs pl pu q;rcases q with q|q
 ·exact h pins s σ H x v vl vu lo hi sl Q I rx hs pl pu q
 ·exact h' pins s σ H x v vl vu lo hi sl Q I rx hs pl pu q
def tSl(r:V->Option Int->Option Int->Hp->VK->Prop)(te:TE)(tl th:TO):TE:=fun σ H Q=>te σ H fun x H1=>tl σ H1 fun l H2=>th σ H2 fun u H3=>r x l u H3 Q
theorem d0p(hr:SlR X r)(he:PE X e te)(hl:PO X lo tl)(hu:PO X hi th):PE X (.Subscript e (.Slice lo hi none p2) pos) (tSl r te tl th):=by
 intro pins s σ H Q I h;refine Subscript_ (thn (he pins s σ H _ I h) fun v s1 hh=>?_)
 obtain⟨x,H1,I1,r1,q1⟩:=hh;refine wpAny_Slice (thn (hl pins s1 σ H1 _ I1 q1) fun vl s2 ⟨l,H2,I2,pl,q2⟩=>thn (hu pins s2 σ H2 _ I2 q2) fun vu s3 ⟨u,H3,I3,pu,q3⟩=>?_)
 rw[evalPart_none];refine wpAny_pure ?_;have I4:Inv X pins σ H3 { s3 with heap:=s3.heap.push { cls:=.type "slice",data:=.fields #[vl,vu,.none]}}:=I3.kept (t':=s3.toks) fun b ob q=>Heap.get?_push_of_some _ q
 obtain⟨T,id,hT,ht,hg⟩:=hr pins { s3 with heap:=s3.heap.push { cls:=.type "slice",data:=.fields #[vl,vu,.none]}} σ H3 x v vl vu l u s3.heap.objs.size Q I4 r1 (Heap.IsSliceOf.new ..) pl pu q3;show wpAny (model X.prog X.w) X.A (subscriptTail e (.Slice lo hi none p2) v (.ref s3.heap.objs.size)) (EP X pins σ Q) X.xe { s3 with heap:=s3.heap.push { cls:=.type "slice",data:=.fields #[vl,vu,.none]}};exact tail_any (ops:=[.ref s3.heap.objs.size,v]) ht hT hg (by with_unfolding_all rfl)
def cutV(xs:List V)(lo hi:Option Int):List V:=(xs.drop (HT.sIx xs.length 0 lo)).take (HT.sIx xs.length xs.length hi - HT.sIx xs.length 0 lo)
theorem b2u(xs:List V)(lo hi:Option Int):(cutV xs lo hi).length<=xs.length:=by
 unfold cutV;rw[List.length_take,List.length_drop];omega
def rSlT(K:L2.FG):V->Option Int->Option Int->Hp->VK->Prop:=fun x lo hi H Q=>∃a xs,x=.ref a/\SqT K H a xs/\
 ¬(HT.sIx xs.length 0 lo=0/\HT.sIx xs.length xs.length hi=xs.length)/\∀p,H p=none->Q (.ref p) (upd H p (.tup (cutV xs lo hi)))
theorem d8m:SlR X (rSlT X.K):=by
 intro pins s σ H x v vl vu lo hi sl Q I rx hs pl pu h;obtain⟨a,xs,rfl,hx,hw,q⟩:=h;cases rx;obtain⟨its,r,ht,hz⟩:=I.tuple hx;have hlen:its.toArray.size=xs.length:=by rw[List.size_toArray];exact r.length.symm
 refine⟨"tuple",_,PyProof.Rows.slot_tuple_getitem.lookup,ht.typeIs,?_⟩;refine HT.getItem_tuple_cut ht hs pl pu (by rw[hlen];exact hw) ?_ (by rw[hlen];exact hz)
 rw[hlen];refine⟨.ref s.heap.objs.size,_,I.laid (t':=s.toks) (o:=.tup (cutV xs lo hi)) (fun b ob q=>Heap.get?_push_of_some _ q) (Nat.le_refl _) ?_,rfl,q _ (I.hok.fresh (Nat.le_refl _))⟩
 exact⟨Nat.le_trans (b2u xs lo hi) hz,_,(r.drop (HT.sIx xs.length 0 lo)).take (HT.sIx xs.length xs.length hi - HT.sIx xs.length 0 lo),IsTup.new _ _⟩
end
def ixN(n:Nat)(i:Int):Option Nat:=if 0<=i then(if i < n then some i.toNat else none) else if -(n:Int)<=i then some (i+n).toNat else none
def atI{α:Type}(xs:List α)(i:Int):Option α:=(ixN xs.length i).bind fun j=>xs[j]?
theorem b9v(h:ixN n i=some j):seqIndex? i n=some j/\j < n /\ -(n:Int)<=i/\i < n:=by
 unfold ixN at h;by_cases h0:0<=i
 ·rw[if_pos h0] at h;by_cases h1:i < n
  ·rw[if_pos h1] at h;have e:i.toNat=j:=Option.some.inj h;exact⟨by rw[seqIndex_of h0 h1,e],by omega,by omega,h1⟩
  ·rw[if_neg h1] at h;cases h
 ·rw[if_neg h0] at h;by_cases h1:-(n:Int)<=i
  ·rw[if_pos h1] at h;have e:(i+n).toNat=j:=Option.some.inj h;exact⟨by rw[seqIndex_neg (by omega) h1,e],by omega,h1,by omega⟩
  ·rw[if_neg h1] at h;cases h
theorem b9w{α:Type}{xs:List α}{v:α}(h:atI xs i=some v):∃j,seqIndex? i xs.length=some j/\xs[j]?=some v/\j < xs.length /\ -(xs.length:Int)<=i/\i < xs.length:=by
 unfold atI at h;cases e:ixN xs.length i with
 |none=>rw[e] at h;cases h
 |some j=>
  rw[e] at h;obtain⟨h1,h2,h3,h4⟩:=b9v e;exact⟨j,h1,h,h2,h3,h4⟩
theorem a5s{α:Type}{xs:List α}{v:α}(h:xs[j]?=some v):atI xs (j:Int)=some v:=by
 have hj:j < xs.length:=(List.getElem?_eq_some_iff.mp h).1;have e:ixN xs.length (j:Int)=some j:=by
  unfold ixN;rw[if_pos (by omega),if_pos (by omega)];simp
 unfold atI;rw[e];exact h
def c5e(b:Expr):Prop:=∀o i,subscripted b false o i=operate [o,i] (getItem o i)
def IxR(X:Cx)(r:R2):Prop:=
 ∀(value slice:Expr) (pins:List (Addr×Obj)) (s:Shared) (σ:St) (H:Hp) (x y:V) (v u:Value) (Q:VK),Inv X pins σ H s->RelV x v->RelV y u->r x y H Q->
  subscripted slice false v u=operate [v,u] (getItem v u)->wpAny (model X.prog X.w) X.A (subscriptTail value slice v u) (EP X pins σ Q) X.xe s
def MtR(X:Cx)(id:String)(r:V->List V->Hp->VK->Prop):Prop:=
 ∀(pins:List (Addr×Obj)) (s:Shared) (σ:St) (H:Hp) (x:V) (xs:List V) (v:Value) (us:List Value) (Q:VK),Inv X pins σ H s->RelV x v->Vals xs us->r x xs H Q->
  wpAny (model X.prog X.w) X.A (call (.builtin id) (v::us)) (EP X pins σ Q) X.xe s
section
variable {X:Cx} {a b:Expr} {ta tb:TE} {pos:Pos}
theorem IxR.or{r r':R2}(h:IxR X r)(h':IxR X r'):IxR X (fun x y H Q=>r x y H Q\/r' x y H Q):=by
 intro value slice pins s σ H x y v u Q I rx ry q hs;rcases q with q|q
 ·exact h value slice pins s σ H x y v u Q I rx ry q hs
 ·exact h' value slice pins s σ H x y v u Q I rx ry q hs
theorem d8n{r:R2}(hr:IxR X r)(ha:PE X a ta)(hb:PE X b tb)(hs:c5e b):PE X (.Subscript a b pos) (tOp r ta tb):=by
 intro pins s σ H Q I h;exact Subscript_ (binT ha hb I h fun v u s2 x y H2 I2 rx ry q=>hr a b pins s2 σ H2 x y v u Q I2 rx ry q (hs _ _))
def rIxL(K:L2.FG):R2:=fun x y H Q=>∃p xs i v,x=.ref p/\y=.int i/\SqL K H p xs/\atI xs i=some v/\Q v H
def rIxT(K:L2.FG):R2:=fun x y H Q=>∃p xs i v,x=.ref p/\y=.int i/\SqT K H p xs/\atI xs i=some v/\Q v H
def rIxS:R2:=fun x y H Q=>∃z i c,x=.str z/\y=.int i/\z.length<=sizeLine/\atI z.cps.toList i=some c/\Q (.str ⟨#[c]⟩) H
theorem d5b:IxR X (rIxL X.K):=by
 intro value slice pins s σ H x y v u Q I rx ry h hs;obtain⟨p,xs,i,z,rfl,rfl,hq,he,q⟩:=h;cases rx;obtain⟨t,rfl⟩:=ry;obtain⟨its,r,pl,hz⟩:=I.list hq;obtain⟨j,h1,h2,h3,h4,h5⟩:=b9w he;obtain⟨w,ew,rw'⟩:=r.get h2;have hl:=r.length;have hn:=b2s;have fin:EP X pins σ Q w s:=⟨z,H,I,rw',q⟩;by_cases h0:0<=i
 ·have hj:i.toNat=j:=by
   rw[seqIndex_of h0 h5] at h1;exact Option.some.inj h1
  exact item_listR pl.isList h0 (by omega) (by rw[hj];simpa using ew) fin hs
 ·have hj:(i+(its.toArray.size:Int)).toNat=j:=by
   rw[seqIndex_neg (by omega) h4] at h1
   rw[List.size_toArray,<-hl];exact Option.some.inj h1
  exact subscriptTail_builtinR (x:=w) pl.isList.typeIs slot_list_getitem.lookup
   (wpAny_getItem_list_neg (Q:=fun r s'=>r=w/\EP X pins σ Q r s') pl.isList (by omega) (by rw[List.size_toArray] <;> omega) (by omega) (by rw[hj];simpa using ew) ⟨rfl,fin⟩) hs
theorem d8o:IxR X (rIxT X.K):=by
 intro value slice pins s σ H x y v u Q I rx ry h hs;obtain⟨p,xs,i,z,rfl,rfl,hq,he,q⟩:=h;cases rx;obtain⟨t,rfl⟩:=ry;obtain⟨its,r,pl,hz⟩:=I.tuple hq;obtain⟨j,h1,h2,h3,h4,h5⟩:=b9w he;obtain⟨w,ew,rw'⟩:=r.get h2;have hl:=r.length;have hn:=b2s;have fin:EP X pins σ Q w s:=⟨z,H,I,rw',q⟩;exact subscriptTail_builtinR (x:=w) pl.typeIs slot_tuple_getitem.lookup
  (getItem_tuple (j:=j) (Q:=fun r s'=>r=w/\EP X pins σ Q r s') pl (by omega) (by omega) (by rw[List.size_toArray,<-hl];exact h1) (by simpa using ew) ⟨rfl,fin⟩) hs
theorem ix_str:IxR X rIxS:=by
 intro value slice pins s σ H x y v u Q I rx ry h hs;obtain⟨z,i,c,rfl,rfl,hz,he,q⟩:=h;obtain⟨t,rfl⟩:=rx;obtain⟨t',rfl⟩:=ry;obtain⟨j,h1,h2,h3,h4,h5⟩:=b9w he;have hl:z.cps.toList.length=z.length:=by simp[Str.length]
 rw[hl] at h1 h4 h5;have hn:=b2s;exact tail_any (typeIs_str s z t) slot_str_getitem.lookup (getItem_str (c:=c) (by
  have e1:decide (i < -(2 ^ 63:Int))=false:=decide_eq_false (by omega)
  have e2:decide (i>=2 ^ 63)=false:=decide_eq_false (by omega)
  rw[e1,e2,Bool.or_false]) (by rw[h1];simpa using h2) ⟨.str ⟨#[c]⟩,H,I.tok _,⟨_,rfl⟩,q⟩) hs
theorem c3u(its:List Value)(n j:Nat)(u:Value):Obj.mapSeq (·.setIfInBounds j u) { cls:=.type "list",data:=.seq its.toArray n}={ cls:=.type "list",data:=.seq (its.set j u).toArray n}:=by
 simp[Obj.mapSeq]
theorem Inv.lst{pins:List (Addr×Obj)}{σ:St}{H:Hp}{s:Shared}{p:Addr}{xs:List V}(I:Inv X pins σ H s)(h:H p=some (.lst xs)):
  ∃(its:List Value) (n:Nat),Vals xs its/\s.heap.get? p=some { cls:=.type "list",data:=.seq its.toArray n}/\xs.length<=sizeLine:=by
 obtain⟨z,its,n,r,e⟩:=I.hok p _ h;exact⟨its,n,r,e,z⟩
theorem Inv.lstUpd{p:Addr}{xs ys:List V}{n':Nat}{f:Obj->Obj}(I:Inv X pins σ H s)(h:H p=some (.lst xs))
  (ho:s.heap.get? p=some { cls:=.type "list",data:=.seq its.toArray n}) (hf:f { cls:=.type "list",data:=.seq its.toArray n}={ cls:=.type "list",data:=.seq its'.toArray n'}) (r:Vals ys its') (hz:ys.length<=sizeLine) (t:Nat) :
  Inv X pins σ (upd H p (.lst ys)) { s with heap:=s.heap.update p f,toks:=t}:=by
 have e:(s.heap.update p f).get? p=some { cls:=.type "list",data:=.seq its'.toArray n'}:=by
  rw[Heap.get?_update_self f ho (by rw[hf] <;> rfl),hf]
 refine I.write (x:=p) (e:=p) (by rw[h];trivial) (.inl rfl) (fun b u hb q=>(Heap.get?_update_other _ _ (Ne.symm hb)).trans q) ⟨_,e⟩ ?_
 exact⟨hz,its',n',r,e⟩
def rSetL:V->V->V->Hp->(Hp->Prop)->Prop:=fun o i v H Q=>∃p xs k j,o=.ref p/\i=.int k/\H p=some (.lst xs)/\ixN xs.length k=some j/\Q (upd H p (.lst (xs.set j v)))
theorem d0q:PSet X rSetL:=by
 intro pins s σ H o i v ov iv u Q I ro ri rv h;obtain⟨p,xs,k,j,rfl,rfl,hp,hj,q⟩:=h;cases ro;obtain⟨t,rfl⟩:=ri;obtain⟨its,n,r,ho,hz⟩:=I.lst hp;obtain⟨h1,h2,h3,h4⟩:=b9v hj;have hl:=r.length;have hn:=b2s;have I':Inv X pins σ (upd H p (.lst (xs.set j v))) { s with heap:=s.heap.update p (Obj.mapSeq (·.setIfInBounds j u))}:=
  I.lstUpd hp ho (c3u its n j u) (r.set rv j) (by rw[List.length_set];exact hz) s.toks
 by_cases h0:0<=k
 ·have hk:k.toNat=j:=by
   rw[seqIndex_of h0 h4] at h1;exact Option.some.inj h1
  exact PySem.W.ki_setAt ho h0 (by omega) (by rw[List.size_toArray,<-hl];exact h4) (by rw[hk];exact⟨_,I',q⟩)
 ·have hk:(k+(its.toArray.size:Int)).toNat=j:=by
   rw[seqIndex_neg (by omega) h3] at h1
   rw[List.size_toArray,<-hl];exact Option.some.inj h1
  exact PySem.W.ki_setBack ho (by omega) (by rw[List.size_toArray,<-hl];exact h3) (by omega) (by rw[hk];exact⟨_,I',q⟩)
theorem b7v(lo hi:Option Int)(n:Nat):(sliceBounds lo hi none n).1=((HT.sIx n 0 lo:Nat):Int)/\(sliceBounds lo hi none n).2.1=((HT.sIx n n hi:Nat):Int)/\(sliceBounds lo hi none n).2.2=1:=by
 refine⟨?_,?_,rfl⟩
 ·cases lo with
  |none=>simp[sliceBounds,HT.sIx]
  |some i=>
   simp only[sliceBounds,HT.sIx,Option.getD_none,show(1:Int) > 0 by decide,if_true]
   by_cases h:i < 0
   ·simp only[h,if_true] <;> omega
   ·simp only[h,if_false] <;> omega
 ·cases hi with
  |none=>simp[sliceBounds,HT.sIx]
  |some i=>
   simp only[sliceBounds,HT.sIx,Option.getD_none,show(1:Int) > 0 by decide,if_true]
   by_cases h:i < 0
   ·simp only[h,if_true] <;> omega
   ·simp only[h,if_false] <;> omega
theorem b5y(its:List Value)(lo hi:Option Int):slicePick its.toArray lo hi none=((its.drop (HT.sIx its.length 0 lo)).take (HT.sIx its.length its.length hi - HT.sIx its.length 0 lo)).toArray:=by
 obtain⟨h1,h2,h3⟩:=b7v lo hi its.toArray.size;unfold slicePick;rw[h1,h2,h3];simp only[sliceRange_one,pick_run,List.size_toArray] <;> rfl
def rSlL(K:L2.FG):V->Option Int->Option Int->Hp->VK->Prop:=fun x lo hi H Q=>∃a xs,x=.ref a/\SqL K H a xs/\∀p,H p=none->Q (.ref p) (upd H p (.lst (cutV xs lo hi)))
theorem d5c:SlR X (rSlL X.K):=by
 intro pins s σ H x v vl vu lo hi sl Q I rx hs pl pu h;obtain⟨a,xs,rfl,hx,q⟩:=h;cases rx;obtain⟨its,r,ht,hz⟩:=I.list hx;have hlen:=r.length;refine⟨"list",_,slot_list_getitem.lookup,ht.isList.typeIs,?_⟩;refine wpAny_getItem_list_slice ht.isList hs pl pu .none (by simp) ?_ (by rw[List.size_toArray] <;> omega)
 rw[b5y,<-hlen];refine⟨.ref s.heap.objs.size,_,I.laid (t':=s.toks) (o:=.lst (cutV xs lo hi)) (fun b ob q=>Heap.get?_push_of_some _ q) (Nat.le_refl _) ?_,rfl,q _ (I.hok.fresh (Nat.le_refl _))⟩
 exact⟨Nat.le_trans (b2u xs lo hi) hz,_,0,(r.drop (HT.sIx xs.length 0 lo)).take (HT.sIx xs.length xs.length hi - HT.sIx xs.length 0 lo),Heap.get?_push_size _ rfl⟩
def flatV:V->Bool
 |.non=>true
 |.bl _=>true
 |.int _=>true
 |.str _=>true
 |_=>false
def eqV:V->V->Bool
 |.non,.non=>true
 |.bl a,.bl b=>a == b
 |.bl a,.int b=>(if a then 1 else 0) == b
 |.int a,.bl b=>a == (if b then 1 else 0)
 |.int a,.int b=>a == b
 |.str a,.str b=>a == b
 |_,_=>false
theorem b7w:CallR X (.builtin "len") (fun xs H Q=>∃p ys,xs=[.ref p]/\(SqL X.K H p ys\/SqT X.K H p ys)/\Q (.int ys.length) H):=by
 intro pins s σ H xs us Q I r h;obtain⟨p,ys,rfl,hq,q⟩:=h;obtain⟨u,rfl,rx⟩:=vals1 r;cases rx;have hn:=b2s;rcases hq with hq|hq
 ·obtain⟨its,r',pl,hz⟩:=I.list hq;have hlen:=r'.length;exact Calls.call_len_list pl.isList (by simp only[List.size_toArray] <;> omega) ⟨.int ys.length,H,I.tok _,⟨s.toks+1,by rw[List.size_toArray,hlen]⟩,q⟩
 ·obtain⟨its,r',pl,hz⟩:=I.tuple hq;have hlen:=r'.length;exact len_tuple pl (by simp only[List.size_toArray] <;> omega) ⟨.int ys.length,H,I.tok _,⟨s.toks+1,by rw[List.size_toArray,hlen]⟩,q⟩
theorem b7x:CallR X (.builtin "len") (fun xs H Q=>∃z,xs=[.str z]/\z.length<=sizeLine/\Q (.int z.length) H):=by
 intro pins s σ H xs us Q I r h;obtain⟨z,rfl,hz,q⟩:=h;obtain⟨u,rfl,t,rfl⟩:=vals1 r;have hn:=b2s;exact len_str (by omega) ⟨.int z.length,H,I.tok _,⟨_,rfl⟩,q⟩
theorem CallR.or{f:Value}{r r':List V->Hp->VK->Prop}(h:CallR X f r)(h':CallR X f r'):CallR X f (fun xs H Q=>r xs H Q\/r' xs H Q):=by
 intro pins s σ H xs us Q I rs q;rcases q with q|q
 ·exact h pins s σ H xs us Q I rs q
 ·exact h' pins s σ H xs us Q I rs q
def tyV(K:L2.FG)(T:String)(x:V)(H:Hp):Prop:=match x with
 |.str _=>T="str"
 |.int _=>T="int"
 |.ref p=>(T="list"/\∃xs,SqL K H p xs)\/(T="tuple"/\∃o,K.lookup p=some o/\o.cls=.type "tuple"/\o.dict=none)\/
   (T="dict"/\((∃kvs,H p=some (.dK kvs))\/(∃kvs,H p=some (.dT kvs))\/∃es ep,H p=some (.dG es ep)))\/(T="set"/\∃S n,H p=some (.set S n))
 |_=>False
theorem d8p{T:String}{v:Value}(I:Inv X pins σ H s)(r:RelV x v)(ty:tyV X.K T x H):
  s.TypeIs v T/\∀a,v=.ref a->∃ob,s.heap.get? a=some ob/\ob.dict=none:=by
 cases x with
 |str z=>
  obtain⟨t,rfl⟩:=r;cases(show T="str" from ty);exact⟨typeIs_str s z t,fun _ e=>nomatch e⟩
 |int i=>
  obtain⟨t,rfl⟩:=r;cases(show T="int" from ty);exact⟨typeIs_int s i t,fun _ e=>nomatch e⟩
 |ref p=>
  cases r;rcases ty with⟨rfl,xs,hq⟩|⟨rfl,o,hk,hc,hd⟩|⟨rfl,hk⟩|⟨rfl,S,n,hk⟩
  ·obtain⟨its,_,pl,_⟩:=I.list hq;refine⟨pl.isList.typeIs,fun a e=>?_⟩
   cases e;obtain⟨o,n,e,c,hd,_⟩:=pl;exact⟨o,e,hd⟩
  ·refine⟨⟨o,I.kIn p o hk,hc⟩,fun a e=>?_⟩
   cases e;exact⟨o,I.kIn _ o hk,hd⟩
  ·have z:∃o,s.heap.get? p=some o/\o.ExactDict:=by
    rcases hk with⟨kvs,hk⟩|⟨kvs,hk⟩|⟨es,ep,hk⟩
    ·obtain⟨_,_,_,_,o,_,_,e,ex,_⟩:=I.hok p _ hk;exact⟨o,e,ex⟩
    ·obtain⟨_,_,_,_,o,_,_,e,ex,_⟩:=I.hok p _ hk;exact⟨o,e,ex⟩
    ·obtain⟨_,_,o,_,e,ex,_⟩:=I.hok p _ hk;exact⟨o,e,ex⟩
   obtain⟨o,e,ex⟩:=z;refine⟨⟨o,e,ex.1⟩,fun a e2=>?_⟩
   cases e2;exact⟨o,e,ex.2.1⟩
  ·obtain⟨o,_,_,_,e,ex,_⟩:=I.hok p _ hk;refine⟨⟨o,e,ex.1⟩,fun a e2=>?_⟩
   cases e2;exact⟨o,e,ex.2.1⟩
 |_=>exact False.elim ty
def tBM(K:L2.FG)(T:String)(r:V->List V->Hp->VK->Prop)(to:TE)(t:TA):TE:=fun σ H Q=>to σ H fun x H1=>tyV K T x H1/\t σ H1 fun xs H2=>r x xs H2 Q
variable {o e:Expr} {es:List Expr} {to:TE} {t:TA} {name:Str} {apos cpos:Pos} {T id:String} {r:V->List V->Hp->VK->Prop}
theorem d8q(pa:PlainAttrs T)(slot:Slot T name id)(hty:typeOf (.builtin id)=pure (.type "method_descriptor"))(hm:MtR X id r)(ho:PE X o to)(ha:PA X (e::es) t)
  (hbase:attributeBase o name X.env (eval o X.env)=eval o X.env:=by rfl)
  (hfew:((backTo cpos (starEach (e::es) X.env)).all (fun x => !x.1) && (backToKw cpos (keywordEach [] X.env)).all (fun x=>x.1.isSome)
   && decide ((e::es).length+([]:List Keyword).length+(if([]:List Keyword).isEmpty then 0 else 1) < 30))=true:=by rfl)
  (hline:(apos.endLine == cpos.line)=true:=by rfl) (hs:starEach (e::es) X.env=(false,eval e X.env)::starEach es X.env:=by rfl) (hplain:(backTo cpos (starEach es X.env)).any (·.1)=false:=by rfl) :
  PE X (.Call (.Attribute o name apos) (e::es) [] cpos) (tBM X.K T r to t):=by
 intro pins s σ H Q I h;refine wpAny_Call_method_late hbase hfew hline rfl (thn (ho pins s σ H _ I h) fun v s1 hh=>?_)
 obtain⟨x,H1,I1,r1,ty,q1⟩:=hh;obtain⟨h1,h2⟩:=d8p I1 r1 ty;refine⟨T,id,pa,slot,hty,h1,h2,?_⟩;have hA:=ha cpos pins s1 σ H1 _ I1 q1;rw[hs] at hA ⊢;refine Calls.callWith_builtin (by show(false || (backTo cpos (starEach es X.env)).any (·.1))=false;rw[hplain] <;> rfl) (Calls.evalArgs_plain ?_)
 exact thn hA fun us s2 ⟨vs,H2,I2,r2,q2⟩=>hm pins s2 σ H2 x vs v us Q I2 r1 r2 q2
end
def MtM(X:Cx)(id:String)(r:V->List V->Hp->VK->Prop):Prop:=
 ∀(pins:List (Addr×Obj)) (s:Shared) (σ:St) (H:Hp) (x:V) (xs:List V) (v:Value) (us:List Value) (Q:VK),Inv X pins σ H s->RelV x v->Vals xs us->r x xs H Q->
  wpAny (model X.prog X.w) X.A (call (.builtin id) (v::us)) (EP X pins σ Q) X.xe s
theorem Vals.one(h:Vals [x] us):∃u,us=[u]/\RelV x u:=by
 cases h with
 |cons r t=>
  cases t;exact⟨_,rfl,r⟩
theorem Vals.two{y:V}(h:Vals [x,y] us):∃u v,us=[u,v]/\RelV x u/\RelV y v:=by
 cases h with
 |cons r t=>
  obtain⟨v,rfl,q⟩:=Vals.one t;exact⟨_,_,rfl,r,q⟩
section
variable {X:Cx} {pins:List (Addr×Obj)} {σ:St} {H:Hp} {s:Shared} {l b:Addr} {xs ys zs:List V}
theorem Inv.lset{f:Array Value->Array Value}(I:Inv X pins σ H s)(hH:H l=some (.lst xs))
  (e:s.heap.get? l=some { cls:=.type "list",data:=.seq its.toArray n}) (hf:f its.toArray=its'.toArray) (hv:Vals ys its') (hz:ys.length<=sizeLine) :
  Inv X pins σ (upd H l (.lst ys)) { s with heap:=s.heap.update l (Obj.mapSeq f),toks:=t'}:=by
 have q:=PySem.IsL.update e f;rw[hf] at q;refine I.write (x:=l) (e:=l) (by rw[hH];exact trivial) (.inl rfl) (fun b' u hb hu=>(Heap.get?_update_other s.heap (Obj.mapSeq f) (Ne.symm hb)).trans hu) ⟨_,q⟩ ?_
 exact⟨hz,its',_,hv,q⟩
theorem Inv.lnew(I:Inv X pins σ H s)(hv:Vals ys its)(hz:ys.length<=sizeLine):
  Inv X pins σ (upd H s.heap.objs.size (.lst ys)) { s with heap:=s.heap.push { cls:=.type "list",data:=.seq its.toArray},toks:=t'}:=
 I.laid (fun _ _ q=>Heap.get?_push_of_some _ q) (Nat.le_refl _) ⟨hz,its,0,hv,Heap.get?_push_size _ rfl⟩
theorem Inv.fresh(I:Inv X pins σ H s):H s.heap.objs.size=none:=I.hok.fresh (Nat.le_refl _)
theorem Inv.lstM(I:Inv X pins σ H s)(hH:H l=some (.lst xs)):xs.length<=sizeLine/\∃(its:List Value) (n:Nat),Vals xs its/\xs.length=its.length/\s.heap.get? l=some { cls:=.type "list",data:=.seq its.toArray n}:=by
 obtain⟨z,its,n,r,e⟩:=I.hok l _ hH;exact⟨z,its,n,r,r.length,e⟩
end
section
variable {X:Cx}
def c5f:V->List V->Hp->VK->Prop:=fun x vs H Q=>∃l xs y,x=.ref l/\vs=[y]/\H l=some (.lst xs)/\xs.length < sizeLine/\Q .non (upd H l (.lst (xs++[y])))
theorem a3m:MtM X "list.append" c5f:=by
 intro pins s σ H x vs v us Q I rx rv h;obtain⟨l,xs,y,rfl,rfl,hH,hz,q⟩:=h;cases rx;obtain⟨u,rfl,ru⟩:=rv.one;obtain⟨z,its,n,r,hl,e⟩:=I.lstM hH;refine call_meets F.slot_list_append ⟨_,e,rfl⟩ F.entry_list_append (F.args_list_append_2 _ _) (PySem.list_append l its.toArray n u (by rw[List.size_toArray];omega)) ⟨e,?_⟩
 refine⟨.non,_,I.lset (its':=its++[u]) hH e (by simp) (r.append (.cons ru .nil)) ?_,rfl,q⟩
 rw[List.length_append,List.length_singleton];omega
end
section
variable {prog:Program} {w:World} {A:Around} {E:Value->Shared->Prop} {s:Shared}
end
section
variable {X:Cx}
end
section
variable {κ:Type} [DecidableEq κ]
theorem RelO.isSome_eq{o:Option V}{u:Option Value}(r:RelO o u):o.isSome=u.isSome:=by
 cases o with
 |none=>cases u with
  |none=>rfl
  |some _=>exact(show False from r).elim
 |some _=>cases u with
  |none=>exact(show False from r).elim
  |some _=>rfl
end
section
variable {P:Program} {w:World} {H:Hp} {h:Heap} {a:Addr}
end
section
variable {X:Cx} {pins:List (Addr×Obj)} {σ:St} {H:Hp} {s:Shared} {a:Addr} {y v:V} {u r:Value} {o:Option V} {A:Around} {E:Value->Shared->Prop}
theorem Inv.big(I:Inv X pins σ H s):sysModules < s.heap.objs.size:=by
 have h:mainGlobals < s.heap.objs.size:=(I.mod.glob.keeps I.bk).lt;exact Nat.lt_trans (by decide) h
theorem c5g{h':Heap}{ob:HO}(I:Inv X pins σ H s)(mu:Mut (H a))(hs:Heap.SameBut a s.heap h')(he:∃q,h'.get? a=some q)(new:ObjOk X.prog X.w (upd H a ob) h' a ob):
  Inv X pins σ (upd H a ob) { s with heap:=h',toks:=t'}:=
 I.write (x:=a) (e:=a) mu (.inl rfl) (fun b q hb z=>(hs.2 b hb).trans z) he new
end
section
variable {X:Cx} {pins:List (Addr×Obj)} {σ:St} {H:Hp} {s:Shared} {a:Addr} {kvs:List (Key×V)} {k:Key} {u:Value} {A:Around} {E:Value->Shared->Prop}
end
section
variable {X:Cx} {o i e value:Expr} {pos pos' tpos:Pos} {td ty tv:TE}
end
section
variable {X:Cx} {pos:Pos}
end
structure M1 (X:Cx) (o:Expr) (m:Str) (apos:Pos) (e:Expr) (cpos:Pos):Prop where
 base:attributeBase o m X.env (eval o X.env)=eval o X.env
 few:((backTo cpos (starEach [e] X.env)).all (fun x => !x.1) && (backToKw cpos (keywordEach [] X.env)).all (fun x=>x.1.isSome)
  && decide (([e]:List Expr).length+([]:List Keyword).length+(if([]:List Keyword).isEmpty then 0 else 1) < 30))=true
 line:(apos.endLine == cpos.line)=true
 trees:backTo cpos (starEach [e] X.env)=[(false,eval e X.env)]
structure M2 (X:Cx) (o:Expr) (m:Str) (apos:Pos) (e f:Expr) (cpos:Pos):Prop where
 base:attributeBase o m X.env (eval o X.env)=eval o X.env
 few:((backTo cpos (starEach [e,f] X.env)).all (fun x => !x.1) && (backToKw cpos (keywordEach [] X.env)).all (fun x=>x.1.isSome)
  && decide (([e,f]:List Expr).length+([]:List Keyword).length+(if([]:List Keyword).isEmpty then 0 else 1) < 30))=true
 line:(apos.endLine == cpos.line)=true
 trees:backTo cpos (starEach [e,f] X.env)=[(false,eval e X.env),(false,eval f X.env)]
section
variable {X:Cx} {pins:List (Addr×Obj)} {σ:St} {H:Hp} {s:Shared} {a:Addr} {y d:V} {u r:Value} {o:Option V} {A:Around} {E:Value->Shared->Prop}
end
section
variable {X:Cx} {o e f:Expr} {apos cpos:Pos} {td ty tx:TE}
end
section
variable {X:Cx} {pins:List (Addr×Obj)} {σ:St} {H:Hp} {s:Shared} {a:Addr} {kvs:List (Key×V)} {A:Around} {E:Value->Shared->Prop}
end
section
variable {X:Cx} {pins:List (Addr×Obj)} {σ:St} {H:Hp} {s:Shared} {a:Addr} {y:V} {u:Value} {A:Around} {E:Value->Shared->Prop}
end
end L2
namespace Att
open PySem PySem.W PySem.Calls PyProof.Rows
variable{P:Params}{h:Heap}{l:OpenLaw}{n:Nat}
theorem b2v:∀(ns:List Int) (vs:List Value),WellAll P h vs (ns.map WData.int)->IntsAre vs ns:=by
 intro ns
 induction ns with
 |nil=>
  intro vs w;rw[List.map_nil] at w;cases w;exact .nil
 |cons n ns ih=>
  intro vs w;rw[List.map_cons] at w;cases w with
  |cons a b=>
   cases a;exact .cons _ _ (ih _ b)
theorem c5h(hn:l.most=some n){args:List WData}{vals:List Value}
  (hpre:l.row.toRowW.claim.pre args=true) (hwl:WellAll P h vals args) :
  ∃a vs ns,vals=[Value.ref a]/\args=[WData.list (ns.map WData.int)]/\h.get? a=some { cls:=.type "list",data:=.seq vs.toArray}/\IntsAre vs ns/\ns.length<=n:=by
 have hsh:WShape.hasAll [] args [.list .int]=true:=(pre_splitW hpre).1;have hc:l.pre.holds [] { args:=args}=true:=(pre_splitW hpre).2;obtain⟨d,r,rfl,h1,h2⟩:=hasAllW_cons hsh;obtain rfl:=hasAllW_nil h2;obtain⟨xs,rfl,h3⟩:=hasW_list h1;obtain⟨ns,rfl⟩:=items_int h3;have hlen:ns.length<=n:=by
  unfold OpenLaw.pre at hc;have h4:(WTm.not (.lt (.lit (.int (n:Int))) (.len (.arg 0)))).holds [] { args:=[.list (ns.map .int)]}=true:=by
   have h4:=(holds_andW hc).1;rw[hn] at h4;exact h4
  have h5:=condW_of h4 (w_not (w_lt w_lit (w_len_list (w_arg rfl))));rw[List.length_map] at h5;refine Nat.le_of_not_lt fun q=>?_
  have q':(n:Int) < ((ns.length:Nat):Int):=by omega
  first
   |(rw[decide_eq_true q'] at h5;exact absurd h5 (by decide))
   |(simp at h5;omega)
 cases hwl with
 |cons w1 w2=>
  cases w2;cases w1 with
  |list ho hall=>exact⟨_,_,ns,rfl,rfl,ho,b2v ns _ hall,hlen⟩
theorem c5i(l:OpenLaw)(args:List WData):l.row.toRowW.claim.post args (.bool true) args=true:=
 postW_of (r:=l.row.toRowW) (X:=(true == true))
  (show WShape.has [] (.bool true) .bool=true by first|rfl|decide|simp[WShape.has,WShape.arms,WShape.armsAll])
  (show(WTm.eq .res (.lit (.bool true))).value [] { args:=args,res:=some (.bool true),after:=args}=some (.bool (true == true)) from w_eq_bool (w_res rfl) w_lit) rfl
theorem attach_call{q:Program}{loose:List Str}{XP:(Str->Option Value)->Heap->Prop}{YP:World->Heap->Prop}{d:DefRec}
  (hn:l.most=some n) (hdf:d.params.defaults=[])
  (call:∀(w:World) (s₀ s₁:Shared) (mg mb:Str->Option Value) (fa:Addr) (o:Obj) (pm cd doc:Value) (a:Addr) (vs:List Value) (ns:List Int),
   Ground q loose [] XP w s₀ mg mb s₁.heap->YP w s₁.heap->
   s₁.heap.get? fa=some o->o.data=.func (docDef d.name d.params d.body d.scope pm cd doc)->s₁.heap.CodeRec cd d.name->mg d.name=some (.ref fa)->
   s₁.heap.get? a=some { cls:=.type "list",data:=.seq vs.toArray}->IntsAre vs ns->ns.length<=n->s₁.gens=#[]->
   codeAny (model l.prog w) callerA (.call (.ref fa) ⟨[.ref a],[]⟩) (fun r s'=>r=.ok (.ret (.bool true))/\OldK s₁.heap s'.heap/\s'.os=s₁.os/\AllBare s'.gens) s₁) :
  WalkO q loose XP YP l.row.toRowW d [] (fun f vs=>PySem.call f vs):=by
 intro w s₀ s₁ mg mb G Y fa o pm cd doc dV kV ho hd hcd hD hmg hg args vals as hpre hlay hrd hwl hlo;obtain rfl:dV=.none:=Dflts.none hD hdf;obtain rfl:kV=.none:=Dflts.noKw hD;obtain⟨a,vs,ns,rfl,rfl,hobj,hints,hlen⟩:=c5h hn hpre hwl;refine enter_call (codeAny_mono (call w s₀ s₁ mg mb fa o pm cd doc a vs ns G Y ho (fd_plain hd) hcd hmg hobj hints hlen hg) fun r s' hq=>?_)
 obtain⟨rfl,h2,h3,h4⟩:=hq;exact⟨.inl ⟨.bool true,.bool true,[],rfl,fun _=>rfl,.bool true,c5i l _,fun _=>⟨List.Pairwise.nil,fun _ hm=>(nomatch hm)⟩⟩,h2,h3,h4⟩
section
variable {prog:Program} {w:World} {A:Around} {E:Value->Shared->Prop} {s:Shared} {K:Frag}
end
end Att
namespace L2
open PySem PySem.Spec PyProof.Rows
variable{K:L2.FG}{k:Nat}{a f:Addr}{fd:FuncData}{x qual:Str}{sp:Sp}{st:Stmt}{ps:List Str}{H H':Hp}
theorem b7y:∀{vs:List Value} {ns:List Int},IntsAre vs ns->Vals (ns.map V.int) vs
 |_,_,.nil=>.nil
 |_,_,.cons n t h=>.cons ⟨t,rfl⟩ (b7y h)
def Only(H:Hp):Prop:=∀b,H b=none\/∃o xs,H b=some (.frz o (.lst xs))
theorem d0r{P:Program}{w:World}{mg mb:Str->Option Value}{CX:CXT}{fa:Addr}{s₁:Shared}{vs:List Value}{ns:List Int}
  (KX:K.In s₁.heap) (hns:s₁.heap.Ns mainGlobals mg) (hb:s₁.heap.Ns builtinsNs mb) (hbb:∀x:Str,x≠"__name__"->mb x=bootBuiltins x) (hlim:s₁.heap.NoLimit) (hg:s₁.gens=#[])
  (ha:s₁.heap.get? a=some { cls:=.type "list",data:=.seq vs.toArray}) (hi:IntsAre vs ns) (hl:ns.length<=sizeLine) (hr:Room k callerA)
  (F:∀base:Heap,K.In base->base.Ns mainGlobals mg->FnOk P w K mg base CX k fa fd [x] sp) (hbind:∀(s:Shared) (u:Value),BindsTo s fd ⟨[u],[]⟩ [(x,u)])
  (hsp:∀H:Hp,Only H->SqL K H a (ns.map V.int)->sp [.ref a] H (fun v _=>v=.bl true) fun _ _ _=>False)
  (hCX:∀H e s',CX [] H s₁ (fun _ _ _=>False) e s'->False) :
  codeAny (model P w) callerA (.call (.ref fa) ⟨[.ref a],[]⟩) (fun r s'=>r=.ok (.ret (.bool true))/\OldK s₁.heap s'.heap/\s'.os=s₁.os/\AllBare s'.gens) s₁:=by
 have rv:=b7y hi;have lenV:=hi.length;have core:∀H:Hp,Only H->SqL K H a (ns.map V.int)->HOk P w H s₁.heap->(∀b,H b≠none->b=a)->(H a≠none->K.lookup a=none)->
   codeAny (model P w) callerA (.call (.ref fa) ⟨[.ref a],[]⟩) (fun r s'=>r=.ok (.ret (.bool true))/\OldK s₁.heap s'.heap/\s'.os=s₁.os/\AllBare s'.gens) s₁:=by
  intro H hO hS hok hA hK;have base_of:∀{b:Addr} {o:Obj},s₁.heap.get? b=some o->H b=none->(hidT s₁.heap H).get? b=some o:=fun e n=>d0g e n
  have noA:∀{b:Addr} {o:Obj} {es:Array DictEntry} {ep:Nat},s₁.heap.get? b=some o->o.data=.dict es ep->H b=none:=fun{b o es ep} e d=>by
   cases q:H b with
   |none=>rfl
   |some u=>
    have e':b=a:=hA b (by rw[q];simp)
    subst e';rw[ha] at e;cases e;have d':Data.seq vs.toArray _=Data.dict es ep:=d;cases d'
  have nsK:∀{b:Addr} {m:Str->Option Value},s₁.heap.Ns b m->(hidT s₁.heap H).Ns b m:=fun{b m} ⟨o,es,ep,e,d,r⟩=>⟨o,es,ep,base_of e (noA e d),d,r⟩
  have hKb:K.In (hidT s₁.heap H):=fun b o e=>base_of (KX b o e) (by
   cases q:H b with
   |none=>rfl
   |some u=>
    have e':b=a:=hA b (by rw[q];simp)
    subst e';rw[hK (by rw[q];simp)] at e;cases e)
  have hM:Mod K mg (hidT s₁.heap H):=⟨hKb,nsK hns,⟨mb,nsK hb,hbb⟩,let ⟨mc,h1,h2⟩:=hlim;⟨mc,nsK h1,h2⟩⟩
  have e0:Env0 P w K mg (hidT s₁.heap H) callerA [] s₁ H:=⟨rfl,hM,fun b o e=>d4q e,Nat.le_of_eq (c4r _ _),trivial,fun b hb=>absurd (show b∈([]:List Addr) from hb) (by simp),hok,.of_eq hg⟩
  refine codeAny_mono ((F _ hKb (nsK hns)).run callerA [] s₁ H ⟨[.ref a],[]⟩ [.ref a] [.ref a] _ _ hr e0 (hbind s₁ (.ref a)) (.cons rfl .nil) (hsp H hO hS)) fun r s' h=>?_
  cases r with
  |error e=>exact(hCX H e s' h).elim
  |ok fl=>
   cases fl with
   |next=>exact False.elim h
   |brk=>exact False.elim h
   |cont=>exact False.elim h
   |ret u=>
    obtain⟨v,H',os,bare,un,hok',r',q⟩:=h;have q':v=.bl true:=q;subst q';obtain rfl:u=Value.bool true:=r';refine⟨rfl,OldK.of_keep fun b o e=>?_,os,bare⟩
    cases q:H b with
    |none=>exact un.keep b o e q (by intro z;exact absurd (show b∈([]:List Addr) from z) (by simp)) (by simp)
    |some u=>
     rcases hO b with z|⟨ob,xs,z⟩
     ·rw[q] at z;cases z
     ·have z2:=un.frzs b ob _ z;obtain⟨e1,_⟩:=hok b _ z;obtain⟨e2,_⟩:=hok' b _ z2;rw[e] at e1;cases e1;exact e2
 cases hk:K.lookup a with
 |some o=>
  have e:=KX a o hk;rw[ha] at e;cases e;refine core (fun _=>none) (fun _=>.inl rfl) (.inr ⟨_,vs.toArray,_,hk,rfl,rfl,rfl,by rw[List.size_toArray,lenV];exact hl,by simpa using rv⟩) (fun b u z=>by have z':(none:Option HO)=some u:=z;cases z') (fun b z=>absurd rfl z) fun z=>absurd rfl z
 |none=>
  refine core (fun b=>if b=a then some (.frz { cls:=.type "list",data:=.seq vs.toArray} (.lst (ns.map V.int))) else none) (fun b=>?_) (.inl (.inr ⟨{ cls:=.type "list",data:=.seq vs.toArray},if_pos rfl⟩)) (fun b u z=>?_) (fun b z=>?_) fun _=>hk
  ·by_cases hb:b=a
   ·exact .inr ⟨_,_,if_pos hb⟩
   ·exact .inl (if_neg hb)
  ·by_cases hb:b=a
   ·have z':=(if_pos hb).symm.trans z;cases z';subst hb;exact⟨ha,by rw[List.length_map];exact hl,vs,_,rv,ha⟩
   ·have z':=(if_neg hb).symm.trans z;cases z'
  ·by_cases hb:b=a
   ·exact hb
   ·exact absurd (if_neg hb) z
theorem walk_of{l:PySem.W.OpenLaw}{n:Nat}{q:Program}{loose:List Str}{XP:(Str->Option Value)->Heap->Prop}{YP:World->Heap->Prop}{d:DefRec}{K:Params->L2.FG}{CX:World->CXT}{sp:World->Sp}
  (hn:l.most=some n) (hn2:n<=sizeLine) (hdf:d.params.defaults=[]) (hr:Room k callerA)
  (hY:∀(w:World) (h:Heap),YP w h->(K w.params).In h)
  (F:∀(w:World) (mg:Str->Option Value) (fa:Addr) (h:Heap),(K w.params).In h->h.Ns mainGlobals mg->mg d.name=some (.ref fa)->
   ∃fd:FuncData,(∀(s:Shared) (u:Value),BindsTo s fd ⟨[u],[]⟩ [(x,u)])/\
    ∀base:Heap,(K w.params).In base->base.Ns mainGlobals mg->FnOk l.prog w (K w.params) mg base (CX w) k fa fd [x] (sp w))
  (hsp:∀(w:World) (H:Hp) (a:Addr) (ns:List Int),ns.length<=n->Only H->SqL (K w.params) H a (ns.map V.int)->sp w [.ref a] H (fun v _=>v=.bl true) fun _ _ _=>False)
  (hCX:∀(w:World) (H:Hp) (s:Shared) (e:Value) (s':Shared),CX w [] H s (fun _ _ _=>False) e s'->False) :
  PySem.W.WalkO q loose XP YP l.row.toRowW d [] (fun f vs=>PySem.call f vs):=by
 refine Att.attach_call hn hdf fun w s₀ s₁ mg mb fa o pm cd doc a vs ns G Y ho hd hcd hmg hobj hints hlen hg=>?_
 have KX:=hY w _ Y;obtain⟨fd,hb,hF⟩:=F w mg fa _ KX G.T.g hmg;exact d0r KX G.T.g G.T.b G.T.builtins G.T.nolimit hg hobj hints (Nat.le_trans hlen hn2) hr hF hb (fun H hO hS=>hsp w H a ns hlen hO hS) fun H e s'=>hCX w H s₁ e s'
def d5d(s:Stmt)(j:Nat):Stmt:=match s with
 |.ClassDef _ _ _ body _ _ _ _ _ _ _=>body.getD j (.Pass ⟨0,0,0,0⟩)
 |_=>.Pass ⟨0,0,0,0⟩
def b5z(s:Stmt):Arguments:=match s with
 |.FunctionDef _ a _ _ _ _ _ _ _ _=>a
 |_=>{ posonlyargs:=[],args:=[],vararg:=none,kwonlyargs:=[],kw_defaults:=[],kwarg:=none,defaults:=[]}
def a7b(s:Stmt):List Stmt:=match s with
 |.FunctionDef _ _ b _ _ _ _ _ _ _=>b
 |_=>[]
def a0s(s:Stmt):Scope:=match s with
 |.FunctionDef _ _ _ _ _ _ sc _ _ _=>sc
 |_=>{ kind:=.function,names:=[],isGenerator:=false,isCoroutine:=false}
abbrev CX0:CXT:=fun _ _ _ _ _ _=>False
abbrev E0:XK:=fun _ _ _=>False
abbrev E1:St->XK:=fun _=>E0
theorem pass0{X:Cx}:c1a CX0 X E1:=fun _ _ _ _ _ _ _ h=>h.elim
structure Fun (K:L2.FG) (x qual:Str) (st:Stmt) (f:Addr) (fd:FuncData):Prop where
 ex:∃(oc:Value) (od:Option Addr) (kV doc pm:Value) (an:Option Addr) (cdv ct:Value) (osl:Array (Option Value)),
  fd=PySem.W.fnOf x qual (b5z st) (a7b st) (a0s st) .none kV doc pm an cdv ct/\K.lookup f=some ⟨oc,od,.func fd,osl⟩/\PySem.W.codeIn K cdv qual=true
 kp:PySem.W.keepIn K (.ref f)=true
section
variable {P:Program} {w:World} {K:L2.FG} {mg:Str->Option Value} {base:Heap}
theorem Fun.ok{N:List Str}(F:Fun K x qual st f fd)(S:FnScope N ps (a0s st))(len:∀vs H Q E,sp vs H Q E->vs.length=ps.length)
  (hbody:∀(cdv:Value) (A:Around) (outer:List Env) (s:Shared) (H:Hp) (vs:List V) (Q:VK) (E:XK),Room k (A.deeper (envOfC qual (a0s st) s.heap.objs.size f cdv))->sp vs H Q E->
   ∃t,PSs (cxOf CX0 P w K mg base N qual (a0s st) f cdv A outer s H E).nox (a7b st) t/\t { nx:=fun _ H'=>Q .non H',rt:=Q} (start N vs) H):FnOk P w K mg base CX0 (k+1) f fd ps sp:=by
 obtain⟨oc,od,kV,doc,pm,an,cdv,ct,osl,rfl,lk,hcd⟩:=F.ex;refine d8k lk hcd S len fun A outer s H vs Q E hr hsp=>?_
 obtain⟨t,h,q⟩:=hbody cdv A outer s H vs Q E hr hsp;exact⟨t,h.nox,q⟩
theorem Fun.binds(F:Fun K x qual st f fd)
  (h:∀(kV doc pm:Value) (an:Option Addr) (cdv ct:Value) (us:List Value),us.length=ps.length->bindArgs (PySem.W.fnOf x qual (b5z st) (a7b st) (a0s st) .none kV doc pm an cdv ct) ⟨us,[]⟩=pure (ps.zip us)):Binds K fd ps []:=by
 obtain⟨oc,od,kV,doc,pm,an,cdv,ct,osl,rfl,lk,hcd⟩:=F.ex;exact .all (h kV doc pm an cdv ct)
theorem fun_mk{oc:Value}{od an:Option Addr}{osl:Array (Option Value)}{kV doc pm cdv ct:Value}(l:K.lookup f=some ⟨oc,od,.func (PySem.W.fnOf x qual (b5z st) (a7b st) (a0s st) .none kV doc pm an cdv ct),osl⟩)
  (c:PySem.W.codeIn K cdv qual=true) (k:PySem.W.keepIn K (.ref f)=true):Fun K x qual st f (PySem.W.fnOf x qual (b5z st) (a7b st) (a0s st) .none kV doc pm an cdv ct):=⟨⟨oc,od,kV,doc,pm,an,cdv,ct,osl,rfl,l,c⟩,k⟩
end
theorem hu_of{A:Around}(hr:Room k A):A.units+1 < cLine:=Nat.lt_of_le_of_lt (Nat.add_le_add_left (by decide:1<=64) _) hr.units
section
variable {X:Cx}
theorem pv(i:Nat){pos:Pos}(hN:X.N[i]?=some x:=by rfl)(hv:Vis X.env.scope x:=by first|exact Or.inl rfl|exact Or.inr (Or.inl rfl)|exact Or.inr (Or.inr rfl))(hd:(x == ("__debug__":Str))=false:=by decide)
  (hcd:(x == ("__classdict__":Str))=false:=by decide):PE X (.Name x pos) (tVar i):=d7w hN hv hd hcd
end
theorem iteF{A B:Prop}(h:B):if false=true then A else B:=by
 rw[if_neg Bool.false_ne_true];exact h
theorem iteT{A B:Prop}(h:A):if true=true then A else B:=by
 rw[if_pos rfl];exact h
def Same(H H':Hp):Prop:=∀b o,H b=some o->H' b=some o
theorem Same.refl(H:Hp):Same H H:=fun _ _ h=>h
theorem Same.trans{H1 H2:Hp}(a:Same H H1)(b:Same H1 H2):Same H H2:=fun c o h=>b c o (a c o h)
theorem Same.free(e:Same H H'){l:Addr}(h:H' l=Option.none):H l=Option.none:=by
 cases q:H l with
 |none=>rfl
 |some o=>
  rw[e l o q] at h;cases h
theorem Same.seq{xs:List V}(e:Same H H')(h:SqL K H a xs):SqL K H' a xs:=by
 rcases h with(h|⟨o,h⟩)|h
 ·exact .inl (.inl (e _ _ h))
 ·exact .inl (.inr ⟨o,e _ _ h⟩)
 ·exact .inr h
section
variable {κ:Type} [DecidableEq κ]
end
end L2
set_option maxHeartbeats 4000000
namespace L2
open PySem PySem.Spec PyProof.Rows
variable{env:Env}{names:List (Str×NameKind)}{x:Str}{c a:Addr}{scope:Scope}{X:Cx}{prog:Program}{A:Around}{s:Shared}{pos:Pos}{H:Hp}{fp:List Addr}{wi:TI}{K:L2.FG}{tg l:Expr}{tl te:TE}{g:TG}{tt:TT}{τ:St}{n k:Nat}
def clOf(env:Env)(names:List (Str×NameKind)):List (Str×Addr):=((names.filter fun y=>y.2 == .free).reverse).map fun y=>(y.1,(env.cells.lookup y.1).getD 0)
theorem b2w{g:Str->Addr}{x:Str}:∀{l:List (Str×NameKind)},(∃k,(x,k)∈l)->(l.map fun y=>(y.1,g y.1)).lookup x=some (g x)
 |[],h=>by obtain⟨k,h⟩:=h;cases h
 |(n,k)::r,h=>by
  show List.lookup x ((n,g n)::_)=_;cases hx:x == n with
  |true=>
   have e:x=n:=by simpa using hx
   subst e;simp[List.lookup_cons]
  |false=>
   simp only[List.lookup_cons,hx];refine b2w (l:=r) ?_;obtain⟨k',h⟩:=h;rcases List.mem_cons.mp h with e|e
   ·cases e;simp at hx
   ·exact⟨k',e⟩
theorem a8t{g:Str->Addr}{x:Str}{c:Addr}:∀{l:List (Str×NameKind)},(l.map fun y=>(y.1,g y.1)).lookup x=some c->c=g x/\∃k,(x,k)∈l
 |[],h=>by cases h
 |(n,k)::r,h=>by
  have h:List.lookup x ((n,g n)::(r.map fun y=>(y.1,g y.1)))=some c:=h
  cases hx:x == n with
  |true=>
   have e:x=n:=by simpa using hx
   subst e;simp only[List.lookup_cons,hx] at h;exact⟨(Option.some.inj h).symm,k,List.mem_cons_self⟩
  |false=>
   simp only[List.lookup_cons,hx] at h;obtain⟨e,k',hk⟩:=a8t h;exact⟨e,k',List.mem_cons_of_mem _ hk⟩
theorem c1d(h:(x,NameKind.free)∈names)(hc:env.cells.lookup x=some c):(clOf env names).lookup x=some c:=by
 have:=b2w (g:=fun n=>(env.cells.lookup n).getD 0) (x:=x) (l:=(names.filter fun y=>y.2 == .free).reverse) ⟨.free,by simp[h]⟩
 unfold clOf;rw[this,hc];rfl
theorem b9x(hf:∀y∈names,y.2=.free->∃c,env.cells.lookup y.1=some c)(h:(clOf env names).lookup x=some c):env.cells.lookup x=some c:=by
 obtain⟨e,k,hk⟩:=a8t (g:=fun n=>(env.cells.lookup n).getD 0) h
 have hk':=List.mem_filter.mp (List.mem_reverse.mp hk);obtain⟨c',hc'⟩:=hf _ hk'.1 (by simpa using hk'.2)
 have hc'':env.cells.lookup x=some c':=hc';rw[e,hc''];rfl
theorem b1c{env:Env}:∀(names:List (Str×NameKind)) (cs:List (Str×Addr)),(∀y∈names,y.2=.free->∃c,env.cells.lookup y.1=some c)->
  (forIn names cs (fun(x:Str×NameKind) (r:List (Str×Addr))=>if(x.2 == NameKind.free)=true then(do let a <-cellOf env x.1;pure (ForInStep.yield ((x.1,a)::r))) else(pure (ForInStep.yield r):Sem (ForInStep (List (Str×Addr)))))) =
   pure (clOf env names++cs)
 |[],cs,_=>by rw[List.forIn_nil];rfl
 |(n,k)::r,cs,h=>by
  rw[List.forIn_cons];cases hk:k == NameKind.free with
  |true=>
   obtain⟨c,hc⟩:=h (n,k) List.mem_cons_self (by simpa using hk)
   have hc':env.cells.lookup n=some c:=hc;have e:cellOf env n=pure c:=by unfold cellOf;rw[hc']
   simp only[hk,if_true,e,pure_bind];rw[b1c r _ fun y hy=>h y (List.mem_cons_of_mem _ hy)]
   congr 1
   unfold clOf;rw[List.filter_cons];simp[hk,hc']
  |false=>
   simp only[hk,Bool.false_eq_true,if_false,pure_bind];rw[b1c r _ fun y hy=>h y (List.mem_cons_of_mem _ hy)]
   congr 1
   unfold clOf;rw[List.filter_cons];simp[hk]
theorem a8b(h:∀y∈scope.names,y.2=.free->∃c,env.cells.lookup y.1=some c):closureFor scope env=pure (clOf env scope.names):=by
 have:=b1c (env:=env) scope.names [] h;rw[List.append_nil] at this;unfold closureFor;show(forIn scope.names [] _ >>= fun r=>pure r)=_
 rw[bind_pure];exact this
theorem b1s{env:Env}:∀{names:List (Str×NameKind)} {x:Str},names.lookup x=some .free->
  (names.map fun(n,k)=>if(k == NameKind.free && env.scope.kind == .function && env.kindOf n == some .cell) then(n,NameKind.cell) else(n,k)).lookup x=some .cell\/
  (names.map fun(n,k)=>if(k == NameKind.free && env.scope.kind == .function && env.kindOf n == some .cell) then(n,NameKind.cell) else(n,k)).lookup x=some .free
 |[],_,h=>by simp at h
 |(n,k)::r,x,h=>by
  have ih:=@b1s env r x;show List.lookup x ((if(k == NameKind.free && env.scope.kind == .function && env.kindOf n == some .cell)=true then(n,NameKind.cell) else(n,k))::_)=_\/List.lookup x ((if(k == NameKind.free && env.scope.kind == .function && env.kindOf n == some .cell)=true then(n,NameKind.cell) else(n,k))::_)=_
  cases hx:x == n with
  |true=>
   simp only[List.lookup_cons,hx] at h;cases h;by_cases hc:(NameKind.free == NameKind.free && env.scope.kind == .function && env.kindOf n == some .cell)=true
   ·rw[if_pos hc];simp[List.lookup_cons,hx]
   ·rw[if_neg hc];simp[List.lookup_cons,hx]
  |false=>
   simp only[List.lookup_cons,hx] at h;by_cases hc:(k == NameKind.free && env.scope.kind == .function && env.kindOf n == some .cell)=true
   ·rw[if_pos hc];simp only[List.lookup_cons,hx];exact ih h
   ·rw[if_neg hc];simp only[List.lookup_cons,hx];exact ih h
theorem b1d{env:Env}:∀{names:List (Str×NameKind)} {x:Str} {q:NameKind},(q=.cell\/q=.free)->(∀y∈names,y.2≠.cell)->
  (names.map fun(n,k)=>if(k == NameKind.free && env.scope.kind == .function && env.kindOf n == some .cell) then(n,NameKind.cell) else(n,k)).lookup x=some q->(x,NameKind.free)∈names
 |[],_,_,_,_,h=>by simp at h
 |(n,k)::r,x,q,hq,hn,h=>by
  have ih:=@b1d env r x q hq fun y hy=>hn y (List.mem_cons_of_mem _ hy)
  have hk:k≠.cell:=hn (n,k) List.mem_cons_self;have h:List.lookup x ((if(k == NameKind.free && env.scope.kind == .function && env.kindOf n == some .cell)=true then(n,NameKind.cell) else(n,k))::_)=some q:=h
  cases hx:x == n with
  |true=>
   have e:x=n:=by simpa using hx
   subst e;by_cases hc:(k == NameKind.free && env.scope.kind == .function && env.kindOf x == some .cell)=true
   ·have hf:k=.free:=by
     simp only[Bool.and_eq_true,beq_iff_eq] at hc;exact hc.1.1
    subst hf;exact List.mem_cons_self
   ·rw[if_neg hc] at h;simp only[List.lookup_cons,hx] at h;have e:k=q:=Option.some.inj h;rcases hq with rfl|rfl
    ·exact absurd e hk
    ·rw[e];exact List.mem_cons_self
  |false=>
   by_cases hc:(k == NameKind.free && env.scope.kind == .function && env.kindOf n == some .cell)=true
   ·rw[if_pos hc] at h;simp only[List.lookup_cons,hx] at h;exact List.mem_cons_of_mem _ (ih h)
   ·rw[if_neg hc] at h;simp only[List.lookup_cons,hx] at h;exact List.mem_cons_of_mem _ (ih h)
def a2z(X:Cx)(scope:Scope)(M:List Str)(C:Addr)(s:Shared)(H:Hp)(fp:List Addr):Cx:=
 {X with N:=M,s₀:=s,H₀:=H,env:=compEnvC scope (clOf X.env scope.names) C X.env,outer:=X.stack,ex:=fp,fn:=fun _=>false,pn:=[],xe:=fun _ _=>False}
def capS(k:Nat)(cap:List Nat)(σ:St):St:=List.replicate k none++cap.map fun i=>(σ[i]?).join
def PTs(X:Cx)(ifs:List Expr)(t:TT):Prop:=
 ∀(pins:List (Addr×Obj)) (s:Shared) (σ:St) (H:Hp) (Q:Bool->Hp->Prop),Inv X pins σ H s->t σ H Q->
  wpAny (model X.prog X.w) X.A (forIn ifs true fun c r=>if r=true then do let ok <-isTrue c X.env (eval c X.env);pure (ForInStep.yield ok) else pure (ForInStep.yield r)) (TP X pins σ Q) X.xe s
def tYes:TT:=fun _ H Q=>Q true H
theorem pts_nil:PTs X [] tYes:=fun _ _ σ H _ I h=>wpAny_tests_nil ⟨H,I,h⟩
theorem b9y{c:Expr}{t:TT}(hc:PT X c t):PTs X [c] t:=fun pins s σ H Q I h=>wpAny_tests_one (hc pins s σ H Q I h)
theorem a9a{w:World}{R:Result->Shared->Prop}{elt target iter:Expr}{ifs:List Expr}{it acc:Value}(I:Nat->Shared->Prop)
  (turn:∀n s,I n s->wpAny (model prog w) A (pyNext it) (fun r s₁=>match r with
   |none=>R (.ok .next) s₁
   |some v=>wpAny (model prog w) A (letOwnedTupleGo target it v) (fun _ s₀=>wpAny (model prog w) A (assign target env v) (fun _ s₂=>
     wpAny (model prog w) A (forIn ifs true fun c r=>if r=true then do let ok <-isTrue c env (eval c env);pure (ForInStep.yield ok) else pure (ForInStep.yield r)) (fun ok s₃=>
      if ok=true then wpAny (model prog w) A (eval elt env) (fun x s₄=>
       wpAny (model prog w) A (call (.builtin "list.append") [acc,x]) (fun _ s₅=>∃m,m < n/\I m s₅) (fun _ _=>False) s₄) (fun _ _=>False) s₃
      else ∃m,m < n/\I m s₃) (fun _ _=>False) s₂) (fun _ _=>False) s₀) (fun _ _=>False) s₁) (fun _ _=>False) s)
  (n:Nat) (h:I n s) :
  codeAny (model prog w) A (.compLoop (.ListComp elt [⟨target,iter,ifs,0⟩] scope pos) 0 it acc env) R s:=by
 refine codeAny_loop rfl I (fun n s hI=>?_) n h
 show wpAny _ A ((compTurn (.ListComp elt [⟨target,iter,ifs,0⟩] scope pos) 0 it acc env).onRaise (fun x=>do noteFrame x env;theTreesLotGoes x)) _ _ s
 refine wpAny_noted ?_;rw[compTurn_list];refine wpAny_bind (wpAny_standAt (wpAny_bind (wpAny_mono (turn n s hI) (fun r s₁ h₁=>?_) fun _ _ h'=>h'.elim)))
 cases r with
 |none=>exact wpAny_pure h₁
 |some v=>
  refine wpAny_bind (wpAny_mono h₁ (fun _ s₀ h₀=>?_) fun _ _ h'=>h'.elim)
  refine wpAny_bind (wpAny_mono h₀ (fun _ s₂ h₂=>wpAny_bind (wpAny_mono h₂ (fun ok s₃ h₃=>?_) fun _ _ h'=>h'.elim)) fun _ _ h'=>h'.elim)
  cases ok with
  |false=>exact wpAny_pure ⟨rfl,h₃⟩
  |true=>
   exact wpAny_bind (wpAny_bind (wpAny_mono h₃ (fun x s₄ h₄=>wpAny_bind (wpAny_mono h₄ (fun _ s₅ h₅=>wpAny_pure (wpAny_pure ⟨rfl,h₅⟩)) fun _ _ h'=>h'.elim)) fun _ _ h'=>h'.elim))
theorem Inv.track{pins:List (Addr×Obj)}{σ:St}{o:HO}(I:Inv X pins σ H s)(hn:H a=none)(hy:X.s₀.heap.objs.size<=a)(hL:a≠X.env.locals)(hC:∀x c,X.env.cells.lookup x=some c->c≠a)
  (hP:∀p∈X.pn++pins,p.1≠a) (new:ObjOk X.prog X.w (upd H a o) s.heap a o):Inv X pins σ (upd H a o) s:=by
 refine⟨I.ok,I.os,I.bare,⟨I.base.keep,I.base.slot,fun b ob e n hx=>?_,I.base.there,fun b xs e=>?_,fun b ob u e=>?_,fun b ps e=>?_⟩,I.loc,I.cell,?_,fun x c e=>?_,fun p hp=>?_,fun b u e=>?_,I.len⟩
 ·rw[a0v (Nat.ne_of_lt (Nat.lt_of_lt_of_le (Heap.lt_size e) hy))];exact I.base.free b ob e n hx
 ·have z:=I.base.tups b xs e;rw[a0v (a1t z hn)];exact z
 ·have z:=I.base.frzs b ob u e;rw[a0v (a1t z hn)];exact z
 ·obtain⟨m,z⟩:=I.base.tbls b ps e;exact⟨m,by rw[a0v (a1t z hn)];exact z⟩
 ·rw[a0v (Ne.symm hL)];exact I.free
 ·rw[a0v (hC x c e)];exact I.freeC x c e
 ·obtain⟨e,n,r⟩:=I.pin p hp;exact⟨e,by rw[a0v (hP p hp)];exact n,r⟩
 ·by_cases hb:b=a
  ·subst hb;rw[a1l] at e;cases e;exact new
  ·rw[a0v hb] at e;exact(I.hok b u e).stay (fun c v _ q=>q) (fun c q=>by rw[a0v (a1t q hn)];exact q) fun c xs q=>by rw[a0v (a1t q hn)];exact q
def CompW(J:It)(g:TG)(tt:TT)(te:TE)(τ₀:St)(H1:Hp)(Fin:List V->Hp->Prop):Prop:=
 ∃(n:Nat) (W:Nat->St->List V->Hp->Prop),W 0 τ₀ [] H1/\∀i τ acc H,i<=n->W i τ acc H->
  (J.stop i H/\Fin acc H)\/(i < n/\J.go i H/\∀x H',J.yld i H x H'->g x τ H' fun τ2 H2=>tt τ2 H2 fun b H3=>if b=true then te τ2 H3 fun v H4=>acc.length < sizeLine/\W (i+1) τ2 (acc++[v]) H4 else W (i+1) τ2 acc H3)
structure CompOk (X:Cx) (scope:Scope) (M:List Str) (k:Nat) (cap:List Nat):Prop where
 kind:scope.kind=.function
 cell:∀y∈scope.names,y.2≠.cell
 free:∀y∈scope.names,y.2=.free->X.env.kindOf y.1=some .cell\/X.env.kindOf y.1=some .free
 names:∀y∈scope.names,y.2=.local -> scope.names.lookup y.1=some .local
 len:M.length=k+cap.length
 caps:∀(j i:Nat) (x:Str),cap[j]?=some i->M[k+j]?=some x->X.N[i]?=some x/\scope.names.lookup x=some .free
section
variable {X:Cx} {pins:List (Addr×Obj)} {σ:St} {tg elt iter:Expr} {ifs:List Expr} {scope:Scope} {pos:Pos} {M:List Str} {k:Nat} {cap:List Nat} {g:TG} {tt:TT} {te:TE}
theorem Inv.hasFree(I:Inv X pins σ H s)(ok:CompOk X scope M k cap):∀y∈scope.names,y.2=.free->∃c,X.env.cells.lookup y.1=some c:=fun y hy e=>I.ok.has y.1 (ok.free y hy e)
theorem Inv.block{s4:Shared}{C D:Addr}{oD:Obj}{m:Str->Option Value}(I:Inv X pins σ H s)(ok:CompOk X scope M k cap)(f2:∀b∈fp,FpOk X pins H b)(hfo:∀b∈fp,∃o,s.heap.get? b=some o/\∀v,o.data≠.cell v)
  (hC:s.heap.objs.size<=C) (hDC:D≠C) (hD:s.heap.objs.size<=D) (old:∀b o,s.heap.get? b=some o->s4.heap.get? b=some o) (os:s4.os=s.os) (gens:s4.gens=s.gens)
  (ns:s4.heap.Ns C m) (hoD:s4.heap.get? D=some oD) (hdD:∀v,oD.data≠.cell v):Inv (a2z X scope M C s H fp) [(D,oD)] (capS k cap σ) H s4:=by
 have hf:=I.hasFree ok;have fr:∀a,s.heap.objs.size<=a->H a=none:=fun a ha=>I.hok.fresh ha
 have nfs:∀b∈frs X.stack,b < s.heap.objs.size:=fun b hb=>by
  rcases List.mem_cons.mp (I.stkSub b hb) with e|e
  ·rw[e];exact I.lt
  ·exact Nat.lt_of_not_le fun z=>I.nofs z e
 have cl:∀x c,(clOf X.env scope.names).lookup x=some c->X.env.cells.lookup x=some c:=fun x c e=>b9x hf e
 refine⟨⟨I.ok.mod,ok.kind,I.ok.glob,I.ok.blt,hC,fun x y c e1 e2=>I.ok.inj x y c (cl x c e1) (cl y c e2),fun x hx=>?_,fun x c e _=>?_,I.ok.hd,I.ok.frames,.inl rfl,fun b hb=>?_,I.bs,Nat.le_trans I.ok.bsz I.sz,fun b o e hb=>?_,fun b hb z=>?_,I.stack,I.stkFree⟩,
  os,by rw[gens];exact I.bare,Un.kept old,⟨m,ns,fun i x v h1 h2 h3=>?_⟩,fun x c e=>?_,fr C hC,fun x c e=>I.freeC x c (cl x c e),fun p hp=>?_,I.hok.kept old,?_⟩
 ·have hx:(relabel scope X.env).names.lookup x=some .cell\/(relabel scope X.env).names.lookup x=some .free:=hx;have hm:(x,NameKind.free)∈scope.names:=by
   rcases hx with h|h
   ·exact b1d (env:=X.env) (.inl rfl) ok.cell h
   ·exact b1d (env:=X.env) (.inr rfl) ok.cell h
  obtain⟨c,hc⟩:=hf _ hm rfl;exact⟨c,c1d hm hc⟩
 ·cases e
 ·obtain⟨f0,f1,f2,f3,f4,f5⟩:=f2 b hb;obtain⟨ob,eb,_⟩:=hfo b hb;exact⟨Nat.ne_of_lt (Nat.lt_of_lt_of_le (Heap.lt_size eb) hC),fun x c e=>f4 x c (cl x c e)⟩
 ·obtain⟨f0,f1,f2,f3,f4,f5⟩:=f2 b hb;rcases f3 with q|q
  ·exact I.ok.noex b o e q
  ·exact absurd (Nat.lt_of_lt_of_le (Heap.lt_size e) (Nat.le_trans I.ok.bsz q)) (Nat.lt_irrefl _)
 ·obtain⟨f0,f1,f2,f3,f4,f5⟩:=f2 b hb;rcases List.mem_cons.mp (I.stkSub b z) with q|q
  ·exact f1 q
  ·exact f2 q
 ·unfold capS at h2;have hk:¬i < k:=fun q=>by
   rw[List.getElem?_append_left (by simpa using q),List.getElem?_replicate] at h2
   split at h2 <;> cases h2
  rw[List.getElem?_append_right (by simpa using hk),List.length_replicate,List.getElem?_map] at h2
  cases e:cap[i - k]? with
  |none=>rw[e] at h2;cases h2
  |some j=>
   rw[e] at h2;have h2':(σ[j]?).join=some v:=Option.some.inj h2;have hj:σ[j]?=some (some v):=by
    cases q:σ[j]? with
    |none=>rw[q] at h2';cases h2'
    |some z=>rw[q] at h2';simp at h2';rw[h2']
   have hix:k+(i - k)=i:=by omega
   obtain⟨hN,hfr⟩:=ok.caps (i - k) j x e (by rw[hix];exact h1)
   have hm:(x,NameKind.free)∈scope.names:=PySem.mem_of_lookup hfr;have hkx:=ok.free _ hm rfl;obtain⟨mX,hnX,hlX⟩:=I.loc;obtain⟨u,ru,lk⟩:=hlX j x v hN hj (by rcases hkx with q|q;exact .inr (.inl q);exact .inr (.inr q))
   refine⟨u,ru,.inr ⟨b1s (env:=X.env) hfr,?_⟩⟩;rcases lk with⟨q,_⟩|⟨_,c,hc,hcell⟩
   ·rcases hkx with z|z
    ·rw[show X.env.kindOf x=some .cell from z] at q;cases q
    ·rw[show X.env.kindOf x=some .free from z] at q;cases q
   ·exact⟨c,c1d hm hc,hcell.keeps old⟩
 ·obtain⟨v,z⟩:=I.cell x c (cl x c e);exact⟨v,z.keeps old⟩
 ·have e:p=(D,oD):=by simpa[a2z] using hp
  subst e;exact⟨hoD,fr D hD,hDC,fun z=>absurd (Nat.lt_of_lt_of_le (nfs D z) hD) (Nat.lt_irrefl _),hdD⟩
 ·unfold capS;rw[List.length_append,List.length_replicate,List.length_map];exact ok.len.symm
theorem b7z{H2:Hp}{s2:Shared}{J:It}{it:Addr}{tn:Nat->Heap->Prop}{RR:Value->Addr->Result->Shared->Prop}{E:Value->Shared->Prop}{Fin:List V->Hp->Prop}(I2:Inv X pins σ H2 s2)(hc:X.calm=true)(ok:CompOk X scope M k cap)
  (T:Turn X.prog X.w X.K tg J fp it tn) (st2:tn 0 s2.heap) (f2:∀b∈fp,FpOk X pins H2 b)
  (hg:∀C s H fp,PG (a2z X scope M C s H fp) tg g) (ht:∀C s H fp,PTs (a2z X scope M C s H fp) ifs tt) (he:∀C s H fp,PE (a2z X scope M C s H fp) elt te)
  (hW:CompW J g tt te (capS k cap σ) H2 Fin)
  (hRR:∀D C s' H' acc,Inv X pins σ (upd H' D (.lst acc)) s'->FpOk X pins (upd H' D (.lst acc)) C->(∃m,s'.heap.Ns C m)->H' D=none->Fin acc H'->RR (.ref D) C (.ok .next) s') :
  wpAny (model X.prog X.w) X.A (newList []) (fun acc s₃=>wpAny (model X.prog X.w) X.A (newFunctionEnv scope X.env.globals (clOf X.env scope.names) [] X.env.qual none .none (some X.env)) (fun cenv s₄=>
   codeAny (model X.prog X.w) X.A (.compStart (.ListComp elt [⟨tg,iter,ifs,0⟩] scope pos) 0 (.ref it) acc { cenv with scope:=relabel scope X.env}) (RR acc cenv.locals) s₄) E s₃) E s2:=by
 refine wpAny_newObj_type (wpAny_newFunctionEnv ok.cell (by intro y hy;simp at hy) (fun h₁ hns₁ hsb₁=>?_) ok.kind)
 dsimp only at hns₁ hsb₁ ⊢;generalize hH2:s2.heap.push { cls:=.type "list",dict:=none,data:=.seq ([]:List Value).toArray}=H3 at hns₁ hsb₁ ⊢;have hCs:H3.objs.size=s2.heap.objs.size+1:=by rw[<-hH2,Heap.size_push]
 have hDC:s2.heap.objs.size≠H3.objs.size:=by rw[hCs];exact Nat.ne_of_lt (Nat.lt_succ_self _)
 have below:∀b,b < s2.heap.objs.size->b≠H3.objs.size/\b≠s2.heap.objs.size:=fun b hb=>⟨by rw[hCs];exact Nat.ne_of_lt (Nat.lt_succ_of_lt hb),Nat.ne_of_lt hb⟩
 have old:∀b o,s2.heap.get? b=some o->h₁.get? b=some o:=fun b o e=>hsb₁.extBut b o (below b (Heap.lt_size e)).1 (Heap.get?_push_of_some _ (hH2 ▸ Heap.get?_push_of_some _ e))
 have hacc:h₁.get? s2.heap.objs.size=some { cls:=.type "list",data:=.seq ([]:List Value).toArray 0}:=hsb₁.extBut _ _ hDC (Heap.get?_push_of_some _ (hH2 ▸ Heap.get?_push_size _ rfl));have hfo:=T.obj 0 _ st2;have hCle:s2.heap.objs.size<=H3.objs.size:=by rw[hCs];exact Nat.le_succ _
 obtain⟨N,W,w0,turn⟩:=hW;have st1:tn 0 h₁:=T.keep _ _ _ st2 fun b _ o e=>old b o e
 have loop:∀s₃:Shared,s₃={ s2 with heap:=h₁,toks:=s2.toks+([]:List (Str×Value)).length}->
   codeAny (model X.prog X.w) X.A (.compLoop (.ListComp elt [⟨tg,iter,ifs,0⟩] scope pos) 0 (.ref it) (.ref s2.heap.objs.size) (compEnvC scope (clOf X.env scope.names) H3.objs.size X.env))
    (RR (.ref s2.heap.objs.size) H3.objs.size) s₃:=by
  rintro s₃ rfl;have I3:Inv (a2z X scope M H3.objs.size s2 H2 fp) [(s2.heap.objs.size,{ cls:=.type "list",data:=.seq ([]:List Value).toArray 0})] (capS k cap σ) H2 { s2 with heap:=h₁,toks:=s2.toks+([]:List (Str×Value)).length}:=
   I2.block ok f2 hfo hCle hDC (Nat.le_refl _) old rfl rfl hns₁ hacc (fun v z=>by cases z)
  have fpS:∀b∈fp,b≠H3.objs.size/\b≠s2.heap.objs.size:=fun b hb=>let ⟨o,e,_⟩:=hfo b hb;below b (Heap.lt_size e)
  have stat:∀{H':Hp} {oD:Obj},(∀b∈fp,H' b=none)->∀b∈fp,FpOk (a2z X scope M H3.objs.size s2 H2 fp) [(s2.heap.objs.size,oD)] H' b:=fun{H' oD} hn b hb=>by
   obtain⟨f0,f1,f2,f3,f4,f5⟩:=f2 b hb;refine⟨hn b hb,(fpS b hb).1,fun z=>?_,.inl hb,fun x c e=>f4 x c (b9x (I2.hasFree ok) e),fun p hp z=>?_⟩
   ·rcases List.mem_cons.mp (I2.stkSub b z) with q|q
    ·exact f1 q
    ·exact f2 q
   ·have e:p=(s2.heap.objs.size,oD):=by simpa[a2z] using hp
    subst e;exact(fpS b hb).2 z.symm
  refine a9a (fun n s'=>∃(i:Nat) (τ:St) (acc:List V) (us:List Value) (c:Nat) (H':Hp),Vals acc us/\acc.length<=sizeLine/\
   Inv (a2z X scope M H3.objs.size s2 H2 fp) [(s2.heap.objs.size,{ cls:=.type "list",data:=.seq us.toArray c})] τ H' s'/\tn i s'.heap/\(∀b∈fp,H' b=none)/\n=N - i/\i<=N/\W i τ acc H') ?_ N
   ⟨0,capS k cap σ,[],[],0,H2,.nil,Nat.zero_le _,I3,st1,fun b hb=>(f2 b hb).1,rfl,Nat.zero_le _,w0⟩
  rintro n s3 ⟨i,τ,acc,us,c,H',rv,hlen,I,st,fr,rfl,hiN,w⟩;have pinD:=(I.pin (s2.heap.objs.size,{ cls:=.type "list",data:=.seq us.toArray c}) (by simp[a2z]))
  rcases turn i τ acc H' hiN w with⟨stop,qn⟩|⟨hlt,go,step⟩
  ·refine thn (T.done (a2z X scope M H3.objs.size s2 H2 fp) rfl rfl rfl hc i _ s3 τ H' (fun _ _=>False) I (stat fr) st stop) fun r s4 ⟨hr,I4⟩=>?_
   subst hr;have pinD4:=(I4.pin (s2.heap.objs.size,{ cls:=.type "list",data:=.seq us.toArray c}) (by simp[a2z]))
   have hch:∀b∈fp,(b∈X.ex\/X.s₀.heap.objs.size<=b)/\b≠X.env.locals/\(∀x c,X.env.cells.lookup x=some c->c≠b)/\∀p∈X.pn++pins,p.1≠b:=fun b hb=>by
    obtain⟨f0,f1,f2,f3,f4,f5⟩:=f2 b hb;exact⟨f3,f1,f4,f5⟩
   have J1:Inv X pins σ H' s4:=I2.call' (ch:=fp) I4.os I4.base I4.hok I4.bare hch;have young:X.s₀.heap.objs.size<=s2.heap.objs.size:=I2.sz;have apart:∀a,s2.heap.objs.size<=a->a≠X.env.locals/\(∀x c,X.env.cells.lookup x=some c->c≠a)/\∀p∈X.pn++pins,p.1≠a:=fun a ha=>
    ⟨Nat.ne_of_gt (Nat.lt_of_lt_of_le I2.lt ha),fun x c e z=>by
     obtain⟨v,q⟩:=I2.cell x c e;exact absurd (Nat.lt_of_lt_of_le q.lt (by rw[z];exact ha)) (Nat.lt_irrefl _),fun p hp z=>absurd (Nat.lt_of_lt_of_le (Heap.lt_size (I2.pin p hp).1) (by rw[z];exact ha)) (Nat.lt_irrefl _)⟩
   have aD:=apart _ (Nat.le_refl _);have aC:=apart _ hCle;have J2:Inv X pins σ (upd H' s2.heap.objs.size (.lst acc)) s4:=J1.track pinD4.2.1 young aD.1 aD.2.1 aD.2.2 ⟨hlen,us,c,rv,pinD4.1⟩;obtain⟨m,hn,_⟩:=I4.loc;have hCn:H' H3.objs.size=none:=I4.free;refine hRR _ _ s4 H' acc J2 ⟨?_,aC.1,I2.nofs hCle,.inr (Nat.le_trans young hCle),aC.2.1,aC.2.2⟩ ⟨m,hn⟩ pinD4.2.1 qn;rw[a0v (Ne.symm hDC)];exact hCn
  ·refine thn (T.item (a2z X scope M H3.objs.size s2 H2 fp) rfl rfl rfl hc i _ s3 τ H' (fun _ _=>False) I (stat fr) st go) fun r s4 ⟨u,hr,h4⟩=>?_
   subst hr;refine thn h4 fun _ s5 hh=>?_
   obtain⟨x,H5,I5,r5,y5,st5,fr5⟩:=hh;have I5':=I5.pinned (stat fr5) (T.obj _ _ st5);refine thn (hg _ _ _ _ _ s5 τ H5 x u _ I5' r5 (step x H5 y5)) fun _ s6 hh=>?_
   obtain⟨τ6,H6,I6,q6⟩:=hh;refine thn (ht _ _ _ _ _ s6 τ6 H6 _ I6 q6) fun b s7 hh=>?_
   obtain⟨H7,I7,q7⟩:=hh;have keepit:∀{s':Shared} {τ':St} {Hn:Hp},Inv (a2z X scope M H3.objs.size s2 H2 fp) ([(s2.heap.objs.size,{ cls:=.type "list",data:=.seq us.toArray c})]++b7o fp s5.heap) τ' Hn s'->tn (i+1) s'.heap/\∀b∈fp,Hn b=none:=fun{s' τ' Hn} I'=>by
    refine⟨T.keep _ _ _ st5 fun b hb o e=>(I'.pin (b,o) (List.mem_append_right _ (List.mem_append_right _ (a8o hb e)))).1,fun b hb=>?_⟩
    obtain⟨o,e,d⟩:=T.obj _ _ st5 b hb;exact(I'.pin (b,o) (List.mem_append_right _ (List.mem_append_right _ (a8o hb e)))).2.1
   cases b with
   |false=>
    rw[if_neg Bool.false_ne_true] at q7;show ∃m,m < N - i/\_;obtain⟨st7,fr7⟩:=keepit I7;exact⟨N - (i+1),by omega,i+1,τ6,acc,us,c,H7,rv,hlen,I7.unpinned,st7,fr7,rfl,hlt,q7⟩
   |true=>
    rw[if_pos rfl] at q7;show wpAny _ _ (eval elt _) _ _ s7;refine thn (he _ _ _ _ _ s7 τ6 H7 _ I7 q7) fun v s8 hh=>?_
    obtain⟨y,H8,I8,r8,hl8,w8⟩:=hh;obtain⟨st8,fr8⟩:=keepit I8;have pinD8:=(I8.pin (s2.heap.objs.size,{ cls:=.type "list",data:=.seq us.toArray c}) (by simp[a2z]))
    have hul:=rv.length;refine append_at (hsz:=by show us.toArray.size<=sizeLine;rw[List.size_toArray,<-hul];exact hlen) pinD8.1 fun h9 sb9 e9=>?_
    have e9':h9.get? s2.heap.objs.size=some { cls:=.type "list",data:=.seq (us++[v]).toArray (c+1)}:=by rw[e9,List.push_toArray]
    have I8u:=I8.unpinned;have hLoc:s2.heap.objs.size≠(a2z X scope M H3.objs.size s2 H2 fp).env.locals:=pinD8.2.2.1;have nx:∀(b:Addr),H8 b≠none->b≠s2.heap.objs.size:=fun b hb z=>hb (by rw[z];exact pinD8.2.1)
    refine⟨N - (i+1),by omega,i+1,τ6,acc++[y],us++[v],c+1,H8,rv.append (.cons r8 .nil),by rw[List.length_append,List.length_singleton];exact hl8,?_,?_,fr8,rfl,hlt,w8⟩
    ·have I9:Inv (a2z X scope M H3.objs.size s2 H2 fp) [] τ6 H8 s8:=I8u.pins_of (fun p hp=>absurd hp (by simp))
     have I10:Inv (a2z X scope M H3.objs.size s2 H2 fp) [] τ6 H8 { s8 with heap:=h9}:=I9.turned (t':=s8.toks) (fun b o hb e=>(sb9.2 b hb).trans e) pinD8.2.1 hLoc (.inr (Nat.le_refl _))
      (fun x cc e z=>by
       obtain⟨v',q⟩:=I2.cell x cc (b9x (I2.hasFree ok) e);exact absurd (Nat.lt_of_lt_of_le q.lt (by rw[z];exact Nat.le_refl _)) (Nat.lt_irrefl _)) (fun p hp=>absurd hp (by simp[a2z]))
     refine I10.pins_of fun p hp=>?_
     have e:p=(s2.heap.objs.size,{ cls:=.type "list",data:=.seq (us++[v]).toArray (c+1)}):=by simpa using hp
     subst e;exact⟨e9',pinD8.2.1,hLoc,pinD8.2.2.2.1,fun v' z=>by cases z⟩
    ·exact T.keep _ _ _ st8 fun b hb o e=>sb9.extBut b o (fpS b hb).2 e
 exact codeAny_compStart_list (loop _ rfl) (T.self _ 0 _ _ _ st1 (loop _ rfl))
def tComp(wi:TI)(g:TG)(tt:TT)(te:TE)(k:Nat)(cap:List Nat):TE:=fun σ H Q=>wi σ H fun J H1=>CompW J g tt te (capS k cap σ) H1 fun acc H'=>∀l,H' l=none->Q (.ref l) (upd H' l (.lst acc))
theorem d5e(hc:X.calm=true)(ok:CompOk X scope M k cap)(hi:PI X tg iter wi)
  (hg:∀C s H fp,PG (a2z X scope M C s H fp) tg g) (ht:∀C s H fp,PTs (a2z X scope M C s H fp) ifs tt) (he:∀C s H fp,PE (a2z X scope M C s H fp) elt te)
  (hs:∀x,foldedSetIterable iter X.env x=pure x:=by intro _;rfl):PE X (.ListComp elt [⟨tg,iter,ifs,0⟩] scope pos) (tComp wi g tt te k cap):=by
 intro pins s σ H Q I h;rw[eval_ListComp];refine wpAny_comprehension_free (use:=none) rfl hs (a8b (I.hasFree ok)) ok.kind ok.names (thn (hi pins s σ H _ I h) fun v s1 h1=>thn h1 fun itv s2 h2=>?_)
 obtain⟨it,fp,tn,J,H2,e,I2,T,st2,f2,hW⟩:=h2;subst e;refine b7z (RR:=fun acc C=>compPost (model X.prog X.w) X.A X.xe none (EP X pins σ Q) acc C) I2 hc ok T st2 f2 hg ht he hW ?_
 intro D C s' H' acc I' fC ⟨m,hn⟩ hD hq;refine⟨m,hn,fun h' sb=>?_⟩
 obtain⟨f0,f1,f2,f3,f4,f5⟩:=fC;exact⟨.ref D,_,I'.turned (t':=s'.toks) (fun b o hb e=>(sb.2 b hb).trans e) f0 f1 f3 f4 f5,rfl,hq D hD⟩
def sComp(wi:TI)(g:TG)(tt:TT)(te:TE)(k:Nat)(cap:List Nat)(i:Nat):TS:=fun D σ H=>tComp wi g tt te k cap σ H fun v H'=>D.nx (σ.set i (some v)) H'
theorem b9z{i:Nat}{px spos:Pos}(hc:X.calm=true)(ok:CompOk X scope M k cap)(hN:X.N.Nodup)(hix:X.N[i]?=some x)(hx:Loc X.env.scope x)(hi:PI X tg iter wi)
  (hg:∀C s H fp,PG (a2z X scope M C s H fp) tg g) (ht:∀C s H fp,PTs (a2z X scope M C s H fp) ifs tt) (he:∀C s H fp,PE (a2z X scope M C s H fp) elt te)
  (hsw:swapsWith (.ListComp elt [⟨tg,iter,ifs,0⟩] scope pos) (some (.Name x px)) spos.line X.env=pure true)
  (hs:∀x,foldedSetIterable iter X.env x=pure x:=by intro _;rfl) (hf:X.fn x=true\/X.env.scope.names.lookup x=some .local := by first|exact .inl rfl|exact .inr rfl|assumption) :
  PS X (.Assign [.Name x px] (.ListComp elt [⟨tg,iter,ifs,0⟩] scope pos) spos) (sComp wi g tt te k cap i):=by
 intro pins s σ H D I h;rw[exec_Assign_Name_used _ _ _ _ hsw];refine wpAny_bind (wpAny_standAt (wpAny_bind ?_));show wpAny _ X.A (do let _ <-comprehension (.ListComp elt [⟨tg,iter,ifs,0⟩] scope pos) scope X.env _ (newList []) false (eval iter X.env) (some (assign (.Name x px) X.env))) _ _ s
 refine wpAny_bind (wpAny_mono (wpAny_comprehension_free (use:=some (assign (.Name x px) X.env)) (Q:=fun _ s'=>SP X pins D .next s') rfl hs (a8b (I.hasFree ok)) ok.kind ok.names
  (thn (hi pins s σ H _ I h) fun v s1 h1=>thn h1 fun itv s2 h2=>?_)) (fun _ s' hq=>wpAny_pure (wpAny_pure hq)) fun _ _ e=>e)
 obtain⟨it,fp,tn,J,H2,e,I2,T,st2,f2,hW⟩:=h2;subst e;refine b7z (RR:=fun acc C=>compPost (model X.prog X.w) X.A X.xe (some (assign (.Name x px) X.env)) (fun _ s'=>SP X pins D .next s') acc C) I2 hc ok T st2 f2 hg ht he hW ?_
 intro D' C s' H' acc I' fC ⟨m,hn⟩ hD hq;obtain⟨f0,f1,f2,f3,f4,f5⟩:=fC;show wpAny _ X.A (assign (.Name x px) X.env (.ref D')) _ _ _;refine wpAny_assign_Name (b7k I' hN hix hx (v:=.ref D') rfl (fun s'' I'' hh=>?_) hf)
 obtain⟨a,sb,ha⟩:=hh;have hCa:C≠a:=by
  rcases ha with e|e
  ·rw[e];exact f1
  ·exact fun z=>f4 _ _ e z.symm
 refine⟨m,hn.sameBut sb hCa,fun h' sb'=>⟨_,_,I''.turned (t':=s''.toks) (fun b o hb e=>(sb'.2 b hb).trans e) f0 f1 f3 f4 f5,hq D' hD⟩⟩
end
def chr1(c:Nat):Str:=⟨#[c]⟩
def Its(x:Str):It:=⟨fun i _=>i < x.cps.size,fun i H v H'=>H'=H/\∃c,x.cps[i]?=some c/\v=.str (chr1 c),fun i _=>x.cps.size<=i⟩
theorem d0s{P:Program}{w:World}(it:Addr)(x:Str)(t:Tok)(ty:String)(hty:ty="str_ascii_iterator"\/ty="str_iterator"):Turn P w K tg (Its x) [it] it (fun i h=>h.IsStrIter it ty x t i) where
 mem:=by simp
 obj:=fun i h st b hb=>by
  have e:b=it:=by simpa using hb
  subst e;obtain⟨o,e,c,d⟩:=st;exact⟨o,e,fun v z=>by rw[d] at z;cases z⟩
 keep:=fun i h h' st k=>by
  obtain⟨o,e,c,d⟩:=st;exact⟨o,k it (by simp) o e,c,d⟩
 item:=by
  intro X hP hw hK hc i pins s σ H E I hf st hg;subst hP hw hK;have hi:i < x.cps.size:=hg;obtain⟨f0,f1,f2,f3,f4,f5⟩:=hf it (by simp)
  have fin:∀h',h'.IsStrIter it ty x t (i+1)->Heap.SameBut it s.heap h'->∃u,some (Value.str ⟨#[x.cps[i]]⟩ s.toks)=some u/\
    wpAny (model X.prog X.w) X.A (letOwnedTupleGo tg (.ref it) u) (fun _ s2=>∃y H',Inv X pins σ H' s2/\RelV y u/\(Its x).yld i H y H'/\s2.heap.IsStrIter it ty x t (i+1)/\∀b∈[it],H' b=none) E { s with heap:=h',toks:=s.toks+1}:=fun h' st' sb=>by
   have I1:Inv X pins σ H { s with heap:=h',toks:=s.toks+1}:=I.turned (fun b o hb e=>(sb.2 b hb).trans e) f0 f1 f3 f4 f5
   obtain⟨o,e,c,d⟩:=id st';refine⟨_,rfl,d4u (s:={ s with heap:=h',toks:=s.toks+1}) e c d (by rcases hty with z|z <;> subst z <;> decide) ⟨.str (chr1 x.cps[i]),H,I1,⟨_,rfl⟩,⟨rfl,_,by simp[hi],rfl⟩,st',fun b hb=>(hf b hb).1⟩⟩
  rcases hty with z|z
  ·subst z;exact wpAny_pyNext_ascii_item st (c:=x.cps[i]) (by simp[hi]) fin
  ·subst z;exact wpAny_pyNext_wide_item st (c:=x.cps[i]) (by simp[hi]) fin
 done:=by
  intro X hP hw hK hc i pins s σ H E I hf st hg;subst hP hw hK;have hi:x.cps.size<=i:=hg;obtain⟨f0,f1,f2,f3,f4,f5⟩:=hf it (by simp)
  rcases hty with z|z
  ·subst z;exact wpAny_pyNext_ascii_end (I.ok.hd hc) st (by simp;omega) fun h' eb=>⟨rfl,I.turned (t':=s.toks) (fun b o hb e=>eb b o hb e) f0 f1 f3 f4 f5⟩
  ·subst z;exact wpAny_pyNext_wide_end (I.ok.hd hc) st (by simp;omega) fun h' eb=>⟨rfl,I.turned (t':=s.toks) (fun b o hb e=>eb b o hb e) f0 f1 f3 f4 f5⟩
 self:=fun _ _ _ _ _ st h=>by
  rcases hty with z|z
  ·subst z;exact wpAny_pyIter_striter_ascii st h
  ·subst z;exact wpAny_pyIter_striter_wide st h
def iStr(tl:TE):TI:=fun σ H R=>tl σ H fun x H1=>∃z,x=.str z/\R (Its z) H1
theorem d3j(hl:PE X l tl):PI X tg l (iStr tl):=by
 intro pins s σ H R I h;refine thn (hl pins s σ H _ I h) fun v s1 hh=>?_
 obtain⟨x,H1,I1,r1,q1⟩:=hh;obtain⟨z,e,q⟩:=q1;subst e;obtain⟨t,rfl⟩:=r1;have key:∀ty:String,ty="str_ascii_iterator"\/ty="str_iterator"->PIE X pins σ tg R (.ref s1.heap.objs.size) { s1 with heap:=s1.heap.push { cls:=.type ty,data:=.fields #[.str z t,.int 0 0]}}:=fun ty hty=>by
  refine⟨s1.heap.objs.size,[s1.heap.objs.size],_,_,H1,rfl,I1.kept (t':=s1.toks) fun b o e=>Heap.get?_push_of_some _ e,d0s _ z t ty hty,⟨_,Heap.get?_push_size _ (by rcases hty with e|e <;> subst e <;> rfl),rfl,rfl⟩,fun b hb=>?_,q⟩
  have e:b=s1.heap.objs.size:=by simpa using hb
  subst e;exact I1.fpOk (Nat.le_refl _) (I1.hok.fresh (Nat.le_refl _))
 cases ha:z.cps.all (· < 128)
 ·exact wpAny_pyIter_wide ha (key _ (.inr rfl))
 ·exact wpAny_pyIter_ascii ha (key _ (.inl rfl))
theorem b8a{xs:List V}{Fin:List V->Hp->Prop}(Pv:Nat->St->List V->Hp->Prop)(h0:Pv 0 τ [] H)(hl:∀i τ acc H,i<=xs.length->Pv i τ acc H->SqL K H a xs)
  (hs:∀i x τ acc H,xs[i]?=some x->Pv i τ acc H->g x τ H fun τ2 H2=>tt τ2 H2 fun b H3=>if b=true then te τ2 H3 fun v H4=>acc.length < sizeLine/\Pv (i+1) τ2 (acc++[v]) H4 else Pv (i+1) τ2 acc H3)
  (hd:∀τ acc H,Pv xs.length τ acc H->Fin acc H):CompW (Itl K a) g tt te τ H Fin:=by
 refine⟨xs.length,Pv,h0,fun i τ acc H hi p=>?_⟩
 have q:=hl i τ acc H hi p;by_cases hlt:i < xs.length
 ·refine .inr ⟨hlt,⟨xs,xs[i],q,by simp[hlt]⟩,fun x H' y=>?_⟩
  obtain⟨e,y⟩:=y;subst e;exact hs i x τ acc _ (y xs q) p
 ·have e:i=xs.length:=by omega
  subst e;exact .inl ⟨⟨xs,q,Nat.le_refl _⟩,hd τ acc H p⟩
theorem c3v{lo:Int}{Fin:List V->Hp->Prop}(Pv:Nat->St->List V->Hp->Prop)(h0:Pv 0 τ [] H)
  (hs:∀i τ acc H,i < n->Pv i τ acc H->g (.int (lo+i)) τ H fun τ2 H2=>tt τ2 H2 fun b H3=>if b=true then te τ2 H3 fun v H4=>acc.length < sizeLine/\Pv (i+1) τ2 (acc++[v]) H4 else Pv (i+1) τ2 acc H3)
  (hd:∀τ acc H,Pv n τ acc H->Fin acc H):CompW (Itr lo n) g tt te τ H Fin:=by
 refine⟨n,Pv,h0,fun i τ acc H hi p=>?_⟩
 by_cases hlt:i < n
 ·refine .inr ⟨hlt,hlt,fun x H' y=>?_⟩
  obtain⟨e,y⟩:=y;subst e y;exact hs i τ acc _ hlt p
 ·have e:i=n:=by omega
  subst e;exact .inl ⟨Nat.le_refl _,hd τ acc H p⟩
theorem d0t{Fin:List V->Hp->Prop}(Pv:Nat->St->List V->Hp->Prop)(h0:Pv 0 τ [] H)
  (hs:∀i c τ acc H,x.cps[i]?=some c->Pv i τ acc H->g (.str (chr1 c)) τ H fun τ2 H2=>tt τ2 H2 fun b H3=>if b=true then te τ2 H3 fun v H4=>acc.length < sizeLine/\Pv (i+1) τ2 (acc++[v]) H4 else Pv (i+1) τ2 acc H3)
  (hd:∀τ acc H,Pv x.cps.size τ acc H->Fin acc H):CompW (Its x) g tt te τ H Fin:=by
 refine⟨x.cps.size,Pv,h0,fun i τ acc H hi p=>?_⟩
 by_cases hlt:i < x.cps.size
 ·refine .inr ⟨hlt,hlt,fun v H' y=>?_⟩
  obtain⟨e,c,hc,y⟩:=y;subst e y;exact hs i c τ acc _ hc p
 ·have e:i=x.cps.size:=by omega
  subst e;exact .inl ⟨Nat.le_refl _,hd τ acc H p⟩
def c5j(names outer:List (Str×NameKind))(N M:List Str)(k:Nat)(cap:List Nat):Bool:=
 names.all (fun y=>y.2 != .cell) && (names.all (fun y=>y.2 != .free || (outer.lookup y.1 == some .cell || outer.lookup y.1 == some .free)) && (names.all (fun y=>y.2 != .local || names.lookup y.1 == some .local) &&
  (M.length == k+cap.length && (List.range cap.length).all (fun j=>match cap[j]?,M[k+j]? with|some i,some x=>N[i]? == some x && names.lookup x == some .free|_,_=>true))))
theorem CompOk.of{M:List Str}{cap:List Nat}(outer:List (Str×NameKind))(N:List Str)(h:c5j scope.names outer N M k cap=true)(ho:X.env.scope.names=outer:=by rfl)(hN:X.N=N:=by rfl)(hk:scope.kind=.function:=by rfl):CompOk X scope M k cap:=by
 unfold c5j at h;simp only[Bool.and_eq_true,List.all_eq_true,Bool.or_eq_true,bne_iff_ne,ne_eq,beq_iff_eq] at h;obtain⟨h1,h2,h3,h4,h5⟩:=h;refine⟨hk,h1,fun y hy e=>?_,fun y hy e=>?_,h4,fun j i x e1 e2=>?_⟩
 ·rcases h2 y hy with z|z
  ·exact absurd e z
  ·show X.env.scope.names.lookup y.1=_\/X.env.scope.names.lookup y.1=_;rw[ho];exact z
 ·rcases h3 y hy with z|z
  ·exact absurd e z
  ·exact z
 ·have hj:j < cap.length:=(List.getElem?_eq_some_iff.mp e1).1;have:=h5 j (List.mem_range.mpr hj);rw[e1,e2] at this;simp only[Bool.and_eq_true,beq_iff_eq] at this;rw[hN];exact this
section
variable {X:Cx}
def c1e(K:L2.FG)(H:Hp):V->String->Prop
 |.non,n=>n="NoneType"
 |.bl _,n=>n="bool"
 |.int _,n=>n="int"
 |.str _,n=>n="str"
 |.ref a,n=>(n="list"/\∃xs,SqL K H a xs)\/(n="tuple"/\∃xs,SqT K H a xs)
 |_,_=>False
def isiB(k T:String):Bool:=k == T || (k == "bool" && T == "int")
theorem d0u:CallR X (.builtin "isinstance") (fun xs H Q=>∃x k T,xs=[x,.ty T]/\c1e X.K H x k/\(T="int"\/T="str"\/T="bool"\/T="list"\/T="tuple")/\Q (.bl (isiB k T)) H):=by
 intro pins s σ H xs us Q I r h;obtain⟨x,k,T,rfl,hk,hT,q⟩:=h;obtain⟨u,w',rfl,rx,ry⟩:=vals2 r;cases ry;have fin:∀b,b=isiB k T->EP X pins σ Q (.bool b) s:=fun b e=>c0z I q e.symm
 have fin':∀b,b=isiB k T->EP X pins σ Q (.bool b) { s with toks:=s.toks+1}:=fun b e=>c0z (I.tok _) q e.symm
 cases x with
 |non=>
  cases rx;have hk:k="NoneType":=hk;subst hk;rcases hT with rfl|rfl|rfl|rfl|rfl
  ·exact IsiPair.NoneType_int (fin' _ (by decide))
  ·exact IsiPair.NoneType_str (fin' _ (by decide))
  ·exact IsiPair.NoneType_bool (fin' _ (by decide))
  ·exact IsiPair.NoneType_list (fin' _ (by decide))
  ·exact IsiPair.NoneType_tuple (fin' _ (by decide))
 |bl b=>
  cases rx;have hk:k="bool":=hk;subst hk;rcases hT with rfl|rfl|rfl|rfl|rfl
  ·exact IsiPair.bool_int (fin _ (by decide))
  ·exact IsiPair.bool_str (fin' _ (by decide))
  ·exact IsiPair.bool_bool (fin _ (by decide))
  ·exact IsiPair.bool_list (fin' _ (by decide))
  ·exact IsiPair.bool_tuple (fin' _ (by decide))
 |int i=>
  obtain⟨t,rfl⟩:=rx;have hk:k="int":=hk;subst hk;rcases hT with rfl|rfl|rfl|rfl|rfl
  ·exact IsiPair.int_int (fin _ (by decide))
  ·exact IsiPair.int_str (fin' _ (by decide))
  ·exact IsiPair.int_bool (fin' _ (by decide))
  ·exact IsiPair.int_list (fin' _ (by decide))
  ·exact IsiPair.int_tuple (fin' _ (by decide))
 |str z=>
  obtain⟨t,rfl⟩:=rx;have hk:k="str":=hk;subst hk;rcases hT with rfl|rfl|rfl|rfl|rfl
  ·exact IsiPair.str_int (fin' _ (by decide))
  ·exact IsiPair.str_str (fin _ (by decide))
  ·exact IsiPair.str_bool (fin' _ (by decide))
  ·exact IsiPair.str_list (fin' _ (by decide))
  ·exact IsiPair.str_tuple (fin' _ (by decide))
 |ref a=>
  cases rx;rcases hk with⟨hk,ys,hs⟩|⟨hk,ys,hs⟩
  ·subst hk;obtain⟨its,_,⟨o,n,e,hc,_⟩,_⟩:=I.list hs;rcases hT with rfl|rfl|rfl|rfl|rfl
   ·exact IsiPair.list_int e hc (fin' _ (by decide))
   ·exact IsiPair.list_str e hc (fin' _ (by decide))
   ·exact IsiPair.list_bool e hc (fin' _ (by decide))
   ·exact IsiPair.list_list e hc (fin _ (by decide))
   ·exact IsiPair.list_tuple e hc (fin' _ (by decide))
  ·subst hk;obtain⟨its,_,⟨o,e,hc,_⟩,_⟩:=I.tuple hs;rcases hT with rfl|rfl|rfl|rfl|rfl
   ·exact IsiPair.tuple_int e hc (fin' _ (by decide))
   ·exact IsiPair.tuple_str e hc (fin' _ (by decide))
   ·exact IsiPair.tuple_bool e hc (fin' _ (by decide))
   ·exact IsiPair.tuple_list e hc (fin' _ (by decide))
   ·exact IsiPair.tuple_tuple e hc (fin _ (by decide))
 |byt _=>exact False.elim hk
 |flt _=>exact False.elim hk
 |ty _=>exact False.elim hk
theorem d5f{n:String}(hg:Gl X x)(hm:X.mg x=none)(hv:bootBuiltins x=some (.type n))(hn:x≠"__name__":=by decide)(hd:(x == ("__debug__":Str))=false:=by decide):PE X (.Name x pos) (tC (.ty n)):=
 d4s hg hm hv rfl hn hd
theorem c0a{w:World}(its:List Value)(bs:List Bool)(hv:Vals (bs.map V.bl) its):TruthOf prog w A (fun i v=>its.toArray[i]?=some v) (fun i=>bs.getD i false):=by
 intro i v s Q E hP hQ;have hP':its[i]?=some v:=by simpa using hP
 have hl:=hv.length;rw[List.length_map] at hl;have hi:i < its.length:=(List.getElem?_eq_some_iff.mp hP').1;have hb:(bs.map V.bl)[i]?=some (.bl bs[i]):=by simp[show i < bs.length by omega]
 obtain⟨u,hu,ru⟩:=hv.get hb;rw[hP'] at hu;cases hu;cases ru;have e:bs.getD i false=bs[i]:=by simp[show i < bs.length by omega]
 have hQ':Q (bs.getD i false) s:=hQ;rw[e] at hQ';exact wpAny_truthy_bool hQ'
theorem c5k(bs:List Bool):(List.range bs.length).all (fun i=>bs.getD i false)=bs.all id:=by
 rw[Bool.eq_iff_iff,List.all_eq_true,List.all_eq_true];constructor
 ·intro h b hb;obtain⟨i,hi,e⟩:=List.mem_iff_getElem.mp hb;have:=h i (List.mem_range.mpr hi);simp[hi] at this;rw[<-e];exact this
 ·intro h i hi;have hi:=List.mem_range.mp hi;have:=h bs[i] (List.getElem_mem hi);simp[hi];exact this
theorem c5l(hc:X.calm=true):CallR X (.builtin "all") (fun xs H Q=>∃(a:Addr) (bs:List Bool),xs=[.ref a]/\SqL X.K H a (bs.map V.bl)/\Q (.bl (bs.all id)) H):=by
 intro pins s σ H xs us Q I r h;obtain⟨a,bs,rfl,hs,q⟩:=h;obtain⟨u,rfl,ru⟩:=vals1 r;cases ru;obtain⟨its,rv,p,hz⟩:=I.list hs;have hl:=rv.length;rw[List.length_map] at hl;refine call_all_walk (wpAny_pyIter_list p.isList ?_);have hne:a≠s.heap.objs.size:=by obtain⟨o,n,e,_⟩:=p;exact Nat.ne_of_lt (Heap.lt_size e)
 refine⟨s.heap.objs.size,_,_,its.toArray.size,_,_,fun i=>bs.getD i false,rfl,Walks.list (A:=X.A.in1) (show X.A.in1.handled=none from I.ok.hd hc) _ a hne its.toArray,⟨⟨_,Heap.get?_push_size _ rfl,rfl,rfl⟩,?_⟩,c0a its bs rv,fun h' tk hk=>?_⟩
 ·exact p.isList.at fun o e=>Heap.get?_push_of_some _ e
 ·have e1:its.toArray.size=bs.length:=by rw[List.size_toArray,<-hl]
  refine⟨.bl (bs.all id),H,I.kept (h':=h') (t':=tk) (fun b o e=>hk b o (fun z=>absurd (Nat.lt_of_lt_of_le (Heap.lt_size e) (Nat.le_of_eq (List.mem_singleton.mp z).symm)) (Nat.lt_irrefl _)) (Heap.get?_push_of_some _ e)),?_,q⟩
  show Value.bool _=Value.bool _;rw[e1,c5k]
end
structure DefAt (K:L2.FG) (mg:Str->Option Value) (x:Str) (st:Stmt) (f:Addr) (fd:FuncData) (ps:List Str):Prop where
 fn:Fun K x x st f fd
 mg:mg x=some (.ref f)
 bd:Binds K fd ps []
section
variable {X:Cx} {k:Nat} {f:Addr} {fd:FuncData} {ps:List Str} {sp:Sp} {x:Str} {p pos:Pos} {e:Expr} {es:List Expr} {t:TA} {st:Stmt}
theorem pcall(D:DefAt X.K X.mg x st f fd ps)(F:FnOk X.prog X.w X.K X.mg X.base CX0 k f fd ps sp)(hr:Room k X.A)(ha:PA X (e::es) t)(hg:Gl X x:=by rfl)(hdb:(x == ("__debug__":Str))=false:=by decide)
  (he:starEach (e::es) X.env=(false,eval e X.env)::starEach es X.env:=by rfl) (hpl:(backTo pos (starEach es X.env)).any (·.1)=false:=by rfl) :
  PE X (.Call (.Name x p) (e::es) [] pos) (tCall sp [] E1 t):=c5a F hr hg D.mg D.fn.kp D.bd .nil pass0 ha hdb he hpl
end
section
variable {X:Cx} {a b:Expr} {rest:List Expr} {pos:Pos} {ta tb:TE} {tA tB:TT}
end
theorem Same.put{H':Hp}{o:HO}(s:Same H H')(h:H' a=none):Same H (upd H' a o):=fun b u e=>by
 have z:=s b u e;rw[a0v (a1t z h)];exact z
theorem a3k{o:HO}(h:H a=none):Same H (upd H a o):=(Same.refl H).put h
theorem c5m:bootBuiltins "int"=some (.type "int"):=by decide +kernel
theorem d3k:bootBuiltins "str"=some (.type "str"):=by decide +kernel
theorem d5g:bootBuiltins "list"=some (.type "list"):=by decide +kernel
theorem d0v:bootBuiltins "tuple"=some (.type "tuple"):=by decide +kernel
theorem c5n:bootBuiltins "isinstance"=some (.builtin "isinstance"):=by decide +kernel
theorem d3l:bootBuiltins "all"=some (.builtin "all"):=by decide +kernel
theorem a6j:bootBuiltins "len"=some (.builtin "len"):=by decide +kernel
theorem d3m(h:n<=1000):n<=sizeLine:=Nat.le_trans h (by decide)
section
variable {X:Cx}
def insV(xs:List V)(k:Nat)(y:V):List V:=xs.take k++y::xs.drop k
theorem c0b(xs:List V)(k:Nat)(y:V):(insV xs k y).length=xs.length+1:=by
 unfold insV;rw[List.length_append,List.length_cons,List.length_take,List.length_drop];omega
def c5o:V->List V->Hp->VK->Prop:=fun x vs H Q=>∃l xs i y,x=.ref l/\vs=[.int i,y]/\H l=some (.lst xs)/\0<=i/\i < 2 ^ 62/\xs.length < sizeLine/\Q .non (upd H l (.lst (insV xs i.toNat y)))
theorem a9r:MtM X "list.insert" c5o:=by
 intro pins s σ H x vs v us Q I rx rv h;obtain⟨l,xs,i,y,rfl,rfl,hH,h0,hi,hz,q⟩:=h;cases rx;obtain⟨u,u',rfl,⟨t,rfl⟩,ru⟩:=rv.two;obtain⟨z,its,n,r,hl,e⟩:=I.lstM hH;have hfit:¬(!Builtin.List.listFitsIndex i)=true:=by
  unfold Builtin.List.listFitsIndex;simp;omega
 refine call_meets F.slot_list_insert ⟨_,e,rfl⟩ F.entry_list_insert (F.args_list_insert_3 _ _ _) (PySem.AutoSeq1.list_insert_list_int_val_1 l its.toArray n i t u' hfit (by rw[List.size_toArray];omega)) ⟨e,?_⟩
 refine⟨.non,_,I.lset (its':=its.take i.toNat++u'::its.drop i.toNat) hH e ?_ ((r.take i.toNat).append (.cons ru (r.drop i.toNat))) ?_,rfl,q⟩
 ·have h1:¬i < 0:=by omega
  simp only[h1,if_false];apply Array.ext';simp only[Array.toList_append,Array.toList_push,Array.toList_extract,List.size_toArray];rw[List.extract_eq_drop_take,List.extract_eq_drop_take];have e1:min i.toNat its.length - 0=min i.toNat its.length:=by omega
  rw[e1];simp only[List.drop_zero];have e2:its.take (min i.toNat its.length)=its.take i.toNat:=by rw[List.take_eq_take_iff];omega
  rw[e2];by_cases hc:i.toNat<=its.length
  ·rw[Nat.min_eq_left hc,List.take_of_length_le (l:=List.drop i.toNat its) (by rw[List.length_drop];omega)]
   simp
  ·have hc:its.length<=i.toNat:=by omega
   rw[Nat.min_eq_right hc,List.drop_of_length_le (Nat.le_refl _),List.drop_of_length_le hc];simp
 ·show(insV xs i.toNat y).length<=sizeLine;rw[c0b];omega
def rSlS:V->Option Int->Option Int->Hp->VK->Prop:=fun x lo hi H Q=>∃z,x=.str z/\z.length<=sizeLine/\Q (.str (Txt.slice z lo hi)) H
theorem sl_str:SlR X rSlS:=by
 intro pins s σ H x v vl vu lo hi sl Q I rx hs pl pu h;obtain⟨z,rfl,hz,q⟩:=h;obtain⟨t,rfl⟩:=rx;refine⟨"str",_,F.slot_str_getitem.lookup,typeIs_str _ _ _,?_⟩;have fin:∀t' k,EP X pins σ Q (.str (Txt.slice z lo hi) t') { s with toks:=k}:=fun t' k=>⟨.str _,H,I.tok _,⟨_,rfl⟩,q⟩
 cases pl with
 |none=>
  cases pu with
  |none=>exact wpAny_getItem_str_slice (l:=none) (u:=none) (st:=none) hs rfl (post_val_or_str ⟨Nat.le_trans (Txt.slice_le z _ _) hz,fin⟩)
  |int j tj=>exact wpAny_getItem_str_slice (l:=none) (u:=some (j,tj)) (st:=none) hs rfl (post_val_or_str ⟨Nat.le_trans (Txt.slice_le z _ _) hz,fin⟩)
 |int i ti=>
  cases pu with
  |none=>exact wpAny_getItem_str_slice (l:=some (i,ti)) (u:=none) (st:=none) hs rfl (post_val_or_str ⟨Nat.le_trans (Txt.slice_le z _ _) hz,fin⟩)
  |int j tj=>exact wpAny_getItem_str_slice (l:=some (i,ti)) (u:=some (j,tj)) (st:=none) hs rfl (post_val_or_str ⟨Nat.le_trans (Txt.slice_le z _ _) hz,fin⟩)
theorem c3w:OpR X (binaryOp .Mult) (fun x y H Q=>∃z n,x=.str z/\y=.int n/\MulOk z n/\Q (.str (Txt.mul z n)) H):=by
 intro pins s σ H x y v u Q I rx ry h;obtain⟨z,n,rfl,rfl,hm,q⟩:=h;obtain⟨t,rfl⟩:=rx;obtain⟨t',rfl⟩:=ry;exact SB.mul hm fun t' k=>⟨.str _,H,I.tok _,⟨_,rfl⟩,q⟩
end
inductive EqD (K:L2.FG) (H:Hp):Nat->V->V->Bool->Prop
 |flat {d:Nat} {x y:V}:flatV x=true->flatV y=true->EqD K H d x y (eqV x y)
 |same {d:Nat} {a:Addr}:EqD K H d (.ref a) (.ref a) true
 |lst {d:Nat} {a b:Addr} {xs ys:List V} {e:Nat->Bool}:a≠b->SqL K H a xs->SqL K H b ys->xs.length=ys.length->(∀(i:Nat) x y,xs[i]?=some x->ys[i]?=some y->EqD K H d x y (e i))->EqD K H (d+1) (.ref a) (.ref b) ((List.range xs.length).all e)
 |lstN {d:Nat} {a b:Addr} {xs ys:List V}:a≠b->SqL K H a xs->SqL K H b ys->xs.length≠ys.length->EqD K H (d+1) (.ref a) (.ref b) false
 |tup {d:Nat} {a b:Addr} {xs ys:List V} {e:Nat->Bool}:a≠b->SqT K H a xs->SqT K H b ys->(∀(i:Nat) x y,xs[i]?=some x->ys[i]?=some y->EqD K H d x y (e i))->EqD K H (d+1) (.ref a) (.ref b) ((List.range (min xs.length ys.length)).all e && xs.length == ys.length)
section
variable {X:Cx} {pins:List (Addr×Obj)} {σ:St} {H:Hp} {s:Shared}
theorem Vals.at{xs:List V}{us:List Value}(r:Vals xs us){j:Nat}(h:j < us.toArray.size):∃x,xs[j]?=some x/\RelV x us.toArray[j]:=by
 have hl:=r.length;have h':j < us.length:=by simpa using h
 have hx:xs[j]?=some xs[j]:=by simp[show j < xs.length by omega]
 obtain⟨u,hu,ru⟩:=r.get hx;have:us[j]?=some us[j]:=by simp[h']
 rw[this] at hu;cases hu;exact⟨xs[j],hx,by simpa using ru⟩
end
section
variable {X:Cx}
theorem d0w(K:L2.FG)(hK:X.K=K:=by rfl):IxR X (rIxL K):=hK ▸ d5b
theorem d5h(K:L2.FG)(hK:X.K=K:=by rfl):IxR X (rIxT K):=hK ▸ d8o
theorem b6a(K:L2.FG)(hK:X.K=K:=by rfl):CallR X (.builtin "len") (fun xs H Q=>∃p ys,xs=[.ref p]/\(SqL K H p ys\/SqT K H p ys)/\Q (.int ys.length) H):=hK ▸ b7w
theorem d0x(K:L2.FG)(hK:X.K=K:=by rfl):SlR X (rSlL K):=hK ▸ d5c
theorem d5i(K:L2.FG)(hK:X.K=K:=by rfl):SlR X (rSlT K):=hK ▸ d8m
theorem b2x(K:L2.FG)(hK:X.K=K:=by rfl):CallR X (.builtin "isinstance") (fun xs H Q=>∃x k T,xs=[x,.ty T]/\c1e K H x k/\(T="int"\/T="str"\/T="bool"\/T="list"\/T="tuple")/\Q (.bl (isiB k T)) H):=hK ▸ d0u
theorem c5p(K:L2.FG){a:Expr}{ta:TE}(ha:PE X a ta)(he:∀whole,isTrue a X.env whole=(do let v <-whole;standAt a.pos;holding [v] (truthy v)))(hK:X.K=K:=by rfl):
  PT X a (fun σ H Q=>ta σ H fun x H'=>∃k,TruV K x H' k/\Q k H'):=hK ▸ d0n ha he
theorem a9s(K:L2.FG)(hl:PE X l tl)(hK:X.K=K:=by rfl):PI X tg l (iList K tl):=hK ▸ b5x hl
end
theorem a5h(hr:Room k A):A.units+40 < cLine:=Nat.lt_of_le_of_lt (Nat.add_le_add_left (by decide:40<=64) _) hr.units
end L2
namespace Carry
open PySem L2
variable{m:Int}
def SB(f:Addr)(H H':Hp):Prop:=∀b o,H b=some o->b≠f->H' b=some o
structure Feed where
 ns:List Int
 pl:Int
 style:Int
 mode:Int
 num:Int
def feedO(sl:Addr)(F:Feed):HO:=.lst [.ref sl,.int F.pl,.int F.style,.int F.mode,.int F.num]
structure FeedAt (H:Hp) (f sl:Addr) (F:Feed):Prop where
 fo:H f=some (feedO sl F)
 so:H sl=some (.lst (F.ns.map V.int))
 pos:0<=F.pl
 len:F.ns.length<=63
def cellOf(F:Feed):Int:=if 0 < F.ns.length then F.ns.getD (F.pl % F.ns.length).toNat 0+F.pl / F.ns.length * 31 else F.pl
def drawV(F:Feed)(m:Int):Int:=if F.mode=1 then F.num % m else(cellOf F * 48271+31 * F.pl) % 1000003 * 69621 % 999983 % m
def drawF(F:Feed)(m:Int):Feed:=if F.mode=1 then{ F with num:=F.num / m} else{ F with pl:=F.pl+1}
theorem a1x(F:Feed)(h:0 < m):0<=drawV F m:=by
 unfold drawV;split
 ·exact Int.emod_nonneg _ (by omega)
 ·exact Int.emod_nonneg _ (by omega)
theorem a4x(F:Feed)(h:0 < m):drawV F m < m:=by
 unfold drawV;split
 ·exact Int.emod_lt_of_pos _ h
 ·exact Int.emod_lt_of_pos _ h
theorem d0y(F:Feed)(m:Int):(drawF F m).ns=F.ns:=by unfold drawF;split <;> rfl
theorem d0z(F:Feed)(m:Int)(h:0<=F.pl):0<=(drawF F m).pl:=by
 unfold drawF;split
 ·exact h
 ·show 0<=F.pl+1;omega
theorem b1t{x:Int}{n:Nat}(h0:0<=x)(h1:x < n):∃k:Nat,x=k/\k < n:=⟨x.toNat,by omega,by omega⟩
structure Belt where
 name:Str
 long:Int
 ring:Bool
 outs:List Str
structure House where
 belts:List Belt
 carts:List Str
def strs'(xs:List Str):List V:=xs.map V.str
def d8r(H:Hp)(v:V)(b:Belt):Prop:=∃p o,v=.ref p/\H p=some (.tup [.str b.name,.int b.long,.bl b.ring,.ref o])/\H o=some (.lst (strs' b.outs))
structure HouseAt (H:Hp) (p pb pc:Addr) (refs:List V) (h:House):Prop where
 top:H p=some (.tup [.ref pb,.ref pc])
 bl:H pb=some (.lst refs)
 ct:H pc=some (.lst (strs' h.carts))
 each:Paired (d8r H) refs h.belts
def insS(xs:List Str)(k:Nat)(y:Str):List Str:=xs.take k++y::xs.drop k
theorem d1a(xs:List Str)(k:Nat)(y:Str):(insS xs k y).length=xs.length+1:=by
 unfold insS;rw[List.length_append,List.length_cons,List.length_take,List.length_drop];omega
end Carry
namespace L2
open PySem PySem.Spec PyProof.Rows
variable{base:Heap}{env:Env}{outer:List Env}{L e C:Addr}{dx:Option Addr}{n:Nat}{H:Hp}{Q:Unit->Shared->Prop}
structure LeftX (fs ch:List Addr) (h h':Heap):Prop where
 keep:∀b o,b∉fs->b∉ch->h.get? b=some o->h'.get? b=some o
 slot:∀b o,b∈fs->b∉ch->h.get? b=some o->∃sl,h'.get? b=some { o with slots:=sl}
def FlyX(n:Nat)(h:Heap)(H:Hp)(e C:Addr)(dx:Option Addr):Prop:=n<=e/\H e=none/\∃oe vs,h.get? e=some oe/\oe.cls=.ref C/\oe.dict=dx/\oe.data=.fields vs/\1 < vs.size/\
 (vs[1]?=some .none\/∃T oT ts,vs[1]?=some (.ref T)/\n<=T/\H T=none/\T≠e/\h.get? T=some oT/\oT.data=.fields ts/\ts[3]?=some .none)
theorem c5q(f:Array Value->Array Value)(o:Obj):(Obj.mapFields f o).dict=o.dict:=by obtain⟨c,d,dt,sl⟩:=o;cases dt <;> rfl
section
variable {M:Model} {A:Around} {E:Value->Shared->Prop} {s:Shared}
theorem c5r{oe:Obj}{vs:Array Value}{head:Value}{had:Bool}
  (hfr:A.frames=some (env::outer)) (hl:s.heap.FunFrames base (env::outer)) (hf:env.frame=some L) (he:s.heap.get? e=some oe) (hc:oe.cls=.ref C) (hx:oe.dict=dx) (hd:oe.data=.fields vs) (hsz:1 < vs.size) (hn:n<=s.heap.objs.size) (hne:n<=e) (hHe:H e=none) (hH:∀a,s.heap.objs.size<=a->H a=none)
  (h:∀h',LeftX (frs (env::outer)) [e] s.heap h'->FlyX n h' H e C dx->Q () { s with heap:=h'}) :
  wpAny M A (do let a <-frameOf env;let pl <-entryPlaceOf L had;let b <-EntryCells.newEntry head a .none (rawInt L) .none pl;setField (.ref e) 1 b) (fun _ s'=>wpAny M A (setFlight (.ref e) none) Q E s') E s:=by
 have ene:e∉frs (env::outer):=fun m=>by
  obtain⟨_,o,ho,hnf⟩:=hl.mem m;rw[he] at ho;cases ho;exact hnf vs hd
 refine wpAny_bind (wpAny_frameOf_fun hfr hl hf fun h1 so=>wpAny_bind (wpAny_entryPlaceOf fun pl hpl=>?_))
 unfold EntryCells.newEntry newFields;refine wpAny_bind (wpAny_newObj_type ?_ (hpl.sizeOk5 _ _ _ _ _));generalize eN:({ cls:=.type "traceback",dict:=none,data:=.fields ([head,.ref L,.none,rawInt L,.none]++(if pl.isEmpty then List.replicate 6 Value.none else pl)).toArray}:Obj)=oN
 have e1:h1.get? e=some oe:=(so.2.1 e ene).trans he;have e2:(h1.push oN).get? e=some oe:=Heap.get?_push_of_some _ e1;have nT:h1.objs.size≠e:=Nat.ne_of_gt (Heap.lt_size e1);have fN:oN.data=.fields ([head,.ref L,.none,rawInt L,.none]++(if pl.isEmpty then List.replicate 6 Value.none else pl)).toArray:=by rw[<-eN]
 have lN:3 < ([head,.ref L,.none,rawInt L,.none]++(if pl.isEmpty then List.replicate 6 Value.none else pl)).toArray.size:=by simp only[List.size_toArray,List.length_append,List.length_cons,List.length_nil];omega
 have dE:=Obj.data_mapFields hd (·.setIfInBounds 1 (Value.ref h1.objs.size))
 have e3:=Heap.get?_update_self (Obj.mapFields (·.setIfInBounds 1 (Value.ref h1.objs.size))) e2 (Obj.isFreed_of_fields dE)
 have t3:((h1.push oN).update e (Obj.mapFields (·.setIfInBounds 1 (Value.ref h1.objs.size)))).get? h1.objs.size=some oN:=(Heap.get?_update_other _ _ (Ne.symm nT)).trans (Heap.get?_push_size h1 (Obj.isFreed_of_fields fN))
 have dT:=Obj.data_mapFields fN (·.setIfInBounds 3 ((none:Option Addr).elim Value.none fun f=>rawInt f))
 refine wpAny_setField e2 hd hsz ?_;unfold setFlight;refine wpAny_bind (wpAny_field e3 dE (x:=.ref h1.objs.size) (by simp[hsz]) ?_)
 rw[if_pos (show(Value.ref h1.objs.size != Value.none)=true by simp)]
 refine wpAny_setField t3 fN lN (h _ ⟨fun b o hb hc' g=>?_,fun b o hb hc' g=>?_⟩ ⟨hne,hHe,_,_,(Heap.get?_update_other _ _ nT).trans e3,(Obj.cls_mapFields _ _).trans hc,(c5q _ _).trans hx,dE,by simpa using hsz,.inr ⟨h1.objs.size,_,_,by simp[hsz],by rw[so.1];exact hn,hH _ (by rw[so.1];exact Nat.le_refl _),nT,Heap.get?_update_self _ t3 (Obj.isFreed_of_fields dT),dT,by simp[Array.getElem?_setIfInBounds,lN]⟩⟩)
 ·have be:b≠e:=fun z=>hc' (by simp[z])
  have b1:h1.get? b=some o:=(so.2.1 b hb).trans g;rw[Heap.get?_update_other _ _ (Nat.ne_of_gt (Heap.lt_size b1)),Heap.get?_update_other _ _ (Ne.symm be)];exact Heap.get?_push_of_some _ b1
 ·have be:b≠e:=fun z=>hc' (by simp[z])
  obtain⟨sl,b1⟩:=so.2.2 b o g;refine⟨sl,?_⟩;rw[Heap.get?_update_other _ _ (Nat.ne_of_gt (Heap.lt_size b1)),Heap.get?_update_other _ _ (Ne.symm be)];exact Heap.get?_push_of_some _ b1
theorem d3n
  (hfr:A.frames=some (env::outer)) (hl:s.heap.FunFrames base (env::outer)) (hf:env.frame=some L) (hn:n<=s.heap.objs.size) (hH:∀a,s.heap.objs.size<=a->H a=none) (fl:FlyX n s.heap H e C dx)
  (h:∀h' ch,(∀b∈ch,n<=b/\H b=none)->LeftX (frs (env::outer)) ch s.heap h'->FlyX n h' H e C dx->Q () { s with heap:=h'}):wpAny M A (noteFrame (.ref e) env) (fun _ s'=>wpAny M A (setFlight (.ref e) none) Q E s') E s:=by
 obtain⟨hne,hHe,oe,vs,he,hc,hx,hd,hsz,h1⟩:=fl;unfold noteFrame;simp only[hf];rcases h1 with h1|⟨T,oT,ts,h1,hnT,hHT,hTe,hT,hdT,h3⟩
 ·refine wpAny_bind (wpAny_field he hd h1 ?_);rw[if_neg (by decide)]
  exact c5r hfr hl hf he hc hx hd hsz hn hne hHe hH fun h' l f=>h h' [e] (fun b m=>by cases List.mem_singleton.1 m;exact⟨hne,hHe⟩) l f
 ·refine wpAny_bind (wpAny_field he hd h1 ?_);rw[if_pos (show(Value.ref T != Value.none)=true by simp)]
  refine wpAny_bind (wpAny_field hT hdT h3 ?_);rw[if_neg (show ¬(Value.none == rawInt L)=true by simp[rawInt])]
  refine wpAny_bind (wpAny_setField hT hdT (Array.getElem?_eq_some_iff.mp h3).1 ?_);have ot:∀b,b≠T->(s.heap.update T (Obj.mapFields (·.setIfInBounds 3 Value.none))).get? b=s.heap.get? b:=fun b z=>Heap.get?_update_other _ _ (Ne.symm z)
  have nr:∀b o,s.heap.get? b=some o->(∀vs,o.data≠.fields vs)->b≠T:=fun b o hb hnf z=>by
   rw[z,hT] at hb;cases hb;exact hnf ts hdT
  refine c5r (s:={ s with heap:=s.heap.update T (Obj.mapFields (·.setIfInBounds 3 Value.none))}) hfr (hl.of_keeps fun b o hb hnf=>⟨o,(ot b (nr b o hb hnf)).trans hb,rfl⟩) hf ((ot e (Ne.symm hTe)).trans he) hc hx hd hsz (by simpa[Heap.size_after_update] using hn) hne hHe (fun a z=>hH a (by simpa[Heap.size_after_update] using z)) fun h' l f=>h h' [e,T] (fun b m=>?_) ⟨fun b o hb hc' g=>?_,fun b o hb hc' g=>?_⟩ f
  ·simp only[List.mem_cons,List.not_mem_nil,or_false] at m;rcases m with rfl|rfl
   ·exact⟨hne,hHe⟩
   ·exact⟨hnT,hHT⟩
  ·simp only[List.mem_cons,List.not_mem_nil,or_false,not_or] at hc';exact l.keep b o hb (by simp[hc'.1]) ((ot b hc'.2).trans g)
  ·simp only[List.mem_cons,List.not_mem_nil,or_false,not_or] at hc';exact l.slot b o hb (by simp[hc'.1]) ((ot b hc'.2).trans g)
theorem d5j
  (hfr:A.frames=some (env::outer)) (hl:s.heap.FunFrames base (env::outer)) (hf:env.frame=some L) (hn:n<=s.heap.objs.size) (hH:∀a,s.heap.objs.size<=a->H a=none) (fl:FlyX n s.heap H e C dx)
  (h:∀h' ch,(∀b∈ch,n<=b/\H b=none)->LeftX (frs (env::outer)) ch s.heap h'->FlyX n h' H e C dx->Q () { s with heap:=h'}):wpAny M A (leaving env (.ref e)) Q E s:=by
 unfold leaving;exact wpAny_bind (d3n hfr hl hf hn hH fl h)
end
inductive D where
 |non|bl (b:Bool)|int (i:Int)|str (x:Str)|ty (n:String)
 |lst (xs:List D)|tup (xs:List D)|dct (kvs:List (TK×D))|scr (ns:List Int)|exc (C:Addr) (l:Option Int)|obj
mutual
def TK.d:TK->D
 |.inl i=>.int i
 |.inr x=>.str x
 |.tp l=>.tup (TK.dl l)
def TK.dl:List TK->List D
 |[]=>[]
 |k::l=>TK.d k::TK.dl l
end
def a6k:D->Option V
 |.non=>some .non
 |.bl b=>some (.bl b)
 |.int i=>some (.int i)
 |.str x=>some (.str x)
 |.ty n=>some (.ty n)
 |_=>none
def excO(C t:Addr)(d:Option Addr):Obj:={ cls:=.ref C,dict:=d,data:=.fields #[.ref t,.none,.none,.none,.bool false,.none]}
def IsX(o:Obj)(C:Addr)(d:Option Addr):Prop:=o.cls=.ref C/\o.dict=d/\∃vs,o.data=.fields vs
def ExcA(F:Hp)(a C:Addr):Option Int->Prop
 |none=>∃o,F a=some (.frz o (.own 0))/\IsX o C none
 |some n=>∃o dx,F a=some (.frz o (.own 0))/\IsX o C (some dx)/\F dx=some (.xd [("line",.int n)])
inductive RepL (K:L2.FG) (F:Hp):List V->List D->Prop
 |nil:RepL K F [] []
 |flat {v:V} {d:D} {vs:List V} {ds:List D}:a6k d=some v->RepL K F vs ds->RepL K F (v::vs) (d::ds)
 |lst {a:Addr} {ws vs:List V} {es ds:List D}:Rd F a (.lst ws)->RepL K F ws es->RepL K F vs ds->RepL K F (.ref a::vs) (.lst es::ds)
 |tup {a:Addr} {ws vs:List V} {es ds:List D}:SqT K F a ws->RepL K F ws es->RepL K F vs ds->RepL K F (.ref a::vs) (.tup es::ds)
 |dct {a:Addr} {kvs:List (TK×V×V)} {es:List (TK×D)} {ep:Nat} {vs:List V} {ds:List D}:F a=some (.dG kvs ep)->kvs.map (·.1)=es.map (·.1)->RepL K F (kvs.map (·.2.1)) (es.map (·.1.d))->RepL K F (kvs.map (·.2.2)) (es.map (·.2))->RepL K F vs ds->RepL K F (.ref a::vs) (.dct es::ds)
 |scr {a:Addr} {ns:List Int} {vs:List V} {ds:List D}:SqL K F a (ns.map V.int)->RepL K F vs ds->RepL K F (.ref a::vs) (.scr ns::ds)
 |exc {a C:Addr} {l:Option Int} {vs:List V} {ds:List D}:ExcA F a C l->RepL K F vs ds->RepL K F (.ref a::vs) (.exc C l::ds)
 |obj {a:Addr} {vs:List V} {ds:List D}:RepL K F vs ds->RepL K F (.ref a::vs) (.obj::ds)
theorem Same.rd{H H':Hp}{a:Addr}{u:HO}(e:Same H H')(h:Rd H a u):Rd H' a u:=by
 rcases h with h|⟨o,h⟩
 ·exact .inl (e _ _ h)
 ·exact .inr ⟨o,e _ _ h⟩
theorem Same.seqT{K:L2.FG}{H H':Hp}{a:Addr}{xs:List V}(e:Same H H')(h:SqT K H a xs):SqT K H' a xs:=by
 rcases h with(h|⟨o,h⟩)|h
 ·exact .inl (.inl (e _ _ h))
 ·exact .inl (.inr ⟨o,e _ _ h⟩)
 ·exact .inr h
section
variable {K:L2.FG} {F F':Hp}
theorem ExcA.mono{F F':Hp}{a C:Addr}{l:Option Int}(s:Same F F')(h:ExcA F a C l):ExcA F' a C l:=by
 cases l with
 |none=>obtain⟨o,e,z⟩:=h;exact⟨o,s _ _ e,z⟩
 |some n=>obtain⟨o,dx,e,z,q⟩:=h;exact⟨o,dx,s _ _ e,z,s _ _ q⟩
theorem RepL.mono(s:Same F F'){vs:List V}{ds:List D}(h:RepL K F vs ds):RepL K F' vs ds:=by
 induction h with
 |nil=>exact .nil
 |flat e _ ih=>exact .flat e ih
 |lst e _ _ i1 i2=>exact .lst (s.rd e) i1 i2
 |tup e _ _ i1 i2=>exact .tup (s.seqT e) i1 i2
 |dct e k _ _ _ i0 i1 i2=>exact .dct (s _ _ e) k i0 i1 i2
 |scr e _ i=>exact .scr (s.seq e) i
 |exc e _ i=>exact .exc (e.mono s) i
 |obj _ i=>exact .obj i
theorem RepL.length{vs:List V}{ds:List D}(h:RepL K F vs ds):vs.length=ds.length:=by
 induction h with
 |nil=>rfl
 |flat _ _ ih=>simp[ih]
 |lst _ _ _ _ ih=>simp[ih]
 |tup _ _ _ _ ih=>simp[ih]
 |dct _ _ _ _ _ _ _ ih=>simp[ih]
 |scr _ _ ih=>simp[ih]
 |exc _ _ ih=>simp[ih]
 |obj _ ih=>simp[ih]
theorem RepL.inv{v:V}{vs:List V}{d:D}{ds:List D}(h:RepL K F (v::vs) (d::ds)):RepL K F [v] [d]/\RepL K F vs ds:=by
 cases h with
 |flat e t=>exact⟨.flat e .nil,t⟩
 |lst e i t=>exact⟨.lst e i .nil,t⟩
 |tup e i t=>exact⟨.tup e i .nil,t⟩
 |dct e k j i t=>exact⟨.dct e k j i .nil,t⟩
 |scr e t=>exact⟨.scr e .nil,t⟩
 |exc e t=>exact⟨.exc e .nil,t⟩
 |obj t=>exact⟨.obj .nil,t⟩
theorem RepL.cons{v:V}{vs:List V}{d:D}{ds:List D}(h:RepL K F [v] [d])(t:RepL K F vs ds):RepL K F (v::vs) (d::ds):=by
 cases h with
 |flat e _=>exact .flat e t
 |lst e i _=>exact .lst e i t
 |tup e i _=>exact .tup e i t
 |dct e k j i _=>exact .dct e k j i t
 |scr e _=>exact .scr e t
 |exc e _=>exact .exc e t
 |obj _=>exact .obj t
theorem RepL.get:∀{vs:List V} {ds:List D} {i:Nat} {d:D},RepL K F vs ds->ds[i]?=some d->∃v,vs[i]?=some v/\RepL K F [v] [d]
 |[],[],i,d,_,e=>by simp at e
 |v::vs,d'::ds,0,d,h,e=>by simp at e;subst e;exact⟨v,rfl,h.inv.1⟩
 |v::vs,d'::ds,i+1,d,h,e=>by
  obtain⟨u,h1,h2⟩:=RepL.get (i:=i) h.inv.2 (by simpa using e)
  exact⟨u,by simpa using h1,h2⟩
 |[],_::_,_,_,h,_=>by have:=h.length;simp at this
 |_::_,[],_,_,h,_=>by have:=h.length;simp at this
theorem RepL.append:∀{vs:List V} {ds:List D} {ws:List V} {es:List D},RepL K F vs ds->RepL K F ws es->RepL K F (vs++ws) (ds++es)
 |[],[],_,_,_,h=>h
 |v::vs,d::ds,_,_,h,t=>.cons h.inv.1 (RepL.append h.inv.2 t)
 |[],_::_,_,_,h,_=>by have:=h.length;simp at this
 |_::_,[],_,_,h,_=>by have:=h.length;simp at this
theorem RepL.take:∀{vs:List V} {ds:List D} (n:Nat),RepL K F vs ds->RepL K F (vs.take n) (ds.take n)
 |[],[],_,_=>by simp;exact .nil
 |v::vs,d::ds,0,_=>.nil
 |v::vs,d::ds,n+1,h=>.cons h.inv.1 (RepL.take n h.inv.2)
 |[],_::_,_,h=>by have:=h.length;simp at this
 |_::_,[],_,h=>by have:=h.length;simp at this
theorem RepL.drop:∀{vs:List V} {ds:List D} (n:Nat),RepL K F vs ds->RepL K F (vs.drop n) (ds.drop n)
 |[],[],_,_=>by simp;exact .nil
 |v::vs,d::ds,0,h=>h
 |v::vs,d::ds,n+1,h=>by simpa using RepL.drop n h.inv.2
 |[],_::_,_,h=>by have:=h.length;simp at this
 |_::_,[],_,h=>by have:=h.length;simp at this
end
inductive O where
 |frz (d:D)|lst (xs:List O)|tup (xs:List O)|dct (kvs:List (TK×O))|ins (C:Addr) (ns:List Str) (ps:List O)
abbrev Gm:=List (Option O)
inductive OwnL (K:L2.FG) (F H:Hp):St->Gm->List Addr->Prop
 |nil:OwnL K F H [] [] []
 |skip {x:Option V} {σ:St} {Γ:Gm} {B:List Addr}:OwnL K F H σ Γ B->OwnL K F H (x::σ) (none::Γ) B
 |frz {v:V} {d:D} {σ:St} {Γ:Gm} {B:List Addr}:RepL K F [v] [d]->OwnL K F H σ Γ B->OwnL K F H (some v::σ) (some (.frz d)::Γ) B
 |lst {a:Addr} {ws:List V} {ps:List O} {A B:List Addr} {σ:St} {Γ:Gm}:H a=some (.lst ws)->OwnL K F H (ws.map some) (ps.map some) A->OwnL K F H σ Γ B->OwnL K F H (some (.ref a)::σ) (some (.lst ps)::Γ) (a::A++B)
 |tup {a:Addr} {ws:List V} {ps:List O} {A B:List Addr} {σ:St} {Γ:Gm}:H a=some (.tup ws)->OwnL K F H (ws.map some) (ps.map some) A->OwnL K F H σ Γ B->OwnL K F H (some (.ref a)::σ) (some (.tup ps)::Γ) (a::A++B)
 |dct {a:Addr} {kvs:List (TK×V×V)} {ps:List (TK×O)} {ep:Nat} {A B:List Addr} {σ:St} {Γ:Gm}:H a=some (.dG kvs ep)->kvs.map (·.1)=ps.map (·.1)->RepL K F (kvs.map (·.2.1)) (ps.map (·.1.d))->OwnL K F H (kvs.map fun p=>some p.2.2) (ps.map fun p=>some p.2) A->OwnL K F H σ Γ B->
   OwnL K F H (some (.ref a)::σ) (some (.dct ps)::Γ) (a::A++B)
  |ins {a dx C:Addr} {fs:List (Str×V)} {ns:List Str} {ps:List O} {A B:List Addr} {σ:St} {Γ:Gm}:H a=some (.ins C dx fs)->H dx=some (.own a)->fs.map (·.1)=ns.take ps.length->OwnL K F H (fs.map fun p=>some p.2) (ps.map some) A->OwnL K F H σ Γ B->
   OwnL K F H (some (.ref a)::σ) (some (.ins C ns ps)::Γ) (a::dx::A++B)
section
variable {K:L2.FG} {F F' H H':Hp} {σ τ:St} {Γ Θ:Gm} {A B:List Addr}
theorem OwnL.keep(h:OwnL K F H σ Γ A)(s:Same F F')(k:∀a∈A,∀o,H a=some o->H' a=some o):OwnL K F' H' σ Γ A:=by
 induction h with
 |nil=>exact .nil
 |skip _ ih=>exact .skip (ih k)
 |frz r _ ih=>exact .frz (r.mono s) (ih k)
 |lst e _ _ i1 i2=>exact .lst (k _ (by simp) _ e) (i1 fun a ha=>k a (by simp[ha])) (i2 fun a ha=>k a (by simp[ha]))
 |tup e _ _ i1 i2=>exact .tup (k _ (by simp) _ e) (i1 fun a ha=>k a (by simp[ha])) (i2 fun a ha=>k a (by simp[ha]))
 |dct e q r _ _ i1 i2=>exact .dct (k _ (by simp) _ e) q (r.mono s) (i1 fun a ha=>k a (by simp[ha])) (i2 fun a ha=>k a (by simp[ha]))
 |ins e d q _ _ i1 i2=>exact .ins (k _ (by simp) _ e) (k _ (by simp) _ d) q (i1 fun a ha=>k a (by simp[ha])) (i2 fun a ha=>k a (by simp[ha]))
theorem OwnL.there(h:OwnL K F H σ Γ A):∀a∈A,H a≠none:=by
 induction h with
 |nil=>intro a ha;cases ha
 |skip _ ih=>exact ih
 |frz _ _ ih=>exact ih
 |lst e _ _ i1 i2=>
  intro a ha;rcases List.mem_cons.mp ha with rfl|ha
  ·rw[e];exact fun z=>by cases z
  ·rcases List.mem_append.mp ha with ha|ha
   ·exact i1 a ha
   ·exact i2 a ha
 |tup e _ _ i1 i2=>
  intro a ha;rcases List.mem_cons.mp ha with rfl|ha
  ·rw[e];exact fun z=>by cases z
  ·rcases List.mem_append.mp ha with ha|ha
   ·exact i1 a ha
   ·exact i2 a ha
 |dct e _ _ _ _ i1 i2=>
  intro a ha;rcases List.mem_cons.mp ha with rfl|ha
  ·rw[e];exact fun z=>by cases z
  ·rcases List.mem_append.mp ha with ha|ha
   ·exact i1 a ha
   ·exact i2 a ha
 |ins e d _ _ _ i1 i2=>
  intro a ha;simp only[List.cons_append,List.mem_cons,List.mem_append] at ha;rcases ha with rfl|rfl|ha|ha
  ·rw[e];exact fun z=>by cases z
  ·rw[d];exact fun z=>by cases z
  ·exact i1 a ha
  ·exact i2 a ha
theorem OwnL.length(h:OwnL K F H σ Γ A):σ.length=Γ.length:=by
 induction h <;> simp_all
theorem OwnL.app(h:OwnL K F H τ Θ B)(t:OwnL K F H σ Γ A):OwnL K F H (τ++σ) (Θ++Γ) (B++A):=by
 induction h with
 |nil=>exact t
 |skip _ ih=>exact .skip ih
 |frz r _ ih=>exact .frz r ih
 |lst e i _ _ ih=>simp only[List.cons_append,List.append_assoc];exact .lst e i ih
 |tup e i _ _ ih=>simp only[List.cons_append,List.append_assoc];exact .tup e i ih
 |dct e q r i _ _ ih=>simp only[List.cons_append,List.append_assoc];exact .dct e q r i ih
 |ins e d q i _ _ ih=>simp only[List.cons_append,List.append_assoc];exact .ins e d q i ih
theorem OwnL.split:∀{τ:St} {Θ:Gm} {A:List Addr},τ.length=Θ.length->OwnL K F H (τ++σ) (Θ++Γ) A->∃B C,OwnL K F H τ Θ B/\OwnL K F H σ Γ C/\A=B++C
 |[],[],A,_,h=>⟨[],A,.nil,h,rfl⟩
 |[],_::_,_,e,_=>by simp at e
 |_::_,[],_,e,_=>by simp at e
 |x::τ,y::Θ,A,e,h=>by
  have e':τ.length=Θ.length:=by simpa using e
  cases h with
  |skip t=>obtain⟨B,C,h1,h2,h3⟩:=OwnL.split e' t;exact⟨B,C,.skip h1,h2,h3⟩
  |frz r t=>obtain⟨B,C,h1,h2,h3⟩:=OwnL.split e' t;exact⟨B,C,.frz r h1,h2,h3⟩
  |lst q i t=>obtain⟨B,C,h1,h2,h3⟩:=OwnL.split e' t;subst h3;exact⟨_,C,.lst q i h1,h2,by simp⟩
  |tup q i t=>obtain⟨B,C,h1,h2,h3⟩:=OwnL.split e' t;subst h3;exact⟨_,C,.tup q i h1,h2,by simp⟩
  |dct q z r i t=>obtain⟨B,C,h1,h2,h3⟩:=OwnL.split e' t;subst h3;exact⟨_,C,.dct q z r i h1,h2,by simp⟩
  |ins q d z i t=>obtain⟨B,C,h1,h2,h3⟩:=OwnL.split e' t;subst h3;exact⟨_,C,.ins q d z i h1,h2,by simp⟩
theorem OwnL.one{x:Option V}{y:Option O}(h:OwnL K F H (x::σ) (y::Γ) A):∃B C,OwnL K F H [x] [y] B/\OwnL K F H σ Γ C/\A=B++C:=OwnL.split (τ:=[x]) (Θ:=[y]) rfl h
theorem OwnL.take:∀{σ:St} {Γ:Gm} {A:List Addr} {i:Nat} {o:O},OwnL K F H σ Γ A->Γ[i]?=some (some o)->∃v Ai B,σ[i]?=some (some v)/\OwnL K F H [some v] [some o] Ai/\OwnL K F H σ (Γ.set i none) B/\A.Perm (Ai++B)
 |_,[],_,_,_,_,e=>by simp at e
 |[],_::_,_,_,_,h,_=>by have:=h.length;simp at this
 |x::σ,y::Γ,A,0,o,h,e=>by
  have e:y=some o:=by simpa using e
  subst e;obtain⟨B,C,h1,h2,h3⟩:=h.one;cases x with
  |none=>cases h1
  |some v=>exact⟨v,B,C,rfl,h1,.skip h2,by rw[h3]⟩
 |x::σ,y::Γ,A,i+1,o,h,e=>by
  obtain⟨B,C,h1,h2,h3⟩:=h.one;obtain⟨v,Ai,B',g1,g2,g3,g4⟩:=OwnL.take (i:=i) h2 (by simpa using e)
  refine⟨v,Ai,B++B',by simpa using g1,g2,h1.app g3,?_⟩
  subst h3;exact(List.Perm.append_left B g4).trans (by rw[<-List.append_assoc,<-List.append_assoc];exact(List.perm_append_comm).append_right _)
theorem OwnL.forget:∀{σ:St} {Γ:Gm} {A:List Addr} (i:Nat),OwnL K F H σ Γ A->∃B,OwnL K F H σ (Γ.set i none) B/\B.Sublist A
 |σ,[],A,i,h=>⟨A,by simpa using h,List.Sublist.refl _⟩
 |[],_::_,_,_,h=>by have:=h.length;simp at this
 |x::σ,y::Γ,A,0,h=>by
  obtain⟨B,C,h1,h2,h3⟩:=h.one;subst h3;exact⟨C,.skip h2,List.sublist_append_right _ _⟩
 |x::σ,y::Γ,A,i+1,h=>by
  obtain⟨B,C,h1,h2,h3⟩:=h.one;obtain⟨B',g1,g2⟩:=OwnL.forget i h2;subst h3;exact⟨B++B',h1.app g1,g2.append_left _⟩
theorem OwnL.put{v:V}{o:O}{Ai:List Addr}(q:OwnL K F H [some v] [some o] Ai):∀{σ:St} {Γ:Gm} {A:List Addr} (i:Nat),OwnL K F H σ Γ A->i < Γ.length->∃B,OwnL K F H (σ.set i (some v)) (Γ.set i (some o)) B/\∃C,B.Perm (Ai++C)/\C.Sublist A
 |_,[],_,_,_,hi=>by simp at hi
 |[],_::_,_,_,h,_=>by have:=h.length;simp at this
 |x::σ,y::Γ,A,0,h,hi=>by
  obtain⟨B,C,h1,h2,h3⟩:=h.one;subst h3;exact⟨Ai++C,q.app h2,C,.refl _,List.sublist_append_right _ _⟩
 |x::σ,y::Γ,A,i+1,h,hi=>by
  obtain⟨B,C,h1,h2,h3⟩:=h.one;obtain⟨B',g1,C',g2,g3⟩:=OwnL.put q i h2 (by simpa using hi)
  subst h3;refine⟨B++B',h1.app g1,B++C',?_,g3.append_left _⟩;exact(List.Perm.append_left B g2).trans (by rw[<-List.append_assoc,<-List.append_assoc];exact(List.perm_append_comm).append_right _)
theorem OwnL.loose{v:Option V}:∀{σ:St} {Γ:Gm} {A:List Addr} {i:Nat},OwnL K F H σ Γ A->Γ[i]?=some none->OwnL K F H (σ.set i v) Γ A
 |_,[],_,_,_,e=>by simp at e
 |[],_::_,_,_,h,_=>by have:=h.length;simp at this
 |x::σ,y::Γ,A,0,h,e=>by
  have e:y=none:=by simpa using e
  subst e;cases h with
  |skip t=>exact .skip t
 |x::σ,y::Γ,A,i+1,h,e=>by
  obtain⟨B,C,h1,h2,h3⟩:=h.one;subst h3;exact h1.app (OwnL.loose (i:=i) h2 (by simpa using e))
end
structure OK (K:L2.FG) (F H:Hp) (σ:St) (Γ:Gm) (A:List Addr):Prop where
 le:Same F H
 os:OwnL K F H σ Γ A
 nd:A.Nodup
 fr:∀a∈A,F a=none
def Att(H H':Hp):Prop:=∀a C dx fs,H a=some (.ins C dx fs)->∃fs',H' a=some (.ins C dx fs')/\∀(j:Nat) f p,fs[j]?=some (f,V.ref p)->fs'[j]?=some (f,V.ref p)
theorem Att.same{H H':Hp}(s:Same H H'):Att H H':=fun a _ _ _ e=>⟨_,s a _ e,fun _ _ _ z=>z⟩
theorem Att.trans{H H1 H2:Hp}(x:Att H H1)(y:Att H1 H2):Att H H2:=fun a C dx fs e=>by
 obtain⟨fs1,e1,z1⟩:=x a C dx fs e;obtain⟨fs2,e2,z2⟩:=y a C dx fs1 e1;exact⟨fs2,e2,fun j f p q=>z2 j f p (z1 j f p q)⟩
theorem Att.upd{H:Hp}{l:Addr}{o:HO}(h:∀C dx fs,H l≠some (.ins C dx fs)):Att H (upd H l o):=fun a C dx fs e=>by
 by_cases z:a=l
 ·subst z;exact absurd e (h C dx fs)
 ·exact⟨fs,by rw[a0v z];exact e,fun _ _ _ q=>q⟩
structure Ext (F H:Hp) (A:List Addr) (F' H':Hp) (A':List Addr):Prop where
 ff:Same F F'
 keep:∀a o,H a=some o->a∉A->H' a=some o
 dom:∀a,H a≠none->H' a≠none
 new:∀a,F' a≠none->F a≠none\/a∈A\/H a=none
 own:∀a∈A',a∈A\/H a=none
 att:Att H H'
section
variable {K:L2.FG} {F F' F1 F2 H H' H1 H2:Hp} {σ σ' τ:St} {Γ Γ' Θ:Gm} {A A' A1 A2 B C:List Addr}
theorem Ext.refl:Ext F H A F H A:=⟨Same.refl _,fun _ _ e _=>e,fun _ h=>h,fun _ h=>.inl h,fun _ h=>.inl h,.same (Same.refl _)⟩
theorem Ext.trans(x:Ext F H A F1 H1 A1)(y:Ext F1 H1 A1 F2 H2 A2):Ext F H A F2 H2 A2 where
 ff:=x.ff.trans y.ff
 keep:=fun a o e n=>y.keep a o (x.keep a o e n) fun m=>by
  rcases x.own a m with z|z
  ·exact n z
  ·rw[e] at z;cases z
 dom:=fun a h=>y.dom a (x.dom a h)
 new:=fun a h=>by
  rcases y.new a h with z|z|z
  ·exact x.new a z
  ·exact .inr (x.own a z)
  ·exact .inr (.inr (Classical.byContradiction fun q=>x.dom a q z))
 own:=fun a h=>by
  rcases y.own a h with z|z
  ·exact x.own a z
  ·exact .inr (Classical.byContradiction fun q=>x.dom a q z)
 att:=x.att.trans y.att
theorem Ext.own'(x:Ext F H A F' H' A')(h:∀a∈B,a∈A'):Ext F H A F' H' B:=⟨x.ff,x.keep,x.dom,x.new,fun a m=>x.own a (h a m),x.att⟩
theorem OK.perm(k:OwnL K F H σ Γ A)(le:Same F H)(nd:B.Nodup)(fr:∀a∈B,F a=none)(p:A.Perm B):OK K F H σ Γ A:=⟨le,k,p.nodup_iff.mpr nd,fun a m=>fr a (p.mem_iff.mp m)⟩
theorem OK.frameAt(k:OK K F H (τ++σ) (Θ++Γ) (B++C))(h1:OwnL K F H τ Θ B)(h2:OwnL K F H σ Γ C):OK K F H σ Γ C/\∀F' H' σ' Γ' A',Ext F H C F' H' A'->OK K F' H' σ' Γ' A'->∃A'',Ext F H (B++C) F' H' A''/\OK K F' H' (τ++σ') (Θ++Γ') A'':=by
 obtain⟨n1,n2,n3⟩:=List.nodup_append.mp k.nd;have nB:∀a∈B,a∉C:=fun a h1 h2=>n3 a h1 a h2 rfl
 refine⟨⟨k.le,h2,n2,fun a m=>k.fr a (List.mem_append_right _ m)⟩,fun F' H' σ' Γ' A' x k'=>?_⟩
 have hB:∀a∈B,F' a=none:=fun a m=>by
  cases e:F' a with
  |none=>rfl
  |some o=>
   rcases x.new a (by rw[e];exact fun z=>by cases z) with z|z|z
   ·exact absurd (k.fr a (List.mem_append_left _ m)) z
   ·exact absurd z (nB a m)
   ·exact absurd z (h1.there a m)
 refine⟨B++A',⟨x.ff,fun a o e n=>x.keep a o e fun m=>n (List.mem_append_right _ m),x.dom,fun a h=>?_,fun a m=>?_,x.att⟩,k'.le,(h1.keep x.ff fun a m o e=>x.keep a o e (nB a m)).app k'.os,?_,?_⟩
 ·rcases x.new a h with z|z|z
  ·exact .inl z
  ·exact .inr (.inl (List.mem_append_right _ z))
  ·exact .inr (.inr z)
 ·rcases List.mem_append.mp m with m|m
  ·exact .inl (List.mem_append_left _ m)
  ·rcases x.own a m with z|z
   ·exact .inl (List.mem_append_right _ z)
   ·exact .inr z
 ·refine List.nodup_append.mpr ⟨n1,k'.nd,fun a m b m' e=>?_⟩
  subst e;rcases x.own a m' with z|z
  ·exact nB a m z
  ·exact h1.there a m z
 ·intro a m;rcases List.mem_append.mp m with m|m
  ·exact hB a m
  ·exact k'.fr a m
theorem OK.frame(k:OK K F H (τ++σ) (Θ++Γ) A)(hl:τ.length=Θ.length):∃C,OK K F H σ Γ C/\∀F' H' σ' Γ' A',Ext F H C F' H' A'->OK K F' H' σ' Γ' A'->∃A'',Ext F H A F' H' A''/\OK K F' H' (τ++σ') (Θ++Γ') A'':=by
 obtain⟨B,C,h1,h2,h3⟩:=OwnL.split hl k.os;subst h3;exact⟨C,k.frameAt h1 h2⟩
theorem OK.swap(k:OK K F H (τ++σ) (Θ++Γ) A)(hl:τ.length=Θ.length):∃B,B.Perm A/\OK K F H (σ++τ) (Γ++Θ) B:=by
 obtain⟨B,C,h1,h2,h3⟩:=OwnL.split hl k.os;subst h3;exact⟨C++B,List.perm_append_comm,.perm (h2.app h1) k.le k.nd k.fr List.perm_append_comm⟩
theorem OK.part(k:OK K F H (τ++σ) (Θ++Γ) A)(hl:τ.length=Θ.length):∃B,OK K F H σ Γ B/\∀a∈B,a∈A:=by
 obtain⟨B,C,h1,h2,h3⟩:=OwnL.split hl k.os;subst h3;exact⟨C,⟨k.le,h2,(List.nodup_append.mp k.nd).2.1,fun a m=>k.fr a (List.mem_append_right _ m)⟩,fun a m=>List.mem_append_right _ m⟩
theorem OK.push{v:V}{o:O}{Av:List Addr}(k:OK K F H σ Γ A)(s:Same H H')(q:OwnL K F H' [some v] [some o] Av)(nd:Av.Nodup)(fresh:∀a∈Av,H a=none):
  OK K F H' (some v::σ) (some o::Γ) (Av++A)/\Ext F H A F H' (Av++A):=by
 have ne:∀a∈Av,a∉A:=fun a m z=>k.os.there a z (fresh a m)
 refine⟨⟨k.le.trans s,q.app (k.os.keep (Same.refl _) fun a _ o e=>s a o e),List.nodup_append.mpr ⟨nd,k.nd,fun a m b m' e=>?_⟩,fun a m=>?_⟩,Same.refl _,fun a o e _=>s a o e,fun a h z=>?_,fun a h=>.inl h,fun a m=>?_,.same s⟩
 ·subst e;exact ne a m m'
 ·rcases List.mem_append.mp m with m|m
  ·exact k.le.free (fresh a m)
  ·exact k.fr a m
 ·exact h (s.free z)
 ·rcases List.mem_append.mp m with m|m
  ·exact .inr (fresh a m)
  ·exact .inl m
end
inductive R where
 |own (o:O)|var (i:Nat)|fld (i j:Nat)
def R.o:R->Option O
 |.own o=>some o
 |_=>none
abbrev GE:=Gm->Option (R×Gm)
abbrev GA:=Gm->Option (List R×Gm)
abbrev GT:=Gm->Option (Bool×Gm)
def HFld(σ:St)(H:Hp)(i j:Nat)(v:V):Prop:=∃a C dx fs f p,σ[i]?=some (some (.ref a))/\H a=some (.ins C dx fs)/\fs[j]?=some (f,v)/\v=.ref p
def Held(σ:St)(H:Hp):List R->List V->Prop
 |[],[]=>True
 |.own _::rs,_::vs=>Held σ H rs vs
 |.var i::rs,v::vs=>σ[i]?=some (some v)/\Held σ H rs vs
 |.fld i j::rs,v::vs=>HFld σ H i j v/\Held σ H rs vs
 |_,_=>False
def Post(K:L2.FG)(F H:Hp)(A:List Addr)(σ:St)(Γ':Gm)(rs:List R)(vs:List V)(H':Hp):Prop:=
 ∃F' A',Ext F H A F' H' A'/\OK K F' H' (vs.map some++σ) (rs.map R.o++Γ') A'/\Held σ H' rs vs
def tG(K:L2.FG)(f:GE):TE:=fun σ H Q=>∃F A Γ r Γ',OK K F H σ Γ A/\f Γ=some (r,Γ')/\∀v H',Post K F H A σ Γ' [r] [v] H'->Q v H'
def tGA(K:L2.FG)(f:GA):TA:=fun σ H Q=>∃F A Γ rs Γ',OK K F H σ Γ A/\f Γ=some (rs,Γ')/\∀vs H',Post K F H A σ Γ' rs vs H'->Q vs H'
def tGT(K:L2.FG)(f:GT):TT:=fun σ H Q=>∃F A Γ b Γ',OK K F H σ Γ A/\f Γ=some (b,Γ')/\∀H',Post K F H A σ Γ' [] [] H'->Q b H'
theorem Held.length:∀{σ:St} {H:Hp} {rs:List R} {vs:List V},Held σ H rs vs->rs.length=vs.length
 |_,_,[],[],_=>rfl
 |_,_,.own _::rs,_::vs,h=>by simp[Held.length (σ:=_) (H:=_) (rs:=rs) (vs:=vs) h]
 |_,_,.var _::rs,_::vs,h=>by simp[Held.length (σ:=_) (H:=_) (rs:=rs) (vs:=vs) h.2]
 |_,_,.fld _ _::rs,_::vs,h=>by simp[Held.length (σ:=_) (H:=_) (rs:=rs) (vs:=vs) h.2]
 |_,_,[],_::_,h=>h.elim
 |_,_,.own _::_,[],h=>h.elim
 |_,_,.var _::_,[],h=>h.elim
 |_,_,.fld _ _::_,[],h=>h.elim
theorem HFld.att{σ:St}{H H':Hp}{i j:Nat}{v:V}(h:HFld σ H i j v)(x:Att H H'):HFld σ H' i j v:=by
 obtain⟨a,C,dx,fs,f,p,h1,h2,h3,rfl⟩:=h;obtain⟨fs',e,z⟩:=x a C dx fs h2;exact⟨a,C,dx,fs',f,p,h1,e,z j f p h3,rfl⟩
theorem Held.att:∀{σ:St} {H H':Hp} {rs:List R} {vs:List V},Held σ H rs vs->Att H H'->Held σ H' rs vs
 |_,_,_,[],[],_,_=>True.intro
 |_,_,_,.own _::rs,_::vs,h,x=>Held.att (rs:=rs) (vs:=vs) h x
 |_,_,_,.var _::rs,_::vs,h,x=>⟨h.1,Held.att (rs:=rs) (vs:=vs) h.2 x⟩
 |_,_,_,.fld _ _::rs,_::vs,h,x=>⟨h.1.att x,Held.att (rs:=rs) (vs:=vs) h.2 x⟩
 |_,_,_,[],_::_,h,_=>h.elim
 |_,_,_,.own _::_,[],h,_=>h.elim
 |_,_,_,.var _::_,[],h,_=>h.elim
 |_,_,_,.fld _ _::_,[],h,_=>h.elim
theorem Held.one{σ:St}{H:Hp}{r:R}{vs:List V}{rs:List R}{v:V}(h:Held σ H [r] [v])(t:Held σ H rs vs):Held σ H (r::rs) (v::vs):=by
 cases r with
 |own o=>exact t
 |var i=>exact⟨h.1,t⟩
 |fld i j=>exact⟨h.1,t⟩
theorem PE.mono{X:Cx}{e:Expr}{t t':TE}(h:PE X e t)(m:∀σ H Q,t' σ H Q->t σ H Q):PE X e t':=fun pins s σ H Q I q=>h pins s σ H Q I (m _ _ _ q)
theorem PT.mono{X:Cx}{e:Expr}{t t':TT}(h:PT X e t)(m:∀σ H Q,t' σ H Q->t σ H Q):PT X e t':=fun pins s σ H Q I q=>h pins s σ H Q I (m _ _ _ q)
theorem PW.mono{X:Cx}{e:Expr}{t t':TT}(h:PW X e t)(m:∀σ H Q,t' σ H Q->t σ H Q):PW X e t':=fun wh pins s σ H Q I q=>h wh pins s σ H Q I (m _ _ _ q)
theorem PA.mono{X:Cx}{e:List Expr}{t t':TA}(h:PA X e t)(m:∀σ H Q,t' σ H Q->t σ H Q):PA X e t':=fun pos pins s σ H Q I q=>h pos pins s σ H Q I (m _ _ _ q)
theorem PS.mono{X:Cx}{e:Stmt}{t t':TS}(h:PS X e t)(m:∀D σ H,t' D σ H->t D σ H):PS X e t':=fun pins s σ H D I q=>h pins s σ H D I (m _ _ _ q)
theorem PSs.mono{X:Cx}{e:List Stmt}{t t':TS}(h:PSs X e t)(m:∀D σ H,t' D σ H->t D σ H):PSs X e t':=fun pins s σ H D I q=>h pins s σ H D I (m _ _ _ q)
section
variable {K:L2.FG} {F H:Hp} {A:List Addr} {σ:St} {Γ Γ':Gm}
def seeR(Γ:Gm):R->Option O
 |.own o=>some o
 |.var i=>(Γ[i]?).join
 |.fld i j=>match Γ[i]? with
  |some (some (.ins _ _ ps))=>ps[j]?
  |_=>none
def seeL(Γ:Gm):List R->Option (List O)
 |[]=>some []
 |r::rs=>(seeR Γ r).bind fun o=>(seeL Γ rs).bind fun os=>some (o::os)
def Sees(K:L2.FG)(F H:Hp):List V->List O->Prop:=Paired fun v o=>∃B,OwnL K F H [some v] [some o] B
theorem b6b:∀{rs:List R} {vs:List V} {os:List O} {B:List Addr},OwnL K F H σ Γ A->OwnL K F H (vs.map some) (rs.map R.o) B->Held σ H rs vs->seeL Γ rs=some os->Sees K F H vs os
 |[],[],os,_,_,_,_,e=>by cases e;exact .nil
 |r::rs,v::vs,os,B,k,h,hh,e=>by
  obtain⟨B1,C1,h1,h2,_⟩:=OwnL.one h;unfold seeL at e;cases e1:seeR Γ r with
  |none=>rw[e1] at e;cases e
  |some o=>
   rw[e1] at e;cases e2:seeL Γ rs with
   |none=>rw[e2] at e;cases e
   |some os'=>
    rw[e2] at e;cases e;cases r with
    |own o'=>cases e1;exact .cons ⟨_,h1⟩ (b6b k h2 hh e2)
    |var i=>
     have e3:Γ[i]?=some (some o):=by
      have:(Γ[i]?).join=some o:=e1;cases q:Γ[i]? with
      |none=>rw[q] at this;cases this
      |some z=>rw[q] at this;exact congrArg some this
     obtain⟨v',Ai,B',g1,g2,_⟩:=k.take e3;have:=hh.1;rw[g1] at this;cases this;exact .cons ⟨_,g2⟩ (b6b k h2 hh.2 e2)
    |fld i j=>
     obtain⟨⟨a,C,dx,fs,f,p,h3,h4,h5,h6⟩,hh2⟩:=hh;unfold seeR at e1;dsimp only at e1;split at e1
     ·rename_i C' ns ps e3
      obtain⟨v',Ai,B',g1,g2,_⟩:=k.take e3;rw[h3] at g1;cases g1;cases g2 with
      |ins q1 q2 q3 q4 _=>
       rw[h4] at q1;cases q1;obtain⟨v2,A2,B2,j1,j2,_⟩:=q4.take (i:=j) (o:=o) (by rw[List.getElem?_map,e1];rfl)
       rw[List.getElem?_map,h5] at j1;cases j1;exact .cons ⟨_,j2⟩ (b6b k h2 hh2 e2)
     ·cases e1
 |[],_::_,_,_,_,_,h,_=>h.elim
 |.own _::_,[],_,_,_,_,h,_=>h.elim
 |.var _::_,[],_,_,_,_,h,_=>h.elim
 |.fld _ _::_,[],_,_,_,_,h,_=>h.elim
def Res(K:L2.FG)(F H:Hp)(o:O)(Q:VK):Prop:=∀v H' Av,Same H H'->OwnL K F H' [some v] [some o] Av->Av.Nodup->(∀a∈Av,H a=none)->Q v H'
theorem Post.res{rs:List R}{vs:List V}{H1:Hp}{os:List O}{o:O}{Q:VK}(h:Post K F H A σ Γ' rs vs H1)(e:seeL Γ' rs=some os)(q:∀v H',Post K F H A σ Γ' [.own o] [v] H'->Q v H'):
  ∃F1,Same F1 H1/\Sees K F1 H1 vs os/\Res K F1 H1 o Q:=by
 obtain⟨F1,A1,x,k,hh⟩:=h;have hl:(vs.map some).length=(rs.map R.o).length:=by rw[List.length_map,List.length_map,hh.length]
 obtain⟨B,C,h1,h2,h3⟩:=OwnL.split hl k.os;refine⟨F1,k.le,b6b h2 h1 hh e,fun v H' Av s w nd fresh=>q v H' ?_⟩
 obtain⟨B',kB,sub⟩:=k.part hl;obtain⟨k2,x2⟩:=kB.push s w nd fresh;exact⟨F1,Av++B',x.trans ((Ext.own' Ext.refl sub).trans x2),k2,True.intro⟩
theorem Res.flat{d:D}{v:V}{Q:VK}(h:Res K F H (.frz d) Q)(e:a6k d=some v):Q v H:=h v H [] (Same.refl _) (.frz (.flat e .nil) .nil) .nil (fun _ m=>by cases m)
theorem Res.frz{d:D}{v:V}{Q:VK}(h:Res K F H (.frz d) Q)(e:RepL K F [v] [d]):Q v H:=h v H [] (Same.refl _) (.frz e .nil) .nil (fun _ m=>by cases m)
end
noncomputable def gC(d:D):GE:=fun Γ=>some (.own (.frz d),Γ)
noncomputable def gVar(i:Nat):GE:=fun Γ=>match Γ[i]? with
 |some (some (.frz d))=>some (.own (.frz d),Γ)
 |some (some _)=>some (.var i,Γ)
 |_=>none
section
variable {X:Cx} {K:L2.FG} {e a b:Expr} {es:List Expr} {fa fb:GE} {fs:GA} {pos:Pos}
theorem a0r{v:V}{d:D}(h:PE X e (tC v))(q:a6k d=some v:=by rfl):PE X e (tG K (gC d)):=h.mono fun σ H Q t=>by
 obtain⟨F,A,Γ,r,Γ',k,e,w⟩:=t;cases e;obtain⟨k2,x⟩:=k.push (v:=v) (o:=.frz d) (Av:=[]) (Same.refl _) (.frz (.flat q .nil) .nil) .nil (fun _ m=>by cases m)
 exact w v H ⟨F,_,x,k2,True.intro⟩
theorem a0b{i:Nat}(h:PE X e (tVar i)):PE X e (tG K (gVar i)):=h.mono fun σ H Q t=>by
 obtain⟨F,A,Γ,r,Γ',k,e,w⟩:=t;unfold gVar at e;cases q:Γ[i]? with
 |none=>rw[q] at e;cases e
 |some z=>
  cases z with
  |none=>rw[q] at e;cases e
  |some o=>
   rw[q] at e;obtain⟨v,Ai,B,g1,g2,g3,g4⟩:=k.os.take q;refine⟨v,g1,w v H ?_⟩;cases o with
   |frz d=>
    cases e;cases g2 with
    |frz rp _=>
     obtain⟨k2,x⟩:=k.push (v:=v) (o:=.frz d) (Av:=[]) (Same.refl _) (.frz rp .nil) .nil (fun _ m=>by cases m)
     exact⟨F,_,x,k2,True.intro⟩
   |_=>
    cases e;exact⟨F,A,Ext.refl,⟨k.le,.skip k.os,k.nd,k.fr⟩,g1,True.intro⟩
noncomputable def gaNil:GA:=fun Γ=>some ([],Γ)
def a0c(f:GE)(g:GA):GA:=fun Γ=>(f Γ).bind fun p=>(g p.2).bind fun q=>some (p.1::q.1,q.2)
theorem b5c{f:GE}{g:GA}{Γ Γ':Gm}{rs:List R}(e:a0c f g Γ=some (rs,Γ')):∃r Γ1 rs',f Γ=some (r,Γ1)/\g Γ1=some (rs',Γ')/\rs=r::rs':=by
 unfold a0c at e;cases e1:f Γ with
 |none=>rw[e1] at e;cases e
 |some p=>
  rw[e1] at e;dsimp only[Option.bind] at e;cases e2:g p.2 with
  |none=>rw[e2] at e;cases e
  |some q=>rw[e2] at e;cases e;exact⟨p.1,p.2,q.1,rfl,e2,rfl⟩
theorem a0i:PA X [] (tGA K gaNil):=pa_nil.mono fun σ H Q t=>by
 obtain⟨F,A,Γ,r,Γ',k,e,w⟩:=t;cases e;exact w [] H ⟨F,A,Ext.refl,k,True.intro⟩
theorem a7l{σ:St}{H:Hp}{Q:List V->Hp->Prop}(t:tGA K (a0c fa fs) σ H Q):tCons (tG K fa) (tGA K fs) σ H Q:=by
 obtain⟨F,A,Γ,r,Γ',k,e,w⟩:=t;obtain⟨r1,Γ1,rs,e1,e2,rfl⟩:=b5c e;refine⟨F,A,Γ,r1,Γ1,k,e1,fun v H1 p=>?_⟩
 obtain⟨F1,A1,x,k1,hh⟩:=id p;obtain⟨C,kC,fr⟩:=OK.frame (τ:=[some v]) (Θ:=[r1.o]) k1 rfl;refine⟨F1,C,Γ1,rs,Γ',kC,e2,fun vs H2 p2=>w (v::vs) H2 ?_⟩
 obtain⟨F2,A2,x2,k2,h2⟩:=p2;obtain⟨A3,x3,k3⟩:=fr _ _ _ _ _ x2 k2;exact⟨F2,A3,x.trans x3,k3,Held.one (hh.att x2.att) h2⟩
theorem a0a(ha:PE X e (tG K fa))(hs:PA X es (tGA K fs))(hp:starEach (e::es) X.env=(false,eval e X.env)::starEach es X.env:=by rfl):PA X (e::es) (tGA K (a0c fa fs)):=
 (b2t ha hs hp).mono fun σ H Q t=>a7l t
def gOp(g:List O->Option O)(fs:GA):GE:=fun Γ=>(fs Γ).bind fun p=>(seeL p.2 p.1).bind fun os=>(g os).bind fun o=>some (.own o,p.2)
abbrev gBin(g:List O->Option O)(fa fb:GE):GE:=gOp g (a0c fa (a0c fb gaNil))
abbrev gUn(g:List O->Option O)(fa:GE):GE:=gOp g (a0c fa gaNil)
theorem d5k{g:List O->Option O}{Γ Γ':Gm}{r:R}(e:gOp g fs Γ=some (r,Γ')):∃rs os o,fs Γ=some (rs,Γ')/\seeL Γ' rs=some os/\g os=some o/\r=.own o:=by
 unfold gOp at e;cases e1:fs Γ with
 |none=>rw[e1] at e;cases e
 |some p=>
  rw[e1] at e;dsimp only[Option.bind] at e;cases e2:seeL p.2 p.1 with
  |none=>rw[e2] at e;cases e
  |some os=>
   rw[e2] at e;dsimp only at e;cases e3:g os with
   |none=>rw[e3] at e;cases e
   |some o=>rw[e3] at e;cases e;exact⟨p.1,os,o,rfl,e2,e3,rfl⟩
def OpOk(K:L2.FG)(r:List V->Hp->VK->Prop)(g:List O->Option O):Prop:=
 ∀(F H:Hp) (vs:List V) (os:List O) (o:O) (Q:VK),Same F H->Sees K F H vs os->g os=some o->Res K F H o Q->r vs H Q
theorem d1b{r:List V->Hp->VK->Prop}{g:List O->Option O}(ok:OpOk K r g){σ:St}{H:Hp}{Q:VK}(t:tG K (gOp g fs) σ H Q):tGA K fs σ H fun vs H1=>r vs H1 Q:=by
 obtain⟨F,A,Γ,rr,Γ',k,e,w⟩:=t;obtain⟨rs,os,o,e1,e2,e3,rfl⟩:=d5k e;refine⟨F,A,Γ,rs,Γ',k,e1,fun vs H1 p=>?_⟩
 obtain⟨F1,le,see,res⟩:=p.res e2 w;exact ok F1 H1 vs os o Q le see e3 res
def r2L(r:R2):List V->Hp->VK->Prop:=fun vs H Q=>∃x y,vs=[x,y]/\r x y H Q
def r1L(r:V->Hp->VK->Prop):List V->Hp->VK->Prop:=fun vs H Q=>∃x,vs=[x]/\r x H Q
theorem tG.mono{f:GE}{Q1 Q2:VK}{σ:St}{H:Hp}(t:tG K f σ H Q1)(q:∀v H',Q1 v H'->Q2 v H'):tG K f σ H Q2:=by
 obtain⟨F,A,Γ,rr,Γ',k,e,w⟩:=t;exact⟨F,A,Γ,rr,Γ',k,e,fun v H' p=>q _ _ (w v H' p)⟩
theorem c1f{r:R2}{g:List O->Option O}(ok:OpOk K (r2L r) g){σ:St}{H:Hp}{Q:VK}(t:tG K (gBin g fa fb) σ H Q):tOp r (tG K fa) (tG K fb) σ H Q:=by
 show tG K fa σ H fun x H1=>tG K fb σ H1 fun y H2=>r x y H2 Q
 refine tG.mono (a7l (d1b ok t)) fun x H1 h=>tG.mono (a7l h) fun y H2 h2=>?_
 obtain⟨F,A,Γ,rs,Γ',k,e,w⟩:=h2;cases e;obtain⟨x',y',e1,h3⟩:=w [] H2 ⟨F,A,Ext.refl,k,True.intro⟩;cases e1;exact h3
theorem d5l{r:V->Hp->VK->Prop}{g:List O->Option O}(ok:OpOk K (r1L r) g){σ:St}{H:Hp}{Q:VK}(t:tG K (gUn g fa) σ H Q):tG K fa σ H fun x H1=>r x H1 Q:=by
 refine tG.mono (a7l (d1b ok t)) fun x H1 h=>?_
 obtain⟨F,A,Γ,rs,Γ',k,e,w⟩:=h;cases e;obtain⟨x',e1,h3⟩:=w [] H1 ⟨F,A,Ext.refl,k,True.intro⟩;cases e1;exact h3
theorem a2a{op:Operator}{r:R2}{g:List O->Option O}(ho:OpR X (binaryOp op) r)(ok:OpOk K (r2L r) g)(ha:PE X a (tG K fa))(hb:PE X b (tG K fb)):PE X (.BinOp a op b pos) (tG K (gBin g fa fb)):=
 (e0r ho ha hb).mono fun _ _ _ t=>c1f ok t
theorem a7z{op:CmpOp}{r:R2}{g:List O->Option O}(ho:OpR X (compareOp op) r)(ok:OpOk K (r2L r) g)(ha:PE X a (tG K fa))(hb:PE X b (tG K fb))(hm:behindInMarks op b=false:=by first|rfl|exact d3i _):PE X (.Compare a [op] [b] pos) (tG K (gBin g fa fb)):=
 (d4v ho ha hb hm).mono fun _ _ _ t=>c1f ok t
theorem a1n{r:R2}{g:List O->Option O}(hr:IxR X r)(ok:OpOk K (r2L r) g)(ha:PE X a (tG K fa))(hb:PE X b (tG K fb))(hs:c5e b:=by exact fun _ _=>rfl):PE X (.Subscript a b pos) (tG K (gBin g fa fb)):=
 (d8n hr ha hb hs).mono fun _ _ _ t=>c1f ok t
variable {x:Str} {p:Pos} {id T:String} {r:List V->Hp->VK->Prop} {g:List O->Option O}
theorem a2k(hc:CallR X (.builtin id) r)(ok:OpOk K r g)(hm:X.mg x=none)(hv:bootBuiltins x=some (.builtin id))(ha:PA X (e::es) (tGA K fs))(hg:Gl X x:=by rfl)(hn:x≠"__name__":=by decide)(hdb:(x == ("__debug__":Str))=false:=by decide)
  (he:starEach (e::es) X.env=(false,eval e X.env)::starEach es X.env:=by rfl) (hpl:(backTo pos (starEach es X.env)).any (·.1)=false:=by rfl):PE X (.Call (.Name x p) (e::es) [] pos) (tG K (gOp g fs)):=
 (c1c hc hg hm hv ha hn hdb he hpl).mono fun _ _ _ t=>d1b ok t
theorem a9t(hc:CallR X (.type T) r)(ok:OpOk K r g)(hm:X.mg x=none)(hv:bootBuiltins x=some (.type T))(ha:PA X (e::es) (tGA K fs))(hg:Gl X x:=by rfl)(hn:x≠"__name__":=by decide)(hdb:(x == ("__debug__":Str))=false:=by decide)
  (he:starEach (e::es) X.env=(false,eval e X.env)::starEach es X.env:=by rfl) (hpl:(backTo pos (starEach es X.env)).any (·.1)=false:=by rfl):PE X (.Call (.Name x p) (e::es) [] pos) (tG K (gOp g fs)):=
 (c5c hc hg hm hv ha hn hdb he hpl).mono fun _ _ _ t=>d1b ok t
mutual
def O.d:O->D
 |.frz d=>d
 |.lst xs=>.lst (O.dl xs)
 |.tup xs=>.tup (O.dl xs)
 |.dct kvs=>.dct (O.dk kvs)
 |.ins _ _ _=>.obj
def O.dl:List O->List D
 |[]=>[]
 |x::xs=>x.d::O.dl xs
def O.dk:List (TK×O)->List (TK×D)
 |[]=>[]
 |(k,x)::xs=>(k,x.d)::O.dk xs
end
end
theorem OwnL.rep{K:L2.FG}{F F' H:Hp}{σ:St}{Γ:Gm}{A:List Addr}(h:OwnL K F H σ Γ A)(s:Same F F')(k:∀a∈A,∀o,H a=some o->F' a=some o):
  ∀(vs:List V) (os:List O),σ=vs.map some->Γ=os.map some->RepL K F' vs (O.dl os):=by
 induction h with
 |nil=>
  intro vs os e1 e2;cases vs with
  |nil=>cases os with
   |nil=>exact .nil
   |cons _ _=>cases e2
  |cons _ _=>cases e1
 |skip _ _=>
  intro vs os e1 e2;cases os with
  |nil=>cases e2
  |cons _ _=>injection e2 with e3 _;cases e3
 |frz r _ ih=>
  intro vs os e1 e2;cases vs with
  |nil=>cases e1
  |cons v vs=>cases os with
   |nil=>cases e2
   |cons o os=>
    injection e1 with e3 e4;injection e2 with e5 e6;cases e3;cases e5;exact .cons (r.mono s) (ih k vs os e4 e6)
 |lst e _ _ i1 i2=>
  intro vs os e1 e2;cases vs with
  |nil=>cases e1
  |cons v vs=>cases os with
   |nil=>cases e2
   |cons o os=>
    injection e1 with e3 e4;injection e2 with e5 e6;cases e3;cases e5;exact .lst (.inl (k _ (by simp) _ e)) (i1 (fun a m=>k a (by simp[m])) _ _ rfl rfl) (i2 (fun a m=>k a (by simp[m])) vs os e4 e6)
 |tup e _ _ i1 i2=>
  intro vs os e1 e2;cases vs with
  |nil=>cases e1
  |cons v vs=>cases os with
   |nil=>cases e2
   |cons o os=>
    injection e1 with e3 e4;injection e2 with e5 e6;cases e3;cases e5;exact .tup (SqT.of (k _ (by simp) _ e)) (i1 (fun a m=>k a (by simp[m])) _ _ rfl rfl) (i2 (fun a m=>k a (by simp[m])) vs os e4 e6)
 |@dct a kvs ps ep A B σ Γ e q r _ _ i1 i2=>
  intro vs os e1 e2;cases vs with
  |nil=>cases e1
  |cons v vs=>cases os with
   |nil=>cases e2
   |cons o os=>
    injection e1 with e3 e4;injection e2 with e5 e6;cases e3;cases e5;have hk:∀ps:List (TK×O),(O.dk ps).map (·.1)=ps.map (·.1)/\(O.dk ps).map (·.2)=O.dl (ps.map (·.2))/\(O.dk ps).map (·.1.d)=ps.map (·.1.d):=by
     intro ps
     induction ps with
     |nil=>exact⟨rfl,rfl,rfl⟩
     |cons p ps ih=>obtain⟨a,b⟩:=p;exact⟨by simp[O.dk,ih.1],by simp[O.dk,O.dl,ih.2.1],by simp[O.dk,ih.2.2]⟩
    refine .dct (k _ (by simp) _ e) (q.trans (hk ps).1.symm) (by rw[(hk ps).2.2];exact r.mono s) ?_ (i2 (fun a m=>k a (by simp[m])) vs os e4 e6)
    rw[(hk ps).2.1];exact i1 (fun a m=>k a (by simp[m])) _ _ (by simp) (by simp)
 |ins _ _ _ _ _ _ i2=>
  intro vs os e1 e2;cases vs with
  |nil=>cases e1
  |cons v vs=>cases os with
   |nil=>cases e2
   |cons o os=>
    injection e1 with e3 e4;injection e2 with e5 e6;cases e3;cases e5;exact .obj (i2 (fun a m=>k a (by simp[m])) vs os e4 e6)
section
variable {K:L2.FG} {F H:Hp} {A:List Addr} {σ:St} {Γ:Gm}
theorem OK.freeze{v:V}{o:O}(k:OK K F H (some v::σ) (some o::Γ) A):∃F' A',OK K F' H (some v::σ) (some (.frz o.d)::Γ) A'/\Ext F H A F' H A':=by
 obtain⟨B,C,h1,h2,h3⟩:=k.os.one;subst h3;obtain⟨n1,n2,n3⟩:=List.nodup_append.mp k.nd
 let F':Hp:=fun a=>if a∈B then H a else F a
 have in':∀a,a∈B->F' a=H a:=fun a m=>if_pos m
 have out':∀a,a∉B->F' a=F a:=fun a m=>if_neg m
 have s:Same F F':=fun a u e=>by
  rw[out' a fun m=>by rw[k.fr a (List.mem_append_left _ m)] at e;cases e]
  exact e
 have le:Same F' H:=fun a u e=>by
  by_cases m:a∈B
  ·rw[in' a m] at e;exact e
  ·rw[out' a m] at e;exact k.le a u e
 have rp:RepL K F' [v] [o.d]:=h1.rep s (fun a m u e=>by rw[in' a m];exact e) [v] [o] rfl rfl
 refine⟨F',C,⟨le,.frz rp (h2.keep s fun a _ u e=>e),n2,fun a m=>?_⟩,s,fun a u e _=>e,fun a h=>h,fun a h=>?_,fun a m=>.inl (List.mem_append_right _ m),.same (Same.refl _)⟩
 ·rw[out' a fun z=>n3 a z a m rfl]
  exact k.fr a (List.mem_append_right _ m)
 ·by_cases m:a∈B
  ·exact .inr (.inl (List.mem_append_left _ m))
  ·rw[out' a m] at h;exact .inl h
theorem OK.grab{v:V}{o:O}{i:Nat}{A:List Addr}(k:OK K F H (some v::σ) (none::Γ) A)(hv:σ[i]?=some (some v))(ho:Γ[i]?=some (some o)):∃A',OK K F H (some v::σ) (some o::Γ.set i none) A'/\Ext F H A F H A':=by
 obtain⟨B,C,h1,h2,h3⟩:=k.os.one;subst h3;have eB:B=[]:=by cases h1 with|skip t=>cases t;rfl
 subst eB;obtain⟨v',Ai,B',g1,g2,g3,g4⟩:=h2.take ho;rw[hv] at g1;cases g1;have nd:=k.nd;have fr:=k.fr;rw[List.nil_append] at nd fr;exact⟨Ai++B',.perm (g2.app g3) k.le nd fr g4.symm,Ext.own' Ext.refl fun a m=>g4.mem_iff.mpr m⟩
end
def gFrz(f:GE):GE:=fun Γ=>(f Γ).bind fun p=>match p.1 with
 |.own o=>some (.own (.frz o.d),p.2)
 |.var i=>match p.2[i]? with
  |some (some o)=>some (.own (.frz o.d),p.2.set i (some (.frz o.d)))
  |_=>none
 |_=>none
def gMove(f:GE):GE:=fun Γ=>(f Γ).bind fun p=>match p.1 with
 |.own o=>some (.own o,p.2)
 |.var i=>match p.2[i]? with
  |some (some o)=>some (.own o,p.2.set i none)
  |_=>none
 |_=>none
section
variable {X:Cx} {K:L2.FG} {e a b:Expr} {es:List Expr} {fa fb:GE} {fs:GA} {pos:Pos}
theorem a6q{α:Type}:∀{l:List α} {i:Nat} {x:α},l[i]?=some x->l.set i x=l
 |[],_,_,e=>by simp at e
 |y::l,0,x,e=>by simp at e;subst e;rfl
 |y::l,i+1,x,e=>by rw[List.set_cons_succ,a6q (by simpa using e)]
theorem Post.frz{F H:Hp}{A:List Addr}{σ:St}{Γ Γ1 Γ':Gm}{r r':R}{v:V}{H':Hp}{f:GE}(e:f Γ=some (r,Γ1))(e':gFrz f Γ=some (r',Γ'))(h:Post K F H A σ Γ1 [r] [v] H'):Post K F H A σ Γ' [r'] [v] H':=by
 obtain⟨F1,A1,x,k,hh⟩:=h;unfold gFrz at e';rw[e] at e';cases r with
 |own o=>
  cases e';obtain⟨F2,A2,k2,x2⟩:=OK.freeze (σ:=σ) (Γ:=Γ1) k;exact⟨F2,A2,x.trans x2,k2,True.intro⟩
 |var i=>
  dsimp only[Option.bind] at e';cases q:Γ1[i]? with
  |none=>rw[q] at e';cases e'
  |some z=>
   cases z with
   |none=>rw[q] at e';cases e'
   |some o=>
    rw[q] at e';cases e';have hv:σ[i]?=some (some v):=hh.1;obtain⟨A2,k2,x2⟩:=OK.grab (σ:=σ) (Γ:=Γ1) k hv q;obtain⟨F3,A3,k3,x3⟩:=OK.freeze k2;obtain⟨B,C,h1,h2,h3⟩:=k3.os.one;have hi:i < (Γ1.set i none).length:=by
     rw[List.length_set];exact(List.getElem?_eq_some_iff.mp q).1
    have rp:RepL K F3 [v] [o.d]:=by cases h1 with|frz r _=>exact r
    have eB:B=[]:=by cases h1 with|frz _ t=>cases t;rfl
    subst eB;obtain⟨B2,g1,C2,g2,g3⟩:=OwnL.put (.frz rp .nil) i h2 hi;rw[a6q hv,List.set_set] at g1;rw[List.nil_append] at g2 h3;subst h3;have nd2:B2.Nodup:=g2.nodup_iff.mpr (k3.nd.sublist g3);have sub:∀a∈B2,a∈A3:=fun a m=>g3.subset (g2.mem_iff.mp m)
    exact⟨F3,B2,(x.trans (x2.trans x3)).own' sub,⟨k3.le,.frz rp g1,nd2,fun a m=>k3.fr a (sub a m)⟩,True.intro⟩
 |fld i j=>cases e'
theorem d1c{f:GE}{Γ Γ':Gm}{r:R}(e:gFrz f Γ=some (r,Γ')):∃r1 Γ1,f Γ=some (r1,Γ1):=by
 unfold gFrz at e;cases q:f Γ with
 |none=>rw[q] at e;cases e
 |some p=>exact⟨p.1,p.2,rfl⟩
theorem d3o{σ:St}{H:Hp}{Q:VK}(t:tG K (gFrz fa) σ H Q):tG K fa σ H Q:=by
 obtain⟨F,A,Γ,rr,Γ',k,e,w⟩:=t;obtain⟨r1,Γ1,e1⟩:=d1c e;exact⟨F,A,Γ,r1,Γ1,k,e1,fun v H' p=>w v H' (p.frz e1 e)⟩
theorem a1j(h:PE X e (tG K fa)):PE X e (tG K (gFrz fa)):=h.mono fun _ _ _ t=>d3o t
theorem d5m{σ:St}{H:Hp}{Q:VK}(t:tG K (gMove fa) σ H Q):tG K fa σ H Q:=by
 obtain⟨F,A,Γ,rr,Γ',k,e,w⟩:=t;unfold gMove at e;cases q:fa Γ with
 |none=>rw[q] at e;cases e
 |some p=>
  rw[q] at e;refine⟨F,A,Γ,p.1,p.2,k,q,fun v H' pp=>w v H' ?_⟩
  obtain⟨r,Γ1⟩:=p;cases r with
  |own o=>cases e;exact pp
  |var i=>
   dsimp only[Option.bind] at e;cases q:Γ1[i]? with
   |none=>rw[q] at e;cases e
   |some z=>
    cases z with
    |none=>rw[q] at e;cases e
    |some o=>
     rw[q] at e;cases e;obtain⟨F1,A1,x,k,hh⟩:=pp;obtain⟨A2,k2,x2⟩:=OK.grab (σ:=σ) (Γ:=Γ1) k hh.1 q;exact⟨F1,A2,x.trans x2,k2,True.intro⟩
  |fld i j=>cases e
theorem c5s(h:PE X e (tG K fa)):PE X e (tG K (gMove fa)):=h.mono fun _ _ _ t=>d5m t
def ownL:List R->Option (List O)
 |[]=>some []
 |.own o::rs=>(ownL rs).bind fun os=>some (o::os)
 |_::_=>none
theorem a6b:∀{rs:List R} {os:List O},ownL rs=some os->rs.map R.o=os.map some
 |[],os,e=>by cases e;rfl
 |.own o::rs,os,e=>by
  unfold ownL at e;cases q:ownL rs with
  |none=>rw[q] at e;cases e
  |some os'=>rw[q] at e;cases e;simp[a6b q,R.o]
 |.var _::_,_,e=>by cases e
 |.fld _ _::_,_,e=>by cases e
def gSeq(c:List O->O)(fs:GA):GE:=fun Γ=>(fs Γ).bind fun p=>if p.1.length<=1000 then(ownL p.1).bind fun os=>some (.own (c os),p.2) else none
theorem c1g{c:List O->O}{Γ Γ':Gm}{r:R}(e:gSeq c fs Γ=some (r,Γ')):∃rs os,fs Γ=some (rs,Γ')/\rs.length<=1000/\ownL rs=some os/\r=.own (c os):=by
 unfold gSeq at e;cases e1:fs Γ with
 |none=>rw[e1] at e;cases e
 |some p=>
  rw[e1] at e;dsimp only[Option.bind] at e;split at e
  ·cases e2:ownL p.1 with
   |none=>rw[e2] at e;cases e
   |some os=>rw[e2] at e;cases e;exact⟨p.1,os,rfl,by assumption,e2,rfl⟩
  ·cases e
theorem a2p(h:PA X es (tGA K fs)):PE X (.List es pos) (tG K (gSeq .lst fs)):=(d8i h).mono fun σ H Q t=>by
 obtain⟨F,A,Γ,rr,Γ',k,e,w⟩:=t;obtain⟨rs,os,e1,e2,e3,rfl⟩:=c1g e;refine⟨F,A,Γ,rs,Γ',k,e1,fun vs H1 p=>?_⟩
 obtain⟨F1,A1,x,k1,hh⟩:=p;rw[a6b e3] at k1;have hl:=hh.length;have ho:os.length=rs.length:=by have:=congrArg List.length (a6b e3);simpa using this.symm
 refine⟨d3m (by omega),fun l hn=>w (.ref l) _ ?_⟩
 obtain⟨B,C,h1,h2,h3⟩:=OwnL.split (by simp only[List.length_map];omega) k1.os
 have nl:∀a∈A1,a≠l:=fun a m z=>k1.os.there a m (by rw[z];exact hn)
 have kp:∀a∈A1,∀o,H1 a=some o->upd H1 l (.lst vs) a=some o:=fun a m o e=>by rw[a0v (nl a m)];exact e
 subst h3;refine⟨F1,l::B++C,x.trans ⟨Same.refl _,fun a o e _=>?_,fun a h=>?_,fun a h=>.inl h,fun a m=>?_,.same (a3k hn)⟩,⟨fun a o e=>?_,?_,?_,?_⟩,True.intro⟩
 ·rw[a0v (a1t e hn)];exact e
 ·by_cases z:a=l
  ·rw[z,a1l];exact fun z=>by cases z
  ·rw[a0v z];exact h
 ·rcases List.mem_cons.mp m with rfl|m
  ·exact .inr hn
  ·exact .inl m
 ·have:=k1.le a o e;rw[a0v (a1t this hn)];exact this
 ·exact .lst a1l (h1.keep (Same.refl _) fun a m=>kp a (List.mem_append_left _ m)) (h2.keep (Same.refl _) fun a m=>kp a (List.mem_append_right _ m))
 ·exact List.nodup_cons.mpr ⟨fun m=>nl l m rfl,k1.nd⟩
 ·intro a m;rcases List.mem_cons.mp m with rfl|m
  ·exact k1.le.free hn
  ·exact k1.fr a m
theorem a6l{x1}(h:PA X es (tGA K fs)):PE X (.Tuple es x1 pos) (tG K (gSeq .tup fs)):=(d8h h).mono fun σ H Q t=>by
 obtain⟨F,A,Γ,rr,Γ',k,e,w⟩:=t;obtain⟨rs,os,e1,e2,e3,rfl⟩:=c1g e;refine⟨F,A,Γ,rs,Γ',k,e1,fun vs H1 p=>?_⟩
 obtain⟨F1,A1,x,k1,hh⟩:=p;rw[a6b e3] at k1;have hl:=hh.length;have ho:os.length=rs.length:=by have:=congrArg List.length (a6b e3);simpa using this.symm
 refine⟨d3m (by omega),fun l hn=>w (.ref l) _ ?_⟩
 obtain⟨B,C,h1,h2,h3⟩:=OwnL.split (by simp only[List.length_map];omega) k1.os
 have nl:∀a∈A1,a≠l:=fun a m z=>k1.os.there a m (by rw[z];exact hn)
 have kp:∀a∈A1,∀o,H1 a=some o->upd H1 l (.tup vs) a=some o:=fun a m o e=>by rw[a0v (nl a m)];exact e
 subst h3;refine⟨F1,l::B++C,x.trans ⟨Same.refl _,fun a o e _=>?_,fun a h=>?_,fun a h=>.inl h,fun a m=>?_,.same (a3k hn)⟩,⟨fun a o e=>?_,?_,?_,?_⟩,True.intro⟩
 ·rw[a0v (a1t e hn)];exact e
 ·by_cases z:a=l
  ·rw[z,a1l];exact fun z=>by cases z
  ·rw[a0v z];exact h
 ·rcases List.mem_cons.mp m with rfl|m
  ·exact .inr hn
  ·exact .inl m
 ·have:=k1.le a o e;rw[a0v (a1t this hn)];exact this
 ·exact .tup a1l (h1.keep (Same.refl _) fun a m=>kp a (List.mem_append_left _ m)) (h2.keep (Same.refl _) fun a m=>kp a (List.mem_append_right _ m))
 ·exact List.nodup_cons.mpr ⟨fun m=>nl l m rfl,k1.nd⟩
 ·intro a m;rcases List.mem_cons.mp m with rfl|m
  ·exact k1.le.free hn
  ·exact k1.fr a m
def c1h:GE:=fun Γ=>some (.own (.dct []),Γ)
theorem d1d{P:Program}{w:World}{H:Hp}(h:Heap)(hb:sysModules < h.objs.size):ObjOk P w H (h.push { cls:=.type "dict",data:=.dict #[]}) h.objs.size (.dG [] 0):=
 ⟨Nat.zero_le _,beq_eq_false_iff_ne.mpr (Ne.symm (Nat.ne_of_lt hb)),_,#[],Heap.get?_push_size _ rfl,⟨rfl,rfl,rfl⟩,rfl,.nil,List.nodup_nil⟩
def d8s:TE:=fun _ H Q=>∀p,H p=none->Q (.ref p) (upd H p (.dG [] 0))
theorem pe_dnewG:PE X (.Dict [] [] pos) d8s:=fun pins s σ H Q I h=>
 wpAny_Dict_empty ⟨.ref s.heap.objs.size,_,I.laid (a:=s.heap.objs.size) (o:=.dG [] 0) (t':=s.toks) (fun _ _ q=>Heap.get?_push_of_some _ q) (Nat.le_refl _) (d1d s.heap I.big),rfl,h _ (I.hok.fresh (Nat.le_refl _))⟩
theorem c1i:PE X (.Dict [] [] pos) (tG K c1h):=pe_dnewG.mono fun σ H Q t=>by
 obtain⟨F,A,Γ,rr,Γ',k,e,w⟩:=t;cases e;intro l hn;refine w (.ref l) _ ?_;have s:Same H (upd H l (.dG [] 0)):=a3k hn;obtain⟨k2,x⟩:=k.push (v:=.ref l) (o:=.dct []) (Av:=[l]++[]++[]) s (.dct (kvs:=[]) a1l rfl .nil .nil .nil) (by simp) (fun a m=>by simp at m;rw[m];exact hn)
 exact⟨F,_,x,k2,True.intro⟩
def gT(f:GE):GT:=fun Γ=>(f Γ).bind fun p=>match p.1 with
 |.own (.frz (.bl b))=>some (b,p.2)
 |_=>none
theorem Post.drop{F H:Hp}{A:List Addr}{σ:St}{Γ':Gm}{rs:List R}{vs:List V}{H':Hp}(h:Post K F H A σ Γ' rs vs H'):Post K F H A σ Γ' [] [] H':=by
 obtain⟨F1,A1,x,k,hh⟩:=h;obtain⟨B,kB,sub⟩:=k.part (by rw[List.length_map,List.length_map,hh.length])
 exact⟨F1,B,x.own' sub,kB,True.intro⟩
theorem Post.flat{F H:Hp}{A:List Addr}{σ:St}{Γ':Gm}{d:D}{v w:V}{H':Hp}(h:Post K F H A σ Γ' [.own (.frz d)] [v] H')(e:a6k d=some w):v=w:=by
 obtain⟨F1,A1,x,k,hh⟩:=h;obtain⟨B,C,h1,_⟩:=OwnL.one (σ:=σ) (Γ:=Γ') k.os;cases h1 with
 |frz r _=>
  cases r with
  |flat e' _=>rw[e] at e';exact(Option.some.inj e').symm
  |lst _ _ _=>cases e
  |tup _ _ _=>cases e
  |dct _ _ _ _ _=>cases e
  |scr _ _=>cases e
  |exc _ _=>cases e
  |obj _=>cases e
theorem c5t{f:GE}{σ:St}{H:Hp}{Q:Bool->Hp->Prop}(t:tGT K (gT f) σ H Q):tG K f σ H fun x H'=>∃k,x=.bl k/\Q k H':=by
 obtain⟨F,A,Γ,b,Γ',k,e,w⟩:=t;unfold gT at e;cases q:f Γ with
 |none=>rw[q] at e;cases e
 |some p=>
  obtain⟨r,Γ1⟩:=p;rw[q] at e;dsimp only[Option.bind] at e;cases r with
  |var i=>cases e
  |fld i j=>cases e
  |own o=>
   cases o with
   |frz d=>
    cases d with
    |bl b'=>
     cases e;exact⟨F,A,Γ,_,_,k,q,fun v H' pp=>⟨_,pp.flat rfl,w H' pp.drop⟩⟩
    |_=>cases e
   |_=>cases e
theorem a1q{op:CmpOp}{r:R2}{g:List O->Option O}(ho:OpR X (compareOp op) r)(ok:OpOk K (r2L r) g)(ha:PE X a (tG K fa))(hb:PE X b (tG K fb))(hm:behindInMarks op b=false:=by first|rfl|exact d3i _):PT X (.Compare a [op] [b] pos) (tGT K (gT (gBin g fa fb))):=
 (d4w ho ha hb hm).mono fun _ _ _ t=>c1f ok (c5t t)
def truO:O->Option Bool
 |.frz .non=>some false
 |.frz (.bl b)=>some b
 |.frz (.int i)=>some (i != 0)
 |.frz (.str x)=>if x.length<=1000000 then some ((x.length:Int) != 0) else none
 |.frz (.lst xs)=>some (!xs.isEmpty)
 |.frz (.tup xs)=>some (!xs.isEmpty)
 |.lst xs=>some (!xs.isEmpty)
 |.tup xs=>some (!xs.isEmpty)
 |_=>none
def gTru(f:GE):GT:=fun Γ=>(f Γ).bind fun p=>(seeR p.2 p.1).bind fun o=>(truO o).bind fun b=>some (b,p.2)
theorem a7m{α β:Type}{xs:List α}{ys:List β}(h:xs.length=ys.length):(!xs.isEmpty) = !ys.isEmpty:=by
 cases xs <;> cases ys <;> simp_all
theorem d5n{F H:Hp}{v:V}{o:O}{b:Bool}{B:List Addr}(le:Same F H)(h:OwnL K F H [some v] [some o] B)(e:truO o=some b):TruV K v H b:=by
 cases h with
 |lst q i _=>cases e;exact .inl ⟨_,SqL.of q,a7m (by have:=i.length;simpa using this.symm)⟩
 |tup q i _=>cases e;exact .inr (.inl ⟨_,SqT.of q,a7m (by have:=i.length;simpa using this.symm)⟩)
 |dct q z r i _=>cases e
 |ins _ _ _ _ _=>cases e
 |@frz v d σ Γ B r _=>
  cases r with
  |lst q i _=>cases e;exact .inl ⟨_,.inl (le.rd q),a7m i.length.symm⟩
  |tup q i _=>cases e;exact .inr (.inl ⟨_,le.seqT q,a7m i.length.symm⟩)
  |dct q z r i _=>cases e
  |scr _ _=>cases e
  |exc _ _=>cases e
  |obj _=>cases e
  |flat q _=>
   cases d with
   |non=>cases q;cases e;rfl
   |bl b'=>cases q;cases e;rfl
   |int i=>cases q;cases e;rfl
   |str x=>
    cases q;unfold truO at e;dsimp only at e;split at e
    ·cases e;exact⟨Nat.le_trans (by assumption) (by decide),rfl⟩
    ·cases e
   |ty n=>cases e
   |lst _=>cases q
   |tup _=>cases q
   |dct _=>cases q
   |scr _=>cases q
   |exc _ _=>cases q
   |obj=>cases q
theorem a7g{X:Cx}{a:Expr}{fa:GE}(ha:PE X a (tG K fa))(he:∀whole,isTrue a X.env whole=(do let v <-whole;standAt a.pos;holding [v] (truthy v)):=by exact fun _=>rfl)(hK:X.K=K:=by rfl):PT X a (tGT K (gTru fa)):=
 (c5p K ha he hK).mono fun σ H Q t=>by
  obtain⟨F,A,Γ,b,Γ',k,e,w⟩:=t;unfold gTru at e;cases q:fa Γ with
  |none=>rw[q] at e;cases e
  |some p=>
   obtain⟨r,Γ1⟩:=p;rw[q] at e;dsimp only[Option.bind] at e;cases q2:seeR Γ1 r with
   |none=>rw[q2] at e;cases e
   |some o=>
    rw[q2] at e;dsimp only at e;cases q3:truO o with
    |none=>rw[q3] at e;cases e
    |some b'=>
     rw[q3] at e;cases e;refine⟨F,A,Γ,r,_,k,q,fun v H' pp=>⟨_,?_,w H' pp.drop⟩⟩
     obtain⟨F1,le,see,_⟩:=Post.res (Q:=fun _ _=>True) (o:=.frz .non) pp (os:=[o]) (by unfold seeL;rw[q2];rfl) (fun _ _ _=>True.intro)
     cases see with
     |cons hs _=>obtain⟨B,hB⟩:=hs;exact d5n le hB q3
def gNotT(f:GT):GT:=fun Γ=>(f Γ).bind fun p=>some (!p.1,p.2)
def gAndT(f g:GT):GT:=fun Γ=>(f Γ).bind fun p=>if p.1=true then g p.2 else some (false,p.2)
def gOrT(f g:GT):GT:=fun Γ=>(f Γ).bind fun p=>if p.1=true then some (true,p.2) else g p.2
theorem b6c{f:GT}{h:GT}{φ:Bool->GT}(eh:∀Γ,h Γ=(f Γ).bind fun p=>φ p.1 p.2){σ:St}{H:Hp}{Q:Bool->Hp->Prop}(t:tGT K h σ H Q):tGT K f σ H fun c H1=>tGT K (φ c) σ H1 Q:=by
 obtain⟨F,A,Γ,b,Γ',k,e,w⟩:=t;rw[eh] at e;cases q:f Γ with
 |none=>rw[q] at e;cases e
 |some p=>
  obtain⟨c,Γ1⟩:=p;rw[q] at e;refine⟨F,A,Γ,c,Γ1,k,q,fun H1 pp=>?_⟩
  obtain⟨F1,A1,x,k1,_⟩:=pp;exact⟨F1,A1,Γ1,b,Γ',k1,e,fun H2 p2=>w H2 (by obtain⟨F2,A2,x2,k2,h2⟩:=p2;exact⟨F2,A2,x.trans x2,k2,h2⟩)⟩
theorem b2f{b:Bool}{σ:St}{H:Hp}{Q:Bool->Hp->Prop}(t:tGT K (fun Γ=>some (b,Γ)) σ H Q):Q b H:=by
 obtain⟨F,A,Γ,b',Γ',k,e,w⟩:=t;cases e;exact w H ⟨F,A,Ext.refl,k,True.intro⟩
theorem tGT.mono{f:GT}{Q1 Q2:Bool->Hp->Prop}{σ:St}{H:Hp}(t:tGT K f σ H Q1)(q:∀v H',Q1 v H'->Q2 v H'):tGT K f σ H Q2:=by
 obtain⟨F,A,Γ,rr,Γ',k,e,w⟩:=t;exact⟨F,A,Γ,rr,Γ',k,e,fun H' p=>q _ _ (w H' p)⟩
variable {ft gt:GT} {rest:List Expr}
theorem b5d(h:PT X a (tGT K ft)):PT X (.UnaryOp .Not a pos) (tGT K (gNotT ft)):=(d7z h).mono fun σ H Q t=>
 (b6c (φ:=fun c Γ=>some (!c,Γ)) (fun _=>rfl) t).mono fun c H1 h=>b2f h
theorem b1e(h:PT X a (tGT K ft)):PW X (.BoolOp .And [a] pos) (tGT K ft):=d4t h
theorem b8b(h:PT X a (tGT K ft)):PW X (.BoolOp .Or [a] pos) (tGT K ft):=d7x h
theorem b5e(ha:PT X a (tGT K ft))(hb:PW X (.BoolOp .And (b::rest) pos) (tGT K gt)):PW X (.BoolOp .And (a::b::rest) pos) (tGT K (gAndT ft gt)):=(d7y ha hb).mono fun σ H Q t=>
 (b6c (φ:=fun c Γ=>if c=true then gt Γ else some (false,Γ)) (fun _=>rfl) t).mono fun c H1 h=>by
  cases c with
  |true=>exact iteT (by simpa using h)
  |false=>exact iteF (b2f (by simpa using h))
theorem c5u(ha:PT X a (tGT K ft))(hb:PW X (.BoolOp .Or (b::rest) pos) (tGT K gt)):PW X (.BoolOp .Or (a::b::rest) pos) (tGT K (gOrT ft gt)):=(e0p ha hb).mono fun σ H Q t=>
 (b6c (φ:=fun c Γ=>if c=true then some (true,Γ) else gt Γ) (fun _=>rfl) t).mono fun c H1 h=>by
  cases c with
  |true=>exact iteT (b2f (by simpa using h))
  |false=>exact iteF (by simpa using h)
def gIf(c:GT)(f g:GE):GE:=fun Γ=>(c Γ).bind fun p=>if p.1=true then f p.2 else g p.2
def gAndV(f g:GE):GE:=fun Γ=>(gT f Γ).bind fun p=>if p.1=true then g p.2 else gC (.bl false) p.2
theorem d3p{f:GT}{h:GE}{φ:Bool->GE}(eh:∀Γ,h Γ=(f Γ).bind fun p=>φ p.1 p.2){σ:St}{H:Hp}{Q:VK}(t:tG K h σ H Q):tGT K f σ H fun c H1=>tG K (φ c) σ H1 Q:=by
 obtain⟨F,A,Γ,b,Γ',k,e,w⟩:=t;rw[eh] at e;cases q:f Γ with
 |none=>rw[q] at e;cases e
 |some p=>
  obtain⟨c,Γ1⟩:=p;rw[q] at e;refine⟨F,A,Γ,c,Γ1,k,q,fun H1 pp=>?_⟩
  obtain⟨F1,A1,x,k1,_⟩:=pp;exact⟨F1,A1,Γ1,b,Γ',k1,e,fun v H2 p2=>w v H2 (by obtain⟨F2,A2,x2,k2,h2⟩:=p2;exact⟨F2,A2,x.trans x2,k2,h2⟩)⟩
theorem tG_c{d:D}{v:V}{σ:St}{H:Hp}{Q:VK}(t:tG K (gC d) σ H Q)(q:a6k d=some v):Q v H:=by
 obtain⟨F,A,Γ,r,Γ',k,e,w⟩:=t;cases e;obtain⟨k2,x⟩:=k.push (v:=v) (o:=.frz d) (Av:=[]) (Same.refl _) (.frz (.flat q .nil) .nil) .nil (fun _ m=>by cases m)
 exact w v H ⟨F,_,x,k2,True.intro⟩
theorem d8t{c:Expr}{fc:GT}(hc:PT X c (tGT K fc))(ha:PE X a (tG K fa))(hb:PE X b (tG K fb)):PE X (.IfExp c a b pos) (tG K (gIf fc fa fb)):=(d0h hc ha hb).mono fun σ H Q t=>
 (d3p (φ:=fun c Γ=>if c=true then fa Γ else fb Γ) (fun _=>rfl) t).mono fun c H1 h=>by
  cases c with
  |true=>exact iteT (by simpa using h)
  |false=>exact iteF (by simpa using h)
theorem d3q{op}(h:PE X a (tG K fa)):PE X (.BoolOp op [a] pos) (tG K fa):=d8a h
theorem c1j(ha:PE X a (tG K fa))(hb:PE X (.BoolOp .And (b::rest) pos) (tG K fb)):PE X (.BoolOp .And (a::b::rest) pos) (tG K (gAndV fa fb)):=(d8b ha hb).mono fun σ H Q t=>
 tG.mono (c5t (d3p (φ:=fun c Γ=>if c=true then fb Γ else gC (.bl false) Γ) (fun _=>rfl) t)) fun v H1 ⟨c,e,h⟩=>⟨c,e,by
  cases c with
  |true=>exact iteT (by simpa using h)
  |false=>exact iteF (tG_c (d:=.bl false) (by simpa using h) rfl)⟩
end
def SubP(A B:List Addr):Prop:=∃L,A.Perm L/\L.Sublist B
theorem SubP.refl(A:List Addr):SubP A A:=⟨A,.refl _,List.Sublist.refl _⟩
theorem SubP.of_perm{A B:List Addr}(p:A.Perm B):SubP A B:=⟨B,p,List.Sublist.refl _⟩
theorem SubP.of_sub{A B:List Addr}(p:A.Sublist B):SubP A B:=⟨A,.refl _,p⟩
theorem SubP.trans{A B C:List Addr}(x:SubP A B)(y:SubP B C):SubP A C:=by
 obtain⟨L,p,s⟩:=x;obtain⟨M,q,t⟩:=y;obtain⟨N,n1,n2⟩:=List.exists_perm_sublist s q;exact⟨N,p.trans n1.symm,n2.trans t⟩
theorem SubP.mem{A B:List Addr}(x:SubP A B):∀a∈A,a∈B:=fun a m=>let ⟨_,p,s⟩:=x;s.subset (p.mem_iff.mp m)
theorem SubP.nodup{A B:List Addr}(x:SubP A B)(n:B.Nodup):A.Nodup:=let ⟨_,p,s⟩:=x;p.nodup_iff.mpr (n.sublist s)
theorem SubP.app{A B C D:List Addr}(x:SubP A B)(y:SubP C D):SubP (A++C) (B++D):=let ⟨_,p,s⟩:=x;let ⟨_,q,t⟩:=y;⟨_,p.append q,s.append t⟩
theorem OK.sub{K:L2.FG}{F H:Hp}{σ σ':St}{Γ Γ':Gm}{A B:List Addr}(k:OK K F H σ Γ A)(h:OwnL K F H σ' Γ' B)(s:SubP B A):OK K F H σ' Γ' B/\Ext F H A F H B:=
 ⟨⟨k.le,h,s.nodup k.nd,fun a m=>k.fr a (s.mem a m)⟩,Ext.own' Ext.refl s.mem⟩
inductive Fl where
 |nx|bk|ct|rt (o:O)
abbrev GS:=Gm->Option (Fl×Gm)
def Kept(m:List Bool)(σ σ':St):Prop:=∀j:Nat,m[j]?=some true->σ'[j]?=σ[j]?
theorem Kept.refl{m:List Bool}{σ:St}:Kept m σ σ:=fun _ _=>rfl
theorem Kept.trans{m:List Bool}{σ σ1 σ2:St}(a:Kept m σ σ1)(b:Kept m σ1 σ2):Kept m σ σ2:=fun j h=>(b j h).trans (a j h)
theorem Kept.set{m:List Bool}{σ:St}{i:Nat}{v:Option V}(h:(m[i]? == some true)=false):Kept m σ (σ.set i v):=fun j hj=>by
 by_cases e:i=j
 ·subst e;rw[hj] at h;simp at h
 ·rw[List.getElem?_set_ne e]
def PostS(K:L2.FG)(F H:Hp)(A:List Addr)(m:List Bool)(σ:St)(Γ':Gm)(σ':St)(H':Hp):Prop:=∃F' A',Ext F H A F' H' A'/\OK K F' H' σ' Γ' A'/\Kept m σ σ'
def PostV(K:L2.FG)(F H:Hp)(A:List Addr)(m:List Bool)(σ:St)(Γ':Gm)(o:O)(v:V)(σ':St)(H':Hp):Prop:=∃F' A',Ext F H A F' H' A'/\OK K F' H' (some v::σ') (some o::Γ') A'/\Kept m σ σ'
abbrev XW:=Addr->Option Addr->St->Hp->Prop
def isX:O->Option (Addr×Option Int)
 |.frz (.exc C l)=>some (C,l)
 |_=>none
def ExcL(F:Hp)(dx:Option Addr):Option Int->Prop
 |none=>dx=none
 |some n=>∃d,dx=some d/\F d=some (.xd [("line",.int n)])
def PostX(K:L2.FG)(F H:Hp)(A:List Addr)(m:List Bool)(σ:St)(Γ':Gm)(l:Option Int)(dx:Option Addr)(σ':St)(H':Hp):Prop:=∃F' A',Ext F H A F' H' A'/\OK K F' H' σ' Γ' A'/\Kept m σ σ'/\ExcL F' dx l
def DoneR(K:L2.FG)(m:List Bool)(D:Ends)(F H:Hp)(A:List Addr)(σ:St)(o:O)(Γ':Gm):Option XW->Prop
 |none=>∀v σ' H',PostV K F H A m σ Γ' o v σ' H'->D.rt v H'
 |some W=>match isX o with
  |some p=>∀dx σ' H',PostX K F H A m σ Γ' p.2 dx σ' H'->W p.1 dx σ' H'
  |none=>∀v σ' H',PostV K F H A m σ Γ' o v σ' H'->D.rt v H'
def Done(K:L2.FG)(m:List Bool)(W:Option XW)(D:Ends)(F H:Hp)(A:List Addr)(σ:St):Fl->Gm->Prop
 |.nx,Γ'=>∀σ' H',PostS K F H A m σ Γ' σ' H'->D.nx σ' H'
 |.bk,Γ'=>∀σ' H',PostS K F H A m σ Γ' σ' H'->D.bk σ' H'
 |.ct,Γ'=>∀σ' H',PostS K F H A m σ Γ' σ' H'->D.ct σ' H'
 |.rt o,Γ'=>DoneR K m D F H A σ o Γ' W
def tS(K:L2.FG)(m:List Bool)(W:Option XW)(f:GS):TS:=fun D σ H=>∃F A Γ fl Γ',OK K F H σ Γ A/\f Γ=some (fl,Γ')/\Done K m W D F H A σ fl Γ'
theorem DoneR.imp{K:L2.FG}{m:List Bool}{W:Option XW}{D D1:Ends}{F H F1 H1:Hp}{A A1:List Addr}{σ σ1:St}{o:O}{Γ':Gm}(d:DoneR K m D F H A σ o Γ' W)(x:Ext F H A F1 H1 A1)(kp:Kept m σ σ1)(h:∀v H,D.rt v H->D1.rt v H):DoneR K m D1 F1 H1 A1 σ1 o Γ' W:=by
 have pv:(∀v σ' H',PostV K F H A m σ Γ' o v σ' H'->D.rt v H')->∀v σ' H',PostV K F1 H1 A1 m σ1 Γ' o v σ' H'->D1.rt v H':=fun d v σ' H' ⟨F',A',x',k,q⟩=>h v H' (d v σ' H' ⟨F',A',x.trans x',k,kp.trans q⟩)
 cases W with
 |none=>exact pv d
 |some W=>
  unfold DoneR at d ⊢;cases q:isX o with
  |none=>rw[q] at d;exact pv d
  |some p=>
   rw[q] at d;exact fun dx σ' H' ⟨F',A',x',k,q,r⟩=>d dx σ' H' ⟨F',A',x.trans x',k,kp.trans q,r⟩
theorem DoneR.val{K:L2.FG}{m:List Bool}{W:Option XW}{D:Ends}{F H:Hp}{A:List Addr}{σ:St}{o:O}{Γ':Gm}(d:DoneR K m D F H A σ o Γ' W)(h:isX o=none):∀v σ' H',PostV K F H A m σ Γ' o v σ' H'->D.rt v H':=by
 cases W with
 |none=>exact d
 |some W=>unfold DoneR at d;rw[h] at d;exact d
theorem Done.step{K:L2.FG}{m:List Bool}{W:Option XW}{D:Ends}{F H F1 H1:Hp}{A A1:List Addr}{σ σ1:St}{fl:Fl}{Γ':Gm}(d:Done K m W D F H A σ fl Γ')(x:Ext F H A F1 H1 A1)(kp:Kept m σ σ1):Done K m W D F1 H1 A1 σ1 fl Γ':=by
 cases fl with
 |nx=>exact fun σ' H' ⟨F',A',x',k,q⟩=>d σ' H' ⟨F',A',x.trans x',k,kp.trans q⟩
 |bk=>exact fun σ' H' ⟨F',A',x',k,q⟩=>d σ' H' ⟨F',A',x.trans x',k,kp.trans q⟩
 |ct=>exact fun σ' H' ⟨F',A',x',k,q⟩=>d σ' H' ⟨F',A',x.trans x',k,kp.trans q⟩
 |rt o=>exact DoneR.imp d x kp fun _ _ z=>z
section
variable {X:Cx} {K:L2.FG} {m:List Bool} {W:Option XW} {st:Stmt} {rest sa sb:List Stmt} {e:Expr} {f g:GS} {fa:GE} {ft:GT} {pos:Pos}
def gsNil:GS:=fun Γ=>some (.nx,Γ)
def a0h(f g:GS):GS:=fun Γ=>(f Γ).bind fun p=>match p.1 with
 |.nx=>g p.2
 |.bk=>some (.bk,p.2)
 |.ct=>some (.ct,p.2)
 |.rt o=>some (.rt o,p.2)
theorem a2f:PSs X [] (tS K m W gsNil):=pss_nil.mono fun D σ H t=>by
 obtain⟨F,A,Γ,fl,Γ',k,e,w⟩:=t;cases e;exact w σ H ⟨F,A,Ext.refl,k,Kept.refl⟩
theorem a0n(h1:PS X st (tS K m W f))(h2:PSs X rest (tS K m W g)):PSs X (st::rest) (tS K m W (a0h f g)):=(a9q h1 h2).mono fun D σ H t=>by
 obtain⟨F,A,Γ,fl,Γ',k,e,w⟩:=t;unfold a0h at e;cases q:f Γ with
 |none=>rw[q] at e;cases e
 |some p=>
  obtain⟨fl1,Γ1⟩:=p;rw[q] at e;dsimp only[Option.bind] at e;refine⟨F,A,Γ,fl1,Γ1,k,q,?_⟩;cases fl1 with
  |nx=>
   intro σ' H' ⟨F1,A1,x,k1,kp⟩;exact⟨F1,A1,Γ1,fl,Γ',k1,e,w.step x kp⟩
  |bk=>cases e;exact w
  |ct=>cases e;exact w
  |rt o=>cases e;exact w
theorem a0u(h1:PS X st (tS K m W f)):PSs X [st] (tS K m W f):=c4s h1
def gsRet(f:GE):GS:=fun Γ=>(f Γ).bind fun p=>match p.1 with
 |.own o=>some (.rt o,p.2)
 |_=>none
theorem a3r(h:PE X e (tG K fa)):PS X (.Return (some e) pos) (tS K m none (gsRet fa)):=(d3h h).mono fun D σ H t=>by
 obtain⟨F,A,Γ,fl,Γ',k,e,w⟩:=t;unfold gsRet at e;cases q:fa Γ with
 |none=>rw[q] at e;cases e
 |some p=>
  obtain⟨r,Γ1⟩:=p;rw[q] at e;cases r with
  |var i=>cases e
  |fld i j=>cases e
  |own o=>
   cases e;exact⟨F,A,Γ,_,_,k,q,fun v H' ⟨F1,A1,x,k1,_⟩=>w v σ H' ⟨F1,A1,x,k1,Kept.refl⟩⟩
def b8c(f:GE):GS:=fun Γ=>(f Γ).bind fun p=>match p.1 with
 |.own o=>match isX o with
  |none=>some (.rt o,p.2)
  |some _=>none
 |_=>none
theorem c5v(h:PE X e (tG K fa)):PS X (.Return (some e) pos) (tS K m W (b8c fa)):=(d3h h).mono fun D σ H t=>by
 obtain⟨F,A,Γ,fl,Γ',k,e,w⟩:=t;obtain⟨⟨r,Γ1⟩,q,e⟩:=Option.bind_eq_some_iff.mp e;cases r with
 |var i=>cases e
 |fld i j=>cases e
 |own o=>
  dsimp only at e;cases hx:isX o with
  |some p=>rw[hx] at e;cases e
  |none=>
   rw[hx] at e;cases e;exact⟨F,A,Γ,_,_,k,q,fun v H' ⟨F1,A1,x,k1,_⟩=>DoneR.val w hx v σ H' ⟨F1,A1,x,k1,Kept.refl⟩⟩
def gsIf(c:GT)(f g:GS):GS:=fun Γ=>(c Γ).bind fun p=>if p.1=true then f p.2 else g p.2
theorem a3f{c:Expr}(hc:PT X c (tGT K ft))(ha:PSs X sa (tS K m W f))(hb:PSs X sb (tS K m W g)):PS X (.If c sa sb pos) (tS K m W (gsIf ft f g)):=(e0q hc ha hb).mono fun D σ H t=>by
 obtain⟨F,A,Γ,fl,Γ',k,e,w⟩:=t;unfold gsIf at e;cases q:ft Γ with
 |none=>rw[q] at e;cases e
 |some p=>
  obtain⟨b,Γ1⟩:=p;rw[q] at e;refine⟨F,A,Γ,b,Γ1,k,q,fun H1 hh=>?_⟩
  obtain⟨F1,A1,x,k1,_⟩:=hh;cases b with
  |true=>exact iteT ⟨F1,A1,Γ1,fl,Γ',k1,e,w.step x Kept.refl⟩
  |false=>exact iteF ⟨F1,A1,Γ1,fl,Γ',k1,e,w.step x Kept.refl⟩
def a3i(f:GE):GS:=fun Γ=>(f Γ).bind fun p=>some (.nx,p.2)
theorem a3n(he:PE X e (tG K fa))(hs:swapsWith e none pos.line X.env=pure false:=by rfl):PS X (.Expr e pos) (tS K m W (a3i fa)):=(b9u he hs).mono fun D σ H t=>by
 obtain⟨F,A,Γ,fl,Γ',k,e,w⟩:=t;unfold a3i at e;cases q:fa Γ with
 |none=>rw[q] at e;cases e
 |some p=>
  rw[q] at e;cases e;exact⟨F,A,Γ,p.1,p.2,k,q,fun v H' pp=>by obtain⟨F1,A1,x,k1,_⟩:=pp.drop;exact w σ H' ⟨F1,A1,x,k1,Kept.refl⟩⟩
def gsSet(i:Nat)(f:GE):GS:=fun Γ=>(f Γ).bind fun p=>match p.1 with
 |.own o=>if i < p.2.length then some (.nx,p.2.set i (some o)) else none
 |_=>none
theorem OK.store{F H:Hp}{A:List Addr}{σ:St}{Γ:Gm}{v:V}{o:O}{i:Nat}(k:OK K F H (some v::σ) (some o::Γ) A)(hi:i < Γ.length):∃B,OK K F H (σ.set i (some v)) (Γ.set i (some o)) B/\Ext F H A F H B:=by
 obtain⟨B,C,h1,h2,h3⟩:=k.os.one;obtain⟨B2,g1,C2,g2,g3⟩:=OwnL.put h1 i h2 hi;subst h3;exact⟨B2,k.sub g1 ((SubP.of_perm g2).trans ((SubP.refl B).app (.of_sub g3)))⟩
theorem a2d{i:Nat}{x:Str}{pos':Pos}(hN:X.N.Nodup)(hi:X.N[i]?=some x)(hx:Loc X.env.scope x)(he:PE X e (tG K fa))(hm:(m[i]? == some true)=false:=by rfl)(hs:swapsWith e (some (.Name x pos')) pos.line X.env=pure false:=by rfl)(hf:X.fn x=true\/X.env.scope.names.lookup x=some .local := by first|exact .inl rfl|exact .inr rfl):
  PS X (.Assign [.Name x pos'] e pos) (tS K m W (gsSet i fa)):=(c4t hN hi hx he hs hf).mono fun D σ H t=>by
 obtain⟨F,A,Γ,fl,Γ',k,e,w⟩:=t;unfold gsSet at e;cases q:fa Γ with
 |none=>rw[q] at e;cases e
 |some p=>
  obtain⟨r,Γ1⟩:=p;rw[q] at e;cases r with
  |var i=>cases e
  |fld i j=>cases e
  |own o=>
   dsimp only[Option.bind] at e;split at e
   ·cases e;refine⟨F,A,Γ,_,Γ1,k,q,fun v H' hh=>?_⟩
    obtain⟨F1,A1,x,k1,_⟩:=hh;obtain⟨B,k2,x2⟩:=OK.store (σ:=σ) (Γ:=Γ1) k1 (by assumption)
    exact w _ H' ⟨F1,B,x.trans x2,k2,Kept.set hm⟩
   ·cases e
abbrev GG:=D->Gm->Option Gm
def TgOk(K:L2.FG)(m:List Bool)(t:TG)(g:GG):Prop:=
 ∀(F H:Hp) (σ:St) (Γ Γ1:Gm) (A:List Addr) (x:V) (d:D) (Q:St->Hp->Prop),OK K F H σ Γ A->RepL K F [x] [d]->g d Γ=some Γ1->(∀σ' A',OK K F H σ' Γ1 A'->Ext F H A F H A'->Kept m σ σ'->Q σ' H)->t x σ H Q
def a1g(i:Nat):GG:=fun d Γ=>if i < Γ.length then some (Γ.set i (some (.frz d))) else none
theorem a2l{i:Nat}(hm:(m[i]? == some true)=false:=by rfl):TgOk K m (gName i) (a1g i):=by
 intro F H σ Γ Γ1 A x d Q k r e w;unfold a1g at e;split at e
 ·cases e;obtain⟨k1,x1⟩:=k.push (v:=x) (o:=.frz d) (Av:=[]) (Same.refl _) (.frz r .nil) .nil (fun _ m=>by cases m)
  obtain⟨B,k2,x2⟩:=OK.store k1 (by assumption)
  exact w _ _ k2 (x1.trans x2) (Kept.set hm)
 ·cases e
def ggAll:List GG->List D->Gm->Option Gm
 |[],[],Γ=>some Γ
 |g::gs,d::ds,Γ=>(g d Γ).bind fun Γ1=>ggAll gs ds Γ1
 |_,_,_=>none
def TgsOk(K:L2.FG)(m:List Bool)(t:TGs)(g:List GG):Prop:=
 ∀(F H:Hp) (σ:St) (Γ Γ1:Gm) (A:List Addr) (xs:List V) (ds:List D) (Q:St->Hp->Prop),OK K F H σ Γ A->RepL K F xs ds->ggAll g ds Γ=some Γ1->(∀σ' A',OK K F H σ' Γ1 A'->Ext F H A F H A'->Kept m σ σ'->Q σ' H)->t xs σ H Q
theorem b6d:TgsOk K m gNil []:=by
 intro F H σ Γ Γ1 A xs ds Q k r e w;cases ds with
 |nil=>
  cases e;cases xs with
  |nil=>exact⟨rfl,w σ A k Ext.refl Kept.refl⟩
  |cons _ _=>have:=r.length;simp at this
 |cons _ _=>cases e
theorem a4u{t:TG}{ts:TGs}{g:GG}{gs:List GG}(h1:TgOk K m t g)(h2:TgsOk K m ts gs):TgsOk K m (L2.gCons t ts) (g::gs):=by
 intro F H σ Γ Γ1 A xs ds Q k r e w;cases ds with
 |nil=>cases e
 |cons d ds=>
  cases xs with
  |nil=>have:=r.length;simp at this
  |cons x xs=>
   unfold ggAll at e;cases q:g d Γ with
   |none=>rw[q] at e;cases e
   |some Γ2=>
    rw[q] at e;refine⟨x,xs,rfl,h1 F H σ Γ Γ2 A x d _ k r.inv.1 q fun σ1 A1 k1 x1 kp1=>?_⟩
    exact h2 F H σ1 Γ2 Γ1 A1 xs ds _ k1 r.inv.2 e fun σ2 A2 k2 x2 kp2=>w σ2 A2 k2 (x1.trans x2) (kp1.trans kp2)
def ggTup(gs:List GG):GG:=fun d Γ=>match d with
 |.tup ds=>ggAll gs ds Γ
 |_=>none
theorem b8d:∀{gs:List GG} {ds:List D} {Γ Γ1:Gm},ggAll gs ds Γ=some Γ1->ds.length=gs.length
 |[],[],_,_,_=>rfl
 |g::gs,d::ds,Γ,Γ1,e=>by
  unfold ggAll at e;cases q:g d Γ with
  |none=>rw[q] at e;cases e
  |some Γ2=>rw[q] at e;simp[b8d (gs:=gs) (ds:=ds) e]
 |[],_::_,_,_,e=>by cases e
 |_::_,[],_,_,e=>by cases e
theorem c1k{ts:TGs}{gs:List GG}{n:Nat}(h:TgsOk K m ts gs)(hn:n=gs.length:=by rfl):TgOk K m (gTup K n ts) (ggTup gs):=by
 intro F H σ Γ Γ1 A x d Q k r e w;cases d with
 |tup ds=>
  have e:ggAll gs ds Γ=some Γ1:=e;cases r with
  |flat z _=>cases z
  |tup q i _=>exact⟨_,_,rfl,k.le.seqT q,by rw[hn,i.length,b8d e],h F H σ Γ Γ1 A _ ds Q k i e w⟩
 |_=>cases e
def a2m(g:GG)(f:GS):List D->GS
 |[]=>fun Γ=>some (.nx,Γ)
 |d::ds=>fun Γ=>(g d Γ).bind fun Γ1=>(f Γ1).bind fun q=>match q.1 with
   |.nx=>a2m g f ds q.2
   |.ct=>a2m g f ds q.2
   |.bk=>some (.nx,q.2)
   |.rt o=>some (.rt o,q.2)
theorem b8e{t:TG}{g:GG}(tg:TgOk K m t g){F H:Hp}{σ:St}{Γ Γ':Gm}{A:List Addr}{x:V}{d:D}{ds:List D}{fl:Fl}{E:Ends}{Pv:St->Hp->Prop}(k:OK K F H σ Γ A)(r:RepL K F [x] [d])
  (e:a2m g f (d::ds) Γ=some (fl,Γ')) (w:Done K m W E F H A σ fl Γ')
  (nxt:∀F1 H1 σ1 Γ1 A1,Ext F H A F1 H1 A1->OK K F1 H1 σ1 Γ1 A1->a2m g f ds Γ1=some (fl,Γ')->Done K m W E F1 H1 A1 σ1 fl Γ'->Pv σ1 H1):t x σ H fun σ2 H2=>tS K m W f { E with nx:=Pv,ct:=Pv,bk:=E.nx} σ2 H2:=by
 unfold a2m at e;cases q:g d Γ with
 |none=>rw[q] at e;cases e
 |some Γ1=>
  rw[q] at e;dsimp only[Option.bind] at e;cases q2:f Γ1 with
  |none=>rw[q2] at e;cases e
  |some p=>
   obtain⟨fl1,Γ2⟩:=p;rw[q2] at e;dsimp only at e;refine tg F H σ Γ Γ1 A x d _ k r q fun σ1 A1 k1 x1 kp=>⟨F,A1,Γ1,fl1,Γ2,k1,q2,?_⟩
   have w1:=w.step x1 kp;cases fl1 with
   |nx=>exact fun σ' H' ⟨F2,A2,x2,k2,kp2⟩=>nxt F2 H' σ' Γ2 A2 (x1.trans x2) k2 e (w1.step x2 kp2)
   |ct=>exact fun σ' H' ⟨F2,A2,x2,k2,kp2⟩=>nxt F2 H' σ' Γ2 A2 (x1.trans x2) k2 e (w1.step x2 kp2)
   |bk=>cases e;exact w1
   |rt o=>cases e;exact w1
theorem d1e{g:GG}{F H:Hp}{σ:St}{Γ Γ':Gm}{A:List Addr}{fl:Fl}{E:Ends}(k:OK K F H σ Γ A)(e:a2m g f [] Γ=some (fl,Γ'))(w:Done K m W E F H A σ fl Γ'):E.nx σ H:=by
 cases e;exact w σ H ⟨F,A,Ext.refl,k,Kept.refl⟩
def gsFor(it:GE)(g:GG)(f:GS):GS:=fun Γ=>(gFrz it Γ).bind fun p=>match p.1 with
 |.own (.frz (.lst ds))=>a2m g f ds p.2
 |_=>none
variable {tg iter:Expr} {t:TG} {gg:GG} {body:List Stmt}
def LI(K:L2.FG)(m:List Bool)(W:Option XW)(gg:GG)(f:GS)(E:Ends)(F1:Hp)(fl:Fl)(Γ':Gm)(ds:List D)(i:Nat)(σ:St)(H:Hp):Prop:=∃F A Γ,OK K F H σ Γ A/\a2m gg f (ds.drop i) Γ=some (fl,Γ')/\Done K m W E F H A σ fl Γ'/\Same F1 F
section
variable {F1 H1:Hp} {σ:St} {ds:List D} {i:Nat} {E:Ends} {fl:Fl} {Γ':Gm}
theorem LI.same(p:LI K m W gg f E F1 fl Γ' ds i σ H1):Same F1 H1:=by
 obtain⟨F',A',Γc,k',e',w',s'⟩:=p;exact s'.trans k'.le
theorem LI.turn(p:LI K m W gg f E F1 fl Γ' ds i σ H1)(ht:TgOk K m t gg){x:V}{d:D}(hd:ds[i]?=some d)(r:RepL K F1 [x] [d]):t x σ H1 fun σ2 H2=>tS K m W f { E with nx:=LI K m W gg f E F1 fl Γ' ds (i+1),ct:=LI K m W gg f E F1 fl Γ' ds (i+1),bk:=E.nx} σ2 H2:=by
 obtain⟨F',A',Γc,k',e',w',s'⟩:=p;obtain⟨hi,he⟩:=List.getElem?_eq_some_iff.mp hd;rw[List.drop_eq_getElem_cons hi,he] at e';exact b8e ht k' (r.mono s') e' w' fun F2 H2 σ2 Γ2 A2 x2 k2 e2 w2=>⟨F2,A2,Γ2,k2,e2,w2,s'.trans x2.ff⟩
theorem LI.step(p:LI K m W gg f E F1 fl Γ' ds i σ H1)(ht:TgOk K m t gg){ws:List V}(ri:RepL K F1 ws ds){x:V}(hx:ws[i]?=some x):t x σ H1 fun σ2 H2=>tS K m W f { E with nx:=LI K m W gg f E F1 fl Γ' ds (i+1),ct:=LI K m W gg f E F1 fl Γ' ds (i+1),bk:=E.nx} σ2 H2:=by
 have hi:i < ds.length:=by rw[<-ri.length];exact(List.getElem?_eq_some_iff.mp hx).1
 obtain⟨x2,hx2,rx⟩:=ri.get (List.getElem?_eq_getElem hi);rw[hx] at hx2;cases hx2;exact p.turn ht (List.getElem?_eq_getElem hi) rx
theorem LI.fin(p:LI K m W gg f E F1 fl Γ' ds i σ H1)(h:ds.length<=i):E.nx σ H1:=by
 obtain⟨F',A',Γc,k',e',w',s'⟩:=p;rw[List.drop_of_length_le h] at e';exact d1e k' e' w'
theorem LI.start{F H:Hp}{A A1:List Addr}{v:V}{d:D}{Γ1:Gm}(k1:OK K F1 H1 (some v::σ) (some (.frz d)::Γ1) A1)(x:Ext F H A F1 H1 A1)(w:Done K m W E F H A σ fl Γ')(e:a2m gg f ds Γ1=some (fl,Γ')):RepL K F1 [v] [d]/\LI K m W gg f E F1 fl Γ' ds 0 σ H1:=by
 obtain⟨B,C,h1,h2,h3⟩:=OwnL.one (σ:=σ) (Γ:=Γ1) k1.os;subst h3;cases h1 with
 |frz rp tl=>exact⟨rp,F1,_,Γ1,(k1.sub h2 (.of_sub (List.sublist_append_right _ _))).1,e,w.step (x.own' fun a m=>List.mem_append_right _ m) Kept.refl,Same.refl _⟩
theorem d5o{α:Type}{φ:List D->Gm->Option α}{z:α}{Γ:Gm}(e:((gFrz fa Γ).bind fun p=>match p.1 with|.own (.frz (.lst ds))=>φ ds p.2|_=>none)=some z):∃ds Γ1,gFrz fa Γ=some (.own (.frz (.lst ds)),Γ1)/\φ ds Γ1=some z:=by
 obtain⟨⟨r,Γ1⟩,q,e⟩:=Option.bind_eq_some_iff.mp e;dsimp only at e;split at e
 ·exact⟨_,Γ1,q,e⟩
 ·cases e
theorem c5w{v:V}(h:RepL K F1 [v] [.lst ds]):∃a ws,v=.ref a/\Rd F1 a (.lst ws)/\RepL K F1 ws ds:=by
 cases h with
 |flat z _=>cases z
 |@lst a ws vs es ds' sq ri _=>exact⟨a,ws,rfl,sq,ri⟩
end
theorem b2y(hp:PassesOwn (model X.prog X.w) X.A X.env X.xe)(hi:PE X iter (tG K fa))(hg:PG X tg t)(ht:TgOk K m t gg)(hb:PSs X body (tS K m W f))(hc:X.calm=true:=by rfl)(hK:X.K=K:=by rfl)(hs:∀x,foldedSetIterable iter X.env x=pure x:=by intro _;rfl):PS X (.For tg iter body [] pos) (tS K m W (gsFor fa gg f)):=by
 subst hK;refine(c4w hp hc (b5x (a1j hi)) hg hb hs).mono fun D σ H tt=>?_
 obtain⟨F,A,Γ,fl,Γ',k,e,w⟩:=tt;obtain⟨ds,Γ1,q,e⟩:=d5o (φ:=fun ds Γ=>a2m gg f ds Γ) e
 refine⟨F,A,Γ,_,Γ1,k,q,fun v H1 pp=>?_⟩
 obtain⟨F1,A1,x,k1,_⟩:=pp;obtain⟨rp,st⟩:=LI.start k1 x w e;obtain⟨a,ws,rfl,sq,ri⟩:=c5w rp;exact⟨a,rfl,⟨ws,.inl (k1.le.rd sq)⟩,d0j (xs:=ws) (LI X.K m W gg f D F1 fl Γ' ds) st (fun i σ' H' _ p=>.inl (p.same.rd sq)) (fun i x' σ' H' hx p=>p.step ht ri hx) fun σ' H' p=>p.fin (by rw[ri.length];exact Nat.le_refl _)⟩
end
def rngD(lo:Int)(n:Nat):List D:=(List.range n).map fun(k:Nat)=>D.int (lo+(k:Int))
theorem b4u{α:Type}(h:Nat->α){i n:Nat}(hi:i < n):((List.range n).map h).drop i=h i::((List.range n).map h).drop (i+1):=by
 have e:i < ((List.range n).map h).length:=by simpa using hi
 rw[List.drop_eq_getElem_cons e];simp
def int1:List R->Option Int
 |[.own (.frz (.int j))]=>if Nat.ble j.natAbs 1000000000000=true then some j else none
 |_=>none
theorem c1l{rs:List R}{j:Int}(e:int1 rs=some j):rs=[.own (.frz (.int j))] /\ -(2 ^ 62)<=j/\j < 2 ^ 62:=by
 unfold int1 at e;split at e
 ·split at e
  ·rename_i h
   have h:=Nat.le_of_ble_eq_true h;cases e;exact⟨rfl,by omega,by omega⟩
  ·cases e
 ·cases e
theorem c5x{j:Int}(h:j.natAbs<=1000000):int1 [.own (.frz (.int j))]=some j:=by
 unfold int1;dsimp only;rw[if_pos (Nat.ble_eq_true_of_le (by omega))]
def b6e(fs:GA)(g:GG)(f:GS):GS:=fun Γ=>(fs Γ).bind fun p=>(int1 p.1).bind fun j=>a2m g f (rngD 0 j.toNat) p.2
section
variable {X:Cx} {K:L2.FG} {m:List Bool} {W:Option XW} {f:GS} {fa:GE} {fs:GA} {pos p:Pos} {tg a b c:Expr} {t:TG} {gg:GG} {body:List Stmt}
theorem b2z{F H:Hp}{σ:St}{Γ:Gm}{A:List Addr}{v:V}{i:Int}(h:OwnL K F H (some v::σ) (some (.frz (.int i))::Γ) A):v=.int i/\OwnL K F H σ Γ A:=by
 cases h with
 |frz r t=>
  cases r with
  |flat e _=>cases e;exact⟨rfl,t⟩
theorem d1f{α:Type}:∀{l:List α},1=l.length->∃a,l=[a]
 |[a],_=>⟨a,rfl⟩
theorem d8u{α:Type}:∀{l:List α},2=l.length->∃a b,l=[a,b]
 |[a,b],_=>⟨a,b,rfl⟩
theorem e0s{α:Type}:∀{l:List α},3=l.length->∃a b c,l=[a,b,c]
 |[a,b,c],_=>⟨a,b,c,rfl⟩
theorem LI.ints{F1 H1:Hp}{σ:St}{E:Ends}{fl:Fl}{Γ' Γ1:Gm}{F H:Hp}{A A1:List Addr}{τ:St}{Θ:Gm}{ds:List D}(k1:OK K F1 H1 τ Θ A1)(h:OwnL K F1 H1 σ Γ1 A1)(x:Ext F H A F1 H1 A1)(w:Done K m W E F H A σ fl Γ')(e:a2m gg f ds Γ1=some (fl,Γ')):LI K m W gg f E F1 fl Γ' ds 0 σ H1:=
 ⟨F1,A1,Γ1,(k1.sub h (SubP.refl _)).1,e,w.step x Kept.refl,Same.refl _⟩
theorem d8v{g:Nat->D}{n i:Nat}(h:i < n):((List.range n).map g)[i]?=some (g i):=by rw[List.getElem?_map,List.getElem?_range h];rfl
theorem c5y(hp:PassesOwn (model X.prog X.w) X.A X.env X.xe)(hm:X.mg "range"=none)(ha:PA X [a] (tGA K fs))(hg:PG X tg t)(ht:TgOk K m t gg)(hb:PSs X body (tS K m W f))(hc:X.calm=true:=by rfl)(hgl:Gl X "range":=by rfl)
  (hs:starEach [a] X.env=[(false,eval a X.env)]:=by rfl) (hf:∀x,foldedSetIterable (.Call (.Name "range" p) [a] [] pos) X.env x=pure x:=by intro _;rfl) {fp:Pos}:PS X (.For tg (.Call (.Name "range" p) [a] [] pos) body [] fp) (tS K m W (b6e fs gg f)):=by
 refine(c4w hp hc (b7n hgl hm ha hs) hg hb hf).mono fun D σ H tt=>?_
 obtain⟨F,A,Γ,fl,Γ',k,e,w⟩:=tt;obtain⟨⟨rs,Γ1⟩,q,e⟩:=Option.bind_eq_some_iff.mp e;obtain⟨j,q2,e⟩:=Option.bind_eq_some_iff.mp e;obtain⟨hj,hb⟩:=c1l q2;subst hj;refine⟨F,A,Γ,_,Γ1,k,q,fun vs H1 pp=>?_⟩
 obtain⟨F1,A1,x,k1,hh⟩:=pp;obtain⟨v,rfl⟩:=d1f hh.length;obtain⟨rfl,h2⟩:=b2z (σ:=σ) (Γ:=Γ1) k1.os;exact⟨j,rfl,hb.1,hb.2,c4x (LI K m W gg f D F1 fl Γ' (rngD 0 j.toNat)) (.ints k1 h2 x w e) (fun i σ' H' hi p=>p.turn ht (d8v hi) (.flat rfl .nil)) fun σ' H' p=>p.fin (by simp[rngD])⟩
end
abbrev GM:=List O->Option (O×Gm)
def PostC(K:L2.FG)(F H:Hp)(A:List Addr)(vs:List V)(fin:Gm)(o:O)(v:V)(H':Hp):Prop:=∃F' A',Ext F H A F' H' A'/\OK K F' H' (some v::vs.map some) (some o::fin) A'
def SpM(K:L2.FG)(n:Nat)(M:GM):Sp:=fun vs H Q _=>vs.length=n/\∃F A os o fin,OK K F H (vs.map some) (os.map some) A/\M os=some (o,fin)/\∀v H',PostC K F H A vs fin o v H'->Q v H'
def keepM:List Bool->Gm->Gm
 |true::m,x::Γ=>x::keepM m Γ
 |false::m,_::Γ=>none::keepM m Γ
 |[],_::Γ=>none::keepM [] Γ
 |_,[]=>[]
def Fl.val:Fl->Option O
 |.rt o=>some o
 |.nx=>some (.frz .non)
 |_=>none
def runM(n:Nat)(m:List Bool)(f:GS):GM:=fun os=>(f (os.map some++List.replicate (n - os.length) none)).bind fun p=>p.1.val.bind fun o=>if p.2.length=n then some (o,keepM m (p.2.take os.length)) else none
section
variable {K:L2.FG} {F H:Hp} {σ:St} {Γ:Gm} {A:List Addr}
theorem a9u:∀n:Nat,OwnL K F H (List.replicate n none) (List.replicate n none) []
 |0=>.nil
 |n+1=>.skip (a9u n)
theorem b6f:∀{m:List Bool} {vs:List V} {σ':St} {Γ:Gm} {B:List Addr},OwnL K F H σ' Γ B->σ'.length=vs.length->(∀j:Nat,m[j]?=some true->σ'[j]?=(vs.map some)[j]?)->∃C,OwnL K F H (vs.map some) (keepM m Γ) C/\C.Sublist B
 |m,[],[],[],B,h,_,_=>by
  cases m with
  |nil=>exact⟨B,h,List.Sublist.refl _⟩
  |cons b m=>cases b <;> exact⟨B,h,List.Sublist.refl _⟩
 |m,v::vs,x::σ',y::Γ,B,h,hl,hk=>by
  obtain⟨B1,B2,h1,h2,h3⟩:=h.one;subst h3;have hl':σ'.length=vs.length:=by simpa using hl
  cases m with
  |nil=>
   obtain⟨C,g1,g2⟩:=b6f (m:=[]) h2 hl' (fun j hj=>by simp at hj)
   exact⟨C,.skip g1,g2.trans (List.sublist_append_right _ _)⟩
  |cons b m=>
   obtain⟨C,g1,g2⟩:=b6f (m:=m) h2 hl' (fun j hj=>by simpa using hk (j+1) (by simpa using hj))
   cases b with
   |false=>exact⟨C,.skip g1,g2.trans (List.sublist_append_right _ _)⟩
   |true=>
    have hx:x=some v:=by simpa using hk 0 rfl
    subst hx;exact⟨B1++C,h1.app g1,g2.append_left _⟩
 |_,[],_::_,_,_,_,hl,_=>by simp at hl
 |_,_::_,[],_,_,_,hl,_=>by simp at hl
 |_,[],[],_::_,_,h,_,_=>by have:=h.length;simp at this
 |_,_::_,_::_,[],_,h,_,_=>by have:=h.length;simp at this
theorem OK.params{m:List Bool}{vs:List V}{σ':St}{Γ':Gm}{v:V}{o:O}{rest:St}(k:OK K F H (some v::σ') (some o::Γ') A)(hl:vs.length<=σ'.length)(kp:Kept m (vs.map some++rest) σ')(hm:m.length<=vs.length):
  ∃B,OK K F H (some v::vs.map some) (some o::keepM m (Γ'.take vs.length)) B/\Ext F H A F H B:=by
 obtain⟨B,C,h1,h2,h3⟩:=k.os.one;subst h3;have hΓ:=h2.length;have e1:σ'=σ'.take vs.length++σ'.drop vs.length:=(List.take_append_drop _ _).symm;have e2:Γ'=Γ'.take vs.length++Γ'.drop vs.length:=(List.take_append_drop _ _).symm;have h2':OwnL K F H (σ'.take vs.length++σ'.drop vs.length) (Γ'.take vs.length++Γ'.drop vs.length) C:=by rw[<-e1,<-e2];exact h2
 obtain⟨C1,C2,g1,g2,g3⟩:=OwnL.split (by rw[List.length_take,List.length_take];omega) h2'
 subst g3;obtain⟨C3,j1,j2⟩:=b6f (m:=m) (vs:=vs) g1 (by rw[List.length_take];omega) (fun j hj=>by
  have hlt:j < vs.length:=by
   have:=(List.getElem?_eq_some_iff.mp hj).1;omega
  rw[List.getElem?_take_of_lt hlt,kp j hj,List.getElem?_append_left (by simpa using hlt)])
 exact⟨B++C3,k.sub (h1.app j1) ((SubP.refl B).app (.of_sub (j2.trans (List.sublist_append_left _ _))))⟩
end
section
variable {P:Program} {w:World} {K:L2.FG} {mg:Str->Option Value} {base:Heap}
theorem c5z{x qual:Str}{st:Stmt}{fa:Addr}{fd:FuncData}{N ps:List Str}{k:Nat}(m:List Bool)(f:GS)(Fn:Fun K x qual st fa fd)(S:FnScope N ps (a0s st))(hm:m.length<=ps.length)
  (hbody:∀(cdv:Value) (A:Around) (outer:List Env) (s:Shared) (H:Hp) (E:XK),Room k (A.deeper (envOfC qual (a0s st) s.heap.objs.size fa cdv))->
   PSs (cxOf CX0 P w K mg base N qual (a0s st) fa cdv A outer s H E).nox (a7b st) (tS K m none f)):FnOk P w K mg base CX0 (k+1) fa fd ps (SpM K ps.length (runM N.length m f)):=by
 refine Fn.ok S (fun vs H Q E h=>h.1) fun cdv A outer s H vs Q E hr h=>⟨_,hbody cdv A outer s H E hr,?_⟩
 obtain⟨hl,F,A0,os,o,fin,k0,e,q⟩:=h;have hlo:vs.length=os.length:=by have:=k0.os.length;simpa using this
 have hN:ps.length<=N.length:=by have:=congrArg List.length S.pre;rw[List.length_take] at this;omega
 unfold runM at e;cases q1:f (os.map some++List.replicate (N.length - os.length) none) with
 |none=>rw[q1] at e;cases e
 |some p=>
  obtain⟨fl,Γ'⟩:=p;rw[q1] at e;dsimp only[Option.bind] at e;have k1:OK K F H (start N vs) (os.map some++List.replicate (N.length - os.length) none) A0:=by
   unfold start;rw[hlo];have z:=k0.os.app (a9u (K:=K) (F:=F) (H:=H) (N.length - os.length));rw[List.append_nil] at z;exact⟨k0.le,z,k0.nd,k0.fr⟩
  cases q2:fl.val with
  |none=>rw[q2] at e;cases e
  |some o'=>
   rw[q2] at e;dsimp only at e;split at e
   ·rename_i hlen
    cases e;refine⟨F,A0,_,fl,Γ',k1,q1,?_⟩;have fin':∀{F' H':Hp} {A':List Addr} {v:V} {σ':St},Ext F H A0 F' H' A'->OK K F' H' (some v::σ') (some o::Γ') A'->Kept m (start N vs) σ'->Q v H':=by
     intro F' H' A' v σ' x k' kp;unfold start at kp;have hs:σ'.length=Γ'.length:=by have:=k'.os.length;simpa using this
     obtain⟨B,k2,x2⟩:=OK.params (m:=m) (vs:=vs) k' (by omega) kp (by omega)
     rw[hlo] at k2;exact q v H' ⟨F',B,x.trans x2,k2⟩
    cases fl with
    |nx=>
     cases q2;intro σ' H' ⟨F',A',x,k',kp⟩;obtain⟨k2,x2⟩:=k'.push (v:=.non) (o:=.frz .non) (Av:=[]) (Same.refl _) (.frz (.flat rfl .nil) .nil) .nil (fun _ m=>by cases m)
     exact fin' (x.trans x2) k2 kp
    |rt o1=>
     cases q2;intro v σ' H' ⟨F',A',x,k',kp⟩;exact fin' x k' kp
    |bk=>cases q2
    |ct=>cases q2
   ·cases e
theorem a6r{x qual:Str}{st:Stmt}{fa:Addr}{fd:FuncData}{N ps:List Str}{k:Nat}(m:List Bool)(f:GS)(Fn:Fun K x qual st fa fd)(S:FnScope N ps (a0s st)){n pn:Nat}(hn:N.length=n)(hp:ps.length=pn)(hm:m.length<=ps.length)
  (hbody:∀(cdv:Value) (A:Around) (outer:List Env) (s:Shared) (H:Hp) (E:XK),Room k (A.deeper (envOfC qual (a0s st) s.heap.objs.size fa cdv))->
   ∃f',PSs (cxOf CX0 P w K mg base N qual (a0s st) fa cdv A outer s H E).nox (a7b st) (tS K m none f')/\f'=f):FnOk P w K mg base CX0 (k+1) fa fd ps (SpM K pn (runM n m f)):=by
 subst hn hp;exact c5z m f Fn S hm fun cdv A outer s H E hr=>by
  obtain⟨f',h,e⟩:=hbody cdv A outer s H E hr;rw[<-e];exact h
end
def a3l:List R->Gm->Option (List O×Gm)
 |[],Γ=>some ([],Γ)
 |.own o::rs,Γ=>(a3l rs Γ).bind fun p=>some (o::p.1,p.2)
 |.var i::rs,Γ=>match Γ[i]? with
  |some (some o)=>(a3l rs (Γ.set i none)).bind fun p=>some (o::p.1,p.2)
  |_=>none
 |_::_,_=>none
def a5i:List R->Gm->Gm->Gm
 |.own _::rs,_::fin,Γ=>a5i rs fin Γ
 |.var i::rs,f::fin,Γ=>(a5i rs fin Γ).set i f
 |_,_,Γ=>Γ
def gCall(M:GM)(fs:GA):GE:=fun Γ=>(fs Γ).bind fun p=>(a3l p.1 p.2).bind fun q=>(M q.1).bind fun r=>some (.own r.1,a5i p.1 r.2 q.2)
section
variable {K:L2.FG} {F H:Hp} {σ:St}
theorem a9v:∀{rs:List R} {vs:List V} {Γ Γ2:Gm} {os:List O} {B C:List Addr},OwnL K F H (vs.map some) (rs.map R.o) B->OwnL K F H σ Γ C->Held σ H rs vs->a3l rs Γ=some (os,Γ2)->
  ∃B' C',OwnL K F H (vs.map some) (os.map some) B'/\OwnL K F H σ Γ2 C'/\(B'++C').Perm (B++C)
 |[],[],Γ,Γ2,os,B,C,h1,h2,_,e=>by cases e;exact⟨B,C,h1,h2,.refl _⟩
 |.own o::rs,v::vs,Γ,Γ2,os,B,C,h1,h2,hh,e=>by
  obtain⟨B1,B2,g1,g2,rfl⟩:=OwnL.one h1;unfold a3l at e;cases q:a3l rs Γ with
  |none=>rw[q] at e;cases e
  |some p=>
   rw[q] at e;cases e;obtain⟨B',C',j1,j2,j3⟩:=a9v g2 h2 hh q;exact⟨B1++B',C',g1.app j1,j2,by rw[List.append_assoc,List.append_assoc];exact .append_left _ j3⟩
 |.var i::rs,v::vs,Γ,Γ2,os,B,C,h1,h2,hh,e=>by
  obtain⟨B1,B2,g1,g2,rfl⟩:=OwnL.one h1;have eB:B1=[]:=by cases g1 with|skip t=>cases t;rfl
  subst eB;unfold a3l at e;cases q0:Γ[i]? with
  |none=>rw[q0] at e;cases e
  |some z=>
   cases z with
   |none=>rw[q0] at e;cases e
   |some o=>
    rw[q0] at e;dsimp only at e;cases q:a3l rs (Γ.set i none) with
    |none=>rw[q] at e;cases e
    |some p=>
     rw[q] at e;cases e;obtain⟨v',Ai,C1,k1,k2,k3,k4⟩:=h2.take q0;rw[hh.1] at k1;cases k1;obtain⟨B',C',j1,j2,j3⟩:=a9v g2 k3 hh.2 q;refine⟨Ai++B',C',k2.app j1,j2,?_⟩;rw[List.append_assoc,List.nil_append];refine(List.Perm.append_left Ai j3).trans ?_;rw[<-List.append_assoc];refine(List.Perm.append_right C1 List.perm_append_comm).trans ?_;rw[List.append_assoc];exact .append_left _ k4.symm
 |[],_::_,_,_,_,_,_,_,_,h,_=>h.elim
 |.own _::_,[],_,_,_,_,_,_,_,h,_=>h.elim
 |.var _::_,[],_,_,_,_,_,_,_,h,_=>h.elim
theorem b2g:∀{rs:List R} {vs:List V} {fin Γ:Gm} {B C:List Addr},OwnL K F H (vs.map some) fin B->OwnL K F H σ Γ C->Held σ H rs vs->∃D,OwnL K F H σ (a5i rs fin Γ) D/\SubP D (B++C)
 |[],[],fin,Γ,B,C,h1,h2,_=>by
  cases h1;exact⟨C,h2,.of_sub (List.sublist_append_right _ _)⟩
 |.own o::rs,v::vs,[],Γ,B,C,h1,h2,hh=>by have:=h1.length;simp at this
 |.var i::rs,v::vs,[],Γ,B,C,h1,h2,hh=>by have:=h1.length;simp at this
 |.own o::rs,v::vs,f::fin,Γ,B,C,h1,h2,hh=>by
  obtain⟨B1,B2,g1,g2,rfl⟩:=OwnL.one h1;obtain⟨D,j1,j2⟩:=b2g g2 h2 hh;exact⟨D,j1,j2.trans (by rw[List.append_assoc];exact .of_sub (List.sublist_append_right _ _))⟩
 |.var i::rs,v::vs,f::fin,Γ,B,C,h1,h2,hh=>by
  obtain⟨B1,B2,g1,g2,rfl⟩:=OwnL.one h1;obtain⟨D,j1,j2⟩:=b2g g2 h2 hh.2;cases f with
  |none=>
   obtain⟨D',k1,k2⟩:=OwnL.forget i j1;exact⟨D',k1,(SubP.of_sub k2).trans (j2.trans (by rw[List.append_assoc];exact .of_sub (List.sublist_append_right _ _)))⟩
  |some o=>
   have hi:i < (a5i rs fin Γ).length:=by
    rw[<-j1.length];exact(List.getElem?_eq_some_iff.mp hh.1).1
   obtain⟨D',k1,C',k2,k3⟩:=OwnL.put g1 i j1 hi;rw[a6q hh.1] at k1;refine⟨D',k1,(SubP.of_perm k2).trans ?_⟩;rw[List.append_assoc];exact(SubP.refl B1).app ((SubP.of_sub k3).trans j2)
 |.fld _ _::_,_,[],_,_,C,_,h2,_=>⟨C,h2,.of_sub (List.sublist_append_right _ _)⟩
 |.fld _ _::_,_,_::_,_,_,C,_,h2,_=>⟨C,h2,.of_sub (List.sublist_append_right _ _)⟩
 |[],_::_,_,_,_,_,_,_,h=>h.elim
 |.own _::_,[],_,_,_,_,_,_,h=>h.elim
 |.var _::_,[],_,_,_,_,_,_,h=>h.elim
end
section
variable {X:Cx} {K:L2.FG} {k n:Nat} {f:Addr} {fd:FuncData} {ps:List Str} {x:Str} {p pos:Pos} {e:Expr} {es:List Expr} {fs:GA} {st:Stmt} {M:GM}
theorem d5p{σ:St}{H:Hp}{Q:VK}(t:tG K (gCall M fs) σ H Q)(hn:∀rs Γ Γ',fs Γ=some (rs,Γ')->rs.length=n):tCall (SpM K n M) [] E1 (tGA K fs) σ H Q:=by
 obtain⟨F,A,Γ,rr,Γ',k,e,w⟩:=t;unfold gCall at e;cases q:fs Γ with
 |none=>rw[q] at e;cases e
 |some pr=>
  obtain⟨rs,Γ1⟩:=pr;rw[q] at e;dsimp only[Option.bind] at e;cases q2:a3l rs Γ1 with
  |none=>rw[q2] at e;cases e
  |some pr2=>
   obtain⟨os,Γ2⟩:=pr2;rw[q2] at e;dsimp only at e;cases q3:M os with
   |none=>rw[q3] at e;cases e
   |some pr3=>
    obtain⟨o,fin⟩:=pr3;rw[q3] at e;cases e;refine⟨F,A,Γ,rs,Γ1,k,q,fun vs H1 pp=>?_⟩
    show SpM K n M (vs++[]) H1 Q E0;rw[List.append_nil];obtain⟨F1,A1,x,k1,hh⟩:=pp;have hl:(vs.map some).length=(rs.map R.o).length:=by rw[List.length_map,List.length_map,hh.length]
    obtain⟨B,C,h1,h2,h3⟩:=OwnL.split hl k1.os;subst h3;obtain⟨B',C',j1,j2,j3⟩:=a9v h1 h2 hh q2;have k2:OK K F1 H1 (vs.map some++σ) (os.map some++Γ2) (B'++C'):=.perm (j1.app j2) k1.le k1.nd k1.fr j3;obtain⟨A3,p3,k3⟩:=k2.swap j1.length;obtain⟨A4,k4,fr⟩:=k3.frame j2.length;refine⟨by rw[<-hh.length];exact hn rs Γ Γ1 q,F1,A4,os,o,fin,k4,q3,fun v H' pc=>w v H' ?_⟩
    obtain⟨F5,A5,x5,k5⟩:=pc;obtain⟨A6,x6,k6⟩:=fr _ _ _ _ _ x5 k5;obtain⟨D1,D2,g1,g2,g3⟩:=OwnL.split j2.length k6.os;subst g3;obtain⟨D3,D4,g4,g5,g6⟩:=g2.one;subst g6;obtain⟨D5,g7,g8⟩:=b2g g5 g1 (hh.att x6.att);have s1:SubP (D3++D5) (D1++(D3++D4)):=by
     refine((SubP.refl D3).app g8).trans (.of_perm ?_);rw[<-List.append_assoc];exact List.perm_append_comm
    obtain⟨k7,x7⟩:=k6.sub (σ':=some v::σ) (Γ':=some o::a5i rs fin Γ2) (g4.app g7) s1;have x3:Ext F1 H1 (B++C) F1 H1 A3:=Ext.own' Ext.refl fun a m=>j3.mem_iff.mp (p3.mem_iff.mp m)
    exact⟨F5,D3++D5,((x.trans x3).trans x6).trans x7,k7,True.intro⟩
theorem a0t:∀rs Γ Γ',gaNil Γ=some (rs,Γ')->rs.length=0:=fun rs Γ Γ' e=>by cases e;rfl
theorem a0e{f:GE}{g:GA}{n:Nat}(h:∀rs Γ Γ',g Γ=some (rs,Γ')->rs.length=n):∀rs Γ Γ',a0c f g Γ=some (rs,Γ')->rs.length=n+1:=fun rs Γ Γ' e=>by
 obtain⟨r,Γ1,rs',_,e2,rfl⟩:=b5c e;simp[h _ _ _ e2]
theorem a2u(D:DefAt X.K X.mg x st f fd ps)(Fn:FnOk X.prog X.w X.K X.mg X.base CX0 k f fd ps (SpM K n M))(hr:Room k X.A)(ha:PA X (e::es) (tGA K fs))(hn:∀rs Γ Γ',fs Γ=some (rs,Γ')->rs.length=n)(hg:Gl X x:=by rfl)(hdb:(x == ("__debug__":Str))=false:=by decide)
  (he:starEach (e::es) X.env=(false,eval e X.env)::starEach es X.env:=by rfl) (hpl:(backTo pos (starEach es X.env)).any (·.1)=false:=by rfl) :
  PE X (.Call (.Name x p) (e::es) [] pos) (tG K (gCall M fs)):=(pcall D Fn hr ha hg hdb he hpl).mono fun _ _ _ t=>d5p t hn
end
def frzL:List O->Option (List D)
 |[]=>some []
 |.frz d::os=>(frzL os).bind fun ds=>some (d::ds)
 |_::_=>none
def listD:O->Option (List D)
 |.frz (.lst ds)=>some ds
 |.frz (.scr ns)=>some (ns.map .int)
 |.lst os=>frzL os
 |_=>none
def tupD:O->Option (List D)
 |.frz (.tup ds)=>some ds
 |.tup os=>frzL os
 |_=>none
theorem a6c:∀ds:List D,frzL (ds.map .frz)=some ds
 |[]=>rfl
 |d::ds=>by rw[List.map_cons,frzL,a6c ds];rfl
theorem a8u:∀ds:List D,O.dl (ds.map .frz)=ds
 |[]=>rfl
 |d::ds=>by rw[List.map_cons,O.dl,a8u ds];rfl
section
variable {K:L2.FG} {F H:Hp} {x y v:V} {o:O} {B:List Addr} {ds:List D} {d:D} {ws:List V}
theorem b2h:∀{ws:List V} {os:List O} {ds:List D} {B:List Addr},OwnL K F H (ws.map some) (os.map some) B->frzL os=some ds->RepL K F ws ds
 |[],[],_,_,_,e=>by cases e;exact .nil
 |w::ws,o::os,ds,B,h,e=>by
  obtain⟨B1,B2,h1,h2,_⟩:=OwnL.one h;cases o with
  |frz d=>
   unfold frzL at e;cases q:frzL os with
   |none=>rw[q] at e;cases e
   |some ds'=>
    rw[q] at e;cases e;cases h1 with
    |frz r _=>exact .cons r (b2h h2 q)
  |_=>cases e
 |[],_::_,_,_,h,_=>by have:=h.length;simp at this
 |_::_,[],_,_,h,_=>by have:=h.length;simp at this
theorem a9w:∀{ws:List V} {ds:List D},RepL K F ws ds->OwnL K F H (ws.map some) ((ds.map .frz).map some) []
 |[],[],_=>.nil
 |w::ws,d::ds,h=>.frz h.inv.1 (a9w h.inv.2)
 |[],_::_,h=>by have:=h.length;simp at this
 |_::_,[],h=>by have:=h.length;simp at this
theorem b6g:∀ns:List Int,RepL K F (ns.map V.int) (ns.map D.int)
 |[]=>.nil
 |n::ns=>.flat rfl (b6g ns)
theorem a9x(le:Same F H)(h:OwnL K F H [some x] [some o] B)(e:listD o=some ds):∃a ws,x=.ref a/\SqL K H a ws/\RepL K F ws ds:=by
 cases h with
 |@frz _ d _ _ _ r _=>
  cases r with
  |lst q i _=>cases e;exact⟨_,_,rfl,.inl (le.rd q),i⟩
  |exc _ _=>cases e
  |obj _=>cases e
  |scr q _=>cases e;exact⟨_,_,rfl,le.seq q,b6g _⟩
  |flat q _=>cases d <;> first|(cases q;done)|cases e
  |tup _ _ _=>cases e
  |dct _ _ _ _ _=>cases e
 |lst q i _=>exact⟨_,_,rfl,SqL.of q,b2h i e⟩
 |tup _ _ _=>cases e
 |dct _ _ _ _ _=>cases e
 |ins _ _ _ _ _=>cases e
theorem d5q(le:Same F H)(h:OwnL K F H [some x] [some o] B)(e:tupD o=some ds):∃a ws,x=.ref a/\SqT K H a ws/\RepL K F ws ds:=by
 cases h with
 |@frz _ d _ _ _ r _=>
  cases r with
  |tup q i _=>cases e;exact⟨_,_,rfl,le.seqT q,i⟩
  |scr q _=>cases e
  |exc _ _=>cases e
  |obj _=>cases e
  |flat q _=>cases d <;> first|(cases q;done)|cases e
  |lst _ _ _=>cases e
  |dct _ _ _ _ _=>cases e
 |tup q i _=>exact⟨_,_,rfl,SqT.of q,b2h i e⟩
 |lst _ _ _=>cases e
 |dct _ _ _ _ _=>cases e
 |ins _ _ _ _ _=>cases e
theorem a1h(h:OwnL K F H [some x] [some (.frz d)] B)(e:a6k d=some v):x=v:=by
 cases h with
 |frz r _=>
  cases r with
  |flat q _=>rw[e] at q;exact(Option.some.inj q).symm
  |lst _ _ _=>cases e
  |tup _ _ _=>cases e
  |dct _ _ _ _ _=>cases e
  |scr _ _=>cases e
  |exc _ _=>cases e
  |obj _=>cases e
theorem a4n(le:Same F H)(h:OwnL K F H [some x] [some o] B):RepL K H [x] [o.d]:=h.rep le (fun _ _ _ e=>e) [x] [o] rfl rfl
theorem Res.lst{Q:VK}(h:Res K F H (.lst (ds.map .frz)) Q)(r:RepL K F ws ds){l:Addr}(hn:H l=none):Q (.ref l) (upd H l (.lst ws)):=
 h (.ref l) _ ([l]++[]++[]) (a3k hn) (.lst a1l (a9w r) .nil) (by simp) (fun a m=>by simp at m;rw[m];exact hn)
theorem Res.tup{Q:VK}(h:Res K F H (.tup (ds.map .frz)) Q)(r:RepL K F ws ds){l:Addr}(hn:H l=none):Q (.ref l) (upd H l (.tup ws)):=
 h (.ref l) _ ([l]++[]++[]) (a3k hn) (.tup a1l (a9w r) .nil) (by simp) (fun a m=>by simp at m;rw[m];exact hn)
theorem Sees.one{o:O}{vs:List V}(h:Sees K F H vs [o]):∃x B,vs=[x]/\OwnL K F H [some x] [some o] B:=by
 cases h with
 |cons a t=>cases t;obtain⟨B,a⟩:=a;exact⟨_,B,rfl,a⟩
theorem Sees.two{o o':O}{vs:List V}(h:Sees K F H vs [o,o']):∃x y B C,vs=[x,y]/\OwnL K F H [some x] [some o] B/\OwnL K F H [some y] [some o'] C:=by
 cases h with
 |cons a t=>cases t with
  |cons b t=>cases t;obtain⟨B,a⟩:=a;obtain⟨C,b⟩:=b;exact⟨_,_,B,C,rfl,a,b⟩
end
section
variable {X:Cx}
def rCatL(K:L2.FG):R2:=fun x y H Q=>∃l b xs zs,x=.ref l/\y=.ref b/\SqL K H l xs/\SqL K H b zs/\xs.length+zs.length<=sizeLine/\∀p,H p=none->Q (.ref p) (upd H p (.lst (xs++zs)))
theorem d5r:OpR X (binaryOp .Add) (rCatL X.K):=by
 intro pins s σ H x y v u Q I rx ry h;obtain⟨l,b,xs,zs,rfl,rfl,hH,hB,hz,q⟩:=h;cases rx;cases ry;obtain⟨its,r,pl,_⟩:=I.list hH;obtain⟨its2,r2,pl2,_⟩:=I.list hB;have hl:=r.length;have hl2:=r2.length;obtain⟨⟨cls,dd,data,sl⟩,ho,hc,n,hd⟩:=id pl.isList;obtain⟨⟨cls2,dd2,data2,sl2⟩,ho2,hc2,n2,hd2⟩:=id pl2.isList;simp only at hc hd hc2 hd2;subst hc hd hc2 hd2;have ea:its.toArray++its2.toArray=(its++its2).toArray:=by simp
 refine concat_meets ⟨_,ho,rfl⟩ ⟨_,ho2,rfl⟩ noFill_list_add seq_list_add PySem.F.slot_list_add PySem.F.entry_list_add (PySem.F.args_list_add_2 _ _) (list_addW l b its.toArray its2.toArray n n2 dd dd2 sl sl2 (by simp only[List.size_toArray];omega)) ⟨ho,ho2,?_⟩
 rw[ea];exact⟨.ref _,_,I.lnew (t':=s.toks) (r.append r2) (by rw[List.length_append];omega),rfl,q _ I.fresh⟩
theorem d1g(K:L2.FG)(hK:X.K=K:=by rfl):OpR X (binaryOp .Add) (rCatL K):=hK ▸ d5r
def addI:O->O->Option (Option O)
 |.frz (.int i),.frz (.int j)=>some (some (.frz (.int (i+j))))
 |.frz (.str x),.frz (.str y)=>some (if x.length+y.length<=1000000 then some (.frz (.str (x++y))) else none)
 |_,_=>none
def oAdd:List O->Option O
 |[a,b]=>match addI a b with
  |some r=>r
  |none=>(listD a).bind fun xs=>(listD b).bind fun ys=>if xs.length+ys.length<=1000000 then some (.lst ((xs++ys).map .frz)) else none
 |_=>none
def rAddA(K:L2.FG):R2:=fun x y H Q=>rI0 (fun i j=>.int (i+j)) x y H Q\/(∃i j,x=.str i/\y=.str j/\i.length+j.length<=sizeLine/\Q (.str (i++j)) H)\/rCatL K x y H Q
theorem a1w(K:L2.FG)(hK:X.K=K:=by rfl):OpR X (binaryOp .Add) (rAddA K):=op_add.or (op_add_str.or (d1g K hK))
theorem ml{n:Nat}(h:n<=1000000):n<=sizeLine:=Nat.le_trans h (by decide)
theorem a2s{K:L2.FG}:OpOk K (r2L (rAddA K)) oAdd:=by
 intro F H vs os o Q le see e res;unfold oAdd at e;split at e
 ·rename_i a b
  obtain⟨x,y,B,C,rfl,h1,h2⟩:=see.two;split at e
  ·rename_i r q
   unfold addI at q;split at q
   ·cases q;cases e;cases a1h h1 rfl;cases a1h h2 rfl;exact⟨_,_,rfl,.inl ⟨_,_,rfl,rfl,res.flat rfl⟩⟩
   ·cases q;split at e
    ·cases e;cases a1h h1 rfl;cases a1h h2 rfl;exact⟨_,_,rfl,.inr (.inl ⟨_,_,rfl,rfl,ml (by assumption),res.flat rfl⟩)⟩
    ·cases e
   ·cases q
  ·cases q1:listD a with
   |none=>rw[q1] at e;cases e
   |some xs=>
    rw[q1] at e;cases q2:listD b with
    |none=>rw[q2] at e;cases e
    |some ys=>
     rw[q2] at e;dsimp only[Option.bind] at e;split at e
     ·cases e;obtain⟨a1,ws1,rfl,s1,r1⟩:=a9x le h1 q1;obtain⟨a2,ws2,rfl,s2,r2⟩:=a9x le h2 q2;refine⟨_,_,rfl,.inr (.inr ⟨a1,a2,ws1,ws2,rfl,rfl,s1,s2,ml (by rw[r1.length,r2.length];assumption),fun p hp=>res.lst (r1.append r2) hp⟩)⟩
     ·cases e
 ·cases e
def oInt(C:Int->Int->Bool)(f:Int->Int->D):List O->Option O
 |[.frz (.int i),.frz (.int j)]=>if C i j=true then some (.frz (f i j)) else none
 |_=>none
theorem c1m{K:L2.FG}{r:R2}{C:Int->Int->Bool}{f:Int->Int->D}{g:Int->Int->V}(hf:∀i j,a6k (f i j)=some (g i j))(hr:∀i j H Q,C i j=true->Q (g i j) H->r (.int i) (.int j) H Q):OpOk K (r2L r) (oInt C f):=by
 intro F H vs os o Q le see e res;unfold oInt at e;split at e
 ·split at e
  ·cases e;obtain⟨x,y,B,C,rfl,h1,h2⟩:=see.two;cases a1h h1 rfl;cases a1h h2 rfl;exact⟨_,_,rfl,hr _ _ _ _ (by assumption) (res.flat (hf _ _))⟩
  ·cases e
 ·cases e
abbrev oFdiv:=oInt (fun _ j=>decide (0 < j/\j < 1073741824)) fun i j=>.int (i / j)
abbrev oMod:=oInt (fun _ j=>decide (0 < j)) fun i j=>.int (i % j)
abbrev oLt:=oInt (fun _ _=>true) fun i j=>.bl (decide (i < j))
abbrev oGt:=oInt (fun _ _=>true) fun i j=>.bl (decide (j < i))
theorem b3a{K:L2.FG}:OpOk K (r2L (rI CDiv fun i j=>.int (i / j))) oFdiv:=c1m (fun _ _=>rfl) fun i j _ _ c q=>⟨_,_,rfl,rfl,show CDiv i j from of_decide_eq_true (p:=0 < j/\j < 1073741824) c,q⟩
theorem a5d{K:L2.FG}:OpOk K (r2L (rI (fun _ j=>0 < j) fun i j=>.int (i % j))) oMod:=c1m (fun _ _=>rfl) fun _ _ _ _ c q=>⟨_,_,rfl,rfl,of_decide_eq_true c,q⟩
theorem d1h{K:L2.FG}:OpOk K (r2L (rI0 fun i j=>.bl (decide (i < j)))) oLt:=c1m (fun _ _=>rfl) fun _ _ _ _ _ q=>⟨_,_,rfl,rfl,q⟩
theorem d8w{K:L2.FG}:OpOk K (r2L (rI0 fun i j=>.bl (decide (j < i)))) oGt:=c1m (fun _ _=>rfl) fun _ _ _ _ _ q=>⟨_,_,rfl,rfl,q⟩
end
instance (z:Str) (n:Int):Decidable (MulOk z n):=by unfold MulOk;infer_instance
section
variable {X:Cx}
def mulI(j:Int):O->Option O
 |.frz (.int i)=>if(-(2 ^ 64) < i/\i < 2 ^ 64)\/(-(2 ^ 64) < j/\j < 2 ^ 64) then some (.frz (.int (i * j))) else none
 |.frz (.str z)=>if MulOk z j then some (.frz (.str (Txt.mul z j))) else none
 |_=>none
def oMulA:List O->Option O
 |[a,.frz (.int j)]=>mulI j a
 |_=>none
def rMulA:R2:=fun x y H Q=>rI CMul (fun i j=>.int (i * j)) x y H Q\/∃z n,x=.str z/\y=.int n/\MulOk z n/\Q (.str (Txt.mul z n)) H
theorem a9b:OpR X (binaryOp .Mult) rMulA:=op_mul.or c3w
theorem b3b{K:L2.FG}:OpOk K (r2L rMulA) oMulA:=by
 intro F H vs os o Q le see e res;unfold oMulA at e;split at e
 ·obtain⟨x,y,B,C,rfl,h1,h2⟩:=see.two;unfold mulI at e;split at e
  ·split at e
   ·cases e;cases a1h h1 rfl;cases a1h h2 rfl;exact⟨_,_,rfl,.inl ⟨_,_,rfl,rfl,by assumption,res.flat rfl⟩⟩
   ·cases e
  ·split at e
   ·cases e;cases a1h h1 rfl;cases a1h h2 rfl;exact⟨_,_,rfl,.inr ⟨_,_,rfl,rfl,by assumption,res.flat rfl⟩⟩
   ·cases e
  ·cases e
 ·cases e
mutual
def eqD:D->D->Bool
 |.lst xs,.lst ys=>eqDs xs ys
 |.tup xs,.tup ys=>eqDs xs ys
 |.non,.non=>true
 |.bl a,.bl b=>a == b
 |.bl a,.int b=>(if a then 1 else 0) == b
 |.int a,.bl b=>a == (if b then 1 else 0)
 |.int a,.int b=>a == b
 |.str a,.str b=>a == b
 |_,_=>false
def eqDs:List D->List D->Bool
 |[],[]=>true
 |x::xs,y::ys=>eqD x y && eqDs xs ys
 |_,_=>false
end
def okD:Nat->D->Bool
 |n+1,.lst xs=>xs.all (okD n)
 |n+1,.tup xs=>xs.all (okD n)
 |_,.non=>true
 |_,.bl _=>true
 |_,.int _=>true
 |_,.str _=>true
 |_,_=>false
theorem a9y:∀{xs ys:List D},xs.length≠ys.length->eqDs xs ys=false
 |[],[],h=>absurd rfl h
 |[],_::_,_=>by unfold eqDs;rfl
 |_::_,[],_=>by unfold eqDs;rfl
 |x::xs,y::ys,h=>by unfold eqDs;rw[a9y (by simpa using h),Bool.and_false]
theorem a9z:∀{xs ys:List D} (n:Nat),xs.length=n->ys.length=n->eqDs xs ys=(List.range n).all fun j=>eqD (xs.getD j .non) (ys.getD j .non)
 |[],[],0,_,_=>by unfold eqDs;rfl
 |x::xs,y::ys,n+1,h1,h2=>by
  unfold eqDs;rw[a9z n (by simpa using h1) (by simpa using h2),List.range_succ_eq_map,List.all_cons,List.all_map]
  rfl
 |[],_,_+1,h,_=>by simp at h
 |_::_,[],_+1,_,h=>by simp at h
 |_::_,_,0,h,_=>by simp at h
 |[],_::_,0,_,h=>by simp at h
variable {pins:List (Addr×Obj)} {σ:St} {H:Hp} {s:Shared}
theorem b1u{K:L2.FG}{F:Hp}{ws:List V}{es:List D}(r:RepL K F ws es){its:List Value}(rv:Vals ws its){j:Nat}(h:j < its.toArray.size):∃x,RelV x its.toArray[j]/\RepL K F [x] [es.getD j .non]/\j < es.length:=by
 obtain⟨x,hx,rx⟩:=rv.at h;have hl:=r.length;have hj:j < es.length:=by
  have:=(List.getElem?_eq_some_iff.mp hx).1;omega
 obtain⟨y,hy,ry⟩:=r.get (i:=j) (d:=es[j]) (by simp[hj])
 rw[hx] at hy;cases hy;refine⟨x,rx,?_,hj⟩;rw[show es.getD j .non=es[j] by simp[hj]]
 exact ry
theorem a6s{p:D->Bool}{es:List D}(h:es.all p=true){j:Nat}(hj:j < es.length):p (es.getD j .non)=true:=by
 rw[show es.getD j .non=es[j] by simp[hj]]
 exact List.all_eq_true.mp h _ (List.getElem_mem hj)
inductive Shp (K:L2.FG) (H:Hp) (s:Shared):Value->D->Prop
 |none:Shp K H s .none .non
 |bool (b:Bool):Shp K H s (.bool b) (.bl b)
 |int (i:Int) (t:Tok):Shp K H s (.int i t) (.int i)
 |str (x:Str) (t:Tok):Shp K H s (.str x t) (.str x)
 |list {a:Addr} {its:List Value} {ws:List V} {es:List D}:s.heap.IsList a its.toArray->Vals ws its->RepL K H ws es->Shp K H s (.ref a) (.lst es)
 |tuple {a:Addr} {its:List Value} {ws:List V} {es:List D}:s.heap.IsTuple a its.toArray->Vals ws its->RepL K H ws es->Shp K H s (.ref a) (.tup es)
theorem c1n(I:Inv X pins σ H s){n:Nat}{x:V}{u:Value}{d:D}(r:RepL X.K H [x] [d])(ru:RelV x u)(ok:okD n d=true):Shp X.K H s u d:=by
 cases r with
 |lst q i _=>
  cases ru;obtain⟨its,rv,pl,_⟩:=I.list (.inl q);exact .list pl.isList rv i
 |tup q i _=>
  cases ru;obtain⟨its,rv,pl,_⟩:=I.tuple q;exact .tuple pl rv i
 |dct _ _ _ _ _=>cases n <;> cases ok
 |scr _ _=>cases n <;> cases ok
 |exc _ _=>cases n <;> cases ok
 |obj _=>cases n <;> cases ok
 |flat q _=>
  cases d with
  |non=>cases q;cases ru;exact .none
  |bl b=>cases q;cases ru;exact .bool b
  |int i=>cases q;obtain⟨t,rfl⟩:=ru;exact .int i t
  |str z=>cases q;obtain⟨t,rfl⟩:=ru;exact .str z t
  |ty _=>cases n <;> cases ok
  |lst _=>cases q
  |tup _=>cases q
  |dct _=>cases q
  |scr _=>cases q
  |exc _ _=>cases q
  |obj=>cases q
theorem b1f{n:Nat}{es:List D}(h:okD n (.lst es)=true):∃m,n=m+1/\es.all (okD m)=true:=by
 cases n with
 |zero=>cases h
 |succ n=>exact⟨n,rfl,h⟩
theorem b1g{n:Nat}{es:List D}(h:okD n (.tup es)=true):∃m,n=m+1/\es.all (okD m)=true:=by
 cases n with
 |zero=>cases h
 |succ n=>exact⟨n,rfl,h⟩
theorem b8f{es:List D}(h:∀d∈es,eqD d d=true):eqDs es es=true:=by
 induction es with
 |nil=>unfold eqDs;rfl
 |cons d es ih=>unfold eqDs;rw[h d (by simp),ih fun d m=>h d (by simp[m])];rfl
theorem b2i:∀(n:Nat) {d:D},okD n d=true->eqD d d=true:=by
 intro n
 induction n with
 |zero=>intro d h;cases d <;> first|(cases h;done)|simp[eqD]
 |succ n ih=>
  intro d h;cases d with
  |lst es=>simp only[eqD];exact b8f fun d m=>ih (List.all_eq_true.mp h d m)
  |tup es=>simp only[eqD];exact b8f fun d m=>ih (List.all_eq_true.mp h d m)
  |dct _=>cases h
  |scr _=>cases h
  |exc _ _=>cases h
  |obj=>cases h
  |ty _=>cases h
  |_=>simp[eqD]
theorem b8g{xs ys:List D}(hl:xs.length=ys.length)(h:∀j,j < xs.length->xs.getD j .non=ys.getD j .non):xs=ys:=by
 apply List.ext_getElem hl;intro j h1 h2;have:=h j h1;simpa[h1,h2] using this
def unfl:V->D
 |.bl b=>.bl b
 |.int i=>.int i
 |.str x=>.str x
 |.ty n=>.ty n
 |_=>.non
theorem b8h{d:D}{v:V}(h:a6k d=some v):d=unfl v:=by cases d <;> cases h <;> rfl
theorem a6t{d:D}{a:Addr}(h:a6k d=some (.ref a)):False:=by cases d <;> cases h
theorem b6h(I:Inv X pins σ H s):∀(n m:Nat) {x:V} {d e:D},RepL X.K H [x] [d]->RepL X.K H [x] [e]->okD n d=true->okD m e=true->d=e:=by
 intro n
 induction n using Nat.strongRecOn with
 |ind n ih=>
 intro m x d e rd re od oe;have go:∀{ws:List V} {es es2:List D} {n' m':Nat},n' < n->RepL X.K H ws es->RepL X.K H ws es2->es.all (okD n')=true->es2.all (okD m')=true->es=es2:=by
  intro ws es es2 n' m' hn r1 r2 o1 o2;have l1:=r1.length;have l2:=r2.length;refine b8g (by omega) fun j hj=>?_
  have hj2:j < es2.length:=by omega
  obtain⟨v,g1,g2⟩:=r1.get (i:=j) (d:=es[j]) (by simp[hj])
  obtain⟨v',p1,p2⟩:=r2.get (i:=j) (d:=es2[j]) (by simp[hj2])
  rw[g1] at p1;cases p1;rw[show es.getD j .non=es[j] by simp[hj],show es2.getD j .non=es2[j] by simp[hj2]]
  exact ih n' hn m' g2 p2 (List.all_eq_true.mp o1 _ (List.getElem_mem hj)) (List.all_eq_true.mp o2 _ (List.getElem_mem hj2))
 cases rd with
 |flat q _=>
  cases re with
  |flat q' _=>
   rw[b8h q,b8h q']
  |lst _ _ _=>exact(a6t q).elim
  |tup _ _ _=>exact(a6t q).elim
  |dct _ _ _ _ _=>exact(a6t q).elim
  |scr _ _=>exact(a6t q).elim
  |exc _ _=>exact(a6t q).elim
  |obj _=>exact(a6t q).elim
 |lst q i _=>
  obtain⟨n',rfl,od'⟩:=b1f od;cases re with
  |flat q' _=>exact(a6t q').elim
  |lst q' i' _=>
   obtain⟨m',rfl,oe'⟩:=b1f oe;cases I.list_inj (.inl q) (.inl q');rw[go (Nat.lt_succ_self _) i i' od' oe']
  |tup q' i' _=>
   obtain⟨_,_,p1,_⟩:=I.list (.inl q);obtain⟨_,_,p2,_⟩:=I.tuple q';exact absurd rfl (SeqAt.ne_of_list_tuple p1.isList p2)
  |dct _ _ _ _ _=>cases m <;> cases oe
  |scr _ _=>cases m <;> cases oe
  |exc _ _=>cases m <;> cases oe
  |obj _=>cases m <;> cases oe
 |tup q i _=>
  obtain⟨n',rfl,od'⟩:=b1g od;cases re with
  |flat q' _=>exact(a6t q').elim
  |tup q' i' _=>
   obtain⟨m',rfl,oe'⟩:=b1g oe;cases I.tuple_inj q q';rw[go (Nat.lt_succ_self _) i i' od' oe']
  |lst q' i' _=>
   obtain⟨_,_,p1,_⟩:=I.list (.inl q');obtain⟨_,_,p2,_⟩:=I.tuple q;exact absurd rfl (SeqAt.ne_of_list_tuple p1.isList p2)
  |dct _ _ _ _ _=>cases m <;> cases oe
  |scr _ _=>cases m <;> cases oe
  |exc _ _=>cases m <;> cases oe
  |obj _=>cases m <;> cases oe
 |dct _ _ _ _ _=>cases n <;> cases od
 |scr _ _=>cases n <;> cases od
 |exc _ _=>cases n <;> cases od
 |obj _=>cases n <;> cases od
theorem b8i(I:Inv X pins σ H s):∀(n m:Nat) {A:Around} {x y:V} {u v:Value} {d e:D},RepL X.K H [x] [d]->RepL X.K H [y] [e]->okD n d=true->okD m e=true->RelV x u->RelV y v->A.units+n < cLine->
  SeqAt.EqAt A s u v (eqD d e)/\SeqAt.RcAt A s u v (eqD d e):=by
 intro n
 induction n using Nat.strongRecOn with
 |ind n ih=>
 intro m A x y u v d e rd re od oe ru rv hu;have hu0:A.units < cLine:=by omega
 have s1:=c1n I rd ru od;have s2:=c1n I re rv oe;cases s1 with
 |none=>
  cases s2 with
  |none=>
   exact⟨SeqAt.EqAt.same _,SeqAt.RcAt.none_none⟩
  |bool a2=>
   simp only[eqD];exact⟨SeqAt.EqAt.none_bool a2,SeqAt.RcAt.none_bool a2⟩
  |int a2 t2=>
   simp only[eqD];exact⟨SeqAt.EqAt.none_int a2 t2,SeqAt.RcAt.none_int a2 t2⟩
  |str a2 t2=>
   simp only[eqD];exact⟨SeqAt.EqAt.none_str a2 t2,SeqAt.RcAt.none_str a2 t2⟩
  |list l2 v2 r2=>
   simp only[eqD];exact⟨SeqAt.EqAt.none_list l2 hu0,SeqAt.RcAt.none_list l2 hu0⟩
  |tuple l2 v2 r2=>
   simp only[eqD];exact⟨SeqAt.EqAt.none_tuple l2 hu0,SeqAt.RcAt.none_tuple l2 hu0⟩
 |bool a1=>
  cases s2 with
  |none=>
   simp only[eqD];exact⟨SeqAt.EqAt.bool_none a1,SeqAt.RcAt.bool_none a1⟩
  |bool a2=>
   simp only[eqD];exact⟨SeqAt.EqAt.bool_bool a1 a2,SeqAt.RcAt.bool_bool a1 a2⟩
  |int a2 t2=>
   simp only[eqD];exact⟨SeqAt.EqAt.bool_int a1 a2 t2,SeqAt.RcAt.bool_int a1 a2 t2⟩
  |str a2 t2=>
   simp only[eqD];exact⟨SeqAt.EqAt.bool_str a1 a2 t2,SeqAt.RcAt.bool_str a1 a2 t2⟩
  |list l2 v2 r2=>
   simp only[eqD];exact⟨SeqAt.EqAt.bool_list a1 l2 hu0,SeqAt.RcAt.bool_list a1 l2 hu0⟩
  |tuple l2 v2 r2=>
   simp only[eqD];exact⟨SeqAt.EqAt.bool_tuple a1 l2 hu0,SeqAt.RcAt.bool_tuple a1 l2 hu0⟩
 |int a1 t1=>
  cases s2 with
  |none=>
   simp only[eqD];exact⟨SeqAt.EqAt.int_none a1 t1,SeqAt.RcAt.int_none a1 t1⟩
  |bool a2=>
   simp only[eqD];exact⟨SeqAt.EqAt.int_bool a1 t1 a2,SeqAt.RcAt.int_bool a1 t1 a2⟩
  |int a2 t2=>
   simp only[eqD];exact⟨SeqAt.EqAt.int_int a1 t1 a2 t2,SeqAt.RcAt.int_int a1 t1 a2 t2⟩
  |str a2 t2=>
   simp only[eqD];exact⟨SeqAt.EqAt.int_str a1 t1 a2 t2,SeqAt.RcAt.int_str a1 t1 a2 t2⟩
  |list l2 v2 r2=>
   simp only[eqD];exact⟨SeqAt.EqAt.int_list a1 t1 l2 hu0,SeqAt.RcAt.int_list a1 t1 l2 hu0⟩
  |tuple l2 v2 r2=>
   simp only[eqD];exact⟨SeqAt.EqAt.int_tuple a1 t1 l2 hu0,SeqAt.RcAt.int_tuple a1 t1 l2 hu0⟩
 |str a1 t1=>
  cases s2 with
  |none=>
   simp only[eqD];exact⟨SeqAt.EqAt.str_none a1 t1,SeqAt.RcAt.str_none a1 t1⟩
  |bool a2=>
   simp only[eqD];exact⟨SeqAt.EqAt.str_bool a1 t1 a2,SeqAt.RcAt.str_bool a1 t1 a2⟩
  |int a2 t2=>
   simp only[eqD];exact⟨SeqAt.EqAt.str_int a1 t1 a2 t2,SeqAt.RcAt.str_int a1 t1 a2 t2⟩
  |str a2 t2=>
   simp only[eqD];exact⟨SeqAt.EqAt.str_str a1 t1 a2 t2,SeqAt.RcAt.str_str a1 t1 a2 t2⟩
  |list l2 v2 r2=>
   simp only[eqD];exact⟨SeqAt.EqAt.str_list a1 t1 l2 hu0,SeqAt.RcAt.str_list a1 t1 l2 hu0⟩
  |tuple l2 v2 r2=>
   simp only[eqD];exact⟨SeqAt.EqAt.str_tuple a1 t1 l2 hu0,SeqAt.RcAt.str_tuple a1 t1 l2 hu0⟩
 |list l1 v1 r1=>
  cases s2 with
  |none=>
   simp only[eqD];exact⟨SeqAt.EqAt.list_none l1 hu0,SeqAt.RcAt.list_none l1 hu0⟩
  |bool a2=>
   simp only[eqD];exact⟨SeqAt.EqAt.list_bool a2 l1 hu0,SeqAt.RcAt.list_bool a2 l1 hu0⟩
  |int a2 t2=>
   simp only[eqD];exact⟨SeqAt.EqAt.list_int a2 t2 l1 hu0,SeqAt.RcAt.list_int a2 t2 l1 hu0⟩
  |str a2 t2=>
   simp only[eqD];exact⟨SeqAt.EqAt.list_str a2 t2 l1 hu0,SeqAt.RcAt.list_str a2 t2 l1 hu0⟩
  |list l2 v2 r2=>
   rename_i a its ws es b its2 ws2 es2
   obtain⟨n',rfl,od'⟩:=b1f od;obtain⟨m',rfl,oe'⟩:=b1f oe;have la:=v1.length;have lb:=v2.length;have la':=r1.length;have lb':=r2.length;have rc:SeqAt.RcAt A s (.ref a) (.ref b) (eqD (.lst es) (.lst es2)):=by
    simp only[eqD];by_cases hl:es.length=es2.length
    ·rw[a9z its.toArray.size (by simp only[List.size_toArray];omega) (by simp only[List.size_toArray];omega)]
     refine SeqAt.RcAt.lists (A:=A) l1 l2 (by simp only[List.size_toArray];omega) hu0 fun j h1 h2=>?_
     obtain⟨x1,q1,q2,q3⟩:=b1u r1 v1 h1;obtain⟨y1,p1,p2,p3⟩:=b1u r2 v2 h2;exact(ih n' (Nat.lt_succ_self _) m' q2 p2 (a6s od' q3) (a6s oe' p3) q1 p1 (by show A.units+1+n' < cLine;omega)).1
    ·rw[a9y hl];exact SeqAt.RcAt.lists_lengths (A:=A) l1 l2 (by simp only[List.size_toArray,bne_iff_ne,ne_eq];omega) hu0
   refine⟨?_,rc⟩;by_cases hab:a=b
   ·subst hab;have exy:x=y:=RelV.inj ru rv;subst exy;have e2:=b6h I _ _ rd re od oe;cases e2;rw[b2i _ od];exact SeqAt.EqAt.same _
   ·exact SeqAt.EqAt.of_refs hab rc
  |tuple l2 v2 r2=>
   simp only[eqD];exact⟨SeqAt.EqAt.list_tuple l1 l2 hu0,SeqAt.RcAt.list_tuple l1 l2 hu0⟩
 |tuple l1 v1 r1=>
  cases s2 with
  |none=>
   simp only[eqD];exact⟨SeqAt.EqAt.tuple_none l1 hu0,SeqAt.RcAt.tuple_none l1 hu0⟩
  |bool a2=>
   simp only[eqD];exact⟨SeqAt.EqAt.tuple_bool a2 l1 hu0,SeqAt.RcAt.tuple_bool a2 l1 hu0⟩
  |int a2 t2=>
   simp only[eqD];exact⟨SeqAt.EqAt.tuple_int a2 t2 l1 hu0,SeqAt.RcAt.tuple_int a2 t2 l1 hu0⟩
  |str a2 t2=>
   simp only[eqD];exact⟨SeqAt.EqAt.tuple_str a2 t2 l1 hu0,SeqAt.RcAt.tuple_str a2 t2 l1 hu0⟩
  |list l2 v2 r2=>
   simp only[eqD];exact⟨SeqAt.EqAt.tuple_list l1 l2 hu0,SeqAt.RcAt.tuple_list l1 l2 hu0⟩
  |tuple l2 v2 r2=>
   rename_i a its ws es b its2 ws2 es2
   obtain⟨n',rfl,od'⟩:=b1g od;obtain⟨m',rfl,oe'⟩:=b1g oe;have la:=v1.length;have lb:=v2.length;have la':=r1.length;have lb':=r2.length;have rc:SeqAt.RcAt A s (.ref a) (.ref b) (eqD (.tup es) (.tup es2)):=by
    have z:=SeqAt.RcAt.tuples (A:=A) (e:=fun j=>eqD (es.getD j .non) (es2.getD j .non)) l1 l2 hu0 fun j h1 h2=>by
     obtain⟨x1,q1,q2,q3⟩:=b1u r1 v1 h1;obtain⟨y1,p1,p2,p3⟩:=b1u r2 v2 h2;exact(ih n' (Nat.lt_succ_self _) m' q2 p2 (a6s od' q3) (a6s oe' p3) q1 p1 (by show A.units+1+n' < cLine;omega)).1
    simp only[eqD];by_cases hl:es.length=es2.length
    ·rw[a9z its.toArray.size (by simp only[List.size_toArray];omega) (by simp only[List.size_toArray];omega)]
     have e1:its2.toArray.size=its.toArray.size:=by simp only[List.size_toArray];omega
     rw[e1,Nat.min_self,beq_self_eq_true,Bool.and_true] at z;exact z
    ·rw[a9y hl];have e1:(its.toArray.size == its2.toArray.size)=false:=by rw[beq_eq_false_iff_ne];simp only[List.size_toArray];omega
     rw[e1,Bool.and_false] at z;exact z
   refine⟨?_,rc⟩;by_cases hab:a=b
   ·subst hab;have exy:x=y:=RelV.inj ru rv;subst exy;have e2:=b6h I _ _ rd re od oe;cases e2;rw[b2i _ od];exact SeqAt.EqAt.same _
   ·exact SeqAt.EqAt.of_refs hab rc
end
mutual
theorem c0c:∀k j:TK,eqD k.d j.d=decide (k=j)
 |.inl a,.inl b=>by simp only[TK.d,eqD];rw[Bool.eq_iff_iff];simp
 |.inr a,.inr b=>by simp only[TK.d,eqD];rw[Bool.eq_iff_iff];simp
 |.tp l,.tp m=>by simp only[TK.d,eqD];rw[eqD_keys l m,Bool.eq_iff_iff];simp
 |.inl _,.inr _=>by simp[TK.d,eqD]
 |.inl _,.tp _=>by simp[TK.d,eqD]
 |.inr _,.inl _=>by simp[TK.d,eqD]
 |.inr _,.tp _=>by simp[TK.d,eqD]
 |.tp _,.inl _=>by simp[TK.d,eqD]
 |.tp _,.inr _=>by simp[TK.d,eqD]
theorem eqD_keys:∀l m:List TK,eqDs (TK.dl l) (TK.dl m)=decide (l=m)
 |[],[]=>by simp[TK.dl,eqDs]
 |a::l,b::m=>by simp only[TK.dl,eqDs];rw[c0c a b,eqD_keys l m,Bool.eq_iff_iff];simp
 |[],_::_=>by simp[TK.dl,eqDs]
 |_::_,[]=>by simp[TK.dl,eqDs]
end
theorem d3r:∀l:List TK,TK.dl l=l.map TK.d
 |[]=>by simp[TK.dl]
 |a::l=>by simp[TK.dl,d3r l]
theorem b1h:∀(n:Nat) {k:TK},k.ok n=true->okD n k.d=true
 |n,.inl i,_=>by cases n <;> simp[TK.d,okD]
 |n,.inr i,_=>by cases n <;> simp[TK.d,okD]
 |0,.tp l,h=>by simp[TK.ok] at h
 |n+1,.tp l,h=>by
  simp only[TK.d,okD,d3r,List.all_map];refine List.all_eq_true.mpr fun a m=>?_
  exact b1h n (List.all_eq_true.mp (by simpa only[TK.ok] using h) a m)
theorem c6a{α:Type}{M:Model}{A:Around}{E:Value->Shared->Prop}{s:Shared}{c:Prop}[Decidable c]{a b:Sem α}{Q:α->Shared->Prop}(h1:wpAny M A a Q E s)(h2:wpAny M A b Q E s):wpAny M A (if c then a else b) Q E s:=by
 split
 ·exact h1
 ·exact h2
theorem b1v(w:World):∀l m:List TK,TK.hashL w (l++m)=TK.hashL w l++TK.hashL w m
 |[],m=>by simp[TK.hashL]
 |a::l,m=>by simp[TK.hashL,b1v w l m]
theorem b3c{α β:Type}{R:α->β->Prop}:∀{l:List α} {m:List β} (i:Nat) {b:β},Paired R l m->m[i]?=some b->∃a,l[i]?=some a/\R a b
 |_,_,_,_,.nil,e=>by simp at e
 |_,_,0,_,.cons r _,e=>by simp at e;subst e;exact⟨_,rfl,r⟩
 |_,_,i+1,_,.cons _ t,e=>by
  obtain⟨a,h1,h2⟩:=b3c i t (by simpa using e)
  exact⟨a,by simpa using h1,h2⟩
theorem b3d{α β:Type}{R:α->β->Prop}:∀{l:List α} {m:List β} (i:Nat) {a:α},Paired R l m->l[i]?=some a->∃b,m[i]?=some b/\R a b
 |_,_,_,_,.nil,e=>by simp at e
 |_,_,0,_,.cons r _,e=>by simp at e;subst e;exact⟨_,rfl,r⟩
 |_,_,i+1,_,.cons _ t,e=>by
  obtain⟨a,h1,h2⟩:=b3d i t (by simpa using e)
  exact⟨a,by simpa using h1,h2⟩
section
variable {X:Cx} {pins:List (Addr×Obj)} {σ:St} {H:Hp}
theorem c6b{A:Around}{E:Value->Shared->Prop}{s:Shared}{y:V}{u:Value}{i:Int}{Q:Int->Shared->Prop}(r:RepL X.K H [y] [TK.d (.inl i)])(ru:RelV y u)(h:∀t,Q (TK.hash X.w (.inl i)) { s with toks:=t}):wpAny (model X.prog X.w) A (pyHash u) Q E s:=by
 simp only[TK.d] at r;cases r with
 |flat q _=>cases q;obtain⟨t,rfl⟩:=ru;exact wpAny_pyHash_int (by simpa only[TK.hash] using h _)
theorem c6c{A:Around}{E:Value->Shared->Prop}{s:Shared}{y:V}{u:Value}{i:Str}{Q:Int->Shared->Prop}(r:RepL X.K H [y] [TK.d (.inr i)])(ru:RelV y u)(h:∀t,Q (TK.hash X.w (.inr i)) { s with toks:=t}):wpAny (model X.prog X.w) A (pyHash u) Q E s:=by
 simp only[TK.d] at r;cases r with
 |flat q _=>cases q;obtain⟨t,rfl⟩:=ru;exact wpAny_pyHash_str (by simpa only[TK.hash] using h _)
theorem c1o:∀(n:Nat) {A:Around} {E:Value->Shared->Prop} {s:Shared} {y:V} {u:Value} {k:TK} {Q:Int->Shared->Prop},Inv X pins σ H s->RepL X.K H [y] [k.d]->k.ok n=true->RelV y u->A.units+n < cLine->
  (∀t,Q (k.hash X.w) { s with toks:=t})->wpAny (model X.prog X.w) A (pyHash u) Q E s:=by
 intro n
 induction n with
 |zero=>
  intro A E s y u k Q I r ok ru hu h;cases k with
  |tp l=>simp[TK.ok] at ok
  |inl i=>exact c6b r ru h
  |inr x=>exact c6c r ru h
 |succ n ih=>
  intro A E s y u k Q I r ok ru hu h;cases k with
  |inl i=>exact c6b r ru h
  |inr x=>exact c6c r ru h
  |tp l=>
   simp only[TK.d] at r;cases r with
   |flat q _=>cases q
   |@tup a ws _ _ _ q i _=>
    cases ru;obtain⟨its,rv,pl,_⟩:=I.tuple q;have hT:s.TypeIs (.ref a) "tuple":=pl.typeIs;obtain⟨o,g1,g2,nn,g3⟩:=pl;have ok:l.all (TK.ok n)=true:=by simpa only[TK.ok] using ok
    show wpAny _ _ (pyHashByItsType (.ref a)) Q E s;unfold pyHashByItsType;refine wpAny_bind (wpAny_cRoomFor_or (.inr (by omega)) (wpAny_bind (wpAny_specialOf hT F.slot_tuple_hash.lookup ?_)))
    dsimp only;rw[if_neg (by rw[beq_builtin_none];exact Bool.false_ne_true)]
    refine wpAny_bind (wpAny_specialOf hT F.slot_tuple_hash.lookup (wpAny_bind ?_));refine wpAny_callSpecialIfBoundUnlessNone?_slot hT F.slot_tuple_hash (wpAny_call_entry F.slot_tuple_hash hT F.entry_tuple_hash ?_ (F.args_tuple_hash_1 _));show wpAny _ _ (Builtin.Tuple.tupleItemsOf (.ref a) >>= fun z=>_) _ _ s
    refine wpAny_bind (wpAny_tupleItemsOf g1 g3 (wpAny_bind ?_));rw[<-Array.forIn_toList];refine wpAny_forIn_list _ (fun rest (b:Array Int) s'=>∃done left wl t,l=done++left/\RepL X.K H wl (TK.dl left)/\Vals wl rest/\b.toList=TK.hashL X.w done/\s'={ s with toks:=t}) _ ?_ ?_ _ _ ⟨[],l,ws,s.toks,rfl,i,rv,by simp[TK.hashL],rfl⟩
    ·rintro x rest b s' ⟨done,left,wl,t,e,r',v',hb,rfl⟩;cases v' with
     |@cons w1 _ wl _ rw1 v'=>
      cases left with
      |nil=>have:=r'.length;simp[TK.dl] at this
      |cons k1 left=>
       simp only[TK.dl] at r';have ok1:k1.ok n=true:=List.all_eq_true.mp ok k1 (by rw[e];simp)
       have fin:∀t',∃done' left' wl' t'',l=done'++left'/\RepL X.K H wl' (TK.dl left')/\Vals wl' rest/\(b.push (k1.hash X.w)).toList=TK.hashL X.w done'/\({ s with toks:=t'}:Shared)={ s with toks:=t''}:=
        fun t'=>⟨done++[k1],left,wl,t',by simp[e],r'.inv.2,v',by rw[b1v,<-hb];simp[TK.hashL],rfl⟩
       exact wpAny_bind (ih (I.tok t) r'.inv.1 ok1 rw1 (by show A.units+1+n < cLine;omega) fun t'=>by
        first
         |exact wpAny_pure (fin t')
         |exact wpAny_bind (wpAny_pure (wpAny_pure (fin t'))))
    ·rintro b s' ⟨done,left,wl,t,e,r',v',hb,rfl⟩;cases v';have hl:left=[]:=by
      cases left with
      |nil=>rfl
      |cons _ _=>have:=r'.length;simp[TK.dl] at this
     subst hl;rw[List.append_nil] at e;subst e;show wpAny _ _ (retInt (Builtin.Tuple.tupleHashOf b.toList)) _ _ _;rw[hb];refine wpAny_ret_mkInt ?_;have h':∀t,Q (reduceHash (Builtin.Tuple.tupleHashOf (TK.hashL X.w l))) { s with toks:=t}:=fun t=>by simpa only[TK.hash] using h t
     unfold reduceHash at h';show wpAny _ _ (if(decide (-(2:Int) ^ 63<=Builtin.Tuple.tupleHashOf (TK.hashL X.w l)) && decide (Builtin.Tuple.tupleHashOf (TK.hashL X.w l) < 2 ^ 63))=true then _ else _) Q E _
     split
     ·rename_i hc
      rw[if_pos hc] at h';exact wpAny_pure (h' _)
     ·rename_i hc
      rw[if_neg hc] at h';exact wpAny_bind (wpAny_rule (wpAny_pure (h' _)))
theorem b8j:∀(n:Nat) {A:Around} {E:Value->Shared->Prop} {s:Shared} {y:V} {u:Value} {k:TK} {Q:Bool->Shared->Prop},Inv X pins σ H s->RepL X.K H [y] [k.d]->k.ok n=true->RelV y u->Q true s->
  wpAny (model X.prog X.w) A (eqIsQuiet n u) Q E s:=by
 intro n
 induction n with
 |zero=>
  intro A E s y u k Q I r ok ru h;cases k with
  |tp l=>simp[TK.ok] at ok
  |inl i=>simp only[TK.d] at r;cases r with|flat q _=>cases q;obtain⟨t,rfl⟩:=ru;rw[eqIsQuiet_byValue 0 rfl];exact wpAny_pure h
  |inr i=>simp only[TK.d] at r;cases r with|flat q _=>cases q;obtain⟨t,rfl⟩:=ru;rw[eqIsQuiet_byValue 0 rfl];exact wpAny_pure h
 |succ n ih=>
  intro A E s y u k Q I r ok ru h;cases k with
  |inl i=>simp only[TK.d] at r;cases r with|flat q _=>cases q;obtain⟨t,rfl⟩:=ru;rw[eqIsQuiet_byValue (n+1) rfl];exact wpAny_pure h
  |inr i=>simp only[TK.d] at r;cases r with|flat q _=>cases q;obtain⟨t,rfl⟩:=ru;rw[eqIsQuiet_byValue (n+1) rfl];exact wpAny_pure h
  |tp l=>
   simp only[TK.d] at r;cases r with
   |flat q _=>cases q
   |@tup a ws _ _ _ q i _=>
    cases ru;obtain⟨its,rv,pl,_⟩:=I.tuple q;have hT:s.TypeIs (.ref a) "tuple":=pl.typeIs;obtain⟨o,g1,g2,nn,g3⟩:=pl;have ok:l.all (TK.ok n)=true:=by simpa only[TK.ok] using ok
    unfold eqIsQuiet;refine wpAny_bind (wpAny_specialOf hT F.slot_tuple_eq.lookup (wpAny_bind (wpAny_isInstance hT isSubtype_tuple_tuple ?_)));simp only[Bool.not_true,Bool.false_eq_true,if_false];refine wpAny_bind (wpAny_seqItems g1 g3 (wpAny_bind ?_));show wpAny _ _ (forIn its.toArray _ _) _ _ s;rw[<-Array.forIn_toList];refine wpAny_forIn_list _ (fun rest r s'=>r.1=none/\s'=s/\∃left wl,RepL X.K H wl (TK.dl left)/\Vals wl rest/\∀x∈left,x.ok n=true) _ ?_ ?_ _ _ ⟨rfl,rfl,l,ws,i,rv,fun x m=>List.all_eq_true.mp ok x m⟩
    ·rintro v rest r s' ⟨hr,rfl,left,wl,r',v',hk⟩;cases v' with
     |@cons w1 _ wl _ rw1 v'=>
      cases left with
      |nil=>have:=r'.length;simp[TK.dl] at this
      |cons k1 left=>
       simp only[TK.dl] at r';refine wpAny_bind (ih I r'.inv.1 (hk k1 (by simp)) rw1 ?_)
       simp only[Bool.not_true,Bool.false_eq_true,if_false];exact wpAny_pure ⟨rfl,rfl,left,wl,r'.inv.2,v',fun x m=>hk x (by simp[m])⟩
    ·rintro⟨r1,r2⟩ s' ⟨hr,rfl,_⟩;cases(show r1=none from hr);exact wpAny_pure h
structure DAt (X:Cx) (A:Around) (E:Value->Shared->Prop) (s:Shared) (xs:Array DictEntry) (es:List (TK×V×V)) (k:TK) (u:Value):Prop where
 ent:∀(j:Nat) (x:DictEntry),xs[j]?=some x->∃e,es[j]?=some e/\EntG X.w e x/\(∀(R:Bool->Shared->Prop),R (decide (e.1=k)) s->wpAny (model X.prog X.w) A (eqBool x.key u) R E s)/\
  ∀(R:Bool->Shared->Prop),R true s->wpAny (model X.prog X.w) A (eqIsQuiet 8 x.key) R E s
 ents:∀(j:Nat) (e:TK×V×V),es[j]?=some e->∃x:DictEntry,xs[j]?=some x/\EntG X.w e x
 uniq:∀(i j:Nat) (e f:TK×V×V),es[i]?=some e->es[j]?=some f->e.1=k->f.1=k->i=j
theorem d8x{A:Around}{E:Value->Shared->Prop}{s:Shared}{xs:Array DictEntry}{es:List (TK×V×V)}{k:TK}{y:V}{u:Value}(I:Inv X pins σ H s)(g3:Paired (EntG X.w) es xs.toList)(g4:(es.map (·.1)).Nodup)
  (rk:RepL X.K H (es.map (·.2.1)) (es.map (·.1.d))) (ry:RepL X.K H [y] [k.d]) (ok:k.ok 8=true) (ru:RelV y u) (hu:A.units+8 < cLine):DAt X A E s xs es k u where
 ent:=fun j x hx=>by
  obtain⟨e,e1,e2⟩:=b3c j g3 (by rw[Array.getElem?_toList];exact hx)
  obtain⟨v,v1,v2⟩:=rk.get (i:=j) (d:=e.1.d) (by rw[List.getElem?_map,e1];rfl)
  rw[List.getElem?_map,e1] at v1;cases v1;refine⟨e,e1,e2,fun R hR=>?_,fun R hR=>b8j 8 I v2 e2.2.2.2 e2.2.1 hR⟩
  refine(b8i I 8 8 v2 ry (b1h 8 e2.2.2.2) (b1h 8 ok) e2.2.1 ru hu).1 X.prog X.w E R ?_;rw[c0c];exact hR
 ents:=fun j e he=>by
  obtain⟨x,x1,x2⟩:=b3d j g3 he;exact⟨x,by rw[<-Array.getElem?_toList];exact x1,x2⟩
 uniq:=fun i j e f he hf ek fk=>by
  have hi:(es.map (·.1))[i]?=some k:=by rw[List.getElem?_map,he,<-ek];rfl
  have hj:(es.map (·.1))[j]?=some k:=by rw[List.getElem?_map,hf,<-fk];rfl
  exact(List.getElem?_inj (List.getElem?_eq_some_iff.mp hi).1 g4).mp (hi.trans hj.symm)
section
variable {A:Around} {E:Value->Shared->Prop} {s:Shared} {d:Addr} {o:Obj} {xs:Array DictEntry} {ep:Nat} {es:List (TK×V×V)} {k:TK} {u:Value} {Q:Option Nat->Shared->Prop}
abbrev plc(xs:Array DictEntry)(h:Int):List Nat:=placesWithHash xs.size (fun i=>xs[i]?.map (·.hash)) h
theorem plc_mem{h:Int}{i:Nat}:i∈plc xs h↔∃x,xs[i]?=some x/\x.hash=h:=by
 unfold plc placesWithHash;rw[List.mem_filter,List.mem_range];constructor
 ·rintro⟨h1,h2⟩;refine⟨xs[i],Array.getElem?_eq_getElem h1,?_⟩;dsimp only at h2;rw[Array.getElem?_eq_getElem h1] at h2;simpa using h2
 ·rintro⟨x,h1,h2⟩;refine⟨(Array.getElem?_eq_some_iff.mp h1).1,?_⟩;dsimp only;rw[h1,Option.map_some,h2];simp
theorem c6d{h:Int}:(plc xs h).Nodup:=List.Nodup.sublist List.filter_sublist List.nodup_range
theorem DAt.plc(D:DAt X A E s xs es k u){j:Nat}{e:TK×V×V}(he:es[j]?=some e)(ek:e.1=k):j∈plc xs (k.hash X.w):=by
 obtain⟨x,x1,x2⟩:=D.ents j e he;exact plc_mem.mpr ⟨x,x1,by rw[x2.1,ek]⟩
theorem c6e(D:DAt X A E s xs es k u)(g1:s.heap.get? d=some o)(g2:o.data=.dict xs ep)
  (q0:(∀(j:Nat) (e:TK×V×V),es[j]?=some e->e.1≠k)->Q none s) (q1:∀(j:Nat) (e:TK×V×V),es[j]?=some e->e.1=k->Q (some j) s) :
  wpAny (model X.prog X.w) A (dictWalkPlain d u (k.hash X.w) xs (plc xs (k.hash X.w))) Q E s:=by
 unfold dictWalkPlain;refine wpAny_bind (wpAny_forIn_list _ (fun rest b s'=>s'=s/\b=(none,())/\∃done,plc xs (k.hash X.w)=done++rest/\∀j e,j∈done->es[j]?=some e->e.1≠k) _ ?_ ?_ _ _ ⟨rfl,rfl,[],rfl,fun _ _ m=>by cases m⟩)
 ·rintro i rest b s' ⟨rfl,rfl,done,hd,hno⟩;obtain⟨x,x1,x2⟩:=plc_mem.mp (show i∈plc xs (k.hash X.w) by rw[hd];simp)
  obtain⟨e,e1,e2,eq,_⟩:=D.ent i x x1;simp only[x1];rw[if_pos (by rw[x2];simp)]
  refine wpAny_bind (wpAny_dictEpoch g1 g2 (wpAny_bind (eq _ (wpAny_bind (wpAny_dictEpoch g1 g2 ?_)))));rw[if_neg (by simp)]
  by_cases ek:e.1=k
  ·rw[decide_eq_true ek];exact wpAny_bind (wpAny_rule (wpAny_pure (wpAny_pure (q1 i e e1 ek))))
  ·rw[decide_eq_false ek];refine wpAny_bind (wpAny_rule (wpAny_pure ⟨rfl,rfl,done++[i],by simp[hd],fun j f m hf=>?_⟩))
   rcases List.mem_append.mp m with m|m
   ·exact hno j f m hf
   ·simp at m;subst m;rw[e1] at hf;cases hf;exact ek
 ·rintro b s' ⟨rfl,rfl,done,hd,hno⟩;refine wpAny_pure (q0 fun j e he ek=>hno j e ?_ he ek)
  have:=D.plc he ek;rw[hd] at this;simpa using this
def idv(u:Value):Value:=u
theorem d1i(D:DAt X A E s xs es k u)(g1:s.heap.get? d=some o)(g2:o.data=.dict xs ep)(hq:∀(R:Bool->Shared->Prop),R true s->wpAny (model X.prog X.w) A (eqIsQuiet 8 u) R E s)
  (hs:∀z t,u=.str z t->k=.inr z) (hst:∀(j:Nat) (x:DictEntry) (e:TK×V×V) z t,xs[j]?=some x->es[j]?=some e->x.key=.str z t->e.1=.inr z) (hh:∀a (j:Nat) (x:DictEntry) (e:TK×V×V),u=.ref a->xs[j]?=some x->es[j]?=some e->x.key=u->e.1=k)
  (q0:(∀(j:Nat) (e:TK×V×V),es[j]?=some e->e.1≠k)->Q none s) (q1:∀(j:Nat) (e:TK×V×V),es[j]?=some e->e.1=k->Q (some j) s) :
  wpAny (model X.prog X.w) A (dictFind d u (k.hash X.w)) Q E s:=by
 have walk:=c6e D g1 g2 q0 q1;have stored:∀v∈(plc xs (k.hash X.w)).filterMap (fun i=>xs[i]?.map (·.key)),∀(R:Bool->Shared->Prop),R true s->wpAny (model X.prog X.w) A (eqIsQuiet 8 v) R E s:=by
  intro v hv R hR;obtain⟨i,_,hi⟩:=List.mem_filterMap.mp hv;cases hx:xs[i]? with
  |none=>rw[hx] at hi;cases hi
  |some x=>
   rw[hx] at hi;obtain rfl:x.key=v:=by simpa using hi
   obtain⟨e,_,_,_,h⟩:=D.ent i x hx;exact h R hR
 have tell:∀(R:Bool->Shared->Prop),R false s->wpAny (model X.prog X.w) A (tableMayTell u ((plc xs (k.hash X.w)).filterMap fun i=>xs[i]?.map (·.key))) R E s:=by
  intro R hR;unfold tableMayTell;split
  ·exact wpAny_pure hR
  ·refine wpAny_bind (hq _ ?_);simp only[Bool.not_true,Bool.false_eq_true,if_false];refine wpAny_bind (wpAny_forIn_list _ (fun rest r s'=>s'=s/\r=(none,())/\∀v∈rest,∀(R:Bool->Shared->Prop),R true s->wpAny (model X.prog X.w) A (eqIsQuiet 8 v) R E s) _ ?_ ?_ _ _ ⟨rfl,rfl,stored⟩)
   ·rintro x rest r s' ⟨rfl,rfl,hr⟩;refine wpAny_bind (hr x (by simp) _ ?_)
    simp only[Bool.not_true,Bool.false_eq_true,if_false];exact wpAny_pure ⟨rfl,rfl,fun v hv=>hr v (by simp[hv])⟩
   ·rintro r s' ⟨rfl,rfl,_⟩;exact wpAny_pure hR
 have tell2:∀(R:Bool->Shared->Prop),R false s->wpAny (model X.prog X.w) A (if((plc xs (k.hash X.w)).filterMap (fun i=>xs[i]?.map (·.key)) == [u])=true then pure false else tableMayTell u ((plc xs (k.hash X.w)).filterMap fun i=>xs[i]?.map (·.key))) R E s:=by
  intro R hR;split
  ·exact wpAny_pure hR
  ·exact tell R hR
 have fin:∀(i:Nat) (x:DictEntry) (e:TK×V×V),xs[i]?=some x->es[i]?=some e->EntG X.w e x->(x.hash == k.hash X.w)=false->e.1≠k:=fun i x e _ _ he hf ek=>by
  rw[he.1,ek] at hf;simp at hf
 unfold dictFind
 (try with_reducible refine wpAny_holding ?_);refine wpAny_bind (wpAny_dictEntries g1 g2 ?_)
 dsimp only;by_cases hall:((u::(plc xs (k.hash X.w)).filterMap fun i=>xs[i]?.map (·.key)).all carriedByValue)=true
 ·rw[if_pos hall];split;next z t=>
   split;next hstr=>
    unfold foundByValue;cases hf:xs.findIdx? (fun e=>e.key.isStr z) with
    |none=>
     refine wpAny_pure (q0 fun j e he ek=>?_)
     obtain⟨x,x1,x2⟩:=D.ents j e he;have n1:=Array.findIdx?_eq_none_iff.mp hf x (Array.mem_of_getElem? x1);have e2:=x2.2.1;have n2:isExactStrKey x.key=true:=by
      have h:=Array.all_eq_true.mp hstr j (Array.getElem?_eq_some_iff.mp x1).1;rw[(Array.getElem?_eq_some_iff.mp x1).2] at h;exact h
     cases hk:x.key with
     |str z2 t2=>
      have e3:=hst j x e z2 t2 x1 he hk;rw[ek,hs z t rfl] at e3;cases e3;rw[hk] at n1;simp[Value.isStr] at n1
     |_=>rw[hk] at n2;cases n2
    |some i=>
     obtain⟨hlt,hi,_⟩:=Array.findIdx?_eq_some_iff_getElem.mp hf;obtain⟨e,e1,e2,eq,_⟩:=D.ent i xs[i] (Array.getElem?_eq_getElem hlt);have ek:e.1=k:=by
      cases hk:xs[i].key with
      |str z2 t2=>
       rw[hk] at hi;have:z2=z:=by simpa[Value.isStr] using hi
       subst this;rw[hst i _ e z2 t2 (Array.getElem?_eq_getElem hlt) e1 hk,hs z2 t rfl]
      |_=>rw[hk] at hi;simp[Value.isStr] at hi
     simp only[Array.getElem?_eq_getElem hlt];refine wpAny_bind (wpAny_dictEpoch g1 g2 (wpAny_bind (eq _ (wpAny_bind (wpAny_dictEpoch g1 g2 ?_)))));rw[if_neg (by simp),decide_eq_true ek]
     exact wpAny_bind (wpAny_rule (wpAny_pure (q1 i e e1 ek)))
   next=>exact walk
  next=>exact walk
 ·rw[if_neg hall];have nostr:∀z t,u=.str z t->¬(xs.all fun e=>isExactStrKey e.key)=true:=by
   intro z t hu hx;refine hall (List.all_eq_true.mpr fun v hv=>?_)
   rcases List.mem_cons.mp hv with rfl|hv
   ·rw[hu];rfl
   ·obtain⟨i,_,hi⟩:=List.mem_filterMap.mp hv;cases hx1:xs[i]? with
    |none=>rw[hx1] at hi;cases hi
    |some x=>
     rw[hx1] at hi;obtain rfl:x.key=v:=by simpa using hi
     have h:=Array.all_eq_true.mp hx i (Array.getElem?_eq_some_iff.mp hx1).1;rw[(Array.getElem?_eq_some_iff.mp hx1).2] at h;cases hk:x.key with
     |str _ _=>rfl
     |_=>rw[hk] at h;cases h
  have noany:∀a,u=.ref a->¬(xs.any fun e=>e.key == u && e.hash != k.hash X.w)=true:=by
   intro a hu hx;rw[Array.any_eq_true] at hx;obtain⟨i,hi,hc⟩:=hx;rw[Bool.and_eq_true,beq_iff_eq,bne_iff_ne] at hc;obtain⟨e,e1,e2,_⟩:=D.ent i xs[i] (Array.getElem?_eq_getElem hi);have:=hh a i _ e hu (Array.getElem?_eq_getElem hi) e1 hc.1;exact hc.2 (by rw[e2.1,this])
  have hid:u=idv u:=rfl;refine(fun(key:?P)=>?main) ?k
  case main=>
   rw(occs:=.pos [1]) [hid];split
   ·rename_i z t hz
    rw[if_neg (nostr z t hz)];rw(occs:=.pos [1]) [hid];split
    ·rename_i a ha
     rw[if_neg (noany a ha)];exact key
    ·exact key
   ·rw(occs:=.pos [1]) [hid];split
    ·rename_i a ha
     rw[if_neg (noany a ha)];exact key
    ·exact key
  refine(fun(key2:?P2)=>?main2) ?k2
  case main2=>
   refine c6a ?_ ?_
   ·refine wpAny_bind (wpAny_pure ?_);exact key2
   ·refine wpAny_bind (tell _ ?_);exact key2
  all_goals (
   show wpAny _ _ (if(false && _)=true then _ else _) _ _ _
   rw[if_neg (by rw[Bool.false_and];exact Bool.false_ne_true)]
   refine wpAny_bind (wpAny_forIn_list _ (fun rest b s'=>s'=s/\∃hit done,b=(none,hit)/\plc xs (k.hash X.w)=done++rest/\((hit=none/\∀(j:Nat) (e:TK×V×V),j∈done->es[j]?=some e->e.1≠k)\/∃(j:Nat) (e:TK×V×V),hit=some j/\j∈done/\es[j]?=some e/\e.1=k)) _ ?_ ?_ _ _
    ⟨rfl,none,[],rfl,rfl,.inl ⟨rfl,fun _ _ m=>by cases m⟩⟩)
   ·rintro i rest b s' ⟨rfl,hit,done,rfl,hd,hH⟩;obtain⟨x,x1,x2⟩:=plc_mem.mp (show i∈plc xs (k.hash X.w) by rw[hd];simp)
    obtain⟨e,e1,e2,eq,_⟩:=D.ent i x x1;have hni:i∉done:=fun m=>by
     have:=c6d (xs:=xs) (h:=k.hash X.w);rw[hd] at this;exact(List.nodup_append.mp this).2.2 i m i (by simp) rfl
    simp only[x1];rw[if_pos (by rw[x2];simp)]
    refine wpAny_bind (wpAny_dictEpoch g1 g2 (wpAny_bind (eq _ (wpAny_bind (wpAny_dictEpoch g1 g2 ?_)))));rw[if_neg (by simp)]
    by_cases ek:e.1=k
    ·rw[decide_eq_true ek];rcases hH with⟨rfl,hno⟩|⟨j,f,rfl,jd,jf,fk⟩
     ·first|rw[if_pos rfl]|skip
      simp only[Option.isSome_none,Bool.false_eq_true,if_false];first|refine wpAny_bind (wpAny_pure ?_)|skip
      refine wpAny_bind (wpAny_rule ?_);split
      ·exact wpAny_pure (wpAny_pure (q1 i e e1 ek))
      ·exact wpAny_pure ⟨rfl,some i,done++[i],rfl,by simp[hd],.inr ⟨i,e,rfl,by simp,e1,ek⟩⟩
     ·exact absurd (D.uniq i j e f e1 jf ek fk) fun z=>hni (by rw[z];exact jd)
    ·rw[decide_eq_false ek];have nx:(hit=none/\∀(j:Nat) (e:TK×V×V),j∈done++[i]->es[j]?=some e->e.1≠k)\/∃(j:Nat) (e:TK×V×V),hit=some j/\j∈done++[i]/\es[j]?=some e/\e.1=k:=by
      rcases hH with⟨h0,hno⟩|⟨j,f,h0,jd,jf,fk⟩
      ·refine .inl ⟨h0,fun j f m hf=>?_⟩
       rcases List.mem_append.mp m with m|m
       ·exact hno j f m hf
       ·simp at m;subst m;rw[e1] at hf;cases hf;exact ek
      ·exact .inr ⟨j,f,h0,by simp[jd],jf,fk⟩
     simp only[Bool.false_eq_true,if_false];refine wpAny_bind (wpAny_rule ?_);first|rw[if_neg (by simp)]|skip
     first
      |exact wpAny_pure ⟨rfl,hit,done++[i],rfl,by simp[hd],nx⟩
      |exact wpAny_bind (wpAny_pure (wpAny_pure ⟨rfl,hit,done++[i],rfl,by simp[hd],nx⟩))
   ·rintro b s' ⟨rfl,hit,done,rfl,hd,hH⟩;rcases hH with⟨rfl,hno⟩|⟨j,f,rfl,jd,jf,fk⟩
    ·refine wpAny_pure (q0 fun j e he ek=>hno j e ?_ he ek)
     have:=D.plc he ek;rw[hd] at this;simpa using this
    ·exact wpAny_pure (q1 j f jf fk))
end
end
def valX(es:List (TK×V×V))(k:TK):Option V:=(es.find? fun e=>decide (e.1=k)).map (·.2.2)
def putX:List (TK×V×V)->TK->V->V->List (TK×V×V)
 |[],k,y,v=>[(k,y,v)]
 |e::es,k,y,v=>if e.1=k then(e.1,e.2.1,v)::es else e::putX es k y v
def putE(es:List (TK×V×V))(k:TK)(ep:Nat):Nat:=if(es.any fun e=>decide (e.1=k))=true then ep else ep+1
def XGet(K:L2.FG)(H:Hp)(a:Addr)(y:V)(r:Option V):Prop:=∃es ep k,H a=some (.dG es ep)/\RepL K H (es.map (·.2.1)) (es.map (·.1.d))/\RepL K H [y] [k.d]/\k.ok 8=true/\r=valX es k
def XPut(K:L2.FG)(H:Hp)(a:Addr)(y v:V)(H':Hp):Prop:=∃es ep k,H a=some (.dG es ep)/\RepL K H (es.map (·.2.1)) (es.map (·.1.d))/\RepL K H [y] [k.d]/\k.ok 8=true/\es.length < sizeLine/\H'=upd H a (.dG (putX es k y v) (putE es k ep))
theorem d5s{k j:TK}(e:k.d=j.d)(h:k.ok 8=true):k=j:=by
 have h1:=c0c k j;rw[<-e,b2i 8 (b1h 8 h)] at h1;exact of_decide_eq_true h1.symm
section
variable {X:Cx} {pins:List (Addr×Obj)} {σ:St} {H:Hp}
theorem c6f{y:V}{z:Str}{t:Tok}{k:TK}(r:RepL X.K H [y] [k.d])(ru:RelV y (.str z t)):k=.inr z:=by
 cases k with
 |inl i=>simp only[TK.d] at r;cases r with|flat q _=>cases q;obtain⟨t,e⟩:=ru;cases e
 |inr i=>simp only[TK.d] at r;cases r with|flat q _=>cases q;obtain⟨t,e⟩:=ru;cases e;rfl
 |tp l=>simp only[TK.d] at r;cases r with|flat q _=>cases q|tup q _ _=>cases ru
theorem c6g{y:V}{a:Addr}(ru:RelV y (.ref a)):y=.ref a:=by
 cases y with
 |ref b=>cases ru;rfl
 |non=>cases ru
 |bl _=>cases ru
 |ty _=>cases ru
 |_=>obtain⟨t,e⟩:=ru;cases e
section
variable {A:Around} {E:Value->Shared->Prop} {s:Shared} {d:Addr} {es:List (TK×V×V)} {k:TK} {y v:V} {u r:Value}
theorem d3s{o:Obj}{xs:Array DictEntry}{ep:Nat}{Q:Option Nat->Shared->Prop}(I:Inv X pins σ H s)(g1:s.heap.get? d=some o)(g2:o.data=.dict xs ep)(g3:Paired (EntG X.w) es xs.toList)(g4:(es.map (·.1)).Nodup)
  (rk:RepL X.K H (es.map (·.2.1)) (es.map (·.1.d))) (ry:RepL X.K H [y] [k.d]) (ok:k.ok 8=true) (ru:RelV y u) (hu:A.units+8 < cLine)
  (q0:(∀(j:Nat) (e:TK×V×V),es[j]?=some e->e.1≠k)->Q none s) (q1:∀(j:Nat) (e:TK×V×V),es[j]?=some e->e.1=k->Q (some j) s):wpAny (model X.prog X.w) A (dictFind d u (k.hash X.w)) Q E s:=by
 have at':∀(j:Nat) (x:DictEntry) (e:TK×V×V),xs[j]?=some x->es[j]?=some e->EntG X.w e x/\RepL X.K H [e.2.1] [e.1.d]:=by
  intro j x e hx he;obtain⟨e',e1,e2⟩:=b3c j g3 (by rw[Array.getElem?_toList];exact hx)
  rw[he] at e1;cases e1;obtain⟨v,v1,v2⟩:=rk.get (i:=j) (d:=e.1.d) (by rw[List.getElem?_map,he];rfl)
  rw[List.getElem?_map,he] at v1;cases v1;exact⟨e2,v2⟩
 refine d1i (d8x I g3 g4 rk ry ok ru hu) g1 g2 (fun R hR=>b8j 8 I ry ok ru hR) (fun z t e=>c6f ry (by rw[<-e];exact ru)) (fun j x e z t hx he hk=>?_) (fun a j x e hu' hx he hk=>?_) q0 q1
 ·obtain⟨g,r'⟩:=at' j x e hx he;exact c6f r' (by rw[<-hk];exact g.2.1)
 ·obtain⟨g,r'⟩:=at' j x e hx he;have h1:=g.2.1;rw[hk,hu'] at h1;rw[hu'] at ru;rw[c6g h1] at r';rw[c6g ru] at ry;exact d5s (b6h I 8 8 r' ry (b1h 8 g.2.2.2) (b1h 8 ok)) g.2.2.2
theorem c6h(h:∀(j:Nat) (e:TK×V×V),es[j]?=some e->e.1≠k):valX es k=none:=by
 unfold valX;rw[List.find?_eq_none.mpr fun e m z=>?_,Option.map_none]
 obtain⟨j,hj⟩:=List.mem_iff_getElem?.mp m;exact h j e hj (of_decide_eq_true z)
theorem c6i(hn:(es.map (·.1)).Nodup){j:Nat}{e:TK×V×V}(he:es[j]?=some e)(ek:e.1=k):valX es k=some e.2.2:=by
 induction es generalizing j with
 |nil=>simp at he
 |cons x es ih=>
  rw[List.map_cons,List.nodup_cons] at hn;unfold valX;rw[List.find?_cons];cases j with
  |zero=>
   simp only[List.getElem?_cons_zero,Option.some.injEq] at he;subst he;rw[decide_eq_true ek];rfl
  |succ j=>
   simp only[List.getElem?_cons_succ] at he;have ne:¬x.1=k:=fun z=>hn.1 (by rw[z,<-ek];exact List.mem_map.mpr ⟨e,List.mem_of_getElem? he,rfl⟩)
   rw[decide_eq_false ne];exact ih hn.2 he
theorem b8k{o:Option V}{Q:Option Value->Shared->Prop}(hu:A.units+8 < cLine)(I:Inv X pins σ H s)(g:XGet X.K H d y o)(ru:RelV y u)(h:∀w t,RelO o w->Q w { s with toks:=t}):
  wpAny (model X.prog X.w) A (dictGet d u) Q E s:=by
 obtain⟨es,ep,k,hd,rk,ry,ok,rfl⟩:=g;obtain⟨_,_,ob,xs,g1,_,g2,g3,g4⟩:=(show ObjOk X.prog X.w H s.heap d (.dG es ep) from I.hok d _ hd);unfold dictGet
 (try with_reducible refine wpAny_holding ?_);refine wpAny_bind (c1o 8 I ry ok ru hu fun t=>wpAny_bind (d3s (I.tok t) g1 g2 g3 g4 rk ry ok ru hu (fun q0=>?_) (fun j e he ek=>?_)))
 ·exact wpAny_pure (h none t (by rw[c6h q0];exact True.intro))
 ·obtain⟨x,x1,x2⟩:=b3d j g3 he;refine wpAny_bind (wpAny_dictEntries (s:={ s with toks:=t}) g1 g2 (wpAny_pure ?_));rw[<-Array.getElem?_toList,x1];exact h (some x.val) t (by rw[c6i g4 he ek];exact x2.2.2.1)
theorem XGet.ty{o:Option V}(I:Inv X pins σ H s)(g:XGet X.K H d y o):s.TypeIs (.ref d) "dict"/\(d == sysModules)=false:=by
 obtain⟨es,ep,k,hd,_⟩:=g;obtain⟨_,z,ob,xs,g1,g5,_⟩:=(show ObjOk X.prog X.w H s.heap d (.dG es ep) from I.hok d _ hd);exact⟨⟨ob,g1,g5.1⟩,z⟩
theorem c6j{Q:Value->Shared->Prop}(hu:A.units+9 < cLine)(I:Inv X pins σ H s)(g:XGet X.K H d y (some v))(ru:RelV y u)(h:∀w' s',Inv X pins σ H s'->RelV v w'->Q w' s'):wpAny (model X.prog X.w) A (getItem (.ref d) u) Q E s:=by
 have hT:=(g.ty I).1;unfold getItem
 (try with_reducible refine wpAny_holding ?_);refine wpAny_bind (wpAny_sequenceKey hT (by decide) (wpAny_bind (wpAny_callSpecial?_slot (name:=Str.ofString "__getitem__") hT slot_dict_getitem (wpAny_call_entry slot_dict_getitem hT entry_dict_getitem ?_ (args_dict_getitem _ _)))))
 show wpAny _ _ (dictGet d u >>= _) _ _ s;refine wpAny_bind (b8k (by show A.units+1+8 < cLine;omega) I g ru fun w t rw'=>?_)
 obtain⟨w',rfl,r'⟩:=RelO.some_of rw';exact wpAny_pure ⟨w',rfl,wpAny_pure (h w' _ (I.tok t) r')⟩
theorem b5f{o:Option V}{Q:Bool->Shared->Prop}(hu:A.units+9 < cLine)(I:Inv X pins σ H s)(g:XGet X.K H d y o)(ru:RelV y u)(h:∀s',Inv X pins σ H s'->Q o.isSome s'):wpAny (model X.prog X.w) A (contains (.ref d) u) Q E s:=by
 obtain⟨hT,hd⟩:=g.ty I;unfold contains
 (try with_reducible refine wpAny_holding ?_);refine wpAny_bind (wpAny_specialOf hT slot_dict_contains.lookup ?_)
 dsimp only;rw[if_neg (by rw[beq_builtin_none];exact Bool.false_ne_true)]
 refine wpAny_bind (wpAny_callSpecialUnlessNone?_slot (name:=Str.ofString "__contains__") hT slot_dict_contains (wpAny_call_entry slot_dict_contains hT entry_dict_contains ?_ (args_dict_contains _ _)));show wpAny _ _ (dictGet d u >>= _) _ _ s;refine wpAny_bind (b8k (by show A.units+1+8 < cLine;omega) I g ru fun w t rw'=>?_)
 have e:=rw'.isSome_eq;cases w with
 |some w=>
  show wpAny _ _ (ret (.bool true)) _ _ _;refine wpAny_pure ⟨_,rfl,wpAny_truthy_bool ?_⟩;have:=h _ (I.tok t);rw[e] at this;exact this
 |none=>
  show wpAny _ _ (Builtin.Dict.pendingKey? d u >>= _) _ _ _;refine wpAny_bind (wpAny_pendingKey_other hd (wpAny_pure ⟨_,rfl,wpAny_truthy_bool ?_⟩));have:=h _ (I.tok t);rw[e] at this;exact this
theorem x_in{o:Option V}{Q:Value->Shared->Prop}(hu:A.units+9 < cLine)(I:Inv X pins σ H s)(g:XGet X.K H d y o)(ru:RelV y u)(h:∀s',Inv X pins σ H s'->Q (.bool o.isSome) s'):wpAny (model X.prog X.w) A (compareOp .In u (.ref d)) Q E s:=
 wpAny_bind (b5f hu I g ru fun s' I'=>wpAny_pure (h s' I'))
theorem d5t{o:Option V}{Q:Value->Shared->Prop}(hu:A.units+9 < cLine)(I:Inv X pins σ H s)(g:XGet X.K H d y o)(ru:RelV y u)(h:∀s',Inv X pins σ H s'->Q (.bool (!o.isSome)) s'):wpAny (model X.prog X.w) A (compareOp .NotIn u (.ref d)) Q E s:=
 wpAny_bind (b5f hu I g ru fun s' I'=>wpAny_pure (h s' I'))
theorem b3e(k:TK)(y v:V):∀es:List (TK×V×V),(putX es k y v).length<=es.length+1
 |[]=>by simp[putX]
 |e::es=>by
  unfold putX;have:=b3e k y v es;split <;> simp <;> omega
theorem c1p:∀{es:List (TK×V×V)},(∀(j:Nat) (e:TK×V×V),es[j]?=some e->e.1≠k)->putX es k y v=es++[(k,y,v)]
 |[],_=>rfl
 |e::es,h=>by
  unfold putX;rw[if_neg (h 0 e rfl),c1p fun j x hx=>h (j+1) x (by simpa using hx)]
  rfl
theorem d5u{w:World}{xs:List DictEntry}(g3:Paired (EntG w) es xs)(ry:RelV y u)(rv:RelV v r)(ok:k.ok 8=true):Paired (EntG w) (es++[(k,y,v)]) (xs++[⟨k.hash w,u,r⟩]):=by
 induction g3 with
 |nil=>exact .cons ⟨rfl,ry,rv,ok⟩ .nil
 |cons a _ ih=>exact .cons a ih
theorem c6k{w:World}:∀{es:List (TK×V×V)} {xs:List DictEntry} {j:Nat} {e:TK×V×V},Paired (EntG w) es xs->(es.map (·.1)).Nodup->es[j]?=some e->e.1=k->RelV v r->
  Paired (EntG w) (putX es k y v) (xs.modify j fun x=>{ x with val:=r})/\(putX es k y v).map (·.1)=es.map (·.1)
 |_,_,_,_,.nil,_,he,_,_=>by simp at he
 |_::es,_::xs,0,e,.cons a t,hn,he,ek,rv=>by
  simp only[List.getElem?_cons_zero,Option.some.injEq] at he;subst he;unfold putX;rw[if_pos ek];exact⟨.cons ⟨a.1,a.2.1,rv,a.2.2.2⟩ t,rfl⟩
 |x::es,_::xs,j+1,e,.cons a t,hn,he,ek,rv=>by
  simp only[List.getElem?_cons_succ] at he;rw[List.map_cons,List.nodup_cons] at hn;have ne:¬x.1=k:=fun z=>hn.1 (by rw[z,<-ek];exact List.mem_map.mpr ⟨e,List.mem_of_getElem? he,rfl⟩)
  unfold putX;rw[if_neg ne];have ih:=c6k t hn.2 he ek rv;exact⟨.cons a ih.1,by rw[List.map_cons,List.map_cons,ih.2]⟩
theorem c6l{H':Hp}{Q:Unit->Shared->Prop}(hu:A.units+8 < cLine)(I:Inv X pins σ H s)(g:XPut X.K H d y v H')(ru:RelV y u)(rv:RelV v r)(h:∀s',Inv X pins σ H' s'->Q () s'):
  wpAny (model X.prog X.w) A (dictSet d u r) Q E s:=by
 obtain⟨es,ep,k,hd,rk,ry,ok,hl,rfl⟩:=g;obtain⟨_,z,ob,xs,g1,g5,g2,g3,g4⟩:=(show ObjOk X.prog X.w H s.heap d (.dG es ep) from I.hok d _ hd);have hz:xs.size<=sizeLine:=by have:=Paired.length g3;simp at this;omega
 have hl2:(putX es k y v).length<=sizeLine:=by have:=b3e k y v es;omega
 unfold dictSet
 (try with_reducible refine wpAny_holding ?_);refine wpAny_bind (c1o 8 I ry ok ru hu fun t=>?_)
 unfold dictSetHashed
 (try with_reducible refine wpAny_holding ?_);refine wpAny_bind (d3s (I.tok t) g1 g2 g3 g4 rk ry ok ru hu (fun q0=>?_) (fun j e he ek=>?_))
 ·have ep2:putX es k y v=es++[(k,y,v)]:=c1p q0;have ep3:putE es k ep=ep+1:=if_neg (by
   rw[List.any_eq_true];rintro⟨e,m,q⟩;obtain⟨j,hj⟩:=List.mem_iff_getElem?.mp m;exact q0 j e hj (of_decide_eq_true q))
  rw[ep3] at h;refine wpAny_bind (wpAny_rule (wpAny_updateDictKeys (hz:=hz) (s:={ s with toks:=t}) g1 g2 (h _ ?_)));refine c5g (I.tok t) (by rw[hd];exact True.intro) (Heap.SameBut.update ..) ⟨_,Heap.get?_update_self _ g1 (Obj.isFreed_of_dict (Obj.data_mapDictKeys g2 _))⟩ ⟨hl2,z,_,_,Heap.get?_update_self _ g1 (Obj.isFreed_of_dict (Obj.data_mapDictKeys g2 _)),g5.mapDictKeys _,Obj.data_mapDictKeys g2 _,?_,?_⟩
  ·rw[ep2,Array.toList_push];exact d5u g3 ru rv ok
  ·rw[ep2,List.map_append,List.nodup_append];refine⟨g4,by simp,fun a m b m' e=>?_⟩
   simp at m';subst m';obtain⟨x,mx,rfl⟩:=List.mem_map.mp m;obtain⟨j,hj⟩:=List.mem_iff_getElem?.mp mx;exact q0 j x hj e
 ·have em:=c6k (y:=y) g3 g4 he ek rv;have ep3:putE es k ep=ep:=if_pos (List.any_eq_true.mpr ⟨e,List.mem_of_getElem? he,decide_eq_true ek⟩);rw[ep3] at h;refine wpAny_bind (wpAny_rule (wpAny_bind (wpAny_updateDict (s:={ s with toks:=t}) g1 g2 (wpAny_point (h _ ?_)))));refine c5g (I.tok t) (by rw[hd];exact True.intro) (Heap.SameBut.update ..) ⟨_,Heap.get?_update_self _ g1 (Obj.isFreed_of_dict (Obj.data_mapDict g2 _))⟩ ⟨hl2,z,_,_,Heap.get?_update_self _ g1 (Obj.isFreed_of_dict (Obj.data_mapDict g2 _)),g5.mapDict _,Obj.data_mapDict g2 _,?_,?_⟩
  ·obtain⟨l⟩:=xs;simpa using em.1
  ·rw[em.2];exact g4
theorem c6m{H':Hp}{Q:Unit->Shared->Prop}(hu:A.units+9 < cLine)(I:Inv X pins σ H s)(g:XPut X.K H d y v H')(ru:RelV y u)(rv:RelV v r)(h:∀s',Inv X pins σ H' s'->Q () s'):
  wpAny (model X.prog X.w) A (setItem (.ref d) u r) Q E s:=by
 have hT:s.TypeIs (.ref d) "dict":=by
  obtain⟨es,ep,k,hd,rk,ry,ok,_⟩:=g;exact(XGet.ty I ⟨es,ep,k,hd,rk,ry,ok,rfl⟩).1
 unfold setItem
 (try with_reducible refine wpAny_holding ?_);refine wpAny_bind (wpAny_sequenceKey hT (by decide) (wpAny_bind (wpAny_callSpecial?_slot (name:=Str.ofString "__setitem__") hT slot_dict_setitem (wpAny_call_entry slot_dict_setitem hT entry_dict_setitem ?_ (args_dict_setitem _ _ _)))))
 show wpAny _ _ (Builtin.Dict.notOrdered "__setitem__" ⟨[.ref d,u,r],[]⟩ >>= _) _ _ s;refine wpAny_bind (wpAny_notOrdered_dict hT ?_);show wpAny _ _ (dictSet d u r >>= fun z=>_) _ _ s
 exact wpAny_bind (c6l (by show A.units+1+8 < cLine;omega) I g ru rv fun s' I'=>wpAny_pure ⟨.none,rfl,wpAny_pure (h s' I')⟩)
end
end
section
variable {X:Cx} {K:L2.FG}
def rEqA(K:L2.FG):R2:=fun x y H Q=>∃d e,RepL K H [x] [d]/\RepL K H [y] [e]/\okD 40 d=true/\okD 40 e=true/\Q (.bl (eqD d e)) H
theorem a2i(K:L2.FG)(hu:X.A.units+40 < cLine)(hK:X.K=K:=by rfl):OpR X (compareOp .Eq) (rEqA K):=by
 subst hK;intro pins s σ H x y v u Q I rx ry h;obtain⟨d,e,r1,r2,o1,o2,q⟩:=h;exact(b8i I 40 40 r1 r2 o1 o2 rx ry hu).2 X.prog X.w _ _ ⟨.bl _,H,I,rfl,q⟩
open Classical in
noncomputable def inE (K:L2.FG) (H:Hp) (dx:D) (u:Value):Bool:=decide (∃x d,RelV x u/\RepL K H [x] [d]/\okD 40 d=true/\eqD d dx=true)
open Classical in
theorem d3t{pins:List (Addr×Obj)}{s:Shared}{σ:St}{H:Hp}(I:Inv X pins σ H s){dx d:D}{x:V}{u:Value}(rx:RelV x u)(r:RepL X.K H [x] [d])(ok:okD 40 d=true):inE X.K H dx u=eqD d dx:=by
 unfold inE;rw[Bool.eq_iff_iff,decide_eq_true_iff];constructor
 ·rintro⟨x',d',rx',r',ok',e⟩;have:=RelV.inj rx rx';subst this;rw[b6h I 40 40 r r' ok ok'];exact e
 ·exact fun e=>⟨x,d,rx,r,ok,e⟩
theorem c1q{pins:List (Addr×Obj)}{s:Shared}{σ:St}{H:Hp}(I:Inv X pins σ H s){dx:D}{ws:List V}{its:List Value}{ds:List D}(t:Vals ws its)(rp:RepL X.K H ws ds)(ok:ds.all (okD 40)=true):its.any (inE X.K H dx)=ds.any fun d=>eqD d dx:=by
 induction t generalizing ds with
 |nil=>
  cases ds with
  |nil=>rfl
  |cons _ _=>have:=rp.length;simp at this
 |cons r t ih=>
  cases ds with
  |nil=>have:=rp.length;simp at this
  |cons d ds=>
   rw[List.all_cons,Bool.and_eq_true] at ok;rw[List.any_cons,List.any_cons,d3t I r rp.inv.1 ok.1,ih rp.inv.2 ok.2]
theorem c1r{pins:List (Addr×Obj)}{s:Shared}{σ:St}{H:Hp}(I:Inv X pins σ H s){dx:D}{y:V}{v:Value}{A:Around}(rv:RelV y v)(ry:RepL X.K H [y] [dx])(oy:okD 40 dx=true)(hu:A.units+40 < cLine):
  ∀{ws:List V} {its:List Value} {ds:List D},Vals ws its->RepL X.K H ws ds->ds.all (okD 40)=true->∀u∈its,SeqAt.EqAt A s u v (inE X.K H dx u):=by
 intro ws its ds t
 induction t generalizing ds with
 |nil=>intro _ _ u m;cases m
 |cons r t ih=>
  intro rp ok u' m;cases ds with
  |nil=>have:=rp.length;simp at this
  |cons d ds=>
   rw[List.all_cons,Bool.and_eq_true] at ok;rcases List.mem_cons.mp m with rfl|m
   ·rw[d3t I r rp.inv.1 ok.1];exact(b8i I 40 40 rp.inv.1 ry ok.1 oy r rv hu).1
   ·exact ih rp.inv.2 ok.2 u' m
def seqO:D->Option (List D)
 |.lst ds=>some ds
 |.tup ds=>some ds
 |_=>none
def rInA(K:L2.FG)(neg:Bool):R2:=fun x y H Q=>
 (∃d e ds,RepL K H [x] [d]/\RepL K H [y] [e]/\seqO e=some ds/\okD 40 d=true/\ds.all (okD 40)=true/\Q (.bl (if neg then !ds.any fun z=>eqD z d else ds.any fun z=>eqD z d)) H)\/
 (∃i j,x=.str i/\y=.str j/\Q (.bl (if neg then !(!(Builtin.Str.occurrences j i 0 j.length 1).isEmpty) else !(Builtin.Str.occurrences j i 0 j.length 1).isEmpty)) H)\/
 ∃a o,y=.ref a/\XGet K H a x o/\Q (.bl (if neg then !o.isSome else o.isSome)) H
theorem b3f(K:L2.FG)(hu:X.A.units+41 < cLine)(hK:X.K=K:=by rfl):OpR X (compareOp .In) (rInA K false):=by
 subst hK;intro pins s σ H x y v u Q I rx ry h;rcases h with⟨d,e,ds,r1,r2,es,o1,o2,q⟩|⟨i,j,rfl,rfl,q⟩|⟨a,o,rfl,g,q⟩
 ·have hu':X.A.in1.units+40 < cLine:=by show X.A.units+1+40 < cLine;omega
  cases r2 with
  |flat z _=>cases e <;> first|(cases z;done)|cases es
  |lst sq i _=>
   cases es;cases ry;obtain⟨its,r,pl,hz⟩:=I.list (.inl sq);refine SeqAt.in_listAt (inE X.K H d) pl.isList (fun w hw=>c1r I rx r1 o1 hu' r i o2 w (by simpa using hw)) ⟨.bl _,H,I,rfl,?_⟩
   rw[show its.toArray.any (inE X.K H d)=its.any (inE X.K H d) by simp,c1q I r i o2]
   exact q
  |tup sq i _=>
   cases es;cases ry;obtain⟨its,r,pl,hz⟩:=I.tuple sq;refine SeqAt.in_tupleAt (inE X.K H d) pl (fun w hw=>c1r I rx r1 o1 hu' r i o2 w (by simpa using hw)) ⟨.bl _,H,I,rfl,?_⟩
   rw[show its.toArray.any (inE X.K H d)=its.any (inE X.K H d) by simp,c1q I r i o2]
   exact q
  |dct _ _ _ _ _=>cases es
  |scr _ _=>cases es
  |exc _ _=>cases es
  |obj _=>cases es
 ·exact c4y pins s σ H _ _ v u Q I rx ry ⟨i,j,rfl,rfl,q⟩
 ·cases ry;exact x_in (by omega) I g rx fun s3 I3=>⟨.bl o.isSome,H,I3,rfl,q⟩
theorem b0a(K:L2.FG)(hu:X.A.units+41 < cLine)(hK:X.K=K:=by rfl):OpR X (compareOp .NotIn) (rInA K true):=by
 subst hK;intro pins s σ H x y v u Q I rx ry h;rcases h with⟨d,e,ds,r1,r2,es,o1,o2,q⟩|⟨i,j,rfl,rfl,q⟩|⟨a,o,rfl,g,q⟩
 ·have hu':X.A.in1.units+40 < cLine:=by show X.A.units+1+40 < cLine;omega
  cases r2 with
  |flat z _=>cases e <;> first|(cases z;done)|cases es
  |lst sq i _=>
   cases es;cases ry;obtain⟨its,r,pl,hz⟩:=I.list (.inl sq);refine SeqAt.notIn_listAt (inE X.K H d) pl.isList (fun w hw=>c1r I rx r1 o1 hu' r i o2 w (by simpa using hw)) ⟨.bl _,H,I,rfl,?_⟩
   rw[show its.toArray.any (inE X.K H d)=its.any (inE X.K H d) by simp,c1q I r i o2]
   exact q
  |tup sq i _=>
   cases es;cases ry;obtain⟨its,r,pl,hz⟩:=I.tuple sq;refine SeqAt.notIn_tupleAt (inE X.K H d) pl (fun w hw=>c1r I rx r1 o1 hu' r i o2 w (by simpa using hw)) ⟨.bl _,H,I,rfl,?_⟩
   rw[show its.toArray.any (inE X.K H d)=its.any (inE X.K H d) by simp,c1q I r i o2]
   exact q
  |dct _ _ _ _ _=>cases es
  |scr _ _=>cases es
  |exc _ _=>cases es
  |obj _=>cases es
 ·exact b7p pins s σ H _ _ v u Q I rx ry ⟨i,j,rfl,rfl,q⟩
 ·cases ry;exact d5t (by omega) I g rx fun s3 I3=>⟨.bl (!o.isSome),H,I3,rfl,q⟩
def oEq:List O->Option O
 |[a,b]=>if okD 40 a.d=true/\okD 40 b.d=true then some (.frz (.bl (eqD a.d b.d))) else none
 |_=>none
theorem a4b:OpOk K (r2L (rEqA K)) oEq:=by
 intro F H vs os o Q le see e res;unfold oEq at e;split at e
 ·split at e
  ·cases e;obtain⟨x,y,B,C,rfl,h1,h2⟩:=see.two
   rename_i hh
   exact⟨_,_,rfl,_,_,a4n le h1,a4n le h2,hh.1,hh.2,res.flat rfl⟩
  ·cases e
 ·cases e
mutual
def tkD:D->Option TK
 |.int i=>some (.inl i)
 |.str x=>some (.inr x)
 |.tup l=>(tkDs l).map .tp
 |_=>none
def tkDs:List D->Option (List TK)
 |[]=>some []
 |d::l=>(tkD d).bind fun k=>(tkDs l).map fun ks=>k::ks
end
def keyD:D->Option TK
 |.int i=>some (.inl i)
 |.str x=>some (.inr x)
 |.tup l=>(tkDs l).bind fun ks=>if TK.ok 8 (.tp ks)=true then some (.tp ks) else none
 |_=>none
mutual
theorem e0t:∀{d:D} {k:TK},tkD d=some k->k.d=d
 |.int i,k,e=>by simp only[tkD] at e;cases e;simp[TK.d]
 |.str i,k,e=>by simp only[tkD] at e;cases e;simp[TK.d]
 |.tup l,k,e=>by
  simp only[tkD] at e;obtain⟨ks,h1,rfl⟩:=Option.map_eq_some_iff.mp e;simp only[TK.d];rw[tkDs_d h1]
 |.non,k,e=>by simp[tkD] at e
 |.bl _,k,e=>by simp[tkD] at e
 |.ty _,k,e=>by simp[tkD] at e
 |.lst _,k,e=>by simp[tkD] at e
 |.dct _,k,e=>by simp[tkD] at e
 |.scr _,k,e=>by simp[tkD] at e
 |.exc _ _,k,e=>by simp[tkD] at e
theorem tkDs_d:∀{l:List D} {ks:List TK},tkDs l=some ks->TK.dl ks=l
 |[],ks,e=>by simp only[tkDs] at e;cases e;simp[TK.dl]
 |d::l,ks,e=>by
  simp only[tkDs] at e;obtain⟨k,h1,e⟩:=Option.bind_eq_some_iff.mp e;obtain⟨ks',h2,rfl⟩:=Option.map_eq_some_iff.mp e;simp only[TK.dl];rw[e0t h1,tkDs_d h2]
end
theorem a8c{d:D}{k:TK}(e:keyD d=some k):k.d=d/\k.ok 8=true:=by
 cases d with
 |int i=>cases e;exact⟨by simp[TK.d],rfl⟩
 |str i=>cases e;exact⟨by simp[TK.d],rfl⟩
 |tup l=>
  simp only[keyD] at e;obtain⟨ks,h1,e⟩:=Option.bind_eq_some_iff.mp e;split at e
  ·rename_i h
   cases e;exact⟨by simp only[TK.d];rw[tkDs_d h1],h⟩
  ·cases e
 |_=>cases e
def dictO:O->Option (List (TK×D))
 |.frz (.dct kvs)=>some kvs
 |.dct kvs=>some (O.dk kvs)
 |_=>none
theorem c1s{α β:Type}:∀{ws:List (TK×α)} {kvs:List (TK×β)},ws.map (·.1)=kvs.map (·.1)->ws.map (·.1.d)=kvs.map (·.1.d):=fun{ws kvs} h=>by
 have:=congrArg (List.map TK.d) h;rw[List.map_map,List.map_map] at this;exact this
theorem d1j{F H:Hp}{x:V}{o:O}{B:List Addr}{kvs:List (TK×D)}(le:Same F H)(h:OwnL K F H [some x] [some o] B)(e:dictO o=some kvs):∃a ws ep,x=.ref a/\H a=some (.dG ws ep)/\ws.map (·.1)=kvs.map (·.1)/\RepL K H (ws.map (·.2.1)) (ws.map (·.1.d))/\RepL K H (ws.map (·.2.2)) (kvs.map (·.2)):=by
 have r:=a4n le h;have ed:o.d=.dct kvs:=by
  cases o with
  |frz d=>cases d <;> cases e;rfl
  |dct _=>cases e;rfl
  |_=>cases e
 rw[ed] at r;cases r with
 |flat z _=>cases z
 |dct q k r i _=>exact⟨_,_,_,rfl,q,k,by rw[c1s k];exact r,i⟩
def valD(kvs:List (TK×D))(k:TK):Option D:=(kvs.find? fun kv=>decide (kv.1=k)).map (·.2)
theorem c0d{F:Hp}{k:TK}:∀{ws:List (TK×V×V)} {kvs:List (TK×D)},ws.map (·.1)=kvs.map (·.1)->RepL K F (ws.map (·.2.2)) (kvs.map (·.2))->(valX ws k=none/\valD kvs k=none)\/∃v d,valX ws k=some v/\valD kvs k=some d/\RepL K F [v] [d]
 |[],[],_,_=>.inl ⟨rfl,rfl⟩
 |w::ws,p::kvs,h,r=>by
  rw[List.map_cons,List.map_cons] at h;injection h with h1 h2;unfold valX valD;rw[List.find?_cons,List.find?_cons,h1];by_cases e:p.1=k
  ·rw[decide_eq_true e];exact .inr ⟨w.2.2,p.2,rfl,rfl,r.inv.1⟩
  ·rw[decide_eq_false e];exact c0d h2 r.inv.2
 |[],_::_,h,_=>by simp at h
 |_::_,[],h,_=>by simp at h
theorem c3x{F:Hp}{k:TK}{ws:List (TK×V×V)}{kvs:List (TK×D)}(h:ws.map (·.1)=kvs.map (·.1))(r:RepL K F (ws.map (·.2.2)) (kvs.map (·.2))):(valX ws k).isSome=(valD kvs k).isSome:=by
 rcases c0d (k:=k) h r with⟨e1,e2⟩|⟨v,d,e1,e2,_⟩ <;> rw[e1,e2] <;> rfl
def oInG(neg:Bool):List O->Option O
 |[a,b]=>match dictO b with
  |some kvs=>(match a with
   |.frz d=>(keyD d).bind fun k=>some (.frz (.bl (if neg then !(valD kvs k).isSome else(valD kvs k).isSome)))
   |_=>none)
  |none=>(match a,b with
   |.frz (.str i),.frz (.str j)=>some (.frz (.bl (if neg then !(!(Builtin.Str.occurrences j i 0 j.length 1).isEmpty) else !(Builtin.Str.occurrences j i 0 j.length 1).isEmpty)))
   |a,b=>(seqO b.d).bind fun ds=>if okD 40 a.d=true/\ds.all (okD 40)=true then some (.frz (.bl (if neg then !ds.any fun z=>eqD z a.d else ds.any fun z=>eqD z a.d))) else none)
 |_=>none
theorem b3g(neg:Bool):OpOk K (r2L (rInA K neg)) (oInG neg):=by
 intro F H vs os o Q le see e res;unfold oInG at e;split at e
 ·rename_i a b
  obtain⟨x,y,B,C,rfl,h1,h2⟩:=see.two;cases q:dictO b with
  |some kvs=>
   rw[q] at e;dsimp only at e;cases a with
   |frz d=>
    dsimp only at e;cases q2:keyD d with
    |none=>rw[q2] at e;cases e
    |some k=>
     rw[q2] at e;cases e;obtain⟨p,ws,ep,rfl,hp,hk,rk,hr⟩:=d1j le h2 q;refine⟨_,_,rfl,.inr (.inr ⟨p,valX ws k,rfl,⟨ws,ep,k,hp,rk,by rw[(a8c q2).1];exact a4n le h1,(a8c q2).2,rfl⟩,?_⟩)⟩
     rw[c3x hk hr];exact res.flat rfl
   |_=>cases e
  |none=>
   rw[q] at e;dsimp only at e;split at e
   ·cases e;cases a1h h1 rfl;cases a1h h2 rfl;exact⟨_,_,rfl,.inr (.inl ⟨_,_,rfl,rfl,res.flat rfl⟩)⟩
   ·cases q3:seqO b.d with
    |none=>rw[q3] at e;cases e
    |some ds=>
     rw[q3] at e;dsimp only[Option.bind] at e;split at e
     ·rename_i hh
      cases e;exact⟨_,_,rfl,.inl ⟨_,_,ds,a4n le h1,a4n le h2,q3,hh.1,hh.2,res.flat rfl⟩⟩
     ·cases e
 ·cases e
def isB(neg b:Bool):O->Option O
 |.frz (.bl a)=>some (.frz (.bl (if neg then a != b else a == b)))
 |_=>none
def rIxA(K:L2.FG):R2:=fun x y H Q=>rIxL K x y H Q\/rIxT K x y H Q\/rIxS x y H Q\/∃a v,x=.ref a/\XGet K H a y (some v)/\Q v H
theorem d5v(hu:X.A.units+9 < cLine):IxR X (fun x y H Q=>∃a v,x=.ref a/\XGet X.K H a y (some v)/\Q v H):=by
 intro value slice pins s σ H x y v u Q I rx ry h hs;obtain⟨a,w,rfl,g,q⟩:=h;cases rx;exact tail_any (g.ty I).1 PySem.F.slot_dict_getitem.lookup (c6j hu I g ry fun w' s3 I3 rw'=>⟨w,H,I3,rw',q⟩) hs
theorem a4f(K:L2.FG)(hu:X.A.units+41 < cLine)(hK:X.K=K:=by rfl):IxR X (rIxA K):=by
 subst hK;exact(d0w X.K rfl).or ((d5h X.K rfl).or (ix_str.or (d5v (by omega))))
def unfrz:O->Option O
 |.frz d=>some (.frz d)
 |_=>none
def valO(kvs:List (TK×O))(k:TK):Option O:=(kvs.find? fun kv=>decide (kv.1=k)).map (·.2)
def intD:D->Option Int
 |.int k=>some k
 |_=>none
theorem a9c{i:D}{k:Int}(h:intD i=some k):i=.int k:=by
 cases i with
 |int _=>cases h;rfl
 |_=>cases h
def ixD(d i:D):Option O:=match d with
 |.lst ds=>(intD i).bind fun k=>(atI ds k).map .frz
 |.tup ds=>(intD i).bind fun k=>(atI ds k).map .frz
 |.scr ns=>(intD i).bind fun k=>(atI (ns.map D.int) k).map .frz
 |.str z=>(intD i).bind fun k=>if z.length<=1000000 then(atI z.cps.toList k).map fun c=>.frz (.str ⟨#[c]⟩) else none
 |.dct kvs=>(keyD i).bind fun k=>(valD kvs k).map .frz
 |_=>none
def oIx1(a:O)(i:D):Option O:=match a with
 |.frz d=>ixD d i
 |.lst os=>(intD i).bind fun k=>(atI os k).bind unfrz
 |.tup os=>(intD i).bind fun k=>(atI os k).bind unfrz
 |.dct kvs=>(keyD i).bind fun k=>(valO kvs k).bind unfrz
 |_=>none
def oIx:List O->Option O
 |[a,.frz i]=>oIx1 a i
 |_=>none
theorem c0e{F:Hp}{ws:List V}{ds:List D}{i:Int}{d:D}(r:RepL K F ws ds)(e:atI ds i=some d):∃v,atI ws i=some v/\RepL K F [v] [d]:=by
 unfold atI at e ⊢;rw[r.length];cases q:ixN ds.length i with
 |none=>rw[q] at e;cases e
 |some j=>
  rw[q] at e;exact r.get e
theorem c6n{F H:Hp}:∀{ws:List V} {os:List O} {B:List Addr} {j:Nat} {d:D},OwnL K F H (ws.map some) (os.map some) B->os[j]?=some (.frz d)->∃v,ws[j]?=some v/\RepL K F [v] [d]
 |w::ws,o::os,B,0,d,h,e=>by
  obtain⟨B1,B2,h1,h2,_⟩:=OwnL.one h;simp at e;subst e;cases h1 with
  |frz r _=>exact⟨w,rfl,r⟩
 |w::ws,o::os,B,j+1,d,h,e=>by
  obtain⟨B1,B2,h1,h2,_⟩:=OwnL.one h;obtain⟨v,g1,g2⟩:=c6n (j:=j) h2 (by simpa using e)
  exact⟨v,by simpa using g1,g2⟩
 |[],[],_,_,_,_,e=>by simp at e
 |[],_::_,_,_,_,h,_=>by have:=h.length;simp at this
 |_::_,[],_,_,_,h,_=>by have:=h.length;simp at this
theorem c6o{F H:Hp}{ws:List V}{os:List O}{B:List Addr}{i:Int}{o:O}(r:OwnL K F H (ws.map some) (os.map some) B)(e:(atI os i).bind unfrz=some o):∃v d,atI ws i=some v/\RepL K F [v] [d]/\o=.frz d:=by
 have hl:ws.length=os.length:=by have:=r.length;simpa using this
 unfold atI at e ⊢;rw[hl];cases q:ixN os.length i with
 |none=>rw[q] at e;cases e
 |some j=>
  rw[q] at e;dsimp only[Option.bind] at e;cases q2:os[j]? with
  |none=>rw[q2] at e;cases e
  |some o'=>
   rw[q2] at e;dsimp only at e;cases o' with
   |frz d=>cases e;obtain⟨v,g1,g2⟩:=c6n r q2;exact⟨v,d,g1,g2,rfl⟩
   |_=>cases e
theorem b6i{F H:Hp}{v:V}{d:D}{B:List Addr}(h:OwnL K F H [some v] [some (.frz d)] B):RepL K F [v] [d]:=by
 cases h with
 |frz r _=>exact r
theorem c6p{F H:Hp}{k:TK}{d:D}:∀{ws:List (TK×V×V)} {kvs:List (TK×O)} {B:List Addr},ws.map (·.1)=kvs.map (·.1)->OwnL K F H (ws.map fun p=>some p.2.2) (kvs.map fun p=>some p.2) B->valO kvs k=some (.frz d)->∃v,valX ws k=some v/\RepL K F [v] [d]
 |[],[],_,_,_,e=>by cases e
 |w::ws,p::kvs,B,h,r,e=>by
  rw[List.map_cons,List.map_cons] at h;injection h with h1 h2;obtain⟨B1,B2,g1,g2,_⟩:=OwnL.one r;unfold valO at e;unfold valX;rw[List.find?_cons] at e ⊢;rw[h1];by_cases q:p.1=k
  ·rw[decide_eq_true q] at e ⊢;have e:some p.2=some (.frz d):=e;injection e with e;have g1:OwnL K F H [some w.2.2] [some p.2] B1:=g1;rw[e] at g1;exact⟨w.2.2,rfl,b6i g1⟩
  ·rw[decide_eq_false q] at e ⊢;exact c6p h2 g2 e
 |[],_::_,_,h,_,_=>by simp at h
 |_::_,[],_,h,_,_=>by simp at h
theorem a1o:OpOk K (r2L (rIxA K)) oIx:=by
 intro F H vs os o Q le see e res;unfold oIx at e;split at e
 ·rename_i a i
  obtain⟨x,y,B,C,rfl,h1,h2⟩:=see.two;refine⟨_,_,rfl,?_⟩;cases h1 with
  |ins _ _ _ _ _=>cases e
  |@frz _ da _ _ _ r _=>
   cases r with
   |lst sq ri _=>
    obtain⟨k,hk,ee⟩:=Option.bind_eq_some_iff.mp (show(intD i).bind (fun k=>(atI _ k).map O.frz)=some o from e)
    cases a9c hk;cases a1h h2 rfl;obtain⟨d,q1,q2⟩:=Option.map_eq_some_iff.mp ee;subst q2;obtain⟨v,g1,g2⟩:=c0e ri q1;exact .inl ⟨_,_,_,v,rfl,rfl,.inl (le.rd sq),g1,res.frz g2⟩
   |exc _ _=>cases e
   |obj _=>cases e
   |@scr _ ns _ _ sq _=>
    obtain⟨k,hk,ee⟩:=Option.bind_eq_some_iff.mp (show(intD i).bind (fun k=>(atI (ns.map D.int) k).map O.frz)=some o from e)
    cases a9c hk;cases a1h h2 rfl;obtain⟨d,q1,q2⟩:=Option.map_eq_some_iff.mp ee;subst q2;obtain⟨v,g1,g2⟩:=c0e (b6g (K:=K) (F:=F) ns) q1;exact .inl ⟨_,_,_,v,rfl,rfl,le.seq sq,g1,res.frz g2⟩
   |tup sq ri _=>
    obtain⟨k,hk,ee⟩:=Option.bind_eq_some_iff.mp (show(intD i).bind (fun k=>(atI _ k).map O.frz)=some o from e)
    cases a9c hk;cases a1h h2 rfl;obtain⟨d,q1,q2⟩:=Option.map_eq_some_iff.mp ee;subst q2;obtain⟨v,g1,g2⟩:=c0e ri q1;exact .inr (.inl ⟨_,_,_,v,rfl,rfl,le.seqT sq,g1,res.frz g2⟩)
   |@dct _ ws es ep _ _ hd hk rk ri _=>
    obtain⟨k,q,e⟩:=Option.bind_eq_some_iff.mp (show(keyD i).bind (fun k=>(valD es k).map O.frz)=some o from e)
    obtain⟨d,q1,q2⟩:=Option.map_eq_some_iff.mp e;subst q2;rcases c0d (k:=k) hk ri with⟨_,z⟩|⟨v,d',g1,g2,g3⟩
    ·rw[q1] at z;cases z
    ·rw[q1] at g2;cases g2;exact .inr (.inr (.inr ⟨_,v,rfl,⟨ws,ep,k,le _ _ hd,by rw[c1s hk];exact rk.mono le,by rw[(a8c q).1];exact a4n le h2,(a8c q).2,g1.symm⟩,res.frz g3⟩))
   |flat z _=>
    cases da with
    |str zz=>
     obtain⟨k,hk,ee⟩:=Option.bind_eq_some_iff.mp (show(intD i).bind (fun k=>if zz.length<=1000000 then(atI zz.cps.toList k).map fun c=>O.frz (.str ⟨#[c]⟩) else none)=some o from e)
     cases a9c hk;split at ee
     ·obtain⟨c,q1,q2⟩:=Option.map_eq_some_iff.mp ee;subst q2;cases z;cases a1h h2 rfl;exact .inr (.inr (.inl ⟨_,_,c,rfl,rfl,ml (by assumption),q1,res.flat rfl⟩))
     ·cases ee
    |non=>cases e
    |bl _=>cases e
    |int _=>cases e
    |ty _=>cases e
    |_=>cases z
  |lst sq ri _=>
   obtain⟨k,hk,ee⟩:=Option.bind_eq_some_iff.mp (show(intD i).bind (fun k=>(atI _ k).bind unfrz)=some o from e)
   cases a9c hk;cases a1h h2 rfl;obtain⟨v,d,g1,g2,rfl⟩:=c6o ri ee;exact .inl ⟨_,_,_,v,rfl,rfl,SqL.of sq,g1,res.frz g2⟩
  |tup sq ri _=>
   obtain⟨k,hk,ee⟩:=Option.bind_eq_some_iff.mp (show(intD i).bind (fun k=>(atI _ k).bind unfrz)=some o from e)
   cases a9c hk;cases a1h h2 rfl;obtain⟨v,d,g1,g2,rfl⟩:=c6o ri ee;exact .inr (.inl ⟨_,_,_,v,rfl,rfl,SqT.of sq,g1,res.frz g2⟩)
  |@dct _ ws es ep _ _ _ _ hd hk rk ri _=>
   obtain⟨k,q,e⟩:=Option.bind_eq_some_iff.mp (show(keyD i).bind (fun k=>(valO es k).bind unfrz)=some o from e)
   obtain⟨o',q2,e⟩:=Option.bind_eq_some_iff.mp e;cases o' with
   |frz d=>
    cases e;obtain⟨v,g1,g2⟩:=c6p hk ri q2;exact .inr (.inr (.inr ⟨_,v,rfl,⟨ws,ep,k,hd,by rw[c1s hk];exact rk.mono le,by rw[(a8c q).1];exact a4n le h2,(a8c q).2,g1.symm⟩,res.frz g2⟩))
   |_=>cases e
 ·cases e
def rLenA(K:L2.FG):List V->Hp->VK->Prop:=fun xs H Q=>(∃p ys,xs=[.ref p]/\(SqL K H p ys\/SqT K H p ys)/\Q (.int ys.length) H)\/(∃z,xs=[.str z]/\z.length<=sizeLine/\Q (.int z.length) H)
theorem a3a(K:L2.FG)(hK:X.K=K:=by rfl):CallR X (.builtin "len") (rLenA K):=(b6a K hK).or b7x
def lenD:D->Option Int
 |.lst ds=>some ds.length
 |.tup ds=>some ds.length
 |.str z=>if z.length<=1000000 then some z.length else none
 |.scr ns=>some ns.length
 |_=>none
def oLen:List O->Option O
 |[a]=>(lenD a.d).map fun n=>.frz (.int n)
 |_=>none
theorem a6m:OpOk K (rLenA K) oLen:=by
 intro F H vs os o Q le see e res;unfold oLen at e;split at e
 ·rename_i a
  obtain⟨x,B,rfl,h1⟩:=see.one;obtain⟨n,q1,q2⟩:=Option.map_eq_some_iff.mp e;subst q2;have r:=a4n le h1;cases hd:a.d with
  |lst ds=>
   rw[hd] at q1 r;cases q1;cases r with
   |flat z _=>cases z
   |lst sq ri _=>exact .inl ⟨_,_,rfl,.inl (.inl sq),by rw[ri.length];exact res.flat rfl⟩
  |tup ds=>
   rw[hd] at q1 r;cases q1;cases r with
   |flat z _=>cases z
   |tup sq ri _=>exact .inl ⟨_,_,rfl,.inr sq,by rw[ri.length];exact res.flat rfl⟩
  |str z=>
   rw[hd] at q1 r;unfold lenD at q1;dsimp only at q1;split at q1
   ·cases q1;cases r with
    |flat z _=>cases z;exact .inr ⟨_,rfl,ml (by assumption),res.flat rfl⟩
   ·cases q1
  |scr ns=>
   rw[hd] at q1 r;cases q1;cases r with
   |flat z _=>cases z
   |scr sq _=>exact .inl ⟨_,_,rfl,.inl sq,by rw[List.length_map];exact res.flat rfl⟩
  |_=>rw[hd] at q1;cases q1
 ·cases e
def kindD:D->Option String
 |.non=>some "NoneType"
 |.bl _=>some "bool"
 |.int _=>some "int"
 |.str _=>some "str"
 |.lst _=>some "list"
 |.tup _=>some "tuple"
 |_=>none
def oIsi:List O->Option O
 |[a,.frz (.ty T)]=>if T="int"\/T="str"\/T="bool"\/T="list"\/T="tuple" then(kindD a.d).map fun k=>.frz (.bl (isiB k T)) else none
 |_=>none
theorem d1k{H:Hp}{x:V}{d:D}{k:String}(r:RepL K H [x] [d])(e:kindD d=some k):c1e K H x k:=by
 cases r with
 |flat q _=>cases d <;> cases e <;> cases q <;> rfl
 |lst sq _ _=>cases e;exact .inl ⟨rfl,_,.inl sq⟩
 |tup sq _ _=>cases e;exact .inr ⟨rfl,_,sq⟩
 |dct _ _ _ _ _=>cases e
 |scr _ _=>cases e
 |exc _ _=>cases e
 |obj _=>cases e
theorem c6q:OpOk K (fun xs H Q=>∃x k T,xs=[x,.ty T]/\c1e K H x k/\(T="int"\/T="str"\/T="bool"\/T="list"\/T="tuple")/\Q (.bl (isiB k T)) H) oIsi:=by
 intro F H vs os o Q le see e res;unfold oIsi at e;split at e
 ·split at e
  ·obtain⟨x,y,B,C,rfl,h1,h2⟩:=see.two;obtain⟨k,q1,q2⟩:=Option.map_eq_some_iff.mp e;subst q2;cases a1h h2 rfl;exact⟨x,k,_,rfl,d1k (a4n le h1) q1,by assumption,res.flat rfl⟩
  ·cases e
 ·cases e
def oInt1:List O->Option O
 |[.frz (.int i)]=>some (.frz (.int i))
 |[.frz (.bl b)]=>some (.frz (.int (if b then 1 else 0)))
 |_=>none
theorem c6r:OpOk K (fun xs H Q=>(∃i,xs=[.int i]/\Q (.int i) H)\/∃k,xs=[.bl k]/\Q (.int (if k then 1 else 0)) H) oInt1:=by
 intro F H vs os o Q le see e res;unfold oInt1 at e;split at e
 ·cases e;obtain⟨x,B,rfl,h1⟩:=see.one;cases a1h h1 rfl;exact .inl ⟨_,rfl,res.flat rfl⟩
 ·cases e;obtain⟨x,B,rfl,h1⟩:=see.one;cases a1h h1 rfl;exact .inr ⟨_,rfl,res.flat rfl⟩
 ·cases e
end
def MutOk(K:L2.FG)(r:V->List V->Hp->VK->Prop)(g:O->List O->Option (O×O)):Prop:=
 ∀(F H:Hp) (x:V) (vs:List V) (o:O) (os:List O) (o' res:O) (Ai Aτ:List Addr) (Q:VK),Same F H->OwnL K F H [some x] [some o] Ai->OwnL K F H (vs.map some) (os.map some) Aτ->(Ai++Aτ).Nodup->(∀a∈Ai++Aτ,F a=none)->
  g o os=some (o',res)->
  (∀v H' A' Ar,(∀a u,a∉Ai->H a=some u->H' a=some u)->(∀a,H a≠none->H' a≠none)->Att H H'->OwnL K F H' [some x] [some o'] A'->OwnL K F H' [some v] [some res] Ar->SubP (Ar++A') (Ai++Aτ)->Q v H')->r x vs H Q
def gMut(g:O->List O->Option (O×O))(fo:GE)(fs:GA):GE:=fun Γ=>(fo Γ).bind fun p=>match p.1 with
 |.var i=>match p.2[i]? with
  |some (some (.lst _))=>(fs p.2).bind fun q=>(ownL q.1).bind fun os=>match q.2[i]? with
   |some (some o)=>(g o os).bind fun z=>some (.own z.2,q.2.set i (some z.1))
   |_=>none
  |_=>none
 |_=>none
section
variable {K:L2.FG} {F H:Hp} {A:List Addr} {σ:St} {Γ:Gm}
theorem d1l{g:O->List O->Option (O×O)}{fo:GE}{fs:GA}{Γ Γ':Gm}{r:R}(e:gMut g fo fs Γ=some (r,Γ')):
  ∃i Γ1 ps rs Γ2 os o z,fo Γ=some (.var i,Γ1)/\Γ1[i]?=some (some (.lst ps))/\fs Γ1=some (rs,Γ2)/\ownL rs=some os/\Γ2[i]?=some (some o)/\g o os=some z/\r=.own z.2/\Γ'=Γ2.set i (some z.1):=by
 unfold gMut at e;cases q:fo Γ with
 |none=>rw[q] at e;cases e
 |some p=>
  obtain⟨r1,Γ1⟩:=p;rw[q] at e;dsimp only[Option.bind] at e;cases r1 with
  |own _=>cases e
  |fld _ _=>cases e
  |var i=>
   dsimp only at e;split at e
   ·rename_i ps h1
    cases q2:fs Γ1 with
    |none=>rw[q2] at e;cases e
    |some p2=>
     obtain⟨rs,Γ2⟩:=p2;rw[q2] at e;dsimp only at e;cases q3:ownL rs with
     |none=>rw[q3] at e;cases e
     |some os=>
      rw[q3] at e;dsimp only at e;split at e
      ·rename_i o h2
       cases q4:g o os with
       |none=>rw[q4] at e;cases e
       |some z=>rw[q4] at e;cases e;exact⟨i,Γ1,ps,rs,Γ2,os,o,z,rfl,h1,q2,q3,h2,q4,rfl,rfl⟩
      ·cases e
   ·cases e
theorem OK.mutate{vs:List V}{os:List O}{i:Nat}{x:V}{o o' res:O}{g:O->List O->Option (O×O)}{r:V->List V->Hp->VK->Prop}{Q:VK}(ok:MutOk K r g)(k:OK K F H (vs.map some++σ) (os.map some++Γ) A)(hx:σ[i]?=some (some x))(ho:Γ[i]?=some (some o))
  (hl:vs.length=os.length) (e:g o os=some (o',res)) (q:∀v H' A',Ext F H A F H' A'->OK K F H' (some v::σ) (some res::Γ.set i (some o')) A'->Q v H'):r x vs H Q:=by
 obtain⟨B,C,h1,h2,h3⟩:=OwnL.split (by simpa using hl) k.os
 subst h3;obtain⟨x',Ai,C',g1,g2,g3,g4⟩:=h2.take ho;rw[hx] at g1;cases g1;have p1:(B++C).Perm ((Ai++B)++C'):=by
  refine(List.Perm.append_left B g4).trans ?_;rw[<-List.append_assoc];exact List.perm_append_comm.append_right _
 have nd:((Ai++B)++C').Nodup:=p1.nodup_iff.mp k.nd;have fr:∀a∈(Ai++B)++C',F a=none:=fun a m=>k.fr a (p1.mem_iff.mpr m)
 obtain⟨n1,n2,n3⟩:=List.nodup_append.mp nd;have nC:∀a∈C',a∉Ai:=fun a m z=>n3 a (List.mem_append_left _ z) a m rfl
 refine ok F H x vs o os o' res Ai B Q k.le g2 h1 n1 (fun a m=>fr a (List.mem_append_left _ m)) e fun v H' A' Ar kp dm at' w1 w2 sp=>?_
 have s2:SubP ((Ar++A')++C') ((Ai++B)++C'):=sp.app (SubP.refl C');have hi:i < Γ.length:=(List.getElem?_eq_some_iff.mp ho).1;have g3':OwnL K F H' σ (Γ.set i none) C':=g3.keep (Same.refl _) fun a m u e=>kp a u (nC a m) e
 obtain⟨D,j1,C2,j2,j3⟩:=OwnL.put w1 i g3' (by rw[List.length_set];exact hi)
 rw[a6q hx,List.set_set] at j1;have s3:SubP (Ar++D) (B++C):=by
  have a1:SubP (Ar++D) (Ar++(A'++C')):=(SubP.refl Ar).app ((SubP.of_perm j2).trans ((SubP.refl A').app (.of_sub j3)));rw[<-List.append_assoc] at a1;exact a1.trans (s2.trans (.of_perm p1.symm))
 refine q v H' (Ar++D) ⟨Same.refl _,fun a u e n=>kp a u (fun m=>n (p1.mem_iff.mpr (by simp[m]))) e,dm,fun a h=>.inl h,fun a m=>.inl (s3.mem a m),at'⟩ ⟨fun a u e=>?_,w2.app j1,s3.nodup k.nd,fun a m=>k.fr a (s3.mem a m)⟩
 refine kp a u (fun m=>?_) (k.le a u e)
 rw[fr a (by simp[m])] at e
 cases e
end
section
variable {X:Cx} {K:L2.FG} {o e:Expr} {es:List Expr} {fo:GE} {fs:GA} {name:Str} {apos cpos:Pos} {id:String} {r:V->List V->Hp->VK->Prop} {g:O->List O->Option (O×O)}
theorem d8y(ok:MutOk K r g){σ:St}{H:Hp}{Q:VK}(t:tG K (gMut g fo fs) σ H Q):tBM K "list" r (tG K fo) (tGA K fs) σ H Q:=by
 obtain⟨F,A,Γ,rr,Γ',k,e,w⟩:=t;obtain⟨i,Γ1,ps,rs,Γ2,os,o,z,e1,e2,e3,e4,e5,e6,rfl,rfl⟩:=d1l e;refine⟨F,A,Γ,_,Γ1,k,e1,fun x H1 p=>?_⟩
 obtain⟨F1,A1,x1,k1,hh⟩:=p;have hx:σ[i]?=some (some x):=hh.1;obtain⟨k2,x2⟩:=k1.sub (σ':=σ) (Γ':=Γ1) (by cases k1.os with|skip t=>exact t) (SubP.refl _)
 refine⟨?_,F1,A1,Γ1,rs,Γ2,k2,e3,fun vs H2 p2=>?_⟩
 ·obtain⟨v,Ai,B,g1,g2,_⟩:=k2.os.take e2;rw[hx] at g1;cases g1;cases g2 with
  |lst hq _ _=>exact .inl ⟨rfl,_,SqL.of hq⟩
 ·obtain⟨F3,A3,x3,k3,h3⟩:=p2;rw[a6b e4] at k3;have hl:vs.length=os.length:=by
   have:=h3.length;have h4:=congrArg List.length (a6b e4);simp at h4;omega
  exact OK.mutate ok k3 hx e5 hl e6 fun v H' A' x4 k4=>w v H' ⟨F3,A',(x1.trans (x2.trans (x3.trans x4))),k4,True.intro⟩
theorem a5e(slot:Slot "list" name id)(hty:typeOf (.builtin id)=pure (.type "method_descriptor"))(hm:MtM X id r)(ok:MutOk K r g)(ho:PE X o (tG K fo))(ha:PA X (e::es) (tGA K fs))
  (hbase:attributeBase o name X.env (eval o X.env)=eval o X.env:=by rfl)
  (hfew:((backTo cpos (starEach (e::es) X.env)).all (fun x => !x.1) && (backToKw cpos (keywordEach [] X.env)).all (fun x=>x.1.isSome)
   && decide ((e::es).length+([]:List Keyword).length+(if([]:List Keyword).isEmpty then 0 else 1) < 30))=true:=by rfl)
  (hline:(apos.endLine == cpos.line)=true:=by rfl) (hs:starEach (e::es) X.env=(false,eval e X.env)::starEach es X.env:=by rfl) (hplain:(backTo cpos (starEach es X.env)).any (·.1)=false:=by rfl) (hK:X.K=K:=by rfl) :
  PE X (.Call (.Attribute o name apos) (e::es) [] cpos) (tG K (gMut g fo fs)):=by
 subst hK;exact(d8q PySem.F.plainAttrs_list slot hty hm ho ha hbase hfew hline hs hplain).mono fun _ _ _ t=>d8y ok t
end
section
variable {K:L2.FG} {F H:Hp} {l:Addr} {ws ws':List V} {ps ps':List O} {Ap A':List Addr}
theorem c3y(hn:l∉A')(h:OwnL K F H (ws'.map some) (ps'.map some) A'):OwnL K F (upd H l (.lst ws')) [some (.ref l)] [some (.lst ps')] (l::A'++[]):=
 .lst a1l (h.keep (Same.refl _) fun a m u e=>by rw[a0v (fun z=>hn (by rw[<-z];exact m):a≠l)];exact e) .nil
theorem c1t{o:HO}{Ai:List Addr}(hm:l∈Ai):∀a u,a∉Ai->H a=some u->upd H l o a=some u:=fun a u n e=>by
 rw[a0v (fun z=>n (by rw[z];exact hm):a≠l)];exact e
theorem c0f{o:HO}:∀a,H a≠none->upd H l o a≠none:=fun a h=>by
 by_cases z:a=l
 ·rw[z,a1l];exact fun z=>by cases z
 ·rw[a0v z];exact h
theorem b2j{x:V}{Ai Aτ:List Addr}{Q:VK}{o:O}(h:OwnL K F H [some x] [some o] Ai)(hps:o=.lst ps)(nd:(Ai++Aτ).Nodup){o' res:O}
  (q:∀v H' A' Ar,(∀a u,a∉Ai->H a=some u->H' a=some u)->(∀a,H a≠none->H' a≠none)->Att H H'->OwnL K F H' [some x] [some o'] A'->OwnL K F H' [some v] [some res] Ar->SubP (Ar++A') (Ai++Aτ)->Q v H') :
  ∃l ws Ap,x=.ref l/\H l=some (.lst ws)/\OwnL K F H (ws.map some) (ps.map some) Ap/\(Ap++Aτ).Nodup/\∀ws' ps' A' v Ar,o'=.lst ps'->OwnL K F H (ws'.map some) (ps'.map some) A'->OwnL K F H [some v] [some res] Ar->SubP (Ar++A') (Ap++Aτ)->Q v (upd H l (.lst ws')):=by
 subst hps;cases h with
 |@lst l ws _ Ap B _ _ hl i t=>
  have eB:B=[]:=by cases t;rfl
  subst eB;rw[List.append_nil] at nd q;obtain⟨nl,nd'⟩:=List.nodup_cons.mp (by simpa using nd:(l::(Ap++Aτ)).Nodup)
  refine⟨l,ws,Ap,rfl,hl,i,nd',fun ws' ps' A' v Ar eo w1 w2 sp=>?_⟩
  subst eo;have nA:l∉A':=fun m=>nl (sp.mem l (List.mem_append_right _ m))
  have nR:l∉Ar:=fun m=>nl (sp.mem l (List.mem_append_left _ m))
  refine q v _ _ Ar (c1t (by simp)) c0f (.upd fun C dx fs z=>by rw[hl] at z;cases z) (c3y nA w1) (w2.keep (Same.refl _) fun a m u e=>by rw[a0v (fun z=>nR (by rw[<-z];exact m):a≠l)];exact e) ?_
  rw[List.append_nil];have s1:SubP (Ar++l::A') (l::(Ar++A')):=.of_perm (by simpa using List.perm_middle)
  refine s1.trans ?_;obtain⟨L,p1,p2⟩:=sp;exact⟨l::L,p1.cons l,by rw[List.cons_append];exact p2.cons_cons l⟩
theorem b3h:OwnL K F H [some .non] [some (.frz .non)] []:=.frz (.flat rfl .nil) .nil
def a2g:O->List O->Option (O×O)
 |.lst ps,[y]=>if ps.length < 1000000 then some (.lst (ps++[y]),.frz .non) else none
 |_,_=>none
theorem a3o:MutOk K c5f a2g:=by
 intro F H x vs o os o' res Ai Aτ Q le h1 h2 nd fr e q;unfold a2g at e;split at e
 ·rename_i ps y
  split at e
  ·rename_i hz
   cases e;obtain⟨l,ws,Ap,rfl,hl,i,nd',go⟩:=b2j h1 rfl nd q
   match vs,h2 with
   |[v],h2=>
    have hlen:ws.length=ps.length:=by have:=i.length;simpa using this
    refine⟨l,ws,v,rfl,rfl,hl,Nat.lt_of_lt_of_le (by omega:ws.length < 1000000) (by decide),?_⟩
    refine go (ws++[v]) (ps++[y]) (Ap++Aτ) .non [] rfl ?_ b3h (SubP.refl _);rw[List.map_append,List.map_append];exact i.app h2
   |[],h2=>have:=h2.length;simp at this
   |_::_::_,h2=>have:=h2.length;simp at this
  ·cases e
 ·cases e
def a3p:O->List O->Option (O×O)
 |.lst ps,[.frz (.int i),y]=>if 0<=i/\i < 1000000/\ps.length < 1000000 then some (.lst (ps.take i.toNat++y::ps.drop i.toNat),.frz .non) else none
 |_,_=>none
theorem b0b:MutOk K c5o a3p:=by
 intro F H x vs o os o' res Ai Aτ Q le h1 h2 nd fr e q;unfold a3p at e;split at e
 ·rename_i ps k y
  split at e
  ·rename_i hz
   cases e;obtain⟨l,ws,Ap,rfl,hl,i,nd',go⟩:=b2j h1 rfl nd q
   match vs,h2 with
   |[v,v'],h2=>
    have hlen:ws.length=ps.length:=by have:=i.length;simpa using this
    obtain⟨rfl,h3⟩:=b2z h2;refine⟨l,ws,k,v',rfl,rfl,hl,hz.1,by omega,Nat.lt_of_lt_of_le (by omega:ws.length < 1000000) (by decide),?_⟩
    have es:OwnL K F H ((ws.take k.toNat).map some++(ws.drop k.toNat).map some) ((ps.take k.toNat).map some++(ps.drop k.toNat).map some) Ap:=by
     rw[<-List.map_append,<-List.map_append,List.take_append_drop,List.take_append_drop];exact i
    obtain⟨B,C,g1,g2,g3⟩:=OwnL.split (by simp[hlen]) es
    subst g3;refine go (insV ws k.toNat v') (ps.take k.toNat++y::ps.drop k.toNat) (B++(Aτ++C)) .non [] rfl ?_ b3h ?_
    ·unfold insV;rw[List.map_append,List.map_append,List.map_cons,List.map_cons];exact g1.app (h3.app g2)
    ·rw[List.nil_append,List.append_assoc];exact(SubP.refl B).app (.of_perm List.perm_append_comm)
   |[],h2=>have:=h2.length;simp at this
   |[_],h2=>have:=h2.length;simp at this
   |_::_::_::_,h2=>have:=h2.length;simp at this
  ·cases e
 ·cases e
end
def rSetA(K:L2.FG):TSet:=fun o i v H Q=>rSetL o i v H Q\/∃a H4,o=.ref a/\XPut K H a i v H4/\Q H4
theorem e0u{X:Cx}(hu:X.A.units+41 < cLine):PSet X (rSetA X.K):=by
 intro pins s σ H o i v ov iv u Q I ro ri rv h;rcases h with h|⟨a,H4,rfl,g,q⟩
 ·exact d0q pins s σ H o i v ov iv u Q I ro ri rv h
 ·cases ro;exact c6m (by omega) I g ri rv fun s4 I4=>⟨H4,I4,q⟩
def putG{α:Type}:List (TK×α)->TK->α->List (TK×α)
 |[],k,v=>[(k,v)]
 |e::es,k,v=>if e.1=k then(e.1,v)::es else e::putG es k v
def setO(v:O)(i:D):O->Option (O×O)
 |.lst ps=>(intD i).bind fun k=>(ixN ps.length k).map fun j=>(.lst (ps.set j v),.frz .non)
 |.dct kvs=>(keyD i).bind fun k=>if kvs.length < 1000000 then some (.dct (putG kvs k v),.frz .non) else none
 |_=>none
def mSet(o:O):List O->Option (O×O)
 |[v,.frz i]=>setO v i o
 |_=>none
def rSetM(K:L2.FG):V->List V->Hp->VK->Prop:=fun x vs H Q=>∃v i,vs=[v,i]/\rSetA K x i v H fun H'=>Q .non H'
section
variable {K:L2.FG} {F H:Hp}
theorem c1u{k:TK}{y v:V}{o:O}{Bv:List Addr}(q:OwnL K F H [some v] [some o] Bv)(ry:RepL K F [y] [k.d]):∀{ws:List (TK×V×V)} {kvs:List (TK×O)} {B:List Addr},ws.map (·.1)=kvs.map (·.1)->RepL K F (ws.map (·.2.1)) (kvs.map (·.1.d))->
  OwnL K F H (ws.map fun p=>some p.2.2) (kvs.map fun p=>some p.2) B->∃C,OwnL K F H ((putX ws k y v).map fun p=>some p.2.2) ((putG kvs k o).map fun p=>some p.2) C/\SubP C (Bv++B)/\(putX ws k y v).map (·.1)=(putG kvs k o).map (·.1)/\
   RepL K F ((putX ws k y v).map (·.2.1)) ((putG kvs k o).map (·.1.d))
 |[],[],B,_,_,h=>⟨Bv,q,.of_sub (List.sublist_append_left _ _),rfl,ry⟩
 |w::ws,p::kvs,B,hk,rk,h=>by
  rw[List.map_cons,List.map_cons] at hk;injection hk with h1 h2;obtain⟨B1,B2,g1,g2,rfl⟩:=OwnL.one h;unfold putX putG;rw[h1];by_cases e:p.1=k
  ·rw[if_pos e,if_pos e];refine⟨Bv++B2,OwnL.app (τ:=[some v]) (Θ:=[some o]) q g2,.of_sub ((List.Sublist.refl _).append (List.sublist_append_right _ _)),?_,?_⟩
   ·simp only[List.map_cons,h2]
   ·simp only[List.map_cons];exact rk
  ·rw[if_neg e,if_neg e];obtain⟨C,j1,j2,j3,j4⟩:=c1u q ry h2 rk.inv.2 g2;refine⟨B1++C,OwnL.app (τ:=[some w.2.2]) (Θ:=[some p.2]) g1 j1,?_,?_,?_⟩
   ·refine((SubP.refl B1).app j2).trans (.of_perm ?_);rw[<-List.append_assoc,<-List.append_assoc];exact List.perm_append_comm.append_right _
   ·simp only[List.map_cons,h1,j3]
   ·exact .cons rk.inv.1 j4
 |[],_::_,_,h,_,_=>by simp at h
 |_::_,[],_,h,_,_=>by simp at h
theorem d5w{F H:Hp}{v:V}{kvs:List (TK×O)}{A:List Addr}(h:OwnL K F H [some v] [some (.dct kvs)] A):∃a ws ep Ap,v=.ref a/\A=a::Ap/\H a=some (.dG ws ep)/\ws.map (·.1)=kvs.map (·.1)/\RepL K F (ws.map (·.2.1)) (kvs.map (·.1.d))/\OwnL K F H (ws.map fun p=>some p.2.2) (kvs.map fun p=>some p.2) Ap:=by
 cases h with
 |@dct a ws _ ep Ap B _ _ hl hk rk ch t=>
  cases t;exact⟨a,ws,ep,Ap,rfl,List.append_nil _,hl,hk,rk,ch⟩
theorem d8z:MutOk K (rSetM K) mSet:=by
 intro F H x vs o os o' res Ai Aτ Q le h1 h2 nd fr e q;unfold mSet at e;split at e
 case h_2=>cases e
 rename_i ov i
 unfold setO at e;split at e
 ·rename_i ps
  obtain⟨k,hk,e⟩:=Option.bind_eq_some_iff.mp e;cases a9c hk;obtain⟨j,e1,e2⟩:=Option.map_eq_some_iff.mp e;cases e2;obtain⟨l,ws,Ap,rfl,hl,i,nd',go⟩:=b2j h1 rfl nd q;obtain⟨v,v',rfl⟩:=d8u (l:=vs) (by have:=h2.length;simp at this;omega)
  have hlen:ws.length=ps.length:=by have:=i.length;simpa using this
  obtain⟨B1,B2,g1,g2,rfl⟩:=OwnL.one h2;obtain⟨rfl,g3⟩:=b2z g2;cases g3;have hj:j < ps.length:=(b9v e1).2.1;refine⟨v,.int k,rfl,.inl ⟨l,ws,k,j,rfl,rfl,hl,by rw[hlen];exact e1,?_⟩⟩
  obtain⟨D,j1,C2,j2,j3⟩:=OwnL.put g1 j i (by simpa using hj)
  refine go (ws.set j v) (ps.set j ov) D .non [] rfl (by rw[List.map_set,List.map_set];exact j1) b3h ?_
  rw[List.nil_append,List.append_nil];exact((SubP.of_perm j2).trans ((SubP.refl B1).app (.of_sub j3))).trans (.of_perm List.perm_append_comm)
 ·rename_i kvs
  cases q1:keyD i with
  |none=>rw[q1] at e;cases e
  |some k=>
   rw[q1] at e;dsimp only[Option.bind] at e;split at e
   ·rename_i hz
    cases e;obtain⟨v,v',rfl⟩:=d8u (l:=vs) (by have:=h2.length;simp at this;omega)
    obtain⟨B1,B2,g1,g2,rfl⟩:=OwnL.one h2;have ry:RepL K F [v'] [k.d]:=by rw[(a8c q1).1];exact b6i g2
    obtain⟨l,ws,ep,Ap,rfl,rfl,hl,hk,rk,ch⟩:=d5w h1;obtain⟨C,j1,j2,j3,j4⟩:=c1u (k:=k) g1 ry hk rk ch;have hlen:ws.length=kvs.length:=by have:=congrArg List.length hk;simpa using this
    have nd1:(l::(Ap++(B1++B2))).Nodup:=by simpa using nd
    have nC:l∉C:=fun m=>(List.nodup_cons.mp nd1).1 (by
     rcases List.mem_append.mp (j2.mem l m) with z|z
     ·simp[z]
     ·simp[z])
    refine⟨v,v',rfl,.inr ⟨l,_,rfl,⟨ws,ep,k,hl,by rw[c1s hk];exact rk.mono le,ry.mono le,(a8c q1).2,Nat.lt_of_lt_of_le (by omega:ws.length < 1000000) (by decide),rfl⟩,?_⟩⟩
    refine q .non _ (l::C++[]) [] (c1t (by simp)) c0f (.upd fun C dx fs z=>by rw[hl] at z;cases z) (.dct a1l j3 j4 (j1.keep (Same.refl _) fun a m u e=>by rw[a0v (fun z=>nC (by rw[<-z];exact m):a≠l)];exact e) .nil) b3h ?_
    rw[List.nil_append,List.append_nil];refine((SubP.refl [l]).app j2).trans ⟨l::(Ap++B1),?_,?_⟩
    ·show(l::(B1++Ap)).Perm _;exact List.perm_append_comm.cons l
    ·exact((List.Sublist.refl Ap).append (List.sublist_append_left B1 B2)).cons_cons l
   ·cases e
 ·cases e
end
def gsPut(fv fo fi:GE):GS:=fun Γ=>(fv Γ).bind fun p=>(fo p.2).bind fun q=>(fi q.2).bind fun r=>match p.1,q.1,r.1 with
 |.own v,.var i,.own y=>match r.2[i]? with
  |some (some o)=>(mSet o [v,y]).bind fun z=>some (.nx,r.2.set i (some z.1))
  |_=>none
 |_,_,_=>none
section
variable {X:Cx} {K:L2.FG} {m:List Bool} {W:Option XW} {e o i:Expr} {fv fo fi:GE} {pos pos':Pos}
theorem c6s{Γ Γ':Gm}{fl:Fl}(e:gsPut fv fo fi Γ=some (fl,Γ')):∃v Γ1 j Γ2 y Γ3 o z,fv Γ=some (.own v,Γ1)/\fo Γ1=some (.var j,Γ2)/\fi Γ2=some (.own y,Γ3)/\Γ3[j]?=some (some o)/\mSet o [v,y]=some z/\fl=.nx/\Γ'=Γ3.set j (some z.1):=by
 unfold gsPut at e;cases q1:fv Γ with
 |none=>rw[q1] at e;cases e
 |some p=>
  obtain⟨r1,Γ1⟩:=p;rw[q1] at e;dsimp only[Option.bind] at e;cases q2:fo Γ1 with
  |none=>rw[q2] at e;cases e
  |some p=>
   obtain⟨r2,Γ2⟩:=p;rw[q2] at e;dsimp only at e;cases q3:fi Γ2 with
   |none=>rw[q3] at e;cases e
   |some p=>
    obtain⟨r3,Γ3⟩:=p;rw[q3] at e;dsimp only at e;cases r1 with
    |var _=>cases e
    |fld _ _=>cases e
    |own v=>
     cases r2 with
     |own _=>cases e
     |fld _ _=>cases e
     |var j=>
      cases r3 with
      |var _=>cases e
      |fld _ _=>cases e
      |own y=>
       dsimp only at e;split at e
       ·rename_i oo h
        cases q4:mSet oo [v,y] with
        |none=>rw[q4] at e;cases e
        |some z=>rw[q4] at e;cases e;exact⟨v,Γ1,j,Γ2,y,Γ3,oo,z,rfl,q2,q3,h,q4,rfl,rfl⟩
       ·cases e
theorem a5o(he:PE X e (tG K fv))(ho:PE X o (tG K fo))(hi:PE X i (tG K fi))(hu:X.A.units+41 < cLine)
  (ha:∀v,assign (.Subscript o i pos') X.env v=(do
   let ov <-holding [v] (eval o X.env)
   let iv <-holding [v,ov] (eval i X.env)
   standAt pos'
   holding [v,ov,iv] (setItem ov iv v)
   release [v,ov,iv] []):=by intro _;rfl)
  (hs:swapsWithSole [.Subscript o i pos'] e pos.line X.env=pure false:=by rfl) (hw:swappedStores [.Subscript o i pos'] e X.env=pure none:=by rfl)
  (h1:(assignEach [.Subscript o i pos'] X.env).map (·.2)=[assign (.Subscript o i pos') X.env]:=by rfl) (hK:X.K=K:=by rfl):PS X (.Assign [.Subscript o i pos'] e pos) (tS K m W (gsPut fv fo fi)):=by
 subst hK;refine(d8d he (d8c ho hi (e0u hu) ha) hs hw h1).mono fun D σ H t=>?_
 obtain⟨F,A,Γ,fl,Γ',k,e,w⟩:=t;obtain⟨v,Γ1,j,Γ2,y,Γ3,oo,z,e1,e2,e3,e4,e5,rfl,rfl⟩:=c6s e;have t:tGA X.K (a0c fv (a0c fo (a0c fi gaNil))) σ H fun vs H'=>∃a b c,vs=[a,b,c]/\rSetA X.K b c a H' fun H4=>D.nx σ H4:=by
  refine⟨F,A,Γ,[.own v,.var j,.own y],Γ3,k,?_,fun vs H1 p=>?_⟩
  ·unfold a0c;simp only[e1,e2,e3,Option.bind,gaNil]
  ·obtain⟨F1,A1,x,k1,hh⟩:=p;obtain⟨a,b,c,rfl⟩:=e0s hh.length;refine⟨a,b,c,rfl,?_⟩;have hx:σ[j]?=some (some b):=hh.1;have k2:OK X.K F1 H1 ([a,c].map some++σ) ([v,y].map some++Γ3) A1:=by
    obtain⟨B1,C1,g1,g2,g3⟩:=OwnL.one (σ:=some b::some c::σ) (Γ:=none::some y::Γ3) k1.os;cases g2 with
    |skip g2=>subst g3;exact⟨k1.le,g1.app g2,k1.nd,k1.fr⟩
   have z':=OK.mutate (r:=rSetM X.K) (g:=mSet) (Q:=fun _ H4=>D.nx σ H4) (o':=z.1) (res:=z.2) d8z k2 hx e4 rfl e5 fun v' H' A' x4 k4=>by
    obtain⟨B2,k5,sub⟩:=OK.part (τ:=[some v']) (Θ:=[some z.2]) k4 rfl;exact w σ H' ⟨F1,B2,(x.trans x4).own' sub,k5,Kept.refl⟩
   obtain⟨v',i',ee,q⟩:=z';cases ee;exact q
 have t1:=a7l t;refine tG.mono t1 fun a H1 h=>tG.mono (a7l h) fun b H2 h2=>tG.mono (a7l h2) fun c H3 h3=>?_
 obtain⟨F,A,Γ,rs,Γ',k,e,w⟩:=h3;cases e;obtain⟨a',b',c',ee,q⟩:=w [] H3 ⟨F,A,Ext.refl,k,True.intro⟩;cases ee;exact q
end
abbrev GO:=Gm->Option (Option Int×Gm)
def tGO(K:L2.FG)(f:GO):TO:=fun σ H Q=>∃F A Γ b Γ',OK K F H σ Γ A/\f Γ=some (b,Γ')/\∀H',Post K F H A σ Γ' [] [] H'->Q b H'
def a6n:GO:=fun Γ=>some (none,Γ)
def intR:R->Option Int
 |.own (.frz (.int i))=>some i
 |_=>none
def a6a(f:GE):GO:=fun Γ=>(f Γ).bind fun p=>(intR p.1).map fun i=>(some i,p.2)
section
variable {X:Cx} {K:L2.FG} {e:Expr} {fa:GE} {lo hi:Option Expr} {fl fh:GO} {pos p2:Pos}
theorem a5j:PO X none (tGO K a6n):=by
 intro pins s σ H Q I t;refine d4z pins s σ H Q I ?_;obtain⟨F,A,Γ,b,Γ',k,e,w⟩:=t;cases e;exact w H ⟨F,A,Ext.refl,k,True.intro⟩
theorem a5k(h:PE X e (tG K fa)):PO X (some e) (tGO K (a6a fa)):=by
 intro pins s σ H Q I t;refine d5a h pins s σ H Q I ?_;obtain⟨F,A,Γ,b,Γ',k,e,w⟩:=t;unfold a6a at e;cases q:fa Γ with
 |none=>rw[q] at e;cases e
 |some p=>
  obtain⟨r,Γ1⟩:=p;rw[q] at e;obtain⟨i,e1,e2⟩:=Option.map_eq_some_iff.mp e;cases e2;have er:r=.own (.frz (.int i)):=by
   unfold intR at e1;split at e1
   ·rename_i hh;cases e1;exact hh
   ·cases e1
  subst er;exact⟨F,A,Γ,_,_,k,q,fun v H' pp=>⟨i,pp.flat rfl,w H' pp.drop⟩⟩
def cutD(ds:List D)(lo hi:Option Int):List D:=(ds.drop (HT.sIx ds.length 0 lo)).take (HT.sIx ds.length ds.length hi - HT.sIx ds.length 0 lo)
def slO(o:O)(lo hi:Option Int):Option O:=match o,listD o,tupD o with
 |.frz (.str z),_,_=>if z.length<=1000000 then some (.frz (.str (Txt.slice z lo hi))) else none
 |_,some ds,_=>some (.lst ((cutD ds lo hi).map .frz))
 |_,none,some ds=>if HT.sIx ds.length 0 lo=0/\HT.sIx ds.length ds.length hi=ds.length then none else some (.tup ((cutD ds lo hi).map .frz))
 |_,_,_=>none
def rSlA(K:L2.FG):V->Option Int->Option Int->Hp->VK->Prop:=fun x lo hi H Q=>rSlS x lo hi H Q\/rSlL K x lo hi H Q\/rSlT K x lo hi H Q
theorem sl_A(K:L2.FG)(hK:X.K=K:=by rfl):SlR X (rSlA K):=sl_str.or ((d0x K hK).or (d5i K hK))
theorem e0v{F H:Hp}{x:V}{o o':O}{B:List Addr}{Q:VK}{lo hi:Option Int}(le:Same F H)(h:OwnL K F H [some x] [some o] B)(e:slO o lo hi=some o')(res:Res K F H o' Q):rSlA K x lo hi H Q:=by
 unfold slO at e;split at e
 ·split at e
  ·cases e;cases a1h h rfl;exact .inl ⟨_,rfl,ml (by assumption),res.flat rfl⟩
  ·cases e
 ·rename_i ds _ _ q1 _
  cases e;obtain⟨a,ws,rfl,sq,r⟩:=a9x le h (by assumption)
  refine .inr (.inl ⟨a,ws,rfl,sq,fun p hp=>res.lst ?_ hp⟩)
  unfold cutV cutD;rw[r.length];exact(r.drop _).take _
 ·split at e
  ·cases e
  ·rename_i hne
   cases e;obtain⟨a,ws,rfl,sq,r⟩:=d5q le h (by assumption)
   refine .inr (.inr ⟨a,ws,rfl,sq,by rw[r.length];exact hne,fun p hp=>res.tup ?_ hp⟩)
   unfold cutV cutD;rw[r.length];exact(r.drop _).take _
 ·cases e
def a5p(f:GE)(lo hi:GO):GE:=fun Γ=>(f Γ).bind fun p=>(lo p.2).bind fun q=>(hi q.2).bind fun r=>(seeR r.2 p.1).bind fun o=>(slO o q.1 r.1).bind fun o'=>some (.own o',r.2)
theorem c3z{Γ Γ':Gm}{r:R}(e:a5p fa fl fh Γ=some (r,Γ')):∃r1 Γ1 l Γ2 u o o',fa Γ=some (r1,Γ1)/\fl Γ1=some (l,Γ2)/\fh Γ2=some (u,Γ')/\seeR Γ' r1=some o/\slO o l u=some o'/\r=.own o':=by
 unfold a5p at e;cases q1:fa Γ with
 |none=>rw[q1] at e;cases e
 |some p=>
  rw[q1] at e;dsimp only[Option.bind] at e;cases q2:fl p.2 with
  |none=>rw[q2] at e;cases e
  |some q=>
   rw[q2] at e;dsimp only at e;cases q3:fh q.2 with
   |none=>rw[q3] at e;cases e
   |some w=>
    rw[q3] at e;dsimp only at e;cases q4:seeR w.2 p.1 with
    |none=>rw[q4] at e;cases e
    |some o=>
     rw[q4] at e;dsimp only at e;cases q5:slO o q.1 w.1 with
     |none=>rw[q5] at e;cases e
     |some o'=>rw[q5] at e;cases e;exact⟨p.1,p.2,q.1,q.2,w.1,o,o',rfl,q2,q3,q4,q5,rfl⟩
theorem a4o(he:PE X e (tG K fa))(hl:PO X lo (tGO K fl))(hu:PO X hi (tGO K fh))(hK:X.K=K:=by rfl):PE X (.Subscript e (.Slice lo hi none p2) pos) (tG K (a5p fa fl fh)):=by
 refine(d0p (sl_A K hK) he hl hu).mono fun σ H Q t=>?_
 obtain⟨F,A,Γ,rr,Γ',k,e,w⟩:=t;obtain⟨r1,Γ1,l,Γ2,u,o,o',e1,e2,e3,e4,e5,rfl⟩:=c3z e;refine⟨F,A,Γ,r1,Γ1,k,e1,fun v H1 p=>?_⟩
 obtain⟨F1,A1,x1,k1,hh⟩:=p;obtain⟨C,kC,fr⟩:=OK.frame (τ:=[some v]) (Θ:=[r1.o]) k1 rfl;refine⟨F1,C,Γ1,l,Γ2,kC,e2,fun H2 p2=>?_⟩
 obtain⟨F2,A2,x2,k2,_⟩:=p2;obtain⟨A3,x3,k3⟩:=fr _ _ _ _ _ x2 k2;obtain⟨C2,kC2,fr2⟩:=OK.frame (τ:=[some v]) (Θ:=[r1.o]) k3 rfl;refine⟨F2,C2,Γ2,u,Γ',kC2,e3,fun H3 p3=>?_⟩
 obtain⟨F4,A4,x4,k4,_⟩:=p3;obtain⟨A5,x5,k5⟩:=fr2 _ _ _ _ _ x4 k4;have pp:Post K F H A σ Γ' [r1] [v] H3:=⟨F4,A5,x1.trans (x3.trans x5),k5,hh.att (x3.trans x5).att⟩;obtain⟨F6,le,see,res⟩:=pp.res (os:=[o]) (o:=o') (by unfold seeL;rw[e4];rfl) w
 obtain⟨x,B,ev,h1⟩:=see.one;cases ev;exact e0v le h1 e5 res
end
def capIn:List Nat->Gm->Gm×Gm
 |[],Γ=>([],Γ)
 |i::cap,Γ=>let p:=capIn cap (Γ.set i none);((Γ[i]?).join::p.1,p.2)
def a8v:List Nat->Gm->Gm->Gm
 |i::cap,x::Γi,Γ=>(a8v cap Γi Γ).set i x
 |_,_,Γ=>Γ
def compLoop(g:GG)(ct:GT)(ce:GE):List D->Gm->List O->Option (List O×Gm)
 |[],Γ,acc=>some (acc,Γ)
 |d::ds,Γ,acc=>(g d Γ).bind fun Γ1=>(ct Γ1).bind fun p=>if p.1=true then
   (ce p.2).bind fun q=>(ownL [q.1]).bind fun os=>if acc.length < 1000000 then compLoop g ct ce ds q.2 (acc++os) else none
  else compLoop g ct ce ds p.2 acc
section
variable {K:L2.FG} {F H:Hp} {σ:St}
theorem c1v:∀{cap:List Nat} {Γ:Gm} {C:List Addr},OwnL K F H σ Γ C->∃B C',OwnL K F H (cap.map fun i=>(σ[i]?).join) (capIn cap Γ).1 B/\OwnL K F H σ (capIn cap Γ).2 C'/\SubP (B++C') C
 |[],Γ,C,h=>⟨[],C,.nil,h,SubP.refl _⟩
 |i::cap,Γ,C,h=>by
  cases q:Γ[i]? with
  |none=>
   obtain⟨C1,g1,g2⟩:=OwnL.forget i h;obtain⟨B,C',j1,j2,j3⟩:=c1v (cap:=cap) g1;refine⟨B,C',?_,j2,j3.trans (.of_sub g2)⟩;unfold capIn;simp only[q,List.map_cons];exact .skip j1
  |some z=>
   cases z with
   |none=>
    obtain⟨C1,g1,g2⟩:=OwnL.forget i h;obtain⟨B,C',j1,j2,j3⟩:=c1v (cap:=cap) g1;refine⟨B,C',?_,j2,j3.trans (.of_sub g2)⟩;unfold capIn;simp only[q,List.map_cons];exact .skip j1
   |some o=>
    obtain⟨v,Ai,C1,g1,g2,g3,g4⟩:=h.take q;obtain⟨B,C',j1,j2,j3⟩:=c1v (cap:=cap) g3;refine⟨Ai++B,C',?_,j2,?_⟩
    ·unfold capIn;simp only[q,List.map_cons,g1];exact g2.app j1
    ·rw[List.append_assoc];exact((SubP.refl Ai).app j3).trans (.of_perm g4.symm)
theorem c6t:∀{cap:List Nat} {τ:St} {Γi Γ:Gm} {B C:List Addr},OwnL K F H τ Γi B->OwnL K F H σ Γ C->τ=(cap.map fun i=>(σ[i]?).join)->∃D,OwnL K F H σ (a8v cap Γi Γ) D/\SubP D (B++C)
 |[],_,Γi,Γ,B,C,h1,h2,e=>by
  subst e;cases h1;exact⟨C,h2,.of_sub (List.sublist_append_right _ _)⟩
 |i::cap,τ,[],Γ,B,C,h1,h2,e=>by subst e;have:=h1.length;simp at this
 |i::cap,τ,x::Γi,Γ,B,C,h1,h2,e=>by
  subst e;obtain⟨B1,B2,g1,g2,rfl⟩:=OwnL.one h1;obtain⟨D,j1,j2⟩:=c6t (cap:=cap) g2 h2 rfl;have s1:SubP D ((B1++B2)++C):=j2.trans (by rw[List.append_assoc];exact .of_sub (List.sublist_append_right _ _))
  cases x with
  |none=>
   obtain⟨D',k1,k2⟩:=OwnL.forget i j1;exact⟨D',k1,(SubP.of_sub k2).trans s1⟩
  |some o=>
   have g1:OwnL K F H [(σ[i]?).join] [some o] B1:=g1;cases q:σ[i]? with
   |none=>rw[q] at g1;cases g1
   |some z=>
    cases z with
    |none=>rw[q] at g1;cases g1
    |some v=>
     rw[q] at g1;have hi:i < (a8v cap Γi Γ).length:=by rw[<-j1.length];exact(List.getElem?_eq_some_iff.mp q).1
     obtain⟨D',k1,C',k2,k3⟩:=OwnL.put (show OwnL K F H [some v] [some o] B1 from g1) i j1 hi;rw[a6q q] at k1;refine⟨D',k1,(SubP.of_perm k2).trans ?_⟩;rw[List.append_assoc];exact(SubP.refl B1).app ((SubP.of_sub k3).trans j2)
end
def capM(k:Nat)(cap:List Nat):List Bool:=List.replicate k false++List.replicate cap.length true
def a6u(src:Gm->Option (List D×Gm))(g:GG)(ct:GT)(ce:GE)(k:Nat)(cap:List Nat):GE:=fun Γ=>(src Γ).bind fun p=>
 (compLoop g ct ce p.1 (List.replicate k none++(capIn cap p.2).1) []).bind fun q=>if q.2.length=k+cap.length then some (.own (.lst q.1),a8v cap (q.2.drop k) (capIn cap p.2).2) else none
section
variable {K:L2.FG}
structure CPv (K:L2.FG) (m:List Bool) (g:GG) (ct:GT) (ce:GE) (ds:List D) (fin:List O×Gm) (F1 H1:Hp) (C:List Addr) (τ₀:St) (i:Nat) (τ:St) (acc:List V) (H:Hp):Prop where
 ex:∃F A Γc accs,OK K F H (acc.map some++τ) (accs.map some++Γc) A/\Ext F1 H1 C F H A/\compLoop g ct ce (ds.drop i) Γc accs=some fin/\acc.length=accs.length/\Kept m τ₀ τ
theorem b5g{m:List Bool}{t:TG}{g:GG}{ct:GT}{ce:GE}(tg:TgOk K m t g){ds:List D}{fin:List O×Gm}{F1 H1:Hp}{C:List Addr}{τ₀:St}{i:Nat}{τ:St}{acc:List V}{H:Hp}{x:V}{d:D}{F:Hp}{A:List Addr}{Γc:Gm}{accs:List O}
  (k:OK K F H (acc.map some++τ) (accs.map some++Γc) A) (x0:Ext F1 H1 C F H A) (e:compLoop g ct ce (ds.drop i) Γc accs=some fin) (hl:acc.length=accs.length) (kp:Kept m τ₀ τ) (ed:ds.drop i=d::ds.drop (i+1)) (rx:RepL K F [x] [d]) :
  t x τ H fun τ2 H2=>tGT K ct τ2 H2 fun b H3=>if b=true then tG K ce τ2 H3 fun v H4=>acc.length < sizeLine/\CPv K m g ct ce ds fin F1 H1 C τ₀ (i+1) τ2 (acc++[v]) H4 else CPv K m g ct ce ds fin F1 H1 C τ₀ (i+1) τ2 acc H3:=by
 rw[ed] at e;unfold compLoop at e;cases q1:g d Γc with
 |none=>rw[q1] at e;cases e
 |some Γ1=>
  rw[q1] at e;dsimp only[Option.bind] at e;cases q2:ct Γ1 with
  |none=>rw[q2] at e;cases e
  |some pb=>
   obtain⟨b,Γ2⟩:=pb;rw[q2] at e;dsimp only at e;have hle:(acc.map some).length=(accs.map some).length:=by simp[hl]
   obtain⟨C1,k1,fr1⟩:=k.frame hle;refine tg F H τ Γc Γ1 C1 x d _ k1 rx q1 fun τ2 A2 k2 x2 kp2=>?_
   obtain⟨A3,x3,k3⟩:=fr1 _ _ _ _ _ x2 k2;obtain⟨C4,k4,fr4⟩:=k3.frame hle;refine⟨F,C4,Γ1,b,Γ2,k4,q2,fun H3 pp=>?_⟩
   obtain⟨F5,A5,x5,k5,_⟩:=pp;obtain⟨A6,x6,k6⟩:=fr4 _ _ _ _ _ x5 k5;cases b with
   |false=>exact iteF ⟨F5,A6,Γ2,accs,k6,x0.trans (x3.trans x6),e,hl,kp.trans kp2⟩
   |true=>
    have e:((ce Γ2).bind fun q=>(ownL [q.1]).bind fun os=>if accs.length < 1000000 then compLoop g ct ce (ds.drop (i+1)) q.2 (accs++os) else none)=some fin:=e
    cases q3:ce Γ2 with
    |none=>rw[q3] at e;cases e
    |some pr=>
     obtain⟨r,Γ3⟩:=pr;rw[q3] at e;dsimp only[Option.bind] at e;cases q4:ownL [r] with
     |none=>rw[q4] at e;cases e
     |some os=>
      rw[q4] at e;dsimp only at e;split at e
      ·rename_i hz
       obtain⟨C7,k7,fr7⟩:=k6.frame hle;refine iteT ⟨F5,C7,Γ2,r,Γ3,k7,q3,fun v H4 pp=>⟨Nat.lt_of_lt_of_le (by omega:acc.length < 1000000) (by decide),?_⟩⟩
       obtain⟨F8,A8,x8,k8,_⟩:=pp;rw[a6b q4] at k8;obtain⟨A9,x9,k9⟩:=fr7 _ _ _ _ _ x8 k8;refine⟨F8,A9,Γ3,accs++os,?_,x0.trans (x3.trans (x6.trans x9)),e,?_,kp.trans kp2⟩
       ·rw[List.map_append,List.map_append,List.append_assoc,List.append_assoc];exact k9
       ·have:=congrArg List.length (a6b q4);simp at this;simp[hl,this]
      ·cases e
theorem c0g{F H:Hp}{σ:St}{Γ:Gm}{A:List Addr}{p:Addr}{u:HO}(k:OK K F H σ Γ A)(hn:H p=none):OK K (upd F p u) (upd H p u) σ Γ A/\Ext F H A (upd F p u) (upd H p u) A:=by
 have hF:F p=none:=k.le.free hn;have np:∀a∈A,a≠p:=fun a m z=>k.os.there a m (by rw[z];exact hn)
 refine⟨⟨fun a o e=>?_,k.os.keep (a3k hF) fun a m o e=>by rw[a0v (np a m)];exact e,k.nd,fun a m=>by rw[a0v (np a m)];exact k.fr a m⟩,⟨a3k hF,fun a o e _=>a3k hn a o e,fun a h z=>h ((a3k hn).free z),fun a h=>?_,fun a m=>.inl m,.same (a3k hn)⟩⟩
 ·by_cases z:a=p
  ·subst z;rw[a1l] at e ⊢;exact e
  ·rw[a0v z] at e ⊢;exact k.le a o e
 ·by_cases z:a=p
  ·subst z;exact .inr (.inr hn)
  ·rw[a0v z] at h;exact .inl h
theorem c6u{m:List Bool}{t:TG}{g:GG}{ct:GT}{ce:GE}(tg:TgOk K m t g){ds:List D}{fin:List O×Gm}{F1 H1:Hp}{C:List Addr}{τ₀:St}{i:Nat}{τ:St}{acc:List V}{H:Hp}{x:V}{d:D}(p:CPv K m g ct ce ds fin F1 H1 C τ₀ i τ acc H)
  (ed:ds.drop i=d::ds.drop (i+1)) (rx:∀F,Same F1 F->RepL K F [x] [d]) :
  t x τ H fun τ2 H2=>tGT K ct τ2 H2 fun b H3=>if b=true then tG K ce τ2 H3 fun v H4=>acc.length < sizeLine/\CPv K m g ct ce ds fin F1 H1 C τ₀ (i+1) τ2 (acc++[v]) H4 else CPv K m g ct ce ds fin F1 H1 C τ₀ (i+1) τ2 acc H3:=by
 obtain⟨F,A,Γc,accs,k,x0,e,hl,kp⟩:=p.ex;exact b5g tg k x0 e hl kp ed (rx F x0.ff)
theorem c4a{m:List Bool}{t:TG}{g:GG}{ct:GT}{ce:GE}(tg:TgOk K m t g){ds:List D}{fin:List O×Gm}{F1 H1:Hp}{C:List Addr}{τ₀:St}{i:Nat}{τ:St}{acc:List V}{H:Hp}{q:Addr}{ws:List V}{es:List D}(p:CPv K m g ct ce ds fin F1 H1 C τ₀ i τ acc H)
  (ed:ds.drop i=.tup es::ds.drop (i+1)) (hq:H q=none) (rx:∀F,Same F1 F->RepL K F ws es) :
  t (.ref q) τ (upd H q (.tup ws)) fun τ2 H2=>tGT K ct τ2 H2 fun b H3=>if b=true then tG K ce τ2 H3 fun v H4=>acc.length < sizeLine/\CPv K m g ct ce ds fin F1 H1 C τ₀ (i+1) τ2 (acc++[v]) H4 else CPv K m g ct ce ds fin F1 H1 C τ₀ (i+1) τ2 acc H3:=by
 obtain⟨F,A,Γc,accs,k,x0,e,hl,kp⟩:=p.ex;obtain⟨k2,x2⟩:=c0g (u:=.tup ws) k hq;exact b5g tg k2 (x0.trans x2) e hl kp ed (.tup (SqT.of a1l) ((rx F x0.ff).mono x2.ff) .nil)
theorem d1m{m:List Bool}{g:GG}{ct:GT}{ce:GE}{ds:List D}{fin:List O×Gm}{F1 H1:Hp}{C:List Addr}{τ₀:St}{τ:St}{acc:List V}{H:Hp}(p:CPv K m g ct ce ds fin F1 H1 C τ₀ ds.length τ acc H):
  ∃F A,OK K F H (acc.map some++τ) (fin.1.map some++fin.2) A/\Ext F1 H1 C F H A/\acc.length=fin.1.length/\Kept m τ₀ τ:=by
 obtain⟨F,A,Γc,accs,k,x0,e,hl,kp⟩:=p.ex;rw[List.drop_of_length_le (Nat.le_refl _)] at e;cases e;exact⟨F,A,k,x0,hl,kp⟩
theorem b3i:∀{cap:List Nat} {Γ:Gm} {j:Nat},j∉cap->(capIn cap Γ).2[j]?=Γ[j]?
 |[],Γ,j,_=>rfl
 |i::cap,Γ,j,h=>by
  unfold capIn;dsimp only;rw[b3i (fun z=>h (List.mem_cons_of_mem _ z)),List.getElem?_set_ne (fun z=>h (by rw[z];exact List.mem_cons_self))]
theorem d1n{F H:Hp}{σ:St}{Γ:Gm}{A:List Addr}{j:Nat}{ps:List O}{a:Addr}(h:OwnL K F H σ Γ A)(hΓ:Γ[j]?=some (some (.lst ps)))(hσ:σ[j]?=some (some (.ref a))):a∈A:=by
 obtain⟨v,Ai,B,g1,g2,_,g4⟩:=h.take hΓ;rw[hσ] at g1;cases g1;cases g2 with
 |lst _ _ _=>exact g4.mem_iff.mpr (by simp)
def InSlot(σ:St)(Γ:Gm)(H:Hp)(j:Nat)(a:Addr):Prop:=(∃ps,Γ[j]?=some (some (.lst ps))/\σ[j]?=some (some (.ref a)))\/∃C ns qs i kvs,Γ[j]?=some (some (.ins C ns qs))/\qs[i]?=some (.dct kvs)/\HFld σ H j i (.ref a)
theorem d5x{F H:Hp}{σ:St}{Γ:Gm}{A:List Addr}{j:Nat}{a:Addr}(h:OwnL K F H σ Γ A)(i:InSlot σ Γ H j a):a∈A:=by
 rcases i with⟨ps,e1,e2⟩|⟨C,ns,qs,i,kvs,e1,e2,hf⟩
 ·exact d1n h e1 e2
 ·obtain⟨x,Ai,C',g1,g2,g3,g4⟩:=h.take e1;obtain⟨b,C2,dx,fs,f,p,y1,y2,y3,y4⟩:=hf;cases y4;rw[g1] at y1;cases y1;cases g2 with
  |ins q1 q2 q3 q4 t=>
   rw[y2] at q1;cases q1;have e2':(qs.map some)[i]?=some (some (.dct kvs)):=by rw[List.getElem?_map,e2];rfl
   obtain⟨v,Ac,C3,z1,z2,z3,z4⟩:=q4.take e2';rw[List.getElem?_map,y3] at z1;cases z1;refine g4.mem_iff.mpr (List.mem_append_left _ (List.mem_append_left _ ?_));refine List.mem_cons_of_mem _ (List.mem_cons_of_mem _ (z4.mem_iff.mpr (List.mem_append_left _ ?_)));cases z2 with
   |dct _ _ _ _ _=>simp
theorem InSlot.cap{σ:St}{Γ:Gm}{H:Hp}{cap:List Nat}{j:Nat}{a:Addr}(hj:j∉cap)(i:InSlot σ Γ H j a):InSlot σ (capIn cap Γ).2 H j a:=by
 rcases i with⟨ps,e1,e2⟩|⟨C,ns,qs,i,kvs,e1,r⟩
 ·exact .inl ⟨ps,by rw[b3i hj];exact e1,e2⟩
 ·exact .inr ⟨C,ns,qs,i,kvs,by rw[b3i hj];exact e1,r⟩
theorem c4b{k:Nat}{cap:List Nat}{F H:Hp}{σ:St}{Γ:Gm}{A:List Addr}(ok:OK K F H σ Γ A):∃C,OK K F H (capS k cap σ) (List.replicate k none++(capIn cap Γ).1) C/\
  (∀j a,j∉cap->InSlot σ Γ H j a->a∉C)/\
  ∀F' H' τ' accs acc Γi A',Ext F H C F' H' A'->OK K F' H' (acc.map some++τ') (accs.map some++Γi) A'->acc.length=accs.length->Kept (capM k cap) (capS k cap σ) τ'->Γi.length=k+cap.length->∀l,H' l=none->
   ∃A'',Ext F H A F' (upd H' l (.lst acc)) A''/\OK K F' (upd H' l (.lst acc)) (some (.ref l)::σ) (some (.lst accs)::a8v cap (Γi.drop k) (capIn cap Γ).2) A'':=by
 obtain⟨B,C',h1,h2,h3⟩:=c1v (cap:=cap) ok.os;have k0:OwnL K F H (capS k cap σ++σ) ((List.replicate k none++(capIn cap Γ).1)++(capIn cap Γ).2) (B++C'):=by
  have:=(a9u (K:=K) (F:=F) (H:=H) k).app h1;exact this.app h2
 obtain⟨k1,x1⟩:=ok.sub k0 h3;have hl0:(capS k cap σ).length=(List.replicate k (none:Option O)++(capIn cap Γ).1).length:=by
  have:=h1.length;unfold capS;simp at this ⊢;omega
 obtain⟨A1,p1,k2⟩:=k1.swap hl0;have k2':=k2;obtain⟨D0,C,hd0,hd1,hd2⟩:=OwnL.split h2.length k2.os;have nn:∀a∈D0,a∉C:=fun a m z=>(List.nodup_append.mp (hd2 ▸ k2.nd)).2.2 a m a z rfl
 obtain⟨k3,fr⟩:OK K F H (capS k cap σ) (List.replicate k none++(capIn cap Γ).1) C/\∀F' H' σ' Γ' A',Ext F H C F' H' A'->OK K F' H' σ' Γ' A'->∃A'',Ext F H A1 F' H' A''/\OK K F' H' (σ++σ') ((capIn cap Γ).2++Γ') A'':=by
  subst hd2;exact k2.frameAt hd0 hd1
 refine⟨C,k3,fun j a hj i=>nn a (d5x hd0 (i.cap hj)),fun F' H' τ' accs acc Γi A' x k' hl kp hΓ l hn=>?_⟩
 have hΓl:=k'.os.length;have k5:∃A5,OK K F' (upd H' l (.lst acc)) (some (.ref l)::τ') (some (.lst accs)::Γi) A5/\Ext F' H' A' F' (upd H' l (.lst acc)) A5:=by
  obtain⟨B1,C1,g1,g2,g3⟩:=OwnL.split (by simp[hl]) k'.os
  have nl:∀a∈A',a≠l:=fun a m z=>k'.os.there a m (by rw[z];exact hn)
  have kpp:∀a∈A',∀o,H' a=some o->upd H' l (.lst acc) a=some o:=fun a m o e=>by rw[a0v (nl a m)];exact e
  subst g3;refine⟨l::B1++C1,⟨fun a o e=>?_,.lst a1l (g1.keep (Same.refl _) fun a m=>kpp a (List.mem_append_left _ m)) (g2.keep (Same.refl _) fun a m=>kpp a (List.mem_append_right _ m)),List.nodup_cons.mpr ⟨fun m=>nl l m rfl,k'.nd⟩,fun a m=>?_⟩,
   Same.refl _,fun a o e _=>?_,c0f,fun a h=>.inl h,fun a m=>?_,.same (a3k hn)⟩
  ·have:=k'.le a o e;rw[a0v (a1t this hn)];exact this
  ·rcases List.mem_cons.mp m with rfl|m
   ·exact k'.le.free hn
   ·exact k'.fr a m
  ·rw[a0v (a1t e hn)];exact e
  ·rcases List.mem_cons.mp m with rfl|m
   ·exact .inr hn
   ·exact .inl m
 obtain⟨A5,k5,x5⟩:=k5;obtain⟨A6,x6,k6⟩:=fr _ _ _ _ _ (x.trans x5) k5;obtain⟨D1,D2,g1,g2,g3⟩:=OwnL.split h2.length k6.os;subst g3;obtain⟨D3,D4,g4,g5,g6⟩:=g2.one;subst g6;have hτ:τ'.length=k+cap.length:=by
  have:=g5.length;omega
 have e1:τ'=τ'.take k++τ'.drop k:=(List.take_append_drop _ _).symm;have e2:Γi=Γi.take k++Γi.drop k:=(List.take_append_drop _ _).symm;have g5':OwnL K F' (upd H' l (.lst acc)) (τ'.take k++τ'.drop k) (Γi.take k++Γi.drop k) D4:=by rw[<-e1,<-e2];exact g5
 obtain⟨D5,D6,g7,g8,g9⟩:=OwnL.split (by rw[List.length_take,List.length_take];omega) g5'
 subst g9;have eτ:τ'.drop k=cap.map fun i=>(σ[i]?).join:=by
  apply List.ext_getElem?;intro j;by_cases hj:j < cap.length
  ·have hm:(capM k cap)[k+j]?=some true:=by
    unfold capM;rw[List.getElem?_append_right (by simp)]
    simp[hj]
   have:=kp (k+j) hm;rw[List.getElem?_drop,this];unfold capS;rw[List.getElem?_append_right (by simp)]
   simp
  ·rw[List.getElem?_eq_none (by rw[List.length_drop];omega),List.getElem?_eq_none (by rw[List.length_map];omega)]
 obtain⟨D7,g10,g11⟩:=c6t g8 g1 eτ;have s1:SubP (D3++D7) (D1++(D3++(D5++D6))):=by
  refine((SubP.refl D3).app g11).trans ?_;refine SubP.trans (B:=D3++(D5++D6)++D1) ?_ (.of_perm List.perm_append_comm);rw[List.append_assoc];refine(SubP.refl D3).app ?_;rw[List.append_assoc];exact .of_sub (List.sublist_append_right _ _)
 obtain⟨k7,x7⟩:=k6.sub (σ':=some (.ref l)::σ) (Γ':=some (.lst accs)::a8v cap (Γi.drop k) (capIn cap Γ).2) (g4.app g10) s1;exact⟨D3++D7,(x1.trans (Ext.own' Ext.refl fun a m=>p1.mem_iff.mp m)).trans (x6.trans x7),k7⟩
end
def srcL(it:GE):Gm->Option (List D×Gm):=fun Γ=>(gFrz it Γ).bind fun p=>match p.1 with
 |.own (.frz (.lst ds))=>some (ds,p.2)
 |_=>none
def srcS(it:GE):Gm->Option (List D×Gm):=fun Γ=>(it Γ).bind fun p=>match p.1 with
 |.own (.frz (.str z))=>some (z.cps.toList.map fun c=>.str (chr1 c),p.2)
 |_=>none
def srcR1(fs:GA):Gm->Option (List D×Gm):=fun Γ=>(fs Γ).bind fun p=>(int1 p.1).map fun j=>(rngD 0 j.toNat,p.2)
def srcV(i:Nat)(cap:List Nat):Gm->Option (List D×Gm):=fun Γ=>if i∈cap then none else match Γ[i]? with
 |some (some (.lst os))=>(frzL os).map fun ds=>(ds,Γ)
 |_=>none
def Nw(K:L2.FG)(F1 H:Hp)(x:V)(d:D)(H':Hp):Prop:=(H'=H/\∀F,Same F1 F->RepL K F [x] [d])\/∃p ws es,x=.ref p/\d=.tup es/\H p=none/\H'=upd H p (.tup ws)/\∀F,Same F1 F->RepL K F ws es
def SrcOk(K:L2.FG)(cap:List Nat)(wi:TI)(src:Gm->Option (List D×Gm)):Prop:=
 ∀(σ:St) (F H:Hp) (A:List Addr) (Γ Γ1:Gm) (ds:List D) (R:It->Hp->Prop),OK K F H σ Γ A->src Γ=some (ds,Γ1)->
  (∀J H1 F1 A1,Ext F H A F1 H1 A1->OK K F1 H1 σ Γ1 A1->
   (∀(g:TG) (tt:TT) (te:TE) (τ:St) (Fin:List V->Hp->Prop) (Pv:Nat->St->List V->Hp->Prop),Pv 0 τ [] H1->(∀i τ acc H,Pv i τ acc H->(∃F,Same F1 F/\Same F H)/\∀(j:Nat) a o,j∉cap->InSlot σ Γ1 H1 j a->H1 a=some o->H a=some o)->
    (∀i d x τ acc H H',ds.drop i=d::ds.drop (i+1)->Nw K F1 H x d H'->Pv i τ acc H->g x τ H' fun τ2 H2=>tt τ2 H2 fun b H3=>if b=true then te τ2 H3 fun v H4=>acc.length < sizeLine/\Pv (i+1) τ2 (acc++[v]) H4 else Pv (i+1) τ2 acc H3)->
    (∀τ acc H,Pv ds.length τ acc H->Fin acc H)->CompW J g tt te τ H1 Fin)->R J H1)->wi σ H R
section
variable {X:Cx} {K:L2.FG} {fa:GE} {fs:GA}
theorem c0h{α:Type}{l:List α}{i:Nat}{x:α}(h:l[i]?=some x):l.drop i=x::l.drop (i+1):=by
 obtain⟨hi,e⟩:=List.getElem?_eq_some_iff.mp h;rw[List.drop_eq_getElem_cons hi,e]
theorem c1w{cap:List Nat}:SrcOk K cap (iList K (tG K (gFrz fa))) (srcL fa):=by
 intro σ F H A Γ Γ1 ds R k e w;unfold srcL at e;cases q:gFrz fa Γ with
 |none=>rw[q] at e;cases e
 |some p=>
  obtain⟨r,Γ2⟩:=p;rw[q] at e;dsimp only[Option.bind] at e;cases r with
  |var i=>cases e
  |fld _ _=>cases e
  |own o=>
   cases o with
   |frz d=>
    cases d with
    |lst es=>
     cases e;refine⟨F,A,Γ,_,_,k,q,fun v H1 pp=>?_⟩
     obtain⟨F1,A1,x,k1,_⟩:=pp;obtain⟨B,C,h1,h2,h3⟩:=OwnL.one (σ:=σ) k1.os;have rp:=b6i h1;subst h3;obtain⟨k2,x2⟩:=k1.sub h2 (.of_sub (List.sublist_append_right _ _));cases rp with
     |flat z _=>cases z
     |@lst a ws _ _ _ sq ri _=>
      refine⟨a,rfl,⟨ws,.inl (k1.le.rd sq)⟩,w (Itl K a) H1 F1 C (x.trans x2) k2 fun g tt te τ Fin Pv h0 hF hs hd=>?_⟩
      have hl:=ri.length;refine b8a (xs:=ws) Pv h0 (fun i τ acc H hi p=>?_) (fun i x τ acc H hx p=>?_) (fun τ acc H p=>hd τ acc H (by rw[<-hl];exact p))
      ·obtain⟨⟨F',s1,s2⟩,_⟩:=hF i τ acc H p;exact .inl ((s1.trans s2).rd sq)
      ·have hi:i < ds.length:=by
        have:=(List.getElem?_eq_some_iff.mp hx).1;omega
       obtain⟨x2,hx2,rx⟩:=ri.get (i:=i) (d:=ds[i]) (by simp[hi])
       rw[hx] at hx2;cases hx2;exact hs i ds[i] x τ acc H H (c0h (by simp[hi])) (.inl ⟨rfl,fun F' s=>rx.mono s⟩) p
    |_=>cases e
   |_=>cases e
theorem c0i{i:Nat}{cap:List Nat}:SrcOk K cap (iList K (tVar i)) (srcV i cap):=by
 intro σ F H A Γ Γ1 ds R k e w;unfold srcV at e;split at e
 ·cases e
 ·rename_i hi
  split at e
  ·rename_i os hΓ
   obtain⟨ds',e1,e2⟩:=Option.map_eq_some_iff.mp e;cases e2;obtain⟨v,Ai,B,g1,g2,_⟩:=k.os.take hΓ;refine⟨v,g1,?_⟩;cases g2 with
   |@lst a ws _ _ _ _ _ hl ch _=>
    have ri:=b2h ch e1;refine⟨a,rfl,⟨ws,SqL.of hl⟩,w (Itl K a) H F A Ext.refl k fun g tt te τ Fin Pv h0 hF hs hd=>?_⟩
    have hln:=ri.length;refine b8a (xs:=ws) Pv h0 (fun j τ acc H' hj p=>?_) (fun j x τ acc H' hx p=>?_) (fun τ acc H' p=>hd τ acc H' (by rw[<-hln];exact p))
    ·exact SqL.of ((hF j τ acc H' p).2 i a _ hi (.inl ⟨os,hΓ,g1⟩) hl)
    ·have hj:j < ds.length:=by
      have:=(List.getElem?_eq_some_iff.mp hx).1;omega
     obtain⟨x2,hx2,rx⟩:=ri.get (i:=j) (d:=ds[j]) (by simp[hj])
     rw[hx] at hx2;cases hx2;exact hs j ds[j] x τ acc H' H' (c0h (by simp[hj])) (.inl ⟨rfl,fun F' s=>rx.mono s⟩) p
  ·cases e
theorem c6v{cap:List Nat}:SrcOk K cap (iStr (tG K fa)) (srcS fa):=by
 intro σ F H A Γ Γ1 ds R k e w;unfold srcS at e;cases q:fa Γ with
 |none=>rw[q] at e;cases e
 |some p=>
  obtain⟨r,Γ2⟩:=p;rw[q] at e;dsimp only[Option.bind] at e;cases r with
  |var i=>cases e
  |fld _ _=>cases e
  |own o=>
   cases o with
   |frz d=>
    cases d with
    |str z=>
     cases e;refine⟨F,A,Γ,_,_,k,q,fun v H1 pp=>?_⟩
     have ev:=pp.flat rfl;obtain⟨F1,A1,x,k1,_⟩:=pp.drop;refine⟨z,ev,w (Its z) H1 F1 A1 x k1 fun g tt te τ Fin Pv h0 hF hs hd=>?_⟩
     refine d0t Pv h0 (fun i c τ acc H hc p=>?_) (fun τ acc H p=>hd τ acc H (by simpa using p))
     refine hs i (.str (chr1 c)) _ τ acc H H (c0h ?_) (.inl ⟨rfl,fun F' s=>.flat rfl .nil⟩) p
     rw[List.getElem?_map,Array.getElem?_toList,hc];rfl
    |_=>cases e
   |_=>cases e
theorem d9a{cap:List Nat}:SrcOk K cap (iRng1 (tGA K fs)) (srcR1 fs):=by
 intro σ F H A Γ Γ1 ds R k e w;unfold srcR1 at e;cases q:fs Γ with
 |none=>rw[q] at e;cases e
 |some p=>
  obtain⟨rs,Γ2⟩:=p;rw[q] at e;obtain⟨j,e1,e2⟩:=Option.map_eq_some_iff.mp e;cases e2;obtain⟨hj,hb⟩:=c1l e1;have hj:rs=_:=hj;subst hj;refine⟨F,A,Γ,_,_,k,q,fun vs H1 pp=>?_⟩
  obtain⟨F1,A1,x,k1,hh⟩:=pp
  match vs,hh with
  |[v],_=>
   obtain⟨rfl,h2⟩:=b2z (σ:=σ) k1.os;obtain⟨k2,x2⟩:=k1.sub h2 (SubP.refl _);refine⟨j,rfl,hb.1,hb.2,w (Itr 0 j.toNat) H1 F1 A1 x k2 fun g tt te τ Fin Pv h0 hF hs hd=>?_⟩
   refine c3v Pv h0 (fun i τ acc H hi p=>?_) (fun τ acc H p=>hd τ acc H (by simpa[rngD] using p))
   exact hs i (.int (0+(i:Int))) _ τ acc H H (by unfold rngD;exact b4u _ hi) (.inl ⟨rfl,fun F' s=>.flat rfl .nil⟩) p
theorem PTs.mono{ifs:List Expr}{t t':TT}(h:PTs X ifs t)(m:∀σ H Q,t' σ H Q->t σ H Q):PTs X ifs t':=fun pins s σ H Q I q=>h pins s σ H Q I (m _ _ _ q)
def gYes:GT:=fun Γ=>some (true,Γ)
theorem b3j:PTs X [] (tGT K gYes):=pts_nil.mono fun σ H Q t=>b2f t
theorem c0j{c:Expr}{ft:GT}(h:PT X c (tGT K ft)):PTs X [c] (tGT K ft):=b9y h
variable {tg elt iter:Expr} {ifs:List Expr} {scope:Scope} {pos:Pos} {M:List Str} {k:Nat} {cap:List Nat} {t:TG} {gg:GG} {ct:GT} {ce:GE} {wi:TI} {src:Gm->Option (List D×Gm)}
theorem c6w(so:SrcOk K cap wi src)(tg':TgOk K (capM k cap) t gg){σ:St}{H:Hp}{Q:VK}(tt:tG K (a6u src gg ct ce k cap) σ H Q):tComp wi t (tGT K ct) (tG K ce) k cap σ H Q:=by
 obtain⟨F,A,Γ,rr,Γ',ok,e,w⟩:=tt;unfold a6u at e;cases q1:src Γ with
 |none=>rw[q1] at e;cases e
 |some p=>
  obtain⟨ds,Γ1⟩:=p;rw[q1] at e;dsimp only[Option.bind] at e;cases q2:compLoop gg ct ce ds (List.replicate k none++(capIn cap Γ1).1) [] with
  |none=>rw[q2] at e;cases e
  |some fin=>
   rw[q2] at e;dsimp only at e;split at e
   ·rename_i hlen
    cases e;refine so σ F H A Γ Γ1 ds _ ok q1 fun J H1 F1 A1 x1 k1 mk=>?_
    obtain⟨C,kC,nC,back⟩:=c4b (k:=k) (cap:=cap) k1;refine mk t (tGT K ct) (tG K ce) (capS k cap σ) _ (CPv K (capM k cap) gg ct ce ds fin F1 H1 C (capS k cap σ)) ?_ ?_ ?_ ?_
    ·exact⟨F1,C,_,[],kC,Ext.refl,q2,rfl,Kept.refl⟩
    ·rintro i τ acc H ⟨F',A',Γc,accs,k',x',_⟩;exact⟨⟨F',x'.ff,k'.le⟩,fun j a o hj h1 h3=>x'.keep a o h3 (nC j a hj h1)⟩
    ·intro i d x τ acc H H' ed nw p;rcases nw with⟨rfl,rx⟩|⟨q,ws,es,rfl,rfl,hq,rfl,rx⟩
     ·obtain⟨F',A',Γc,accs,k',x',_⟩:=p.ex;exact c6u tg' p ed fun F e=>rx F e
     ·exact c4a tg' p ed hq rx
    ·intro τ acc H p l hn;obtain⟨F',A',k',x',hl,kp⟩:=d1m p;obtain⟨A'',x'',k''⟩:=back F' H τ fin.1 acc fin.2 A' x' k' hl kp hlen l hn;exact w _ _ ⟨F',A'',x1.trans x'',k'',True.intro⟩
   ·cases e
theorem b3k(so:SrcOk K cap wi src)(tg':TgOk K (capM k cap) t gg)(ok:CompOk X scope M k cap)(hi:PI X tg iter wi)
  (hg:∀C s H fp,PG (a2z X scope M C s H fp) tg t) (ht:∀C s H fp,PTs (a2z X scope M C s H fp) ifs (tGT K ct)) (he:∀C s H fp,PE (a2z X scope M C s H fp) elt (tG K ce)) (hc:X.calm=true:=by rfl)
  (hs:∀x,foldedSetIterable iter X.env x=pure x:=by intro _;rfl):PE X (.ListComp elt [⟨tg,iter,ifs,0⟩] scope pos) (tG K (a6u src gg ct ce k cap)):=
 (d5e hc ok hi hg ht he hs).mono fun _ _ _ t=>c6w so tg' t
variable {m:List Bool} {W:Option XW}
theorem b6j{i:Nat}{x:Str}{px spos:Pos}(so:SrcOk K cap wi src)(tg':TgOk K (capM k cap) t gg)(ok:CompOk X scope M k cap)(hN:X.N.Nodup)(hix:X.N[i]?=some x)(hx:Loc X.env.scope x)(hi:PI X tg iter wi)
  (hg:∀C s H fp,PG (a2z X scope M C s H fp) tg t) (ht:∀C s H fp,PTs (a2z X scope M C s H fp) ifs (tGT K ct)) (he:∀C s H fp,PE (a2z X scope M C s H fp) elt (tG K ce)) (hc:X.calm=true:=by rfl) (hm:(m[i]? == some true)=false:=by rfl)
  (hsw:swapsWith (.ListComp elt [⟨tg,iter,ifs,0⟩] scope pos) (some (.Name x px)) spos.line X.env=pure true:=by rfl)
  (hs:∀x,foldedSetIterable iter X.env x=pure x:=by intro _;rfl) (hf:X.fn x=true\/X.env.scope.names.lookup x=some .local := by first|exact .inl rfl|exact .inr rfl) :
  PS X (.Assign [.Name x px] (.ListComp elt [⟨tg,iter,ifs,0⟩] scope pos) spos) (tS K m W (gsSet i (gFrz (a6u src gg ct ce k cap)))):=(b9z hc ok hN hix hx hi hg ht he hsw hs hf).mono fun D σ H tt=>by
 obtain⟨F,A,Γ,fl,Γ',k,e,w⟩:=tt;unfold gsSet at e;cases q:gFrz (a6u src gg ct ce _ cap) Γ with
 |none=>rw[q] at e;cases e
 |some p=>
  obtain⟨r,Γ1⟩:=p;rw[q] at e;cases r with
  |var i=>cases e
  |fld _ _=>cases e
  |own o=>
   dsimp only[Option.bind] at e;split at e
   ·cases e;refine c6w so tg' (d3o ⟨F,A,Γ,_,Γ1,k,q,fun v H' hh=>?_⟩)
    obtain⟨F1,A1,x,k1,_⟩:=hh;obtain⟨B,k2,x2⟩:=OK.store (σ:=σ) (Γ:=Γ1) k1 (by assumption)
    exact w _ H' ⟨F1,B,x.trans x2,k2,Kept.set hm⟩
   ·cases e
end
inductive Wk (K:L2.FG) (H:Hp):V->List Nat->V->Prop
 |nil {x:V}:Wk K H x [] x
 |cons {p:Addr} {ws:List V} {j:Nat} {y v:V} {π:List Nat}:(SqL K H p ws\/SqT K H p ws)->ws[j]?=some y->Wk K H y π v->Wk K H (.ref p) (j::π) v
section
variable {X:Cx} {K:L2.FG} {e:Expr} {i j:Nat} {π:List Nat} {pos p1 p2:Pos} {n:Nat}
end
section
variable {K:L2.FG} {F H:Hp}
theorem b5h{ws:List V}{os:List O}{A:List Addr}{j:Nat}{c:O}(h:OwnL K F H (ws.map some) (os.map some) A)(e:os[j]?=some c):∃v Ac B,ws[j]?=some v/\OwnL K F H [some v] [some c] Ac/\A.Perm (Ac++B)/\
  ∀F' H' c' A',Same F F'->(∀a∈B,∀u,H a=some u->H' a=some u)->OwnL K F' H' [some v] [some c'] A'->∃D,OwnL K F' H' (ws.map some) ((os.set j c').map some) D/\SubP D (A'++B):=by
 have e':(os.map some)[j]?=some (some c):=by rw[List.getElem?_map,e];rfl
 obtain⟨v,Ac,B,g1,g2,g3,g4⟩:=h.take e';have hv:ws[j]?=some v:=by
  rw[List.getElem?_map] at g1;cases q:ws[j]? with
  |none=>rw[q] at g1;cases g1
  |some z=>rw[q] at g1;cases g1;rfl
 refine⟨v,Ac,B,hv,g2,g4,fun F' H' c' A' sf kp w=>?_⟩
 have g3':OwnL K F' H' (ws.map some) ((os.map some).set j none) B:=g3.keep sf kp;have hj:j < ((os.map some).set j none).length:=by
  rw[List.length_set,List.length_map];exact(List.getElem?_eq_some_iff.mp e).1
 obtain⟨D,k1,C,k2,k3⟩:=OwnL.put w j g3' hj;rw[List.set_set,a6q g1] at k1;refine⟨D,by rw[List.map_set];exact k1,(SubP.of_perm k2).trans ((SubP.refl A').app (.of_sub k3))⟩
end
section
variable {X:Cx} {K:L2.FG} {o e:Expr} {es:List Expr} {i:Nat} {π:List Nat} {t:TA} {name:Str} {apos cpos:Pos} {id:String} {r:V->List V->Hp->VK->Prop} {g:O->List O->Option (O×O)} {ds:List D} {vs:List V}
end
def b0c(M:GM)(fs:GA):GE:=fun Γ=>(fs Γ).bind fun p=>(seeL p.2 p.1).bind fun os=>(M ((O.dl os).map .frz)).bind fun r=>match r.1 with
 |.frz d=>(a6k d).bind fun _=>some (.own (.frz d),p.2)
 |_=>none
section
variable {K:L2.FG}
theorem d1o{F H:Hp}(le:Same F H){vs:List V}{os:List O}(h:Sees K F H vs os):RepL K H vs (O.dl os):=by
 unfold Sees at h
 induction h with
 |nil=>exact .nil
 |cons p t ih=>obtain⟨B,h⟩:=p;exact .cons (a4n le h) ih
theorem c4c{M:GM}{fs:GA}{Γ Γ':Gm}{r:R}(e:b0c M fs Γ=some (r,Γ')):∃rs os d fin v,fs Γ=some (rs,Γ')/\seeL Γ' rs=some os/\M ((O.dl os).map .frz)=some (.frz d,fin)/\a6k d=some v/\r=.own (.frz d):=by
 unfold b0c at e;cases q1:fs Γ with
 |none=>rw[q1] at e;cases e
 |some p=>
  rw[q1] at e;dsimp only[Option.bind] at e;cases q2:seeL p.2 p.1 with
  |none=>rw[q2] at e;cases e
  |some os=>
   rw[q2] at e;dsimp only at e;cases q3:M ((O.dl os).map .frz) with
   |none=>rw[q3] at e;cases e
   |some z=>
    obtain⟨o,fin⟩:=z;rw[q3] at e;dsimp only at e;cases o with
    |frz d=>
     dsimp only at e;cases q4:a6k d with
     |none=>rw[q4] at e;cases e
     |some v=>rw[q4] at e;cases e;exact⟨p.1,os,d,fin,v,rfl,q2,q3,q4,rfl⟩
    |_=>cases e
variable {X:Cx} {k n:Nat} {f:Addr} {fd:FuncData} {ps:List Str} {x:Str} {p pos:Pos} {e:Expr} {es:List Expr} {fs:GA} {st:Stmt} {M:GM}
theorem d1p{σ:St}{H:Hp}{Q:VK}(t:tG K (b0c M fs) σ H Q)(hn:∀rs Γ Γ',fs Γ=some (rs,Γ')->rs.length=n):tCall (SpM K n M) [] E1 (tGA K fs) σ H Q:=by
 obtain⟨F,A,Γ,rr,Γ',k,e,w⟩:=t;obtain⟨rs,os,d,fin,v0,e1,e2,e3,e4,rfl⟩:=c4c e;refine⟨F,A,Γ,rs,Γ',k,e1,fun vs H1 pp=>?_⟩
 show SpM K n M (vs++[]) H1 Q E0;rw[List.append_nil];obtain⟨F1,le,see,res⟩:=pp.res e2 w;obtain⟨_,_,_,_,hh⟩:=pp;refine⟨by rw[<-hh.length];exact hn rs Γ Γ' e1,H1,[],(O.dl os).map .frz,.frz d,fin,⟨Same.refl _,a9w (d1o le see),.nil,fun _ m=>by cases m⟩,e3,fun v H' pc=>?_⟩
 obtain⟨F5,A5,x5,k5⟩:=pc;have s:Same H1 H':=fun a o e=>x5.keep a o e (by simp)
 have ev:v=v0:=by
  obtain⟨B,C,h1,_⟩:=k5.os.one;exact a1h h1 e4
 subst ev;exact res v H' [] s (.frz (.flat e4 .nil) .nil) .nil (fun _ m=>by cases m)
theorem b2k(D:DefAt X.K X.mg x st f fd ps)(Fn:FnOk X.prog X.w X.K X.mg X.base CX0 k f fd ps (SpM K n M))(hr:Room k X.A)(ha:PA X (e::es) (tGA K fs))(hn:∀rs Γ Γ',fs Γ=some (rs,Γ')->rs.length=n)(hg:Gl X x:=by rfl)(hdb:(x == ("__debug__":Str))=false:=by decide)
  (he:starEach (e::es) X.env=(false,eval e X.env)::starEach es X.env:=by rfl) (hpl:(backTo pos (starEach es X.env)).any (·.1)=false:=by rfl) :
  PE X (.Call (.Name x p) (e::es) [] pos) (tG K (b0c M fs)):=(pcall D Fn hr ha hg hdb he hpl).mono fun _ _ _ t=>d1p t hn
theorem d5y{P:Program}{w:World}{mg:Str->Option Value}{base:Heap}{k:Nat}{f:Addr}{fd:FuncData}{ps:List Str}{M:GM}(F:FnOk P w K mg base CX0 k f fd ps (SpM K 1 M))(h:∀ns:List Int,ns.length<=63->∃fin,M [.frz (.scr ns)]=some (.frz (.bl true),fin)):
  FnOk P w K mg base CX0 k f fd ps (fun vs H Q _=>∃(a:Addr) (ns:List Int),vs=[.ref a]/\SqL K H a (ns.map V.int)/\ns.length<=63/\∀H',Q (.bl true) H'):=F.imp fun vs H Q E q=>by
 obtain⟨a,ns,rfl,hS,hl,q⟩:=q;obtain⟨fin,e⟩:=h ns hl;refine⟨rfl,H,[],[.frz (.scr ns)],_,fin,⟨Same.refl _,.frz (.scr hS .nil) .nil,.nil,fun _ m=>by cases m⟩,e,fun v H' pc=>?_⟩
 obtain⟨F5,A5,x5,k5⟩:=pc;obtain⟨B,C,h1,_⟩:=k5.os.one;cases a1h h1 rfl;exact q H'
end
end L2
namespace L2
open PySem
open Lean Meta in
simproc_decl evBind (Option.bind _ _):=fun e=>do
 let a:=e.getAppArgs
 unless a.size == 4 do return .continue
 let r0 <-Simp.simp a[2]!
 let r:={ r0 with expr:=(<-instantiateMVars r0.expr).cleanupAnnotations.headBeta}
 let pr <-match r.proof? with
  |none=>pure none
  |some p=>pure (some (<-mkCongrArg (.lam `z (<-inferType a[2]!) (mkApp4 e.getAppFn a[0]! a[1]! (.bvar 0) a[3]!) .default) p))
 if r.expr.isAppOfArity ``Option.some 2 then
  return .visit { expr:=(mkApp a[3]! r.expr.appArg!).headBeta,proof?:=pr}
 if r.expr.isAppOfArity ``Option.none 1 then
  return .done { expr:=mkApp (.const ``Option.none (e.getAppFn.constLevels!.drop 1)) a[1]!,proof?:=pr}
 return .done { expr:=mkApp4 e.getAppFn a[0]! a[1]! r.expr a[3]!,proof?:=pr}
open Lean Meta in
simproc_decl evMap (Option.map _ _):=fun e=>do
 let a:=e.getAppArgs
 unless a.size == 4 do return .continue
 let r0 <-Simp.simp a[3]!
 let r:={ r0 with expr:=(<-instantiateMVars r0.expr).cleanupAnnotations.headBeta}
 let pr <-match r.proof? with
  |none=>pure none
  |some p=>pure (some (<-mkCongrArg (.lam `z (<-inferType a[3]!) (mkApp4 e.getAppFn a[0]! a[1]! a[2]! (.bvar 0)) .default) p))
 if r.expr.isAppOfArity ``Option.some 2 then
  return .visit { expr:=mkApp2 (.const ``Option.some (e.getAppFn.constLevels!.drop 1)) a[1]! (mkApp a[2]! r.expr.appArg!).headBeta,proof?:=pr}
 if r.expr.isAppOfArity ``Option.none 1 then
  return .done { expr:=mkApp (.const ``Option.none (e.getAppFn.constLevels!.drop 1)) a[1]!,proof?:=pr}
 return .done { expr:=mkApp4 e.getAppFn a[0]! a[1]! a[2]! r.expr,proof?:=pr}
section
variable (f g h:GS) (fa fb fc:GE) (fs:GA) (ft gt:GT) (lo hi:GO) (Γ:Gm) (i n:Nat) (o:O) (d:D) (ds:List D) (os:List O) (gg:GG) (M:GM) (op:List O->Option O) (mu:O->List O->Option (O×O)) (c:List O->O)
theorem a0p:a0h f g Γ=(f Γ).bind fun p=>match p.1 with
 |.nx=>g p.2
 |.bk=>some (.bk,p.2)
 |.ct=>some (.ct,p.2)
 |.rt o=>some (.rt o,p.2):=rfl
theorem a1b:gsNil Γ=some (.nx,Γ):=rfl
theorem a1p:gsSet i fa Γ=(fa Γ).bind fun p=>match p.1 with
 |.own o=>if i < p.2.length then some (.nx,p.2.set i (some o)) else none
 |_=>none:=rfl
theorem a2t:gsRet fa Γ=(fa Γ).bind fun p=>match p.1 with
 |.own o=>some (.rt o,p.2)
 |_=>none:=rfl
theorem a2h:a3i fa Γ=(fa Γ).bind fun p=>some (.nx,p.2):=rfl
theorem a0z:gsIf ft f g Γ=(ft Γ).bind fun p=>if p.1=true then f p.2 else g p.2:=rfl
theorem a5f:gsPut fa fb fc Γ=(fa Γ).bind fun p=>(fb p.2).bind fun q=>(fc q.2).bind fun r=>match p.1,q.1,r.1 with
 |.own v,.var i,.own y=>match r.2[i]? with
  |some (some o)=>(mSet o [v,y]).bind fun z=>some (.nx,r.2.set i (some z.1))
  |_=>none
 |_,_,_=>none:=rfl
theorem a7h:gsFor fa gg f Γ=(gFrz fa Γ).bind fun p=>match p.1 with
 |.own (.frz (.lst ds))=>a2m gg f ds p.2
 |_=>none:=rfl
theorem e0w:b6e fs gg f Γ=(fs Γ).bind fun p=>(int1 p.1).bind fun j=>a2m gg f (rngD 0 j.toNat) p.2:=rfl
theorem a2x:gC d Γ=some (.own (.frz d),Γ):=rfl
theorem a0o:gVar i Γ=match Γ[i]? with
 |some (some (.frz d))=>some (.own (.frz d),Γ)
 |some (some _)=>some (.var i,Γ)
 |_=>none:=rfl
theorem a1a:gFrz fa Γ=(fa Γ).bind fun p=>match p.1 with
 |.own o=>some (.own (.frz o.d),p.2)
 |.var i=>match p.2[i]? with
  |some (some o)=>some (.own (.frz o.d),p.2.set i (some (.frz o.d)))
  |_=>none
 |_=>none:=rfl
theorem a9d:gMove fa Γ=(fa Γ).bind fun p=>match p.1 with
 |.own o=>some (.own o,p.2)
 |.var i=>match p.2[i]? with
  |some (some o)=>some (.own o,p.2.set i none)
  |_=>none
 |_=>none:=rfl
theorem a0g:gaNil Γ=some ([],Γ):=rfl
theorem a0d:a0c fa fs Γ=(fa Γ).bind fun p=>(fs p.2).bind fun q=>some (p.1::q.1,q.2):=rfl
theorem a1d:gOp op fs Γ=(fs Γ).bind fun p=>(seeL p.2 p.1).bind fun os=>(op os).bind fun o=>some (.own o,p.2):=rfl
theorem a1s:gSeq c fs Γ=(fs Γ).bind fun p=>if p.1.length<=1000 then(ownL p.1).bind fun os=>some (.own (c os),p.2) else none:=rfl
theorem a8p:c1h Γ=some (.own (.dct []),Γ):=rfl
theorem a4p:gT fa Γ=(fa Γ).bind fun p=>match p.1 with
 |.own (.frz (.bl b))=>some (b,p.2)
 |_=>none:=rfl
theorem a4y:gTru fa Γ=(fa Γ).bind fun p=>(seeR p.2 p.1).bind fun o=>(truO o).bind fun b=>some (b,p.2):=rfl
theorem b1i:gNotT ft Γ=(ft Γ).bind fun p=>some (!p.1,p.2):=rfl
theorem a5t:gAndT ft gt Γ=(ft Γ).bind fun p=>if p.1=true then gt p.2 else some (false,p.2):=rfl
theorem a5g:gOrT ft gt Γ=(ft Γ).bind fun p=>if p.1=true then some (true,p.2) else gt p.2:=rfl
theorem c6x:gIf ft fa fb Γ=(ft Γ).bind fun p=>if p.1=true then fa p.2 else fb p.2:=rfl
theorem a9e:gAndV fa fb Γ=(gT fa Γ).bind fun p=>if p.1=true then fb p.2 else gC (.bl false) p.2:=rfl
theorem a1f:gCall M fs Γ=(fs Γ).bind fun p=>(a3l p.1 p.2).bind fun q=>(M q.1).bind fun r=>some (.own r.1,a5i p.1 r.2 q.2):=rfl
theorem a4k:gMut mu fa fs Γ=(fa Γ).bind fun p=>match p.1 with
 |.var i=>match p.2[i]? with
  |some (some (.lst _))=>(fs p.2).bind fun q=>(ownL q.1).bind fun os=>match q.2[i]? with
   |some (some o)=>(mu o os).bind fun z=>some (.own z.2,q.2.set i (some z.1))
   |_=>none
  |_=>none
 |_=>none:=rfl
theorem a5u:a6n Γ=some (none,Γ):=rfl
theorem a5v:a6a fa Γ=(fa Γ).bind fun p=>(intR p.1).map fun i=>(some i,p.2):=rfl
theorem a4v:a5p fa lo hi Γ=(fa Γ).bind fun p=>(lo p.2).bind fun q=>(hi q.2).bind fun r=>(seeR r.2 p.1).bind fun o=>(slO o q.1 r.1).bind fun o'=>some (.own o',r.2):=rfl
theorem b3l(src:Gm->Option (List D×Gm))(k:Nat)(cap:List Nat):a6u src gg ft fa k cap Γ=(src Γ).bind fun p=>
 (compLoop gg ft fa p.1 (List.replicate k none++(capIn cap p.2).1) []).bind fun q=>if q.2.length=k+cap.length then some (.own (.lst q.1),a8v cap (q.2.drop k) (capIn cap p.2).2) else none:=rfl
theorem c6y:srcL fa Γ=(gFrz fa Γ).bind fun p=>match p.1 with
 |.own (.frz (.lst ds))=>some (ds,p.2)
 |_=>none:=rfl
theorem d1q:srcR1 fs Γ=(fs Γ).bind fun p=>(int1 p.1).map fun j=>(rngD 0 j.toNat,p.2):=rfl
theorem d3u:gYes Γ=some (true,Γ):=rfl
theorem a3b:a1g i d Γ=if i < Γ.length then some (Γ.set i (some (.frz d))) else none:=rfl
theorem a7n(gs:List GG):ggTup gs (.tup ds) Γ=ggAll gs ds Γ:=rfl
theorem a6d:ggAll [] [] Γ=some Γ:=rfl
theorem a6e(gs:List GG):ggAll (gg::gs) (d::ds) Γ=(gg d Γ).bind fun Γ1=>ggAll gs ds Γ1:=rfl
theorem a1v(m:List Bool):runM n m f os=(f (os.map some++List.replicate (n - os.length) none)).bind fun p=>p.1.val.bind fun o=>if p.2.length=n then some (o,keepM m (p.2.take os.length)) else none:=rfl
theorem d1r:a2m gg f [] Γ=some (.nx,Γ):=rfl
theorem a6f:a2m gg f (d::ds) Γ=(gg d Γ).bind fun Γ1=>(f Γ1).bind fun q=>match q.1 with
 |.nx=>a2m gg f ds q.2
 |.ct=>a2m gg f ds q.2
 |.bk=>some (.nx,q.2)
 |.rt o=>some (.rt o,q.2):=rfl
theorem c6z:compLoop gg ft fa [] Γ os=some (os,Γ):=rfl
theorem c1x:compLoop gg ft fa (d::ds) Γ os=(gg d Γ).bind fun Γ1=>(ft Γ1).bind fun p=>if p.1=true then
   (fa p.2).bind fun q=>(ownL [q.1]).bind fun os'=>if os.length < 1000000 then compLoop gg ft fa ds q.2 (os++os') else none
  else compLoop gg ft fa ds p.2 os:=rfl
theorem b8l:slO (.frz (.lst ds)) l u=some (.lst ((cutD ds l u).map .frz)):=rfl
theorem d9b:listD (.frz (.lst ds))=some ds:=rfl
theorem d9c:listD (.lst (ds.map .frz))=some ds:=a6c ds
theorem b0d:listD (.lst os)=frzL os:=rfl
theorem c7a:frzL []=some []:=rfl
theorem c7b:frzL (.frz d::os)=(frzL os).bind fun ds=>some (d::ds):=rfl
theorem a5w(a b:Int):oAdd [.frz (.int a),.frz (.int b)]=some (.frz (.int (a+b))):=rfl
theorem c0k(a b:Str):oAdd [.frz (.str a),.frz (.str b)]=if a.length+b.length<=1000000 then some (.frz (.str (a++b))) else none:=rfl
theorem c7c(a b:List O):oAdd [.lst a,.lst b]=(listD (.lst a)).bind fun xs=>(listD (.lst b)).bind fun ys=>if xs.length+ys.length<=1000000 then some (.lst ((xs++ys).map .frz)) else none:=rfl
theorem b2l(a:List O)(b:List D):oAdd [.lst a,.frz (.lst b)]=(listD (.lst a)).bind fun xs=>if xs.length+b.length<=1000000 then some (.lst ((xs++b).map .frz)) else none:=rfl
theorem b0e(a:List D)(b:List O):oAdd [.frz (.lst a),.lst b]=(listD (.lst b)).bind fun ys=>if a.length+ys.length<=1000000 then some (.lst ((a++ys).map .frz)) else none:=rfl
theorem a2n(C:Int->Int->Bool)(q:Int->Int->D)(a b:Int):oInt C q [.frz (.int a),.frz (.int b)]=if C a b=true then some (.frz (q a b)) else none:=rfl
theorem a9f(a b:Int):oMulA [.frz (.int a),.frz (.int b)]=if(-(2 ^ 64) < a/\a < 2 ^ 64)\/(-(2 ^ 64) < b/\b < 2 ^ 64) then some (.frz (.int (a * b))) else none:=rfl
theorem a3c(a:O):oIx [a,.frz d]=oIx1 a d:=rfl
theorem a8a(k:Int):oIx1 (.frz (.lst ds)) (.int k)=(atI ds k).map .frz:=rfl
theorem b5i(k:Int):oIx1 (.frz (.tup ds)) (.int k)=(atI ds k).map .frz:=rfl
theorem a5q(k:Int):oIx1 (.lst os) (.int k)=(atI os k).bind unfrz:=rfl
theorem a4l:unfrz (.frz d)=some (.frz d):=rfl
theorem b1w(a:O):oLen [a]=(lenD a.d).map fun n=>.frz (.int n):=rfl
theorem a9g:lenD (.lst ds)=some (ds.length:Int):=rfl
theorem d5z:lenD (.tup ds)=some (ds.length:Int):=rfl
theorem a2y(a b:O):oEq [a,b]=if okD 40 a.d=true/\okD 40 b.d=true then some (.frz (.bl (eqD a.d b.d))) else none:=rfl
theorem c7d(a:Bool):oInt1 [.frz (.bl a)]=some (.frz (.int (if a then 1 else 0))):=rfl
theorem a8d(ps:List O)(v:O)(k:Int):mSet (.lst ps) [v,.frz (.int k)]=(ixN ps.length k).map fun j=>(.lst (ps.set j v),.frz .non):=rfl
theorem a0w:a3l [] Γ=some ([],Γ):=rfl
theorem a0x(rs:List R):a3l (.own o::rs) Γ=(a3l rs Γ).bind fun p=>some (o::p.1,p.2):=rfl
theorem a1m(rs:List R):a3l (.var i::rs) Γ=match Γ[i]? with
  |some (some o)=>(a3l rs (Γ.set i none)).bind fun p=>some (o::p.1,p.2)
  |_=>none:=rfl
theorem a2b(fin:Gm):a5i [] fin Γ=Γ:=by cases fin <;> rfl
theorem a2c(rs:List R)(x:Option O)(fin:Gm):a5i (.own o::rs) (x::fin) Γ=a5i rs fin Γ:=rfl
theorem a4c(rs:List R)(x:Option O)(fin:Gm):a5i (.var i::rs) (x::fin) Γ=(a5i rs fin Γ).set i x:=rfl
theorem a0k:seeL Γ []=some []:=rfl
theorem a0l(r:R)(rs:List R):seeL Γ (r::rs)=(seeR Γ r).bind fun o=>(seeL Γ rs).bind fun os=>some (o::os):=rfl
theorem a0j:seeR Γ (.own o)=some o:=rfl
theorem a3q:seeR Γ (.var i)=(Γ[i]?).join:=rfl
theorem a1c:ownL []=some []:=rfl
theorem a1e(rs:List R):ownL (.own o::rs)=(ownL rs).bind fun os=>some (o::os):=rfl
theorem a5x(k:Int):intR (.own (.frz (.int k)))=some k:=rfl
theorem b0f(m:List Bool)(x:Option O):keepM (true::m) (x::Γ)=x::keepM m Γ:=rfl
theorem a3h(m:List Bool)(x:Option O):keepM (false::m) (x::Γ)=none::keepM m Γ:=rfl
theorem a3g(m:List Bool):keepM m []=[]:=by
 cases m with
 |nil=>rfl
 |cons b m=>cases b <;> rfl
theorem a4d:(Fl.rt o).val=some o:=rfl
theorem c7e:Fl.nx.val=some (.frz .non):=rfl
theorem a4q(b:Bool):truO (.frz (.bl b))=some b:=rfl
theorem c0l:truO (.frz (.lst ds))=some (!ds.isEmpty):=rfl
theorem a1i:(O.frz d).d=d:=rfl
theorem a4j:(O.lst os).d=.lst (O.dl os):=rfl
theorem b8m:(O.tup os).d=.tup (O.dl os):=rfl
theorem a2v:O.dl []=[]:=rfl
theorem a3d:O.dl (o::os)=o.d::O.dl os:=rfl
theorem a4z:O.dl (ds.map .frz)=ds:=a8u ds
end
theorem a5m{α:Type}(a:α)(l:List α):atI (a::l) 0=some a:=a5s (j:=0) rfl
theorem b0g{α:Type}(a b:α)(l:List α):atI (a::b::l) 1=some b:=a5s (j:=1) rfl
theorem d1s{α:Type}(a b c:α)(l:List α):atI (a::b::c::l) 2=some c:=a5s (j:=2) rfl
theorem b0h{α:Type}(a b c d:α)(l:List α):atI (a::b::c::d::l) 3=some d:=a5s (j:=3) rfl
theorem b6k{α:Type}(a b c d e:α)(l:List α):atI (a::b::c::d::e::l) 4=some e:=a5s (j:=4) rfl
theorem c7f(ns:List Int)(l u:Option Int):slO (.frz (.scr ns)) l u=some (.lst ((cutD (ns.map D.int) l u).map .frz)):=rfl
theorem c7g(i:Nat)(cap:List Nat)(Γ:Gm):srcV i cap Γ=if i∈cap then none else match Γ[i]? with
 |some (some (.lst os))=>(frzL os).map fun ds=>(ds,Γ)
 |_=>none:=rfl
theorem b0i(Γ:Gm):capIn [] Γ=([],Γ):=rfl
theorem d1t(i:Nat)(cap:List Nat)(Γ:Gm):capIn (i::cap) Γ=((Γ[i]?).join::(capIn cap (Γ.set i none)).1,(capIn cap (Γ.set i none)).2):=rfl
theorem b0j(x Γ:Gm):a8v [] x Γ=Γ:=by cases x <;> rfl
theorem d1u(i:Nat)(cap:List Nat)(x:Option O)(Γi Γ:Gm):a8v (i::cap) (x::Γi) Γ=(a8v cap Γi Γ).set i x:=rfl
theorem a5n(M:GM)(fs:GA)(Γ:Gm):b0c M fs Γ=(fs Γ).bind fun p=>(seeL p.2 p.1).bind fun os=>(M ((O.dl os).map .frz)).bind fun r=>match r.1 with
 |.frz d=>(a6k d).bind fun _=>some (.own (.frz d),p.2)
 |_=>none:=rfl
theorem a7c(a:Bool):a6k (.bl a)=some (.bl a):=rfl
theorem a1r(n:Nat)(a:Int):okD n (.int a)=true:=by cases n <;> rfl
theorem a2q(n:Nat)(a:Str):okD n (.str a)=true:=by cases n <;> rfl
theorem a2o(a b:Int):eqD (.int a) (.int b)=(a == b):=by unfold eqD;rfl
theorem a4e(a b:Str):eqD (.str a) (.str b)=(a == b):=by unfold eqD;rfl
theorem c7h(n:Nat)(i:Nat)(h:i < n):ixN n (i:Int)=some i:=by
 unfold ixN;rw[if_pos (by omega),if_pos (by omega)]
 rfl
end L2
namespace L2
open PySem PySem.Spec PyProof.Rows
section
variable {X:Cx} {pins:List (Addr×Obj)} {s:Shared} {σ:St} {H:Hp}
theorem d9d(I:Inv X pins σ H s){n m:Nat}{A:Around}{x y:V}{u v:Value}{d e:D}(rd:RepL X.K H [x] [d])(re:RepL X.K H [y] [e])(od:okD n d=true)(oe:okD m e=true)(ru:RelV x u)(rv:RelV y v)(hu:A.units+n < cLine):SeqAt.RcNeAt A s u v (!eqD d e):=by
 have hu0:A.units < cLine:=by omega
 have s1:=c1n I rd ru od;have s2:=c1n I re rv oe;cases s1 with
 |none=>
  cases s2 with
  |none=>
   simp only[eqD];exact SeqAt.RcNeAt.none_none
  |bool a2=>
   simp only[eqD];exact SeqAt.RcNeAt.none_bool a2
  |int a2 t2=>
   simp only[eqD];exact SeqAt.RcNeAt.none_int a2 t2
  |str a2 t2=>
   simp only[eqD];exact SeqAt.RcNeAt.none_str a2 t2
  |list l2 v2 r2=>
   simp only[eqD];exact SeqAt.RcNeAt.none_list l2 hu0
  |tuple l2 v2 r2=>
   simp only[eqD];exact SeqAt.RcNeAt.none_tuple l2 hu0
 |bool a1=>
  cases s2 with
  |none=>
   simp only[eqD];exact SeqAt.RcNeAt.bool_none a1
  |bool a2=>
   simp only[eqD];exact SeqAt.RcNeAt.bool_bool a1 a2
  |int a2 t2=>
   simp only[eqD];exact SeqAt.RcNeAt.bool_int a1 a2 t2
  |str a2 t2=>
   simp only[eqD];exact SeqAt.RcNeAt.bool_str a1 a2 t2
  |list l2 v2 r2=>
   simp only[eqD];exact SeqAt.RcNeAt.bool_list a1 l2 hu0
  |tuple l2 v2 r2=>
   simp only[eqD];exact SeqAt.RcNeAt.bool_tuple a1 l2 hu0
 |int a1 t1=>
  cases s2 with
  |none=>
   simp only[eqD];exact SeqAt.RcNeAt.int_none a1 t1
  |bool a2=>
   simp only[eqD];exact SeqAt.RcNeAt.int_bool a1 t1 a2
  |int a2 t2=>
   simp only[eqD];exact SeqAt.RcNeAt.int_int a1 t1 a2 t2
  |str a2 t2=>
   simp only[eqD];exact SeqAt.RcNeAt.int_str a1 t1 a2 t2
  |list l2 v2 r2=>
   simp only[eqD];exact SeqAt.RcNeAt.int_list a1 t1 l2 hu0
  |tuple l2 v2 r2=>
   simp only[eqD];exact SeqAt.RcNeAt.int_tuple a1 t1 l2 hu0
 |str a1 t1=>
  cases s2 with
  |none=>
   simp only[eqD];exact SeqAt.RcNeAt.str_none a1 t1
  |bool a2=>
   simp only[eqD];exact SeqAt.RcNeAt.str_bool a1 t1 a2
  |int a2 t2=>
   simp only[eqD];exact SeqAt.RcNeAt.str_int a1 t1 a2 t2
  |str a2 t2=>
   simp only[eqD];exact SeqAt.RcNeAt.str_str a1 t1 a2 t2
  |list l2 v2 r2=>
   simp only[eqD];exact SeqAt.RcNeAt.str_list a1 t1 l2 hu0
  |tuple l2 v2 r2=>
   simp only[eqD];exact SeqAt.RcNeAt.str_tuple a1 t1 l2 hu0
 |list l1 v1 r1=>
  cases s2 with
  |none=>
   simp only[eqD];exact SeqAt.RcNeAt.list_none l1 hu0
  |bool a2=>
   simp only[eqD];exact SeqAt.RcNeAt.list_bool a2 l1 hu0
  |int a2 t2=>
   simp only[eqD];exact SeqAt.RcNeAt.list_int a2 t2 l1 hu0
  |str a2 t2=>
   simp only[eqD];exact SeqAt.RcNeAt.list_str a2 t2 l1 hu0
  |list l2 v2 r2=>
   rename_i a its ws es b its2 ws2 es2
   obtain⟨n',rfl,od'⟩:=b1f od;obtain⟨m',rfl,oe'⟩:=b1f oe;have la:=v1.length;have lb:=v2.length;have la':=r1.length;have lb':=r2.length;simp only[eqD];by_cases hl:es.length=es2.length
   ·rw[a9z its.toArray.size (by simp only[List.size_toArray];omega) (by simp only[List.size_toArray];omega)]
    refine SeqAt.RcNeAt.lists (A:=A) l1 l2 (by simp only[List.size_toArray];omega) hu0 fun j h1 h2=>?_
    obtain⟨x1,q1,q2,q3⟩:=b1u r1 v1 h1;obtain⟨y1,p1,p2,p3⟩:=b1u r2 v2 h2;exact(b8i I n' m' q2 p2 (a6s od' q3) (a6s oe' p3) q1 p1 (by show A.units+1+n' < cLine;omega)).1
   ·rw[a9y hl];exact SeqAt.RcNeAt.lists_lengths (A:=A) l1 l2 (by simp only[List.size_toArray,bne_iff_ne,ne_eq];omega) hu0
  |tuple l2 v2 r2=>
   simp only[eqD];exact SeqAt.RcNeAt.list_tuple l1 l2 hu0
 |tuple l1 v1 r1=>
  cases s2 with
  |none=>
   simp only[eqD];exact SeqAt.RcNeAt.tuple_none l1 hu0
  |bool a2=>
   simp only[eqD];exact SeqAt.RcNeAt.tuple_bool a2 l1 hu0
  |int a2 t2=>
   simp only[eqD];exact SeqAt.RcNeAt.tuple_int a2 t2 l1 hu0
  |str a2 t2=>
   simp only[eqD];exact SeqAt.RcNeAt.tuple_str a2 t2 l1 hu0
  |list l2 v2 r2=>
   simp only[eqD];exact SeqAt.RcNeAt.tuple_list l1 l2 hu0
  |tuple l2 v2 r2=>
   rename_i a its ws es b its2 ws2 es2
   obtain⟨n',rfl,od'⟩:=b1g od;obtain⟨m',rfl,oe'⟩:=b1g oe;have la:=v1.length;have lb:=v2.length;have la':=r1.length;have lb':=r2.length;have z:=SeqAt.RcNeAt.tuples (A:=A) (e:=fun j=>eqD (es.getD j .non) (es2.getD j .non)) l1 l2 hu0 fun j h1 h2=>by
    obtain⟨x1,q1,q2,q3⟩:=b1u r1 v1 h1;obtain⟨y1,p1,p2,p3⟩:=b1u r2 v2 h2;exact(b8i I n' m' q2 p2 (a6s od' q3) (a6s oe' p3) q1 p1 (by show A.units+1+n' < cLine;omega)).1
   simp only[eqD];by_cases hl:es.length=es2.length
   ·rw[a9z its.toArray.size (by simp only[List.size_toArray];omega) (by simp only[List.size_toArray];omega)]
    have e1:its2.toArray.size=its.toArray.size:=by simp only[List.size_toArray];omega
    rw[e1,Nat.min_self,beq_self_eq_true,Bool.and_true] at z;exact z
   ·rw[a9y hl];have e1:(its.toArray.size == its2.toArray.size)=false:=by rw[beq_eq_false_iff_ne];simp only[List.size_toArray];omega
    rw[e1,Bool.and_false] at z;exact z
end
section
variable {X:Cx} {K:L2.FG}
def rNeA(K:L2.FG):R2:=fun x y H Q=>∃d e,RepL K H [x] [d]/\RepL K H [y] [e]/\okD 40 d=true/\okD 40 e=true/\Q (.bl (!eqD d e)) H
theorem c1y(K:L2.FG)(hu:X.A.units+40 < cLine)(hK:X.K=K:=by rfl):OpR X (compareOp .NotEq) (rNeA K):=by
 subst hK;intro pins s σ H x y v u Q I rx ry h;obtain⟨d,e,r1,r2,o1,o2,q⟩:=h;exact(d9d I r1 r2 o1 o2 rx ry hu) X.prog X.w _ _ ⟨.bl _,H,I,rfl,q⟩
def oNeA:List O->Option O
 |[a,b]=>if okD 40 a.d=true/\okD 40 b.d=true then some (.frz (.bl (!eqD a.d b.d))) else none
 |_=>none
theorem c1z:OpOk K (r2L (rNeA K)) oNeA:=by
 intro F H vs os o Q le see e res;unfold oNeA at e;split at e
 ·split at e
  ·cases e;obtain⟨x,y,B,C,rfl,h1,h2⟩:=see.two
   rename_i hh
   exact⟨_,_,rfl,_,_,a4n le h1,a4n le h2,hh.1,hh.2,res.flat rfl⟩
  ·cases e
 ·cases e
end
end L2
namespace L2
open PySem
variable{g:GG}{ct:GT}{ce:GE}
def a8q(g:GG)(ct:GT)(ce:GE)(d:D)(Γ:Gm):Option (Option R×Gm):=(g d Γ).bind fun Γ1=>(ct Γ1).bind fun p=>if p.1=true then(ce p.2).bind fun q=>some (some q.1,q.2) else some (none,p.2)
theorem b8n{d:D}{ds:List D}{Γ Γ':Gm}{os:List O}{r:Option R}(h:a8q g ct ce d Γ=some (r,Γ')):
  compLoop g ct ce (d::ds) Γ os=match r with
   |some r=>(ownL [r]).bind fun os'=>if os.length < 1000000 then compLoop g ct ce ds Γ' (os++os') else none
   |none=>compLoop g ct ce ds Γ' os:=by
 rw[c1x];unfold a8q at h;cases e1:g d Γ with
 |none=>rw[e1] at h;cases h
 |some Γ1=>
  rw[e1] at h;rw[Option.bind_some] at h ⊢;cases e2:ct Γ1 with
  |none=>rw[e2] at h;cases h
  |some p=>
   rw[e2] at h;rw[Option.bind_some] at h ⊢;by_cases hp:p.1=true
   ·rw[if_pos hp] at h ⊢;cases e3:ce p.2 with
    |none=>rw[e3] at h;cases h
    |some q=>rw[e3] at h;cases h;rfl
   ·rw[if_neg hp] at h ⊢;cases h;rfl
theorem b2m{α:Type}{g:GG}{ct:GT}{ce:GE}(St:Gm->Prop)(enc:α->D)(p:α->Bool)(val:α->D):∀(xs:List α) (acc:List D) (Γ:Gm),St Γ->acc.length+xs.length < 1000000->
  (∀x∈xs,∀Γ,St Γ->∃Γ',a8q g ct ce (enc x) Γ=some (if p x=true then some (.own (.frz (val x))) else none,Γ')/\St Γ')->
  ∃Γ',St Γ'/\compLoop g ct ce (xs.map enc) Γ (acc.map .frz)=some ((acc++(xs.filter p).map val).map .frz,Γ')
 |[],acc,Γ,hS,_,_=>⟨Γ,hS,by rw[List.map_nil,c6z,List.filter_nil,List.map_nil,List.append_nil]⟩
 |x::xs,acc,Γ,hS,hl,h=>by
  rw[List.length_cons] at hl;obtain⟨Γ1,e1,s1⟩:=h x (.head _) Γ hS;by_cases hp:p x=true
  ·rw[if_pos hp] at e1;rw[List.map_cons,b8n e1];obtain⟨Γ2,s2,e2⟩:=b2m St enc p val xs (acc++[val x]) Γ1 s1 (by rw[List.length_append,List.length_singleton];omega) fun y hy=>h y (.tail _ hy)
   refine⟨Γ2,s2,?_⟩;show(if(acc.map O.frz).length < 1000000 then compLoop g ct ce (xs.map enc) Γ1 (acc.map O.frz++[O.frz (val x)]) else none)=_
   rw[if_pos (by rw[List.length_map];omega),List.filter_cons_of_pos hp,List.map_cons,show acc++val x::(xs.filter p).map val=acc++[val x]++(xs.filter p).map val by simp,<-e2,List.map_append]
   rfl
  ·rw[if_neg hp] at e1;rw[List.map_cons,b8n e1];obtain⟨Γ2,s2,e2⟩:=b2m St enc p val xs acc Γ1 s1 (by omega) fun y hy=>h y (.tail _ hy)
   refine⟨Γ2,s2,?_⟩;rw[List.filter_cons_of_neg hp];exact e2
theorem c2a{α:Type}(St:Gm->Prop)(enc:α->D)(val:α->D)(xs:List α)(Γ:Gm)(hS:St Γ)(hl:xs.length < 1000000)
  (h:∀x∈xs,∀Γ,St Γ->∃Γ',a8q g ct ce (enc x) Γ=some (some (.own (.frz (val x))),Γ')/\St Γ'):∃Γ',St Γ'/\compLoop g ct ce (xs.map enc) Γ []=some ((xs.map val).map .frz,Γ'):=by
 obtain⟨Γ',s,e⟩:=b2m St enc (fun _=>true) val xs [] Γ hS (by rw[List.length_nil];omega) fun x hx Γ hΓ=>h x hx Γ hΓ
 refine⟨Γ',s,?_⟩;rw[List.nil_append,List.filter_eq_self.mpr (fun _ _=>rfl)] at e
 exact e
theorem b6l(g:GG)(ct:GT)(ce:GE)(d:D)(Γ:Gm):a8q g ct ce d Γ=(g d Γ).bind fun Γ1=>(ct Γ1).bind fun p=>if p.1=true then(ce p.2).bind fun q=>some (some q.1,q.2) else some (none,p.2):=rfl
theorem c2b(a b:Int):oNeA [.frz (.int a),.frz (.int b)]=some (.frz (.bl (!(a == b)))):=by
 unfold oNeA;simp[O.d,okD,eqD]
theorem d9e(a b:Str):oNeA [.frz (.str a),.frz (.str b)]=some (.frz (.bl (!(a == b)))):=by
 unfold oNeA;simp[O.d,okD,eqD]
theorem a7o{α:Type}{g:GG}{f:GS}(enc:α->D)(P:List α->Gm->Prop):∀(xs pre:List α) (Γ:Gm),P pre Γ->
  (∀q x post Γ,xs=q++x::post->P (pre++q) Γ->∃Γ2,(g (enc x) Γ).bind f=some (.nx,Γ2)/\P (pre++q++[x]) Γ2)->∃Γ',a2m g f (xs.map enc) Γ=some (.nx,Γ')/\P (pre++xs) Γ'
 |[],pre,Γ,h,_=>⟨Γ,rfl,by rw[List.append_nil];exact h⟩
 |x::xs,pre,Γ,h,st=>by
  obtain⟨Γ2,h2,h3⟩:=st [] x xs Γ rfl (by rw[List.append_nil];exact h)
  rw[List.append_nil] at h3;obtain⟨Γ',h4,h5⟩:=a7o enc P xs (pre++[x]) Γ2 h3 fun q y post Γ e p=>by
   obtain⟨Γ2,b,c⟩:=st (x::q) y post Γ (by rw[e];rfl) (by rw[show pre++x::q=pre++[x]++q by simp];exact p)
   exact⟨Γ2,b,by rw[show pre++[x]++q++[y]=pre++x::q++[y] by simp];exact c⟩
  refine⟨Γ',?_,by rw[show pre++x::xs=pre++[x]++xs by simp];exact h5⟩
  rw[List.map_cons,a6f];cases q:g (enc x) Γ with
  |none=>rw[q] at h2;cases h2
  |some Γ1=>
   rw[q] at h2;have h2:f Γ1=some (.nx,Γ2):=h2;show(f Γ1).bind _=_;rw[h2];exact h4
theorem d1v{α:Type}{f:GS}(enc:α->D)(P:Gm->Prop)(xs:List α)(Γ:Gm)(h:P Γ)(st:∀x∈xs,∀Γ,P Γ->∃Γ2,(g (enc x) Γ).bind f=some (.nx,Γ2)/\P Γ2):∃Γ',a2m g f (xs.map enc) Γ=some (.nx,Γ')/\P Γ':=
 a7o enc (fun _ Γ=>P Γ) xs [] Γ h fun q x post Γ e p=>st x (by rw[e];simp) Γ p
end L2
namespace L2
open PySem PySem.Spec PyProof.Rows
section
variable {X:Cx} {K:L2.FG} {fa fk fv:GE} {f:GS} {m:List Bool} {W:Option XW} {tg l:Expr} {t:TG} {gg:GG} {body:List Stmt} {p0 p1 pos:Pos}
end
variable{σ:St}{H F:Hp}{Q:VK}{L A ch:List Addr}{t' x1 n i k:Nat}{P:Program}{K:L2.FG}{elts:List Expr}{pos:Pos}{it l e C fa:Addr}{Src:Hp->Prop}{h h':Heap}{X:Cx}{dx:Option Addr}{vs:List V}{x qual:Str}{st:Stmt}{fd:FuncData}{N ps:List Str}{W:XW}{mN:Str->Option Value}
section
variable {X:Cx} {K:L2.FG} {fo f:GE} {fs:GA} {g:List O->Option O} {r:V->List V->Hp->VK->Prop} {o e:Expr} {es:List Expr} {name:Str} {id:String} {apos cpos pos:Pos}
def b0k(g:List O->Option O)(fo:GE)(fs:GA):GE:=fun Γ=>(fo Γ).bind fun p=>match p.1 with
 |.own (.frz (.str z))=>(fs p.2).bind fun q=>(seeL q.2 q.1).bind fun os=>(g (.frz (.str z)::os)).bind fun o=>some (.own o,q.2)
 |_=>none
theorem a6v(g:List O->Option O)(fo:GE)(fs:GA)(Γ:Gm):b0k g fo fs Γ=(fo Γ).bind fun p=>match p.1 with
 |.own (.frz (.str z))=>(fs p.2).bind fun q=>(seeL q.2 q.1).bind fun os=>(g (.frz (.str z)::os)).bind fun o=>some (.own o,q.2)
 |_=>none:=rfl
def rMeth(r:V->List V->Hp->VK->Prop):List V->Hp->VK->Prop:=fun vs H Q=>∃x xs,vs=x::xs/\r x xs H Q
theorem d1w(ok:OpOk K (rMeth r) g)(t:tG K (b0k g fo fs) σ H Q):tBM K "str" r (tG K fo) (tGA K fs) σ H Q:=by
 obtain⟨F,A,Γ,rr,Γ',k,e,w⟩:=t;unfold b0k at e;obtain⟨⟨r1,Γ1⟩,e1,e'⟩:=Option.bind_eq_some_iff.mp e;clear e;dsimp only at e';split at e'
 ·rename_i z
  obtain⟨⟨rs,Γ2⟩,e2,e3⟩:=Option.bind_eq_some_iff.mp e';obtain⟨os,e4,e5⟩:=Option.bind_eq_some_iff.mp e3;obtain⟨ob,e6,e7⟩:=Option.bind_eq_some_iff.mp e5;cases e7;refine⟨F,A,Γ,_,Γ1,k,e1,fun v H1 pp=>?_⟩
  have hv:v=.str z:=Post.flat pp rfl;subst hv;refine⟨rfl,?_⟩;obtain⟨F1,A1,x1,k1,hh⟩:=pp;obtain⟨B,C,h1,h2,h3⟩:=OwnL.one (σ:=σ) (Γ:=Γ1) k1.os;subst h3;obtain⟨k2,x2⟩:=k1.sub h2 (.of_sub (List.sublist_append_right _ _));refine⟨F1,C,Γ1,rs,_,k2,e2,fun vs H2 p2=>?_⟩
  have p3:Post K F H A σ Γ2 rs vs H2:=by
   obtain⟨F2,A2,x3,k3,hh3⟩:=p2;exact⟨F2,A2,(x1.trans x2).trans x3,k3,hh3⟩
  obtain⟨F3,le,see,res⟩:=p3.res e4 w;obtain⟨x,xs,exs,rr'⟩:=ok F3 H2 (.str z::vs) (.frz (.str z)::os) ob Q le (.cons ⟨[],.frz (.flat rfl .nil) .nil⟩ see) e6 res;cases exs;exact rr'
 ·cases e'
theorem b2n(slot:Slot "str" name id)(hty:typeOf (.builtin id)=pure (.type "method_descriptor"))(hm:MtM X id r)(ok:OpOk K (rMeth r) g)(ho:PE X o (tG K fo))(ha:PA X (e::es) (tGA K fs))
  (hbase:attributeBase o name X.env (eval o X.env)=eval o X.env:=by rfl)
  (hfew:((backTo cpos (starEach (e::es) X.env)).all (fun x => !x.1) && (backToKw cpos (keywordEach [] X.env)).all (fun x=>x.1.isSome)
   && decide ((e::es).length+([]:List Keyword).length+(if([]:List Keyword).isEmpty then 0 else 1) < 30))=true:=by rfl)
  (hline:(apos.endLine == cpos.line)=true:=by rfl) (hs:starEach (e::es) X.env=(false,eval e X.env)::starEach es X.env:=by rfl) (hplain:(backTo cpos (starEach es X.env)).any (·.1)=false:=by rfl) (hK:X.K=K:=by rfl) :
  PE X (.Call (.Attribute o name apos) (e::es) [] cpos) (tG K (b0k g fo fs)):=by
 subst hK;exact(d8q PySem.F.plainAttrs_str slot hty hm ho ha hbase hfew hline hs hplain).mono fun _ _ _ t=>d1w ok t
def strsD:List D->Option (List Str)
 |[]=>some []
 |.str x::ds=>(strsD ds).map fun xs=>x::xs
 |_=>none
theorem b3m:∀xs:List Str,strsD (xs.map .str)=some xs
 |[]=>rfl
 |i::is=>by rw[List.map_cons];show(strsD (is.map .str)).map _=_;rw[b3m is];rfl
theorem b8o:∀{ds:List D} {xs:List Str},strsD ds=some xs->ds=xs.map .str
 |[],xs,e=>by cases e;rfl
 |d::ds,xs,e=>by
  cases d with
  |str i=>
   obtain⟨js,e1,e2⟩:=Option.map_eq_some_iff.mp (show(strsD ds).map _=some xs from e);rw[<-e2,b8o e1];rfl
  |_=>cases e
theorem b3n{F:Hp}:∀{ws:List V} {xs:List Str},RepL K F ws (xs.map .str)->ws=xs.map .str
 |[],[],_=>rfl
 |[],_::_,h=>by have:=h.length;simp at this
 |_::_,[],h=>by have:=h.length;simp at this
 |w::ws,i::is,h=>by
  rw[List.map_cons] at h;have h1:=h.inv.1;have h2:=b3n h.inv.2;rw[h2,List.map_cons];cases h1 with
  |flat e _=>cases e;rfl
theorem b1j:∀{xs:List Str} {its:List Value},Vals (xs.map V.str) its->∃ps:List (Str×Tok),its=ps.map (fun p=>Value.str p.1 p.2)/\ps.map (·.1)=xs
 |[],its,h=>by
  rw[List.map_nil] at h;cases h;exact⟨[],rfl,rfl⟩
 |i::is,its,h=>by
  rw[List.map_cons] at h;cases h with
  |cons r t=>
   obtain⟨ps,e1,e2⟩:=b1j t;obtain⟨tk,rfl⟩:=r;exact⟨(i,tk)::ps,by rw[e1];rfl,by rw[List.map_cons,e2]⟩
def rJoin(K:L2.FG):V->List V->Hp->VK->Prop:=fun x xs H Q=>∃z a ys,x=.str z/\xs=[.ref a]/\SqL K H a (ys.map V.str)/\JoinOk z ys=true/\Q (.str (Txt.join z ys)) H
theorem c7i(K:L2.FG)(hK:X.K=K:=by rfl):MtM X "str.join" (rJoin K):=by
 subst hK;intro pins s σ H x xs v us Q I rx rs h;obtain⟨z,a,ys,rfl,rfl,hq,hj,q⟩:=h;obtain⟨t,rfl⟩:=rx;obtain⟨u,rfl,ru⟩:=vals1 rs;cases ru;obtain⟨its,rv,p,hz⟩:=I.list hq;obtain⟨ps,e1,e2⟩:=b1j rv;subst e1;exact SC.join (l:=ps) p.isList e2 hj fun t' k=>⟨.str (Txt.join z ys),H,I.tok _,⟨_,rfl⟩,q⟩
def oJoin:List O->Option O
 |[.frz (.str z),o]=>(listD o).bind fun ds=>(strsD ds).bind fun ys=>if JoinOk z ys=true then some (.frz (.str (Txt.join z ys))) else none
 |_=>none
theorem c7j:OpOk K (rMeth (rJoin K)) oJoin:=by
 intro F H vs os o Q le see e res;unfold oJoin at e;split at e
 ·rename_i z o'
  obtain⟨ds,e1,e2⟩:=Option.bind_eq_some_iff.mp e;obtain⟨ys,e3,e4⟩:=Option.bind_eq_some_iff.mp e2;split at e4
  ·rename_i hj
   cases e4;obtain⟨x,y,B,C,rfl,h1,h2⟩:=see.two;obtain⟨a,ws,rfl,sq,ri⟩:=a9x le h2 e1;rw[b8o e3] at ri;have:=b3n ri;subst this;cases a1h h1 rfl;exact⟨_,_,rfl,z,a,ys,rfl,rfl,sq,hj,res.flat rfl⟩
  ·cases e4
 ·cases e
theorem d1x(z:Str)(ys:List Str):oJoin [.frz (.str z),.frz (.lst (ys.map .str))]=if JoinOk z ys=true then some (.frz (.str (Txt.join z ys))) else none:=by
 show((listD (.frz (.lst (ys.map .str)))).bind fun ds=>(strsD ds).bind fun ys=>if JoinOk z ys=true then some (O.frz (.str (Txt.join z ys))) else none)=_
 rw[d9b,Option.bind_some,b3m,Option.bind_some]
theorem d1y(z:Str)(ys:List Str):oJoin [.frz (.str z),.lst ((ys.map D.str).map .frz)]=if JoinOk z ys=true then some (.frz (.str (Txt.join z ys))) else none:=by
 show((listD (.lst ((ys.map D.str).map .frz))).bind fun ds=>(strsD ds).bind fun ys=>if JoinOk z ys=true then some (O.frz (.str (Txt.join z ys))) else none)=_
 rw[d9c,Option.bind_some,b3m,Option.bind_some]
theorem c7k:CallR X (.type "str") (fun xs H Q=>∃i:Int,xs=[.int i]/\i.natAbs.log2 < 1920/\Q (.str (Str.ofString (toString i))) H):=by
 intro pins s σ H xs us Q I r h;obtain⟨i,rfl,hi,q⟩:=h;obtain⟨u,rfl,ru⟩:=vals1 r;obtain⟨t,rfl⟩:=ru;exact P.str_of_int hi ⟨.str (Str.ofString (toString i)),H,I.tok _,⟨_,rfl⟩,q⟩
def oStr1:List O->Option O
 |[.frz (.int i)]=>if i.natAbs.log2 < 1920 then some (.frz (.str (Str.ofString (toString i)))) else none
 |_=>none
theorem d6a:OpOk K (fun xs H Q=>∃i:Int,xs=[.int i]/\i.natAbs.log2 < 1920/\Q (.str (Str.ofString (toString i))) H) oStr1:=by
 intro F H vs os o Q le see e res;unfold oStr1 at e;split at e
 ·split at e
  ·rename_i hi
   cases e;obtain⟨x,B,rfl,h1⟩:=see.one;cases a1h h1 rfl;exact⟨_,rfl,hi,res.flat rfl⟩
  ·cases e
 ·cases e
theorem c7l(i:Int):oStr1 [.frz (.int i)]=if i.natAbs.log2 < 1920 then some (.frz (.str (Str.ofString (toString i)))) else none:=rfl
def oFmt:List O->Option O
 |[.frz (.str x)]=>if x.length<=1000000 then some (.frz (.str x)) else none
 |[.frz (.int i)]=>if i.natAbs.log2 < 1920 then some (.frz (.str (Str.ofString (toString i)))) else none
 |_=>none
theorem b3o(x:Str):oFmt [.frz (.str x)]=if x.length<=1000000 then some (.frz (.str x)) else none:=rfl
theorem c7m{v:Expr}(h:PE X v (tG K f)):PE X (.FormattedValue v (-1) none pos) (tG K (gUn oFmt f)):=by
 intro pins s σ H Q I t;have ok:OpOk K (r1L fun x H Q=>(∃z:Str,x=.str z/\z.length<=sizeLine/\Q (.str z) H)\/∃i:Int,x=.int i/\i.natAbs.log2 < 1920/\Q (.str (Str.ofString (toString i))) H) oFmt:=by
  intro F H vs os o Q le see e res;unfold oFmt at e;split at e
  ·split at e
   ·rename_i hi
    cases e;obtain⟨x,B,rfl,h1⟩:=see.one;cases a1h h1 rfl;exact⟨_,rfl,.inl ⟨_,rfl,ml hi,res.flat rfl⟩⟩
   ·cases e
  ·split at e
   ·rename_i hi
    cases e;obtain⟨x,B,rfl,h1⟩:=see.one;cases a1h h1 rfl;exact⟨_,rfl,.inr ⟨_,rfl,hi,res.flat rfl⟩⟩
   ·cases e
  ·cases e
 refine wpAny_FormattedValue_plain (thn (h pins s σ H _ I (d5l ok t)) fun u s1 ⟨x,H1,I1,r1,q1⟩=>?_)
 rcases q1 with⟨z,rfl,hz,q⟩|⟨i,rfl,hi,q⟩
 ·obtain⟨t',rfl⟩:=r1;exact PyProof.Rows.formatField_str (fun t2 tk=>⟨.str z,H1,I1.tok _,⟨_,rfl⟩,q⟩) hz
 ·obtain⟨t',rfl⟩:=r1;exact wpAny_formatField_int hi ⟨.str _,H1,I1.tok _,⟨_,rfl⟩,q⟩
abbrev GJ:=Gm->Option (Str×Gm)
def gjNil:GJ:=fun Γ=>some (Str.empty,Γ)
def a7i(f:GE)(j:GJ):GJ:=fun Γ=>(f Γ).bind fun p=>match p.1 with
 |.own (.frz (.str z))=>(j p.2).bind fun q=>some (z++q.1,q.2)
 |_=>none
def b1k(j:GJ):GE:=fun Γ=>(j Γ).bind fun p=>if p.1.length<=1000000 then some (.own (.frz (.str p.1)),p.2) else none
theorem b6m(Γ:Gm):gjNil Γ=some (Str.empty,Γ):=rfl
theorem b0l(f:GE)(j:GJ)(Γ:Gm):a7i f j Γ=(f Γ).bind fun p=>match p.1 with
 |.own (.frz (.str z))=>(j p.2).bind fun q=>some (z++q.1,q.2)
 |_=>none:=rfl
theorem a8e(j:GJ)(Γ:Gm):b1k j Γ=(j Γ).bind fun p=>if p.1.length<=1000000 then some (.own (.frz (.str p.1)),p.2) else none:=rfl
def PJ(X:Cx)(K:L2.FG)(es:List Expr)(j:GJ):Prop:=∀(acc:Str) (pins:List (Addr×Obj)) (s:Shared) (σ:St) (H:Hp) (Q:Str->Hp->Prop) (R:Str->Shared->Prop) (F:Hp) (A:List Addr) (Γ Γ':Gm) (z:Str),Inv X pins σ H s->OK K F H σ Γ A->j Γ=some (z,Γ')->acc.length+z.length<=sizeLine->
 (∀H',Post K F H A σ Γ' [] [] H'->Q (acc++z) H')->(∀out s' H',out.length<=sizeLine->Inv X pins σ H' s'->Q out H'->R out s')->Joins (model X.prog X.w) X.A X.xe (evalEach es X.env) acc R s
theorem b2e(a:Str):a++Str.empty=a:=by
 show Str.mk (a.cps++#[])=a;rw[Array.append_empty]
theorem c2c:PJ X K [] gjNil:=by
 intro acc pins s σ H Q R F A Γ Γ' z I k e hl q hR;cases e;have q':=q H ⟨F,A,Ext.refl,k,True.intro⟩;rw[b2e] at q';exact Joins_nil (hR _ _ _ (by omega) I q')
theorem a5l{es:List Expr}{j:GJ}(he:PE X e (tG K f))(hj:PJ X K es j):PJ X K (e::es) (a7i f j):=by
 intro acc pins s σ H Q R F A Γ Γ' z I k e1 hl q hR;unfold a7i at e1;obtain⟨⟨r1,Γ1⟩,e2,e3⟩:=Option.bind_eq_some_iff.mp e1;dsimp only at e3;split at e3
 ·rename_i y
  obtain⟨⟨z2,Γ2⟩,e4,e5⟩:=Option.bind_eq_some_iff.mp e3;cases e5;rw[Str.length_append] at hl;dsimp only at hl;refine Joins_cons (thn (he pins s σ H (fun v H1=>v=.str y/\Post K F H A σ Γ1 [.own (.frz (.str y))] [v] H1) I ⟨F,A,Γ,_,Γ1,k,e2,fun v H1 pp=>⟨Post.flat pp rfl,pp⟩⟩) fun u s1 ⟨x,H1,I1,r1,hx,pp⟩=>?_)
  subst hx;obtain⟨t,rfl⟩:=r1;refine⟨y,t,rfl,by rw[Str.length_append];omega,?_⟩
  obtain⟨F1,A1,x1,k1,hh⟩:=pp;obtain⟨B,C,h1,h2,h3⟩:=OwnL.one (σ:=σ) (Γ:=Γ1) k1.os;subst h3;obtain⟨k2,x2⟩:=k1.sub h2 (.of_sub (List.sublist_append_right _ _));refine hj (acc++y) pins s1 σ H1 Q R F1 C Γ1 Γ2 z2 I1 k2 e4 (by rw[Str.length_append];omega) (fun H' p2=>?_) hR
  rw[Str.append_assoc];apply q;obtain⟨F2,A2,x3,k3,hh3⟩:=p2;exact⟨F2,A2,(x1.trans x2).trans x3,k3,hh3⟩
 ·cases e3
theorem b0m{v1 v2:Expr}{rest:List Expr}{j:GJ}(h:PJ X K (v1::v2::rest) j):PE X (.JoinedStr (v1::v2::rest) pos) (tG K (b1k j)):=by
 intro pins s σ H Q I t;obtain⟨F,A,Γ,rr,Γ',k,e,w⟩:=t;unfold b1k at e;obtain⟨⟨z,Γ1⟩,e2,e3⟩:=Option.bind_eq_some_iff.mp e;dsimp only at e3;split at e3
 ·rename_i hl
  cases e3;have eacc:Str.empty++z=z:=by
   show Str.mk (#[]++z.cps)=z;rw[Array.empty_append]
  refine wpAny_JoinedStr (h Str.empty pins s σ H (fun out H'=>out=z/\∃v,v=V.str z/\Q v H') _ F A Γ Γ' z I k e2 (by have:Str.empty.length=0:=rfl;rw[this];have:=ml hl;omega) (fun H' pp=>⟨eacc,_,rfl,w _ _ (by
   obtain⟨F1,A1,x1,k1,hh⟩:=pp;exact⟨F1,A1,x1,⟨k1.le,.frz (.flat rfl .nil) k1.os,k1.nd,k1.fr⟩,True.intro⟩)⟩) ?_)
  rintro out s' H' h1 I' ⟨h2,v,hv,hQ⟩;subst hv;subst h2;exact⟨h1,.str out,H',I'.tok _,⟨_,rfl⟩,hQ⟩
 ·cases e3
end
section
variable {X:Cx} {pins:List (Addr×Obj)} {σ:List (Option V)} {H:Hp} {s:Shared} {h':Heap}
theorem Inv.turnLay{T:Addr}{o:HO}(I:Inv X pins σ H s)(k:∀b ob,b∉L->s.heap.get? b=some ob->h'.get? b=some ob)(hL:∀b∈L,FpOk X pins H b)(hT:s.heap.objs.size<=T)
  (new:ObjOk X.prog X.w (upd H T o) h' T o):Inv X pins σ (upd H T o) { s with heap:=h',toks:=t'}:=by
 have hn:H T=none:=I.hok.fresh hT;have nL:∀b u,H b=some u->b∉L:=fun b u e z=>by rw[(hL b z).1] at e;cases e
 have nT:∀b u,H b=some u->b≠T:=fun b u e z=>by rw[z,hn] at e;cases e
 refine I.step (g':=s.gens) (d':=s.drawn) (ch:=L) (fun b hb=>?_) (fun b ob _ _ hc e _=>k b ob hc e) (fun b ob _ _ hc e _=>⟨ob.slots,k b ob hc e⟩) (fun b ob _ e n=>?_)
  (fun b ob hc e=>⟨ob,k b ob hc e⟩) (fun b xs e=>?_) (fun b ob u e=>?_) (fun b ps e=>⟨#[],?_⟩) (fun m hm=>?_) (fun b u e=>?_) I.bare
 ·obtain⟨f0,f1,f2,f3,f4,f5⟩:=hL b hb;exact⟨f3,f1,f4,f5⟩
 ·rw[a0v (fun z=>by subst z;exact absurd (Nat.lt_of_lt_of_le (Heap.lt_size e) hT) (Nat.lt_irrefl _))];exact n
 ·rw[a0v (nT b _ e)];exact e
 ·rw[a0v (nT b _ e)];exact e
 ·rw[a0v (nT b _ e),e];simp
 ·obtain⟨ob,es,ep,ho,r⟩:=hm;exact⟨ob,es,ep,k _ ob (fun z=>(hL _ z).2.1 rfl) ho,r⟩
 ·by_cases hb:b=T
  ·subst hb;rw[a1l] at e;cases e;exact new
  ·rw[a0v hb] at e;refine(I.hok b u e).stay (fun c v hc q=>k c v ?_ q) (fun c q=>by rw[a0v (nT c _ q)];exact q) fun c xs q=>by rw[a0v (nT c _ q)];exact q
   rcases hc with z|z
   ·rw[z];exact nL b u e
   ·exact nL c _ z
theorem Inv.turnL(I:Inv X pins σ H s)(k:∀b ob,b∉L->s.heap.get? b=some ob->h'.get? b=some ob)(hL:∀b∈L,FpOk X pins H b):Inv X pins σ H { s with heap:=h',toks:=t'}:=by
 have nL:∀b u,H b=some u->b∉L:=fun b u e z=>by rw[(hL b z).1] at e;cases e
 refine I.step (g':=s.gens) (d':=s.drawn) (ch:=L) (fun b hb=>?_) (fun b ob _ _ hc e _=>k b ob hc e) (fun b ob _ _ hc e _=>⟨ob.slots,k b ob hc e⟩) (fun b ob _ e n=>n)
  (fun b ob hc e=>⟨ob,k b ob hc e⟩) (fun b xs e=>e) (fun b ob u e=>e) (fun b ps e=>⟨#[],by rw[e];simp⟩) (fun m hm=>?_) (fun b u e=>?_) I.bare
 ·obtain⟨f0,f1,f2,f3,f4,f5⟩:=hL b hb;exact⟨f3,f1,f4,f5⟩
 ·obtain⟨ob,es,ep,ho,r⟩:=hm;exact⟨ob,es,ep,k _ ob (fun z=>(hL _ z).2.1 rfl) ho,r⟩
 ·refine(I.hok b u e).stay (fun c v hc q=>k c v ?_ q) (fun c q=>q) fun c xs q=>q
  rcases hc with z|z
  ·rw[z];exact nL b u e
  ·exact nL c _ z
end
def ItP(Src:Hp->Prop)(n:Nat)(val:Nat->List V->Prop):It:=
 ⟨fun i H=>i < n/\Src H,fun i H x H'=>∃p ws,x=.ref p/\H p=none/\val i ws/\H'=upd H p (.tup ws),fun i H=>n<=i/\Src H⟩
theorem c7n{w:World}{FP wr:List Addr}{val:Nat->List V->Prop}{tn:Nat->Heap->Prop}(mem:it∈FP)(sub:∀b∈wr,b∈FP)
  (obj:∀i h,tn i h->∀b∈FP,∃o,h.get? b=some o/\∀v,o.data≠.cell v) (keep:∀i h h',tn i h->(∀b∈FP,∀o,h.get? b=some o->h'.get? b=some o)->tn i h')
  (hW:∀(X:Cx),X.prog=P->X.w=w->X.K=K->X.calm=true->∀(pins:List (Addr×Obj)) (s:Shared) (σ:St) (H:Hp),Inv X pins σ H s->Src H->∃(fpW:List Addr) (Pt:Nat->Array Value->Prop) (St:Nat->Heap->Prop) (Mid:Nat->Addr->Heap->Prop),
   WalksT P w X.A it fpW wr n Pt St Mid/\(∀i,tn i s.heap->St i s.heap)/\(∀i h,St i h->tn i h)/\∀i vals,Pt i vals->∃ws,val i ws/\Vals ws vals.toList/\ws.length<=10)
  (self:∀(A:Around) (i:Nat) (s:Shared) (Q:Value->Shared->Prop) (E:Value->Shared->Prop),tn i s.heap->Q (.ref it) s->wpAny (model P w) A (pyIter (.ref it)) Q E s) :
  Turn P w K (.Tuple elts x1 pos) (ItP Src n val) FP it (fun i h=>i<=n/\tn i h) where
 mem:=mem
 obj:=fun i h st=>obj i h st.2
 keep:=fun i h h' st k=>⟨st.1,keep i h h' st.2 k⟩
 item:=by
  intro X hP hw hK hc i pins s σ H E I hf st hg;obtain⟨fpW,Pt,St,Mid,W,toSt,ofSt,pv⟩:=hW X hP hw hK hc pins s σ H I hg.2;subst hP hw hK;refine W.item i s _ E hg.1 (toSt i st.2) fun T vals h1 tk hPt hsz hTup hMid hk1=>?_
  refine⟨.ref T,rfl,W.go elts x1 pos i T _ _ E hMid fun h2 hSt hk2=>?_⟩
  obtain⟨ws,hv,rv,hwl⟩:=pv i vals hPt;have hT2:IsTup h2 T vals:=by
   obtain⟨o,e,c⟩:=hTup;exact⟨o,hk2 T o (W.apart i T h1 hMid) e,c⟩
  have hn:H T=none:=I.hok.fresh hsz;have I2:Inv X pins σ (upd H T (.tup ws)) { s with heap:=h2,toks:=tk}:=I.turnLay (L:=wr) (fun b ob hb e=>hk2 b ob hb (hk1 b ob hb e)) (fun b hb=>hf b (sub b hb)) hsz ⟨by rw[sizeLine_eq];omega,vals.toList,rv,by simpa using hT2⟩
  refine⟨.ref T,_,I2,rfl,⟨T,ws,rfl,hn,hv,rfl⟩,⟨by have:=hg.1;omega,ofSt _ _ hSt⟩,fun b hb=>?_⟩
  have hb0:=(hf b hb).1;rw[a0v]
  ·exact hb0
  ·intro z;subst z;obtain⟨o,e,_⟩:=obj i s.heap st.2 b hb;exact absurd (Nat.lt_of_lt_of_le (Heap.lt_size e) hsz) (Nat.lt_irrefl _)
 done:=by
  intro X hP hw hK hc i pins s σ H E I hf st hg;obtain⟨fpW,Pt,St,Mid,W,toSt,ofSt,pv⟩:=hW X hP hw hK hc pins s σ H I hg.2;subst hP hw hK;have ei:i=n:=by have:=hg.1;have:=st.1;omega
  subst ei;exact W.done s _ E (toSt i st.2) fun h2 tk hk=>⟨rfl,I.turnL (L:=wr) (fun b ob hb e=>hk b ob hb e) fun b hb=>hf b (sub b hb)⟩
 self:=fun A i s Q E st h=>self A i s Q E st.2 h
theorem d1z{val:Nat->List V->Prop}{g:TG}{tb:TS}{D:Ends}(Pv:Nat->St->Hp->Prop)(h0:Pv 0 σ H)(hl:∀i σ H,i<=n->Pv i σ H->Src H)
  (hs:∀i p ws σ H,i < n->H p=none->val i ws->Pv i σ H->g (.ref p) σ (upd H p (.tup ws)) fun σ2 H2=>tb { D with nx:=Pv (i+1),ct:=Pv (i+1),bk:=D.nx} σ2 H2) (hd:∀σ H,Pv n σ H->D.nx σ H) :
  ∃W:Nat->Nat->St->Hp->Prop,(∃m,W 0 m σ H)/\∀i m σ H,W i m σ H->
   ((ItP Src n val).stop i H/\D.nx σ H)\/((ItP Src n val).go i H/\∃N:St->Hp->Prop,(∀σ' H',N σ' H'->∃m',m' < m/\W (i+1) m' σ' H')/\∀x H',(ItP Src n val).yld i H x H'->g x σ H' fun σ2 H2=>tb { D with nx:=N,ct:=N,bk:=D.nx} σ2 H2):=by
 refine⟨fun i m σ H=>m=n - i/\i<=n/\Pv i σ H,⟨n,by simp,Nat.zero_le _,h0⟩,?_⟩
 rintro i m σ H ⟨rfl,hi,p⟩;have q:=hl i σ H hi p;by_cases hlt:i < n
 ·refine .inr ⟨⟨hlt,q⟩,Pv (i+1),fun σ' H' p'=>⟨n - (i+1),by omega,rfl,hlt,p'⟩,fun x H' y=>?_⟩
  obtain⟨pp,ws,rfl,hn,hv,rfl⟩:=y;exact hs i pp ws σ H hlt hn hv p
 ·have e:i=n:=by omega
  subst e;exact .inl ⟨⟨Nat.le_refl _,q⟩,hd σ H p⟩
theorem d2a{a:Addr}(p:h.IsListIter a l i):∃o,h.get? a=some o/\∀v,o.data≠.cell v:=by
 obtain⟨o,e,_,d⟩:=p;exact⟨o,e,fun v z=>by rw[d] at z;cases z⟩
def valE(xs:List V)(i:Nat)(ws:List V):Prop:=∃x,xs[i]?=some x/\ws=[.int i,x]
theorem c7o{w:World}(n1:e≠it)(n2:l≠e)(n3:l≠it)(xs:List V):
  Turn P w K (.Tuple elts x1 pos) (ItP (fun H=>SqL K H l xs) xs.length (valE xs)) [e,it] e (fun i h=>i<=xs.length/\((∃old,IsEnum h e it (i:Int) old)/\h.IsListIter it l i)):=by
 refine c7n (FP:=[e,it]) (wr:=[e,it]) (by simp) (fun b hb=>hb) (fun i h st b hb=>?_) (fun i h h' st k=>?_) (fun X hP hw hK hc pins s σ H I hS=>?_) (fun A i s Q E st h=>?_)
 ·obtain⟨⟨old,s1⟩,s2⟩:=st;simp only[List.mem_cons,List.not_mem_nil,or_false] at hb;rcases hb with rfl|rfl
  ·exact⟨_,s1,fun v z=>by cases z⟩
  ·exact d2a s2
 ·obtain⟨⟨old,s1⟩,s2⟩:=st;exact⟨⟨old,k e (by simp) _ s1⟩,s2.at fun o q=>k it (by simp) o q⟩
 ·subst hP hw hK;obtain⟨its1,rv1,p1,_⟩:=I.list hS;have e1:=rv1.length;have W:=WalksT.enumerate (prog:=X.prog) (w:=X.w) (A:=X.A) (I.ok.hd hc) e it l n1 n2 n3 its1.toArray;rw[show its1.toArray.size=xs.length by rw[List.size_toArray,<-e1]] at W
  refine⟨_,_,_,_,W,fun i st=>?_,fun i h st=>?_,fun i vals hp=>?_⟩
  ·exact⟨st.1,st.2,p1.isList⟩
  ·exact⟨st.1,st.2.1⟩
  ·obtain⟨t,u,hu,rfl⟩:=hp;have hu:its1[i]?=some u:=by simpa using hu
   have hi1:i < xs.length:=by have:=(List.getElem?_eq_some_iff.mp hu).1;omega
   obtain⟨u',hu',ru⟩:=rv1.get (List.getElem?_eq_getElem hi1);rw[hu] at hu';cases hu';exact⟨[.int i,xs[i]],⟨_,List.getElem?_eq_getElem hi1,rfl⟩,.cons ⟨t,rfl⟩ (.cons ru .nil),by show 2<=10;decide⟩
 ·obtain⟨old,s1⟩:=st.1;exact wpAny_pyIter_enum s1 h
def iEnum(K:L2.FG)(ta:TA):TI:=fun σ H R=>ta σ H fun vs H1=>∃a xs,vs=[.ref a]/\SqL K H1 a xs/\R (ItP (fun H=>SqL K H a xs) xs.length (valE xs)) H1
theorem d6b{tpos:Pos}{a:Expr}{ta:TA}{p:Pos}(hg:Gl X "enumerate")(hm:X.mg "enumerate"=none)(ha:PA X [a] ta)(hs:starEach [a] X.env=[(false,eval a X.env)]:=by rfl):
  PI X (.Tuple elts x1 tpos) (.Call (.Name "enumerate" p) [a] [] pos) (iEnum X.K ta):=by
 intro pins s σ H R I h;refine Call_ (b7m I hg hm PyProof.Rows.Boot.enumerate (PyProof.Rows.callWith_type1 (thn (ha pos pins s σ H _ I h) fun us s1 hh=>?_) hs rfl))
 obtain⟨vs,H1,I1,r1,q1⟩:=hh;obtain⟨l1,xs,e,hq1,q⟩:=q1;subst e;cases r1 with
 |cons r rr=>
  cases rr;cases r;obtain⟨its1,rv1,p1,_⟩:=I1.list hq1;refine call_enumerate_list p1.isList fun h' z1 z2 z3 z4=>?_
  have L1:l1 < s1.heap.objs.size:=by obtain⟨o,n,e,_⟩:=p1;exact Heap.lt_size e
  refine wpAny_pyIter_enum z1 ?_;refine⟨s1.heap.objs.size+1,[s1.heap.objs.size+1,s1.heap.objs.size],_,_,H1,rfl,I1.kept (t':=s1.toks) z4,c7o (e:=s1.heap.objs.size+1) (it:=s1.heap.objs.size) (l:=l1) (Nat.ne_of_gt (by omega)) (Nat.ne_of_lt (Nat.lt_of_lt_of_le L1 (Nat.le_add_right _ _))) (Nat.ne_of_lt L1) xs,⟨Nat.zero_le _,⟨_,z1⟩,z2⟩,fun b hb=>?_,q⟩
  simp only[List.mem_cons,List.not_mem_nil,or_false] at hb;have hb':s1.heap.objs.size<=b:=by rcases hb with rfl|rfl <;> omega
  exact I1.fpOk hb' (I1.hok.fresh hb')
section
variable {X:Cx} {K:L2.FG} {fa fb:GE} {f:GS} {m:List Bool} {W:Option XW} {l l':Expr} {elts:List Expr} {x1:Nat} {tpos:Pos} {t:TG} {gg:GG} {body:List Stmt} {p0 p1 pos:Pos}
theorem d6c{Γ:Gm}{p:Addr}{ws:List V}(k:OK K F H σ Γ A)(hn:H p=none):OK K (upd F p (.tup ws)) (upd H p (.tup ws)) σ Γ A/\Ext F H A (upd F p (.tup ws)) (upd H p (.tup ws)) A:=by
 have hF:F p=none:=k.le.free hn;have np:∀a∈A,a≠p:=fun a m z=>k.os.there a m (by rw[z];exact hn)
 refine⟨⟨fun a o e=>?_,k.os.keep (a3k hF) fun a m o e=>by rw[a0v (np a m)];exact e,k.nd,fun a m=>by rw[a0v (np a m)];exact k.fr a m⟩,⟨a3k hF,fun a o e _=>a3k hn a o e,fun a h z=>h ((a3k hn).free z),fun a h=>?_,fun a m=>.inl m,.same (a3k hn)⟩⟩
 ·by_cases z:a=p
  ·subst z;rw[a1l] at e ⊢;exact e
  ·rw[a0v z] at e ⊢;exact k.le a o e
 ·by_cases z:a=p
  ·subst z;exact .inr (.inr hn)
  ·rw[a0v z] at h;exact .inl h
theorem LI.tup{m:List Bool}{W:Option XW}{gg:GG}{f:GS}{t:TG}{F1 H1:Hp}{σ:St}{ds es:List D}{i:Nat}{E:Ends}{fl:Fl}{Γ':Gm}{p:Addr}{us:List V}(q:LI K m W gg f E F1 fl Γ' ds i σ H1)(ht:TgOk K m t gg)(hn:H1 p=none)(hd:ds[i]?=some (.tup es))(r:RepL K F1 us es):
  t (.ref p) σ (upd H1 p (.tup us)) fun σ2 H2=>tS K m W f { E with nx:=LI K m W gg f E F1 fl Γ' ds (i+1),ct:=LI K m W gg f E F1 fl Γ' ds (i+1),bk:=E.nx} σ2 H2:=by
 obtain⟨F',A',Γc,k',e',w',s'⟩:=q;obtain⟨k2,x2⟩:=d6c (ws:=us) k' hn;have s2:Same F1 (upd F' p (.tup us)):=s'.trans x2.ff;obtain⟨hi,he⟩:=List.getElem?_eq_some_iff.mp hd;rw[List.drop_eq_getElem_cons hi,he] at e';exact b8e ht k2 (.tup (.inl (.inl a1l)) (r.mono s2) .nil) e' (w'.step x2 Kept.refl) fun F2 H2 σ2 Γ3 A2 x3 k3 e3 w3=>⟨F2,A2,Γ3,k3,e3,w3,s2.trans x3.ff⟩
def enumD(ds:List D):List D:=(List.range ds.length).zipWith (fun(i:Nat) d=>D.tup [.int i,d]) ds
def b8p(fa:GE)(gg:GG)(f:GS):GS:=fun Γ=>(gFrz fa Γ).bind fun p=>match p.1 with
 |.own (.frz (.lst ds))=>a2m gg f (enumD ds) p.2
 |_=>none
theorem b3p(fa:GE)(gg:GG)(f:GS)(Γ:Gm):b8p fa gg f Γ=(gFrz fa Γ).bind fun p=>match p.1 with
 |.own (.frz (.lst ds))=>a2m gg f (enumD ds) p.2
 |_=>none:=rfl
theorem c7p(hp:PassesOwn (model X.prog X.w) X.A X.env X.xe)(hm:X.mg "enumerate"=none)(hi:PE X l (tG K fa))(hg:PG X (.Tuple elts x1 tpos) t)(ht:TgOk K m t gg)(hb:PSs X body (tS K m W f))(hc:X.calm=true:=by rfl)(hgl:Gl X "enumerate":=by rfl)(hst:starEach [l] X.env=(false,eval l X.env)::starEach [] X.env:=by rfl)(hst2:starEach [l] X.env=[(false,eval l X.env)]:=by rfl)(hK:X.K=K:=by rfl)(hs:∀x,foldedSetIterable (.Call (.Name "enumerate" p0) [l] [] p1) X.env x=pure x:=by intro _;rfl):PS X (.For (.Tuple elts x1 tpos) (.Call (.Name "enumerate" p0) [l] [] p1) body [] pos) (tS K m W (b8p fa gg f)):=by
 subst hK;refine(c4w hp hc (d6b hgl hm (a0a (a1j hi) a0i hst) hst2) hg hb hs).mono fun De σ H tt=>?_
 obtain⟨F,A,Γ,fl,Γ',k,e,w⟩:=tt;unfold b8p at e;obtain⟨⟨r1,Γ1⟩,q1,e'⟩:=Option.bind_eq_some_iff.mp e;clear e;dsimp only at e';split at e'
 ·rename_i ds
  refine⟨F,A,Γ,[.own (.frz (.lst ds))],Γ1,k,by rw[a0d,q1];rfl,fun vs H1 pp=>?_⟩
  obtain⟨F1,A1,x,k1,hh⟩:=pp;have hlv:=hh.length;obtain⟨v1,rfl⟩:=d1f hlv;obtain⟨rp1,st⟩:=LI.start k1 x w e';obtain⟨a,ws1,rfl,sq1,ri1⟩:=c5w rp1;have hl1:=ri1.length;refine⟨a,ws1,rfl,.inl (k1.le.rd sq1),d1z (LI X.K m W gg f De F1 fl Γ' (enumD ds)) st (fun i σ' H' _ p=>.inl (p.same.rd sq1)) ?_ fun σ' H' p=>p.fin (by unfold enumD;rw[List.length_zipWith,List.length_range,hl1,Nat.min_self];exact Nat.le_refl _)⟩
  rintro i p ws σ' H' hlt hn ⟨u1,hu1,rfl⟩ q;have hi1:i < ds.length:=by omega
  obtain⟨y1,hy1,ry1⟩:=ri1.get (i:=i) (d:=ds[i]) (List.getElem?_eq_getElem hi1);rw[hu1] at hy1;cases hy1;exact q.tup ht hn (by unfold enumD;rw[List.getElem?_zipWith,List.getElem?_range hi1,List.getElem?_eq_getElem hi1]) (.flat rfl (.cons ry1 .nil))
 ·cases e'
end
section
variable {X:Cx} {K:L2.FG} {fa fo:GE} {fs:GA} {f:GS} {m:List Bool} {W:Option XW} {e o:Expr} {es:List Expr} {tg:Expr} {t:TG} {gg:GG} {pos apos cpos:Pos} {name:Str} {idn:String} {g:List O->Option O} {r:V->List V->Hp->VK->Prop}
def c2d:List D->Option (List Bool)
 |[]=>some []
 |.bl b::ds=>(c2d ds).map fun bs=>b::bs
 |_=>none
theorem b5j:∀{ds:List D} {bs:List Bool},c2d ds=some bs->ds=bs.map .bl
 |[],bs,e=>by cases e;rfl
 |d::ds,bs,e=>by
  cases d with
  |bl i=>
   obtain⟨js,e1,e2⟩:=Option.map_eq_some_iff.mp (show(c2d ds).map _=some bs from e);rw[<-e2,b5j e1];rfl
  |_=>cases e
theorem b5k{F:Hp}:∀{ws:List V} {bs:List Bool},RepL K F ws (bs.map .bl)->ws=bs.map .bl
 |[],[],_=>rfl
 |[],_::_,h=>by have:=h.length;simp at this
 |_::_,[],h=>by have:=h.length;simp at this
 |w::ws,i::is,h=>by
  rw[List.map_cons] at h;have h1:=h.inv.1;have h2:=b5k h.inv.2;rw[h2,List.map_cons];cases h1 with
  |flat e _=>cases e;rfl
def c2e(q:List Bool->Bool):List O->Option O
 |[o]=>(listD o).bind fun ds=>(c2d ds).bind fun bs=>some (.frz (.bl (q bs)))
 |_=>none
theorem c2f(q:List Bool->Bool):OpOk K (fun xs H Q=>∃(a:Addr) (bs:List Bool),xs=[.ref a]/\SqL K H a (bs.map V.bl)/\Q (.bl (q bs)) H) (c2e q):=by
 intro F H vs os o Q le see e res;unfold c2e at e;split at e
 ·obtain⟨ds,e1,e2⟩:=Option.bind_eq_some_iff.mp e;obtain⟨bs,e3,e4⟩:=Option.bind_eq_some_iff.mp e2;cases e4;obtain⟨x,B,rfl,h1⟩:=see.one;obtain⟨a,ws,rfl,sq,ri⟩:=a9x le h1 e1;rw[b5j e3] at ri;have:=b5k ri;subst this;exact⟨a,bs,rfl,sq,res.flat rfl⟩
 ·cases e
theorem b8q(K:L2.FG)(hc:X.calm=true:=by rfl)(hK:X.K=K:=by rfl):CallR X (.builtin "all") (fun xs H Q=>∃(a:Addr) (bs:List Bool),xs=[.ref a]/\SqL K H a (bs.map V.bl)/\Q (.bl (bs.all id)) H):=hK ▸ c5l hc
def c7q(z:Str):Value->Bool
 |.str y _=>y == z
 |_=>false
def findS(ys:List Str)(z:Str):Option Nat:=ys.findIdx? (· == z)
theorem b5l{ys:List Str}{z:Str}{j:Nat}(e:findS ys z=some j):ys[j]?=some z/\∀i y,i < j->ys[i]?=some y->y≠z:=by
 unfold findS at e;rw[List.findIdx?_eq_some_iff_getElem] at e;obtain⟨h,h1,h2⟩:=e;refine⟨by rw[List.getElem?_eq_getElem h];congr 1;exact eq_of_beq h1,fun i y hi ey=>?_⟩
 have:=h2 i hi;obtain⟨hl,e3⟩:=List.getElem?_eq_some_iff.mp ey;rw[e3] at this;intro z';subst z';simp at this
end
structure CXr (P:Program) (w:World) (outer:List Env) (H:Hp) (s:Shared) (H':Hp) (s':Shared) (e C:Addr) (dx:Option Addr):Prop where
 os:s'.os=s.os
 bare:AllBare s'.gens
 un:Un (frs outer) [] H H' s.heap s'.heap
 hok:HOk P w H' s'.heap
 fly:FlyX s.heap.objs.size s'.heap H' e C dx
def CX1(P:Program)(w:World):CXT:=fun outer H s E e s'=>∃a C dx H',e=.ref a/\CXr P w outer H s H' s' a C dx/\E (.ref C) dx H'
def XPass(X:Cx)(W:XW):Prop:=∀(pins:List (Addr×Obj)) (σ:St) (H:Hp) (s:Shared) (H':Hp) (s':Shared) (e C:Addr) (dx:Option Addr),Inv X pins σ H s->CXr X.prog X.w X.stack H s H' s' e C dx->W C dx σ H'->X.xe (.ref e) s'
theorem FlyX.mono{n':Nat}(f:FlyX n h H e C dx)(l:n'<=n):FlyX n' h H e C dx:=by
 obtain⟨a,b,oe,vs,c1,c2,c3,c4,c5,c6⟩:=f;refine⟨Nat.le_trans l a,b,oe,vs,c1,c2,c3,c4,c5,?_⟩;rcases c6 with c6|⟨T,oT,ts,d1,d2,d3⟩
 ·exact .inl c6
 ·exact .inr ⟨T,oT,ts,d1,Nat.le_trans l d2,d3⟩
theorem FlyX.lt(f:FlyX n h H e C dx):n<=h.objs.size:=by
 obtain⟨a,b,oe,vs,c1,_⟩:=f;exact Nat.le_of_lt (Nat.lt_of_le_of_lt a (Heap.lt_size c1))
theorem CXr.inv{pins:List (Addr×Obj)}{H':Hp}{s s':Shared}(c:CXr X.prog X.w X.stack H s H' s' e C dx)(I:Inv X pins σ H s):Inv X pins σ H' s':=
 I.call' (ch:=[]) c.os c.un c.hok c.bare fun _ z=>nomatch z
theorem LeftX.hok{w:World}{fs:List Addr}(l:LeftX fs ch h h')(k:HOk P w H h)(hf:∀b∈fs,H b=none)(hc:∀b∈ch,H b=none):HOk P w H h':=fun b o q=>
 (k b o q).stay (fun c u z g=>l.keep c u (fun m=>by
  have:=hf c m;rcases z with z|z
  ·rw[z,q] at this;cases this
  ·rw[z] at this;cases this) (fun m=>by
  have:=hc c m;rcases z with z|z
  ·rw[z,q] at this;cases this
  ·rw[z] at this;cases this) g) (fun _ z=>z) fun _ _ z=>z
theorem LeftX.any{fs:List Addr}(l:LeftX fs ch h h'){b:Addr}{o:Obj}(g:h.get? b=some o)(hc:b∉ch):∃sl,h'.get? b=some { o with slots:=sl}:=by
 by_cases m:b∈fs
 ·exact l.slot b o m hc g
 ·exact⟨o.slots,l.keep b o m hc g⟩
def WF(E:XK):XW:=fun C dx _ H'=>E (.ref C) dx H'
section
variable {P:Program} {w:World} {K:L2.FG} {mg:Str->Option Value} {base:Heap} {N:List Str} {qual:Str} {scope:Scope} {f:Addr} {cd:Value} {A:Around} {outer:List Env} {s₀:Shared} {H₀:Hp} {E:XK}
theorem a5a:XPass (cxOf (CX1 P w) P w K mg base N qual scope f cd A outer s₀ H₀ E) (WF E):=by
 intro pins σ H s H' s' e C dx I c q;have I':=c.inv I;have hfr:(A.deeper (envOfC qual scope s₀.heap.objs.size f cd)).frames=some (envOfC qual scope s₀.heap.objs.size f cd::outer):=I.ok.frames;have sz:s₀.heap.objs.size<=s.heap.objs.size:=I.sz;refine d5j (base:=base) (L:=s₀.heap.objs.size) hfr I'.stack rfl c.fly.lt (fun a z=>I'.hok.fresh z) c.fly fun h' ch hch lx fl=>⟨e,C,dx,H',rfl,⟨I'.os,I'.bare,?_,lx.hok I'.hok I'.stkFree fun b m=>(hch b m).2,fl.mono sz⟩,q⟩
 have nch:∀b o,s₀.heap.get? b=some o->b∉ch:=fun b o g m=>absurd (Nat.lt_of_lt_of_le (Heap.lt_size g) (Nat.le_trans sz (hch b m).1)) (Nat.lt_irrefl _)
 have nL:∀b o,s₀.heap.get? b=some o->b∉frs outer->b∉frs (envOfC qual scope s₀.heap.objs.size f cd::outer):=fun b o g z m=>by
  rcases List.mem_cons.mp (show b∈s₀.heap.objs.size::frs outer from m) with m|m
  ·exact absurd (m ▸ Heap.lt_size g) (Nat.lt_irrefl _)
  ·exact z m
 have B:Un (frs outer) [] H₀ H' s₀.heap s'.heap:=I'.base;refine⟨fun b o g n hb hx=>lx.keep b o (nL b o g hb) (nch b o g) (B.keep b o g n hb hx),fun b o g n hb hx=>?_,B.free,fun b o g hx=>?_,B.tups,B.frzs,B.tbls⟩
 ·obtain⟨sl,g1⟩:=B.slot b o g n hb hx;obtain⟨sl',g2⟩:=lx.any g1 (nch b o g);exact⟨sl',g2⟩
 ·obtain⟨o',g1⟩:=B.there b o g hx;obtain⟨sl,g2⟩:=lx.any g1 (nch b o g);exact⟨_,g2⟩
theorem c4d:PassesOwn (model P w) (A.deeper (envOfC qual scope s₀.heap.objs.size f cd)) (envOfC qual scope s₀.heap.objs.size f cd) (cxOf (CX1 P w) P w K mg base N qual scope f cd A outer s₀ H₀ E).xe:=PassesOwn.leaving
end
def PostD(K:L2.FG)(F H:Hp)(A:List Addr)(vs:List V)(fin:Gm)(l:Option Int)(dx:Option Addr)(H':Hp):Prop:=∃F' A',Ext F H A F' H' A'/\OK K F' H' (vs.map some) fin A'/\ExcL F' dx l
def SpX(K:L2.FG)(n:Nat)(M:GM):Sp:=fun vs H Q E=>vs.length=n/\∃F A os o fin,OK K F H (vs.map some) (os.map some) A/\M os=some (o,fin)/\match isX o with
 |none=>∀v H',PostC K F H A vs fin o v H'->Q v H'
 |some p=>∀dx H',PostD K F H A vs fin p.2 dx H'->E (.ref p.1) dx H'
section
variable {P:Program} {w:World} {K:L2.FG} {mg:Str->Option Value} {base:Heap}
theorem OK.params0{m:List Bool}{σ':St}{Γ':Gm}{rest:St}(k:OK K F H σ' Γ' A)(hl:vs.length<=σ'.length)(kp:Kept m (vs.map some++rest) σ')(hm:m.length<=vs.length):
  ∃B,OK K F H (vs.map some) (keepM m (Γ'.take vs.length)) B/\Ext F H A F H B:=by
 obtain⟨k2,x2⟩:=k.push (v:=.non) (o:=.frz .non) (Av:=[]) (Same.refl _) (.frz (.flat rfl .nil) .nil) .nil (fun _ m=>by cases m)
 obtain⟨B,k3,x3⟩:=OK.params k2 hl kp hm;obtain⟨C,k4,sub⟩:=OK.part (τ:=[some V.non]) (Θ:=[some (O.frz .non)]) k3 rfl;exact⟨C,k4,(x2.trans x3).own' sub⟩
theorem c4e(m:List Bool)(f:GS)(Fn:Fun K x qual st fa fd)(S:FnScope N ps (a0s st))(hm:m.length<=ps.length)
  (hbody:∀(cdv:Value) (A:Around) (outer:List Env) (s:Shared) (H:Hp) (E:XK),Room k (A.deeper (envOfC qual (a0s st) s.heap.objs.size fa cdv))->
   PSs (cxOf (CX1 P w) P w K mg base N qual (a0s st) fa cdv A outer s H E) (a7b st) (tS K m (some (WF E)) f)):FnOk P w K mg base (CX1 P w) (k+1) fa fd ps (SpX K ps.length (runM N.length m f)):=by
 obtain⟨oc,od,kV,doc,pm,an,cdv,ct,osl,rfl,lk,hcd⟩:=Fn.ex;refine d8k lk hcd S (fun vs H Q E h=>h.1) fun A outer s H vs Q E hr h=>⟨_,hbody cdv A outer s H E hr,?_⟩
 obtain⟨hl,F,A0,os,o,fin,k0,e,q⟩:=h;have hlo:vs.length=os.length:=by have:=k0.os.length;simpa using this
 have hN:ps.length<=N.length:=by have:=congrArg List.length S.pre;rw[List.length_take] at this;omega
 obtain⟨⟨fl,Γ'⟩,q1,e⟩:=Option.bind_eq_some_iff.mp e;obtain⟨o',q2,e⟩:=Option.bind_eq_some_iff.mp e;dsimp only at e q2;split at e
 ·rename_i hlen
  cases e;have k1:OK K F H (start N vs) (os.map some++List.replicate (N.length - os.length) none) A0:=by
   unfold start;rw[hlo];have z:=k0.os.app (a9u (K:=K) (F:=F) (H:=H) (N.length - os.length));rw[List.append_nil] at z;exact⟨k0.le,z,k0.nd,k0.fr⟩
  refine⟨F,A0,_,fl,Γ',k1,q1,?_⟩;have fin':isX o=none->∀{F' H':Hp} {A':List Addr} {v:V} {σ':St},Ext F H A0 F' H' A'->OK K F' H' (some v::σ') (some o::Γ') A'->Kept m (start N vs) σ'->Q v H':=by
   intro hx F' H' A' v σ' x k' kp;rw[hx] at q;unfold start at kp;have hs:σ'.length=Γ'.length:=by have:=k'.os.length;simpa using this
   obtain⟨B,k2,x2⟩:=OK.params (m:=m) (vs:=vs) k' (by omega) kp (by omega)
   rw[hlo] at k2;exact q v H' ⟨F',B,x.trans x2,k2⟩
  cases fl with
  |nx=>
   cases q2;intro σ' H' ⟨F',A',x,k',kp⟩;obtain⟨k2,x2⟩:=k'.push (v:=.non) (o:=.frz .non) (Av:=[]) (Same.refl _) (.frz (.flat rfl .nil) .nil) .nil (fun _ m=>by cases m)
   exact fin' rfl (x.trans x2) k2 kp
  |rt o1=>
   cases q2;show DoneR K m _ F H A0 _ o Γ' (some (WF E));unfold DoneR;cases hx:isX o with
   |none=>
    intro v σ' H' ⟨F',A',x,k',kp⟩;exact fin' hx x k' kp
   |some p=>
    rw[hx] at q;intro dx σ' H' ⟨F',A',x,k',kp,el⟩;unfold start at kp;have hs:σ'.length=Γ'.length:=k'.os.length;obtain⟨B,k2,x2⟩:=OK.params0 (m:=m) (vs:=vs) k' (by omega) kp (by omega)
    rw[hlo] at k2;exact q dx H' ⟨F',B,x.trans x2,k2,el⟩
  |bk=>cases q2
  |ct=>cases q2
 ·cases e
theorem a9h(m:List Bool)(f:GS)(Fn:Fun K x qual st fa fd)(S:FnScope N ps (a0s st)){pn:Nat}(hn:N.length=n)(hp:ps.length=pn)(hm:m.length<=ps.length)
  (hbody:∀(cdv:Value) (A:Around) (outer:List Env) (s:Shared) (H:Hp) (E:XK),Room k (A.deeper (envOfC qual (a0s st) s.heap.objs.size fa cdv))->
   ∃f',PSs (cxOf (CX1 P w) P w K mg base N qual (a0s st) fa cdv A outer s H E) (a7b st) (tS K m (some (WF E)) f')/\f'=f):FnOk P w K mg base (CX1 P w) (k+1) fa fd ps (SpX K pn (runM n m f)):=by
 subst hn hp;exact c4e m f Fn S hm fun cdv A outer s H E hr=>by
  obtain⟨f',h,e⟩:=hbody cdv A outer s H E hr;rw[<-e];exact h
end
def EW(W:XW):St->XK:=fun σ c dx H'=>∃C,c=.ref C/\W C dx σ H'
theorem passW(h:XPass X W):c1a (CX1 X.prog X.w) X (EW W):=fun pins σ H s e s' I ⟨a,C,dx,H',he,c,C',hc,q⟩=>by
 cases hc;subst he;exact h pins σ H s H' s' a C dx I c q
section
variable {K:L2.FG} {F H:Hp} {σ:St}
theorem c7r{F1 H1:Hp}{rs:List R}{os:List O}{Γ1 Γ2:Gm}{A1:List Addr}(k1:OK K F1 H1 (vs.map some++σ) (rs.map R.o++Γ1) A1)(hh:Held σ H1 rs vs)(q2:a3l rs Γ1=some (os,Γ2)):
  ∃A4,OK K F1 H1 (vs.map some) (os.map some) A4/\∀F5 H' A5 (τ:St) (Θ:Gm) fin,τ.length=Θ.length->Ext F1 H1 A4 F5 H' A5->OK K F5 H' (τ++vs.map some) (Θ++fin) A5->∃A7,Ext F1 H1 A1 F5 H' A7/\OK K F5 H' (τ++σ) (Θ++a5i rs fin Γ2) A7:=by
 have hl:(vs.map some).length=(rs.map R.o).length:=by rw[List.length_map,List.length_map,hh.length]
 obtain⟨B,C,h1,h2,h3⟩:=OwnL.split hl k1.os;subst h3;obtain⟨B',C',j1,j2,j3⟩:=a9v h1 h2 hh q2;have k2:OK K F1 H1 (vs.map some++σ) (os.map some++Γ2) (B'++C'):=.perm (j1.app j2) k1.le k1.nd k1.fr j3;obtain⟨A3,p3,k3⟩:=k2.swap j1.length;obtain⟨A4,k4,fr⟩:=k3.frame j2.length;refine⟨A4,k4,fun F5 H' A5 τ Θ fin hτ x5 k5=>?_⟩
 obtain⟨A6,x6,k6⟩:=fr _ _ _ _ _ x5 k5;obtain⟨D1,D2,g1,g2,g3⟩:=OwnL.split j2.length k6.os;subst g3;obtain⟨D3,D4,g4,g5,g6⟩:=OwnL.split hτ g2;subst g6;obtain⟨D5,g7,g8⟩:=b2g g5 g1 (hh.att x6.att);have s1:SubP (D3++D5) (D1++(D3++D4)):=by
  refine((SubP.refl D3).app g8).trans (.of_perm ?_);rw[<-List.append_assoc];exact List.perm_append_comm
 obtain⟨k7,x7⟩:=k6.sub (g4.app g7) s1;have x3:Ext F1 H1 (B++C) F1 H1 A3:=Ext.own' Ext.refl fun a m=>j3.mem_iff.mp (p3.mem_iff.mp m)
 exact⟨D3++D5,(x3.trans x6).trans x7,k7⟩
def a7d(f:GE):GS:=fun Γ=>(f Γ).bind fun p=>match p.1 with
 |.own o=>match isX o with
  |some _=>some (.rt o,p.2)
  |none=>some (.nx,p.2)
 |_=>none
def c7s(i:Nat)(f:GE):GS:=fun Γ=>(f Γ).bind fun p=>match p.1 with
 |.own o=>match isX o with
  |some _=>some (.rt o,p.2)
  |none=>if i < p.2.length then some (.nx,p.2.set i (some o)) else none
 |_=>none
def PostE(K:L2.FG)(F H:Hp)(A:List Addr)(σ:St)(Γ':Gm)(W:XW)(Q:VK)(o:O):Prop:=match isX o with
 |none=>∀v H',(∃F' A',Ext F H A F' H' A'/\OK K F' H' (some v::σ) (some o::Γ') A')->Q v H'
 |some p=>∀dx H',(∃F' A',Ext F H A F' H' A'/\OK K F' H' σ Γ' A'/\ExcL F' dx p.2)->W p.1 dx σ H'
def tGX(K:L2.FG)(W:XW)(f:GE):TE:=fun σ H Q=>∃F A Γ o Γ',OK K F H σ Γ A/\f Γ=some (.own o,Γ')/\PostE K F H A σ Γ' W Q o
theorem d2b{M:GM}{fs:GA}(t:tGX K W (gCall M fs) σ H Q)(hn:∀rs Γ Γ',fs Γ=some (rs,Γ')->rs.length=n):tCall (SpX K n M) [] (EW W) (tGA K fs) σ H Q:=by
 obtain⟨F,A,Γ,o,Γ',k,e,w⟩:=t;obtain⟨⟨rs,Γ1⟩,q,e⟩:=Option.bind_eq_some_iff.mp e;obtain⟨⟨os,Γ2⟩,q2,e⟩:=Option.bind_eq_some_iff.mp e;obtain⟨⟨o',fin⟩,q3,e⟩:=Option.bind_eq_some_iff.mp e;cases e;refine⟨F,A,Γ,rs,Γ1,k,q,fun vs H1 pp=>?_⟩
 show SpX K n M (vs++[]) H1 Q (EW W σ);rw[List.append_nil];obtain⟨F1,A1,x,k1,hh⟩:=pp;obtain⟨A4,k4,back⟩:=c7r k1 hh q2;refine⟨by rw[<-hh.length];exact hn rs Γ Γ1 q,F1,A4,os,o',fin,k4,q3,?_⟩
 unfold PostE at w;cases hx:isX o' with
 |none=>
  rw[hx] at w;intro v H' ⟨F5,A5,x5,k5⟩;obtain⟨A7,x7,k7⟩:=back F5 H' A5 [some v] [some o'] fin rfl x5 k5;exact w v H' ⟨F5,A7,x.trans x7,k7⟩
 |some p=>
  rw[hx] at w;intro dx H' ⟨F5,A5,x5,k5,el⟩;obtain⟨A7,x7,k7⟩:=back F5 H' A5 [] [] fin rfl x5 k5;exact⟨p.1,rfl,w dx H' ⟨F5,A7,x.trans x7,k7,el⟩⟩
variable {X:Cx} {m:List Bool} {W:XW} {e:Expr} {fa:GE} {pos:Pos}
theorem a7p(he:PE X e (tGX K W fa))(hs:swapsWith e none pos.line X.env=pure false:=by rfl):PS X (.Expr e pos) (tS K m (some W) (a7d fa)):=(b9u he hs).mono fun D σ H t=>by
 obtain⟨F,A,Γ,fl,Γ',k,e,w⟩:=t;obtain⟨⟨r,Γ1⟩,q,e⟩:=Option.bind_eq_some_iff.mp e;cases r with
 |var _=>cases e
 |fld _ _=>cases e
 |own o=>
  dsimp only at e;refine⟨F,A,Γ,o,Γ1,k,q,?_⟩;unfold PostE;cases hx:isX o with
  |some p=>
   rw[hx] at e;cases e;have w:DoneR K m D F H A σ o _ (some W):=w;unfold DoneR at w;rw[hx] at w;exact fun dx H' ⟨F',A',x,k',el⟩=>w dx σ H' ⟨F',A',x,k',Kept.refl,el⟩
  |none=>
   rw[hx] at e;cases e;intro v H' ⟨F',A',x,k'⟩;obtain⟨B,kB,sub⟩:=OK.part (τ:=[some v]) (Θ:=[some o]) k' rfl;exact w σ H' ⟨F',B,x.own' sub,kB,Kept.refl⟩
theorem d6d{pos':Pos}(hN:X.N.Nodup)(hi:X.N[i]?=some x)(hx:Loc X.env.scope x)(he:PE X e (tGX K W fa))(hm:(m[i]? == some true)=false:=by rfl)(hs:swapsWith e (some (.Name x pos')) pos.line X.env=pure false:=by rfl)(hf:X.fn x=true\/X.env.scope.names.lookup x=some .local := by first|exact .inl rfl|exact .inr rfl):
  PS X (.Assign [.Name x pos'] e pos) (tS K m (some W) (c7s i fa)):=(c4t hN hi hx he hs hf).mono fun D σ H t=>by
 obtain⟨F,A,Γ,fl,Γ',k,e,w⟩:=t;obtain⟨⟨r,Γ1⟩,q,e⟩:=Option.bind_eq_some_iff.mp e;cases r with
 |var _=>cases e
 |fld _ _=>cases e
 |own o=>
  dsimp only at e;refine⟨F,A,Γ,o,Γ1,k,q,?_⟩;unfold PostE;cases hx:isX o with
  |some p=>
   rw[hx] at e;cases e;have w:DoneR K m D F H A σ o _ (some W):=w;unfold DoneR at w;rw[hx] at w;exact fun dx H' ⟨F',A',x,k',el⟩=>w dx σ H' ⟨F',A',x,k',Kept.refl,el⟩
  |none=>
   rw[hx] at e;dsimp only at e;split at e
   ·cases e;intro v H' ⟨F',A',x,k'⟩;obtain⟨B,k2,x2⟩:=OK.store (σ:=σ) (Γ:=Γ1) k' (by assumption)
    exact w _ H' ⟨F',B,x.trans x2,k2,Kept.set hm⟩
   ·cases e
variable {k n:Nat} {f:Addr} {fd:FuncData} {ps:List Str} {x:Str} {p:Pos} {es:List Expr} {fs:GA} {st:Stmt} {M:GM}
theorem a6w(D:DefAt X.K X.mg x st f fd ps)(Fn:FnOk X.prog X.w X.K X.mg X.base (CX1 X.prog X.w) k f fd ps (SpX K n M))(hr:Room k X.A)(hp:XPass X W)(ha:PA X (e::es) (tGA K fs))(hn:∀rs Γ Γ',fs Γ=some (rs,Γ')->rs.length=n)(hg:Gl X x:=by rfl)(hdb:(x == ("__debug__":Str))=false:=by decide)
  (he:starEach (e::es) X.env=(false,eval e X.env)::starEach es X.env:=by rfl) (hpl:(backTo pos (starEach es X.env)).any (·.1)=false:=by rfl) :
  PE X (.Call (.Name x p) (e::es) [] pos) (tGX K W (gCall M fs)):=(c5a Fn hr hg D.mg D.fn.kp D.bd .nil (passW hp) ha hdb he hpl).mono fun _ _ _ t=>d2b t hn
end
section
variable {prog:Program} {w:World} {A:Around} {E:Value->Shared->Prop} {h:Heap} {g:Array GenState} {d:Drawn} {t:Nat} {os:OsState}
variable {nm q:Str} {C N:Addr} {bs bm bmB:List Value} {hdct:Bool} {sn:List Str} {sub:List Value} {ab:Bool} {col:Option Bool} {dd:Option Addr} {k0 k1 k2 k3 k5:Option Value} {B Bn newId nid initId inN:String} {bmN:List Value}
theorem tcall(Fn:ExcBaseFacts Bn newId inN bmN)(hBn:bmB.contains (.type Bn)=true)(F:ExcBaseFacts B nid initId bmB)(T:OwnTail h bmB bm){rest:List Value}{Q:Fin->Shared->Prop}
  (hC:h.get? C=some (excClassObj nm q C N bs bm hdct sn sub ab col dd k0 k1 k2 k3 k5 newId)) (hn:h.Ns N mN) (hrest:rest.length<=sizeLine)
  (hq:∀i,i=(mN "__init__").getD (.builtin initId)->wpAny (model prog w) A (bindSpecial i (.ref (h.objs.size+1))) (fun p s'=>wpAny (model prog w) A (call p.1 (p.2++rest)) (fun r s''=>r=.none/\Q (.done (.ret (.ref (h.objs.size+1)))) s'') E s') E ⟨((h.push { cls:=.type "tuple",data:=.seq rest.toArray}).push { cls:=.ref C,data:=.fields #[.ref h.objs.size,.none,.none,.none,.bool false,.none]}),g,d,t,os⟩) :
  wpAny (model prog w) A (Builtin.«type.__call__» ⟨.ref C::rest,[]⟩) Q E ⟨h,g,d,t,os⟩:=by
 repeat (first|with_reducible refine wpAny_loadPart_at hC ?_|with_reducible refine wpAny_madeBy_exc hC ?_|wp_step)
 refine codeAny_call_builtin_code (Code.quiet_builtin _ Fn.quiet) (wpAny_check_new_subU Fn hBn T hC (codeAny_exc_new_subU Fn hBn F T hC ?_ hrest));show wpAny _ _ _ _ _ _;have st:∀b o,h.get? b=some o->((h.push { cls:=.type "tuple",data:=.seq rest.toArray}).push { cls:=.ref C,data:=.fields #[.ref h.objs.size,.none,.none,.none,.bool false,.none]}).get? b=some o:=fun b o e=>Heap.get?_push_of_some _ (Heap.get?_push_of_some _ e)
 have hC₁:=st _ _ hC;have hget:((h.push { cls:=.type "tuple",data:=.seq rest.toArray}).push { cls:=.ref C,data:=.fields #[.ref h.objs.size,.none,.none,.none,.bool false,.none]}).get? (h.objs.size+1)=some { cls:=.ref C,data:=.fields #[.ref h.objs.size,.none,.none,.none,.bool false,.none]}:=by heap_get
 have hcC:(Value.ref C::bm).contains (.ref C)=true:=by simp
 unfold isInstance
 repeat (first|with_reducible refine wpAny_loadPart_at hget ?_|(with_reducible refine wpAny_isSubtype_exc hC₁ ?_;rw[hcC])|wp_step)
 show wpAny _ _ (typeLookup (.ref C) _) _ _ _;refine wpAny_typeLookup_tail hC₁ (hn.keeps st) (T.keeps st) F.mroIs F.init.lookup ?_;cases hv:mN "__init__" with
 |none=>
  refine wpAny_holding (wpAny_bind (wpAny_mono (hq _ (by rw[hv];rfl)) (fun p s' z=>wpAny_bind (wpAny_mono z (fun r s'' y=>?_) fun _ _ y=>y)) fun _ _ y=>y))
  obtain⟨rfl,y⟩:=y
  wp_walk
  exact y
 |some v=>
  refine wpAny_holding (wpAny_bind (wpAny_mono (hq _ (by rw[hv];rfl)) (fun p s' z=>wpAny_bind (wpAny_mono z (fun r s'' y=>?_) fun _ _ y=>y)) fun _ _ y=>y))
  obtain⟨rfl,y⟩:=y
  wp_walk
  exact y
theorem c2g(Fn:ExcBaseFacts Bn newId inN bmN)(hBn:bmB.contains (.type Bn)=true)(F:ExcBaseFacts B nid initId bmB)(T:OwnTail h bmB bm){rest:List Value}{Q:Value->Shared->Prop}
  (hC:h.get? C=some (excClassObj nm q C N bs bm hdct sn sub ab col dd k0 k1 k2 k3 k5 newId)) (hn:h.Ns N mN) (hrest:rest.length<=sizeLine)
  (hq:∀i,i=(mN "__init__").getD (.builtin initId)->wpAny (model prog w) (A.under (.builtin "type.__call__" ⟨.ref C::rest,[]⟩)) (bindSpecial i (.ref (h.objs.size+1))) (fun p s'=>wpAny (model prog w) (A.under (.builtin "type.__call__" ⟨.ref C::rest,[]⟩)) (call p.1 (p.2++rest)) (fun r s''=>r=.none/\Q (.ref (h.objs.size+1)) s'') E s') E ⟨((h.push { cls:=.type "tuple",data:=.seq rest.toArray}).push { cls:=.ref C,data:=.fields #[.ref h.objs.size,.none,.none,.none,.bool false,.none]}),g,d,t,os⟩) :
  wpAny (model prog w) A (call (.ref C) rest) Q E ⟨h,g,d,t,os⟩:=by
 have f1:=tc_lookup;have f2:=tc_bind (.ref C);have hT:(⟨h,g,d,t,os⟩:Shared).TypeIs (.ref C) "type":=⟨_,hC,rfl⟩;refine wpAny_call (codeAny_of_tree (show wpAny _ _ (callAny (.ref C) _) _ _ _ from ?_))
 repeat (any_goals (first|assumption|with_reducible refine wpAny_loadPart_at hC ?_|wp_step))
 exact⟨rfl,codeAny_call_builtin_at (Code.quiet_builtin _ (by decide +kernel)) entry_typeCall (wpAny_check_type_call_sub hC (tcall Fn hBn F T hC hn hrest fun i e=>hq i e))⟩
end
end L2
namespace L2
open PySem PySem.Spec PySem.W PySem.Calls PyProof.Rows
section
variable {prog:Program} {w:World} {A:Around} {E:Value->Shared->Prop} {s:Shared} {K:Frag} {x C:Addr} {ox:Obj} {od:Option Obj} {name:Str} {tk:Tok}
theorem c7t{nameV:Value}{Q:Unit->Shared->Prop}(X:K.In s.heap)(I:InstAt s.heap x ox C od)(hb:subIn K (.ref C) (.type "BaseException")=some true)(hq:Q () s):
  wpAny (model prog w) A (checkBuiltinCall "BaseException.__getattribute__" ⟨[.ref x,nameV],[]⟩) Q E s:=by
 have hk:builtinKind "BaseException.__getattribute__"=some .slot:=by decide +kernel
 have hsplit:splitId "BaseException.__getattribute__"=some ("BaseException","__getattribute__"):=by decide +kernel
 have LI:Looks (model prog w) s.heap (isInstance (.ref x) (.type "BaseException")) true:=I.type.andThen (looks_subIn X hb);have ha:=F.args_bexc_ga (.ref x) nameV;simp only[checkBuiltinCall,hk,hsplit];refine wpAny_bind (LI.at ?_)
 repeat (any_goals (first|assumption|wp_step))
theorem d6e{v:Value}{Q:Fin->Shared->Prop}(X:K.In s.heap)(I:InstAt s.heap x ox C od)(hf:findObj K C od name=some (.value v))(hq:Q (.done (.ret v)) s):
  wpAny (model prog w) A (Builtin.«object.__getattribute__» ⟨[.ref x,.str name tk],[]⟩) Q E s:=by
 have L0:=I.type (M:=model prog w);have L1:=looks_find (M:=model prog w) X I hf;unfold Builtin.«object.__getattribute__»
 repeat (any_goals (first|assumption|with_reducible refine wpAny_bind (L0.at ?_)|with_reducible refine wpAny_bind (L1.at ?_)|wp_step))
theorem d2c{g a v:Value}{Q:Fin->Shared->Prop}(X:K.In s.heap)(I:InstAt s.heap x ox C od)(hf:findObj K C od name=some (.bind g a))(hc:∀R:Result->Shared->Prop,R (.ok (.ret v)) s->codeAny (model prog w) A (.call g ⟨[a,.ref x,.ref C],[]⟩) R s)(hq:Q (.done (.ret v)) s):
  wpAny (model prog w) A (Builtin.«object.__getattribute__» ⟨[.ref x,.str name tk],[]⟩) Q E s:=by
 have L0:=I.type (M:=model prog w);have L1:=looks_find (M:=model prog w) X I hf;unfold Builtin.«object.__getattribute__»
 repeat (any_goals (first|assumption|with_reducible refine wpAny_bind (L0.at ?_)|with_reducible refine wpAny_bind (L1.at ?_)|wp_step))
 refine hc _ ?_
 repeat (any_goals (first|assumption|wp_step))
theorem d3v{fill expr:Bool}{v:Value}{Q:Value->Shared->Prop}(X:K.In s.heap)(I:InstAt s.heap x ox C od)(hb:subIn K (.ref C) (.type "BaseException")=some true)
  (hg:findIn K (.ref C) "__getattribute__"=some (some (.builtin "BaseException.__getattribute__"))) (hn:findIn K (.ref C) "__getattr__"=some none)
  (hr:∀(A:Around) (E:Value->Shared->Prop) (Q:Fin->Shared->Prop),Q (.done (.ret v)) s->wpAny (model prog w) A (Builtin.«object.__getattribute__» ⟨[.ref x,.str name tk],[]⟩) Q E s) (hh:handedIn v=true) (hq:Q v s) :
  wpAny (model prog w) A (getAttrBy (.ref x) (.str name tk) fill expr) Q E s:=by
 have L0:=I.type (M:=model prog w);have L1:=looks_findIn (M:=model prog w) X hg;have L2:=looks_findIn (M:=model prog w) X hn;have f3:=F.attrBase_ValueError.ga.bind (.ref x);have hx0:(expr && onTheHeap (Value.builtin "BaseException.__getattribute__"))=false:=by cases expr <;> rfl
 have hx1:(onTheHeap (Value.ref C) && Value.builtin "BaseException.__getattribute__" == Value.builtin "object.__getattribute__")=false:=by rw[show(Value.builtin "BaseException.__getattribute__" == Value.builtin "object.__getattribute__")=false by decide +kernel];rfl
 unfold getAttrBy;refine wpAny_holding (wpAny_bind (L0.at (wpAny_bind (L1.at ?_))));dsimp only;rw[if_neg (by rw[hx1];exact Bool.false_ne_true)]
 unfold getAttrByItsOwn hookBefore;refine wpAny_bind (L2.at (wpAny_bind (wpAny_attempt (wpAny_holding ?_))));unfold callGetattribute;rw[if_neg (by rw[hx0];exact Bool.false_ne_true)]
 unfold boundAndCalled;refine wpAny_bind (wpAny_of_eq f3 (wpAny_call (codeAny_call_builtin F.attrBase_ValueError.ga.plain F.entry_bexc_ga (c7t X I hb (hr _ _ _ ?_)))));exact handed_on hh hq
theorem d2d{expr:Bool}{v:Value}{Q:Value->Shared->Prop}(X:K.In s.heap)(I:InstAt s.heap x ox C od)(hb:subIn K (.ref C) (.type "BaseException")=some true)
  (hg:findIn K (.ref C) "__getattribute__"=some (some (.builtin "BaseException.__getattribute__"))) (hn:findIn K (.ref C) "__getattr__"=some none) (hf:findObj K C od name=some (.value v)) (hh:handedIn v=true) (hq:Q v { s with toks:=s.toks+1}) :
  wpAny (model prog w) A (getAttr (.ref x) name expr) Q E s:=by
 unfold getAttr;exact wpAny_bind (wpAny_mkText (d3v (s:={ s with toks:=s.toks+1}) X I hb hg hn (fun A E Q q=>d6e (s:={ s with toks:=s.toks+1}) X I hf q) hh hq))
theorem c7u{Q:Option Value->Shared->Prop}(X:K.In s.heap)(I:InstAt s.heap x ox C od)(hb:subIn K (.ref C) (.type "BaseException")=some true)
  (hg:findIn K (.ref C) "__getattribute__"=some (some (.builtin "BaseException.__getattribute__"))) (hn:findIn K (.ref C) "__getattr__"=some none) (hf:findObj K C od "__class__"=some (.bind (.builtin "getset_descriptor.__get__") (.builtin "object.__class__"))) (hm:mroIn K C (.type "object")=some true)
  (hq:Q (some (.ref C)) { s with toks:=s.toks+1}):wpAny (model prog w) A (getAttr? (.ref x) "__class__") Q E s:=by
 unfold getAttr? getAttrBy?;exact wpAny_bind (wpAny_mkText (wpAny_bind (wpAny_attempt (d3v (s:={ s with toks:=s.toks+1}) X I hb hg hn (fun A E Q q=>d2c (s:={ s with toks:=s.toks+1}) X I hf (fun R r=>class_get (s:={ s with toks:=s.toks+1}) X I hm r) q) rfl (wpAny_pure hq)))))
theorem d2e{ox:Obj}(hb:subIn K (.ref C) (.type "BaseException")=some true)
  (hg:findIn K (.ref C) "__getattribute__"=some (some (.builtin "BaseException.__getattribute__"))) (hn:findIn K (.ref C) "__getattr__"=some none) (hf:findObj K C od "__class__"=some (.bind (.builtin "getset_descriptor.__get__") (.builtin "object.__class__"))) (hm:mroIn K C (.type "object")=some true) (hd:hasDictIn K C=true) :
  KitX K (.ref x) (.ref C) (fun h=>InstAt h x ox C od) where
 ty:=fun _ _ _ I=>I.type
 it:=fun _ _ X _=>by
  obtain⟨cdD,hcD,_⟩:=any_some hd;unfold clsIn at hcD;split at hcD
  ·rename_i c' d' cd' sl' ho
   intro A' Q' E' s' k q;unfold isType loadHead;exact wpAny_bind (wpAny_loadPart (k _ _ (X _ _ ho)) (wpAny_pure q))
  ·cases hcD
 ne:=fun h tp dd its n sl X htp=>by
  obtain⟨cdD,hcD,_⟩:=any_some hd;refine Bool.eq_false_iff.mpr fun q=>?_
  cases Value.ref.inj (beq_iff_eq.mp q);unfold clsIn at hcD;split at hcD
  ·rename_i c' d' cd' sl' ho
   cases(X _ _ ho).symm.trans htp
  ·cases hcD
 ca:=fun X I k=>c7u X I hb hg hn hf hm k
end
end L2
namespace L2
open PySem PySem.Spec PySem.W PySem.Calls PyProof.Rows Builtin Builtin.ObjectAttr
section
variable {prog:Program} {w:World} {A:Around} {E:Value->Shared->Prop} {s:Shared} {K:Frag} {x C B0 t:Addr} {name:Str} {tk:Tok} {v:Value} {cd:ClassData}
theorem d2f{h:Heap}(hx:h.get? x=some (excO C t none)):InstAt h x (excO C t none) C none:=⟨hx,rfl,rfl,True.intro⟩
theorem c7v{Q:Fin->Shared->Prop}{b:Bool}(X:K.In s.heap)(hx:s.heap.get? x=some (excO C t none))(hcd:clsIn K C=some cd)(hdct:cd.hasDict=true)
  (hq:∀h' tk',h'.get? x=some (excO C t (some s.heap.objs.size))->h'.Ns1 s.heap.objs.size (fun y=>if y=name then some v else none)->(∀b o,b≠x->s.heap.get? b=some o->h'.get? b=some o)->Q (.done (.ret .none)) { s with heap:=h',toks:=tk'}) :
  wpAny (model prog w) A (storeInOwnDict (.ref x) (.ref C) (.str name tk) name v b) Q E s:=by
 obtain⟨h,g,d,tt,os⟩:=s;have hx₁:(h.push { cls:=.type "dict",data:=.dict #[]}).get? x=some (excO C t none):=Heap.get?_push_of_some _ hx;have hxs:x≠h.objs.size:=Nat.ne_of_lt (Heap.lt_size hx);refine wpAny_bind (wpAny_pure (wpAny_bind (wpAny_bind (wpAny_loadPart hx (wpAny_bind ((looks_clsIn X hcd).here ?_))))));rw[hdct];have gx:((h.push { cls:=.type "dict",data:=.dict #[]}).update x fun o=>{ o with dict:=some h.objs.size}).get? x=some (excO C t (some h.objs.size)):=Heap.get?_update_self _ hx₁ rfl
 have gd:((h.push { cls:=.type "dict",data:=.dict #[]}).update x fun o=>{ o with dict:=some h.objs.size}).get? h.objs.size=some { cls:=.type "dict",data:=.dict #[]}:=(Heap.get?_update_ne _ _ _ _ hxs.symm).trans (Heap.get?_push_at rfl rfl)
 have go:∀b o,b≠x->h.get? b=some o->((h.push { cls:=.type "dict",data:=.dict #[]}).update x fun o=>{ o with dict:=some h.objs.size}).get? b=some o:=fun b o n e=>(Heap.get?_update_ne _ _ _ _ n).trans (Heap.get?_push_of_some _ e)
 refine wpAny_bind (wpAny_alloc' (wpAny_bind (wpAny_update' hx₁ (wpAny_pure ?_))));show wpAny _ _ (storeInDict h.objs.size (.str name tk) name v) _ _ _;unfold storeInDict newKeyGuard;refine wpAny_bind (wpAny_pure (wpAny_bind (wpAny_nsSet1 (Heap.Ns1.of_empty ⟨_,#[],_,gd,rfl,fun e he=>absurd he (by simp),fun _=>rfl⟩) fun h' hn' hs=>?_)))
 obtain⟨oD,esD,epD,hoD,hdD,hcD⟩:=hn'.count (Within.cons name v Within.nil);refine wpAny_bind (wpAny_lookBehind hoD (by rw[hdD];exact pastItsLine_dict (Nat.le_trans hcD (by rw[List.length_cons,List.length_nil,sizeLine_eq];omega))) ?_)
 wp_walk
 exact hq h' _ ((hs.2 x hxs).trans gx) hn' (fun b o n e=>(hs.2 b (Nat.ne_of_lt (Heap.lt_size e))).trans (go b o n e))
theorem xsa{Q:Unit->Shared->Prop}(X:K.In s.heap)(hx:s.heap.get? x=some (excO C t none))(hs:findIn K (.ref C) "__setattr__"=some (some (.builtin "object.__setattr__")))(hcd:clsIn K C=some cd)
  (hmro:cd.mro=[.ref C,.ref B0,.type "ValueError",.type "Exception",.type "BaseException",.type "object"]) (hdct:cd.hasDict=true) (hname:findIn K (.ref C) name=some none) (hsub:subIn K (.ref C) (.type "object")=some true)
  (hq:∀h' tk',h'.get? x=some (excO C t (some s.heap.objs.size))->h'.Ns1 s.heap.objs.size (fun y=>if y=name then some v else none)->(∀b o,b≠x->s.heap.get? b=some o->h'.get? b=some o)->Q () { s with heap:=h',toks:=tk'}) :
  wpAny (model prog w) A (setAttr (.ref x) name v) Q E s:=by
 have I:=d2f hx;have SF:=F.store_object;have sub:Looks (model prog w) s.heap (isInstance (.ref x) (.type "object")) true:=I.type.andThen (looks_subIn X hsub);have hm:Looks (model prog w) s.heap (mroOf (.ref C)) cd.mro:=(looks_clsIn X hcd).andThen .now;refine set_plain X I hs (codeAny_call_builtin SF.slot.plain SF.entry (@check_slot (model prog w) _ _ { s with toks:=s.toks+1} "object.__setattr__" "object" "__setattr__" (.ref x) [.str name s.toks,v] [] _ SF.kind SF.split sub (SF.args (.ref x) (.str name s.toks) v) ?_));rw[osa_eq,refuse_eq];have L0:=I.type (M:=model prog w);refine wpAny_bind (wpAny_bind (L0.at (wpAny_bind (hm.at ?_))));rw[hmro,refuseLoop_ref,refuseLoop_ref,F.store_ValueError.passes];refine wpAny_pure (wpAny_bind (L0.at (wpAny_bind ((looks_findIn X hname).at (wpAny_bind (wpAny_pure ?_))))));exact c7v (s:={ s with toks:=s.toks+1}) X hx hcd hdct fun h' tk' e1 e2 e3=>hq h' tk' e1 e2 e3
end
section
variable {prog:Program} {w:World} {A:Around} {E:Value->Shared->Prop} {h:Heap} {g:Array GenState} {d:Drawn} {tt:Nat} {os:OsState} {x t:Addr}
variable {nm q:Str} {C N:Addr} {bs bm bmB:List Value} {hdct:Bool} {sn:List Str} {sub:List Value} {ab:Bool} {col:Option Bool} {dd:Option Addr} {k0 k1 k2 k3 k5:Option Value} {newId:String}
theorem xinit{u:Value}{Q:Value->Shared->Prop}(T:OwnTail h [.type "ValueError",.type "Exception",.type "BaseException",.type "object"] bm)(hC:h.get? C=some (excClassObj nm q C N bs bm hdct sn sub ab col dd k0 k1 k2 k3 k5 newId))(hx:h.get? x=some (excO C t none))
  (hq:∀h',h'.get? x=some (excO C h.objs.size none)->(∀b o,b≠x->h.get? b=some o->h'.get? b=some o)->Q .none ⟨h',g,d,tt,os⟩) :
  wpAny (model prog w) A (call (.builtin "ValueError.__init__") [.ref x,u]) Q E ⟨h,g,d,tt,os⟩:=by
 have FB:=F.excBase_ValueError;have hx':h.get? x=some { cls:=.ref C,data:=.fields #[.ref t,.none,.none,.none,.bool false,.none]}:=hx;refine wpAny_call (codeAny_call_builtin FB.init.plain FB.initEntry (wpAny_check_init_subU FB T hC hx' rfl ?_))
 wp_walk
 refine hq _ ?_ fun b o n e=>?_
 ·rw[Heap.get?_update_self _ (Heap.get?_push_of_some _ hx') rfl];rfl
 ·rw[Heap.get?_update_other _ _ (Ne.symm n)];exact Heap.get?_push_of_some _ e
end
end L2
namespace L2
open PySem PySem.Spec PySem.W PySem.Calls PyProof.Rows
variable{X:Cx}{pins:List (Addr×Obj)}{σ:St}{H:Hp}{s:Shared}{x:Str}{u c:Value}{Q:VK}{e C:Addr}{pos hp:Pos}{fe:GE}{cs:List Addr}{h:Heap}{K:Frag}{i t':Nat}{g:GS}{hs:List ExceptHandler}
abbrev bmV:List Value:=[.type "ValueError",.type "Exception",.type "BaseException",.type "object"]
def ErrC(K:Frag)(C:Addr)(bm:List Value)(ini:Option Value):Prop:=∃nm q N bs sn sub ab col dd k0 k1 k2 k3 k5 on odn es ep sln,
 K.lookup C=some (excClassObj nm q C N bs bm true sn sub ab col dd k0 k1 k2 k3 k5 "ValueError.__new__")/\K.lookup N=some ⟨on,odn,.dict es ep,sln⟩/\StrKeys es/\nsFind es "__init__"=ini
section
variable {X:Cx} {pins:List (Addr×Obj)} {σ:St} {H:Hp} {s:Shared} {Q:VK} {C B0:Addr} {x:Str} {p pos:Pos} {e:Expr} {t:TA}
end
structure IsErr (K:Frag) (C:Addr):Prop where
 g:findIn K (.ref C) "__getattribute__"=some (some (.builtin "BaseException.__getattribute__"))
 n:findIn K (.ref C) "__getattr__"=some none
 c:findIn K (.ref C) "__class__"=some (some (.builtin "object.__class__"))
 s:specialIn K (.builtin "object.__class__") "__get__"=some (some (.builtin "getset_descriptor.__get__"))
 t:takesIn K (.builtin "object.__class__")=some true
section
variable {K:Frag} {C C' B0 a:Addr} {bm bm':List Value} {i i':Option Value} {l:Option Int}
theorem ErrC.cls(G:ErrC K C bm i):∃cd,clsIn K C=some cd/\cd.mro=.ref C::bm/\cd.hasDict=true/\typeIn K (.ref C)=some (.type "type"):=by
 obtain⟨nm,q,N,bs,sn,sub,ab,col,dd,k0,k1,k2,k3,k5,on,odn,es,ep,sln,g1,g2,g3,g4⟩:=G;exact⟨_,by unfold clsIn;rw[g1],rfl,rfl,by show(K.lookup C).map (·.cls)=_;rw[g1];rfl⟩
theorem ErrC.sub(G:ErrC K C bm i)(b:Value):subIn K (.ref C) b=some ((Value.ref C::bm).contains b):=by
 obtain⟨cd,c1,c2,c3,c4⟩:=G.cls;show mroIn K C b=_;unfold mroIn;rw[c1,Option.bind_some,c2];rfl
theorem ErrC.kitC(G:ErrC K C bm i)(G':ErrC K C' bm' i'):kitOne K (.ref C) (.ref C')=some ((Value.ref C::bm).contains (.ref C')):=by
 obtain⟨cd,c1,c2,c3,c4⟩:=G'.cls;unfold kitOne;split
 ·rename_i e
  cases beq_iff_eq.1 e;simp
 ·unfold kitCls;dsimp only;rw[if_pos (by rw[c1,c4];rfl)]
  exact G.sub _
theorem c2h(I:Inv X pins σ H s)(h:ExcA H a C l):∃ox od,InstAt s.heap a ox C od/\∀n,l=some n->∃t,∃o,od=some o/\lookIn "line" o=some (some (.int n t)):=by
 cases l with
 |none=>
  obtain⟨o,e,z1,z2,vs,z3⟩:=h;obtain⟨z,_⟩:=I.hok _ _ e;exact⟨o,none,⟨z,z1,by unfold W.notCls;rw[z3],by rw[z2];trivial⟩,fun n e=>by cases e⟩
 |some n=>
  obtain⟨o,dx,e,⟨z1,z2,vs,z3⟩,q⟩:=h;obtain⟨z,_⟩:=I.hok _ _ e;obtain⟨mA,ns,r⟩:=I.hok _ _ q;obtain⟨od,o1,o2⟩:=c4z ns;refine⟨o,some od,⟨z,z1,by unfold W.notCls;rw[z3],by rw[z2];exact o1⟩,fun m e=>?_⟩
  cases e;have r':=r "line";rw[show List.lookup (Str.ofString "line") [(Str.ofString "line",V.int n)]=some (V.int n) by rw[List.lookup_cons,beq_self_eq_true]] at r'
  cases hm:mA "line" with
  |none=>rw[hm] at r';cases r'
  |some u=>
   rw[hm] at r';obtain⟨t',rfl⟩:∃t',u=Value.int n t':=r';exact⟨t',od,rfl,by rw[o2,hm]⟩
theorem IsErr.cla(E:IsErr K C)(G:ErrC K C bm i)(od:Option Obj):findObj K C od "__class__"=some (.bind (.builtin "getset_descriptor.__get__") (.builtin "object.__class__")):=by
 obtain⟨cd,c1,_⟩:=G.cls;unfold findObj;rw[c1,Option.bind_some,E.c,Option.bind_some];simp[E.s,E.t]
def rIsiX(K:Frag)(c:Value)(x:V)(H:Hp)(Q:VK):Prop:=∃a C l i b,x=.ref a/\ExcA H a C l/\ErrC K C (.ref B0::bmV) i/\IsErr K C/\kitOne K (.ref C) c=some b/\Q (.bl b) H
theorem d6f{x:V}(I:Inv X pins σ H s)(rx:RelV x u)(h:rIsiX (B0:=B0) X.K c x H Q):
  wpAny (model X.prog X.w) X.A (call (.builtin "isinstance") [u,c]) (EP X pins σ Q) X.xe s:=by
 obtain⟨a,C,l,i,b,rfl,hx,G,E,e,q⟩:=h;obtain rfl:u=Value.ref a:=rx;obtain⟨ox,od,J,_⟩:=c2h I hx;obtain⟨cd,c1,c2,c3,c4⟩:=G.cls;refine kia_one (d2e (K:=X.K) (od:=od) (ox:=ox) (by rw[G.sub];rfl) E.g E.n (E.cla G od) (by have:=G.sub (.type "object");rw[show(Value.ref C::.ref B0::bmV).contains (.type "object")=true from rfl] at this;exact this) (by unfold hasDictIn;rw[c1];exact c3)) I.kIn J e (fun z=>nomatch z) fun tk=>?_
 exact⟨.bl b,H,I.tok _,rfl,q⟩
def oIsiX(w:Addr->Option Bool):List O->Option O
 |[.frz (.exc C _)]=>(w C).map fun b=>.frz (.bl b)
 |_=>none
theorem d6g{w:Addr->Option Bool}(hw:∀C b,w C=some b->(∃i,ErrC K C (.ref B0::bmV) i)/\IsErr K C/\kitOne K (.ref C) c=some b):OpOk K (r1L (rIsiX (B0:=B0) K c)) (oIsiX w):=by
 intro F H vs os o Q le see e res;unfold oIsiX at e;split at e
 ·rename_i C l
  obtain⟨x,B,rfl,h1⟩:=see.one;obtain⟨b,q1,q2⟩:=Option.map_eq_some_iff.mp e;subst q2;obtain⟨⟨i,G⟩,E,kk⟩:=hw C b q1;have r:=a4n le h1;cases r with
  |flat z _=>cases z
  |@exc a _ _ _ _ hx _=>exact⟨_,rfl,a,C,l,i,b,rfl,hx,G,E,kk,res.flat rfl⟩
 ·cases e
theorem b6n{e f:Expr}{p:Pos}{v:V}{w:Addr->Option Bool}(hw:∀C b,w C=some b->(∃i,ErrC K C (.ref B0::bmV) i)/\IsErr K C/\kitOne K (.ref C) c=some b)(hm:X.mg "isinstance"=none)(he:PE X e (tG K fe))(hf:PE X f (tC v))(rc:∀u,RelV v u->u=c)(hg:Gl X "isinstance":=by rfl)
  (hst:starEach [e,f] X.env=(false,eval e X.env)::starEach [f] X.env:=by rfl) (hst2:starEach [f] X.env=(false,eval f X.env)::starEach [] X.env:=by rfl) (hpl:(backTo pos (starEach [f] X.env)).any (·.1)=false:=by rfl) (hK:X.K=K:=by rfl) :
  PE X (.Call (.Name "isinstance" p) [e,f] [] pos) (tG K (gUn (oIsiX w) fe)):=by
 subst hK;have hc:CallR X (.builtin "isinstance") (fun xs H Q=>∃x,xs=[x,v]/\rIsiX (B0:=B0) X.K c x H Q):=by
  intro pins s σ H xs us Q I r h;obtain⟨x,rfl,q⟩:=h;obtain⟨u,w',rfl,rx,ry⟩:=vals2 r;cases rc _ ry;exact d6f I rx q
 refine(c1c hc hg hm (by kernel_rfl) (b2t he (b2t hf pa_nil hst2) hst) (by decide) (by decide) hst hpl).mono fun σ H Q h=>?_
 exact(d5l (d6g hw) h).mono fun x H1 q=>⟨x,rfl,q⟩
def rLine(K:Frag)(x:V)(H:Hp)(Q:VK):Prop:=∃a C n i,x=.ref a/\ExcA H a C (some n)/\ErrC K C (.ref B0::bmV) i/\IsErr K C/\findIn K (.ref C) "line"=some none/\Q (.int n) H
def oLine(cs:List Addr):List O->Option O
 |[.frz (.exc C (some n))]=>if cs.contains C then some (.frz (.int n)) else none
 |_=>none
theorem d6h(hw:∀C∈cs,(∃i,ErrC K C (.ref B0::bmV) i)/\IsErr K C/\findIn K (.ref C) "line"=some none):OpOk K (r1L (rLine (B0:=B0) K)) (oLine cs):=by
 intro F H vs os o Q le see e res;unfold oLine at e;split at e
 ·rename_i C n
  split at e
  ·rename_i hc
   obtain⟨x,B,rfl,h1⟩:=see.one;cases e;obtain⟨⟨i,G⟩,E,kk⟩:=hw C (by simpa using hc)
   have r:=a4n le h1;cases r with
   |flat z _=>cases z
   |@exc a _ _ _ _ hx _=>exact⟨_,rfl,a,C,n,i,rfl,hx,G,E,kk,res.flat rfl⟩
  ·cases e
 ·cases e
theorem d6i{e:Expr}(hw:∀C∈cs,(∃i,ErrC K C (.ref B0::bmV) i)/\IsErr K C/\findIn K (.ref C) "line"=some none)(he:PE X e (tG K fe))(hb:attributeBase e "line" X.env (eval e X.env)=eval e X.env:=by rfl)(hK:X.K=K:=by rfl):
  PE X (.Attribute e "line" pos) (tG K (gUn (oLine cs) fe)):=by
 subst hK;intro pins s σ H Q I h;refine d4x hb (thn (he pins s σ H _ I (d5l (d6h hw) h)) fun u s1 hh=>?_)
 obtain⟨x,H1,I1,rx,a,C,n,i,rfl,hx,G,E,hl,q⟩:=hh;obtain rfl:u=Value.ref a:=rx;obtain⟨ox,od,J,hn⟩:=c2h I1 hx;obtain⟨t,o,rfl,lk⟩:=hn n rfl;obtain⟨cd,c1,c2,c3,c4⟩:=G.cls;refine d2d I1.kIn J (by rw[G.sub];rfl) E.g E.n (v:=.int n t) ?_ rfl ⟨.int n,H1,I1.tok _,⟨t,rfl⟩,q⟩
 unfold findObj;rw[c1,Option.bind_some,hl,Option.bind_some];simp[W.ownOf,c3,lk]
end
section
variable {K:Frag} {F H:Hp} {σ:St} {Γ:Gm} {A:List Addr} {p:Addr}
end
section
variable {K:Frag} {X:Cx} {C B0:Addr} {x:Str} {p pos:Pos} {e:Expr} {fe:GE}
end
structure InitK (K:Frag) (B0:Addr):Prop where
 g:specialIn K (.ref B0) "__getattribute__"=some (some (.builtin "type.__getattribute__"))
 r:readsIn K B0 (.type "type")=true
 c:findCls K (.ref B0) (.type "type") "__init__"=some (.val (.builtin "ValueError.__init__"))
def exE(e C t:Addr):HO:=.ext (fun h=>h.get? e=some (excO C t none))
def exD(C t dx:Addr):HO:=.frz (excO C t (some dx)) (.own 0)
def tInit(C:Addr)(i:Nat):TE:=fun σ H Q=>∃e t,σ[i]?=some (some (.ref e))/\H e=some (exE e C t)/\∀t',Q .non (upd H e (exE e C t'))
def sLine(C:Addr)(i j:Nat):TS:=fun D σ H=>∃e t n,σ[i]?=some (some (.ref e))/\σ[j]?=some (some (.int n))/\H e=some (exE e C t)/\∀dx,H dx=none->dx≠e->D.nx σ (upd (upd H e (exD C t dx)) dx (.xd [("line",.int n)]))
section
variable {X:Cx} {pins:List (Addr×Obj)} {σ:St} {H:Hp} {s:Shared} {C B0 e t:Addr} {i:Option Value}
theorem d3w{P:Program}{w:World}(z:h.get? e=some (excO C t none)):ObjOk P w H h e (exE e C t):=⟨z,⟨_,z⟩,fun _ _ a b=>b _ a⟩
theorem d2g(G:ErrC X.K C (.ref B0::bmV) i)(G0:ErrC X.K B0 bmV none)(I:Inv X pins σ H s)(hx:H e=some (exE e C t))(h:∀t',Q .non (upd H e (exE e C t'))):
  wpAny (model X.prog X.w) X.A (call (.builtin "ValueError.__init__") [.ref e,u]) (EP X pins σ Q) X.xe s:=by
 obtain⟨hh,g,d,tt,os⟩:=s;have KX:X.K.In hh:=I.kIn;have zx:hh.get? e=some (excO C t none):=(I.hok _ _ hx).1;obtain⟨nm,q,N,bs,sn,sub,ab,col,dd,k0,k1,k2,k3,k5,on,odn,es,ep,sln,g1,g2,g3,g4⟩:=G;obtain⟨nm',q',N',bs',sn',sub',ab',col',dd',k0',k1',k2',k3',k5',on',odn',es',ep',sln',g1',g2',g3',g4'⟩:=G0;have T:OwnTail hh bmV (.ref B0::bmV):=.own (KX _ _ g1') (mA:=fun n=>nsFind es' n) ⟨_,_,_,KX _ _ g2',rfl,g3',fun _=>rfl⟩ g4' .base
 refine xinit T (KX _ _ g1) zx fun h' e1 e2=>?_
 have J:Inv X pins σ (upd H e (exE e C _)) ⟨h',g,d,tt,os⟩:=I.write (x:=e) (e:=e) (t':=tt) (by rw[hx];exact True.intro) (.inl rfl) e2 ⟨_,e1⟩ (d3w e1)
 exact⟨.non,_,J,rfl,h _⟩
variable {x0:Str} {p0 ap cp pos p1:Pos} {e1 e2 o value:Expr} {k j:Nat} {v:V}
theorem d6j{pl:Sem Bool}(G:ErrC X.K C (.ref B0::bmV) i)(G0:ErrC X.K B0 bmV none)(IK:InitK X.K B0)(hm:X.mg x0=some (.ref B0))(h1:PE X e1 (tVar k))(h2:PE X e2 (tC v))(hg:Gl X x0:=by rfl)(hdb:(x0 == ("__debug__":Str))=false:=by decide)
  (hst:starEach [e1,e2] X.env=(false,eval e1 X.env)::starEach [e2] X.env:=by rfl) (hst2:starEach [e2] X.env=(false,eval e2 X.env)::starEach [] X.env:=by rfl) (hpl:(backTo cp (starEach [e2] X.env)).any (·.1)=false:=by rfl)
  (ht:eval (.Call (.Attribute (.Name x0 p0) "__init__" ap) [e1,e2] [] cp) X.env=(do
   let ov <-eval (.Name x0 p0) X.env
   standAt ap.atName
   let (f,first) <-holding [ov] (getMethod ov "__init__" pl)
   callWith cp f first (backTo cp (starEach [e1,e2] X.env)) (backToKw cp (keywordEach [] X.env))):=by rfl) :
  PE X (.Call (.Attribute (.Name x0 p0) "__init__" ap) [e1,e2] [] cp) (tInit C k):=by
 intro pins s σ H Q I h;obtain⟨e,t,hk,he,q⟩:=h;refine PySem.W.methodCall_KW (pl:=pl) (b1a I hg hm ?_ hdb) ht;refine method_cls I.kIn IK.g (cls_value I.kIn IK.r IK.c rfl ?_);have I':=I.tok (s.toks+1);have ha:PA X [e1,e2] (tCons (tVar k) (tCons (tC v) tNil)):=b2t h1 (b2t h2 pa_nil hst2) hst;refine PyProof.Rows.callWith_builtin1 (thn (ha cp pins _ σ H (fun vs H1=>vs=[.ref e,v]/\H1=H) I' ⟨_,hk,rfl,rfl⟩) fun us s1 hh=>?_) hst hpl
 obtain⟨vs,H1,I1,r1,rfl,rfl⟩:=hh;obtain⟨u,u',rfl,ru,ru'⟩:=vals2 r1;obtain rfl:u=Value.ref e:=ru;exact d2g G G0 I1 he q
theorem d6k(G:ErrC X.K C (.ref B0::bmV) i)(hs1:findIn X.K (.ref C) "__setattr__"=some (some (.builtin "object.__setattr__")))(hn:findIn X.K (.ref C) "line"=some none)(ho:PE X o (tVar k))(hv:PE X value (tVar j))
  (hs:swapsWith value (some (.Attribute o "line" p1)) pos.line X.env=pure false:=by rfl):PS X (.Assign [.Attribute o "line" p1] value pos) (sLine C k j):=by
 intro pins s σ H D I h;obtain⟨e,t,n,h1,h2,he,q⟩:=h;refine plainObj_wpAny_Assign_Attribute (thn (hv pins s σ H (fun y H1=>y=.int n/\H1=H) I ⟨_,h2,rfl,rfl⟩) fun u s1 hh=>?_) hs
 obtain⟨y,H1,I1,ry,rfl,rfl⟩:=hh;refine thn (ho pins s1 σ H1 (fun y H2=>y=.ref e/\H2=H1) I1 ⟨_,h1,rfl,rfl⟩) fun ov s2 hh=>?_
 obtain⟨y,H2,I2,rx,rfl,rfl⟩:=hh;obtain rfl:ov=Value.ref e:=rx;obtain⟨tk,rfl⟩:∃tk,u=Value.int n tk:=ry;obtain⟨cd,c1,c2,c3,c4⟩:=G.cls;have zx:s2.heap.get? e=some (excO C t none):=(I2.hok _ _ he).1;refine xsa I2.kIn zx hs1 c1 (B0:=B0) c2 c3 hn (by rw[G.sub];rfl) fun h' tk' z1 z2 z3=>?_
 have ne:s2.heap.objs.size≠e:=Nat.ne_of_gt (Heap.lt_size zx);have J:Inv X pins σ (upd H2 e (exD C t s2.heap.objs.size)) { s2 with heap:=h',toks:=tk'}:=I2.write (x:=e) (e:=e) (by rw[he];exact True.intro) (.inl rfl) z3 ⟨_,z1⟩ ⟨z1,_,z1⟩
 have nf:H2 s2.heap.objs.size=none:=I2.hok.fresh (Nat.le_refl _);have J2:Inv X pins σ (upd (upd H2 e (exD C t s2.heap.objs.size)) s2.heap.objs.size (.xd [("line",.int n)])) { s2 with heap:=h',toks:=tk'}:=J.track (by rw[a0v ne];exact nf) I2.sz (Nat.ne_of_gt I2.lt)
  (fun x c e z=>by obtain⟨v,q⟩:=I2.cell x c e;exact absurd (z ▸ q.lt) (Nat.lt_irrefl _)) (fun p hp z=>absurd (z ▸ Heap.lt_size (I2.pin p hp).1) (Nat.lt_irrefl _)) ⟨_,z2,fun f=>?_⟩
 ·exact⟨σ,_,J2,q _ nf ne⟩
 ·by_cases z:f="line"
  ·subst z;rw[List.lookup_cons,beq_self_eq_true,if_pos rfl];exact⟨tk,rfl⟩
  ·rw[List.lookup_cons,beq_false_of_ne z,if_neg z];exact True.intro
end
structure Lined (H H':Hp) (C e t dx:Addr) (n:Int):Prop where
 ne:dx≠e
 d0:H dx=none
 e1:H' e=some (exD C t dx)
 d1:H' dx=some (.xd [("line",.int n)])
 old:∀b,b≠e->b≠dx->H' b=H b
def spI(C:Addr):Sp:=fun vs H Q _=>∃e n t,vs=[.ref e,.int n]/\H e=some (exE e C t)/\∀H' t' dx,Lined H H' C e t' dx n->Q .non H'
theorem d2h{t:Addr}{n:Int}{D:Ends}(h0:σ[0]?=some (some (.ref e)))(h1:σ[1]?=some (some (.int n)))(he:H e=some (exE e C t))(q:∀H' t' dx,Lined H H' C e t' dx n->D.nx σ H'):tSeq (tDrop (tInit C 0)) (sLine C 0 1) D σ H:=by
 refine⟨e,t,h0,he,fun t'=>⟨e,t',n,h0,h1,a1l,fun dx hd ne=>q _ t' dx ⟨ne,?_,?_,a1l,fun b b1 b2=>?_⟩⟩⟩
 ·rw[a0v ne] at hd;exact hd
 ·rw[a0v (Ne.symm ne),a1l]
 ·rw[a0v b2,a0v b1,a0v b1]
section
variable {X:Cx} {pins:List (Addr×Obj)} {σ:St} {H:Hp} {s:Shared} {Q:VK} {C B0 fI:Addr} {x:Str} {p pos:Pos} {e:Expr} {t:TA} {fd:FuncData} {k:Nat}
end
section
variable {X:Cx} {C B0 fI:Addr} {x:Str} {p pos:Pos} {e:Expr} {t:TA} {fd:FuncData} {k:Nat} {K:Frag} {fe:GE}
end
structure Errs (K:Frag) (mg:Str->Option Value) (tab:List (Str×Addr)) (L B0 fI:Addr):Prop where
 all:∀p∈tab,mg p.1=some (.ref p.2)/\ErrC K p.2 (.ref B0::bmV) none/\IsErr K p.2/\keepIn K (.ref p.2)=true
 mgL:mg "NoLine"=some (.ref L)
 GL:ErrC K L (.ref B0::bmV) (some (.ref fI))
 EL:IsErr K L
 kL:keepIn K (.ref L)=true
 sL:findIn K (.ref L) "__setattr__"=some (some (.builtin "object.__setattr__"))
 nL:findIn K (.ref L) "line"=some none
 fL:isFn K (.ref fI)=true
 mg0:mg "CarryError"=some (.ref B0)
 G0:ErrC K B0 bmV none
 I0:InitK K B0
def wE(cs:List Addr)(c:Addr)(C:Addr):Option Bool:=if cs.contains C then some (C == c) else none
def wT(cs:List Addr)(C:Addr):Option Bool:=if cs.contains C then some true else none
section
variable {K:Frag} {mg:Str->Option Value} {tab:List (Str×Addr)} {L B0 fI:Addr}
theorem Errs.one(E:Errs K mg tab L B0 fI)(h:C∈L::tab.map (·.2)):(∃i,ErrC K C (.ref B0::bmV) i)/\IsErr K C:=by
 rcases List.mem_cons.1 h with rfl|h
 ·exact⟨⟨_,E.GL⟩,E.EL⟩
 ·obtain⟨p,m,rfl⟩:=List.mem_map.1 h;exact⟨⟨_,(E.all p m).2.1⟩,(E.all p m).2.2.1⟩
theorem Errs.wE(E:Errs K mg tab L B0 fI){c:Addr}(hc:(L::tab.map (·.2)).contains c=true)(h0:(c == B0)=false)(C:Addr)(b:Bool)(h:wE (L::tab.map (·.2)) c C=some b):(∃i,ErrC K C (.ref B0::bmV) i)/\IsErr K C/\kitOne K (.ref C) (.ref c)=some b:=by
 unfold L2.wE at h;split at h
 ·rename_i hC
  cases h;obtain⟨⟨i,G⟩,I⟩:=E.one (C:=C) (by simpa using hC)
  obtain⟨⟨i',G'⟩,_⟩:=E.one (C:=c) (by simpa using hc)
  refine⟨⟨i,G⟩,I,(G.kitC G').trans (congrArg some ?_)⟩;have n0:c≠B0:=fun z=>by rw[z] at h0;simp at h0
  by_cases z:C=c
  ·subst z;simp
  ·rw[show(C == c)=false from beq_false_of_ne z];simp[bmV,Ne.symm z,n0]
 ·cases h
theorem Errs.ln(E:Errs K mg tab L B0 fI):∀C∈[L],(∃i,ErrC K C (.ref B0::bmV) i)/\IsErr K C/\findIn K (.ref C) "line"=some none:=fun C m=>by
 cases List.mem_singleton.1 m;exact⟨⟨_,E.GL⟩,E.EL,E.nL⟩
end
theorem Errs.ix{mg:Str->Option Value}{tab:List (Str×Addr)}{L B0 fI:Addr}(E:Errs K mg tab L B0 fI){n:Str}(h:tab[i]?=some (n,C)):mg n=some (.ref C)/\ErrC K C (.ref B0::bmV) none/\IsErr K C/\keepIn K (.ref C)=true:=E.all _ (List.mem_of_getElem? h)
def d3x(e:DictEntry):Bool:=match e.key with|.str _ _=>true|_=>false
theorem errC_mk{bm:List Value}{ini:Option Value}{nm q:Str}{N:Addr}{bs:List Value}{sn:List Str}{sub:List Value}{ab:Bool}{col:Option Bool}{dd:Option Addr}{k0 k1 k2 k3 k5:Option Value}{on:Value}{odn:Option Addr}{es:Array DictEntry}{ep:Nat}{sln:Array (Option Value)}
  (l:K.lookup C=some (excClassObj nm q C N bs bm true sn sub ab col dd k0 k1 k2 k3 k5 "ValueError.__new__")) (d:K.lookup N=some ⟨on,odn,.dict es ep,sln⟩) (s:es.toList.all d3x=true) (i:nsFind es "__init__"=ini):ErrC K C bm ini:=by
 refine⟨_,_,_,_,_,_,_,_,_,_,_,_,_,_,_,_,_,_,_,l,d,fun e he=>?_,i⟩
 have:=List.all_eq_true.1 s e (Array.mem_toList_iff.2 he);unfold d3x at this;split at this
 ·exact⟨_,_,by assumption⟩
 ·cases this
section
variable {X:Cx} {pins:List (Addr×Obj)} {σ:St} {H:Hp} {s:Shared} {C B0:Addr} {R:Value->Shared->Prop}
theorem d2i(G:ErrC X.K C (.ref B0::bmV) none)(G0:ErrC X.K B0 bmV none)(I:Inv X pins σ H s)(h:∀h' t,(∀b o,s.heap.get? b=some o->h'.get? b=some o)->h'.get? (s.heap.objs.size+1)=some (excO C t none)->R (.ref (s.heap.objs.size+1)) { s with heap:=h'}):
  wpAny (model X.prog X.w) X.A (call (.ref C) [u]) R X.xe s:=by
 obtain⟨hh,g,d,tt,os⟩:=s;have KX:X.K.In hh:=I.kIn;obtain⟨nm,q,N,bs,sn,sub,ab,col,dd,k0,k1,k2,k3,k5,on,odn,es,ep,sln,g1,g2,g3,g4⟩:=G;obtain⟨nm',q',N',bs',sn',sub',ab',col',dd',k0',k1',k2',k3',k5',on',odn',es',ep',sln',g1',g2',g3',g4'⟩:=G0;have FB:=F.excBase_ValueError;have T:OwnTail hh bmV (.ref B0::bmV):=.own (KX _ _ g1') (mA:=fun n=>nsFind es' n) ⟨_,_,_,KX _ _ g2',rfl,g3',fun _=>rfl⟩ g4' .base
 refine c2g FB rfl FB T (KX _ _ g1) (mN:=fun n=>nsFind es n) ⟨_,_,_,KX _ _ g2,rfl,g3,fun _=>rfl⟩ (by rw[sizeLine_eq];exact(by decide:1<=16777216)) fun i ei=>?_
 rw[g4] at ei;subst ei;have st:∀b o,hh.get? b=some o->((hh.push { cls:=.type "tuple",data:=.seq [u].toArray}).push { cls:=.ref C,data:=.fields #[.ref hh.objs.size,.none,.none,.none,.bool false,.none]}).get? b=some o:=fun b o e=>Heap.get?_push_of_some _ (Heap.get?_push_of_some _ e)
 have hget:((hh.push { cls:=.type "tuple",data:=.seq [u].toArray}).push { cls:=.ref C,data:=.fields #[.ref hh.objs.size,.none,.none,.none,.bool false,.none]}).get? (hh.objs.size+1)=some (excO C hh.objs.size none):=by unfold excO;heap_get
 refine wpAny_of_eq (FB.init.bind _) (xinit (T.keeps st) (st _ _ (KX _ _ g1)) hget fun h' e1 e2=>?_)
 exact⟨rfl,h h' _ (fun b o z=>e2 b o (Nat.ne_of_lt (Nat.lt_succ_of_lt (Heap.lt_size z))) (st b o z)) e1⟩
end
def a9i(C:Addr)(fe:GE):GS:=fun Γ=>(fe Γ).bind fun p=>some (.rt (.frz (.exc C none)),p.2)
section
variable {X:Cx} {K:Frag} {m:List Bool} {W:XW} {C B0:Addr} {x:Str} {p cp pos:Pos} {e:Expr} {fe:GE}
theorem a8r(G:ErrC K C (.ref B0::bmV) none)(G0:ErrC K B0 bmV none)(hk:keepIn K (.ref C)=true)(hm:X.mg x=some (.ref C))(hp:XPass X W)(he:PE X e (tG K fe))(hc:X.calm=true:=by rfl)(hg:Gl X x:=by rfl)(hdb:(x == ("__debug__":Str))=false:=by decide)
  (hst:starEach [e] X.env=(false,eval e X.env)::starEach [] X.env:=by rfl) (hpl:(backTo cp (starEach [] X.env)).any (·.1)=false:=by rfl) (hK:X.K=K:=by rfl):PS X (.Raise (some (.Call (.Name x p) [e] [] cp)) none pos) (tS K m (some W) (a9i C fe)):=by
 subst hK;intro pins s σ H D I t;obtain⟨F,A,Γ,fl,Γ',k,ee,w⟩:=t;obtain⟨⟨r1,Γ1⟩,q,ee⟩:=Option.bind_eq_some_iff.mp ee;cases ee;have w:∀dx σ' H',PostX X.K F H A m σ Γ1 none dx σ' H'->W C dx σ' H':=w;obtain⟨nm,qq,N,bs,sn,sub,ab,col,dd,k0,k1,k2,k3,k5,on,odn,es,ep,sln,g1,g2,g3,g4⟩:=id G;rw[arm_exec_Raise];show wpAny _ _ (do standAt pos;raiseStmt X.env (some (do let v <-eval (.Call (.Name x p) [e] [] cp) X.env;standAt pos;pure v)) none) _ _ _
 refine wpAny_bind (wpAny_standAt (wpAny_raiseStmt_made_sub (C:=C) (nm:=nm) (q:=qq) (N:=N) (bs:=bs) (bm:=.ref B0::bmV) (hdct:=true) (sn:=sn) (sub:=sub) (ab:=ab) (col:=col) (dd:=dd) (k0:=k0) (k1:=k1) (k2:=k2) (k3:=k3) (k5:=k5) (newId:="ValueError.__new__") rfl (I.ok.hd hc) (wpAny_bind (thn ?_ fun v s3 h3=>wpAny_bind (wpAny_standAt (wpAny_pure h3))))))
 refine wpAny_Call_Name_kw (b1a I hg hm ?_ hdb);have ha:PA X [e] (tGA X.K (a0c fe gaNil)):=a0a he a0i hst;refine PySem.W.callWith_K (h₀:=X.base) I.ok.mod.kin hk (thn (ha cp pins s σ H (fun vs H1=>vs.length=1/\Post X.K F H A σ Γ1 [r1] vs H1) I ⟨F,A,Γ,[r1],Γ1,k,by rw[a0d,q];rfl,fun vs H1 pp=>⟨by obtain⟨_,_,_,_,hh⟩:=pp;exact hh.length.symm,pp⟩⟩) fun us s1 hh=>?_) hst hpl
 obtain⟨vs,H1,I1,r,hl,pp⟩:=hh;refine⟨I1.kIn,?_⟩;obtain⟨u,rfl⟩:=d1f (show 1=us.length by rw[<-hl,r.length])
 refine d2i G G0 I1 fun h' t kp g=>⟨_,t,rfl,kp _ _ (I1.kIn _ _ g1),g,?_⟩
 obtain⟨F1,A1,x1,kk,_⟩:=pp.drop;refine hp pins σ H1 s1 H1 _ _ C none I1 ⟨rfl,I1.bare,Un.kept kp,I1.hok.kept kp,Nat.le_succ _,I1.hok.fresh (Nat.le_succ _),_,_,g,rfl,rfl,rfl,by show 1 < 6;decide,.inl rfl⟩ (w none σ H1 ⟨F1,A1,x1,kk,Kept.refl,rfl⟩)
theorem a6g(Γ:Gm):a9i C fe Γ=(fe Γ).bind fun p=>some (.rt (.frz (.exc C none)),p.2):=rfl
end
abbrev Cx.inTry(X:Cx)(pn:List (Addr×Obj))(E:Value->Shared->Prop):Cx:={ X with pn:=pn,xe:=E}
abbrev Cx.inSuite(X:Cx)(e:Value):Cx:={ X with A:=X.A.mark (some e),calm:=false,xe:=fun _ _=>False}
structure Yng (X:Cx) (pins:List (Addr×Obj)) (n:Nat):Prop where
 s:X.s₀.heap.objs.size<=n
 l:X.env.locals < n
 c:∀x c,X.env.cells.lookup x=some c->c < n
 p:∀q∈X.pn++pins,q.1 < n
section
variable {X:Cx} {pins pins':List (Addr×Obj)} {pn:List (Addr×Obj)} {σ:St} {H:Hp} {s:Shared} {E:Value->Shared->Prop} {n:Nat} {ch:List Addr} {h':Heap}
theorem Cx.Ok.inTry(ok:X.Ok):(X.inTry pn E).Ok:=⟨ok.mod,ok.kind,ok.glob,ok.blt,ok.above,ok.inj,ok.has,ok.cab,ok.hd,ok.frames,ok.stk,ok.exf,ok.bs,ok.bsz,ok.noex,ok.exfs,ok.funs,ok.frf⟩
theorem Cx.Ok.outTry(ok:(X.inTry pn E).Ok):X.Ok:=⟨ok.mod,ok.kind,ok.glob,ok.blt,ok.above,ok.inj,ok.has,ok.cab,ok.hd,ok.frames,ok.stk,ok.exf,ok.bs,ok.bsz,ok.noex,ok.exfs,ok.funs,ok.frf⟩
theorem Inv.inTry(I:Inv X pins σ H s):Inv (X.inTry (X.pn++pins) E) [] σ H s:=⟨I.ok.inTry,I.os,I.bare,I.base,I.loc,I.cell,I.free,I.freeC,fun p hp=>I.pin p (by rw[List.append_nil] at hp;exact hp),I.hok,I.len⟩
theorem Inv.outTry(I:Inv (X.inTry (X.pn++pins) E) pins' σ H s):Inv X pins σ H s:=⟨I.ok.outTry,I.os,I.bare,I.base,I.loc,I.cell,I.free,I.freeC,fun p hp=>I.pin p (List.mem_append_left _ hp),I.hok,I.len⟩
theorem Inv.inSuite{e:Value}(I:Inv X pins σ H s):Inv (X.inSuite e) pins σ H s:=
 ⟨⟨I.ok.mod,I.ok.kind,I.ok.glob,I.ok.blt,I.ok.above,I.ok.inj,I.ok.has,I.ok.cab,fun z=>(nomatch z),I.ok.frames,I.ok.stk,I.ok.exf,I.ok.bs,I.ok.bsz,I.ok.noex,I.ok.exfs,I.ok.funs,I.ok.frf⟩,I.os,I.bare,I.base,I.loc,I.cell,I.free,I.freeC,I.pin,I.hok,I.len⟩
theorem Inv.outSuite{e:Value}(I:Inv (X.inSuite e) pins σ H s)(hd:X.calm=true->X.A.handled=none):Inv X pins σ H s:=
 ⟨⟨I.ok.mod,I.ok.kind,I.ok.glob,I.ok.blt,I.ok.above,I.ok.inj,I.ok.has,I.ok.cab,hd,I.ok.frames,I.ok.stk,I.ok.exf,I.ok.bs,I.ok.bsz,I.ok.noex,I.ok.exfs,I.ok.funs,I.ok.frf⟩,I.os,I.bare,I.base,I.loc,I.cell,I.free,I.freeC,I.pin,I.hok,I.len⟩
theorem Inv.yng(I:Inv X pins σ H s):Yng X pins s.heap.objs.size:=⟨I.sz,I.lt,fun x c e=>by obtain⟨v,o,ho,_⟩:=I.cell x c e;exact Heap.lt_size ho,fun q hq=>Heap.lt_size (I.pin q hq).1⟩
theorem Yng.far(y:Yng X pins n){b:Addr}(h:n<=b):(b∈X.ex\/X.s₀.heap.objs.size<=b)/\b≠X.env.locals/\(∀x c,X.env.cells.lookup x=some c->c≠b)/\∀p∈X.pn++pins,p.1≠b:=
 ⟨.inr (Nat.le_trans y.s h),fun z=>absurd (Nat.lt_of_lt_of_le y.l h) (z ▸ Nat.lt_irrefl _),fun x c e z=>absurd (Nat.lt_of_lt_of_le (y.c x c e) h) (z ▸ Nat.lt_irrefl _),fun p hp z=>absurd (Nat.lt_of_lt_of_le (y.p p hp) h) (z ▸ Nat.lt_irrefl _)⟩
theorem LeftX.un{fs:List Addr}(l:LeftX fs ch h h'):Un fs ch H H h h':=
 ⟨fun b o g _ hb hx=>l.keep b o hb hx g,fun b o g _ hb hx=>l.slot b o hb hx g,fun _ _ _ n _=>n,fun b o g hx=>let ⟨_,g2⟩:=l.any g hx;⟨_,g2⟩,fun _ _ q=>q,fun _ _ _ q=>q,fun _ ps q=>⟨#[],by rw[q];simp⟩⟩
theorem Inv.left(I:Inv X pins σ H s)(y:Yng X pins n)(l:LeftX (frs X.stack) ch s.heap h')(hch:∀b∈ch,n<=b/\H b=none):Inv X pins σ H { s with heap:=h',toks:=t'}:=
 I.call (g':=s.gens) (d':=s.drawn) (ch:=ch) l.un (l.hok I.hok I.stkFree fun b m=>(hch b m).2) I.bare fun b m=>y.far (hch b m).1
theorem Inv.trackX{o:Obj}(I:Inv X pins σ H s)(y:Yng X pins n)(hn:n<=e)(he:H e=none)(g:s.heap.get? e=some o):Inv X pins σ (upd H e (.frz o (.own 0))) s:=by
 have ne:∀b u,H b=some u->b≠e:=fun b u q z=>by rw[z,he] at q;cases q
 refine I.step (h':=s.heap) (g':=s.gens) (t':=s.toks) (d':=s.drawn) (ch:=[e]) (fun b m=>by cases List.mem_singleton.1 m;exact y.far hn) (fun b o _ _ _ g _=>g) (fun b o _ _ _ g _=>⟨o.slots,g⟩) (fun b o hc g n=>by rw[a0v (by simpa using hc)];exact n) (fun b o _ g=>⟨o,g⟩)
  (fun b xs q=>by rw[a0v (ne b _ q)];exact q) (fun b o u q=>by rw[a0v (ne b _ q)];exact q) (fun b ps q=>⟨#[],by rw[a0v (ne b _ q),q];simp⟩) (fun m hm=>hm) (fun b u q=>?_) I.bare
 by_cases z:b=e
 ·subst z;rw[a1l] at q;cases q;exact⟨g,_,g⟩
 ·rw[a0v z] at q;exact(I.hok b u q).stay (fun _ _ _ g=>g) (fun c q=>by rw[a0v (ne c _ q)];exact q) fun c xs q=>by rw[a0v (ne c _ q)];exact q
theorem Inv.goes{v:Option Value}{mm:Str->Option Value}(I:Inv X pins σ H s)(hN:X.N.Nodup)(hi:X.N[i]?=some x)(hk:X.env.kindOf x=some .local)(hm:s.heap.Ns X.env.locals mm)(hl:∀(j:Nat) (y:Str) (w:V),X.N[j]?=some y->σ[j]?=some (some w)->Vis X.env.scope y->∃u,RelV w u/\Look X.env s.heap mm y u)
  (hn:h'.Ns X.env.locals (fun y=>if y=x then v else mm y)) (hs:Heap.SameBut X.env.locals s.heap h') :Inv X pins (σ.set i none) H { s with heap:=h',toks:=t'}:=by
 have nl:∀b o,X.s₀.heap.get? b=some o->b≠X.env.locals:=fun b o g=>Nat.ne_of_lt (Nat.lt_of_lt_of_le (Heap.lt_size g) I.ok.above)
 refine⟨I.ok,I.os,I.bare,⟨fun b o g n hb hx=>(hs.2 b (nl b o g)).trans (I.base.keep b o g n hb hx),fun b o g n hb hx=>?_,I.base.free,fun b o g hx=>?_,I.base.tups,I.base.frzs,I.base.tbls⟩,⟨_,hn,fun j y w e1 e2 e3=>?_⟩,fun y c e=>?_,I.free,I.freeC,fun p hp=>?_,fun b u q=>?_,by simpa using I.len⟩
 ·obtain⟨sl,g1⟩:=I.base.slot b o g n hb hx;exact⟨sl,(hs.2 b (nl b o g)).trans g1⟩
 ·obtain⟨o',g1⟩:=I.base.there b o g hx;exact⟨o',(hs.2 b (nl b o g)).trans g1⟩
 ·have hj:j≠i:=fun z=>by
   subst z;by_cases hlt:j < σ.length
   ·rw[List.getElem?_set_self hlt] at e2;cases e2
   ·rw[List.getElem?_eq_none (by simpa using hlt)] at e2;cases e2
  rw[List.getElem?_set_ne (Ne.symm hj)] at e2;obtain⟨u,r,q⟩:=hl j y w e1 e2 e3;refine⟨u,r,?_⟩;rcases q with⟨k,e⟩|⟨k,c,e,z⟩
  ·refine .inl ⟨k,?_⟩;have:y≠x:=fun z=>hj (b5u hN e1 (z ▸ hi))
   simp[this,e]
  ·exact .inr ⟨k,c,e,z.sameBut hs (I.cne y c e)⟩
 ·obtain⟨w,z⟩:=I.cell y c e;exact⟨w,z.sameBut hs (I.cne y c e)⟩
 ·obtain⟨e,n,ne,nf,d⟩:=I.pin p hp;exact⟨(hs.2 p.1 ne).trans e,n,ne,nf,d⟩
 ·refine(I.hok b u q).stay (fun c w hc g=>(hs.2 c ?_).trans g) (fun _ z=>z) fun _ _ z=>z
  rintro rfl;rcases hc with z|z
  ·rw[<-z,I.free] at q;cases q
  ·rw[I.free] at z;cases z
theorem d2j{M:Model}{A:Around}{dx:Option Addr}{Q:Unit->Shared->Prop}(fl:FlyX n s.heap H e C dx)(h:∀h' ch,(∀b∈ch,n<=b/\H b=none)->LeftX (frs X.stack) ch s.heap h'->FlyX n h' H e C dx->Q () { s with heap:=h'}):wpAny M A (setFlight (.ref e) none) Q E s:=by
 obtain⟨hne,hHe,oe,vs,he,hc,hx,hd,hsz,h1⟩:=fl;unfold setFlight;rcases h1 with h1|⟨T,oT,ts,h1,hnT,hHT,hTe,hT,hdT,h3⟩
 ·refine wpAny_bind (wpAny_field he hd h1 ?_);rw[if_neg (by decide)]
  exact wpAny_pure (h s.heap [] (fun _ z=>nomatch z) ⟨fun _ _ _ _ g=>g,fun _ o _ _ g=>⟨o.slots,g⟩⟩ ⟨hne,hHe,oe,vs,he,hc,hx,hd,hsz,.inl h1⟩)
 ·refine wpAny_bind (wpAny_field he hd h1 ?_);rw[if_pos (show(Value.ref T != Value.none)=true by simp)]
  have l3:3 < ts.size:=(Array.getElem?_eq_some_iff.mp h3).1;have dT:=Obj.data_mapFields hdT (·.setIfInBounds 3 ((none:Option Addr).elim Value.none fun f=>rawInt f))
  refine wpAny_setField hT hdT l3 (h _ [T] (fun b m=>by cases List.mem_singleton.1 m;exact⟨hnT,hHT⟩) ⟨fun b o _ hb g=>(Heap.get?_update_other _ _ (by simpa using Ne.symm (by simpa using hb:b≠T))).trans g,fun b o _ hb g=>⟨o.slots,(Heap.get?_update_other _ _ (by simpa using Ne.symm (by simpa using hb:b≠T))).trans g⟩⟩
   ⟨hne,hHe,oe,vs,(Heap.get?_update_other _ _ hTe).trans he,hc,hx,hd,hsz,.inr ⟨T,_,_,h1,hnT,hHT,hTe,Heap.get?_update_self _ hT (Obj.isFreed_of_fields dT),dT,by simp[Array.getElem?_setIfInBounds,l3]⟩⟩)
end
abbrev GH:=Option Nat×(Addr->Option Bool)×GS
variable{gs:List GH}
def b8r(i:Option Nat)(g:GS)(C:Addr)(l:Option Int):GS:=fun Γ=>match i with
 |none=>g Γ
 |some i=>if i < Γ.length then(g (Γ.set i (some (.frz (.exc C l))))).bind fun q=>some (q.1,q.2.set i none) else none
def tryH:List GH->Addr->Option Int->GS
 |[],_,_=>fun _=>none
 |h::hs,C,l=>fun Γ=>(h.2.1 C).bind fun b=>if b=true then b8r h.1 h.2.2 C l Γ else tryH hs C l Γ
def gsTry(f:GS)(hs:List GH):GS:=fun Γ=>(f Γ).bind fun p=>match p.1 with
 |.rt o=>match isX o with
  |some c=>tryH hs c.1 c.2 p.2
  |none=>some (.rt o,p.2)
 |fl=>some (fl,p.2)
section
variable {X:Cx} {K:Frag} {m:List Bool}
def SuOk(X:Cx)(K:Frag)(m:List Bool)(nm:Option Str)(b:List Stmt)(hp:Pos)(i:Option Nat)(g:GS):Prop:=∀(pins:List (Addr×Obj)) (σ:St) (H:Hp) (s:Shared) (D:Ends) (e C:Addr) (dx:Option Addr) (l:Option Int) (F:Hp) (A:List Addr) (Γ:Gm) (fl:Fl) (Γ':Gm) (n:Nat),Inv X pins σ H s->Yng X pins n->FlyX n s.heap H e C dx->OK K F H σ Γ A->ExcL F dx l->b8r i g C l Γ=some (fl,Γ')->Done K m none D F H A σ fl Γ'->
 codeAny (model X.prog X.w) (X.A.mark (some (.ref e))) (.handlers (.ref e) [.ExceptHandler none nm b hp] X.env) (fun r s₂=>match r with
     |.ok f=>(match nm with
      |none=>SP X pins D f s₂
      |some n=>wpAny (model X.prog X.w) X.A (do bindName X.env n .none;unbindBehindTheSuite X.env n hp) (fun _ s₃=>SP X pins D f s₃) X.xe s₂)
     |.error x=>cameBackBy (model X.prog X.w) X.A X.env X.xe x s₂) s
theorem OK.unname{F:Hp}{A:List Addr}{Γ:Gm}{τ:St}{Θ:Gm}(k:OK K F H (τ++σ) (Θ++Γ) A)(hτ:τ.length=Θ.length):∃B,OK K F H (τ++σ.set i none) (Θ++Γ.set i none) B/\Ext F H A F H B:=by
 obtain⟨B,C,h1,h2,h3⟩:=OwnL.split hτ k.os;subst h3;obtain⟨C',g1,g2⟩:=OwnL.forget i h2;have g3:OwnL K F H (σ.set i none) (Γ.set i none) C':=by
  by_cases hi:i < Γ.length
  ·exact OwnL.loose g1 (by rw[List.getElem?_set_self hi])
  ·have hl:=h2.length;rw[List.set_eq_of_length_le (by omega)]
   exact g1
 exact⟨B++C',k.sub (h1.app g3) ((SubP.refl B).app (.of_sub g2))⟩
theorem d9f{b0:Stmt}{suite:List Stmt}(hN:X.N.Nodup)(hi:X.N[i]?=some x)(hk:X.env.kindOf x=some .local)(hS:∀e,PSs (X.inSuite e) (b0::suite) (tS K m none g))(hm:(m[i]? == some true)=false:=by rfl):SuOk X K m (some x) (b0::suite) hp (some i) g:=by
 intro pins σ H s D e C dx l F A Γ fl Γ' n I y f k el ee w;unfold b8r at ee;dsimp only at ee;split at ee
 ·rename_i hlt
  obtain⟨⟨fl1,Γ1⟩,q1,ee⟩:=Option.bind_eq_some_iff.mp ee;cases ee;refine codeAny_handlers_suite_as (d2j (X:=X) f fun h' ch hch lx f2=>?_)
  have I2:Inv X pins σ H { s with heap:=h',toks:=s.toks}:=I.left y lx hch;obtain⟨hne,hHe,oe,vs,he,hc,hx,hd,_⟩:=f2;have I3:=I2.trackX y hne hHe he;obtain⟨k2,x2⟩:=c0g (u:=.frz oe (.own 0)) k hHe;have hF:F e=none:=k.le.free hHe;have rp:RepL K (upd F e (.frz oe (.own 0))) [.ref e] [.exc C l]:=by
   refine .exc ?_ .nil;cases l with
   |none=>
    have el:dx=none:=el;exact⟨oe,a1l,hc,hx.trans el,vs,hd⟩
   |some nn=>
    obtain⟨d,rfl,ed⟩:=(show ∃d,dx=some d/\F d=some (.xd [("line",.int nn)]) from el);exact⟨oe,d,a1l,⟨hc,hx,vs,hd⟩,by rw[a0v (fun z=>by rw[z,hF] at ed;cases ed)];exact ed⟩
  obtain⟨k3,x3⟩:=k2.push (v:=.ref e) (o:=.frz (.exc C l)) (Av:=[]) (Same.refl _) (.frz rp .nil) .nil (fun _ m=>by cases m)
  obtain⟨B,k4,x4⟩:=OK.store (i:=i) k3 hlt;have x5:=x2.trans (x3.trans x4);have kp0:Kept m σ (σ.set i (some (.ref e))):=Kept.set hm;refine b5v I3 hN hi (.inl hk) (v:=.ref e) (u:=.ref e) rfl (fun s3 I4=>?_) (.inr hk)
  have dn:Done K m none { D with nx:=fun σ' H'=>D.nx (σ'.set i none) H',bk:=fun σ' H'=>D.bk (σ'.set i none) H',ct:=fun σ' H'=>D.ct (σ'.set i none) H'} (upd F e (.frz oe (.own 0))) (upd H e (.frz oe (.own 0))) B (σ.set i (some (.ref e))) fl1 Γ1:=by
   have go:∀{σ' H'},PostS K (upd F e (.frz oe (.own 0))) (upd H e (.frz oe (.own 0))) B m (σ.set i (some (.ref e))) Γ1 σ' H'->PostS K F H A m σ (Γ1.set i none) (σ'.set i none) H':=fun{σ' H'} ⟨F',A',x',k',kp⟩=>by
    obtain⟨B2,k6,x6⟩:=OK.unname (τ:=[]) (Θ:=[]) (i:=i) k' rfl;exact⟨F',B2,x5.trans (x'.trans x6),k6,kp0.trans (kp.trans (Kept.set hm))⟩
   cases fl1 with
   |nx=>exact fun σ' H' q=>w _ H' (go q)
   |bk=>exact fun σ' H' q=>w _ H' (go q)
   |ct=>exact fun σ' H' q=>w _ H' (go q)
   |rt o=>
    intro v σ' H' ⟨F',A',x',k',kp⟩;obtain⟨B2,k6,x6⟩:=OK.unname (τ:=[some v]) (Θ:=[some o]) (i:=i) k' rfl;exact w v _ H' ⟨F',B2,x5.trans (x'.trans x6),k6,kp0.trans (kp.trans (Kept.set hm))⟩
  refine wpAny_mono (hS (.ref e) pins s3 _ _ _ I4.inSuite ⟨_,_,_,fl1,Γ1,k4,q1,dn⟩) (fun ff s4 q=>?_) fun _ _ z=>z.elim
  have hcls:(X.env.scope.kind == .class || (X.env.scope.kind == .module && X.env.locals != X.env.globals))=false:=by rw[I.ok.kind];rfl
  cases ff with
  |next=>
   obtain⟨σ',H',J,r⟩:=q;have J:=J.outSuite I.ok.hd;obtain⟨mm,hn,hl⟩:=id J.loc;exact wpAny_nameGoes_keeps hk hn hcls fun h5 v hn' hs=>⟨_,_,J.goes hN hi hk hn hl hn' hs,r⟩
  |brk=>
   obtain⟨σ',H',J,r⟩:=q;have J:=J.outSuite I.ok.hd;obtain⟨mm,hn,hl⟩:=id J.loc;exact wpAny_nameGoes_keeps hk hn hcls fun h5 v hn' hs=>⟨_,_,J.goes hN hi hk hn hl hn' hs,r⟩
  |cont=>
   obtain⟨σ',H',J,r⟩:=q;have J:=J.outSuite I.ok.hd;obtain⟨mm,hn,hl⟩:=id J.loc;exact wpAny_nameGoes_keeps hk hn hcls fun h5 v hn' hs=>⟨_,_,J.goes hN hi hk hn hl hn' hs,r⟩
  |ret u=>
   obtain⟨v0,σ',H',J,rv,r⟩:=q;have J:=J.outSuite I.ok.hd;obtain⟨mm,hn,hl⟩:=id J.loc;exact wpAny_nameGoes_keeps hk hn hcls fun h5 v hn' hs=>⟨v0,_,_,J.goes hN hi hk hn hl hn' hs,rv,r⟩
 ·cases ee
def HB(X:Cx)(K:Frag)(m:List Bool)(hs:List ExceptHandler)(gs:List GH):Prop:=∀(pins:List (Addr×Obj)) (σ:St) (H:Hp) (s:Shared) (D:Ends) (e C:Addr) (dx:Option Addr) (l:Option Int) (F:Hp) (A:List Addr) (Γ:Gm) (fl:Fl) (Γ':Gm) (n:Nat),Inv X pins σ H s->Yng X pins n->FlyX n s.heap H e C dx->OK K F H σ Γ A->ExcL F dx l->tryH gs C l Γ=some (fl,Γ')->Done K m none D F H A σ fl Γ'->
 wpAny (model X.prog X.w) X.A (handleBy (.ref e) X.env hs) (SP X pins D) X.xe s
theorem d9g:HB X K m [] []:=fun _ _ _ _ _ _ _ _ _ _ _ _ _ _ _ _ _ _ _ _ e _=>by cases e
theorem c7w{np:Pos}{nm:Option Str}{b:List Stmt}{i:Option Nat}{wh:Addr->Option Bool}{Cc:Addr}(hm:X.mg x=some (.ref Cc))(hw:∀C b,wh C=some b->exmOne K (.ref C) (.ref Cc)=some b)(su:SuOk X K m nm b hp i g)(rest:HB X K m hs gs)(hg:Gl X x:=by rfl)(hdb:(x == ("__debug__":Str))=false:=by decide)(hK:X.K=K:=by rfl):
  HB X K m (.ExceptHandler (some (.Name x np)) nm b hp::hs) ((i,wh,g)::gs):=by
 subst hK;intro pins σ H s D e C dx l F A Γ fl Γ' n I y f k el ee w;obtain⟨bb,q1,ee⟩:=Option.bind_eq_some_iff.mp ee;dsimp only at q1 ee;refine wpAny_handleBy_cons (codeAny_handlers_test (b1a (I.inSuite (e:=.ref e)) hg hm ?_ hdb)) (by intro q;cases q)
 obtain⟨hne,hHe,oe,vs,he,hc,hr⟩:=id f;have LT:Looks (model X.prog X.w) s.heap (typeOf (.ref e)) (.ref C):=by
  rw[<-hc];exact(Looks.ld he).andThen .now
 refine(exm_one I.kIn LT (hw C bb q1)).here ?_;cases bb with
 |true=>exact su pins σ H s D e C dx l F A Γ fl Γ' n I y f k el (by simpa using ee) w
 |false=>exact rest pins σ H s D e C dx l F A Γ fl Γ' n I y f k el (by simpa using ee) w
theorem SP.outTry{pins:List (Addr×Obj)}{E:Value->Shared->Prop}{D:Ends}{f:Flow}{s':Shared}(h:SP (X.inTry (X.pn++pins) E) [] D f s'):SP X pins D f s':=by
 cases f with
 |next=>obtain⟨σ',H',I,q⟩:=h;exact⟨σ',H',I.outTry,q⟩
 |brk=>obtain⟨σ',H',I,q⟩:=h;exact⟨σ',H',I.outTry,q⟩
 |cont=>obtain⟨σ',H',I,q⟩:=h;exact⟨σ',H',I.outTry,q⟩
 |ret u=>obtain⟨v,σ',H',I,r,q⟩:=h;exact⟨v,σ',H',I.outTry,r,q⟩
theorem d9h{body:List Stmt}{h0:ExceptHandler}{f:GS}(hb:∀(pn:List (Addr×Obj)) (E:Value->Shared->Prop) (W:XW),XPass (X.inTry pn E) W->PSs (X.inTry pn E) body (tS K m (some W) f))(hh:HB X K m (h0::hs) gs)(hst:X.stack=X.env::X.outer:=by rfl)(hf:X.env.frame=some X.env.locals:=by rfl):
  PS X (.Try body (h0::hs) [] [] pos) (tS K m none (gsTry f gs)):=by
 intro pins s σ H D I t;obtain⟨F,A,Γ,fl,Γ',k,e,w⟩:=t;obtain⟨⟨fl1,Γ1⟩,q,e⟩:=Option.bind_eq_some_iff.mp e;refine wpAny_Try_except ?_;have hp:XPass (X.inTry (X.pn++pins) fun e s₁=>wpAny (model X.prog X.w) X.A (noteFrame e X.env) (fun _ s₂=>wpAny (model X.prog X.w) X.A (setFlight e none) (fun _ s₃=>wpAny (model X.prog X.w) X.A (handleBy e X.env (h0::hs)) (SP X pins D) X.xe s₃) X.xe s₂) X.xe s₁)
   (fun C dx σ' H'=>∃F' A' Γ1 l fl Γ',OK K F' H' σ' Γ1 A'/\ExcL F' dx l/\tryH gs C l Γ1=some (fl,Γ')/\Done K m none D F' H' A' σ' fl Γ'):=by
  intro pins' σ' H1 s1 H' s' e C dx I1 c q;obtain⟨F',A',Γ2,l,fl2,Γ3,k2,el,e2,w2⟩:=q;have I':Inv X pins σ' H' s':=(c.inv I1).outTry;have J:Inv X pins σ' H1 s1:=I1.outTry;refine d3n (base:=X.base) (n:=s1.heap.objs.size) (by rw[<-hst];exact I.ok.frames) (by rw[<-hst];exact I'.stack) hf c.fly.lt (fun a z=>I'.hok.fresh z) c.fly fun h' ch hch lx fl=>?_
  rw[<-hst] at lx;have I3:Inv X pins σ' H' { s' with heap:=h',toks:=s'.toks}:=I'.left J.yng lx hch;exact hh pins σ' H' _ D e C dx l F' A' Γ2 fl2 Γ3 _ I3 J.yng fl k2 el e2 w2
 refine wpAny_mono (hb _ _ _ hp [] s σ H D I.inTry ⟨F,A,Γ,fl1,Γ1,k,q,?_⟩) (fun ff s1 z=>?_) fun e s1 z=>z
 ·dsimp only at e;cases fl1 with
  |nx=>cases e;exact w
  |bk=>cases e;exact w
  |ct=>cases e;exact w
  |rt o=>
   dsimp only at e;unfold Done;dsimp only;unfold DoneR;cases hx:isX o with
   |none=>rw[hx] at e;cases e;exact w
   |some c=>
    rw[hx] at e;exact fun dx σ' H' ⟨F',A',x,k',kp,el⟩=>⟨F',A',Γ1,c.2,fl,Γ',k',el,e,w.step x kp⟩
 ·have z:=z.outTry;cases ff with
  |next=>
   obtain⟨σ',H',J,r⟩:=z;exact pss_nil pins s1 σ' H' D J r
  |brk=>exact z
  |cont=>exact z
  |ret u=>exact z
end
end L2
namespace L2
open PySem PySem.Spec PyProof.Rows
section
variable {K:L2.FG} {F H:Hp} {σ:St} {Γ:Gm} {A:List Addr} {C:Addr} {ns:List Str} {ps:List O} {x:V} {i j:Nat} {c:O}
end
section
variable {X:Cx} {K:L2.FG} {m:List Bool} {W:Option XW} {Ch:Addr} {ns:List Str} {i j:Nat} {e o value:Expr} {f:Str} {pos pos' apos cpos:Pos} {fe:GE}
end
section
variable {X:Cx} {K:L2.FG} {m:List Bool} {W:Option XW} {Ch:Addr} {ns:List Str} {i j:Nat} {e o value ei:Expr} {es:List Expr} {f name:Str} {pos pos' apos cpos tpos:Pos} {fe fv fi:GE} {fs:GA} {id:String} {r:V->List V->Hp->VK->Prop} {g:O->List O->Option (O×O)}
end
section
variable {X:Cx} {K:L2.FG} {W:XW} {Ch:Addr} {ns:List Str} {i k n:Nat} {e o:Expr} {es:List Expr} {f:Addr} {fd:FuncData} {ps:List Str} {m:Str} {pos apos p:Pos} {fs:GA} {M:GM} {fa:GE}
structure MethAt (K:L2.FG) (C:Addr) (m qual:Str) (st:Stmt) (f:Addr) (fd:FuncData) (ps:List Str):Prop where
 fn:Fun K m qual st f fd
 mt:Meth K C m f
 bd:Binds K fd ps []
end
end L2
namespace L2
open PySem PySem.Spec PySem.W PySem.Calls PyProof.Rows
section
variable {X:Cx} {pins:List (Addr×Obj)} {σ:St} {H:Hp} {s:Shared} {d:Addr} {es:List (TK×V×V)} {ep:Nat}
end
section
variable {prog:Program} {w:World} {A:Around} {E:Value->Shared->Prop} {s:Shared}
end
section
variable {X:Cx} {K:Frag}
end
section
variable {prog:Program} {w:World} {A:Around} {E:Value->Shared->Prop} {s:Shared} {it d:Addr} {kvs:List (Str×Value)} {ep:Nat}
end
section
variable {X:Cx} {K:Frag}
end
section
variable {K:Frag} {mg:Str->Option Value} {tab:List (Str×Addr)} {L B0 fI:Addr}
theorem ErrC.exm{C C':Addr}{bm bm':List Value}{i i':Option Value}(G:ErrC K C bm i)(G':ErrC K C' bm' i')(h:(Value.ref C'::bm').contains (.type "BaseException")=true):exmOne K (.ref C) (.ref C')=some ((Value.ref C::bm).contains (.ref C')):=by
 obtain⟨cd,c1,c2,c3,c4⟩:=G'.cls;unfold exmOne;rw[G'.sub,h,if_pos (by decide)]
 unfold kitCls;dsimp only;rw[if_pos (by rw[c1,c4];rfl)]
 exact G.sub _
theorem Errs.xB(E:Errs K mg tab L B0 fI)(C:Addr)(b:Bool)(h:wT (L::tab.map (·.2)) C=some b):exmOne K (.ref C) (.ref B0)=some b:=by
 unfold wT at h;split at h
 ·rename_i hC
  cases h;obtain⟨⟨i,G⟩,I⟩:=E.one (C:=C) (by simpa using hC)
  exact(G.exm E.G0 rfl).trans (by simp)
 ·cases h
theorem Errs.xE(E:Errs K mg tab L B0 fI){c:Addr}(hc:(L::tab.map (·.2)).contains c=true)(h0:(c == B0)=false)(C:Addr)(b:Bool)(h:L2.wE (L::tab.map (·.2)) c C=some b):exmOne K (.ref C) (.ref c)=some b:=by
 unfold L2.wE at h;split at h
 ·rename_i hC
  cases h;obtain⟨⟨i,G⟩,I⟩:=E.one (C:=C) (by simpa using hC)
  obtain⟨⟨i',G'⟩,_⟩:=E.one (C:=c) (by simpa using hc)
  refine(G.exm G' rfl).trans (congrArg some ?_);have n0:c≠B0:=fun z=>by rw[z] at h0;simp at h0
  by_cases z:C=c
  ·subst z;simp
  ·rw[show(C == c)=false from beq_false_of_ne z];simp[bmV,Ne.symm z,n0]
 ·cases h
end
section
variable {X:Cx} {K:Frag} {B0:Addr}
end
end L2
namespace L2
open PySem PySem.Spec PyProof.Rows
section
variable {X:Cx} {K:L2.FG} {fa fb fc:GE} {m:List Bool} {W:Option XW} {a b c:Expr} {pos:Pos}
def c2i(c1 c2:Int->Int->Bool)(fa fb fc:GE):GT:=fun Γ=>(fa Γ).bind fun p=>(fb p.2).bind fun q=>match p.1,q.1 with
 |.own (.frz (.int x)),.own (.frz (.int y))=>if c1 x y=true then(fc q.2).bind fun r=>match r.1 with
   |.own (.frz (.int z))=>some (c2 y z,r.2)
   |_=>none
  else some (false,q.2)
 |_,_=>none
theorem c2j{op op':CmpOp}{c1 c2:Int->Int->Bool}(ho:OpR X (compareOp op) (rI0 fun i j=>.bl (c1 i j)))(ho':OpR X (compareOp op') (rI0 fun i j=>.bl (c2 i j)))(ha:PE X a (tG K fa))(hb:PE X b (tG K fb))(hc:PE X c (tG K fc))
  (hm:lastMarks [op,op'] [b,c]=false:=by with_unfolding_all rfl):PT X (.Compare a [op,op'] [b,c] pos) (tGT K (c2i c1 c2 fa fb fc)):=(d0m ho ho' ha hb hc hm).mono fun σ H Q t=>by
 obtain⟨F,A,Γ,rb,Γ',k,e,w⟩:=t;unfold c2i at e;obtain⟨⟨r1,Γ1⟩,e1,e'⟩:=Option.bind_eq_some_iff.mp e;clear e;obtain⟨⟨r2,Γ2⟩,e2,e⟩:=Option.bind_eq_some_iff.mp e';clear e';dsimp only at e2 e;split at e
 ·rename_i x y
  refine⟨F,A,Γ,_,Γ1,k,e1,fun v H1 pp=>?_⟩
  have hv:v=.int x:=Post.flat pp rfl;subst hv;obtain⟨F1,A1,x1,k1,hh⟩:=pp;obtain⟨B,C,h1,h2,h3⟩:=OwnL.one (σ:=σ) (Γ:=Γ1) k1.os;subst h3;obtain⟨k2,x2⟩:=k1.sub h2 (.of_sub (List.sublist_append_right _ _));refine⟨F1,C,Γ1,_,Γ2,k2,e2,fun v2 H2 pp2=>?_⟩
  have hv2:v2=.int y:=Post.flat pp2 rfl;subst hv2;obtain⟨F2,A2,x3,k3,hh2⟩:=pp2;obtain⟨B2,C2,h4,h5,h6⟩:=OwnL.one (σ:=σ) (Γ:=Γ2) k3.os;subst h6;obtain⟨k4,x4⟩:=k3.sub h5 (.of_sub (List.sublist_append_right _ _));have x12:=(x1.trans x2).trans (x3.trans x4);refine⟨x,y,rfl,rfl,c1 x y,rfl,?_⟩;cases hc1:c1 x y with
  |true=>
   rw[hc1,if_pos rfl] at e;rw[if_pos rfl];obtain⟨⟨r3,Γ3⟩,e3,e4⟩:=Option.bind_eq_some_iff.mp e;dsimp only at e4;split at e4
   ·rename_i z
    cases e4;refine⟨F2,C2,Γ2,_,_,k4,e3,fun v3 H3 pp3=>?_⟩
    have hv3:v3=.int z:=Post.flat pp3 rfl;subst hv3;obtain⟨F3,A3,x5,k5,hh3⟩:=pp3;obtain⟨B3,C3,h7,h8,h9⟩:=OwnL.one (σ:=σ) k5.os;subst h9;obtain⟨k6,x6⟩:=k5.sub h8 (.of_sub (List.sublist_append_right _ _));exact⟨y,z,rfl,rfl,_,rfl,w H3 ⟨F3,C3,x12.trans (x5.trans x6),k6,True.intro⟩⟩
   ·cases e4
  |false=>
   rw[hc1,if_neg Bool.false_ne_true] at e;rw[if_neg Bool.false_ne_true];cases e;exact⟨_,rfl,w H2 ⟨F2,C2,x12,k4,True.intro⟩⟩
 ·cases e
end
variable{x:Str}
section
variable {X:Cx} {K:L2.FG} {pos:Pos}
theorem b8s{n:Int}(hg:Gl X x)(hm:∃t,X.mg x=some (.int n t))(hd:(x == ("__debug__":Str))=false:=by decide):PE X (.Name x pos) (tC (.int n)):=by
 obtain⟨t,h⟩:=hm;exact b1b hg h ⟨t,rfl⟩ hd
theorem b8t{z:Str}(hg:Gl X x)(hm:∃t,X.mg x=some (.str z t))(hd:(x == ("__debug__":Str))=false:=by decide):PE X (.Name x pos) (tC (.str z)):=by
 obtain⟨t,h⟩:=hm;exact b1b hg h ⟨t,rfl⟩ hd
theorem c7x:CallR X (.type "int") (fun xs H Q=>∃(x:Str) (n:Int),xs=[.str x]/\intText? x=some n/\x.length<=640/\Q (.int n) H):=by
 intro pins s σ H xs us Q I r h;obtain⟨x,n,rfl,hx,hl,q⟩:=h;obtain⟨u,rfl,ru⟩:=vals1 r;obtain⟨t,rfl⟩:=ru;exact PySem.W.KIN.call_text hx hl ⟨.int n,H,I.tok _,⟨_,rfl⟩,q⟩
def oIntS:List O->Option O
 |[.frz (.str x)]=>if x.length<=640 then(intText? x).map fun n=>.frz (.int n) else none
 |_=>none
theorem d6l:OpOk K (fun xs H Q=>∃(x:Str) (n:Int),xs=[.str x]/\intText? x=some n/\x.length<=640/\Q (.int n) H) oIntS:=by
 intro F H vs os o Q le see e res;unfold oIntS at e;split at e
 ·split at e
  ·rename_i hl
   obtain⟨n,e1,e2⟩:=Option.map_eq_some_iff.mp e;cases e2;obtain⟨x,B,rfl,h1⟩:=see.one;cases a1h h1 rfl;exact⟨_,n,rfl,e1,hl,res.flat rfl⟩
  ·cases e
 ·cases e
theorem d6m(x:Str):oIntS [.frz (.str x)]=if x.length<=640 then(intText? x).map fun n=>.frz (.int n) else none:=rfl
def a5b(x y:Str):List Str:=
 if(decide (x.length < y.length) || decide (Builtin.Str.strKind x < Builtin.Str.strKind y))=true then[x]
 else if(Builtin.Str.occurrences x y 0 x.length (x.length+1)).isEmpty=true then[x]
 else Builtin.Str.partsBetween x (Builtin.Str.occurrences x y 0 x.length (x.length+1)) y.length
def d3y:V->List V->Hp->VK->Prop:=fun x xs H Q=>∃z y,x=.str z/\xs=[.str y]/\(y.length == 0)=false/\z.length<=sizeLine/\(a5b z y).length<=sizeLine/\∀l,H l=none->Q (.ref l) (upd H l (.lst ((a5b z y).map V.str)))
theorem b8u:∀(n:Nat) (xs:List Str),Vals (xs.map V.str) (strsFrom n xs)
 |n,[]=>.nil
 |n,x::xs=>.cons ⟨_,rfl⟩ (b8u (n+1) xs)
theorem c2k:MtM X "str.split" d3y:=by
 intro pins s σ H x xs v us Q I rx rs h;obtain⟨z,y,rfl,rfl,hy,hz,hs,q⟩:=h;obtain⟨t,rfl⟩:=rx;obtain⟨u,rfl,ru⟩:=vals1 rs;obtain⟨t',rfl⟩:=ru;have one:a5b z y=[z]->∀tk,EP X pins σ Q (.ref s.heap.objs.size) { s with heap:=s.heap.push { cls:=.type "list",data:=.seq #[Value.str z t]},toks:=tk}:=fun e tk=>by
  refine⟨.ref s.heap.objs.size,_,I.laid (a:=s.heap.objs.size) (o:=.lst ((a5b z y).map V.str)) (t':=tk) (fun _ _ q=>Heap.get?_push_of_some _ q) (Nat.le_refl _) ⟨by rw[List.length_map];exact hs,[Value.str z t],0,by rw[e];exact .cons ⟨_,rfl⟩ .nil,Heap.get?_push_size _ rfl⟩,rfl,q _ (I.hok.fresh (Nat.le_refl _))⟩
 by_cases h1:(decide (z.length < y.length) || decide (Builtin.Str.strKind z < Builtin.Str.strKind y))=true
 ·refine call_meets F.slot_str_split (typeIs_str s z t) F.entry_str_split (F.args_str_split_2 _ _) (meets_str_split_cannot_occur z y t t' h1) ?_;exact one (by unfold a5b;rw[if_pos h1]) s.toks
 ·rw[Bool.not_eq_true] at h1;by_cases h2:(Builtin.Str.occurrences z y 0 z.length (z.length+1)).isEmpty=true
  ·refine call_meets F.slot_str_split (typeIs_str s z t) F.entry_str_split (F.args_str_split_2 _ _) (meets_str_split_not_found z y t t' h1 hy h2) ?_;exact one (by unfold a5b;rw[h1,if_neg Bool.false_ne_true,if_pos h2]) s.toks
  ·rw[Bool.not_eq_true] at h2;have e:a5b z y=Builtin.Str.partsBetween z (Builtin.Str.occurrences z y 0 z.length (z.length+1)) y.length:=by unfold a5b;rw[h1,h2,if_neg Bool.false_ne_true,if_neg Bool.false_ne_true]
   refine call_meets F.slot_str_split (typeIs_str s z t) F.entry_str_split (F.args_str_split_2 _ _) (meets_str_split_sep z y t t' h1 hy h2 hz (by rw[<-e];exact hs)) ?_
   refine⟨.ref s.heap.objs.size,_,I.laid (a:=s.heap.objs.size) (o:=.lst ((a5b z y).map V.str)) (fun _ _ q=>Heap.get?_push_of_some _ q) (Nat.le_refl _) ⟨by rw[List.length_map];exact hs,strsFrom s.toks (a5b z y),0,b8u _ _,?_⟩,rfl,q _ (I.hok.fresh (Nat.le_refl _))⟩
   rw[e];exact Heap.get?_push_size _ rfl
def a8w:List O->Option O
 |[.frz (.str z),.frz (.str y)]=>if(y.length == 0)=false/\z.length<=1000000/\(a5b z y).length<=1000000 then some (.lst (((a5b z y).map D.str).map .frz)) else none
 |_=>none
theorem c2l{F:Hp}:∀xs:List Str,RepL K F (xs.map V.str) (xs.map D.str)
 |[]=>.nil
 |_::xs=>.flat rfl (c2l xs)
theorem c2m:OpOk K (rMeth d3y) a8w:=by
 intro F H vs os o Q le see e res;unfold a8w at e;split at e
 ·split at e
  ·rename_i z y hh
   cases e;obtain⟨x,x2,B,C,rfl,h1,h2⟩:=see.two;cases a1h h1 rfl;cases a1h h2 rfl;exact⟨_,_,rfl,z,y,rfl,rfl,hh.1,ml hh.2.1,ml hh.2.2,fun l hn=>res.lst (c2l _) hn⟩
  ·cases e
 ·cases e
theorem c2n(z y:Str):a8w [.frz (.str z),.frz (.str y)]=if(y.length == 0)=false/\z.length<=1000000/\(a5b z y).length<=1000000 then some (.lst (((a5b z y).map D.str).map .frz)) else none:=rfl
end
section
variable {X:Cx} {K:L2.FG}
def c7y:V->List V->Hp->VK->Prop:=fun x xs H Q=>∃(l:Addr) (ys:List Str) (z:Str) (j:Nat),x=.ref l/\xs=[.str z]/\H l=some (.lst (ys.map V.str))/\ys[j]?=some z/\(∀i y,i < j->ys[i]?=some y->y≠z)/\Q .non (upd H l (.lst ((ys.eraseIdx j).map V.str)))
theorem b3q{α β:Type}(f:α->β):∀(xs:List α) (j:Nat),(xs.map f).eraseIdx j=(xs.eraseIdx j).map f
 |[],j=>by simp
 |_::_,0=>rfl
 |x::xs,j+1=>by show f x::(xs.map f).eraseIdx j=f x::(xs.eraseIdx j).map f;rw[b3q f xs j]
theorem b0n:∀{ps:List (Str×Tok)},Vals ((ps.map (·.1)).map V.str) (ps.map fun p=>Value.str p.1 p.2)
 |[]=>.nil
 |p::ps=>.cons ⟨p.2,rfl⟩ b0n
theorem c7z:MtM X "list.remove" c7y:=by
 intro pins s σ H x xs v us Q I rx rs h;obtain⟨l,ys,z,j,rfl,rfl,hH,hj,hne,q⟩:=h;cases rx;obtain⟨u,rfl,ru⟩:=vals1 rs;obtain⟨t,rfl⟩:=ru;obtain⟨hz,its,n,rv,hl,eo⟩:=I.lstM hH;obtain⟨ps,e1,e2⟩:=b1j rv;subst e1;have hlen:ps.length=ys.length:=by rw[<-e2,List.length_map]
 have hjl:j < ys.length:=(List.getElem?_eq_some_iff.mp hj).1;have hys:∀i (hi:i < ps.length),ys[i]?=some ps[i].1:=fun i hi=>by rw[<-e2];simp[hi]
 have hsz:(ps.map fun p=>Value.str p.1 p.2).toArray.size=ps.length:=by simp
 have hjz:ps[j].1=z:=by
  have:=hys j (by omega)
  rw[hj] at this;exact(Option.some.inj this).symm
 refine call_meets F.slot_list_remove ⟨_,eo,rfl⟩ F.entry_list_remove (F.args_list_remove_2 _ _) (MeetsSeq.list_remove l _ n (.str z t) (c7q z) ?_ j (by rw[hsz];omega) ?_ ?_ (by rw[hsz,hlen];simpa using hz)) ⟨eo,?_⟩
 ·intro y hy;simp at hy;obtain⟨b,t',_,rfl⟩:=hy;show MeetsSeq.EqGives _ _ (b == z);rw[<-SeqAt.str_beq];exact SeqRoads2.EqGives.str b z t' t
 ·simp[c7q,hjz]
 ·intro i hi hij;rw[hsz] at hi;have:=hne i _ hij (hys i hi);simp[c7q];exact this
 ·refine⟨.non,_,I.lset (its':=(ps.eraseIdx j).map fun p=>Value.str p.1 p.2) hH eo ?_ ?_ ?_,rfl,q⟩
  ·apply Array.toList_inj.mp;simp[Array.toList_eraseIdxIfInBounds,b3q]
  ·rw[<-e2,b3q];exact b0n
  ·rw[List.length_map];have:=List.length_eraseIdx_le ys j;rw[List.length_map] at hz;omega
def strsO:List O->Option (List Str)
 |[]=>some []
 |.frz (.str x)::os=>(strsO os).map fun xs=>x::xs
 |_=>none
abbrev fzS(y:Str):O:=.frz (.str y)
theorem b8v:∀xs:List Str,strsO (xs.map fzS)=some xs
 |[]=>rfl
 |i::is=>by rw[List.map_cons];show(strsO (is.map fzS)).map _=_;rw[b8v is];rfl
theorem b8w:∀{os:List O} {xs:List Str},strsO os=some xs->os=xs.map fzS
 |[],xs,e=>by cases e;rfl
 |o::os,xs,e=>by
  unfold strsO at e;split at e
  ·cases e
   rename_i h
   cases h
  ·rename_i x os' h
   cases h;obtain⟨ys,e1,e2⟩:=Option.map_eq_some_iff.mp e;subst e2;rw[List.map_cons,<-b8w e1]
  ·cases e
theorem b1x{F H:Hp}:∀{ws:List V} {xs:List Str} {A:List Addr},OwnL K F H (ws.map some) ((xs.map fzS).map some) A->ws=xs.map .str
 |[],[],_,_=>rfl
 |[],_::_,_,h=>by have:=h.length;simp at this
 |_::_,[],_,h=>by have:=h.length;simp at this
 |w::ws,i::is,A,h=>by
  obtain⟨B1,B2,g1,g2,rfl⟩:=OwnL.one h;cases a1h g1 rfl;rw[b1x g2];rfl
theorem c2o{F H:Hp}:∀(xs:List Str),OwnL K F H ((xs.map V.str).map some) ((xs.map fzS).map some) []
 |[]=>.nil
 |_::xs=>.frz (.flat rfl .nil) (c2o xs)
def b3r:O->List O->Option (O×O)
 |.lst ps,[.frz (.str z)]=>(strsO ps).bind fun ys=>(findS ys z).map fun j=>(.lst ((ys.eraseIdx j).map fzS),.frz .non)
 |_,_=>none
theorem c8a:MutOk K c7y b3r:=by
 intro F H x vs o os o' res Ai Aτ Q le h1 h2 nd fr e q;unfold b3r at e;split at e
 ·rename_i ps z
  obtain⟨ys,e1,e2⟩:=Option.bind_eq_some_iff.mp e;obtain⟨j,e3,e4⟩:=Option.map_eq_some_iff.mp e2;cases e4;cases b8w e1;obtain⟨l,ws,Ap,rfl,hl,i,nd',go⟩:=b2j h1 rfl nd q
  match vs,h2 with
  |[v],h2=>
   cases a1h h2 rfl;cases b1x i;obtain⟨s1,s2⟩:=b5l e3;exact⟨l,ys,z,j,rfl,rfl,hl,s1,s2,go _ _ [] .non [] rfl (c2o _) b3h ⟨_,List.Perm.refl _,List.nil_sublist _⟩⟩
  |[],h2=>have:=h2.length;simp at this
  |_::_::_,h2=>have:=h2.length;simp at this
 ·cases e
theorem c8b(ys:List Str)(z:Str):b3r (.lst (ys.map fzS)) [.frz (.str z)]=(findS ys z).map fun j=>(.lst ((ys.eraseIdx j).map fzS),.frz .non):=by
 show((strsO (ys.map fzS)).bind _)=_;rw[b8v,Option.bind_some]
end
theorem fnsc{N P:List Str}{sc:Scope}(h1:sc.kind=.function:=by rfl)(h2:sc.isCoroutine=false:=by rfl)(h3:sc.isGenerator=false:=by rfl)(h4:N.Nodup:=by decide +kernel)(h5:N.take P.length=P:=by rfl)(h6:∀x∈P,sc.names.lookup x=some .local \/ sc.names.lookup x=some .cell:=by decide +kernel)(h7:∀y∈sc.names,y.2≠.free:=by decide +kernel):FnScope N P sc:=⟨h1,h2,h3,h4,h5,h6,h7⟩
theorem Room.le{k k':Nat}{A:PySem.Around}(h:Room k A)(e:k'<=k:=by decide):Room k' A:=h.mono e
section
variable {C Ch:Addr} {ns:List Str} {Γ:Gm}
theorem a4m(f:GE):a7d f Γ=(f Γ).bind fun p=>match p.1 with
 |.own o=>match isX o with
  |some _=>some (.rt o,p.2)
  |none=>some (.nx,p.2)
 |_=>none:=rfl
theorem c8c(fa:GE):b8c fa Γ=(fa Γ).bind fun p=>match p.1 with
 |.own o=>match isX o with
  |none=>some (.rt o,p.2)
  |some _=>none
 |_=>none:=by first|rfl|(unfold b8c;rfl)
theorem b5m(f:GS)(hs:List GH):gsTry f hs Γ=(f Γ).bind fun p=>match p.1 with
 |.rt o=>match isX o with
  |some c=>tryH hs c.1 c.2 p.2
  |none=>some (.rt o,p.2)
 |fl=>some (fl,p.2):=rfl
theorem b3s(h:GH)(hs:List GH)(C:Addr)(l:Option Int):tryH (h::hs) C l Γ=(h.2.1 C).bind fun b=>if b=true then b8r h.1 h.2.2 C l Γ else tryH hs C l Γ:=rfl
theorem a8f(i:Nat)(g:GS)(C:Addr)(l:Option Int):b8r (some i) g C l Γ=if i < Γ.length then(g (Γ.set i (some (.frz (.exc C l))))).bind fun q=>some (q.1,q.2.set i none) else none:=rfl
theorem a5y(C:Addr)(l:Option Int):isX (.frz (.exc C l))=some (C,l):=rfl
theorem a7q:isX (.frz .non)=none:=rfl
end
end L2
namespace L2
open PySem PySem.Spec PySem.W PyProof.Rows
mutual
def plO:O->Bool
 |.frz d=>(a6k d).isSome
 |.lst xs=>plL xs
 |.tup xs=>plL xs
 |.dct kvs=>kvs.isEmpty
 |.ins _ _ ps=>plL ps
def plL:List O->Bool
 |[]=>true
 |o::os=>plO o && plL os
end
section
variable {K:Frag} {F F' H:Hp} {σ:St} {Γ:Gm} {A:List Addr}
theorem b6o:∀{os:List O},plL os=true->∀o,some o∈os.map some->plO o=true
 |[],_,o,m=>by cases m
 |p::os,h,o,m=>by
  rw[plL,Bool.and_eq_true] at h;rcases List.mem_cons.mp m with e|m
  ·cases e;exact h.1
  ·exact b6o h.2 o m
theorem b3t(h:OwnL K F H σ Γ A):(∀o,some o∈Γ->plO o=true)->OwnL K F' H σ Γ A:=by
 induction h with
 |nil=>exact fun _=>.nil
 |skip _ ih=>exact fun p=>.skip (ih fun o m=>p o (List.mem_cons_of_mem _ m))
 |frz r _ ih=>
  intro p;have q:=p _ (List.mem_cons_self ..);rw[plO] at q;refine .frz ?_ (ih fun o m=>p o (List.mem_cons_of_mem _ m))
  cases r with
  |flat e _=>exact .flat e .nil
  |_=>exact nomatch q
 |lst e _ _ i1 i2=>
  intro p;have q:=p _ (List.mem_cons_self ..);rw[plO] at q;exact .lst e (i1 (b6o q)) (i2 fun o m=>p o (List.mem_cons_of_mem _ m))
 |tup e _ _ i1 i2=>
  intro p;have q:=p _ (List.mem_cons_self ..);rw[plO] at q;exact .tup e (i1 (b6o q)) (i2 fun o m=>p o (List.mem_cons_of_mem _ m))
 |@dct a kvs ps ep A B σ Γ e k r _ _ i1 i2=>
  intro p;have q:=p _ (List.mem_cons_self ..);rw[plO] at q;cases ps with
  |nil=>
   cases kvs with
   |nil=>exact .dct e k .nil (i1 fun o m=>by cases m) (i2 fun o m=>p o (List.mem_cons_of_mem _ m))
   |cons=>cases k
  |cons=>cases q
 |ins e d k _ _ i1 i2=>
  intro p;have q:=p _ (List.mem_cons_self ..);rw[plO] at q;exact .ins e d k (i1 (b6o q)) (i2 fun o m=>p o (List.mem_cons_of_mem _ m))
end
section
variable {X:Cx} {K:Frag} {k n:Nat} {f Ch:Addr} {fd:FuncData} {ps ns:List Str} {p pos:Pos} {e:Expr} {es:List Expr} {fs:GA} {M:GM} {W:XW}
end
section
variable {X:Cx} {K:Frag} {m:List Bool} {W:Option XW} {body:List Stmt} {f:GS} {i j:Nat}
end
section
variable {X:Cx} {K:Frag} {o e:Expr} {es:List Expr} {fo:GE} {fs:GA} {name:Str} {apos cpos:Pos} {id:String} {r:V->List V->Hp->VK->Prop} {g:O->List O->Option (O×O)}
end
end L2
namespace L2
open PySem PySem.Spec PySem.W PySem.Calls PyProof.Rows
structure Errz (K:Frag) (mg:Str->Option Value) (tab:List (Str×Addr)) (B0:Addr):Prop where
 all:∀p∈tab,mg p.1=some (.ref p.2)/\ErrC K p.2 (.ref B0::bmV) none/\IsErr K p.2/\keepIn K (.ref p.2)=true
 G0:ErrC K B0 bmV none
section
variable {K:Frag} {mg:Str->Option Value} {tab:List (Str×Addr)} {B0:Addr}
end
end L2
namespace L2
open PySem PySem.Spec PyProof.Rows
section
variable {C Ch:Addr} {ns:List Str} {Γ:Gm}
theorem c8d(b:Bool):isX (.frz (.bl b))=none:=rfl
theorem c8e(ds:List D):isX (.frz (.tup ds))=none:=rfl
end
end L2
namespace L2
open PySem PySem.Spec PySem.W PyProof.Rows
section
variable {X:Cx} {K:Frag} {F H:Hp} {σ:St} {Γ:Gm} {A:List Addr} {e:Expr} {f:GE} {ft:GT} {Q:VK}
end
section
variable {X:Cx} {K:Frag} {a b:Expr} {fa fb:GE} {pos:Pos}
end
end L2
namespace L2
open PySem PySem.Spec PyProof.Rows
section
variable {X:Cx} {K:L2.FG} {o e:Expr} {es:List Expr} {i:Nat} {π:List Nat} {fs:GA} {name:Str} {apos cpos:Pos} {id:String} {r:V->List V->Hp->VK->Prop} {g:O->List O->Option (O×O)}
end
end L2
namespace L2
open PySem PySem.Spec PySem.W PyProof.Rows
section
variable {X:Cx} {K:Frag} {F H:Hp} {σ:St} {Γ:Gm} {A:List Addr} {f:GE} {Q:VK}
variable {e b:Expr} {i:Nat} {π ρ:List Nat} {fj:GE} {pos p1:Pos} {n:Nat}
end
def natR:Option (R×Gm)->Option Nat
 |some (.own (.frz (.int j)),_)=>if 0<=j then some j.toNat else none
 |_=>none
theorem d2k{r:Option (R×Gm)}{j:Nat}(h:natR r=some j):∃Γ2,r=some (.own (.frz (.int j)),Γ2):=by
 unfold natR at h;split at h
 ·rename_i i Γ2
  split at h
  ·cases h;refine⟨Γ2,?_⟩;rw[Int.toNat_of_nonneg (by assumption)]
  ·cases h
 ·cases h
section
variable {X:Cx} {K:Frag} {F H:Hp} {σ:St} {Γ:Gm} {A:List Addr} {i ix:Nat} {π ρ:List Nat} {fj:GE} {m m':List Bool} {fB:GS}
end
section
variable {X:Cx} {K:Frag} {F H:Hp} {σ:St} {Γ:Gm} {A:List Addr} {i ix iw:Nat} {π ρ:List Nat} {fj fE f:GE} {m m':List Bool} {fB:GS} {Q:VK}
theorem c8f{o:O}{Γf Γ2:Gm}(k:OK K H H σ Γf [])(q:f Γf=some (.own o,Γ2))(pl:plO o=true)(res:Res K F H o Q):tG K f σ H Q:=by
 refine⟨H,[],Γf,.own o,Γ2,k,q,fun v H' ⟨F',A',x,k',_⟩=>?_⟩
 obtain⟨B,C,h1,_,h3⟩:=OwnL.one k'.os;subst h3;exact res v H' B (fun a u g=>x.keep a u g (by simp)) (b3t h1 fun o m=>by cases List.mem_singleton.mp m;exact pl) (List.nodup_append.mp k'.nd).1 (fun a m=>(x.own a (List.mem_append_left _ m)).elim (fun z=>by cases z) id)
end
section
variable {X:Cx} {K:Frag} {F H:Hp} {σ:St} {Γ:Gm} {A:List Addr} {i:Nat} {π ρ:List Nat} {fj fv fi:GE} {m:List Bool} {W:Option XW} {te:TE} {fp:Gm->Option (List Nat)} {Q:VK}
end
end L2
namespace L2
open PySem PySem.Spec PySem.W PySem.Calls PyProof.Rows
section
variable {X:Cx} {K:Frag} {e:Expr} {p pos kpos q:Pos} {n:Nat} {t:TA} {fs:GA}
end
end L2
namespace L2
open PySem PySem.Spec PySem.W PyProof.Rows
section
variable {X:Cx} {K:Frag} {e:Expr} {p pos kpos q:Pos} {n:Nat} {fs:GA}
end
section
variable {X:Cx} {K:Frag} {m m':List Bool} {f g f1 f2 fR:GS} {s1 s2:Stmt} {rest:List Stmt} {D:Ends} {σ:St} {H:Hp} {W:Option XW} {i ix:Nat} {π ρ:List Nat} {fj:GE}
end
section
variable {X:Cx} {K:Frag} {m:List Bool} {W:XW} {e:Expr} {fa:GE} {f:GS} {pos p1 p2:Pos} {n:Nat} {sa:List Stmt}
end
structure Errw (K:Frag) (mg:Str->Option Value) (tab:List (Str×Addr)) (B0:Addr):Prop extends Errz K mg tab B0 where
 mg0:mg "CarryError"=some (.ref B0)
section
variable {K:Frag} {mg:Str->Option Value} {tab:List (Str×Addr)} {B0:Addr}
end
end L2
namespace L2
open PySem PySem.Spec PyProof.Rows PySem.StrLaws Builtin Builtin.Str
theorem b1l(x:Str)(c limit:Nat):∀(n a:Nat) (st:Array Nat×Nat),st.snd<=a->st.fst.size+n<=limit->
  (forIn (List.range' a n) st (occBody x ⟨#[c]⟩ x.length limit)).run.fst.toList=st.fst.toList++(List.range' a n).filter (fun i=>x.cps.toList[i]? == some c)
 |0,a,st,_,_=>by simp
 |n+1,a,st,h1,h2=>by
  rw[List.range'_succ,List.forIn_cons];unfold occBody;split
  ·rename_i hc
   have e:(x.cps.toList[a]? == some c)=true:=by
    rw[beq_iff_eq];exact(subAt_one x c a).mp ⟨hc.1.2,hc.2⟩
   rw[List.filter_cons,if_pos e];have:=b1l x c limit n (a+1) (st.fst.push a,a+(⟨#[c]⟩:Str).length) (Nat.le_refl _) (by simp only[Array.size_push];omega)
   refine Eq.trans this ?_;simp
  ·rename_i hc
   have e:¬(x.cps.toList[a]? == some c)=true:=by
    rw[beq_iff_eq];intro z;obtain⟨z1,z2⟩:=(subAt_one x c a).mpr z;exact hc ⟨⟨⟨by omega,h1⟩,z1⟩,z2⟩
   rw[List.filter_cons,if_neg e];exact b1l x c limit n (a+1) st (by omega) (by omega)
theorem c8g(x:Str)(c:Nat):occurrences x ⟨#[c]⟩ 0 x.length (x.length+1)=(List.range' 0 (x.length+1)).filter (fun i=>x.cps.toList[i]? == some c):=by
 rw[occ_eq];exact(b1l x c (x.length+1) (x.length+1) 0 (#[],0) (Nat.le_refl _) (by simp)).trans (by simp)
def jl(c:Nat):List (List Nat)->List Nat
 |[]=>[]
 |[p]=>p
 |p::q::r=>p++c::jl c (q::r)
def b3u:Nat->List (List Nat)->List Nat
 |_,[]=>[]
 |_,[_]=>[]
 |a,p::q::r=>(a+p.length)::b3u (a+p.length+1) (q::r)
theorem a9j{l:List Nat}{c:Nat}:∀(n a:Nat),(∀k,k < n->l[a+k]?≠some c)->(List.range' a n).filter (fun i=>l[i]? == some c)=[]
 |0,a,_=>by simp
 |n+1,a,h=>by
  have h0:=h 0 (by omega)
  rw[List.range'_succ,List.filter_cons,if_neg (by rw[beq_iff_eq];simpa using h0)]
  exact a9j n (a+1) fun k hk=>by have:=h (k+1) (by omega);rwa [show a+1+k=a+(k+1) by omega]
theorem b3v(c:Nat):∀(ps:List (List Nat)) (pre l:List Nat),ps≠[]->(∀p∈ps,c∉p)->l=pre++jl c ps->(List.range' pre.length (l.length+1 - pre.length)).filter (fun i=>l[i]? == some c)=b3u pre.length ps
 |[],_,_,h,_,_=>absurd rfl h
 |[p],pre,l,_,hp,e=>by
  subst e;refine a9j _ _ fun k hk=>?_
  intro z;have hc:=hp p (.head _);rw[List.getElem?_append_right (by omega),show pre.length+k - pre.length=k by omega] at z
  exact hc (List.mem_of_getElem? z)
 |p::q::r,pre,l,_,hp,e=>by
  have hc:=hp p (.head _);have ih:=b3v c (q::r) (pre++p++[c]) l (by simp) (fun x m=>hp x (.tail _ m)) (by rw[e];simp[jl])
  have hl:l.length=pre.length+(p.length+1+(jl c (q::r)).length):=by rw[e];simp[jl];omega
  have e1:l.length+1 - pre.length=p.length+(1+(l.length+1 - (pre++p++[c]).length)):=by simp;omega
  rw[e1,<-List.range'_append_1,List.filter_append,a9j,List.nil_append]
  ·rw[show 1+(l.length+1 - (pre++p++[c]).length)=(l.length+1 - (pre++p++[c]).length)+1 by omega,List.range'_succ,List.filter_cons]
   have hx:l[pre.length+p.length]?=some c:=by
    rw[e,show pre++jl c (p::q::r)=(pre++p)++c::jl c (q::r) by simp[jl],List.getElem?_append_right (by simp)]
    simp
   rw[if_pos (by rw[beq_iff_eq];exact hx)]
   show _=(pre.length+p.length)::b3u (pre.length+p.length+1) (q::r);rw[show pre.length+p.length+1=(pre++p++[c]).length by simp;omega,ih]
  ·intro k hk z;rw[e,show pre++jl c (p::q::r)=pre++(p++c::jl c (q::r)) by simp[jl],List.getElem?_append_right (by omega),show pre.length+k - pre.length=k by omega,List.getElem?_append_left hk] at z
   exact hc (List.mem_of_getElem? z)
def cpsL(ps:List Str):List (List Nat):=ps.map fun p=>p.cps.toList
theorem b3w{x y:Str}(h:x.cps.toList=y.cps.toList):x=y:=by
 cases x;cases y;simp only[Str.mk.injEq];exact Array.toList_inj.mp h
theorem b5n(c:Nat)(x:Str):∀(ps:List Str) (pre:List Nat),ps≠[]->x.cps.toList=pre++jl c (cpsL ps)->partsFrom x 1 pre.length (b3u pre.length (cpsL ps))=ps
 |[],_,h,_=>absurd rfl h
 |[p],pre,_,e=>by
  show[strSub x pre.length x.length]=[p];have hn:x.cps.toList.length=x.length:=by simp[Str.length]
  have:strSub x pre.length x.length=p:=by
   apply b3w;rw[strSub_toList,<-hn,e];simp[cpsL,jl];exact List.take_of_length_le (by simp)
  rw[this]
 |p::q::r,pre,_,e=>by
  have hn:x.cps.toList.length=x.length:=by simp[Str.length]
  have e':x.cps.toList=(pre++p.cps.toList++[c])++jl c (cpsL (q::r)):=by rw[e];simp[cpsL,jl]
  have ih:=b5n c x (q::r) (pre++p.cps.toList++[c]) (by simp) e'
  show strSub x pre.length (pre.length+p.cps.toList.length)::partsFrom x 1 (pre.length+p.cps.toList.length+1) (b3u (pre.length+p.cps.toList.length+1) (cpsL (q::r)))=_;rw[show(pre++p.cps.toList++[c]).length=pre.length+p.cps.toList.length+1 by simp;omega] at ih
  rw[ih];have:strSub x pre.length (pre.length+p.cps.toList.length)=p:=by
   apply b3w;rw[strSub_toList,e];simp[cpsL,jl]
  rw[this]
theorem d6n(x:Str):1<=Builtin.Str.strKind x:=by
 unfold Builtin.Str.strKind;split
 ·decide
 ·split <;> decide
theorem c4f(c:Nat)(hc:c < 256)(x:Str)(ps:List Str)(hps:ps≠[])(hno:∀p∈ps,c∉p.cps.toList)(e:x.cps.toList=jl c (cpsL ps)):a5b x ⟨#[c]⟩=ps:=by
 have h1:occurrences x ⟨#[c]⟩ 0 x.length (x.length+1)=b3u 0 (cpsL ps):=by
  rw[c8g];have hn:x.cps.toList.length=x.length:=by simp[Str.length]
  have:=b3v c (cpsL ps) [] x.cps.toList (by unfold cpsL;simpa using hps) (fun p m=>by
   obtain⟨q,hq,rfl⟩:=List.mem_map.mp m;exact hno q hq) (by simpa using e)
  simpa[hn] using this
 have h2:=b5n c x ps [] hps (by simpa using e)
 have hw:(⟨#[c]⟩:Str).length=1:=rfl;have hk:Builtin.Str.strKind (⟨#[c]⟩:Str)=1:=by
  unfold Builtin.Str.strKind;rw[if_pos];simp[hc]
 unfold a5b;have hx:partsFrom x 1 0 []=[x]:=by
  show[strSub x 0 x.length]=[x];rw[sub_whole]
 split
 ·rename_i hz
  rw[hk,hw] at hz;have hl:x.length=0:=by
   have:=d6n x;simp at hz;omega
  have hcut:b3u 0 (cpsL ps)=[]:=by
   rw[<-h1,c8g,hl];have:x.cps.toList=[]:=by
    apply List.eq_nil_of_length_eq_zero;rw[show x.cps.toList.length=x.length by simp[Str.length],hl]
   rw[this];simp
  rw[List.length_nil,hcut,hx] at h2;exact h2
 ·split
  ·rename_i hz
   rw[h1,List.isEmpty_iff] at hz;rw[List.length_nil,hz,hx] at h2;exact h2
  ·rw[partsBetween_eq,h1,hw];exact h2
end L2
namespace L2
open PySem PySem.Spec PySem.W PySem.Calls PyProof.Rows
section
variable {M:Model} {A:Around} {E:Value->Shared->Prop} {env:Env}
variable {nm q:Str} {C N:Addr} {bs bm:List Value} {hdct:Bool} {sn:List Str} {sub:List Value} {ab:Bool} {col:Option Bool} {dd:Option Addr} {k0 k1 k2 k3 k5:Option Value} {newId:String}
theorem c4g{s:Shared}{x:Sem Value}{Q:Flow->Shared->Prop}(hbase:bm.contains (.type "BaseException")=true)(hh:A.handled=none)
  (h:wpAny M A x (fun v s₁=>∃e t dx,v=.ref e/\s₁.heap.get? C=some (excClassObj nm q C N bs bm hdct sn sub ab col dd k0 k1 k2 k3 k5 newId)/\s₁.heap.get? e=some (excO C t dx)/\E (.ref e) s₁) E s) :
  wpAny M A (raiseStmt env (some x) none) Q E s:=by
 have hcB:(Value.ref C::bm).contains (.type "BaseException")=true:=by rw[List.contains_cons,hbase,Bool.or_true]
 unfold raiseStmt;refine wpAny_bind (wpAny_mono h (fun v s₁ h₁=>?_) fun _ _ x=>x)
 obtain⟨e,t,dx,rfl,hC,he,hE⟩:=h₁;obtain⟨hp,g,d,tk,os⟩:=s₁;unfold excO at he
 repeat (first|with_reducible refine wpAny_loadPart_at he ?_|with_reducible refine wpAny_loadPart_at hC ?_|(with_reducible refine wpAny_isSubtype_exc hC ?_;rw[hcB])|wp_step)
 exact wpAny_raiseNew_none hh hE
end
section
variable {X:Cx} {pins:List (Addr×Obj)} {σ:St} {H:Hp} {s:Shared} {C B0 fI:Addr} {fd:FuncData} {k:Nat} {R:Value->Shared->Prop}
theorem c8h{u:Value}{n:Int}(G:ErrC X.K C (.ref B0::bmV) (some (.ref fI)))(G0:ErrC X.K B0 bmV none)(hf:isFn X.K (.ref fI)=true)(F:FnOk X.prog X.w X.K X.mg X.base CX0 k fI fd ["self","line"] (spI C))(hr:Room (k+1) X.A)(hb:Binds X.K fd ["self","line"] [])
  (I:Inv X pins σ H s) (ru:RelV (.int n) u) (h:∀e t dx H'' s',CXr X.prog X.w X.stack H s H'' s' e C (some dx)->H dx=none->H''=upd H dx (.xd [("line",.int n)])->s'.heap.get? e=some (excO C t (some dx))->R (.ref e) s') :
  wpAny (model X.prog X.w) X.A (call (.ref C) [u]) R X.xe s:=by
 obtain⟨hh,g,d,tt,os⟩:=s;have KX:X.K.In hh:=I.kIn;obtain⟨nm,q,N,bs,sn,sub,ab,col,dd,k0,k1,k2,k3,k5,on,odn,es,ep,sln,g1,g2,g3,g4⟩:=G;obtain⟨nm',q',N',bs',sn',sub',ab',col',dd',k0',k1',k2',k3',k5',on',odn',es',ep',sln',g1',g2',g3',g4'⟩:=G0;have FB:=PySem.F.excBase_ValueError;have T:OwnTail hh bmV (.ref B0::bmV):=.own (KX _ _ g1') (mA:=fun n=>nsFind es' n) ⟨_,_,_,KX _ _ g2',rfl,g3',fun _=>rfl⟩ g4' .base
 have nf:H (hh.objs.size+1)=none:=I.hok.fresh (Nat.le_succ _);refine c2g FB rfl FB T (KX _ _ g1) (mN:=fun n=>nsFind es n) ⟨_,_,_,KX _ _ g2,rfl,g3,fun _=>rfl⟩ (by rw[sizeLine_eq];exact(by decide:1<=16777216)) fun i ei=>?_
 rw[g4] at ei;subst ei;have st:∀b o,hh.get? b=some o->((hh.push { cls:=.type "tuple",data:=.seq [u].toArray}).push { cls:=.ref C,data:=.fields #[.ref hh.objs.size,.none,.none,.none,.bool false,.none]}).get? b=some o:=fun b o e=>Heap.get?_push_of_some _ (Heap.get?_push_of_some _ e)
 have hget:((hh.push { cls:=.type "tuple",data:=.seq [u].toArray}).push { cls:=.ref C,data:=.fields #[.ref hh.objs.size,.none,.none,.none,.bool false,.none]}).get? (hh.objs.size+1)=some (excO C hh.objs.size none):=by unfold excO;heap_get
 have I2:Inv X pins σ (upd H (hh.objs.size+1) (exE (hh.objs.size+1) C hh.objs.size)) ⟨((hh.push { cls:=.type "tuple",data:=.seq [u].toArray}).push { cls:=.ref C,data:=.fields #[.ref hh.objs.size,.none,.none,.none,.bool false,.none]}),g,d,tt,os⟩:=I.laid (t':=tt) st (Nat.le_succ _) (d3w hget);have U1:Un (frs X.stack) [] H (upd H (hh.objs.size+1) (exE (hh.objs.size+1) C hh.objs.size)) hh ((hh.push { cls:=.type "tuple",data:=.seq [u].toArray}).push { cls:=.ref C,data:=.fields #[.ref hh.objs.size,.none,.none,.none,.bool false,.none]}):=Un.laid st (Nat.le_succ _) nf;refine(show Looks (model X.prog X.w) _ (bindSpecial (.ref fI) (.ref (hh.objs.size+1))) (.ref fI,[.ref (hh.objs.size+1)]) from bind_fn I2.kIn _ (beq_iff_eq.mp hf)).at ?_;have hq:spI C [.ref (hh.objs.size+1),.int n] (upd H (hh.objs.size+1) (exE (hh.objs.size+1) C hh.objs.size)) (fun v H'=>v=.non/\∃t' dx,Lined (upd H (hh.objs.size+1) (exE (hh.objs.size+1) C hh.objs.size)) H' C (hh.objs.size+1) t' dx n) E0:=
  ⟨_,n,_,rfl,a1l,fun H' t' dx L=>⟨rfl,t',dx,L⟩⟩
 have r2:Vals [V.ref (hh.objs.size+1),.int n] [Value.ref (hh.objs.size+1),u]:=.cons rfl (.cons ru .nil);refine wpAny_call (codeAny_mono (F.run _ X.stack _ _ ⟨[Value.ref (hh.objs.size+1),u],[]⟩ ([Value.ref (hh.objs.size+1),u]++[]) _ _ E0 (hr.make C [u] []) (I2.env0.make C [u] []) (hb _ _ I2.kIn rfl) r2 hq) fun r s' hq'=>?_)
 cases r with
 |error e=>exact False.elim hq'
 |ok fl=>
  cases fl with
  |ret u'=>
   obtain⟨v,H',eos,bare,un,hok,rv,ev,t',dx,L⟩:=hq';subst ev;refine⟨rv,?_⟩;generalize hE:hh.objs.size+1=e at *;have ge:s'.heap.get? e=some (excO C t' (some dx)):=(hok e _ L.e1).1;have d0:H dx=none:=by have:=L.d0;rw[a0v L.ne] at this;exact this
   have U2:=U1.trans un;have eH:∀b,(if b=e then none else H' b)=upd H dx (.xd [("line",.int n)]) b:=fun b=>by
    by_cases b2:b=dx
    ·subst b2;rw[a1l,if_neg L.ne,L.d1]
    ·rw[a0v b2];by_cases b1:b=e
     ·rw[if_pos b1,b1,nf]
     ·rw[if_neg b1,L.old b b1 b2,a0v b1]
   have neE:∀b o,H b=some o->b≠e:=fun b o z y=>by rw[y,nf] at z;cases z
   refine h e t' dx (fun b=>if b=e then none else H' b) s' ⟨eos,bare,⟨U2.keep,U2.slot,fun b o q n hx=>?_,U2.there,fun b xs z=>?_,fun b o u z=>?_,fun b ps z=>?_⟩,fun a o z=>?_,?_⟩ d0 (funext eH) ge
   ·show(if b=e then none else H' b)=none
    split
    ·rfl
    ·exact U2.free b o q n hx
   ·show(if b=e then none else H' b)=_
    rw[if_neg (neE b _ z)];exact U2.tups b xs z
   ·show(if b=e then none else H' b)=_
    rw[if_neg (neE b _ z)];exact U2.frzs b o u z
   ·show ∃more,(if b=e then none else H' b)=_
    rw[if_neg (neE b _ z)];exact U2.tbls b ps z
   ·have z:(if a=e then none else H' a)=some o:=z
    split at z
    ·cases z
    ·refine(hok a o z).stay (fun b u _ g=>g) (fun b y=>?_) fun b xs y=>?_
     ·show(if b=e then none else H' b)=_
      rw[if_neg (fun w=>by rw[w,L.e1] at y;cases y)]
      exact y
     ·show(if b=e then none else H' b)=_
      rw[if_neg (fun w=>by rw[w,L.e1] at y;cases y)]
      exact y
   ·exact⟨by show hh.objs.size<=e;omega,if_pos rfl,_,_,ge,rfl,rfl,rfl,by show 1 < 6;decide,.inl rfl⟩
  |next=>exact False.elim hq'
  |brk=>exact False.elim hq'
  |cont=>exact False.elim hq'
end
def b6p(C:Addr)(fe:GE):GS:=fun Γ=>(fe Γ).bind fun p=>match p.1 with
 |.own (.frz (.int n))=>some (.rt (.frz (.exc C (some n))),p.2)
 |_=>none
section
variable {X:Cx} {K:Frag} {m:List Bool} {W:XW} {C B0 fI:Addr} {x:Str} {p cp pos:Pos} {e:Expr} {fe:GE} {fd:FuncData} {k:Nat}
theorem c8i(G:ErrC K C (.ref B0::bmV) (some (.ref fI)))(G0:ErrC K B0 bmV none)(hf:isFn K (.ref fI)=true)(Fn:FnOk X.prog X.w K X.mg X.base CX0 k fI fd ["self","line"] (spI C))(hr:Room (k+1) X.A)(hb:Binds K fd ["self","line"] [])(hk:keepIn K (.ref C)=true)(hm:X.mg x=some (.ref C))(hp:XPass X W)(he:PE X e (tG K fe))(hc:X.calm=true:=by rfl)(hg:Gl X x:=by rfl)(hdb:(x == ("__debug__":Str))=false:=by decide)
  (hst:starEach [e] X.env=(false,eval e X.env)::starEach [] X.env:=by rfl) (hpl:(backTo cp (starEach [] X.env)).any (·.1)=false:=by rfl) (hK:X.K=K:=by rfl):PS X (.Raise (some (.Call (.Name x p) [e] [] cp)) none pos) (tS K m (some W) (b6p C fe)):=by
 subst hK;intro pins s σ H D I t;obtain⟨F,A,Γ,fl,Γ',k,ee,w⟩:=t;obtain⟨⟨r1,Γ1⟩,q,ee⟩:=Option.bind_eq_some_iff.mp ee;dsimp only at ee;split at ee
 ·rename_i n
  cases ee;have w:∀dx σ' H',PostX X.K F H A m σ Γ' (some n) dx σ' H'->W C dx σ' H':=w;obtain⟨nm,qq,N,bs,sn,sub,ab,col,dd,k0,k1,k2,k3,k5,on,odn,es,ep,sln,g1,g2,g3,g4⟩:=id G;rw[arm_exec_Raise];show wpAny _ _ (do standAt pos;raiseStmt X.env (some (do let v <-eval (.Call (.Name x p) [e] [] cp) X.env;standAt pos;pure v)) none) _ _ _
  refine wpAny_bind (wpAny_standAt (c4g (C:=C) (nm:=nm) (q:=qq) (N:=N) (bs:=bs) (bm:=.ref B0::bmV) (hdct:=true) (sn:=sn) (sub:=sub) (ab:=ab) (col:=col) (dd:=dd) (k0:=k0) (k1:=k1) (k2:=k2) (k3:=k3) (k5:=k5) (newId:="ValueError.__new__") rfl (I.ok.hd hc) (wpAny_bind (thn ?_ fun v s3 h3=>wpAny_bind (wpAny_standAt (wpAny_pure h3))))))
  refine wpAny_Call_Name_kw (b1a I hg hm ?_ hdb);have ha:PA X [e] (tGA X.K (a0c fe gaNil)):=a0a he a0i hst;refine PySem.W.callWith_K (h₀:=X.base) I.ok.mod.kin hk (thn (ha cp pins s σ H (fun vs H1=>vs.length=1/\Post X.K F H A σ Γ' [.own (.frz (.int n))] vs H1) I ⟨F,A,Γ,[.own (.frz (.int n))],Γ',k,by rw[a0d,q];rfl,fun vs H1 pp=>⟨by obtain⟨_,_,_,_,hh⟩:=pp;exact hh.length.symm,pp⟩⟩) fun us s1 hh=>?_) hst hpl
  obtain⟨vs,H1,I1,r,hl,pp⟩:=hh;refine⟨I1.kIn,?_⟩;obtain⟨F1,A1,x1,k1',_⟩:=pp;obtain⟨v,rfl⟩:=d1f hl.symm;obtain⟨rfl,h2⟩:=b2z (σ:=σ) (Γ:=Γ') k1'.os;obtain⟨u,rfl,ru⟩:=Vals.one r;refine c8h G G0 hf Fn hr hb I1 ru fun e' t dx H'' s' cx d0 eH ge=>⟨e',t,some dx,rfl,?_,ge,?_⟩
  ·have:=(cx.inv I1).kIn;exact this _ _ g1
  ·obtain⟨kk,_⟩:=k1'.sub h2 (SubP.refl _);obtain⟨k3',x3⟩:=c0g (u:=.xd [("line",.int n)]) kk d0;subst eH;exact hp pins σ H1 s1 _ s' e' C (some dx) I1 cx (w (some dx) σ _ ⟨_,_,x1.trans x3,k3',Kept.refl,dx,rfl,a1l⟩)
 ·cases ee
end
end L2
namespace L2
open PySem PySem.Spec PySem.W PyProof.Rows
variable{os:List O}{ws:List V}{fl:List Bool}{ft ft1 ft2:GT}{Aw:List Addr}{fj:GE}{fR:GS}
def gsFzC(i:Nat)(f:GS):GS:=fun Γ=>match Γ[i]? with
 |some (some (.lst os))=>f (Γ.set i (some (.lst ((O.dl os).map .frz))))
 |_=>none
section
variable {X:Cx} {K:Frag} {F H:Hp} {σ:St} {Γ:Gm} {A:List Addr} {i:Nat} {m:List Bool} {W:Option XW} {f:GS} {body:List Stmt}
theorem OK.freezeC(k:OK K F H σ Γ A)(ho:Γ[i]?=some (some (.lst os))):∃F' A',OK K F' H σ (Γ.set i (some (.lst ((O.dl os).map .frz)))) A'/\Ext F H A F' H A':=by
 obtain⟨v,Ai,C,g1,g2,g3,g4⟩:=k.os.take ho;cases g2 with
 |@lst p ws _ Aw _ _ _ hq hi hz=>
  cases hz;have nd:((p::Aw++[])++C).Nodup:=g4.nodup_iff.mp k.nd;have fr:∀a∈(p::Aw++[])++C,F a=none:=fun a m=>k.fr a (g4.mem_iff.mpr m)
  rw[List.append_nil,List.cons_append] at nd fr;obtain⟨n1,n2⟩:=List.nodup_cons.mp nd;obtain⟨n3,n4,n5⟩:=List.nodup_append.mp n2
  let F':Hp:=fun a=>if a∈Aw then H a else F a
  have in':∀a,a∈Aw->F' a=H a:=fun a m=>if_pos m
  have out':∀a,a∉Aw->F' a=F a:=fun a m=>if_neg m
  have s:Same F F':=fun a u e=>by
   rw[out' a fun m=>by rw[fr a (.tail _ (List.mem_append_left _ m))] at e;cases e]
   exact e
  have le:Same F' H:=fun a u e=>by
   by_cases m:a∈Aw
   ·rw[in' a m] at e;exact e
   ·rw[out' a m] at e;exact k.le a u e
  have rp:RepL K F' ws (O.dl os):=hi.rep s (fun a m u e=>by rw[in' a m];exact e) ws os rfl rfl
  have w0:OwnL K F' H [some (.ref p)] [some (.lst ((O.dl os).map .frz))] ([p]++[]++[]):=.lst hq (a9w rp) .nil;obtain⟨G,w1,C',w2,w3⟩:=OwnL.put w0 i (g3.keep s fun a _ u e=>e) (by rw[List.length_set];exact(List.getElem?_eq_some_iff.mp ho).1)
  rw[a6q g1,List.set_set] at w1;have sp:SubP G (p::C):=(SubP.of_perm w2).trans ((SubP.refl _).app (.of_sub w3));have sA:∀a∈p::C,a∈A:=fun a m=>g4.mem_iff.mpr (by
   rcases List.mem_cons.mp m with z|z
   ·rw[z];simp
   ·simp[z])
  have ndG:(p::C).Nodup:=List.nodup_cons.mpr ⟨fun z=>n1 (List.mem_append_right _ z),n4⟩
  refine⟨F',G,⟨le,w1,sp.nodup ndG,fun a m=>?_⟩,s,fun a u e _=>e,fun a h=>h,fun a h=>?_,fun a m=>.inl (sA a (sp.mem a m)),.same (Same.refl _)⟩
  ·rw[out' a fun z=>?_]
   ·exact k.fr a (sA a (sp.mem a m))
   ·rcases List.mem_cons.mp (sp.mem a m) with y|y
    ·exact n1 (by rw[<-y];exact List.mem_append_left _ z)
    ·exact n5 a z a y rfl
  ·by_cases m:a∈Aw
   ·exact .inr (.inl (g4.mem_iff.mpr (by simp[m])))
   ·rw[out' a m] at h;exact .inl h
theorem d3z(h:PSs X body (tS K m W f)):PSs X body (tS K m W (gsFzC i f)):=by
 intro pins s σ H D I t;refine h pins s σ H D I ?_;obtain⟨F,A,Γ,fl,Γ',k,e,w⟩:=t;unfold gsFzC at e;split at e
 ·rename_i os ho
  obtain⟨F',A',k',x⟩:=k.freezeC ho;exact⟨F',A',_,fl,Γ',k',e,w.step x Kept.refl⟩
 ·cases e
theorem d4a:gsFzC i f Γ=match Γ[i]? with
 |some (some (.lst os))=>f (Γ.set i (some (.lst ((O.dl os).map .frz))))
 |_=>none:=rfl
end
theorem e0x{P:Program}{w:World}{K:Frag}{mg:Str->Option Value}{base:Heap}{k n:Nat}{f:Addr}{fd:FuncData}{ps:List Str}{M1 M2:GM}(h1:FnOk P w K mg base CX0 k f fd ps (SpM K n M1))(h2:FnOk P w K mg base CX0 k f fd ps (SpM K n M2)):FnOk P w K mg base CX0 k f fd ps (SpM K n fun os=>(M1 os).or (M2 os)):=by
 have key:∀vs H Q E,SpM K n (fun os=>(M1 os).or (M2 os)) vs H Q E->SpM K n M1 vs H Q E\/SpM K n M2 vs H Q E:=by
  intro vs H Q E h;obtain⟨hl,F,A,os,o,fin,k,e,q⟩:=h;have e:(M1 os).or (M2 os)=some (o,fin):=e;cases z:M1 os with
  |some p=>rw[z] at e;cases e;exact .inl ⟨hl,F,A,os,o,fin,k,z,q⟩
  |none=>rw[z] at e;exact .inr ⟨hl,F,A,os,o,fin,k,e,q⟩
 refine⟨fun vs H Q E h=>?_,fun A outer s H args us vs Q E hr he hb hv hs=>?_⟩
 ·rcases key vs H Q E h with z|z
  ·exact h1.len vs H Q E z
  ·exact h2.len vs H Q E z
 ·rcases key vs H Q E hs with z|z
  ·exact h1.run A outer s H args us vs Q E hr he hb hv z
  ·exact h2.run A outer s H args us vs Q E hr he hb hv z
def pickL{α:Type}:List α->List Bool->List α
 |x::xs,b::bs=>if b=true then x::pickL xs bs else pickL xs bs
 |_,_=>[]
def nthT:List Bool->Nat->Option Nat
 |[],_=>none
 |true::_,0=>some 0
 |true::bs,n+1=>(nthT bs n).map (·+1)
 |false::bs,n=>(nthT bs n).map (·+1)
theorem b5o{α:Type}{x:α}{b:Bool}:∀{xs:List α} {bs:List Bool},bs[xs.length]?=some b->pickL (xs++[x]) bs=pickL xs bs++if b=true then[x] else[]
 |[],c::bs,e=>by
  cases e;cases b <;> simp[pickL]
 |y::xs,c::bs,e=>by
  have e:bs[xs.length]?=some b:=by simpa using e
  have ih:=b5o (x:=x) e;cases c with
  |true=>show y::pickL (xs++[x]) bs=y::pickL xs bs++_;rw[ih];rfl
  |false=>exact ih
 |_,[],e=>by simp at e
theorem b3x{α:Type}:∀{xs:List α} {bs:List Bool},(pickL xs bs).length<=xs.length
 |[],_=>by simp[pickL]
 |x::xs,[]=>by simp[pickL]
 |x::xs,true::bs=>by
  have:=b3x (xs:=xs) (bs:=bs);show(x::pickL xs bs).length<=_;simp;omega
 |x::xs,false::bs=>by
  have:=b3x (xs:=xs) (bs:=bs);show(pickL xs bs).length<=_;simp;omega
theorem b6q{α:Type}:∀{xs:List α} {bs:List Bool} {n j:Nat},xs.length=bs.length->nthT bs n=some j->(pickL xs bs)[n]?=xs[j]?/\bs[j]?=some true
 |[],[],n,j,_,e=>by cases e
 |x::xs,true::bs,0,j,_,e=>by cases e;exact⟨rfl,rfl⟩
 |x::xs,true::bs,n+1,j,hl,e=>by
  obtain⟨k,e1,rfl⟩:=Option.map_eq_some_iff.mp e;obtain⟨h1,h2⟩:=b6q (xs:=xs) (by simpa using hl) e1
  exact⟨by show(x::pickL xs bs)[n+1]?=(x::xs)[k+1]?;simpa using h1,by simpa using h2⟩
 |x::xs,false::bs,n,j,hl,e=>by
  have e:(nthT bs n).map (·+1)=some j:=by cases n <;> exact e
  obtain⟨k,e1,rfl⟩:=Option.map_eq_some_iff.mp e;obtain⟨h1,h2⟩:=b6q (xs:=xs) (by simpa using hl) e1
  exact⟨by show(pickL xs bs)[n]?=(x::xs)[k+1]?;simpa using h1,by simpa using h2⟩
 |[],_::_,_,_,hl,_=>by simp at hl
 |_::_,[],_,_,hl,_=>by simp at hl
section
variable {K:Frag} {F H:Hp} {A:List Addr} {σ:St} {Γ:Gm}
theorem c8j{a:Addr}{tt:TT}{τ₀:St}{Fin:List V->Hp->Prop}(hq:∀H',Same H H'->SqL K H' a ws)(hz:ws.length<=1000)(hl:ws.length=fl.length)
  (ht:∀(k:Nat) w b H' (Q:Bool->Hp->Prop),ws[k]?=some w->fl[k]?=some b->Same H H'->(∀H2,Same H' H2->Q b H2)->tt (τ₀.set 0 (some w)) H' Q) (h0:0 < τ₀.length) (fin:∀H',Same H H'->Fin (pickL ws fl) H') :
  CompW (Itl K a) (gName 0) tt (tVar 0) τ₀ H Fin:=by
 refine⟨ws.length,fun i τ acc H'=>Same H H'/\acc=pickL (ws.take i) fl/\∃x,τ=τ₀.set 0 x,⟨Same.refl _,by cases fl <;> rfl,τ₀.getD 0 none,(by cases τ₀ with|nil=>simp at h0|cons a r=>rfl)⟩,fun i τ acc H' hi hW=>?_⟩
 obtain⟨s,rfl,x0,rfl⟩:=hW;have hq':=hq H' s;by_cases hlt:i < ws.length
 ·refine .inr ⟨hlt,⟨ws,ws[i],hq',List.getElem?_eq_getElem hlt⟩,fun x H2 y=>?_⟩
  obtain⟨rfl,y⟩:=y;have hx:=y ws hq';have et:ws.take (i+1)=ws.take i++[x]:=by rw[List.take_succ,hx];rfl
  have es:(τ₀.set 0 x0).set 0 (some x)=τ₀.set 0 (some x):=List.set_set ..;have hs:(τ₀.set 0 (some x))[0]?=some (some x):=List.getElem?_set_self h0;have hb:fl[i]?=some (fl[i]'(by omega)):=List.getElem?_eq_getElem _
  have hp:pickL (ws.take (i+1)) fl=pickL (ws.take i) fl++if(fl[i]'(by omega))=true then[x] else[]:=by
   rw[et];exact b5o (by rw[List.length_take,Nat.min_eq_left (by omega)];exact hb)
  show tt ((τ₀.set 0 x0).set 0 (some x)) _ _;rw[es];refine ht i x _ _ _ hx hb s fun H3 s3=>?_
  generalize(fl[i]'(by omega))=b at hp
  cases b with
  |true=>
   rw[if_pos rfl];refine⟨x,hs,?_,s.trans s3,hp.symm,_,rfl⟩;have:=b3x (xs:=ws.take i) (bs:=fl);rw[List.length_take] at this;rw[sizeLine_eq];omega
  |false=>
   rw[if_neg Bool.false_ne_true];exact⟨s.trans s3,by rw[hp];simp,_,rfl⟩
 ·refine .inl ⟨⟨ws,hq',by omega⟩,?_⟩
  rw[List.take_of_length_le (by omega)]
  exact fin _ s
theorem c8k{w:V}{d:D}{b:Bool}{Γ2:Gm}{H':Hp}{Q:Bool->Hp->Prop}(r:RepL K H' [w] [d])(e:ft [some (.frz d)]=some (b,Γ2))(q:∀H2,Same H' H2->Q b H2):tGT K ft [some w] H' Q:=by
 refine⟨H',[],[some (.frz d)],b,Γ2,⟨Same.refl _,.frz r .nil,.nil,fun _ m=>by cases m⟩,e,fun H2 ⟨F',A',x,k',_⟩=>q H2 fun a u g=>x.keep a u g (by simp)⟩
end
def flags(ft:GT):List O->Option (List Bool)
 |[]=>some []
 |o::os=>(ft [some (.frz o.d)]).bind fun p=>(flags ft os).map (p.1::·)
theorem b3y{ft:GT}:∀{os:List O} {fl:List Bool},flags ft os=some fl->os.length=fl.length
 |[],_,e=>by cases e;rfl
 |o::os,fl,e=>by
  obtain⟨p,_,e⟩:=Option.bind_eq_some_iff.mp e;obtain⟨q,e1,rfl⟩:=Option.map_eq_some_iff.mp e;simp[b3y e1]
theorem c2p{ft:GT}:∀{os:List O} {fl:List Bool} {k:Nat} {o:O} {b:Bool},flags ft os=some fl->os[k]?=some o->fl[k]?=some b->∃Γ2,ft [some (.frz o.d)]=some (b,Γ2)
 |o::os,fl,k,o',b,e,h1,h2=>by
  obtain⟨p,e0,e⟩:=Option.bind_eq_some_iff.mp e;obtain⟨q,e1,rfl⟩:=Option.map_eq_some_iff.mp e;cases k with
  |zero=>cases h1;cases h2;exact⟨p.2,e0⟩
  |succ k=>exact c2p e1 (by simpa using h1) (by simpa using h2)
 |[],_,_,_,_,_,h1,_=>by simp at h1
section
variable {K:Frag} {F H:Hp} {A:List Addr} {σ:St} {Γ:Gm}
theorem d4b{p:Addr}{ib:Nat}{D:Ends}{σ1:St}{H1:Hp}(le:Same F H)(hi:OwnL K F H (ws.map some) (os.map some) Aw)(hq:H p=some (.lst ws))(hf:flags ft os=some fl)(hz:os.length<=1000)(hp:σ1[0]?=some (some (.ref p)))(s:Same H H1)
  (nx:∀l H2,Same H1 H2->H2 l=none->D.nx (σ1.set ib (some (.ref l))) (upd H2 l (.lst (pickL ws fl)))):sComp (iList K (tVar 0)) (gName 0) (tGT K ft) (tVar 0) 1 [] ib D σ1 H1:=by
 have hl:ws.length=os.length:=by have:=hi.length;simpa using this
 refine⟨_,hp,p,rfl,⟨ws,SqL.of (s _ _ hq)⟩,c8j (ws:=ws) (fl:=fl) (fun H' s'=>SqL.of (s' _ _ (s _ _ hq))) (by omega) (by rw[hl,b3y hf]) (fun k w b H' Q h1 h2 s' q=>?_) (by show 0 < 1;decide) fun H2 s2 l hn=>nx l H2 s2 hn⟩
 have hk:k < os.length:=by rw[<-hl];exact(List.getElem?_eq_some_iff.mp h1).1
 obtain⟨v,Ac,Bc,g1,g2,_,_⟩:=b5h hi (List.getElem?_eq_getElem hk);rw[h1] at g1;cases g1;obtain⟨Γ2,e⟩:=c2p hf (List.getElem?_eq_getElem hk) h2;exact c8k ((a4n le g2).mono (s.trans s')) e q
end
section
variable {K:Frag} {F H:Hp} {A:List Addr} {σ:St} {Γ:Gm}
theorem b2o:∀{ws:List V} {os:List O} {bs:List Bool},ws.length=os.length->(∀(k:Nat) w o,ws[k]?=some w->os[k]?=some o->bs[k]?=some true->RepL K F [w] [o.d])->RepL K F (pickL ws bs) (pickL (O.dl os) bs)
 |[],[],bs,_,_=>by cases bs <;> exact .nil
 |w::ws,o::os,[],_,_=>.nil
 |w::ws,o::os,b::bs,hl,h=>by
  have ih:=b2o (ws:=ws) (os:=os) (bs:=bs) (by simpa using hl) fun k w' o' h1 h2 h3=>h (k+1) w' o' (by simpa using h1) (by simpa using h2) (by simpa using h3)
  cases b with
  |true=>exact .cons (h 0 w o rfl rfl rfl) ih
  |false=>exact ih
 |[],_::_,_,hl,_=>by simp at hl
 |_::_,[],_,hl,_=>by simp at hl
theorem c0m{j:Nat}{c:O}(hi:OwnL K F H (ws.map some) (os.map some) Aw)(e:os[j]?=some c)(nd:Aw.Nodup):
  ∃v Ac Bc,ws[j]?=some v/\OwnL K F H [some v] [some c] Ac/\Aw.Perm (Ac++Bc)/\(∀(k:Nat) w o,k≠j->ws[k]?=some w->os[k]?=some o->∃Ak,OwnL K F H [some w] [some o] Ak/\∀a∈Ak,a∈Bc)/\
   ∀F' H' c' A',Same F F'->(∀a∈Bc,∀u,H a=some u->H' a=some u)->OwnL K F' H' [some v] [some c'] A'->∃D,OwnL K F' H' (ws.map some) ((os.set j c').map some) D/\SubP D (A'++Bc):=by
 have e':(os.map some)[j]?=some (some c):=by rw[List.getElem?_map,e];rfl
 obtain⟨v,Ac,B,g1,g2,g3,g4⟩:=hi.take e';have hv:ws[j]?=some v:=by
  rw[List.getElem?_map] at g1;cases q:ws[j]? with
  |none=>rw[q] at g1;cases g1
  |some z=>rw[q] at g1;cases g1;rfl
 refine⟨v,Ac,B,hv,g2,g4,fun k w o hk h1 h2=>?_,fun F' H' c' A' sf kp w=>?_⟩
 ·have hko:((os.map some).set j none)[k]?=some (some o):=by rw[List.getElem?_set_ne (Ne.symm hk),List.getElem?_map,h2];rfl
  obtain⟨w',Ak,B',q1,q2,_,q4⟩:=g3.take hko;rw[List.getElem?_map,h1] at q1;cases q1;exact⟨Ak,q2,fun a m=>q4.mem_iff.mpr (List.mem_append_left _ m)⟩
 ·have g3':OwnL K F' H' (ws.map some) ((os.map some).set j none) B:=g3.keep sf kp;have hj:j < ((os.map some).set j none).length:=by
   rw[List.length_set,List.length_map];exact(List.getElem?_eq_some_iff.mp e).1
  obtain⟨D,k1,C,k2,k3⟩:=OwnL.put w j g3' hj;rw[List.set_set,a6q g1] at k1;rw[<-List.map_set] at k1;exact⟨D,k1,(SubP.of_perm k2).trans ((SubP.refl _).app (.of_sub k3))⟩
end
def b8x(ft1 ft2:GT)(fj:GE)(fR:GS):GS:=fun Γ=>match Γ with
 |[some (.lst os),some (.frz d1),some (.frz d2),_,_,_]=>
  (flags ft1 os).bind fun b1=>(flags ft2 os).bind fun b2=>
  (natR (fj [some (.frz (.lst (O.dl os))),some (.frz d1),some (.frz d2),some (.frz (.lst (pickL (O.dl os) b1))),some (.frz (.lst (pickL (O.dl os) b2))),none])).bind fun n=>(nthT b1 n).bind fun j=>(os[j]?).bind fun c=>
  if os.length<=1000/\b2[j]?=some false then
   match fR [none,some (.frz d1),some (.frz d2),none,some (.frz (.lst (pickL (O.dl os) b2))),some c] with
   |some (.rt o,Γ1)=>match Γ1[5]? with
    |some (some c')=>if plO o=true/\plO c'=true/\Γ1.length=6 then some (.rt o,[some (.lst (os.set j c')),none,none,none,none,none]) else none
    |_=>none
   |_=>none
  else none
 |_=>none
section
variable {X:Cx} {K:Frag} {F H:Hp} {A:List Addr} {σ:St}
theorem st6(h:σ.length=6):∃x0 x1 x2 x3 x4 x5,σ=[x0,x1,x2,x3,x4,x5]:=by
 obtain _|⟨x0,_|⟨x1,_|⟨x2,_|⟨x3,_|⟨x4,_|⟨x5,_|⟨x6,r⟩⟩⟩⟩⟩⟩⟩:=σ <;> simp at h;exact⟨_,_,_,_,_,_,rfl⟩
theorem d9i{D:Ends}(t:tS K [true,false,false] none (b8x ft1 ft2 fj fR) D σ H):
  tSeq (sComp (iList K (tVar 0)) (gName 0) (tGT K ft1) (tVar 0) 1 [] 3) (tSeq (sComp (iList K (tVar 0)) (gName 0) (tGT K ft2) (tVar 0) 1 [] 4) (tSeq (tAsg (tOp (rIxA K) (tVar 3) (tG K fj)) (gName 5)) (tS K [true,false,false,false,false,true] none fR))) D σ H:=by
 obtain⟨F,A,Γ,fl,Γ',k,e,w⟩:=t;unfold b8x at e;split at e
 case h_2=>cases e
 rename_i os d1 d2 y3 y4 y5
 obtain⟨b1,q1,e⟩:=Option.bind_eq_some_iff.mp e;obtain⟨b2,q2,e⟩:=Option.bind_eq_some_iff.mp e;obtain⟨n,q3,e⟩:=Option.bind_eq_some_iff.mp e;obtain⟨j,q4,e⟩:=Option.bind_eq_some_iff.mp e;obtain⟨c,q5,e⟩:=Option.bind_eq_some_iff.mp e;split at e
 case isFalse=>cases e
 rename_i hh
 split at e
 case h_2=>cases e
 rename_i o Γ1 qR
 split at e
 case h_2=>cases e
 rename_i c' q6
 split at e
 case isFalse=>cases e
 rename_i pl
 cases e;obtain⟨x0,x1,x2,x3,x4,x5,rfl⟩:=st6 (σ:=σ) (by have:=k.os.length;simpa using this)
 obtain⟨v,Ai,C,g1,g2,g3,g4⟩:=k.os.take (i:=0) rfl;cases g1;obtain⟨v1,A1,C1,g1,gd1,_,_⟩:=k.os.take (i:=1) rfl;cases g1;obtain⟨v2,A2,C2,g1,gd2,_,_⟩:=k.os.take (i:=2) rfl;cases g1;have r1:RepL K F [v1] [d1]:=by cases gd1 with|frz r t=>exact r
 have r2:RepL K F [v2] [d2]:=by cases gd2 with|frz r t=>exact r
 cases g2 with
 |@lst p ws _ Aw _ _ _ hq hi hz=>
  cases hz;have hl:ws.length=os.length:=by have:=hi.length;simpa using this
  have nd:((p::Aw++[])++C).Nodup:=g4.nodup_iff.mp k.nd;rw[List.append_nil,List.cons_append] at nd;obtain⟨n1,n2⟩:=List.nodup_cons.mp nd;obtain⟨n3,n4,n5⟩:=List.nodup_append.mp n2;have inA:∀a,a=p\/a∈Aw->a∈A:=fun a m=>g4.mem_iff.mpr (by rcases m with z|z <;> simp[z])
  obtain⟨vj,Ac,Bc,c1,c2,c3,c4,wand⟩:=c0m hi q5 n3;obtain⟨z1,z2⟩:=b6q (xs:=ws) (by rw[hl,b3y q1]) q4
  refine d4b k.le hi hq q1 hh.1 rfl (Same.refl _) fun l1 H1 s1 h1=>?_
  have s1':Same H (upd H1 l1 (.lst (pickL ws b1))):=fun a u g=>by
   have:=s1 a u g;rw[a0v (a1t this h1)];exact this
  refine d4b k.le hi hq q2 hh.1 rfl s1' fun l2 H2 s2 h2=>?_
  have s2':Same (upd H1 l1 (.lst (pickL ws b1))) (upd H2 l2 (.lst (pickL ws b2))):=fun a u g=>by
   have:=s2 a u g;rw[a0v (a1t this h2)];exact this
  have s3:=s1'.trans s2';have e1:upd H2 l2 (.lst (pickL ws b2)) l1=some (.lst (pickL ws b1)):=s2' _ _ a1l;have e2:upd H2 l2 (.lst (pickL ws b2)) l2=some (.lst (pickL ws b2)):=a1l;have l2n:H l2=none:=by
   cases g:H l2 with
   |none=>rfl
   |some u=>have:=s2 l2 u (s1' l2 u g);rw[h2] at this;cases this
  generalize upd H2 l2 (.lst (pickL ws b2))=H3 at *;have le3:Same F H3:=k.le.trans s3;have rw0:RepL K H3 ws (O.dl os):=(hi.rep k.le (fun a _ u g=>g) ws os rfl rfl).mono s3
  have hat:∀(k':Nat) w o,ws[k']?=some w->os[k']?=some o->RepL K H3 [w] [o.d]:=fun k' w o h1 h2=>by
   obtain⟨v',Ac',_,g1,g2',_,_⟩:=b5h hi h2;rw[h1] at g1;cases g1;exact(a4n k.le g2').mono s3
  have kf:OK K H3 H3 [some (.ref p),some v1,some v2,some (.ref l1),some (.ref l2),x5] [some (.frz (.lst (O.dl os))),some (.frz d1),some (.frz d2),some (.frz (.lst (pickL (O.dl os) b1))),some (.frz (.lst (pickL (O.dl os) b2))),none] []:=
   ⟨Same.refl _,.frz (.lst (.inl (s3 _ _ hq)) rw0 .nil) (.frz (r1.mono le3) (.frz (r2.mono le3) (.frz (.lst (.inl e1) (b2o hl fun k' w o a b _=>hat k' w o a b) .nil) (.frz (.lst (.inl e2) (b2o hl fun k' w o a b _=>hat k' w o a b) .nil) (.skip .nil))))),.nil,fun _ m=>by cases m⟩
  obtain⟨Γj,qj⟩:=d2k q3;refine⟨_,rfl,c8f (F:=F) kf qj rfl fun y H4 Av s4 hy _ _=>?_⟩
  cases a1h hy rfl;have s5:=s3.trans s4;refine .inl ⟨l1,pickL ws b1,n,vj,rfl,rfl,SqL.of (s4 _ _ e1),a5s (z1.trans c1),?_⟩;have le5:Same F H4:=k.le.trans s5;have bcA:∀a∈Bc,a∈A:=fun a m=>inA a (.inr (c3.mem_iff.mpr (List.mem_append_right _ m)))
  have acA:∀a∈Ac,a∈A:=fun a m=>inA a (.inr (c3.mem_iff.mpr (List.mem_append_left _ m)))
  have ndc:(Ac++Bc).Nodup:=c3.nodup_iff.mp n3;have there:∀a∈A,H a≠none:=k.os.there;have l2A:∀a∈A,a≠l2:=fun a m z=>there a m (by rw[z];exact l2n)
  have up:∀a,H a≠none->H4 a≠none:=fun a h z=>by
   cases g:H a with
   |none=>exact h g
   |some u=>rw[s5 a u g] at z;cases z
  let FB:Hp:=fun a=>if a∈Bc\/a=l2 then H4 a else F a
  have inB:∀a,a∈Bc\/a=l2->FB a=H4 a:=fun a m=>if_pos m
  have outB:∀a,¬(a∈Bc\/a=l2)->FB a=F a:=fun a m=>if_neg m
  have sB:Same F FB:=fun a u g=>by
   rw[outB a fun m=>by
    rcases m with m|m
    ·rw[k.fr a (bcA a m)] at g;cases g
    ·have:=k.le a u g;rw[m,l2n] at this;cases this]
   exact g
  have leB:Same FB H4:=fun a u g=>by
   by_cases m:a∈Bc\/a=l2
   ·rw[inB a m] at g;exact g
   ·rw[outB a m] at g;exact le5 a u g
  have rC:RepL K FB [.ref l2] [.lst (pickL (O.dl os) b2)]:=.lst (.inl (by rw[inB l2 (.inr rfl)];exact s4 _ _ e2)) (b2o hl fun k' w o a b hb=>by
   have ne:k'≠j:=fun z=>by rw[z,hh.2] at hb;cases hb
   obtain⟨Ak,ok,sub⟩:=c4 k' w o ne a b;exact ok.rep sB (fun a m u g=>by rw[inB a (.inl (sub a m))];exact s5 a u g) [w] [o] rfl rfl) .nil
  have kB:OK K FB H4 [some (.ref p),some v1,some v2,some (.ref l1),some (.ref l2),some vj] [none,some (.frz d1),some (.frz d2),none,some (.frz (.lst (pickL (O.dl os) b2))),some c] Ac:=
   ⟨leB,.skip (.frz (r1.mono sB) (.frz (r2.mono sB) (.skip (.frz rC (c2.keep sB fun a _ u g=>s5 a u g))))),(List.nodup_append.mp ndc).1,fun a m=>by
    rw[outB a fun z=>by
     rcases z with z|z
     ·exact(List.nodup_append.mp ndc).2.2 a m a z rfl
     ·exact l2A a (acA a m) z]
    exact k.fr a (acA a m)⟩
  refine⟨FB,Ac,_,.rt o,Γ1,kB,qR,fun v σ' H' ⟨F',A',x,k',kp⟩=>?_⟩
  obtain⟨B0,C0,h0,h0',h0''⟩:=OwnL.one k'.os;subst h0'';obtain⟨v5,B5,C5,j1,j2,j3,j4⟩:=h0'.take q6;have hσ5:σ'[5]?=some (some vj):=kp 5 rfl;rw[hσ5] at j1;cases j1;have hσ0:σ'[0]?=some (some (.ref p)):=kp 0 rfl;have hn5:Γ1.length=σ'.length:=h0'.length.symm;have p0:OwnL K F H' [some v] [some o] B0:=b3t h0 fun o' m=>by cases List.mem_singleton.mp m;exact pl.1
  have p5:OwnL K F H' [some vj] [some c'] B5:=b3t j2 fun o' m=>by cases List.mem_singleton.mp m;exact pl.2.1
  obtain⟨D1,w1,w2⟩:=wand F H' c' B5 (Same.refl _) (fun a m u g=>k'.le a u (x.ff a u (by rw[inB a (.inl m)];exact s5 a u g))) p5
  have pAw:p∉Aw:=fun z=>n1 (List.mem_append_left _ z)
  have pAc:p∉Ac:=fun z=>pAw (c3.mem_iff.mpr (List.mem_append_left _ z))
  have hp':H' p=some (.lst ws):=x.keep p _ (s5 p _ hq) pAc;have wl:OwnL K F H' [some (.ref p)] [some (.lst (os.set j c'))] (p::D1++[]):=.lst hp' w1 .nil;have l6:σ'.length=6:=by rw[<-hn5];exact pl.2.2
  obtain⟨u0,u1,u2,u3,u4,u5,rfl⟩:=st6 l6;cases hσ0;have wf:OwnL K F H' (some v::[some (.ref p),u1,u2,u3,u4,u5]) (some o::[some (.lst (os.set j c')),none,none,none,none,none]) (B0++((p::D1++[])++[])):=p0.app (wl.app (.skip (.skip (.skip (.skip (.skip .nil))))));have sub:SubP (B0++((p::D1++[])++[])) ((B0++B5)++(p::Bc)):=by
   rw[List.append_nil,List.append_nil];refine((SubP.refl B0).app (((SubP.refl [p]).app w2:SubP ([p]++D1) ([p]++(B5++Bc))))).trans (.of_perm ?_);rw[List.append_assoc];exact List.Perm.append_left B0 (List.perm_middle (l₁:=B5) (l₂:=Bc) (a:=p)).symm
  have b05:∀a∈B0++B5,a∈B0++C0:=fun a m=>by
   rcases List.mem_append.mp m with z|z
   ·exact List.mem_append_left _ z
   ·exact List.mem_append_right _ (j4.mem_iff.mpr (List.mem_append_left _ z))
  have nd05:(B0++B5).Nodup:=by
   have:SubP (B0++B5) (B0++C0):=(SubP.refl B0).app ((SubP.of_sub (List.sublist_append_left B5 C5)).trans (.of_perm j4.symm));exact this.nodup k'.nd
  have pBA:∀a∈p::Bc,a∈A/\a∉Ac:=fun a m=>by
   rcases List.mem_cons.mp m with z|z
   ·exact⟨inA a (.inl z),by rw[z];exact pAc⟩
   ·exact⟨bcA a z,fun y=>(List.nodup_append.mp ndc).2.2 a y a z rfl⟩
  have dis:∀a∈B0++B5,a∉p::Bc:=fun a m z=>by
   rcases x.own a (b05 a m) with y|y
   ·exact(pBA a z).2 y
   ·exact up a (there a (pBA a z).1) y
  have ndL:((B0++B5)++(p::Bc)).Nodup:=List.nodup_append.mpr ⟨nd05,List.nodup_cons.mpr ⟨fun z=>pAw (c3.mem_iff.mpr (List.mem_append_right _ z)),(List.nodup_append.mp ndc).2.1⟩,fun a m b m' z=>by subst z;exact dis a m m'⟩
  have own':∀a∈B0++((p::D1++[])++[]),a∈A\/H a=none:=fun a m=>by
   rcases List.mem_append.mp (sub.mem a m) with z|z
   ·rcases x.own a (b05 a z) with y|y
    ·exact .inl (acA a y)
    ·refine .inr ?_;cases g:H a with
     |none=>rfl
     |some u=>rw[s5 a u g] at y;cases y
   ·exact .inl (pBA a z).1
  refine w v _ H' ⟨F,_,⟨Same.refl _,fun a u g n=>x.keep a u (s5 a u g) fun z=>n (acA a z),fun a h=>x.dom a (up a h),fun a h=>.inl h,own',(Att.same s5).trans x.att⟩,⟨fun a u g=>k'.le a u (x.ff a u (sB a u g)),wf,sub.nodup ndL,fun a m=>?_⟩,fun i hi=>?_⟩
  ·rcases own' a m with z|z
   ·exact k.fr a z
   ·cases g:F a with
    |none=>rfl
    |some u=>have:=k.le a u g;rw[z] at this;cases this
  ·match i,hi with
   |0,_=>rfl
   |1,hi=>cases hi
   |2,hi=>cases hi
   |i+3,hi=>cases hi
theorem d6o{s1 s2 s3:Stmt}{rest:List Stmt}(h1:PS X s1 (sComp (iList K (tVar 0)) (gName 0) (tGT K ft1) (tVar 0) 1 [] 3))(h2:PS X s2 (sComp (iList K (tVar 0)) (gName 0) (tGT K ft2) (tVar 0) 1 [] 4))(h3:PS X s3 (tAsg (tOp (rIxA K) (tVar 3) (tG K fj)) (gName 5)))(hR:PSs X rest (tS K [true,false,false,false,false,true] none fR)):
  PSs X (s1::s2::s3::rest) (tS K [true,false,false] none (b8x ft1 ft2 fj fR)):=(a9q h1 (a9q h2 (a9q h3 hR))).mono fun _ _ _ t=>d9i t
end
section
variable {X:Cx} {K:Frag}
def rMin2(xs:List V)(H:Hp)(Q:VK):Prop:=∃a b,xs=[.int a,.int b]/\Q (.int (if b < a then b else a)) H
theorem c8l(hc:X.calm=true:=by rfl):CallR X (.builtin "min") rMin2:=by
 intro pins s σ H xs us Q I r h;obtain⟨a,b,rfl,q⟩:=h;obtain⟨u,w',rfl,ru,rw'⟩:=vals2 r;obtain⟨t,rfl⟩:=ru;obtain⟨t',rfl⟩:=rw';refine min_two_ints (I.ok.hd hc) fun h' tk hk=>?_
 refine⟨.int (if b < a then b else a),H,I.kept (h':=h') (t':=tk) fun b o e=>hk b o e,?_,q⟩
 split
 ·exact⟨t',rfl⟩
 ·exact⟨t,rfl⟩
def oMin2:List O->Option O
 |[.frz (.int a),.frz (.int b)]=>some (.frz (.int (if b < a then b else a)))
 |_=>none
theorem d6p:OpOk K rMin2 oMin2:=by
 intro F H vs os o Q le see e res;unfold oMin2 at e;split at e
 ·cases e;obtain⟨x,y,B,C,rfl,h1,h2⟩:=see.two;cases a1h h1 rfl;cases a1h h2 rfl;exact⟨_,_,rfl,res.flat rfl⟩
 ·cases e
theorem d6q(a b:Int):oMin2 [.frz (.int a),.frz (.int b)]=some (.frz (.int (if b < a then b else a))):=rfl
end
end L2
namespace L2
open PySem PySem.Spec PyProof.Rows
section
variable {Γ:Gm} {i ix iw:Nat}
theorem b6r(w:Addr->Option Bool)(C:Addr)(l:Option Int):oIsiX w [.frz (.exc C l)]=(w C).map fun b=>.frz (.bl b):=rfl
theorem b1m(y:O):a2g (.lst []) [y]=some (.lst [y],.frz .non):=rfl
end
end L2
namespace L2
theorem a3w{A:PySem.Around}{k:Nat}(hr:Room k A):A.units+41 < PySem.cLine:=Nat.lt_of_le_of_lt (Nat.add_le_add_left (by decide:41<=64) _) hr.units
end L2
namespace Carry
open PySem L2
seal PE PA PT PS PSs
def top(i:Nat):Stmt:=PySem.Challenge.pw_carry_k09_no_houses_read.main.body.getD i (.Pass ⟨0,0,0,0⟩)
abbrev b0o:Stmt:=top 10
abbrev a7r:Stmt:=top 12
abbrev a7s:Stmt:=top 13
abbrev a7t:Stmt:=top 14
abbrev a9k:Stmt:=top 15
abbrev a8g:Stmt:=top 16
abbrev a8h:Stmt:=top 17
abbrev a6x:Stmt:=top 18
abbrev b0p:Stmt:=top 19
abbrev a8i:Stmt:=top 23
abbrev a7e:Stmt:=top 24
abbrev a7f:Stmt:=top 25
abbrev a7u:Stmt:=top 26
abbrev b6s:Stmt:=top 28
abbrev b6t:Stmt:=top 29
abbrev b0q:Stmt:=top 30
abbrev a7v:Stmt:=top 31
abbrev a2e:Stmt:=top 32
abbrev b6u:Stmt:=top 33
abbrev d2l:Stmt:=top 34
abbrev errTab:List (Str×Addr):=[("NoName",37),("NoSize",49),("NoOut",61),("NoHand",73)]
abbrev errCs:List Addr:=92::errTab.map (·.2)
set_option genInjectivity false in
set_option genSizeOfSpec false in
structure Adr where
 d_init:FuncData
 f0:Addr
 d0:FuncData
 f1:Addr
 d1:FuncData
 f2:Addr
 d2:FuncData
 f3:Addr
 d3:FuncData
 f4:Addr
 d4:FuncData
 f5:Addr
 d5:FuncData
 f6:Addr
 d6:FuncData
 f7:Addr
 d7:FuncData
 f8:Addr
 d8:FuncData
 f9:Addr
 d9:FuncData
 f10:Addr
 d10:FuncData
 f11:Addr
 d11:FuncData
 f12:Addr
 d12:FuncData
 f13:Addr
 d13:FuncData
 f14:Addr
 d14:FuncData
 f15:Addr
 d15:FuncData
 f16:Addr
 d16:FuncData
 f17:Addr
 d17:FuncData
 f18:Addr
 d18:FuncData
 f19:Addr
 d19:FuncData
abbrev c8m:Stmt:=d5d (top 6) 0
structure Txt (K:L2.FG) (mg:Str->Option Value) (t:Adr):Prop where
 F0:DefAt K mg "is_name" b0o t.f0 t.d0 ["thing"]
 F1:DefAt K mg "right_house" a7r t.f1 t.d1 ["house"]
 F2:DefAt K mg "check_carts" a7s t.f2 t.d2 ["carts","taken"]
 F3:DefAt K mg "check_belts" a7t t.f3 t.d3 ["belts","taken"]
 F4:DefAt K mg "take_name" a9k t.f4 t.d4 ["name","taken"]
 F5:DefAt K mg "check_outs" a8g t.f5 t.d5 ["belts","carts"]
 F6:DefAt K mg "check_hand" a8h t.f6 t.d6 ["house"]
 F7:DefAt K mg "belt_names" a6x t.f7 t.d7 ["belts"]
 F8:DefAt K mg "reached" b0p t.f8 t.d8 ["house","belt"]
 F9:DefAt K mg "read_house" a8i t.f9 t.d9 ["text"]
 F10:DefAt K mg "is_belt_line" a7e t.f10 t.d10 ["words"]
 F11:DefAt K mg "is_cart_line" a7f t.f11 t.d11 ["words"]
 F12:DefAt K mg "is_number" a7u t.f12 t.d12 ["word"]
 F13:DefAt K mg "_law_feed" b6s t.f13 t.d13 ["_law_script"]
 F14:DefAt K mg "_law_draw" b6t t.f14 t.d14 ["_law_feed_here","_law_many"]
 F15:DefAt K mg "_law_lines" b0q t.f15 t.d15 ["_law_feed_here"]
 F16:DefAt K mg "_law_bent_line" a7v t.f16 t.d16 ["_law_lines_here","_law_k","_law_how","_law_c"]
 F17:DefAt K mg "_law_bent_house" a2e t.f17 t.d17 ["_law_lines_here","_law_how","_law_c"]
 F18:DefAt K mg "_law_told" b6u t.f18 t.d18 ["_law_words"]
 F19:DefAt K mg "law" d2l t.f19 t.d19 ["_law_script"]
 er:Errs K mg errTab 92 24 89
 F_init:Fun K "__init__" "NoLine.__init__" c8m 89 t.d_init
 B_init:Binds K t.d_init ["self","line"] []
 b_len:mg "len"=none
 b_isinstance:mg "isinstance"=none
 b_int:mg "int"=none
 b_str:mg "str"=none
 b_list:mg "list"=none
 b_tuple:mg "tuple"=none
 b_range:mg "range"=none
 b_enumerate:mg "enumerate"=none
 b_all:mg "all"=none
 b_min:mg "min"=none
 c_LETTERS:∃t,mg "LETTERS"=some (.str "abcdefghijklmnopqrstuvwxyz" t)
 c_FIGURES:∃t,mg "FIGURES"=some (.str "0123456789" t)
 c_MOST_LETTERS:∃t,mg "MOST_LETTERS"=some (.int 8 t)
 c_MOST_FIGURES:∃t,mg "MOST_FIGURES"=some (.int 9 t)
section
variable {P:Program} {w:World} {K:L2.FG} {mg:Str->Option Value} {base:Heap} {t:Adr}
theorem d6r:FnScope ["self","line"] ["self","line"] (a0s c8m):=fnsc
theorem d6s(T:Txt K mg t):FnOk P w K mg base CX0 1 89 t.d_init ["self","line"] (spI 92):=by
 refine T.F_init.ok (k:=0) d6r (fun vs H Q E h=>?_) fun cdv A outer s H vs Q E hr h=>⟨_,a9q (b9u (d6j T.er.GL T.er.G0 T.er.I0 T.er.mg0 (pv 0) a0q)) (c4s (d6k T.er.GL T.er.sL T.er.nL (pv 0) (pv 1))),?_⟩
 ·obtain⟨e,n,t',rfl,he,q⟩:=h;rfl
 ·obtain⟨e,n,t',rfl,he,q⟩:=h;exact d2h rfl rfl he fun H' t' dx L=>q H' t' dx L
theorem c4h:FnScope ["thing"] ["thing"] (a0s b0o):=fnsc
def b8y:GS:=(a0h (gsIf (gNotT (gTru (gOp oIsi (a0c (gVar 0) (a0c (gC (.ty "str")) gaNil)))))
  (gsRet (gC (.bl false)))
  gsNil)
 (a0h (gsIf (gNotT (c2i (fun i j=>decide (i<=j)) (fun i j=>decide (i<=j)) (gC (.int 1)) (gOp oLen (a0c (gVar 0) gaNil)) (gC (.int 8))))
  (gsRet (gC (.bl false)))
  gsNil)
 (gsRet (gOp (c2e fun bs=>bs.all id) (a0c (a6u (srcS (gVar 0)) (a1g 0) gYes (gBin (oInG false) (gVar 0) (gC (.str "abcdefghijklmnopqrstuvwxyz"))) 1 []) gaNil)))))
def b0r:GM:=runM 1 [false] b8y
abbrev b8z(P:Program)(w:World)(K:L2.FG)(mg:Str->Option Value)(base:Heap)(t:Adr):Prop:=FnOk P w K mg base CX0 1 t.f0 t.d0 ["thing"] (SpM K 1 b0r)
theorem c4i(T:Txt K mg t):b8z P w K mg base t:=
 a6r (k:=0) [false] b8y T.F0.fn c4h rfl rfl (by decide) fun cdv A outer s H E hr=>(by
  have hu41:=a3w hr;exact⟨_,(a0n (a3f (b5d (a7g (a2k (b2x K) c6q T.b_isinstance c5n (a0a (a0b (pv 0)) (a0a (a0r (d:=.ty "str") (d5f (by rfl) T.b_str d3k)) a0i)))))
   (a0u (a3r (a0r (d:=.bl false) b7l)))
   a2f)
   (a0n (a3f (b5d (c2j d0l d0l (a0r (d:=.int 1) a0f) (a2k (a3a K) a6m T.b_len a6j (a0a (a0b (pv 0)) a0i)) (a0r (d:=(.int 8)) (b8s (by rfl) T.c_MOST_LETTERS))))
   (a0u (a3r (a0r (d:=.bl false) b7l)))
   a2f)
   (a0u (a3r (a2k (b8q K) (c2f _) T.b_all d3l (a0a (b3k c6v (k:=1) (cap:=[]) a2l (M:=["sign"]) (CompOk.of (a0s b0o).names ["thing"] (by decide +kernel)) (d3j (a0b (pv 0)))
    (fun _ _ _ _=>(a2j (i:=0) (show List.Nodup (["sign"]:List Str) by decide +kernel) rfl (Or.inl rfl))) (fun _ _ _ _=>b3j) (fun _ _ _ _=>(a7z (b3f K (by exact hu41)) (b3g false) (a0b (pv 0)) (a0r (d:=(.str "abcdefghijklmnopqrstuvwxyz")) (b8t (by rfl) T.c_LETTERS))))) a0i)))))),rfl⟩)
theorem b6v:FnScope ["belts"] ["belts"] (a0s a6x):=fnsc
def a8j:GS:=(gsRet (a6u (srcL (gVar 0)) (a1g 0) gYes (gBin oIx (gVar 0) (gC (.int 0))) 1 []))
def a3s:GM:=runM 1 [false] a8j
abbrev a6y(P:Program)(w:World)(K:L2.FG)(mg:Str->Option Value)(base:Heap)(t:Adr):Prop:=FnOk P w K mg base CX0 1 t.f7 t.d7 ["belts"] (SpM K 1 a3s)
theorem b6w(T:Txt K mg t):a6y P w K mg base t:=
 a6r (k:=0) [false] a8j T.F7.fn b6v rfl rfl (by decide) fun cdv A outer s H E hr=>(by
  have hu41:=a3w hr;exact⟨_,(a0u (a3r (b3k c1w (k:=1) (cap:=[]) a2l (M:=["belt"]) (CompOk.of (a0s a6x).names ["belts"] (by decide +kernel)) (a9s K (a1j (a0b (pv 0))))
    (fun _ _ _ _=>(a2j (i:=0) (show List.Nodup (["belt"]:List Str) by decide +kernel) rfl (Or.inl rfl))) (fun _ _ _ _=>b3j) (fun _ _ _ _=>(a1n (a4f K (by exact hu41)) a1o (a0b (pv 0)) (a0r (d:=.int 0) a0f)))))),rfl⟩)
theorem b3z:FnScope ["words"] ["words"] (a0s a7f):=fnsc
def a4r:GS:=(gsRet (gAndV (gBin oEq (gOp oLen (a0c (gVar 0) gaNil)) (gC (.int 2))) (gAndV (gBin (oInG true) (gC (.str "")) (gVar 0)) (gBin oEq (gBin oIx (gVar 0) (gC (.int 0))) (gC (.str "cart"))))))
def a4g:GM:=runM 1 [false] a4r
abbrev a8x(P:Program)(w:World)(K:L2.FG)(mg:Str->Option Value)(base:Heap)(t:Adr):Prop:=FnOk P w K mg base CX0 1 t.f11 t.d11 ["words"] (SpM K 1 a4g)
theorem b4a(T:Txt K mg t):a8x P w K mg base t:=
 a6r (k:=0) [false] a4r T.F11.fn b3z rfl rfl (by decide) fun cdv A outer s H E hr=>(by
  have hu40:=a5h hr;have hu41:=a3w hr;exact⟨_,(a0u (a3r (c1j (a7z (a2i K (by exact hu40)) a4b (a2k (a3a K) a6m T.b_len a6j (a0a (a0b (pv 0)) a0i)) (a0r (d:=.int 2) a0f)) (c1j (a7z (b0a K (by exact hu41)) (b3g true) (a0r (d:=.str "") a0q) (a0b (pv 0))) (d3q (a7z (a2i K (by exact hu40)) a4b (a1n (a4f K (by exact hu41)) a1o (a0b (pv 0)) (a0r (d:=.int 0) a0f)) (a0r (d:=.str "cart") a0q))))))),rfl⟩)
theorem b9a:FnScope ["word"] ["word"] (a0s a7u):=fnsc
def b4b:GS:=(a0h (gsIf (gNotT (c2i (fun i j=>decide (i<=j)) (fun i j=>decide (i<=j)) (gC (.int 1)) (gOp oLen (a0c (gVar 0) gaNil)) (gC (.int 9))))
  (gsRet (gC (.bl false)))
  gsNil)
 (a0h (gsIf (gAndT (gT (gBin oEq (gBin oIx (gVar 0) (gC (.int 0))) (gC (.str "0")))) (gT (gBin oNeA (gVar 0) (gC (.str "0")))))
  (gsRet (gC (.bl false)))
  gsNil)
 (gsRet (gOp (c2e fun bs=>bs.all id) (a0c (a6u (srcS (gVar 0)) (a1g 0) gYes (gBin (oInG false) (gVar 0) (gC (.str "0123456789"))) 1 []) gaNil)))))
def a3x:GM:=runM 1 [false] b4b
abbrev b4c(P:Program)(w:World)(K:L2.FG)(mg:Str->Option Value)(base:Heap)(t:Adr):Prop:=FnOk P w K mg base CX0 1 t.f12 t.d12 ["word"] (SpM K 1 a3x)
theorem b9b(T:Txt K mg t):b4c P w K mg base t:=
 a6r (k:=0) [false] b4b T.F12.fn b9a rfl rfl (by decide) fun cdv A outer s H E hr=>(by
  have hu40:=a5h hr;have hu41:=a3w hr;exact⟨_,(a0n (a3f (b5d (c2j d0l d0l (a0r (d:=.int 1) a0f) (a2k (a3a K) a6m T.b_len a6j (a0a (a0b (pv 0)) a0i)) (a0r (d:=(.int 9)) (b8s (by rfl) T.c_MOST_FIGURES))))
   (a0u (a3r (a0r (d:=.bl false) b7l)))
   a2f)
   (a0n (a3f (PW.pt (b5e (a1q (a2i K (by exact hu40)) a4b (a1n (a4f K (by exact hu41)) a1o (a0b (pv 0)) (a0r (d:=.int 0) a0f)) (a0r (d:=.str "0") a0q)) (b1e (a1q (c1y K (by exact hu40)) c1z (a0b (pv 0)) (a0r (d:=.str "0") a0q)))))
   (a0u (a3r (a0r (d:=.bl false) b7l)))
   a2f)
   (a0u (a3r (a2k (b8q K) (c2f _) T.b_all d3l (a0a (b3k c6v (k:=1) (cap:=[]) a2l (M:=["sign"]) (CompOk.of (a0s a7u).names ["word"] (by decide +kernel)) (d3j (a0b (pv 0)))
    (fun _ _ _ _=>(a2j (i:=0) (show List.Nodup (["sign"]:List Str) by decide +kernel) rfl (Or.inl rfl))) (fun _ _ _ _=>b3j) (fun _ _ _ _=>(a7z (b3f K (by exact hu41)) (b3g false) (a0b (pv 0)) (a0r (d:=(.str "0123456789")) (b8t (by rfl) T.c_FIGURES))))) a0i)))))),rfl⟩)
theorem sc_l_feed:FnScope ["_law_script","_law_cells"] ["_law_script"] (a0s b6s):=fnsc
def b6x:GS:=(a0h (gsSet 1 (gFrz (gBin oAdd (a5p (gVar 0) a6n (a6a (gC (.int 2)))) (gSeq .lst (a0c (gC (.int 0)) (a0c (gC (.int 0)) gaNil))))))
 (gsRet (gSeq .lst (a0c (gFrz (a5p (gVar 0) a6n (a6a (gC (.int 120))))) (a0c (gC (.int 0)) (a0c (gC (.int 0)) (a0c (gBin oMod (gBin oIx (gVar 1) (gC (.int 0))) (gC (.int 2))) (a0c (gBin oIx (gVar 1) (gC (.int 1))) gaNil))))))))
def b2p:GM:=runM 2 [false] b6x
abbrev c2q(P:Program)(w:World)(K:L2.FG)(mg:Str->Option Value)(base:Heap)(t:Adr):Prop:=FnOk P w K mg base CX0 1 t.f13 t.d13 ["_law_script"] (SpM K 1 b2p)
theorem c8n(T:Txt K mg t):c2q P w K mg base t:=
 a6r (k:=0) [false] b6x T.F13.fn sc_l_feed rfl rfl (by decide) fun cdv A outer s H E hr=>(by
  have hu41:=a3w hr;exact⟨_,(a0n (a2d (i:=1) sc_l_feed.nd rfl (Or.inl rfl) (a1j (a2a (a1w K) a2s (a4o (a0b (pv 0)) a5j (a5k (a0r (d:=.int 2) a0f))) (a2p (a0a (a0r (d:=.int 0) a0f) (a0a (a0r (d:=.int 0) a0f) a0i))))))
   (a0u (a3r (a2p (a0a (a1j (a4o (a0b (pv 0)) a5j (a5k (a0r (d:=.int 120) a0f)))) (a0a (a0r (d:=.int 0) a0f) (a0a (a0r (d:=.int 0) a0f) (a0a (a2a a5c a5d (a1n (a4f K (by exact hu41)) a1o (a0b (pv 1)) (a0r (d:=.int 0) a0f)) (a0r (d:=.int 2) a0f)) (a0a (a1n (a4f K (by exact hu41)) a1o (a0b (pv 1)) (a0r (d:=.int 1) a0f)) a0i))))))))),rfl⟩)
theorem sc_l_draw:FnScope ["_law_feed_here","_law_many","_law_found","_law_at","_law_cell"] ["_law_feed_here","_law_many"] (a0s b6t):=fnsc
def b6y:GS:=(a0h (gsIf (gT (gBin oEq (gBin oIx (gVar 0) (gC (.int 3))) (gC (.int 1))))
  (a0h (gsSet 2 (gBin oMod (gBin oIx (gVar 0) (gC (.int 4))) (gVar 1)))
 (a0h (gsPut (gBin oFdiv (gBin oIx (gVar 0) (gC (.int 4))) (gVar 1)) (gVar 0) (gC (.int 4)))
 (gsRet (gVar 2))))
  gsNil)
 (a0h (gsSet 3 (gBin oIx (gVar 0) (gC (.int 1))))
 (a0h (gsPut (gFrz (gBin oAdd (gVar 3) (gC (.int 1)))) (gVar 0) (gC (.int 1)))
 (a0h (gsSet 4 (gVar 3))
 (a0h (gsIf (gT (gBin oGt (gOp oLen (a0c (gBin oIx (gVar 0) (gC (.int 0))) gaNil)) (gC (.int 0))))
  (gsSet 4 (gFrz (gBin oAdd (gBin oIx (gBin oIx (gVar 0) (gC (.int 0))) (gBin oMod (gVar 3) (gOp oLen (a0c (gBin oIx (gVar 0) (gC (.int 0))) gaNil)))) (gBin oMulA (gBin oFdiv (gVar 3) (gOp oLen (a0c (gBin oIx (gVar 0) (gC (.int 0))) gaNil))) (gC (.int 31))))))
  gsNil)
 (gsRet (gBin oMod (gBin oMod (gBin oMulA (gBin oMod (gBin oAdd (gBin oMulA (gVar 4) (gC (.int 48271))) (gBin oMulA (gC (.int 31)) (gVar 3))) (gC (.int 1000003))) (gC (.int 69621))) (gC (.int 999983))) (gVar 1))))))))
def a1y:GM:=runM 5 [true,false] b6y
abbrev b6z(P:Program)(w:World)(K:L2.FG)(mg:Str->Option Value)(base:Heap)(t:Adr):Prop:=FnOk P w K mg base CX0 1 t.f14 t.d14 ["_law_feed_here","_law_many"] (SpM K 2 a1y)
theorem c8o(T:Txt K mg t):b6z P w K mg base t:=
 a6r (k:=0) [true,false] b6y T.F14.fn sc_l_draw rfl rfl (by decide) fun cdv A outer s H E hr=>(by
  have hu40:=a5h hr;have hu41:=a3w hr;exact⟨_,(a0n (a3f (a1q (a2i K (by exact hu40)) a4b (a1n (a4f K (by exact hu41)) a1o (a0b (pv 0)) (a0r (d:=.int 3) a0f)) (a0r (d:=.int 1) a0f))
   (a0n (a2d (i:=2) sc_l_draw.nd rfl (Or.inl rfl) (a2a a5c a5d (a1n (a4f K (by exact hu41)) a1o (a0b (pv 0)) (a0r (d:=.int 4) a0f)) (a0b (pv 1))))
   (a0n (a5o (a2a b2r b3a (a1n (a4f K (by exact hu41)) a1o (a0b (pv 0)) (a0r (d:=.int 4) a0f)) (a0b (pv 1))) (a0b (pv 0)) (a0r (d:=.int 4) a0f) (by exact hu41))
   (a0u (a3r (a0b (pv 2))))))
   a2f)
   (a0n (a2d (i:=3) sc_l_draw.nd rfl (Or.inl rfl) (a1n (a4f K (by exact hu41)) a1o (a0b (pv 0)) (a0r (d:=.int 1) a0f)))
   (a0n (a5o (a1j (a2a (a1w K) a2s (a0b (pv 3)) (a0r (d:=.int 1) a0f))) (a0b (pv 0)) (a0r (d:=.int 1) a0f) (by exact hu41))
   (a0n (a2d (i:=4) sc_l_draw.nd rfl (Or.inl rfl) (a0b (pv 3)))
   (a0n (a3f (a1q d8e d8w (a2k (a3a K) a6m T.b_len a6j (a0a (a1n (a4f K (by exact hu41)) a1o (a0b (pv 0)) (a0r (d:=.int 0) a0f)) a0i)) (a0r (d:=.int 0) a0f))
   (a0u (a2d (i:=4) sc_l_draw.nd rfl (Or.inl rfl) (a1j (a2a (a1w K) a2s (a1n (a4f K (by exact hu41)) a1o (a1n (a4f K (by exact hu41)) a1o (a0b (pv 0)) (a0r (d:=.int 0) a0f)) (a2a a5c a5d (a0b (pv 3)) (a2k (a3a K) a6m T.b_len a6j (a0a (a1n (a4f K (by exact hu41)) a1o (a0b (pv 0)) (a0r (d:=.int 0) a0f)) a0i)))) (a2a a9b b3b (a2a b2r b3a (a0b (pv 3)) (a2k (a3a K) a6m T.b_len a6j (a0a (a1n (a4f K (by exact hu41)) a1o (a0b (pv 0)) (a0r (d:=.int 0) a0f)) a0i))) (a0r (d:=.int 31) a0f))))))
   a2f)
   (a0u (a3r (a2a a5c a5d (a2a a5c a5d (a2a a9b b3b (a2a a5c a5d (a2a (a1w K) a2s (a2a a9b b3b (a0b (pv 4)) (a0r (d:=.int 48271) a0f)) (a2a a9b b3b (a0r (d:=.int 31) a0f) (a0b (pv 3)))) (a0r (d:=.int 1000003) a0f)) (a0r (d:=.int 69621) a0f)) (a0r (d:=.int 999983) a0f)) (a0b (pv 1)))))))))),rfl⟩)
theorem sc_l_bent_line:FnScope ["_law_lines_here","_law_k","_law_how","_law_c","_law_line","_law_spot","_law_number"] ["_law_lines_here","_law_k","_law_how","_law_c"] (a0s a7v):=fnsc
def bw0:GS:=gsIf (gT (gBin oEq (gVar 2) (gC (.int 0)))) (gsPut (gFrz (gBin oAdd (gSeq .lst (a0c (gBin oIx (gSeq .lst (a0c (gC (.str "Belt")) (a0c (gC (.str "belts")) (a0c (gC (.str "carts")) (a0c (gC (.str "rin")) (a0c (gC (.str "to")) gaNil)))))) (gBin oMod (gVar 3) (gC (.int 5)))) gaNil)) (a5p (gVar 4) (a6a (gC (.int 1))) a6n))) (gVar 0) (gVar 1)) gsNil
def bw1:GS:=gsIf (gT (gBin oEq (gVar 2) (gC (.int 1)))) (a0h (gsPut (gFrz (a5p (gVar 4) a6n (a6a (gBin oAdd (gBin oMulA (gBin oMod (gVar 3) (gC (.int 2))) (gC (.int 2))) (gC (.int 1)))))) (gVar 0) (gVar 1)) (gsIf (gT (gBin oEq (gBin oIx (gVar 4) (gC (.int 0))) (gC (.str "cart")))) (gsPut (gFrz (gBin oAdd (gVar 4) (gSeq .lst (a0c (gC (.str "to")) gaNil)))) (gVar 0) (gVar 1)) gsNil)) gsNil
def bw2:GS:=gsIf (gT (gBin oEq (gVar 2) (gC (.int 2)))) (a0h (gsSet 5 (gBin oMod (gVar 3) (gBin oAdd (gOp oLen (a0c (gVar 4) gaNil)) (gC (.int 1))))) (gsPut (gFrz (gBin oAdd (gBin oAdd (a5p (gVar 4) a6n (a6a (gVar 5))) (gSeq .lst (a0c (gC (.str "")) gaNil))) (a5p (gVar 4) (a6a (gVar 5)) a6n))) (gVar 0) (gVar 1))) gsNil
def bw3:GS:=gsIf (gT (gBin oEq (gVar 2) (gC (.int 3)))) (gsPut (gFrz (gSeq .lst gaNil)) (gVar 0) (gVar 1)) gsNil
def bw4:GS:=gsIf (gAndT (gT (gBin oEq (gVar 2) (gC (.int 4)))) (gT (gBin oEq (gBin oIx (gVar 4) (gC (.int 0))) (gC (.str "cart"))))) (gsPut (gFrz (gSeq .lst (a0c (gC (.str "cart")) gaNil))) (gVar 0) (gVar 1)) (gsIf (gT (gBin oEq (gVar 2) (gC (.int 4)))) (gsPut (gFrz (a5p (gVar 4) a6n (a6a (gC (.int 4))))) (gVar 0) (gVar 1)) gsNil)
def bw5:GS:=gsIf (gAndT (gT (gBin oEq (gVar 2) (gC (.int 5)))) (gT (gBin oEq (gBin oIx (gVar 4) (gC (.int 0))) (gC (.str "cart"))))) (gsPut (gFrz (gSeq .lst (a0c (gC (.str "cart")) (a0c (gC (.str "")) gaNil)))) (gVar 0) (gVar 1)) (gsIf (gT (gBin oEq (gVar 2) (gC (.int 5)))) (a0h (gsSet 6 (gBin oIx (gSeq .lst (a0c (gFrz (gBin oAdd (gC (.str "0")) (gBin oIx (gVar 4) (gC (.int 2))))) (a0c (gFrz (gBin oAdd (gC (.str "+")) (gBin oIx (gVar 4) (gC (.int 2))))) (a0c (gC (.str "-1")) (a0c (gC (.str "1234567890")) (a0c (gFrz (gBin oAdd (gBin oIx (gVar 4) (gC (.int 2))) (gC (.str "a")))) (a0c (gC (.str "00")) (a0c (gC (.str "x")) gaNil)))))))) (gBin oMod (gVar 3) (gC (.int 7))))) (gsPut (gFrz (gBin oAdd (gBin oAdd (a5p (gVar 4) a6n (a6a (gC (.int 2)))) (gSeq .lst (a0c (gVar 6) gaNil))) (a5p (gVar 4) (a6a (gC (.int 3))) a6n))) (gVar 0) (gVar 1))) gsNil)
def bw6:GS:=gsIf (gAndT (gT (gBin oEq (gVar 2) (gC (.int 6)))) (gT (gBin oEq (gBin oIx (gVar 4) (gC (.int 0))) (gC (.str "cart"))))) (gsPut (gFrz (gBin oAdd (gVar 4) (gSeq .lst (a0c (gC (.str "x")) gaNil)))) (gVar 0) (gVar 1)) (gsIf (gT (gBin oEq (gVar 2) (gC (.int 6)))) (gsPut (gFrz (gBin oAdd (gBin oAdd (a5p (gVar 4) a6n (a6a (gC (.int 3)))) (gSeq .lst (a0c (gBin oIx (gSeq .lst (a0c (gC (.str "To")) (a0c (gC (.str "t")) (a0c (gC (.str "too")) gaNil)))) (gBin oMod (gVar 3) (gC (.int 3)))) gaNil))) (a5p (gVar 4) (a6a (gC (.int 4))) a6n))) (gVar 0) (gVar 1)) gsNil)
def a7w:GS:=a0h (gsSet 4 (gBin oIx (gVar 0) (gVar 1))) (a0h bw0 (a0h bw1 (a0h bw2 (a0h bw3 (a0h bw4 (a0h bw5 bw6))))))
def a3y:GM:=runM 7 [true,false,false,false] a7w
abbrev b0s(P:Program)(w:World)(K:L2.FG)(mg:Str->Option Value)(base:Heap)(t:Adr):Prop:=FnOk P w K mg base CX0 1 t.f16 t.d16 ["_law_lines_here","_law_k","_law_how","_law_c"] (SpM K 4 a3y)
theorem b4v(T:Txt K mg t):b0s P w K mg base t:=
 a6r (k:=0) [true,false,false,false] a7w T.F16.fn sc_l_bent_line rfl rfl (by decide) fun cdv A outer s H E hr=>(by
  have hu40:=a5h hr;have hu41:=a3w hr;exact⟨_,(a0n (a2d (i:=4) sc_l_bent_line.nd rfl (Or.inl rfl) (a1n (a4f K (by exact hu41)) a1o (a0b (pv 0)) (a0b (pv 1))))
   (a0n (a3f (a1q (a2i K (by exact hu40)) a4b (a0b (pv 2)) (a0r (d:=.int 0) a0f))
   (a0u (a5o (a1j (a2a (a1w K) a2s (a2p (a0a (a1n (a4f K (by exact hu41)) a1o (a2p (a0a (a0r (d:=.str "Belt") a0q) (a0a (a0r (d:=.str "belts") a0q) (a0a (a0r (d:=.str "carts") a0q) (a0a (a0r (d:=.str "rin") a0q) (a0a (a0r (d:=.str "to") a0q) a0i)))))) (a2a a5c a5d (a0b (pv 3)) (a0r (d:=.int 5) a0f))) a0i)) (a4o (a0b (pv 4)) (a5k (a0r (d:=.int 1) a0f)) a5j))) (a0b (pv 0)) (a0b (pv 1)) (by exact hu41)))
   a2f)
   (a0n (a3f (a1q (a2i K (by exact hu40)) a4b (a0b (pv 2)) (a0r (d:=.int 1) a0f))
   (a0n (a5o (a1j (a4o (a0b (pv 4)) a5j (a5k (a2a (a1w K) a2s (a2a a9b b3b (a2a a5c a5d (a0b (pv 3)) (a0r (d:=.int 2) a0f)) (a0r (d:=.int 2) a0f)) (a0r (d:=.int 1) a0f))))) (a0b (pv 0)) (a0b (pv 1)) (by exact hu41))
   (a0u (a3f (a1q (a2i K (by exact hu40)) a4b (a1n (a4f K (by exact hu41)) a1o (a0b (pv 4)) (a0r (d:=.int 0) a0f)) (a0r (d:=.str "cart") a0q))
   (a0u (a5o (a1j (a2a (a1w K) a2s (a0b (pv 4)) (a2p (a0a (a0r (d:=.str "to") a0q) a0i)))) (a0b (pv 0)) (a0b (pv 1)) (by exact hu41)))
   a2f)))
   a2f)
   (a0n (a3f (a1q (a2i K (by exact hu40)) a4b (a0b (pv 2)) (a0r (d:=.int 2) a0f))
   (a0n (a2d (i:=5) sc_l_bent_line.nd rfl (Or.inl rfl) (a2a a5c a5d (a0b (pv 3)) (a2a (a1w K) a2s (a2k (a3a K) a6m T.b_len a6j (a0a (a0b (pv 4)) a0i)) (a0r (d:=.int 1) a0f))))
   (a0u (a5o (a1j (a2a (a1w K) a2s (a2a (a1w K) a2s (a4o (a0b (pv 4)) a5j (a5k (a0b (pv 5)))) (a2p (a0a (a0r (d:=.str "") a0q) a0i))) (a4o (a0b (pv 4)) (a5k (a0b (pv 5))) a5j))) (a0b (pv 0)) (a0b (pv 1)) (by exact hu41))))
   a2f)
   (a0n (a3f (a1q (a2i K (by exact hu40)) a4b (a0b (pv 2)) (a0r (d:=.int 3) a0f))
   (a0u (a5o (a1j (a2p a0i)) (a0b (pv 0)) (a0b (pv 1)) (by exact hu41)))
   a2f)
   (a0n (a3f (PW.pt (b5e (a1q (a2i K (by exact hu40)) a4b (a0b (pv 2)) (a0r (d:=.int 4) a0f)) (b1e (a1q (a2i K (by exact hu40)) a4b (a1n (a4f K (by exact hu41)) a1o (a0b (pv 4)) (a0r (d:=.int 0) a0f)) (a0r (d:=.str "cart") a0q)))))
   (a0u (a5o (a1j (a2p (a0a (a0r (d:=.str "cart") a0q) a0i))) (a0b (pv 0)) (a0b (pv 1)) (by exact hu41)))
   (a0u (a3f (a1q (a2i K (by exact hu40)) a4b (a0b (pv 2)) (a0r (d:=.int 4) a0f))
   (a0u (a5o (a1j (a4o (a0b (pv 4)) a5j (a5k (a0r (d:=.int 4) a0f)))) (a0b (pv 0)) (a0b (pv 1)) (by exact hu41)))
   a2f)))
   (a0n (a3f (PW.pt (b5e (a1q (a2i K (by exact hu40)) a4b (a0b (pv 2)) (a0r (d:=.int 5) a0f)) (b1e (a1q (a2i K (by exact hu40)) a4b (a1n (a4f K (by exact hu41)) a1o (a0b (pv 4)) (a0r (d:=.int 0) a0f)) (a0r (d:=.str "cart") a0q)))))
   (a0u (a5o (a1j (a2p (a0a (a0r (d:=.str "cart") a0q) (a0a (a0r (d:=.str "") a0q) a0i)))) (a0b (pv 0)) (a0b (pv 1)) (by exact hu41)))
   (a0u (a3f (a1q (a2i K (by exact hu40)) a4b (a0b (pv 2)) (a0r (d:=.int 5) a0f))
   (a0n (a2d (i:=6) sc_l_bent_line.nd rfl (Or.inl rfl) (a1n (a4f K (by exact hu41)) a1o (a2p (a0a (a1j (a2a (a1w K) a2s (a0r (d:=.str "0") a0q) (a1n (a4f K (by exact hu41)) a1o (a0b (pv 4)) (a0r (d:=.int 2) a0f)))) (a0a (a1j (a2a (a1w K) a2s (a0r (d:=.str "+") a0q) (a1n (a4f K (by exact hu41)) a1o (a0b (pv 4)) (a0r (d:=.int 2) a0f)))) (a0a (a0r (d:=.str "-1") a0q) (a0a (a0r (d:=.str "1234567890") a0q) (a0a (a1j (a2a (a1w K) a2s (a1n (a4f K (by exact hu41)) a1o (a0b (pv 4)) (a0r (d:=.int 2) a0f)) (a0r (d:=.str "a") a0q))) (a0a (a0r (d:=.str "00") a0q) (a0a (a0r (d:=.str "x") a0q) a0i)))))))) (a2a a5c a5d (a0b (pv 3)) (a0r (d:=.int 7) a0f))))
   (a0u (a5o (a1j (a2a (a1w K) a2s (a2a (a1w K) a2s (a4o (a0b (pv 4)) a5j (a5k (a0r (d:=.int 2) a0f))) (a2p (a0a (a0b (pv 6)) a0i))) (a4o (a0b (pv 4)) (a5k (a0r (d:=.int 3) a0f)) a5j))) (a0b (pv 0)) (a0b (pv 1)) (by exact hu41))))
   a2f)))
   (a0u (a3f (PW.pt (b5e (a1q (a2i K (by exact hu40)) a4b (a0b (pv 2)) (a0r (d:=.int 6) a0f)) (b1e (a1q (a2i K (by exact hu40)) a4b (a1n (a4f K (by exact hu41)) a1o (a0b (pv 4)) (a0r (d:=.int 0) a0f)) (a0r (d:=.str "cart") a0q)))))
   (a0u (a5o (a1j (a2a (a1w K) a2s (a0b (pv 4)) (a2p (a0a (a0r (d:=.str "x") a0q) a0i)))) (a0b (pv 0)) (a0b (pv 1)) (by exact hu41)))
   (a0u (a3f (a1q (a2i K (by exact hu40)) a4b (a0b (pv 2)) (a0r (d:=.int 6) a0f))
   (a0u (a5o (a1j (a2a (a1w K) a2s (a2a (a1w K) a2s (a4o (a0b (pv 4)) a5j (a5k (a0r (d:=.int 3) a0f))) (a2p (a0a (a1n (a4f K (by exact hu41)) a1o (a2p (a0a (a0r (d:=.str "To") a0q) (a0a (a0r (d:=.str "t") a0q) (a0a (a0r (d:=.str "too") a0q) a0i)))) (a2a a5c a5d (a0b (pv 3)) (a0r (d:=.int 3) a0f))) a0i))) (a4o (a0b (pv 4)) (a5k (a0r (d:=.int 4) a0f)) a5j))) (a0b (pv 0)) (a0b (pv 1)) (by exact hu41)))
   a2f))))))))))),rfl⟩)
theorem sc_l_bent_house:FnScope ["_law_lines_here","_law_how","_law_c","_law_belts","_law_carts","_law_belt"] ["_law_lines_here","_law_how","_law_c"] (a0s a2e):=fnsc
def hw0:GS:=gsIf (gT (gBin oEq (gVar 1) (gC (.int 7)))) (a0h (gsPut (gBin oIx (gSeq .lst (a0c (gC (.str "0")) (a0c (gC (.str "1")) gaNil))) (gBin oMulA (gOp oInt1 (a0c (gBin oEq (gBin oIx (gVar 5) (gC (.int 0))) (gC (.str "ring"))) gaNil)) (gBin oMod (gVar 2) (gC (.int 2))))) (gVar 5) (gC (.int 2))) (gsRet (gSeq .tup (a0c (gC (.str "size")) (a0c (gC (.int 3)) gaNil))))) gsNil
def hw1:GS:=gsIf (gT (gBin oEq (gVar 1) (gC (.int 8)))) (a0h (gsPut (gBin oIx (gSeq .lst (a0c (gC (.str "abcdefghi")) (a0c (gC (.str "A")) (a0c (gC (.str "a1")) (a0c (gBin oIx (gBin oIx (gVar 4) (gC (.int 0))) (gC (.int 1))) gaNil))))) (gBin oMod (gVar 2) (gC (.int 4)))) (gVar 5) (gC (.int 1))) (gsRet (gSeq .tup (a0c (gC (.str "name")) (a0c (gC (.int 2)) gaNil))))) gsNil
def hw2:GS:=gsIf (gT (gBin oEq (gVar 1) (gC (.int 9)))) (a0h (a3i (gMut a3p (gVar 5) (a0c (gFrz (gBin oAdd (gC (.int 4)) (gBin oMod (gVar 2) (gC (.int 2))))) (a0c (gBin oIx (gSeq .lst (a0c (gC (.str "nowhere")) (a0c (gBin oIx (gVar 5) (gC (.int 1))) (a0c (gC (.str "A")) gaNil)))) (gBin oMod (gBin oFdiv (gVar 2) (gC (.int 2))) (gC (.int 3)))) gaNil)))) (gsRet (gSeq .tup (a0c (gC (.str "out")) (a0c (gC (.int 4)) gaNil))))) gsNil
def hw3:GS:=gsIf (gT (gBin oEq (gVar 1) (gC (.int 10)))) (a0h (a3i (gMut a2g (gVar 0) (a0c (gFrz (gSeq .lst (a0c (gC (.str "cart")) (a0c (gBin oIx (gSeq .lst (a0c (gBin oIx (gBin oIx (gVar 4) (gC (.int 0))) (gC (.int 1))) (a0c (gC (.str "A")) (a0c (gC (.str "abcdefghi")) gaNil)))) (gBin oMod (gVar 2) (gC (.int 3)))) gaNil)))) gaNil))) (gsRet (gSeq .tup (a0c (gC (.str "name")) (a0c (gC (.int 1)) gaNil))))) gsNil
def hw4:GS:=gsIf (gT (gBin oEq (gVar 1) (gC (.int 11)))) (a0h (a3i (gMut a2g (gVar 0) (a0c (gFrz (gSeq .lst (a0c (gC (.str "belt")) (a0c (gBin oIx (gBin oIx (gVar 3) (gC (.int 0))) (gC (.int 1))) (a0c (gC (.str "2")) (a0c (gC (.str "to")) (a0c (gBin oIx (gBin oIx (gVar 4) (gC (.int 0))) (gC (.int 1))) gaNil))))))) gaNil))) (gsRet (gSeq .tup (a0c (gC (.str "name")) (a0c (gC (.int 2)) gaNil))))) gsNil
def hw5:GS:=gsIf (gT (gBin oEq (gVar 1) (gC (.int 12)))) (a0h (a3i (gMut a3p (gVar 0) (a0c (gC (.int 0)) (a0c (gFrz (gSeq .lst (a0c (gC (.str "cart")) (a0c (gC (.str "other")) gaNil)))) gaNil)))) (gsRet (gSeq .tup (a0c (gC (.str "hand")) (a0c (gC (.int 5)) gaNil))))) gsNil
def hw6:GS:=gsIf (gT (gBin oEq (gVar 1) (gC (.int 13)))) (a0h (a3i (gMut a2g (gVar 0) (a0c (gFrz (gSeq .lst (a0c (gC (.str "belt")) (a0c (gC (.str "zz")) (a0c (gC (.str "2")) (a0c (gC (.str "to")) (a0c (gBin oIx (gBin oIx (gVar 4) (gC (.int 0))) (gC (.int 1))) (a0c (gBin oIx (gBin oIx (gVar 4) (gC (.int 0))) (gC (.int 1))) gaNil)))))))) gaNil))) (gsRet (gSeq .tup (a0c (gC (.str "out")) (a0c (gC (.int 4)) gaNil))))) gsNil
def hwR:GS:=gsRet (gSeq .tup (a0c (gC (.str "right")) (a0c (gC (.int 9)) gaNil)))
def a6p:GS:=a0h hw0 (a0h hw1 (a0h hw2 (a0h hw3 (a0h hw4 (a0h hw5 (a0h hw6 hwR))))))
theorem c2r{qual:Str}{fa:Addr}{cdv:Value}{A:Around}{outer:List Env}{s:Shared}{H:Hp}{E:XK}{m:List Bool}(T:Txt K mg t)(hr:Room 0 (A.deeper (PyProof.Rows.envOfC qual (a0s a2e) s.heap.objs.size fa cdv))):∃f',PSs (cxOf CX0 P w K mg base ["_law_lines_here","_law_how","_law_c","_law_belts","_law_carts","_law_belt"] qual (a0s a2e) fa cdv A outer s H E).nox ((a7b a2e).drop 3) (tS K m none f')/\f'=a6p:=by
  have hu40:=a5h hr;have hu41:=a3w hr;exact⟨_,(a0n (a3f (a1q (a2i K (by exact hu40)) a4b (a0b (pv 1)) (a0r (d:=.int 7) a0f))
   (a0n (a5o (a1n (a4f K (by exact hu41)) a1o (a2p (a0a (a0r (d:=.str "0") a0q) (a0a (a0r (d:=.str "1") a0q) a0i))) (a2a a9b b3b (a9t b7q c6r T.b_int c5m (a0a (a7z (a2i K (by exact hu40)) a4b (a1n (a4f K (by exact hu41)) a1o (a0b (pv 5)) (a0r (d:=.int 0) a0f)) (a0r (d:=.str "ring") a0q)) a0i)) (a2a a5c a5d (a0b (pv 2)) (a0r (d:=.int 2) a0f)))) (a0b (pv 5)) (a0r (d:=.int 2) a0f) (by exact hu41))
   (a0u (a3r (a6l (a0a (a0r (d:=.str "size") a0q) (a0a (a0r (d:=.int 3) a0f) a0i))))))
   a2f)
   (a0n (a3f (a1q (a2i K (by exact hu40)) a4b (a0b (pv 1)) (a0r (d:=.int 8) a0f))
   (a0n (a5o (a1n (a4f K (by exact hu41)) a1o (a2p (a0a (a0r (d:=.str "abcdefghi") a0q) (a0a (a0r (d:=.str "A") a0q) (a0a (a0r (d:=.str "a1") a0q) (a0a (a1n (a4f K (by exact hu41)) a1o (a1n (a4f K (by exact hu41)) a1o (a0b (pv 4)) (a0r (d:=.int 0) a0f)) (a0r (d:=.int 1) a0f)) a0i))))) (a2a a5c a5d (a0b (pv 2)) (a0r (d:=.int 4) a0f))) (a0b (pv 5)) (a0r (d:=.int 1) a0f) (by exact hu41))
   (a0u (a3r (a6l (a0a (a0r (d:=.str "name") a0q) (a0a (a0r (d:=.int 2) a0f) a0i))))))
   a2f)
   (a0n (a3f (a1q (a2i K (by exact hu40)) a4b (a0b (pv 1)) (a0r (d:=.int 9) a0f))
   (a0n (a3n (a5e PySem.F.slot_list_insert PySem.F.type_list_insert a9r b0b (a0b (pv 5)) (a0a (a1j (a2a (a1w K) a2s (a0r (d:=.int 4) a0f) (a2a a5c a5d (a0b (pv 2)) (a0r (d:=.int 2) a0f)))) (a0a (a1n (a4f K (by exact hu41)) a1o (a2p (a0a (a0r (d:=.str "nowhere") a0q) (a0a (a1n (a4f K (by exact hu41)) a1o (a0b (pv 5)) (a0r (d:=.int 1) a0f)) (a0a (a0r (d:=.str "A") a0q) a0i)))) (a2a a5c a5d (a2a b2r b3a (a0b (pv 2)) (a0r (d:=.int 2) a0f)) (a0r (d:=.int 3) a0f))) a0i))))
   (a0u (a3r (a6l (a0a (a0r (d:=.str "out") a0q) (a0a (a0r (d:=.int 4) a0f) a0i))))))
   a2f)
   (a0n (a3f (a1q (a2i K (by exact hu40)) a4b (a0b (pv 1)) (a0r (d:=.int 10) a0f))
   (a0n (a3n (a5e PySem.F.slot_list_append PySem.F.type_list_append a3m a3o (a0b (pv 0)) (a0a (a1j (a2p (a0a (a0r (d:=.str "cart") a0q) (a0a (a1n (a4f K (by exact hu41)) a1o (a2p (a0a (a1n (a4f K (by exact hu41)) a1o (a1n (a4f K (by exact hu41)) a1o (a0b (pv 4)) (a0r (d:=.int 0) a0f)) (a0r (d:=.int 1) a0f)) (a0a (a0r (d:=.str "A") a0q) (a0a (a0r (d:=.str "abcdefghi") a0q) a0i)))) (a2a a5c a5d (a0b (pv 2)) (a0r (d:=.int 3) a0f))) a0i)))) a0i)))
   (a0u (a3r (a6l (a0a (a0r (d:=.str "name") a0q) (a0a (a0r (d:=.int 1) a0f) a0i))))))
   a2f)
   (a0n (a3f (a1q (a2i K (by exact hu40)) a4b (a0b (pv 1)) (a0r (d:=.int 11) a0f))
   (a0n (a3n (a5e PySem.F.slot_list_append PySem.F.type_list_append a3m a3o (a0b (pv 0)) (a0a (a1j (a2p (a0a (a0r (d:=.str "belt") a0q) (a0a (a1n (a4f K (by exact hu41)) a1o (a1n (a4f K (by exact hu41)) a1o (a0b (pv 3)) (a0r (d:=.int 0) a0f)) (a0r (d:=.int 1) a0f)) (a0a (a0r (d:=.str "2") a0q) (a0a (a0r (d:=.str "to") a0q) (a0a (a1n (a4f K (by exact hu41)) a1o (a1n (a4f K (by exact hu41)) a1o (a0b (pv 4)) (a0r (d:=.int 0) a0f)) (a0r (d:=.int 1) a0f)) a0i))))))) a0i)))
   (a0u (a3r (a6l (a0a (a0r (d:=.str "name") a0q) (a0a (a0r (d:=.int 2) a0f) a0i))))))
   a2f)
   (a0n (a3f (a1q (a2i K (by exact hu40)) a4b (a0b (pv 1)) (a0r (d:=.int 12) a0f))
   (a0n (a3n (a5e PySem.F.slot_list_insert PySem.F.type_list_insert a9r b0b (a0b (pv 0)) (a0a (a0r (d:=.int 0) a0f) (a0a (a1j (a2p (a0a (a0r (d:=.str "cart") a0q) (a0a (a0r (d:=.str "other") a0q) a0i)))) a0i))))
   (a0u (a3r (a6l (a0a (a0r (d:=.str "hand") a0q) (a0a (a0r (d:=.int 5) a0f) a0i))))))
   a2f)
   (a0n (a3f (a1q (a2i K (by exact hu40)) a4b (a0b (pv 1)) (a0r (d:=.int 13) a0f))
   (a0n (a3n (a5e PySem.F.slot_list_append PySem.F.type_list_append a3m a3o (a0b (pv 0)) (a0a (a1j (a2p (a0a (a0r (d:=.str "belt") a0q) (a0a (a0r (d:=.str "zz") a0q) (a0a (a0r (d:=.str "2") a0q) (a0a (a0r (d:=.str "to") a0q) (a0a (a1n (a4f K (by exact hu41)) a1o (a1n (a4f K (by exact hu41)) a1o (a0b (pv 4)) (a0r (d:=.int 0) a0f)) (a0r (d:=.int 1) a0f)) (a0a (a1n (a4f K (by exact hu41)) a1o (a1n (a4f K (by exact hu41)) a1o (a0b (pv 4)) (a0r (d:=.int 0) a0f)) (a0r (d:=.int 1) a0f)) a0i)))))))) a0i)))
   (a0u (a3r (a6l (a0a (a0r (d:=.str "out") a0q) (a0a (a0r (d:=.int 4) a0f) a0i))))))
   a2f)
   (a0u (a3r (a6l (a0a (a0r (d:=.str "right") a0q) (a0a (a0r (d:=.int 9) a0f) a0i)))))))))))),rfl⟩
def noC:GT:=gT (gBin oNeA (gBin oIx (gVar 0) (gC (.int 0))) (gC (.str "cart")))
def isCt:GT:=gT (gBin oEq (gBin oIx (gVar 0) (gC (.int 0))) (gC (.str "cart")))
def whB:GE:=gBin oMod (gBin oFdiv (gVar 2) (gC (.int 7))) (gOp oLen (a0c (gVar 3) gaNil))
def a2r:GS:=b8x noC isCt whB a6p
def a3e:GM:=runM 6 [true,false,false] a2r
theorem b1n(T:Txt K mg t):FnOk P w K mg base CX0 1 t.f17 t.d17 ["_law_lines_here","_law_how","_law_c"] (SpM K 3 a3e):=
 a6r (k:=0) [true,false,false] a2r T.F17.fn sc_l_bent_house rfl rfl (by decide) fun cdv A outer s H E hr=>(by
  have hu40:=a5h hr;have hu41:=a3w hr;obtain⟨f1,h,rfl⟩:=c2r (m:=[true,false,false,false,false,true]) T hr;exact⟨_,(d6o (b9z (i:=3) (k:=1) (cap:=[]) (M:=["_law_line"]) rfl (CompOk.of (a0s a2e).names ["_law_lines_here","_law_how","_law_c","_law_belts","_law_carts","_law_belt"] (by decide +kernel)) sc_l_bent_house.nd rfl (Or.inl rfl) (b5x (pv 0)) (fun _ _ _ _=>a2j (i:=0) (show List.Nodup (["_law_line"]:List Str) by decide +kernel) rfl (Or.inl rfl)) (fun _ _ _ _=>b9y (a1q (c1y K (by exact hu40)) c1z (a1n (a4f K (by exact hu41)) a1o (a0b (pv 0)) (a0r (d:=.int 0) a0f)) (a0r (d:=.str "cart") a0q))) (fun _ _ _ _=>pv 0) rfl)
   (b9z (i:=4) (k:=1) (cap:=[]) (M:=["_law_line"]) rfl (CompOk.of (a0s a2e).names ["_law_lines_here","_law_how","_law_c","_law_belts","_law_carts","_law_belt"] (by decide +kernel)) sc_l_bent_house.nd rfl (Or.inl rfl) (b5x (pv 0)) (fun _ _ _ _=>a2j (i:=0) (show List.Nodup (["_law_line"]:List Str) by decide +kernel) rfl (Or.inl rfl)) (fun _ _ _ _=>b9y (a1q (a2i K (by exact hu40)) a4b (a1n (a4f K (by exact hu41)) a1o (a0b (pv 0)) (a0r (d:=.int 0) a0f)) (a0r (d:=.str "cart") a0q))) (fun _ _ _ _=>pv 0) rfl)
   (c4t (i:=5) sc_l_bent_house.nd rfl (Or.inl rfl) (d8n (a4f K (by exact hu41)) (pv 3) (a2a a5c a5d (a2a b2r b3a (a0b (pv 2)) (a0r (d:=.int 7) a0f)) (a2k (a3a K) a6m T.b_len a6j (a0a (a0b (pv 3)) a0i))) (by exact fun _ _=>rfl)))
   h),rfl⟩)
def a5z:GS:=gsFzC 0 (a0h (gsSet 3 (gFrz (a6u (srcV 0 []) (a1g 0) noC (gVar 0) 1 []))) (a0h (gsSet 4 (gFrz (a6u (srcV 0 []) (a1g 0) isCt (gVar 0) 1 []))) (a0h (gsSet 5 (gBin oIx (gVar 3) whB)) a6p)))
def a4w:GM:=runM 6 [true,false,false] a5z
theorem b1o(T:Txt K mg t):FnOk P w K mg base CX0 1 t.f17 t.d17 ["_law_lines_here","_law_how","_law_c"] (SpM K 3 a4w):=
 a6r (k:=0) [true,false,false] a5z T.F17.fn sc_l_bent_house rfl rfl (by decide) fun cdv A outer s H E hr=>(by
  have hu40:=a5h hr;have hu41:=a3w hr;obtain⟨f1,h,rfl⟩:=c2r (m:=[true,false,false]) T hr;exact⟨_,(d3z (i:=0) (a0n (b6j (i:=3) c0i (k:=1) (cap:=[]) a2l (M:=["_law_line"]) (CompOk.of (a0s a2e).names ["_law_lines_here","_law_how","_law_c","_law_belts","_law_carts","_law_belt"] (by decide +kernel)) sc_l_bent_house.nd rfl (Or.inl rfl) (a9s K (pv 0))
    (fun _ _ _ _=>(a2j (i:=0) (show List.Nodup (["_law_line"]:List Str) by decide +kernel) rfl (Or.inl rfl))) (fun _ _ _ _=>(c0j (a1q (c1y K (by exact hu40)) c1z (a1n (a4f K (by exact hu41)) a1o (a0b (pv 0)) (a0r (d:=.int 0) a0f)) (a0r (d:=.str "cart") a0q)))) (fun _ _ _ _=>(a0b (pv 0))))
   (a0n (b6j (i:=4) c0i (k:=1) (cap:=[]) a2l (M:=["_law_line"]) (CompOk.of (a0s a2e).names ["_law_lines_here","_law_how","_law_c","_law_belts","_law_carts","_law_belt"] (by decide +kernel)) sc_l_bent_house.nd rfl (Or.inl rfl) (a9s K (pv 0))
    (fun _ _ _ _=>(a2j (i:=0) (show List.Nodup (["_law_line"]:List Str) by decide +kernel) rfl (Or.inl rfl))) (fun _ _ _ _=>(c0j (a1q (a2i K (by exact hu40)) a4b (a1n (a4f K (by exact hu41)) a1o (a0b (pv 0)) (a0r (d:=.int 0) a0f)) (a0r (d:=.str "cart") a0q)))) (fun _ _ _ _=>(a0b (pv 0))))
   (a0n (a2d (i:=5) sc_l_bent_house.nd rfl (Or.inl rfl) (a1n (a4f K (by exact hu41)) a1o (a0b (pv 3)) (a2a a5c a5d (a2a b2r b3a (a0b (pv 2)) (a0r (d:=.int 7) a0f)) (a2k (a3a K) a6m T.b_len a6j (a0a (a0b (pv 3)) a0i)))))
   h)))),rfl⟩)
def a4h:GM:=fun os=>(a3e os).or (a4w os)
abbrev a8y(P:Program)(w:World)(K:L2.FG)(mg:Str->Option Value)(base:Heap)(t:Adr):Prop:=FnOk P w K mg base CX0 1 t.f17 t.d17 ["_law_lines_here","_law_how","_law_c"] (SpM K 3 a4h)
theorem b4d(T:Txt K mg t):a8y P w K mg base t:=e0x (b1n T) (b1o T)
theorem b9c:FnScope ["name","taken"] ["name","taken"] (a0s a9k):=fnsc
def a6o:GS:=(a0h (gsIf (gOrT (gNotT (gTru (b0c b0r (a0c (gVar 0) gaNil)))) (gT (gBin (oInG false) (gVar 0) (gVar 1))))
  (a9i 37 (gC (.str "a belt or a cart has no name, or one that is taken")))
  gsNil)
 (gsPut (gC (.bl true)) (gVar 1) (gVar 0)))
def a3z:GM:=runM 2 [false,true] a6o
abbrev a9l(P:Program)(w:World)(K:L2.FG)(mg:Str->Option Value)(base:Heap)(t:Adr):Prop:=FnOk P w K mg base (CX1 P w) 2 t.f4 t.d4 ["name","taken"] (SpX K 2 a3z)
theorem b9d(T:Txt K mg t)(g0:b8z P w K mg base t):a9l P w K mg base t:=
 a9h (k:=1) [false,true] a6o T.F4.fn b9c rfl rfl (by decide) fun cdv A outer s H E hr=>(by
  have hu41:=a3w hr;exact⟨_,(a0n (a3f (PW.pt (c5u (b5d (a7g (b2k T.F0 g0 hr.le (a0a (a0b (pv 0)) a0i) (a0e a0t)))) (b8b (a1q (b3f K (by exact hu41)) (b3g false) (a0b (pv 0)) (a0b (pv 1))))))
   (a0u (a8r (T.er.ix (i:=0) rfl).2.1 T.er.G0 (T.er.ix (i:=0) rfl).2.2.2 (T.er.ix (i:=0) rfl).1 a5a (a0r (d:=.str "a belt or a cart has no name, or one that is taken") a0q)))
   a2f)
   (a0u (a5o (a0r (d:=.bl true) b7l) (a0b (pv 1)) (a0b (pv 0)) (by exact hu41)))),rfl⟩)
theorem sc_check_outs:FnScope ["belts","carts","k","belt","name","outs","left","out"] ["belts","carts"] (a0s a8g):=fnsc
def noO(t:Str):GS:=a9i 61 (b1k (a7i (gC (.str "belt ")) (a7i (gUn oFmt (gVar 4)) (a7i (gC (.str t)) gjNil))))
def outC:GS:=(a0h (gsIf (gT (gBin (oInG true) (gVar 7) (gVar 6)))
  (noO " has an out that is no cart, no belt behind it, or there twice")
  gsNil)
 (a3i (gMut b3r (gVar 6) (a0c (gVar 7) gaNil))))
def a9m:GS:=(a0h (gsSet 4 (gBin oIx (gVar 3) (gC (.int 0))))
 (a0h (gsSet 5 (gFrz (gIf (gTru (gOp oIsi (a0c (gBin oIx (gVar 3) (gC (.int 3))) (a0c (gC (.ty "list")) gaNil)))) (gBin oIx (gVar 3) (gC (.int 3))) (gSeq .lst gaNil))))
 (a0h (gsSet 6 (gBin oAdd (gCall a3s (a0c (gFrz (a5p (gVar 0) (a6a (gBin oAdd (gVar 2) (gC (.int 1)))) a6n)) gaNil)) (gVar 1)))
 (a0h (gsFor (gVar 5) (a1g 7) outC)
 (gsIf (gNotT (gTru (gVar 5)))
  (noO " has no outs")
  gsNil)))))
abbrev outG:GG:=ggTup [(a1g 2),(a1g 3)]
def a6z:GS:=b8p (gVar 0) outG a9m
def a2w:GM:=runM 8 [false,false] a6z
abbrev b1y(P:Program)(w:World)(K:L2.FG)(mg:Str->Option Value)(base:Heap)(t:Adr):Prop:=FnOk P w K mg base (CX1 P w) 2 t.f5 t.d5 ["belts","carts"] (SpX K 2 a2w)
theorem b7a(T:Txt K mg t)(g7:a6y P w K mg base t):b1y P w K mg base t:=
 a9h (k:=1) [false,false] a6z T.F5.fn sc_check_outs rfl rfl (by decide) fun cdv A outer s H E hr=>(by
  have hu41:=a3w hr;exact⟨_,(a0u (c7p c4d T.b_enumerate (a0b (pv 0)) (c0y rfl (a4t (a2j (i:=2) sc_check_outs.nd rfl (Or.inl rfl)) (a4t (a2j (i:=3) sc_check_outs.nd rfl (Or.inl rfl)) b5w))) (c1k (a4u a2l (a4u a2l b6d)))
   (a0n (a2d (i:=4) sc_check_outs.nd rfl (Or.inl rfl) (a1n (a4f K (by exact hu41)) a1o (a0b (pv 3)) (a0r (d:=.int 0) a0f)))
   (a0n (a2d (i:=5) sc_check_outs.nd rfl (Or.inl rfl) (a1j (d8t (a7g (a2k (b2x K) c6q T.b_isinstance c5n (a0a (a1n (a4f K (by exact hu41)) a1o (a0b (pv 3)) (a0r (d:=.int 3) a0f)) (a0a (a0r (d:=.ty "list") (d5f (by rfl) T.b_list d5g)) a0i)))) (a1n (a4f K (by exact hu41)) a1o (a0b (pv 3)) (a0r (d:=.int 3) a0f)) (a2p a0i))))
   (a0n (a2d (i:=6) sc_check_outs.nd rfl (Or.inl rfl) (a2a (a1w K) a2s (a2u T.F7 g7 hr.le (a0a (a1j (a4o (a0b (pv 0)) (a5k (a2a (a1w K) a2s (a0b (pv 2)) (a0r (d:=.int 1) a0f))) a5j)) a0i) (a0e a0t)) (a0b (pv 1))))
   (a0n (b2y c4d (a0b (pv 5)) (a2j (i:=7) sc_check_outs.nd rfl (Or.inl rfl)) a2l
   (a0n (a3f (a1q (b0a K (by exact hu41)) (b3g true) (a0b (pv 7)) (a0b (pv 6)))
   (a0u (a8r (T.er.ix (i:=2) rfl).2.1 T.er.G0 (T.er.ix (i:=2) rfl).2.2.2 (T.er.ix (i:=2) rfl).1 a5a (b0m (a5l (a0r (d:=.str "belt ") a0q) (a5l (c7m (a0b (pv 4))) (a5l (a0r (d:=.str " has an out that is no cart, no belt behind it, or there twice") a0q) c2c))))))
   a2f)
   (a0u (a3n (a5e PySem.F.slot_list_remove PySem.F.type_list_remove c7z c8a (a0b (pv 6)) (a0a (a0b (pv 7)) a0i))))))
   (a0u (a3f (b5d (a7g (a0b (pv 5))))
   (a0u (a8r (T.er.ix (i:=2) rfl).2.1 T.er.G0 (T.er.ix (i:=2) rfl).2.2.2 (T.er.ix (i:=2) rfl).1 a5a (b0m (a5l (a0r (d:=.str "belt ") a0q) (a5l (c7m (a0b (pv 4))) (a5l (a0r (d:=.str " has no outs") a0q) c2c))))))
   a2f)))))))),rfl⟩)
theorem sc_reached:FnScope ["house","belt","found","name","long","ring","outs","out"] ["house","belt"] (a0s b0p):=fnsc
def b4e:GS:=(a0h (gsSet 2 c1h)
 (a0h (gsFor (gBin oIx (gVar 0) (gC (.int 0))) (ggTup [(a1g 3),(a1g 4),(a1g 5),(a1g 6)])
  (gsIf (gOrT (gT (gBin oEq (gVar 3) (gVar 1))) (gT (gBin (oInG false) (gVar 3) (gVar 2))))
  (gsFor (gVar 6) (a1g 7)
  (gsPut (gC (.bl true)) (gVar 2) (gVar 7)))
  gsNil))
 (gsRet (a6u (srcL (gBin oAdd (gCall a3s (a0c (gBin oIx (gVar 0) (gC (.int 0))) gaNil)) (gBin oIx (gVar 0) (gC (.int 1))))) (a1g 0) (gT (gBin (oInG false) (gVar 0) (gVar 1))) (gVar 0) 1 [2]))))
def b0t:GM:=runM 8 [false,false] b4e
abbrev b9e(P:Program)(w:World)(K:L2.FG)(mg:Str->Option Value)(base:Heap)(t:Adr):Prop:=FnOk P w K mg base CX0 2 t.f8 t.d8 ["house","belt"] (SpM K 2 b0t)
theorem c4j(T:Txt K mg t)(g7:a6y P w K mg base t):b9e P w K mg base t:=
 a6r (k:=1) [false,false] b4e T.F8.fn sc_reached rfl rfl (by decide) fun cdv A outer s H E hr=>(by
  have hu40:=a5h hr;have hu41:=a3w hr;exact⟨_,(a0n (a2d (i:=2) sc_reached.nd rfl (Or.inr rfl) c1i)
   (a0n (b2y PassesOwn.never (a1n (a4f K (by exact hu41)) a1o (a0b (pv 0)) (a0r (d:=.int 0) a0f)) (c0y rfl (a4t (a2j (i:=3) sc_reached.nd rfl (Or.inl rfl)) (a4t (a2j (i:=4) sc_reached.nd rfl (Or.inl rfl)) (a4t (a2j (i:=5) sc_reached.nd rfl (Or.inl rfl)) (a4t (a2j (i:=6) sc_reached.nd rfl (Or.inl rfl)) b5w))))) (c1k (a4u a2l (a4u a2l (a4u a2l (a4u a2l b6d)))))
   (a0u (a3f (PW.pt (c5u (a1q (a2i K (by exact hu40)) a4b (a0b (pv 3)) (a0b (pv 1))) (b8b (a1q (b3f K (by exact hu41)) (b3g false) (a0b (pv 3)) (a0b (pv 2))))))
   (a0u (b2y PassesOwn.never (a0b (pv 6)) (a2j (i:=7) sc_reached.nd rfl (Or.inl rfl)) a2l
   (a0u (a5o (a0r (d:=.bl true) b7l) (a0b (pv 2)) (a0b (pv 7)) (by exact hu41)))))
   a2f)))
   (a0u (a3r (b3k c1w (k:=1) (cap:=[2]) a2l (M:=["name","found"]) (CompOk.of (a0s b0p).names ["house","belt","found","name","long","ring","outs","out"] (by decide +kernel)) (a9s K (a1j (a2a (a1w K) a2s (a2u T.F7 g7 hr.le (a0a (a1n (a4f K (by exact hu41)) a1o (a0b (pv 0)) (a0r (d:=.int 0) a0f)) a0i) (a0e a0t)) (a1n (a4f K (by exact hu41)) a1o (a0b (pv 0)) (a0r (d:=.int 1) a0f)))))
    (fun _ _ _ _=>(a2j (i:=0) (show List.Nodup (["name","found"]:List Str) by decide +kernel) rfl (Or.inl rfl))) (fun _ _ _ _=>(c0j (a1q (b3f K (by exact hu41)) (b3g false) (a0b (pv 0)) (a0b (pv 1))))) (fun _ _ _ _=>(a0b (pv 0)))))))),rfl⟩)
theorem b4f:FnScope ["words"] ["words"] (a0s a7e):=fnsc
def a4s:GS:=(a0h (gsIf (gOrT (gT (gBin oLt (gOp oLen (a0c (gVar 0) gaNil)) (gC (.int 5)))) (gT (gBin (oInG false) (gC (.str "")) (gVar 0))))
  (gsRet (gC (.bl false)))
  gsNil)
 (gsRet (gAndV (gBin (oInG false) (gBin oIx (gVar 0) (gC (.int 0))) (gSeq .tup (a0c (gC (.str "belt")) (a0c (gC (.str "ring")) gaNil)))) (gAndV (b0c a3x (a0c (gBin oIx (gVar 0) (gC (.int 2))) gaNil)) (gBin oEq (gBin oIx (gVar 0) (gC (.int 3))) (gC (.str "to")))))))
def a4i:GM:=runM 1 [false] a4s
abbrev a8z(P:Program)(w:World)(K:L2.FG)(mg:Str->Option Value)(base:Heap)(t:Adr):Prop:=FnOk P w K mg base CX0 2 t.f10 t.d10 ["words"] (SpM K 1 a4i)
theorem b4g(T:Txt K mg t)(g12:b4c P w K mg base t):a8z P w K mg base t:=
 a6r (k:=1) [false] a4s T.F10.fn b4f rfl rfl (by decide) fun cdv A outer s H E hr=>(by
  have hu40:=a5h hr;have hu41:=a3w hr;exact⟨_,(a0n (a3f (PW.pt (c5u (a1q d0k d1h (a2k (a3a K) a6m T.b_len a6j (a0a (a0b (pv 0)) a0i)) (a0r (d:=.int 5) a0f)) (b8b (a1q (b3f K (by exact hu41)) (b3g false) (a0r (d:=.str "") a0q) (a0b (pv 0))))))
   (a0u (a3r (a0r (d:=.bl false) b7l)))
   a2f)
   (a0u (a3r (c1j (a7z (b3f K (by exact hu41)) (b3g false) (a1n (a4f K (by exact hu41)) a1o (a0b (pv 0)) (a0r (d:=.int 0) a0f)) (a6l (a0a (a0r (d:=.str "belt") a0q) (a0a (a0r (d:=.str "ring") a0q) a0i)))) (c1j (b2k T.F12 g12 hr.le (a0a (a1n (a4f K (by exact hu41)) a1o (a0b (pv 0)) (a0r (d:=.int 2) a0f)) a0i) (a0e a0t)) (d3q (a7z (a2i K (by exact hu40)) a4b (a1n (a4f K (by exact hu41)) a1o (a0b (pv 0)) (a0r (d:=.int 3) a0f)) (a0r (d:=.str "to") a0q)))))))),rfl⟩)
theorem sc_l_lines:FnScope ["_law_feed_here","_law_carts","_law_lines_here","_law_later","_law_k","_law_outs","_law_other","_law_ring","_law_head","_law_cart"] ["_law_feed_here"] (a0s b0q):=fnsc
def b4h:GS:=(a0h (gsSet 1 (gFrz (a6u (srcR1 (a0c (gBin oAdd (gC (.int 1)) (gCall a1y (a0c (gVar 0) (a0c (gC (.int 3)) gaNil)))) gaNil)) (a1g 0) gYes (gBin oAdd (gC (.str "c")) (gBin oIx (gC (.str "pqr")) (gVar 0))) 1 [])))
 (a0h (gsSet 2 (gSeq .lst gaNil))
 (a0h (gsSet 3 (gSeq .lst gaNil))
 (a0h (b6e (a0c (gBin oAdd (gC (.int 1)) (gCall a1y (a0c (gVar 0) (a0c (gC (.int 4)) gaNil)))) gaNil) (a1g 4)
  (a0h (gsSet 5 (gSeq .lst (a0c (gBin oIx (gVar 1) (gC (.int 0))) gaNil)))
 (a0h (gsSet 6 (gBin oIx (gBin oAdd (gVar 3) (gVar 1)) (gCall a1y (a0c (gVar 0) (a0c (gFrz (gBin oAdd (gOp oLen (a0c (gVar 3) gaNil)) (gOp oLen (a0c (gVar 1) gaNil)))) gaNil)))))
 (a0h (gsIf (gT (gBin (oInG true) (gVar 6) (gVar 5)))
  (a3i (gMut a3p (gVar 5) (a0c (gFrz (gCall a1y (a0c (gVar 0) (a0c (gC (.int 2)) gaNil)))) (a0c (gVar 6) gaNil))))
  gsNil)
 (a0h (gsSet 7 (gFrz (gCall a1y (a0c (gVar 0) (a0c (gC (.int 2)) gaNil)))))
 (a0h (gsSet 8 (gFrz (gSeq .lst (a0c (gBin oIx (gSeq .lst (a0c (gC (.str "belt")) (a0c (gC (.str "ring")) gaNil))) (gVar 7)) (a0c (gFrz (gBin oAdd (gC (.str "b")) (gBin oIx (gC (.str "dacb")) (gVar 4)))) (a0c (gOp oStr1 (a0c (gBin oAdd (gBin oAdd (gBin oAdd (gC (.int 1)) (gVar 7)) (gCall a1y (a0c (gVar 0) (a0c (gC (.int 4)) gaNil)))) (gBin oMulA (gC (.int 10)) (gOp oInt1 (a0c (gBin oEq (gVar 4) (gC (.int 0))) gaNil)))) gaNil)) (a0c (gC (.str "to")) gaNil)))))))
 (a0h (a3i (gMut a3p (gVar 2) (a0c (gC (.int 0)) (a0c (gBin oAdd (gVar 8) (gVar 5)) gaNil))))
 (a3i (gMut a2g (gVar 3) (a0c (gFrz (gBin oAdd (gC (.str "b")) (gBin oIx (gC (.str "dacb")) (gVar 4)))) gaNil))))))))))
 (a0h (gsFor (gVar 1) (a1g 9)
  (a3i (gMut a2g (gVar 2) (a0c (gSeq .lst (a0c (gC (.str "cart")) (a0c (gVar 9) gaNil))) gaNil))))
 (gsRet (gMove (gVar 2))))))))
def b0u:GM:=runM 10 [true] b4h
abbrev b9f(P:Program)(w:World)(K:L2.FG)(mg:Str->Option Value)(base:Heap)(t:Adr):Prop:=FnOk P w K mg base CX0 2 t.f15 t.d15 ["_law_feed_here"] (SpM K 1 b0u)
theorem c4k(T:Txt K mg t)(g14:b6z P w K mg base t):b9f P w K mg base t:=
 a6r (k:=1) [true] b4h T.F15.fn sc_l_lines rfl rfl (by decide) fun cdv A outer s H E hr=>(by
  have hu40:=a5h hr;have hu41:=a3w hr;exact⟨_,(a0n (b6j (i:=1) d9a (k:=1) (cap:=[]) a2l (M:=["_law_k"]) (CompOk.of (a0s b0q).names ["_law_feed_here","_law_carts","_law_lines_here","_law_later","_law_k","_law_outs","_law_other","_law_ring","_law_head","_law_cart"] (by decide +kernel)) sc_l_lines.nd rfl (Or.inl rfl) (b7n (by rfl) T.b_range (a0a (a2a (a1w K) a2s (a0r (d:=.int 1) a0f) (a2u T.F14 g14 hr.le (a0a (a0b (pv 0)) (a0a (a0r (d:=.int 3) a0f) a0i)) (a0e (a0e a0t)))) a0i))
    (fun _ _ _ _=>(a2j (i:=0) (show List.Nodup (["_law_k"]:List Str) by decide +kernel) rfl (Or.inl rfl))) (fun _ _ _ _=>b3j) (fun _ _ _ _=>(a2a (a1w K) a2s (a0r (d:=.str "c") a0q) (a1n (a4f K (by exact hu41)) a1o (a0r (d:=.str "pqr") a0q) (a0b (pv 0))))))
   (a0n (a2d (i:=2) sc_l_lines.nd rfl (Or.inl rfl) (a2p a0i))
   (a0n (a2d (i:=3) sc_l_lines.nd rfl (Or.inl rfl) (a2p a0i))
   (a0n (c5y PassesOwn.never T.b_range (a0a (a2a (a1w K) a2s (a0r (d:=.int 1) a0f) (a2u T.F14 g14 hr.le (a0a (a0b (pv 0)) (a0a (a0r (d:=.int 4) a0f) a0i)) (a0e (a0e a0t)))) a0i) (a2j (i:=4) sc_l_lines.nd rfl (Or.inl rfl)) a2l
   (a0n (a2d (i:=5) sc_l_lines.nd rfl (Or.inl rfl) (a2p (a0a (a1n (a4f K (by exact hu41)) a1o (a0b (pv 1)) (a0r (d:=.int 0) a0f)) a0i)))
   (a0n (a2d (i:=6) sc_l_lines.nd rfl (Or.inl rfl) (a1n (a4f K (by exact hu41)) a1o (a2a (a1w K) a2s (a0b (pv 3)) (a0b (pv 1))) (a2u T.F14 g14 hr.le (a0a (a0b (pv 0)) (a0a (a1j (a2a (a1w K) a2s (a2k (a3a K) a6m T.b_len a6j (a0a (a0b (pv 3)) a0i)) (a2k (a3a K) a6m T.b_len a6j (a0a (a0b (pv 1)) a0i)))) a0i)) (a0e (a0e a0t)))))
   (a0n (a3f (a1q (b0a K (by exact hu41)) (b3g true) (a0b (pv 6)) (a0b (pv 5)))
   (a0u (a3n (a5e PySem.F.slot_list_insert PySem.F.type_list_insert a9r b0b (a0b (pv 5)) (a0a (a1j (a2u T.F14 g14 hr.le (a0a (a0b (pv 0)) (a0a (a0r (d:=.int 2) a0f) a0i)) (a0e (a0e a0t)))) (a0a (a0b (pv 6)) a0i)))))
   a2f)
   (a0n (a2d (i:=7) sc_l_lines.nd rfl (Or.inl rfl) (a1j (a2u T.F14 g14 hr.le (a0a (a0b (pv 0)) (a0a (a0r (d:=.int 2) a0f) a0i)) (a0e (a0e a0t)))))
   (a0n (a2d (i:=8) sc_l_lines.nd rfl (Or.inl rfl) (a1j (a2p (a0a (a1n (a4f K (by exact hu41)) a1o (a2p (a0a (a0r (d:=.str "belt") a0q) (a0a (a0r (d:=.str "ring") a0q) a0i))) (a0b (pv 7))) (a0a (a1j (a2a (a1w K) a2s (a0r (d:=.str "b") a0q) (a1n (a4f K (by exact hu41)) a1o (a0r (d:=.str "dacb") a0q) (a0b (pv 4))))) (a0a (a9t c7k d6a T.b_str d3k (a0a (a2a (a1w K) a2s (a2a (a1w K) a2s (a2a (a1w K) a2s (a0r (d:=.int 1) a0f) (a0b (pv 7))) (a2u T.F14 g14 hr.le (a0a (a0b (pv 0)) (a0a (a0r (d:=.int 4) a0f) a0i)) (a0e (a0e a0t)))) (a2a a9b b3b (a0r (d:=.int 10) a0f) (a9t b7q c6r T.b_int c5m (a0a (a7z (a2i K (by exact hu40)) a4b (a0b (pv 4)) (a0r (d:=.int 0) a0f)) a0i)))) a0i)) (a0a (a0r (d:=.str "to") a0q) a0i)))))))
   (a0n (a3n (a5e PySem.F.slot_list_insert PySem.F.type_list_insert a9r b0b (a0b (pv 2)) (a0a (a0r (d:=.int 0) a0f) (a0a (a2a (a1w K) a2s (a0b (pv 8)) (a0b (pv 5))) a0i))))
   (a0u (a3n (a5e PySem.F.slot_list_append PySem.F.type_list_append a3m a3o (a0b (pv 3)) (a0a (a1j (a2a (a1w K) a2s (a0r (d:=.str "b") a0q) (a1n (a4f K (by exact hu41)) a1o (a0r (d:=.str "dacb") a0q) (a0b (pv 4))))) a0i)))))))))))
   (a0n (b2y PassesOwn.never (a0b (pv 1)) (a2j (i:=9) sc_l_lines.nd rfl (Or.inl rfl)) a2l
   (a0u (a3n (a5e PySem.F.slot_list_append PySem.F.type_list_append a3m a3o (a0b (pv 2)) (a0a (a2p (a0a (a0r (d:=.str "cart") a0q) (a0a (a0b (pv 9)) a0i))) a0i)))))
   (a0u (a3r (c5s (a0b (pv 2)))))))))),rfl⟩)
theorem sc_check_carts:FnScope ["carts","taken","cart"] ["carts","taken"] (a0s a7s):=fnsc
def a6h:GS:=(a0h (gsFor (gVar 0) (a1g 2)
  (a7d (gCall a3z (a0c (gVar 2) (a0c (gVar 1) gaNil)))))
 (gsIf (gNotT (gTru (gVar 0)))
  (a9i 73 (gC (.str "a house has a cart at least, the hand")))
  gsNil))
def a1z:GM:=runM 3 [false,true] a6h
abbrev b0v(P:Program)(w:World)(K:L2.FG)(mg:Str->Option Value)(base:Heap)(t:Adr):Prop:=FnOk P w K mg base (CX1 P w) 3 t.f2 t.d2 ["carts","taken"] (SpX K 2 a1z)
theorem b4w(T:Txt K mg t)(g4:a9l P w K mg base t):b0v P w K mg base t:=
 a9h (k:=2) [false,true] a6h T.F2.fn sc_check_carts rfl rfl (by decide) fun cdv A outer s H E hr=>(by
  exact⟨_,(a0n (b2y c4d (a0b (pv 0)) (a2j (i:=2) sc_check_carts.nd rfl (Or.inl rfl)) a2l
   (a0u (a7p (a6w T.F4 g4 hr.le a5a (a0a (a0b (pv 2)) (a0a (a0b (pv 1)) a0i)) (a0e (a0e a0t))))))
   (a0u (a3f (b5d (a7g (a0b (pv 0))))
   (a0u (a8r (T.er.ix (i:=3) rfl).2.1 T.er.G0 (T.er.ix (i:=3) rfl).2.2.2 (T.er.ix (i:=3) rfl).1 a5a (a0r (d:=.str "a house has a cart at least, the hand") a0q)))
   a2f))),rfl⟩)
theorem sc_check_belts:FnScope ["belts","taken","name","long","ring","outs","least"] ["belts","taken"] (a0s a7t):=fnsc
def lessB:GS:=a9i 49 (b1k (a7i (gC (.str "belt ")) (a7i (gUn oFmt (gVar 2)) (a7i (gC (.str " has fewer than ")) (a7i (gUn oFmt (gVar 6)) (a7i (gC (.str " cells")) gjNil))))))
def beltC:GS:=(a0h (a7d (gCall a3z (a0c (gVar 2) (a0c (gVar 1) gaNil))))
 (a0h (gsSet 6 (gFrz (gIf (gTru (gVar 4)) (gC (.int 2)) (gC (.int 1)))))
 (gsIf (gT (gBin oLt (gVar 3) (gVar 6)))
  lessB
  gsNil)))
abbrev beltG:GG:=ggTup [(a1g 2),(a1g 3),(a1g 4),(a1g 5)]
def a6i:GS:=gsFor (gVar 0) beltG beltC
def a1u:GM:=runM 7 [false,true] a6i
abbrev b0w(P:Program)(w:World)(K:L2.FG)(mg:Str->Option Value)(base:Heap)(t:Adr):Prop:=FnOk P w K mg base (CX1 P w) 3 t.f3 t.d3 ["belts","taken"] (SpX K 2 a1u)
theorem b4x(T:Txt K mg t)(g4:a9l P w K mg base t):b0w P w K mg base t:=
 a9h (k:=2) [false,true] a6i T.F3.fn sc_check_belts rfl rfl (by decide) fun cdv A outer s H E hr=>(by
  exact⟨_,(a0u (b2y c4d (a0b (pv 0)) (c0y rfl (a4t (a2j (i:=2) sc_check_belts.nd rfl (Or.inl rfl)) (a4t (a2j (i:=3) sc_check_belts.nd rfl (Or.inl rfl)) (a4t (a2j (i:=4) sc_check_belts.nd rfl (Or.inl rfl)) (a4t (a2j (i:=5) sc_check_belts.nd rfl (Or.inl rfl)) b5w))))) (c1k (a4u a2l (a4u a2l (a4u a2l (a4u a2l b6d)))))
   (a0n (a7p (a6w T.F4 g4 hr.le a5a (a0a (a0b (pv 2)) (a0a (a0b (pv 1)) a0i)) (a0e (a0e a0t))))
   (a0n (a2d (i:=6) sc_check_belts.nd rfl (Or.inl rfl) (a1j (d8t (a7g (a0b (pv 4))) (a0r (d:=.int 2) a0f) (a0r (d:=.int 1) a0f))))
   (a0u (a3f (a1q d0k d1h (a0b (pv 3)) (a0b (pv 6)))
   (a0u (a8r (T.er.ix (i:=1) rfl).2.1 T.er.G0 (T.er.ix (i:=1) rfl).2.2.2 (T.er.ix (i:=1) rfl).1 a5a (b0m (a5l (a0r (d:=.str "belt ") a0q) (a5l (c7m (a0b (pv 2))) (a5l (a0r (d:=.str " has fewer than ") a0q) (a5l (c7m (a0b (pv 6))) (a5l (a0r (d:=.str " cells") a0q) c2c))))))))
   a2f)))))),rfl⟩)
theorem sc_check_hand:FnScope ["house","hand","name"] ["house"] (a0s a8h):=fnsc
def handB:GS:=(gsIf (gT (gBin (oInG true) (gVar 1) (gCall b0t (a0c (gVar 0) (a0c (gVar 2) gaNil)))))
  (a9i 73 (b1k (a7i (gC (.str "the hand can not be come to from belt ")) (a7i (gUn oFmt (gVar 2)) gjNil))))
  gsNil)
def a8k:GS:=a0h (gsSet 1 (gBin oIx (gBin oIx (gVar 0) (gC (.int 1))) (gC (.int 0)))) (gsFor (gCall a3s (a0c (gBin oIx (gVar 0) (gC (.int 0))) gaNil)) (a1g 2) handB)
def a3t:GM:=runM 3 [false] a8k
abbrev b1z(P:Program)(w:World)(K:L2.FG)(mg:Str->Option Value)(base:Heap)(t:Adr):Prop:=FnOk P w K mg base (CX1 P w) 3 t.f6 t.d6 ["house"] (SpX K 1 a3t)
theorem b7b(T:Txt K mg t)(g7:a6y P w K mg base t)(g8:b9e P w K mg base t):b1z P w K mg base t:=
 a9h (k:=2) [false] a8k T.F6.fn sc_check_hand rfl rfl (by decide) fun cdv A outer s H E hr=>(by
  have hu41:=a3w hr;exact⟨_,(a0n (a2d (i:=1) sc_check_hand.nd rfl (Or.inl rfl) (a1n (a4f K (by exact hu41)) a1o (a1n (a4f K (by exact hu41)) a1o (a0b (pv 0)) (a0r (d:=.int 1) a0f)) (a0r (d:=.int 0) a0f)))
   (a0u (b2y c4d (a2u T.F7 g7 hr.le (a0a (a1n (a4f K (by exact hu41)) a1o (a0b (pv 0)) (a0r (d:=.int 0) a0f)) a0i) (a0e a0t)) (a2j (i:=2) sc_check_hand.nd rfl (Or.inl rfl)) a2l
   (a0u (a3f (a1q (b0a K (by exact hu41)) (b3g true) (a0b (pv 1)) (a2u T.F8 g8 hr.le (a0a (a0b (pv 0)) (a0a (a0b (pv 2)) a0i)) (a0e (a0e a0t))))
   (a0u (a8r (T.er.ix (i:=3) rfl).2.1 T.er.G0 (T.er.ix (i:=3) rfl).2.2.2 (T.er.ix (i:=3) rfl).1 a5a (b0m (a5l (a0r (d:=.str "the hand can not be come to from belt ") a0q) (a5l (c7m (a0b (pv 2))) c2c)))))
   a2f))))),rfl⟩)
theorem sc_right_house:FnScope ["house","belts","carts","taken"] ["house"] (a0s a7r):=fnsc
def a4a:GS:=(a0h (gsSet 1 (gBin oIx (gVar 0) (gC (.int 0))))
 (a0h (gsSet 2 (gBin oIx (gVar 0) (gC (.int 1))))
 (a0h (gsSet 3 c1h)
 (a0h (a7d (gCall a1z (a0c (gVar 2) (a0c (gVar 3) gaNil))))
 (a0h (a7d (gCall a1u (a0c (gVar 1) (a0c (gVar 3) gaNil))))
 (a0h (a7d (gCall a2w (a0c (gVar 1) (a0c (gVar 2) gaNil))))
 (a0h (a7d (gCall a3t (a0c (gVar 0) gaNil)))
 (b8c (gC (.bl true))))))))))
def a0y:GM:=runM 4 [false] a4a
abbrev b0x(P:Program)(w:World)(K:L2.FG)(mg:Str->Option Value)(base:Heap)(t:Adr):Prop:=FnOk P w K mg base (CX1 P w) 4 t.f1 t.d1 ["house"] (SpX K 1 a0y)
theorem b4y(T:Txt K mg t)(g3:b0w P w K mg base t)(g2:b0v P w K mg base t)(g6:b1z P w K mg base t)(g5:b1y P w K mg base t):b0x P w K mg base t:=
 a9h (k:=3) [false] a4a T.F1.fn sc_right_house rfl rfl (by decide) fun cdv A outer s H E hr=>(by
  have hu41:=a3w hr;exact⟨_,(a0n (a2d (i:=1) sc_right_house.nd rfl (Or.inl rfl) (a1n (a4f K (by exact hu41)) a1o (a0b (pv 0)) (a0r (d:=.int 0) a0f)))
   (a0n (a2d (i:=2) sc_right_house.nd rfl (Or.inl rfl) (a1n (a4f K (by exact hu41)) a1o (a0b (pv 0)) (a0r (d:=.int 1) a0f)))
   (a0n (a2d (i:=3) sc_right_house.nd rfl (Or.inl rfl) c1i)
   (a0n (a7p (a6w T.F2 g2 hr.le a5a (a0a (a0b (pv 2)) (a0a (a0b (pv 3)) a0i)) (a0e (a0e a0t))))
   (a0n (a7p (a6w T.F3 g3 hr.le a5a (a0a (a0b (pv 1)) (a0a (a0b (pv 3)) a0i)) (a0e (a0e a0t))))
   (a0n (a7p (a6w T.F5 g5 hr.le a5a (a0a (a0b (pv 1)) (a0a (a0b (pv 2)) a0i)) (a0e (a0e a0t))))
   (a0n (a7p (a6w T.F6 g6 hr.le a5a (a0a (a0b (pv 0)) a0i) (a0e a0t)))
   (a0u (c5v (a0r (d:=.bl true) b7l)))))))))),rfl⟩)
theorem sc_read_house:FnScope ["text","belts","carts","number","line","words","house"] ["text"] (a0s a8i):=fnsc
def readB:GS:=(a0h (gsSet 5 (gFrz (b0k a8w (gVar 4) (a0c (gC (.str " ")) gaNil))))
 (gsIf (gTru (b0c a4i (a0c (gVar 5) gaNil)))
  (a3i (gMut a2g (gVar 1) (a0c (gFrz (gSeq .tup (a0c (gBin oIx (gVar 5) (gC (.int 1))) (a0c (gOp oIntS (a0c (gBin oIx (gVar 5) (gC (.int 2))) gaNil)) (a0c (gBin oEq (gBin oIx (gVar 5) (gC (.int 0))) (gC (.str "ring"))) (a0c (gFrz (a5p (gVar 5) (a6a (gC (.int 4))) a6n)) gaNil)))))) gaNil)))
  (gsIf (gTru (b0c a4g (a0c (gVar 5) gaNil)))
  (a3i (gMut a2g (gVar 2) (a0c (gBin oIx (gVar 5) (gC (.int 1))) gaNil)))
  (b6p 92 (gVar 3)))))
abbrev readG:GG:=ggTup [(a1g 3),(a1g 4)]
def a7a:GS:=(a0h (gsSet 1 (gSeq .lst gaNil))
 (a0h (gsSet 2 (gSeq .lst gaNil))
 (a0h (b8p (b0k a8w (gVar 0) (a0c (gC (.str "\n")) gaNil)) readG readB)
 (a0h (gsSet 6 (gFrz (gSeq .tup (a0c (gFrz (gVar 1)) (a0c (gFrz (gVar 2)) gaNil)))))
 (a0h (a7d (gCall a0y (a0c (gVar 6) gaNil)))
 (b8c (gVar 6)))))))
def a3u:GM:=runM 7 [false] a7a
abbrev b2a(P:Program)(w:World)(K:L2.FG)(mg:Str->Option Value)(base:Heap)(t:Adr):Prop:=FnOk P w K mg base (CX1 P w) 5 t.f9 t.d9 ["text"] (SpX K 1 a3u)
theorem b7c(T:Txt K mg t)(g10:a8z P w K mg base t)(g11:a8x P w K mg base t)(g1:b0x P w K mg base t):b2a P w K mg base t:=
 a9h (k:=4) [false] a7a T.F9.fn sc_read_house rfl rfl (by decide) fun cdv A outer s H E hr=>(by
  have hu40:=a5h hr;have hu41:=a3w hr;exact⟨_,(a0n (a2d (i:=1) sc_read_house.nd rfl (Or.inl rfl) (a2p a0i))
   (a0n (a2d (i:=2) sc_read_house.nd rfl (Or.inl rfl) (a2p a0i))
   (a0n (c7p c4d T.b_enumerate (b2n PySem.F.slot_str_split PySem.F.type_str_split c2k c2m (a0b (pv 0)) (a0a (a0r (d:=.str "\n") a0q) a0i)) (c0y rfl (a4t (a2j (i:=3) sc_read_house.nd rfl (Or.inl rfl)) (a4t (a2j (i:=4) sc_read_house.nd rfl (Or.inl rfl)) b5w))) (c1k (a4u a2l (a4u a2l b6d)))
   (a0n (a2d (i:=5) sc_read_house.nd rfl (Or.inl rfl) (a1j (b2n PySem.F.slot_str_split PySem.F.type_str_split c2k c2m (a0b (pv 4)) (a0a (a0r (d:=.str " ") a0q) a0i))))
   (a0u (a3f (a7g (b2k T.F10 g10 hr.le (a0a (a0b (pv 5)) a0i) (a0e a0t)))
   (a0u (a3n (a5e PySem.F.slot_list_append PySem.F.type_list_append a3m a3o (a0b (pv 1)) (a0a (a1j (a6l (a0a (a1n (a4f K (by exact hu41)) a1o (a0b (pv 5)) (a0r (d:=.int 1) a0f)) (a0a (a9t c7x d6l T.b_int c5m (a0a (a1n (a4f K (by exact hu41)) a1o (a0b (pv 5)) (a0r (d:=.int 2) a0f)) a0i)) (a0a (a7z (a2i K (by exact hu40)) a4b (a1n (a4f K (by exact hu41)) a1o (a0b (pv 5)) (a0r (d:=.int 0) a0f)) (a0r (d:=.str "ring") a0q)) (a0a (a1j (a4o (a0b (pv 5)) (a5k (a0r (d:=.int 4) a0f)) a5j)) a0i)))))) a0i))))
   (a0u (a3f (a7g (b2k T.F11 g11 hr.le (a0a (a0b (pv 5)) a0i) (a0e a0t)))
   (a0u (a3n (a5e PySem.F.slot_list_append PySem.F.type_list_append a3m a3o (a0b (pv 2)) (a0a (a1n (a4f K (by exact hu41)) a1o (a0b (pv 5)) (a0r (d:=.int 1) a0f)) a0i))))
   (a0u (c8i T.er.GL T.er.G0 T.er.fL (d6s (P:=P) (w:=w) (base:=base) T) hr.le T.B_init T.er.kL T.er.mgL a5a (a0b (pv 3))))))))))
   (a0n (a2d (i:=6) sc_read_house.nd rfl (Or.inl rfl) (a1j (a6l (a0a (a1j (a0b (pv 1))) (a0a (a1j (a0b (pv 2))) a0i)))))
   (a0n (a7p (a6w T.F1 g1 hr.le a5a (a0a (a0b (pv 6)) a0i) (a0e a0t)))
   (a0u (c5v (a0b (pv 6))))))))),rfl⟩)
theorem sc_l_told:FnScope ["_law_words","_law_told_here","_law_found","e"] ["_law_words"] (a0s b6u):=fnsc
def b7d:GS:=(a0h (gsSet 1 (gSeq .lst gaNil))
 (a0h (gsTry (a0h (c7s 2 (gCall a3u (a0c (gVar 0) gaNil)))
 (gsIf (gAndT (gTru (gOp oIsi (a0c (gVar 2) (a0c (gC (.ty "tuple")) gaNil)))) (gT (gBin oEq (gOp oLen (a0c (gVar 2) gaNil)) (gC (.int 2)))))
  (a3i (gMut a2g (gVar 1) (a0c (gFrz (gSeq .tup (a0c (gC (.str "right")) (a0c (gC (.int 9)) gaNil)))) gaNil)))
  gsNil)) [(some 3,wE errCs 92,(a3i (gMut a2g (gVar 1) (a0c (gFrz (gSeq .tup (a0c (gC (.str "line")) (a0c (gUn (oLine [92]) (gVar 3)) gaNil)))) gaNil)))),(some 3,wT errCs,(a0h (gsIf (gTru (gUn (oIsiX (wE errCs 37)) (gVar 3)))
  (a3i (gMut a2g (gVar 1) (a0c (gC (.str "name")) gaNil)))
  gsNil)
 (a0h (gsIf (gTru (gUn (oIsiX (wE errCs 49)) (gVar 3)))
  (a3i (gMut a2g (gVar 1) (a0c (gC (.str "size")) gaNil)))
  gsNil)
 (a0h (gsIf (gTru (gUn (oIsiX (wE errCs 61)) (gVar 3)))
  (a3i (gMut a2g (gVar 1) (a0c (gC (.str "out")) gaNil)))
  gsNil)
 (gsIf (gTru (gUn (oIsiX (wE errCs 73)) (gVar 3)))
  (a3i (gMut a2g (gVar 1) (a0c (gC (.str "hand")) gaNil)))
  gsNil)))))])
 (gsRet (gMove (gVar 1)))))
def b2q:GM:=runM 4 [false] b7d
abbrev c2s(P:Program)(w:World)(K:L2.FG)(mg:Str->Option Value)(base:Heap)(t:Adr):Prop:=FnOk P w K mg base CX0 6 t.f18 t.d18 ["_law_words"] (SpM K 1 b2q)
theorem c8p(T:Txt K mg t)(g9:b2a P w K mg base t):c2s P w K mg base t:=
 a6r (k:=5) [false] b7d T.F18.fn sc_l_told rfl rfl (by decide) fun cdv A outer s H E hr=>(by
  have hu40:=a5h hr;exact⟨_,(a0n (a2d (i:=1) sc_l_told.nd rfl (Or.inl rfl) (a2p a0i))
   (a0n (d9h (fun _ _ _ hp=>(a0n (d6d (i:=2) sc_l_told.nd rfl (Or.inl rfl) (a6w T.F9 g9 hr.le hp (a0a (a0b (pv 0)) a0i) (a0e a0t)))
   (a0u (a3f (PW.pt (b5e (a7g (a2k (b2x K) c6q T.b_isinstance c5n (a0a (a0b (pv 2)) (a0a (a0r (d:=.ty "tuple") (d5f (by rfl) T.b_tuple d0v)) a0i)))) (b1e (a1q (a2i K (by exact hu40)) a4b (a2k (a3a K) a6m T.b_len a6j (a0a (a0b (pv 2)) a0i)) (a0r (d:=.int 2) a0f)))))
   (a0u (a3n (a5e PySem.F.slot_list_append PySem.F.type_list_append a3m a3o (a0b (pv 1)) (a0a (a1j (a6l (a0a (a0r (d:=.str "right") a0q) (a0a (a0r (d:=.int 9) a0f) a0i)))) a0i))))
   a2f)))) (c7w T.er.mgL (T.er.xE (c:=92) rfl rfl) (d9f (i:=3) sc_l_told.nd rfl rfl fun _=>(a0u (a3n (a5e PySem.F.slot_list_append PySem.F.type_list_append a3m a3o (a0b (pv 1)) (a0a (a1j (a6l (a0a (a0r (d:=.str "line") a0q) (a0a (d6i T.er.ln (a0b (pv 3))) a0i)))) a0i))))) (c7w T.er.mg0 T.er.xB (d9f (i:=3) sc_l_told.nd rfl rfl fun _=>(a0n (a3f (a7g (b6n (T.er.wE (c:=37) rfl rfl) T.b_isinstance (a0b (pv 3)) (b1b (v:=.ref 37) (by rfl) (T.er.ix (i:=0) rfl).1 rfl) (fun _ r=>r)))
   (a0u (a3n (a5e PySem.F.slot_list_append PySem.F.type_list_append a3m a3o (a0b (pv 1)) (a0a (a0r (d:=.str "name") a0q) a0i))))
   a2f)
   (a0n (a3f (a7g (b6n (T.er.wE (c:=49) rfl rfl) T.b_isinstance (a0b (pv 3)) (b1b (v:=.ref 49) (by rfl) (T.er.ix (i:=1) rfl).1 rfl) (fun _ r=>r)))
   (a0u (a3n (a5e PySem.F.slot_list_append PySem.F.type_list_append a3m a3o (a0b (pv 1)) (a0a (a0r (d:=.str "size") a0q) a0i))))
   a2f)
   (a0n (a3f (a7g (b6n (T.er.wE (c:=61) rfl rfl) T.b_isinstance (a0b (pv 3)) (b1b (v:=.ref 61) (by rfl) (T.er.ix (i:=2) rfl).1 rfl) (fun _ r=>r)))
   (a0u (a3n (a5e PySem.F.slot_list_append PySem.F.type_list_append a3m a3o (a0b (pv 1)) (a0a (a0r (d:=.str "out") a0q) a0i))))
   a2f)
   (a0u (a3f (a7g (b6n (T.er.wE (c:=73) rfl rfl) T.b_isinstance (a0b (pv 3)) (b1b (v:=.ref 73) (by rfl) (T.er.ix (i:=3) rfl).1 rfl) (fun _ r=>r)))
   (a0u (a3n (a5e PySem.F.slot_list_append PySem.F.type_list_append a3m a3o (a0b (pv 1)) (a0a (a0r (d:=.str "hand") a0q) a0i))))
   a2f)))))) d9g)))
   (a0u (a3r (c5s (a0b (pv 1))))))),rfl⟩)
theorem sc_law:FnScope ["_law_script","_law_feed_here","_law_lines_here","_law_how","_law_due","_law_k","_law_other","_law_words","_law_told_here"] ["_law_script"] (a0s d2l):=fnsc
def la5:GS:=gsIf (gT (gBin oGt (gVar 3) (gC (.int 6)))) (gsSet 4 (gFrz (gCall a4h (a0c (gVar 2) (a0c (gVar 3) (a0c (gFrz (gCall a1y (a0c (gVar 1) (a0c (gC (.int 1000003)) gaNil)))) gaNil)))))) gsNil
def lb2:GS:=gsSet 7 (b0k oJoin (gC (.str "\n")) (a0c (a6u (srcV 2 []) (a1g 0) gYes (b0k oJoin (gC (.str " ")) (a0c (gVar 0) gaNil)) 1 []) gaNil))
def lb3:GS:=gsSet 8 (gFrz (gCall b2q (a0c (gVar 7) gaNil)))
def lb4:GS:=gsIf (gOrT (gT (gBin oEq (gBin oIx (gVar 4) (gC (.int 0))) (gC (.str "line")))) (gT (gBin oEq (gBin oIx (gVar 4) (gC (.int 0))) (gC (.str "right"))))) (gsRet (gBin oEq (gVar 8) (gSeq .lst (a0c (gVar 4) gaNil)))) gsNil
def lb5:GS:=gsRet (gBin oEq (gVar 8) (gSeq .lst (a0c (gBin oIx (gVar 4) (gC (.int 0))) gaNil)))
def lc0:GS:=gsSet 5 (gFrz (gCall a1y (a0c (gVar 1) (a0c (gOp oLen (a0c (gVar 2) gaNil)) gaNil))))
def lc1:GS:=gsSet 6 (gFrz (gCall a1y (a0c (gVar 1) (a0c (gOp oLen (a0c (gVar 2) gaNil)) gaNil))))
def lc2:GS:=a3i (gCall a3y (a0c (gVar 2) (a0c (gVar 5) (a0c (gFrz (gCall a1y (a0c (gVar 1) (a0c (gC (.int 7)) gaNil)))) (a0c (gFrz (gCall a1y (a0c (gVar 1) (a0c (gC (.int 1000003)) gaNil)))) gaNil)))))
def lc3:GS:=gsIf (gAndT (gT (gBin oNeA (gVar 6) (gVar 5))) (gT (gBin oLt (gVar 3) (gC (.int 7))))) (a0h (a3i (gCall a3y (a0c (gVar 2) (a0c (gVar 6) (a0c (gVar 3) (a0c (gFrz (gCall a1y (a0c (gVar 1) (a0c (gC (.int 1000003)) gaNil)))) gaNil)))))) (gsSet 5 (gOp oMin2 (a0c (gVar 5) (a0c (gVar 6) gaNil))))) gsNil
def lc4:GS:=gsSet 4 (gFrz (gSeq .tup (a0c (gC (.str "line")) (a0c (gVar 5) gaNil))))
def lcS:GS:=a0h lc0 (a0h lc1 (a0h lc2 (a0h lc3 lc4)))
def lb1:GS:=gsIf (gOrT (gT (gBin oLt (gVar 3) (gC (.int 7)))) (gT (gBin oEq (gCall a1y (a0c (gVar 1) (a0c (gC (.int 2)) gaNil))) (gC (.int 1))))) lcS gsNil
def d6t:GS:=a0h (gsSet 1 (gCall b2p (a0c (gVar 0) gaNil))) (a0h (gsSet 2 (gCall b0u (a0c (gVar 1) gaNil))) (a0h (gsSet 3 (gFrz (gCall a1y (a0c (gVar 1) (a0c (gC (.int 15)) gaNil))))) (a0h (gsSet 4 (gFrz (gSeq .tup (a0c (gC (.str "right")) (a0c (gC (.int 9)) gaNil))))) (a0h la5 (gsFzC 2 (a0h lb1 (a0h lb2 (a0h lb3 (a0h lb4 lb5)))))))))
def d6u:GM:=runM 9 [false] d6t
theorem d9j(T:Txt K mg t)(g17:a8y P w K mg base t)(g16:b0s P w K mg base t)(g14:b6z P w K mg base t)(g13:c2q P w K mg base t)(g15:b9f P w K mg base t)(g18:c2s P w K mg base t):FnOk P w K mg base CX0 7 t.f19 t.d19 ["_law_script"] (SpM K 1 d6u):=
 a6r (k:=6) [false] d6t T.F19.fn sc_law rfl rfl (by decide) fun cdv A outer s H E hr=>(by
  have hu40:=a5h hr;have hu41:=a3w hr;exact⟨_,(a0n (a2d (i:=1) sc_law.nd rfl (Or.inl rfl) (a2u T.F13 g13 hr.le (a0a (a0b (pv 0)) a0i) (a0e a0t)))
   (a0n (a2d (i:=2) sc_law.nd rfl (Or.inl rfl) (a2u T.F15 g15 hr.le (a0a (a0b (pv 1)) a0i) (a0e a0t)))
   (a0n (a2d (i:=3) sc_law.nd rfl (Or.inl rfl) (a1j (a2u T.F14 g14 hr.le (a0a (a0b (pv 1)) (a0a (a0r (d:=.int 15) a0f) a0i)) (a0e (a0e a0t)))))
   (a0n (a2d (i:=4) sc_law.nd rfl (Or.inl rfl) (a1j (a6l (a0a (a0r (d:=.str "right") a0q) (a0a (a0r (d:=.int 9) a0f) a0i)))))
   (a0n (a3f (a1q d8e d8w (a0b (pv 3)) (a0r (d:=.int 6) a0f))
   (a0u (a2d (i:=4) sc_law.nd rfl (Or.inl rfl) (a1j (a2u T.F17 g17 hr.le (a0a (a0b (pv 2)) (a0a (a0b (pv 3)) (a0a (a1j (a2u T.F14 g14 hr.le (a0a (a0b (pv 1)) (a0a (a0r (d:=.int 1000003) a0f) a0i)) (a0e (a0e a0t)))) a0i))) (a0e (a0e (a0e a0t)))))))
   a2f)
   (d3z (i:=2) (a0n (a3f (PW.pt (c5u (a1q d0k d1h (a0b (pv 3)) (a0r (d:=.int 7) a0f)) (b8b (a1q (a2i K (by exact hu40)) a4b (a2u T.F14 g14 hr.le (a0a (a0b (pv 1)) (a0a (a0r (d:=.int 2) a0f) a0i)) (a0e (a0e a0t))) (a0r (d:=.int 1) a0f)))))
   (a0n (a2d (i:=5) sc_law.nd rfl (Or.inl rfl) (a1j (a2u T.F14 g14 hr.le (a0a (a0b (pv 1)) (a0a (a2k (a3a K) a6m T.b_len a6j (a0a (a0b (pv 2)) a0i)) a0i)) (a0e (a0e a0t)))))
   (a0n (a2d (i:=6) sc_law.nd rfl (Or.inl rfl) (a1j (a2u T.F14 g14 hr.le (a0a (a0b (pv 1)) (a0a (a2k (a3a K) a6m T.b_len a6j (a0a (a0b (pv 2)) a0i)) a0i)) (a0e (a0e a0t)))))
   (a0n (a3n (a2u T.F16 g16 hr.le (a0a (a0b (pv 2)) (a0a (a0b (pv 5)) (a0a (a1j (a2u T.F14 g14 hr.le (a0a (a0b (pv 1)) (a0a (a0r (d:=.int 7) a0f) a0i)) (a0e (a0e a0t)))) (a0a (a1j (a2u T.F14 g14 hr.le (a0a (a0b (pv 1)) (a0a (a0r (d:=.int 1000003) a0f) a0i)) (a0e (a0e a0t)))) a0i)))) (a0e (a0e (a0e (a0e a0t))))))
   (a0n (a3f (PW.pt (b5e (a1q (c1y K (by exact hu40)) c1z (a0b (pv 6)) (a0b (pv 5))) (b1e (a1q d0k d1h (a0b (pv 3)) (a0r (d:=.int 7) a0f)))))
   (a0n (a3n (a2u T.F16 g16 hr.le (a0a (a0b (pv 2)) (a0a (a0b (pv 6)) (a0a (a0b (pv 3)) (a0a (a1j (a2u T.F14 g14 hr.le (a0a (a0b (pv 1)) (a0a (a0r (d:=.int 1000003) a0f) a0i)) (a0e (a0e a0t)))) a0i)))) (a0e (a0e (a0e (a0e a0t))))))
   (a0u (a2d (i:=5) sc_law.nd rfl (Or.inl rfl) (a2k c8l d6p T.b_min PyProof.Rows.Boot.min (a0a (a0b (pv 5)) (a0a (a0b (pv 6)) a0i))))))
   a2f)
   (a0u (a2d (i:=4) sc_law.nd rfl (Or.inl rfl) (a1j (a6l (a0a (a0r (d:=.str "line") a0q) (a0a (a0b (pv 5)) a0i))))))))))
   a2f)
   (a0n (a2d (i:=7) sc_law.nd rfl (Or.inl rfl) (b2n PySem.F.slot_str_join PySem.F.type_str_join (c7i K) c7j (a0r (d:=.str "\n") a0q) (a0a (b3k c0i (k:=1) (cap:=[]) a2l (M:=["_law_line"]) (CompOk.of (a0s d2l).names ["_law_script","_law_feed_here","_law_lines_here","_law_how","_law_due","_law_k","_law_other","_law_words","_law_told_here"] (by decide +kernel)) (a9s K (pv 2))
    (fun _ _ _ _=>(a2j (i:=0) (show List.Nodup (["_law_line"]:List Str) by decide +kernel) rfl (Or.inl rfl))) (fun _ _ _ _=>b3j) (fun _ _ _ _=>(b2n PySem.F.slot_str_join PySem.F.type_str_join (c7i K) c7j (a0r (d:=.str " ") a0q) (a0a (a0b (pv 0)) a0i)))) a0i)))
   (a0n (a2d (i:=8) sc_law.nd rfl (Or.inl rfl) (a1j (a2u T.F18 g18 hr.le (a0a (a0b (pv 7)) a0i) (a0e a0t))))
   (a0n (a3f (PW.pt (c5u (a1q (a2i K (by exact hu40)) a4b (a1n (a4f K (by exact hu41)) a1o (a0b (pv 4)) (a0r (d:=.int 0) a0f)) (a0r (d:=.str "line") a0q)) (b8b (a1q (a2i K (by exact hu40)) a4b (a1n (a4f K (by exact hu41)) a1o (a0b (pv 4)) (a0r (d:=.int 0) a0f)) (a0r (d:=.str "right") a0q)))))
   (a0u (a3r (a7z (a2i K (by exact hu40)) a4b (a0b (pv 8)) (a2p (a0a (a0b (pv 4)) a0i)))))
   a2f)
   (a0u (a3r (a7z (a2i K (by exact hu40)) a4b (a0b (pv 8)) (a2p (a0a (a1n (a4f K (by exact hu41)) a1o (a0b (pv 4)) (a0r (d:=.int 0) a0f)) a0i))))))))))))))),rfl⟩)
end
end Carry
namespace Carry
open PySem L2
variable{i n c j how:Int}{F:Feed}{xs cs later ks pre gc ys L ws:List Str}{k:Nat}{c0 x t nm w0 w1 w2 w3 w4 s:Str}{b z b':Belt}{f g X:GS}{Γ Γ1:Gm}{h:House}{s0 x3 x4:Option O}{q ps:List (Belt×List D)}{C:Addr}{post r:List Belt}{ls:List (List Str)}{v:GE}{ft:GT}{K:L2.FG}{mg:Str->Option Value}{us:List Value}
def feedL(F:Feed):List O:=[.frz (.lst (F.ns.map .int)),.frz (.int F.pl),.frz (.int F.style),.frz (.int F.mode),.frz (.int F.num)]
abbrev feedT(F:Feed):O:=.lst (feedL F)
def feed0(ns:List Int):Feed:=⟨ns,0,0,ns.getD 0 0 % 2,ns.getD 1 0⟩
theorem c8q(ds:List D)(n:Nat):cutD ds none (some (n:Int))=ds.take n:=by
 unfold cutD;have e1:HT.sIx ds.length 0 none=0:=rfl;have e2:HT.sIx ds.length ds.length (some (n:Int))=min n ds.length:=by
  unfold HT.sIx;simp;try omega
 rw[e1,e2];simp only[List.drop_zero,Nat.sub_zero];rw[List.take_eq_take_iff];omega
theorem cut2(ds:List D):cutD ds none (some 2)=ds.take 2:=c8q ds 2
theorem d9k(ds:List D):cutD ds none (some 120)=ds.take 120:=c8q ds 120
theorem ix54:ixN 5 4=some 4:=by decide
theorem ix51:ixN 5 1=some 1:=by decide
theorem at0(ns:List Int):atI ((ns.map D.int).take 2++[D.int 0,D.int 0]) 0=some (.int (ns.getD 0 0)):=by
 refine a5s (j:=0) ?_
 match ns with
 |[]=>rfl
 |[x]=>rfl
 |x::y::r=>rfl
theorem at1(ns:List Int):atI ((ns.map D.int).take 2++[D.int 0,D.int 0]) 1=some (.int (ns.getD 1 0)):=by
 refine a5s (j:=1) ?_
 match ns with
 |[]=>rfl
 |[x]=>rfl
 |x::y::r=>rfl
theorem qq0{α:Type _}{a:α}{l:List α}:(a::l)[0]?=some a:=rfl
theorem qq1{α:Type _}{a:α}{i:Nat}{l:List α}:(a::l)[i+1]?=l[i]?:=rfl
theorem qq2{α:Type _}{a:α}{l:List α}:(a::l).length=l.length+1:=rfl
theorem qq3{α:Type _}:([]:List α).length=0:=rfl
theorem qq4{α:Type _}{x a:α}{l:List α}:(x::l).set 0 a=a::l:=rfl
theorem qq5{α:Type _}{x a:α}{n:Nat}{l:List α}:(x::l).set (n+1) a=x::l.set n a:=rfl
theorem qq6{α β:Type _}{f:α->β}{a:α}{l:List α}:(a::l).map f=f a::l.map f:=rfl
theorem qq7{α β:Type _}{f:α->β}:([]:List α).map f=[]:=rfl
theorem qq8{α:Type _}{a:α}:List.replicate 0 a=[]:=rfl
theorem qq9{α:Type _}{a:α}{n:Nat}:List.replicate (n+1) a=a::List.replicate n a:=rfl
theorem qqa{α:Type _}{a:α}{l:List α}{i:Nat}:(a::l).take (i+1)=a::l.take i:=rfl
theorem qqb{α:Type _}{a:α}{l r:List α}:(a::l)++r=a::(l++r):=rfl
theorem qqc{α:Type _}(l:List α):[]++l=l:=rfl
theorem qqd{α:Type _}{l:List α}:l.take 0=[]:=rfl
theorem qqe:(false=true)=False:=Bool.false_eq_true
theorem qqf(n:Nat):0+n=n:=Nat.zero_add n
theorem d9l(ns:List Int)(h:ns.length<=63):b2p [.frz (.scr ns)]=some (feedT (feed0 ns),[none]):=by
 have c1:(min 2 ns.length<=999998)=True:=eq_true (by omega)
 have c2:(ns.map D.int).take 120=ns.map D.int:=List.take_of_length_le (by rw[List.length_map];omega)
 unfold b2p b6x;simp only[a1v,qq6,qq7,qq2,qq3,qqf,Nat.reduceSub,qq9,qq8,qqb,qqc,a0p,a1p,a1a,a1d,a0d,a4v,a0o,qq0,↓evBind,a5u,a5v,a2x,a5x,↓evMap,a0j,c7f,cut2,a1s,a0g,Nat.reduceAdd,Nat.reduceLeDiff,a1e,a1c,if_true,a0l,a0k,c7c,b0d,a6c,c7b,c7a,List.length_take,List.length_map,c1,a4j,a4z,Nat.reduceLT,qq5,qq4,a2t,d9k,c2,qq1,a3c,a8a,at0,a2n,Int.reduceLT,decide_true,at1,a4d,qqa,qqd,a3h,a3g];rfl
theorem d9m(F:Feed)(m:Int)(h0:0 < m)(h1:m < 1073741824)(hp:0<=F.pl)(hl:F.ns.length<=63):a1y [feedT F,.frz (.int m)]=some (.frz (.int (drawV F m)),[some (feedT (drawF F m)),none]):=by
 unfold a1y b6y feedT feedL;by_cases hm:F.mode=1
 ·have e1:drawV F m=F.num % m:=by unfold drawV;rw[if_pos hm]
  have e2:drawF F m={ F with num:=F.num / m}:=by unfold drawF;rw[if_pos hm]
  rw[e1,e2];simp only[hm,a1v,qq6,qq7,qq2,qq3,qqf,Nat.reduceAdd,Nat.reduceSub,qq9,qq8,qqb,qqc,a0p,a0z,a4p,a1d,a0d,a0o,qq0,↓evBind,a2x,a0g,a0l,a3q,Option.join_some,a0j,a0k,a3c,a5q,b0h,a4l,a2y,a1i,a1r,and_self,a2o,beq_self_eq_true,if_true,a1p,b6k,qq1,a2n,h0,decide_true,Nat.reduceLT,qq5,qq4,a5f,h1,a8d,ix54,↓evMap,a2t,a1b,a4d,qqa,qqd,b0f,a3h,a3g]
 ·have hm':(F.mode == 1)=false:=by simpa using hm
  have e1:drawV F m=(cellOf F * 48271+31 * F.pl) % 1000003 * 69621 % 999983 % m:=by unfold drawV;rw[if_neg hm]
  have e2:drawF F m={ F with pl:=F.pl+1}:=by unfold drawF;rw[if_neg hm]
  rw[e1,e2];have m1:∀x:Int,((-(2 ^ 64) < x/\x < 2 ^ 64\/(-(2 ^ 64):Int) < 31/\(31:Int) < 2 ^ 64)=True):=fun x=>eq_true (.inr ⟨by decide,by decide⟩)
  have m2:∀x:Int,((-(2 ^ 64) < x/\x < 2 ^ 64\/(-(2 ^ 64):Int) < 48271/\(48271:Int) < 2 ^ 64)=True):=fun x=>eq_true (.inr ⟨by decide,by decide⟩)
  have m3:∀x:Int,((-(2 ^ 64) < x/\x < 2 ^ 64\/(-(2 ^ 64):Int) < 69621/\(69621:Int) < 2 ^ 64)=True):=fun x=>eq_true (.inr ⟨by decide,by decide⟩)
  have m4:∀x:Int,(((-(2 ^ 64):Int) < 31/\(31:Int) < 2 ^ 64 \/ -(2 ^ 64) < x/\x < 2 ^ 64)=True):=fun x=>eq_true (.inl ⟨by decide,by decide⟩)
  by_cases hc:(0:Int) < F.ns.length
  ·have hs:(F.ns.length:Int) < 1073741824:=by omega
   have hmod:0<=F.pl % (F.ns.length:Int)/\F.pl % (F.ns.length:Int) < F.ns.length:=⟨Int.emod_nonneg _ (by omega),Int.emod_lt_of_pos _ hc⟩
   have hat:atI (F.ns.map D.int) (F.pl % (F.ns.length:Int))=some (.int (F.ns.getD (F.pl % F.ns.length).toNat 0)):=by
    have hk':(F.pl % (F.ns.length:Int)).toNat < F.ns.length:=by omega
    have e:(F.ns.map D.int)[(F.pl % (F.ns.length:Int)).toNat]?=some (.int (F.ns.getD (F.pl % F.ns.length).toNat 0)):=by simp[hk']
    have z:=a5s e
    rwa [show(((F.pl % (F.ns.length:Int)).toNat:Nat):Int)=F.pl % (F.ns.length:Int) by omega] at z
   have ec:cellOf F=F.ns.getD (F.pl % F.ns.length).toNat 0+F.pl / F.ns.length * 31:=by unfold cellOf;rw[if_pos (by omega)]
   rw[ec];simp only[a1v,qq6,qq7,qq2,qq3,qqf,Nat.reduceAdd,Nat.reduceSub,qq9,qq8,qqb,qqc,a0p,a0z,a4p,a1d,a0d,a0o,qq0,↓evBind,a2x,a0g,a0l,a3q,Option.join_some,a0j,a0k,a3c,a5q,b0h,a4l,a2y,a1i,a1r,and_self,a2o,hm',if_true,qqe,a1p,b6k,qq1,a2n,h0,decide_true,Nat.reduceLT,qq5,qq4,a5f,h1,a8d,↓evMap,a1b,if_false,b0g,a1a,a5w,ix51,a5m,b1w,a9g,List.length_map,hc,a8a,hat,hs,a9f,m1,a2t,m2,m4,Int.reduceLT,m3,a4d,qqa,qqd,b0f,a3h,a3g]
  ·have ec:cellOf F=F.pl:=by unfold cellOf;rw[if_neg (by omega)]
   rw[ec];simp only[a1v,qq6,qq7,qq2,qq3,qqf,Nat.reduceAdd,Nat.reduceSub,qq9,qq8,qqb,qqc,a0p,a0z,a4p,a1d,a0d,a0o,qq0,↓evBind,a2x,a0g,a0l,a3q,Option.join_some,a0j,a0k,a3c,a5q,b0h,a4l,a2y,a1i,a1r,and_self,a2o,hm',if_true,qqe,a1p,b6k,qq1,a2n,h0,decide_true,Nat.reduceLT,qq5,qq4,a5f,h1,a8d,↓evMap,a1b,if_false,b0g,a1a,a5w,ix51,a5m,b1w,a9g,List.length_map,hc,decide_false,a2t,a9f,m2,m4,Int.reduceLT,m3,a4d,qqa,qqd,b0f,a3h,a3g]
abbrev fS(x:Str):O:=.frz (.str x)
theorem b4i(xs:List Str):xs.map fS=(xs.map D.str).map .frz:=by rw[List.map_map];rfl
theorem d2m(xs:List Str):O.dl (xs.map fS)=xs.map D.str:=by rw[b4i,a8u]
theorem d6v(xs:List Str):frzL (xs.map fS)=some (xs.map D.str):=by rw[b4i,a6c]
theorem c0n(x:Str):∀xs:List Str,((xs.map D.str).any fun z=>eqD z (.str x))=xs.contains x
 |[]=>rfl
 |y::r=>by
  rw[List.map_cons,List.any_cons,c0n x r,List.contains_cons,a4e]
  congr 1
  exact BEq.comm
theorem c0o(n:Nat)(xs:List Str):(xs.map D.str).all (okD n)=true:=by
 rw[List.all_eq_true];intro d hd;obtain⟨y,_,rfl⟩:=List.mem_map.mp hd;exact a2q n y
theorem c8r(neg:Bool)(x:Str)(xs:List Str):oInG neg [.frz (.str x),.lst (xs.map fS)]=some (.frz (.bl (if neg then !xs.contains x else xs.contains x))):=by
 unfold oInG;have e:seqO (O.lst (xs.map fS)).d=some (xs.map D.str):=by rw[b4i];show some (O.dl _)=_;rw[a8u]
 simp only[dictO,e,Option.bind_some,a1i,a2q,c0o,and_self,if_true,c0n]
theorem b9g(neg:Bool)(x:Str)(xs:List Str):oInG neg [.frz (.str x),.frz (.lst (xs.map D.str))]=some (.frz (.bl (if neg then !xs.contains x else xs.contains x))):=by
 unfold oInG;have e:seqO (.lst (xs.map D.str))=some (xs.map D.str):=rfl;simp only[dictO,e,Option.bind_some,a1i,a2q,c0o,and_self,if_true,c0n]
abbrev fL(xs:List Str):O:=.frz (.lst (xs.map .str))
structure WB where
 n:D
 l:Int
 r:Bool
 os:List D
def wbOf(b:Belt):WB:=⟨.str b.name,b.long,b.ring,b.outs.map .str⟩
structure SmallH (h:House):Prop where
 bl:h.belts.length<=100
 ct:h.carts.length<=100
 ou:(h.belts.map fun x=>x.outs.length).sum<=900
def Fwd(carts:List Str):List Belt->Prop
 |[]=>True
 |b::bs=>(∀o∈b.outs,o∈bs.map Belt.name\/o∈carts)/\b.name∉bs.map Belt.name/\b.name∉carts/\Fwd carts bs
theorem c2t{carts:List Str}:∀{bs:List Belt},Fwd carts bs->∀x∈bs,∀y∈bs,x.name=y.name->x=y
 |z::bs,f,x,hx,y,hy,e=>by
  rcases List.mem_cons.mp hx with hx1|hx1
  ·rcases List.mem_cons.mp hy with hy1|hy1
   ·rw[hx1,hy1]
   ·exact absurd (List.mem_map_of_mem (f:=Belt.name) hy1) (by rw[<-e,hx1];exact f.2.1)
  ·rcases List.mem_cons.mp hy with hy1|hy1
   ·exact absurd (List.mem_map_of_mem (f:=Belt.name) hx1) (by rw[e,hy1];exact f.2.1)
   ·exact c2t f.2.2.2 x hx1 y hy1 e
theorem b9h{carts:List Str}:∀{bs:List Belt},Fwd carts bs->∀c∈carts,c∉bs.map Belt.name
 |[],_,c,_,h=>by cases h
 |b::bs,f,c,hc,h=>by
  rcases List.mem_cons.mp h with z|z
  ·exact f.2.2.1 (by rw[<-z];exact hc)
  ·exact b9h f.2.2.2 c hc z
theorem b5p{carts:List Str}:∀{xs ys:List Belt},Fwd carts (xs++ys)->Fwd carts ys
 |[],_,f=>f
 |_::xs,ys,f=>b5p (xs:=xs) f.2.2.2
abbrev isN(x:Str):Prop:=b0r [.frz (.str x)]=some (.frz (.bl true),[none])
abbrev noN(d:D):Prop:=b0r [.frz d]=some (.frz (.bl false),[none])
structure GoodW (h:House):Prop where
 fwd:Fwd h.carts h.belts
 sm:SmallH h
 cm:∀c∈h.carts,isN c
 nm:∀b∈h.belts,isN b.name
 lg:∀b∈h.belts,1<=b.long/\(b.ring=true->2<=b.long)
 cn:h.carts.Nodup
 c0:0 < h.carts.length
 nd:∀b∈h.belts,b.outs.Nodup
 o0:∀b∈h.belts,b.outs≠[]
 nl:∀b∈h.belts,b.name.length<=20
 wb:∀b∈h.belts,b.name≠"nowhere"
 wc:("nowhere":Str)∉h.carts
structure GoodH (h:House):Prop extends GoodW h where
 hd:∀b∈h.belts,h.carts.getD 0 ""∈b.outs\/∃o∈b.outs,o∈h.belts.map Belt.name
def cN:List Str:=["cp","cq","cr"]
def bN:List Str:=["bd","ba","bc","bb"]
abbrev cE:GE:=gBin oAdd (gC (.str "c")) (gBin oIx (gC (.str "pqr")) (gVar 0))
theorem e0y(k:Nat)(hk:k < 3)(a:Option O):a8q (a1g 0) gYes cE (.int (0+(k:Int))) [a]=some (some (.own (.frz (.str (cN.getD k "")))),[some (.frz (.int (0+(k:Int))))]):=by
 match k,hk with
 |0,_=>rfl
 |1,_=>rfl
 |2,_=>rfl
theorem x_cp(m:Nat)(hm:m<=3):∃a',compLoop (a1g 0) gYes cE (rngD 0 m) [none] []=some ((cN.take m).map fS,[a']):=by
 obtain⟨Γ',⟨a',rfl⟩,e⟩:=c2a (g:=a1g 0) (ct:=gYes) (ce:=cE) (fun Γ=>∃a,Γ=[a]) (fun(k:Nat)=>D.int (0+(k:Int))) (fun k=>.str (cN.getD k "")) (List.range m) [none] ⟨_,rfl⟩ (by rw[List.length_range];omega) (by
  rintro k hk Γ ⟨a,rfl⟩;exact⟨_,e0y k (by rw[List.mem_range] at hk;omega) a,_,rfl⟩)
 refine⟨a',?_⟩;have:((List.range m).map fun k=>D.str (cN.getD k ""))=(cN.take m).map D.str:=by
  match m,hm with
  |0,_=>rfl
  |1,_=>rfl
  |2,_=>rfl
  |3,_=>rfl
 rw[this,<-b4i] at e;exact e
abbrev bE:GE:=gBin oAdd (gC (.str "b")) (gBin oIx (gC (.str "dacb")) (gVar 4))
theorem e0z(k:Nat)(hk:k < 4)(x0 x1 x2 x3 x5 x6 x7 x8 x9:Option O):bE [x0,x1,x2,x3,some (.frz (.int (0+(k:Int)))),x5,x6,x7,x8,x9]=some (.own (.frz (.str (bN.getD k ""))),[x0,x1,x2,x3,some (.frz (.int (0+(k:Int)))),x5,x6,x7,x8,x9]):=by
 match k,hk with
 |0,_=>rfl
 |1,_=>rfl
 |2,_=>rfl
 |3,_=>rfl
def wrd(b:Belt):Str:=if b.ring=true then "ring" else "belt"
def strI(i:Int):Str:=Str.ofString (toString i)
def a1k(b:Belt):List Str:=[wrd b,b.name,strI b.long,"to"]++b.outs
abbrev lineO(b:Belt):O:=.lst ((a1k b).map fS)
structure GoodF (F:Feed):Prop where
 pos:0<=F.pl
 len:F.ns.length<=63
theorem GoodF.draw(h:GoodF F)(m:Int):GoodF (drawF F m):=⟨d0z F m h.pos,by rw[d0y];exact h.len⟩
theorem xd(h:GoodF F){m:Int}(h0:0 < m)(h1:m < 1073741824):a1y [feedT F,.frz (.int m)]=some (.frz (.int (drawV F m)),[some (feedT (drawF F m)),none]):=d9m F m h0 h1 h.pos h.len
theorem c8s(xs:List Str)(i:Int)(y:Str)(h0:0<=i)(h1:i < 1000000)(hl:xs.length < 1000000):a3p (.lst (xs.map fS)) [.frz (.int i),.frz (.str y)]=some (.lst ((insS xs i.toNat y).map fS),.frz .non):=by
 unfold a3p;dsimp only;rw[if_pos ⟨h0,h1,by rw[List.length_map];exact hl⟩]
 unfold insS;rw[List.map_append,List.map_cons,List.map_take,List.map_drop]
theorem c8t{k:Int}(h0:0<=k)(h1:k < xs.length):atI ((xs.map D.str).map O.frz) k=some (.frz (.str (xs.getD k.toNat ""))):=by
 have hk':k.toNat < xs.length:=by omega
 have e:((xs.map D.str).map O.frz)[k.toNat]?=some (.frz (.str (xs.getD k.toNat ""))):=by simp[hk']
 have z:=a5s e
 rwa [show((k.toNat:Nat):Int)=k by omega] at z
def outB:GS:=a0h (gsSet 5 (gSeq .lst (a0c (gBin oIx (gVar 1) (gC (.int 0))) gaNil)))
 (a0h (gsSet 6 (gBin oIx (gBin oAdd (gVar 3) (gVar 1)) (gCall a1y (a0c (gVar 0) (a0c (gFrz (gBin oAdd (gOp oLen (a0c (gVar 3) gaNil)) (gOp oLen (a0c (gVar 1) gaNil)))) gaNil)))))
 (gsIf (gT (gBin (oInG true) (gVar 6) (gVar 5)))
  (a3i (gMut a3p (gVar 5) (a0c (gFrz (gCall a1y (a0c (gVar 0) (a0c (gC (.int 2)) gaNil)))) (a0c (gVar 6) gaNil))))
  gsNil))
theorem d6w(g:GoodF F)(hl:later.length<=10)(hc:cs.length<=10)(x2 x4 x5 x6 x7 x8 x9:Option O):
  ∃F' outs x6',outB [some (feedT F),some (fL (c0::cs)),x2,some (.lst (later.map fS)),x4,x5,x6,x7,x8,x9]=some (.nx,[some (feedT F'),some (fL (c0::cs)),x2,some (.lst (later.map fS)),x4,some (.lst (outs.map fS)),x6',x7,x8,x9])/\GoodF F'/\
   (outs=[c0]\/∃o,(o∈later\/o∈cs)/\o≠c0/\(outs=[o,c0]\/outs=[c0,o])):=by
 have hm0:(0:Int) < (later.length:Int)+(c0::cs).length:=by rw[List.length_cons];omega
 have hm1:(later.length:Int)+(c0::cs).length < 1073741824:=by rw[List.length_cons];omega
 have e1:=xd g hm0 hm1;have v0:=a1x F hm0;have v1:=a4x F hm0;have hat:=c8t (xs:=later++c0::cs) v0 (by rw[List.length_append];omega)
 have hmem:(later++c0::cs).getD (drawV F (later.length+(c0::cs).length)).toNat ""∈later++c0::cs:=by
  have hk:(drawV F (later.length+(c0::cs).length)).toNat < (later++c0::cs).length:=by rw[List.length_append];omega
  have e:(later++c0::cs)[(drawV F (later.length+(c0::cs).length)).toNat]?=some ((later++c0::cs).getD (drawV F (later.length+(c0::cs).length)).toNat ""):=by
   generalize(drawV F (later.length+(c0::cs).length)).toNat=q at *;generalize later++c0::cs=l at *;simp[hk]
  exact List.mem_of_getElem? e
 have g1:=g.draw ((later.length:Int)+(c0::cs).length);generalize drawV F ((later.length:Int)+(c0::cs).length)=v at *;generalize drawF F ((later.length:Int)+(c0::cs).length)=F1 at *;generalize(later++c0::cs).getD v.toNat ""=o at *;have c1:(later.length+(c0::cs).length<=1000000)=True:=eq_true (by rw[List.length_cons];omega)
 have i0:oIx1 (fL (c0::cs)) (.int 0)=some (fS c0):=by simp only[a8a,qq6,a5m,Option.map_some]
 have en:=c8r true o [c0];have fl:=d6v later;have dl:=d2m later;have lc:(List.map D.str (c0::cs)).length=(c0::cs).length:=List.length_map ..;by_cases ho:o=c0
 ·refine⟨F1,[c0],some (fS o),?_,g1,.inl rfl⟩;have hc:([c0]:List Str).contains o=true:=by rw[ho];simp
  rw[hc,if_pos rfl] at en;have en:oInG true [.frz (.str o),.lst [fS c0]]=some (.frz (.bl (!true))):=en;unfold outB;generalize hcl:c0::cs=cl at *;simp only[a0p,a1p,a1s,a0d,a1d,a0o,qq1,qq0,↓evBind,a2x,a0g,a0l,a0j,a0k,a3c,i0,qq2,qq3,qqf,Nat.reduceLeDiff,a1e,a1c,if_true,Nat.reduceAdd,Nat.reduceLT,qq5,qq4,a3q,Option.join_some,b2l,b0d,fl,List.length_map,lc,c1,<-List.map_append,a1f,a1a,b1w,a4j,dl,a9g,↓evMap,a1i,a5w,a1m,a0x,a0w,e1,a4c,a2c,a2b,a5q,hat,a4l,a0z,a4p,en,Bool.not_true,qqe,a2h,a4k,a1b,if_false,qq6,qq7]
 ·have e2:=xd g1 (m:=2) (by decide) (by decide)
  have u0:=a1x F1 (m:=2) (by decide)
  have u1:=a4x F1 (m:=2) (by decide)
  have e3:=c8s [c0] (drawV F1 2) o u0 (by omega) (by show 1 < 1000000;decide)
  have hc:([c0]:List Str).contains o=false:=by rw[<-Bool.not_eq_true,List.contains_iff_mem];simpa using ho
  rw[hc,if_pos rfl] at en;have en:oInG true [.frz (.str o),.lst [fS c0]]=some (.frz (.bl (!false))):=en;have e3:a3p (.lst [fS c0]) [.frz (.int (drawV F1 2)),.frz (.str o)]=_:=e3;refine⟨drawF F1 2,insS [c0] (drawV F1 2).toNat o,some (fS o),?_,g1.draw 2,.inr ⟨o,?_,ho,?_⟩⟩
  ·unfold outB;generalize hcl:c0::cs=cl at *;simp only[a0p,a1p,a1s,a0d,a1d,a0o,qq1,qq0,↓evBind,a2x,a0g,a0l,a0j,a0k,a3c,i0,qq2,qq3,qqf,Nat.reduceLeDiff,a1e,a1c,if_true,Nat.reduceAdd,Nat.reduceLT,qq5,qq4,a3q,Option.join_some,b2l,b0d,fl,List.length_map,lc,c1,<-List.map_append,a1f,a1a,b1w,a4j,dl,a9g,↓evMap,a1i,a5w,a1m,a0x,a0w,e1,a4c,a2c,a2b,a5q,hat,a4l,a0z,a4p,en,Bool.not_false,a2h,a4k,e2,e3,a1b]
  ·rcases List.mem_append.mp hmem with z|z
   ·exact .inl z
   ·rcases List.mem_cons.mp z with z|z
    ·exact absurd z ho
    ·exact .inr z
  ·have:drawV F1 2=0\/drawV F1 2=1:=by omega
   rcases this with z|z <;> rw[z]
   ·exact .inl rfl
   ·exact .inr rfl
def restB:GS:=a0h (gsSet 7 (gFrz (gCall a1y (a0c (gVar 0) (a0c (gC (.int 2)) gaNil)))))
 (a0h (gsSet 8 (gFrz (gSeq .lst (a0c (gBin oIx (gSeq .lst (a0c (gC (.str "belt")) (a0c (gC (.str "ring")) gaNil))) (gVar 7)) (a0c (gFrz bE) (a0c (gOp oStr1 (a0c (gBin oAdd (gBin oAdd (gBin oAdd (gC (.int 1)) (gVar 7)) (gCall a1y (a0c (gVar 0) (a0c (gC (.int 4)) gaNil)))) (gBin oMulA (gC (.int 10)) (gOp oInt1 (a0c (gBin oEq (gVar 4) (gC (.int 0))) gaNil)))) gaNil)) (a0c (gC (.str "to")) gaNil)))))))
 (a0h (a3i (gMut a3p (gVar 2) (a0c (gC (.int 0)) (a0c (gBin oAdd (gVar 8) (gVar 5)) gaNil))))
 (a3i (gMut a2g (gVar 3) (a0c (gFrz bE) gaNil)))))
theorem d9n:∀n:Nat,n < 21->(n:Int).natAbs.log2 < 1920:=by decide +kernel
theorem c2u(bs:List Belt)(b:Belt)(hl:bs.length < 1000000):a3p (.lst (bs.map lineO)) [.frz (.int 0),.lst (((a1k b).map D.str).map .frz)]=some (.lst ((b::bs).map lineO),.frz .non):=by
 unfold a3p;dsimp only;rw[if_pos ⟨by decide,by decide,by rw[List.length_map];exact hl⟩,<-b4i]
 rfl
theorem e1a(xs:List Str)(y:Str)(hl:xs.length < 1000000):a2g (.lst (xs.map fS)) [.frz (.str y)]=some (.lst ((xs++[y]).map fS),.frz .non):=by
 show(if(xs.map fS).length < 1000000 then some (O.lst (xs.map fS++[fS y]),O.frz .non) else none)=_
 rw[if_pos (by rw[List.length_map];exact hl),List.map_append]
 rfl
theorem d2n(g:GoodF F)(hk:k < 4){bs:List Belt}{outs:List Str}(hb:bs.length<=10)(hl:later.length<=10)(ho:outs.length<=10)(x1 x6 x7 x8 x9:Option O):
  ∃F' b y7 y8,restB [some (feedT F),x1,some (.lst (bs.map lineO)),some (.lst (later.map fS)),some (.frz (.int (0+(k:Int)))),some (.lst (outs.map fS)),x6,x7,x8,x9]=some (.nx,[some (feedT F'),x1,some (.lst ((b::bs).map lineO)),some (.lst ((later++[bN.getD k ""]).map fS)),some (.frz (.int (0+(k:Int)))),some (.lst (outs.map fS)),x6,y7,y8,x9])/\GoodF F'/\
   b.name=bN.getD k ""/\b.outs=outs/\(1<=b.long/\b.long<=20/\(b.ring=true->2<=b.long)):=by
 have e1:=xd g (m:=2) (by decide) (by decide)
 have u0:=a1x F (m:=2) (by decide)
 have u1:=a4x F (m:=2) (by decide)
 have g1:=g.draw 2;generalize drawV F 2=r at *;generalize drawF F 2=F1 at *;have e2:=xd g1 (m:=4) (by decide) (by decide)
 have d0:=a1x F1 (m:=4) (by decide)
 have d1:=a4x F1 (m:=4) (by decide)
 have g2:=g1.draw 4;generalize drawV F1 4=dv at *;generalize drawF F1 4=F2 at *;have hbe:=e0z k hk;have kz:((0+(k:Int)) == 0)=decide (k=0):=by
  rw[Int.zero_add];by_cases z:k=0
  ·rw[z];rfl
  ·rw[decide_eq_false z];simpa using z
 generalize bN.getD k ""=nm at *;generalize hbd:(decide (k=0))=kb at *;generalize(0+(k:Int))=ki at *;have mu:∀z:Bool,((-(2 ^ 64) < (10:Int)/\(10:Int) < 2 ^ 64)\/(-(2 ^ 64) < (if z=true then(1:Int) else 0)/\(if z=true then(1:Int) else 0) < 2 ^ 64))=True:=fun z=>eq_true (.inl ⟨by decide,by decide⟩)
 have kb1:∀z:Bool,0<=(if z=true then(1:Int) else 0)/\(if z=true then(1:Int) else 0)<=1:=fun z=>by cases z <;> decide
 have k1:=kb1 kb;have lgb:1<=1+r+dv+10 * (if kb=true then(1:Int) else 0)/\1+r+dv+10 * (if kb=true then(1:Int) else 0)<=20/\1+r<=1+r+dv+10 * (if kb=true then(1:Int) else 0):=by
  generalize(if kb=true then(1:Int) else 0)=w at *
  omega
 have lo:((1+r+dv+10 * (if kb=true then(1:Int) else 0)).natAbs.log2 < 1920)=True:=by
  generalize 1+r+dv+10 * (if kb=true then(1:Int) else 0)=lg at *
  obtain⟨n,e,hn⟩:=b1t (n:=21) (x:=lg) (by omega) (by omega)
  rw[e];exact eq_true (d9n n hn)
 generalize hlg:1+r+dv+10 * (if kb=true then(1:Int) else 0)=lg at *
 have rr:r=0\/r=1:=by omega
 have app:=e1a later nm (by omega)
 have fo:=d6v outs;have c1:([D.str "belt",.str nm,.str (strI lg),.str "to"].length+(outs.map D.str).length<=1000000)=True:=eq_true (by simp;omega)
 have c1:(4+(outs.map D.str).length<=1000000)=True:=eq_true (by rw[List.length_map];omega)
 unfold restB;generalize bE=be at *;rcases rr with z|z
 ·subst z;have i1:atI [fS "belt",fS "ring"] 0=some (fS "belt"):=rfl;have en:a3p (.lst (bs.map lineO)) [.frz (.int 0),.lst (fS "belt"::fS nm::fS (Str.ofString (toString lg))::fS "to"::(outs.map D.str).map O.frz)]=some (.lst ((⟨nm,lg,false,outs⟩::bs).map lineO),.frz .non):=c2u bs ⟨nm,lg,false,outs⟩ (by omega)
  refine⟨F2,⟨nm,lg,false,outs⟩,some (.frz (.int 0)),some (.frz (.lst [.str "belt",.str nm,.str (Str.ofString (toString lg)),.str "to"])),?_,g2,rfl,rfl,lgb.1,lgb.2.1,fun z=>by cases z⟩
  generalize(⟨nm,lg,false,outs⟩::bs).map lineO=l2 at *;generalize bs.map lineO=l1 at *;simp only[a0p,a1p,a1a,a1f,a0d,a0o,qq0,↓evBind,a2x,a0g,a1m,qq4,a0x,a0w,e1,a4c,a2c,a2b,a1i,qq2,qq3,qqf,Nat.reduceAdd,Nat.reduceLT,qq5,if_true,a1s,a1d,Nat.reduceLeDiff,a1e,a1c,qq1,a0l,a0j,a0k,a3c,a5q,i1,a4l,hbe,a5w,e2,a2y,a1r,and_self,a2o,kz,c7d,a9f,mu,hlg,c7l,lo,a4j,a3d,a2v,a2h,a4k,a3q,Option.join_some,b0e,b0d,fo,c1,qqb,qqc,qq6,en,app]
 ·subst z;have i1:atI [fS "belt",fS "ring"] 1=some (fS "ring"):=rfl;have en:a3p (.lst (bs.map lineO)) [.frz (.int 0),.lst (fS "ring"::fS nm::fS (Str.ofString (toString lg))::fS "to"::(outs.map D.str).map O.frz)]=some (.lst ((⟨nm,lg,true,outs⟩::bs).map lineO),.frz .non):=c2u bs ⟨nm,lg,true,outs⟩ (by omega)
  refine⟨F2,⟨nm,lg,true,outs⟩,some (.frz (.int 1)),some (.frz (.lst [.str "ring",.str nm,.str (Str.ofString (toString lg)),.str "to"])),?_,g2,rfl,rfl,lgb.1,lgb.2.1,fun _=>by show 2<=lg;omega⟩
  generalize(⟨nm,lg,true,outs⟩::bs).map lineO=l2 at *;generalize bs.map lineO=l1 at *;simp only[a0p,a1p,a1a,a1f,a0d,a0o,qq0,↓evBind,a2x,a0g,a1m,qq4,a0x,a0w,e1,a4c,a2c,a2b,a1i,qq2,qq3,qqf,Nat.reduceAdd,Nat.reduceLT,qq5,if_true,a1s,a1d,Nat.reduceLeDiff,a1e,a1c,qq1,a0l,a0j,a0k,a3c,a5q,i1,a4l,hbe,a5w,e2,a2y,a1r,and_self,a2o,kz,c7d,a9f,mu,hlg,c7l,lo,a4j,a3d,a2v,a2h,a4k,a3q,Option.join_some,b0e,b0d,fo,c1,qqb,qqc,qq6,en,app]
abbrev lineC(c:Str):O:=.lst [fS "cart",fS c]
structure LInv (carts:List Str) (k:Nat) (bs:List Belt):Prop where
 nm:bs.map Belt.name=(bN.take k).reverse
 fwd:Fwd carts bs
 lg:∀b∈bs,1<=b.long/\b.long<=20/\(b.ring=true->2<=b.long)
 nd:∀b∈bs,b.outs.Nodup/\b.outs.length<=2
 hd:∀b∈bs,carts.getD 0 ""∈b.outs
theorem d4c:∀k,k < 4->bN.getD k ""∉bN.take k/\bN.getD k ""∉cN/\bN.take (k+1)=bN.take k++[bN.getD k ""]:=by decide +kernel
theorem LInv.step{bs:List Belt}(h:LInv (c0::cs) k bs)(hk:k < 4)(hc:∀c∈c0::cs,c∈cN)(hn:b.name=bN.getD k "")(hl:1<=b.long/\b.long<=20/\(b.ring=true->2<=b.long))(ho:b.outs=[c0]\/∃o,(o∈bN.take k\/o∈cs)/\o≠c0/\(b.outs=[o,c0]\/b.outs=[c0,o])):LInv (c0::cs) (k+1) (b::bs):=by
 obtain⟨n1,n2,n3⟩:=d4c k hk;have outs:(∀o∈b.outs,o∈bs.map Belt.name\/o∈c0::cs)/\b.outs.Nodup/\b.outs.length<=2/\c0∈b.outs:=by
  rcases ho with z|⟨o,h1,h2,h3⟩
  ·rw[z];exact⟨fun o m=>.inr (by rw[List.mem_singleton.mp m];exact .head _),by simp,by simp,by simp⟩
  ·have key:∀x∈[o,c0],x∈bs.map Belt.name\/x∈c0::cs:=fun x m=>by
    rcases List.mem_cons.mp m with rfl|m
    ·rcases h1 with y|y
     ·exact .inl (by rw[h.nm];exact List.mem_reverse.mpr y)
     ·exact .inr (.tail _ y)
    ·exact .inr (by rw[List.mem_singleton.mp m];exact .head _)
   rcases h3 with z|z <;> rw[z]
   ·exact⟨key,by simpa using h2,by simp,by simp⟩
   ·exact⟨fun x m=>key x (by simp only[List.mem_cons,List.not_mem_nil,or_false] at m ⊢;exact m.symm),by simpa using Ne.symm h2,by simp,by simp⟩
 refine⟨by rw[List.map_cons,h.nm,hn,n3,List.reverse_append];rfl,⟨outs.1,?_,?_,h.fwd⟩,fun x hx=>?_,fun x hx=>?_,fun x hx=>?_⟩
 ·rw[h.nm,hn];exact fun z=>n1 (List.mem_reverse.mp z)
 ·rw[hn];exact fun z=>n2 (hc _ z)
 ·rcases List.mem_cons.mp hx with rfl|hx
  ·exact hl
  ·exact h.lg x hx
 ·rcases List.mem_cons.mp hx with rfl|hx
  ·exact⟨outs.2.1,outs.2.2.1⟩
  ·exact h.nd x hx
 ·rcases List.mem_cons.mp hx with rfl|hx
  ·exact outs.2.2.2
  ·exact h.hd x hx
def beltB:GS:=a0h (gsSet 5 (gSeq .lst (a0c (gBin oIx (gVar 1) (gC (.int 0))) gaNil)))
 (a0h (gsSet 6 (gBin oIx (gBin oAdd (gVar 3) (gVar 1)) (gCall a1y (a0c (gVar 0) (a0c (gFrz (gBin oAdd (gOp oLen (a0c (gVar 3) gaNil)) (gOp oLen (a0c (gVar 1) gaNil)))) gaNil)))))
 (a0h (gsIf (gT (gBin (oInG true) (gVar 6) (gVar 5)))
  (a3i (gMut a3p (gVar 5) (a0c (gFrz (gCall a1y (a0c (gVar 0) (a0c (gC (.int 2)) gaNil)))) (a0c (gVar 6) gaNil))))
  gsNil) restB))
theorem c4l(a b c r:GS)(Γ:Gm):a0h a (a0h b (a0h c r)) Γ=a0h (a0h a (a0h b c)) r Γ:=by
 unfold a0h;cases ha:a Γ with
 |none=>rfl
 |some p=>
  obtain⟨f,Γ1⟩:=p;cases f with
  |nx=>
   simp only[Option.bind_some];cases hb:b Γ1 with
   |none=>rfl
   |some q=>
    obtain⟨f2,Γ2⟩:=q;cases f2 <;> rfl
  |bk=>rfl
  |ct=>rfl
  |rt o=>rfl
theorem a0m(e:f Γ=some (.nx,Γ1)):a0h f g Γ=g Γ1:=by
 unfold a0h;rw[e];rfl
theorem c8u(g:GoodF F)(hc:∀c∈c0::cs,c∈cN)(hl:cs.length<=3)(n:Nat)(hn:n<=4):
  ∃F' bs a4 a5 a6 a7 a8,a2m (a1g 4) beltB (rngD 0 n) [some (feedT F),some (fL (c0::cs)),some (.lst []),some (.lst []),none,none,none,none,none,none]=some (.nx,[some (feedT F'),some (fL (c0::cs)),some (.lst (bs.map lineO)),some (.lst ((bN.take n).map fS)),a4,a5,a6,a7,a8,none])/\GoodF F'/\LInv (c0::cs) n bs:=by
 obtain⟨Γ',e,F',bs,a4,a5,a6,a7,a8,rfl,g',li⟩:=a7o (g:=a1g 4) (f:=beltB) (fun(k:Nat)=>D.int (0+(k:Int))) (fun pre Γ=>∃F bs a4 a5 a6 a7 a8,Γ=[some (feedT F),some (fL (c0::cs)),some (.lst (bs.map lineO)),some (.lst ((bN.take pre.length).map fS)),a4,a5,a6,a7,a8,none]/\GoodF F/\LInv (c0::cs) pre.length bs) (List.range n) [] [some (feedT F),some (fL (c0::cs)),some (.lst []),some (.lst []),none,none,none,none,none,none]
  ⟨F,[],none,none,none,none,none,rfl,g,⟨rfl,True.intro,fun b m=>(by cases m),fun b m=>(by cases m),fun b m=>(by cases m)⟩⟩ (by
  rintro q k post Γ eq ⟨F,bs,a4,a5,a6,a7,a8,rfl,g,li⟩;rw[List.nil_append] at *;have hk:k=q.length:=by
   have:=congrArg (fun l:List Nat=>l[q.length]?) eq
   simp only[List.getElem?_append_right (Nat.le_refl _),Nat.sub_self,qq0] at this;have h2:=List.getElem?_eq_some_iff.mp this;obtain⟨h3,h4⟩:=h2;rw[List.getElem_range] at h4;exact h4.symm
  have hq:q.length < 4:=by have:=congrArg List.length eq;simp at this;omega
  subst hk;have lb:bs.length=q.length:=by have:=congrArg List.length li.nm;simpa[bN,Nat.min_eq_left (Nat.le_of_lt hq)] using this
  obtain⟨F1,outs,x6,e1,g1,ho⟩:=d6w g (c0:=c0) (cs:=cs) (later:=bN.take q.length) (by rw[List.length_take];omega) (by omega) (some (.lst (bs.map lineO))) (some (.frz (.int (0+(q.length:Int))))) a5 a6 a7 a8 none
  have lo:outs.length<=10:=by
   rcases ho with z|⟨o,_,_,z|z⟩ <;> rw[z] <;> simp
  obtain⟨F2,b,y7,y8,e2,g2,h1,h2,h3⟩:=d2n g1 (k:=q.length) hq (bs:=bs) (later:=bN.take q.length) (by omega) (by rw[List.length_take];omega) lo (some (fL (c0::cs))) x6 a7 a8 none
  refine⟨_,?_,F2,b::bs,some (.frz (.int (0+(q.length:Int)))),some (.lst (outs.map fS)),x6,y7,y8,rfl,g2,?_⟩
  ·show beltB [some (feedT F),some (fL (c0::cs)),some (.lst (bs.map lineO)),some (.lst ((bN.take q.length).map fS)),some (.frz (.int (0+(q.length:Int)))),a5,a6,a7,a8,none]=_;unfold beltB;rw[c4l];refine(a0m e1).trans (e2.trans ?_);rw[List.length_append,List.length_singleton,(d4c q.length hq).2.2]
  ·rw[List.length_append,List.length_singleton];exact li.step hq hc h1 h3 (by rw[h2];exact ho))
 rw[List.nil_append,List.length_range] at *;exact⟨F',bs,a4,a5,a6,a7,a8,e,g',li⟩
theorem d6x:∀m,m < 3->cN.take (m+1)=("cp":Str)::(cN.drop 1).take m:=by decide +kernel
theorem b9i{s0 s1 s3 s4 s5 s6 s7 s8:Option O}(l0:List O):∀(cs:List Str) (pre:List O) (a:Option O),l0.length+pre.length+cs.length < 1000->∃a',a2m (a1g 9) (a3i (gMut a2g (gVar 2) (a0c (gSeq .lst (a0c (gC (.str "cart")) (a0c (gVar 9) gaNil))) gaNil))) (cs.map D.str) [s0,s1,some (.lst (l0++pre)),s3,s4,s5,s6,s7,s8,a]=some (.nx,[s0,s1,some (.lst (l0++pre++cs.map lineC)),s3,s4,s5,s6,s7,s8,a'])
 |[],pre,a,_=>⟨a,by rw[List.map_nil,List.map_nil,List.append_nil];rfl⟩
 |c::cs,pre,a,h=>by
  rw[List.length_cons] at h;obtain⟨a',e⟩:=b9i l0 cs (pre++[lineC c]) (some (fS c)) (by rw[List.length_append,List.length_singleton];omega)
  refine⟨a',?_⟩;have ap:a2g (.lst (l0++pre)) [lineC c]=some (.lst (l0++(pre++[lineC c])),.frz .non):=by
   show(if(l0++pre).length < 1000000 then some (O.lst (l0++pre++[lineC c]),O.frz .non) else none)=_
   rw[if_pos (by rw[List.length_append];omega),List.append_assoc]
  rw[show l0++pre++(c::cs).map lineC=l0++(pre++[lineC c])++cs.map lineC by simp,<-e]
  generalize l0++(pre++[lineC c])=l2 at *;generalize l0++pre=l1 at *;simp only[qq6,a6f,a3b,qq2,qq3,qqf,Nat.reduceAdd,Nat.reduceLT,qq5,qq4,if_true,↓evBind,a2h,a4k,a0o,qq1,qq0,a0d,a1s,a2x,a0g,Nat.reduceLeDiff,a1e,a1c,ap]
structure DrawnL (h:House):Prop where
 li:LInv h.carts h.belts.length h.belts
 ct:∃m,m < 3/\h.carts=cN.take (m+1)
 b0:0 < h.belts.length
 b4:h.belts.length<=4
theorem d6y(g:GoodF F):∃F' h,b0u [feedT F]=some (.lst (h.belts.map lineO++h.carts.map lineC),[some (feedT F')])/\GoodF F'/\DrawnL h:=by
 have e1:=xd g (m:=3) (by decide) (by decide)
 have u0:=a1x F (m:=3) (by decide)
 have u1:=a4x F (m:=3) (by decide)
 have g1:=g.draw 3;have i1:int1 [.own (.frz (.int (1+drawV F 3)))]=some (1+drawV F 3):=c5x (by omega)
 obtain⟨m,em,hm⟩:=b1t (n:=3) u0 u1;have t1:(1+drawV F 3).toNat=m+1:=by omega
 obtain⟨a1,eC⟩:=x_cp (m+1) (by omega)
 generalize drawV F 3=v at *;generalize drawF F 3=F1 at *;have e2:=xd g1 (m:=4) (by decide) (by decide)
 have d0:=a1x F1 (m:=4) (by decide)
 have d1:=a4x F1 (m:=4) (by decide)
 have g2:=g1.draw 4;have i2:int1 [.own (.frz (.int (1+drawV F1 4)))]=some (1+drawV F1 4):=c5x (by omega)
 obtain⟨n,en,hn⟩:=b1t (n:=4) d0 d1;have t2:(1+drawV F1 4).toNat=n+1:=by omega
 generalize drawV F1 4=v2 at *;generalize drawF F1 4=F2 at *;have ct:=d6x m hm;have hcs:∀c∈cN.take (m+1),c∈cN:=fun c hc=>List.mem_of_mem_take hc
 have hl3:(cN.take (m+1)).length<=3:=by rw[List.length_take];exact Nat.min_le_right _ _
 rw[ct] at hcs hl3;obtain⟨F3,bs,a4,a5,a6,a7,a8,e3,g3,li⟩:=c8u g2 hcs (by rw[List.length_cons] at hl3;omega) (n+1) (by omega)
 have lb:bs.length=n+1:=by have:=congrArg List.length li.nm;rw[List.length_map,List.length_reverse,List.length_take] at this;rw[this];exact Nat.min_eq_left (by show n+1<=4;omega)
 rw[<-ct] at e3 li;obtain⟨a9,e4⟩:=b9i (s0:=some (feedT F3)) (s1:=some (fL (cN.take (m+1)))) (s3:=some (.lst ((bN.take (n+1)).map fS))) (s4:=a4) (s5:=a5) (s6:=a6) (s7:=a7) (s8:=a8) (bs.map lineO) (cN.take (m+1)) [] none (by rw[List.length_map,List.length_nil];rw[ct];omega)
 rw[List.append_nil] at e4;refine⟨F3,⟨bs,cN.take (m+1)⟩,?_,g3,⟨by show LInv _ bs.length bs;rw[lb];exact li,⟨m,hm,rfl⟩,by show 0 < bs.length;omega,by show bs.length<=4;omega⟩⟩
 have dl:=d2m (cN.take (m+1));unfold beltB restB at e3;unfold b0u b4h;dsimp only;generalize bs.map lineO=l1 at *;generalize hcc:cN.take (m+1)=cc at *;simp only[a1v,qq6,qq7,qq2,qq3,qqf,Nat.reduceSub,qq9,qq8,qqb,qqc,a0p,a1p,a1a,b3l,d1q,a0d,a1d,a2x,↓evBind,a1f,a0o,qq0,a0g,a1m,qq4,a0x,a0w,e1,a4c,a2c,a2b,a0l,a0j,a0k,a5w,i1,↓evMap,t1,b0i,List.append_nil,eC,Nat.reduceAdd,List.drop_succ_cons,List.drop_zero,b0j,if_true,a4j,dl,Nat.reduceLT,qq5,a1s,Nat.reduceLeDiff,a1c,e0w,e2,i2,t2,e3,a7h,qq1,a1i,e4,a2t,a9d,a4d,qqa,qqd,b0f,a3g]
def wbT(b:WB):D:=.tup [b.n,.int b.l,.bl b.r,.lst b.os]
abbrev beltD(b:Belt):D:=wbT (wbOf b)
def hT(bs cs:List D):D:=.tup [.lst bs,.lst cs]
def a3j(h:House):D:=hT (h.belts.map beltD) (h.carts.map .str)
abbrev fB(b:Belt):O:=.frz (beltD b)
theorem c2v{α:Type}(enc:α->D)(xs:List α):enumD (xs.map enc)=((List.range xs.length).zip xs).map fun(p:Nat×α)=>D.tup [.int (p.1:Nat),enc p.2]:=by
 unfold enumD;rw[List.length_map,List.zipWith_map_right,List.map_zip_eq_zipWith];rfl
theorem b9j{α:Type}{g:GG}(enc:α->D)(P:List α->Gm->Prop)(xs:List α)(Γ:Gm)(h:P [] Γ)
  (st:∀q x post Γ (i:Int),xs=q++x::post->i=(q.length:Nat)->P q Γ->∃Γ2,(g (.tup [.int i,enc x]) Γ).bind f=some (.nx,Γ2)/\P (q++[x]) Γ2):∃Γ',a2m g f (enumD (xs.map enc)) Γ=some (.nx,Γ')/\P xs Γ':=by
 have hs:((List.range xs.length).zip xs).map Prod.snd=xs:=by rw[List.map_snd_zip];simp
 rw[c2v];obtain⟨Γ',e,p⟩:=a7o (g:=g) (f:=f) (fun(p:Nat×α)=>D.tup [.int (p.1:Nat),enc p.2]) (fun pre Γ=>P (pre.map Prod.snd) Γ) ((List.range xs.length).zip xs) [] Γ h (by
  intro q x post Γ e p;rw[List.nil_append] at p ⊢;have hx:xs=q.map Prod.snd++x.2::post.map Prod.snd:=by
   have:=congrArg (List.map Prod.snd) e;rw[hs] at this;rw[this,List.map_append,List.map_cons]
  have hi:x.1=q.length:=by
   have:((List.range xs.length).zip xs)[q.length]?=some x:=by rw[e,List.getElem?_append_right (Nat.le_refl _)];simp
   rw[List.getElem?_zip_eq_some] at this;have h1:=this.1;rw[List.getElem?_eq_some_iff] at h1;obtain⟨hl,h1⟩:=h1;rw[List.getElem_range] at h1;exact h1.symm
  obtain⟨Γ2,a,b⟩:=st (q.map Prod.snd) x.2 (post.map Prod.snd) Γ (x.1:Nat) hx (by rw[hi,List.length_map]) p
  exact⟨Γ2,a,by rw[List.map_append];exact b⟩)
 exact⟨Γ',e,by rw[List.nil_append,hs] at p;exact p⟩
theorem c8v{α:Type}{xs:List α}{q post:List (Nat×α)}{x:Nat×α}{n:Nat}(e:(List.range n).zip xs=q++x::post)(hn:n=xs.length):xs=q.map Prod.snd++x.2::post.map Prod.snd/\x.1=q.length:=by
 subst hn;refine⟨?_,?_⟩
 ·have:=congrArg (List.map Prod.snd) e;rw[List.map_snd_zip (by simp)] at this
  rw[this,List.map_append,List.map_cons]
 ·have:((List.range xs.length).zip xs)[q.length]?=some x:=by rw[e,List.getElem?_append_right (Nat.le_refl _)];simp
  rw[List.getElem?_zip_eq_some] at this;have h1:=this.1;rw[List.getElem?_eq_some_iff] at h1;obtain⟨hl,h1⟩:=h1;rw[List.getElem_range] at h1;exact h1.symm
theorem a8l{α:Type}{g:GG}{f:GS}(enc:α->D)(P:List α->Gm->Prop)(o:O)(R:Gm->Prop)(z:D)(rest:List D):∀(xs pre:List α) (Γ:Gm),P pre Γ->
  (∀q x post Γ,xs=q++x::post->P (pre++q) Γ->∃Γ2,(g (enc x) Γ).bind f=some (.nx,Γ2)/\P (pre++q++[x]) Γ2)->(∀Γ,P (pre++xs) Γ->∃Γ2,(g z Γ).bind f=some (.rt o,Γ2)/\R Γ2)->∃Γ',a2m g f (xs.map enc++z::rest) Γ=some (.rt o,Γ')/\R Γ'
 |[],pre,Γ,h,_,last=>by
  rw[List.append_nil] at last;obtain⟨Γ2,h2,h3⟩:=last Γ h;refine⟨Γ2,?_,h3⟩;rw[List.map_nil,List.nil_append,a6f];cases q:g z Γ with
  |none=>rw[q] at h2;cases h2
  |some Γ1=>
   rw[q] at h2;have h2:f Γ1=some (.rt o,Γ2):=h2;show(f Γ1).bind _=_;rw[h2];rfl
 |x::xs,pre,Γ,h,st,last=>by
  obtain⟨Γ2,h2,h3⟩:=st [] x xs Γ rfl (by rw[List.append_nil];exact h)
  rw[List.append_nil] at h3;obtain⟨Γ',h4,h5⟩:=a8l enc P o R z rest xs (pre++[x]) Γ2 h3 (fun q y post Γ e p=>by
   obtain⟨Γ2,b,c⟩:=st (x::q) y post Γ (by rw[e];rfl) (by rw[show pre++x::q=pre++[x]++q by simp];exact p)
   exact⟨Γ2,b,by rw[show pre++[x]++q++[y]=pre++x::q++[y] by simp];exact c⟩) (by rw[show pre++[x]++xs=pre++x::xs by simp];exact last)
  refine⟨Γ',?_,h5⟩;rw[List.map_cons,List.cons_append,a6f];cases q:g (enc x) Γ with
  |none=>rw[q] at h2;cases h2
  |some Γ1=>
   rw[q] at h2;have h2:f Γ1=some (.nx,Γ2):=h2;show(f Γ1).bind _=_;rw[h2];exact h4
theorem c2w{α:Type}{g:GG}{f:GS}(enc:α->D)(P:Gm->Prop)(o:O)(R:Gm->Prop)(M:α->Prop):∀(xs:List α) (Γ:Gm),P Γ->
  (∀x∈xs,∀Γ,P Γ->(¬M x/\∃Γ2,(g (enc x) Γ).bind f=some (.nx,Γ2)/\P Γ2)\/∃Γ2,(g (enc x) Γ).bind f=some (.rt o,Γ2)/\R Γ2)->(∃x∈xs,M x)->∃Γ',a2m g f (xs.map enc) Γ=some (.rt o,Γ')/\R Γ'
 |[],Γ,_,_,⟨x,m,_⟩=>by cases m
 |x::xs,Γ,h,st,⟨y,m,hy⟩=>by
  rw[List.map_cons,a6f];rcases st x (.head _) Γ h with⟨nm,Γ2,h2,h3⟩|⟨Γ2,h2,h3⟩
  ·have m':y∈xs:=by
    rcases List.mem_cons.mp m with rfl|m
    ·exact absurd hy nm
    ·exact m
   obtain⟨Γ',h4,h5⟩:=c2w enc P o R M xs Γ2 h3 (fun x hx=>st x (.tail _ hx)) ⟨y,m',hy⟩
   refine⟨Γ',?_,h5⟩;cases q:g (enc x) Γ with
   |none=>rw[q] at h2;cases h2
   |some Γ1=>
    rw[q] at h2;have h2:f Γ1=some (.nx,Γ2):=h2;show(f Γ1).bind _=_;rw[h2];exact h4
  ·refine⟨Γ2,?_,h3⟩;cases q:g (enc x) Γ with
   |none=>rw[q] at h2;cases h2
   |some Γ1=>
    rw[q] at h2;have h2:f Γ1=some (.rt o,Γ2):=h2;show(f Γ1).bind _=_;rw[h2];rfl
theorem b5q{α:Type}{g:GG}(enc:α->D)(P:List α->Gm->Prop)(o:O)(R:Gm->Prop)(xs:List α)(z:D)(rest:List D)(Γ:Gm)(h:P [] Γ)
  (st:∀q x post Γ (i:Int),xs=q++x::post->i=(q.length:Nat)->P q Γ->∃Γ2,(g (.tup [.int i,enc x]) Γ).bind f=some (.nx,Γ2)/\P (q++[x]) Γ2) (last:∀Γ (i:Int),i=(xs.length:Nat)->P xs Γ->∃Γ2,(g (.tup [.int i,z]) Γ).bind f=some (.rt o,Γ2)/\R Γ2):∃Γ',a2m g f (enumD (xs.map enc++z::rest)) Γ=some (.rt o,Γ')/\R Γ':=by
 have e0:enumD (xs.map enc++z::rest)=((List.range xs.length).zip xs).map (fun(p:Nat×α)=>D.tup [.int (p.1:Nat),enc p.2])++D.tup [.int (xs.length:Nat),z]::(enumD (xs.map enc++z::rest)).drop (xs.length+1):=by
  have l1:(enumD (xs.map enc++z::rest)).take xs.length=((List.range xs.length).zip xs).map (fun(p:Nat×α)=>D.tup [.int (p.1:Nat),enc p.2]):=by
   rw[<-c2v];unfold enumD;refine List.ext_getElem ?_ fun i h1 h2=>?_
   ·simp
   ·have hi:i < xs.length:=by simpa using h2
    simp[List.getElem_append,hi]
  have l2:(enumD (xs.map enc++z::rest))[xs.length]?=some (D.tup [.int (xs.length:Nat),z]):=by
   unfold enumD;simp
  obtain⟨hl,l2⟩:=List.getElem?_eq_some_iff.mp l2;have l3:=List.drop_eq_getElem_cons hl;rw[l2] at l3;rw[<-l1,<-l3,List.take_append_drop]
 rw[e0];refine a8l (g:=g) (f:=f) (fun(p:Nat×α)=>D.tup [.int (p.1:Nat),enc p.2]) (fun pre Γ=>P (pre.map Prod.snd) Γ) o R _ _ ((List.range xs.length).zip xs) [] Γ h ?_ ?_
 ·intro q x post Γ e p;rw[List.nil_append] at p ⊢;obtain⟨hx,hi⟩:=c8v e rfl;obtain⟨Γ2,a,b⟩:=st (q.map Prod.snd) x.2 (post.map Prod.snd) Γ (x.1:Nat) hx (by rw[hi,List.length_map]) p
  exact⟨Γ2,a,by rw[List.map_append];exact b⟩
 ·intro Γ p;rw[List.nil_append,List.map_snd_zip (by simp)] at p
  exact last Γ _ rfl p
theorem e1r(cs:List Str):O.dl (cs.map fS)=cs.map D.str:=by
 rw[show cs.map fS=(cs.map D.str).map O.frz by rw[List.map_map];rfl,a8u]
theorem a8m(x:Str)(xs:List Str):oIx1 (fL (x::xs)) (.int 0)=some (.frz (.str x)):=by simp only[a8a,qq6,a5m,Option.map_some]
theorem e1b(ds:List D):oIsi [.frz (.lst ds),.frz (.ty "list")]=some (.frz (.bl true)):=by unfold oIsi;simp[kindD,isiB,O.d]
theorem xb0(b:WB):oIx1 (.frz (wbT b)) (.int 0)=some (.frz b.n):=by unfold wbT;simp only[b5i,a5m,Option.map_some]
theorem xb3(b:WB):oIx1 (.frz (wbT b)) (.int 3)=some (.frz (.lst b.os)):=by unfold wbT;simp only[b5i,b0h,Option.map_some]
theorem xh0(bs cs:List D):oIx1 (.frz (hT bs cs)) (.int 0)=some (.frz (.lst bs)):=by unfold hT;simp only[b5i,a5m,Option.map_some]
theorem xh1(bs cs:List D):oIx1 (.frz (hT bs cs)) (.int 1)=some (.frz (.lst cs)):=by unfold hT;simp only[b5i,b0g,Option.map_some]
theorem b4j:∀(xs:List WB) (acc:List D) (a:Option O),acc.length+xs.length < 1000000->∃a',compLoop (a1g 0) gYes (gBin oIx (gVar 0) (gC (.int 0))) (xs.map wbT) [a] (acc.map .frz)=some ((acc++xs.map WB.n).map .frz,[a'])
 |[],acc,a,_=>⟨a,by rw[List.map_nil,c6z,List.map_nil,List.append_nil]⟩
 |x::xs,acc,a,h=>by
  rw[List.length_cons] at h;have hl:(acc.map O.frz).length < 1000000:=by rw[List.length_map];omega
  obtain⟨a',e⟩:=b4j xs (acc++[x.n]) (some (.frz (wbT x))) (by rw[List.length_append,List.length_singleton];omega)
  refine⟨a',?_⟩;rw[List.map_cons (f:=WB.n),show acc++x.n::xs.map WB.n=acc++[x.n]++xs.map WB.n by simp]
  rw[<-e,List.map_append];simp only[qq6,c1x,a3b,qq2,qq3,qqf,Nat.reduceLT,qq4,if_true,↓evBind,d3u,a1d,a0d,a0o,qq0,a2x,a0g,a0l,a0j,a0k,a3c,xb0,a1e,a1c,hl,qq7]
theorem c2x(bs:List WB)(h:bs.length < 1000000):a3s [.frz (.lst (bs.map wbT))]=some (.lst ((bs.map WB.n).map .frz),[none]):=by
 obtain⟨a',e⟩:=b4j bs [] none (by rw[List.length_nil];omega)
 rw[List.map_nil,List.nil_append] at e;unfold a3s a8j;simp only[a1v,qq6,qq7,qq2,qq3,qqf,Nat.reduceSub,qq8,List.append_nil,a2t,b3l,c6y,a1a,a0o,qq0,↓evBind,a1i,qq9,b0i,e,Nat.reduceAdd,List.drop_succ_cons,List.drop_zero,b0j,if_true,a4d,qqa,qqd,a3h,a3g]
theorem c8w(bs:List Belt)(h:bs.length < 1000000):a3s [.frz (.lst (bs.map beltD))]=some (.lst ((bs.map Belt.name).map fS),[none]):=by
 have e:=c2x (bs.map wbOf) (by rw[List.length_map];exact h)
 rw[List.map_map,List.map_map,List.map_map] at e;rw[List.map_map];exact e
def kd(ks:List Str):List (TK×O):=ks.map fun k=>(TK.inr k,.frz (.bl true))
def kdD(ks:List Str):List (TK×D):=ks.map fun k=>(TK.inr k,.bl true)
def addS(ks:List Str)(k:Str):List Str:=if ks.contains k then ks else ks++[k]
theorem d9o:∀ks:List Str,O.dk (kd ks)=kdD ks
 |[]=>rfl
 |k::ks=>by
  show(_,_)::O.dk (kd ks)=_;rw[d9o ks];rfl
theorem d4d(x:Str):∀ks:List Str,(valD (kdD ks) (.inr x)).isSome=ks.contains x
 |[]=>rfl
 |k::ks=>by
  have ih:=d4d x ks;unfold valD kdD at *;rw[List.map_cons,List.find?_cons,List.contains_cons];by_cases e:k=x
  ·rw[decide_eq_true (by rw[e]),e,beq_self_eq_true]
   rfl
  ·rw[decide_eq_false (fun z=>e (TK.inr.inj z)),show(x == k)=false by rw[beq_eq_false_iff_ne];exact fun z=>e z.symm]
   rw[Bool.false_or];exact ih
theorem b9k(neg:Bool)(x:Str)(ks:List Str):oInG neg [.frz (.str x),.dct (kd ks)]=some (.frz (.bl (if neg then !ks.contains x else ks.contains x))):=by
 unfold oInG;simp only[dictO,d9o,keyD,Option.bind_some,d4d]
theorem d4e(k:Str):∀ks:List Str,putG (kd ks) (.inr k) (.frz (.bl true))=kd (addS ks k)
 |[]=>rfl
 |j::ks=>by
  have ih:=d4e k ks;show(if(TK.inr j)=TK.inr k then(TK.inr j,O.frz (.bl true))::kd ks else(TK.inr j,O.frz (.bl true))::putG (kd ks) (.inr k) (.frz (.bl true)))=_
  unfold addS at *;rw[List.contains_cons];by_cases e:j=k
  ·rw[if_pos (by rw[e]),e,beq_self_eq_true,Bool.true_or,if_pos rfl];rfl
  ·rw[if_neg (fun z=>e (TK.inr.inj z)),ih,show(k == j)=false by rw[beq_eq_false_iff_ne];exact fun z=>e z.symm,Bool.false_or]
   cases ks.contains k with
   |true=>rw[if_pos rfl,if_pos rfl];rfl
   |false=>rw[if_neg Bool.false_ne_true,if_neg Bool.false_ne_true];rfl
theorem d4f(ks:List Str)(k:Str)(h:ks.length < 1000000):mSet (.dct (kd ks)) [.frz (.bl true),.frz (.str k)]=some (.dct (kd (addS ks k)),.frz .non):=by
 show(if(kd ks).length < 1000000 then some (O.dct (putG (kd ks) (.inr k) (.frz (.bl true))),O.frz .non) else none)=_
 rw[if_pos (by unfold kd;rw[List.length_map];exact h),d4e]
theorem c2y(ks:List Str)(k:Str):(addS ks k).length<=ks.length+1:=by
 unfold addS;split
 ·omega
 ·rw[List.length_append,List.length_singleton];exact Nat.le_refl _
theorem d2o{k n:Str}:n∈addS ks k↔n=k\/n∈ks:=by
 unfold addS;split
 ·rename_i h
  rw[List.contains_iff_mem] at h;constructor
  ·exact .inr
  ·rintro(rfl|h')
   ·exact h
   ·exact h'
 ·rw[List.mem_append,List.mem_singleton];exact Or.comm
theorem c2z:∀(outs ks:List Str) (g0 g1 g3 g4 g5 g6 a:Option O),ks.length+outs.length < 1000000->∃a',a2m (a1g 7) (gsPut (gC (.bl true)) (gVar 2) (gVar 7)) (outs.map D.str) [g0,g1,some (.dct (kd ks)),g3,g4,g5,g6,a] =
  some (.nx,[g0,g1,some (.dct (kd (outs.foldl addS ks))),g3,g4,g5,g6,a'])
 |[],ks,g0,g1,g3,g4,g5,g6,a,_=>⟨a,rfl⟩
 |o::outs,ks,g0,g1,g3,g4,g5,g6,a,h=>by
  rw[List.length_cons] at h;have hl:=c2y ks o;obtain⟨a',e⟩:=c2z outs (addS ks o) g0 g1 g3 g4 g5 g6 (some (fS o)) (by omega)
  refine⟨a',?_⟩;rw[List.foldl_cons,<-e];simp only[qq6,a6f,a3b,qq2,qq3,qqf,Nat.reduceAdd,Nat.reduceLT,qq5,qq4,if_true,↓evBind,a5f,a2x,a0o,qq1,qq0,d4f ks o (by omega)]
def stepF(b:Str)(ks:List Str)(x:Belt):List Str:=if(x.name == b || ks.contains x.name)=true then x.outs.foldl addS ks else ks
theorem d2p(outs:List Str):∀ks:List Str,(outs.foldl addS ks).length<=ks.length+outs.length:=by
 induction outs with
 |nil=>intro ks;exact Nat.le_refl _
 |cons o outs ih=>
  intro ks;rw[List.foldl_cons,List.length_cons];have:=ih (addS ks o);have:=c2y ks o;omega
theorem a8s(b:Str)(hd:D):∀(bs:List Belt) (ks:List Str) (a3 a4 a5 a6 a7:Option O),ks.length+(bs.map fun x=>x.outs.length).sum < 1000000->∃b3 b4 b5 b6 b7,a2m (ggTup [(a1g 3),(a1g 4),(a1g 5),(a1g 6)])
  (gsIf (gOrT (gT (gBin oEq (gVar 3) (gVar 1))) (gT (gBin (oInG false) (gVar 3) (gVar 2))))
  (gsFor (gVar 6) (a1g 7)
  (gsPut (gC (.bl true)) (gVar 2) (gVar 7)))
  gsNil) (bs.map beltD) [some (.frz hd),some (fS b),some (.dct (kd ks)),a3,a4,a5,a6,a7]=some (.nx,[some (.frz hd),some (fS b),some (.dct (kd (bs.foldl (stepF b) ks))),b3,b4,b5,b6,b7])
 |[],ks,a3,a4,a5,a6,a7,_=>⟨a3,a4,a5,a6,a7,rfl⟩
 |x::bs,ks,a3,a4,a5,a6,a7,h=>by
  rw[List.map_cons,List.sum_cons] at h;have hf:=d2p x.outs ks;obtain⟨a',e1⟩:=c2z x.outs ks (some (.frz hd)) (some (fS b)) (some (.frz (.str x.name))) (some (.frz (.int x.long))) (some (.frz (.bl x.ring))) (some (.frz (.lst (x.outs.map .str)))) a7 (by omega)
  cases c1:x.name == b with
  |true=>
   obtain⟨b3,b4,b5,b6,b7,e⟩:=a8s b hd bs (x.outs.foldl addS ks) (some (.frz (.str x.name))) (some (.frz (.int x.long))) (some (.frz (.bl x.ring))) (some (.frz (.lst (x.outs.map .str)))) a' (by omega)
   refine⟨b3,b4,b5,b6,b7,?_⟩;rw[List.foldl_cons,show stepF b ks x=x.outs.foldl addS ks by unfold stepF;rw[c1,Bool.true_or,if_pos rfl],<-e,List.map_cons]
   rw[show beltD x=.tup [.str x.name,.int x.long,.bl x.ring,.lst (x.outs.map .str)] from rfl];simp only[a6f,a7n,a6e,a3b,qq2,qq3,qqf,Nat.reduceAdd,Nat.reduceLT,qq5,qq4,if_true,↓evBind,a6d,a0z,a5g,a4p,a1d,a0d,a0o,qq1,qq0,a0g,a0l,a0j,a0k,a2y,a1i,a2q,and_self,a4e,c1,a3q,Option.join_some,a7h,a1a,e1,a1b]
  |false=>
   cases c2:ks.contains x.name with
   |true=>
    obtain⟨b3,b4,b5,b6,b7,e⟩:=a8s b hd bs (x.outs.foldl addS ks) (some (.frz (.str x.name))) (some (.frz (.int x.long))) (some (.frz (.bl x.ring))) (some (.frz (.lst (x.outs.map .str)))) a' (by omega)
    refine⟨b3,b4,b5,b6,b7,?_⟩;rw[List.foldl_cons,show stepF b ks x=x.outs.foldl addS ks by unfold stepF;rw[c1,c2,Bool.or_true,if_pos rfl],<-e,List.map_cons]
    rw[show beltD x=.tup [.str x.name,.int x.long,.bl x.ring,.lst (x.outs.map .str)] from rfl];simp only[a6f,a7n,a6e,a3b,qq2,qq3,qqf,Nat.reduceAdd,Nat.reduceLT,qq5,qq4,if_true,↓evBind,a6d,a0z,a5g,a4p,a1d,a0d,a0o,qq1,qq0,a0g,a0l,a0j,a0k,a2y,a1i,a2q,and_self,a4e,c1,qqe,a3q,Option.join_some,b9k,c2,if_false,a7h,a1a,e1,a1b]
   |false=>
    obtain⟨b3,b4,b5,b6,b7,e⟩:=a8s b hd bs ks (some (.frz (.str x.name))) (some (.frz (.int x.long))) (some (.frz (.bl x.ring))) (some (.frz (.lst (x.outs.map .str)))) a7 (by omega)
    refine⟨b3,b4,b5,b6,b7,?_⟩;rw[List.foldl_cons,show stepF b ks x=ks by unfold stepF;rw[c1,c2,Bool.false_or,if_neg Bool.false_ne_true],<-e,List.map_cons]
    rw[show beltD x=.tup [.str x.name,.int x.long,.bl x.ring,.lst (x.outs.map .str)] from rfl];simp only[a6f,a7n,a6e,a3b,qq2,qq3,qqf,Nat.reduceAdd,Nat.reduceLT,qq5,qq4,if_true,↓evBind,a6d,a0z,a5g,a4p,a1d,a0d,a0o,qq1,qq0,a0g,a0l,a0j,a0k,a2y,a1i,a2q,and_self,a4e,c1,qqe,a3q,Option.join_some,b9k,c2,if_false,a7h,a1a,a1b]
theorem b7e(ks:List Str)(o:O)(ho:∀x,oInG false [.frz (.str x),o]=some (.frz (.bl (ks.contains x))))(hv:gVar 1=gVar 1):∀(xs acc:List Str) (a:Option O),acc.length+xs.length < 1000000->(∀Γ0:Option O,∃r,gVar 1 [Γ0,some o]=some (r,[Γ0,some o])/\seeR [Γ0,some o] r=some o)->
  ∃a',compLoop (a1g 0) (gT (gBin (oInG false) (gVar 0) (gVar 1))) (gVar 0) (xs.map D.str) [a,some o] (acc.map fS)=some ((acc++xs.filter fun x=>ks.contains x).map fS,[a',some o])
 |[],acc,a,_,_=>⟨a,by rw[List.map_nil,c6z,List.filter_nil,List.append_nil]⟩
 |x::xs,acc,a,h,hg=>by
  rw[List.length_cons] at h;have hl:(acc.map fS).length < 1000000:=by rw[List.length_map];omega
  obtain⟨r,r1,r2⟩:=hg (some (.frz (.str x)));have v0:gVar 0 [some (.frz (.str x)),some o]=some (.own (.frz (.str x)),[some (.frz (.str x)),some o]):=rfl;cases hc:ks.contains x with
  |true=>
   obtain⟨a',e⟩:=b7e ks o ho hv xs (acc++[x]) (some (fS x)) (by rw[List.length_append,List.length_singleton];omega) hg
   refine⟨a',?_⟩;rw[List.filter_cons,if_pos hc,show acc++x::(xs.filter fun o=>ks.contains o)=acc++[x]++(xs.filter fun o=>ks.contains o) by simp]
   rw[<-e,List.map_append];simp only[↓evBind,↓evMap,qq6,qq7,c1x,a3b,qq2,qq3,Nat.reduceAdd,Nat.reduceLT,if_true,qq4,Option.bind_some,a4p,a1d,a0d,a0g,v0,r1,a0l,a0k,a0j,r2,ho,hc,a1e,a1c,hl]
  |false=>
   obtain⟨a',e⟩:=b7e ks o ho hv xs acc (some (fS x)) (by omega) hg
   refine⟨a',?_⟩;rw[List.filter_cons,if_neg (by rw[hc];exact Bool.false_ne_true)]
   rw[<-e];simp only[↓evBind,↓evMap,qq6,qq7,c1x,a3b,qq2,qq3,Nat.reduceAdd,Nat.reduceLT,if_true,qq4,Option.bind_some,a4p,a1d,a0d,a0g,v0,r1,a0l,a0k,a0j,r2,ho,hc,a1e,a1c,hl,qqe,if_false]
def a5r(bs:List Belt)(b:Str):List Str:=bs.foldl (stepF b) []
theorem c8x(h:House)(b:Str)(sm:SmallH h):b0t [.frz (a3j h),fS b]=some (.lst (((h.belts.map Belt.name++h.carts).filter fun x=>(a5r h.belts b).contains x).map fS),[none,none]):=by
 have hb:=sm.bl;have hc:=sm.ct;obtain⟨b3,b4,b5,b6,b7,e1⟩:=a8s b (a3j h) h.belts [] none none none none none (by have:=sm.ou;rw[List.length_nil];omega)
 have e2:=c8w h.belts (by omega)
 obtain⟨a',e3⟩:=b7e (a5r h.belts b) (.dct (kd (a5r h.belts b))) (fun x=>b9k false x _) rfl (h.belts.map Belt.name++h.carts) [] none (by rw[List.length_nil,List.length_append,List.length_map];omega) (fun Γ0=>⟨.var 1,rfl,rfl⟩)
 rw[List.map_nil,List.nil_append] at e3;have c1:(h.belts.length+h.carts.length<=1000000)=True:=eq_true (by omega)
 have kd0:kd []=[]:=rfl;unfold b0t b4e;unfold a5r at *;rw[kd0] at e1;unfold a3j hT at *;simp only[a1v,qq6,qq7,qq2,qq3,qqf,Nat.reduceAdd,Nat.reduceSub,qq9,qq8,qqb,qqc,a0p,a1p,a8p,↓evBind,Nat.reduceLT,qq5,qq4,if_true,a7h,a1a,a1d,a0d,a0o,qq0,a2x,a0g,a0l,a0j,a0k,a3c,b5i,a5m,↓evMap,a1i,e1,a2t,b3l,c6y,a1f,a0x,a0w,e2,a2c,a2b,b0g,b2l,b0d,d6v,List.length_map,c1,<-List.map_append,a4j,a4z,d1t,qq1,Option.join_some,b0i,e3,List.drop_succ_cons,List.drop_zero,d1u,b0j,a4d,qqa,qqd,a3h,a3g]
inductive RR (bs:List Belt) (outs:List Str):Str->Prop
 |base {n:Str}:n∈outs->RR bs outs n
 |step {m n:Str} {b:Belt}:RR bs outs m->b∈bs->b.name=m->n∈b.outs->RR bs outs n
theorem mem_fold{outs:List Str}:∀{ks:List Str} {n:Str},n∈outs.foldl addS ks↔n∈outs\/n∈ks:=by
 induction outs with
 |nil=>intro ks n;simp
 |cons o outs ih=>
  intro ks n;rw[List.foldl_cons,ih,d2o,List.mem_cons];constructor
  ·rintro(h|h|h)
   ·exact .inl (.inr h)
   ·exact .inl (.inl h)
   ·exact .inr h
  ·rintro((h|h)|h)
   ·exact .inr (.inl h)
   ·exact .inl h
   ·exact .inr (.inr h)
theorem c8y{b:Str}{x:Belt}{n:Str}(h:n∈ks):n∈stepF b ks x:=by
 unfold stepF;split
 ·exact mem_fold.mpr (.inr h)
 ·exact h
theorem c8z{b:Str}{bs:List Belt}:∀{ks:List Str} {n:Str},n∈ks->n∈bs.foldl (stepF b) ks:=by
 induction bs with
 |nil=>intro ks n h;exact h
 |cons x bs ih=>intro ks n h;exact ih (c8y h)
theorem b4k{carts:List Str}{b:Str}:∀{bs:List Belt} {ks:List Str} {n:Str},Fwd carts bs->n∈bs.foldl (stepF b) ks->n∈ks\/n∈bs.tail.map Belt.name\/n∈carts
 |[],ks,n,_,h=>.inl h
 |x::bs,ks,n,f,h=>by
  rcases b4k f.2.2.2 h with z|z|z
  ·unfold stepF at z;split at z
   ·rcases mem_fold.mp z with z|z
    ·rcases f.1 n z with z|z
     ·exact .inr (.inl z)
     ·exact .inr (.inr z)
    ·exact .inl z
   ·exact .inl z
  ·refine .inr (.inl ?_);cases bs with
   |nil=>exact z
   |cons y bs=>exact List.mem_cons_of_mem _ z
  ·exact .inr (.inr z)
theorem a8n{carts:List Str}{b:Str}:∀{bs:List Belt} {ks:List Str},Fwd carts bs->∀x∈bs,(x.name=b\/x.name∈bs.foldl (stepF b) ks)->∀o∈x.outs,o∈bs.foldl (stepF b) ks
 |y::bs,ks,f,x,hx,hn,o,ho=>by
  rcases List.mem_cons.mp hx with rfl|hx
  ·have h1:(x.name == b || ks.contains x.name)=true:=by
    rcases hn with hn|hn
    ·rw[hn,beq_self_eq_true,Bool.true_or]
    ·rcases b4k (b:=b) f hn with z|z|z
     ·rw[List.contains_iff_mem.mpr z,Bool.or_true]
     ·exact absurd z f.2.1
     ·exact absurd z f.2.2.1
   show o∈bs.foldl (stepF b) (stepF b ks x);refine c8z ?_;unfold stepF;rw[if_pos h1];exact mem_fold.mpr (.inl ho)
  ·exact a8n (ks:=stepF b ks y) f.2.2.2 x hx hn o ho
theorem c3a{bs0:List Belt}{b:Belt}(hb:b∈bs0)(hu:∀x∈bs0,x.name=b.name->x=b):∀{bs:List Belt} {ks:List Str},(∀x∈bs,x∈bs0)->(∀n∈ks,RR bs0 b.outs n)->∀n∈bs.foldl (stepF b.name) ks,RR bs0 b.outs n
 |[],ks,_,h,n,hn=>h n hn
 |x::bs,ks,hs,h,n,hn=>c3a hb hu (fun y hy=>hs y (List.mem_cons_of_mem _ hy)) (fun m hm=>by
   unfold stepF at hm;split at hm
   ·rename_i hc
    rcases mem_fold.mp hm with z|z
    ·rw[Bool.or_eq_true,beq_iff_eq,List.contains_iff_mem] at hc;rcases hc with hc|hc
     ·rw[hu x (hs x List.mem_cons_self) hc] at z;exact .base z
     ·exact .step (h _ hc) (hs x List.mem_cons_self) rfl z
    ·exact h m z
   ·exact h m hm) n hn
theorem c9a(f:Fwd h.carts h.belts)(hb:b∈h.belts)(n:Str):n∈a5r h.belts b.name↔RR h.belts b.outs n:=by
 unfold a5r;constructor
 ·exact c3a hb (fun x hx e=>c2t f x hx b hb e) (fun _ m=>m) (fun _ m=>by cases m) n
 ·intro r
  induction r with
  |base m=>exact a8n f b hb (.inl rfl) _ m
  |step r hx hn hm ih=>exact a8n f _ hx (.inr (by rw[hn];exact ih)) _ hm
def BadN(ks:List Str)(d:D):Prop:=noN d\/∃x,d=.str x/\isN x/\x∈ks
theorem c9b(x:Str)(ks:List Str)(e1:isN x)(hx:x∉ks)(hl:ks.length < 1000):a3z [fS x,.dct (kd ks)]=some (.frz .non,[none,some (.dct (kd (ks++[x])))]):=by
 have hc:ks.contains x=false:=by rw[<-Bool.not_eq_true,List.contains_iff_mem];exact hx
 have e2:=b9k false x ks;rw[hc,if_neg Bool.false_ne_true] at e2;have e3:=d4f ks x (by omega)
 have ea:addS ks x=ks++[x]:=by unfold addS;rw[hc,if_neg Bool.false_ne_true]
 rw[ea] at e3;generalize kd (ks++[x])=k2 at *;generalize kd ks=k1 at *;unfold a3z a6o;simp only[a1v,qq6,qq7,qq2,qq3,qqf,Nat.reduceAdd,Nat.reduceSub,qq8,List.append_nil,a0p,a0z,a5g,b1i,a4y,a5n,a0d,a0o,qq0,↓evBind,a0g,a0l,a0j,a0k,a3d,a1i,a2v,e1,a7c,a4q,Bool.not_true,qqe,a4p,a1d,qq1,a3q,Option.join_some,e2,if_false,a6g,a2x,a1b,a5f,e3,qq5,qq4,c7e,qqa,qqd,a3h,b0f,a3g,if_true]
theorem b9l(d:D)(ks:List Str)(h:BadN ks d):a3z [.frz d,.dct (kd ks)]=some (.frz (.exc 37 none),[none,some (.dct (kd ks))]):=by
 rcases h with e1|⟨x,rfl,e1,hx⟩
 ·generalize kd ks=k1 at *;unfold a3z a6o;simp only[a1v,qq6,qq7,qq2,qq3,qqf,Nat.reduceAdd,Nat.reduceSub,qq8,List.append_nil,a0p,a0z,a5g,b1i,a4y,a5n,a0d,a0o,qq0,↓evBind,a0g,a0l,a0j,a0k,a3d,a1i,a2v,e1,a7c,a4q,Bool.not_false,a4p,a1d,qq1,a3q,Option.join_some,if_true,a6g,a2x,a1b,a4d,qqa,qqd,a3h,b0f,a3g]
 ·have e2:=b9k false x ks;rw[List.contains_iff_mem.mpr hx,if_neg Bool.false_ne_true] at e2;generalize kd ks=k1 at *;unfold a3z a6o;simp only[a1v,qq6,qq7,qq2,qq3,qqf,Nat.reduceAdd,Nat.reduceSub,qq8,List.append_nil,a0p,a0z,a5g,b1i,a4y,a5n,a0d,a0o,qq0,↓evBind,a0g,a0l,a0j,a0k,a3d,a1i,a2v,e1,a7c,a4q,Bool.not_true,qqe,a4p,a1d,qq1,a3q,Option.join_some,e2,if_false,a6g,a2x,a1b,if_true,a4d,qqa,qqd,a3h,b0f,a3g]
def cartB:GS:=a7d (gCall a3z (a0c (gVar 2) (a0c (gVar 1) gaNil)))
theorem b9m{a:Option O}{q:List Str}(e0:isN x)(hx:x∉q)(hq:q.length < 1000):((a1g 2) (D.str x) [s0,some (.dct (kd q)),a]).bind cartB=some (.nx,[s0,some (.dct (kd (q++[x]))),some (fS x)]):=by
 have e1:=c9b x q e0 hx hq;generalize kd (q++[x])=k2 at *;generalize kd q=k1 at *;unfold cartB;simp only[a3b,qq2,qq3,qqf,Nat.reduceAdd,Nat.reduceLT,qq5,qq4,if_true,↓evBind,a4m,a1f,a0d,a0o,qq1,qq0,a0g,a0x,a1m,a0w,e1,a2c,a4c,a2b,a7q]
theorem d6z(cn:cs.Nodup)(cm:∀c∈cs,isN c)(c0:0 < cs.length)(ct:cs.length<=100):a1z [fL cs,.dct (kd [])]=some (.frz .non,[none,some (.dct (kd cs))]):=by
 obtain⟨Γ',e,a,rfl⟩:=a7o (g:=a1g 2) (f:=cartB) D.str (fun pre Γ=>∃a,Γ=[some (fL cs),some (.dct (kd pre)),a]) cs [] [some (fL cs),some (.dct (kd [])),none] ⟨_,rfl⟩ (by
  rintro q x post Γ eq ⟨a,rfl⟩;rw[List.nil_append] at *;have hx:x∉q:=fun z=>by
   rw[eq] at cn;exact(List.nodup_append.mp cn).2.2 x z x (.head _) rfl
  exact⟨_,b9m (cm x (by rw[eq];simp)) hx (by have:=congrArg List.length eq;simp at this;omega),_,rfl⟩)
 rw[List.nil_append] at e;have ht:(cs.map D.str).isEmpty=false:=by
  cases hcs:cs with
  |nil=>rw[hcs] at c0;simp at c0
  |cons _ _=>rfl
 unfold a1z a6h;unfold cartB at e;generalize kd cs=k2 at *;generalize kd []=k1 at *;simp only[a1v,qq6,qq7,qq2,qq3,qqf,Nat.reduceAdd,Nat.reduceSub,qq9,qq8,qqb,qqc,a0p,a7h,a1a,a0o,qq0,↓evBind,a1i,e,a0z,b1i,a4y,a0j,c0l,ht,Bool.not_false,Bool.not_true,qqe,a6g,a2x,a1b,if_false,c7e,qqa,qqd,a3h,b0f,a3g,if_true]
theorem c4m{d:D}{rest:List D}(cn:pre.Nodup)(cm:∀c∈pre,isN c)(ct:pre.length<=100)(hb:BadN pre d):a1z [.frz (.lst (pre.map .str++d::rest)),.dct (kd [])]=some (.frz (.exc 37 none),[none,some (.dct (kd pre))]):=by
 obtain⟨Γ',e,a,rfl⟩:=a8l (g:=a1g 2) (f:=cartB) D.str (fun q Γ=>∃a,Γ=[some (.frz (.lst (pre.map .str++d::rest))),some (.dct (kd q)),a]) (.frz (.exc 37 none)) (fun Γ=>∃a,Γ=[some (.frz (.lst (pre.map .str++d::rest))),some (.dct (kd pre)),a]) d rest pre [] [some (.frz (.lst (pre.map .str++d::rest))),some (.dct (kd [])),none] ⟨_,rfl⟩ (by
  rintro q x post Γ eq ⟨a,rfl⟩;rw[List.nil_append] at *;have hx:x∉q:=fun z=>by
   rw[eq] at cn;exact(List.nodup_append.mp cn).2.2 x z x (.head _) rfl
  exact⟨_,b9m (cm x (by rw[eq];simp)) hx (by have:=congrArg List.length eq;simp at this;omega),_,rfl⟩) (by
  rintro Γ ⟨a,rfl⟩;rw[List.nil_append] at *;have e1:=b9l d pre hb;refine⟨[some (.frz (.lst (pre.map .str++d::rest))),some (.dct (kd pre)),some (.frz d)],?_,_,rfl⟩;generalize kd pre=k1 at *;unfold cartB;simp only[a3b,qq2,qq3,qqf,Nat.reduceAdd,Nat.reduceLT,qq5,qq4,if_true,↓evBind,a4m,a1f,a0d,a0o,qq1,qq0,a0g,a0x,a1m,a0w,e1,a2c,a4c,a2b,a5y])
 unfold a1z a6h;unfold cartB at e;generalize kd pre=k2 at *;generalize kd []=k1 at *;generalize pre.map D.str++d::rest=l at *;simp only[a1v,qq6,qq7,qq2,qq3,qqf,Nat.reduceAdd,Nat.reduceSub,qq9,qq8,qqb,qqc,a0p,a7h,a1a,a0o,qq0,↓evBind,a1i,e,a4d,qqa,qqd,a3h,b0f,a3g,if_true]
def encP(p:Belt×List D):WB:=⟨.str p.1.name,p.1.long,p.1.ring,p.2⟩
abbrev eP(p:Belt×List D):D:=wbT (encP p)
def least(r:Bool):Int:=if r=true then 2 else 1
theorem b9n{a2 a3 a4 a5 a6:Option O}{p:Belt×List D}(e0:isN p.1.name)(hx:p.1.name∉ks)(hq:ks.length < 1000)(hg:1<=p.1.long/\(p.1.ring=true->2<=p.1.long)):(beltG (eP p) [s0,some (.dct (kd ks)),a2,a3,a4,a5,a6]).bind beltC=some (.nx,[s0,some (.dct (kd (ks++[p.1.name]))),some (fS p.1.name),some (.frz (.int p.1.long)),some (.frz (.bl p.1.ring)),some (.frz (.lst p.2)),some (.frz (.int (least p.1.ring)))]):=by
 have e1:=c9b p.1.name ks e0 hx hq;generalize kd (ks++[p.1.name])=k2 at *;generalize kd ks=k1 at *;rw[show eP p=.tup [.str p.1.name,.int p.1.long,.bl p.1.ring,.lst p.2] from rfl];unfold beltC least;cases hr:p.1.ring with
 |true=>
  have c2:decide (p.1.long < 2)=false:=by have:=hg.2 hr;simp;omega
  simp only[a7n,a6e,a3b,qq2,qq3,qqf,Nat.reduceAdd,Nat.reduceLT,qq5,qq4,if_true,↓evBind,a6d,a0p,a4m,a1f,a0d,a0o,qq1,qq0,a0g,a0x,a1m,a0w,e1,a2c,a4c,a2b,a7q,a1p,a1a,c6x,a4y,a0j,a4q,a2x,a1i,a0z,a4p,a1d,a0l,a0k,a2n,c2,qqe,a1b,if_false]
 |false=>
  have c2:decide (p.1.long < 1)=false:=by have:=hg.1;simp;omega
  simp only[a7n,a6e,a3b,qq2,qq3,qqf,Nat.reduceAdd,Nat.reduceLT,qq5,qq4,if_true,↓evBind,a6d,a0p,a4m,a1f,a0d,a0o,qq1,qq0,a0g,a0x,a1m,a0w,e1,a2c,a4c,a2b,a7q,a1p,a1a,c6x,a4y,a0j,a4q,qqe,a2x,if_false,a1i,a0z,a4p,a1d,a0l,a0k,a2n,c2,a1b]
structure NmOk (gc:List Str) (bs:List Belt):Prop where
 nd:(gc++bs.map Belt.name).Nodup
 nm:∀b∈bs,isN b.name
 lg:∀b∈bs,1<=b.long/\(b.ring=true->2<=b.long)
 ln:gc.length+bs.length < 1000
theorem NmOk.at{gc:List Str}{q:List (Belt×List D)}{x:Belt×List D}{post:List (Belt×List D)}(h:NmOk gc ((q++x::post).map Prod.fst)):isN x.1.name/\x.1.name∉gc++(q.map Prod.fst).map Belt.name/\(gc++(q.map Prod.fst).map Belt.name).length < 1000/\(1<=x.1.long/\(x.1.ring=true->2<=x.1.long)):=by
 have hm:x.1∈(q++x::post).map Prod.fst:=by simp
 refine⟨h.nm _ hm,fun z=>?_,?_,h.lg _ hm⟩
 ·have:=h.nd;rw[List.map_append,List.map_append,<-List.append_assoc] at this;exact(List.nodup_append.mp this).2.2 _ z _ (by rw[List.map_cons,List.map_cons];exact .head _) rfl
 ·have:=h.ln;simp at this ⊢;omega
theorem c9c(h:NmOk gc (q.map Prod.fst)):a1u [.frz (.lst (q.map eP)),.dct (kd gc)]=some (.frz .non,[none,some (.dct (kd (gc++(q.map Prod.fst).map Belt.name)))]):=by
 obtain⟨Γ',e,a2,a3,a4,a5,a6,rfl⟩:=a7o (g:=beltG) (f:=beltC) eP (fun pre Γ=>∃a2 a3 a4 a5 a6,Γ=[some (.frz (.lst (q.map eP))),some (.dct (kd (gc++(pre.map Prod.fst).map Belt.name))),a2,a3,a4,a5,a6]) q [] [some (.frz (.lst (q.map eP))),some (.dct (kd gc)),none,none,none,none,none] ⟨none,none,none,none,none,by rw[List.map_nil,List.map_nil,List.append_nil]⟩ (by
  rintro pre x post Γ eq ⟨a2,a3,a4,a5,a6,rfl⟩;rw[List.nil_append] at *;rw[eq] at h;obtain⟨h1,h2,h3,h4⟩:=h.at;have:=b9n (s0:=some (.frz (.lst (q.map eP)))) (a2:=a2) (a3:=a3) (a4:=a4) (a5:=a5) (a6:=a6) h1 h2 h3 h4;exact⟨_,this,_,_,_,_,_,by rw[List.map_append,List.map_append,List.append_assoc];rfl⟩)
 rw[List.nil_append] at e;unfold a1u;unfold a6i;generalize kd (gc++(q.map Prod.fst).map Belt.name)=k2 at *;generalize kd gc=k1 at *;generalize q.map eP=bs at *;simp only[a1v,qq6,qq7,qq2,qq3,qqf,Nat.reduceAdd,Nat.reduceSub,qq9,qq8,qqb,qqc,a7h,a1a,a0o,qq0,↓evBind,a1i,e,c7e,qqa,qqd,a3h,b0f,a3g,if_true]
theorem b4l{z:D}{rest:List D}{k2:List (TK×O)}(h:NmOk gc (q.map Prod.fst))
  (hz:∀s0 a2 a3 a4 a5 a6,∃b2 b3 b4 b5 b6,(beltG z [s0,some (.dct (kd (gc++(q.map Prod.fst).map Belt.name))),a2,a3,a4,a5,a6]).bind beltC=some (.rt (.frz (.exc C none)),[s0,some (.dct k2),b2,b3,b4,b5,b6])) :
  a1u [.frz (.lst (q.map eP++z::rest)),.dct (kd gc)]=some (.frz (.exc C none),[none,some (.dct k2)]):=by
 obtain⟨Γ',e,a2,a3,a4,a5,a6,rfl⟩:=a8l (g:=beltG) (f:=beltC) eP (fun pre Γ=>∃a2 a3 a4 a5 a6,Γ=[some (.frz (.lst (q.map eP++z::rest))),some (.dct (kd (gc++(pre.map Prod.fst).map Belt.name))),a2,a3,a4,a5,a6]) (.frz (.exc C none)) (fun Γ=>∃a2 a3 a4 a5 a6,Γ=[some (.frz (.lst (q.map eP++z::rest))),some (.dct k2),a2,a3,a4,a5,a6]) z rest q [] [some (.frz (.lst (q.map eP++z::rest))),some (.dct (kd gc)),none,none,none,none,none] ⟨none,none,none,none,none,by rw[List.map_nil,List.map_nil,List.append_nil]⟩ (by
  rintro pre x post Γ eq ⟨a2,a3,a4,a5,a6,rfl⟩;rw[List.nil_append] at *;rw[eq] at h;obtain⟨h1,h2,h3,h4⟩:=h.at;have:=b9n (s0:=some (.frz (.lst (q.map eP++z::rest)))) (a2:=a2) (a3:=a3) (a4:=a4) (a5:=a5) (a6:=a6) h1 h2 h3 h4;exact⟨_,this,_,_,_,_,_,by rw[List.map_append,List.map_append,List.append_assoc];rfl⟩) (by
  rintro Γ ⟨a2,a3,a4,a5,a6,rfl⟩;rw[List.nil_append];obtain⟨b2,b3,b4,b5,b6,e⟩:=hz (some (.frz (.lst (q.map eP++z::rest)))) a2 a3 a4 a5 a6;exact⟨_,e,_,_,_,_,_,rfl⟩)
 unfold a1u;unfold a6i;generalize kd gc=k1 at *;generalize q.map eP++z::rest=bs at *;simp only[a1v,qq6,qq7,qq2,qq3,qqf,Nat.reduceAdd,Nat.reduceSub,qq9,qq8,qqb,qqc,a7h,a1a,a0o,qq0,↓evBind,a1i,e,a4d,qqa,qqd,a3h,b0f,a3g,if_true]
theorem c0p{z:WB}{rest:List D}(h:NmOk gc (q.map Prod.fst))(hz:BadN (gc++(q.map Prod.fst).map Belt.name) z.n):
  a1u [.frz (.lst (q.map eP++wbT z::rest)),.dct (kd gc)]=some (.frz (.exc 37 none),[none,some (.dct (kd (gc++(q.map Prod.fst).map Belt.name)))]):=by
 refine b4l h fun s0 a2 a3 a4 a5 a6=>?_
 have e1:=b9l z.n _ hz;generalize kd (gc++(q.map Prod.fst).map Belt.name)=k1 at *;refine⟨some (.frz z.n),some (.frz (.int z.l)),some (.frz (.bl z.r)),some (.frz (.lst z.os)),a6,?_⟩;unfold wbT beltC;simp only[a7n,a6e,a3b,qq2,qq3,qqf,Nat.reduceAdd,Nat.reduceLT,qq5,qq4,if_true,↓evBind,a6d,a0p,a4m,a1f,a0d,a0o,qq1,qq0,a0g,a0x,a1m,a0w,e1,a2c,a4c,a2b,a5y]
theorem fmt12:oFmt [.frz (.int 1)]=some (fS "1")/\oFmt [.frz (.int 2)]=some (fS "2"):=⟨by kernel_rfl,by kernel_rfl⟩
theorem c0q{z:WB}{rest:List D}(h:NmOk gc (q.map Prod.fst))(hn:z.n=.str x)(hx:isN x)(hm:x∉gc++(q.map Prod.fst).map Belt.name)(hq:(gc++(q.map Prod.fst).map Belt.name).length < 1000)(xl:x.length<=20)(hz:z.l < least z.r):
  a1u [.frz (.lst (q.map eP++wbT z::rest)),.dct (kd gc)]=some (.frz (.exc 49 none),[none,some (.dct (kd (gc++(q.map Prod.fst).map Belt.name++[x])))]):=by
 refine b4l h fun s0 a2 a3 a4 a5 a6=>?_
 have e1:=c9b x _ hx hm hq;generalize kd (gc++(q.map Prod.fst).map Belt.name++[x])=k2 at *;generalize kd (gc++(q.map Prod.fst).map Belt.name)=k1 at *;refine⟨some (fS x),some (.frz (.int z.l)),some (.frz (.bl z.r)),some (.frz (.lst z.os)),some (.frz (.int (least z.r))),?_⟩;have c2:(x.length<=1000000)=True:=eq_true (by omega)
 have c3:∀s:Str,s.length=1->((Str.ofString "belt "++(x++(Str.ofString " has fewer than "++(s++(Str.ofString " cells"++Str.empty))))).length<=1000000)=True:=fun s hs=>eq_true (by
  have a1:(Str.ofString "belt ").length=5:=by decide +kernel
  have a2:(Str.ofString " has fewer than ").length=16:=by decide +kernel
  have a3:(Str.ofString " cells").length=6:=by decide +kernel
  have a4:Str.empty.length=0:=rfl;rw[Str.length_append,Str.length_append,Str.length_append,Str.length_append,Str.length_append,a1,a2,a3,a4,hs];omega)
 obtain⟨f1,f2⟩:=fmt12;unfold wbT beltC lessB;unfold least at hz ⊢;cases hr:z.r with
 |true=>
  rw[hr] at hz;have c4:decide (z.l < 2)=true:=by simpa using hz
  have c5:=c3 "2" (by decide +kernel)
  simp only[hn,a7n,a6e,a3b,qq2,qq3,qqf,Nat.reduceAdd,Nat.reduceLT,qq5,qq4,if_true,↓evBind,a6d,a0p,a4m,a1f,a0d,a0o,qq1,qq0,a0g,a0x,a1m,a0w,e1,a2c,a4c,a2b,a7q,a1p,a1a,c6x,a4y,a0j,a4q,a2x,a1i,a0z,a4p,a1d,a0l,a0k,a2n,c4,a6g,a8e,b0l,b3o,c2,f2,b6m,c5,a1b]
 |false=>
  rw[hr] at hz;have c4:decide (z.l < 1)=true:=by simpa using hz
  have c5:=c3 "1" (by decide +kernel)
  simp only[hn,a7n,a6e,a3b,qq2,qq3,qqf,Nat.reduceAdd,Nat.reduceLT,qq5,qq4,if_true,↓evBind,a6d,a0p,a4m,a1f,a0d,a0o,qq1,qq0,a0g,a0x,a1m,a0w,e1,a2c,a4c,a2b,a7q,a1p,a1a,c6x,a4y,a0j,a4q,qqe,a2x,if_false,a1i,a0z,a4p,a1d,a0l,a0k,a2n,c4,a6g,a8e,b0l,b3o,c2,f1,b6m,c5,a1b]
theorem b2b{x z:Str}:∀{ys:List Str} {j:Nat},ys[j]?=some z->x∈ys->x≠z->x∈ys.eraseIdx j
 |y::ys,0,e,hx,hne=>by
  rw[List.getElem?_cons_zero] at e;cases e;rcases List.mem_cons.mp hx with rfl|hx
  ·exact absurd rfl hne
  ·exact hx
 |y::ys,j+1,e,hx,hne=>by
  rw[List.getElem?_cons_succ] at e;show x∈y::ys.eraseIdx j;rcases List.mem_cons.mp hx with rfl|hx
  ·exact .head _
  ·exact .tail _ (b2b e hx hne)
 |[],_,_,hx,_=>by cases hx
theorem b2c{z:Str}:∀{ys:List Str} {j:Nat},ys.Nodup->ys[j]?=some z->z∉ys.eraseIdx j
 |y::ys,0,nd,e,h=>by
  rw[List.getElem?_cons_zero] at e;cases e;exact(List.nodup_cons.mp nd).1 h
 |y::ys,j+1,nd,e,h=>by
  rw[List.getElem?_cons_succ] at e;obtain⟨n1,n2⟩:=List.nodup_cons.mp nd;rcases List.mem_cons.mp h with rfl|h
  ·exact n1 (List.mem_of_getElem? e)
  ·exact b2c n2 e h
theorem c9d{z:Str}(h:z∈ys):∃j,findS ys z=some j:=by
 cases q:findS ys z with
 |some j=>exact⟨j,rfl⟩
 |none=>
  unfold findS at q;rw[List.findIdx?_eq_none_iff] at q;have:=q z h;simp at this
theorem c3b(w:D):∀xs:List Str,((xs.map D.str).any fun z=>eqD z w)=xs.any fun y=>eqD (.str y) w
 |[]=>rfl
 |x::xs=>by rw[List.map_cons,List.any_cons,c3b w xs,List.any_cons]
theorem d7a(w:D)(hw:okD 40 w=true)(xs:List Str):oInG true [.frz w,.lst (xs.map fS)]=some (.frz (.bl (!(xs.any fun y=>eqD (.str y) w)))):=by
 have e:seqO (O.lst (xs.map fS)).d=some (xs.map D.str):=by rw[b4i];show some (O.dl _)=_;rw[a8u]
 have k:((seqO (O.lst (xs.map fS)).d).bind fun ds=>if okD 40 (O.frz w).d=true/\ds.all (okD 40)=true then some (O.frz (.bl (if true=true then !ds.any fun z=>eqD z (O.frz w).d else ds.any fun z=>eqD z (O.frz w).d))) else none)=some (.frz (.bl (!(xs.any fun y=>eqD (.str y) w)))):=by
  rw[e,Option.bind_some,if_pos ⟨hw,c0o 40 xs⟩,if_pos rfl,<-c3b];rfl
 unfold oInG;cases w <;> exact k
theorem c9e(tl:t.length<=100)(nl:nm.length<=20)(s0 s1 s2 s3 s5 s6 s7:Option O):noO t [s0,s1,s2,s3,some (fS nm),s5,s6,s7]=some (.rt (.frz (.exc 61 none)),[s0,s1,s2,s3,some (fS nm),s5,s6,s7]):=by
 have c1:(nm.length<=1000000)=True:=eq_true (by omega)
 have c3:((Str.ofString "belt "++(nm++(t++Str.empty))).length<=1000000)=True:=eq_true (by
  have a1:(Str.ofString "belt ").length=5:=by decide +kernel
  have a3:Str.empty.length=0:=rfl;rw[Str.length_append,Str.length_append,Str.length_append,a1,a3];omega)
 unfold noO;simp only[a6g,a8e,b0l,a2x,↓evBind,a1d,a0d,a0o,qq1,qq0,a0g,a0l,a0j,a0k,b3o,c1,if_true,b6m,c3]
theorem d2q(hx:x∈L)(s0 s1 s2 s3 s4 s5 a7:Option O):∃j,L[j]?=some x/\(a1g 7 (D.str x) [s0,s1,s2,s3,s4,s5,some (.lst (L.map fS)),a7]).bind outC=some (.nx,[s0,s1,s2,s3,s4,s5,some (.lst ((L.eraseIdx j).map fS)),some (fS x)]):=by
 obtain⟨j,hj⟩:=c9d hx;have e1:=c8r true x L;rw[List.contains_iff_mem.mpr hx,if_pos rfl] at e1;have e2:b3r (.lst (L.map fS)) [.frz (.str x)]=some (.lst ((L.eraseIdx j).map fS),.frz .non):=(c8b L x).trans (by rw[hj];rfl)
 refine⟨j,(b5l hj).1,?_⟩;generalize(L.eraseIdx j).map fS=l2 at *;generalize L.map fS=l1 at *;unfold outC;simp only[a3b,qq2,qq3,qqf,Nat.reduceAdd,Nat.reduceLT,qq5,qq4,if_true,↓evBind,a0p,a0z,a4p,a1d,a0d,a0o,qq1,qq0,a0g,a0l,a0j,a3q,Option.join_some,a0k,e1,Bool.not_true,qqe,a1b,if_false,a2h,a4k,a1e,a1c,e2]
structure OutOk (L outs:List Str):Prop where
 nd:outs.Nodup
 hs:∀o∈outs,o∈L
def OP(L outs:List Str)(s0 s1 s2 s3 s4 s5:Option O)(pre:List Str)(Γ:Gm):Prop:=∃(L':List Str) (b7:Option O),Γ=[s0,s1,s2,s3,s4,s5,some (.lst (L'.map fS)),b7]/\(∀o∈outs,o∉pre->o∈L')/\L'.Nodup/\∀y∈L',y∈L/\y∉pre
theorem c9f{outs q post:List Str}{s1 s2 s3 s4 s5:Option O}(h:OutOk L outs)(eq:outs=q++x::post)(p:OP L outs s0 s1 s2 s3 s4 s5 q Γ):∃Γ2,(a1g 7 (D.str x) Γ).bind outC=some (.nx,Γ2)/\OP L outs s0 s1 s2 s3 s4 s5 (q++[x]) Γ2:=by
 obtain⟨L',b7,rfl,hL,nd,sub⟩:=p;have hxq:x∉q:=fun z=>by
  have:=h.nd;rw[eq] at this;exact(List.nodup_append.mp this).2.2 x z x (.head _) rfl
 obtain⟨j,j1,e⟩:=d2q (hL x (by rw[eq];simp) hxq) s0 s1 s2 s3 s4 s5 b7
 refine⟨_,e,L'.eraseIdx j,_,rfl,fun o ho hq=>?_,nd.sublist (List.eraseIdx_sublist ..),fun y hy=>?_⟩
 ·simp only[List.mem_append,List.mem_singleton,not_or] at hq;exact b2b j1 (hL o ho hq.1) hq.2
 ·have:=sub y ((List.eraseIdx_sublist ..).subset hy);refine⟨this.1,fun z=>?_⟩
  simp only[List.mem_append,List.mem_singleton] at z;rcases z with z|z
  ·exact this.2 z
  ·rw[z] at hy;exact b2c nd j1 hy
theorem d7b{outs:List Str}(h:OutOk L outs)(Ln:L.Nodup)(s0 s1 s2 s3 s4 s5 a7:Option O):∃b6 b7,a2m (a1g 7) outC (outs.map D.str) [s0,s1,s2,s3,s4,s5,some (.lst (L.map fS)),a7]=some (.nx,[s0,s1,s2,s3,s4,s5,b6,b7]):=by
 obtain⟨Γ',e,L',b7,rfl,_⟩:=a7o (g:=a1g 7) (f:=outC) D.str (OP L outs s0 s1 s2 s3 s4 s5) outs [] [s0,s1,s2,s3,s4,s5,some (.lst (L.map fS)),a7] ⟨L,a7,rfl,fun o ho _=>h.hs o ho,Ln,fun y hy=>⟨hy,fun z=>by cases z⟩⟩ (by
  intro q x post Γ eq p;rw[List.nil_append] at *;exact c9f h eq p)
 exact⟨_,b7,e⟩
theorem d2r{w:D}{rest:List D}(h:OutOk L pre)(Ln:L.Nodup)(hw:okD 40 w=true)(hn:∀y∈L,y∉pre->eqD (.str y) w=false)(nl:nm.length<=20)(s0 s1 s2 s3 s5 a7:Option O):
  ∃b6 b7,a2m (a1g 7) outC (pre.map D.str++w::rest) [s0,s1,s2,s3,some (fS nm),s5,some (.lst (L.map fS)),a7]=some (.rt (.frz (.exc 61 none)),[s0,s1,s2,s3,some (fS nm),s5,b6,b7]):=by
 obtain⟨Γ',e,b6,b7,rfl⟩:=a8l (g:=a1g 7) (f:=outC) D.str (OP L pre s0 s1 s2 s3 (some (fS nm)) s5) (.frz (.exc 61 none)) (fun Γ=>∃b6 b7,Γ=[s0,s1,s2,s3,some (fS nm),s5,b6,b7]) w rest pre [] [s0,s1,s2,s3,some (fS nm),s5,some (.lst (L.map fS)),a7] ⟨L,a7,rfl,fun o ho _=>h.hs o ho,Ln,fun y hy=>⟨hy,fun z=>by cases z⟩⟩ (by
  intro q x post Γ eq p;rw[List.nil_append] at *;exact c9f h eq p) (by
  rintro Γ ⟨L',b7,rfl,_,_,sub⟩;rw[List.nil_append] at *;have e1:=d7a w hw L';have z:(L'.any fun y=>eqD (.str y) w)=false:=by
   rw[List.any_eq_false];intro y hy;rw[hn y (sub y hy).1 (sub y hy).2];exact Bool.false_ne_true
  rw[z] at e1;have e2:=c9e (t:=" has an out that is no cart, no belt behind it, or there twice") (nm:=nm) (by decide +kernel) nl s0 s1 s2 s3 s5 (some (.lst (L'.map fS))) (some (.frz w))
  refine⟨[s0,s1,s2,s3,some (fS nm),s5,some (.lst (L'.map fS)),some (.frz w)],?_,_,_,rfl⟩;generalize L'.map fS=l1 at *;unfold outC;generalize noO " has an out that is no cart, no belt behind it, or there twice"=nO at *;simp only[a3b,qq2,qq3,qqf,Nat.reduceAdd,Nat.reduceLT,qq5,qq4,if_true,↓evBind,a0p,a0z,a4p,a1d,a0d,a0o,qq1,qq0,a0g,a0l,a0j,a3q,Option.join_some,a0k,e1,Bool.not_false,e2,a1b])
 exact⟨b6,b7,e⟩
theorem d2s{α:Type}(enc:α->D)(q:List α)(x:α)(post:List α)(i:Int)(hi:i=(q.length:Nat)):slO (.frz (.lst ((q++x::post).map enc))) (some (i+1)) none=some (.lst ((post.map enc).map .frz)):=by
 show some (O.lst ((cutD ((q++x::post).map enc) (some (i+1)) none).map .frz))=_;have:cutD ((q++x::post).map enc) (some (i+1)) none=post.map enc:=by
  unfold cutD;have e4:HT.sIx ((q++x::post).map enc).length 0 (some (i+1))=q.length+1:=by
   unfold HT.sIx;simp only[List.length_map,List.length_append,qq2];rw[if_neg (by omega)]
   omega
  have e5:HT.sIx ((q++x::post).map enc).length ((q++x::post).map enc).length none=((q++x::post).map enc).length:=rfl;have e6:((q++x::post).map enc).drop (q.length+1)=post.map enc:=by
   rw[<-List.map_drop,show q++x::post=(q++[x])++post by simp,List.drop_left' (by simp)]
  rw[e4,e5,e6];exact List.take_of_length_le (by rw[List.length_map,List.length_map,List.length_append,List.length_cons];omega)
 rw[this]
theorem b7f{post:List (Belt×List D)}{x:Belt×List D}(eq:ps=q++x::post)(hi:i=(q.length:Nat))(pl:ps.length<=100)(cl:gc.length<=100)(a2 a3 a4 a5 a6 a7:Option O){r:Fl×Gm}
  (hr:(a0h (gsFor (gVar 5) (a1g 7) outC) (gsIf (gNotT (gTru (gVar 5))) (noO " has no outs") gsNil)) [some (.frz (.lst (ps.map eP))),some (fL gc),some (.frz (.int i)),some (.frz (eP x)),some (fS x.1.name),some (.frz (.lst x.2)),some (.lst (((post.map Prod.fst).map Belt.name++gc).map fS)),a7]=some r) :
  (outG (.tup [.int i,eP x]) [some (.frz (.lst (ps.map eP))),some (fL gc),a2,a3,a4,a5,a6,a7]).bind a9m=some r:=by
 have sl:=d2s eP q x post i hi;rw[<-eq] at sl;have hp:post.length < 1000000:=by have:=congrArg List.length eq;simp at this;omega
 have e1:=c2x (post.map encP) (by rw[List.length_map];exact hp)
 have n1:(post.map encP).map WB.n=((post.map Prod.fst).map Belt.name).map D.str:=by rw[List.map_map,List.map_map,List.map_map];rfl
 rw[n1,List.map_map (g:=wbT)] at e1;have e1:a3s [.frz (.lst (post.map eP))]=some (.lst ((((post.map Prod.fst).map Belt.name).map D.str).map .frz),[none]):=e1;have fz:=a6c (((post.map Prod.fst).map Belt.name).map D.str);have c1:((((post.map Prod.fst).map Belt.name).map D.str).length+(gc.map D.str).length<=1000000)=True:=eq_true (by simp only[List.length_map];have:=congrArg List.length eq;simp at this;omega)
 have en:(((post.map Prod.fst).map Belt.name).map D.str++gc.map D.str).map O.frz=((post.map Prod.fst).map Belt.name++gc).map fS:=by rw[<-List.map_append,<-b4i]
 have il:=e1b x.2;have i0:=xb0 (encP x);have i3:=xb3 (encP x);have i0:oIx1 (.frz (eP x)) (.int 0)=some (fS x.1.name):=i0;have i3:oIx1 (.frz (eP x)) (.int 3)=some (.frz (.lst x.2)):=i3;generalize((post.map Prod.fst).map Belt.name++gc).map fS=l2 at *;generalize((post.map Prod.fst).map Belt.name).map D.str=l3 at *;generalize ps.map eP=bs at *;generalize post.map eP=pd at *;generalize eP x=ex at *;unfold a9m;generalize(a0h (gsFor (gVar 5) (a1g 7) outC) (gsIf (gNotT (gTru (gVar 5))) (noO " has no outs") gsNil))=tl at *;simp only[a7n,a6e,a3b,qq2,qq3,qqf,Nat.reduceAdd,Nat.reduceLT,qq5,qq4,if_true,↓evBind,a6d,a0p,a1p,a1d,a0d,a0o,qq1,qq0,a2x,a0g,a0l,a0j,a0k,a3c,i0,a1a,c6x,a4y,i3,il,a4q,a1s,Nat.reduceLeDiff,a1c,a1i,a1f,a4v,a5v,a5w,a5x,↓evMap,a5u,sl,a4j,a4z,a0x,a0w,e1,a2c,a2b,b2l,b0d,fz,c1,en,hr]
theorem c3c{post:List (Belt×List D)}{x:Belt×List D}(eq:ps=q++x::post)(hi:i=(q.length:Nat))(pl:ps.length<=100)(cl:gc.length<=100){outs:List Str}(ho:x.2=outs.map .str)(h0:outs≠[])(hk:OutOk ((post.map Prod.fst).map Belt.name++gc) outs)(Ln:((post.map Prod.fst).map Belt.name++gc).Nodup)(a2 a3 a4 a5 a6 a7:Option O):
  ∃b2 b3 b4 b5 b6 b7,(outG (.tup [.int i,eP x]) [some (.frz (.lst (ps.map eP))),some (fL gc),a2,a3,a4,a5,a6,a7]).bind a9m=some (.nx,[some (.frz (.lst (ps.map eP))),some (fL gc),b2,b3,b4,b5,b6,b7]):=by
 obtain⟨b6,b7,el⟩:=d7b hk Ln (some (.frz (.lst (ps.map eP)))) (some (fL gc)) (some (.frz (.int i))) (some (.frz (eP x))) (some (fS x.1.name)) (some (.frz (.lst x.2))) a7;have ht:(outs.map D.str).isEmpty=false:=by
  cases hcs:outs with
  |nil=>exact absurd hcs h0
  |cons _ _=>rfl
 refine⟨some (.frz (.int i)),some (.frz (eP x)),some (fS x.1.name),some (.frz (.lst x.2)),b6,b7,b7f eq hi pl cl a2 a3 a4 a5 a6 a7 ?_⟩;rw[ho] at el ⊢;generalize((post.map Prod.fst).map Belt.name++gc).map fS=l2 at *;generalize ps.map eP=bs at *;generalize eP x=ex at *;generalize outC=oc at *;simp only[a0p,a7h,a1a,a0o,qq1,qq0,↓evBind,a1i,el,a0z,b1i,a4y,a0j,c0l,ht,Bool.not_false,Bool.not_true,qqe,a1b,if_false]
def BadO(L:List Str)(os:List D):Prop:=os=[]\/∃pre w rest,os=pre.map D.str++w::rest/\OutOk L pre/\okD 40 w=true/\∀y∈L,y∉pre->eqD (.str y) w=false
theorem d7c{post:List (Belt×List D)}{x:Belt×List D}(eq:ps=q++x::post)(hi:i=(q.length:Nat))(pl:ps.length<=100)(cl:gc.length<=100)(hk:BadO ((post.map Prod.fst).map Belt.name++gc) x.2)(Ln:((post.map Prod.fst).map Belt.name++gc).Nodup)(nl:x.1.name.length<=20)(a2 a3 a4 a5 a6 a7:Option O):
  ∃b2 b3 b4 b5 b6 b7,(outG (.tup [.int i,eP x]) [some (.frz (.lst (ps.map eP))),some (fL gc),a2,a3,a4,a5,a6,a7]).bind a9m=some (.rt (.frz (.exc 61 none)),[some (.frz (.lst (ps.map eP))),some (fL gc),b2,b3,b4,b5,b6,b7]):=by
 rcases hk with z|⟨pre,w,rest,z,h1,h2,h3⟩
 ·refine⟨some (.frz (.int i)),some (.frz (eP x)),some (fS x.1.name),some (.frz (.lst x.2)),some (.lst (((post.map Prod.fst).map Belt.name++gc).map fS)),a7,b7f eq hi pl cl a2 a3 a4 a5 a6 a7 ?_⟩;rw[z];have e2:=c9e (t:=" has no outs") (nm:=x.1.name) (by decide +kernel) nl (some (.frz (.lst (ps.map eP)))) (some (fL gc)) (some (.frz (.int i))) (some (.frz (eP x))) (some (.frz (.lst []))) (some (.lst (((post.map Prod.fst).map Belt.name++gc).map fS))) a7
  generalize((post.map Prod.fst).map Belt.name++gc).map fS=l2 at *;generalize ps.map eP=bs at *;generalize eP x=ex at *;generalize outC=oc at *;generalize noO " has no outs"=nO at *;simp only[a0p,a7h,a1a,a0o,qq1,qq0,↓evBind,a1i,d1r,a0z,b1i,a4y,a0j,c0l,List.isEmpty_nil,Bool.not_true,Bool.not_false,e2,a1b,if_true]
 ·obtain⟨b6,b7,el⟩:=d2r (rest:=rest) h1 Ln h2 h3 nl (some (.frz (.lst (ps.map eP)))) (some (fL gc)) (some (.frz (.int i))) (some (.frz (eP x))) (some (.frz (.lst x.2))) a7;rw[<-z] at el;refine⟨some (.frz (.int i)),some (.frz (eP x)),some (fS x.1.name),some (.frz (.lst x.2)),b6,b7,b7f eq hi pl cl a2 a3 a4 a5 a6 a7 ?_⟩;generalize x.2=os at *;generalize((post.map Prod.fst).map Belt.name++gc).map fS=l2 at *;generalize ps.map eP=bs at *;generalize eP x=ex at *;generalize outC=oc at *;simp only[a0p,a7h,a1a,a0o,qq1,qq0,↓evBind,a1i,el]
def OutsOk(gc:List Str)(post:List Belt):List (Belt×List D)->Prop
 |[]=>True
 |x::q=>(∃outs,x.2=outs.map .str/\outs≠[]/\OutOk ((q.map Prod.fst++post).map Belt.name++gc) outs)/\OutsOk gc post q
theorem OutsOk.at{gc:List Str}{post:List Belt}:∀{q:List (Belt×List D)} {x:Belt×List D} {r:List (Belt×List D)},OutsOk gc post (q++x::r)->∃outs,x.2=outs.map .str/\outs≠[]/\OutOk ((r.map Prod.fst++post).map Belt.name++gc) outs
 |[],_,_,h=>h.1
 |_::q,_,_,h=>OutsOk.at (q:=q) h.2
theorem c0r{q:List Belt}{x:Belt}(h:((q++x::r).map Belt.name++gc).Nodup):(r.map Belt.name++gc).Nodup:=by
 rw[List.map_append,List.map_cons,List.append_assoc] at h;exact(List.nodup_cons.mp (List.nodup_append.mp h).2.1).2
theorem d7d(pl:ps.length<=100)(cl:gc.length<=100)(Ln:((ps.map Prod.fst).map Belt.name++gc).Nodup)(ok:OutsOk gc [] ps):a2w [.frz (.lst (ps.map eP)),fL gc]=some (.frz .non,[none,none]):=by
 obtain⟨Γ',e,a2,a3,a4,a5,a6,a7,rfl⟩:=b9j (g:=outG) (f:=a9m) eP (fun pre Γ=>∃a2 a3 a4 a5 a6 a7,Γ=[some (.frz (.lst (ps.map eP))),some (fL gc),a2,a3,a4,a5,a6,a7]) ps [some (.frz (.lst (ps.map eP))),some (fL gc),none,none,none,none,none,none] ⟨_,_,_,_,_,_,rfl⟩ (by
  rintro q x post Γ i eq hi ⟨a2,a3,a4,a5,a6,a7,rfl⟩;obtain⟨outs,o1,o2,o3⟩:=OutsOk.at (by rw[<-eq];exact ok)
  rw[List.append_nil] at o3;have Lp:=Ln;rw[eq,List.map_append,List.map_cons] at Lp;obtain⟨b2,b3,b4,b5,b6,b7,e⟩:=c3c eq hi pl cl o1 o2 o3 (c0r Lp) a2 a3 a4 a5 a6 a7;exact⟨_,e,_,_,_,_,_,_,rfl⟩)
 unfold a2w;unfold a6z;generalize ps.map eP=bs at *;simp only[a1v,qq6,qq7,qq2,qq3,qqf,Nat.reduceAdd,Nat.reduceSub,qq9,qq8,qqb,qqc,b3p,a1a,a0o,qq0,↓evBind,a1i,e,c7e,qqa,qqd,a3h,a3g,if_true]
theorem c9g{z:Belt×List D}{r:List (Belt×List D)}(pl:(q++z::r).length<=100)(cl:gc.length<=100)(Ln:(((q++z::r).map Prod.fst).map Belt.name++gc).Nodup)(ok:OutsOk gc (z.1::r.map Prod.fst) q)(bad:BadO ((r.map Prod.fst).map Belt.name++gc) z.2)(nl:z.1.name.length<=20):a2w [.frz (.lst ((q++z::r).map eP)),fL gc]=some (.frz (.exc 61 none),[none,none]):=by
 generalize eps:q++z::r=ps at *;obtain⟨Γ',e,a2,a3,a4,a5,a6,a7,rfl⟩:=b5q (g:=outG) (f:=a9m) eP (fun pre Γ=>∃a2 a3 a4 a5 a6 a7,Γ=[some (.frz (.lst (ps.map eP))),some (fL gc),a2,a3,a4,a5,a6,a7]) (.frz (.exc 61 none)) (fun Γ=>∃a2 a3 a4 a5 a6 a7,Γ=[some (.frz (.lst (ps.map eP))),some (fL gc),a2,a3,a4,a5,a6,a7]) q (eP z) (r.map eP) [some (.frz (.lst (ps.map eP))),some (fL gc),none,none,none,none,none,none] ⟨_,_,_,_,_,_,rfl⟩ (by
  rintro q1 x post Γ i eq hi ⟨a2,a3,a4,a5,a6,a7,rfl⟩;obtain⟨outs,o1,o2,o3⟩:=OutsOk.at (by rw[<-eq];exact ok)
  have e':ps=q1++x::(post++z::r):=by rw[<-eps,eq];simp
  have Lp:=Ln;rw[e',List.map_append,List.map_cons] at Lp;have o3:OutOk (((post++z::r).map Prod.fst).map Belt.name++gc) outs:=by rw[List.map_append (f:=Prod.fst),List.map_cons];exact o3
  obtain⟨b2,b3,b4,b5,b6,b7,e⟩:=c3c e' hi pl cl o1 o2 o3 (c0r Lp) a2 a3 a4 a5 a6 a7;exact⟨_,e,_,_,_,_,_,_,rfl⟩) (by
  rintro Γ i hi ⟨a2,a3,a4,a5,a6,a7,rfl⟩;have Lp:=Ln;rw[<-eps,List.map_append,List.map_cons] at Lp;obtain⟨b2,b3,b4,b5,b6,b7,e⟩:=d7c eps.symm hi pl cl bad (c0r Lp) nl a2 a3 a4 a5 a6 a7;exact⟨_,e,_,_,_,_,_,_,rfl⟩)
 have e0:q.map eP++eP z::r.map eP=ps.map eP:=by rw[<-eps];simp
 rw[e0] at e;unfold a2w;unfold a6z;generalize ps.map eP=bs at *;simp only[a1v,qq6,qq7,qq2,qq3,qqf,Nat.reduceAdd,Nat.reduceSub,qq9,qq8,qqb,qqc,b3p,a1a,a0o,qq0,↓evBind,a1i,e,a4d,qqa,qqd,a3h,a3g,if_true]
theorem d2t{bs:List Belt}{outs:List Str}{w:Belt}(hw:w∈bs)(r:RR bs outs w.name){n:Str}(r2:RR bs w.outs n):RR bs outs n:=by
 induction r2 with
 |base m=>exact .step r hw rfl m
 |step _ hb hn hm ih=>exact .step ih hb hn hm
theorem c0s{h:House}(g:GoodH h):∀{bs pre:List Belt},h.belts=pre++bs->∀b∈bs,RR h.belts b.outs (h.carts.getD 0 "")
 |x::bs,pre,eq,b,hb=>by
  have eq':h.belts=(pre++[x])++bs:=by rw[eq];simp
  rcases List.mem_cons.mp hb with rfl|hb
  ·have hbm:b∈h.belts:=by rw[eq];simp
   have fx:Fwd h.carts (b::bs):=b5p (by rw[<-eq];exact g.fwd)
   rcases g.hd b hbm with z|⟨o,z1,z2⟩
   ·exact .base z
   ·rcases fx.1 o z1 with y|y
    ·obtain⟨w,hw,ew⟩:=List.mem_map.mp y;exact d2t (w:=w) (by rw[eq'];simp[hw]) (by rw[ew];exact .base z1) (c0s g eq' w hw)
    ·exact absurd z2 (b9h g.fwd o y)
  ·exact c0s g eq' b hb
theorem b9o(sm:SmallH h){hand:Str}(hc:hand∈h.carts){b:Str}(hb:b.length<=20)(a:Option O):
  (a1g 2 (D.str b) [some (.frz (a3j h)),some (fS hand),a]).bind handB=some (if hand∈a5r h.belts b then .nx else .rt (.frz (.exc 73 none)),[some (.frz (a3j h)),some (fS hand),some (fS b)]):=by
 have e1:=c8x h b sm;have e2:=c8r true hand ((h.belts.map Belt.name++h.carts).filter fun x=>(a5r h.belts b).contains x)
 have c1:(b.length<=1000000)=True:=eq_true (by omega)
 have c3:((Str.ofString "the hand can not be come to from belt "++(b++Str.empty)).length<=1000000)=True:=eq_true (by
  have a1:(Str.ofString "the hand can not be come to from belt ").length=38:=by decide +kernel
  have a3:Str.empty.length=0:=rfl;rw[Str.length_append,Str.length_append,a1,a3];omega)
 by_cases hf:hand∈a5r h.belts b
 ·have hm:hand∈(h.belts.map Belt.name++h.carts).filter fun x=>(a5r h.belts b).contains x:=by
   rw[List.mem_filter];exact⟨List.mem_append_right _ hc,List.contains_iff_mem.mpr hf⟩
  rw[List.contains_iff_mem.mpr hm,if_pos rfl] at e2;rw[if_pos hf];generalize((h.belts.map Belt.name++h.carts).filter fun x=>(a5r h.belts b).contains x).map fS=l at *
  unfold handB;simp only[a3b,qq2,qq3,qqf,Nat.reduceAdd,Nat.reduceLT,qq5,qq4,if_true,↓evBind,a0z,a4p,a1d,a0d,a0o,qq1,qq0,a1f,a0g,a0x,a0w,e1,a2c,a2b,a0l,a0j,a0k,e2,Bool.not_true,qqe,a6g,a8e,b0l,a2x,b3o,a1b,if_false]
 ·have hm:((h.belts.map Belt.name++h.carts).filter fun x=>(a5r h.belts b).contains x).contains hand=false:=by
   rw[<-Bool.not_eq_true,List.contains_iff_mem,List.mem_filter];exact fun z=>hf (List.contains_iff_mem.mp z.2)
  rw[hm,if_pos rfl] at e2;rw[if_neg hf];generalize((h.belts.map Belt.name++h.carts).filter fun x=>(a5r h.belts b).contains x).map fS=l at *
  unfold handB;simp only[a3b,qq2,qq3,qqf,Nat.reduceAdd,Nat.reduceLT,qq5,qq4,if_true,↓evBind,a0z,a4p,a1d,a0d,a0o,qq1,qq0,a1f,a0g,a0x,a0w,e1,a2c,a2b,a0l,a0j,a0k,e2,Bool.not_false,a6g,a8e,b0l,a2x,b3o,c1,b6m,c3,a1b]
theorem c0t(c0:0 < h.carts.length):h.carts.getD 0 ""∈h.carts/\oIx1 (.frz (.lst (h.carts.map .str))) (.int 0)=some (fS (h.carts.getD 0 "")):=by
 cases hcs:h.carts with
 |nil=>rw[hcs] at c0;simp at c0
 |cons c cs=>exact⟨by simp,a8m c cs⟩
theorem c9h(g:GoodW h){fl:Fl}{Γ':Gm}{o:O}(hv:fl.val=some o)(hl:Γ'.length=3)
  (e:a2m (a1g 2) handB (h.belts.map fun b=>D.str b.name) [some (.frz (a3j h)),some (fS (h.carts.getD 0 "")),none]=some (fl,Γ')):a3t [.frz (a3j h)]=some (o,[none]):=by
 have bl:=g.sm.bl;obtain⟨hc,i0⟩:=c0t g.c0;have e1:=c8w h.belts (by omega)
 have e0:=xh0 (h.belts.map beltD) (h.carts.map .str);have e01:=xh1 (h.belts.map beltD) (h.carts.map .str);have e0:oIx1 (.frz (a3j h)) (.int 0)=_:=e0;have e01:oIx1 (.frz (a3j h)) (.int 1)=_:=e01;have dn:=e1r (h.belts.map Belt.name);have mn:(h.belts.map Belt.name).map D.str=h.belts.map fun b=>D.str b.name:=by rw[List.map_map];rfl
 rw[mn] at dn;unfold a3t;unfold a8k;generalize h.belts.map (fun b=>D.str b.name)=l1 at *
 generalize(h.belts.map Belt.name).map fS=l2 at *;generalize h.carts.getD 0 ""=hand at *;generalize h.belts.map beltD=l3 at *;generalize a3j h=hd at *;generalize handB=hB at *;obtain _|⟨x0,_|⟨x1,_|⟨x2,_|⟨x3,r⟩⟩⟩⟩:=Γ'
 ·simp at hl
 ·simp at hl
 ·simp at hl
 ·simp only[a1v,qq6,qq7,qq2,qq3,qqf,Nat.reduceSub,qq9,qq8,qqb,qqc,a0p,a1p,a1d,a0d,a0o,qq0,↓evBind,a2x,a0g,a0l,a0j,a0k,a3c,e01,i0,Nat.reduceAdd,Nat.reduceLT,qq5,qq4,if_true,a7h,a1a,a1f,e0,a0x,a0w,e1,a2c,a2b,a4j,dn,e,hv,qqa,qqd,a3h,a3g]
 ·simp at hl
theorem d9p(g:GoodH h):a3t [.frz (a3j h)]=some (.frz .non,[none]):=by
 obtain⟨hc,_⟩:=c0t g.c0;obtain⟨Γ',e,a,rfl⟩:=d1v (g:=a1g 2) (f:=handB) (fun b:Belt=>D.str b.name) (fun Γ=>∃a,Γ=[some (.frz (a3j h)),some (fS (h.carts.getD 0 "")),a]) h.belts [some (.frz (a3j h)),some (fS (h.carts.getD 0 "")),none] ⟨_,rfl⟩ (by
  rintro b hb Γ ⟨a,rfl⟩;have:=b9o g.sm hc (g.nl b hb) a;rw[if_pos ((c9a g.fwd hb _).mpr (c0s g (pre:=[]) rfl b hb))] at this;exact⟨_,this,_,rfl⟩)
 exact c9h g.toGoodW (fl:=.nx) rfl rfl e
theorem c9i(g:GoodW h)(hz:∃b∈h.belts,h.carts.getD 0 ""∉a5r h.belts b.name):a3t [.frz (a3j h)]=some (.frz (.exc 73 none),[none]):=by
 obtain⟨hc,_⟩:=c0t g.c0;obtain⟨Γ',e,a,rfl⟩:=c2w (g:=a1g 2) (f:=handB) (fun b:Belt=>D.str b.name) (fun Γ=>∃a,Γ=[some (.frz (a3j h)),some (fS (h.carts.getD 0 "")),a]) (.frz (.exc 73 none)) (fun Γ=>∃a,Γ=[some (.frz (a3j h)),some (fS (h.carts.getD 0 "")),a]) (fun b=>h.carts.getD 0 ""∉a5r h.belts b.name) h.belts [some (.frz (a3j h)),some (fS (h.carts.getD 0 "")),none] ⟨_,rfl⟩ (by
  rintro b hb Γ ⟨a,rfl⟩;have:=b9o g.sm hc (g.nl b hb) a;by_cases hf:h.carts.getD 0 ""∈a5r h.belts b.name
  ·rw[if_pos hf] at this;exact .inl ⟨fun z=>z hf,_,this,_,rfl⟩
  ·rw[if_neg hf] at this;exact .inr ⟨_,this,_,rfl⟩) hz
 exact c9h g (fl:=.rt _) rfl rfl e
section
variable {bs cs:List D} {C:Addr} {k1 k2:List (TK×O)}
theorem d2u(e1:a1z [.frz (.lst cs),.dct []]=some (.frz (.exc C none),[none,some (.dct k1)])):a0y [.frz (hT bs cs)]=some (.frz (.exc C none),[none]):=by
 have e0:=xh0 bs cs;have e01:=xh1 bs cs;unfold a0y a4a;generalize hT bs cs=hd at *;simp only[a1v,qq6,qq7,qq2,qq3,qqf,Nat.reduceSub,qq9,qq8,qqb,qqc,a0p,a1p,a1d,a0d,a0o,qq0,↓evBind,a2x,a0g,a0l,a0j,a0k,a3c,e0,Nat.reduceAdd,Nat.reduceLT,qq5,qq4,if_true,e01,a8p,a4m,a1f,qq1,a0x,a1m,a0w,e1,a2c,a4c,a2b,a5y,a4d,qqa,qqd,a3h,a3g]
theorem c3d(e1:a1z [.frz (.lst cs),.dct []]=some (.frz .non,[none,some (.dct k1)]))(e2:a1u [.frz (.lst bs),.dct k1]=some (.frz (.exc C none),[none,some (.dct k2)])):a0y [.frz (hT bs cs)]=some (.frz (.exc C none),[none]):=by
 have e0:=xh0 bs cs;have e01:=xh1 bs cs;unfold a0y a4a;generalize hT bs cs=hd at *;simp only[a1v,qq6,qq7,qq2,qq3,qqf,Nat.reduceSub,qq9,qq8,qqb,qqc,a0p,a1p,a1d,a0d,a0o,qq0,↓evBind,a2x,a0g,a0l,a0j,a0k,a3c,e0,Nat.reduceAdd,Nat.reduceLT,qq5,qq4,if_true,e01,a8p,a4m,a1f,qq1,a0x,a1m,a0w,e1,a2c,a4c,a2b,a7q,e2,a5y,a4d,qqa,qqd,a3h,a3g]
theorem d7e(e1:a1z [.frz (.lst cs),.dct []]=some (.frz .non,[none,some (.dct k1)]))(e2:a1u [.frz (.lst bs),.dct k1]=some (.frz .non,[none,some (.dct k2)]))(e3:a2w [.frz (.lst bs),.frz (.lst cs)]=some (.frz (.exc C none),[none,none])):a0y [.frz (hT bs cs)]=some (.frz (.exc C none),[none]):=by
 have e0:=xh0 bs cs;have e01:=xh1 bs cs;unfold a0y a4a;generalize hT bs cs=hd at *;simp only[a1v,qq6,qq7,qq2,qq3,qqf,Nat.reduceSub,qq9,qq8,qqb,qqc,a0p,a1p,a1d,a0d,a0o,qq0,↓evBind,a2x,a0g,a0l,a0j,a0k,a3c,e0,Nat.reduceAdd,Nat.reduceLT,qq5,qq4,if_true,e01,a8p,a4m,a1f,qq1,a0x,a1m,a0w,e1,a2c,a4c,a2b,a7q,e2,e3,a5y,a4d,qqa,qqd,a3h,a3g]
theorem d7f(e1:a1z [.frz (.lst cs),.dct []]=some (.frz .non,[none,some (.dct k1)]))(e2:a1u [.frz (.lst bs),.dct k1]=some (.frz .non,[none,some (.dct k2)]))(e3:a2w [.frz (.lst bs),.frz (.lst cs)]=some (.frz .non,[none,none]))(e4:a3t [.frz (hT bs cs)]=some (.frz (.exc C none),[none])):a0y [.frz (hT bs cs)]=some (.frz (.exc C none),[none]):=by
 have e0:=xh0 bs cs;have e01:=xh1 bs cs;unfold a0y a4a;generalize hT bs cs=hd at *;simp only[a1v,qq6,qq7,qq2,qq3,qqf,Nat.reduceSub,qq9,qq8,qqb,qqc,a0p,a1p,a1d,a0d,a0o,qq0,↓evBind,a2x,a0g,a0l,a0j,a0k,a3c,e0,Nat.reduceAdd,Nat.reduceLT,qq5,qq4,if_true,e01,a8p,a4m,a1f,qq1,a0x,a1m,a0w,e1,a2c,a4c,a2b,a7q,e2,e3,e4,a5y,a4d,qqa,qqd,a3h,a3g]
theorem e1c(e1:a1z [.frz (.lst cs),.dct []]=some (.frz .non,[none,some (.dct k1)]))(e2:a1u [.frz (.lst bs),.dct k1]=some (.frz .non,[none,some (.dct k2)]))(e3:a2w [.frz (.lst bs),.frz (.lst cs)]=some (.frz .non,[none,none]))(e4:a3t [.frz (hT bs cs)]=some (.frz .non,[none])):a0y [.frz (hT bs cs)]=some (.frz (.bl true),[none]):=by
 have e0:=xh0 bs cs;have e01:=xh1 bs cs;unfold a0y a4a;generalize hT bs cs=hd at *;simp only[a1v,qq6,qq7,qq2,qq3,qqf,Nat.reduceSub,qq9,qq8,qqb,qqc,a0p,a1p,a1d,a0d,a0o,qq0,↓evBind,a2x,a0g,a0l,a0j,a0k,a3c,e0,Nat.reduceAdd,Nat.reduceLT,qq5,qq4,if_true,e01,a8p,a4m,a1f,qq1,a0x,a1m,a0w,e1,a2c,a4c,a2b,a7q,e2,e3,e4,c8c,c8d,a4d,qqa,qqd,a3h,a3g]
end
def pr(b:Belt):Belt×List D:=(b,b.outs.map D.str)
theorem c4n(bs:List Belt):(bs.map pr).map eP=bs.map beltD:=by rw[List.map_map];rfl
theorem a7j(bs:List Belt):(bs.map pr).map Prod.fst=bs:=by rw[List.map_map];exact List.map_id _
theorem b0y{gc:List Str}(hc:gc.Nodup):∀{bs:List Belt},Fwd gc bs->(bs.map Belt.name++gc).Nodup
 |[],_=>hc
 |b::bs,f=>by
  rw[List.map_cons,List.cons_append];refine List.nodup_cons.mpr ⟨fun z=>?_,b0y hc f.2.2.2⟩
  rcases List.mem_append.mp z with z|z
  ·exact f.2.1 z
  ·exact f.2.2.1 z
theorem GoodW.nmok(g:GoodW h){q:List Belt}(e:h.belts=q++r):NmOk h.carts q:=by
 have n:=b0y g.cn g.fwd;have n:(h.carts++h.belts.map Belt.name).Nodup:=List.perm_append_comm.nodup_iff.mp n;rw[e,List.map_append,<-List.append_assoc] at n;have sm:=g.sm.bl;have sc:=g.sm.ct;have hl:q.length<=h.belts.length:=by rw[e];simp
 exact⟨(List.nodup_append.mp n).1,fun b hb=>g.nm b (by rw[e];exact List.mem_append_left _ hb),fun b hb=>g.lg b (by rw[e];exact List.mem_append_left _ hb),by omega⟩
theorem b4m{gc:List Str}{post:List Belt}:∀{q:List (Belt×List D)},Fwd gc (q.map Prod.fst++post)->(∀x∈q,x.2=x.1.outs.map D.str/\x.1.outs.Nodup/\x.1.outs≠[])->OutsOk gc post q
 |[],_,_=>True.intro
 |x::q,f,h=>by
  obtain⟨h1,h2,h3⟩:=h x (.head _);refine⟨⟨x.1.outs,h1,h3,h2,fun o ho=>?_⟩,b4m f.2.2.2 fun y hy=>h y (.tail _ hy)⟩
  rcases f.1 o ho with z|z
  ·exact List.mem_append_left _ z
  ·exact List.mem_append_right _ z
theorem GoodW.carts{h:House}(g:GoodW h):a1z [.frz (.lst (h.carts.map .str)),.dct []]=some (.frz .non,[none,some (.dct (kd h.carts))]):=d6z g.cn g.cm g.c0 g.sm.ct
theorem GoodW.belts{h:House}(g:GoodW h):a1u [.frz (.lst (h.belts.map beltD)),.dct (kd h.carts)]=some (.frz .non,[none,some (.dct (kd (h.carts++h.belts.map Belt.name)))]):=by
 have:=c9c (gc:=h.carts) (q:=h.belts.map pr) (by rw[a7j];exact g.nmok (r:=[]) (by simp))
 rwa [c4n,a7j] at this
theorem GoodW.outs(g:GoodW h):a2w [.frz (.lst (h.belts.map beltD)),.frz (.lst (h.carts.map .str))]=some (.frz .non,[none,none]):=by
 have:=d7d (gc:=h.carts) (ps:=h.belts.map pr) (by rw[List.length_map];exact g.sm.bl) g.sm.ct (by rw[a7j];exact b0y g.cn g.fwd) (b4m (by rw[a7j,List.append_nil];exact g.fwd) fun x hx=>by
  obtain⟨b,hb,rfl⟩:=List.mem_map.mp hx;exact⟨rfl,g.nd b hb,g.o0 b hb⟩)
 rwa [c4n] at this
theorem d7g(g:GoodH h):a0y [.frz (a3j h)]=some (.frz (.bl true),[none]):=e1c g.carts g.belts g.outs (d9p g)
theorem c4o(g:GoodW h)(hz:∃b∈h.belts,h.carts.getD 0 ""∉a5r h.belts b.name):a0y [.frz (a3j h)]=some (.frz (.exc 73 none),[none]):=d7f g.carts g.belts g.outs (c9i g hz)
def told1(s:Str)(n:Int):D:=.tup [.str s,.int n]
def resT(r d:D):Prop:=(∃a b,r=.tup [a,b]/\d=told1 "right" 9)\/(∃n,r=.exc 92 (some n)/\d=told1 "line" n)\/(r=.exc 37 none/\d=.str "name")\/(r=.exc 49 none/\d=.str "size")\/(r=.exc 61 none/\d=.str "out")\/(r=.exc 73 none/\d=.str "hand")
theorem e1d(ds:List D):oIsi [.frz (.tup ds),.frz (.ty "tuple")]=some (.frz (.bl true)):=by unfold oIsi;simp[kindD,isiB,O.d]
theorem xset(i:Nat)(f:GE)(Γ:Gm):c7s i f Γ=(f Γ).bind fun p=>match p.1 with
 |.own o=>match isX o with
  |some _=>some (.rt o,p.2)
  |none=>if i < p.2.length then some (.nx,p.2.set i (some o)) else none
 |_=>none:=rfl
theorem d9q{t r d:D}(h:resT r d)(e:a3u [.frz t]=some (.frz r,[none])):b2q [.frz t]=some (.lst [.frz d],[none]):=by
 unfold b2q b7d;have w0:wT errCs 37=some true/\wT errCs 49=some true/\wT errCs 61=some true/\wT errCs 73=some true:=⟨rfl,rfl,rfl,rfl⟩;obtain⟨w1,w2,w3,w4⟩:=w0;have v0:wE errCs 92 37=some false/\wE errCs 92 49=some false/\wE errCs 92 61=some false/\wE errCs 92 73=some false/\wE errCs 92 92=some true:=⟨rfl,rfl,rfl,rfl,rfl⟩;have v1:wE errCs 37 37=some true/\wE errCs 49 37=some false/\wE errCs 61 37=some false/\wE errCs 73 37=some false:=⟨rfl,rfl,rfl,rfl⟩;have v2:wE errCs 37 49=some false/\wE errCs 49 49=some true/\wE errCs 61 49=some false/\wE errCs 73 49=some false:=⟨rfl,rfl,rfl,rfl⟩;have v3:wE errCs 37 61=some false/\wE errCs 49 61=some false/\wE errCs 61 61=some true/\wE errCs 73 61=some false:=⟨rfl,rfl,rfl,rfl⟩;have v4:wE errCs 37 73=some false/\wE errCs 49 73=some false/\wE errCs 61 73=some false/\wE errCs 73 73=some true:=⟨rfl,rfl,rfl,rfl⟩;obtain⟨z1,z2,z3,z4,z5⟩:=v0;obtain⟨a1,a2,a3,a4⟩:=v1;obtain⟨b1,b2,b3,b4⟩:=v2;obtain⟨c1,c2,c3,c4⟩:=v3;obtain⟨d1,d2,d3,d4⟩:=v4;generalize errCs=ec at *;rcases h with⟨a,b,rfl,rfl⟩|⟨n,rfl,rfl⟩|⟨rfl,rfl⟩|⟨rfl,rfl⟩|⟨rfl,rfl⟩|⟨rfl,rfl⟩
 ·have it:=e1d [a,b];have c2:(((2:Nat):Int) == 2)=true:=rfl;unfold told1;simp only[a1v,qq6,qq7,qq2,qq3,qqf,Nat.reduceSub,qq9,qq8,qqb,qqc,a0p,a1p,a1s,a0g,↓evBind,Nat.reduceLeDiff,a1c,if_true,Nat.reduceAdd,Nat.reduceLT,qq5,qq4,b5m,xset,a1f,a0d,a0o,qq0,a0x,a0w,e,a2c,a2b,c8e,a0z,a5t,a4y,a1d,qq1,a2x,a0l,a0j,a0k,it,a4q,a4p,b1w,a1i,d5z,↓evMap,a2y,a1r,and_self,a2o,c2,a2h,a4k,a1a,a1e,b8m,a3d,a2v,b1m,a1b,a2t,a9d,a4d,qqa,qqd,a3h,a3g]
 ·have l:oLine [92] [.frz (.exc 92 (some n))]=some (.frz (.int n)):=rfl;unfold told1;simp only[a1v,qq6,qq7,qq2,qq3,qqf,Nat.reduceSub,qq9,qq8,qqb,qqc,a0p,a1p,a1s,a0g,↓evBind,Nat.reduceLeDiff,a1c,if_true,Nat.reduceAdd,Nat.reduceLT,qq5,qq4,b5m,xset,a1f,a0d,a0o,qq0,a0x,a0w,e,a2c,a2b,a5y,b3s,z5,a8f,a2h,a4k,qq1,a1a,a2x,a1d,a0l,a0j,a0k,l,a1e,b8m,a3d,a1i,a2v,b1m,a2t,a9d,a4d,qqa,qqd,a3h,a3g]
 ·simp only[a1v,qq6,qq7,qq2,qq3,qqf,Nat.reduceSub,qq9,qq8,qqb,qqc,a0p,a1p,a1s,a0g,↓evBind,Nat.reduceLeDiff,a1c,if_true,Nat.reduceAdd,Nat.reduceLT,qq5,qq4,b5m,xset,a1f,a0d,a0o,qq0,a0x,a0w,e,a2c,a2b,a5y,b3s,z1,qqe,a8f,a2h,a4k,qq1,a1a,a2x,a1d,a0l,a0j,a0k,w1,a0z,a4y,b6r,a1,↓evMap,a4q,a1e,b1m,a1b,a2,if_false,a3,a4,a2t,a9d,a4d,qqa,qqd,a3h,a3g]
 ·simp only[a1v,qq6,qq7,qq2,qq3,qqf,Nat.reduceSub,qq9,qq8,qqb,qqc,a0p,a1p,a1s,a0g,↓evBind,Nat.reduceLeDiff,a1c,if_true,Nat.reduceAdd,Nat.reduceLT,qq5,qq4,b5m,xset,a1f,a0d,a0o,qq0,a0x,a0w,e,a2c,a2b,a5y,b3s,z2,qqe,a8f,a2h,a4k,qq1,a1a,a2x,a1d,a0l,a0j,a0k,w2,a0z,a4y,b6r,b1,↓evMap,a4q,a1e,b1m,a1b,if_false,b2,b3,b4,a2t,a9d,a4d,qqa,qqd,a3h,a3g]
 ·simp only[a1v,qq6,qq7,qq2,qq3,qqf,Nat.reduceSub,qq9,qq8,qqb,qqc,a0p,a1p,a1s,a0g,↓evBind,Nat.reduceLeDiff,a1c,if_true,Nat.reduceAdd,Nat.reduceLT,qq5,qq4,b5m,xset,a1f,a0d,a0o,qq0,a0x,a0w,e,a2c,a2b,a5y,b3s,z3,qqe,a8f,a2h,a4k,qq1,a1a,a2x,a1d,a0l,a0j,a0k,w3,a0z,a4y,b6r,c1,↓evMap,a4q,a1e,b1m,a1b,if_false,c2,c3,c4,a2t,a9d,a4d,qqa,qqd,a3h,a3g]
 ·simp only[a1v,qq6,qq7,qq2,qq3,qqf,Nat.reduceSub,qq9,qq8,qqb,qqc,a0p,a1p,a1s,a0g,↓evBind,Nat.reduceLeDiff,a1c,if_true,Nat.reduceAdd,Nat.reduceLT,qq5,qq4,b5m,xset,a1f,a0d,a0o,qq0,a0x,a0w,e,a2c,a2b,a5y,b3s,z4,qqe,a8f,a2h,a4k,qq1,a1a,a2x,a1d,a0l,a0j,a0k,w4,a0z,a4y,b6r,d1,↓evMap,a4q,a1e,b1m,a1b,if_false,d2,d3,d4,a2t,a9d,a4d,qqa,qqd,a3h,a3g]
theorem c9j{m:Nat}:∀{bs:List Belt},(∀b∈bs,b.outs.length<=m)->(bs.map fun x=>x.outs.length).sum<=m * bs.length
 |[],_=>Nat.zero_le _
 |b::bs,h=>by
  rw[List.map_cons,List.sum_cons,List.length_cons,Nat.mul_succ];have:=c9j (bs:=bs) fun y hy=>h y (.tail _ hy)
  have:=h b (.head _);omega
theorem e1e:∀c∈cN,isN c:=by
 intro c hc;unfold cN at hc;simp only[List.mem_cons,List.not_mem_nil,or_false] at hc;rcases hc with rfl|rfl|rfl <;> kernel_rfl
theorem e1f:∀c∈bN,isN c:=by
 intro c hc;unfold bN at hc;simp only[List.mem_cons,List.not_mem_nil,or_false] at hc;rcases hc with rfl|rfl|rfl|rfl <;> kernel_rfl
theorem c4p:∀c∈bN,c.length<=20/\c≠"nowhere"/\c≠"other"/\c≠"zz"/\c∉cN:=by decide +kernel
theorem d7h:∀c∈cN,c≠"nowhere"/\c≠"other"/\c≠"zz":=by decide +kernel
theorem e1g:∀m,m < 3->(cN.take (m+1)).Nodup/\(cN.take (m+1)).length=m+1:=by decide +kernel
theorem DrawnL.nmb(d:DrawnL h):∀b∈h.belts,b.name∈bN:=fun b hb=>by
 have:b.name∈h.belts.map Belt.name:=List.mem_map_of_mem hb;rw[d.li.nm] at this;exact List.mem_of_mem_take (List.mem_reverse.mp this)
theorem DrawnL.cmb(d:DrawnL h):∀c∈h.carts,c∈cN:=fun c hc=>by
 obtain⟨m,_,e⟩:=d.ct;rw[e] at hc;exact List.mem_of_mem_take hc
theorem DrawnL.good(d:DrawnL h):GoodH h:=by
 obtain⟨m,hm,e⟩:=d.ct;obtain⟨n1,n2⟩:=e1g m hm;rw[<-e] at n1 n2;have b4:=d.b4;refine⟨⟨d.li.fwd,⟨by omega,by omega,Nat.le_trans (c9j (m:=2) fun b hb=>(d.li.nd b hb).2) (by omega)⟩,fun c hc=>e1e c (d.cmb c hc),fun b hb=>e1f _ (d.nmb b hb),fun b hb=>⟨(d.li.lg b hb).1,(d.li.lg b hb).2.2⟩,n1,by omega,fun b hb=>(d.li.nd b hb).1,fun b hb z=>?_,fun b hb=>(c4p _ (d.nmb b hb)).1,fun b hb=>(c4p _ (d.nmb b hb)).2.1,fun z=>(d7h _ (d.cmb _ z)).1 rfl⟩,fun b hb=>.inl (d.li.hd b hb)⟩
 have:=d.li.hd b hb;rw[z] at this;cases this
theorem slen(a b:Str):(a++b).length=a.length+b.length:=Str.length_append ..
def glueL(z:Str):List Str->Str
 |[]=>Str.empty
 |y::ys=>ys.foldl (fun acc p=>acc++z++p) y
theorem b9p(z:Str):∀ys:List Str,Txt.join z ys=glueL z ys
 |[]=>rfl
 |y::ys=>by
  show Str.mk (ys.foldl (fun acc p=>acc++z.cps++p.cps) y.cps)=ys.foldl (fun acc p=>acc++z++p) y
  induction ys generalizing y with
  |nil=>rfl
  |cons x xs ih=>
   rw[List.foldl_cons,List.foldl_cons];exact ih (y++z++x)
theorem c9k(z:Str)(ys:List Str)(hz:z.length<=10)(hl:ys.length<=500)(hy:∀y∈ys,y.length<=1300):JoinOk z ys=true:=by
 have key:∀(ys:List Str) (a:Nat),(∀y∈ys,y.length<=1300)->ys.foldl (fun x1 x2=>x1+x2.length+z.length) a<=a+ys.length * 1310:=by
  intro ys
  induction ys with
  |nil=>intro a _;simp
  |cons y ys ih=>
   intro a h;have h1:=h y (.head _);have h2:=ih (a+y.length+z.length) fun x m=>h x (.tail _ m)
   rw[List.foldl_cons,List.length_cons];omega
 unfold JoinOk Builtin.Str.tooLong;have:=key ys 0 hy;rw[List.foldl_toArray];rw[Bool.not_eq_true',decide_eq_false_iff_not,sizeLine_eq];omega
theorem c3e{z:Str}{m:Nat}(hz:z.length<=1)(h:∀y∈ys,y.length<=m):(glueL z ys).length<=ys.length * (m+1):=by
 cases ys with
 |nil=>exact Nat.zero_le _
 |cons y ys=>
  have h0:=h y (.head _);have key:∀(ys:List Str) (a:Str),(∀y∈ys,y.length<=m)->(ys.foldl (fun acc p=>acc++z++p) a).length<=a.length+ys.length * (m+1):=by
   intro ys
   induction ys with
   |nil=>intro a _;simp
   |cons y ys ih=>
    intro a h;have h1:=h y (.head _);have h2:=ih (a++z++y) fun x m=>h x (.tail _ m)
    rw[slen,slen] at h2;rw[List.foldl_cons,List.length_cons,Nat.succ_mul];omega
  have:=key ys y fun x m=>h x (.tail _ m)
  rw[List.length_cons,Nat.succ_mul];show(ys.foldl (fun acc p=>acc++z++p) y).length<=_
  omega
theorem d9r(c:Nat)(p q:List Nat):∀r:List (List Nat),jl c ((p++q)::r)=p++jl c (q::r)
 |[]=>rfl
 |x::r=>by show(p++q)++c::jl c (x::r)=p++(q++c::jl c (x::r));rw[List.append_assoc]
theorem c9l(a b:Str):(a++b).cps.toList=a.cps.toList++b.cps.toList:=by rw[Str.cps_append,Array.toList_append]
theorem c3f(c:Nat):∀(ys:List Str) (a:Str),(ys.foldl (fun(acc p:Str)=>acc++(⟨#[c]⟩:Str)++p) a).cps.toList=jl c (a.cps.toList::cpsL ys)
 |[],a=>rfl
 |y::ys,a=>by
  rw[List.foldl_cons,c3f c ys,c9l,c9l,d9r,List.append_assoc];rfl
theorem c3g(c:Nat)(ps:List Str):(glueL ⟨#[c]⟩ ps).cps.toList=jl c (cpsL ps):=by
 cases ps with
 |nil=>rfl
 |cons p r=>exact c3f c r p
theorem d4g{c x:Nat}:∀{ps:List (List Nat)},x∈jl c ps->x=c\/∃p∈ps,x∈p
 |[],h=>by cases h
 |[p],h=>.inr ⟨p,.head _,h⟩
 |p::q::r,h=>by
  rcases List.mem_append.mp h with h|h
  ·exact .inr ⟨p,.head _,h⟩
  ·rcases List.mem_cons.mp h with h|h
   ·exact .inl h
   ·rcases d4g h with h|⟨y,hy,h⟩
    ·exact .inl h
    ·exact .inr ⟨y,.tail _ hy,h⟩
theorem b1p(c:Nat)(hc:c < 256)(ps:List Str)(h0:ps≠[])(hn:∀p∈ps,c∉p.cps.toList):a5b (glueL ⟨#[c]⟩ ps) ⟨#[c]⟩=ps:=c4f c hc _ ps h0 hn (c3g c ps)
theorem d9s:(" ":Str)=⟨#[32]⟩:=by decide +kernel
theorem e1h:("\n":Str)=⟨#[10]⟩:=by decide +kernel
def plW(x:Str):Bool:=decide (32∉x.cps.toList) && decide (10∉x.cps.toList) && decide (x.length<=40)
theorem b7g(h:plW x=true):32∉x.cps.toList/\10∉x.cps.toList/\x.length<=40:=by
 unfold plW at h;rw[Bool.and_eq_true,Bool.and_eq_true,decide_eq_true_eq,decide_eq_true_eq,decide_eq_true_eq] at h;exact⟨h.1.1,h.1.2,h.2⟩
structure PlL (ws:List Str):Prop where
 w:∀x∈ws,plW x=true
 l:ws.length<=30
def fixW(ws:List Str):List Str:=if ws=[] then[""] else ws
def lineS(ws:List Str):Str:=glueL " " ws
def textS(ls:List (List Str)):Str:=glueL "\n" (ls.map lineS)
theorem b4n(h:PlL ws):(lineS ws).length<=1230:=by
 have:=c3e (z:=" ") (m:=40) (by decide) (ys:=ws) fun y hy=>(b7g (h.w y hy)).2.2
 have:=h.l;unfold lineS;omega
theorem d2v(h:PlL ws):10∉(lineS ws).cps.toList:=by
 intro z;unfold lineS at z;rw[d9s,c3g] at z;rcases d4g z with z|⟨q,hq,z⟩
 ·omega
 ·obtain⟨w,hw,rfl⟩:=List.mem_map.mp hq;exact(b7g (h.w w hw)).2.1 z
theorem b1q(h:PlL ws):a8w [.frz (.str (lineS ws)),.frz (.str " ")]=some (.lst (((fixW ws).map D.str).map .frz)):=by
 have hl:=b4n h;have h2:=h.l;have hs:a5b (lineS ws) " "=fixW ws:=by
  unfold lineS fixW;split
  ·subst ws;exact b1p 32 (by decide) [""] (by simp) (by decide +kernel)
  ·rw[d9s];exact b1p 32 (by decide) _ ‹_› fun w hw=>(b7g (h.w w hw)).1
 have h3:(fixW ws).length<=31:=by unfold fixW;split;exact(by decide:1<=31);omega
 rw[c2n,hs,if_pos ⟨by decide,by omega,by omega⟩]
theorem b5r(h0:ls≠[])(hl:ls.length<=100)(h:∀ws∈ls,PlL ws):a8w [.frz (.str (textS ls)),.frz (.str "\n")]=some (.lst (((ls.map lineS).map D.str).map .frz)):=by
 have h1:=c3e (z:="\n") (m:=1230) (by decide) (ys:=ls.map lineS) fun y hy=>by
  obtain⟨l,hl,rfl⟩:=List.mem_map.mp hy;exact b4n (h l hl)
 rw[List.length_map] at h1;have hs:a5b (textS ls) "\n"=ls.map lineS:=by
  unfold textS;rw[e1h];refine b1p 10 (by decide) _ (fun z=>h0 (List.map_eq_nil_iff.mp z)) fun l hl=>?_
  obtain⟨x,hx,rfl⟩:=List.mem_map.mp hl;exact d2v (h x hx)
 have h4:(textS ls).length<=ls.length * 1231:=h1;rw[c2n,hs,if_pos ⟨by decide,by omega,by rw[List.length_map];omega⟩]
def isV(b:Bool):Option (O×Gm)->Bool
 |some (.frz (.bl c),[none])=>b == c
 |_=>false
theorem d4h{b:Bool}{r:Option (O×Gm)}(h:isV b r=true):r=some (.frz (.bl b),[none]):=by
 unfold isV at h;split at h
 ·rw[beq_iff_eq] at h;rw[h]
 ·cases h
def okN(n:Nat):Bool:=isV true (a3x [.frz (.str (strI n))]) && plW (strI n) && decide (0 < (strI n).length) && decide ((strI n).length<=4) && decide (intText? (strI n)=some (n:Int))
theorem d9t:∀n:Nat,n < 21->okN n=true:=by decide +kernel
theorem c3h(h0:0<=i)(h1:i < 21):a3x [.frz (.str (strI i))]=some (.frz (.bl true),[none])/\plW (strI i)=true/\strI i≠""/\oIntS [.frz (.str (strI i))]=some (.frz (.int i))/\(strI i).length<=4:=by
 obtain⟨n,rfl,hn⟩:=b1t (n:=21) h0 h1;have:=d9t n hn;unfold okN at this;rw[Bool.and_eq_true,Bool.and_eq_true,Bool.and_eq_true,Bool.and_eq_true,decide_eq_true_eq,decide_eq_true_eq,decide_eq_true_eq] at this;obtain⟨⟨⟨⟨a,b⟩,c⟩,d⟩,e⟩:=this;refine⟨d4h a,b,fun z=>?_,?_,d⟩
 ·rw[z] at c;revert c;decide
 ·rw[d6m,if_pos (by omega),e];rfl
theorem b4o(xs:List Str):oLen [fL xs]=some (.frz (.int (xs.length:Nat))):=by
 simp only[b1w,a1i,a9g,List.length_map,Option.map_some,Option.bind_some]
theorem a7x(x y:Str)(xs:List Str):oIx1 (fL (x::y::xs)) (.int 1)=some (.frz (.str y)):=by simp only[a8a,qq6,b0g,Option.map_some]
theorem c0u(x y z:Str)(xs:List Str):oIx1 (fL (x::y::z::xs)) (.int 2)=some (.frz (.str z)):=by simp only[a8a,qq6,d1s,Option.map_some]
theorem d7i(x y z w:Str)(xs:List Str):oIx1 (fL (x::y::z::w::xs)) (.int 3)=some (.frz (.str w)):=by simp only[a8a,qq6,b0h,Option.map_some]
abbrev isB(ws:List Str)(b:Bool):Prop:=a4i [fL ws]=some (.frz (.bl b),[none])
abbrev isC(ws:List Str)(b:Bool):Prop:=a4g [fL ws]=some (.frz (.bl b),[none])
theorem b7h(h:ws.length < 5):isB ws false:=by
 have hl:=b4o ws;have c5:decide ((ws.length:Int) < 5)=true:=by simp;omega
 unfold isB a4i a4s;simp only[a1v,qq6,qq7,qq2,qq3,qqf,Nat.reduceSub,qq8,List.append_nil,a0p,a0z,a5g,a4p,a1d,a0d,a0o,qq0,↓evBind,a0g,a0l,a0j,a0k,hl,a2x,a2n,c5,if_true,a2t,a1b,a4d,qqa,qqd,a3h,a3g]
theorem d2w(h:("":Str)∈ws):isB ws false:=by
 rcases Nat.lt_or_ge ws.length 5 with g|g
 ·exact b7h g
 ·have hl:=b4o ws;have c5:decide ((ws.length:Int) < 5)=false:=by simp;omega
  have hi:=b9g false "" ws;rw[List.contains_iff_mem.mpr h,if_neg Bool.false_ne_true] at hi;unfold isB a4i a4s;simp only[a1v,qq6,qq7,qq2,qq3,qqf,Nat.reduceSub,qq8,List.append_nil,a0p,a0z,a5g,a4p,a1d,a0d,a0o,qq0,↓evBind,a0g,a0l,a0j,a0k,hl,a2x,a2n,c5,if_true,qqe,hi,if_false,a2t,a1b,a4d,qqa,qqd,a3h,a3g]
theorem c9m(h:ws.length≠2):isC ws false:=by
 have hl:=b4o ws;have c2:((ws.length:Int) == 2)=false:=by rw[beq_eq_false_iff_ne];omega
 unfold isC a4g a4r;simp only[a1v,qq6,qq7,qq2,qq3,qqf,Nat.reduceSub,qq8,List.append_nil,a2t,a9e,a4p,a1d,a0d,a0o,qq0,↓evBind,a0g,a0l,a0j,a0k,hl,a2x,a2y,a1i,a1r,and_self,a2o,c2,if_true,qqe,if_false,a4d,qqa,qqd,a3h,a3g]
theorem d2x(h:("":Str)∈ws):isC ws false:=by
 by_cases g:ws.length=2
 ·have hl:=b4o ws;rw[g] at hl;have c2:(((2:Nat):Int) == 2)=true:=rfl;have hi:=b9g true "" ws;rw[List.contains_iff_mem.mpr h,if_pos rfl] at hi;unfold isC a4g a4r;simp only[a1v,qq6,qq7,qq2,qq3,qqf,Nat.reduceSub,qq8,List.append_nil,a2t,a9e,a4p,a1d,a0d,a0o,qq0,↓evBind,a0g,a0l,a0j,a0k,hl,a2x,a2y,a1i,a1r,and_self,a2o,c2,if_true,hi,Bool.not_true,qqe,a3c,a8a,↓evMap,if_false,a4d,qqa,qqd,a3h,a3g]
 ·exact c9m g
theorem c9n{w c:Str}(hw:w≠"")(hc:c≠""):isC [w,c] (w == "cart"):=by
 have hl:=b4o [w,c];rw[show(([w,c]:List Str).length:Int)=2 from rfl] at hl;have hi:=b9g true "" [w,c];have hm:("":Str)∉[w,c]:=by simp;exact⟨fun z=>hw z.symm,fun z=>hc z.symm⟩
 rw[show([w,c]:List Str).contains ""=false by rw[<-Bool.not_eq_true,List.contains_iff_mem];exact hm,if_pos rfl] at hi
 have i0:oIx1 (fL [w,c]) (.int 0)=some (.frz (.str w)):=a8m _ _;unfold isC;generalize([w,c]:List Str)=ws at *;unfold a4g a4r;simp only[a1v,qq6,qq7,qq2,qq3,qqf,Nat.reduceSub,qq8,List.append_nil,a2t,a9e,a4p,a1d,a0d,a0o,qq0,↓evBind,a0g,a0l,a0j,a0k,hl,a2x,a2y,a1i,a1r,and_self,a2o,beq_self_eq_true,if_true,hi,Bool.not_false,a3c,i0,a2q,a4e,a4d,qqa,qqd,a3h,a3g]
theorem c9o{r:List Str}{n b:Bool}(he:("":Str)∉w0::w1::w2::w3::w4::r)(hn:a3x [.frz (.str w2)]=some (.frz (.bl n),[none]))(hb:b=((w0 == "belt" || w0 == "ring") && n && w3 == "to")):isB (w0::w1::w2::w3::w4::r) b:=by
 have hi:=b9g false "" (w0::w1::w2::w3::w4::r);rw[show(w0::w1::w2::w3::w4::r).contains ""=false by rw[<-Bool.not_eq_true,List.contains_iff_mem];exact he,if_neg Bool.false_ne_true] at hi
 have hl:=b4o (w0::w1::w2::w3::w4::r);have c5:decide (((w0::w1::w2::w3::w4::r).length:Int) < 5)=false:=by simp;omega
 have i0:=a8m w0 (w1::w2::w3::w4::r);have i2:=c0u w0 w1 w2 (w3::w4::r);have i3:=d7i w0 w1 w2 w3 (w4::r);have i4:oInG false [.frz (.str w0),.tup [.frz (.str "belt"),.frz (.str "ring")]]=some (.frz (.bl (w0 == "belt" || w0 == "ring"))):=by
  have:=b9g false w0 ["belt","ring"];rw[if_neg Bool.false_ne_true] at this;rw[show(w0 == "belt" || w0 == "ring")=(["belt","ring"]:List Str).contains w0 by rw[List.contains_cons,List.contains_cons,List.contains_nil,Bool.or_false]]
  exact this
 unfold isB;generalize w0::w1::w2::w3::w4::r=ws at *;subst hb;generalize(w0 == "belt" || w0 == "ring")=q at *;cases q <;> cases n <;> unfold a4i a4s
 ·simp only[a1v,qq6,qq7,qq2,qq3,qqf,Nat.reduceSub,qq8,List.append_nil,a0p,a0z,a5g,a4p,a1d,a0d,a0o,qq0,↓evBind,a0g,a0l,a0j,a0k,hl,a2x,a2n,c5,if_true,qqe,hi,if_false,a2t,a1b,a9e,a3c,i0,a1s,Nat.reduceAdd,Nat.reduceLeDiff,a1e,a1c,i4,a5n,i2,a3d,a1i,a2v,hn,a7c,i3,a2y,a2q,and_self,a4e,a4d,qqa,qqd,a3h,a3g,Bool.false_and]
 ·simp only[a1v,qq6,qq7,qq2,qq3,qqf,Nat.reduceSub,qq8,List.append_nil,a0p,a0z,a5g,a4p,a1d,a0d,a0o,qq0,↓evBind,a0g,a0l,a0j,a0k,hl,a2x,a2n,c5,if_true,qqe,hi,if_false,a2t,a1b,a9e,a3c,i0,a1s,Nat.reduceAdd,Nat.reduceLeDiff,a1e,a1c,i4,a5n,i2,a3d,a1i,a2v,hn,a7c,i3,a2y,a2q,and_self,a4e,a4d,qqa,qqd,a3h,a3g,Bool.false_and]
 ·simp only[a1v,qq6,qq7,qq2,qq3,qqf,Nat.reduceSub,qq8,List.append_nil,a0p,a0z,a5g,a4p,a1d,a0d,a0o,qq0,↓evBind,a0g,a0l,a0j,a0k,hl,a2x,a2n,c5,if_true,qqe,hi,if_false,a2t,a1b,a9e,a3c,i0,a1s,Nat.reduceAdd,Nat.reduceLeDiff,a1e,a1c,i4,a5n,i2,a3d,a1i,a2v,hn,a7c,i3,a2y,a2q,and_self,a4e,a4d,qqa,qqd,a3h,a3g,Bool.and_false,Bool.false_and]
 ·simp only[a1v,qq6,qq7,qq2,qq3,qqf,Nat.reduceSub,qq8,List.append_nil,a0p,a0z,a5g,a4p,a1d,a0d,a0o,qq0,↓evBind,a0g,a0l,a0j,a0k,hl,a2x,a2n,c5,if_true,qqe,hi,if_false,a2t,a1b,a9e,a3c,i0,a1s,Nat.reduceAdd,Nat.reduceLeDiff,a1e,a1c,i4,a5n,i2,a3d,a1i,a2v,hn,a7c,i3,a2y,a2q,and_self,a4e,a4d,qqa,qqd,a3h,a3g,Bool.true_and]
def okW(x:Str):Prop:=plW x=true/\x≠""
structure OkB (b:Belt):Prop where
 nm:okW b.name
 ou:∀o∈b.outs,okW o
 o0:b.outs≠[]
 ol:b.outs.length<=20
 l0:0<=b.long
 l1:b.long < 21
inductive Ln where
 |b (x:Belt)
 |c (x:Str)
variable{p:Ln->Bool}{l:Ln}{ns:List Ln}
def Ln.w:Ln->List Str
 |.b x=>a1k x
 |.c x=>["cart",x]
def Ln.ok:Ln->Prop
 |.b x=>OkB x
 |.c x=>okW x
theorem d4i(b:Belt):plW (wrd b)=true/\wrd b≠"":=by
 unfold wrd;split
 ·decide +kernel
 ·decide +kernel
theorem b4z:plW "to"=true/\plW "cart"=true/\("to":Str)≠""/\("cart":Str)≠"":=by decide +kernel
theorem OkB.w{b:Belt}(h:OkB b):∀w∈a1k b,okW w:=by
 intro w hw;unfold a1k at hw;rcases List.mem_append.mp hw with z|z
 ·simp only[List.mem_cons,List.not_mem_nil,or_false] at z;rcases z with rfl|rfl|rfl|rfl
  ·exact d4i b
  ·exact h.nm
  ·have:=c3h h.l0 h.l1;exact⟨this.2.1,this.2.2.1⟩
  ·exact⟨b4z.1,b4z.2.2.1⟩
 ·exact h.ou w z
theorem Ln.words(h:l.ok):∀w∈l.w,okW w:=by
 cases l with
 |b b=>exact OkB.w h
 |c c=>
  intro w hw;rcases List.mem_cons.mp hw with rfl|hw
  ·exact⟨b4z.2.1,b4z.2.2.2⟩
  ·rcases List.mem_cons.mp hw with rfl|hw
   ·exact h
   ·cases hw
theorem Ln.ne:l.w≠[]:=by
 cases l with
 |b b=>exact fun z=>by cases z
 |c c=>exact fun z=>by cases z
theorem Ln.fix(l:Ln):fixW l.w=l.w:=if_neg Ln.ne
theorem Ln.pl(h:l.ok):PlL l.w:=by
 refine⟨fun x hx=>(Ln.words h x hx).1,?_⟩
 cases l with
 |b b=>
  have:=OkB.ol h;show(a1k b).length<=30;unfold a1k;rw[List.length_append];show 4+b.outs.length<=30;omega
 |c c=>exact(by decide:2<=30)
theorem e1s(h:∀w∈ws,okW w):("":Str)∉ws:=fun z=>(h _ z).2 rfl
theorem e1i(h:OkB b):isB (a1k b) true:=by
 have he:=e1s h.w;have hn:=(c3h h.l0 h.l1).1;unfold a1k at *;cases ho:b.outs with
 |nil=>exact absurd ho h.o0
 |cons o os=>
  rw[ho] at he;refine c9o he hn ?_;have:(wrd b == "belt" || wrd b == "ring")=true:=by
   unfold wrd;split <;> decide +kernel
  rw[this];decide +kernel
theorem d9u(c:Str):isB ["cart",c] false:=b7h (by decide:2 < 5)
theorem e1j{c:Str}(h:okW c):isC ["cart",c] true:=by
 have:=c9n b4z.2.2.2 h.2
 rwa [show(("cart":Str) == "cart")=true from beq_self_eq_true _] at this
theorem cut4(b:Belt):slO (fL (a1k b)) (some 4) none=some (.lst ((b.outs.map D.str).map .frz)):=by
 show some (O.lst ((cutD ((a1k b).map D.str) (some 4) none).map .frz))=_;have:cutD ((a1k b).map D.str) (some 4) none=b.outs.map D.str:=by
  unfold cutD;have e4:HT.sIx ((a1k b).map D.str).length 0 (some 4)=4:=by
   unfold HT.sIx a1k;simp
  have e5:HT.sIx ((a1k b).map D.str).length ((a1k b).map D.str).length none=((a1k b).map D.str).length:=rfl;rw[e4,e5];unfold a1k;simp;exact List.take_of_length_le (by simp)
 rw[this]
theorem c9p(h:OkB b)(s0 s2 a3 a5 s6:Option O)(bs:List O)(hl:bs.length < 1000):
  ∃b5,readB [s0,some (.lst bs),s2,a3,some (.frz (.str (lineS (a1k b)))),a5,s6]=some (.nx,[s0,some (.lst (bs++[fB b])),s2,a3,some (.frz (.str (lineS (a1k b)))),b5,s6]):=by
 have sb:=b1q (Ln.pl (l:=.b b) h);rw[Ln.fix] at sb;have sb:a8w [.frz (.str (lineS (a1k b))),.frz (.str " ")]=some (.lst (((a1k b).map D.str).map .frz)):=sb;have e1:=e1i h;have i0:oIx1 (fL (a1k b)) (.int 0)=some (.frz (.str (wrd b))):=a8m _ _;have i1:oIx1 (fL (a1k b)) (.int 1)=some (.frz (.str b.name)):=a7x _ _ _;have i2:oIx1 (fL (a1k b)) (.int 2)=some (.frz (.str (strI b.long))):=c0u _ _ _ _;have ei:=(c3h h.l0 h.l1).2.2.2.1;have eq:(wrd b == ("ring":Str))=b.ring:=by
  unfold wrd;cases b.ring with
  |true=>decide +kernel
  |false=>decide +kernel
 have sl:=cut4 b;have eb:D.tup [.str b.name,.int b.long,.bl b.ring,.lst (b.outs.map D.str)]=beltD b:=rfl;have ap:a2g (.lst bs) [.frz (beltD b)]=some (.lst (bs++[fB b]),.frz .non):=if_pos (by omega)
 unfold isB at e1;generalize a1k b=ws at *;generalize lineS ws=ln at *;generalize beltD b=bb at *;generalize b.outs.map D.str=bo at *;refine⟨some (fL ws),?_⟩;unfold readB;simp only[a0p,a1p,a1a,a6v,a0o,qq1,qq0,↓evBind,a0d,a2x,a0g,a0l,a0j,a0k,sb,a4j,a4z,qq2,qq3,qqf,Nat.reduceAdd,Nat.reduceLT,qq5,qq4,if_true,a0z,a4y,a5n,a3d,a1i,a2v,qq6,qq7,e1,a7c,a4q,a2h,a4k,a1s,a1d,a3c,i1,i2,ei,i0,a2y,a2q,and_self,a4e,eq,a4v,a5v,a5x,↓evMap,a5u,sl,Nat.reduceLeDiff,a1e,a1c,b8m,eb,ap]
theorem c9q{c:Str}(h:okW c)(s0 s1 a3 a5 s6:Option O)(bs:List O)(hl:bs.length < 1000):
  ∃b5,readB [s0,s1,some (.lst bs),a3,some (.frz (.str (lineS ["cart",c]))),a5,s6]=some (.nx,[s0,s1,some (.lst (bs++[fS c])),a3,some (.frz (.str (lineS ["cart",c]))),b5,s6]):=by
 have sb:=b1q (Ln.pl (l:=.c c) h);rw[Ln.fix] at sb;have sb:a8w [.frz (.str (lineS ["cart",c])),.frz (.str " ")]=some (.lst (((["cart",c]:List Str).map D.str).map .frz)):=sb;have e1:=d9u c;have e2:=e1j h;have i1:oIx1 (fL ["cart",c]) (.int 1)=some (.frz (.str c)):=a7x _ _ _;have ap:a2g (.lst bs) [.frz (.str c)]=some (.lst (bs++[.frz (.str c)]),.frz .non):=if_pos (by omega)
 unfold isB at e1;unfold isC at e2;generalize([("cart":Str),c]:List Str)=ws at *;generalize lineS ws=ln at *;refine⟨some (fL ws),?_⟩;unfold readB;simp only[a0p,a1p,a1a,a6v,a0o,qq1,qq0,↓evBind,a0d,a2x,a0g,a0l,a0j,a0k,sb,a4j,a4z,qq2,qq3,qqf,Nat.reduceAdd,Nat.reduceLT,qq5,qq4,if_true,a0z,a4y,a5n,a3d,a1i,a2v,qq6,qq7,e1,a7c,a4q,qqe,a2h,a4k,e2,a1d,a3c,i1,a1e,a1c,ap,if_false]
structure BadL (ws:List Str):Prop where
 pl:PlL ws
 nb:isB (fixW ws) false
 nc:isC (fixW ws) false
theorem d2y(h:BadL ws)(i:Int)(s0 s1 s2 a5 s6:Option O):
  ∃b5,readB [s0,s1,s2,some (.frz (.int i)),some (.frz (.str (lineS ws))),a5,s6]=some (.rt (.frz (.exc 92 (some i))),[s0,s1,s2,some (.frz (.int i)),some (.frz (.str (lineS ws))),b5,s6]):=by
 have sb:=b1q h.pl;have e1:=h.nb;have e2:=h.nc;unfold isB at e1;unfold isC at e2;generalize fixW ws=wf at *;generalize lineS ws=ln at *;have rl:∀a,b6p 92 (gVar 3) [s0,s1,s2,some (.frz (.int i)),some (.frz (.str ln)),a,s6]=some (.rt (.frz (.exc 92 (some i))),[s0,s1,s2,some (.frz (.int i)),some (.frz (.str ln)),a,s6]):=fun _=>rfl
 refine⟨some (fL wf),?_⟩;unfold readB;simp only[a0p,a1p,a1a,a6v,a0o,qq1,qq0,↓evBind,a0d,a2x,a0g,a0l,a0j,a0k,sb,a4j,a4z,qq2,qq3,qqf,Nat.reduceAdd,Nat.reduceLT,qq5,qq4,if_true,a0z,a4y,a5n,a3d,a1i,a2v,qq6,qq7,e1,a7c,a4q,qqe,a2h,a4k,e2,rl,if_false]
def lnB:List Ln->List Belt
 |[]=>[]
 |.b x::r=>x::lnB r
 |.c _::r=>lnB r
def lnC:List Ln->List Str
 |[]=>[]
 |.b _::r=>lnC r
 |.c x::r=>x::lnC r
theorem a9n:∀(p q:List Ln),lnB (p++q)=lnB p++lnB q
 |[],_=>rfl
 |.b x::r,q=>by show x::lnB (r++q)=x::(lnB r++lnB q);rw[a9n]
 |.c _::r,q=>a9n r q
theorem a9o:∀(p q:List Ln),lnC (p++q)=lnC p++lnC q
 |[],_=>rfl
 |.c x::r,q=>by show x::lnC (r++q)=x::(lnC r++lnC q);rw[a9o]
 |.b _::r,q=>a9o r q
theorem c9r:∀(p:List Ln),(lnB p).length+(lnC p).length<=p.length
 |[]=>Nat.le_refl _
 |.b x::r=>by have:=c9r r;show(lnB r).length+1+(lnC r).length<=r.length+1;omega
 |.c _::r=>by have:=c9r r;show(lnB r).length+((lnC r).length+1)<=r.length+1;omega
def Ln.d(l:Ln):D:=.str (lineS l.w)
def rst(s0 s6:Option O)(pre:List Ln)(Γ:Gm):Prop:=∃b3 b4 b5,Γ=[s0,some (.lst ((lnB pre).map fB)),some (.lst ((lnC pre).map fS)),b3,b4,b5,s6]
theorem b9q{s6:Option O}{q:List Ln}{x:Ln}(hq:q.length<=200)(hx:x.ok)(h:rst s0 s6 q Γ):∃Γ2,(readG (.tup [.int i,x.d]) Γ).bind readB=some (.nx,Γ2)/\rst s0 s6 (q++[x]) Γ2:=by
 obtain⟨b3,b4,b5,rfl⟩:=h;have h1:=c9r q;unfold rst;rw[a9n,a9o];cases x with
 |b x=>
  obtain⟨c5,e⟩:=c9p hx s0 (some (.lst ((lnC q).map fS))) (some (.frz (.int i))) b5 s6 ((lnB q).map fB) (by rw[List.length_map];omega)
  refine⟨_,(show _=readB [s0,some (.lst ((lnB q).map fB)),some (.lst ((lnC q).map fS)),some (.frz (.int i)),some (.frz (.str (lineS (a1k x)))),b5,s6] from rfl).trans e,some (.frz (.int i)),some (.frz (.str (lineS (a1k x)))),c5,?_⟩;simp[lnB,lnC]
 |c x=>
  obtain⟨c5,e⟩:=c9q hx s0 (some (.lst ((lnB q).map fB))) (some (.frz (.int i))) b5 s6 ((lnC q).map fS) (by rw[List.length_map];omega)
  refine⟨_,(show _=readB [s0,some (.lst ((lnB q).map fB)),some (.lst ((lnC q).map fS)),some (.frz (.int i)),some (.frz (.str (lineS ["cart",x]))),b5,s6] from rfl).trans e,some (.frz (.int i)),some (.frz (.str (lineS ["cart",x]))),c5,?_⟩;simp[lnB,lnC]
theorem c9s{ls:List Ln}(hlen:ls.length<=60)(hk:∀l∈ls,l.ok)(s0 s6:Option O):∃Γ,a2m readG readB (enumD (((ls.map Ln.w).map lineS).map D.str)) [s0,some (.lst []),some (.lst []),none,none,none,s6]=some (.nx,Γ)/\rst s0 s6 ls Γ:=by
 have e0:((ls.map Ln.w).map lineS).map D.str=ls.map Ln.d:=by rw[List.map_map,List.map_map];rfl
 rw[e0];exact b9j Ln.d (rst s0 s6) ls _ ⟨none,none,none,rfl⟩ fun q x post Γ i eq hi h=>b9q (by have:=congrArg List.length eq;rw[List.length_append] at this;omega) (hk x (by rw[eq];simp)) h
theorem c9t{ls:List Ln}{rest:List (List Str)}(hlen:ls.length<=60)(hk:∀l∈ls,l.ok)(hb:BadL ws)(s0 s6:Option O):∃Γ,a2m readG readB (enumD (((ls.map Ln.w++ws::rest).map lineS).map D.str)) [s0,some (.lst []),some (.lst []),none,none,none,s6]=some (.rt (.frz (.exc 92 (some (ls.length:Int)))),Γ)/\∃b1 b2 b3 b4 b5,Γ=[s0,b1,b2,b3,b4,b5,s6]:=by
 have e0:((ls.map Ln.w++ws::rest).map lineS).map D.str=ls.map Ln.d++D.str (lineS ws)::(rest.map lineS).map D.str:=by rw[List.map_append,List.map_append,List.map_map,List.map_map];rfl
 rw[e0];refine b5q Ln.d (rst s0 s6) _ (fun Γ=>∃b1 b2 b3 b4 b5,Γ=[s0,b1,b2,b3,b4,b5,s6]) ls _ _ _ ⟨none,none,none,rfl⟩ (fun q x post Γ i eq hi h=>b9q (by have:=congrArg List.length eq;rw[List.length_append] at this;omega) (hk x (by rw[eq];simp)) h) ?_
 rintro Γ i hi ⟨b3,b4,b5,rfl⟩;obtain⟨c5,e⟩:=d2y hb i s0 (some (.lst ((lnB ls).map fB))) (some (.lst ((lnC ls).map fS))) b5 s6;exact⟨_,(show _=readB [s0,some (.lst ((lnB ls).map fB)),some (.lst ((lnC ls).map fS)),some (.frz (.int i)),some (.frz (.str (lineS ws))),b5,s6] from rfl).trans (by rw[e,hi]),_,_,_,_,_,rfl⟩
theorem dl_B(bs:List Belt):O.dl (bs.map fB)=bs.map beltD:=by
 rw[show bs.map fB=(bs.map beltD).map O.frz by rw[List.map_map];rfl,a8u]
structure LnsOk (ls:List Ln):Prop where
 ne:ls≠[]
 len:ls.length<=60
 ok:∀l∈ls,l.ok
theorem LnsOk.split{ls:List Ln}(h:LnsOk ls):a8w [.frz (.str (textS (ls.map Ln.w))),.frz (.str "\n")]=some (.lst ((((ls.map Ln.w).map lineS).map D.str).map .frz)):=
 b5r (fun z=>h.ne (List.map_eq_nil_iff.mp z)) (by rw[List.length_map];have:=h.len;omega) fun ws hw=>by
  obtain⟨l,hl,rfl⟩:=List.mem_map.mp hw;exact Ln.pl (h.ok l hl)
theorem c9u{ls:List Ln}(h:LnsOk ls){r o:D}(hr:a0y [.frz (a3j ⟨lnB ls,lnC ls⟩)]=some (.frz r,[none]))(ho:(r=.bl true/\o=a3j ⟨lnB ls,lnC ls⟩)\/∃C,r=.exc C none/\o=r):a3u [.frz (.str (textS (ls.map Ln.w)))]=some (.frz o,[none]):=by
 have sH:=h.split;obtain⟨Γ,el,b3,b4,b5,rfl⟩:=c9s h.len h.ok (some (.frz (.str (textS (ls.map Ln.w))))) none;unfold a3j hT at *;dsimp only at *;have dB:=dl_B (lnB ls);have dC:=e1r (lnC ls);unfold a3u;unfold a7a;generalize textS (ls.map Ln.w)=tx at *;generalize(ls.map Ln.w).map lineS=lt at *;rcases ho with⟨rfl,rfl⟩|⟨C,rfl,rfl⟩
 ·simp only[a1v,qq6,qq7,qq2,qq3,qqf,Nat.reduceSub,qq9,qq8,qqb,qqc,a0p,a1p,a1s,a0g,↓evBind,Nat.reduceLeDiff,a1c,if_true,Nat.reduceAdd,Nat.reduceLT,qq5,qq4,b3p,a1a,a6v,a0o,qq0,a0d,a2x,a0l,a0j,a0k,sH,a4j,a4z,el,qq1,dB,dC,a1e,b8m,a3d,a1i,a2v,a4m,a1f,a0x,a0w,hr,a2c,a2b,c8d,c8c,c8e,a4d,qqa,qqd,a3h,a3g]
 ·simp only[a1v,qq6,qq7,qq2,qq3,qqf,Nat.reduceSub,qq9,qq8,qqb,qqc,a0p,a1p,a1s,a0g,↓evBind,Nat.reduceLeDiff,a1c,if_true,Nat.reduceAdd,Nat.reduceLT,qq5,qq4,b3p,a1a,a6v,a0o,qq0,a0d,a2x,a0l,a0j,a0k,sH,a4j,a4z,el,qq1,dB,dC,a1e,b8m,a3d,a1i,a2v,a4m,a1f,a0x,a0w,hr,a2c,a2b,a5y,a4d,qqa,qqd,a3h,a3g]
theorem c9v{ls:List Ln}{rest:List (List Str)}(hk:∀l∈ls,l.ok)(hb:BadL ws)(hl:(ls.map Ln.w++ws::rest).length<=60)(hp:∀x∈rest,PlL x):a3u [.frz (.str (textS (ls.map Ln.w++ws::rest)))]=some (.frz (.exc 92 (some (ls.length:Int))),[none]):=by
 have sH:=b5r (ls:=ls.map Ln.w++ws::rest) (by simp) (by omega) fun x hx=>by
  rcases List.mem_append.mp hx with hx|hx
  ·obtain⟨l,hl,rfl⟩:=List.mem_map.mp hx;exact Ln.pl (hk l hl)
  ·rcases List.mem_cons.mp hx with rfl|hx
   ·exact hb.pl
   ·exact hp x hx
 have l60:ls.length<=60:=by rw[List.length_append,List.length_map] at hl;omega
 obtain⟨Γ,el,b1,b2,b3,b4,b5,rfl⟩:=c9t (rest:=rest) l60 hk hb (some (.frz (.str (textS (ls.map Ln.w++ws::rest))))) none;generalize ls.map Ln.w++ws::rest=lw at *;generalize(ls.length:Int)=li at *;unfold a3u;unfold a7a;generalize textS lw=tx at *;generalize lw.map lineS=lt at *;simp only[a1v,qq6,qq7,qq2,qq3,qqf,Nat.reduceSub,qq9,qq8,qqb,qqc,a0p,a1p,a1s,a0g,↓evBind,Nat.reduceLeDiff,a1c,if_true,Nat.reduceAdd,Nat.reduceLT,qq5,qq4,b3p,a1a,a6v,a0o,qq0,a0d,a2x,a0l,a0j,a0k,sH,a4j,a4z,el,a4d,qqa,qqd,a3h,a3g]
abbrev stW(X:List O)(k how c:Int)(w:List Str)(a5 a6:Option O):Gm:=[some (.lst X),some (.frz (.int k)),some (.frz (.int how)),some (.frz (.int c)),some (fL w),a5,a6]
abbrev Idle(f:GS)(Γ:Gm):Prop:=f Γ=some (.nx,Γ)
theorem b4p{h:Int}(n:h≠j)(e:v Γ=some (.own (.frz (.int h)),Γ)):Idle (gsIf (gT (gBin oEq v (gC (.int j)))) X gsNil) Γ:=by
 have n:(h == j)=false:=by rw[beq_eq_false_iff_ne];exact n
 unfold Idle;simp only[a0z,a4p,a1d,a0d,e,↓evBind,a2x,a0g,a0l,a0j,a0k,a2y,a1i,a1r,and_self,a2o,n,if_true,qqe,a1b,if_false]
theorem d7j{h:Int}{t:GT}{Y:GS}(n:h≠j)(e:v Γ=some (.own (.frz (.int h)),Γ)):Idle (gsIf (gAndT (gT (gBin oEq v (gC (.int j)))) t) X (gsIf (gT (gBin oEq v (gC (.int j)))) Y gsNil)) Γ:=by
 have n:(h == j)=false:=by rw[beq_eq_false_iff_ne];exact n
 unfold Idle;simp only[a0z,a5t,a4p,a1d,a0d,e,↓evBind,a2x,a0g,a0l,a0j,a0k,a2y,a1i,a1r,and_self,a2o,n,if_true,qqe,if_false,a1b]
section
variable {X:List O} {k h c:Int} {w:List Str} {a5 a6:Option O}
theorem sk0(n:h≠0:=by decide):Idle bw0 (stW X k h c w a5 a6):=b4p n rfl
theorem sk1(n:h≠1:=by decide):Idle bw1 (stW X k h c w a5 a6):=b4p n rfl
theorem sk2(n:h≠2:=by decide):Idle bw2 (stW X k h c w a5 a6):=b4p n rfl
theorem sk3(n:h≠3:=by decide):Idle bw3 (stW X k h c w a5 a6):=b4p n rfl
theorem sk4(n:h≠4:=by decide):Idle bw4 (stW X k h c w a5 a6):=d7j n rfl
theorem sk5(n:h≠5:=by decide):Idle bw5 (stW X k h c w a5 a6):=d7j n rfl
theorem sk6(n:h≠6:=by decide):Idle bw6 (stW X k h c w a5 a6):=d7j n rfl
end
theorem b1r(w:List Str)(i:Int)(h:0<=i):slO (fL w) none (some i)=some (.lst (((w.take i.toNat).map D.str).map .frz)):=by
 obtain⟨n,rfl⟩:=Int.eq_ofNat_of_zero_le h;show some (O.lst ((cutD (w.map D.str) none (some (n:Int))).map .frz))=_;rw[c8q,<-List.map_take];rfl
theorem b7i(w:List Str)(i:Int)(h:0<=i):slO (fL w) (some i) none=some (.lst (((w.drop i.toNat).map D.str).map .frz)):=by
 obtain⟨n,rfl⟩:=Int.eq_ofNat_of_zero_le h;show some (O.lst ((cutD (w.map D.str) (some (n:Int)) none).map .frz))=_;have:cutD (w.map D.str) (some (n:Int)) none=(w.drop n).map D.str:=by
  unfold cutD;have e4:HT.sIx (w.map D.str).length 0 (some (n:Int))=min n w.length:=by
   unfold HT.sIx;simp;omega
  have e5:HT.sIx (w.map D.str).length (w.map D.str).length none=(w.map D.str).length:=rfl;rw[e4,e5,List.map_drop];rw[List.take_of_length_le (by simp)]
  rcases Nat.le_total n w.length with z|z
  ·rw[Nat.min_eq_left z]
  ·rw[Nat.min_eq_right z,List.drop_of_length_le (by simp),List.drop_of_length_le (by simp;omega)]
 rw[this];rfl
theorem b4q(a b:List Str)(h:a.length+b.length<=1000000):oAdd [.lst ((a.map D.str).map .frz),.lst ((b.map D.str).map .frz)]=some (.lst (((a++b).map D.str).map .frz)):=by
 have l:∀a:List Str,listD (.lst ((a.map D.str).map .frz))=some (a.map D.str):=fun a=>a6c _
 rw[c7c,l,l];simp only[Option.bind_some,List.length_map,h,if_true,List.map_append]
theorem d4j(a b:List Str)(h:a.length+b.length<=1000000):oAdd [fL a,.lst ((b.map D.str).map .frz)]=some (.lst (((a++b).map D.str).map .frz)):=by
 have l:listD (.lst ((b.map D.str).map .frz))=some (b.map D.str):=a6c _;rw[b0e,l];simp only[Option.bind_some,List.length_map,h,if_true,List.map_append]
theorem b5s{k:Int}(h0:0<=k)(h1:k < xs.length):∃x∈xs,atI ((xs.map D.str).map .frz) k=some (fS x):=by
 refine⟨xs.getD k.toNat "",?_,?_⟩
 ·rw[List.getD_eq_getElem?_getD,List.getElem?_eq_getElem (by omega),Option.getD_some]
  exact List.getElem_mem _
 ·exact c8t h0 h1
theorem d9v(h:k < ls.length)(ws:List Str):mSet (.lst (ls.map fL)) [.frz (.lst (ws.map D.str)),.frz (.int (k:Int))]=some (.lst ((ls.set k ws).map fL),.frz .non):=by
 rw[a8d,c7h _ _ (by rw[List.length_map];exact h),List.map_set]
 rfl
theorem Ln.wlen(h:l.ok):l.w.length<=24:=by
 cases l with
 |b b=>
  have:=OkB.ol h;show(a1k b).length<=24;unfold a1k;rw[List.length_append];show 4+b.outs.length<=24;omega
 |c c=>exact(by decide:2<=24)
theorem Ln.plo(h:l.ok)(hw:∀x∈ws,x∈l.w\/plW x=true)(hl:ws.length<=30):PlL ws:=⟨fun x hx=>by
 rcases hw x hx with z|z
 ·exact(Ln.words h x z).1
 ·exact z,hl⟩
theorem b0z(p:PlL ws)(h:ws.length < 5)(h2:ws.length≠2):BadL ws:=by
 have:(fixW ws).length < 5/\(fixW ws).length≠2:=by
  unfold fixW;split
  ·exact(by decide:1 < 5/\1≠2)
  ·exact⟨h,h2⟩
 exact⟨p,b7h this.1,c9m this.2⟩
theorem b9r(p:PlL ws)(h:("":Str)∈ws):BadL ws:=by
 have e:fixW ws=ws:=if_neg fun z=>by rw[z] at h;cases h
 exact⟨p,by rw[e];exact d2w h,by rw[e];exact d2x h⟩
theorem d2z{r:List Str}{n:Bool}(p:PlL (w0::w1::w2::w3::w4::r))(he:("":Str)∉w0::w1::w2::w3::w4::r)(hn:a3x [.frz (.str w2)]=some (.frz (.bl n),[none]))(hb:((w0 == "belt" || w0 == "ring") && n && w3 == "to")=false):BadL (w0::w1::w2::w3::w4::r):=
 ⟨p,c9o he hn hb.symm,c9m (by show _+1+1+1+1+1≠2;omega)⟩
abbrev putW(L:List O)(k:Int)(ws:List Str)(N:List O):Prop:=mSet (.lst L) [.frz (.lst (ws.map D.str)),.frz (.int k)]=some (.lst N,.frz .non)
section
variable {L N:List O} {k c:Int} {w:List Str} {x:Str} {a5 a6:Option O}
theorem do0(hl:w.length<=30)(hx:atI (((["Belt","belts","carts","rin","to"]:List Str).map D.str).map .frz) (c % 5)=some (fS x))(hp:putW L k (x::w.drop 1) N):bw0 (stW L k 0 c w a5 a6)=some (.nx,stW N k 0 c w a5 a6):=by
 have hx:atI ([.frz (.str "Belt"),.frz (.str "belts"),.frz (.str "carts"),.frz (.str "rin"),.frz (.str "to")]:List O) (c % 5)=some (.frz (.str x)):=hx;have s:slO (fL w) (some 1) none=some (.lst (((w.drop 1).map D.str).map .frz)):=b7i w 1 (by decide)
 have a:oAdd [.lst [.frz (.str x)],.lst (((w.drop 1).map D.str).map .frz)]=some (.lst (((x::w.drop 1).map D.str).map .frz)):=b4q [x] (w.drop 1) (by simp;omega)
 generalize x::w.drop 1=w2 at *;generalize w.drop 1=w1 at *;unfold bw0 stW;simp only[a0z,a4p,a1d,a0d,a0o,qq1,qq0,↓evBind,a2x,a0g,a0l,a0j,a0k,a2y,a1i,a1r,and_self,a2o,beq_self_eq_true,if_true,a5f,a1a,a1s,qq2,qq3,qqf,Nat.reduceAdd,Nat.reduceLeDiff,a1e,a1c,a2n,Int.reduceLT,decide_true,a3c,a5q,hx,a4l,a4v,a5v,a5x,↓evMap,a5u,s,a,a4j,a4z,hp,qq4,a1b]
theorem do1b{h:Str}(i0:oIx1 (fL w) (.int 0)=some (fS h))(hc:(h == "cart")=false)(c0:0<=c)(hp:putW L k (w.take (c % 2 * 2+1).toNat) N):bw1 (stW L k 1 c w a5 a6)=some (.nx,stW N k 1 c w a5 a6):=by
 have m:oMulA [.frz (.int (c % 2)),.frz (.int 2)]=some (.frz (.int (c % 2 * 2))):=by rw[a9f,if_pos (.inr (by decide))]
 have s:=b1r w (c % 2 * 2+1) (by omega)
 generalize w.take (c % 2 * 2+1).toNat=w1 at *;unfold bw1 stW;simp only[a0z,a4p,a1d,a0d,a0o,qq1,qq0,↓evBind,a2x,a0g,a0l,a0j,a0k,a2y,a1i,a1r,and_self,a2o,beq_self_eq_true,if_true,a0p,a5f,a1a,a4v,a5u,a5v,a2n,Int.reduceLT,decide_true,m,a5w,a5x,↓evMap,s,a4j,a4z,hp,qq4,a3c,i0,a2q,a4e,hc,qqe,a1s,qq2,qq3,qqf,Nat.reduceLeDiff,a1e,a1c,b0e,b0d,c7b,c7a,a1b,if_false]
theorem do1c{N1:List O}(i0:oIx1 (fL w) (.int 0)=some (fS "cart"))(hl:w.length<=30)(c0:0<=c)(hp:putW L k (w.take (c % 2 * 2+1).toNat) N1)(hp2:putW N1 k (w++(["to"]:List Str)) N):bw1 (stW L k 1 c w a5 a6)=some (.nx,stW N k 1 c w a5 a6):=by
 have m:oMulA [.frz (.int (c % 2)),.frz (.int 2)]=some (.frz (.int (c % 2 * 2))):=by rw[a9f,if_pos (.inr (by decide))]
 have s:=b1r w (c % 2 * 2+1) (by omega)
 have a:oAdd [fL w,.lst [.frz (.str "to")]]=some (.lst (((w++(["to"]:List Str)).map D.str).map .frz)):=d4j w ["to"] (by simp;omega)
 generalize w.take (c % 2 * 2+1).toNat=w1 at *;generalize w++(["to"]:List Str)=w2 at *;unfold bw1 stW;simp only[a0z,a4p,a1d,a0d,a0o,qq1,qq0,↓evBind,a2x,a0g,a0l,a0j,a0k,a2y,a1i,a1r,and_self,a2o,beq_self_eq_true,if_true,a0p,a5f,a1a,a4v,a5u,a5v,a2n,Int.reduceLT,decide_true,m,a5w,a5x,↓evMap,s,a4j,a4z,hp,qq4,a3c,i0,a2q,a4e,a1s,qq2,qq3,qqf,Nat.reduceLeDiff,a1e,a1c,a,hp2,a1b]
theorem do2(hl:(w.length:Int)=n)(h30:w.length<=30)(c0:0<=c)(hp:putW L k (w.take (c % (n+1)).toNat++([""]:List Str)++w.drop (c % (n+1)).toNat) N):∃b5,bw2 (stW L k 2 c w a5 a6)=some (.nx,stW N k 2 c w b5 a6):=by
 have i0:0<=c % (n+1):=Int.emod_nonneg _ (by omega)
 have l:=b4o w;rw[hl] at l;have md:decide (0 < n+1)=true:=by rw[decide_eq_true_eq];omega
 refine⟨some (.frz (.int (c % (n+1)))),?_⟩;generalize hi:c % (n+1)=i at *;have s1:=b1r w i i0;have s2:=b7i w i i0;have a1:oAdd [.lst (((w.take i.toNat).map D.str).map .frz),.lst [.frz (.str "")]]=some (.lst (((w.take i.toNat++([""]:List Str)).map D.str).map .frz)):=b4q _ [""] (by simp;omega)
 have a2:=b4q (w.take i.toNat++([""]:List Str)) (w.drop i.toNat) (by simp;omega)
 generalize w.take i.toNat++([""]:List Str)++w.drop i.toNat=w3 at *;generalize w.take i.toNat++([""]:List Str)=w2 at *;generalize w.take i.toNat=w1 at *;generalize w.drop i.toNat=w0 at *;unfold bw2 stW;simp only[a0z,a4p,a1d,a0d,a0o,qq1,qq0,↓evBind,a2x,a0g,a0l,a0j,a0k,a2y,a1i,a1r,and_self,a2o,beq_self_eq_true,if_true,a0p,a1p,l,a5w,a2n,md,hi,qq2,qq3,qqf,Nat.reduceAdd,Nat.reduceLT,qq5,qq4,a5f,a1a,a4v,a5u,a5v,a5x,↓evMap,s1,a1s,Nat.reduceLeDiff,a1e,a1c,a1,s2,a2,a4j,a4z,hp,a1b]
theorem do3(hp:putW L k ([]:List Str) N):bw3 (stW L k 3 c w a5 a6)=some (.nx,stW N k 3 c w a5 a6):=by
 have hp:mSet (.lst L) [.frz (.lst []),.frz (.int k)]=some (.lst N,.frz .non):=hp;unfold bw3 stW;simp only[a0z,a4p,a1d,a0d,a0o,qq1,qq0,↓evBind,a2x,a0g,a0l,a0j,a0k,a2y,a1i,a1r,and_self,a2o,beq_self_eq_true,if_true,a5f,a1a,a1s,qq3,Nat.reduceLeDiff,a1c,a4j,a2v,hp,qq4,a1b]
theorem do4b{h:Str}(i0:oIx1 (fL w) (.int 0)=some (fS h))(hc:(h == "cart")=false)(hp:putW L k (w.take 4) N):bw4 (stW L k 4 c w a5 a6)=some (.nx,stW N k 4 c w a5 a6):=by
 have s:slO (fL w) none (some 4)=some (.lst (((w.take 4).map D.str).map .frz)):=b1r w 4 (by decide)
 generalize w.take 4=w1 at *;unfold bw4 stW;simp only[a0z,a5t,a4p,a1d,a0d,a0o,qq1,qq0,↓evBind,a2x,a0g,a0l,a0j,a0k,a2y,a1i,a1r,and_self,a2o,beq_self_eq_true,if_true,a3c,i0,a2q,a4e,hc,qqe,a5f,a1a,a1s,qq2,qq3,qqf,Nat.reduceLeDiff,a1e,a1c,a4j,a3d,a2v,a8d,↓evMap,a4v,a5u,a5v,a5x,s,a4z,hp,qq4,a1b,if_false]
theorem do4c(i0:oIx1 (fL w) (.int 0)=some (fS "cart"))(hp:putW L k (["cart"]:List Str) N):bw4 (stW L k 4 c w a5 a6)=some (.nx,stW N k 4 c w a5 a6):=by
 have hp:mSet (.lst L) [.frz (.lst [.str "cart"]),.frz (.int k)]=some (.lst N,.frz .non):=hp;unfold bw4 stW;simp only[a0z,a5t,a4p,a1d,a0d,a0o,qq1,qq0,↓evBind,a2x,a0g,a0l,a0j,a0k,a2y,a1i,a1r,and_self,a2o,beq_self_eq_true,if_true,a3c,i0,a2q,a4e,a5f,a1a,a1s,qq2,qq3,qqf,Nat.reduceLeDiff,a1e,a1c,a4j,a3d,a2v,hp,qq4,a4v,a5u,a5v,a5x,↓evMap,b8l,a4z,a8d,a1b]
theorem do5c(i0:oIx1 (fL w) (.int 0)=some (fS "cart"))(hp:putW L k (["cart",""]:List Str) N):bw5 (stW L k 5 c w a5 a6)=some (.nx,stW N k 5 c w a5 a6):=by
 have hp:mSet (.lst L) [.frz (.lst [.str "cart",.str ""]),.frz (.int k)]=some (.lst N,.frz .non):=hp;unfold bw5 stW;simp only[a0z,a5t,a4p,a1d,a0d,a0o,qq1,qq0,↓evBind,a2x,a0g,a0l,a0j,a0k,a2y,a1i,a1r,and_self,a2o,beq_self_eq_true,if_true,a3c,i0,a2q,a4e,a5f,a1a,a1s,qq2,qq3,qqf,Nat.reduceAdd,Nat.reduceLeDiff,a1e,a1c,a4j,a3d,a2v,hp,qq4,a0p,a1p,a8a,↓evMap,a1b]
def nums(t:Str):List Str:=[("0":Str)++t,("+":Str)++t,"-1","1234567890",t++("a":Str),"00","x"]
theorem do5b{h:Str}(hl:w.length<=30)(i0:oIx1 (fL w) (.int 0)=some (fS h))(hc:(h == "cart")=false)(i2:oIx1 (fL w) (.int 2)=some (fS t))(ht:t.length<=4)(hx:atI (((nums t).map D.str).map .frz) (c % 7)=some (fS x))(hp:putW L k (w.take 2++[x]++w.drop 3) N):∃b6,bw5 (stW L k 5 c w a5 a6)=some (.nx,stW N k 5 c w a5 b6):=by
 have hx:atI ([.frz (.str (("0":Str)++t)),.frz (.str (("+":Str)++t)),.frz (.str "-1"),.frz (.str "1234567890"),.frz (.str (t++("a":Str))),.frz (.str "00"),.frz (.str "x")]:List O) (c % 7)=some (.frz (.str x)):=hx;have b1:oAdd [.frz (.str "0"),.frz (.str t)]=some (.frz (.str (("0":Str)++t))):=by rw[c0k,if_pos (by show 1+_<=_;omega)]
 have b2:oAdd [.frz (.str "+"),.frz (.str t)]=some (.frz (.str (("+":Str)++t))):=by rw[c0k,if_pos (by show 1+_<=_;omega)]
 have b3:oAdd [.frz (.str t),.frz (.str "a")]=some (.frz (.str (t++("a":Str)))):=by rw[c0k,if_pos (by show _+1<=_;omega)]
 generalize("0":Str)++t=t1 at *;generalize("+":Str)++t=t2 at *;generalize t++("a":Str)=t3 at *;have s1:slO (fL w) none (some 2)=some (.lst (((w.take 2).map D.str).map .frz)):=b1r w 2 (by decide)
 have s2:slO (fL w) (some 3) none=some (.lst (((w.drop 3).map D.str).map .frz)):=b7i w 3 (by decide)
 have a1:oAdd [.lst (((w.take 2).map D.str).map .frz),.lst [.frz (.str x)]]=some (.lst (((w.take 2++[x]).map D.str).map .frz)):=b4q _ [x] (by simp;omega)
 have a2:=b4q (w.take 2++[x]) (w.drop 3) (by simp;omega)
 generalize w.take 2++[x]++w.drop 3=w3 at *;generalize w.take 2++[x]=w2 at *;generalize w.take 2=w1 at *;generalize w.drop 3=w0 at *;refine⟨some (.frz (.str x)),?_⟩;unfold bw5 stW;simp only[a0z,a5t,a4p,a1d,a0d,a0o,qq1,qq0,↓evBind,a2x,a0g,a0l,a0j,a0k,a2y,a1i,a1r,and_self,a2o,beq_self_eq_true,if_true,a3c,i0,a2q,a4e,hc,qqe,a5f,a1a,a1s,qq2,qq3,qqf,Nat.reduceAdd,Nat.reduceLeDiff,a1e,a1c,a4j,a3d,a2v,a8d,↓evMap,a0p,a1p,i2,b1,b2,b3,a2n,Int.reduceLT,decide_true,a5q,hx,a4l,Nat.reduceLT,qq5,qq4,a4v,a5u,a5v,a5x,s1,a1,s2,a2,a4z,hp,a1b,if_false]
theorem do6c(hl:w.length<=30)(i0:oIx1 (fL w) (.int 0)=some (fS "cart"))(hp:putW L k (w++(["x"]:List Str)) N):bw6 (stW L k 6 c w a5 a6)=some (.nx,stW N k 6 c w a5 a6):=by
 have a:oAdd [fL w,.lst [.frz (.str "x")]]=some (.lst (((w++(["x"]:List Str)).map D.str).map .frz)):=d4j w ["x"] (by simp;omega)
 generalize w++(["x"]:List Str)=w2 at *;unfold bw6 stW;simp only[a0z,a5t,a4p,a1d,a0d,a0o,qq1,qq0,↓evBind,a2x,a0g,a0l,a0j,a0k,a2y,a1i,a1r,and_self,a2o,beq_self_eq_true,if_true,a3c,i0,a2q,a4e,a5f,a1a,a1s,qq2,qq3,qqf,Nat.reduceLeDiff,a1e,a1c,a,a4j,a4z,hp,qq4,a4v,a5u,a5v,a5x,↓evMap,b8l,Nat.reduceAdd,a2n,Int.reduceLT,decide_true,a5q,a1b]
theorem do6b{h:Str}(hl:w.length<=30)(i0:oIx1 (fL w) (.int 0)=some (fS h))(hc:(h == "cart")=false)(hx:atI (((["To","t","too"]:List Str).map D.str).map .frz) (c % 3)=some (fS x))(hp:putW L k (w.take 3++[x]++w.drop 4) N):bw6 (stW L k 6 c w a5 a6)=some (.nx,stW N k 6 c w a5 a6):=by
 have hx:atI ([.frz (.str "To"),.frz (.str "t"),.frz (.str "too")]:List O) (c % 3)=some (.frz (.str x)):=hx;have s1:slO (fL w) none (some 3)=some (.lst (((w.take 3).map D.str).map .frz)):=b1r w 3 (by decide)
 have s2:slO (fL w) (some 4) none=some (.lst (((w.drop 4).map D.str).map .frz)):=b7i w 4 (by decide)
 have a1:oAdd [.lst (((w.take 3).map D.str).map .frz),.lst [.frz (.str x)]]=some (.lst (((w.take 3++[x]).map D.str).map .frz)):=b4q _ [x] (by simp;omega)
 have a2:=b4q (w.take 3++[x]) (w.drop 4) (by simp;omega)
 generalize w.take 3++[x]++w.drop 4=w3 at *;generalize w.take 3++[x]=w2 at *;generalize w.take 3=w1 at *;generalize w.drop 4=w0 at *;unfold bw6 stW;simp only[a0z,a5t,a4p,a1d,a0d,a0o,qq1,qq0,↓evBind,a2x,a0g,a0l,a0j,a0k,a2y,a1i,a1r,and_self,a2o,beq_self_eq_true,if_true,a3c,i0,a2q,a4e,hc,qqe,a5f,a1a,a1s,qq2,qq3,qqf,Nat.reduceLeDiff,a1e,a1c,b0e,b0d,c7b,c7a,a4v,a5u,a5v,a5x,↓evMap,s1,Nat.reduceAdd,a2n,Int.reduceLT,decide_true,a5q,hx,a4l,a1,s2,a2,a4j,a4z,hp,qq4,a1b,if_false]
end
theorem d3a:∀n:Nat,n < 21->∀x∈nums (strI n),(isV false (a3x [.frz (.str x)]) && plW x)=true/\x≠"":=by decide +kernel
theorem d3b:∀x∈(["Belt","belts","carts","rin","to"]:List Str),plW x=true/\x≠""/\(x == "cart")=false/\(x == "belt" || x == "ring")=false:=by decide +kernel
theorem d9w:∀x∈(["To","t","too"]:List Str),plW x=true/\x≠""/\(x == "to")=false:=by decide +kernel
theorem e1k:plW "x"=true/\plW ""=true:=by decide +kernel
theorem d7k(hk:l.ok)(h:k < ls.length)(c0:0<=c):∃f:Int->List Str,(∀i,BadL (f i))/\
  (∀a5 a6,bw0 (stW (ls.map fL) k 0 c l.w a5 a6)=some (.nx,stW ((ls.set k (f 0)).map fL) k 0 c l.w a5 a6))/\
  (∀a5 a6,bw1 (stW (ls.map fL) k 1 c l.w a5 a6)=some (.nx,stW ((ls.set k (f 1)).map fL) k 1 c l.w a5 a6))/\
  (∀a5 a6,∃b5,bw2 (stW (ls.map fL) k 2 c l.w a5 a6)=some (.nx,stW ((ls.set k (f 2)).map fL) k 2 c l.w b5 a6))/\
  (∀a5 a6,bw3 (stW (ls.map fL) k 3 c l.w a5 a6)=some (.nx,stW ((ls.set k (f 3)).map fL) k 3 c l.w a5 a6))/\
  (∀a5 a6,bw4 (stW (ls.map fL) k 4 c l.w a5 a6)=some (.nx,stW ((ls.set k (f 4)).map fL) k 4 c l.w a5 a6))/\
  (∀a5 a6,∃b6,bw5 (stW (ls.map fL) k 5 c l.w a5 a6)=some (.nx,stW ((ls.set k (f 5)).map fL) k 5 c l.w a5 b6))/\
  (∀a5 a6,bw6 (stW (ls.map fL) k 6 c l.w a5 a6)=some (.nx,stW ((ls.set k (f 6)).map fL) k 6 c l.w a5 a6)):=by
 have wl:=Ln.wlen hk;obtain⟨x0,m0,e0⟩:=b5s (xs:=["Belt","belts","carts","rin","to"]) (k:=c % 5) (by omega) (by show _ < (5:Int);omega)
 obtain⟨p0,n0,q0,r0⟩:=d3b x0 m0;have hs:=fun ws=>d9v h ws
 have b2:BadL (l.w.take (c % ((l.w.length:Int)+1)).toNat++([""]:List Str)++l.w.drop (c % ((l.w.length:Int)+1)).toNat):=by
  refine b9r (Ln.plo hk (fun x hx=>?_) ?_) (by simp)
  ·simp only[List.mem_append,List.mem_singleton] at hx;rcases hx with(hx|rfl)|hx
   ·exact .inl (List.mem_of_mem_take hx)
   ·exact .inr e1k.2
   ·exact .inl (List.mem_of_mem_drop hx)
  ·simp;omega
 have b3:BadL []:=b0z ⟨fun _ h=>(by cases h),by decide⟩ (by decide) (by decide)
 generalize hf:(l.w.take (c % ((l.w.length:Int)+1)).toNat++([""]:List Str)++l.w.drop (c % ((l.w.length:Int)+1)).toNat)=w2 at b2;have d2:∀a5 a6,∃b5,bw2 (stW (ls.map fL) k 2 c l.w a5 a6)=some (.nx,stW ((ls.set k w2).map fL) k 2 c l.w b5 a6):=fun a5 a6=>do2 rfl (by omega) c0 (by rw[hf];exact hs w2)
 have d3:∀a5 a6,bw3 (stW (ls.map fL) k 3 c l.w a5 a6)=some (.nx,stW ((ls.set k []).map fL) k 3 c l.w a5 a6):=fun a5 a6=>do3 (hs [])
 cases l with
 |c d=>
  have i0:oIx1 (fL (Ln.c d).w) (.int 0)=some (fS "cart"):=a8m _ _;have p1:∀y,plW y=true->PlL ["cart",d,y]:=fun y hy=>Ln.plo hk (fun x hx=>by
   rcases List.mem_cons.mp hx with rfl|hx
   ·exact .inl (.head _)
   ·rcases List.mem_cons.mp hx with rfl|hx
    ·exact .inl (.tail _ (.head _))
    ·rcases List.mem_cons.mp hx with rfl|hx
     ·exact .inr hy
     ·cases hx) (by decide:3<=30)
  refine⟨fun i=>if i=0 then[x0,d] else if i=1 then["cart",d,"to"] else if i=2 then w2 else if i=3 then[] else if i=4 then["cart"] else if i=5 then["cart",""] else["cart",d,"x"],fun i=>?_,fun a5 a6=>do0 (by omega) e0 (hs [x0,d]),fun a5 a6=>?_,d2,d3,fun a5 a6=>do4c i0 (hs ["cart"]),fun a5 a6=>⟨a6,do5c i0 (hs ["cart",""])⟩,fun a5 a6=>do6c (by omega) i0 (hs ["cart",d,"x"])⟩
  ·dsimp only;split
   ·have:=c9n n0 (show okW d from hk).2;rw[q0] at this;exact⟨Ln.plo hk (fun x hx=>by
     rcases List.mem_cons.mp hx with rfl|hx
     ·exact .inr p0
     ·exact .inl (.tail _ hx)) (by decide:2<=30),b7h (by decide:2 < 5),this⟩
   ·split
    ·exact b0z (p1 _ b4z.1) (by decide:3 < 5) (by decide:3≠2)
    ·split
     ·exact b2
     ·split
      ·exact b3
      ·split
       ·exact b0z ⟨fun x hx=>by rw[List.mem_singleton.mp hx];exact b4z.2.1,by decide⟩ (by decide) (by decide)
       ·split
        ·exact b9r ⟨fun x hx=>by
          rcases List.mem_cons.mp hx with rfl|hx
          ·exact b4z.2.1
          ·rw[List.mem_singleton.mp hx];exact e1k.2,by decide⟩ (.tail _ (.head _))
        ·exact b0z (p1 _ e1k.1) (by decide:3 < 5) (by decide:3≠2)
  ·refine do1c i0 (by omega) c0 (hs _) ?_
   unfold putW;rw[d9v (by rw[List.length_set];exact h),List.set_set]
   rfl
 |b b=>
  have hb:OkB b:=hk;have i0:oIx1 (fL (Ln.b b).w) (.int 0)=some (fS (wrd b)):=a8m _ _;have i2:oIx1 (fL (Ln.b b).w) (.int 2)=some (fS (strI b.long)):=c0u _ _ _ _;have hc:(wrd b == "cart")=false:=by
   unfold wrd;split <;> decide +kernel
  obtain⟨tn,tp,te,ti,tl⟩:=c3h hb.l0 hb.l1;obtain⟨x5,m5,e5⟩:=b5s (xs:=nums (strI b.long)) (k:=c % 7) (by omega) (by show _ < (7:Int);omega)
  obtain⟨x6,m6,e6⟩:=b5s (xs:=["To","t","too"]) (k:=c % 3) (by omega) (by show _ < (3:Int);omega)
  obtain⟨y0,y1⟩:(isV false (a3x [.frz (.str x5)]) && plW x5)=true/\x5≠"":=by
   obtain⟨n,hn,hl⟩:=b1t (n:=21) hb.l0 hb.l1;rw[hn] at m5;exact d3a n hl x5 m5
  rw[Bool.and_eq_true] at y0;obtain⟨p6,n6,q6⟩:=d9w x6 m6;have ww:=hb.w;have wp:=d4i b;have np:=hb.nm;have op:=hb.ou;have ol:=hb.ol;refine⟨fun i=>if i=0 then x0::b.name::strI b.long::"to"::b.outs else if i=1 then(a1k b).take (c % 2 * 2+1).toNat else if i=2 then w2 else if i=3 then[] else if i=4 then(a1k b).take 4 else if i=5 then wrd b::b.name::x5::"to"::b.outs else wrd b::b.name::strI b.long::x6::b.outs,fun i=>?_,fun a5 a6=>do0 (by omega) e0 (hs _),fun a5 a6=>do1b i0 hc c0 (hs _),d2,d3,fun a5 a6=>do4b i0 hc (hs _),fun a5 a6=>do5b (by omega) i0 hc i2 tl e5 (hs _),fun a5 a6=>do6b (by omega) i0 hc e6 (hs _)⟩
  have gen:∀(a b1 c1 d1:Str) (n:Bool),okW a->okW b1->okW c1->okW d1->a3x [.frz (.str c1)]=some (.frz (.bl n),[none])->((a == "belt" || a == "ring") && n && d1 == "to")=false->BadL (a::b1::c1::d1::b.outs):=by
   intro a b1 c1 d1 n ha hb1 hc1 hd1 hn hq;have hw:∀w∈a::b1::c1::d1::b.outs,okW w:=by
    intro w hw;simp only[List.mem_cons] at hw;rcases hw with rfl|rfl|rfl|rfl|hw
    ·exact ha
    ·exact hb1
    ·exact hc1
    ·exact hd1
    ·exact op w hw
   have he:=e1s hw;have hp:PlL (a::b1::c1::d1::b.outs):=⟨fun x hx=>(hw x hx).1,by show _+1+1+1+1<=30;omega⟩
   cases ho:b.outs with
   |nil=>exact absurd ho hb.o0
   |cons o os=>
    rw[ho] at he hp;exact d2z hp he hn hq
  have tk:∀n,n=1\/n=3\/n=4->BadL ((a1k b).take n):=by
   intro n hn;have hl:((a1k b).take n).length=n:=by
    rw[List.length_take];unfold a1k;rw[List.length_append];show min n (4+b.outs.length)=n;omega
   exact b0z (Ln.plo hk (fun x hx=>.inl (List.mem_of_mem_take hx)) (by omega)) (by omega) (by omega)
  have to:okW "to":=⟨b4z.1,b4z.2.2.1⟩;dsimp only;split
  ·exact gen _ _ _ _ true ⟨p0,n0⟩ np ⟨tp,te⟩ to tn (by rw[r0];rfl)
  ·split
   ·exact tk _ (by omega)
   ·split
    ·exact b2
    ·split
     ·exact b3
     ·split
      ·exact tk 4 (by omega)
      ·split
       ·exact gen _ _ _ _ false wp np ⟨y0.2,y1⟩ to (d4h y0.1) (by rw[Bool.and_false,Bool.false_and])
       ·exact gen _ _ _ _ true wp np ⟨tp,te⟩ ⟨p6,n6⟩ tn (by rw[q6,Bool.and_false])
theorem d4k(hk:l.ok)(h:k < ls.length)(e:ls[k]?=some l.w)(h0:0<=how)(h1:how < 7)(c0:0<=c):∃ws,BadL ws/\a3y [.lst (ls.map fL),.frz (.int k),.frz (.int how),.frz (.int c)]=some (.frz .non,[some (.lst ((ls.set k ws).map fL)),none,none,none]):=by
 obtain⟨f,hb,d0,d1,d2,d3,d4,d5,d6⟩:=d7k hk h c0;refine⟨f how,hb _,?_⟩;have ex:oIx1 (.lst (ls.map fL)) (.int k)=some (fL l.w):=by
  rw[a5q];have:atI (ls.map fL) k=some (fL l.w):=by
   unfold atI;rw[c7h _ _ (by rw[List.length_map];exact h),Option.bind_some,List.getElem?_map,e]
   rfl
  rw[this];rfl
 have main:∃b5 b6,(a0h bw0 (a0h bw1 (a0h bw2 (a0h bw3 (a0h bw4 (a0h bw5 bw6)))))) (stW (ls.map fL) k how c l.w none none)=some (.nx,stW ((ls.set k (f how)).map fL) k how c l.w b5 b6):=by
  have hh:how=0\/how=1\/how=2\/how=3\/how=4\/how=5\/how=6:=by omega
  rcases hh with rfl|rfl|rfl|rfl|rfl|rfl|rfl
  ·exact⟨_,_,by rw[a0m (d0 _ _),a0m sk1,a0m sk2,a0m sk3,a0m sk4,a0m sk5,sk6]⟩
  ·exact⟨_,_,by rw[a0m sk0,a0m (d1 _ _),a0m sk2,a0m sk3,a0m sk4,a0m sk5,sk6]⟩
  ·obtain⟨b5,d2⟩:=d2 none none;exact⟨_,_,by rw[a0m sk0,a0m sk1,a0m d2,a0m sk3,a0m sk4,a0m sk5,sk6]⟩
  ·exact⟨_,_,by rw[a0m sk0,a0m sk1,a0m sk2,a0m (d3 _ _),a0m sk4,a0m sk5,sk6]⟩
  ·exact⟨_,_,by rw[a0m sk0,a0m sk1,a0m sk2,a0m sk3,a0m (d4 _ _),a0m sk5,sk6]⟩
  ·obtain⟨b6,d5⟩:=d5 none none;exact⟨_,_,by rw[a0m sk0,a0m sk1,a0m sk2,a0m sk3,a0m sk4,a0m d5,sk6]⟩
  ·exact⟨_,_,by rw[a0m sk0,a0m sk1,a0m sk2,a0m sk3,a0m sk4,a0m sk5,d6]⟩
 obtain⟨b5,b6,main⟩:=main;unfold a3y;unfold a7w;generalize(k:Int)=ki at *;generalize(ls.set k (f how)).map fL=N at *;generalize ls.map fL=L at *;generalize l.w=w at *;generalize(a0h bw0 (a0h bw1 (a0h bw2 (a0h bw3 (a0h bw4 (a0h bw5 bw6))))))=rest at *;unfold stW at main;simp only[a1v,qq6,qq7,qq2,qq3,qqf,Nat.reduceAdd,Nat.reduceSub,qq9,qq8,qqb,qqc,a0p,a1p,a1d,a0d,a0o,qq0,↓evBind,qq1,a0g,a0l,a3q,Option.join_some,a0j,a0k,a3c,ex,Nat.reduceLT,qq5,qq4,if_true,main,c7e,qqa,qqd,b0f,a3h,a3g]
abbrev stH(x0:Option O)(how c:Int)(x3 x4 x5:Option O):Gm:=[x0,some (.frz (.int how)),some (.frz (.int c)),x3,x4,x5]
abbrev dueO(s:Str)(n:Int):O:=.tup [.frz (.str s),.frz (.int n)]
section
variable {x0 x3 x4 x5:Option O} {h c:Int}
theorem hs0(n:h≠7:=by decide):Idle hw0 (stH x0 h c x3 x4 x5):=b4p n rfl
theorem hs1(n:h≠8:=by decide):Idle hw1 (stH x0 h c x3 x4 x5):=b4p n rfl
theorem hs2(n:h≠9:=by decide):Idle hw2 (stH x0 h c x3 x4 x5):=b4p n rfl
theorem hs3(n:h≠10:=by decide):Idle hw3 (stH x0 h c x3 x4 x5):=b4p n rfl
theorem hs4(n:h≠11:=by decide):Idle hw4 (stH x0 h c x3 x4 x5):=b4p n rfl
theorem hs5(n:h≠12:=by decide):Idle hw5 (stH x0 h c x3 x4 x5):=b4p n rfl
theorem hs6(n:h≠13:=by decide):Idle hw6 (stH x0 h c x3 x4 x5):=b4p n rfl
theorem hR:hwR (stH x0 h c x3 x4 x5)=some (.rt (dueO "right" 9),stH x0 h c x3 x4 x5):=by
 unfold hwR stH;simp only[a2t,a1s,a0d,a2x,↓evBind,a0g,qq2,qq3,qqf,Nat.reduceAdd,Nat.reduceLeDiff,a1e,a1c,if_true]
variable {w u:List Str} {c0 t:Str} {L4:List D}
theorem hd7{e:Bool}(i0:oIx1 (.lst (w.map fS)) (.int 0)=some (fS t))(he:(t == "ring")=e)(hx:atI [fS "0",fS "1"] ((if e=true then 1 else 0) * (c % 2))=some (fS x))(hp:mSet (.lst (w.map fS)) [fS x,.frz (.int 2)]=some (.lst (u.map fS),.frz .non)):hw0 (stH x0 7 c x3 x4 (some (.lst (w.map fS))))=some (.rt (dueO "size" 3),stH x0 7 c x3 x4 (some (.lst (u.map fS)))):=by
 have m:oMulA [.frz (.int (if e=true then 1 else 0)),.frz (.int (c % 2))]=some (.frz (.int ((if e=true then 1 else 0) * (c % 2)))):=by rw[a9f,if_pos (.inl (by cases e <;> decide))]
 generalize w.map fS=w1 at *;generalize u.map fS=u1 at *;generalize(if e=true then 1 else 0) * (c % 2)=j at *
 unfold hw0 stH;simp only[a0z,a4p,a1d,a0d,a0o,qq1,qq0,↓evBind,a2x,a0g,a0l,a0j,a0k,a2y,a1i,a1r,and_self,a2o,beq_self_eq_true,if_true,a0p,a5f,a1s,qq2,qq3,qqf,Nat.reduceAdd,Nat.reduceLeDiff,a1e,a1c,a3q,Option.join_some,a3c,i0,a2q,a4e,he,c7d,a2n,Int.reduceLT,decide_true,m,a5q,hx,a4l,hp,qq5,qq4,a2t,a1b]
theorem hd8(k0:oIx1 (.frz (.lst L4)) (.int 0)=some (fL ["cart",c0]))(hx:atI (((["abcdefghi","A","a1",c0]:List Str).map D.str).map .frz) (c % 4)=some (fS x))(hp:mSet (.lst (w.map fS)) [fS x,.frz (.int 1)]=some (.lst (u.map fS),.frz .non)):hw1 (stH x0 8 c x3 (some (.frz (.lst L4))) (some (.lst (w.map fS))))=some (.rt (dueO "name" 2),stH x0 8 c x3 (some (.frz (.lst L4))) (some (.lst (u.map fS)))):=by
 have k1:oIx1 (fL ["cart",c0]) (.int 1)=some (fS c0):=a7x _ _ _;have hx:atI ([.frz (.str "abcdefghi"),.frz (.str "A"),.frz (.str "a1"),.frz (.str c0)]:List O) (c % 4)=some (.frz (.str x)):=hx;generalize w.map fS=w1 at *;generalize u.map fS=u1 at *;generalize(["cart",c0]:List Str)=w4 at *;unfold hw1 stH;simp only[a0z,a4p,a1d,a0d,a0o,qq1,qq0,↓evBind,a2x,a0g,a0l,a0j,a0k,a2y,a1i,a1r,and_self,a2o,beq_self_eq_true,if_true,a0p,a5f,a1s,a3c,k0,k1,qq2,qq3,qqf,Nat.reduceAdd,Nat.reduceLeDiff,a1e,a1c,a2n,Int.reduceLT,decide_true,a5q,hx,a4l,hp,qq5,qq4,a2t,a1b]
theorem hd9(i1:oIx1 (.lst (w.map fS)) (.int 1)=some (fS t))(hx:atI (((["nowhere",t,"A"]:List Str).map D.str).map .frz) (c / 2 % 3)=some (fS x))(hp:a3p (.lst (w.map fS)) [.frz (.int (4+c % 2)),fS x]=some (.lst (u.map fS),.frz .non)):hw2 (stH x0 9 c x3 x4 (some (.lst (w.map fS))))=some (.rt (dueO "out" 4),stH x0 9 c x3 x4 (some (.lst (u.map fS)))):=by
 have hx:atI ([.frz (.str "nowhere"),.frz (.str t),.frz (.str "A")]:List O) (c / 2 % 3)=some (.frz (.str x)):=hx;generalize w.map fS=w1 at *;generalize u.map fS=u1 at *;unfold hw2 stH;simp only[a0z,a4p,a1d,a0d,a0o,qq1,qq0,↓evBind,a2x,a0g,a0l,a0j,a0k,a2y,a1i,a1r,and_self,a2o,beq_self_eq_true,if_true,a0p,a2h,a4k,a1a,a2n,Int.reduceLT,decide_true,a5w,a1s,a3q,Option.join_some,a3c,i1,qq2,qq3,qqf,Nat.reduceAdd,Nat.reduceLeDiff,a1e,a1c,a5q,hx,a4l,hp,qq5,qq4,a2t,a1b]
variable {L N:List O} {x5:Option O}
theorem hd10(k0:oIx1 (.frz (.lst L4)) (.int 0)=some (fL ["cart",c0]))(hx:atI ((([c0,"A","abcdefghi"]:List Str).map D.str).map .frz) (c % 3)=some (fS x))(hp:a2g (.lst L) [fL ["cart",x]]=some (.lst N,.frz .non)):hw3 (stH (some (.lst L)) 10 c x3 (some (.frz (.lst L4))) x5)=some (.rt (dueO "name" 1),stH (some (.lst N)) 10 c x3 (some (.frz (.lst L4))) x5):=by
 have k1:oIx1 (fL ["cart",c0]) (.int 1)=some (fS c0):=a7x _ _ _;have hx:atI ([.frz (.str c0),.frz (.str "A"),.frz (.str "abcdefghi")]:List O) (c % 3)=some (.frz (.str x)):=hx;have hp:a2g (.lst L) [.frz (.lst [.str "cart",.str x])]=some (.lst N,.frz .non):=hp;generalize(["cart",c0]:List Str)=w4 at *;unfold hw3 stH;simp only[a0z,a4p,a1d,a0d,a0o,qq1,qq0,↓evBind,a2x,a0g,a0l,a0j,a0k,a2y,a1i,a1r,and_self,a2o,beq_self_eq_true,if_true,a0p,a2h,a4k,a1a,a1s,a3c,k0,k1,qq2,qq3,qqf,Nat.reduceAdd,Nat.reduceLeDiff,a1e,a1c,a2n,Int.reduceLT,decide_true,a5q,hx,a4l,a4j,a3d,a2v,hp,qq4,a2t,a1b]
theorem hd11{L3:List D}{b:Str}{w3:List Str}(j0:oIx1 (.frz (.lst L3)) (.int 0)=some (fL w3))(j1:oIx1 (fL w3) (.int 1)=some (fS b))(k0:oIx1 (.frz (.lst L4)) (.int 0)=some (fL ["cart",c0]))(hp:a2g (.lst L) [fL ["belt",b,"2","to",c0]]=some (.lst N,.frz .non)):hw4 (stH (some (.lst L)) 11 c (some (.frz (.lst L3))) (some (.frz (.lst L4))) x5)=some (.rt (dueO "name" 2),stH (some (.lst N)) 11 c (some (.frz (.lst L3))) (some (.frz (.lst L4))) x5):=by
 have k1:oIx1 (fL ["cart",c0]) (.int 1)=some (fS c0):=a7x _ _ _;have hp:a2g (.lst L) [.frz (.lst [.str "belt",.str b,.str "2",.str "to",.str c0])]=some (.lst N,.frz .non):=hp;generalize(["cart",c0]:List Str)=w4 at *;unfold hw4 stH;simp only[a0z,a4p,a1d,a0d,a0o,qq1,qq0,↓evBind,a2x,a0g,a0l,a0j,a0k,a2y,a1i,a1r,and_self,a2o,beq_self_eq_true,if_true,a0p,a2h,a4k,a1a,a1s,a3c,j0,j1,k0,k1,qq2,qq3,qqf,Nat.reduceAdd,Nat.reduceLeDiff,a1e,a1c,a4j,a3d,a2v,hp,qq4,a2t,a1b]
theorem hd12(hp:a3p (.lst L) [.frz (.int 0),fL ["cart","other"]]=some (.lst N,.frz .non)):hw5 (stH (some (.lst L)) 12 c x3 x4 x5)=some (.rt (dueO "hand" 5),stH (some (.lst N)) 12 c x3 x4 x5):=by
 have hp:a3p (.lst L) [.frz (.int 0),.frz (.lst [.str "cart",.str "other"])]=some (.lst N,.frz .non):=hp;unfold hw5 stH;simp only[a0z,a4p,a1d,a0d,a0o,qq1,qq0,↓evBind,a2x,a0g,a0l,a0j,a0k,a2y,a1i,a1r,and_self,a2o,beq_self_eq_true,if_true,a0p,a2h,a4k,a1a,a1s,qq2,qq3,qqf,Nat.reduceAdd,Nat.reduceLeDiff,a1e,a1c,a4j,a3d,a2v,hp,qq4,a2t,a1b]
theorem hd13(k0:oIx1 (.frz (.lst L4)) (.int 0)=some (fL ["cart",c0]))(hp:a2g (.lst L) [fL ["belt","zz","2","to",c0,c0]]=some (.lst N,.frz .non)):hw6 (stH (some (.lst L)) 13 c x3 (some (.frz (.lst L4))) x5)=some (.rt (dueO "out" 4),stH (some (.lst N)) 13 c x3 (some (.frz (.lst L4))) x5):=by
 have k1:oIx1 (fL ["cart",c0]) (.int 1)=some (fS c0):=a7x _ _ _;have hp:a2g (.lst L) [.frz (.lst [.str "belt",.str "zz",.str "2",.str "to",.str c0,.str c0])]=some (.lst N,.frz .non):=hp;generalize(["cart",c0]:List Str)=w4 at *;unfold hw6 stH;simp only[a0z,a4p,a1d,a0d,a0o,qq1,qq0,↓evBind,a2x,a0g,a0l,a0j,a0k,a2y,a1i,a1r,and_self,a2o,beq_self_eq_true,if_true,a0p,a2h,a4k,a1a,a1s,a3c,k0,k1,qq2,qq3,qqf,Nat.reduceAdd,Nat.reduceLeDiff,a1e,a1c,a4j,a3d,a2v,hp,qq4,a2t,a1b]
theorem hn10(k0:oIx1 (.frz (.lst L4)) (.int 0)=some (fL ["cart",c0]))(hx:atI ((([c0,"A","abcdefghi"]:List Str).map D.str).map .frz) (c % 3)=some (fS x)):hw3 (stH none 10 c x3 (some (.frz (.lst L4))) x5)=none:=by
 have k1:oIx1 (fL ["cart",c0]) (.int 1)=some (fS c0):=a7x _ _ _;have hx:atI ([.frz (.str c0),.frz (.str "A"),.frz (.str "abcdefghi")]:List O) (c % 3)=some (.frz (.str x)):=hx;generalize(["cart",c0]:List Str)=w4 at *;unfold hw3 stH;simp only[a0z,a4p,a1d,a0d,a0o,qq1,qq0,↓evBind,a2x,a0g,a0l,a0j,a0k,a2y,a1i,a1r,and_self,a2o,beq_self_eq_true,if_true,a0p,a2h,a4k,a1b]
theorem hn11:hw4 (stH none 11 c none x4 x5)=none:=by
 unfold hw4 stH;simp only[a0z,a4p,a1d,a0d,a0o,qq1,qq0,↓evBind,a2x,a0g,a0l,a0j,a0k,a2y,a1i,a1r,and_self,a2o,beq_self_eq_true,if_true,a0p,a2h,a4k,a1b]
theorem hn12:hw5 (stH none 12 c x3 x4 x5)=none:=by
 unfold hw5 stH;simp only[a0z,a4p,a1d,a0d,a0o,qq1,qq0,↓evBind,a2x,a0g,a0l,a0j,a0k,a2y,a1i,a1r,and_self,a2o,beq_self_eq_true,if_true,a0p,a2h,a4k,a1b]
theorem hn13(k0:oIx1 (.frz (.lst L4)) (.int 0)=some (fL ["cart",c0])):hw6 (stH none 13 c x3 (some (.frz (.lst L4))) x5)=none:=by
 have k1:oIx1 (fL ["cart",c0]) (.int 1)=some (fS c0):=a7x _ _ _;generalize(["cart",c0]:List Str)=w4 at *;unfold hw6 stH;simp only[a0z,a4p,a1d,a0d,a0o,qq1,qq0,↓evBind,a2x,a0g,a0l,a0j,a0k,a2y,a1i,a1r,and_self,a2o,beq_self_eq_true,if_true,a0p,a2h,a4k,a1b]
end
abbrev lnD(l:Ln):D:=.lst (l.w.map .str)
abbrev lnO(l:Ln):O:=.lst (l.w.map fS)
def lnsOf(h:House):List Ln:=h.belts.map .b++h.carts.map .c
theorem d9x(h:House):h.belts.map lineO++h.carts.map lineC=(lnsOf h).map lnO:=by unfold lnsOf;rw[List.map_append,List.map_map,List.map_map];rfl
theorem d3c(ls:List Ln):O.dl (ls.map lnO)=ls.map lnD:=by
 induction ls with
 |nil=>simp only[qq7,a2v]
 |cons l ls ih=>simp only[qq6,a3d,ih,lnO,a4j,d2m]
def Ln.isb:Ln->Bool
 |.b _=>true
 |.c _=>false
def Ln.isc:Ln->Bool
 |.b _=>false
 |.c _=>true
def Ln.hd:Ln->Str
 |.b x=>wrd x
 |.c _=>"cart"
theorem Ln.hd_is(l:Ln):(l.hd == "cart")=l.isc:=by
 cases l with
 |b b=>
  show(wrd b == "cart")=false;unfold wrd;split <;> decide +kernel
 |c c=>show(("cart":Str) == "cart")=true;exact beq_self_eq_true _
theorem Ln.ix0(l:Ln):oIx1 (.frz (lnD l)) (.int 0)=some (fS l.hd):=by
 cases l with
 |b b=>exact a8m _ _
 |c c=>exact a8m _ _
theorem d4l(l:Ln):noC [some (.frz (lnD l))]=some (l.isb,[some (.frz (lnD l))]):=by
 have i0:=l.ix0;have hd:=l.hd_is;generalize lnD l=d at *;generalize l.hd=s at *;have hb:(!l.isc)=l.isb:=by cases l <;> rfl
 unfold noC;simp only[a4p,a1d,a0d,a0o,qq0,↓evBind,a2x,a0g,a0l,a0j,a0k,a3c,i0,d9e,hd,hb]
theorem d4m(l:Ln):isCt [some (.frz (lnD l))]=some (l.isc,[some (.frz (lnD l))]):=by
 have i0:=l.ix0;have hd:=l.hd_is;generalize lnD l=d at *;generalize l.hd=s at *;unfold isCt;simp only[a4p,a1d,a0d,a0o,qq0,↓evBind,a2x,a0g,a0l,a0j,a0k,a3c,i0,a2y,a1i,a2q,and_self,a4e,hd,if_true]
theorem d_ln(l:Ln):(lnO l).d=lnD l:=by simp only[lnO,a4j,d2m]
theorem c3i(h:∀l,ft [some (.frz (lnD l))]=some (p l,[some (.frz (lnD l))]))(ls:List Ln):flags ft (ls.map lnO)=some (ls.map p):=by
 induction ls with
 |nil=>rfl
 |cons l ls ih=>rw[List.map_cons,flags,d_ln,h,Option.bind_some,ih];rfl
theorem c9w(p:Ln->Bool)(ls:List Ln):pickL (ls.map lnD) (ls.map p)=(ls.filter p).map lnD:=by
 induction ls with
 |nil=>rfl
 |cons l ls ih=>cases e:p l <;> simp[pickL,e,ih]
theorem c9x(ls:List Ln):(ls.filter Ln.isb).map lnD=(lnB ls).map fun b=>lnD (.b b):=by
 induction ls with
 |nil=>rfl
 |cons l ls ih=>cases l <;> simp[List.filter_cons,Ln.isb,lnB,ih]
theorem c9y(ls:List Ln):(ls.filter Ln.isc).map lnD=(lnC ls).map fun c=>lnD (.c c):=by
 induction ls with
 |nil=>rfl
 |cons l ls ih=>cases l <;> simp[List.filter_cons,Ln.isc,lnC,ih]
theorem b4r(h:House):lnB (lnsOf h)=h.belts:=by
 have e1:∀bs:List Belt,lnB (bs.map .b)=bs:=fun bs=>by induction bs with
  |nil=>rfl
  |cons b bs ih=>show b::lnB (bs.map .b)=_;rw[ih]
 have e2:∀cs:List Str,lnB (cs.map .c)=[]:=fun bs=>by induction bs with
  |nil=>rfl
  |cons b bs ih=>exact ih
 unfold lnsOf;rw[a9n,e1,e2,List.append_nil]
theorem b4s(h:House):lnC (lnsOf h)=h.carts:=by
 have e1:∀bs:List Str,lnC (bs.map .c)=bs:=fun bs=>by induction bs with
  |nil=>rfl
  |cons b bs ih=>show b::lnC (bs.map .c)=_;rw[ih]
 have e2:∀cs:List Belt,lnC (cs.map .b)=[]:=fun bs=>by induction bs with
  |nil=>rfl
  |cons b bs ih=>exact ih
 unfold lnsOf;rw[a9o,e1,e2,List.nil_append]
theorem d9y(r:List Bool):∀(bs:List Belt) (j:Nat),j < bs.length->nthT (bs.map (fun b=>Ln.isb (.b b))++r) j=some j
 |b::bs,0,_=>rfl
 |b::bs,j+1,h=>by
  show(nthT (bs.map (fun b=>Ln.isb (.b b))++r) j).map (·+1)=_
  rw[d9y r bs j (by rw[List.length_cons] at h;omega)]
  rfl
abbrev Bs(h:House):List D:=h.belts.map fun b=>lnD (.b b)
abbrev Cs(h:House):List D:=h.carts.map fun c=>lnD (.c c)
def whJ(h:House)(c:Int):Nat:=(c / 7 % (h.belts.length:Int)).toNat
theorem d4n(h0:0 < h.belts.length)(c:Int)(x0 x1 x4 x5:Option O):whB [x0,x1,some (.frz (.int c)),some (.frz (.lst (Bs h))),x4,x5]=some (.own (.frz (.int (whJ h c:Nat))),[x0,x1,some (.frz (.int c)),some (.frz (.lst (Bs h))),x4,x5]):=by
 have l:oLen [.frz (.lst (Bs h))]=some (.frz (.int (h.belts.length:Nat))):=by simp only[b1w,a1i,a9g,List.length_map,Option.map_some,Option.bind_some,Bs]
 have e:((whJ h c:Nat):Int)=c / 7 % (h.belts.length:Int):=Int.toNat_of_nonneg (Int.emod_nonneg _ (by omega))
 have p:decide (0 < (h.belts.length:Int))=true:=by rw[decide_eq_true_eq];omega
 rw[e];generalize(h.belts.length:Int)=n at *;generalize Bs h=B at *;unfold whB;simp only[a1d,a0d,a0o,qq1,qq0,↓evBind,a2x,a0g,a0l,a0j,a0k,a2n,Int.reduceLT,and_self,decide_true,if_true,l,p]
theorem d4o(h0:0 < h.belts.length)(c:Int):whJ h c < h.belts.length:=by
 have:=Int.emod_lt_of_pos (c / 7) (b:=(h.belts.length:Int)) (by omega)
 have:=Int.emod_nonneg (c / 7) (b:=(h.belts.length:Int)) (by omega)
 unfold whJ;omega
theorem c9z(h0:0 < h.belts.length)(hl:h.belts.length+h.carts.length<=1000)(hb:h.belts[whJ h c]?=some b)(x3 x4 x5:Option O):
  a2r (stH (some (.lst ((lnsOf h).map lnO))) how c x3 x4 x5)=match a6p (stH none how c none (some (.frz (.lst (Cs h)))) (some (lnO (.b b)))) with
   |some (.rt o,Γ1)=>match Γ1[5]? with
    |some (some c')=>if plO o=true/\plO c'=true/\Γ1.length=6 then some (.rt o,[some (.lst (((lnsOf h).map lnO).set (whJ h c) c')),none,none,none,none,none]) else none
    |_=>none
   |_=>none:=by
 have hj:=d4o h0 c;unfold a2r;unfold b8x stH;dsimp only;rw[c3i d4l,c3i d4m,Option.bind_some,Option.bind_some,d3c,c9w,c9w,c9x,c9y,b4r,b4s,d4n h0];have n1:natR (some (R.own (.frz (.int (whJ h c:Nat))),[some (O.frz (.lst ((lnsOf h).map lnD))),some (.frz (.int how)),some (.frz (.int c)),some (.frz (.lst (Bs h))),some (.frz (.lst (Cs h))),none]))=some (whJ h c):=by
  show(if(0:Int)<=((whJ h c:Nat):Int) then some (Int.toNat (whJ h c:Nat)) else none)=_
  rw[if_pos (Int.natCast_nonneg _)];rfl
 have n2:nthT ((lnsOf h).map Ln.isb) (whJ h c)=some (whJ h c):=by
  unfold lnsOf;rw[List.map_append,List.map_map];exact d9y _ _ _ hj
 have n3:((lnsOf h).map lnO)[whJ h c]?=some (lnO (.b b)):=by
  unfold lnsOf;rw[List.getElem?_map,List.getElem?_append_left (by rw[List.length_map];exact hj),List.getElem?_map,hb]
  rfl
 have n4:((lnsOf h).map lnO).length<=1000/\((lnsOf h).map Ln.isc)[whJ h c]?=some false:=by
  refine⟨by unfold lnsOf;simp;exact hl,?_⟩
  unfold lnsOf;rw[List.getElem?_map,List.getElem?_append_left (by rw[List.length_map];exact hj),List.getElem?_map,hb]
  rfl
 rw[n1,Option.bind_some,n2,Option.bind_some,n3,Option.bind_some];exact if_pos n4
theorem e1l(w:List Str):plL (w.map fS)=true:=by
 induction w with
 |nil=>rfl
 |cons x w ih=>rw[List.map_cons,plL,ih];rfl
theorem d3d(h0:0 < h.belts.length)(hl:h.belts.length+h.carts.length<=1000)(hb:h.belts[whJ h c]?=some b){x0:Option O}(e:a6p (stH none how c none (some (.frz (.lst (Cs h)))) (some (lnO (.b b))))=some (.rt (dueO s n),stH x0 how c x3 x4 (some (lnO l)))):
  a3e [.lst ((lnsOf h).map lnO),.frz (.int how),.frz (.int c)]=some (dueO s n,[some (.lst (((lnsOf h).set (whJ h c) l).map lnO)),none,none]):=by
 have v:=c9z (how:=how) h0 hl hb none none none;rw[e] at v;have v2:a2r (stH (some (.lst ((lnsOf h).map lnO))) how c none none none)=some (.rt (dueO s n),[some (.lst (((lnsOf h).map lnO).set (whJ h c) (lnO l))),none,none,none,none,none]):=v.trans (if_pos ⟨rfl,e1l _,rfl⟩);rw[<-List.map_set] at v2;generalize(lnsOf h).map lnO=L at *;generalize((lnsOf h).set (whJ h c) l).map lnO=N at *;unfold a3e;unfold stH at v2;generalize a2r=f at *;simp only[a1v,qq6,qq7,qq2,qq3,qqf,Nat.reduceAdd,Nat.reduceSub,qq9,qq8,qqb,qqc,v2,↓evBind,a4d,qqa,qqd,b0f,a3h,a3g,if_true]
theorem d0a(h0:0 < h.belts.length)(hl:h.belts.length+h.carts.length<=1000)(hb:h.belts[whJ h c]?=some b)(e:a6p (stH none how c none (some (.frz (.lst (Cs h)))) (some (lnO (.b b))))=none):
  a3e [.lst ((lnsOf h).map lnO),.frz (.int how),.frz (.int c)]=none:=by
 have v:=c9z (how:=how) h0 hl hb none none none;rw[e] at v;dsimp only at v;generalize(lnsOf h).map lnO=L at *;unfold a3e;unfold stH at v;generalize a2r=f at *;simp only[a1v,qq6,qq7,qq2,qq3,qqf,Nat.reduceAdd,Nat.reduceSub,qq9,qq8,qqb,qqc,v,↓evBind]
theorem d0b(h:∀l,ft [some (.frz (lnD l))]=some (p l,[some (.frz (lnD l))]))(ls:List Ln)(hl:ls.length<=1000):∃a,compLoop (a1g 0) ft (gVar 0) (ls.map lnD) [none] []=some (((ls.filter p).map lnD).map .frz,[a]):=by
 obtain⟨Γ',⟨a,rfl⟩,e⟩:=b2m (g:=a1g 0) (ct:=ft) (ce:=gVar 0) (fun Γ=>∃a:Option O,Γ=[a]) lnD p lnD ls [] [none] ⟨_,rfl⟩ (by rw[List.length_nil];omega) (by
  rintro x hx _ ⟨a,rfl⟩;have n:=h x;refine⟨[some (.frz (lnD x))],?_,_,rfl⟩;generalize lnD x=d at *;cases hb:p x <;> rw[hb] at n
  ·simp only[b6l,a3b,qq2,qq3,qqf,Nat.reduceLT,qq4,if_true,↓evBind,n,qqe,a0o,qq0,if_false]
  ·simp only[b6l,a3b,qq2,qq3,qqf,Nat.reduceLT,qq4,if_true,↓evBind,n,a0o,qq0])
 exact⟨a,e⟩
theorem d3e(h0:0 < h.belts.length)(hl:h.belts.length+h.carts.length<=1000)(hb:h.belts[whJ h c]?=some b){L:List O}{x1 x2 x5:Option O}(e:a6p (stH (some (.lst (((lnsOf h).map lnD).map .frz))) how c (some (.frz (.lst (Bs h)))) (some (.frz (.lst (Cs h)))) (some (fL (a1k b))))=some (.rt (dueO s n),[some (.lst L),x1,x2,x3,x4,x5])):
  a4w [.lst ((lnsOf h).map lnO),.frz (.int how),.frz (.int c)]=some (dueO s n,[some (.lst L),none,none]):=by
 have ll:(lnsOf h).length<=1000:=by unfold lnsOf;simp;exact hl
 obtain⟨a1,c1⟩:=d0b d4l (lnsOf h) ll;obtain⟨a2,c2⟩:=d0b d4m (lnsOf h) ll;rw[c9x,b4r] at c1;rw[c9y,b4s] at c2;have w:=d4n h0 c;have ex:oIx1 (.frz (.lst (Bs h))) (.int (whJ h c:Nat))=some (fL (a1k b)):=by
  rw[a8a];have:atI (Bs h) ((whJ h c:Nat):Int)=some (lnD (.b b)):=a5s (by unfold Bs;rw[List.getElem?_map,hb];rfl)
  rw[this];rfl
 have dl:=d3c (lnsOf h);have dz:=a8u ((lnsOf h).map lnD);generalize((whJ h c:Nat):Int)=j at *;unfold a4w;unfold a5z;unfold stH at e;generalize(lnsOf h).map lnO=X at *;generalize(lnsOf h).map lnD=Y at *;generalize a6p=f at *;generalize noC=t1 at *;generalize isCt=t2 at *;generalize whB=t3 at *;generalize a1k b=wb at *;unfold Bs Cs at *;generalize(h.belts.map fun b=>lnD (.b b))=B at *
 generalize(h.carts.map fun c=>lnD (.c c))=C at *
 simp only[a1v,qq6,qq7,qq2,qq3,qqf,Nat.reduceAdd,Nat.reduceSub,qq9,qq8,qqb,qqc,d4a,qq0,dl,qq4,a0p,a1p,a1a,b3l,c7g,List.not_mem_nil,a6c,↓evMap,if_false,↓evBind,b0i,List.append_nil,c1,List.drop_succ_cons,List.drop_zero,b0j,if_true,a4j,a4z,Nat.reduceLT,qq5,c2,a1d,a0d,a0o,qq1,w,a0g,a0l,a0j,a0k,a3c,ex,e,a4d,qqa,qqd,b0f,a3h,a3g]
theorem c0v(g:GoodW h){q:List Belt}(e:h.belts=q++b::post){l:Int}(hl:l < least b.ring):a0y [.frz (a3j ⟨q++{ b with long:=l}::post,h.carts⟩)]=some (.frz (.exc 49 none),[none]):=by
 have hb:b∈h.belts:=by rw[e];simp
 have n:=g.nmok (q:=q++[b]) (r:=post) (by rw[e];simp)
 have na:=NmOk.at (gc:=h.carts) (q:=q.map pr) (x:=pr b) (post:=[]) (by
  rw[List.map_append,a7j];exact n)
 have:=c0q (gc:=h.carts) (q:=q.map pr) (z:=wbOf { b with long:=l}) (x:=b.name) (rest:=post.map beltD) (by rw[a7j];exact g.nmok e) rfl (g.nm b hb) na.2.1 na.2.2.1 (g.nl b hb) hl
 rw[c4n] at this;refine c3d g.carts (k2:=_) (Eq.trans ?_ this);rw[List.map_append,List.map_cons]
theorem b4t(g:GoodW h){q:List Belt}(e:h.belts=q++r)(hz:BadN (h.carts++q.map Belt.name) (.str z.name)):a0y [.frz (a3j ⟨q++z::post,h.carts⟩)]=some (.frz (.exc 37 none),[none]):=by
 have:=c0p (gc:=h.carts) (q:=q.map pr) (z:=wbOf z) (rest:=post.map beltD) (by rw[a7j];exact g.nmok e) (by rw[a7j];exact hz)
 rw[c4n] at this;refine c3d g.carts (k2:=_) (Eq.trans ?_ this);rw[List.map_append,List.map_cons]
theorem b5t(g:GoodW h){q:List Belt}(e:h.belts=q++z::r){os:List Str}(bad:BadO (r.map Belt.name++h.carts) (os.map .str)):a0y [.frz (a3j ⟨q++{ z with outs:=os}::r,h.carts⟩)]=some (.frz (.exc 61 none),[none]):=by
 have f:=g.fwd;rw[e] at f;have hz:z∈h.belts:=by rw[e];simp
 have ef:(q.map pr++(z,os.map D.str)::r.map pr).map Prod.fst=h.belts:=by rw[List.map_append,List.map_cons,a7j,a7j,e]
 have ee:(q.map pr++(z,os.map D.str)::r.map pr).map eP=(q++{ z with outs:=os}::r).map beltD:=by rw[List.map_append,List.map_cons,c4n,c4n,List.map_append,List.map_cons];rfl
 have e2:=c9c (gc:=h.carts) (q:=q.map pr++(z,os.map D.str)::r.map pr) (by rw[ef];exact g.nmok (r:=[]) (by simp))
 have e3:=c9g (gc:=h.carts) (q:=q.map pr) (z:=(z,os.map D.str)) (r:=r.map pr) (by have:=g.sm.bl;rw[e] at this;simpa using this) g.sm.ct (by rw[ef];exact b0y g.cn g.fwd) (b4m (by rw[a7j,a7j];exact f) fun x hx=>by
  obtain⟨b,hb,rfl⟩:=List.mem_map.mp hx;have hb:b∈h.belts:=by rw[e];exact List.mem_append_left _ hb
  exact⟨rfl,g.nd b hb,g.o0 b hb⟩) (by rw[a7j];exact bad) (g.nl z hz)
 rw[ee] at e2 e3;exact d7e g.carts e2 e3
theorem c0w(g:GoodW h){bs:List Belt}(hb:BadN h.carts (.str x)):a0y [.frz (a3j ⟨bs,h.carts++[x]⟩)]=some (.frz (.exc 37 none),[none]):=by
 have:=c4m (pre:=h.carts) (d:=.str x) (rest:=[]) g.cn g.cm g.sm.ct hb;refine d2u (k1:=_) (Eq.trans ?_ this);rw[List.map_append];rfl
theorem a7y:noN (.str "A")/\noN (.str "a1")/\noN (.str "abcdefghi")/\isN "other"/\isN "zz":=⟨by kernel_rfl,by kernel_rfl,by kernel_rfl,by kernel_rfl,by kernel_rfl⟩
theorem c3j{carts:List Str}:∀{bs:List Belt},Fwd carts bs->∀b∈bs,∀o∈b.outs,o∈bs.map Belt.name\/o∈carts
 |x::bs,f,b,hb,o,ho=>by
  rcases List.mem_cons.mp hb with rfl|hb
  ·rcases f.1 o ho with z|z
   ·exact .inl (.tail _ z)
   ·exact .inr z
  ·rcases c3j f.2.2.2 b hb o ho with z|z
   ·exact .inl (.tail _ z)
   ·exact .inr z
theorem c3k{cs ds:List Str}(hs:∀c∈cs,c∈ds):∀{bs:List Belt},(∀b∈bs,b.name∉ds)->Fwd cs bs->Fwd ds bs
 |[],_,_=>True.intro
 |b::bs,h,f=>⟨fun o ho=>(f.1 o ho).imp id (hs o),f.2.1,h b (.head _),c3k hs (fun x hx=>h x (.tail _ hx)) f.2.2.2⟩
theorem c3l{cs:List Str}{z:Belt}(ho:∀o∈z.outs,o∈cs)(hz:z.name∉cs):∀{bs:List Belt},(∀b∈bs,b.name≠z.name)->Fwd cs bs->Fwd cs (bs++[z])
 |[],_,_=>⟨fun o h=>.inr (ho o h),fun h=>(by cases h),hz,True.intro⟩
 |b::bs,h,f=>by
  refine⟨fun o hp=>(f.1 o hp).imp (fun m=>?_) id,fun m=>?_,f.2.2.1,c3l ho hz (fun x hx=>h x (.tail _ hx)) f.2.2.2⟩
  ·show o∈(bs++[z]).map Belt.name;rw[List.map_append];exact List.mem_append_left _ m
  ·have m:b.name∈(bs++[z]).map Belt.name:=m;rw[List.map_append] at m;rcases List.mem_append.mp m with m|m
   ·exact f.2.1 m
   ·exact h b (.head _) (List.mem_singleton.mp m)
theorem c3m{cs:List Str}{b:Belt}{post:List Belt}:∀{q:List Belt},Fwd cs (q++b::post)->(∀o∈b.outs,o∈post.map Belt.name\/o∈cs)/\b.name∉post.map Belt.name/\b.name∉cs
 |[],f=>⟨f.1,f.2.1,f.2.2.1⟩
 |_::q,f=>c3m (q:=q) f.2.2.2
def a7k(h:House)(s:Str)(n:Int):Prop:=(s="right"/\n=9/\a0y [.frz (a3j h)]=some (.frz (.bl true),[none]))\/∃C,a0y [.frz (a3j h)]=some (.frz (.exc C none),[none])/\((C=37/\s="name")\/(C=49/\s="size")\/(C=61/\s="out")\/(C=73/\s="hand"))
section
variable {h:House} (d:DrawnL h)
include d
theorem told7{q:List Belt}(e:h.belts=q++b::post){l:Int}(hl:l < least b.ring):a7k ⟨q++{ b with long:=l}::post,h.carts⟩ "size" 3:=.inr ⟨49,c0v d.good.toGoodW e hl,.inr (.inl ⟨rfl,rfl⟩)⟩
theorem told8{q:List Belt}(e:h.belts=q++b::post)(hc:c0∈h.carts)(hx:x∈(["abcdefghi","A","a1",c0]:List Str)):a7k ⟨q++{ b with name:=x}::post,h.carts⟩ "name" 2:=by
 refine .inr ⟨37,b4t d.good.toGoodW e ?_,.inl ⟨rfl,rfl⟩⟩;simp only[List.mem_cons,List.not_mem_nil,or_false] at hx;rcases hx with rfl|rfl|rfl|rfl
 ·exact .inl a7y.2.2.1
 ·exact .inl a7y.1
 ·exact .inl a7y.2.1
 ·exact .inr ⟨_,rfl,d.good.cm _ hc,List.mem_append_left _ hc⟩
theorem told9{q:List Belt}{i:Nat}(e:h.belts=q++b::post)(hx:x∈(["nowhere",b.name,"A"]:List Str)):a7k ⟨q++{ b with outs:=insS b.outs i x}::post,h.carts⟩ "out" 4:=by
 refine .inr ⟨61,b5t d.good.toGoodW e (.inr ⟨b.outs.take i,.str x,(b.outs.drop i).map .str,?_,?_,rfl,fun y hy _=>?_⟩),.inr (.inr (.inl ⟨rfl,rfl⟩))⟩
 ·unfold insS;rw[List.map_append,List.map_cons]
 ·have f:=d.good.fwd;rw[e] at f;have hb:b∈h.belts:=by rw[e];simp
  refine⟨(List.take_sublist _ _).nodup (d.good.nd b hb),fun o ho=>?_⟩
  rcases(c3m f).1 o (List.mem_of_mem_take ho) with z|z
  ·exact List.mem_append_left _ z
  ·exact List.mem_append_right _ z
 ·have hne:y≠x:=by
   have hy':(y∈post.map Belt.name)\/y∈h.carts:=List.mem_append.mp hy;have f:=d.good.fwd;rw[e] at f;have ha:("A":Str)∉bN/\("A":Str)∉cN:=by decide +kernel
   simp only[List.mem_cons,List.not_mem_nil,or_false] at hx;intro z;subst z;rcases hy' with z|z
   ·obtain⟨b2,hb2,e2⟩:=List.mem_map.mp z;have hb3:b2∈h.belts:=by rw[e];simp[hb2]
    rcases hx with rfl|rfl|rfl
    ·exact d.good.wb b2 hb3 e2
    ·exact(c3m f).2.1 z
    ·exact ha.1 (by rw[<-e2];exact d.nmb b2 hb3)
   ·rcases hx with rfl|rfl|rfl
    ·exact d.good.wc z
    ·exact(c3m f).2.2 z
    ·exact ha.2 (d.cmb _ z)
  rw[a4e,beq_eq_false_iff_ne];exact hne
theorem d9z(hc:c0∈h.carts)(hx:x∈([c0,"A","abcdefghi"]:List Str)):a7k ⟨h.belts,h.carts++[x]⟩ "name" 1:=by
 refine .inr ⟨37,c0w d.good.toGoodW ?_,.inl ⟨rfl,rfl⟩⟩;simp only[List.mem_cons,List.not_mem_nil,or_false] at hx;rcases hx with rfl|rfl|rfl
 ·exact .inr ⟨_,rfl,d.good.cm _ hc,hc⟩
 ·exact .inl a7y.1
 ·exact .inl a7y.2.2.1
theorem e0a(hz:z.name∈h.belts.map Belt.name):a7k ⟨h.belts++[z],h.carts⟩ "name" 2:=by
 obtain⟨b,hb,e⟩:=List.mem_map.mp hz;exact .inr ⟨37,b4t d.good.toGoodW (r:=[]) (by simp) (.inr ⟨_,rfl,by rw[<-e];exact d.good.nm b hb,List.mem_append_right _ hz⟩),.inl ⟨rfl,rfl⟩⟩
theorem e0b:a7k ⟨h.belts,"other"::h.carts⟩ "hand" 5:=by
 have g:=d.good;have hb0:=d.b0;have nb:∀b∈h.belts,b.name∉("other":Str)::h.carts:=fun b hb z=>by
  rcases List.mem_cons.mp z with z|z
  ·exact(c4p _ (d.nmb b hb)).2.2.1 z
  ·exact(c4p _ (d.nmb b hb)).2.2.2.2 (d.cmb _ z)
 have nc:("other":Str)∉h.carts:=fun z=>(d7h _ (d.cmb _ z)).2.1 rfl
 have cl:h.carts.length<=3:=by
  obtain⟨m,hm,e⟩:=d.ct;rw[e,List.length_take];exact Nat.min_le_right _ _
 have sm:=g.sm;have gw:GoodW ⟨h.belts,"other"::h.carts⟩:=⟨c3k (fun c hc=>.tail _ hc) nb g.fwd,⟨sm.bl,by show h.carts.length+1<=100;omega,sm.ou⟩,fun c hc=>by
  rcases List.mem_cons.mp hc with rfl|hc
  ·exact a7y.2.2.2.1
  ·exact g.cm c hc,g.nm,g.lg,List.nodup_cons.mpr ⟨nc,g.cn⟩,Nat.succ_pos _,g.nd,g.o0,g.nl,g.wb,fun z=>by
  rcases List.mem_cons.mp z with z|z
  ·revert z;decide +kernel
  ·exact g.wc z⟩
 refine .inr ⟨73,c4o gw ?_,.inr (.inr (.inr ⟨rfl,rfl⟩))⟩;obtain⟨b,r,e⟩:∃b r,h.belts=b::r:=by
  cases hbs:h.belts with
  |nil=>rw[hbs] at hb0;exact absurd hb0 (by decide)
  |cons b r=>exact⟨b,r,rfl⟩
 refine⟨b,by show b∈h.belts;rw[e];exact .head _,fun z=>?_⟩
 rcases b4k g.fwd z with z|z|z
 ·cases z
 ·have:("other":Str)∈h.belts.map Belt.name:=by rw[List.map_tail] at z;exact List.mem_of_mem_tail z
  obtain⟨b2,hb2,e2⟩:=List.mem_map.mp this;exact(c4p _ (d.nmb b2 hb2)).2.2.1 e2
 ·exact nc z
theorem e0c(hc:c0∈h.carts):a7k ⟨h.belts++[⟨"zz",2,false,[c0,c0]⟩],h.carts⟩ "out" 4:=by
 have g:=d.good;have b4:=d.b4;have sm:=g.sm;have zc:("zz":Str)∉h.carts:=fun z=>(d7h _ (d.cmb _ z)).2.2 rfl
 have al:∀{p:Belt->Prop},(∀b∈h.belts,p b)->p ⟨"zz",2,false,[c0]⟩->∀b∈h.belts++[⟨"zz",2,false,[c0]⟩],p b:=fun h1 h2 b hb=>by
  rcases List.mem_append.mp hb with z|z
  ·exact h1 b z
  ·rw[List.mem_singleton.mp z];exact h2
 have ou:((h.belts++[(⟨"zz",2,false,[c0]⟩:Belt)]).map fun(x:Belt)=>x.outs.length).sum<=900:=by
  have:=c9j (m:=2) fun b hb=>(d.li.nd b hb).2
  rw[List.map_append,List.sum_append];show _+1<=900;omega
 have gw:GoodW ⟨h.belts++[⟨"zz",2,false,[c0]⟩],h.carts⟩:=⟨c3l (fun o ho=>by rw[List.mem_singleton.mp ho];exact hc) zc (fun b hb=>(c4p _ (d.nmb b hb)).2.2.2.1) g.fwd,⟨by show(h.belts++_).length<=100;rw[List.length_append];show _+1<=100;omega,sm.ct,ou⟩,g.cm,al g.nm a7y.2.2.2.2,al g.lg ⟨(by decide:(1:Int)<=2),(by decide:false=true->(2:Int)<=2)⟩,g.cn,g.c0,al g.nd (List.nodup_cons.mpr ⟨fun z=>(by cases z),List.nodup_nil⟩),al g.o0 (fun z=>by cases z),al g.nl (by decide +kernel:("zz":Str).length<=20),al g.wb (by decide +kernel:("zz":Str)≠"nowhere"),g.wc⟩
 refine .inr ⟨61,b5t gw (z:=⟨"zz",2,false,[c0]⟩) (r:=[]) rfl (os:=[c0,c0]) (.inr ⟨[c0],.str c0,[],rfl,⟨List.nodup_cons.mpr ⟨fun z=>(by cases z),List.nodup_nil⟩,fun o ho=>?_⟩,rfl,fun y hy hn=>?_⟩),.inr (.inr (.inl ⟨rfl,rfl⟩))⟩
 ·rw[List.mem_singleton.mp ho];exact hc
 ·rw[a4e,beq_eq_false_iff_ne];exact fun z=>hn (by rw[z];exact .head _)
theorem e0d:a7k h "right" 9:=.inl ⟨rfl,rfl,d7g d.good⟩
end
theorem a9p{o:O}(e:f Γ=some (.rt o,Γ1)):a0h f g Γ=some (.rt o,Γ1):=by
 rw[a0p,e];rfl
theorem b7j(e:f Γ=none):a0h f g Γ=none:=by
 rw[a0p,e];rfl
theorem d7l:∀x∈bN++cN,plW x=true/\x≠"":=by decide +kernel
theorem e1m:∀x∈(["abcdefghi","A","a1","nowhere","other","zz"]:List Str),plW x=true/\x≠"":=by decide +kernel
theorem DrawnL.okc(d:DrawnL h):∀c∈h.carts,okW c:=fun c hc=>d7l c (List.mem_append_right _ (d.cmb c hc))
theorem DrawnL.okb(d:DrawnL h):∀b∈h.belts,OkB b:=fun b hb=>by
 have g:=d.good;have l:=d.li.lg b hb;refine⟨d7l _ (List.mem_append_left _ (d.nmb b hb)),fun o ho=>?_,g.o0 b hb,by have:=(d.li.nd b hb).2;omega,by omega,by omega⟩
 rcases c3j g.fwd b hb o ho with z|z
 ·obtain⟨b2,hb2,e⟩:=List.mem_map.mp z;rw[<-e];exact d7l _ (List.mem_append_left _ (d.nmb b2 hb2))
 ·exact d.okc o z
theorem d0c(hb:∀b∈h.belts,OkB b)(hc:∀c∈h.carts,okW c):∀l∈lnsOf h,l.ok:=by
 intro l hl;unfold lnsOf at hl;rcases List.mem_append.mp hl with z|z
 ·obtain⟨b,m,rfl⟩:=List.mem_map.mp z;exact hb b m
 ·obtain⟨b,m,rfl⟩:=List.mem_map.mp z;exact hc b m
theorem DrawnL.c3(d:DrawnL h):h.carts.length<=3:=by
 obtain⟨m,hm,e⟩:=d.ct;rw[e,List.length_take];exact Nat.min_le_right _ _
theorem DrawnL.len(d:DrawnL h):(lnsOf h).length<=7/\(lnsOf h).length=h.belts.length+h.carts.length:=by
 have:=d.c3;have:=d.b4;unfold lnsOf;simp;omega
def d0d(h:House)(how c:Int):Prop:=∃(ns:List Ln) (s:Str) (n:Int) (os:List O),a4h [.lst ((lnsOf h).map lnO),.frz (.int how),.frz (.int c)]=some (dueO s n,[some (.lst os),none,none])/\O.dl os=ns.map lnD/\LnsOk ns/\a7k ⟨lnB ns,lnC ns⟩ s n
theorem d7m{q post cs:_}:(lnsOf ⟨q++b::post,cs⟩).set q.length (.b b')=lnsOf ⟨q++b'::post,cs⟩:=by
 unfold lnsOf;simp
section
variable {h:House} (d:DrawnL h) {how c:Int} {s:Str} {n:Int}
include d
theorem kindA{q:List Belt}(e:h.belts=q++b::post)(hj:q.length=whJ h c)(ok:OkB b')(run:a6p (stH none how c none (some (.frz (.lst (Cs h)))) (some (lnO (.b b))))=some (.rt (dueO s n),stH none how c none (some (.frz (.lst (Cs h)))) (some (lnO (.b b')))))(told:a7k ⟨q++b'::post,h.carts⟩ s n):d0d h how c:=by
 have hb:h.belts[whJ h c]?=some b:=by rw[<-hj,e];simp
 have l7:=d.len;have v:=d3d d.b0 (by omega) hb run
 have es:(lnsOf h).set (whJ h c) (.b b')=lnsOf ⟨q++b'::post,h.carts⟩:=by
  rw[<-d7m (b:=b),hj,<-e]
 rw[es] at v;refine⟨lnsOf ⟨q++b'::post,h.carts⟩,s,n,_,by unfold a4h;rw[v];rfl,d3c _,⟨?_,?_,?_⟩,by rw[b4r,b4s];exact told⟩
 ·rw[<-es];intro z;have:=congrArg List.length z;rw[List.length_set,List.length_nil] at this;have:=d.b0;omega
 ·rw[<-es,List.length_set];omega
 ·refine d0c (fun x hx=>?_) d.okc
  have hx:x∈q++b'::post:=hx;rcases List.mem_append.mp hx with z|z
  ·exact d.okb x (by rw[e];exact List.mem_append_left _ z)
  ·rcases List.mem_cons.mp z with rfl|z
   ·exact ok
   ·exact d.okb x (by rw[e];exact List.mem_append_right _ (.tail _ z))
theorem kindB(hb:h.belts[whJ h c]?=some b)(no:a6p (stH none how c none (some (.frz (.lst (Cs h)))) (some (lnO (.b b))))=none)(run:a6p (stH (some (.lst (((lnsOf h).map lnD).map .frz))) how c (some (.frz (.lst (Bs h)))) (some (.frz (.lst (Cs h)))) (some (fL (a1k b))))=some (.rt (dueO s n),stH (some (.lst ((ns.map lnD).map .frz))) how c (some (.frz (.lst (Bs h)))) (some (.frz (.lst (Cs h)))) (some (fL (a1k b)))))(ok:LnsOk ns)(told:a7k ⟨lnB ns,lnC ns⟩ s n):d0d h how c:=by
 have l7:=d.len;have v:=d0a d.b0 (by omega) hb no
 have f:=d3e d.b0 (by omega) hb run
 exact⟨ns,s,n,_,by unfold a4h;rw[v,f];rfl,a8u _,ok,told⟩
end
theorem e0e{w:List Str}(i:Nat)(h:i < w.length)(x:Str):mSet (.lst (w.map fS)) [fS x,.frz (.int (i:Int))]=some (.lst ((w.set i x).map fS),.frz .non):=by
 rw[a8d,c7h _ _ (by rw[List.length_map];exact h),List.map_set]
 rfl
theorem ixW{w:List Str}(i:Nat)(h:w[i]?=some x):oIx1 (.lst (w.map fS)) (.int (i:Int))=some (fS x):=by
 have:atI (w.map fS) (i:Int)=some (fS x):=a5s (by rw[List.getElem?_map,h];rfl)
 rw[a5q,this];rfl
theorem b9s:strI 0="0"/\strI 1="1"/\strI 2="2":=by decide +kernel
theorem wlen(b:Belt):4<=(a1k b).length:=by unfold a1k;rw[List.length_append];exact Nat.le_add_right _ _
theorem e0f(ls:List Ln)(l:Ln)(h:ls.length<=1000):a2g (.lst ((ls.map lnD).map .frz)) [.frz (lnD l)]=some (.lst (((ls++[l]).map lnD).map .frz),.frz .non):=by
 refine(if_pos (by rw[List.length_map,List.length_map];omega)).trans ?_
 rw[List.map_append,List.map_append];rfl
theorem d7n(d:DrawnL h)(h6:6 < how)(h15:how < 15)(c0:0<=c):d0d h how c:=by
 have hj:=d4o d.b0 c;obtain⟨b,hb⟩:∃b,h.belts[whJ h c]?=some b:=⟨_,List.getElem?_eq_getElem hj⟩;have hm:b∈h.belts:=List.mem_of_getElem? hb;obtain⟨q,post,e,eq⟩:∃q post,h.belts=q++b::post/\q.length=whJ h c:=by
  refine⟨h.belts.take (whJ h c),h.belts.drop (whJ h c+1),?_,by rw[List.length_take];omega⟩
  rw[List.getElem?_eq_getElem hj] at hb;rw[<-Option.some.inj hb,<-List.drop_eq_getElem_cons hj,List.take_append_drop]
 have ob:=d.okb b hm;obtain⟨k,r,ek⟩:∃k r,h.carts=k::r:=by
  have:=d.good.c0;cases hc:h.carts with
  |nil=>rw[hc] at this;exact absurd this (by decide)
  |cons k r=>exact⟨k,r,rfl⟩
 have kc:k∈h.carts:=by rw[ek];exact .head _
 have kok:=d.okc k kc;have k0:oIx1 (.frz (.lst (Cs h))) (.int 0)=some (fL ["cart",k]):=by
  unfold Cs;rw[ek,List.map_cons,a8a,a5m];rfl
 obtain⟨b1,r1,e1⟩:∃b r,h.belts=b::r:=by
  have:=d.b0;cases hbs:h.belts with
  |nil=>rw[hbs] at this;exact absurd this (by decide)
  |cons b r=>exact⟨b,r,rfl⟩
 have l7:=d.len;have wl:=wlen b;have xok:=e1m;have ox:∀x∈k::b.name::(["abcdefghi","A","a1","nowhere","other","zz"]:List Str),okW x:=fun x hx=>by
  rcases List.mem_cons.mp hx with rfl|hx
  ·exact kok
  ·rcases List.mem_cons.mp hx with rfl|hx
   ·exact ob.nm
   ·exact xok x hx
 have lok:∀l∈lnsOf h,l.ok:=d0c d.okb d.okc;have nl:∀(ns:List Ln),ns.length<=8->ns≠[]->(∀l∈ns,l∈lnsOf h\/l.ok)->LnsOk ns:=fun ns h1 h2 h3=>⟨h2,by omega,fun l hl=>(h3 l hl).elim (lok l) id⟩
 have sn:∀l:Ln,l.ok->LnsOk (lnsOf h++[l]):=fun l hl=>nl _ (by rw[List.length_append];show _+1<=8;omega) (by simp) fun x hx=>by
  rcases List.mem_append.mp hx with z|z
  ·exact .inl z
  ·rw[List.mem_singleton.mp z];exact .inr hl
 have ap:=fun l=>e0f (lnsOf h) l (by omega)
 have i1:oIx1 (.lst ((a1k b).map fS)) (.int 1)=some (fS b.name):=ixW 1 rfl;have i0:oIx1 (.lst ((a1k b).map fS)) (.int 0)=some (fS (wrd b)):=ixW 0 rfl;have hh:how=7\/how=8\/how=9\/how=10\/how=11\/how=12\/how=13\/how=14:=by omega
 rcases hh with rfl|rfl|rfl|rfl|rfl|rfl|rfl|rfl
 ·have wr:(wrd b == "ring")=b.ring:=by
   unfold wrd;cases b.ring with
   |true=>decide +kernel
   |false=>decide +kernel
  obtain⟨l,x,el,ll,l2,hx⟩:∃(l:Int) (x:Str),strI l=x/\0<=l/\l < least b.ring/\atI [fS "0",fS "1"] ((if b.ring=true then 1 else 0) * (c % 2))=some (fS x):=by
   unfold least;cases b.ring with
   |false=>exact⟨0,"0",b9s.1,by decide,by decide,by rw[if_neg Bool.false_ne_true,Int.zero_mul];rfl⟩
   |true=>
    have:c % 2=0\/c % 2=1:=by omega
    rcases this with z|z
    ·exact⟨0,"0",b9s.1,by decide,by decide,by rw[z];rfl⟩
    ·exact⟨1,"1",b9s.2.1,by decide,by decide,by rw[z];rfl⟩
  have l3:l < 2:=by unfold least at l2;split at l2 <;> omega
  have hw:(a1k b).set 2 x=a1k { b with long:=l}:=by rw[<-el];rfl
  have hp:mSet (.lst ((a1k b).map fS)) [fS x,.frz (.int 2)]=some (.lst ((a1k { b with long:=l}).map fS),.frz .non):=by rw[<-hw];exact e0e 2 (by omega) x
  exact kindA (b':={ b with long:=l}) d e eq ⟨ob.nm,ob.ou,ob.o0,ob.ol,ll,by show l < 21;omega⟩ (a9p (hd7 i0 wr hx hp)) (told7 d e l2)
 ·obtain⟨x,mx,hx⟩:=b5s (xs:=["abcdefghi","A","a1",k]) (k:=c % 4) (by omega) (by show _ < (4:Int);omega)
  have hp:mSet (.lst ((a1k b).map fS)) [fS x,.frz (.int 1)]=some (.lst ((a1k { b with name:=x}).map fS),.frz .non):=e0e 1 (by omega) x
  have ox:okW x:=ox x (by simp at mx ⊢;rcases mx with z|z|z|z <;> simp[z])
  refine kindA (b':={ b with name:=x}) d e eq ⟨ox,ob.ou,ob.o0,ob.ol,ob.l0,ob.l1⟩ ?_ (told8 d e kc mx);unfold a6p;rw[a0m hs0];exact a9p (hd8 k0 hx hp)
 ·obtain⟨x,mx,hx⟩:=b5s (xs:=["nowhere",b.name,"A"]) (k:=c / 2 % 3) (by omega) (by show _ < (3:Int);omega)
  obtain⟨i,hi,i2⟩:=b1t (n:=2) (x:=c % 2) (by omega) (by omega)
  have hp:a3p (.lst ((a1k b).map fS)) [.frz (.int (4+c % 2)),fS x]=some (.lst ((a1k { b with outs:=insS b.outs i x}).map fS),.frz .non):=by
   have ol:=(ob.ol);have:=c8s (a1k b) (4+c % 2) x (by omega) (by omega) (by unfold a1k;rw[List.length_append];show 4+_ < _;omega)
   rw[this,hi,show(4+(i:Int)).toNat=i+4 by omega]
   rfl
  have ox:okW x:=ox x (by simp at mx ⊢;rcases mx with z|z|z <;> simp[z])
  have il:=d1a b.outs i x;have o2:=(d.li.nd b hm).2;refine kindA (b':={ b with outs:=insS b.outs i x}) d e eq ⟨ob.nm,fun o ho=>?_,fun z=>?_,by show(insS b.outs i x).length<=20;omega,ob.l0,ob.l1⟩ ?_ (told9 d e mx (i:=i))
  ·have ho:o∈insS b.outs i x:=ho;unfold insS at ho;rcases List.mem_append.mp ho with z|z
   ·exact ob.ou o (List.mem_of_mem_take z)
   ·rcases List.mem_cons.mp z with rfl|z
    ·exact ox
    ·exact ob.ou o (List.mem_of_mem_drop z)
  ·have z:insS b.outs i x=[]:=z;rw[z,List.length_nil] at il;omega
  ·unfold a6p;rw[a0m hs0,a0m hs1];exact a9p (hd9 i1 hx hp)
 ·obtain⟨x,mx,hx⟩:=b5s (xs:=[k,"A","abcdefghi"]) (k:=c % 3) (by omega) (by show _ < (3:Int);omega)
  have ox:okW x:=ox x (by simp at mx ⊢;rcases mx with z|z|z <;> simp[z])
  refine kindB (s:="name") (n:=1) d hb (ns:=lnsOf h++[.c x]) ?_ ?_ (sn (.c x) ox) ?_
  ·unfold a6p;rw[a0m hs0,a0m hs1,a0m hs2];exact b7j (hn10 k0 hx)
  ·unfold a6p;rw[a0m hs0,a0m hs1,a0m hs2];exact a9p (hd10 k0 hx (ap (.c x)))
  ·rw[a9n,a9o,b4r,b4s];have:=d9z d kc mx;rw[<-List.append_nil h.belts] at this;exact this
 ·refine kindB (s:="name") (n:=2) d hb (ns:=lnsOf h++[.b ⟨b1.name,2,false,[k]⟩]) ?_ ?_ (sn (.b ⟨b1.name,2,false,[k]⟩) (OkB.mk (d.okb b1 (by rw[e1];exact .head _)).nm (fun o ho=>?_) (fun z=>(by cases z)) (by decide:1<=20) (by decide:(0:Int)<=2) (by decide:(2:Int) < 21))) ?_
  ·unfold a6p;rw[a0m hs0,a0m hs1,a0m hs2,a0m hs3];exact b7j hn11
  ·unfold a6p;rw[a0m hs0,a0m hs1,a0m hs2,a0m hs3];refine a9p (hd11 (w3:=a1k b1) (b:=b1.name) ?_ (a7x _ _ _) k0 ?_)
   ·unfold Bs;rw[e1,List.map_cons,a8a,a5m];rfl
   ·exact(by rw[<-b9s.2.2];rfl:O.frz (lnD (.b ⟨b1.name,2,false,[k]⟩))=fL ["belt",b1.name,"2","to",k]) ▸ ap (.b ⟨b1.name,2,false,[k]⟩)
  ·rw[List.mem_singleton.mp ho];exact kok
  ·rw[a9n,a9o,b4r,b4s];have:=e0a d (z:=⟨b1.name,2,false,[k]⟩) (by rw[e1];exact .head _)
   rw[<-List.append_nil h.carts] at this;exact this
 ·refine kindB (s:="hand") (n:=5) d hb (ns:=.c "other"::lnsOf h) ?_ ?_ (nl _ (by rw[List.length_cons];omega) (by simp) fun x hx=>?_) ?_
  ·unfold a6p;rw[a0m hs0,a0m hs1,a0m hs2,a0m hs3,a0m hs4];exact b7j hn12
  ·unfold a6p;rw[a0m hs0,a0m hs1,a0m hs2,a0m hs3,a0m hs4];exact a9p (hd12 ((if_pos ⟨by decide,by decide,by rw[List.length_map,List.length_map];omega⟩).trans rfl))
  ·rcases List.mem_cons.mp hx with rfl|z
   ·exact .inr (xok "other" (by simp))
   ·exact .inl z
  ·show a7k ⟨lnB (lnsOf h),"other"::lnC (lnsOf h)⟩ _ _;rw[b4r,b4s];exact e0b d
 ·refine kindB (s:="out") (n:=4) d hb (ns:=lnsOf h++[.b ⟨"zz",2,false,[k,k]⟩]) ?_ ?_ (sn (.b ⟨"zz",2,false,[k,k]⟩) (OkB.mk (xok "zz" (by simp)) (fun o ho=>?_) (fun z=>(by cases z)) (by decide:2<=20) (by decide:(0:Int)<=2) (by decide:(2:Int) < 21))) ?_
  ·unfold a6p;rw[a0m hs0,a0m hs1,a0m hs2,a0m hs3,a0m hs4,a0m hs5];exact b7j (hn13 k0)
  ·unfold a6p;rw[a0m hs0,a0m hs1,a0m hs2,a0m hs3,a0m hs4,a0m hs5];exact a9p (hd13 k0 ((by rw[<-b9s.2.2];rfl:O.frz (lnD (.b ⟨"zz",2,false,[k,k]⟩))=fL ["belt","zz","2","to",k,k]) ▸ ap (.b ⟨"zz",2,false,[k,k]⟩)))
  ·rcases List.mem_cons.mp ho with rfl|ho
   ·exact kok
   ·rw[List.mem_singleton.mp ho];exact kok
  ·rw[a9n,a9o,b4r,b4s];have:=e0c d kc;rw[<-List.append_nil h.carts] at this;exact this
 ·refine kindA (b':=b) d e eq ob ?_ (by rw[<-e];exact e0d d)
  unfold a6p;rw[a0m hs0,a0m hs1,a0m hs2,a0m hs3,a0m hs4,a0m hs5,a0m hs6];exact hR
structure Fin (ls:List (List Str)) (s:Str) (n:Int) (d:D):Prop where
 rd:∃r,resT r d/\a3u [.frz (.str (textS ls))]=some (.frz r,[none])
 du:(((s == "line")=true\/(s == "line")=false/\(s == "right")=true)/\d=told1 s n)\/((s == "line")=false/\(s == "right")=false)/\d=.str s
 pl:∀ws∈ls,PlL ws
 le:ls.length<=60
theorem d3f(h:LnsOk ns)(t:a7k ⟨lnB ns,lnC ns⟩ s n):∃d,Fin (ns.map Ln.w) s n d:=by
 have pl:∀ws∈ns.map Ln.w,PlL ws:=fun ws hw=>by
  obtain⟨l,hl,rfl⟩:=List.mem_map.mp hw;exact Ln.pl (h.ok l hl)
 have le:(ns.map Ln.w).length<=60:=by rw[List.length_map];exact h.len
 rcases t with⟨rfl,rfl,e⟩|⟨C,e,t⟩
 ·exact⟨_,⟨_,.inl ⟨_,_,rfl,rfl⟩,c9u h e (.inl ⟨rfl,rfl⟩)⟩,.inl ⟨.inr ⟨by decide +kernel,beq_self_eq_true _⟩,rfl⟩,pl,le⟩
 ·have r:=c9u h e (.inr ⟨C,rfl,rfl⟩);rcases t with⟨rfl,rfl⟩|⟨rfl,rfl⟩|⟨rfl,rfl⟩|⟨rfl,rfl⟩
  ·exact⟨_,⟨_,.inr (.inr (.inl ⟨rfl,rfl⟩)),r⟩,.inr ⟨by decide +kernel,rfl⟩,pl,le⟩
  ·exact⟨_,⟨_,.inr (.inr (.inr (.inl ⟨rfl,rfl⟩))),r⟩,.inr ⟨by decide +kernel,rfl⟩,pl,le⟩
  ·exact⟨_,⟨_,.inr (.inr (.inr (.inr (.inl ⟨rfl,rfl⟩)))),r⟩,.inr ⟨by decide +kernel,rfl⟩,pl,le⟩
  ·exact⟨_,⟨_,.inr (.inr (.inr (.inr (.inr ⟨rfl,rfl⟩)))),r⟩,.inr ⟨by decide +kernel,rfl⟩,pl,le⟩
theorem c0x(h:LnsOk ns)(hl:ls.length=ns.length)(hk:k < ns.length)(pre:∀i,i < k->ls[i]?=(ns.map Ln.w)[i]?)(hw:ls[k]?=some ws)(hb:BadL ws)(pl:∀x∈ls,PlL x):∃d,Fin ls "line" k d:=by
 have e:ls=(ns.take k).map Ln.w++ws::ls.drop (k+1):=by
  have hk':k < ls.length:=by omega
  rw[List.getElem?_eq_getElem hk'] at hw;rw[<-Option.some.inj hw,<-List.drop_eq_getElem_cons hk'];have:(ns.take k).map Ln.w=ls.take k:=by
   refine List.ext_getElem? fun i=>?_
   rw[List.map_take,List.getElem?_take,List.getElem?_take];split
   ·exact(pre i ‹_›).symm
   ·rfl
  rw[this,List.take_append_drop]
 have l60:=h.len;have r:=c9v (ls:=ns.take k) (ws:=ws) (rest:=ls.drop (k+1)) (fun l hl=>h.ok l (List.mem_of_mem_take hl)) hb (by rw[<-e];omega) fun x hx=>pl x (List.mem_of_mem_drop hx)
 rw[<-e,List.length_take,Nat.min_eq_left (by omega)] at r
 exact⟨_,⟨_,.inr (.inl ⟨_,rfl,rfl⟩),r⟩,.inl ⟨.inl (beq_self_eq_true _),rfl⟩,pl,by omega⟩
abbrev stX(s:Option O)(F:Feed)(L:List O)(how:Int)(due:D)(k o w t:Option O):Gm:=[s,some (feedT F),some (.lst L),some (.frz (.int how)),some (.frz due),k,o,w,t]
theorem d3g(pl:∀ws∈ls,PlL ws)(le:ls.length<=60)(s:Option O)(F:Feed)(how:Int)(due:D)(k o w t:Option O):lb2 (stX s F (ls.map fL) how due k o w t)=some (.nx,stX s F (ls.map fL) how due k o (some (.frz (.str (textS ls)))) t):=by
 have dl:frzL (ls.map fL)=some (ls.map fun ws=>D.lst (ws.map .str)):=by
  rw[show ls.map fL=(ls.map fun ws=>D.lst (ws.map .str)).map O.frz by rw[List.map_map];rfl,a6c]
 obtain⟨Γ',⟨a,rfl⟩,e⟩:=c2a (g:=a1g 0) (ct:=gYes) (ce:=b0k oJoin (gC (.str " ")) (a0c (gVar 0) gaNil)) (fun Γ=>∃a:Option O,Γ=[a]) (fun ws:List Str=>D.lst (ws.map .str)) (fun ws=>D.str (lineS ws)) ls [none] ⟨_,rfl⟩ (by omega) (by
  rintro ws hw _ ⟨a,rfl⟩;have p:=pl ws hw;have p2:=p.l;have j:oJoin [.frz (.str " "),.frz (.lst (ws.map .str))]=some (.frz (.str (lineS ws))):=by
   rw[d1x,if_pos (c9k _ _ (by decide) (by omega) fun y hy=>by have:=(b7g (p.w y hy)).2.2;omega),b9p]
   rfl
  refine⟨[some (.frz (.lst (ws.map .str)))],?_,_,rfl⟩;generalize ws.map D.str=wd at *;generalize lineS ws=ln at *;simp only[b6l,a3b,qq2,qq3,qqf,Nat.reduceLT,qq4,if_true,↓evBind,d3u,a6v,a2x,a0d,a0o,qq0,a0g,a0l,a0j,a0k,j])
 have j2:oJoin [.frz (.str "\n"),.lst ((ls.map fun ws=>D.str (lineS ws)).map .frz)]=some (.frz (.str (textS ls))):=by
  rw[show(ls.map fun ws=>D.str (lineS ws))=(ls.map lineS).map D.str by rw[List.map_map];rfl,d1y,if_pos (c9k _ _ (by decide) (by rw[List.length_map];omega) fun y hy=>by
   obtain⟨l,hl,rfl⟩:=List.mem_map.mp hy;have:=b4n (pl l hl);omega),b9p]
  rfl
 generalize(ls.map fun ws=>D.str (lineS ws))=lt at *
 generalize(ls.map fun ws=>D.lst (ws.map D.str))=ld at *
 generalize ls.map fL=L at *;generalize textS ls=tx at *;unfold lb2 stX;simp only[a1p,a6v,a2x,↓evBind,a0d,b3l,c7g,List.not_mem_nil,qq1,qq0,dl,↓evMap,if_false,qq9,qq8,b0i,List.append_nil,e,qq2,qq3,qqf,Nat.reduceAdd,List.drop_succ_cons,List.drop_zero,b0j,if_true,a0g,a0l,a0j,a0k,j2,Nat.reduceLT,qq5,qq4]
theorem d7o{d:D}(f:Fin ls s n d)(sc:Option O)(F:Feed)(how:Int)(k o w t:Option O):∃Γ,Γ.length=9/\(a0h lb2 (a0h lb3 (a0h lb4 lb5))) (stX sc F (ls.map fL) how (told1 s n) k o w t)=some (.rt (.frz (.bl true)),Γ):=by
 obtain⟨r,r1,r2⟩:=f.rd;have e3:=d9q r1 r2;rw[a0m (d3g f.pl f.le ..)];have ix:oIx1 (.frz (told1 s n)) (.int 0)=some (fS s):=by unfold told1;rw[b5i,a5m];rfl
 have same:∀d:D,okD 40 (.lst [d])=true->oEq [.frz (.lst [d]),.lst [.frz d]]=some (.frz (.bl true)):=fun d h=>by
  have kd:(O.lst [.frz d]).d=.lst [d]:=rfl;rw[a2y,a1i,kd,if_pos ⟨h,h⟩,b2i 40 h]
 have du:=f.du;generalize ls.map fL=L at *;generalize textS ls=tx at *;refine⟨stX sc F L how (told1 s n) k o (some (.frz (.str tx))) (some (.frz (.lst [d]))),rfl,?_⟩;rcases du with⟨h1,rfl⟩|⟨⟨h1,h2⟩,rfl⟩
 ·have sm:=same (told1 s n) rfl;generalize told1 s n=tt at *;rcases h1 with h1|⟨h1,h2⟩
  ·unfold lb3 lb4 lb5 stX;simp only[a0p,a1p,a1a,a1f,a0d,a0o,qq1,qq0,↓evBind,a0g,a0x,a0w,e3,a2c,a2b,a4j,a3d,a1i,a2v,qq2,qq3,qqf,Nat.reduceAdd,Nat.reduceLT,qq5,qq4,if_true,a0z,a5g,a4p,a1d,a2x,a0l,a0j,a0k,a3c,ix,a2y,a2q,and_self,a4e,h1,a2t,a1s,Nat.reduceLeDiff,a1e,a1c,sm,a1b]
  ·unfold lb3 lb4 lb5 stX;simp only[a0p,a1p,a1a,a1f,a0d,a0o,qq1,qq0,↓evBind,a0g,a0x,a0w,e3,a2c,a2b,a4j,a3d,a1i,a2v,qq2,qq3,qqf,Nat.reduceAdd,Nat.reduceLT,qq5,qq4,if_true,a0z,a5g,a4p,a1d,a2x,a0l,a0j,a0k,a3c,ix,a2y,a2q,and_self,a4e,h1,qqe,h2,if_false,a2t,a1s,Nat.reduceLeDiff,a1e,a1c,sm,a1b]
 ·have sm:=same (.str s) rfl;generalize told1 s n=tt at *;unfold lb3 lb4 lb5 stX;simp only[a0p,a1p,a1a,a1f,a0d,a0o,qq1,qq0,↓evBind,a0g,a0x,a0w,e3,a2c,a2b,a4j,a3d,a1i,a2v,qq2,qq3,qqf,Nat.reduceAdd,Nat.reduceLT,qq5,qq4,if_true,a0z,a5g,a4p,a1d,a2x,a0l,a0j,a0k,a3c,ix,a2y,a2q,and_self,a4e,h1,qqe,h2,if_false,a2t,a1s,Nat.reduceLeDiff,a1e,a1c,a1b,sm]
abbrev Dr(F:Feed)(m v:Int)(F1:Feed):Prop:=a1y [feedT F,.frz (.int m)]=some (.frz (.int v),[some (feedT F1),none])
section
variable {sc k o:Option O} {F F1 F2:Feed} {L N:List O} {how m v u c:Int} {due:D}
theorem e1n(h:how<=6):la5 (stX sc F L how due none none none none)=some (.nx,stX sc F L how due none none none none):=by
 have c:decide (how > 6)=false:=by rw[decide_eq_false_iff_not];omega
 unfold la5 stX;simp only[a0z,a4p,a1d,a0d,a0o,qq1,qq0,↓evBind,a2x,a0g,a0l,a0j,a0k,a2n,c,if_true,qqe,a1p,a1a,a1f,a1m,qq5,qq4,a0x,a0w,a1b,if_false]
theorem e0g(h:6 < how)(dr:Dr F 1000003 v F1)(e:a4h [.lst L,.frz (.int how),.frz (.int v)]=some (dueO s n,[some (.lst N),none,none])):la5 (stX sc F L how due none none none none)=some (.nx,stX sc F1 N how (told1 s n) none none none none):=by
 have c:decide (how > 6)=true:=by rw[decide_eq_true_eq];omega
 unfold la5 stX told1;simp only[a0z,a4p,a1d,a0d,a0o,qq1,qq0,↓evBind,a2x,a0g,a0l,a0j,a0k,a2n,c,if_true,a1p,a1a,a1f,a1m,qq5,qq4,a0x,a0w,dr,a4c,a2c,a2b,a1i,e,b8m,a3d,a2v,qq2,qq3,qqf,Nat.reduceAdd,Nat.reduceLT,a1b]
theorem e0h(hl:oLen [.lst L]=some (.frz (.int m)))(dr:Dr F m v F1):lc0 (stX sc F L how due k o none none)=some (.nx,stX sc F1 L how due (some (.frz (.int v))) o none none):=by
 unfold lc0 stX;simp only[a1p,a1a,a1f,a0d,a0o,qq1,qq0,↓evBind,a1d,a0g,a0l,a3q,Option.join_some,a0k,hl,a1m,qq5,qq4,a0x,a0w,dr,a4c,a2c,a2b,a1i,qq2,qq3,qqf,Nat.reduceAdd,Nat.reduceLT,if_true]
theorem e0i(hl:oLen [.lst L]=some (.frz (.int m)))(dr:Dr F m v F1):lc1 (stX sc F L how due k o none none)=some (.nx,stX sc F1 L how due k (some (.frz (.int v))) none none):=by
 unfold lc1 stX;simp only[a1p,a1a,a1f,a0d,a0o,qq1,qq0,↓evBind,a1d,a0g,a0l,a3q,Option.join_some,a0k,hl,a1m,qq5,qq4,a0x,a0w,dr,a4c,a2c,a2b,a1i,qq2,qq3,qqf,Nat.reduceAdd,Nat.reduceLT,if_true]
theorem e0j(d1:Dr F 7 u F1)(d2:Dr F1 1000003 c F2)(e:a3y [.lst L,.frz (.int v),.frz (.int u),.frz (.int c)]=some (.frz .non,[some (.lst N),none,none,none])):lc2 (stX sc F L how due (some (.frz (.int v))) o none none)=some (.nx,stX sc F2 N how due (some (.frz (.int v))) o none none):=by
 unfold lc2 stX;simp only[a2h,a1f,a0d,a0o,qq1,qq0,↓evBind,a1a,a2x,a0g,a1m,qq5,qq4,a0x,a0w,d1,a4c,a2c,a2b,a1i,d2,e]
theorem e1o(h:u=v\/7<=how):lc3 (stX sc F L how due (some (.frz (.int v))) (some (.frz (.int u))) none none)=some (.nx,stX sc F L how due (some (.frz (.int v))) (some (.frz (.int u))) none none):=by
 rcases h with rfl|h
 ·unfold lc3 stX;simp only[a0z,a5t,a4p,a1d,a0d,a0o,qq1,qq0,↓evBind,a0g,a0l,a0j,a0k,c2b,beq_self_eq_true,Bool.not_true,qqe,a2x,a2n,if_true,if_false,a0p,a2h,a1f,a1a,a1m,qq5,qq4,a0x,a0w,a1b]
 ·have c:decide (how < 7)=false:=by rw[decide_eq_false_iff_not];omega
  cases h2:(u == v)
  ·unfold lc3 stX;simp only[a0z,a5t,a4p,a1d,a0d,a0o,qq1,qq0,↓evBind,a0g,a0l,a0j,a0k,c2b,h2,Bool.not_false,a2x,a2n,c,if_true,qqe,a0p,a2h,a1f,a1a,a1m,qq5,qq4,a0x,a0w,a1b,if_false]
  ·unfold lc3 stX;simp only[a0z,a5t,a4p,a1d,a0d,a0o,qq1,qq0,↓evBind,a0g,a0l,a0j,a0k,c2b,h2,Bool.not_true,qqe,a2x,a2n,c,if_true,if_false,a0p,a2h,a1f,a1a,a1m,qq5,qq4,a0x,a0w,a1b]
theorem d4p(h:u≠v)(h7:how < 7)(dr:Dr F 1000003 c F1)(e:a3y [.lst L,.frz (.int u),.frz (.int how),.frz (.int c)]=some (.frz .non,[some (.lst N),none,none,none]))(hm:(if u < v then u else v)=m):lc3 (stX sc F L how due (some (.frz (.int v))) (some (.frz (.int u))) none none)=some (.nx,stX sc F1 N how due (some (.frz (.int m))) (some (.frz (.int u))) none none):=by
 have c:decide (how < 7)=true:=by rw[decide_eq_true_eq];omega
 have h2:(u == v)=false:=by rw[beq_eq_false_iff_ne];exact h
 unfold lc3 stX;simp only[a0z,a5t,a4p,a1d,a0d,a0o,qq1,qq0,↓evBind,a0g,a0l,a0j,a0k,c2b,h2,Bool.not_false,a2x,a2n,c,if_true,a0p,a2h,a1f,a1a,a1m,qq5,qq4,a0x,a0w,dr,a4c,a2c,a2b,a1i,e,a1p,d6q,hm,qq2,qq3,qqf,Nat.reduceAdd,Nat.reduceLT,a1b]
theorem d0e:lc4 (stX sc F L how due (some (.frz (.int v))) o none none)=some (.nx,stX sc F L how (told1 "line" v) (some (.frz (.int v))) o none none):=by
 unfold lc4 stX told1;simp only[a1p,a1a,a1s,a0d,a2x,↓evBind,a0o,qq1,qq0,a0g,qq2,qq3,qqf,Nat.reduceAdd,Nat.reduceLeDiff,a1e,a1c,if_true,b8m,a3d,a1i,a2v,Nat.reduceLT,qq5,qq4]
theorem e0k(h7:how < 7):lb1 (stX sc F L how due k o none none)=lcS (stX sc F L how due k o none none):=by
 have c:decide (how < 7)=true:=by rw[decide_eq_true_eq];omega
 unfold lb1 stX;generalize lcS=f;simp only[a0z,a5g,a4p,a1d,a0d,a0o,qq1,qq0,↓evBind,a2x,a0g,a0l,a0j,a0k,a2n,c,if_true,a1f,a1m,qq5,qq4,a0x,a0w,a1b]
theorem e0l(h7:7<=how)(dr:Dr F 2 1 F1):lb1 (stX sc F L how due k o none none)=lcS (stX sc F1 L how due k o none none):=by
 have c:decide (how < 7)=false:=by rw[decide_eq_false_iff_not];omega
 unfold lb1 stX;generalize lcS=f;simp only[a0z,a5g,a4p,a1d,a0d,a0o,qq1,qq0,↓evBind,a2x,a0g,a0l,a0j,a0k,a2n,c,if_true,qqe,a1f,a1m,qq5,qq4,a0x,a0w,dr,a4c,a2c,a2b,a2y,a1i,a1r,and_self,a2o,beq_self_eq_true,if_false,a1b]
theorem d7p(h7:7<=how)(dr:Dr F 2 0 F1):lb1 (stX sc F L how due k o none none)=some (.nx,stX sc F1 L how due k o none none):=by
 have c:decide (how < 7)=false:=by rw[decide_eq_false_iff_not];omega
 have z:((0:Int) == 1)=false:=rfl;unfold lb1 stX;generalize lcS=f;simp only[a0z,a5g,a4p,a1d,a0d,a0o,qq1,qq0,↓evBind,a2x,a0g,a0l,a0j,a0k,a2n,c,if_true,qqe,a1f,a1m,qq5,qq4,a0x,a0w,dr,a4c,a2c,a2b,a2y,a1i,a1r,and_self,a2o,z,if_false,a1b]
end
theorem e0m(ls:List (List Str)):oLen [.lst (ls.map fL)]=some (.frz (.int (ls.length:Nat))):=by
 have:O.dl (ls.map fL)=ls.map fun ws=>D.lst (ws.map .str):=by
  rw[show ls.map fL=(ls.map fun ws=>D.lst (ws.map .str)).map O.frz by rw[List.map_map];rfl,a8u]
 simp only[b1w,a4j,this,a9g,List.length_map,Option.map_some,Option.bind_some]
theorem e0n(h:LnsOk ns)(hk:k < ns.length):∃l:Ln,l.ok/\(ns.map Ln.w)[k]?=some l.w:=
 ⟨ns[k],h.ok _ (List.getElem_mem hk),by rw[List.getElem?_map,List.getElem?_eq_getElem hk];rfl⟩
theorem d0f(h:∀x∈ls,PlL x)(hw:PlL ws):∀x∈ls.set k ws,PlL x:=fun x hx=>by
 rcases List.mem_or_eq_of_mem_set hx with z|rfl
 ·exact h x z
 ·exact hw
theorem c3n(h:LnsOk ns)(g:GoodF F)(h0:0<=how)(due:D)(sc:Option O):∃F' ls n' d k o,lcS (stX sc F ((ns.map Ln.w).map fL) how due none none none none)=some (.nx,stX sc F' (ls.map fL) how (told1 "line" n') k o none none)/\Fin ls "line" n' d:=by
 have l60:=h.len;have n0:0 < ns.length:=List.length_pos_iff.mpr h.ne;have pl:∀ws∈ns.map Ln.w,PlL ws:=fun ws hw=>by
  obtain⟨l,hl,rfl⟩:=List.mem_map.mp hw;exact Ln.pl (h.ok l hl)
 have hl:=e0m (ns.map Ln.w);rw[List.length_map] at hl;have e0:=xd g (m:=(ns.length:Int)) (by omega) (by omega)
 have v0:=a1x F (m:=(ns.length:Int)) (by omega)
 have v1:=a4x F (m:=(ns.length:Int)) (by omega)
 have g1:=g.draw (ns.length:Int);generalize drawV F (ns.length:Int)=v at *;generalize drawF F (ns.length:Int)=F1 at *;have e1:=xd g1 (m:=(ns.length:Int)) (by omega) (by omega)
 have u0:=a1x F1 (m:=(ns.length:Int)) (by omega)
 have u1:=a4x F1 (m:=(ns.length:Int)) (by omega)
 have g2:=g1.draw (ns.length:Int);generalize drawV F1 (ns.length:Int)=u at *;generalize drawF F1 (ns.length:Int)=F2 at *;have e2:=xd g2 (m:=7) (by decide) (by decide)
 have q0:=a1x F2 (m:=7) (by decide)
 have q1:=a4x F2 (m:=7) (by decide)
 have g3:=g2.draw 7;generalize drawV F2 7=q at *;generalize drawF F2 7=F3 at *;have e3:=xd g3 (m:=1000003) (by decide) (by decide)
 have c0:=a1x F3 (m:=1000003) (by decide)
 have g4:=g3.draw 1000003;generalize drawV F3 1000003=c at *;generalize drawF F3 1000003=F4 at *;have e4:=xd g4 (m:=1000003) (by decide) (by decide)
 have d0:=a1x F4 (m:=1000003) (by decide)
 generalize drawV F4 1000003=c2 at *;generalize drawF F4 1000003=F5 at *;obtain⟨kn,rfl,hk⟩:=b1t (n:=ns.length) v0 v1;obtain⟨on,rfl,ho⟩:=b1t (n:=ns.length) u0 u1;obtain⟨l,lk,el⟩:=e0n h hk;obtain⟨ws,bad,eb⟩:=d4k lk (ls:=ns.map Ln.w) (k:=kn) (by rw[List.length_map];exact hk) el q0 q1 c0
 have run:lcS (stX sc F ((ns.map Ln.w).map fL) how due none none none none)=a0h lc3 lc4 (stX sc F4 (((ns.map Ln.w).set kn ws).map fL) how due (some (.frz (.int kn))) (some (.frz (.int on))) none none):=by
  unfold lcS;rw[a0m (e0h hl e0),a0m (e0i hl e1),a0m (e0j e2 e3 eb)]
 have gk:((ns.map Ln.w).set kn ws)[kn]?=some ws:=by rw[List.getElem?_set_self (by rw[List.length_map];exact hk)]
 by_cases hc:on=kn\/7<=how
 ·obtain⟨d,f⟩:=c0x h (ls:=(ns.map Ln.w).set kn ws) (by rw[List.length_set,List.length_map]) hk (fun i hi=>List.getElem?_set_ne (by omega)) gk bad (d0f pl bad.pl)
  refine⟨F4,_,_,d,some (.frz (.int kn)),some (.frz (.int on)),?_,f⟩;rw[run,a0m (e1o (hc.imp (fun z=>by rw[z]) id))]
  exact d0e
 ·have hne:kn≠on:=fun z=>hc (.inl z.symm)
  obtain⟨l2,lk2,el2⟩:=e0n h ho;obtain⟨ws2,bad2,eb2⟩:=d4k lk2 (ls:=(ns.map Ln.w).set kn ws) (k:=on) (by rw[List.length_set,List.length_map];exact ho) (by rw[List.getElem?_set_ne hne];exact el2) h0 (by omega) d0
  have hp:=d0f (k:=on) (d0f (k:=kn) pl bad.pl) bad2.pl;have hln:(((ns.map Ln.w).set kn ws).set on ws2).length=ns.length:=by rw[List.length_set,List.length_set,List.length_map]
  have same:∀i,i≠kn->i≠on->(((ns.map Ln.w).set kn ws).set on ws2)[i]?=(ns.map Ln.w)[i]?:=fun i i1 i2=>by rw[List.getElem?_set_ne (Ne.symm i2),List.getElem?_set_ne (Ne.symm i1)]
  rcases Nat.lt_or_ge on kn with z|z
  ·obtain⟨d,f⟩:=c0x h hln ho (fun i hi=>same i (by omega) (by omega)) (ws:=ws2) (by rw[List.getElem?_set_self (by rw[List.length_set,List.length_map];exact ho)]) bad2 hp
   refine⟨F5,_,_,d,some (.frz (.int on)),some (.frz (.int on)),?_,f⟩;rw[run,a0m (d4p (m:=(on:Int)) (by omega) (by omega) e4 eb2 (if_pos (by omega)))]
   exact d0e
  ·obtain⟨d,f⟩:=c0x h hln hk (fun i hi=>same i (by omega) (by omega)) (ws:=ws) (by rw[List.getElem?_set_ne (Ne.symm hne)];exact gk) bad hp
   refine⟨F5,_,_,d,some (.frz (.int kn)),some (.frz (.int on)),?_,f⟩;rw[run,a0m (d4p (m:=(kn:Int)) (by omega) (by omega) e4 eb2 (if_neg (by omega)))]
   exact d0e
theorem d7q:D.tup [.str "right",.int 9]=told1 "right" 9:=rfl
theorem e1p(ns:List Ln):(ns.map lnD).map O.frz=(ns.map Ln.w).map fL:=by rw[List.map_map,List.map_map];rfl
theorem e1q(ns:List Int)(hl:ns.length<=63):∃fin,d6u [.frz (.scr ns)]=some (.frz (.bl true),fin):=by
 have e1:=d9l ns hl;have g0:GoodF (feed0 ns):=⟨Int.le_refl 0,hl⟩;generalize feed0 ns=F0 at *;obtain⟨F1,h,e2,g1,d⟩:=d6y g0;rw[d9x] at e2;have e3:=xd g1 (m:=15) (by decide) (by decide)
 have w0:=a1x F1 (m:=15) (by decide)
 have w1:=a4x F1 (m:=15) (by decide)
 have g2:=g1.draw 15;generalize drawV F1 15=how at *;generalize drawF F1 15=F2 at *;have e4:=xd g2 (m:=1000003) (by decide) (by decide)
 have c0:=a1x F2 (m:=1000003) (by decide)
 have g3:=g2.draw 1000003;generalize drawV F2 1000003=c at *;generalize drawF F2 1000003=F3 at *;have main:∃(F4:Feed) (L:List O) (ls:List (List Str)) (s:Str) (n:Int) (k o:Option O) (t:D),(∃due,la5 (stX (some (.frz (.scr ns))) F2 ((lnsOf h).map lnO) how (told1 "right" 9) none none none none)=some (.nx,stX (some (.frz (.scr ns))) F4 L how due none none none none)/\∃F5,lb1 (stX (some (.frz (.scr ns))) F4 ((O.dl L).map .frz) how due none none none none)=some (.nx,stX (some (.frz (.scr ns))) F5 (ls.map fL) how (told1 s n) k o none none))/\Fin ls s n t:=by
  rcases Int.lt_or_le 6 how with h6|h6
  ·obtain⟨nn,s,n,os,ev,dl,ok,told⟩:=d7n d h6 w1 c0;have a5:=e0g (sc:=some (.frz (.scr ns))) (due:=told1 "right" 9) h6 e4 ev;have e5:=xd g3 (m:=2) (by decide) (by decide)
   have v0:=a1x F3 (m:=2) (by decide)
   have v1:=a4x F3 (m:=2) (by decide)
   have g4:=g3.draw 2;generalize drawV F3 2=v at *;generalize drawF F3 2=F4 at *;have hv:v=0\/v=1:=by omega
   rcases hv with rfl|rfl
   ·obtain⟨t,f⟩:=d3f ok told;exact⟨_,_,_,s,n,_,_,t,⟨_,a5,_,by rw[dl,e1p];exact d7p (by omega) e5⟩,f⟩
   ·obtain⟨F5,ls,n',t,k,o,eb,f⟩:=c3n ok g4 w0 (told1 s n) (some (.frz (.scr ns)));exact⟨_,_,_,_,_,_,_,t,⟨_,a5,_,by rw[dl,e1p];exact(e0l (by omega) e5).trans eb⟩,f⟩
  ·have ok:LnsOk (lnsOf h):=⟨fun z=>(by have l:=d.len.2;rw[z,List.length_nil] at l;have:=d.b0;omega),by have:=d.len;omega,d0c d.okb d.okc⟩
   obtain⟨F5,ls,n',t,k,o,eb,f⟩:=c3n ok g2 w0 (told1 "right" 9) (some (.frz (.scr ns)));exact⟨_,_,_,_,_,_,_,t,⟨_,e1n h6,_,by rw[d3c,e1p];exact(e0k (by omega)).trans eb⟩,f⟩
 obtain⟨F4,L,ls,s,n,k,o,t,⟨due,e6,F5,e7⟩,f⟩:=main;obtain⟨Γ,gl,e8⟩:=d7o f (some (.frz (.scr ns))) F5 how k o none none;have e9:a0h lb1 (a0h lb2 (a0h lb3 (a0h lb4 lb5))) (stX (some (.frz (.scr ns))) F4 ((O.dl L).map .frz) how due none none none none)=some (.rt (.frz (.bl true)),Γ):=by rw[a0m e7];exact e8
 obtain⟨x,r,rfl⟩:∃x r,Γ=x::r:=by
  cases Γ with
  |nil=>cases gl
  |cons x r=>exact⟨x,r,rfl⟩
 have te:=d7q;unfold stX at e6 e9;unfold d6u;unfold d6t;generalize a0h lb1 (a0h lb2 (a0h lb3 (a0h lb4 lb5)))=rest at *;generalize la5=a5 at *;generalize told1 "right" 9=tt at *;generalize(lnsOf h).map lnO=lo at *;refine⟨[none],?_⟩;simp only[a1v,qq6,qq7,qq2,qq3,qqf,Nat.reduceSub,qq9,qq8,qqb,qqc,a0p,a1p,a1f,a0d,a0o,qq0,↓evBind,a0g,a0x,a0w,e1,a2c,a2b,Nat.reduceAdd,Nat.reduceLT,qq5,qq4,if_true,qq1,a1m,e2,a4c,a1a,a2x,e3,a1i,a1s,Nat.reduceLeDiff,a1e,a1c,b8m,a3d,a2v,te,e6,d4a,e9,a4d,gl,qqa,qqd,a3h,a3g]
def spLaw(K:L2.FG):L2.Sp:=fun vs H Q _=>∃(a:Addr) (ns:List Int),vs=[.ref a]/\SqL K H a (ns.map V.int)/\ns.length<=63/\∀H',Q (.bl true) H'
theorem e0o{P:Program}{w:World}{base:Heap}{t:Adr}(T:Txt K mg t):FnOk P w K mg base CX0 7 t.f19 t.d19 ["_law_script"] (spLaw K):=by
 have z0:=c4i (P:=P) (w:=w) (base:=base) T;have z7:=b6w (P:=P) (w:=w) (base:=base) T;have z11:=b4a (P:=P) (w:=w) (base:=base) T;have z12:=b9b (P:=P) (w:=w) (base:=base) T;have z13:=c8n (P:=P) (w:=w) (base:=base) T;have z14:=c8o (P:=P) (w:=w) (base:=base) T;have z16:=b4v (P:=P) (w:=w) (base:=base) T;have z17:=b4d (P:=P) (w:=w) (base:=base) T;have z4:=b9d (P:=P) (w:=w) (base:=base) T z0;have z5:=b7a (P:=P) (w:=w) (base:=base) T z7;have z8:=c4j (P:=P) (w:=w) (base:=base) T z7;have z10:=b4g (P:=P) (w:=w) (base:=base) T z12;have z15:=c4k (P:=P) (w:=w) (base:=base) T z14;have z2:=b4w (P:=P) (w:=w) (base:=base) T z4;have z3:=b4x (P:=P) (w:=w) (base:=base) T z4;have z6:=b7b (P:=P) (w:=w) (base:=base) T z7 z8;have z1:=b4y (P:=P) (w:=w) (base:=base) T z3 z2 z6 z5;have z9:=b7c (P:=P) (w:=w) (base:=base) T z10 z11 z1;have z18:=c8p (P:=P) (w:=w) (base:=base) T z9;exact d5y (d9j T z17 z16 z14 z13 z15 z18) e1q
theorem c4q(h:us.length=1):∃a0,us=[a0]:=by
 obtain _|⟨a0,us⟩:=us
 ·cases h
 obtain _|⟨z,us⟩:=us
 ·exact⟨a0,rfl⟩
 ·simp at h
theorem d7r(h:us.length=2):∃a0 a1,us=[a0,a1]:=by
 obtain _|⟨a0,us⟩:=us
 ·cases h
 obtain _|⟨a1,us⟩:=us
 ·cases h
 obtain _|⟨z,us⟩:=us
 ·exact⟨a0,a1,rfl⟩
 ·simp at h
theorem us_3(h:us.length=3):∃a0 a1 a2,us=[a0,a1,a2]:=by
 obtain _|⟨a0,us⟩:=us
 ·cases h
 obtain _|⟨a1,us⟩:=us
 ·cases h
 obtain _|⟨a2,us⟩:=us
 ·cases h
 obtain _|⟨z,us⟩:=us
 ·exact⟨a0,a1,a2,rfl⟩
 ·simp at h
theorem us_4(h:us.length=4):∃a0 a1 a2 a3,us=[a0,a1,a2,a3]:=by
 obtain _|⟨a0,us⟩:=us
 ·cases h
 obtain _|⟨a1,us⟩:=us
 ·cases h
 obtain _|⟨a2,us⟩:=us
 ·cases h
 obtain _|⟨a3,us⟩:=us
 ·cases h
 obtain _|⟨z,us⟩:=us
 ·exact⟨a0,a1,a2,a3,rfl⟩
 ·simp at h
abbrev ErrAt(K:L2.FG)(n:Str)(C:Addr)(ini:Option Value):Prop:=PySem.W.nsIn K mainGlobals n=some (some (.ref C))/\ErrC K C (.ref 24::bmV) ini/\IsErr K C/\PySem.W.keepIn K (.ref C)=true
theorem ea_mk{n:Str}{ini:Option Value}(a:PySem.W.nsIn K mainGlobals n=some (some (.ref C)))(b:ErrC K C (.ref 24::bmV) ini)(p:PySem.W.findIn K (.ref C) "__getattribute__"=some (some (.builtin "BaseException.__getattribute__")))(q:PySem.W.findIn K (.ref C) "__getattr__"=some none)(r:PySem.W.findIn K (.ref C) "__class__"=some (some (.builtin "object.__class__")))(x:PySem.W.specialIn K (.builtin "object.__class__") "__get__"=some (some (.builtin "getset_descriptor.__get__")))(y:PySem.W.takesIn K (.builtin "object.__class__")=some true)(d:PySem.W.keepIn K (.ref C)=true):ErrAt K n C ini:=⟨a,b,⟨p,q,r,x,y⟩,d⟩
theorem errs_mk{h:Heap}(X:K.In h)(G:h.Ns mainGlobals mg)(h0:ErrAt K "NoName" 37 none)(h1:ErrAt K "NoSize" 49 none)(h2:ErrAt K "NoOut" 61 none)(h3:ErrAt K "NoHand" 73 none)(hL:ErrAt K "NoLine" 92 (some (.ref 89)))(hB:PySem.W.nsIn K mainGlobals "CarryError"=some (some (.ref 24)))(GB:ErrC K 24 bmV none)(us:PySem.W.findIn K (.ref 92) "__setattr__"=some (some (.builtin "object.__setattr__")))(ul:PySem.W.findIn K (.ref 92) "line"=some none)(uf:PySem.W.isFn K (.ref 89)=true)(ug:PySem.W.specialIn K (.ref 24) "__getattribute__"=some (some (.builtin "type.__getattribute__")))(ur:PySem.W.readsIn K 24 (.type "type")=true)(uc:PySem.W.findCls K (.ref 24) (.type "type") "__init__"=some (.val (.builtin "ValueError.__init__"))):Errs K mg errTab 92 24 89:=by
 refine⟨fun p hp=>?_,PySem.W.mg_of X G hL.1,hL.2.1,hL.2.2.1,hL.2.2.2,us,ul,uf,PySem.W.mg_of X G hB,GB,⟨ug,ur,uc⟩⟩
 simp only[errTab,List.mem_cons,List.not_mem_nil,or_false] at hp;rcases hp with rfl|rfl|rfl|rfl
 ·exact⟨PySem.W.mg_of X G h0.1,h0.2⟩
 ·exact⟨PySem.W.mg_of X G h1.1,h1.2⟩
 ·exact⟨PySem.W.mg_of X G h2.1,h2.2⟩
 ·exact⟨PySem.W.mg_of X G h3.1,h3.2⟩
theorem all_mk{l:PySem.W.OpenLaw}{w:World}{h:Heap}{fa f0 f1 f2 f3 f4 f5 f6 f7 f8 f9 f10 f11 f12 f13 f14 f15 f16 f17 f18 f19:Addr}{d0 d1 d2 d3 d4 d5 d6 d7 d8 d9 d10 d11 d12 d13 d14 d15 d16 d17 d18 d19:FuncData}(X:K.In h)(G:h.Ns mainGlobals mg)(hfa:mg "law"=some (.ref fa))
  (a0:PySem.W.nsIn K mainGlobals "is_name"=some (some (.ref f0)))
  (a1:PySem.W.nsIn K mainGlobals "right_house"=some (some (.ref f1)))
  (a2:PySem.W.nsIn K mainGlobals "check_carts"=some (some (.ref f2)))
  (a3:PySem.W.nsIn K mainGlobals "check_belts"=some (some (.ref f3)))
  (a4:PySem.W.nsIn K mainGlobals "take_name"=some (some (.ref f4)))
  (a5:PySem.W.nsIn K mainGlobals "check_outs"=some (some (.ref f5)))
  (a6:PySem.W.nsIn K mainGlobals "check_hand"=some (some (.ref f6)))
  (a7:PySem.W.nsIn K mainGlobals "belt_names"=some (some (.ref f7)))
  (a8:PySem.W.nsIn K mainGlobals "reached"=some (some (.ref f8)))
  (a9:PySem.W.nsIn K mainGlobals "read_house"=some (some (.ref f9)))
  (a10:PySem.W.nsIn K mainGlobals "is_belt_line"=some (some (.ref f10)))
  (a11:PySem.W.nsIn K mainGlobals "is_cart_line"=some (some (.ref f11)))
  (a12:PySem.W.nsIn K mainGlobals "is_number"=some (some (.ref f12)))
  (a13:PySem.W.nsIn K mainGlobals "_law_feed"=some (some (.ref f13)))
  (a14:PySem.W.nsIn K mainGlobals "_law_draw"=some (some (.ref f14)))
  (a15:PySem.W.nsIn K mainGlobals "_law_lines"=some (some (.ref f15)))
  (a16:PySem.W.nsIn K mainGlobals "_law_bent_line"=some (some (.ref f16)))
  (a17:PySem.W.nsIn K mainGlobals "_law_bent_house"=some (some (.ref f17)))
  (a18:PySem.W.nsIn K mainGlobals "_law_told"=some (some (.ref f18)))
  (a19:PySem.W.nsIn K mainGlobals "law"=some (some (.ref f19)))
  (F0:Fun K "is_name" "is_name" b0o f0 d0)
  (F1:Fun K "right_house" "right_house" a7r f1 d1)
  (F2:Fun K "check_carts" "check_carts" a7s f2 d2)
  (F3:Fun K "check_belts" "check_belts" a7t f3 d3)
  (F4:Fun K "take_name" "take_name" a9k f4 d4)
  (F5:Fun K "check_outs" "check_outs" a8g f5 d5)
  (F6:Fun K "check_hand" "check_hand" a8h f6 d6)
  (F7:Fun K "belt_names" "belt_names" a6x f7 d7)
  (F8:Fun K "reached" "reached" b0p f8 d8)
  (F9:Fun K "read_house" "read_house" a8i f9 d9)
  (F10:Fun K "is_belt_line" "is_belt_line" a7e f10 d10)
  (F11:Fun K "is_cart_line" "is_cart_line" a7f f11 d11)
  (F12:Fun K "is_number" "is_number" a7u f12 d12)
  (F13:Fun K "_law_feed" "_law_feed" b6s f13 d13)
  (F14:Fun K "_law_draw" "_law_draw" b6t f14 d14)
  (F15:Fun K "_law_lines" "_law_lines" b0q f15 d15)
  (F16:Fun K "_law_bent_line" "_law_bent_line" a7v f16 d16)
  (F17:Fun K "_law_bent_house" "_law_bent_house" a2e f17 d17)
  (F18:Fun K "_law_told" "_law_told" b6u f18 d18)
  (F19:Fun K "law" "law" d2l f19 d19)
  (er:Errs K mg errTab 92 24 89)
  {d_init:FuncData} (FI:Fun K "__init__" "NoLine.__init__" c8m 89 d_init)
  (z_len:PySem.W.nsIn K mainGlobals "len"=some none)
  (z_isinstance:PySem.W.nsIn K mainGlobals "isinstance"=some none)
  (z_int:PySem.W.nsIn K mainGlobals "int"=some none)
  (z_str:PySem.W.nsIn K mainGlobals "str"=some none)
  (z_list:PySem.W.nsIn K mainGlobals "list"=some none)
  (z_tuple:PySem.W.nsIn K mainGlobals "tuple"=some none)
  (z_range:PySem.W.nsIn K mainGlobals "range"=some none)
  (z_enumerate:PySem.W.nsIn K mainGlobals "enumerate"=some none)
  (z_all:PySem.W.nsIn K mainGlobals "all"=some none)
  (z_min:PySem.W.nsIn K mainGlobals "min"=some none)
  {t_LETTERS:Tok} (y_LETTERS:PySem.W.nsIn K mainGlobals "LETTERS"=some (some (.str "abcdefghijklmnopqrstuvwxyz" t_LETTERS)))
  {t_FIGURES:Tok} (y_FIGURES:PySem.W.nsIn K mainGlobals "FIGURES"=some (some (.str "0123456789" t_FIGURES)))
  {t_MOST_LETTERS:Tok} (y_MOST_LETTERS:PySem.W.nsIn K mainGlobals "MOST_LETTERS"=some (some (.int 8 t_MOST_LETTERS)))
  {t_MOST_FIGURES:Tok} (y_MOST_FIGURES:PySem.W.nsIn K mainGlobals "MOST_FIGURES"=some (some (.int 9 t_MOST_FIGURES)))
  : ∃fd:FuncData,(∀(s:Shared) (v:Value),BindsTo s fd ⟨[v],[]⟩ [("_law_script",v)])/\∀base:Heap,K.In base->base.Ns mainGlobals mg->FnOk l.prog w K mg base CX0 7 fa fd ["_law_script"] (spLaw K):=by
 have e:=hfa.symm.trans (PySem.W.mg_of X G a19);cases e;have T:Txt K mg ⟨d_init,f0,d0,f1,d1,f2,d2,f3,d3,f4,d4,f5,d5,f6,d6,f7,d7,f8,d8,f9,d9,f10,d10,f11,d11,f12,d12,f13,d13,f14,d14,f15,d15,f16,d16,f17,d17,f18,d18,fa,d19⟩:=⟨⟨F0,PySem.W.mg_of X G a0,F0.binds fun _ _ _ _ _ _ us hl=>by obtain⟨_,rfl⟩:=c4q hl;rfl⟩,⟨F1,PySem.W.mg_of X G a1,F1.binds fun _ _ _ _ _ _ us hl=>by obtain⟨_,rfl⟩:=c4q hl;rfl⟩,⟨F2,PySem.W.mg_of X G a2,F2.binds fun _ _ _ _ _ _ us hl=>by obtain⟨_,_,rfl⟩:=d7r hl;rfl⟩,⟨F3,PySem.W.mg_of X G a3,F3.binds fun _ _ _ _ _ _ us hl=>by obtain⟨_,_,rfl⟩:=d7r hl;rfl⟩,⟨F4,PySem.W.mg_of X G a4,F4.binds fun _ _ _ _ _ _ us hl=>by obtain⟨_,_,rfl⟩:=d7r hl;rfl⟩,⟨F5,PySem.W.mg_of X G a5,F5.binds fun _ _ _ _ _ _ us hl=>by obtain⟨_,_,rfl⟩:=d7r hl;rfl⟩,⟨F6,PySem.W.mg_of X G a6,F6.binds fun _ _ _ _ _ _ us hl=>by obtain⟨_,rfl⟩:=c4q hl;rfl⟩,⟨F7,PySem.W.mg_of X G a7,F7.binds fun _ _ _ _ _ _ us hl=>by obtain⟨_,rfl⟩:=c4q hl;rfl⟩,⟨F8,PySem.W.mg_of X G a8,F8.binds fun _ _ _ _ _ _ us hl=>by obtain⟨_,_,rfl⟩:=d7r hl;rfl⟩,⟨F9,PySem.W.mg_of X G a9,F9.binds fun _ _ _ _ _ _ us hl=>by obtain⟨_,rfl⟩:=c4q hl;rfl⟩,⟨F10,PySem.W.mg_of X G a10,F10.binds fun _ _ _ _ _ _ us hl=>by obtain⟨_,rfl⟩:=c4q hl;rfl⟩,⟨F11,PySem.W.mg_of X G a11,F11.binds fun _ _ _ _ _ _ us hl=>by obtain⟨_,rfl⟩:=c4q hl;rfl⟩,⟨F12,PySem.W.mg_of X G a12,F12.binds fun _ _ _ _ _ _ us hl=>by obtain⟨_,rfl⟩:=c4q hl;rfl⟩,⟨F13,PySem.W.mg_of X G a13,F13.binds fun _ _ _ _ _ _ us hl=>by obtain⟨_,rfl⟩:=c4q hl;rfl⟩,⟨F14,PySem.W.mg_of X G a14,F14.binds fun _ _ _ _ _ _ us hl=>by obtain⟨_,_,rfl⟩:=d7r hl;rfl⟩,⟨F15,PySem.W.mg_of X G a15,F15.binds fun _ _ _ _ _ _ us hl=>by obtain⟨_,rfl⟩:=c4q hl;rfl⟩,⟨F16,PySem.W.mg_of X G a16,F16.binds fun _ _ _ _ _ _ us hl=>by obtain⟨_,_,_,_,rfl⟩:=us_4 hl;rfl⟩,⟨F17,PySem.W.mg_of X G a17,F17.binds fun _ _ _ _ _ _ us hl=>by obtain⟨_,_,_,rfl⟩:=us_3 hl;rfl⟩,⟨F18,PySem.W.mg_of X G a18,F18.binds fun _ _ _ _ _ _ us hl=>by obtain⟨_,rfl⟩:=c4q hl;rfl⟩,⟨F19,PySem.W.mg_of X G a19,F19.binds fun _ _ _ _ _ _ us hl=>by obtain⟨_,rfl⟩:=c4q hl;rfl⟩,er,FI,FI.binds fun _ _ _ _ _ _ us hl=>by obtain⟨_,_,rfl⟩:=d7r hl;rfl,PySem.W.mg_none_of X G z_len,PySem.W.mg_none_of X G z_isinstance,PySem.W.mg_none_of X G z_int,PySem.W.mg_none_of X G z_str,PySem.W.mg_none_of X G z_list,PySem.W.mg_none_of X G z_tuple,PySem.W.mg_none_of X G z_range,PySem.W.mg_none_of X G z_enumerate,PySem.W.mg_none_of X G z_all,PySem.W.mg_none_of X G z_min,⟨_,PySem.W.mg_of X G y_LETTERS⟩,⟨_,PySem.W.mg_of X G y_FIGURES⟩,⟨_,PySem.W.mg_of X G y_MOST_LETTERS⟩,⟨_,PySem.W.mg_of X G y_MOST_FIGURES⟩⟩
 obtain⟨oc,od,kV,doc,pm,an,cdv,ct,osl,rfl,_,_⟩:=F19.ex;exact⟨_,fun s v=>.of_eq rfl,fun base _ _=>e0o T⟩
theorem walk{l:PySem.W.OpenLaw}{q:Program}{loose:List Str}{XP:(Str->Option Value)->Heap->Prop}{YP:World->Heap->Prop}{d:DefRec}{K:Params->L2.FG}(hn:l.most=some 63)(hdf:d.params.defaults=[])
  (hY:∀(w:World) (h:Heap),YP w h->(K w.params).In h)
  (F:∀(w:World) (mg:Str->Option Value) (fa:Addr) (h:Heap),(K w.params).In h->h.Ns mainGlobals mg->mg d.name=some (.ref fa)->
   ∃fd:FuncData,(∀(s:Shared) (u:Value),BindsTo s fd ⟨[u],[]⟩ [("_law_script",u)])/\∀base:Heap,(K w.params).In base->base.Ns mainGlobals mg->FnOk l.prog w (K w.params) mg base CX0 7 fa fd ["_law_script"] (spLaw (K w.params))) :
  PySem.W.WalkO q loose XP YP l.row.toRowW d [] (fun f vs=>PySem.call f vs):=
 L2.walk_of (n:=63) (k:=7) (x:="_law_script") (CX:=fun _=>CX0) (sp:=fun w=>spLaw (K w.params)) hn (by decide) hdf ⟨rfl,by decide,by decide⟩ hY F (fun _ _ a ns hl _ hS=>⟨a,ns,rfl,hS,hl,fun _=>rfl⟩) fun _ _ _ _ _ z=>z
end Carry
end
open PySem PySem.W PyProof.Rows
set_option maxRecDepth 100000 in
set_option maxHeartbeats 0 in
theorem PySem.Challenge.cw_carry_k09_no_houses_read_holds : PySem.Challenge.rw_carry_k09_no_houses_read.Holds := by
 w_on;o_law;(try simp only[Carry.Hd.hd]);k_head;(case hw=>w_witness2)
 k_fill
 refine Carry.walk (l:=PySem.Challenge.rw_carry_k09_no_houses_read) rfl rfl (fun w h Y=>PySem.W.kIn_of Y) ?F
 case F=>
  intro w mg fa h KX G hmg;refine' Carry.all_mk KX G hmg ?a0 ?a1 ?a2 ?a3 ?a4 ?a5 ?a6 ?a7 ?a8 ?a9 ?a10 ?a11 ?a12 ?a13 ?a14 ?a15 ?a16 ?a17 ?a18 ?a19 ?F0 ?F1 ?F2 ?F3 ?F4 ?F5 ?F6 ?F7 ?F8 ?F9 ?F10 ?F11 ?F12 ?F13 ?F14 ?F15 ?F16 ?F17 ?F18 ?F19   ?er ?FI ?z_len ?z_isinstance ?z_int ?z_str ?z_list ?z_tuple ?z_range ?z_enumerate ?z_all ?z_min ?y_LETTERS ?y_FIGURES ?y_MOST_LETTERS ?y_MOST_FIGURES
  case er=>
   refine' Carry.errs_mk KX G ?h0 ?h1 ?h2 ?h3 ?hL ?hB ?GB ?us ?ul ?uf ?ug ?ur ?uc
   all_goals first|(refine' Carry.ea_mk ?za ?zb ?zp ?zq ?zr ?zx ?zy ?zd;(case zb=>refine' L2.errC_mk ?zl ?zm ?zs ?zi;(case zl=>k_is);(case zm=>k_is);(case zs=>kernel_rfl);(case zi=>kernel_rfl));(case za=>k_is);(case zp=>k_is);(case zq=>k_is);(case zr=>k_is);(case zx=>k_is);(case zy=>k_is);(case zd=>k_is))|(refine' L2.errC_mk ?zl ?zm ?zs ?zi;(case zl=>k_is);(case zm=>k_is);(case zs=>kernel_rfl);(case zi=>kernel_rfl))|k_is
  all_goals first|(refine' L2.fun_mk ?zl ?zc ?zk;(case zl=>k_is);(case zc=>k_is);(case zk=>k_is))|k_is|skip