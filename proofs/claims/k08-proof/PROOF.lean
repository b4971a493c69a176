import PyProof.Rows.All
import Wide.All
import OpenK.AllK
import Wide.FinOn
import Lean
import PyProof.EqAt
import PyProof.EqKinds
import PyProof.NeKinds
import PyProof.TupleCall
import KE.KRevIter
import PyProof.SeqI3
import PyProof.ZipIter
import PyProof.EnumIter
import PyProof.EnumStmt
import PyProof.EnumMake
import PyProof.WalksEnum
import KE.IntTextLaws
import KE.KIntText
import PyProof.MeetsSeq
import PyProof.SeqRoads2
import PyProof.StrLawsChain
import PySem.Challenge.RW_carry_k08_houses_read
set_option Elab.async false
set_option linter.all false
set_option bootstrap.genMatcherCode false
set_option compiler.extract_closed false
set_option genSizeOf false
set_option genSizeOfSpec false
set_option maxRecDepth 100000
namespace L2
open PySem PySem.Spec PyProof.Rows
noncomputable abbrev Key:=Sum Int Str
noncomputable def keyIs:Key→Value→Bool
 |.inl k,v=>Value.isInt k v
 |.inr x,v=>Value.isStrOf x v
noncomputable def keyH (w:World):Key→Int
 |.inl k=>hashInt k
 |.inr x=>hashStr w x
theorem a2v:∀{k:Key} {v:Value},keyIs k v=true→(∃i t,k=Sum.inl i∧v=Value.int i t)∨(∃x t,k=Sum.inr x∧v=Value.str x t)
 |.inl i,v,h=>by
  obtain⟨t,e⟩:=Value.isInt_shape (k:=i) (v:=v) h
  exact .inl ⟨i,t,rfl,e⟩
 |.inr x,v,h=>by
  obtain⟨t,e⟩:=Value.isStrOf_shape (x:=x) (v:=v) h
  exact .inr ⟨x,t,rfl,e⟩
theorem d4k(a b:Int):decide ((Sum.inl a:Key)=Sum.inl b)=(a == b):=by
 by_cases e:a=b
 ·subst e;simp
 ·have h:¬(Sum.inl a:Key)=Sum.inl b:=fun q=>e (Sum.inl.inj q)
  rw[decide_eq_false h]
  exact(beq_eq_false_iff_ne.mpr e).symm
theorem d4l(a b:Str):decide ((Sum.inr a:Key)=Sum.inr b)=decide (a=b):=by
 by_cases e:a=b
 ·subst e;simp
 ·have h:¬(Sum.inr a:Key)=Sum.inr b:=fun q=>e (Sum.inr.inj q)
  rw[decide_eq_false h,decide_eq_false e]
theorem d4m(a:Int)(b:Str):decide ((Sum.inl a:Key)=Sum.inr b)=false:=decide_eq_false (fun q=>nomatch q)
theorem d4n(a:Str)(b:Int):decide ((Sum.inr a:Key)=Sum.inl b)=false:=decide_eq_false (fun q=>nomatch q)
noncomputable def b8h (prog:Program) (w:World):PySem.KeyKind prog w Key where
 is:=keyIs
 hash:=keyH w
 inj:=fun v a b ha hb=>by
  rcases a2v ha with⟨i,t,rfl,rfl⟩|⟨x,t,rfl,rfl⟩
  ·rcases a2v hb with⟨j,u,rfl,e⟩|⟨y,u,rfl,e⟩
   ·injection e with e1 _;rw[e1]
   ·exact nomatch e
  ·rcases a2v hb with⟨j,u,rfl,e⟩|⟨y,u,rfl,e⟩
   ·exact nomatch e
   ·injection e with e1 _;rw[e1]
 byValue:=fun k v h=>by
  rcases a2v h with⟨i,t,rfl,rfl⟩|⟨x,t,rfl,rfl⟩ <;> rfl
 pyHash:=fun hv h=>by
  rcases a2v hv with⟨i,t,rfl,rfl⟩|⟨x,t,rfl,rfl⟩
  ·exact wpAny_pyHash_int h
  ·exact wpAny_pyHash_str h
 eqBool:=fun hu hv h=>by
  rcases a2v hu with⟨i,t,rfl,rfl⟩|⟨x,t,rfl,rfl⟩
  ·rcases a2v hv with⟨j,u,rfl,rfl⟩|⟨y,u,rfl,rfl⟩
   ·rw[d4k] at h;exact wpAny_eqBool_int h
   ·rw[d4m] at h;exact SeqAt.EqAt.int_str i t y u _ _ _ _ h
  ·rcases a2v hv with⟨j,u,rfl,rfl⟩|⟨y,u,rfl,rfl⟩
   ·rw[d4n] at h;exact SeqAt.EqAt.str_int x t j u _ _ _ _ h
   ·rw[d4l] at h;exact wpAny_eqBool_str h
 «strs»:=fun k x t v h=>by
  rcases a2v h with⟨i,u,rfl,e⟩|⟨y,u,rfl,e⟩
  ·exact nomatch e
  ·injection e with e1 _
   subst e1
   cases v <;> rfl
end L2
namespace L2
open PySem PySem.Spec PyProof.Rows
inductive V where
 |non|bl (b:Bool)|int (i:Int)|str (x:Str)|byt (b:Array UInt8)|flt (b:UInt64)|ref (a:Addr)|ty (n:String)
 deriving DecidableEq
noncomputable def RelV:V→Value→Prop
 |.non,u=>u=Value.none
 |.bl b,u=>u=Value.bool b
 |.int i,u=>∃t,u=Value.int i t
 |.str x,u=>∃t,u=Value.str x t
 |.byt b,u=>∃t,u=Value.bytes b t
 |.flt b,u=>∃t,u=Value.float b t
 |.ref a,u=>u=Value.ref a
 |.ty n,u=>u=Value.type n
noncomputable abbrev Vals:List V→List Value→Prop:=Paired RelV
theorem Vals.length{xs:List V}{us:List Value}(r:Vals xs us):xs.length=us.length:=Paired.length r
theorem Vals.get:∀{xs:List V} {us:List Value} {i:Nat} {x:V},Vals xs us→xs[i]?=some x→∃u,us[i]?=some u∧RelV x u
 |_,_,_,_,.nil,e=>by simp at e
 |_,_,0,_,.cons r _,e=>by simp at e;subst e;exact⟨_,rfl,r⟩
 |_,_,i+1,x,.cons _ t,e=>by
  obtain⟨u,h1,h2⟩:=Vals.get (i:=i) (x:=x) t (by simpa using e)
  exact⟨u,by simpa using h1,h2⟩
theorem Vals.set{x:V}{u:Value}(r:RelV x u):∀{xs:List V} {us:List Value} (i:Nat),Vals xs us→Vals (xs.set i x) (us.set i u)
 |_,_,_,.nil=>.nil
 |_,_,0,.cons _ t=>.cons r t
 |_,_,i+1,.cons q t=>.cons q (Vals.set r i t)
theorem Vals.append{xs ys:List V}{us ws:List Value}(h:Vals xs us)(s:Vals ys ws):Vals (xs++ys) (us++ws):=by
 induction h with
 |nil=>exact s
 |cons r t ih=>exact .cons r ih
theorem Vals.take:∀{xs:List V} {us:List Value} (n:Nat),Vals xs us→Vals (xs.take n) (us.take n)
 |_,_,0,_=>.nil
 |_,_,_+1,.nil=>.nil
 |_,_,n+1,.cons r t=>.cons r (Vals.take n t)
theorem Vals.drop:∀{xs:List V} {us:List Value} (n:Nat),Vals xs us→Vals (xs.drop n) (us.drop n)
 |_,_,0,r=>r
 |_,_,_+1,.nil=>.nil
 |_,_,n+1,.cons _ t=>Vals.drop n t
noncomputable def RelO:Option V→Option Value→Prop
 |some v,some u=>RelV v u
 |none,none=>True
 |_,_=>False
noncomputable def KV {κ:Type}:List (κ×V)→List (κ×Value)→Prop:=Paired fun(p:κ×V) (q:κ×Value)=>p.1=q.1∧RelV p.2 q.2
noncomputable def kV:Key→V
 |.inl i=>.int i
 |.inr x=>.str x
inductive TK where
 |inl (i:Int)|inr (x:Str)|tp (l:List TK)
mutual
noncomputable def TK.beq:TK→TK→Bool
 |.inl a,.inl b=>decide (a=b)
 |.inr a,.inr b=>decide (a=b)
 |.tp l,.tp m=>TK.beqL l m
 |_,_=>false
noncomputable def TK.beqL:List TK→List TK→Bool
 |[],[]=>true
 |a::l,b::m=>TK.beq a b && TK.beqL l m
 |_,_=>false
end
mutual
theorem TK.beq_iff:∀a b:TK,TK.beq a b=true↔a=b
 |.inl a,.inl b=>by unfold TK.beq;rw[decide_eq_true_eq];exact⟨fun e=>by rw[e],fun e=>by cases e;rfl⟩
 |.inr a,.inr b=>by unfold TK.beq;rw[decide_eq_true_eq];exact⟨fun e=>by rw[e],fun e=>by cases e;rfl⟩
 |.tp l,.tp m=>by unfold TK.beq;rw[TK.beqL_iff l m];exact⟨fun e=>by rw[e],fun e=>by cases e;rfl⟩
 |.inl _,.inr _=>by unfold TK.beq;exact⟨fun e=>(nomatch e),fun e=>(nomatch e)⟩
 |.inl _,.tp _=>by unfold TK.beq;exact⟨fun e=>(nomatch e),fun e=>(nomatch e)⟩
 |.inr _,.inl _=>by unfold TK.beq;exact⟨fun e=>(nomatch e),fun e=>(nomatch e)⟩
 |.inr _,.tp _=>by unfold TK.beq;exact⟨fun e=>(nomatch e),fun e=>(nomatch e)⟩
 |.tp _,.inl _=>by unfold TK.beq;exact⟨fun e=>(nomatch e),fun e=>(nomatch e)⟩
 |.tp _,.inr _=>by unfold TK.beq;exact⟨fun e=>(nomatch e),fun e=>(nomatch e)⟩
theorem TK.beqL_iff:∀l m:List TK,TK.beqL l m=true↔l=m
 |[],[]=>by unfold TK.beqL;exact⟨fun _=>rfl,fun _=>rfl⟩
 |a::l,b::m=>by unfold TK.beqL;rw[Bool.and_eq_true,TK.beq_iff a b,TK.beqL_iff l m];exact⟨fun e=>by rw[e.1,e.2],fun e=>by cases e;exact⟨rfl,rfl⟩⟩
 |[],_::_=>by unfold TK.beqL;exact⟨fun e=>(nomatch e),fun e=>(nomatch e)⟩
 |_::_,[]=>by unfold TK.beqL;exact⟨fun e=>(nomatch e),fun e=>(nomatch e)⟩
end
noncomputable instance:DecidableEq TK:=fun a b=>decidable_of_iff _ (TK.beq_iff a b)
mutual
noncomputable def TK.hash (w:World):TK→Int
 |.inl i=>hashInt i
 |.inr x=>hashStr w x
 |.tp l=>reduceHash (Builtin.Tuple.tupleHashOf (TK.hashL w l))
noncomputable def TK.hashL (w:World):List TK→List Int
 |[]=>[]
 |a::l=>TK.hash w a::TK.hashL w l
end
noncomputable def TK.ok:Nat→TK→Bool
 |n+1,.tp l=>l.all (TK.ok n)
 |0,.tp _=>false
 |_,_=>true
noncomputable def EntG (w:World) (e:TK×V×V) (x:DictEntry):Prop:=x.hash=e.1.hash w∧RelV e.2.1 x.key∧RelV e.2.2 x.val∧e.1.ok 8=true
inductive HO where
  |lst (xs:List V)
  |tup (xs:List V)
  |dK (kvs:List (Key×V))|dT (kvs:List (List Key×V))
  |dG (es:List (TK×V×V)) (ep:Nat)
  |set (S:Int→Bool) (n:Nat)
  |ins (C dx:Addr) (fs:List (Str×V))
  |own (x:Addr)
  |xd (fs:List (Str×V))
  |met (f x:Addr)
  |rng (lo hi:Int)
  |frz (o:Obj) (u:HO)
  |tbl (ps:Array Value)
  |ext (φ:Heap→Prop)
noncomputable abbrev Hp:=Addr→Option HO
noncomputable def upd (H:Hp) (a:Addr) (o:HO):Hp:=fun b=>if b=a then some o else H b
theorem a1g{H:Hp}{a:Addr}{o:HO}:upd H a o a=some o:=by unfold upd;rw[if_pos rfl]
theorem a0s{H:Hp}{a b:Addr}{o:HO}(h:b≠a):upd H a o b=H b:=by unfold upd;rw[if_neg h]
theorem a1a{H:Hp}{a b:Addr}{o:HO}(h:H a=some o)(h':H b=none):a≠b:=by
 intro e;subst e;rw[h] at h';cases h'
section
variable (P:Program) (w:World)
noncomputable def ObjOk (H:Hp) (h:Heap) (a:Addr):HO→Prop
 |.lst xs=>xs.length≤sizeLine∧∃(its:List Value) (n:Nat),Vals xs its∧h.get? a=some { cls:=.type "list",data:=.seq its.toArray n}
 |.tup xs=>xs.length≤sizeLine∧∃its:List Value,Vals xs its∧IsTup h a its.toArray
 |.dK kvs=>kvs.length≤sizeLine∧(a == sysModules)=false∧∃vs,KV kvs vs∧h.DictOf (b8h P w) a vs
 |.dT kvs=>kvs.length≤sizeLine∧(a == sysModules)=false∧∃xs:List (List Key×Addr×Value),
   Paired (fun(p:List Key×V) (q:List Key×Addr×Value)=>p.1=q.1∧H q.2.1=some (.tup (p.1.map kV))∧RelV p.2 q.2.2) kvs xs∧
   ∃o es ep,h.get? a=some o∧o.ExactDict∧o.data=.dict es ep∧es.toList=xs.map (entryOfKey (tupleKind (b8h P w)))∧(xs.map (·.1)).Nodup
 |.dG es ep=>es.length≤sizeLine∧(a == sysModules)=false∧∃o xs,h.get? a=some o∧o.ExactDict∧o.data=.dict xs ep∧Paired (EntG w) es xs.toList∧(es.map (·.1)).Nodup
 |.set S n=>h.SetOf (intKind P w) a S n
 |.ins C dx fs=>H dx=some (.own a)∧fs.length≤1000∧dx≠a∧h.get? a=some (PySem.W.instObj C dx)∧
   ∃mA,h.Ns1 dx mA∧(∀f,RelO (fs.lookup f) (mA f))∧PySem.Within mA (fs.map (·.1))
 |.own _=>∃o,h.get? a=some o
 |.xd fs=>∃mA,h.Ns1 a mA∧∀f,RelO (fs.lookup f) (mA f)
 |.rng lo hi=>∃t u v,h.get? a=some { cls:=.type "range",data:=.fields #[.int lo t,.int hi u,.int 1 v]}
 |.frz o u=>h.get? a=some o∧ObjOk H h a u
 |.tbl ps=>h.get? a=some { cls:=.none,data:=.fields ps}
 |.met f x=>h.get? a=some (PySem.W.methodObj (.ref f) (.ref x))
 |.ext φ=>φ h∧(∃o,h.get? a=some o)∧∀h1 h2:Heap,φ h1→(∀o,h1.get? a=some o→h2.get? a=some o)→φ h2
noncomputable def HOk (H:Hp) (h:Heap):Prop:=∀a o,H a=some o→ObjOk P w H h a o
end
section
variable {P:Program} {w:World} {H H':Hp} {h h':Heap} {a:Addr} {o:HO}
theorem ObjOk.lt(x:ObjOk P w H h a o):a < h.objs.size:=by
 cases o with
 |lst xs=>obtain⟨_,_,_,_,e⟩:=x;exact Heap.lt_size e
 |tup xs=>obtain⟨_,_,_,p⟩:=x;exact p.lt
 |dK kvs=>obtain⟨_,_,_,_,o,_,_,e,_⟩:=x;exact Heap.lt_size e
 |dT kvs=>obtain⟨_,_,_,_,o,_,_,e,_⟩:=x;exact Heap.lt_size e
 |dG es ep=>obtain⟨_,_,o,_,e,_⟩:=x;exact Heap.lt_size e
 |set S n=>obtain⟨o,_,_,_,e,_⟩:=x;exact Heap.lt_size e
 |ins C dx fs=>obtain⟨_,_,_,e,_⟩:=x;exact Heap.lt_size e
 |own y=>obtain⟨_,e⟩:=x;exact Heap.lt_size e
 |xd fs=>obtain⟨_,⟨_,_,_,e,_⟩,_⟩:=x;exact Heap.lt_size e
 |rng lo hi=>obtain⟨_,_,_,e⟩:=x;exact Heap.lt_size e
 |frz ob u=>obtain⟨e,_⟩:=x;exact Heap.lt_size e
 |tbl ps=>exact Heap.lt_size (show h.get? a=some _ from x)
 |met f y=>exact Heap.lt_size (show h.get? a=some _ from x)
 |ext φ=>obtain⟨_,⟨_,e⟩,_⟩:=x;exact Heap.lt_size e
theorem Paired.mapP{α β:Type}{F G:α→β→Prop}{l₁:List α}{l₂:List β}(h:Paired F l₁ l₂)(f:∀a b,F a b→G a b):Paired G l₁ l₂:=by
 induction h with
 |nil=>exact .nil
 |cons r t ih=>exact .cons (f _ _ r) ih
theorem ObjOk.stay(x:ObjOk P w H h a o)(k:∀b u,(b=a∨H b=some (.own a))→h.get? b=some u→h'.get? b=some u)
  (ho:∀b,H b=some (.own a)→H' b=some (.own a)) (ht:∀b xs,H b=some (.tup xs)→H' b=some (.tup xs)):ObjOk P w H' h' a o:=by
 induction o with
 |lst xs=>obtain⟨z,its,n,r,e⟩:=x;exact⟨z,its,n,r,k _ _ (.inl rfl) e⟩
 |tup xs=>obtain⟨z,its,r,ob,e,c⟩:=x;exact⟨z,its,r,ob,k _ _ (.inl rfl) e,c⟩
 |dK kvs=>obtain⟨z,y,vs,r,ob,es,ep,e,c⟩:=x;exact⟨z,y,vs,r,ob,es,ep,k _ _ (.inl rfl) e,c⟩
 |dT kvs=>
  obtain⟨z,y,xs,r,ob,es,ep,e,c⟩:=x
  exact⟨z,y,xs,Paired.mapP r fun p q z=>⟨z.1,ht _ _ z.2.1,z.2.2⟩,ob,es,ep,k _ _ (.inl rfl) e,c⟩
 |dG es ep=>obtain⟨z,y,ob,xs,e,c⟩:=x;exact⟨z,y,ob,xs,k _ _ (.inl rfl) e,c⟩
 |set S n=>obtain⟨ob,es,ep,t,e,c⟩:=x;exact⟨ob,es,ep,t,k _ _ (.inl rfl) e,c⟩
 |ins C dx fs=>
  obtain⟨d,z,ne,e,mA,⟨od,es,ep,e2,c⟩,r⟩:=x
  exact⟨ho _ d,z,ne,k _ _ (.inl rfl) e,mA,⟨od,es,ep,k _ _ (.inr d) e2,c⟩,r⟩
 |own y=>obtain⟨ob,e⟩:=x;exact⟨ob,k _ _ (.inl rfl) e⟩
 |xd fs=>obtain⟨mA,⟨od,es,ep,e,c⟩,r⟩:=x;exact⟨mA,⟨od,es,ep,k _ _ (.inl rfl) e,c⟩,r⟩
 |rng lo hi=>obtain⟨t,u,v,e⟩:=x;exact⟨t,u,v,k _ _ (.inl rfl) e⟩
 |frz ob u ih=>obtain⟨e,q⟩:=x;exact⟨k _ _ (.inl rfl) e,ih q⟩
 |tbl ps=>
  have e:h.get? a=some { cls:=.none,data:=.fields ps}:=x
  show h'.get? a=some { cls:=.none,data:=.fields ps}
  exact k a _ (.inl rfl) e
 |met f y=>
  have e:h.get? a=some (PySem.W.methodObj (.ref f) (.ref y)):=x
  show h'.get? a=some (PySem.W.methodObj (.ref f) (.ref y))
  exact k a _ (.inl rfl) e
 |ext φ=>obtain⟨p,⟨o,e⟩,st⟩:=x;exact⟨st _ _ p fun o q=>k _ _ (.inl rfl) q,⟨o,k _ _ (.inl rfl) e⟩,st⟩
theorem HOk.lt(x:HOk P w H h)(e:H a=some o):a < h.objs.size:=(x a o e).lt
theorem HOk.fresh(x:HOk P w H h)(e:h.objs.size≤a):H a=none:=by
 cases q:H a with
 |none=>rfl
 |some u=>exact absurd (Nat.lt_of_lt_of_le (x.lt q) e) (Nat.lt_irrefl _)
theorem HOk.kept(x:HOk P w H h)(k:∀b u,h.get? b=some u→h'.get? b=some u):HOk P w H h':=fun a o e=>
 (x a o e).stay (fun b u _ q=>k b u q) (fun _ q=>q) fun _ _ q=>q
theorem HOk.laid(x:HOk P w H h)(k:∀b u,h.get? b=some u→h'.get? b=some u)(hp:h.objs.size≤a)(new:ObjOk P w (upd H a o) h' a o):HOk P w (upd H a o) h':=fun b u e=>by
 have hn:=x.fresh hp
 by_cases hb:b=a
 ·subst hb;rw[a1g] at e;cases e;exact new
 ·rw[a0s hb] at e
  exact(x b u e).stay (fun c v _ q=>k c v q) (fun c q=>by rw[a0s (a1a q hn)];exact q) fun c xs q=>by rw[a0s (a1a q hn)];exact q
end
noncomputable def Rd (H:Hp) (a:Addr) (u:HO):Prop:=H a=some u∨∃o,H a=some (.frz o u)
theorem Rd.ok{P:Program}{w:World}{H:Hp}{h:Heap}{a:Addr}{u:HO}(r:Rd H a u)(x:HOk P w H h):ObjOk P w H h a u:=by
 rcases r with r|⟨o,r⟩
 ·exact x a u r
 ·obtain⟨_,q⟩:=x a _ r
  exact q
noncomputable def Mut:Option HO→Prop
 |some (.lst _)=>True
 |some (.dK _)=>True
 |some (.dT _)=>True
 |some (.dG _ _)=>True
 |some (.set _ _)=>True
 |some (.ins _ _ _)=>True
 |some (.ext _)=>True
 |_=>False
section
variable {P:Program} {w:World} {H:Hp} {h h':Heap} {x e:Addr} {o':HO}
theorem HOk.write(ok:HOk P w H h)(mu:Mut (H x))(he:e=x∨H e=some (.own x))(k:∀b u,b≠e→h.get? b=some u→h'.get? b=some u)(heo:∃u,h'.get? e=some u)
  (new:ObjOk P w (upd H x o') h' x o'):HOk P w (upd H x o') h':=fun b u q=>by
 have nown:∀c y,H c=some (.own y)→c≠x:=fun c y r z=>by subst z;rw[r] at mu;exact mu
 have ntup:∀c xs,H c=some (.tup xs)→c≠x:=fun c xs r z=>by subst z;rw[r] at mu;exact mu
 by_cases hb:b=x
 ·subst hb;rw[a1g] at q;cases q;exact new
 ·rw[a0s hb] at q
  by_cases hbe:b=e
  ·have q':H b=some (.own x):=by
    rcases he with z|z
    ·exact absurd (hbe.trans z) hb
    ·rw[hbe];exact z
   rw[q] at q';cases q'
   obtain⟨v,hv⟩:=heo
   exact⟨v,by rw[hbe];exact hv⟩
  ·refine(ok b u q).stay (fun c v hc r=>k c v ?_ r) (fun c r=>by rw[a0s (nown c b r)];exact r) fun c xs r=>by rw[a0s (ntup c xs r)];exact r
   rcases hc with rfl|hc
   ·exact hbe
   ·rintro rfl
    rcases he with z|z
    ·exact nown c b hc z
    ·rw[hc] at z;cases z;exact hb rfl
end
structure Un (fs ex:List Addr) (H H':Hp) (h h':Heap):Prop where
 keep:∀b o,h.get? b=some o→H b=none→b∉fs→b∉ex→h'.get? b=some o
 slot:∀b o,h.get? b=some o→H b=none→b∈fs→b∉ex→∃sl,h'.get? b=some { o with slots:=sl}
 free:∀b o,h.get? b=some o→H b=none→b∉ex→H' b=none
 there:∀b o,h.get? b=some o→b∉ex→∃o',h'.get? b=some o'
 tups:∀b xs,H b=some (.tup xs)→H' b=some (.tup xs)
 frzs:∀b o u,H b=some (.frz o u)→H' b=some (.frz o u)
 tbls:∀b ps,H b=some (.tbl ps)→∃more,H' b=some (.tbl (ps++more))
section
variable {fs fs' ex ex':List Addr} {H H1 H2:Hp} {h h1 h2 h':Heap} {a x e:Addr} {o:HO}
theorem Un.any(u:Un fs ex H H1 h h1){b:Addr}{ob:Obj}(q:h.get? b=some ob)(n:H b=none)(hx:b∉ex):∃sl,h1.get? b=some { ob with slots:=sl}:=by
 by_cases hb:b∈fs
 ·exact u.slot b ob q n hb hx
 ·exact⟨ob.slots,u.keep b ob q n hb hx⟩
theorem Un.kept(k:∀b u,h.get? b=some u→h'.get? b=some u):Un fs ex H H h h':=
 ⟨fun b ob q _ _ _=>k b ob q,fun b ob q _ _ _=>⟨ob.slots,k b ob q⟩,fun _ _ _ n _=>n,fun b ob q _=>⟨ob,k b ob q⟩,fun _ _ q=>q,fun _ _ _ q=>q,fun _ ps q=>⟨#[],by rw[q];simp⟩⟩
theorem Un.refl:Un fs ex H H h h:=Un.kept fun _ _ q=>q
theorem Un.laid(k:∀b u,h.get? b=some u→h'.get? b=some u)(hp:h.objs.size≤a)(hn:H a=none):Un fs ex H (upd H a o) h h' where
 keep:=fun b u q _ _ _=>k b u q
 slot:=fun b u q _ _ _=>⟨u.slots,k b u q⟩
 free:=fun b u q n _=>by rw[a0s (Nat.ne_of_lt (Nat.lt_of_lt_of_le (Heap.lt_size q) hp))];exact n
 there:=fun b u q _=>⟨u,k b u q⟩
 tups:=fun b xs q=>by rw[a0s (a1a q hn)];exact q
 frzs:=fun b u xs q=>by rw[a0s (a1a q hn)];exact q
 tbls:=fun b ps q=>⟨#[],by rw[a0s (a1a q hn),q];simp⟩
theorem Un.write(mu:Mut (H x))(he:e=x∨H e=some (.own x))(k:∀b u,b≠e→h.get? b=some u→h'.get? b=some u)(heo:∃u,h'.get? e=some u):Un fs ex H (upd H x o) h h':=by
 have hx:∀b,H b=none→b≠x:=fun b n z=>by subst z;rw[n] at mu;exact mu
 have hb:∀b,H b=none→b≠e:=fun b n z=>by
  subst z
  rcases he with r|r
  ·exact hx b n r
  ·rw[n] at r;cases r
 have hm:∀b u,H b=some u→¬Mut (some u)→b≠x:=fun b u q nm z=>by subst z;rw[q] at mu;exact nm mu
 refine⟨fun b u q n _ _=>k b u (hb b n) q,fun b u q n _ _=>⟨u.slots,k b u (hb b n) q⟩,fun b u q n _=>by rw[a0s (hx b n)];exact n,fun b u q _=>?_,
  fun b xs q=>by rw[a0s (hm b _ q fun z=>z)];exact q,fun b u xs q=>by rw[a0s (hm b _ q fun z=>z)];exact q,fun b ps q=>⟨#[],by rw[a0s (hm b _ q fun z=>z),q];simp⟩⟩
 by_cases hbe:b=e
 ·subst hbe;exact heo
 ·exact⟨u,k b u hbe q⟩
end
noncomputable def trk (h:Heap) (H:Hp):List Addr:=(List.range h.objs.size).filter fun a=>(H a).isSome
noncomputable def hidT (h:Heap) (H:Hp):Heap:=PySem.W.hideAll h (trk h H)
theorem c2z(h:Heap)(H:Hp):(hidT h H).objs.size=h.objs.size:=PySem.W.hideAll_size _ _
theorem c7u{h:Heap}{H:Hp}{b:Addr}{o:Obj}(e:h.get? b=some o)(n:H b=none):(hidT h H).get? b=some o:=
 PySem.W.hideAll_get _ e fun hm=>by
  have q:(H b).isSome=true:=(List.mem_filter.mp hm).2
  rw[n] at q;simp at q
theorem d1u{h:Heap}{H:Hp}{b:Addr}{o:Obj}(e:(hidT h H).get? b=some o):h.get? b=some o∧H b=none:=by
 have e':h.get? b=some o:=PySem.W.of_hideAll (trk h H) e
 refine⟨e',?_⟩
 cases q:H b with
 |none=>rfl
 |some x=>
  have hm:b∈trk h H:=List.mem_filter.mpr ⟨List.mem_range.mpr (Heap.lt_size e'),by simp[q]⟩
  have z:(hidT h H).get? b=none:=PySem.W.hideAll_none (trk h H) hm
  rw[z] at e;cases e
noncomputable def d1v (g h:Heap) (L:Addr):List (Addr×Obj):=(List.range h.objs.size).filterMap fun a=>if a=L∨(g.get? a).isSome=true then none else(h.get? a).map fun o=>(a,o)
noncomputable def rest (g h:Heap) (L d:Addr):List (Addr×Obj):=(d1v g h L).filter fun p=>decide (p.1≠d)
end L2
namespace L2
open PySem PySem.Spec PyProof.Rows
structure Mod (K:PySem.W.Frag) (mg:Str→Option Value) (base:Heap):Prop where
 kin:K.In base
 glob:base.Ns mainGlobals mg
 blt:∃mb,base.Ns builtinsNs mb∧∀x:Str,x≠"__name__"→mb x=bootBuiltins x
 nolimit:base.NoLimit
set_option genInjectivity false in
structure Cx where
 prog:Program
 w:World
 K:PySem.W.Frag
 mg:Str→Option Value
 base:Heap
 A:Around
 N:List Str
 s₀:Shared
 H₀:Hp
 env:Env
 outer:List Env
 stack:List Env
 ex:List Addr
 fn:Str→Bool
 calm:Bool
 pn:List (Addr×Obj)
 xe:Value→Shared→Prop
noncomputable def frs (l:List Env):List Addr:=l.filterMap (·.frame)
noncomputable abbrev Cx.fs (X:Cx):List Addr:=frs X.outer
noncomputable def Vis (sc:Scope) (x:Str):Prop:=sc.names.lookup x=some .local ∨ sc.names.lookup x=some .cell∨sc.names.lookup x=some .free
noncomputable def Loc (sc:Scope) (x:Str):Prop:=sc.names.lookup x=some .local ∨ sc.names.lookup x=some .cell
noncomputable def Look (env:Env) (h:Heap) (m:Str→Option Value) (x:Str) (u:Value):Prop:=
 (env.kindOf x=some .local ∧ m x=some u)∨((env.kindOf x=some .cell∨env.kindOf x=some .free)∧∃c,env.cells.lookup x=some c∧h.IsCell c (some u))
structure Cx.Ok (X:Cx):Prop where
 mod:Mod X.K X.mg X.base
 kind:X.env.scope.kind=.function
 glob:X.env.globals=mainGlobals
 blt:X.env.builtins=builtinsNs
 above:X.s₀.heap.objs.size≤X.env.locals
 inj:∀x y c,X.env.cells.lookup x=some c→X.env.cells.lookup y=some c→x=y
 has:∀x,(X.env.kindOf x=some .cell∨X.env.kindOf x=some .free)→∃c,X.env.cells.lookup x=some c
 cab:∀x c,X.fn x=true→X.env.cells.lookup x=some c→X.s₀.heap.objs.size≤c
 hd:X.calm=true→X.A.handled=none
 frames:X.A.frames=some X.stack
 stk:X.stack=X.outer∨(X.stack=X.env::X.outer∧X.env.frame=some X.env.locals)
 exf:∀b∈X.ex,b≠X.env.locals∧∀x c,X.env.cells.lookup x=some c→c≠b
 bs:∀b o,X.base.get? b=some o→X.s₀.heap.get? b=some o∧X.H₀ b=none
 bsz:X.base.objs.size≤X.s₀.heap.objs.size
 noex:∀b o,X.base.get? b=some o→b∉X.ex
 exfs:∀b∈X.ex,b∉X.fs
 funs:X.s₀.heap.FunFrames X.base X.outer
 frf:∀b∈X.fs,X.H₀ b=none
structure Inv (X:Cx) (pins:List (Addr×Obj)) (σ:List (Option V)) (H:Hp) (s:Shared):Prop where
 ok:X.Ok
 os:s.os=X.s₀.os
 bare:AllBare s.gens
 base:Un X.fs X.ex X.H₀ H X.s₀.heap s.heap
 loc:∃m,s.heap.Ns X.env.locals m∧∀(i:Nat) (x:Str) (v:V),X.N[i]?=some x→σ[i]?=some (some v)→Vis X.env.scope x→∃u,RelV v u∧Look X.env s.heap m x u
 cell:∀x c,X.env.cells.lookup x=some c→∃v,s.heap.IsCell c v
 free:H X.env.locals=none
 freeC:∀x c,X.env.cells.lookup x=some c→H c=none
 pin:∀p∈X.pn++pins,s.heap.get? p.1=some p.2∧H p.1=none∧p.1≠X.env.locals∧p.1∉X.fs∧∀v,p.2.data≠.cell v
 hok:HOk X.prog X.w H s.heap
 len:σ.length=X.N.length
section
variable {X:Cx} {pins:List (Addr×Obj)} {σ:List (Option V)} {H H':Hp} {s:Shared} {h':Heap}
theorem Cx.Ok.nofr(ok:X.Ok){b:Addr}{o:Obj}(e:X.base.get? b=some o):b∉X.fs:=fun hb=>by
 have:=(ok.funs.mem hb).1
 rw[e] at this;cases this
theorem Inv.bs(I:Inv X pins σ H s):∀b o,X.base.get? b=some o→s.heap.get? b=some o∧H b=none:=fun b o e=>
 ⟨I.base.keep b o (I.ok.bs b o e).1 (I.ok.bs b o e).2 (I.ok.nofr e) (I.ok.noex b o e),I.base.free b o (I.ok.bs b o e).1 (I.ok.bs b o e).2 (I.ok.noex b o e)⟩
theorem Inv.bk(I:Inv X pins σ H s):∀b o,X.base.get? b=some o→s.heap.get? b=some o:=fun b o e=>(I.bs b o e).1
theorem Inv.mod(I:Inv X pins σ H s):Mod X.K X.mg X.base:=I.ok.mod
theorem Inv.kIn(I:Inv X pins σ H s):X.K.In s.heap:=I.ok.mod.kin.keeps I.bk
theorem Inv.lt(I:Inv X pins σ H s):X.env.locals < s.heap.objs.size:=let ⟨_,hn,_⟩:=I.loc;hn.lt
theorem Inv.sz(I:Inv X pins σ H s):X.s₀.heap.objs.size≤s.heap.objs.size:=Nat.le_trans I.ok.above (Nat.le_of_lt I.lt)
theorem Inv.nofs(I:Inv X pins σ H s){a:Addr}(h:s.heap.objs.size≤a):a∉X.fs:=fun hb=>by
 obtain⟨_,o,ho,_⟩:=I.ok.funs.mem hb
 exact absurd (Nat.lt_of_lt_of_le (Heap.lt_size ho) (Nat.le_trans I.sz h)) (Nat.lt_irrefl _)
theorem Inv.cne(I:Inv X pins σ H s):∀x c,X.env.cells.lookup x=some c→c≠X.env.locals:=fun x c e z=>by
 obtain⟨v,o,ho,hd⟩:=I.cell x c e
 obtain⟨m,⟨o',es,ep,ho',hd',_⟩,_⟩:=I.loc
 rw[z,ho'] at ho;cases ho;rw[hd'] at hd;cases hd
theorem Inv.funs(I:Inv X pins σ H s):s.heap.FunFrames X.base X.outer:=by
 have all:∀(l:List Env),(∀b∈frs l,b∈X.fs)→X.s₀.heap.FunFrames X.base l→s.heap.FunFrames X.base l:=by
  intro l
  induction l with
  |nil=>intro _ _;trivial
  |cons env r ih=>
   intro hs hl
   obtain⟨hk,⟨L,o,hf,hn,ho,hd⟩,hr⟩:=hl
   have hL:L∈X.fs:=hs L (by unfold frs;rw[List.filterMap_cons,hf];exact List.mem_cons_self)
   obtain⟨sl,e⟩:=I.base.slot L o ho (I.ok.frf L hL) hL fun z=>I.ok.exfs L z hL
   exact⟨hk,⟨L,_,hf,hn,e,hd⟩,ih (fun b hb=>hs b (by unfold frs;rw[List.filterMap_cons,hf];exact List.mem_cons_of_mem _ hb)) hr⟩
 exact all X.outer (fun _ hb=>hb) I.ok.funs
theorem Inv.stack(I:Inv X pins σ H s):s.heap.FunFrames X.base X.stack:=by
 rcases I.ok.stk with e|⟨e,hf⟩
 ·rw[e];exact I.funs
 ·rw[e]
  obtain⟨m,hn,_⟩:=I.loc
  refine .cons (by rw[I.ok.kind];decide) hf hn ?_ I.funs
  exact Heap.get?_none_of_le (Nat.le_trans I.ok.bsz I.ok.above)
theorem Inv.stkSub(I:Inv X pins σ H s):∀b∈frs X.stack,b∈X.env.locals::X.fs:=fun b hb=>by
 rcases I.ok.stk with e|⟨e,hf⟩
 ·rw[e] at hb;exact List.mem_cons_of_mem _ hb
 ·rw[e] at hb
  unfold frs at hb
  rw[List.filterMap_cons,hf] at hb
  exact hb
theorem Inv.stkFree(I:Inv X pins σ H s):∀b∈frs X.stack,H b=none:=fun b hb=>by
 rcases List.mem_cons.mp (I.stkSub b hb) with e|hb
 ·rw[e];exact I.free
 ·obtain⟨_,o,ho,_⟩:=I.ok.funs.mem hb
  exact I.base.free b o ho (I.ok.frf b hb) fun z=>I.ok.exfs b z hb
theorem Inv.step{g':Array GenState}{t':Nat}{d':Drawn}{ch:List Addr}(I:Inv X pins σ H s)
  (hch:∀b∈ch,(b∈X.ex∨X.s₀.heap.objs.size≤b)∧b≠X.env.locals∧(∀x c,X.env.cells.lookup x=some c→c≠b)∧∀p∈X.pn++pins,p.1≠b)
  (keep:∀b o,b≠X.env.locals→b∉X.fs→b∉ch→s.heap.get? b=some o→H b=none→h'.get? b=some o)
  (slot:∀b o,b≠X.env.locals→b∈X.fs→b∉ch→s.heap.get? b=some o→H b=none→∃sl,h'.get? b=some { o with slots:=sl}) (free:∀b o,b∉ch→s.heap.get? b=some o→H b=none→H' b=none)
  (there:∀b o,b∉ch→s.heap.get? b=some o→∃o',h'.get? b=some o')
  (tups:∀b xs,H b=some (.tup xs)→H' b=some (.tup xs)) (frzs:∀b o u,H b=some (.frz o u)→H' b=some (.frz o u)) (tbls:∀b ps,H b=some (.tbl ps)→∃more,H' b=some (.tbl (ps++more)))
  (ns:∀m,s.heap.Ns X.env.locals m→h'.Ns X.env.locals m) (hok:HOk X.prog X.w H' h') (hg:AllBare g') :
  Inv X pins σ H' { s with heap:=h',gens:=g',drawn:=d',toks:=t'}:=by
 have neL:∀b o,X.s₀.heap.get? b=some o→b≠X.env.locals:=fun b o e=>Nat.ne_of_lt (Nat.lt_of_lt_of_le (Heap.lt_size e) I.ok.above)
 have neC:∀b o,X.s₀.heap.get? b=some o→b∉X.ex→b∉ch:=fun b o e hx hb=>by
  rcases(hch b hb).1 with z|z
  ·exact hx z
  ·exact absurd (Nat.lt_of_lt_of_le (Heap.lt_size e) z) (Nat.lt_irrefl _)
 have cellK:∀x c,X.env.cells.lookup x=some c→∀v,s.heap.IsCell c v→h'.IsCell c v:=fun x c e v ⟨o,ho,hd⟩=>by
  have nch:c∉ch:=fun z=>(hch c z).2.2.1 x c e rfl
  by_cases hc:c∈X.fs
  ·obtain⟨sl,q⟩:=slot c o (I.cne x c e) hc nch ho (I.freeC x c e)
   exact⟨_,q,hd⟩
  ·exact⟨o,keep c o (I.cne x c e) hc nch ho (I.freeC x c e),hd⟩
 refine⟨I.ok,I.os,hg,⟨fun b o e n hb hx=>?_,fun b o e n hb hx=>?_,fun b o e n hx=>?_,fun b o e hx=>?_,fun b xs e=>tups b xs (I.base.tups b xs e),fun b o xs e=>frzs b o xs (I.base.frzs b o xs e),fun b ps e=>?_⟩,?_,fun x c e=>?_,?_,fun x c e=>?_,fun p hp=>?_,hok,I.len⟩
 ·exact keep b o (neL b o e) hb (neC b o e hx) (I.base.keep b o e n hb hx) (I.base.free b o e n hx)
 ·obtain⟨sl,e1⟩:=I.base.slot b o e n hb hx
  obtain⟨sl',e2⟩:=slot b _ (neL b o e) hb (neC b o e hx) e1 (I.base.free b o e n hx)
  exact⟨sl',e2⟩
 ·obtain⟨o',e1⟩:=I.base.there b o e hx
  exact free b o' (neC b o e hx) e1 (I.base.free b o e n hx)
 ·obtain⟨o',e1⟩:=I.base.there b o e hx
  exact there b o' (neC b o e hx) e1
 ·obtain⟨m1,e1⟩:=I.base.tbls b ps e
  obtain⟨m2,e2⟩:=tbls b _ e1
  exact⟨m1++m2,by rw[e2,Array.append_assoc]⟩
 ·obtain⟨m,hn,hl⟩:=I.loc
  refine⟨m,ns m hn,fun i x v e1 e2 e3=>?_⟩
  obtain⟨u,r,l⟩:=hl i x v e1 e2 e3
  refine⟨u,r,?_⟩
  rcases l with l|⟨k,c,e,z⟩
  ·exact .inl l
  ·exact .inr ⟨k,c,e,cellK x c e _ z⟩
 ·obtain⟨v,z⟩:=I.cell x c e
  exact⟨v,cellK x c e v z⟩
 ·obtain⟨m,⟨o,_,_,ho,_⟩,_⟩:=I.loc
  exact free _ o (fun z=>(hch _ z).2.1 rfl) ho I.free
 ·obtain⟨v,o,ho,hd⟩:=I.cell x c e
  exact free c o (fun z=>(hch c z).2.2.1 x c e rfl) ho (I.freeC x c e)
 ·obtain⟨e,n,ne,nf,d⟩:=I.pin p hp
  have nch:p.1∉ch:=fun z=>(hch p.1 z).2.2.2 p hp rfl
  exact⟨keep p.1 p.2 ne nf nch e n,free p.1 p.2 nch e n,ne,nf,d⟩
theorem Inv.un{t':Nat}(I:Inv X pins σ H s)(u:Un X.fs [] H H' s.heap h')(hok:HOk X.prog X.w H' h'):Inv X pins σ H' { s with heap:=h',toks:=t'}:=by
 obtain⟨m,⟨o,es,ep,ho,r⟩,_⟩:=id I.loc
 obtain⟨sl,hL⟩:=u.any ho I.free (by simp)
 exact I.step (g':=s.gens) (d':=s.drawn) (ch:=[]) (fun _ z=>nomatch z) (fun b o _ hb _ e n=>u.keep b o e n hb (by simp)) (fun b o _ hb _ e n=>u.slot b o e n hb (by simp)) (fun b o _ e n=>u.free b o e n (by simp)) (fun b o _ e=>u.there b o e (by simp)) u.tups u.frzs u.tbls (fun m' hm=>by
  obtain⟨o',es',ep',ho',r'⟩:=hm
  rw[ho] at ho';cases ho'
  exact⟨_,es',ep',hL,r'⟩) hok I.bare
theorem Inv.call{g':Array GenState}{t':Nat}{d':Drawn}{ch:List Addr}(I:Inv X pins σ H s)(u:Un (frs X.stack) ch H H' s.heap h')(hok:HOk X.prog X.w H' h')(hg:AllBare g')
  (hch:∀b∈ch,(b∈X.ex∨X.s₀.heap.objs.size≤b)∧b≠X.env.locals∧(∀x c,X.env.cells.lookup x=some c→c≠b)∧∀p∈X.pn++pins,p.1≠b) :
  Inv X pins σ H' { s with heap:=h',gens:=g',drawn:=d',toks:=t'}:=by
 obtain⟨m,⟨o,es,ep,ho,r⟩,_⟩:=id I.loc
 obtain⟨sl,hL⟩:=u.any ho I.free fun z=>(hch _ z).2.1 rfl
 exact I.step (ch:=ch) hch (fun b o hL hb hc e n=>u.keep b o e n (fun z=>(List.mem_cons.mp (I.stkSub b z)).elim hL hb) hc) (fun b o _ _ hc e n=>u.any e n hc) (fun b o hc e n=>u.free b o e n hc) (fun b o hc e=>u.there b o e hc) u.tups u.frzs u.tbls (fun m' hm=>by
  obtain⟨o',es',ep',ho',r'⟩:=hm
  rw[ho] at ho';cases ho'
  exact⟨_,es',ep',hL,r'⟩) hok hg
theorem Inv.turned{t':Nat}{it:Addr}(I:Inv X pins σ H s)(k:∀b o,b≠it→s.heap.get? b=some o→h'.get? b=some o)(hn:H it=none)(hL:it≠X.env.locals)
  (h1:it∈X.ex∨X.s₀.heap.objs.size≤it) (h2:∀x c,X.env.cells.lookup x=some c→c≠it) (h3:∀p∈X.pn++pins,p.1≠it):Inv X pins σ H { s with heap:=h',toks:=t'}:=by
 have nit:∀b u,H b=some u→b≠it:=fun b u e z=>by rw[z,hn] at e;cases e
 refine I.step (g':=s.gens) (d':=s.drawn) (ch:=[it]) (fun b hb=>?_) (fun b o _ _ hc e _=>k b o (fun z=>hc (by simp[z])) e) (fun b o _ _ hc e _=>⟨o.slots,k b o (fun z=>hc (by simp[z])) e⟩) (fun _ _ _ _ n=>n)
  (fun b o hc e=>⟨o,k b o (fun z=>hc (by simp[z])) e⟩) (fun _ _ e=>e) (fun _ _ _ e=>e) (fun b ps e=>⟨#[],by rw[e];simp⟩) (fun m hm=>?_) (fun b u e=>?_) I.bare
 ·have e:b=it:=by simpa using hb
  subst e
  exact⟨h1,hL,h2,h3⟩
 ·obtain⟨o,es,ep,ho,r⟩:=hm
  exact⟨o,es,ep,k _ o (Ne.symm hL) ho,r⟩
 ·refine(I.hok b u e).stay (fun c v hc q=>k c v ?_ q) (fun _ q=>q) fun _ _ q=>q
  rcases hc with z|z
  ·rw[z];exact nit b u e
  ·exact nit c _ z
theorem Inv.tok(I:Inv X pins σ H s)(t:Nat):Inv X pins σ H { s with toks:=t}:=I.un (h':=s.heap) (t':=t) Un.refl I.hok
theorem Inv.kept{t':Nat}(I:Inv X pins σ H s)(k:∀b u,s.heap.get? b=some u→h'.get? b=some u):Inv X pins σ H { s with heap:=h',toks:=t'}:=I.un (Un.kept k) (I.hok.kept k)
theorem Inv.laid{a:Addr}{o:HO}{t':Nat}(I:Inv X pins σ H s)(k:∀b u,s.heap.get? b=some u→h'.get? b=some u)(hp:s.heap.objs.size≤a)(new:ObjOk X.prog X.w (upd H a o) h' a o):
  Inv X pins σ (upd H a o) { s with heap:=h',toks:=t'}:=I.un (Un.laid k hp (I.hok.fresh hp)) (I.hok.laid k hp new)
theorem Inv.write{x e:Addr}{o:HO}{t':Nat}(I:Inv X pins σ H s)(mu:Mut (H x))(he:e=x∨H e=some (.own x))(k:∀b u,b≠e→s.heap.get? b=some u→h'.get? b=some u)(heo:∃u,h'.get? e=some u)
  (new:ObjOk X.prog X.w (upd H x o) h' x o):Inv X pins σ (upd H x o) { s with heap:=h',toks:=t'}:=I.un (Un.write mu he k heo) (I.hok.write mu he k heo new)
theorem Inv.pins_of{pins':List (Addr×Obj)}(I:Inv X pins σ H s)(h:∀p∈pins',s.heap.get? p.1=some p.2∧H p.1=none∧p.1≠X.env.locals∧p.1∉X.fs∧∀v,p.2.data≠.cell v):Inv X pins' σ H s:=
 ⟨I.ok,I.os,I.bare,I.base,I.loc,I.cell,I.free,I.freeC,fun p hp=>(List.mem_append.mp hp).elim (fun z=>I.pin p (List.mem_append_left _ z)) (h p),I.hok,I.len⟩
theorem b9s{N:List Str}(hN:N.Nodup){i j:Nat}{x:Str}(a:N[i]?=some x)(b:N[j]?=some x):i=j:=by
 obtain⟨h1,e1⟩:=List.getElem?_eq_some_iff.mp a
 obtain⟨h2,e2⟩:=List.getElem?_eq_some_iff.mp b
 exact(List.getElem_inj hN).mp (e1.trans e2.symm)
theorem b5x{M:Model}{A:Around}{E:Value→Shared→Prop}{i:Nat}{x:Str}{v:V}{u:Value}{Q:Unit→Shared→Prop}(I:Inv X pins σ H s)(hN:X.N.Nodup)(hi:X.N[i]?=some x)(hx:Loc X.env.scope x)(r:RelV v u)
  (h:∀s',Inv X pins (σ.set i (some v)) H s'→(∃a,Heap.SameBut a s.heap s'.heap∧(a=X.env.locals∨X.env.cells.lookup x=some a))→Q () s') (hf:X.fn x=true∨X.env.scope.names.lookup x=some .local := by first|exact .inl rfl|exact .inr rfl|assumption):wpAny M A (storeName X.env x u) Q E s:=by
 obtain⟨m,hn,hl⟩:=id I.loc
 have hcls:(X.env.scope.kind == .class || (X.env.scope.kind == .module && X.env.locals != X.env.globals))=false:=by rw[I.ok.kind];rfl
 have hiσ:i < σ.length:=by rw[I.len];exact(List.getElem?_eq_some_iff.mp hi).1
 have cne:=I.cne
 have tracked:∀{a:Addr} {h':Heap},(∃o,s.heap.get? a=some o∧H a=none)→Heap.SameBut a s.heap h'→HOk X.prog X.w H h':=fun{a h'} ha hs b ob e=>by
  obtain⟨_,_,hfree⟩:=ha
  refine(I.hok b ob e).stay (fun c w' hc q=>(hs.2 c ?_).trans q) (fun _ q=>q) fun _ _ q=>q
  rintro rfl
  rcases hc with rfl|hc
  ·rw[hfree] at e;cases e
  ·rw[hfree] at hc;cases hc
 rcases hx with hk|hk
 ·refine wpAny_storeName_local hk hn (fun h' hn' hs=>?_) hcls
  obtain⟨oL,_,_,hoL,_⟩:=id hn
  refine h _ ⟨I.ok,I.os,I.bare,⟨fun b o e n hb hx=>?_,fun b o e n hb hx=>?_,I.base.free,fun b o e hx=>?_,I.base.tups,I.base.frzs,I.base.tbls⟩,⟨_,hn',fun j y v' e1 e2 e3=>?_⟩,fun y c e=>?_,I.free,I.freeC,fun p hp=>?_,tracked ⟨oL,hoL,I.free⟩ hs,by simpa using I.len⟩ ⟨_,hs,.inl rfl⟩
  ·exact(hs.2 b (Nat.ne_of_lt (Nat.lt_of_lt_of_le (Heap.lt_size e) I.ok.above))).trans (I.base.keep b o e n hb hx)
  ·obtain⟨sl,e1⟩:=I.base.slot b o e n hb hx
   exact⟨sl,(hs.2 b (Nat.ne_of_lt (Nat.lt_of_lt_of_le (Heap.lt_size e) I.ok.above))).trans e1⟩
  ·obtain⟨o',e1⟩:=I.base.there b o e hx
   exact⟨o',(hs.2 b (Nat.ne_of_lt (Nat.lt_of_lt_of_le (Heap.lt_size e) I.ok.above))).trans e1⟩
  ·by_cases hj:j=i
   ·subst hj
    rw[hi] at e1;cases e1
    rw[List.getElem?_set_self hiσ] at e2
    cases e2
    exact⟨u,r,.inl ⟨hk,by simp⟩⟩
   ·rw[List.getElem?_set_ne (Ne.symm hj)] at e2
    obtain⟨u',r',q⟩:=hl j y v' e1 e2 e3
    refine⟨u',r',?_⟩
    rcases q with⟨k,e⟩|⟨k,c,e,z⟩
    ·refine .inl ⟨k,?_⟩
     have:y≠x:=fun e=>hj (b9s hN e1 (e ▸ hi))
     simp[this,e]
    ·exact .inr ⟨k,c,e,z.sameBut hs (cne y c e)⟩
  ·obtain⟨w',z⟩:=I.cell y c e
   exact⟨w',z.sameBut hs (cne y c e)⟩
  ·obtain⟨e,n,ne,nf,d⟩:=I.pin p hp
   exact⟨(hs.2 p.1 ne).trans e,n,ne,nf,d⟩
 ·have hfn:X.fn x=true:=by
   rcases hf with z|z
   ·exact z
   ·rw[z] at hk;cases hk
  obtain⟨c,hc⟩:=I.ok.has x (.inl hk)
  obtain⟨w',z⟩:=I.cell x c hc
  refine wpAny_storeName_cell I.ok.kind hk hc z (fun h' hc' hs=>?_)
  obtain⟨oc,hoc,hocd⟩:=id z
  refine h { s with heap:=h'} ⟨I.ok,I.os,I.bare,⟨fun b o e n hb hx=>?_,fun b o e n hb hx=>?_,I.base.free,fun b o e hx=>?_,I.base.tups,I.base.frzs,I.base.tbls⟩,⟨m,hn.sameBut hs (Ne.symm (cne x c hc)),fun j y v' e1 e2 e3=>?_⟩,fun y c' e=>?_,I.free,I.freeC,fun p hp=>?_,tracked ⟨oc,hoc,I.freeC x c hc⟩ hs,by simpa using I.len⟩ ⟨c,hs,.inr hc⟩
  ·exact(hs.2 b (Nat.ne_of_lt (Nat.lt_of_lt_of_le (Heap.lt_size e) (I.ok.cab x c hfn hc)))).trans (I.base.keep b o e n hb hx)
  ·obtain⟨sl,e1⟩:=I.base.slot b o e n hb hx
   exact⟨sl,(hs.2 b (Nat.ne_of_lt (Nat.lt_of_lt_of_le (Heap.lt_size e) (I.ok.cab x c hfn hc)))).trans e1⟩
  ·obtain⟨o',e1⟩:=I.base.there b o e hx
   exact⟨o',(hs.2 b (Nat.ne_of_lt (Nat.lt_of_lt_of_le (Heap.lt_size e) (I.ok.cab x c hfn hc)))).trans e1⟩
  ·by_cases hj:j=i
   ·subst hj
    rw[hi] at e1;cases e1
    rw[List.getElem?_set_self hiσ] at e2
    cases e2
    exact⟨u,r,.inr ⟨.inl hk,c,hc,hc'⟩⟩
   ·rw[List.getElem?_set_ne (Ne.symm hj)] at e2
    obtain⟨u',r',q⟩:=hl j y v' e1 e2 e3
    refine⟨u',r',?_⟩
    rcases q with q|⟨k,c',e,z'⟩
    ·exact .inl q
    ·refine .inr ⟨k,c',e,z'.sameBut hs ?_⟩
     rintro rfl
     exact hj (b9s hN e1 (I.ok.inj _ _ _ e hc ▸ hi))
  ·by_cases hcc:c'=c
   ·subst hcc;exact⟨_,hc'⟩
   ·obtain⟨w2,z2⟩:=I.cell y c' e
    exact⟨w2,z2.sameBut hs hcc⟩
  ·obtain⟨e,n,ne,nf,d⟩:=I.pin p hp
   refine⟨(hs.2 p.1 ?_).trans e,n,ne,nf,d⟩
   intro q
   rw[q,hoc] at e
   have q':oc=p.2:=Option.some.inj e
   exact d w' (by rw[←q'];exact hocd)
theorem b9t{M:Model}{A:Around}{E:Value→Shared→Prop}{i:Nat}{x:Str}{v:V}{u:Value}{Q:Unit→Shared→Prop}(I:Inv X pins σ H s)(hN:X.N.Nodup)(hi:X.N[i]?=some x)(hx:Loc X.env.scope x)(r:RelV v u)
  (h:∀s',Inv X pins (σ.set i (some v)) H s'→Q () s') (hf:X.fn x=true∨X.env.scope.names.lookup x=some .local := by first|exact .inl rfl|exact .inr rfl|assumption):wpAny M A (storeName X.env x u) Q E s:=
 b5x I hN hi hx r (fun s' I' _=>h s' I') hf
theorem Inv.call'{s':Shared}{ch:List Addr}(I:Inv X pins σ H s)(ho:s'.os=s.os)(u:Un (frs X.stack) ch H H' s.heap s'.heap)(hok:HOk X.prog X.w H' s'.heap)(hg:AllBare s'.gens)
  (hch:∀b∈ch,(b∈X.ex∨X.s₀.heap.objs.size≤b)∧b≠X.env.locals∧(∀x c,X.env.cells.lookup x=some c→c≠b)∧∀p∈X.pn++pins,p.1≠b):Inv X pins σ H' s':=by
 obtain⟨h',g',d',t',o'⟩:=s'
 have e:o'=s.os:=ho
 subst e
 exact I.call (g':=g') (t':=t') (d':=d') u hok hg hch
end
noncomputable abbrev XK:=Value→Option Addr→Hp→Prop
noncomputable abbrev St:=List (Option V)
noncomputable abbrev VK:=V→Hp→Prop
noncomputable abbrev TE:=St→Hp→VK→Prop
noncomputable abbrev TT:=St→Hp→(Bool→Hp→Prop)→Prop
noncomputable abbrev TA:=St→Hp→(List V→Hp→Prop)→Prop
set_option genInjectivity false in
structure Ends where
 nx:St→Hp→Prop
 rt:VK
 bk:St→Hp→Prop:=fun _ _=>False
 ct:St→Hp→Prop:=fun _ _=>False
noncomputable abbrev TS:=Ends→St→Hp→Prop
noncomputable def EP (X:Cx) (pins:List (Addr×Obj)) (σ:St) (Q:VK) (u:Value) (s':Shared):Prop:=∃v H',Inv X pins σ H' s'∧RelV v u∧Q v H'
noncomputable def TP (X:Cx) (pins:List (Addr×Obj)) (σ:St) (Q:Bool→Hp→Prop) (b:Bool) (s':Shared):Prop:=∃H',Inv X pins σ H' s'∧Q b H'
noncomputable def AP (X:Cx) (pins:List (Addr×Obj)) (σ:St) (Q:List V→Hp→Prop) (us:List Value) (s':Shared):Prop:=∃vs H',Inv X pins σ H' s'∧Vals vs us∧Q vs H'
noncomputable def SP (X:Cx) (pins:List (Addr×Obj)) (D:Ends) (f:Flow) (s':Shared):Prop:=
 match f with
 |.next=>∃σ' H',Inv X pins σ' H' s'∧D.nx σ' H'
 |.brk=>∃σ' H',Inv X pins σ' H' s'∧D.bk σ' H'
 |.cont=>∃σ' H',Inv X pins σ' H' s'∧D.ct σ' H'
 |.ret u=>∃v σ' H',Inv X pins σ' H' s'∧RelV v u∧D.rt v H'
noncomputable def PE (X:Cx) (e:Expr) (t:TE):Prop:=
 ∀(pins:List (Addr×Obj)) (s:Shared) (σ:St) (H:Hp) (Q:VK),Inv X pins σ H s→t σ H Q→wpAny (model X.prog X.w) X.A (eval e X.env) (EP X pins σ Q) X.xe s
noncomputable def PT (X:Cx) (e:Expr) (t:TT):Prop:=
 ∀(pins:List (Addr×Obj)) (s:Shared) (σ:St) (H:Hp) (Q:Bool→Hp→Prop),Inv X pins σ H s→t σ H Q→wpAny (model X.prog X.w) X.A (isTrue e X.env (eval e X.env)) (TP X pins σ Q) X.xe s
noncomputable def PW (X:Cx) (e:Expr) (t:TT):Prop:=
 ∀(whole:Sem Value) (pins:List (Addr×Obj)) (s:Shared) (σ:St) (H:Hp) (Q:Bool→Hp→Prop),Inv X pins σ H s→t σ H Q→wpAny (model X.prog X.w) X.A (isTrue e X.env whole) (TP X pins σ Q) X.xe s
theorem PW.pt{X:Cx}{e:Expr}{t:TT}(h:PW X e t):PT X e t:=h _
noncomputable def PA (X:Cx) (es:List Expr) (t:TA):Prop:=
 ∀(pos:Pos) (pins:List (Addr×Obj)) (s:Shared) (σ:St) (H:Hp) (Q:List V→Hp→Prop),Inv X pins σ H s→t σ H Q→wpAny (model X.prog X.w) X.A (spliced (backTo pos (starEach es X.env))) (AP X pins σ Q) X.xe s
noncomputable def PS (X:Cx) (st:Stmt) (t:TS):Prop:=
 ∀(pins:List (Addr×Obj)) (s:Shared) (σ:St) (H:Hp) (D:Ends),Inv X pins σ H s→t D σ H→wpAny (model X.prog X.w) X.A (exec st X.env) (SP X pins D) X.xe s
noncomputable def PSs (X:Cx) (st:List Stmt) (t:TS):Prop:=
 ∀(pins:List (Addr×Obj)) (s:Shared) (σ:St) (H:Hp) (D:Ends),Inv X pins σ H s→t D σ H→wpAny (model X.prog X.w) X.A (execs st X.env) (SP X pins D) X.xe s
theorem thn{α:Type}{t:Sem α}{Q Q':α→Shared→Prop}{M:Model}{A:Around}{E:Value→Shared→Prop}{s:Shared}(h:wpAny M A t Q E s)(hQ:∀a s,Q a s→Q' a s):wpAny M A t Q' E s:=wpAny_mono h hQ fun _ _ x=>x
end L2
namespace L2
open PySem PySem.Spec PyProof.Rows
section
variable {X:Cx}
noncomputable def tVar (i:Nat):TE:=fun σ H Q=>∃v,σ[i]?=some (some v)∧Q v H
noncomputable def tC (v:V):TE:=fun _ H Q=>Q v H
theorem d4o{i:Nat}{x:Str}{pos:Pos}(hN:X.N[i]?=some x)(hv:Vis X.env.scope x)(hd:(x == ("__debug__":Str))=false:=by decide)(hcd:(x == ("__classdict__":Str))=false:=by decide):PE X (.Name x pos) (tVar i):=by
 intro pins s σ H Q I h
 obtain⟨v,e,h⟩:=h
 obtain⟨m,hn,hl⟩:=I.loc
 obtain⟨u,r,l⟩:=hl i x v hN e hv
 have fin:EP X pins σ Q u s:=⟨v,H,I,r,h⟩
 rcases l with⟨hk,hm⟩|⟨hk,c,hc,hcell⟩
 ·exact wpAny_Name (wpAny_loadName_local I.ok.kind hk hn hm fin) hd
 ·rcases hk with hk|hk
  ·exact wpAny_Name (wpAny_loadName_cell I.ok.kind hk hc hcell fin) hd
  ·exact wpAny_Name (wpAny_loadName_free I.ok.kind hk hc hcell fin hcd) hd
theorem a0g{i j pos}:PE X (.Constant (.int i) j pos) (tC (.int i)):=fun _ _ _ H _ I h=>wpAny_Constant_int ⟨.int i,H,I.tok _,⟨_,rfl⟩,h⟩
theorem a9y{b j pos}:PE X (.Constant (.bool b) j pos) (tC (.bl b)):=fun _ _ _ H _ I h=>Constant_bool ⟨.bl b,H,I,rfl,h⟩
theorem a1d{x j pos}:PE X (.Constant (.str x) j pos) (tC (.str x)):=fun _ _ _ H _ I h=>Calls.Constant_str ⟨.str x,H,I.tok _,⟨_,rfl⟩,h⟩
noncomputable def Gl (X:Cx) (x:Str):Prop:=X.env.kindOf x=some .globalImplicit
theorem c3a{E:Value→Shared→Prop}{pins:List (Addr×Obj)}{s:Shared}{σ:St}{H:Hp}{x:Str}{u:Value}{pos:Pos}{Q:Value→Shared→Prop}(I:Inv X pins σ H s)(hg:Gl X x)(hm:X.mg x=some u)(h:Q u s)
  (hd:(x == ("__debug__":Str))=false:=by decide):wpAny (model X.prog X.w) X.A (eval (.Name x pos) X.env) Q E s:=
 Calls.Name_function_global I.ok.kind hg (Calls.loadGlobal_global (by rw[I.ok.glob];exact I.mod.glob.keeps I.bk) hm h) hd
theorem b3o{E:Value→Shared→Prop}{pins:List (Addr×Obj)}{s:Shared}{σ:St}{H:Hp}{x:Str}{u:Value}{pos:Pos}{Q:Value→Shared→Prop}(I:Inv X pins σ H s)(hg:Gl X x)(hm:X.mg x=none)(hv:bootBuiltins x=some u)(h:Q u s)
  (hn:x≠"__name__":=by decide) (hd:(x == ("__debug__":Str))=false:=by decide):wpAny (model X.prog X.w) X.A (eval (.Name x pos) X.env) Q E s:=by
 obtain⟨mb,h1,h2⟩:=I.mod.blt
 exact Calls.Name_function_global I.ok.kind hg (Calls.loadGlobal_builtin (by rw[I.ok.glob];exact I.mod.glob.keeps I.bk) hm (by rw[I.ok.blt];exact h1.keeps I.bk) ((h2 x hn).trans hv) h) hd
theorem c3b{x:Str}{v:V}{u:Value}{pos:Pos}(hg:Gl X x)(hm:X.mg x=some u)(r:RelV v u)(hd:(x == ("__debug__":Str))=false:=by decide):PE X (.Name x pos) (tC v):=
 fun _ _ _ H _ I h=>c3a I hg hm ⟨v,H,I,r,h⟩ hd
theorem d1w{x:Str}{v:V}{u:Value}{pos:Pos}(hg:Gl X x)(hm:X.mg x=none)(hv:bootBuiltins x=some u)(r:RelV v u)(hn:x≠"__name__":=by decide)(hd:(x == ("__debug__":Str))=false:=by decide):PE X (.Name x pos) (tC v):=
 fun _ _ _ H _ I h=>b3o I hg hm hv ⟨v,H,I,r,h⟩ hn hd
variable {a b:Expr} {ta tb:TE} {pos:Pos}
noncomputable def tB (t:TE):TT:=fun σ H Q=>t σ H fun x H1=>∃c,x=.bl c∧Q c H1
variable {tA tB':TT} {rest:List Expr}
noncomputable def tAnd (t u:TT):TT:=fun σ H Q=>t σ H fun c H1=>if c=true then u σ H1 Q else Q false H1
noncomputable def tOr (t u:TT):TT:=fun σ H Q=>t σ H fun c H1=>if c=true then Q true H1 else u σ H1 Q
noncomputable def tNot (t:TT):TT:=fun σ H Q=>t σ H fun c H1=>Q (!c) H1
theorem d1x(ha:PT X a tA):PW X (.BoolOp .And [a] pos) tA:=by
 intro wh pins s σ H Q I h
 refine isTrue_and (thn (ha pins s σ H Q I h) fun c s1 e=>?_)
 cases c with
 |true=>exact isTrue_and_nil e
 |false=>exact e
theorem d4p(ha:PT X a tA):PW X (.BoolOp .Or [a] pos) tA:=by
 intro wh pins s σ H Q I h
 refine isTrue_or (thn (ha pins s σ H Q I h) fun c s1 e=>?_)
 cases c with
 |false=>exact isTrue_or_nil e
 |true=>exact e
theorem d4q(ha:PT X a tA)(hb:PW X (.BoolOp .And (b::rest) pos) tB'):PW X (.BoolOp .And (a::b::rest) pos) (tAnd tA tB'):=by
 intro wh pins s σ H Q I h
 refine isTrue_and (thn (ha pins s σ H _ I h) fun c s1 hh=>?_)
 obtain⟨H1,I1,q1⟩:=hh
 cases c with
 |true=>exact hb wh pins s1 σ H1 Q I1 q1
 |false=>exact⟨H1,I1,q1⟩
theorem d7r(ha:PT X a tA)(hb:PW X (.BoolOp .Or (b::rest) pos) tB'):PW X (.BoolOp .Or (a::b::rest) pos) (tOr tA tB'):=by
 intro wh pins s σ H Q I h
 refine isTrue_or (thn (ha pins s σ H _ I h) fun c s1 hh=>?_)
 obtain⟨H1,I1,q1⟩:=hh
 cases c with
 |true=>exact⟨H1,I1,q1⟩
 |false=>exact hb wh pins s1 σ H1 Q I1 q1
theorem d4r(ha:PT X a tA):PT X (.UnaryOp .Not a pos) (tNot tA):=by
 intro pins s σ H Q I h
 exact isTrue_not (ha pins s σ H (fun c H1=>Q (!c) H1) I h)
noncomputable def tAndV (ta tb:TE):TE:=fun σ H Q=>ta σ H fun x H1=>∃c,x=.bl c∧if c=true then tb σ H1 Q else Q (.bl false) H1
theorem d4s{op}{t:TE}(h:PE X a t):PE X (.BoolOp op [a] pos) t:=fun pins s σ H Q I hw=>BoolOp_one (h pins s σ H Q I hw)
theorem d4t(ha:PE X a ta)(hb:PE X (.BoolOp .And (b::rest) pos) tb):PE X (.BoolOp .And (a::b::rest) pos) (tAndV ta tb):=by
 intro pins s σ H Q I h
 refine BoolOp_and (thn (ha pins s σ H _ I h) fun v s1 hh=>?_)
 obtain⟨x,H1,I1,r1,q1⟩:=hh
 obtain⟨c,rfl,q1⟩:=q1
 cases r1
 refine wpAny_truthy_bool ?_
 cases c with
 |true=>exact hb pins s1 σ H1 Q I1 q1
 |false=>exact⟨.bl false,H1,I1,rfl,q1⟩
noncomputable def tIf (t:TT) (ta tb:TE):TE:=fun σ H Q=>t σ H fun c H1=>if c=true then ta σ H1 Q else tb σ H1 Q
theorem c7v{c:Expr}(hc:PT X c tA)(ha:PE X a ta)(hb:PE X b tb):PE X (.IfExp c a b pos) (tIf tA ta tb):=by
 intro pins s σ H Q I h
 refine wpAny_IfExp (thn (hc pins s σ H _ I h) fun d s1 hh=>?_)
 obtain⟨H1,I1,q1⟩:=hh
 cases d with
 |true=>exact ha pins s1 σ H1 Q I1 q1
 |false=>exact hb pins s1 σ H1 Q I1 q1
end
end L2
namespace L2
open PySem PySem.Spec PyProof.Rows
noncomputable def SqL (K:PySem.W.Frag) (H:Hp) (a:Addr) (xs:List V):Prop:=
 Rd H a (.lst xs)∨
  ∃(o:Obj) (its:Array Value) (n:Nat),K.lookup a=some o∧o.cls=.type "list"∧o.dict=none∧o.data=.seq its n∧its.size≤sizeLine∧Vals xs its.toList
noncomputable def SqT (K:PySem.W.Frag) (H:Hp) (a:Addr) (xs:List V):Prop:=
 Rd H a (.tup xs)∨
  ∃(o:Obj) (its:Array Value) (n:Nat),K.lookup a=some o∧o.cls=.type "tuple"∧o.data=.seq its n∧its.size≤sizeLine∧Vals xs its.toList
noncomputable def absV:Value→Option V
 |.none=>some .non
 |.bool b=>some (.bl b)
 |.int i _=>some (.int i)
 |.str x _=>some (.str x)
 |.bytes b _=>some (.byt b)
 |.float b _=>some (.flt b)
 |.ref a=>some (.ref a)
 |.type n=>some (.ty n)
 |_=>none
theorem RelV.abs{x:V}{u:Value}(r:RelV x u):absV u=some x:=by
 cases x with
 |non=>cases r;rfl
 |bl _=>cases r;rfl
 |int _=>obtain⟨t,rfl⟩:=r;rfl
 |str _=>obtain⟨t,rfl⟩:=r;rfl
 |byt _=>obtain⟨t,rfl⟩:=r;rfl
 |flt _=>obtain⟨t,rfl⟩:=r;rfl
 |ref _=>cases r;rfl
 |ty _=>cases r;rfl
theorem RelV.inj{x y:V}{u:Value}(r:RelV x u)(q:RelV y u):x=y:=Option.some.inj (r.abs.symm.trans q.abs)
theorem Vals.inj{xs ys:List V}{us:List Value}(h:Vals xs us)(h':Vals ys us):xs=ys:=by
 induction h generalizing ys with
 |nil=>cases h';rfl
 |cons r t ih=>
  cases h' with
  |cons r' t'=>rw[r.inj r',ih t']
section
variable {X:Cx} {pins:List (Addr×Obj)} {σ:St} {H:Hp} {s:Shared} {a:Addr} {xs ys:List V}
theorem SqL.of{K:PySem.W.Frag}(h:H a=some (.lst xs)):SqL K H a xs:=.inl (.inl h)
theorem SqT.of{K:PySem.W.Frag}(h:H a=some (.tup xs)):SqT K H a xs:=.inl (.inl h)
theorem Inv.list(I:Inv X pins σ H s)(h:SqL X.K H a xs):∃its:List Value,Vals xs its∧PlainL s.heap a its.toArray∧xs.length≤sizeLine:=by
 rcases h with h|⟨o,its,n,hk,hc,hd,hs,hz,r⟩
 ·obtain⟨z,its,n,r,e⟩:=h.ok I.hok
  exact⟨its,r,⟨_,n,e,rfl,rfl,rfl⟩,z⟩
 ·refine⟨its.toList,r,⟨o,n,I.kIn a o hk,hc,hd,by simpa using hs⟩,?_⟩
  have e:=r.length
  simp only[Array.length_toList] at e
  omega
theorem Inv.tuple(I:Inv X pins σ H s)(h:SqT X.K H a xs):∃its:List Value,Vals xs its∧IsTup s.heap a its.toArray∧xs.length≤sizeLine:=by
 rcases h with h|⟨o,its,n,hk,hc,hs,hz,r⟩
 ·obtain⟨z,its,r,p⟩:=h.ok I.hok
  exact⟨its,r,p,z⟩
 ·refine⟨its.toList,r,⟨o,I.kIn a o hk,hc,n,by simpa using hs⟩,?_⟩
  have e:=r.length
  simp only[Array.length_toList] at e
  omega
theorem Inv.list_inj(I:Inv X pins σ H s)(h:SqL X.K H a xs)(h':SqL X.K H a ys):xs=ys:=by
 obtain⟨its,r,⟨o,n,e,_,_,d⟩,_⟩:=I.list h
 obtain⟨its',r',⟨o',n',e',_,_,d'⟩,_⟩:=I.list h'
 rw[e] at e';cases e'
 rw[d] at d'
 injection d' with d1 _
 have:its=its':=by simpa using congrArg Array.toList d1
 subst this
 exact r.inj r'
theorem Inv.tuple_inj(I:Inv X pins σ H s)(h:SqT X.K H a xs)(h':SqT X.K H a ys):xs=ys:=by
 obtain⟨its,r,⟨o,e,_,n,d⟩,_⟩:=I.tuple h
 obtain⟨its',r',⟨o',e',_,n',d'⟩,_⟩:=I.tuple h'
 rw[e] at e';cases e'
 rw[d] at d'
 injection d' with d1 _
 have:its=its':=by simpa using congrArg Array.toList d1
 subst this
 exact r.inj r'
end
noncomputable abbrev Cx.wish (X:Cx) (E:Value→Shared→Prop):Cx:={ X with xe:=E}
noncomputable abbrev Cx.nox (X:Cx):Cx:=X.wish fun _ _=>False
theorem Cx.Ok.wish{X:Cx}(ok:X.Ok)(E:Value→Shared→Prop):(X.wish E).Ok:=
 ⟨ok.mod,ok.kind,ok.glob,ok.blt,ok.above,ok.inj,ok.has,ok.cab,ok.hd,ok.frames,ok.stk,ok.exf,ok.bs,ok.bsz,ok.noex,ok.exfs,ok.funs,ok.frf⟩
theorem Cx.Ok.unwish{X:Cx}{E:Value→Shared→Prop}(ok:(X.wish E).Ok):X.Ok:=
 ⟨ok.mod,ok.kind,ok.glob,ok.blt,ok.above,ok.inj,ok.has,ok.cab,ok.hd,ok.frames,ok.stk,ok.exf,ok.bs,ok.bsz,ok.noex,ok.exfs,ok.funs,ok.frf⟩
section
variable {X:Cx} {pins:List (Addr×Obj)} {σ:St} {H:Hp} {s:Shared} {E:Value→Shared→Prop}
theorem Inv.wish(I:Inv X pins σ H s)(E:Value→Shared→Prop):Inv (X.wish E) pins σ H s:=⟨I.ok.wish E,I.os,I.bare,I.base,I.loc,I.cell,I.free,I.freeC,I.pin,I.hok,I.len⟩
theorem Inv.unwish(I:Inv (X.wish E) pins σ H s):Inv X pins σ H s:=⟨I.ok.unwish,I.os,I.bare,I.base,I.loc,I.cell,I.free,I.freeC,I.pin,I.hok,I.len⟩
theorem SP.unwish{D:Ends}{f:Flow}{s':Shared}(h:SP (X.wish E) pins D f s'):SP X pins D f s':=by
 cases f with
 |next=>obtain⟨σ',H',I,q⟩:=h;exact⟨σ',H',I.unwish,q⟩
 |brk=>obtain⟨σ',H',I,q⟩:=h;exact⟨σ',H',I.unwish,q⟩
 |cont=>obtain⟨σ',H',I,q⟩:=h;exact⟨σ',H',I.unwish,q⟩
 |ret u=>obtain⟨v,σ',H',I,r,q⟩:=h;exact⟨v,σ',H',I.unwish,r,q⟩
theorem PSs.nox{st:List Stmt}{t:TS}(h:PSs X.nox st t):PSs X st t:=fun pins s σ H D I hw=>
 wpAny_mono (h pins s σ H D (I.wish _) hw) (fun _ _ q=>q.unwish) fun _ _ z=>False.elim z
end
section
variable {X:Cx} {st:Stmt} {rest:List Stmt} {t u:TS} {e:Expr} {te:TE} {pos:Pos}
noncomputable def tNext:TS:=fun D σ H=>D.nx σ H
noncomputable def tSeq (t u:TS):TS:=fun D σ H=>t { D with nx:=u D} σ H
theorem pss_nil:PSs X [] tNext:=fun _ _ σ H _ I h=>wpAny_execs_nil ⟨σ,H,I,h⟩
theorem b4j(h1:PS X st t)(h2:PSs X rest u):PSs X (st::rest) (tSeq t u):=by
 intro pins s σ H D I h
 refine wpAny_execs_cons (thn (h1 pins s σ H { D with nx:=u D} I h) fun f s1 q=>?_)
 cases f with
 |next=>
  obtain⟨σ',H',I',q⟩:=q
  exact h2 pins s1 σ' H' D I' q
 |ret v=>exact q
 |brk=>exact q
 |cont=>exact q
theorem d1y(h1:PS X st t):PSs X [st] t:=by
 intro pins s σ H D I h
 refine wpAny_execs_cons (thn (h1 pins s σ H D I h) fun f s1 q=>?_)
 cases f with
 |next=>exact wpAny_execs_nil q
 |ret v=>exact q
 |brk=>exact q
 |cont=>exact q
theorem Inv.quiet{pins:List (Addr×Obj)}{σ:St}{H:Hp}{s:Shared}(I:Inv X pins σ H s):interactive X.env=false:=by simp[interactive,I.ok.kind]
noncomputable def tDrop (te:TE):TS:=fun D σ H=>te σ H fun _ H1=>D.nx σ H1
theorem c3c(he:PE X e te)(hs:swapsWith e none pos.line X.env=pure false:=by rfl):PS X (.Expr e pos) (tDrop te):=by
 intro pins s σ H D I h
 exact wpAny_Expr_any (thn (he pins s σ H _ I h) fun v s1 ⟨x,H1,I1,r1,q1⟩=>⟨σ,H1,I1,q1⟩) I.quiet hs
noncomputable def tRet (te:TE):TS:=fun D σ H=>te σ H D.rt
theorem d4u(he:PE X e te):PS X (.Return (some e) pos) (tRet te):=by
 intro pins s σ H D I h
 exact wpAny_Return_some (thn (he pins s σ H _ I h) fun v s1 ⟨x,H1,I1,r1,q1⟩=>⟨x,σ,H1,I1,r1,q1⟩)
noncomputable def tIfS (c:TT) (t u:TS):TS:=fun D σ H=>c σ H fun b H1=>if b=true then t D σ H1 else u D σ H1
theorem d7s{c:Expr}{a b:List Stmt}{tc:TT}(hc:PT X c tc)(ha:PSs X a t)(hb:PSs X b u):PS X (.If c a b pos) (tIfS tc t u):=by
 intro pins s σ H D I h
 refine wpAny_If (thn (hc pins s σ H _ I h) fun d s1 hh=>?_)
 obtain⟨H1,I1,q1⟩:=hh
 cases d with
 |true=>exact ha pins s1 σ H1 D I1 q1
 |false=>exact hb pins s1 σ H1 D I1 q1
end
noncomputable abbrev TG:=V→St→Hp→(St→Hp→Prop)→Prop
noncomputable abbrev TGs:=List V→St→Hp→(St→Hp→Prop)→Prop
noncomputable def PG (X:Cx) (target:Expr) (t:TG):Prop:=
 ∀(pins:List (Addr×Obj)) (s:Shared) (σ:St) (H:Hp) (v:V) (u:Value) (Q:St→Hp→Prop),Inv X pins σ H s→RelV v u→t v σ H Q→
  wpAny (model X.prog X.w) X.A (assign target X.env u) (fun _ s'=>∃σ' H',Inv X pins σ' H' s'∧Q σ' H') X.xe s
noncomputable def PGs (X:Cx) (ts:List Expr) (t:TGs):Prop:=
 ∀(pins:List (Addr×Obj)) (s:Shared) (σ:St) (H:Hp) (vs:List V) (us:List Value) (Q:St→Hp→Prop),Inv X pins σ H s→Vals vs us→t vs σ H Q→
  wpAny (model X.prog X.w) X.A (assignInOrder ((assignEach ts X.env).map (·.2)) us) (fun _ s'=>∃σ' H',Inv X pins σ' H' s'∧Q σ' H') X.xe s
noncomputable abbrev TSet:=V→V→V→Hp→(Hp→Prop)→Prop
noncomputable def PSet (X:Cx) (t:TSet):Prop:=
 ∀(pins:List (Addr×Obj)) (s:Shared) (σ:St) (H:Hp) (o i v:V) (ov iv u:Value) (Q:Hp→Prop),Inv X pins σ H s→RelV o ov→RelV i iv→RelV v u→t o i v H Q→
  wpAny (model X.prog X.w) X.A (setItem ov iv u) (fun _ s'=>∃H',Inv X pins σ H' s'∧Q H') X.xe s
section
variable {X:Cx} {pos:Pos}
noncomputable def gName (i:Nat):TG:=fun v σ H Q=>Q (σ.set i (some v)) H
theorem a1b{i:Nat}{x:Str}(hN:X.N.Nodup)(hi:X.N[i]?=some x)(hx:Loc X.env.scope x)(hf:X.fn x=true∨X.env.scope.names.lookup x=some .local := by first|exact .inl rfl|exact .inr rfl|assumption):PG X (.Name x pos) (gName i):=by
 intro pins s σ H v u Q I r h
 exact wpAny_assign_Name (b9t I hN hi hx r (fun s' I'=>⟨_,H,I',h⟩) hf)
noncomputable def gNil:TGs:=fun vs σ H Q=>vs=[]∧Q σ H
noncomputable def gCons (t:TG) (u:TGs):TGs:=fun vs σ H Q=>∃v r,vs=v::r∧t v σ H fun σ' H'=>u r σ' H' Q
theorem b1o:PGs X [] gNil:=by
 intro pins s σ H vs us Q I r h
 obtain⟨e,h⟩:=h
 subst e
 cases r
 exact assignInOrder_nil ⟨σ,H,I,h⟩
theorem a2p{e:Expr}{es:List Expr}{t:TG}{u:TGs}(h1:PG X e t)(h2:PGs X es u)
  (hs:(assignEach (e::es) X.env).map (·.2)=assign e X.env::(assignEach es X.env).map (·.2):=by rfl):PGs X (e::es) (gCons t u):=by
 intro pins s σ H vs us Q I r h
 obtain⟨v,vr,e1,h⟩:=h
 subst e1
 cases r with
 |cons r rr=>
  rw[hs]
  refine assignInOrder_cons (thn (h1 pins s σ H _ _ _ I r h) fun _ s1 hh=>?_)
  obtain⟨σ1,H1,I1,q1⟩:=hh
  exact h2 pins s1 σ1 H1 _ _ Q I1 rr q1
noncomputable def gTup (K:PySem.W.Frag) (n:Nat) (t:TGs):TG:=fun v σ H Q=>∃a xs,v=.ref a∧SqT K H a xs∧xs.length=n∧t xs σ H Q
theorem b5y{es:List Expr}{k:Nat}{t:TGs}{n:Nat}(hc:X.calm=true)(h:PGs X es t)
  (hn:(assignEach es X.env).length=n:=by rfl) (hst:(assignEach es X.env).findIdx? (·.1)=none:=by rfl):PG X (.Tuple es k pos) (gTup X.K n t):=by
 intro pins s σ H v u Q I r hw
 obtain⟨a,xs,e1,hq,hl,hw⟩:=hw
 subst e1
 cases r
 obtain⟨its,rv,ht,hz⟩:=I.tuple hq
 refine assign_Tuple_tuple (I.ok.hd hc) ht (by simp[hn,←hl,rv.length]) hst fun h' hx=>?_
 have I1:Inv X pins σ H { s with heap:=h'}:=I.kept (t':=s.toks) fun b o e=>hx b o (Nat.ne_of_lt (Heap.lt_size e)) e
 exact h pins _ σ H xs _ Q I1 (by simpa using rv) hw
noncomputable def gSub (to ti:TE) (t:TSet):TG:=fun v σ H Q=>to σ H fun o H1=>ti σ H1 fun i H2=>t o i v H2 fun H3=>Q σ H3
theorem d4v{o i:Expr}{to ti:TE}{t:TSet}(ho:PE X o to)(hi:PE X i ti)(hs:PSet X t)
  (ha:∀v,assign (.Subscript o i pos) X.env v=(do
   let ov ←holding [v] (eval o X.env)
   let iv ←holding [v,ov] (eval i X.env)
   standAt pos
   holding [v,ov,iv] (setItem ov iv v)
   release [v,ov,iv] []):=by intro _;rfl):PG X (.Subscript o i pos) (gSub to ti t):=by
 intro pins s σ H v u Q I r h
 rw[ha]
 refine wpAny_bind (wpAny_holding (thn (ho pins s σ H _ I h) fun ov s1 hh=>?_))
 obtain⟨x,H1,I1,r1,q1⟩:=hh
 refine wpAny_bind (wpAny_holding (thn (hi pins s1 σ H1 _ I1 q1) fun iv s2 hh=>?_))
 obtain⟨y,H2,I2,r2,q2⟩:=hh
 refine wpAny_bind (wpAny_standAt (wpAny_bind (wpAny_holding (thn (hs pins s2 σ H2 x y v ov iv u _ I2 r1 r2 r q2) fun _ s3 hh=>?_))))
 obtain⟨H3,I3,q3⟩:=hh
 exact wpAny_release ⟨σ,H3,I3,q3⟩
noncomputable def tAsg (te:TE) (g:TG):TS:=fun D σ H=>te σ H fun x H1=>g x σ H1 D.nx
theorem d4w{tg e:Expr}{te:TE}{g:TG}(he:PE X e te)(hg:PG X tg g)(hs:swapsWithSole [tg] e pos.line X.env=pure false:=by rfl)(hw:swappedStores [tg] e X.env=pure none:=by rfl)
  (h1:(assignEach [tg] X.env).map (·.2)=[assign tg X.env]:=by rfl):PS X (.Assign [tg] e pos) (tAsg te g):=by
 intro pins s σ H D I h
 refine wpAny_Assign_stores (thn (he pins s σ H _ I h) fun v s1 hh=>?_) hs hw
 obtain⟨x,H1,I1,r1,q1⟩:=hh
 rw[h1]
 exact thn (hg pins s1 σ H1 x v _ I1 r1 q1) fun _ s2 q=>q
theorem d0m{i:Nat}{x:Str}{e:Expr}{te:TE}{pos':Pos}(hN:X.N.Nodup)(hi:X.N[i]?=some x)(hx:Loc X.env.scope x)(he:PE X e te)(hs:swapsWith e (some (.Name x pos')) pos.line X.env=pure false:=by rfl)(hf:X.fn x=true∨X.env.scope.names.lookup x=some .local := by first|exact .inl rfl|exact .inr rfl|assumption):
  PS X (.Assign [.Name x pos'] e pos) (tAsg te (gName i)):=by
 intro pins s σ H D I h
 refine wpAny_Assign_Name (thn (he pins s σ H _ I h) fun v s1 hh=>?_) hs
 obtain⟨y,H1,I1,r1,q1⟩:=hh
 exact b9t I1 hN hi hx r1 (fun s2 I2=>⟨_,H1,I2,q1⟩) hf
end
section
variable {X:Cx} {pos:Pos}
noncomputable def d4x (c:TT) (tb:TS):TS:=fun D σ H=>∃W:Nat→St→Hp→Prop,(∃m,W m σ H)∧∀m σ H,W m σ H→
 c σ H fun b H1=>if b=true then ∃N:St→Hp→Prop,(∀σ' H',N σ' H'→∃m',m' < m∧W m' σ' H')∧tb { D with nx:=N,ct:=N,bk:=D.nx} σ H1 else D.nx σ H1
theorem c7w{c:Expr}{body:List Stmt}{tc:TT}{tb:TS}(hp:PassesOwn (model X.prog X.w) X.A X.env X.xe)(hc:PT X c tc)(hb:PSs X body tb):PS X (.While c body [] pos) (d4x tc tb):=by
 intro pins s σ H D I h
 obtain⟨W,⟨m0,w0⟩,turn⟩:=h
 refine wpAny_While (codeAny_whileLoop (fun n s'=>∃σ' H',Inv X pins σ' H' s'∧W n σ' H') ?_ m0 ⟨σ,H,I,w0⟩)
 rintro n s1 ⟨σ1,H1,I1,w1⟩
 refine wpAny_passesOwn hp (thn (hc pins s1 σ1 H1 _ I1 (turn n σ1 H1 w1)) fun b s2 hh=>?_)
 obtain⟨H2,I2,q2⟩:=hh
 cases b with
 |true=>
  obtain⟨N,hN,q2⟩:=q2
  rw[if_pos rfl]
  refine wpAny_passesOwn hp (thn (hb pins s2 σ1 H2 _ I2 q2) fun f s3 q3=>?_)
  cases f with
  |next=>
   obtain⟨σ3,H3,I3,n3⟩:=q3
   obtain⟨m',hm,w3⟩:=hN σ3 H3 n3
   exact⟨m',hm,σ3,H3,I3,w3⟩
  |cont=>
   obtain⟨σ3,H3,I3,n3⟩:=q3
   obtain⟨m',hm,w3⟩:=hN σ3 H3 n3
   exact⟨m',hm,σ3,H3,I3,w3⟩
  |brk=>exact q3
  |ret v=>exact q3
 |false=>
  rw[if_neg Bool.false_ne_true]
  exact wpAny_execs_nil ⟨σ1,H2,I2,q2⟩
end
set_option genInjectivity false in
structure It where
 go:Nat→Hp→Prop
 yld:Nat→Hp→V→Hp→Prop
 stop:Nat→Hp→Prop
noncomputable def FpOk (X:Cx) (pins:List (Addr×Obj)) (H:Hp) (b:Addr):Prop:=
 H b=none∧b≠X.env.locals∧b∉X.fs∧(b∈X.ex∨X.s₀.heap.objs.size≤b)∧(∀x c,X.env.cells.lookup x=some c→c≠b)∧∀p∈X.pn++pins,p.1≠b
theorem Inv.fpOk{X:Cx}{pins:List (Addr×Obj)}{σ:St}{H H':Hp}{s:Shared}{b:Addr}(I:Inv X pins σ H s)(hb:s.heap.objs.size≤b)(hn:H' b=none):FpOk X pins H' b:=by
 refine⟨hn,Nat.ne_of_gt (Nat.lt_of_lt_of_le I.lt hb),I.nofs hb,.inr (Nat.le_trans I.sz hb),fun x c e z=>?_,fun p hp z=>?_⟩
 ·obtain⟨v,q⟩:=I.cell x c e
  exact absurd (Nat.lt_of_lt_of_le q.lt (by rw[z];exact hb)) (Nat.lt_irrefl _)
 ·exact absurd (Nat.lt_of_lt_of_le (Heap.lt_size (I.pin p hp).1) (by rw[z];exact hb)) (Nat.lt_irrefl _)
structure Turn (P:Program) (w:World) (K:PySem.W.Frag) (tg:Expr) (J:It) (fp:List Addr) (it:Addr) (tn:Nat→Heap→Prop):Prop where
 mem:it∈fp
 obj:∀i h,tn i h→∀b∈fp,∃o,h.get? b=some o∧∀v,o.data≠.cell v
 keep:∀i h h',tn i h→(∀b∈fp,∀o,h.get? b=some o→h'.get? b=some o)→tn i h'
 item:∀(X:Cx),X.prog=P→X.w=w→X.K=K→X.calm=true→∀(i:Nat) (pins:List (Addr×Obj)) (s:Shared) (σ:St) (H:Hp) (E:Value→Shared→Prop),Inv X pins σ H s→(∀b∈fp,FpOk X pins H b)→tn i s.heap→J.go i H→
  wpAny (model P w) X.A (pyNext (.ref it)) (fun r s1=>∃u,r=some u∧
   wpAny (model P w) X.A (letOwnedTupleGo tg (.ref it) u) (fun _ s2=>∃x H',Inv X pins σ H' s2∧RelV x u∧J.yld i H x H'∧tn (i+1) s2.heap∧∀b∈fp,H' b=none) E s1) E s
 done:∀(X:Cx),X.prog=P→X.w=w→X.K=K→X.calm=true→∀(i:Nat) (pins:List (Addr×Obj)) (s:Shared) (σ:St) (H:Hp) (E:Value→Shared→Prop),Inv X pins σ H s→(∀b∈fp,FpOk X pins H b)→tn i s.heap→J.stop i H→
  wpAny (model P w) X.A (pyNext (.ref it)) (fun r s1=>r=none∧Inv X pins σ H s1) E s
 self:∀(A:Around) (i:Nat) (s:Shared) (Q:Value→Shared→Prop) (E:Value→Shared→Prop),tn i s.heap→Q (.ref it) s→wpAny (model P w) A (pyIter (.ref it)) Q E s
noncomputable abbrev TI:=St→Hp→(It→Hp→Prop)→Prop
noncomputable def PIE (X:Cx) (pins:List (Addr×Obj)) (σ:St) (tg:Expr) (R:It→Hp→Prop) (itv:Value) (s2:Shared):Prop:=
 ∃(it:Addr) (fp:List Addr) (tn:Nat→Heap→Prop) (J:It) (H':Hp),itv=.ref it∧Inv X pins σ H' s2∧Turn X.prog X.w X.K tg J fp it tn∧tn 0 s2.heap∧(∀b∈fp,FpOk X pins H' b)∧R J H'
noncomputable def PI (X:Cx) (tg iter:Expr) (wi:TI):Prop:=
 ∀(pins:List (Addr×Obj)) (s:Shared) (σ:St) (H:Hp) (R:It→Hp→Prop),Inv X pins σ H s→wi σ H R→
  wpAny (model X.prog X.w) X.A (eval iter X.env) (fun v s1=>wpAny (model X.prog X.w) X.A (pyIter v) (PIE X pins σ tg R) X.xe s1) X.xe s
theorem c7x{M:Model}{A:Around}{E:Value→Shared→Prop}{s:Shared}{tg:Expr}{it:Addr}{u:Value}{o:Obj}{n:String}{vs:Array Value}{Q:Unit→Shared→Prop}(ho:s.heap.get? it=some o)(hc:o.cls=.type n)(hd:o.data=.fields vs)
  (hn:["enumerate","zip","dict_itemiterator","dict_reverseitemiterator","odict_iterator","itertools.zip_longest","itertools.pairwise"].contains n=false) (hQ:Q () s):wpAny M A (letOwnedTupleGo tg (.ref it) u) Q E s:=by
 unfold letOwnedTupleGo
 cases tg <;> first
  |exact wpAny_pure hQ
  |(cases u <;> first
    |exact wpAny_pure hQ
    |(refine wpAny_bind (wpAny_load ho ?_)
      rw[hc,hd]
      show wpAny M A (if(["enumerate","zip","dict_itemiterator","dict_reverseitemiterator","odict_iterator","itertools.zip_longest","itertools.pairwise"].contains n && vs[0]? == some (rawInt _))=true then _ else _) Q E s
      rw[if_neg (by intro h;rw[hn,Bool.false_and] at h;cases h)]
      exact wpAny_pure hQ))
noncomputable def Itl (K:PySem.W.Frag) (a:Addr):It:=
 ⟨fun i H=>∃xs x,SqL K H a xs∧xs[i]?=some x,fun i H x H'=>H'=H∧∀xs,SqL K H a xs→xs[i]?=some x,fun i H=>∃xs,SqL K H a xs∧xs.length≤i⟩
noncomputable def Itr (lo:Int) (n:Nat):It:=⟨fun i _=>i < n,fun i H x H'=>H'=H∧x=.int (lo+i),fun i _=>n≤i⟩
theorem c3d{P:Program}{w:World}{K:PySem.W.Frag}{tg:Expr}(a it:Addr):Turn P w K tg (Itl K a) [it] it (fun i h=>h.IsListIter it a i) where
 mem:=by simp
 obj:=fun i h st b hb=>by
  have e:b=it:=by simpa using hb
  subst e
  obtain⟨o,e,c,d⟩:=st
  exact⟨o,e,fun v z=>by rw[d] at z;cases z⟩
 keep:=fun i h h' st k=>st.at fun o e=>k it (by simp) o e
 item:=by
  intro X hP hw hK hc i pins s σ H E I hf st hg
  subst hP hw hK
  obtain⟨xs,x,hq,hx⟩:=hg
  obtain⟨its,rv,p,hz⟩:=I.list hq
  obtain⟨u,hu,ru⟩:=rv.get hx
  obtain⟨f0,f1,f2,f3,f4,f5⟩:=hf it (by simp)
  refine wpAny_pyNext_list_item st p.isList (x:=u) (by simpa using hu) fun h' st' sb=>?_
  have I1:Inv X pins σ H { s with heap:=h'}:=I.turned (t':=s.toks) (fun b o hb e=>(sb.2 b hb).trans e) f0 f1 f3 f4 f5
  obtain⟨o,e,c,d⟩:=id st'
  exact⟨u,rfl,c7x (s:={ s with heap:=h'}) e c d (by decide) ⟨x,H,I1,ru,⟨rfl,fun ys hy=>by rw[I.list_inj hy hq];exact hx⟩,st',fun b hb=>(hf b hb).1⟩⟩
 done:=by
  intro X hP hw hK hc i pins s σ H E I hf st hg
  subst hP hw hK
  obtain⟨xs,hq,hx⟩:=hg
  obtain⟨its,rv,p,hz⟩:=I.list hq
  obtain⟨f0,f1,f2,f3,f4,f5⟩:=hf it (by simp)
  have hl:=rv.length
  exact wpAny_pyNext_list_end (I.ok.hd hc) st p.isList (by simp;omega) fun h' eb=>⟨rfl,I.turned (t':=s.toks) (fun b o hb e=>eb b o hb e) f0 f1 f3 f4 f5⟩
 self:=fun _ _ _ _ _ st h=>wpAny_pyIter_listiter st h
theorem c1x{P:Program}{w:World}{K:PySem.W.Frag}{tg:Expr}(it:Addr)(lo:Int)(n:Nat):Turn P w K tg (Itr lo n) [it] it (fun i h=>IsRangeIter h it (lo+(i:Nat) * 1) ((n:Int) - (i:Nat)) 1) where
 mem:=by simp
 obj:=fun i h st b hb=>by
  have e:b=it:=by simpa using hb
  subst e
  exact⟨_,st,fun v z=>by
   have z':Data.fields _=Data.cell v:=z
   cases z'⟩
 keep:=fun i h h' st k=>k it (by simp) _ st
 item:=by
  intro X hP hw hK hc i pins s σ H E I hf st hg
  subst hP hw hK
  obtain⟨f0,f1,f2,f3,f4,f5⟩:=hf it (by simp)
  have W:=Walks.range (prog:=X.prog) (w:=X.w) (I.ok.hd hc) it lo 1 n
  refine W.item i s _ _ hg st fun v h' tk hv st' kk=>?_
  obtain⟨t,rfl⟩:=hv
  have I1:Inv X pins σ H { s with heap:=h',toks:=tk}:=I.turned (fun b o hb e=>kk b o (by simpa using hb) e) f0 f1 f3 f4 f5
  refine⟨_,rfl,c7x (s:={ s with heap:=h',toks:=tk}) (n:="range_iterator") st' rfl rfl (by decide) ⟨.int (lo+i),H,I1,⟨t,?_⟩,⟨rfl,rfl⟩,st',fun b hb=>(hf b hb).1⟩⟩
  rw[Int.mul_one]
 done:=by
  intro X hP hw hK hc i pins s σ H E I hf st hg
  subst hP hw hK
  obtain⟨f0,f1,f2,f3,f4,f5⟩:=hf it (by simp)
  exact wpAny_pyNext_range_end (I.ok.hd hc) st (by have:n≤i:=hg;omega) fun h' eb=>⟨rfl,I.turned (t':=s.toks) (fun b o hb e=>eb b o hb e) f0 f1 f3 f4 f5⟩
 self:=fun _ _ _ _ _ st h=>wpAny_pyIter_rangeiter st h
end L2
namespace L2
open PySem PySem.Spec PyProof.Rows
section
variable {X:Cx} {tg:Expr}
noncomputable def iList (K:PySem.W.Frag) (tl:TE):TI:=fun σ H R=>tl σ H fun x H1=>∃a,x=.ref a∧(∃xs,SqL K H1 a xs)∧R (Itl K a) H1
theorem b8i{l:Expr}{tl:TE}(hl:PE X l tl):PI X tg l (iList X.K tl):=by
 intro pins s σ H R I h
 refine thn (hl pins s σ H _ I h) fun v s1 hh=>?_
 obtain⟨x,H1,I1,r1,q1⟩:=hh
 obtain⟨a,e,⟨xs,hq⟩,q⟩:=q1
 subst e
 cases r1
 obtain⟨its,rv,p,hz⟩:=I1.list hq
 refine wpAny_pyIter_list p.isList ?_
 refine⟨s1.heap.objs.size,[s1.heap.objs.size],_,_,H1,rfl,I1.kept (t':=s1.toks) fun b o e=>Heap.get?_push_of_some _ e,c3d a _,⟨_,Heap.get?_push_size _ rfl,rfl,rfl⟩,fun b hb=>?_,q⟩
 have e:b=s1.heap.objs.size:=by simpa using hb
 subst e
 exact I1.fpOk (Nat.le_refl _) (I1.hok.fresh (Nat.le_refl _))
theorem c7y{pins:List (Addr×Obj)}{σ:St}{H:Hp}{s:Shared}{R:It→Hp→Prop}{E:Value→Shared→Prop}{lo hi:Int}{t u v:Tok}{tk:Nat}(I:Inv X pins σ H s)(h1:-(2 ^ 62)≤lo)(h2:lo < 2 ^ 62)(h3:-(2 ^ 62)≤hi)(h4:hi < 2 ^ 62)
  (q:R (Itr lo (hi - lo).toNat) H):wpAny (model X.prog X.w) X.A (pyIter (.ref s.heap.objs.size)) (PIE X pins σ tg R) E { s with heap:=s.heap.push { cls:=.type "range",data:=.fields #[.int lo t,.int hi u,.int 1 v]},toks:=tk}:=by
 refine wpAny_pyIter_range (IsRange.new ..) (small_one h1 h2 h3 h4) ?_
 have I1:Inv X pins σ H { s with heap:=s.heap.push { cls:=.type "range",data:=.fields #[.int lo t,.int hi u,.int 1 v]},toks:=tk}:=I.kept fun b o e=>Heap.get?_push_of_some _ e
 refine⟨(s.heap.push { cls:=.type "range",data:=.fields #[.int lo t,.int hi u,.int 1 v]}).objs.size,[(s.heap.push { cls:=.type "range",data:=.fields #[.int lo t,.int hi u,.int 1 v]}).objs.size],_,_,H,rfl,
  I1.kept (t':=tk) fun b o e=>Heap.get?_push_of_some _ e,c1x _ lo (hi - lo).toNat,?_,fun b hb=>?_,q⟩
 ·have e1:lo+((0:Nat):Int) * 1=lo:=by simp
  have e2:(((hi - lo).toNat:Nat):Int) - ((0:Nat):Int)=Builtin.Range.rangeSize lo hi 1:=by rw[rangeSize_one];split <;> omega
  show IsRangeIter _ _ (lo+((0:Nat):Int) * 1) ((((hi - lo).toNat:Nat):Int) - ((0:Nat):Int)) 1
  rw[e1,e2]
  exact Heap.get?_push_size _ rfl
 ·have e:b=(s.heap.push { cls:=.type "range",data:=.fields #[.int lo t,.int hi u,.int 1 v]}).objs.size:=by simpa using hb
  subst e
  exact I1.fpOk (Nat.le_refl _) (I1.hok.fresh (Nat.le_refl _))
noncomputable def iRng1 (ta:TA):TI:=fun σ H R=>ta σ H fun vs H1=>∃j:Int,vs=[.int j] ∧ -(2 ^ 62)≤j∧j < 2 ^ 62∧R (Itr 0 j.toNat) H1
theorem b5z{a:Expr}{ta:TA}{p pos:Pos}(hg:Gl X "range")(hm:X.mg "range"=none)(ha:PA X [a] ta)(hs:starEach [a] X.env=[(false,eval a X.env)]:=by rfl):PI X tg (.Call (.Name "range" p) [a] [] pos) (iRng1 ta):=by
 intro pins s σ H R I h
 refine Call_ (b3o I hg hm boot_range (PyProof.Rows.callWith_type1 (thn (ha pos pins s σ H _ I h) fun us s1 hh=>?_) hs rfl))
 obtain⟨vs,H1,I1,r1,q1⟩:=hh
 obtain⟨j,e,q1,q2,q⟩:=q1
 subst e
 cases r1 with
 |cons r rr=>
  cases rr
  obtain⟨t,rfl⟩:=r
  exact call_range_1 (c7y I1 (by omega) (by omega) q1 q2 (by simpa using q))
noncomputable def tFor (wi:TI) (g:TG) (tb:TS):TS:=fun D σ H=>wi σ H fun J H1=>∃W:Nat→Nat→St→Hp→Prop,(∃m,W 0 m σ H1)∧∀i m σ H,W i m σ H→
 (J.stop i H∧D.nx σ H)∨(J.go i H∧∃N:St→Hp→Prop,(∀σ' H',N σ' H'→∃m',m' < m∧W (i+1) m' σ' H')∧∀x H',J.yld i H x H'→g x σ H' fun σ2 H2=>tb { D with nx:=N,ct:=N,bk:=D.nx} σ2 H2)
noncomputable def b6a (fp:List Addr) (h:Heap):List (Addr×Obj):=fp.filterMap fun b=>(h.get? b).map fun o=>(b,o)
theorem a8a{fp:List Addr}{h:Heap}{b:Addr}{o:Obj}(hb:b∈fp)(e:h.get? b=some o):(b,o)∈b6a fp h:=List.mem_filterMap.mpr ⟨b,hb,by rw[e];rfl⟩
theorem c3e{fp:List Addr}{h:Heap}{p:Addr×Obj}(hp:p∈b6a fp h):p.1∈fp∧h.get? p.1=some p.2:=by
 obtain⟨b,hb,e⟩:=List.mem_filterMap.mp hp
 cases q:h.get? b with
 |none=>rw[q] at e;cases e
 |some o=>
  rw[q] at e
  have e':(b,o)=p:=Option.some.inj e
  subst e'
  exact⟨hb,q⟩
theorem Inv.pinned{pins:List (Addr×Obj)}{σ:St}{H:Hp}{s:Shared}{fp:List Addr}(I:Inv X pins σ H s)(hf:∀b∈fp,FpOk X pins H b)(ho:∀b∈fp,∃o,s.heap.get? b=some o∧∀v,o.data≠.cell v):Inv X (pins++b6a fp s.heap) σ H s:=
 I.pins_of fun p hp=>(List.mem_append.mp hp).elim (fun z=>I.pin p (List.mem_append_right _ z)) fun z=>by
  obtain⟨hb,e⟩:=c3e z
  obtain⟨f0,f1,f2,_⟩:=hf p.1 hb
  obtain⟨o,e',d⟩:=ho p.1 hb
  rw[e] at e';cases e'
  exact⟨e,f0,f1,f2,d⟩
theorem Inv.unpinned{pins pl:List (Addr×Obj)}{σ:St}{H:Hp}{s:Shared}(I:Inv X (pins++pl) σ H s):Inv X pins σ H s:=I.pins_of fun p hp=>I.pin p (List.mem_append_right _ (List.mem_append_left _ hp))
theorem b9u{iter:Expr}{body:List Stmt}{wi:TI}{g:TG}{tb:TS}{pos:Pos}(hp:PassesOwn (model X.prog X.w) X.A X.env X.xe)(hc:X.calm=true)(hi:PI X tg iter wi)(hg:PG X tg g)(hb:PSs X body tb)
  (hs:∀x,foldedSetIterable iter X.env x=pure x:=by intro _;rfl):PS X (.For tg iter body [] pos) (tFor wi g tb):=by
 intro pins s σ H D I h
 refine wpAny_For (thn (hi pins s σ H _ I h) fun v s1 h1=>thn h1 fun itv s2 h2=>?_) hs
 obtain⟨it,fp,tn,J,H2,e,I2,T,st2,f2,W,⟨m0,w0⟩,turn⟩:=h2
 subst e
 have stat:∀{H':Hp},(∀b∈fp,H' b=none)→∀b∈fp,FpOk X pins H' b:=fun hn b hb=>⟨hn b hb,(f2 b hb).2⟩
 refine codeAny_forLoop_any (fun n s'=>∃i σ' H',Inv X pins σ' H' s'∧tn i s'.heap∧(∀b∈fp,H' b=none)∧W i n σ' H') ?_ m0 ⟨0,σ,H2,I2,st2,fun b hb=>(f2 b hb).1,w0⟩
 rintro n s3 ⟨i,σ3,H3,I3,st3,fr3,w3⟩
 rcases turn i n σ3 H3 w3 with⟨stop,qn⟩|⟨go,N,hN,step⟩
 ·refine wpAny_passesOwn hp (thn (T.done X rfl rfl rfl hc i pins s3 σ3 H3 X.xe I3 (stat fr3) st3 stop) fun r s4 ⟨hr,I4⟩=>?_)
  subst hr
  exact wpAny_execs_nil ⟨σ3,H3,I4,qn⟩
 ·refine wpAny_passesOwn hp (thn (T.item X rfl rfl rfl hc i pins s3 σ3 H3 X.xe I3 (stat fr3) st3 go) fun r s4 ⟨u,hr,h4⟩=>?_)
  subst hr
  refine wpAny_passesOwn hp (thn h4 fun _ s5 hh=>?_)
  obtain⟨x,H5,I5,r5,y5,st5,fr5⟩:=hh
  have I5':=I5.pinned (stat fr5) (T.obj _ _ st5)
  refine wpAny_passesOwn hp (thn (hg _ s5 σ3 H5 x u _ I5' r5 (step x H5 y5)) fun _ s6 hh=>?_)
  obtain⟨σ6,H6,I6,q6⟩:=hh
  refine wpAny_passesOwn hp (thn (hb _ s6 σ6 H6 _ I6 q6) fun f s7 q7=>?_)
  have again:∀{σ7:St} {H7:Hp},Inv X (pins++b6a fp s5.heap) σ7 H7 s7→N σ7 H7→∃m,m < n∧∃i σ' H',Inv X pins σ' H' s7∧tn i s7.heap∧(∀b∈fp,H' b=none)∧W i m σ' H':=fun{σ7 H7} I7 n7=>by
   obtain⟨m',hm,w7⟩:=hN σ7 H7 n7
   refine⟨m',hm,i+1,σ7,H7,I7.unpinned,T.keep _ _ _ st5 fun b hb o e=>(I7.pin (b,o) (List.mem_append_right _ (List.mem_append_right _ (a8a hb e)))).1,fun b hb=>?_,w7⟩
   obtain⟨o,e,d⟩:=T.obj _ _ st5 b hb
   exact(I7.pin (b,o) (List.mem_append_right _ (List.mem_append_right _ (a8a hb e)))).2.1
  cases f with
  |next=>obtain⟨σ7,H7,I7,n7⟩:=q7;exact again I7 n7
  |cont=>obtain⟨σ7,H7,I7,n7⟩:=q7;exact again I7 n7
  |brk=>obtain⟨σ7,H7,I7,q7⟩:=q7;exact⟨σ7,H7,I7.unpinned,q7⟩
  |ret v=>obtain⟨x7,σ7,H7,I7,r7,q7⟩:=q7;exact⟨x7,σ7,H7,I7.unpinned,r7,q7⟩
end
theorem c7z{K:PySem.W.Frag}{a:Addr}{xs:List V}{g:TG}{tb:TS}{D:Ends}{σ:St}{H:Hp}(Pv:Nat→St→Hp→Prop)(h0:Pv 0 σ H)(hl:∀i σ H,i≤xs.length→Pv i σ H→SqL K H a xs)
  (hs:∀i x σ H,xs[i]?=some x→Pv i σ H→g x σ H fun σ2 H2=>tb { D with nx:=Pv (i+1),ct:=Pv (i+1),bk:=D.nx} σ2 H2) (hd:∀σ H,Pv xs.length σ H→D.nx σ H) :
  ∃W:Nat→Nat→St→Hp→Prop,(∃m,W 0 m σ H)∧∀i m σ H,W i m σ H→
   ((Itl K a).stop i H∧D.nx σ H)∨((Itl K a).go i H∧∃N:St→Hp→Prop,(∀σ' H',N σ' H'→∃m',m' < m∧W (i+1) m' σ' H')∧∀x H',(Itl K a).yld i H x H'→g x σ H' fun σ2 H2=>tb { D with nx:=N,ct:=N,bk:=D.nx} σ2 H2):=by
 refine⟨fun i m σ H=>m=xs.length - i∧i≤xs.length∧Pv i σ H,⟨xs.length,by simp,Nat.zero_le _,h0⟩,?_⟩
 rintro i m σ H ⟨rfl,hi,p⟩
 have q:=hl i σ H hi p
 by_cases hlt:i < xs.length
 ·refine .inr ⟨⟨xs,xs[i],q,by simp[hlt]⟩,Pv (i+1),fun σ' H' p'=>⟨xs.length - (i+1),by omega,rfl,hlt,p'⟩,fun x H' y=>?_⟩
  obtain⟨e,y⟩:=y
  subst e
  exact hs i x σ _ (y xs q) p
 ·have e:i=xs.length:=by omega
  subst e
  exact .inl ⟨⟨xs,q,Nat.le_refl _⟩,hd σ H p⟩
theorem c3f{lo:Int}{n:Nat}{g:TG}{tb:TS}{D:Ends}{σ:St}{H:Hp}(Pv:Nat→St→Hp→Prop)(h0:Pv 0 σ H)
  (hs:∀i σ H,i < n→Pv i σ H→g (.int (lo+i)) σ H fun σ2 H2=>tb { D with nx:=Pv (i+1),ct:=Pv (i+1),bk:=D.nx} σ2 H2) (hd:∀σ H,Pv n σ H→D.nx σ H) :
  ∃W:Nat→Nat→St→Hp→Prop,(∃m,W 0 m σ H)∧∀i m σ H,W i m σ H→
   ((Itr lo n).stop i H∧D.nx σ H)∨((Itr lo n).go i H∧∃N:St→Hp→Prop,(∀σ' H',N σ' H'→∃m',m' < m∧W (i+1) m' σ' H')∧∀x H',(Itr lo n).yld i H x H'→g x σ H' fun σ2 H2=>tb { D with nx:=N,ct:=N,bk:=D.nx} σ2 H2):=by
 refine⟨fun i m σ H=>m=n - i∧i≤n∧Pv i σ H,⟨n,by simp,Nat.zero_le _,h0⟩,?_⟩
 rintro i m σ H ⟨rfl,hi,p⟩
 by_cases hlt:i < n
 ·refine .inr ⟨hlt,Pv (i+1),fun σ' H' p'=>⟨n - (i+1),by omega,rfl,hlt,p'⟩,fun x H' y=>?_⟩
  obtain⟨e,y⟩:=y
  subst e y
  exact hs i σ _ hlt p
 ·have e:i=n:=by omega
  subst e
  exact .inl ⟨Nat.le_refl _,hd σ H p⟩
end L2
namespace L2
open PySem PySem.Spec PyProof.Rows
noncomputable abbrev R2:=V→V→Hp→VK→Prop
noncomputable def OpR (X:Cx) (f:Value→Value→Sem Value) (r:R2):Prop:=
 ∀(pins:List (Addr×Obj)) (s:Shared) (σ:St) (H:Hp) (x y:V) (v u:Value) (Q:VK),Inv X pins σ H s→RelV x v→RelV y u→r x y H Q→
  wpAny (model X.prog X.w) X.A (f v u) (EP X pins σ Q) X.xe s
noncomputable def UnR (X:Cx) (f:Value→Sem Value) (r:V→Hp→VK→Prop):Prop:=
 ∀(pins:List (Addr×Obj)) (s:Shared) (σ:St) (H:Hp) (x:V) (v:Value) (Q:VK),Inv X pins σ H s→RelV x v→r x H Q→
  wpAny (model X.prog X.w) X.A (f v) (EP X pins σ Q) X.xe s
noncomputable def CallR (X:Cx) (f:Value) (r:List V→Hp→VK→Prop):Prop:=
 ∀(pins:List (Addr×Obj)) (s:Shared) (σ:St) (H:Hp) (xs:List V) (us:List Value) (Q:VK),Inv X pins σ H s→Vals xs us→r xs H Q→
  wpAny (model X.prog X.w) X.A (call f us) (EP X pins σ Q) X.xe s
noncomputable def TruR (X:Cx) (r:V→Hp→(Bool→Hp→Prop)→Prop):Prop:=
 ∀(pins:List (Addr×Obj)) (s:Shared) (σ:St) (H:Hp) (x:V) (v:Value) (Q:Bool→Hp→Prop),Inv X pins σ H s→RelV x v→r x H Q→
  wpAny (model X.prog X.w) X.A (truthy v) (TP X pins σ Q) X.xe s
noncomputable def tOp (r:R2) (ta tb:TE):TE:=fun σ H Q=>ta σ H fun x H1=>tb σ H1 fun y H2=>r x y H2 Q
noncomputable def tUn (r:V→Hp→VK→Prop) (ta:TE):TE:=fun σ H Q=>ta σ H fun x H1=>r x H1 Q
noncomputable def rI (C:Int→Int→Prop) (g:Int→Int→V):R2:=fun x y H Q=>∃i j,x=.int i∧y=.int j∧C i j∧Q (g i j) H
noncomputable def rI0 (g:Int→Int→V):R2:=fun x y H Q=>∃i j,x=.int i∧y=.int j∧Q (g i j) H
noncomputable def rU (g:Int→V):V→Hp→VK→Prop:=fun x H Q=>∃i,x=.int i∧Q (g i) H
section
variable {X:Cx} {a b c:Expr} {ta tb tc:TE} {pos:Pos}
theorem binT(ha:PE X a ta)(hb:PE X b tb){pins:List (Addr×Obj)}{s:Shared}{σ:St}{H:Hp}{R:V→V→Hp→Prop}(I:Inv X pins σ H s)
  (h:ta σ H fun x H1=>tb σ H1 fun y H2=>R x y H2) {Q:Value→Shared→Prop} {f:Value→Value→Sem Value}
  (hf:∀v u s2 x y H2,Inv X pins σ H2 s2→RelV x v→RelV y u→R x y H2→wpAny (model X.prog X.w) X.A (f v u) Q X.xe s2) :
  wpAny (model X.prog X.w) X.A (eval a X.env) (fun v s₁=>wpAny (model X.prog X.w) X.A (eval b X.env) (fun u s₂=>wpAny (model X.prog X.w) X.A (f v u) Q X.xe s₂) X.xe s₁) X.xe s:=by
 refine thn (ha pins s σ H _ I h) fun v s1 hh=>?_
 obtain⟨x,H1,I1,r1,q1⟩:=hh
 refine thn (hb pins s1 σ H1 _ I1 q1) fun u s2 hh=>?_
 obtain⟨y,H2,I2,r2,q2⟩:=hh
 exact hf v u s2 x y H2 I2 r1 r2 q2
theorem d7t{op:Operator}{r:R2}(ho:OpR X (binaryOp op) r)(ha:PE X a ta)(hb:PE X b tb):PE X (.BinOp a op b pos) (tOp r ta tb):=by
 intro pins s σ H Q I h
 exact wpAny_BinOp (binT ha hb I h fun v u s2 x y H2 I2 rx ry q=>ho pins s2 σ H2 x y v u Q I2 rx ry q)
theorem d7u{op:UnaryOp}{r:V→Hp→VK→Prop}(ho:UnR X (unaryOp op) r)(ha:PE X a ta):PE X (.UnaryOp op a pos) (tUn r ta):=by
 intro pins s σ H Q I h
 exact UnaryOp_ (thn (ha pins s σ H _ I h) fun v s1 ⟨x,H1,I1,r1,q1⟩=>ho pins s1 σ H1 x v Q I1 r1 q1)
theorem opI{f:Value→Value→Sem Value}{C:Int→Int→Prop}{g:Int→Int→Int}
  (rule:∀(i j:Int) (t u:Tok) (s:Shared) (Q:Value→Shared→Prop) (E:Value→Shared→Prop),C i j→Q (.int (g i j) s.toks) { s with toks:=s.toks+1}→wpAny (model X.prog X.w) X.A (f (.int i t) (.int j u)) Q E s) :
  OpR X f (rI C fun i j=>.int (g i j)):=by
 intro pins s σ H x y v u Q I rx ry h
 obtain⟨i,j,rfl,rfl,hc,q⟩:=h
 obtain⟨t,rfl⟩:=rx
 obtain⟨t',rfl⟩:=ry
 exact rule i j t t' s _ _ hc ⟨.int (g i j),H,I.tok _,⟨_,rfl⟩,q⟩
theorem opI0{f:Value→Value→Sem Value}{g:Int→Int→Int}
  (rule:∀(i j:Int) (t u:Tok) (s:Shared) (Q:Value→Shared→Prop) (E:Value→Shared→Prop),Q (.int (g i j) s.toks) { s with toks:=s.toks+1}→wpAny (model X.prog X.w) X.A (f (.int i t) (.int j u)) Q E s) :
  OpR X f (rI0 fun i j=>.int (g i j)):=by
 intro pins s σ H x y v u Q I rx ry h
 obtain⟨i,j,rfl,rfl,q⟩:=h
 obtain⟨t,rfl⟩:=rx
 obtain⟨t',rfl⟩:=ry
 exact rule i j t t' s _ _ ⟨.int (g i j),H,I.tok _,⟨_,rfl⟩,q⟩
theorem opB0{f:Value→Value→Sem Value}{g:Int→Int→Bool}
  (rule:∀(i j:Int) (t u:Tok) (s:Shared) (Q:Value→Shared→Prop) (E:Value→Shared→Prop),Q (.bool (g i j)) s→wpAny (model X.prog X.w) X.A (f (.int i t) (.int j u)) Q E s) :
  OpR X f (rI0 fun i j=>.bl (g i j)):=by
 intro pins s σ H x y v u Q I rx ry h
 obtain⟨i,j,rfl,rfl,q⟩:=h
 obtain⟨t,rfl⟩:=rx
 obtain⟨t',rfl⟩:=ry
 exact rule i j t t' s _ _ ⟨.bl (g i j),H,I,rfl,q⟩
noncomputable def CDiv (i j:Int):Prop:=0 < j∧j < 1073741824
noncomputable def CMul (i j:Int):Prop:=(-(2 ^ 64) < i∧i < 2 ^ 64)∨(-(2 ^ 64) < j∧j < 2 ^ 64)
theorem CMul.ok{i j:Int}(h:CMul i j):IntMulOk i j:=by
 rcases h with⟨h1,h2⟩|⟨h1,h2⟩
 ·exact .of_left (intBits_le_64 h1 h2)
 ·exact .of_right (intBits_le_64 h1 h2)
theorem op_add:OpR X (binaryOp .Add) (rI0 fun i j=>.int (i+j)):=opI0 fun _ _ _ _ _ _ _ q=>add_int q
theorem c3g:OpR X (binaryOp .Sub) (rI0 fun i j=>.int (i - j)):=opI0 fun _ _ _ _ _ _ _ q=>sub_int q
theorem op_mul:OpR X (binaryOp .Mult) (rI CMul fun i j=>.int (i * j)):=opI fun _ _ _ _ _ _ _ hc q=>mul_int q hc.ok
theorem b8j:OpR X (binaryOp .FloorDiv) (rI CDiv fun i j=>.int (i / j)):=opI fun i j _ _ _ _ _ hc q=>by
 have h1:(0:Int) < j:=hc.1
 have h2:j < 1073741824:=hc.2
 exact floordiv_int (by omega) (by rw[Int.fdiv_eq_ediv_of_nonneg i (by omega)];exact q) (.inl (PyProof.noPylong_small (by omega)))
theorem a8k:OpR X (binaryOp .Mod) (rI (fun _ j=>0 < j) fun i j=>.int (i % j)):=opI fun i j _ _ _ _ _ hc q=>by
 have h1:(0:Int) < j:=hc
 exact mod_int' (by omega) (by rw[Int.fmod_eq_emod_of_nonneg i (by omega)];exact q)
theorem unI{f:Value→Sem Value}{g:Int→Int}
  (rule:∀(i:Int) (t:Tok) (s:Shared) (Q:Value→Shared→Prop) (E:Value→Shared→Prop),Q (.int (g i) s.toks) { s with toks:=s.toks+1}→wpAny (model X.prog X.w) X.A (f (.int i t)) Q E s) :
  UnR X f (rU fun i=>.int (g i)):=by
 intro pins s σ H x v Q I rx h
 obtain⟨i,rfl,q⟩:=h
 obtain⟨t,rfl⟩:=rx
 exact rule i t s _ _ ⟨.int (g i),H,I.tok _,⟨_,rfl⟩,q⟩
theorem d0n:UnR X (unaryOp .USub) (rU fun i=>.int (-i)):=unI fun _ _ _ _ _ q=>neg_int q
end
theorem d1z{i j:Int}:decide (V.int i=V.int j)=(i == j):=by
 rw[Bool.eq_iff_iff]
 simp
section
variable {X:Cx} {a b c:Expr} {ta tb tc:TE} {pos:Pos}
theorem b9v{pins:List (Addr×Obj)}{σ:St}{H:Hp}{s:Shared}{Q:VK}{k k':Bool}(I:Inv X pins σ H s)(q:Q (.bl k) H)(e:k=k'):EP X pins σ Q (.bool k') s:=by
 subst e
 exact⟨.bl k,H,I,rfl,q⟩
theorem d2a:OpR X (compareOp .Lt) (rI0 fun i j=>.bl (decide (i < j))):=opB0 fun _ _ _ _ _ _ _ q=>lt_int q
theorem c8a:OpR X (compareOp .LtE) (rI0 fun i j=>.bl (decide (i≤j))):=opB0 fun _ _ _ _ _ _ _ q=>le_int q
theorem d4y:OpR X (compareOp .Gt) (rI0 fun i j=>.bl (decide (j < i))):=opB0 fun _ _ _ _ _ _ _ q=>gt_int q
theorem c3h:OpR X (compareOp .In) (fun x y H Q=>∃i j,x=.str i∧y=.str j∧Q (.bl (!(Builtin.Str.occurrences j i 0 j.length 1).isEmpty)) H):=by
 intro pins s σ H x y v u Q I rx ry h
 obtain⟨i,j,rfl,rfl,q⟩:=h
 obtain⟨t,rfl⟩:=rx
 obtain⟨t',rfl⟩:=ry
 exact in_str (b9v I q rfl)
theorem b6b:OpR X (compareOp .NotIn) (fun x y H Q=>∃i j,x=.str i∧y=.str j∧Q (.bl (!(!(Builtin.Str.occurrences j i 0 j.length 1).isEmpty))) H):=by
 intro pins s σ H x y v u Q I rx ry h
 obtain⟨i,j,rfl,rfl,q⟩:=h
 obtain⟨t,rfl⟩:=rx
 obtain⟨t',rfl⟩:=ry
 exact notIn_str (b9v I q rfl)
theorem OpR.or{f:Value→Value→Sem Value}{r r':R2}(h:OpR X f r)(h':OpR X f r'):OpR X f (fun x y H Q=>r x y H Q∨r' x y H Q):=by
 intro pins s σ H x y v u Q I rx ry q
 rcases q with q|q
 ·exact h pins s σ H x y v u Q I rx ry q
 ·exact h' pins s σ H x y v u Q I rx ry q
theorem d0o(b:Expr){op:CmpOp}(h:op≠.In:=by decide)(h2:op≠.NotIn:=by decide):behindInMarks op b=false:=by
 have e1:(op == CmpOp.In)=false:=by cases op <;> first|rfl|exact absurd rfl h
 have e2:(op == CmpOp.NotIn)=false:=by cases op <;> first|rfl|exact absurd rfl h2
 cases b <;> simp[behindInMarks,e1,e2]
theorem d2b{op:CmpOp}{r:R2}(ho:OpR X (compareOp op) r)(ha:PE X a ta)(hb:PE X b tb)(hm:behindInMarks op b=false):PE X (.Compare a [op] [b] pos) (tOp r ta tb):=by
 intro pins s σ H Q I h
 exact wpAny_Compare1 (binT ha hb I h fun v u s2 x y H2 I2 rx ry q=>ho pins s2 σ H2 x y v u Q I2 rx ry q) hm
noncomputable def tTest (t:TE):TT:=fun σ H Q=>t σ H fun x H'=>∃k,x=.bl k∧Q k H'
theorem d2c{op:CmpOp}{r:R2}(ho:OpR X (compareOp op) r)(ha:PE X a ta)(hb:PE X b tb)(hm:behindInMarks op b=false):PT X (.Compare a [op] [b] pos) (tTest (tOp r ta tb)):=by
 intro pins s σ H Q I h
 refine wpAny_isTrue_Compare1 (thn (ha pins s σ H _ I h) fun v s1 ⟨x,H1,I1,r1,q1⟩=>thn (hb pins s1 σ H1 _ I1 q1) fun u s2 ⟨y,H2,I2,r2,q2⟩=>
  thn (ho pins s2 σ H2 x y v u _ I2 r1 r2 q2) fun c s3 ⟨z,H3,I3,r3,k,e,q3⟩=>?_) hm
 subst e
 cases r3
 exact wpAny_truthy_bool ⟨H3,I3,q3⟩
noncomputable def d4z (r r':R2) (ta tb tc:TE):TE:=fun σ H Q=>ta σ H fun x H1=>tb σ H1 fun y H2=>r x y H2 fun z H3=>∃k,z=.bl k∧
 (if k=true then tc σ H3 fun w' H4=>r' y w' H4 Q else Q (.bl false) H3)
theorem c8b{op op':CmpOp}{r r':R2}(ho:OpR X (compareOp op) r)(ho':OpR X (compareOp op') r')(ha:PE X a ta)(hb:PE X b tb)(hc:PE X c tc)
  (hm:lastMarks [op,op'] [b,c]=false:=by with_unfolding_all rfl):PT X (.Compare a [op,op'] [b,c] pos) (tTest (d4z r r' ta tb tc)):=by
 intro pins s σ H Q I h
 refine isTrue_chain (thn (ha pins s σ H _ I h) fun v s1 ⟨x,H1,I1,r1,q1⟩=>test_link (thn (hb pins s1 σ H1 _ I1 q1) fun u s2 ⟨y,H2,I2,r2,q2⟩=>
  thn (ho pins s2 σ H2 x y v u _ I2 r1 r2 q2) fun d s3 ⟨z,H3,I3,r3,k,e,q3⟩=>?_)) hm
 subst e
 cases r3
 refine wpAny_truthy_bool ?_
 cases k with
 |false=>
  obtain⟨k',e',q'⟩:=q3
  cases e'
  exact ite_ff ⟨H3,I3,q'⟩
 |true=>
  refine ite_tt (test_last (thn (hc pins s3 σ H3 _ I3 q3) fun w' s4 ⟨z',H4,I4,r4,q4⟩=>thn (ho' pins s4 σ H4 y z' u w' _ I4 r2 r4 q4) fun d' s5 ⟨z2,H5,I5,r5,k2,e2,q5⟩=>?_))
  subst e2
  cases r5
  exact wpAny_truthy_bool ⟨H5,I5,q5⟩
noncomputable def TruV (K:PySem.W.Frag) (x:V) (H:Hp) (k:Bool):Prop:=
 match x with
 |.non=>k=false
 |.bl b=>k=b
 |.int i=>k=(i != 0)
 |.str y=>y.length≤sizeLine∧k=((y.length:Int) != 0)
 |.byt y=>y.size≤sizeLine∧k=((y.size:Int) != 0)
 |.ref p=>(∃xs,SqL K H p xs∧k = !xs.isEmpty)∨(∃xs,SqT K H p xs∧k = !xs.isEmpty)∨∃kvs,H p=some (.dK kvs)∧k = !kvs.isEmpty
 |_=>False
theorem c1y{κ:Type}{kvs:List (κ×V)}{vs:List (κ×Value)}(r:KV kvs vs):(!vs.isEmpty) = !kvs.isEmpty:=by
 cases r <;> rfl
theorem b3p{xs:List V}{its:List Value}(r:Vals xs its):(!its.toArray.isEmpty) = !xs.isEmpty:=by
 cases r <;> simp
theorem b1p:(sizeLine:Nat) < 2 ^ 63:=by rw[sizeLine_eq];decide
theorem d5a:TruR X (fun x H Q=>∃k,TruV X.K x H k∧Q k H):=by
 intro pins s σ H x v Q I rx h
 obtain⟨k,e,q⟩:=h
 have hl:=b1p
 have hs:sizeLine=16777216:=sizeLine_eq
 cases x with
 |non=>
  cases rx
  have e':k=false:=e
  subst e'
  exact truthy_none ⟨H,I,q⟩
 |bl b=>
  cases rx
  have e':k=b:=e
  subst e'
  exact wpAny_truthy_bool ⟨H,I,q⟩
 |int i=>
  obtain⟨t,rfl⟩:=rx
  have e':k=(i != 0):=e
  subst e'
  exact PySem.P.truthy_int ⟨H,I,q⟩
 |str y=>
  obtain⟨t,rfl⟩:=rx
  obtain⟨hy,e'⟩:y.length≤sizeLine∧k=((y.length:Int) != 0):=e
  subst e'
  exact PySem.P.truthy_str (by omega) ⟨H,I.tok _,q⟩
 |byt y=>
  obtain⟨t,rfl⟩:=rx
  obtain⟨hy,e'⟩:y.size≤sizeLine∧k=((y.size:Int) != 0):=e
  subst e'
  exact PySem.W.truthy_bytes (by omega) ⟨H,I.tok _,q⟩
 |ref p=>
  cases rx
  have e':(∃xs,SqL X.K H p xs∧k = !xs.isEmpty)∨(∃xs,SqT X.K H p xs∧k = !xs.isEmpty)∨∃kvs,H p=some (.dK kvs)∧k = !kvs.isEmpty:=e
  rcases e' with⟨xs,hx,e'⟩|⟨xs,hx,e'⟩|⟨kvs,hx,e'⟩
  ·subst e'
   obtain⟨its,r,pl,hz⟩:=I.list hx
   have hlen:=r.length
   exact wpAny_truthy_list pl.isList (by simp only[List.size_toArray];omega) ⟨H,I.tok _,by rw[b3p r];exact q⟩
  ·subst e'
   obtain⟨its,r,pl,hz⟩:=I.tuple hx
   have hlen:=r.length
   exact truthy_tuple pl (by simp only[List.size_toArray];omega) ⟨H,I.tok _,by rw[b3p r];exact q⟩
  ·subst e'
   obtain⟨hz,hS,vs,r,m⟩:kvs.length≤sizeLine∧(p == sysModules)=false∧∃vs,KV kvs vs∧s.heap.DictOf (b8h X.prog X.w) p vs:=I.hok p _ hx
   have hlen:kvs.length=vs.length:=Paired.length r
   exact wpAny_truthy_dict hS m (by omega) ⟨H,I.tok _,by rw[c1y r];exact q⟩
 |_=>exact(show False from e).elim
theorem b4k(ha:PE X a ta)(he:∀whole,isTrue a X.env whole=(do let v ←whole;standAt a.pos;holding [v] (truthy v))):
  PT X a (fun σ H Q=>ta σ H fun x H'=>∃k,TruV X.K x H' k∧Q k H'):=by
 intro pins s σ H Q I h
 exact isTrue_plain (thn (ha pins s σ H _ I h) fun v s1 ⟨x,H1,I1,r1,q1⟩=>d5a pins s1 σ H1 x v Q I1 r1 q1) (he _)
theorem op_add_str:OpR X (binaryOp .Add) (fun x y H Q=>∃i j,x=.str i∧y=.str j∧i.length+j.length≤sizeLine∧Q (.str (i++j)) H):=by
 intro pins s σ H x y v u Q I rx ry h
 obtain⟨i,j,rfl,rfl,hz,q⟩:=h
 obtain⟨t,rfl⟩:=rx
 obtain⟨t',rfl⟩:=ry
 exact add_str (fun t' tk=>⟨.str (i++j),H,I.tok _,⟨_,rfl⟩,q⟩) hz
theorem vals1{x:V}{us:List Value}(r:Vals [x] us):∃u,us=[u]∧RelV x u:=by
 cases r with
 |cons r1 r2=>cases r2;exact⟨_,rfl,r1⟩
theorem vals2{x y:V}{us:List Value}(r:Vals [x,y] us):∃u w',us=[u,w']∧RelV x u∧RelV y w':=by
 cases r with
 |cons r1 r2=>
  cases r2 with
  |cons r3 r4=>cases r4;exact⟨_,_,rfl,r1,r3⟩
theorem a9c:CallR X (.type "int") (fun xs H Q=>(∃i,xs=[.int i]∧Q (.int i) H)∨∃k,xs=[.bl k]∧Q (.int (if k then 1 else 0)) H):=by
 intro pins s σ H xs us Q I r h
 rcases h with⟨i,rfl,q⟩|⟨k,rfl,q⟩
 ·obtain⟨u,rfl,t,rfl⟩:=vals1 r
  exact call_int_int ⟨.int i,H,I,⟨_,rfl⟩,q⟩
 ·obtain⟨u,rfl,r1⟩:=vals1 r
  cases r1
  exact call_int_bool ⟨.int (if k then 1 else 0),H,I.tok _,⟨_,rfl⟩,q⟩
end
end L2
namespace L2
open PySem PySem.Spec PyProof.Rows
structure ObjM (h:Heap) (x dx C:Addr) (mA:Str→Option Value):Prop where
 obj:h.get? x=some (PySem.W.instObj C dx)
 ns:h.Ns1 dx mA
 ne:dx≠x
section
variable {prog:Program} {w:World} {A:Around} {E:Value→Shared→Prop} {s:Shared} {K:PySem.W.Frag} {x dx C f:Addr} {mA:Str→Option Value} {name:Str} {v:Value}
end
theorem RelO.some_of{v:V}{o:Option Value}(r:RelO (some v) o):∃u,o=some u∧RelV v u:=by
 cases o with
 |none=>exact(show False from r).elim
 |some u=>exact⟨u,rfl,r⟩
section
variable {P:Program} {w:World} {H H':Hp} {h h':Heap} {a C dx:Addr} {fs fs':List (Str×V)}
end
structure Cls (K:PySem.W.Frag) (C:Addr):Prop where
 pg:PySem.W.plainGet K C Str.empty=true
 hd:PySem.W.hasDictIn K C=true
 po:PySem.W.plainOver K C=true
 sa:PySem.W.findIn K (.ref C) "__setattr__"=some (some (.builtin "object.__setattr__"))
structure Con (K:PySem.W.Frag) (C:Addr) (f:Str) (v:V) (u:Value):Prop where
 at_:PySem.W.findIn K (.ref C) f=some (some u)
 rel:RelV v u
 get:PySem.W.specialIn K u "__get__"=some none
 cp:PySem.W.copiedNames.contains f=false
structure Meth (K:PySem.W.Frag) (C:Addr) (m:Str) (f:Addr):Prop where
 at_:PySem.W.findIn K (.ref C) m=some (some (.ref f))
 fn:PySem.W.isFn K (.ref f)=true
 kp:PySem.W.keepIn K (.ref f)=true
section
variable {X:Cx} {pins:List (Addr×Obj)} {σ:St} {H:Hp} {s:Shared} {a C dx:Addr} {fs:List (Str×V)} {f:Str} {v:V} {A:Around} {E:Value→Shared→Prop}
end
section
variable {X:Cx} {o e value:Expr} {f:Str} {pos pos' tpos:Pos} {ta tv:TE}
end
section
variable {X:Cx} {pins:List (Addr×Obj)} {σ:St} {H:Hp} {s:Shared} {A:Around} {E:Value→Shared→Prop} {Q:Value→Shared→Prop} {c:Value} {b:Bool}
inductive TyOf (K:PySem.W.Frag) (H:Hp):V→Value→Prop where
 |non:TyOf K H .non (.type "NoneType")
 |bl (x:Bool):TyOf K H (.bl x) (.type "bool")
 |int (i:Int):TyOf K H (.int i) (.type "int")
 |str (x:Str):TyOf K H (.str x) (.type "str")
 |flt (x:UInt64):TyOf K H (.flt x) (.type "float")
 |lst {a:Addr} {xs:List V} (e:H a=some (.lst xs)):TyOf K H (.ref a) (.type "list")
 |frz {a:Addr} {o:Obj} {xs:List V} (e:H a=some (.frz o (.lst xs))):TyOf K H (.ref a) (.type "list")
 |tup {a:Addr} {xs:List V} (e:H a=some (.tup xs)):TyOf K H (.ref a) (.type "tuple")
 |dK {a:Addr} {kvs:List (Key×V)} (e:H a=some (.dK kvs)):TyOf K H (.ref a) (.type "dict")
 |dT {a:Addr} {kvs:List (List Key×V)} (e:H a=some (.dT kvs)):TyOf K H (.ref a) (.type "dict")
 |ins {a C dx:Addr} {fs:List (Str×V)} (e:H a=some (.ins C dx fs)) (cl:Cls K C) (ha:PySem.W.findIn K (.ref C) "__class__"=some (some (.builtin "object.__class__")))
   (hn:PySem.W.specialIn K (.builtin "object.__class__") "__get__"=some (some (.builtin "getset_descriptor.__get__"))) (htk:PySem.W.takesIn K (.builtin "object.__class__")=some true)
   (hm:PySem.W.mroIn K C (.type "object")=some true):TyOf K H (.ref a) (.ref C)
end
end L2
namespace L2
open PySem PySem.Spec PyProof.Rows
structure Room (k:Nat) (A:Around):Prop where
 hd:A.handled=none
 dp:A.depth+3 * k+5 < recursionLimit
 un:A.units+16 * k+200 < cLine
theorem Room.mono{j k:Nat}{A:Around}(r:Room k A)(h:j≤k):Room j A:=⟨r.hd,by have:=r.dp;omega,by have:=r.un;omega⟩
theorem Room.deeper{k:Nat}{A:Around}(r:Room (k+1) A)(env:Env):Room k (A.deeper env):=
 ⟨r.hd,by have:=r.dp;show A.depth+1+3 * k+5 < _;omega,by have:=r.un;show A.units+3+16 * k+200 < _;omega⟩
theorem Room.depth{k:Nat}{A:Around}(r:Room k A):A.depth < recursionLimit:=by have:=r.dp;omega
theorem Room.units{k:Nat}{A:Around}(r:Room k A):A.units+64 < cLine:=by have:=r.un;omega
noncomputable def tNil:TA:=fun _ H Q=>Q [] H
noncomputable def tCons (ta:TE) (tr:TA):TA:=fun σ H Q=>ta σ H fun x H1=>tr σ H1 fun xs H2=>Q (x::xs) H2
section
variable {X:Cx} {e:Expr} {es:List Expr} {te:TE} {t:TA} {pos:Pos}
theorem pa_nil:PA X [] tNil:=fun _ _ _ _ H Q I h=>Calls.spliced_nil ⟨[],H,I,.nil,h⟩
theorem a9z(ha:PE X e te)(hr:PA X es t)(hs:starEach (e::es) X.env=(false,eval e X.env)::starEach es X.env:=by rfl):PA X (e::es) (tCons te t):=by
 intro pos pins s σ H Q I h
 rw[hs]
 show wpAny _ _ (spliced ((false,eval e X.env)::backTo pos (starEach es X.env))) _ _ s
 refine Calls.spliced_cons (thn (ha pins s σ H _ I h) fun u s1 hh=>?_)
 obtain⟨x,H1,I1,r1,q1⟩:=hh
 exact thn (hr pos pins s1 σ H1 _ I1 q1) fun us s2 ⟨xs,H2,I2,r2,q2⟩=>⟨x::xs,H2,I2,.cons r1 r2,q2⟩
noncomputable def tTup (t:TA):TE:=fun σ H Q=>t σ H fun xs H1=>xs.length≤sizeLine∧∀p,H1 p=none→Q (.ref p) (upd H1 p (.tup xs))
noncomputable def tLst (t:TA):TE:=fun σ H Q=>t σ H fun xs H1=>xs.length≤sizeLine∧∀p,H1 p=none→Q (.ref p) (upd H1 p (.lst xs))
theorem d5b{x1}(h:PA X es t):PE X (.Tuple es x1 pos) (tTup t):=by
 intro pins s σ H Q I hq
 refine wpAny_Tuple_spliced (thn (h pos pins s σ H _ I hq) fun us s1 ⟨xs,H1,I1,r,z,q⟩=>⟨by rw[←r.length];exact z,?_⟩)
 have hf:H1 s1.heap.objs.size=none:=I1.hok.fresh (Nat.le_refl _)
 refine⟨.ref s1.heap.objs.size,upd H1 s1.heap.objs.size (.tup xs),I1.laid (t':=s1.toks) (fun b u e=>Heap.get?_push_of_some _ e) (Nat.le_refl _) ?_,rfl,q _ hf⟩
 exact⟨z,us,r,⟨_,Heap.get?_push_size _ rfl,rfl,_,rfl⟩⟩
theorem d5c(h:PA X es t):PE X (.List es pos) (tLst t):=by
 intro pins s σ H Q I hq
 refine wpAny_List_spliced (thn (h pos pins s σ H _ I hq) fun us s1 ⟨xs,H1,I1,r,z,q⟩=>⟨by rw[←r.length];exact z,?_⟩)
 have hf:H1 s1.heap.objs.size=none:=I1.hok.fresh (Nat.le_refl _)
 refine⟨.ref s1.heap.objs.size,upd H1 s1.heap.objs.size (.lst xs),I1.laid (t':=s1.toks) (fun b u e=>Heap.get?_push_of_some _ e) (Nat.le_refl _) ?_,rfl,q _ hf⟩
 exact⟨z,us,0,r,Heap.get?_push_size _ rfl⟩
end
noncomputable abbrev Sp:=List V→Hp→VK→XK→Prop
noncomputable abbrev CXT:=List Env→Hp→Shared→XK→Value→Shared→Prop
structure Env0 (P:Program) (w:World) (K:PySem.W.Frag) (mg:Str→Option Value) (base:Heap) (A:Around) (outer:List Env) (s:Shared) (H:Hp):Prop where
 frames:A.frames=some outer
 mod:Mod K mg base
 bs:∀b o,base.get? b=some o→s.heap.get? b=some o∧H b=none
 bsz:base.objs.size≤s.heap.objs.size
 funs:s.heap.FunFrames base outer
 frf:∀b∈frs outer,H b=none
 hok:HOk P w H s.heap
 bare:AllBare s.gens
noncomputable def CE (outer:List Env) (P:Program) (w:World) (H:Hp) (s:Shared) (Q:VK) (u:Value) (s':Shared):Prop:=
 ∃v H',s'.os=s.os∧AllBare s'.gens∧Un (frs outer) [] H H' s.heap s'.heap∧HOk P w H' s'.heap∧RelV v u∧Q v H'
noncomputable def CR (CX:CXT) (outer:List Env) (P:Program) (w:World) (H:Hp) (s:Shared) (Q:VK) (E:XK) (r:Result) (s':Shared):Prop:=
 match r with
 |.ok (.ret u)=>CE outer P w H s Q u s'
 |.ok _=>False
 |.error e=>CX outer H s E e s'
structure FnOk (P:Program) (w:World) (K:PySem.W.Frag) (mg:Str→Option Value) (base:Heap) (CX:CXT) (k:Nat) (f:Addr) (fd:FuncData) (ps:List Str) (sp:Sp):Prop where
 len:∀vs H Q E,sp vs H Q E→vs.length=ps.length
 run:∀(A:Around) (outer:List Env) (s:Shared) (H:Hp) (args:Args) (us:List Value) (vs:List V) (Q:VK) (E:XK),Room k A→Env0 P w K mg base A outer s H→BindsTo s fd args (ps.zip us)→Vals vs us→sp vs H Q E→
  codeAny (model P w) A (.call (.ref f) args) (CR CX outer P w H s Q E) s
theorem FnOk.imp{P:Program}{w:World}{K:PySem.W.Frag}{mg:Str→Option Value}{base:Heap}{CX:CXT}{k:Nat}{f:Addr}{fd:FuncData}{ps:List Str}{sp sp':Sp}(F:FnOk P w K mg base CX k f fd ps sp)
  (h:∀vs H Q E,sp' vs H Q E→sp vs H Q E):FnOk P w K mg base CX k f fd ps sp':=
 ⟨fun vs H Q E q=>F.len vs H Q E (h _ _ _ _ q),fun A outer s H args us vs Q E hr he hb hv hs=>F.run A outer s H args us vs Q E hr he hb hv (h _ _ _ _ hs)⟩
section
variable {X:Cx} {pins:List (Addr×Obj)} {σ:St} {H:Hp} {s s':Shared}
theorem Inv.env0(I:Inv X pins σ H s):Env0 X.prog X.w X.K X.mg X.base X.A X.stack s H:=
 ⟨I.ok.frames,I.ok.mod,I.bs,Nat.le_trans I.ok.bsz I.sz,I.stack,I.stkFree,I.hok,I.bare⟩
theorem Inv.after{Q:VK}{u:Value}(I:Inv X pins σ H s)(h:CE X.stack X.prog X.w H s Q u s'):EP X pins σ Q u s':=by
 obtain⟨v,H',os,bare,un,hok,r,q⟩:=h
 obtain⟨hh,g,d,t,os'⟩:=s'
 obtain rfl:os'=s.os:=os
 exact⟨v,H',I.call (h':=hh) (g':=g) (d':=d) (t':=t) (ch:=[]) un hok bare (fun b z=>absurd z (by simp)),r,q⟩
end
noncomputable def tCall (sp:Sp) (dvs:List V) (E:XK) (t:TA):TE:=fun σ H Q=>t σ H fun vs H1=>sp (vs++dvs) H1 Q E
noncomputable def Binds (K:PySem.W.Frag) (fd:FuncData) (ps:List Str) (ds:List Value):Prop:=
 ∀(s:Shared) (us:List Value),K.In s.heap→(us++ds).length=ps.length→BindsTo s fd ⟨us,[]⟩ (ps.zip (us++ds))
theorem Binds.all{K:PySem.W.Frag}{fd:FuncData}{ps:List Str}(h:∀us:List Value,us.length=ps.length→bindArgs fd ⟨us,[]⟩=pure (ps.zip us)):Binds K fd ps []:=fun s us _ hl=>by
 rw[List.append_nil] at hl ⊢
 exact .of_eq (h us hl)
noncomputable def c3i (CX:CXT) (X:Cx) (E:XK):Prop:=∀(pins:List (Addr×Obj)) (σ:St) (H:Hp) (s:Shared) (e:Value) (s':Shared),Inv X pins σ H s→CX X.stack H s E e s'→X.xe e s'
section
variable {X:Cx} {CX:CXT} {k:Nat} {f C:Addr} {fd:FuncData} {ps:List Str} {sp:Sp} {dvs:List V} {ds:List Value} {E:XK} {x m:Str} {p pos apos:Pos} {e o:Expr} {es:List Expr} {ta:TE} {t:TA}
theorem d5d{pins:List (Addr×Obj)}{σ:St}{H:Hp}{s:Shared}{Q:VK}{us:List Value}{vs:List V}(F:FnOk X.prog X.w X.K X.mg X.base CX k f fd ps sp)(hr:Room k X.A)(hb:Binds X.K fd ps ds)(hd:Vals dvs ds)(hx:c3i CX X E)
  (I:Inv X pins σ H s) (r:Vals vs us) (h:sp (vs++dvs) H Q E):wpAny (model X.prog X.w) X.A (call (.ref f) us) (EP X pins σ Q) X.xe s:=by
 have r2:Vals (vs++dvs) (us++ds):=r.append hd
 have hl:(us++ds).length=ps.length:=by rw[←r2.length];exact F.len _ _ _ _ h
 refine wpAny_call (codeAny_mono (F.run X.A X.stack s H ⟨us,[]⟩ (us++ds) (vs++dvs) Q E hr I.env0 (hb s us I.kIn hl) r2 h) fun r s' hq=>?_)
 cases r with
 |error e=>exact hx pins σ H s e s' I hq
 |ok fl=>
  cases fl with
  |ret u=>exact I.after hq
  |next=>exact False.elim hq
  |brk=>exact False.elim hq
  |cont=>exact False.elim hq
theorem d2d(F:FnOk X.prog X.w X.K X.mg X.base CX k f fd ps sp)(hr:Room k X.A)(hg:Gl X x)(hm:X.mg x=some (.ref f))(hk:PySem.W.keepIn X.K (.ref f)=true)(hb:Binds X.K fd ps ds)(hd:Vals dvs ds)(hx:c3i CX X E)
  (ha:PA X (e::es) t) (hdb:(x == ("__debug__":Str))=false:=by decide) (he:starEach (e::es) X.env=(false,eval e X.env)::starEach es X.env:=by rfl) (hpl:(backTo pos (starEach es X.env)).any (·.1)=false:=by rfl) :
  PE X (.Call (.Name x p) (e::es) [] pos) (tCall sp dvs E t):=by
 intro pins s σ H Q I h
 refine wpAny_Call_Name_kw (c3a I hg hm ?_ hdb)
 refine PySem.W.callWith_K (h₀:=X.base) I.ok.mod.kin hk (thn (ha pos pins s σ H _ I h) fun us s1 ⟨vs,H1,I1,r,q⟩=>⟨I1.kIn,?_⟩) he hpl
 exact d5d F hr hb hd hx I1 r q
structure Mk (K:PySem.W.Frag) (C f:Addr):Prop where
 makes:PySem.W.makesIn K C=true
 init:PySem.W.findIn K (.ref C) "__init__"=some (some (.ref f))
 fn:PySem.W.isFn K (.ref f)=true
 kp:PySem.W.keepIn K (.ref C)=true
end
section
variable {X:Cx} {CX:CXT} {k:Nat} {f C:Addr} {fd:FuncData} {ps ks:List Str} {sp:Sp} {E:XK} {x m:Str} {p pos apos kpos:Pos} {e o:Expr} {es:List Expr} {kws:List Keyword} {te ta:TE} {t tk:TA} {nm:Option Str}
structure KBinds (K:PySem.W.Frag) (fd:FuncData) (ps ks:List Str) (g:List Value→List Value→List Value) (gV:List V→List V→List V):Prop where
 to:∀(s:Shared) (us ws:List Value),K.In s.heap→(g us ws).length=ps.length→BindsTo s fd ⟨us,ks.zip ws⟩ (ps.zip (g us ws))
 rel:∀{vs:List V} {us:List Value} {zs:List V} {ws:List Value},Vals vs us→Vals zs ws→Vals (gV vs zs) (g us ws)
variable {g:List Value→List Value→List Value} {gV:List V→List V→List V}
end
structure FnScope (N P:List Str) (sc:Scope):Prop where
 kind:sc.kind=.function
 co:sc.isCoroutine=false
 gen:sc.isGenerator=false
 nd:N.Nodup
 pre:N.take P.length=P
 par:∀x∈P,sc.names.lookup x=some .local ∨ sc.names.lookup x=some .cell
 nofree:∀y∈sc.names,y.2≠.free
theorem b6c{kindOf:Str→Option NameKind}{x:Str}:∀{binds:List (Str×Value)} {m:Str→Option Value},(∀v,(x,v)∉binds)→bindL kindOf binds m x=m x
 |[],_,_=>rfl
 |(n,v)::r,m,h=>by
  unfold bindL
  rw[b6c fun w hw=>h w (List.mem_cons_of_mem _ hw)]
  split
  ·have:x≠n:=by rintro rfl;exact h v List.mem_cons_self
   simp[this]
  ·rfl
theorem b6d{kindOf:Str→Option NameKind}{x:Str}:∀{binds:List (Str×Value)} {m:Str→Option Value},(∀v,(x,v)∉binds)→bindC kindOf binds m x=m x
 |[],_,_=>rfl
 |(n,v)::r,m,h=>by
  unfold bindC
  rw[b6d fun w hw=>h w (List.mem_cons_of_mem _ hw)]
  split
  ·rfl
  ·have:x≠n:=by rintro rfl;exact h v List.mem_cons_self
   simp[this]
theorem b6e{kindOf:Str→Option NameKind}{x:Str}{v:Value}:∀{P:List Str} {vs:List Value} {i:Nat} {m:Str→Option Value},P.Nodup→P[i]?=some x→vs[i]?=some v→kindOf x=some .local →
  bindL kindOf (P.zip vs) m x=some v
 |[],_,_,_,_,h,_,_=>by simp at h
 |_::_,[],_,_,_,_,h,_=>by simp at h
 |p::P,w::vs,0,m,nd,h1,h2,hk=>by
  simp at h1 h2;subst h1;subst h2
  show bindL kindOf ((p,w)::P.zip vs) m p=_
  unfold bindL
  rw[b6c fun v hv=>(List.nodup_cons.mp nd).1 (List.of_mem_zip hv).1,if_pos hk]
  simp
 |p::P,w::vs,i+1,m,nd,h1,h2,hk=>by
  show bindL kindOf ((p,w)::P.zip vs) m x=_
  unfold bindL
  exact b6e (i:=i) (List.nodup_cons.mp nd).2 (by simpa using h1) (by simpa using h2) hk
theorem b6f{kindOf:Str→Option NameKind}{x:Str}{v:Value}:∀{P:List Str} {vs:List Value} {i:Nat} {m:Str→Option Value},P.Nodup→P[i]?=some x→vs[i]?=some v→kindOf x≠some .local →
  bindC kindOf (P.zip vs) m x=some v
 |[],_,_,_,_,h,_,_=>by simp at h
 |_::_,[],_,_,_,_,h,_=>by simp at h
 |p::P,w::vs,0,m,nd,h1,h2,hk=>by
  simp at h1 h2;subst h1;subst h2
  show bindC kindOf ((p,w)::P.zip vs) m p=_
  unfold bindC
  rw[b6d fun v hv=>(List.nodup_cons.mp nd).1 (List.of_mem_zip hv).1,if_neg hk]
  simp
 |p::P,w::vs,i+1,m,nd,h1,h2,hk=>by
  show bindC kindOf ((p,w)::P.zip vs) m x=_
  unfold bindC
  exact b6f (i:=i) (List.nodup_cons.mp nd).2 (by simpa using h1) (by simpa using h2) hk
noncomputable def start (N:List Str) (vs:List V):St:=vs.map some++List.replicate (N.length - vs.length) none
noncomputable def cxOf (CX:CXT) (P:Program) (w:World) (K:PySem.W.Frag) (mg:Str→Option Value) (base:Heap) (N:List Str) (qual:Str) (scope:Scope) (f:Addr) (cd:Value) (A:Around) (outer:List Env) (s:Shared) (H:Hp) (E:XK):Cx where
 prog:=P
 w:=w
 K:=K
 mg:=mg
 base:=base
 A:=A.deeper (envOfC qual scope s.heap.objs.size f cd)
 N:=N
 s₀:=s
 H₀:=H
 env:=envOfC qual scope s.heap.objs.size f cd
 outer:=outer
 stack:=envOfC qual scope s.heap.objs.size f cd::outer
 ex:=[]
 calm:=true
 fn:=fun _=>true
 pn:=[]
 xe:=fun e s'=>wpAny (model P w) (A.deeper (envOfC qual scope s.heap.objs.size f cd)) (leaving (envOfC qual scope s.heap.objs.size f cd) e) (fun _ s''=>CX outer H s E e s'') (fun e' s''=>CX outer H s E e' s'') s'
theorem b9w{sc:Scope}{n:Nat}{x:Str}(h:sc.names.lookup x=some .cell):∃c,(cellsFrom n sc.names []).lookup x=some c:=by
 have q:=PySem.W.cellsFrom_some sc.names n [] (.inl h)
 exact Option.isSome_iff_exists.mp q
theorem c3j{CX:CXT}{P:Program}{w:World}{K:PySem.W.Frag}{mg:Str→Option Value}{base:Heap}{N ps:List Str}{qual:Str}{scope:Scope}{f:Addr}{cd:Value}{A:Around}{outer:List Env}{s s1:Shared}{H:Hp}{E:XK}{us:List Value}{vs:List V}
  (S:FnScope N ps scope) (hd:A.handled=none) (e0:Env0 P w K mg base A outer s H) (hl:vs.length=ps.length) (r:Vals vs us)
  (x:InCallC s s.heap.objs.size (bindL (envOfC qual scope s.heap.objs.size f cd).kindOf (ps.zip us) fun _=>none) (cellsFrom (s.heap.objs.size+1) scope.names []) (bindC (envOfC qual scope s.heap.objs.size f cd).kindOf (ps.zip us) fun _=>none) s1) :
  Inv (cxOf CX P w K mg base N qual scope f cd A outer s H E) [] (start N vs) H s1:=by
 have hpl:ps.length≤N.length:=by have:=congrArg List.length S.pre;rw[List.length_take] at this;omega
 obtain⟨h1,tk,rfl,hk⟩:=x.done
 have noA:∀b:Addr,b∉(cxOf CX P w K mg base N qual scope f cd A outer s H E).ex:=fun b z=>absurd (show b∈([]:List Addr) from z) (by simp)
 refine⟨⟨e0.mod,S.kind,rfl,rfl,Nat.le_refl _,fun y z c h1 h2=>?_,fun y hy=>?_,fun y c _ h=>?_,fun _=>hd,Around.frames_deeper e0.frames,.inr ⟨rfl,rfl⟩,fun b z=>absurd z (noA b),e0.bs,e0.bsz,fun b _ _=>noA b,fun b z=>absurd z (noA b),e0.funs,e0.frf⟩,
  rfl,e0.bare,Un.kept hk,⟨_,x.toInCall.ns,fun i y v h1 h2 h3=>?_⟩,fun y c h=>⟨_,x.cell y c h⟩,e0.hok.fresh (Nat.le_refl _),fun y c h=>?_,fun p hp=>absurd (show p∈([]:List (Addr×Obj)) from hp) (by simp),e0.hok.kept hk,?_⟩
 ·exact name_of_addr x.apart (PySem.mem_of_lookup h1) (PySem.mem_of_lookup h2)
 ·have hy:scope.names.lookup y=some .cell∨scope.names.lookup y=some .free:=hy
  rcases hy with hy|hy
  ·exact b9w hy
  ·exact absurd rfl (S.nofree _ (PySem.mem_of_lookup hy))
 ·exact Nat.le_of_lt (x.above y c (PySem.mem_of_lookup h))
 ·have hi:i < vs.length:=by
   unfold start at h2
   by_cases hi:i < vs.length
   ·exact hi
   ·rw[List.getElem?_append_right (by simpa using hi)] at h2
    rw[List.getElem?_replicate] at h2
    split at h2 <;> cases h2
  have ha:vs[i]?=some v:=by
   unfold start at h2
   rw[List.getElem?_append_left (by simpa using hi),List.getElem?_map] at h2
   cases e:vs[i]? with
   |none=>rw[e] at h2;cases h2
   |some a=>rw[e] at h2;cases h2;rfl
  obtain⟨u,hu,rv⟩:=r.get ha
  have hp:ps[i]?=some y:=by
   rw[←S.pre,List.getElem?_take_of_lt (by omega)];exact h1
  have ndP:ps.Nodup:=by rw[←S.pre];exact S.nd.sublist (List.take_sublist _ _)
  refine⟨u,rv,?_⟩
  rcases S.par y (List.mem_of_getElem? hp) with k|k
  ·exact .inl ⟨k,b6e ndP hp hu k⟩
  ·obtain⟨c,e⟩:=b9w (n:=s.heap.objs.size+1) k
   refine .inr ⟨.inl k,c,e,?_⟩
   have q:=x.cell y c e
   rw[b6f ndP hp hu (by show scope.names.lookup y≠_;rw[k];decide)] at q
   exact q
 ·exact e0.hok.fresh (Nat.le_of_lt (x.above y c (PySem.mem_of_lookup h)))
 ·unfold start
  show _=N.length
  rw[List.length_append,List.length_map,List.length_replicate]
  omega
theorem d7v{CX:CXT}{P:Program}{w:World}{K:PySem.W.Frag}{mg:Str→Option Value}{base:Heap}{k:Nat}{f:Addr}{name qual:Str}{params:Arguments}{body:List Stmt}{scope:Scope}{dV kV doc pm cdv ct oc:Value}{an od:Option Addr}
  {osl:Array (Option Value)} {N ps:List Str} {sp:Sp} (lk:K.lookup f=some ⟨oc,od,.func (PySem.W.fnOf name qual params body scope dV kV doc pm an cdv ct),osl⟩) (hcd:PySem.W.codeIn K cdv qual=true) (S:FnScope N ps scope)
  (len:∀vs H Q E,sp vs H Q E→vs.length=ps.length)
  (hbody:∀(A:Around) (outer:List Env) (s:Shared) (H:Hp) (vs:List V) (Q:VK) (E:XK),Room k (A.deeper (envOfC qual scope s.heap.objs.size f cdv))→sp vs H Q E→
   ∃t,PSs (cxOf CX P w K mg base N qual scope f cdv A outer s H E) body t∧t { nx:=fun _ H'=>Q .non H',rt:=Q} (start N vs) H) :
  FnOk P w K mg base CX (k+1) f (PySem.W.fnOf name qual params body scope dV kV doc pm an cdv ct) ps sp:=by
 refine⟨len,fun A outer s H args us vs Q E hr e0 hb r hsp=>?_⟩
 have hl:=len _ _ _ _ hsp
 have KX:K.In s.heap:=e0.mod.kin.keeps fun b o e=>(e0.bs b o e).1
 have lim:s.heap.NoLimit:=e0.mod.nolimit.keeps fun b o e=>(e0.bs b o e).1
 have hkind:∀y∈ps.zip us,scope.names.lookup y.1=some .local ∨ (scope.names.lookup y.1=some .cell∧((cellsFrom (s.heap.objs.size+1) scope.names []).lookup y.1).isSome=true):=fun⟨n,v⟩ hy=>by
  rcases S.par n (List.of_mem_zip hy).1 with q|q
  ·exact .inl q
  ·exact .inr ⟨q,PySem.W.cellsFrom_some _ _ _ (.inl q)⟩
 refine codeAny_call_function hr.depth (KX _ _ lk) rfl S.co S.gen rfl (PySem.W.codeRec_of KX hcd) (hb _ _ _ _ ?_)
 refine wpAny_newFunctionEnv_cells S.kind hkind fun env he s1 x=>?_
 subst he
 refine⟨lim.keeps x.toInCall.keep,codeAny_func ?_⟩
 obtain⟨t,ht,hq⟩:=hbody A outer s H vs Q E (hr.deeper _) hsp
 have I:Inv (cxOf CX P w K mg base N qual scope f cdv A outer s H E) [] (start N vs) H s1:=c3j S hr.hd e0 hl r x
 refine wpAny_mono (ht [] s1 (start N vs) H _ I hq) (fun fl s' hs=>?_) fun e s' hs=>hs
 have fin:∀{σ':St} {H':Hp} {v:V} {u:Value},Inv (cxOf CX P w K mg base N qual scope f cdv A outer s H E) [] σ' H' s'→RelV v u→Q v H'→CE outer P w H s Q u s':=
  fun{σ' H' v u} J rv q=>⟨v,H',J.os,J.bare,J.base,J.hok,rv,q⟩
 cases fl with
 |ret u=>
  obtain⟨v,σ',H',J,rv,q⟩:=hs
  exact fin J rv q
 |next=>
  obtain⟨σ',H',J,q⟩:=hs
  exact fin (v:=V.non) (u:=Value.none) J rfl q
 |brk=>
  obtain⟨_,_,_,q⟩:=hs
  exact False.elim q
 |cont=>
  obtain⟨_,_,_,q⟩:=hs
  exact False.elim q
end L2
namespace L2
open PySem PySem.Spec PyProof.Rows
section
variable {X:Cx} {x:Str} {p pos:Pos} {e:Expr} {es:List Expr} {t:TA} {id T:String} {r:List V→Hp→VK→Prop}
noncomputable def tCB (r:List V→Hp→VK→Prop) (t:TA):TE:=fun σ H Q=>t σ H fun vs H1=>r vs H1 Q
theorem c8c(hc:CallR X (.builtin id) r)(hg:Gl X x)(hm:X.mg x=none)(hv:bootBuiltins x=some (.builtin id))(ha:PA X (e::es) t)(hn:x≠"__name__":=by decide)(hdb:(x == ("__debug__":Str))=false:=by decide)
  (he:starEach (e::es) X.env=(false,eval e X.env)::starEach es X.env:=by rfl) (hpl:(backTo pos (starEach es X.env)).any (·.1)=false:=by rfl):PE X (.Call (.Name x p) (e::es) [] pos) (tCB r t):=by
 intro pins s σ H Q I h
 refine wpAny_Call_Name_kw (b3o I hg hm hv ?_ hn hdb)
 exact PyProof.Rows.callWith_builtin1 (thn (ha pos pins s σ H _ I h) fun us s1 ⟨vs,H1,I1,r1,q1⟩=>hc pins s1 σ H1 vs us Q I1 r1 q1) he hpl
theorem c3k(hc:CallR X (.type T) r)(hg:Gl X x)(hm:X.mg x=none)(hv:bootBuiltins x=some (.type T))(ha:PA X (e::es) t)(hn:x≠"__name__":=by decide)(hdb:(x == ("__debug__":Str))=false:=by decide)
  (he:starEach (e::es) X.env=(false,eval e X.env)::starEach es X.env:=by rfl) (hpl:(backTo pos (starEach es X.env)).any (·.1)=false:=by rfl):PE X (.Call (.Name x p) (e::es) [] pos) (tCB r t):=by
 intro pins s σ H Q I h
 refine wpAny_Call_Name_kw (b3o I hg hm hv ?_ hn hdb)
 exact PyProof.Rows.callWith_type1 (thn (ha pos pins s σ H _ I h) fun us s1 ⟨vs,H1,I1,r1,q1⟩=>hc pins s1 σ H1 vs us Q I1 r1 q1) he hpl
end
end L2
namespace HT
open PySem PyProof.Rows
section
open PySem.SeqAt
open PySem.AutoSeq1 (wpAny_loadPart')
open PySem.MeetsSeq PySem.MeetsSeq2 PySem.MeetsSeq3
end
section
variable {prog:Program} {w:World} {A:Around} {E:Value→Shared→Prop} {s:Shared}
noncomputable def sIx (n d:Nat):Option Int→Nat
 |none=>d
 |some v=>if v < 0 then(v+(n:Int)).toNat else min v.toNat n
theorem d5e(n d:Nat)(hd:d≤n)(o:Option Int):sIx n d o≤n:=by
 cases o with
 |none=>exact hd
 |some v=>
  show(if v < 0 then(v+(n:Int)).toNat else min v.toNat n)≤n
  by_cases hv:v < 0
  ·rw[if_pos hv];omega
  ·rw[if_neg hv];exact Nat.min_le_right _ _
theorem c3l(v:Int)(n d:Nat):(if v < 0 then max (v+(n:Int)) 0 else min v (n:Int))=((sIx n d (some v):Nat):Int):=by
 show(if v < 0 then max (v+(n:Int)) 0 else min v (n:Int))=(((if v < 0 then(v+(n:Int)).toNat else min v.toNat n):Nat):Int)
 by_cases hv:v < 0
 ·simp only[if_pos hv];omega
 ·simp only[if_neg hv];omega
theorem c1z(lo hi:Option Int)(n:Nat):Builtin.Slice.sliceAdjust lo hi 1 (n:Int)=(((sIx n 0 lo:Nat):Int),((sIx n n hi:Nat):Int)):=by
 have h1:¬((1:Int) < 0):=by omega
 unfold Builtin.Slice.sliceAdjust
 simp only[h1,if_false]
 refine Prod.ext ?_ ?_
 ·cases lo with
  |none=>rfl
  |some v=>exact c3l v n 0
 ·cases hi with
  |none=>rfl
  |some v=>exact c3l v n n
theorem c2a(i j:Nat):Builtin.Slice.slicePlaces (i:Int) (j:Int) 1=j - i:=by
 unfold Builtin.Slice.slicePlaces
 have h1:(1:Int) > 0:=by omega
 simp only[h1,if_true,Int.ediv_one]
 split <;> omega
theorem b3q{v:Value}{o:Option Int}{Q:Option Int→Shared→Prop}(p:IsPart v o)(h:Q o s):wpAny (model prog w) A (Builtin.Slice.slicePartIndex v) Q E s:=by
 cases p with
 |none=>exact slicePart_none h
 |int i t=>exact slicePart_int h
theorem b1e{sl:Addr}{vl vu:Value}{lo hi:Option Int}{n:Nat}{Q:Int×Int×Nat→Shared→Prop}(hs:s.heap.IsSliceOf sl vl vu .none)(pl:IsPart vl lo)(pu:IsPart vu hi)
  (h:Q (((sIx n 0 lo:Nat):Int),1,sIx n n hi - sIx n 0 lo) s):wpAny (model prog w) A (Builtin.Slice.sliceApplied (.ref sl) (pure (n:Int))) Q E s:=by
 obtain⟨os,hos,hcs,hds⟩:=id hs
 unfold Builtin.Slice.sliceApplied Builtin.Slice.sliceFields
 refine wpAny_bind (wpAny_bind (wpAny_field hos hds (x:=vl) rfl (wpAny_bind (wpAny_field hos hds (x:=vu) rfl (wpAny_bind (wpAny_field hos hds (x:=.none) rfl (wpAny_pure ?_)))))))
 refine wpAny_bind (slicePart_none ?_)
 show wpAny _ _ (if((1:Int) == 0)=true then _ else _) _ _ s
 rw[if_neg (by decide)]
 refine wpAny_bind (b3q pl (wpAny_bind (b3q pu (wpAny_bind (wpAny_pure ?_)))))
 show wpAny _ _ (match Builtin.Slice.sliceAdjust lo hi 1 (n:Int) with|(lo,hi)=>pure (lo,(1:Int),Builtin.Slice.slicePlaces lo hi 1)) _ _ s
 rw[c1z lo hi n]
 show wpAny _ _ (pure (((sIx n 0 lo:Nat):Int),(1:Int),Builtin.Slice.slicePlaces ((sIx n 0 lo:Nat):Int) ((sIx n n hi:Nat):Int) 1)) _ _ s
 rw[c2a]
 exact wpAny_pure h
theorem c8d(xs:Array Value)(i k:Nat):((List.range k).filterMap fun(m:Nat)=>xs[((i:Int)+(m:Int) * 1).toNat]?).toArray=((xs.toList.drop i).take k).toArray:=by
 have e:(fun(m:Nat)=>xs[((i:Int)+(m:Int) * 1).toNat]?)=fun m=>xs[i+m]?:=by
  funext m
  have:((i:Int)+(m:Int) * 1).toNat=i+m:=by omega
  rw[this]
 rw[e]
 have:=pick_run xs i k
 rw[List.filterMap_map] at this
 have e2:((fun x=>xs[x]?)∘fun x=>i+x)=fun m=>xs[i+m]?:=rfl
 rw[e2] at this
 rw[this]
theorem getItem_tuple_cut{t sl:Addr}{items:Array Value}{vl vu:Value}{lo hi:Option Int}{Q:Value→Shared→Prop}(ht:IsTup s.heap t items)(hs:s.heap.IsSliceOf sl vl vu .none)(pl:IsPart vl lo)(pu:IsPart vu hi)
  (hw:¬(sIx items.size 0 lo=0∧sIx items.size items.size hi=items.size))
  (h:Q (.ref s.heap.objs.size) { s with heap:=s.heap.push { cls:=.type "tuple",data:=.seq ((items.toList.drop (sIx items.size 0 lo)).take (sIx items.size items.size hi - sIx items.size 0 lo)).toArray}})
  (hsz:items.size≤sizeLine):wpAny (model prog w) A (getItem (.ref t) (.ref sl)) Q E s:=by
 have htake:sizeOk (.seq ((items.toList.drop (sIx items.size 0 lo)).take (sIx items.size items.size hi - sIx items.size 0 lo)).toArray):=by
  show((items.toList.drop (sIx items.size 0 lo)).take (sIx items.size items.size hi - sIx items.size 0 lo)).toArray.size≤sizeLine
  rw[List.size_toArray,List.length_take,List.length_drop,Array.length_toList]
  omega
 have hj:sIx items.size items.size hi≤items.size:=d5e _ _ (Nat.le_refl _) hi
 obtain⟨os,hos,hcs,hds⟩:=id hs
 have hTs:s.TypeIs (.ref sl) "slice":=⟨os,hos,hcs⟩
 unfold getItem
 try with_reducible refine wpAny_holding ?_
 first|refine wpAny_bind (wpAny_pure ?_)|skip
 refine wpAny_bind (wpAny_sequenceKey ht.typeIs (by decide) ?_)
 refine wpAny_bind (wpAny_callSpecial?_slot (name:=Str.ofString "__getitem__") ht.typeIs PyProof.Rows.slot_tuple_getitem
  (wpAny_call_entry PyProof.Rows.slot_tuple_getitem ht.typeIs entry_tuple_getitem ?_ (args_tuple_getitem _ _)))
 show wpAny _ _ (Builtin.Tuple.tupleItemsOf (.ref t) >>= _) _ _ s
 refine wpAny_bind (tupleItemsOf_ ht ?_)
 refine wpAny_bind (wpAny_typeOf hTs ?_)
 rw[if_pos (by decide)]
 refine wpAny_bind (b1e hs pl pu ?_)
 have hno:¬((((sIx items.size 0 lo:Nat):Int) == 0 && (1:Int) == 1 && (sIx items.size items.size hi - sIx items.size 0 lo) == items.size)=true):=by
  intro q
  rw[Bool.and_eq_true,Bool.and_eq_true] at q
  have q1:((sIx items.size 0 lo:Nat):Int)=0:=eq_of_beq q.1.1
  have q2:sIx items.size items.size hi - sIx items.size 0 lo=items.size:=eq_of_beq q.2
  exact hw ⟨by omega,by omega⟩
 show wpAny _ _ (if(((sIx items.size 0 lo:Nat):Int) == 0 && (1:Int) == 1 && (sIx items.size items.size hi - sIx items.size 0 lo) == items.size)=true then _ else _) _ _ s
 rw[if_neg hno,c8d]
 first
  |exact wpAny_bind (m:=Builtin.Tuple.tupleExact _) (wpAny_newObj_type (wpAny_pure ⟨_,rfl,wpAny_pure h⟩) htake)
  |exact wpAny_bind (m:=Builtin.Tuple.tupleExact _) (wpAny_newObj_type (wpAny_bind (wpAny_pure (wpAny_pure ⟨_,rfl,wpAny_pure h⟩))) htake)
  |exact wpAny_bind (wpAny_bind (m:=Builtin.Tuple.tupleExact _) (wpAny_newObj_type (wpAny_pure (wpAny_pure ⟨_,rfl,wpAny_pure h⟩)) htake))
  |exact wpAny_bind (wpAny_bind (m:=Builtin.Tuple.tupleExact _) (wpAny_newObj_type (wpAny_pure ⟨_,rfl,wpAny_pure h⟩) htake))
end
end HT
namespace L2
open PySem PySem.Spec PyProof.Rows
noncomputable abbrev TO:=St→Hp→(Option Int→Hp→Prop)→Prop
noncomputable def PO (X:Cx) (e:Option Expr) (t:TO):Prop:=
 ∀(pins:List (Addr×Obj)) (s:Shared) (σ:St) (H:Hp) (Q:Option Int→Hp→Prop),Inv X pins σ H s→t σ H Q→
  wpAny (model X.prog X.w) X.A (evalPart e X.env) (fun u s'=>∃o H',Inv X pins σ H' s'∧IsPart u o∧Q o H') X.xe s
noncomputable def d2e:TO:=fun _ H Q=>Q none H
noncomputable def tPart (t:TE):TO:=fun σ H Q=>t σ H fun x H1=>∃i,x=.int i∧Q (some i) H1
section
variable {X:Cx} {e:Expr} {te:TE} {lo hi:Option Expr} {tl th:TO} {pos p2:Pos}
theorem d2f:PO X none d2e:=by
 intro pins s σ H Q I h
 rw[evalPart_none]
 exact wpAny_pure ⟨none,H,I,.none,h⟩
theorem d2g(h:PE X e te):PO X (some e) (tPart te):=by
 intro pins s σ H Q I hw
 rw[evalPart_some]
 refine thn (h pins s σ H _ I hw) fun u s1 hh=>?_
 obtain⟨x,H1,I1,r1,q1⟩:=hh
 obtain⟨i,rfl,q⟩:=q1
 obtain⟨t,rfl⟩:=r1
 exact⟨some i,H1,I1,.int i t,q⟩
noncomputable def SlR (X:Cx) (r:V→Option Int→Option Int→Hp→VK→Prop):Prop:=
 ∀(pins:List (Addr×Obj)) (s:Shared) (σ:St) (H:Hp) (x:V) (v vl vu:Value) (lo hi:Option Int) (sl:Addr) (Q:VK),Inv X pins σ H s→RelV x v→s.heap.IsSliceOf sl vl vu .none→IsPart vl lo→IsPart vu hi→r x lo hi H Q→
  ∃T id,typeLookup (.type T) "__getitem__"=pure (some (.builtin id))∧s.TypeIs v T∧wpAny (model X.prog X.w) X.A (getItem v (.ref sl)) (EP X pins σ Q) X.xe s
theorem SlR.or{r r':V→Option Int→Option Int→Hp→VK→Prop}(h:SlR X r)(h':SlR X r'):SlR X (fun x lo hi H Q=>r x lo hi H Q∨r' x lo hi H Q):=by
 intro pins s σ H x v vl vu lo hi sl Q I rx hs pl pu q
 rcases q with q|q
 ·exact h pins s σ H x v vl vu lo hi sl Q I rx hs pl pu q
 ·exact h' pins s σ H x v vl vu lo hi sl Q I rx hs pl pu q
noncomputable def tSl (r:V→Option Int→Option Int→Hp→VK→Prop) (te:TE) (tl th:TO):TE:=fun σ H Q=>te σ H fun x H1=>tl σ H1 fun l H2=>th σ H2 fun u H3=>r x l u H3 Q
theorem c8e{r:V→Option Int→Option Int→Hp→VK→Prop}(hr:SlR X r)(he:PE X e te)(hl:PO X lo tl)(hu:PO X hi th):PE X (.Subscript e (.Slice lo hi none p2) pos) (tSl r te tl th):=by
 intro pins s σ H Q I h
 refine Subscript_ (thn (he pins s σ H _ I h) fun v s1 hh=>?_)
 obtain⟨x,H1,I1,r1,q1⟩:=hh
 refine wpAny_Slice (thn (hl pins s1 σ H1 _ I1 q1) fun vl s2 ⟨l,H2,I2,pl,q2⟩=>thn (hu pins s2 σ H2 _ I2 q2) fun vu s3 ⟨u,H3,I3,pu,q3⟩=>?_)
 rw[evalPart_none]
 refine wpAny_pure ?_
 have I4:Inv X pins σ H3 { s3 with heap:=s3.heap.push { cls:=.type "slice",data:=.fields #[vl,vu,.none]}}:=I3.kept (t':=s3.toks) fun b ob q=>Heap.get?_push_of_some _ q
 obtain⟨T,id,hT,ht,hg⟩:=hr pins { s3 with heap:=s3.heap.push { cls:=.type "slice",data:=.fields #[vl,vu,.none]}} σ H3 x v vl vu l u s3.heap.objs.size Q I4 r1 (Heap.IsSliceOf.new ..) pl pu q3
 show wpAny (model X.prog X.w) X.A (subscriptTail e (.Slice lo hi none p2) v (.ref s3.heap.objs.size)) (EP X pins σ Q) X.xe { s3 with heap:=s3.heap.push { cls:=.type "slice",data:=.fields #[vl,vu,.none]}}
 exact tail_any (ops:=[.ref s3.heap.objs.size,v]) ht hT hg (by with_unfolding_all rfl)
noncomputable def cutV (xs:List V) (lo hi:Option Int):List V:=(xs.drop (HT.sIx xs.length 0 lo)).take (HT.sIx xs.length xs.length hi - HT.sIx xs.length 0 lo)
theorem b1q(xs:List V)(lo hi:Option Int):(cutV xs lo hi).length≤xs.length:=by
 unfold cutV
 rw[List.length_take,List.length_drop]
 omega
noncomputable def rSlT (K:PySem.W.Frag):V→Option Int→Option Int→Hp→VK→Prop:=fun x lo hi H Q=>∃a xs,x=.ref a∧SqT K H a xs∧
 ¬(HT.sIx xs.length 0 lo=0∧HT.sIx xs.length xs.length hi=xs.length)∧∀p,H p=none→Q (.ref p) (upd H p (.tup (cutV xs lo hi)))
theorem d5f:SlR X (rSlT X.K):=by
 intro pins s σ H x v vl vu lo hi sl Q I rx hs pl pu h
 obtain⟨a,xs,rfl,hx,hw,q⟩:=h
 cases rx
 obtain⟨its,r,ht,hz⟩:=I.tuple hx
 have hlen:its.toArray.size=xs.length:=by rw[List.size_toArray];exact r.length.symm
 refine⟨"tuple",_,PyProof.Rows.slot_tuple_getitem.lookup,ht.typeIs,?_⟩
 refine HT.getItem_tuple_cut ht hs pl pu (by rw[hlen];exact hw) ?_ (by rw[hlen];exact hz)
 rw[hlen]
 refine⟨.ref s.heap.objs.size,_,I.laid (t':=s.toks) (o:=.tup (cutV xs lo hi)) (fun b ob q=>Heap.get?_push_of_some _ q) (Nat.le_refl _) ?_,rfl,q _ (I.hok.fresh (Nat.le_refl _))⟩
 exact⟨Nat.le_trans (b1q xs lo hi) hz,_,(r.drop (HT.sIx xs.length 0 lo)).take (HT.sIx xs.length xs.length hi - HT.sIx xs.length 0 lo),IsTup.new _ _⟩
end
end L2
namespace L2
open PySem PySem.Spec PyProof.Rows
noncomputable def ixN (n:Nat) (i:Int):Option Nat:=if 0≤i then(if i < n then some i.toNat else none) else if -(n:Int)≤i then some (i+n).toNat else none
noncomputable def atI {α:Type} (xs:List α) (i:Int):Option α:=(ixN xs.length i).bind fun j=>xs[j]?
theorem b8k{n:Nat}{i:Int}{j:Nat}(h:ixN n i=some j):seqIndex? i n=some j∧j < n ∧ -(n:Int)≤i∧i < n:=by
 unfold ixN at h
 by_cases h0:0≤i
 ·rw[if_pos h0] at h
  by_cases h1:i < n
  ·rw[if_pos h1] at h
   have e:i.toNat=j:=Option.some.inj h
   exact⟨by rw[seqIndex_of h0 h1,e],by omega,by omega,h1⟩
  ·rw[if_neg h1] at h;cases h
 ·rw[if_neg h0] at h
  by_cases h1:-(n:Int)≤i
  ·rw[if_pos h1] at h
   have e:(i+n).toNat=j:=Option.some.inj h
   exact⟨by rw[seqIndex_neg (by omega) h1,e],by omega,h1,by omega⟩
  ·rw[if_neg h1] at h;cases h
theorem b8l{α:Type}{xs:List α}{i:Int}{v:α}(h:atI xs i=some v):∃j,seqIndex? i xs.length=some j∧xs[j]?=some v∧j < xs.length ∧ -(xs.length:Int)≤i∧i < xs.length:=by
 unfold atI at h
 cases e:ixN xs.length i with
 |none=>rw[e] at h;cases h
 |some j=>
  rw[e] at h
  obtain⟨h1,h2,h3,h4⟩:=b8k e
  exact⟨j,h1,h,h2,h3,h4⟩
theorem a3s{α:Type}{xs:List α}{j:Nat}{v:α}(h:xs[j]?=some v):atI xs (j:Int)=some v:=by
 have hj:j < xs.length:=(List.getElem?_eq_some_iff.mp h).1
 have e:ixN xs.length (j:Int)=some j:=by
  unfold ixN
  rw[if_pos (by omega),if_pos (by omega)];simp
 unfold atI;rw[e];exact h
noncomputable def b4l (b:Expr):Prop:=∀o i,subscripted b false o i=operate [o,i] (getItem o i)
noncomputable def IxR (X:Cx) (r:R2):Prop:=
 ∀(value slice:Expr) (pins:List (Addr×Obj)) (s:Shared) (σ:St) (H:Hp) (x y:V) (v u:Value) (Q:VK),Inv X pins σ H s→RelV x v→RelV y u→r x y H Q→
  subscripted slice false v u=operate [v,u] (getItem v u)→wpAny (model X.prog X.w) X.A (subscriptTail value slice v u) (EP X pins σ Q) X.xe s
noncomputable def MtR (X:Cx) (id:String) (r:V→List V→Hp→VK→Prop):Prop:=
 ∀(pins:List (Addr×Obj)) (s:Shared) (σ:St) (H:Hp) (x:V) (xs:List V) (v:Value) (us:List Value) (Q:VK),Inv X pins σ H s→RelV x v→Vals xs us→r x xs H Q→
  wpAny (model X.prog X.w) X.A (call (.builtin id) (v::us)) (EP X pins σ Q) X.xe s
section
variable {X:Cx} {a b:Expr} {ta tb:TE} {pos:Pos}
theorem IxR.or{r r':R2}(h:IxR X r)(h':IxR X r'):IxR X (fun x y H Q=>r x y H Q∨r' x y H Q):=by
 intro value slice pins s σ H x y v u Q I rx ry q hs
 rcases q with q|q
 ·exact h value slice pins s σ H x y v u Q I rx ry q hs
 ·exact h' value slice pins s σ H x y v u Q I rx ry q hs
theorem d2h{r:R2}(hr:IxR X r)(ha:PE X a ta)(hb:PE X b tb)(hs:b4l b):PE X (.Subscript a b pos) (tOp r ta tb):=by
 intro pins s σ H Q I h
 exact Subscript_ (binT ha hb I h fun v u s2 x y H2 I2 rx ry q=>hr a b pins s2 σ H2 x y v u Q I2 rx ry q (hs _ _))
noncomputable def rIxL (K:PySem.W.Frag):R2:=fun x y H Q=>∃p xs i v,x=.ref p∧y=.int i∧SqL K H p xs∧atI xs i=some v∧Q v H
noncomputable def rIxT (K:PySem.W.Frag):R2:=fun x y H Q=>∃p xs i v,x=.ref p∧y=.int i∧SqT K H p xs∧atI xs i=some v∧Q v H
noncomputable def rIxS:R2:=fun x y H Q=>∃z i c,x=.str z∧y=.int i∧z.length≤sizeLine∧atI z.cps.toList i=some c∧Q (.str ⟨#[c]⟩) H
theorem c3m:IxR X (rIxL X.K):=by
 intro value slice pins s σ H x y v u Q I rx ry h hs
 obtain⟨p,xs,i,z,rfl,rfl,hq,he,q⟩:=h
 cases rx
 obtain⟨t,rfl⟩:=ry
 obtain⟨its,r,pl,hz⟩:=I.list hq
 obtain⟨j,h1,h2,h3,h4,h5⟩:=b8l he
 obtain⟨w,ew,rw'⟩:=r.get h2
 have hl:=r.length
 have hn:=b1p
 have fin:EP X pins σ Q w s:=⟨z,H,I,rw',q⟩
 by_cases h0:0≤i
 ·have hj:i.toNat=j:=by
   rw[seqIndex_of h0 h5] at h1
   exact Option.some.inj h1
  exact item_listR pl.isList h0 (by omega) (by rw[hj];simpa using ew) fin hs
 ·have hj:(i+(its.toArray.size:Int)).toNat=j:=by
   rw[seqIndex_neg (by omega) h4] at h1
   rw[List.size_toArray,←hl]
   exact Option.some.inj h1
  exact subscriptTail_builtinR (x:=w) pl.isList.typeIs slot_list_getitem.lookup
   (wpAny_getItem_list_neg (Q:=fun r s'=>r=w∧EP X pins σ Q r s') pl.isList (by omega) (by rw[List.size_toArray] <;> omega) (by omega) (by rw[hj];simpa using ew) ⟨rfl,fin⟩) hs
theorem d5g:IxR X (rIxT X.K):=by
 intro value slice pins s σ H x y v u Q I rx ry h hs
 obtain⟨p,xs,i,z,rfl,rfl,hq,he,q⟩:=h
 cases rx
 obtain⟨t,rfl⟩:=ry
 obtain⟨its,r,pl,hz⟩:=I.tuple hq
 obtain⟨j,h1,h2,h3,h4,h5⟩:=b8l he
 obtain⟨w,ew,rw'⟩:=r.get h2
 have hl:=r.length
 have hn:=b1p
 have fin:EP X pins σ Q w s:=⟨z,H,I,rw',q⟩
 exact subscriptTail_builtinR (x:=w) pl.typeIs slot_tuple_getitem.lookup
  (getItem_tuple (j:=j) (Q:=fun r s'=>r=w∧EP X pins σ Q r s') pl (by omega) (by omega) (by rw[List.size_toArray,←hl];exact h1) (by simpa using ew) ⟨rfl,fin⟩) hs
theorem ix_str:IxR X rIxS:=by
 intro value slice pins s σ H x y v u Q I rx ry h hs
 obtain⟨z,i,c,rfl,rfl,hz,he,q⟩:=h
 obtain⟨t,rfl⟩:=rx
 obtain⟨t',rfl⟩:=ry
 obtain⟨j,h1,h2,h3,h4,h5⟩:=b8l he
 have hl:z.cps.toList.length=z.length:=by simp[Str.length]
 rw[hl] at h1 h4 h5
 have hn:=b1p
 exact tail_any (typeIs_str s z t) slot_str_getitem.lookup (getItem_str (c:=c) (by
  have e1:decide (i < -(2 ^ 63:Int))=false:=decide_eq_false (by omega)
  have e2:decide (i≥2 ^ 63)=false:=decide_eq_false (by omega)
  rw[e1,e2,Bool.or_false]) (by rw[h1];simpa using h2) ⟨.str ⟨#[c]⟩,H,I.tok _,⟨_,rfl⟩,q⟩) hs
theorem c2b(its:List Value)(n j:Nat)(u:Value):Obj.mapSeq (·.setIfInBounds j u) { cls:=.type "list",data:=.seq its.toArray n}={ cls:=.type "list",data:=.seq (its.set j u).toArray n}:=by
 simp[Obj.mapSeq]
theorem Inv.lst{pins:List (Addr×Obj)}{σ:St}{H:Hp}{s:Shared}{p:Addr}{xs:List V}(I:Inv X pins σ H s)(h:H p=some (.lst xs)):
  ∃(its:List Value) (n:Nat),Vals xs its∧s.heap.get? p=some { cls:=.type "list",data:=.seq its.toArray n}∧xs.length≤sizeLine:=by
 obtain⟨z,its,n,r,e⟩:=I.hok p _ h
 exact⟨its,n,r,e,z⟩
theorem Inv.lstUpd{pins:List (Addr×Obj)}{σ:St}{H:Hp}{s:Shared}{p:Addr}{xs ys:List V}{its its':List Value}{n n':Nat}{f:Obj→Obj}(I:Inv X pins σ H s)(h:H p=some (.lst xs))
  (ho:s.heap.get? p=some { cls:=.type "list",data:=.seq its.toArray n}) (hf:f { cls:=.type "list",data:=.seq its.toArray n}={ cls:=.type "list",data:=.seq its'.toArray n'}) (r:Vals ys its') (hz:ys.length≤sizeLine) (t:Nat) :
  Inv X pins σ (upd H p (.lst ys)) { s with heap:=s.heap.update p f,toks:=t}:=by
 have e:(s.heap.update p f).get? p=some { cls:=.type "list",data:=.seq its'.toArray n'}:=by
  rw[Heap.get?_update_self f ho (by rw[hf] <;> rfl),hf]
 refine I.write (x:=p) (e:=p) (by rw[h];trivial) (.inl rfl) (fun b u hb q=>(Heap.get?_update_other _ _ (Ne.symm hb)).trans q) ⟨_,e⟩ ?_
 exact⟨hz,its',n',r,e⟩
noncomputable def rSetL:V→V→V→Hp→(Hp→Prop)→Prop:=fun o i v H Q=>∃p xs k j,o=.ref p∧i=.int k∧H p=some (.lst xs)∧ixN xs.length k=some j∧Q (upd H p (.lst (xs.set j v)))
theorem c8f:PSet X rSetL:=by
 intro pins s σ H o i v ov iv u Q I ro ri rv h
 obtain⟨p,xs,k,j,rfl,rfl,hp,hj,q⟩:=h
 cases ro
 obtain⟨t,rfl⟩:=ri
 obtain⟨its,n,r,ho,hz⟩:=I.lst hp
 obtain⟨h1,h2,h3,h4⟩:=b8k hj
 have hl:=r.length
 have hn:=b1p
 have I':Inv X pins σ (upd H p (.lst (xs.set j v))) { s with heap:=s.heap.update p (Obj.mapSeq (·.setIfInBounds j u))}:=
  I.lstUpd hp ho (c2b its n j u) (r.set rv j) (by rw[List.length_set];exact hz) s.toks
 by_cases h0:0≤k
 ·have hk:k.toNat=j:=by
   rw[seqIndex_of h0 h4] at h1
   exact Option.some.inj h1
  exact PySem.W.ki_setAt ho h0 (by omega) (by rw[List.size_toArray,←hl];exact h4) (by rw[hk];exact⟨_,I',q⟩)
 ·have hk:(k+(its.toArray.size:Int)).toNat=j:=by
   rw[seqIndex_neg (by omega) h3] at h1
   rw[List.size_toArray,←hl]
   exact Option.some.inj h1
  exact PySem.W.ki_setBack ho (by omega) (by rw[List.size_toArray,←hl];exact h3) (by omega) (by rw[hk];exact⟨_,I',q⟩)
theorem b6g(lo hi:Option Int)(n:Nat):(sliceBounds lo hi none n).1=((HT.sIx n 0 lo:Nat):Int)∧(sliceBounds lo hi none n).2.1=((HT.sIx n n hi:Nat):Int)∧(sliceBounds lo hi none n).2.2=1:=by
 refine⟨?_,?_,rfl⟩
 ·cases lo with
  |none=>simp[sliceBounds,HT.sIx]
  |some i=>
   simp only[sliceBounds,HT.sIx,Option.getD_none,show(1:Int) > 0 by decide,if_true]
   by_cases h:i < 0
   ·simp only[h,if_true] <;> omega
   ·simp only[h,if_false] <;> omega
 ·cases hi with
  |none=>simp[sliceBounds,HT.sIx]
  |some i=>
   simp only[sliceBounds,HT.sIx,Option.getD_none,show(1:Int) > 0 by decide,if_true]
   by_cases h:i < 0
   ·simp only[h,if_true] <;> omega
   ·simp only[h,if_false] <;> omega
theorem b4m(its:List Value)(lo hi:Option Int):slicePick its.toArray lo hi none=((its.drop (HT.sIx its.length 0 lo)).take (HT.sIx its.length its.length hi - HT.sIx its.length 0 lo)).toArray:=by
 obtain⟨h1,h2,h3⟩:=b6g lo hi its.toArray.size
 unfold slicePick
 rw[h1,h2,h3]
 simp only[sliceRange_one,pick_run,List.size_toArray] <;> rfl
noncomputable def rSlL (K:PySem.W.Frag):V→Option Int→Option Int→Hp→VK→Prop:=fun x lo hi H Q=>∃a xs,x=.ref a∧SqL K H a xs∧∀p,H p=none→Q (.ref p) (upd H p (.lst (cutV xs lo hi)))
theorem d2i:SlR X (rSlL X.K):=by
 intro pins s σ H x v vl vu lo hi sl Q I rx hs pl pu h
 obtain⟨a,xs,rfl,hx,q⟩:=h
 cases rx
 obtain⟨its,r,ht,hz⟩:=I.list hx
 have hlen:=r.length
 refine⟨"list",_,slot_list_getitem.lookup,ht.isList.typeIs,?_⟩
 refine wpAny_getItem_list_slice ht.isList hs pl pu .none (by simp) ?_ (by rw[List.size_toArray] <;> omega)
 rw[b4m,←hlen]
 refine⟨.ref s.heap.objs.size,_,I.laid (t':=s.toks) (o:=.lst (cutV xs lo hi)) (fun b ob q=>Heap.get?_push_of_some _ q) (Nat.le_refl _) ?_,rfl,q _ (I.hok.fresh (Nat.le_refl _))⟩
 exact⟨Nat.le_trans (b1q xs lo hi) hz,_,0,(r.drop (HT.sIx xs.length 0 lo)).take (HT.sIx xs.length xs.length hi - HT.sIx xs.length 0 lo),Heap.get?_push_size _ rfl⟩
noncomputable def flatV:V→Bool
 |.non=>true
 |.bl _=>true
 |.int _=>true
 |.str _=>true
 |_=>false
noncomputable def eqV:V→V→Bool
 |.non,.non=>true
 |.bl a,.bl b=>a == b
 |.bl a,.int b=>(if a then 1 else 0) == b
 |.int a,.bl b=>a == (if b then 1 else 0)
 |.int a,.int b=>a == b
 |.str a,.str b=>a == b
 |_,_=>false
theorem b6h:CallR X (.builtin "len") (fun xs H Q=>∃p ys,xs=[.ref p]∧(SqL X.K H p ys∨SqT X.K H p ys)∧Q (.int ys.length) H):=by
 intro pins s σ H xs us Q I r h
 obtain⟨p,ys,rfl,hq,q⟩:=h
 obtain⟨u,rfl,rx⟩:=vals1 r
 cases rx
 have hn:=b1p
 rcases hq with hq|hq
 ·obtain⟨its,r',pl,hz⟩:=I.list hq
  have hlen:=r'.length
  exact Calls.call_len_list pl.isList (by simp only[List.size_toArray] <;> omega) ⟨.int ys.length,H,I.tok _,⟨s.toks+1,by rw[List.size_toArray,hlen]⟩,q⟩
 ·obtain⟨its,r',pl,hz⟩:=I.tuple hq
  have hlen:=r'.length
  exact len_tuple pl (by simp only[List.size_toArray] <;> omega) ⟨.int ys.length,H,I.tok _,⟨s.toks+1,by rw[List.size_toArray,hlen]⟩,q⟩
theorem b6i:CallR X (.builtin "len") (fun xs H Q=>∃z,xs=[.str z]∧z.length≤sizeLine∧Q (.int z.length) H):=by
 intro pins s σ H xs us Q I r h
 obtain⟨z,rfl,hz,q⟩:=h
 obtain⟨u,rfl,t,rfl⟩:=vals1 r
 have hn:=b1p
 exact len_str (by omega) ⟨.int z.length,H,I.tok _,⟨_,rfl⟩,q⟩
theorem CallR.or{f:Value}{r r':List V→Hp→VK→Prop}(h:CallR X f r)(h':CallR X f r'):CallR X f (fun xs H Q=>r xs H Q∨r' xs H Q):=by
 intro pins s σ H xs us Q I rs q
 rcases q with q|q
 ·exact h pins s σ H xs us Q I rs q
 ·exact h' pins s σ H xs us Q I rs q
noncomputable def tyV (K:PySem.W.Frag) (T:String) (x:V) (H:Hp):Prop:=match x with
 |.str _=>T="str"
 |.int _=>T="int"
 |.ref p=>(T="list"∧∃xs,SqL K H p xs)∨(T="tuple"∧∃o,K.lookup p=some o∧o.cls=.type "tuple"∧o.dict=none)∨
   (T="dict"∧((∃kvs,H p=some (.dK kvs))∨(∃kvs,H p=some (.dT kvs))∨∃es ep,H p=some (.dG es ep)))∨(T="set"∧∃S n,H p=some (.set S n))
 |_=>False
theorem d0p{pins:List (Addr×Obj)}{σ:St}{H:Hp}{s:Shared}{T:String}{x:V}{v:Value}(I:Inv X pins σ H s)(r:RelV x v)(ty:tyV X.K T x H):
  s.TypeIs v T∧∀a,v=.ref a→∃ob,s.heap.get? a=some ob∧ob.dict=none:=by
 cases x with
 |str z=>
  obtain⟨t,rfl⟩:=r
  cases(show T="str" from ty)
  exact⟨typeIs_str s z t,fun _ e=>nomatch e⟩
 |int i=>
  obtain⟨t,rfl⟩:=r
  cases(show T="int" from ty)
  exact⟨typeIs_int s i t,fun _ e=>nomatch e⟩
 |ref p=>
  cases r
  rcases ty with⟨rfl,xs,hq⟩|⟨rfl,o,hk,hc,hd⟩|⟨rfl,hk⟩|⟨rfl,S,n,hk⟩
  ·obtain⟨its,_,pl,_⟩:=I.list hq
   refine⟨pl.isList.typeIs,fun a e=>?_⟩
   cases e
   obtain⟨o,n,e,c,hd,_⟩:=pl
   exact⟨o,e,hd⟩
  ·refine⟨⟨o,I.kIn p o hk,hc⟩,fun a e=>?_⟩
   cases e
   exact⟨o,I.kIn _ o hk,hd⟩
  ·have z:∃o,s.heap.get? p=some o∧o.ExactDict:=by
    rcases hk with⟨kvs,hk⟩|⟨kvs,hk⟩|⟨es,ep,hk⟩
    ·obtain⟨_,_,_,_,o,_,_,e,ex,_⟩:=I.hok p _ hk
     exact⟨o,e,ex⟩
    ·obtain⟨_,_,_,_,o,_,_,e,ex,_⟩:=I.hok p _ hk
     exact⟨o,e,ex⟩
    ·obtain⟨_,_,o,_,e,ex,_⟩:=I.hok p _ hk
     exact⟨o,e,ex⟩
   obtain⟨o,e,ex⟩:=z
   refine⟨⟨o,e,ex.1⟩,fun a e2=>?_⟩
   cases e2
   exact⟨o,e,ex.2.1⟩
  ·obtain⟨o,_,_,_,e,ex,_⟩:=I.hok p _ hk
   refine⟨⟨o,e,ex.1⟩,fun a e2=>?_⟩
   cases e2
   exact⟨o,e,ex.2.1⟩
 |_=>exact False.elim ty
noncomputable def tBM0 (K:PySem.W.Frag) (T:String) (r:V→List V→Hp→VK→Prop) (to:TE):TE:=fun σ H Q=>to σ H fun x H1=>tyV K T x H1∧r x [] H1 Q
noncomputable def tBM (K:PySem.W.Frag) (T:String) (r:V→List V→Hp→VK→Prop) (to:TE) (t:TA):TE:=fun σ H Q=>to σ H fun x H1=>tyV K T x H1∧t σ H1 fun xs H2=>r x xs H2 Q
variable {o e:Expr} {es:List Expr} {to:TE} {t:TA} {name:Str} {apos cpos:Pos} {T id:String} {r:V→List V→Hp→VK→Prop}
theorem d5h(pa:PlainAttrs T)(slot:Slot T name id)(hty:typeOf (.builtin id)=pure (.type "method_descriptor"))(hm:MtR X id r)(ho:PE X o to)
  (hbase:attributeBase o name X.env (eval o X.env)=eval o X.env:=by rfl) (hline:(apos.endLine == cpos.line)=true:=by rfl):PE X (.Call (.Attribute o name apos) [] [] cpos) (tBM0 X.K T r to):=by
 intro pins s σ H Q I h
 refine wpAny_Call_method0_late hbase hline (thn (ho pins s σ H _ I h) fun v s1 hh=>?_)
 obtain⟨x,H1,I1,r1,ty,q1⟩:=hh
 obtain⟨h1,h2⟩:=d0p I1 r1 ty
 exact⟨T,id,pa,slot,hty,h1,h2,Calls.callWith_builtin rfl (PySem.evalArgs_none (hm pins s1 σ H1 x [] v [] Q I1 r1 .nil q1))⟩
theorem b8m(pa:PlainAttrs T)(slot:Slot T name id)(hty:typeOf (.builtin id)=pure (.type "method_descriptor"))(hm:MtR X id r)(ho:PE X o to)(ha:PA X (e::es) t)
  (hbase:attributeBase o name X.env (eval o X.env)=eval o X.env:=by rfl)
  (hfew:((backTo cpos (starEach (e::es) X.env)).all (fun x => !x.1) && (backToKw cpos (keywordEach [] X.env)).all (fun x=>x.1.isSome)
   && decide ((e::es).length+([]:List Keyword).length+(if([]:List Keyword).isEmpty then 0 else 1) < 30))=true:=by rfl)
  (hline:(apos.endLine == cpos.line)=true:=by rfl) (hs:starEach (e::es) X.env=(false,eval e X.env)::starEach es X.env:=by rfl) (hplain:(backTo cpos (starEach es X.env)).any (·.1)=false:=by rfl) :
  PE X (.Call (.Attribute o name apos) (e::es) [] cpos) (tBM X.K T r to t):=by
 intro pins s σ H Q I h
 refine wpAny_Call_method_late hbase hfew hline rfl (thn (ho pins s σ H _ I h) fun v s1 hh=>?_)
 obtain⟨x,H1,I1,r1,ty,q1⟩:=hh
 obtain⟨h1,h2⟩:=d0p I1 r1 ty
 refine⟨T,id,pa,slot,hty,h1,h2,?_⟩
 have hA:=ha cpos pins s1 σ H1 _ I1 q1
 rw[hs] at hA ⊢
 refine Calls.callWith_builtin (by show(false || (backTo cpos (starEach es X.env)).any (·.1))=false;rw[hplain] <;> rfl) (Calls.evalArgs_plain ?_)
 exact thn hA fun us s2 ⟨vs,H2,I2,r2,q2⟩=>hm pins s2 σ H2 x vs v us Q I2 r1 r2 q2
end
end L2
namespace L2
open PySem PySem.Spec PyProof.Rows
noncomputable def MtM (X:Cx) (id:String) (r:V→List V→Hp→VK→Prop):Prop:=
 ∀(pins:List (Addr×Obj)) (s:Shared) (σ:St) (H:Hp) (x:V) (xs:List V) (v:Value) (us:List Value) (Q:VK),Inv X pins σ H s→RelV x v→Vals xs us→r x xs H Q→
  wpAny (model X.prog X.w) X.A (call (.builtin id) (v::us)) (EP X pins σ Q) X.xe s
theorem Vals.one{x:V}{us:List Value}(h:Vals [x] us):∃u,us=[u]∧RelV x u:=by
 cases h with
 |cons r t=>
  cases t
  exact⟨_,rfl,r⟩
theorem Vals.two{x y:V}{us:List Value}(h:Vals [x,y] us):∃u v,us=[u,v]∧RelV x u∧RelV y v:=by
 cases h with
 |cons r t=>
  obtain⟨v,rfl,q⟩:=Vals.one t
  exact⟨_,_,rfl,r,q⟩
theorem Vals.zero:∀{us:List Value},Vals [] us→us=[]
 |_,.nil=>rfl
theorem Vals.dropLast{xs:List V}{us:List Value}(h:Vals xs us):Vals xs.dropLast us.dropLast:=by
 induction h with
 |nil=>exact .nil
 |cons r t ih=>
  cases t with
  |nil=>exact .nil
  |cons q t'=>exact .cons r ih
theorem Vals.eraseIdx:∀{xs:List V} {us:List Value} (i:Nat),Vals xs us→Vals (xs.eraseIdx i) (us.eraseIdx i)
 |_,_,_,.nil=>.nil
 |_,_,0,.cons _ t=>t
 |_,_,i+1,.cons r t=>.cons r (Vals.eraseIdx i t)
theorem c2c{α:Type}(l:List α):l.eraseIdx (l.length - 1)=l.dropLast:=by
 induction l with
 |nil=>rfl
 |cons a r ih=>
  cases r with
  |nil=>rfl
  |cons b r=>
   have e:(a::b::r).length - 1=((b::r).length - 1)+1:=by
    have h1:(a::b::r).length=r.length+2:=rfl
    have h2:(b::r).length=r.length+1:=rfl
    omega
   rw[e,List.eraseIdx_cons_succ,ih]
   all_goals rfl
theorem b6j{α:Type}:∀(l:List α) (i:Nat),(l.eraseIdx i).length≤l.length
 |[],_=>Nat.le_refl _
 |_::_,0=>Nat.le_succ _
 |_::r,i+1=>Nat.succ_le_succ (b6j r i)
section
variable {X:Cx} {pins:List (Addr×Obj)} {σ:St} {H:Hp} {s:Shared} {l b:Addr} {xs ys zs:List V}
theorem Inv.lset{its its':List Value}{n:Nat}{f:Array Value→Array Value}{t':Nat}(I:Inv X pins σ H s)(hH:H l=some (.lst xs))
  (e:s.heap.get? l=some { cls:=.type "list",data:=.seq its.toArray n}) (hf:f its.toArray=its'.toArray) (hv:Vals ys its') (hz:ys.length≤sizeLine) :
  Inv X pins σ (upd H l (.lst ys)) { s with heap:=s.heap.update l (Obj.mapSeq f),toks:=t'}:=by
 have q:=PySem.IsL.update e f
 rw[hf] at q
 refine I.write (x:=l) (e:=l) (by rw[hH];exact trivial) (.inl rfl) (fun b' u hb hu=>(Heap.get?_update_other s.heap (Obj.mapSeq f) (Ne.symm hb)).trans hu) ⟨_,q⟩ ?_
 exact⟨hz,its',_,hv,q⟩
theorem Inv.lnew{its:List Value}{t':Nat}(I:Inv X pins σ H s)(hv:Vals ys its)(hz:ys.length≤sizeLine):
  Inv X pins σ (upd H s.heap.objs.size (.lst ys)) { s with heap:=s.heap.push { cls:=.type "list",data:=.seq its.toArray},toks:=t'}:=
 I.laid (fun _ _ q=>Heap.get?_push_of_some _ q) (Nat.le_refl _) ⟨hz,its,0,hv,Heap.get?_push_size _ rfl⟩
theorem Inv.fresh(I:Inv X pins σ H s):H s.heap.objs.size=none:=I.hok.fresh (Nat.le_refl _)
theorem Inv.lstM(I:Inv X pins σ H s)(hH:H l=some (.lst xs)):xs.length≤sizeLine∧∃(its:List Value) (n:Nat),Vals xs its∧xs.length=its.length∧s.heap.get? l=some { cls:=.type "list",data:=.seq its.toArray n}:=by
 obtain⟨z,its,n,r,e⟩:=I.hok l _ hH
 exact⟨z,its,n,r,r.length,e⟩
end
section
variable {X:Cx}
noncomputable def b8n:V→List V→Hp→VK→Prop:=fun x vs H Q=>∃l xs y,x=.ref l∧vs=[y]∧H l=some (.lst xs)∧xs.length < sizeLine∧Q .non (upd H l (.lst (xs++[y])))
theorem a6i:MtM X "list.append" b8n:=by
 intro pins s σ H x vs v us Q I rx rv h
 obtain⟨l,xs,y,rfl,rfl,hH,hz,q⟩:=h
 cases rx
 obtain⟨u,rfl,ru⟩:=rv.one
 obtain⟨z,its,n,r,hl,e⟩:=I.lstM hH
 refine call_meets F.slot_list_append ⟨_,e,rfl⟩ F.entry_list_append (F.args_list_append_2 _ _) (PySem.list_append l its.toArray n u (by rw[List.size_toArray];omega)) ⟨e,?_⟩
 refine⟨.non,_,I.lset (its':=its++[u]) hH e (by simp) (r.append (.cons ru .nil)) ?_,rfl,q⟩
 rw[List.length_append,List.length_singleton]
 omega
noncomputable def rPop:V→List V→Hp→VK→Prop:=fun x vs H Q=>∃l xs y,x=.ref l∧vs=[]∧H l=some (.lst xs)∧xs[xs.length - 1]?=some y∧Q y (upd H l (.lst xs.dropLast))
theorem d5i:MtM X "list.pop" rPop:=by
 intro pins s σ H x vs v us Q I rx rv h
 obtain⟨l,xs,y,rfl,rfl,hH,hy,q⟩:=h
 cases rx
 have hus:=rv.zero
 subst hus
 obtain⟨z,its,n,r,hl,e⟩:=I.lstM hH
 obtain⟨u,hu,ru⟩:=r.get hy
 have hy':its.toArray[its.toArray.size - 1]?=some u:=by
  show its.toArray[its.length - 1]?=some u
  rw[←Array.getElem?_toList,←hl]
  exact hu
 refine call_meets F.slot_list_pop ⟨_,e,rfl⟩ F.entry_list_pop (F.args_list_pop_1 _) (MeetsSeq.list_pop_last l its.toArray n u hy' (by rw[List.size_toArray];omega)) ⟨e,?_⟩
 refine⟨y,_,I.lset (its':=its.dropLast) hH e ?_ r.dropLast ?_,ru,q⟩
 ·show its.toArray.eraseIdxIfInBounds (its.toArray.size - 1)=its.dropLast.toArray
  rw[List.size_toArray,List.eraseIdxIfInBounds_toArray,c2c]
 ·rw[List.length_dropLast]
  omega
noncomputable def c3n:V→List V→Hp→VK→Prop:=fun x vs H Q=>∃l xs i k y,x=.ref l∧vs=[.int i]∧H l=some (.lst xs) ∧ -(2 ^ 63)≤i∧i < 2 ^ 63∧seqIndex? i xs.length=some k∧xs[k]?=some y∧Q y (upd H l (.lst (xs.eraseIdx k)))
theorem b9x:MtM X "list.pop" c3n:=by
 intro pins s σ H x vs v us Q I rx rv h
 obtain⟨l,xs,i,k,y,rfl,rfl,hH,h1,h2,hk,hy,q⟩:=h
 cases rx
 obtain⟨u,rfl,ru⟩:=rv.one
 obtain⟨t,rfl⟩:=ru
 obtain⟨z,its,n,r,hl,e⟩:=I.lstM hH
 obtain⟨w,hw,rw'⟩:=r.get hy
 refine call_meets F.slot_list_pop ⟨_,e,rfl⟩ F.entry_list_pop (F.args_list_pop_2 _ _)
  (MeetsSeq.list_pop_at l its.toArray n i t k w (fitsIndex_both h1 h2) (by rw[List.size_toArray,←hl];exact hk) (by rw[←Array.getElem?_toList];exact hw) (by rw[List.size_toArray];omega)) ⟨e,?_⟩
 refine⟨y,_,I.lset (its':=its.eraseIdx k) hH e ?_ (r.eraseIdx k) ?_,rw',q⟩
 ·show its.toArray.eraseIdxIfInBounds k=(its.eraseIdx k).toArray
  rw[List.eraseIdxIfInBounds_toArray]
 ·have:=b6j xs k
  omega
end
section
variable {prog:Program} {w:World} {A:Around} {E:Value→Shared→Prop} {s:Shared}
end
section
variable {X:Cx}
end
end L2
namespace L2
open PySem PySem.Spec PyProof.Rows
section
variable {κ:Type} [DecidableEq κ]
theorem RelO.isSome_eq{o:Option V}{u:Option Value}(r:RelO o u):o.isSome=u.isSome:=by
 cases o with
 |none=>cases u with
  |none=>rfl
  |some _=>exact(show False from r).elim
 |some _=>cases u with
  |none=>exact(show False from r).elim
  |some _=>rfl
end
section
variable {P:Program} {w:World} {H:Hp} {h:Heap} {a:Addr}
end
section
variable {X:Cx} {pins:List (Addr×Obj)} {σ:St} {H:Hp} {s:Shared} {a:Addr} {y v:V} {u r:Value} {o:Option V} {A:Around} {E:Value→Shared→Prop}
theorem Inv.big(I:Inv X pins σ H s):sysModules < s.heap.objs.size:=by
 have h:mainGlobals < s.heap.objs.size:=(I.mod.glob.keeps I.bk).lt
 exact Nat.lt_trans (by decide) h
theorem c3o{h':Heap}{t':Nat}{ob:HO}(I:Inv X pins σ H s)(mu:Mut (H a))(hs:Heap.SameBut a s.heap h')(he:∃q,h'.get? a=some q)(new:ObjOk X.prog X.w (upd H a ob) h' a ob):
  Inv X pins σ (upd H a ob) { s with heap:=h',toks:=t'}:=
 I.write (x:=a) (e:=a) mu (.inl rfl) (fun b q hb z=>(hs.2 b hb).trans z) he new
end
section
variable {X:Cx} {pins:List (Addr×Obj)} {σ:St} {H:Hp} {s:Shared} {a:Addr} {kvs:List (Key×V)} {k:Key} {u:Value} {A:Around} {E:Value→Shared→Prop}
end
section
variable {X:Cx} {o i e value:Expr} {pos pos' tpos:Pos} {td ty tv:TE}
end
section
variable {X:Cx} {pos:Pos}
end
structure M1 (X:Cx) (o:Expr) (m:Str) (apos:Pos) (e:Expr) (cpos:Pos):Prop where
 base:attributeBase o m X.env (eval o X.env)=eval o X.env
 few:((backTo cpos (starEach [e] X.env)).all (fun x => !x.1) && (backToKw cpos (keywordEach [] X.env)).all (fun x=>x.1.isSome)
  && decide (([e]:List Expr).length+([]:List Keyword).length+(if([]:List Keyword).isEmpty then 0 else 1) < 30))=true
 line:(apos.endLine == cpos.line)=true
 trees:backTo cpos (starEach [e] X.env)=[(false,eval e X.env)]
structure M2 (X:Cx) (o:Expr) (m:Str) (apos:Pos) (e f:Expr) (cpos:Pos):Prop where
 base:attributeBase o m X.env (eval o X.env)=eval o X.env
 few:((backTo cpos (starEach [e,f] X.env)).all (fun x => !x.1) && (backToKw cpos (keywordEach [] X.env)).all (fun x=>x.1.isSome)
  && decide (([e,f]:List Expr).length+([]:List Keyword).length+(if([]:List Keyword).isEmpty then 0 else 1) < 30))=true
 line:(apos.endLine == cpos.line)=true
 trees:backTo cpos (starEach [e,f] X.env)=[(false,eval e X.env),(false,eval f X.env)]
section
variable {X:Cx} {pins:List (Addr×Obj)} {σ:St} {H:Hp} {s:Shared} {a:Addr} {y d:V} {u r:Value} {o:Option V} {A:Around} {E:Value→Shared→Prop}
end
section
variable {X:Cx} {o e f:Expr} {apos cpos:Pos} {td ty tx:TE}
end
section
variable {X:Cx} {pins:List (Addr×Obj)} {σ:St} {H:Hp} {s:Shared} {a:Addr} {kvs:List (Key×V)} {A:Around} {E:Value→Shared→Prop}
end
section
variable {X:Cx} {pins:List (Addr×Obj)} {σ:St} {H:Hp} {s:Shared} {a:Addr} {y:V} {u:Value} {A:Around} {E:Value→Shared→Prop}
end
end L2
namespace Att
open PySem PySem.W PySem.Calls PyProof.Rows
theorem b1r{P:Params}{h:Heap}:∀(ns:List Int) (vs:List Value),WellAll P h vs (ns.map WData.int)→IntsAre vs ns:=by
 intro ns
 induction ns with
 |nil=>
  intro vs w
  rw[List.map_nil] at w
  cases w
  exact .nil
 |cons n ns ih=>
  intro vs w
  rw[List.map_cons] at w
  cases w with
  |cons a b=>
   cases a
   exact .cons _ _ (ih _ b)
theorem c3p{l:OpenLaw}{n:Nat}(hn:l.most=some n){P:Params}{h:Heap}{args:List WData}{vals:List Value}
  (hpre:l.row.toRowW.claim.pre args=true) (hwl:WellAll P h vals args) :
  ∃a vs ns,vals=[Value.ref a]∧args=[WData.list (ns.map WData.int)]∧h.get? a=some { cls:=.type "list",data:=.seq vs.toArray}∧IntsAre vs ns∧ns.length≤n:=by
 have hsh:WShape.hasAll [] args [.list .int]=true:=(pre_splitW hpre).1
 have hc:l.pre.holds [] { args:=args}=true:=(pre_splitW hpre).2
 obtain⟨d,r,rfl,h1,h2⟩:=hasAllW_cons hsh
 obtain rfl:=hasAllW_nil h2
 obtain⟨xs,rfl,h3⟩:=hasW_list h1
 obtain⟨ns,rfl⟩:=items_int h3
 have hlen:ns.length≤n:=by
  unfold OpenLaw.pre at hc
  have h4:(WTm.not (.lt (.lit (.int (n:Int))) (.len (.arg 0)))).holds [] { args:=[.list (ns.map .int)]}=true:=by
   have h4:=(holds_andW hc).1
   rw[hn] at h4
   exact h4
  have h5:=condW_of h4 (w_not (w_lt w_lit (w_len_list (w_arg rfl))))
  rw[List.length_map] at h5
  refine Nat.le_of_not_lt fun q=>?_
  have q':(n:Int) < ((ns.length:Nat):Int):=by omega
  first
   |(rw[decide_eq_true q'] at h5;exact absurd h5 (by decide))
   |(simp at h5;omega)
 cases hwl with
 |cons w1 w2=>
  cases w2
  cases w1 with
  |list ho hall=>exact⟨_,_,ns,rfl,rfl,ho,b1r ns _ hall,hlen⟩
theorem c3q(l:OpenLaw)(args:List WData):l.row.toRowW.claim.post args (.bool true) args=true:=
 postW_of (r:=l.row.toRowW) (X:=(true == true))
  (show WShape.has [] (.bool true) .bool=true by first|rfl|decide|simp[WShape.has,WShape.arms,WShape.armsAll])
  (show(WTm.eq .res (.lit (.bool true))).value [] { args:=args,res:=some (.bool true),after:=args}=some (.bool (true == true)) from w_eq_bool (w_res rfl) w_lit) rfl
theorem attach_call{l:OpenLaw}{n:Nat}{q:Program}{loose:List Str}{XP:(Str→Option Value)→Heap→Prop}{YP:World→Heap→Prop}{d:DefRec}
  (hn:l.most=some n) (hdf:d.params.defaults=[])
  (call:∀(w:World) (s₀ s₁:Shared) (mg mb:Str→Option Value) (fa:Addr) (o:Obj) (pm cd doc:Value) (a:Addr) (vs:List Value) (ns:List Int),
   Ground q loose [] XP w s₀ mg mb s₁.heap→YP w s₁.heap→
   s₁.heap.get? fa=some o→o.data=.func (docDef d.name d.params d.body d.scope pm cd doc)→s₁.heap.CodeRec cd d.name→mg d.name=some (.ref fa)→
   s₁.heap.get? a=some { cls:=.type "list",data:=.seq vs.toArray}→IntsAre vs ns→ns.length≤n→s₁.gens=#[]→
   codeAny (model l.prog w) callerA (.call (.ref fa) ⟨[.ref a],[]⟩) (fun r s'=>r=.ok (.ret (.bool true))∧OldK s₁.heap s'.heap∧s'.os=s₁.os∧AllBare s'.gens) s₁) :
  WalkO q loose XP YP l.row.toRowW d [] (fun f vs=>PySem.call f vs):=by
 intro w s₀ s₁ mg mb G Y fa o pm cd doc dV kV ho hd hcd hD hmg hg args vals as hpre hlay hrd hwl hlo
 obtain rfl:dV=.none:=Dflts.none hD hdf
 obtain rfl:kV=.none:=Dflts.noKw hD
 obtain⟨a,vs,ns,rfl,rfl,hobj,hints,hlen⟩:=c3p hn hpre hwl
 refine enter_call (codeAny_mono (call w s₀ s₁ mg mb fa o pm cd doc a vs ns G Y ho (fd_plain hd) hcd hmg hobj hints hlen hg) fun r s' hq=>?_)
 obtain⟨rfl,h2,h3,h4⟩:=hq
 exact⟨.inl ⟨.bool true,.bool true,[],rfl,fun _=>rfl,.bool true,c3q l _,fun _=>⟨List.Pairwise.nil,fun _ hm=>(nomatch hm)⟩⟩,h2,h3,h4⟩
section
variable {prog:Program} {w:World} {A:Around} {E:Value→Shared→Prop} {s:Shared} {K:Frag}
end
end Att
namespace L2
open PySem PySem.Spec PyProof.Rows
theorem b6k:∀{vs:List Value} {ns:List Int},IntsAre vs ns→Vals (ns.map V.int) vs
 |_,_,.nil=>.nil
 |_,_,.cons n t h=>.cons ⟨t,rfl⟩ (b6k h)
noncomputable def Only (H:Hp):Prop:=∀b,H b=none∨∃o xs,H b=some (.frz o (.lst xs))
theorem c8g{P:Program}{w:World}{K:PySem.W.Frag}{mg mb:Str→Option Value}{CX:CXT}{k:Nat}{fa a:Addr}{fd:FuncData}{x:Str}{sp:Sp}{s₁:Shared}{vs:List Value}{ns:List Int}
  (KX:K.In s₁.heap) (hns:s₁.heap.Ns mainGlobals mg) (hb:s₁.heap.Ns builtinsNs mb) (hbb:∀x:Str,x≠"__name__"→mb x=bootBuiltins x) (hlim:s₁.heap.NoLimit) (hg:s₁.gens=#[])
  (ha:s₁.heap.get? a=some { cls:=.type "list",data:=.seq vs.toArray}) (hi:IntsAre vs ns) (hl:ns.length≤sizeLine) (hr:Room k callerA)
  (F:∀base:Heap,K.In base→base.Ns mainGlobals mg→FnOk P w K mg base CX k fa fd [x] sp) (hbind:∀(s:Shared) (u:Value),BindsTo s fd ⟨[u],[]⟩ [(x,u)])
  (hsp:∀H:Hp,Only H→SqL K H a (ns.map V.int)→sp [.ref a] H (fun v _=>v=.bl true) fun _ _ _=>False)
  (hCX:∀H e s',CX [] H s₁ (fun _ _ _=>False) e s'→False) :
  codeAny (model P w) callerA (.call (.ref fa) ⟨[.ref a],[]⟩) (fun r s'=>r=.ok (.ret (.bool true))∧OldK s₁.heap s'.heap∧s'.os=s₁.os∧AllBare s'.gens) s₁:=by
 have rv:=b6k hi
 have lenV:=hi.length
 have core:∀H:Hp,Only H→SqL K H a (ns.map V.int)→HOk P w H s₁.heap→(∀b,H b≠none→b=a)→(H a≠none→K.lookup a=none)→
   codeAny (model P w) callerA (.call (.ref fa) ⟨[.ref a],[]⟩) (fun r s'=>r=.ok (.ret (.bool true))∧OldK s₁.heap s'.heap∧s'.os=s₁.os∧AllBare s'.gens) s₁:=by
  intro H hO hS hok hA hK
  have base_of:∀{b:Addr} {o:Obj},s₁.heap.get? b=some o→H b=none→(hidT s₁.heap H).get? b=some o:=fun e n=>c7u e n
  have noA:∀{b:Addr} {o:Obj} {es:Array DictEntry} {ep:Nat},s₁.heap.get? b=some o→o.data=.dict es ep→H b=none:=fun{b o es ep} e d=>by
   cases q:H b with
   |none=>rfl
   |some u=>
    have e':b=a:=hA b (by rw[q];simp)
    subst e'
    rw[ha] at e;cases e
    have d':Data.seq vs.toArray _=Data.dict es ep:=d
    cases d'
  have nsK:∀{b:Addr} {m:Str→Option Value},s₁.heap.Ns b m→(hidT s₁.heap H).Ns b m:=fun{b m} ⟨o,es,ep,e,d,r⟩=>⟨o,es,ep,base_of e (noA e d),d,r⟩
  have hKb:K.In (hidT s₁.heap H):=fun b o e=>base_of (KX b o e) (by
   cases q:H b with
   |none=>rfl
   |some u=>
    have e':b=a:=hA b (by rw[q];simp)
    subst e'
    rw[hK (by rw[q];simp)] at e;cases e)
  have hM:Mod K mg (hidT s₁.heap H):=⟨hKb,nsK hns,⟨mb,nsK hb,hbb⟩,let ⟨mc,h1,h2⟩:=hlim;⟨mc,nsK h1,h2⟩⟩
  have e0:Env0 P w K mg (hidT s₁.heap H) callerA [] s₁ H:=⟨rfl,hM,fun b o e=>d1u e,Nat.le_of_eq (c2z _ _),trivial,fun b hb=>absurd (show b∈([]:List Addr) from hb) (by simp),hok,.of_eq hg⟩
  refine codeAny_mono ((F _ hKb (nsK hns)).run callerA [] s₁ H ⟨[.ref a],[]⟩ [.ref a] [.ref a] _ _ hr e0 (hbind s₁ (.ref a)) (.cons rfl .nil) (hsp H hO hS)) fun r s' h=>?_
  cases r with
  |error e=>exact(hCX H e s' h).elim
  |ok fl=>
   cases fl with
   |next=>exact False.elim h
   |brk=>exact False.elim h
   |cont=>exact False.elim h
   |ret u=>
    obtain⟨v,H',os,bare,un,hok',r',q⟩:=h
    have q':v=.bl true:=q
    subst q'
    obtain rfl:u=Value.bool true:=r'
    refine⟨rfl,OldK.of_keep fun b o e=>?_,os,bare⟩
    cases q:H b with
    |none=>exact un.keep b o e q (by intro z;exact absurd (show b∈([]:List Addr) from z) (by simp)) (by simp)
    |some u=>
     rcases hO b with z|⟨ob,xs,z⟩
     ·rw[q] at z;cases z
     ·have z2:=un.frzs b ob _ z
      obtain⟨e1,_⟩:=hok b _ z
      obtain⟨e2,_⟩:=hok' b _ z2
      rw[e] at e1;cases e1
      exact e2
 cases hk:K.lookup a with
 |some o=>
  have e:=KX a o hk
  rw[ha] at e
  cases e
  refine core (fun _=>none) (fun _=>.inl rfl) (.inr ⟨_,vs.toArray,_,hk,rfl,rfl,rfl,by rw[List.size_toArray,lenV];exact hl,by simpa using rv⟩) (fun b u z=>by have z':(none:Option HO)=some u:=z;cases z') (fun b z=>absurd rfl z) fun z=>absurd rfl z
 |none=>
  refine core (fun b=>if b=a then some (.frz { cls:=.type "list",data:=.seq vs.toArray} (.lst (ns.map V.int))) else none) (fun b=>?_) (.inl (.inr ⟨{ cls:=.type "list",data:=.seq vs.toArray},if_pos rfl⟩)) (fun b u z=>?_) (fun b z=>?_) fun _=>hk
  ·by_cases hb:b=a
   ·exact .inr ⟨_,_,if_pos hb⟩
   ·exact .inl (if_neg hb)
  ·by_cases hb:b=a
   ·have z':=(if_pos hb).symm.trans z
    cases z'
    subst hb
    exact⟨ha,by rw[List.length_map];exact hl,vs,_,rv,ha⟩
   ·have z':=(if_neg hb).symm.trans z
    cases z'
  ·by_cases hb:b=a
   ·exact hb
   ·exact absurd (if_neg hb) z
end L2
namespace L2
open PySem PySem.Spec PyProof.Rows
end L2
namespace L2
open PySem PySem.Spec PyProof.Rows
noncomputable def b0a (s:Stmt):Arguments:=match s with
 |.FunctionDef _ a _ _ _ _ _ _ _ _=>a
 |_=>{ posonlyargs:=[],args:=[],vararg:=none,kwonlyargs:=[],kw_defaults:=[],kwarg:=none,defaults:=[]}
noncomputable def a6r (s:Stmt):List Stmt:=match s with
 |.FunctionDef _ _ b _ _ _ _ _ _ _=>b
 |_=>[]
noncomputable def a0l (s:Stmt):Scope:=match s with
 |.FunctionDef _ _ _ _ _ _ sc _ _ _=>sc
 |_=>{ kind:=.function,names:=[],isGenerator:=false,isCoroutine:=false}
noncomputable abbrev CX0:CXT:=fun _ _ _ _ _ _=>False
noncomputable abbrev E0:XK:=fun _ _ _=>False
theorem pass0{X:Cx}:c3i CX0 X E0:=fun _ _ _ _ _ _ _ h=>h.elim
structure Fun (K:PySem.W.Frag) (x qual:Str) (st:Stmt) (f:Addr) (fd:FuncData):Prop where
 ex:∃(oc:Value) (od:Option Addr) (kV doc pm:Value) (an:Option Addr) (cdv ct:Value) (osl:Array (Option Value)),
  fd=PySem.W.fnOf x qual (b0a st) (a6r st) (a0l st) .none kV doc pm an cdv ct∧K.lookup f=some ⟨oc,od,.func fd,osl⟩∧PySem.W.codeIn K cdv qual=true
 kp:PySem.W.keepIn K (.ref f)=true
section
variable {P:Program} {w:World} {K:PySem.W.Frag} {mg:Str→Option Value} {base:Heap}
theorem Fun.ok{x qual:Str}{st:Stmt}{f:Addr}{fd:FuncData}{N ps:List Str}{k:Nat}{sp:Sp}(F:Fun K x qual st f fd)(S:FnScope N ps (a0l st))(len:∀vs H Q E,sp vs H Q E→vs.length=ps.length)
  (hbody:∀(cdv:Value) (A:Around) (outer:List Env) (s:Shared) (H:Hp) (vs:List V) (Q:VK) (E:XK),Room k (A.deeper (envOfC qual (a0l st) s.heap.objs.size f cdv))→sp vs H Q E→
   ∃t,PSs (cxOf CX0 P w K mg base N qual (a0l st) f cdv A outer s H E).nox (a6r st) t∧t { nx:=fun _ H'=>Q .non H',rt:=Q} (start N vs) H):FnOk P w K mg base CX0 (k+1) f fd ps sp:=by
 obtain⟨oc,od,kV,doc,pm,an,cdv,ct,osl,rfl,lk,hcd⟩:=F.ex
 refine d7v lk hcd S len fun A outer s H vs Q E hr hsp=>?_
 obtain⟨t,h,q⟩:=hbody cdv A outer s H vs Q E hr hsp
 exact⟨t,h.nox,q⟩
theorem Fun.binds{x qual:Str}{st:Stmt}{f:Addr}{fd:FuncData}{ps:List Str}(F:Fun K x qual st f fd)
  (h:∀(kV doc pm:Value) (an:Option Addr) (cdv ct:Value) (us:List Value),us.length=ps.length→bindArgs (PySem.W.fnOf x qual (b0a st) (a6r st) (a0l st) .none kV doc pm an cdv ct) ⟨us,[]⟩=pure (ps.zip us)):Binds K fd ps []:=by
 obtain⟨oc,od,kV,doc,pm,an,cdv,ct,osl,rfl,lk,hcd⟩:=F.ex
 exact .all (h kV doc pm an cdv ct)
theorem d5j{x qual:Str}{st:Stmt}{f:Addr}{oc:Value}{od an:Option Addr}{osl:Array (Option Value)}{kV doc pm cdv ct:Value}(l:K.lookup f=some ⟨oc,od,.func (PySem.W.fnOf x qual (b0a st) (a6r st) (a0l st) .none kV doc pm an cdv ct),osl⟩)
  (c:PySem.W.codeIn K cdv qual=true) (k:PySem.W.keepIn K (.ref f)=true):Fun K x qual st f (PySem.W.fnOf x qual (b0a st) (a6r st) (a0l st) .none kV doc pm an cdv ct):=⟨⟨oc,od,kV,doc,pm,an,cdv,ct,osl,rfl,l,c⟩,k⟩
end
theorem a6c{A:Around}{k:Nat}(hr:Room k A):A.units+1 < cLine:=Nat.lt_of_le_of_lt (Nat.add_le_add_left (by decide:1≤64) _) hr.units
section
variable {X:Cx}
theorem pv(i:Nat){x:Str}{pos:Pos}(hN:X.N[i]?=some x:=by rfl)(hv:Vis X.env.scope x:=by first|exact Or.inl rfl|exact Or.inr (Or.inl rfl)|exact Or.inr (Or.inr rfl))(hd:(x == ("__debug__":Str))=false:=by decide)
  (hcd:(x == ("__classdict__":Str))=false:=by decide):PE X (.Name x pos) (tVar i):=d4o hN hv hd hcd
end
theorem iteF{A B:Prop}(h:B):if false=true then A else B:=by
 rw[if_neg Bool.false_ne_true]
 exact h
theorem iteT{A B:Prop}(h:A):if true=true then A else B:=by
 rw[if_pos rfl]
 exact h
noncomputable def Same (H H':Hp):Prop:=∀b o,H b=some o→H' b=some o
theorem Same.refl(H:Hp):Same H H:=fun _ _ h=>h
theorem Same.trans{H H1 H2:Hp}(a:Same H H1)(b:Same H1 H2):Same H H2:=fun c o h=>b c o (a c o h)
theorem Same.free{H H':Hp}(e:Same H H'){l:Addr}(h:H' l=Option.none):H l=Option.none:=by
 cases q:H l with
 |none=>rfl
 |some o=>
  rw[e l o q] at h
  cases h
theorem Same.seq{K:PySem.W.Frag}{H H':Hp}{a:Addr}{xs:List V}(e:Same H H')(h:SqL K H a xs):SqL K H' a xs:=by
 rcases h with(h|⟨o,h⟩)|h
 ·exact .inl (.inl (e _ _ h))
 ·exact .inl (.inr ⟨o,e _ _ h⟩)
 ·exact .inr h
section
variable {κ:Type} [DecidableEq κ]
end
end L2
set_option maxHeartbeats 4000000
namespace L2
open PySem PySem.Spec PyProof.Rows
noncomputable def clOf (env:Env) (names:List (Str×NameKind)):List (Str×Addr):=((names.filter fun y=>y.2 == .free).reverse).map fun y=>(y.1,(env.cells.lookup y.1).getD 0)
theorem b1s{g:Str→Addr}{x:Str}:∀{l:List (Str×NameKind)},(∃k,(x,k)∈l)→(l.map fun y=>(y.1,g y.1)).lookup x=some (g x)
 |[],h=>by obtain⟨k,h⟩:=h;cases h
 |(n,k)::r,h=>by
  show List.lookup x ((n,g n)::_)=_
  cases hx:x == n with
  |true=>
   have e:x=n:=by simpa using hx
   subst e
   simp[List.lookup_cons]
  |false=>
   simp only[List.lookup_cons,hx]
   refine b1s (l:=r) ?_
   obtain⟨k',h⟩:=h
   rcases List.mem_cons.mp h with e|e
   ·cases e;simp at hx
   ·exact⟨k',e⟩
theorem a8l{g:Str→Addr}{x:Str}{c:Addr}:∀{l:List (Str×NameKind)},(l.map fun y=>(y.1,g y.1)).lookup x=some c→c=g x∧∃k,(x,k)∈l
 |[],h=>by cases h
 |(n,k)::r,h=>by
  have h:List.lookup x ((n,g n)::(r.map fun y=>(y.1,g y.1)))=some c:=h
  cases hx:x == n with
  |true=>
   have e:x=n:=by simpa using hx
   subst e
   simp only[List.lookup_cons,hx] at h
   exact⟨(Option.some.inj h).symm,k,List.mem_cons_self⟩
  |false=>
   simp only[List.lookup_cons,hx] at h
   obtain⟨e,k',hk⟩:=a8l h
   exact⟨e,k',List.mem_cons_of_mem _ hk⟩
theorem b9y{env:Env}{names:List (Str×NameKind)}{x:Str}(h:(x,NameKind.free)∈names){c:Addr}(hc:env.cells.lookup x=some c):(clOf env names).lookup x=some c:=by
 have:=b1s (g:=fun n=>(env.cells.lookup n).getD 0) (x:=x) (l:=(names.filter fun y=>y.2 == .free).reverse) ⟨.free,by simp[h]⟩
 unfold clOf
 rw[this,hc]
 rfl
theorem b8o{env:Env}{names:List (Str×NameKind)}(hf:∀y∈names,y.2=.free→∃c,env.cells.lookup y.1=some c){x:Str}{c:Addr}(h:(clOf env names).lookup x=some c):env.cells.lookup x=some c:=by
 obtain⟨e,k,hk⟩:=a8l (g:=fun n=>(env.cells.lookup n).getD 0) h
 have hk':=List.mem_filter.mp (List.mem_reverse.mp hk)
 obtain⟨c',hc'⟩:=hf _ hk'.1 (by simpa using hk'.2)
 have hc'':env.cells.lookup x=some c':=hc'
 rw[e,hc'']
 rfl
theorem b0b{env:Env}:∀(names:List (Str×NameKind)) (cs:List (Str×Addr)),(∀y∈names,y.2=.free→∃c,env.cells.lookup y.1=some c)→
  (forIn names cs (fun(x:Str×NameKind) (r:List (Str×Addr))=>if(x.2 == NameKind.free)=true then(do let a ←cellOf env x.1;pure (ForInStep.yield ((x.1,a)::r))) else(pure (ForInStep.yield r):Sem (ForInStep (List (Str×Addr)))))) =
   pure (clOf env names++cs)
 |[],cs,_=>by rw[List.forIn_nil];rfl
 |(n,k)::r,cs,h=>by
  rw[List.forIn_cons]
  cases hk:k == NameKind.free with
  |true=>
   obtain⟨c,hc⟩:=h (n,k) List.mem_cons_self (by simpa using hk)
   have hc':env.cells.lookup n=some c:=hc
   have e:cellOf env n=pure c:=by unfold cellOf;rw[hc']
   simp only[hk,if_true,e,pure_bind]
   rw[b0b r _ fun y hy=>h y (List.mem_cons_of_mem _ hy)]
   congr 1
   unfold clOf
   rw[List.filter_cons]
   simp[hk,hc']
  |false=>
   simp only[hk,Bool.false_eq_true,if_false,pure_bind]
   rw[b0b r _ fun y hy=>h y (List.mem_cons_of_mem _ hy)]
   congr 1
   unfold clOf
   rw[List.filter_cons]
   simp[hk]
theorem a7j{scope:Scope}{env:Env}(h:∀y∈scope.names,y.2=.free→∃c,env.cells.lookup y.1=some c):closureFor scope env=pure (clOf env scope.names):=by
 have:=b0b (env:=env) scope.names [] h
 rw[List.append_nil] at this
 unfold closureFor
 show(forIn scope.names [] _ >>= fun r=>pure r)=_
 rw[bind_pure]
 exact this
theorem b0v{env:Env}:∀{names:List (Str×NameKind)} {x:Str},names.lookup x=some .free→
  (names.map fun(n,k)=>if(k == NameKind.free && env.scope.kind == .function && env.kindOf n == some .cell) then(n,NameKind.cell) else(n,k)).lookup x=some .cell∨
  (names.map fun(n,k)=>if(k == NameKind.free && env.scope.kind == .function && env.kindOf n == some .cell) then(n,NameKind.cell) else(n,k)).lookup x=some .free
 |[],_,h=>by simp at h
 |(n,k)::r,x,h=>by
  have ih:=@b0v env r x
  show List.lookup x ((if(k == NameKind.free && env.scope.kind == .function && env.kindOf n == some .cell)=true then(n,NameKind.cell) else(n,k))::_)=_∨List.lookup x ((if(k == NameKind.free && env.scope.kind == .function && env.kindOf n == some .cell)=true then(n,NameKind.cell) else(n,k))::_)=_
  cases hx:x == n with
  |true=>
   simp only[List.lookup_cons,hx] at h
   cases h
   by_cases hc:(NameKind.free == NameKind.free && env.scope.kind == .function && env.kindOf n == some .cell)=true
   ·rw[if_pos hc];simp[List.lookup_cons,hx]
   ·rw[if_neg hc];simp[List.lookup_cons,hx]
  |false=>
   simp only[List.lookup_cons,hx] at h
   by_cases hc:(k == NameKind.free && env.scope.kind == .function && env.kindOf n == some .cell)=true
   ·rw[if_pos hc];simp only[List.lookup_cons,hx];exact ih h
   ·rw[if_neg hc];simp only[List.lookup_cons,hx];exact ih h
theorem b0c{env:Env}:∀{names:List (Str×NameKind)} {x:Str} {q:NameKind},(q=.cell∨q=.free)→(∀y∈names,y.2≠.cell)→
  (names.map fun(n,k)=>if(k == NameKind.free && env.scope.kind == .function && env.kindOf n == some .cell) then(n,NameKind.cell) else(n,k)).lookup x=some q→(x,NameKind.free)∈names
 |[],_,_,_,_,h=>by simp at h
 |(n,k)::r,x,q,hq,hn,h=>by
  have ih:=@b0c env r x q hq fun y hy=>hn y (List.mem_cons_of_mem _ hy)
  have hk:k≠.cell:=hn (n,k) List.mem_cons_self
  have h:List.lookup x ((if(k == NameKind.free && env.scope.kind == .function && env.kindOf n == some .cell)=true then(n,NameKind.cell) else(n,k))::_)=some q:=h
  cases hx:x == n with
  |true=>
   have e:x=n:=by simpa using hx
   subst e
   by_cases hc:(k == NameKind.free && env.scope.kind == .function && env.kindOf x == some .cell)=true
   ·have hf:k=.free:=by
     simp only[Bool.and_eq_true,beq_iff_eq] at hc
     exact hc.1.1
    subst hf
    exact List.mem_cons_self
   ·rw[if_neg hc] at h
    simp only[List.lookup_cons,hx] at h
    have e:k=q:=Option.some.inj h
    rcases hq with rfl|rfl
    ·exact absurd e hk
    ·rw[e];exact List.mem_cons_self
  |false=>
   by_cases hc:(k == NameKind.free && env.scope.kind == .function && env.kindOf n == some .cell)=true
   ·rw[if_pos hc] at h;simp only[List.lookup_cons,hx] at h;exact List.mem_cons_of_mem _ (ih h)
   ·rw[if_neg hc] at h;simp only[List.lookup_cons,hx] at h;exact List.mem_cons_of_mem _ (ih h)
noncomputable def a1k (X:Cx) (scope:Scope) (M:List Str) (C:Addr) (s:Shared) (H:Hp) (fp:List Addr):Cx:=
 {X with N:=M,s₀:=s,H₀:=H,env:=compEnvC scope (clOf X.env scope.names) C X.env,outer:=X.stack,ex:=fp,fn:=fun _=>false,pn:=[],xe:=fun _ _=>False}
noncomputable def capS (k:Nat) (cap:List Nat) (σ:St):St:=List.replicate k none++cap.map fun i=>(σ[i]?).join
noncomputable def PTs (X:Cx) (ifs:List Expr) (t:TT):Prop:=
 ∀(pins:List (Addr×Obj)) (s:Shared) (σ:St) (H:Hp) (Q:Bool→Hp→Prop),Inv X pins σ H s→t σ H Q→
  wpAny (model X.prog X.w) X.A (forIn ifs true fun c r=>if r=true then do let ok ←isTrue c X.env (eval c X.env);pure (ForInStep.yield ok) else pure (ForInStep.yield r)) (TP X pins σ Q) X.xe s
noncomputable def tYes:TT:=fun _ H Q=>Q true H
theorem pts_nil{X:Cx}:PTs X [] tYes:=fun _ _ σ H _ I h=>wpAny_tests_nil ⟨H,I,h⟩
theorem c3r{X:Cx}{c:Expr}{t:TT}(hc:PT X c t):PTs X [c] t:=fun pins s σ H Q I h=>wpAny_tests_one (hc pins s σ H Q I h)
theorem a8s{prog:Program}{w:World}{A:Around}{R:Result→Shared→Prop}{s:Shared}{elt target iter:Expr}{ifs:List Expr}{scope:Scope}{pos:Pos}{it acc:Value}{env:Env}(I:Nat→Shared→Prop)
  (turn:∀n s,I n s→wpAny (model prog w) A (pyNext it) (fun r s₁=>match r with
   |none=>R (.ok .next) s₁
   |some v=>wpAny (model prog w) A (letOwnedTupleGo target it v) (fun _ s₀=>wpAny (model prog w) A (assign target env v) (fun _ s₂=>
     wpAny (model prog w) A (forIn ifs true fun c r=>if r=true then do let ok ←isTrue c env (eval c env);pure (ForInStep.yield ok) else pure (ForInStep.yield r)) (fun ok s₃=>
      if ok=true then wpAny (model prog w) A (eval elt env) (fun x s₄=>
       wpAny (model prog w) A (call (.builtin "list.append") [acc,x]) (fun _ s₅=>∃m,m < n∧I m s₅) (fun _ _=>False) s₄) (fun _ _=>False) s₃
      else ∃m,m < n∧I m s₃) (fun _ _=>False) s₂) (fun _ _=>False) s₀) (fun _ _=>False) s₁) (fun _ _=>False) s)
  (n:Nat) (h:I n s) :
  codeAny (model prog w) A (.compLoop (.ListComp elt [⟨target,iter,ifs,0⟩] scope pos) 0 it acc env) R s:=by
 refine codeAny_loop rfl I (fun n s hI=>?_) n h
 show wpAny _ A ((compTurn (.ListComp elt [⟨target,iter,ifs,0⟩] scope pos) 0 it acc env).onRaise (fun x=>do noteFrame x env;theTreesLotGoes x)) _ _ s
 refine wpAny_noted ?_
 rw[compTurn_list]
 refine wpAny_bind (wpAny_standAt (wpAny_bind (wpAny_mono (turn n s hI) (fun r s₁ h₁=>?_) fun _ _ h'=>h'.elim)))
 cases r with
 |none=>exact wpAny_pure h₁
 |some v=>
  refine wpAny_bind (wpAny_mono h₁ (fun _ s₀ h₀=>?_) fun _ _ h'=>h'.elim)
  refine wpAny_bind (wpAny_mono h₀ (fun _ s₂ h₂=>wpAny_bind (wpAny_mono h₂ (fun ok s₃ h₃=>?_) fun _ _ h'=>h'.elim)) fun _ _ h'=>h'.elim)
  cases ok with
  |false=>exact wpAny_pure ⟨rfl,h₃⟩
  |true=>
   exact wpAny_bind (wpAny_bind (wpAny_mono h₃ (fun x s₄ h₄=>wpAny_bind (wpAny_mono h₄ (fun _ s₅ h₅=>wpAny_pure (wpAny_pure ⟨rfl,h₅⟩)) fun _ _ h'=>h'.elim)) fun _ _ h'=>h'.elim))
end L2
namespace L2
open PySem PySem.Spec PyProof.Rows
theorem Inv.track{X:Cx}{pins:List (Addr×Obj)}{σ:St}{H:Hp}{s:Shared}{a:Addr}{o:HO}(I:Inv X pins σ H s)(hn:H a=none)(hy:X.s₀.heap.objs.size≤a)(hL:a≠X.env.locals)(hC:∀x c,X.env.cells.lookup x=some c→c≠a)
  (hP:∀p∈X.pn++pins,p.1≠a) (new:ObjOk X.prog X.w (upd H a o) s.heap a o):Inv X pins σ (upd H a o) s:=by
 refine⟨I.ok,I.os,I.bare,⟨I.base.keep,I.base.slot,fun b ob e n hx=>?_,I.base.there,fun b xs e=>?_,fun b ob u e=>?_,fun b ps e=>?_⟩,I.loc,I.cell,?_,fun x c e=>?_,fun p hp=>?_,fun b u e=>?_,I.len⟩
 ·rw[a0s (Nat.ne_of_lt (Nat.lt_of_lt_of_le (Heap.lt_size e) hy))]
  exact I.base.free b ob e n hx
 ·have z:=I.base.tups b xs e
  rw[a0s (a1a z hn)];exact z
 ·have z:=I.base.frzs b ob u e
  rw[a0s (a1a z hn)];exact z
 ·obtain⟨m,z⟩:=I.base.tbls b ps e
  exact⟨m,by rw[a0s (a1a z hn)];exact z⟩
 ·rw[a0s (Ne.symm hL)];exact I.free
 ·rw[a0s (hC x c e)];exact I.freeC x c e
 ·obtain⟨e,n,r⟩:=I.pin p hp
  exact⟨e,by rw[a0s (hP p hp)];exact n,r⟩
 ·by_cases hb:b=a
  ·subst hb;rw[a1g] at e;cases e;exact new
  ·rw[a0s hb] at e
   exact(I.hok b u e).stay (fun c v _ q=>q) (fun c q=>by rw[a0s (a1a q hn)];exact q) fun c xs q=>by rw[a0s (a1a q hn)];exact q
noncomputable def CompW (J:It) (g:TG) (tt:TT) (te:TE) (τ₀:St) (H1:Hp) (Fin:List V→Hp→Prop):Prop:=
 ∃(n:Nat) (W:Nat→St→List V→Hp→Prop),W 0 τ₀ [] H1∧∀i τ acc H,i≤n→W i τ acc H→
  (J.stop i H∧Fin acc H)∨(i < n∧J.go i H∧∀x H',J.yld i H x H'→g x τ H' fun τ2 H2=>tt τ2 H2 fun b H3=>if b=true then te τ2 H3 fun v H4=>acc.length < sizeLine∧W (i+1) τ2 (acc++[v]) H4 else W (i+1) τ2 acc H3)
structure CompOk (X:Cx) (scope:Scope) (M:List Str) (k:Nat) (cap:List Nat):Prop where
 kind:scope.kind=.function
 cell:∀y∈scope.names,y.2≠.cell
 free:∀y∈scope.names,y.2=.free→X.env.kindOf y.1=some .cell∨X.env.kindOf y.1=some .free
 names:∀y∈scope.names,y.2=.local → scope.names.lookup y.1=some .local
 len:M.length=k+cap.length
 caps:∀(j i:Nat) (x:Str),cap[j]?=some i→M[k+j]?=some x→X.N[i]?=some x∧scope.names.lookup x=some .free
section
variable {X:Cx} {pins:List (Addr×Obj)} {σ:St} {tg elt iter:Expr} {ifs:List Expr} {scope:Scope} {pos:Pos} {M:List Str} {k:Nat} {cap:List Nat} {g:TG} {tt:TT} {te:TE}
theorem Inv.hasFree{H:Hp}{s:Shared}(I:Inv X pins σ H s)(ok:CompOk X scope M k cap):∀y∈scope.names,y.2=.free→∃c,X.env.cells.lookup y.1=some c:=fun y hy e=>I.ok.has y.1 (ok.free y hy e)
theorem Inv.block{H:Hp}{s s4:Shared}{fp:List Addr}{C D:Addr}{oD:Obj}{m:Str→Option Value}(I:Inv X pins σ H s)(ok:CompOk X scope M k cap)(f2:∀b∈fp,FpOk X pins H b)(hfo:∀b∈fp,∃o,s.heap.get? b=some o∧∀v,o.data≠.cell v)
  (hC:s.heap.objs.size≤C) (hDC:D≠C) (hD:s.heap.objs.size≤D) (old:∀b o,s.heap.get? b=some o→s4.heap.get? b=some o) (os:s4.os=s.os) (gens:s4.gens=s.gens)
  (ns:s4.heap.Ns C m) (hoD:s4.heap.get? D=some oD) (hdD:∀v,oD.data≠.cell v):Inv (a1k X scope M C s H fp) [(D,oD)] (capS k cap σ) H s4:=by
 have hf:=I.hasFree ok
 have fr:∀a,s.heap.objs.size≤a→H a=none:=fun a ha=>I.hok.fresh ha
 have nfs:∀b∈frs X.stack,b < s.heap.objs.size:=fun b hb=>by
  rcases List.mem_cons.mp (I.stkSub b hb) with e|e
  ·rw[e];exact I.lt
  ·exact Nat.lt_of_not_le fun z=>I.nofs z e
 have cl:∀x c,(clOf X.env scope.names).lookup x=some c→X.env.cells.lookup x=some c:=fun x c e=>b8o hf e
 refine⟨⟨I.ok.mod,ok.kind,I.ok.glob,I.ok.blt,hC,fun x y c e1 e2=>I.ok.inj x y c (cl x c e1) (cl y c e2),fun x hx=>?_,fun x c e _=>?_,I.ok.hd,I.ok.frames,.inl rfl,fun b hb=>?_,I.bs,Nat.le_trans I.ok.bsz I.sz,fun b o e hb=>?_,fun b hb z=>?_,I.stack,I.stkFree⟩,
  os,by rw[gens];exact I.bare,Un.kept old,⟨m,ns,fun i x v h1 h2 h3=>?_⟩,fun x c e=>?_,fr C hC,fun x c e=>I.freeC x c (cl x c e),fun p hp=>?_,I.hok.kept old,?_⟩
 ·have hx:(relabel scope X.env).names.lookup x=some .cell∨(relabel scope X.env).names.lookup x=some .free:=hx
  have hm:(x,NameKind.free)∈scope.names:=by
   rcases hx with h|h
   ·exact b0c (env:=X.env) (.inl rfl) ok.cell h
   ·exact b0c (env:=X.env) (.inr rfl) ok.cell h
  obtain⟨c,hc⟩:=hf _ hm rfl
  exact⟨c,b9y hm hc⟩
 ·cases e
 ·obtain⟨f0,f1,f2,f3,f4,f5⟩:=f2 b hb
  obtain⟨ob,eb,_⟩:=hfo b hb
  exact⟨Nat.ne_of_lt (Nat.lt_of_lt_of_le (Heap.lt_size eb) hC),fun x c e=>f4 x c (cl x c e)⟩
 ·obtain⟨f0,f1,f2,f3,f4,f5⟩:=f2 b hb
  rcases f3 with q|q
  ·exact I.ok.noex b o e q
  ·exact absurd (Nat.lt_of_lt_of_le (Heap.lt_size e) (Nat.le_trans I.ok.bsz q)) (Nat.lt_irrefl _)
 ·obtain⟨f0,f1,f2,f3,f4,f5⟩:=f2 b hb
  rcases List.mem_cons.mp (I.stkSub b z) with q|q
  ·exact f1 q
  ·exact f2 q
 ·unfold capS at h2
  have hk:¬i < k:=fun q=>by
   rw[List.getElem?_append_left (by simpa using q),List.getElem?_replicate] at h2
   split at h2 <;> cases h2
  rw[List.getElem?_append_right (by simpa using hk),List.length_replicate,List.getElem?_map] at h2
  cases e:cap[i - k]? with
  |none=>rw[e] at h2;cases h2
  |some j=>
   rw[e] at h2
   have h2':(σ[j]?).join=some v:=Option.some.inj h2
   have hj:σ[j]?=some (some v):=by
    cases q:σ[j]? with
    |none=>rw[q] at h2';cases h2'
    |some z=>rw[q] at h2';simp at h2';rw[h2']
   have hix:k+(i - k)=i:=by omega
   obtain⟨hN,hfr⟩:=ok.caps (i - k) j x e (by rw[hix];exact h1)
   have hm:(x,NameKind.free)∈scope.names:=PySem.mem_of_lookup hfr
   have hkx:=ok.free _ hm rfl
   obtain⟨mX,hnX,hlX⟩:=I.loc
   obtain⟨u,ru,lk⟩:=hlX j x v hN hj (by rcases hkx with q|q;exact .inr (.inl q);exact .inr (.inr q))
   refine⟨u,ru,.inr ⟨b0v (env:=X.env) hfr,?_⟩⟩
   rcases lk with⟨q,_⟩|⟨_,c,hc,hcell⟩
   ·rcases hkx with z|z
    ·rw[show X.env.kindOf x=some .cell from z] at q;cases q
    ·rw[show X.env.kindOf x=some .free from z] at q;cases q
   ·exact⟨c,b9y hm hc,hcell.keeps old⟩
 ·obtain⟨v,z⟩:=I.cell x c (cl x c e)
  exact⟨v,z.keeps old⟩
 ·have e:p=(D,oD):=by simpa[a1k] using hp
  subst e
  exact⟨hoD,fr D hD,hDC,fun z=>absurd (Nat.lt_of_lt_of_le (nfs D z) hD) (Nat.lt_irrefl _),hdD⟩
 ·unfold capS
  rw[List.length_append,List.length_replicate,List.length_map]
  exact ok.len.symm
theorem b6l{H2:Hp}{s2:Shared}{J:It}{fp:List Addr}{it:Addr}{tn:Nat→Heap→Prop}{RR:Value→Addr→Result→Shared→Prop}{E:Value→Shared→Prop}{Fin:List V→Hp→Prop}(I2:Inv X pins σ H2 s2)(hc:X.calm=true)(ok:CompOk X scope M k cap)
  (T:Turn X.prog X.w X.K tg J fp it tn) (st2:tn 0 s2.heap) (f2:∀b∈fp,FpOk X pins H2 b)
  (hg:∀C s H fp,PG (a1k X scope M C s H fp) tg g) (ht:∀C s H fp,PTs (a1k X scope M C s H fp) ifs tt) (he:∀C s H fp,PE (a1k X scope M C s H fp) elt te)
  (hW:CompW J g tt te (capS k cap σ) H2 Fin)
  (hRR:∀D C s' H' acc,Inv X pins σ (upd H' D (.lst acc)) s'→FpOk X pins (upd H' D (.lst acc)) C→(∃m,s'.heap.Ns C m)→H' D=none→Fin acc H'→RR (.ref D) C (.ok .next) s') :
  wpAny (model X.prog X.w) X.A (newList []) (fun acc s₃=>wpAny (model X.prog X.w) X.A (newFunctionEnv scope X.env.globals (clOf X.env scope.names) [] X.env.qual none .none (some X.env)) (fun cenv s₄=>
   codeAny (model X.prog X.w) X.A (.compStart (.ListComp elt [⟨tg,iter,ifs,0⟩] scope pos) 0 (.ref it) acc { cenv with scope:=relabel scope X.env}) (RR acc cenv.locals) s₄) E s₃) E s2:=by
 refine wpAny_newObj_type (wpAny_newFunctionEnv ok.cell (by intro y hy;simp at hy) (fun h₁ hns₁ hsb₁=>?_) ok.kind)
 dsimp only at hns₁ hsb₁ ⊢
 generalize hH2:s2.heap.push { cls:=.type "list",dict:=none,data:=.seq ([]:List Value).toArray}=H3 at hns₁ hsb₁ ⊢
 have hCs:H3.objs.size=s2.heap.objs.size+1:=by rw[←hH2,Heap.size_push]
 have hDC:s2.heap.objs.size≠H3.objs.size:=by rw[hCs];exact Nat.ne_of_lt (Nat.lt_succ_self _)
 have below:∀b,b < s2.heap.objs.size→b≠H3.objs.size∧b≠s2.heap.objs.size:=fun b hb=>⟨by rw[hCs];exact Nat.ne_of_lt (Nat.lt_succ_of_lt hb),Nat.ne_of_lt hb⟩
 have old:∀b o,s2.heap.get? b=some o→h₁.get? b=some o:=fun b o e=>hsb₁.extBut b o (below b (Heap.lt_size e)).1 (Heap.get?_push_of_some _ (hH2 ▸ Heap.get?_push_of_some _ e))
 have hacc:h₁.get? s2.heap.objs.size=some { cls:=.type "list",data:=.seq ([]:List Value).toArray 0}:=hsb₁.extBut _ _ hDC (Heap.get?_push_of_some _ (hH2 ▸ Heap.get?_push_size _ rfl))
 have hfo:=T.obj 0 _ st2
 have hCle:s2.heap.objs.size≤H3.objs.size:=by rw[hCs];exact Nat.le_succ _
 obtain⟨N,W,w0,turn⟩:=hW
 have st1:tn 0 h₁:=T.keep _ _ _ st2 fun b _ o e=>old b o e
 have loop:∀s₃:Shared,s₃={ s2 with heap:=h₁,toks:=s2.toks+([]:List (Str×Value)).length}→
   codeAny (model X.prog X.w) X.A (.compLoop (.ListComp elt [⟨tg,iter,ifs,0⟩] scope pos) 0 (.ref it) (.ref s2.heap.objs.size) (compEnvC scope (clOf X.env scope.names) H3.objs.size X.env))
    (RR (.ref s2.heap.objs.size) H3.objs.size) s₃:=by
  rintro s₃ rfl
  have I3:Inv (a1k X scope M H3.objs.size s2 H2 fp) [(s2.heap.objs.size,{ cls:=.type "list",data:=.seq ([]:List Value).toArray 0})] (capS k cap σ) H2 { s2 with heap:=h₁,toks:=s2.toks+([]:List (Str×Value)).length}:=
   I2.block ok f2 hfo hCle hDC (Nat.le_refl _) old rfl rfl hns₁ hacc (fun v z=>by cases z)
  have fpS:∀b∈fp,b≠H3.objs.size∧b≠s2.heap.objs.size:=fun b hb=>let ⟨o,e,_⟩:=hfo b hb;below b (Heap.lt_size e)
  have stat:∀{H':Hp} {oD:Obj},(∀b∈fp,H' b=none)→∀b∈fp,FpOk (a1k X scope M H3.objs.size s2 H2 fp) [(s2.heap.objs.size,oD)] H' b:=fun{H' oD} hn b hb=>by
   obtain⟨f0,f1,f2,f3,f4,f5⟩:=f2 b hb
   refine⟨hn b hb,(fpS b hb).1,fun z=>?_,.inl hb,fun x c e=>f4 x c (b8o (I2.hasFree ok) e),fun p hp z=>?_⟩
   ·rcases List.mem_cons.mp (I2.stkSub b z) with q|q
    ·exact f1 q
    ·exact f2 q
   ·have e:p=(s2.heap.objs.size,oD):=by simpa[a1k] using hp
    subst e
    exact(fpS b hb).2 z.symm
  refine a8s (fun n s'=>∃(i:Nat) (τ:St) (acc:List V) (us:List Value) (c:Nat) (H':Hp),Vals acc us∧acc.length≤sizeLine∧
   Inv (a1k X scope M H3.objs.size s2 H2 fp) [(s2.heap.objs.size,{ cls:=.type "list",data:=.seq us.toArray c})] τ H' s'∧tn i s'.heap∧(∀b∈fp,H' b=none)∧n=N - i∧i≤N∧W i τ acc H') ?_ N
   ⟨0,capS k cap σ,[],[],0,H2,.nil,Nat.zero_le _,I3,st1,fun b hb=>(f2 b hb).1,rfl,Nat.zero_le _,w0⟩
  rintro n s3 ⟨i,τ,acc,us,c,H',rv,hlen,I,st,fr,rfl,hiN,w⟩
  have pinD:=(I.pin (s2.heap.objs.size,{ cls:=.type "list",data:=.seq us.toArray c}) (by simp[a1k]))
  rcases turn i τ acc H' hiN w with⟨stop,qn⟩|⟨hlt,go,step⟩
  ·refine thn (T.done (a1k X scope M H3.objs.size s2 H2 fp) rfl rfl rfl hc i _ s3 τ H' (fun _ _=>False) I (stat fr) st stop) fun r s4 ⟨hr,I4⟩=>?_
   subst hr
   have pinD4:=(I4.pin (s2.heap.objs.size,{ cls:=.type "list",data:=.seq us.toArray c}) (by simp[a1k]))
   have hch:∀b∈fp,(b∈X.ex∨X.s₀.heap.objs.size≤b)∧b≠X.env.locals∧(∀x c,X.env.cells.lookup x=some c→c≠b)∧∀p∈X.pn++pins,p.1≠b:=fun b hb=>by
    obtain⟨f0,f1,f2,f3,f4,f5⟩:=f2 b hb
    exact⟨f3,f1,f4,f5⟩
   have J1:Inv X pins σ H' s4:=I2.call' (ch:=fp) I4.os I4.base I4.hok I4.bare hch
   have young:X.s₀.heap.objs.size≤s2.heap.objs.size:=I2.sz
   have apart:∀a,s2.heap.objs.size≤a→a≠X.env.locals∧(∀x c,X.env.cells.lookup x=some c→c≠a)∧∀p∈X.pn++pins,p.1≠a:=fun a ha=>
    ⟨Nat.ne_of_gt (Nat.lt_of_lt_of_le I2.lt ha),fun x c e z=>by
     obtain⟨v,q⟩:=I2.cell x c e
     exact absurd (Nat.lt_of_lt_of_le q.lt (by rw[z];exact ha)) (Nat.lt_irrefl _),fun p hp z=>absurd (Nat.lt_of_lt_of_le (Heap.lt_size (I2.pin p hp).1) (by rw[z];exact ha)) (Nat.lt_irrefl _)⟩
   have aD:=apart _ (Nat.le_refl _)
   have aC:=apart _ hCle
   have J2:Inv X pins σ (upd H' s2.heap.objs.size (.lst acc)) s4:=J1.track pinD4.2.1 young aD.1 aD.2.1 aD.2.2 ⟨hlen,us,c,rv,pinD4.1⟩
   obtain⟨m,hn,_⟩:=I4.loc
   have hCn:H' H3.objs.size=none:=I4.free
   refine hRR _ _ s4 H' acc J2 ⟨?_,aC.1,I2.nofs hCle,.inr (Nat.le_trans young hCle),aC.2.1,aC.2.2⟩ ⟨m,hn⟩ pinD4.2.1 qn
   rw[a0s (Ne.symm hDC)];exact hCn
  ·refine thn (T.item (a1k X scope M H3.objs.size s2 H2 fp) rfl rfl rfl hc i _ s3 τ H' (fun _ _=>False) I (stat fr) st go) fun r s4 ⟨u,hr,h4⟩=>?_
   subst hr
   refine thn h4 fun _ s5 hh=>?_
   obtain⟨x,H5,I5,r5,y5,st5,fr5⟩:=hh
   have I5':=I5.pinned (stat fr5) (T.obj _ _ st5)
   refine thn (hg _ _ _ _ _ s5 τ H5 x u _ I5' r5 (step x H5 y5)) fun _ s6 hh=>?_
   obtain⟨τ6,H6,I6,q6⟩:=hh
   refine thn (ht _ _ _ _ _ s6 τ6 H6 _ I6 q6) fun b s7 hh=>?_
   obtain⟨H7,I7,q7⟩:=hh
   have keepit:∀{s':Shared} {τ':St} {Hn:Hp},Inv (a1k X scope M H3.objs.size s2 H2 fp) ([(s2.heap.objs.size,{ cls:=.type "list",data:=.seq us.toArray c})]++b6a fp s5.heap) τ' Hn s'→tn (i+1) s'.heap∧∀b∈fp,Hn b=none:=fun{s' τ' Hn} I'=>by
    refine⟨T.keep _ _ _ st5 fun b hb o e=>(I'.pin (b,o) (List.mem_append_right _ (List.mem_append_right _ (a8a hb e)))).1,fun b hb=>?_⟩
    obtain⟨o,e,d⟩:=T.obj _ _ st5 b hb
    exact(I'.pin (b,o) (List.mem_append_right _ (List.mem_append_right _ (a8a hb e)))).2.1
   cases b with
   |false=>
    rw[if_neg Bool.false_ne_true] at q7
    show ∃m,m < N - i∧_
    obtain⟨st7,fr7⟩:=keepit I7
    exact⟨N - (i+1),by omega,i+1,τ6,acc,us,c,H7,rv,hlen,I7.unpinned,st7,fr7,rfl,hlt,q7⟩
   |true=>
    rw[if_pos rfl] at q7
    show wpAny _ _ (eval elt _) _ _ s7
    refine thn (he _ _ _ _ _ s7 τ6 H7 _ I7 q7) fun v s8 hh=>?_
    obtain⟨y,H8,I8,r8,hl8,w8⟩:=hh
    obtain⟨st8,fr8⟩:=keepit I8
    have pinD8:=(I8.pin (s2.heap.objs.size,{ cls:=.type "list",data:=.seq us.toArray c}) (by simp[a1k]))
    have hul:=rv.length
    refine append_at (hsz:=by show us.toArray.size≤sizeLine;rw[List.size_toArray,←hul];exact hlen) pinD8.1 fun h9 sb9 e9=>?_
    have e9':h9.get? s2.heap.objs.size=some { cls:=.type "list",data:=.seq (us++[v]).toArray (c+1)}:=by rw[e9,List.push_toArray]
    have I8u:=I8.unpinned
    have hLoc:s2.heap.objs.size≠(a1k X scope M H3.objs.size s2 H2 fp).env.locals:=pinD8.2.2.1
    have nx:∀(b:Addr),H8 b≠none→b≠s2.heap.objs.size:=fun b hb z=>hb (by rw[z];exact pinD8.2.1)
    refine⟨N - (i+1),by omega,i+1,τ6,acc++[y],us++[v],c+1,H8,rv.append (.cons r8 .nil),by rw[List.length_append,List.length_singleton];exact hl8,?_,?_,fr8,rfl,hlt,w8⟩
    ·have I9:Inv (a1k X scope M H3.objs.size s2 H2 fp) [] τ6 H8 s8:=I8u.pins_of (fun p hp=>absurd hp (by simp))
     have I10:Inv (a1k X scope M H3.objs.size s2 H2 fp) [] τ6 H8 { s8 with heap:=h9}:=I9.turned (t':=s8.toks) (fun b o hb e=>(sb9.2 b hb).trans e) pinD8.2.1 hLoc (.inr (Nat.le_refl _))
      (fun x cc e z=>by
       obtain⟨v',q⟩:=I2.cell x cc (b8o (I2.hasFree ok) e)
       exact absurd (Nat.lt_of_lt_of_le q.lt (by rw[z];exact Nat.le_refl _)) (Nat.lt_irrefl _)) (fun p hp=>absurd hp (by simp[a1k]))
     refine I10.pins_of fun p hp=>?_
     have e:p=(s2.heap.objs.size,{ cls:=.type "list",data:=.seq (us++[v]).toArray (c+1)}):=by simpa using hp
     subst e
     exact⟨e9',pinD8.2.1,hLoc,pinD8.2.2.2.1,fun v' z=>by cases z⟩
    ·exact T.keep _ _ _ st8 fun b hb o e=>sb9.extBut b o (fpS b hb).2 e
 exact codeAny_compStart_list (loop _ rfl) (T.self _ 0 _ _ _ st1 (loop _ rfl))
noncomputable def tComp (wi:TI) (g:TG) (tt:TT) (te:TE) (k:Nat) (cap:List Nat):TE:=fun σ H Q=>wi σ H fun J H1=>CompW J g tt te (capS k cap σ) H1 fun acc H'=>∀l,H' l=none→Q (.ref l) (upd H' l (.lst acc))
theorem d2j{wi:TI}(hc:X.calm=true)(ok:CompOk X scope M k cap)(hi:PI X tg iter wi)
  (hg:∀C s H fp,PG (a1k X scope M C s H fp) tg g) (ht:∀C s H fp,PTs (a1k X scope M C s H fp) ifs tt) (he:∀C s H fp,PE (a1k X scope M C s H fp) elt te)
  (hs:∀x,foldedSetIterable iter X.env x=pure x:=by intro _;rfl):PE X (.ListComp elt [⟨tg,iter,ifs,0⟩] scope pos) (tComp wi g tt te k cap):=by
 intro pins s σ H Q I h
 rw[eval_ListComp]
 refine wpAny_comprehension_free (use:=none) rfl hs (a7j (I.hasFree ok)) ok.kind ok.names (thn (hi pins s σ H _ I h) fun v s1 h1=>thn h1 fun itv s2 h2=>?_)
 obtain⟨it,fp,tn,J,H2,e,I2,T,st2,f2,hW⟩:=h2
 subst e
 refine b6l (RR:=fun acc C=>compPost (model X.prog X.w) X.A X.xe none (EP X pins σ Q) acc C) I2 hc ok T st2 f2 hg ht he hW ?_
 intro D C s' H' acc I' fC ⟨m,hn⟩ hD hq
 refine⟨m,hn,fun h' sb=>?_⟩
 obtain⟨f0,f1,f2,f3,f4,f5⟩:=fC
 exact⟨.ref D,_,I'.turned (t':=s'.toks) (fun b o hb e=>(sb.2 b hb).trans e) f0 f1 f3 f4 f5,rfl,hq D hD⟩
noncomputable def sComp (wi:TI) (g:TG) (tt:TT) (te:TE) (k:Nat) (cap:List Nat) (i:Nat):TS:=fun D σ H=>tComp wi g tt te k cap σ H fun v H'=>D.nx (σ.set i (some v)) H'
theorem c3s{wi:TI}{i:Nat}{x:Str}{px spos:Pos}(hc:X.calm=true)(ok:CompOk X scope M k cap)(hN:X.N.Nodup)(hix:X.N[i]?=some x)(hx:Loc X.env.scope x)(hi:PI X tg iter wi)
  (hg:∀C s H fp,PG (a1k X scope M C s H fp) tg g) (ht:∀C s H fp,PTs (a1k X scope M C s H fp) ifs tt) (he:∀C s H fp,PE (a1k X scope M C s H fp) elt te)
  (hsw:swapsWith (.ListComp elt [⟨tg,iter,ifs,0⟩] scope pos) (some (.Name x px)) spos.line X.env=pure true)
  (hs:∀x,foldedSetIterable iter X.env x=pure x:=by intro _;rfl) (hf:X.fn x=true∨X.env.scope.names.lookup x=some .local := by first|exact .inl rfl|exact .inr rfl|assumption) :
  PS X (.Assign [.Name x px] (.ListComp elt [⟨tg,iter,ifs,0⟩] scope pos) spos) (sComp wi g tt te k cap i):=by
 intro pins s σ H D I h
 rw[exec_Assign_Name_used _ _ _ _ hsw]
 refine wpAny_bind (wpAny_standAt (wpAny_bind ?_))
 show wpAny _ X.A (do let _ ←comprehension (.ListComp elt [⟨tg,iter,ifs,0⟩] scope pos) scope X.env _ (newList []) false (eval iter X.env) (some (assign (.Name x px) X.env))) _ _ s
 refine wpAny_bind (wpAny_mono (wpAny_comprehension_free (use:=some (assign (.Name x px) X.env)) (Q:=fun _ s'=>SP X pins D .next s') rfl hs (a7j (I.hasFree ok)) ok.kind ok.names
  (thn (hi pins s σ H _ I h) fun v s1 h1=>thn h1 fun itv s2 h2=>?_)) (fun _ s' hq=>wpAny_pure (wpAny_pure hq)) fun _ _ e=>e)
 obtain⟨it,fp,tn,J,H2,e,I2,T,st2,f2,hW⟩:=h2
 subst e
 refine b6l (RR:=fun acc C=>compPost (model X.prog X.w) X.A X.xe (some (assign (.Name x px) X.env)) (fun _ s'=>SP X pins D .next s') acc C) I2 hc ok T st2 f2 hg ht he hW ?_
 intro D' C s' H' acc I' fC ⟨m,hn⟩ hD hq
 obtain⟨f0,f1,f2,f3,f4,f5⟩:=fC
 show wpAny _ X.A (assign (.Name x px) X.env (.ref D')) _ _ _
 refine wpAny_assign_Name (b5x I' hN hix hx (v:=.ref D') rfl (fun s'' I'' hh=>?_) hf)
 obtain⟨a,sb,ha⟩:=hh
 have hCa:C≠a:=by
  rcases ha with e|e
  ·rw[e];exact f1
  ·exact fun z=>f4 _ _ e z.symm
 refine⟨m,hn.sameBut sb hCa,fun h' sb'=>⟨_,_,I''.turned (t':=s''.toks) (fun b o hb e=>(sb'.2 b hb).trans e) f0 f1 f3 f4 f5,hq D' hD⟩⟩
end
end L2
namespace L2
open PySem PySem.Spec PyProof.Rows
noncomputable def chr1 (c:Nat):Str:=⟨#[c]⟩
noncomputable def Its (x:Str):It:=⟨fun i _=>i < x.cps.size,fun i H v H'=>H'=H∧∃c,x.cps[i]?=some c∧v=.str (chr1 c),fun i _=>x.cps.size≤i⟩
theorem c8h{P:Program}{w:World}{K:PySem.W.Frag}{tg:Expr}(it:Addr)(x:Str)(t:Tok)(ty:String)(hty:ty="str_ascii_iterator"∨ty="str_iterator"):Turn P w K tg (Its x) [it] it (fun i h=>h.IsStrIter it ty x t i) where
 mem:=by simp
 obj:=fun i h st b hb=>by
  have e:b=it:=by simpa using hb
  subst e
  obtain⟨o,e,c,d⟩:=st
  exact⟨o,e,fun v z=>by rw[d] at z;cases z⟩
 keep:=fun i h h' st k=>by
  obtain⟨o,e,c,d⟩:=st
  exact⟨o,k it (by simp) o e,c,d⟩
 item:=by
  intro X hP hw hK hc i pins s σ H E I hf st hg
  subst hP hw hK
  have hi:i < x.cps.size:=hg
  obtain⟨f0,f1,f2,f3,f4,f5⟩:=hf it (by simp)
  have fin:∀h',h'.IsStrIter it ty x t (i+1)→Heap.SameBut it s.heap h'→∃u,some (Value.str ⟨#[x.cps[i]]⟩ s.toks)=some u∧
    wpAny (model X.prog X.w) X.A (letOwnedTupleGo tg (.ref it) u) (fun _ s2=>∃y H',Inv X pins σ H' s2∧RelV y u∧(Its x).yld i H y H'∧s2.heap.IsStrIter it ty x t (i+1)∧∀b∈[it],H' b=none) E { s with heap:=h',toks:=s.toks+1}:=fun h' st' sb=>by
   have I1:Inv X pins σ H { s with heap:=h',toks:=s.toks+1}:=I.turned (fun b o hb e=>(sb.2 b hb).trans e) f0 f1 f3 f4 f5
   obtain⟨o,e,c,d⟩:=id st'
   refine⟨_,rfl,c7x (s:={ s with heap:=h',toks:=s.toks+1}) e c d (by rcases hty with z|z <;> subst z <;> decide) ⟨.str (chr1 x.cps[i]),H,I1,⟨_,rfl⟩,⟨rfl,_,by simp[hi],rfl⟩,st',fun b hb=>(hf b hb).1⟩⟩
  rcases hty with z|z
  ·subst z;exact wpAny_pyNext_ascii_item st (c:=x.cps[i]) (by simp[hi]) fin
  ·subst z;exact wpAny_pyNext_wide_item st (c:=x.cps[i]) (by simp[hi]) fin
 done:=by
  intro X hP hw hK hc i pins s σ H E I hf st hg
  subst hP hw hK
  have hi:x.cps.size≤i:=hg
  obtain⟨f0,f1,f2,f3,f4,f5⟩:=hf it (by simp)
  rcases hty with z|z
  ·subst z;exact wpAny_pyNext_ascii_end (I.ok.hd hc) st (by simp;omega) fun h' eb=>⟨rfl,I.turned (t':=s.toks) (fun b o hb e=>eb b o hb e) f0 f1 f3 f4 f5⟩
  ·subst z;exact wpAny_pyNext_wide_end (I.ok.hd hc) st (by simp;omega) fun h' eb=>⟨rfl,I.turned (t':=s.toks) (fun b o hb e=>eb b o hb e) f0 f1 f3 f4 f5⟩
 self:=fun _ _ _ _ _ st h=>by
  rcases hty with z|z
  ·subst z;exact wpAny_pyIter_striter_ascii st h
  ·subst z;exact wpAny_pyIter_striter_wide st h
noncomputable def iStr (tl:TE):TI:=fun σ H R=>tl σ H fun x H1=>∃z,x=.str z∧R (Its z) H1
theorem d0q{X:Cx}{tg l:Expr}{tl:TE}(hl:PE X l tl):PI X tg l (iStr tl):=by
 intro pins s σ H R I h
 refine thn (hl pins s σ H _ I h) fun v s1 hh=>?_
 obtain⟨x,H1,I1,r1,q1⟩:=hh
 obtain⟨z,e,q⟩:=q1
 subst e
 obtain⟨t,rfl⟩:=r1
 have key:∀ty:String,ty="str_ascii_iterator"∨ty="str_iterator"→PIE X pins σ tg R (.ref s1.heap.objs.size) { s1 with heap:=s1.heap.push { cls:=.type ty,data:=.fields #[.str z t,.int 0 0]}}:=fun ty hty=>by
  refine⟨s1.heap.objs.size,[s1.heap.objs.size],_,_,H1,rfl,I1.kept (t':=s1.toks) fun b o e=>Heap.get?_push_of_some _ e,c8h _ z t ty hty,⟨_,Heap.get?_push_size _ (by rcases hty with e|e <;> subst e <;> rfl),rfl,rfl⟩,fun b hb=>?_,q⟩
  have e:b=s1.heap.objs.size:=by simpa using hb
  subst e
  exact I1.fpOk (Nat.le_refl _) (I1.hok.fresh (Nat.le_refl _))
 cases ha:z.cps.all (· < 128)
 ·exact wpAny_pyIter_wide ha (key _ (.inr rfl))
 ·exact wpAny_pyIter_ascii ha (key _ (.inl rfl))
theorem b6m{K:PySem.W.Frag}{a:Addr}{xs:List V}{g:TG}{tt:TT}{te:TE}{τ:St}{H:Hp}{Fin:List V→Hp→Prop}(Pv:Nat→St→List V→Hp→Prop)(h0:Pv 0 τ [] H)(hl:∀i τ acc H,i≤xs.length→Pv i τ acc H→SqL K H a xs)
  (hs:∀i x τ acc H,xs[i]?=some x→Pv i τ acc H→g x τ H fun τ2 H2=>tt τ2 H2 fun b H3=>if b=true then te τ2 H3 fun v H4=>acc.length < sizeLine∧Pv (i+1) τ2 (acc++[v]) H4 else Pv (i+1) τ2 acc H3)
  (hd:∀τ acc H,Pv xs.length τ acc H→Fin acc H):CompW (Itl K a) g tt te τ H Fin:=by
 refine⟨xs.length,Pv,h0,fun i τ acc H hi p=>?_⟩
 have q:=hl i τ acc H hi p
 by_cases hlt:i < xs.length
 ·refine .inr ⟨hlt,⟨xs,xs[i],q,by simp[hlt]⟩,fun x H' y=>?_⟩
  obtain⟨e,y⟩:=y
  subst e
  exact hs i x τ acc _ (y xs q) p
 ·have e:i=xs.length:=by omega
  subst e
  exact .inl ⟨⟨xs,q,Nat.le_refl _⟩,hd τ acc H p⟩
theorem c2d{lo:Int}{n:Nat}{g:TG}{tt:TT}{te:TE}{τ:St}{H:Hp}{Fin:List V→Hp→Prop}(Pv:Nat→St→List V→Hp→Prop)(h0:Pv 0 τ [] H)
  (hs:∀i τ acc H,i < n→Pv i τ acc H→g (.int (lo+i)) τ H fun τ2 H2=>tt τ2 H2 fun b H3=>if b=true then te τ2 H3 fun v H4=>acc.length < sizeLine∧Pv (i+1) τ2 (acc++[v]) H4 else Pv (i+1) τ2 acc H3)
  (hd:∀τ acc H,Pv n τ acc H→Fin acc H):CompW (Itr lo n) g tt te τ H Fin:=by
 refine⟨n,Pv,h0,fun i τ acc H hi p=>?_⟩
 by_cases hlt:i < n
 ·refine .inr ⟨hlt,hlt,fun x H' y=>?_⟩
  obtain⟨e,y⟩:=y
  subst e y
  exact hs i τ acc _ hlt p
 ·have e:i=n:=by omega
  subst e
  exact .inl ⟨Nat.le_refl _,hd τ acc H p⟩
theorem c8i{x:Str}{g:TG}{tt:TT}{te:TE}{τ:St}{H:Hp}{Fin:List V→Hp→Prop}(Pv:Nat→St→List V→Hp→Prop)(h0:Pv 0 τ [] H)
  (hs:∀i c τ acc H,x.cps[i]?=some c→Pv i τ acc H→g (.str (chr1 c)) τ H fun τ2 H2=>tt τ2 H2 fun b H3=>if b=true then te τ2 H3 fun v H4=>acc.length < sizeLine∧Pv (i+1) τ2 (acc++[v]) H4 else Pv (i+1) τ2 acc H3)
  (hd:∀τ acc H,Pv x.cps.size τ acc H→Fin acc H):CompW (Its x) g tt te τ H Fin:=by
 refine⟨x.cps.size,Pv,h0,fun i τ acc H hi p=>?_⟩
 by_cases hlt:i < x.cps.size
 ·refine .inr ⟨hlt,hlt,fun v H' y=>?_⟩
  obtain⟨e,c,hc,y⟩:=y
  subst e y
  exact hs i c τ acc _ hc p
 ·have e:i=x.cps.size:=by omega
  subst e
  exact .inl ⟨Nat.le_refl _,hd τ acc H p⟩
noncomputable def c3t (names outer:List (Str×NameKind)) (N M:List Str) (k:Nat) (cap:List Nat):Bool:=
 names.all (fun y=>y.2 != .cell) && (names.all (fun y=>y.2 != .free || (outer.lookup y.1 == some .cell || outer.lookup y.1 == some .free)) && (names.all (fun y=>y.2 != .local || names.lookup y.1 == some .local) &&
  (M.length == k+cap.length && (List.range cap.length).all (fun j=>match cap[j]?,M[k+j]? with|some i,some x=>N[i]? == some x && names.lookup x == some .free|_,_=>true))))
theorem CompOk.of{X:Cx}{scope:Scope}{M:List Str}{k:Nat}{cap:List Nat}(outer:List (Str×NameKind))(N:List Str)(h:c3t scope.names outer N M k cap=true)(ho:X.env.scope.names=outer:=by rfl)(hN:X.N=N:=by rfl)(hk:scope.kind=.function:=by rfl):CompOk X scope M k cap:=by
 unfold c3t at h
 simp only[Bool.and_eq_true,List.all_eq_true,Bool.or_eq_true,bne_iff_ne,ne_eq,beq_iff_eq] at h
 obtain⟨h1,h2,h3,h4,h5⟩:=h
 refine⟨hk,h1,fun y hy e=>?_,fun y hy e=>?_,h4,fun j i x e1 e2=>?_⟩
 ·rcases h2 y hy with z|z
  ·exact absurd e z
  ·show X.env.scope.names.lookup y.1=_∨X.env.scope.names.lookup y.1=_
   rw[ho];exact z
 ·rcases h3 y hy with z|z
  ·exact absurd e z
  ·exact z
 ·have hj:j < cap.length:=(List.getElem?_eq_some_iff.mp e1).1
  have:=h5 j (List.mem_range.mpr hj)
  rw[e1,e2] at this
  simp only[Bool.and_eq_true,beq_iff_eq] at this
  rw[hN];exact this
section
variable {X:Cx}
noncomputable def b9z (K:PySem.W.Frag) (H:Hp):V→String→Prop
 |.non,n=>n="NoneType"
 |.bl _,n=>n="bool"
 |.int _,n=>n="int"
 |.str _,n=>n="str"
 |.ref a,n=>(n="list"∧∃xs,SqL K H a xs)∨(n="tuple"∧∃xs,SqT K H a xs)
 |_,_=>False
noncomputable def isiB (k T:String):Bool:=k == T || (k == "bool" && T == "int")
theorem c8j:CallR X (.builtin "isinstance") (fun xs H Q=>∃x k T,xs=[x,.ty T]∧b9z X.K H x k∧(T="int"∨T="str"∨T="bool"∨T="list"∨T="tuple")∧Q (.bl (isiB k T)) H):=by
 intro pins s σ H xs us Q I r h
 obtain⟨x,k,T,rfl,hk,hT,q⟩:=h
 obtain⟨u,w',rfl,rx,ry⟩:=vals2 r
 cases ry
 have fin:∀b,b=isiB k T→EP X pins σ Q (.bool b) s:=fun b e=>b9v I q e.symm
 have fin':∀b,b=isiB k T→EP X pins σ Q (.bool b) { s with toks:=s.toks+1}:=fun b e=>b9v (I.tok _) q e.symm
 cases x with
 |non=>
  cases rx
  have hk:k="NoneType":=hk
  subst hk
  rcases hT with rfl|rfl|rfl|rfl|rfl
  ·exact IsiPair.NoneType_int (fin' _ (by decide))
  ·exact IsiPair.NoneType_str (fin' _ (by decide))
  ·exact IsiPair.NoneType_bool (fin' _ (by decide))
  ·exact IsiPair.NoneType_list (fin' _ (by decide))
  ·exact IsiPair.NoneType_tuple (fin' _ (by decide))
 |bl b=>
  cases rx
  have hk:k="bool":=hk
  subst hk
  rcases hT with rfl|rfl|rfl|rfl|rfl
  ·exact IsiPair.bool_int (fin _ (by decide))
  ·exact IsiPair.bool_str (fin' _ (by decide))
  ·exact IsiPair.bool_bool (fin _ (by decide))
  ·exact IsiPair.bool_list (fin' _ (by decide))
  ·exact IsiPair.bool_tuple (fin' _ (by decide))
 |int i=>
  obtain⟨t,rfl⟩:=rx
  have hk:k="int":=hk
  subst hk
  rcases hT with rfl|rfl|rfl|rfl|rfl
  ·exact IsiPair.int_int (fin _ (by decide))
  ·exact IsiPair.int_str (fin' _ (by decide))
  ·exact IsiPair.int_bool (fin' _ (by decide))
  ·exact IsiPair.int_list (fin' _ (by decide))
  ·exact IsiPair.int_tuple (fin' _ (by decide))
 |str z=>
  obtain⟨t,rfl⟩:=rx
  have hk:k="str":=hk
  subst hk
  rcases hT with rfl|rfl|rfl|rfl|rfl
  ·exact IsiPair.str_int (fin' _ (by decide))
  ·exact IsiPair.str_str (fin _ (by decide))
  ·exact IsiPair.str_bool (fin' _ (by decide))
  ·exact IsiPair.str_list (fin' _ (by decide))
  ·exact IsiPair.str_tuple (fin' _ (by decide))
 |ref a=>
  cases rx
  rcases hk with⟨hk,ys,hs⟩|⟨hk,ys,hs⟩
  ·subst hk
   obtain⟨its,_,⟨o,n,e,hc,_⟩,_⟩:=I.list hs
   rcases hT with rfl|rfl|rfl|rfl|rfl
   ·exact IsiPair.list_int e hc (fin' _ (by decide))
   ·exact IsiPair.list_str e hc (fin' _ (by decide))
   ·exact IsiPair.list_bool e hc (fin' _ (by decide))
   ·exact IsiPair.list_list e hc (fin _ (by decide))
   ·exact IsiPair.list_tuple e hc (fin' _ (by decide))
  ·subst hk
   obtain⟨its,_,⟨o,e,hc,_⟩,_⟩:=I.tuple hs
   rcases hT with rfl|rfl|rfl|rfl|rfl
   ·exact IsiPair.tuple_int e hc (fin' _ (by decide))
   ·exact IsiPair.tuple_str e hc (fin' _ (by decide))
   ·exact IsiPair.tuple_bool e hc (fin' _ (by decide))
   ·exact IsiPair.tuple_list e hc (fin' _ (by decide))
   ·exact IsiPair.tuple_tuple e hc (fin _ (by decide))
 |byt _=>exact False.elim hk
 |flt _=>exact False.elim hk
 |ty _=>exact False.elim hk
theorem b0d{x:Str}{n:String}{pos:Pos}(hg:Gl X x)(hm:X.mg x=none)(hv:bootBuiltins x=some (.type n))(hn:x≠"__name__":=by decide)(hd:(x == ("__debug__":Str))=false:=by decide):PE X (.Name x pos) (tC (.ty n)):=
 d1w hg hm hv rfl hn hd
theorem b8p{prog:Program}{w:World}{A:Around}(its:List Value)(bs:List Bool)(hv:Vals (bs.map V.bl) its):TruthOf prog w A (fun i v=>its.toArray[i]?=some v) (fun i=>bs.getD i false):=by
 intro i v s Q E hP hQ
 have hP':its[i]?=some v:=by simpa using hP
 have hl:=hv.length
 rw[List.length_map] at hl
 have hi:i < its.length:=(List.getElem?_eq_some_iff.mp hP').1
 have hb:(bs.map V.bl)[i]?=some (.bl bs[i]):=by simp[show i < bs.length by omega]
 obtain⟨u,hu,ru⟩:=hv.get hb
 rw[hP'] at hu;cases hu
 cases ru
 have e:bs.getD i false=bs[i]:=by simp[show i < bs.length by omega]
 have hQ':Q (bs.getD i false) s:=hQ
 rw[e] at hQ'
 exact wpAny_truthy_bool hQ'
theorem c3u(bs:List Bool):(List.range bs.length).all (fun i=>bs.getD i false)=bs.all id:=by
 rw[Bool.eq_iff_iff,List.all_eq_true,List.all_eq_true]
 constructor
 ·intro h b hb
  obtain⟨i,hi,e⟩:=List.mem_iff_getElem.mp hb
  have:=h i (List.mem_range.mpr hi)
  simp[hi] at this
  rw[←e];exact this
 ·intro h i hi
  have hi:=List.mem_range.mp hi
  have:=h bs[i] (List.getElem_mem hi)
  simp[hi];exact this
theorem c3v(hc:X.calm=true):CallR X (.builtin "all") (fun xs H Q=>∃(a:Addr) (bs:List Bool),xs=[.ref a]∧SqL X.K H a (bs.map V.bl)∧Q (.bl (bs.all id)) H):=by
 intro pins s σ H xs us Q I r h
 obtain⟨a,bs,rfl,hs,q⟩:=h
 obtain⟨u,rfl,ru⟩:=vals1 r
 cases ru
 obtain⟨its,rv,p,hz⟩:=I.list hs
 have hl:=rv.length
 rw[List.length_map] at hl
 refine call_all_walk (wpAny_pyIter_list p.isList ?_)
 have hne:a≠s.heap.objs.size:=by obtain⟨o,n,e,_⟩:=p;exact Nat.ne_of_lt (Heap.lt_size e)
 refine⟨s.heap.objs.size,_,_,its.toArray.size,_,_,fun i=>bs.getD i false,rfl,Walks.list (A:=X.A.in1) (show X.A.in1.handled=none from I.ok.hd hc) _ a hne its.toArray,⟨⟨_,Heap.get?_push_size _ rfl,rfl,rfl⟩,?_⟩,b8p its bs rv,fun h' tk hk=>?_⟩
 ·exact p.isList.at fun o e=>Heap.get?_push_of_some _ e
 ·have e1:its.toArray.size=bs.length:=by rw[List.size_toArray,←hl]
  refine⟨.bl (bs.all id),H,I.kept (h':=h') (t':=tk) (fun b o e=>hk b o (fun z=>absurd (Nat.lt_of_lt_of_le (Heap.lt_size e) (Nat.le_of_eq (List.mem_singleton.mp z).symm)) (Nat.lt_irrefl _)) (Heap.get?_push_of_some _ e)),?_,q⟩
  show Value.bool _=Value.bool _
  rw[e1,c3u]
end
end L2
namespace L2
open PySem PySem.Spec PyProof.Rows
structure DefAt (K:PySem.W.Frag) (mg:Str→Option Value) (x:Str) (st:Stmt) (f:Addr) (fd:FuncData) (ps:List Str):Prop where
 fn:Fun K x x st f fd
 mg:mg x=some (.ref f)
 bd:Binds K fd ps []
section
variable {X:Cx} {k:Nat} {f:Addr} {fd:FuncData} {ps:List Str} {sp:Sp} {x:Str} {p pos:Pos} {e:Expr} {es:List Expr} {t:TA} {st:Stmt}
theorem pcall(D:DefAt X.K X.mg x st f fd ps)(F:FnOk X.prog X.w X.K X.mg X.base CX0 k f fd ps sp)(hr:Room k X.A)(ha:PA X (e::es) t)(hg:Gl X x:=by rfl)(hdb:(x == ("__debug__":Str))=false:=by decide)
  (he:starEach (e::es) X.env=(false,eval e X.env)::starEach es X.env:=by rfl) (hpl:(backTo pos (starEach es X.env)).any (·.1)=false:=by rfl) :
  PE X (.Call (.Name x p) (e::es) [] pos) (tCall sp [] E0 t):=d2d F hr hg D.mg D.fn.kp D.bd .nil pass0 ha hdb he hpl
end
section
variable {X:Cx} {a b:Expr} {rest:List Expr} {pos:Pos} {ta tb:TE} {tA tB:TT}
end
theorem Same.put{H H':Hp}{a:Addr}{o:HO}(s:Same H H')(h:H' a=none):Same H (upd H' a o):=fun b u e=>by
 have z:=s b u e
 rw[a0s (a1a z h)];exact z
theorem a6s{H:Hp}{a:Addr}{o:HO}(h:H a=none):Same H (upd H a o):=(Same.refl H).put h
theorem c8k{α:Type}{xs:List α}{k:Int}(d:α)(h0:0≤k)(hk:k < xs.length):atI xs k=some (xs.getD k.toNat d):=by
 have hk':k.toNat < xs.length:=by omega
 have e:xs[k.toNat]?=some (xs.getD k.toNat d):=by simp[hk']
 have z:=a3s e
 rwa [show((k.toNat:Nat):Int)=k by omega] at z
theorem b3r:bootBuiltins "int"=some (.type "int"):=by decide +kernel
theorem c0a:bootBuiltins "str"=some (.type "str"):=by decide +kernel
theorem c3w:bootBuiltins "bool"=some (.type "bool"):=by decide +kernel
theorem b4n:bootBuiltins "list"=some (.type "list"):=by decide +kernel
theorem b4o:bootBuiltins "tuple"=some (.type "tuple"):=by decide +kernel
theorem a6j:bootBuiltins "isinstance"=some (.builtin "isinstance"):=by decide +kernel
theorem d0r:bootBuiltins "all"=some (.builtin "all"):=by decide +kernel
theorem a4w:bootBuiltins "len"=some (.builtin "len"):=by decide +kernel
theorem d0s{n:Nat}(h:n≤1000):n≤sizeLine:=Nat.le_trans h (by decide)
end L2
namespace L2
open PySem PySem.Spec PyProof.Rows
noncomputable def snapL (h:Heap) (as:List Addr):PySem.W.Frag:=as.filterMap fun a=>(h.get? a).map fun o=>(a,o)
theorem b3s{h:Heap}{a:Addr}:∀{as:List Addr},a∈as→(snapL h as).lookup a=h.get? a:=by
 intro as
 induction as with
 |nil=>intro m;cases m
 |cons b r ih=>
  intro m
  unfold snapL
  rw[List.filterMap_cons]
  cases e:h.get? b with
  |none=>
   dsimp only[Option.map]
   by_cases q:a=b
   ·subst q
    by_cases m':a∈r
    ·exact ih m'
    ·rw[e]
     clear ih m
     induction r with
     |nil=>rfl
     |cons c r ih=>
      rw[List.filterMap_cons]
      have q2:a≠c:=fun z=>m' (z ▸ .head _)
      cases e2:h.get? c with
      |none=>exact ih fun z=>m' (.tail _ z)
      |some o=>dsimp only[Option.map];rw[List.lookup_cons,beq_false_of_ne q2];exact ih fun z=>m' (.tail _ z)
   ·exact ih ((List.mem_cons.1 m).resolve_left q)
  |some o=>
   dsimp only[Option.map]
   rw[List.lookup_cons]
   by_cases q:a=b
   ·subst q;rw[beq_self_eq_true];exact e.symm
   ·rw[beq_false_of_ne q];exact ih ((List.mem_cons.1 m).resolve_left q)
noncomputable def snap (h:Heap):PySem.W.Frag:=snapL h (List.range h.objs.size)
theorem b1t{h:Heap}{a:Addr}{o:Obj}(e:h.get? a=some o):(snap h).lookup a=some o:=(b3s (List.mem_range.2 (Heap.lt_size e))).trans e
theorem d2k{h:Heap}:(snap h).In h:=fun a o e=>by
 have m:a∈List.range h.objs.size:=by
  apply Classical.byContradiction
  intro m
  have:∀as:List Addr,a∉as→(snapL h as).lookup a=none:=by
   intro as
   induction as with
   |nil=>intro _;rfl
   |cons b r ih=>
    intro m
    unfold snapL
    rw[List.filterMap_cons]
    have q2:a≠b:=fun z=>m (z ▸ .head _)
    cases e2:h.get? b with
    |none=>exact ih fun z=>m (.tail _ z)
    |some o=>dsimp only[Option.map];rw[List.lookup_cons,beq_false_of_ne q2];exact ih fun z=>m (.tail _ z)
  rw[snap,this _ m] at e
  cases e
 exact(b3s m).symm.trans e
noncomputable def isDf (n:Str):Stmt→Bool
 |.FunctionDef m _ _ _ _ _ _ _ _ _=>m == n
 |_=>false
noncomputable def b6n (n:Str):List Stmt→Nat→Bool
 |[],_=>true
 |s::r,0=>isDf n s && r.all fun s => !isDf n s
 |s::r,j+1 => !isDf n s && b6n n r j
theorem b8q{n:Str}{x:Stmt}:∀{l:List Stmt} {j:Nat},b6n n l j=true→l[j]?=some x→l.filter (isDf n)=[x]:=by
 intro l
 induction l with
 |nil=>intro j _ h;cases h
 |cons s r ih=>
  intro j c h
  cases j with
  |zero=>
   obtain⟨c1,c2⟩:=Bool.and_eq_true_iff.1 c
   cases h
   rw[List.filter_cons_of_pos c1,List.filter_eq_nil_iff.2 fun y hy z=>by have:=List.all_eq_true.1 c2 y hy;rw[z] at this;cases this]
  |succ j=>
   obtain⟨c1,c2⟩:=Bool.and_eq_true_iff.1 c
   rw[List.filter_cons_of_neg (by intro z;rw[z] at c1;cases c1)]
   exact ih c2 h
theorem d5k{q:Program}{n m:Str}{j:Nat}{a:Arguments}{b:List Stmt}{sc:Scope}{r:Option Expr}{y z t}{pos:Pos}(c:b6n n q.main.body j=true)(h:q.main.body[j]?=some (.FunctionDef m a b [] r [] sc y z pos))
  (hd:a.defaults=[]) (hk:a.kwonlyargs=[]) (hk2:a.kw_defaults=[]) (ht:t=(a,b,sc)):∃p,(⟨n,t.1,t.2.1,t.2.2,p⟩:DefRec)∈recsOf q:=by
 subst ht
 have f:=b8q c h
 have e:(m == n)=true:=by
  have:Stmt.FunctionDef m a b [] r [] sc y z pos∈q.main.body.filter (isDf n):=by rw[f];exact .head _
  exact(List.mem_filter.1 this).2
 cases(beq_iff_eq.1 e:m=n)
 refine⟨pos,List.mem_filterMap.2 ⟨_,List.mem_of_getElem? h,?_⟩⟩
 have g:q.theDef n=some (a,b,sc):=by
  unfold Program.theDef
  split
  ·rename_i hq;cases hq.symm.trans f;rfl
  ·rename_i hq;exact(hq _ _ _ _ _ _ _ _ f).elim
 dsimp only
 rw[g]
 dsimp only
 rw[hd,hk,hk2]
 rfl
theorem d2l{q:Program}{L:List Str}{me}{mg mb:Str→Option Value}{h:Heap}(T:Top q L me mg mb h){n:Str}{st:Stmt}(hr:∃p,(⟨n,b0a st,a6r st,a0l st,p⟩:DefRec)∈recsOf q):
  ∃f fd,mg n=some (.ref f)∧Fun (snap h) n n st f fd:=by
 obtain⟨p,hr⟩:=hr
 obtain⟨a,o,pm,code,doc,hm,ho,hd,hc⟩:=T.fn _ hr
 obtain⟨c,oc,vs,t,rfl,hoc,hdc,hv⟩:=hc
 obtain⟨k1,k2,k3,k4⟩:=o
 cases(show k3=_ from hd)
 refine⟨a,_,hm,d5j (oc:=k1) (od:=k2) (osl:=k4) (an:=none) (ct:=.none) (kV:=.none) (b1t ho) ?_ ?_⟩
 ·unfold PySem.W.codeIn
  dsimp only
  rw[b1t hoc]
  obtain⟨l1,l2,l3,l4⟩:=oc
  cases(show l3=_ from hdc)
  rw[←Array.getElem?_toList] at hv
  dsimp only
  match hq:vs.toList,hv with
  |_::_::_,hv=>cases hv;exact beq_self_eq_true n
 ·unfold PySem.W.keepIn
  dsimp only
  rw[b1t ho]
theorem walk_top{l:PySem.W.OpenLaw}{n k:Nat}{q:Program}{loose:List Str}{XP:(Str→Option Value)→Heap→Prop}{YP:World→Heap→Prop}{d:DefRec}{CX:CXT}{sp:PySem.W.Frag→Sp}{x:Str}
  (hn:l.most=some n) (hn2:n≤sizeLine) (hdf:d.params.defaults=[]) (hr:Room k callerA)
  (F:∀(w:World) (me) (mg mb:Str→Option Value) (fa:Addr) (h:Heap),Top q (PySem.W.looseW q loose) me mg mb h→mg d.name=some (.ref fa)→
   ∃fd:FuncData,(∀(s:Shared) (u:Value),BindsTo s fd ⟨[u],[]⟩ [(x,u)])∧
    ∀base:Heap,FnOk l.prog w (snap h) mg base CX k fa fd [x] (sp (snap h)))
  (hsp:∀(K:PySem.W.Frag) (H:Hp) (a:Addr) (ns:List Int),ns.length≤n→Only H→SqL K H a (ns.map V.int)→sp K [.ref a] H (fun v _=>v=.bl true) fun _ _ _=>False)
  (hCX:∀(H:Hp) (s:Shared) (e:Value) (s':Shared),CX [] H s (fun _ _ _=>False) e s'→False) :
  PySem.W.WalkO q loose XP YP l.row.toRowW d [] (fun f vs=>PySem.call f vs):=by
 refine Att.attach_call hn hdf fun w s₀ s₁ mg mb fa o pm cd doc a vs ns G Y ho hd hcd hmg hobj hints hlen hg=>?_
 obtain⟨fd,hb,hF⟩:=F w _ mg mb fa _ G.T hmg
 exact c8g d2k G.T.g G.T.b G.T.builtins G.T.nolimit hg hobj hints (Nat.le_trans hlen hn2) hr (fun base _ _=>hF base) hb (fun H hO hS=>hsp _ H a ns hlen hO hS) fun H e s'=>hCX H s₁ e s'
end L2
namespace L2
open PySem PySem.Spec PyProof.Rows
noncomputable def isPl:Stmt→Bool
 |.FunctionDef _ a _ [] _ [] _ _ _ _=>a.defaults.isEmpty && a.kwonlyargs.isEmpty && a.kw_defaults.isEmpty
 |_=>false
noncomputable def chkD (B:List Stmt) (D:List (Str×Nat)):Bool:=D.all fun p=>b6n p.1 B p.2 && (B[p.2]?).any isPl
theorem d5l{q:Program}{n:Str}{j:Nat}{st:Stmt}(c:b6n n q.main.body j=true)(h:q.main.body[j]?=some st)(hp:isPl st=true):∃p,(⟨n,b0a st,a6r st,a0l st,p⟩:DefRec)∈recsOf q:=by
 unfold isPl at hp
 split at hp
 ·simp only[Bool.and_eq_true,List.isEmpty_iff] at hp
  exact d5k c h hp.1.1 hp.1.2 hp.2 rfl
 ·cases hp
section
variable {q:Program} {L:List Str} {me:ExcName→Option Value} {mg mb:Str→Option Value} {h:Heap}
theorem a3m(T:Top q L me mg mb h){B:List Stmt}{D:List (Str×Nat)}(hq:q.main.body=B)(c:chkD B D=true)(i:Nat){n:Str}{j:Nat}{st:Stmt}(hi:D[i]?=some (n,j))(hj:B[j]?=some st):
  ∃f fd,mg n=some (.ref f)∧Fun (snap h) n n st f fd:=by
 obtain⟨c1,c2⟩:=Bool.and_eq_true_iff.1 (List.all_eq_true.1 c _ (List.mem_of_getElem? hi))
 dsimp only at c1 c2
 rw[hj] at c2
 exact d2l T (d5l (by rw[hq];exact c1) (by rw[hq];exact hj) c2)
noncomputable def chkB (q:Program) (L bs:List Str):Bool:=bs.all fun x => !startupNames.contains x && !L.contains x && !((recsOf q).map (·.name)).contains x && !((litsOf q).map (·.1)).contains x && !((clssOf q L).map (·.name)).contains x
theorem a6d(T:Top q L me mg mb h){bs:List Str}(c:chkB q L bs=true)(i:Nat){x:Str}(hi:bs[i]?=some x):mg x=none:=by
 have z:=List.all_eq_true.1 c _ (List.mem_of_getElem? hi)
 simp only[Bool.and_eq_true,Bool.not_eq_true',←Bool.not_eq_true,List.contains_iff_mem] at z
 exact T.free x z.1.1.1.1 z.1.1.1.2 z.1.1.2 z.1.2 z.2
theorem b6o(T:Top q L me mg mb h){x:Str}{i:Int}(hv:valOf q x=some (.int i)):∃t,mg x=some (.int i t):=by
 obtain⟨v,hm,hr⟩:=T.const x _ hv
 cases hr h
 exact⟨_,hm⟩
theorem b6p(T:Top q L me mg mb h){x y:Str}(hv:valOf q x=some (.str y)):∃t,mg x=some (.str y t):=by
 obtain⟨v,hm,hr⟩:=T.const x _ hv
 cases hr h
 exact⟨_,hm⟩
end
end L2
namespace L2
open PySem PySem.Spec PyProof.Rows
section
variable {X:Cx}
noncomputable def insV (xs:List V) (k:Nat) (y:V):List V:=xs.take k++y::xs.drop k
theorem b8r(xs:List V)(k:Nat)(y:V):(insV xs k y).length=xs.length+1:=by
 unfold insV
 rw[List.length_append,List.length_cons,List.length_take,List.length_drop]
 omega
noncomputable def c3x:V→List V→Hp→VK→Prop:=fun x vs H Q=>∃l xs i y,x=.ref l∧vs=[.int i,y]∧H l=some (.lst xs)∧0≤i∧i < 2 ^ 62∧xs.length < sizeLine∧Q .non (upd H l (.lst (insV xs i.toNat y)))
theorem b1u:MtM X "list.insert" c3x:=by
 intro pins s σ H x vs v us Q I rx rv h
 obtain⟨l,xs,i,y,rfl,rfl,hH,h0,hi,hz,q⟩:=h
 cases rx
 obtain⟨u,u',rfl,⟨t,rfl⟩,ru⟩:=rv.two
 obtain⟨z,its,n,r,hl,e⟩:=I.lstM hH
 have hfit:¬(!Builtin.List.listFitsIndex i)=true:=by
  unfold Builtin.List.listFitsIndex
  simp
  omega
 refine call_meets F.slot_list_insert ⟨_,e,rfl⟩ F.entry_list_insert (F.args_list_insert_3 _ _ _) (PySem.AutoSeq1.list_insert_list_int_val_1 l its.toArray n i t u' hfit (by rw[List.size_toArray];omega)) ⟨e,?_⟩
 refine⟨.non,_,I.lset (its':=its.take i.toNat++u'::its.drop i.toNat) hH e ?_ ((r.take i.toNat).append (.cons ru (r.drop i.toNat))) ?_,rfl,q⟩
 ·have h1:¬i < 0:=by omega
  simp only[h1,if_false]
  apply Array.ext'
  simp only[Array.toList_append,Array.toList_push,Array.toList_extract,List.size_toArray]
  rw[List.extract_eq_drop_take,List.extract_eq_drop_take]
  have e1:min i.toNat its.length - 0=min i.toNat its.length:=by omega
  rw[e1]
  simp only[List.drop_zero]
  have e2:its.take (min i.toNat its.length)=its.take i.toNat:=by rw[List.take_eq_take_iff];omega
  rw[e2]
  by_cases hc:i.toNat≤its.length
  ·rw[Nat.min_eq_left hc,List.take_of_length_le (l:=List.drop i.toNat its) (by rw[List.length_drop];omega)]
   simp
  ·have hc:its.length≤i.toNat:=by omega
   rw[Nat.min_eq_right hc,List.drop_of_length_le (Nat.le_refl _),List.drop_of_length_le hc]
   simp
 ·show(insV xs i.toNat y).length≤sizeLine
  rw[b8r]
  omega
noncomputable def Itc (a c:Int) (n:Nat):It:=⟨fun i _=>i < n,fun i H x H'=>H'=H∧x=.int (a+i * c),fun i _=>n≤i⟩
theorem b8s{P:Program}{w:World}{K:PySem.W.Frag}{tg:Expr}(it:Addr)(a c:Int)(n:Nat):Turn P w K tg (Itc a c n) [it] it (fun i h=>IsRangeIter h it (a+(i:Nat) * c) ((n:Int) - (i:Nat)) c) where
 mem:=by simp
 obj:=fun i h st b hb=>by
  have e:b=it:=by simpa using hb
  subst e
  exact⟨_,st,fun v z=>by
   have z':Data.fields _=Data.cell v:=z
   cases z'⟩
 keep:=fun i h h' st k=>k it (by simp) _ st
 item:=by
  intro X hP hw hK hc i pins s σ H E I hf st hg
  subst hP hw hK
  obtain⟨f0,f1,f2,f3,f4,f5⟩:=hf it (by simp)
  have W:=Walks.range (prog:=X.prog) (w:=X.w) (I.ok.hd hc) it a c n
  refine W.item i s _ _ hg st fun v h' tk hv st' kk=>?_
  obtain⟨t,rfl⟩:=hv
  have I1:Inv X pins σ H { s with heap:=h',toks:=tk}:=I.turned (fun b o hb e=>kk b o (by simpa using hb) e) f0 f1 f3 f4 f5
  exact⟨_,rfl,c7x (s:={ s with heap:=h',toks:=tk}) (n:="range_iterator") st' rfl rfl (by decide) ⟨.int (a+i * c),H,I1,⟨t,rfl⟩,⟨rfl,rfl⟩,st',fun b hb=>(hf b hb).1⟩⟩
 done:=by
  intro X hP hw hK hc i pins s σ H E I hf st hg
  subst hP hw hK
  obtain⟨f0,f1,f2,f3,f4,f5⟩:=hf it (by simp)
  exact wpAny_pyNext_range_end (I.ok.hd hc) st (by have:n≤i:=hg;omega) fun h' eb=>⟨rfl,I.turned (t':=s.toks) (fun b o hb e=>eb b o hb e) f0 f1 f3 f4 f5⟩
 self:=fun _ _ _ _ _ st h=>wpAny_pyIter_rangeiter st h
noncomputable def iRngD (ta:TA):TI:=fun σ H R=>ta σ H fun vs H1=>∃i j:Int,vs=[.int i,.int j,.int (-1)]∧(-(2 ^ 20)≤i∧i < 2 ^ 20 ∧ -(2 ^ 20)≤j∧j < 2 ^ 20)∧R (Itc i (-1) (i - j).toNat) H1
theorem c3y{tg a b c:Expr}{ta:TA}{p pos:Pos}(hg:Gl X "range")(hm:X.mg "range"=none)(ha:PA X [a,b,c] ta)(hs:starEach [a,b,c] X.env=[(false,eval a X.env),(false,eval b X.env),(false,eval c X.env)]:=by rfl)
  (hs2:starEach [b,c] X.env=[(false,eval b X.env),(false,eval c X.env)]:=by rfl):PI X tg (.Call (.Name "range" p) [a,b,c] [] pos) (iRngD ta):=by
 intro pins s σ H R I h
 refine Call_ (b3o I hg hm boot_range (PyProof.Rows.callWith_type1 (thn (ha pos pins s σ H _ I h) fun us s1 ⟨vs,H1,I1,r1,q1⟩=>?_) (by rw[hs,hs2]) (by rw[hs2];rfl)))
 obtain⟨i,j,e,⟨q1,q2,q3,q4⟩,q⟩:=q1
 subst e
 cases r1 with
 |cons r rr=>
  cases rr with
  |cons r' rr=>
   cases rr with
   |cons r'' rr=>
    cases rr
    obtain⟨t,rfl⟩:=r
    obtain⟨t',rfl⟩:=r'
    obtain⟨t'',rfl⟩:=r''
    refine call_range_3 (by decide) ?_ (Or.inl (PyProof.noPylong_small (by omega)))
    refine wpAny_pyIter_range (IsRange.new ..) (PySem.W.small_down (by omega) (by omega) (by omega) (by omega)) ?_
    have I2:Inv X pins σ H1 { s1 with heap:=s1.heap.push { cls:=.type "range",data:=.fields #[.int i t,.int j t',.int (-1) t'']}}:=I1.kept (t':=s1.toks) fun b o e=>Heap.get?_push_of_some _ e
    refine⟨(s1.heap.push { cls:=.type "range",data:=.fields #[.int i t,.int j t',.int (-1) t'']}).objs.size,[(s1.heap.push { cls:=.type "range",data:=.fields #[.int i t,.int j t',.int (-1) t'']}).objs.size],_,_,H1,rfl,
     I2.kept (t':=s1.toks) fun b o e=>Heap.get?_push_of_some _ e,b8s _ i (-1) (i - j).toNat,?_,fun b hb=>?_,q⟩
    ·have e1:i+((0:Nat):Int) * (-1)=i:=by simp
     have e2:(((i - j).toNat:Nat):Int) - ((0:Nat):Int)=Builtin.Range.rangeSize i j (-1):=by rw[PySem.W.rangeSize_downNat];omega
     show IsRangeIter _ _ (i+((0:Nat):Int) * (-1)) ((((i - j).toNat:Nat):Int) - ((0:Nat):Int)) (-1)
     rw[e1,e2]
     exact Heap.get?_push_size _ rfl
    ·have e:b=(s1.heap.push { cls:=.type "range",data:=.fields #[.int i t,.int j t',.int (-1) t'']}).objs.size:=by simpa using hb
     subst e
     exact I2.fpOk (Nat.le_refl _) (I2.hok.fresh (Nat.le_refl _))
theorem c2e{a c:Int}{n:Nat}{g:TG}{tb:TS}{D:Ends}{σ:St}{H:Hp}(Pv:Nat→St→Hp→Prop)(h0:Pv 0 σ H)
  (hs:∀i σ H,i < n→Pv i σ H→g (.int (a+i * c)) σ H fun σ2 H2=>tb { D with nx:=Pv (i+1),ct:=Pv (i+1),bk:=D.nx} σ2 H2) (hd:∀σ H,Pv n σ H→D.nx σ H) :
  ∃W:Nat→Nat→St→Hp→Prop,(∃m,W 0 m σ H)∧∀i m σ H,W i m σ H→
   ((Itc a c n).stop i H∧D.nx σ H)∨((Itc a c n).go i H∧∃N:St→Hp→Prop,(∀σ' H',N σ' H'→∃m',m' < m∧W (i+1) m' σ' H')∧∀x H',(Itc a c n).yld i H x H'→g x σ H' fun σ2 H2=>tb { D with nx:=N,ct:=N,bk:=D.nx} σ2 H2):=by
 refine⟨fun i m σ H=>m=n - i∧i≤n∧Pv i σ H,⟨n,by simp,Nat.zero_le _,h0⟩,?_⟩
 rintro i m σ H ⟨rfl,hi,p⟩
 by_cases hlt:i < n
 ·refine .inr ⟨hlt,Pv (i+1),fun σ' H' p'=>⟨n - (i+1),by omega,rfl,hlt,p'⟩,fun x H' y=>?_⟩
  obtain⟨e,y⟩:=y
  subst e y
  exact hs i σ _ hlt p
 ·have e:i=n:=by omega
  subst e
  exact .inl ⟨Nat.le_refl _,hd σ H p⟩
noncomputable def rSlS:V→Option Int→Option Int→Hp→VK→Prop:=fun x lo hi H Q=>∃z,x=.str z∧z.length≤sizeLine∧Q (.str (Txt.slice z lo hi)) H
theorem sl_str:SlR X rSlS:=by
 intro pins s σ H x v vl vu lo hi sl Q I rx hs pl pu h
 obtain⟨z,rfl,hz,q⟩:=h
 obtain⟨t,rfl⟩:=rx
 refine⟨"str",_,F.slot_str_getitem.lookup,typeIs_str _ _ _,?_⟩
 have fin:∀t' k,EP X pins σ Q (.str (Txt.slice z lo hi) t') { s with toks:=k}:=fun t' k=>⟨.str _,H,I.tok _,⟨_,rfl⟩,q⟩
 cases pl with
 |none=>
  cases pu with
  |none=>exact wpAny_getItem_str_slice (l:=none) (u:=none) (st:=none) hs rfl (post_val_or_str ⟨Nat.le_trans (Txt.slice_le z _ _) hz,fin⟩)
  |int j tj=>exact wpAny_getItem_str_slice (l:=none) (u:=some (j,tj)) (st:=none) hs rfl (post_val_or_str ⟨Nat.le_trans (Txt.slice_le z _ _) hz,fin⟩)
 |int i ti=>
  cases pu with
  |none=>exact wpAny_getItem_str_slice (l:=some (i,ti)) (u:=none) (st:=none) hs rfl (post_val_or_str ⟨Nat.le_trans (Txt.slice_le z _ _) hz,fin⟩)
  |int j tj=>exact wpAny_getItem_str_slice (l:=some (i,ti)) (u:=some (j,tj)) (st:=none) hs rfl (post_val_or_str ⟨Nat.le_trans (Txt.slice_le z _ _) hz,fin⟩)
theorem c2f:OpR X (binaryOp .Mult) (fun x y H Q=>∃z n,x=.str z∧y=.int n∧MulOk z n∧Q (.str (Txt.mul z n)) H):=by
 intro pins s σ H x y v u Q I rx ry h
 obtain⟨z,n,rfl,rfl,hm,q⟩:=h
 obtain⟨t,rfl⟩:=rx
 obtain⟨t',rfl⟩:=ry
 exact SB.mul hm fun t' k=>⟨.str _,H,I.tok _,⟨_,rfl⟩,q⟩
end
inductive EqD (K:PySem.W.Frag) (H:Hp):Nat→V→V→Bool→Prop
 |flat {d:Nat} {x y:V}:flatV x=true→flatV y=true→EqD K H d x y (eqV x y)
 |same {d:Nat} {a:Addr}:EqD K H d (.ref a) (.ref a) true
 |lst {d:Nat} {a b:Addr} {xs ys:List V} {e:Nat→Bool}:a≠b→SqL K H a xs→SqL K H b ys→xs.length=ys.length→(∀(i:Nat) x y,xs[i]?=some x→ys[i]?=some y→EqD K H d x y (e i))→EqD K H (d+1) (.ref a) (.ref b) ((List.range xs.length).all e)
 |lstN {d:Nat} {a b:Addr} {xs ys:List V}:a≠b→SqL K H a xs→SqL K H b ys→xs.length≠ys.length→EqD K H (d+1) (.ref a) (.ref b) false
 |tup {d:Nat} {a b:Addr} {xs ys:List V} {e:Nat→Bool}:a≠b→SqT K H a xs→SqT K H b ys→(∀(i:Nat) x y,xs[i]?=some x→ys[i]?=some y→EqD K H d x y (e i))→EqD K H (d+1) (.ref a) (.ref b) ((List.range (min xs.length ys.length)).all e && xs.length == ys.length)
section
variable {X:Cx} {pins:List (Addr×Obj)} {σ:St} {H:Hp} {s:Shared}
theorem Vals.at{xs:List V}{us:List Value}(r:Vals xs us){j:Nat}(h:j < us.toArray.size):∃x,xs[j]?=some x∧RelV x us.toArray[j]:=by
 have hl:=r.length
 have h':j < us.length:=by simpa using h
 have hx:xs[j]?=some xs[j]:=by simp[show j < xs.length by omega]
 obtain⟨u,hu,ru⟩:=r.get hx
 have:us[j]?=some us[j]:=by simp[h']
 rw[this] at hu
 cases hu
 exact⟨xs[j],hx,by simpa using ru⟩
end
section
variable {X:Cx}
theorem c8l(K:PySem.W.Frag)(hK:X.K=K:=by rfl):IxR X (rIxL K):=hK ▸ c3m
theorem d2m(K:PySem.W.Frag)(hK:X.K=K:=by rfl):IxR X (rIxT K):=hK ▸ d5g
theorem b4p(K:PySem.W.Frag)(hK:X.K=K:=by rfl):CallR X (.builtin "len") (fun xs H Q=>∃p ys,xs=[.ref p]∧(SqL K H p ys∨SqT K H p ys)∧Q (.int ys.length) H):=hK ▸ b6h
theorem c8m(K:PySem.W.Frag)(hK:X.K=K:=by rfl):SlR X (rSlL K):=hK ▸ d2i
theorem d2n(K:PySem.W.Frag)(hK:X.K=K:=by rfl):SlR X (rSlT K):=hK ▸ d5f
theorem a2r(K:PySem.W.Frag)(hK:X.K=K:=by rfl):CallR X (.builtin "isinstance") (fun xs H Q=>∃x k T,xs=[x,.ty T]∧b9z K H x k∧(T="int"∨T="str"∨T="bool"∨T="list"∨T="tuple")∧Q (.bl (isiB k T)) H):=hK ▸ c8j
theorem b6q(K:PySem.W.Frag){a:Expr}{ta:TE}(ha:PE X a ta)(he:∀whole,isTrue a X.env whole=(do let v ←whole;standAt a.pos;holding [v] (truthy v)))(hK:X.K=K:=by rfl):
  PT X a (fun σ H Q=>ta σ H fun x H'=>∃k,TruV K x H' k∧Q k H'):=hK ▸ b4k ha he
theorem a9d(K:PySem.W.Frag){tg l:Expr}{tl:TE}(hl:PE X l tl)(hK:X.K=K:=by rfl):PI X tg l (iList K tl):=hK ▸ b8i hl
end
theorem a2i{A:Around}{k:Nat}(hr:Room k A):A.units+40 < cLine:=Nat.lt_of_le_of_lt (Nat.add_le_add_left (by decide:40≤64) _) hr.units
end L2
namespace Carry
open PySem L2
noncomputable def SB (f:Addr) (H H':Hp):Prop:=∀b o,H b=some o→b≠f→H' b=some o
structure Feed where
 ns:List Int
 pl:Int
 style:Int
 mode:Int
 num:Int
noncomputable def feedO (sl:Addr) (F:Feed):HO:=.lst [.ref sl,.int F.pl,.int F.style,.int F.mode,.int F.num]
structure FeedAt (H:Hp) (f sl:Addr) (F:Feed):Prop where
 fo:H f=some (feedO sl F)
 so:H sl=some (.lst (F.ns.map V.int))
 pos:0≤F.pl
 len:F.ns.length≤63
noncomputable def cellOf (F:Feed):Int:=if 0 < F.ns.length then F.ns.getD (F.pl % F.ns.length).toNat 0+F.pl / F.ns.length * 31 else F.pl
noncomputable def drawV (F:Feed) (m:Int):Int:=if F.mode=1 then F.num % m else(cellOf F * 48271+31 * F.pl) % 1000003 * 69621 % 999983 % m
noncomputable def drawF (F:Feed) (m:Int):Feed:=if F.mode=1 then{ F with num:=F.num / m} else{ F with pl:=F.pl+1}
theorem a0q(F:Feed){m:Int}(h:0 < m):0≤drawV F m:=by
 unfold drawV
 split
 ·exact Int.emod_nonneg _ (by omega)
 ·exact Int.emod_nonneg _ (by omega)
theorem a2a(F:Feed){m:Int}(h:0 < m):drawV F m < m:=by
 unfold drawV
 split
 ·exact Int.emod_lt_of_pos _ h
 ·exact Int.emod_lt_of_pos _ h
theorem c8n(F:Feed)(m:Int):(drawF F m).ns=F.ns:=by unfold drawF;split <;> rfl
theorem a2j(F:Feed)(m:Int):(drawF F m).style=F.style:=by unfold drawF;split <;> rfl
theorem c8o(F:Feed)(m:Int)(h:0≤F.pl):0≤(drawF F m).pl:=by
 unfold drawF;split
 ·exact h
 ·show 0≤F.pl+1
  omega
noncomputable def ws12:List Str:=["ring","to","belt","cart","rin","tooo","carts","r","belts","t","cartto","be"]
noncomputable def a1o (st k:Int):Str:=
 if st % 5=4 then ws12.getD k.toNat ""
 else if st % 4=3 then(if 7 < k then Txt.mul "y" (k - 7) else Txt.slice "zbdgkafe" none (some (k+1)))
 else((["","ab","zzz"]:List Str).getD (st % 4).toNat ""++chr1 (("dbgkafelcjhi":Str).cps.toList.getD k.toNat 0))++(["","ba","zz"]:List Str).getD (st / 4 % 3).toNat ""
theorem b3j:∀st:Nat,st < 60→∀i:Nat,i < 12→∀j:Nat,j < 12→a1o st i=a1o st j→i=j:=by decide +kernel
theorem a8m:∀st:Nat,st < 60→∀i:Nat,i < 12→(a1o st i).length≤20:=by decide +kernel
theorem a7g{x:Int}{n:Nat}(h0:0≤x)(h1:x < n):∃k:Nat,x=k∧k < n:=⟨x.toNat,by omega,by omega⟩
theorem b0e{st i j:Int}(hs:0≤st)(hs':st < 60)(hi:0≤i)(hi':i < 12)(hj:0≤j)(hj':j < 12)(e:a1o st i=a1o st j):i=j:=by
 obtain⟨s,rfl,s1⟩:=a7g (n:=60) hs hs'
 obtain⟨a,rfl,a1⟩:=a7g (n:=12) hi hi'
 obtain⟨b,rfl,b1⟩:=a7g (n:=12) hj hj'
 rw[b3j s s1 a a1 b b1 e]
structure Belt where
 name:Str
 long:Int
 ring:Bool
 outs:List Str
structure House where
 belts:List Belt
 carts:List Str
noncomputable def strs' (xs:List Str):List V:=xs.map V.str
noncomputable def d5m (H:Hp) (v:V) (b:Belt):Prop:=∃p o,v=.ref p∧H p=some (.tup [.str b.name,.int b.long,.bl b.ring,.ref o])∧H o=some (.lst (strs' b.outs))
structure HouseAt (H:Hp) (p pb pc:Addr) (refs:List V) (h:House):Prop where
 top:H p=some (.tup [.ref pb,.ref pc])
 bl:H pb=some (.lst refs)
 ct:H pc=some (.lst (strs' h.carts))
 each:Paired (d5m H) refs h.belts
noncomputable def insS (xs:List Str) (k:Nat) (y:Str):List Str:=xs.take k++y::xs.drop k
theorem c0b(xs:List Str)(k:Nat)(y:Str):(insS xs k y).length=xs.length+1:=by
 unfold insS
 rw[List.length_append,List.length_cons,List.length_take,List.length_drop]
 omega
theorem mem_insS{xs:List Str}{k:Nat}{y z:Str}:z∈insS xs k y↔z=y∨z∈xs:=by
 unfold insS
 rw[List.mem_append,List.mem_cons]
 constructor
 ·rintro(h|h|h)
  ·exact .inr (List.mem_of_mem_take h)
  ·exact .inl h
  ·exact .inr (List.mem_of_mem_drop h)
 ·rintro(h|h)
  ·exact .inr (.inl h)
  ·rw[←List.take_append_drop k xs,List.mem_append] at h
   rcases h with h|h
   ·exact .inl h
   ·exact .inr (.inr h)
noncomputable def a3f (later carts:List Str) (p:Feed×List Str):Feed×List Str:=
 let m:Int:=later.length+carts.length
 let out:=(later++carts).getD (drawV p.1 m).toNat ""
 if p.2.contains out=true then(drawF p.1 m,p.2)
 else(drawF (drawF p.1 m) (p.2.length+1),insS p.2 (drawV (drawF p.1 m) (p.2.length+1)).toNat out)
noncomputable def a3b (later carts:List Str):Nat→Feed×List Str→Feed×List Str
 |0,p=>p
 |n+1,p=>a3f later carts (a3b later carts n p)
noncomputable def outsM (F:Feed) (later carts:List Str):Feed×List Str:=
 let p:=a3b later carts (1+drawV F 3).toNat (drawF F 3,[])
 let hand:=carts.getD 0 ""
 if(!p.2.contains hand && decide (((p.2.filter fun o=>later.contains o).length:Int)=0))=true then(drawF p.1 (p.2.length+1),insS p.2 (drawV p.1 (p.2.length+1)).toNat hand) else p
noncomputable def a3t (st:Int) (n:Nat):List Str:=(List.range n).map fun(k:Nat)=>a1o st (11 - (0+(k:Int)))
noncomputable def b01 (b:Bool):Int:=if b=true then 1 else 0
noncomputable def a5n (many wide:Int) (carts:List Str) (i:Nat) (p:Feed×List Belt):Feed×List Belt:=
 let k:Int:=many - 1+(i:Int) * (-1)
 let ring:Bool:=decide (V.int (drawV p.1 3)=V.int 0)
 let F1:=drawF p.1 3
 let long:=1+b01 ring+drawV F1 4+wide * b01 (decide (V.int k=V.int 0))
 let o:=outsM (drawF F1 4) (p.2.map Belt.name) carts
 (o.1,⟨a1o o.1.style k,long,ring,o.2⟩::p.2)
noncomputable def a0z (many wide:Int) (carts:List Str):Nat→Feed×List Belt→Feed×List Belt
 |0,p=>p
 |n+1,p=>a5n many wide carts n (a0z many wide carts n p)
noncomputable def wideM (many:Int) (F:Feed):Feed×Int:=if many < 3 then(drawF (drawF F 2) 20,drawV F 2 * drawV (drawF F 2) 20) else(F,0)
noncomputable def a8n (c:Int) (F:Feed):Feed×House:=
 let many:=drawV F 7
 let F1:=drawF F 7
 let carts:=a3t F.style (1+drawV F1 c).toNat
 let w:=wideM many (drawF F1 c)
 let r:=a0z many w.2 carts many.toNat (w.1,[])
 (r.1,⟨r.2,carts⟩)
theorem b4q(later carts:List Str)(p:Feed×List Str):(a3f later carts p).1.style=p.1.style:=by
 unfold a3f;dsimp only;split <;> simp only[a2j]
theorem a6t(later carts:List Str)(p:Feed×List Str):∀n,(a3b later carts n p).1.style=p.1.style
 |0=>rfl
 |n+1=>(b4q later carts _).trans (a6t later carts p n)
theorem a8t(F:Feed)(later carts:List Str):(outsM F later carts).1.style=F.style:=by
 unfold outsM;dsimp only;split
 ·simp only[a2j,a6t]
 ·simp only[a2j,a6t]
theorem a6e(many wide:Int)(carts:List Str)(p:Feed×List Belt):∀n,(a0z many wide carts n p).1.style=p.1.style
 |0=>rfl
 |n+1=>by
  show(outsM _ _ _).1.style=_
  simp only[a8t,a2j]
  exact a6e many wide carts p n
theorem a7k(many wide:Int)(carts:List Str)(p:Feed×List Belt):∀n,(a0z many wide carts n p).2.length=p.2.length+n
 |0=>rfl
 |n+1=>by
  show(_::(a0z many wide carts n p).2).length=_
  rw[List.length_cons,a7k many wide carts p n]
  omega
theorem b8t(many:Int)(F:Feed):(wideM many F).1.style=F.style:=by
 unfold wideM;split <;> simp only[a2j]
theorem b3t(st:Int)(n:Nat):(a3t st n).length=n:=by unfold a3t;rw[List.length_map,List.length_range]
end Carry
namespace L2
open PySem PySem.Spec PyProof.Rows
inductive D where
 |non|bl (b:Bool)|int (i:Int)|str (x:Str)|ty (n:String)
 |lst (xs:List D)|tup (xs:List D)|dct (kvs:List (TK×D))|scr (ns:List Int)|exc (C:Addr) (l:Option Int)
mutual
noncomputable def TK.d:TK→D
 |.inl i=>.int i
 |.inr x=>.str x
 |.tp l=>.tup (TK.dl l)
noncomputable def TK.dl:List TK→List D
 |[]=>[]
 |k::l=>TK.d k::TK.dl l
end
noncomputable def a4a:D→Option V
 |.non=>some .non
 |.bl b=>some (.bl b)
 |.int i=>some (.int i)
 |.str x=>some (.str x)
 |.ty n=>some (.ty n)
 |_=>none
noncomputable def excO (C t:Addr) (d:Option Addr):Obj:={ cls:=.ref C,dict:=d,data:=.fields #[.ref t,.none,.none,.none,.bool false,.none]}
noncomputable def ExcA (F:Hp) (a C:Addr):Option Int→Prop
 |none=>∃t,F a=some (.frz (excO C t none) (.own 0))
 |some n=>∃t dx,F a=some (.frz (excO C t (some dx)) (.own 0))∧F dx=some (.xd [("line",.int n)])
inductive RepL (K:PySem.W.Frag) (F:Hp):List V→List D→Prop
 |nil:RepL K F [] []
 |flat {v:V} {d:D} {vs:List V} {ds:List D}:a4a d=some v→RepL K F vs ds→RepL K F (v::vs) (d::ds)
 |lst {a:Addr} {ws vs:List V} {es ds:List D}:Rd F a (.lst ws)→RepL K F ws es→RepL K F vs ds→RepL K F (.ref a::vs) (.lst es::ds)
 |tup {a:Addr} {ws vs:List V} {es ds:List D}:SqT K F a ws→RepL K F ws es→RepL K F vs ds→RepL K F (.ref a::vs) (.tup es::ds)
 |dct {a:Addr} {kvs:List (TK×V×V)} {es:List (TK×D)} {ep:Nat} {vs:List V} {ds:List D}:F a=some (.dG kvs ep)→kvs.map (·.1)=es.map (·.1)→RepL K F (kvs.map (·.2.1)) (es.map (·.1.d))→RepL K F (kvs.map (·.2.2)) (es.map (·.2))→RepL K F vs ds→RepL K F (.ref a::vs) (.dct es::ds)
 |scr {a:Addr} {ns:List Int} {vs:List V} {ds:List D}:SqL K F a (ns.map V.int)→RepL K F vs ds→RepL K F (.ref a::vs) (.scr ns::ds)
 |exc {a C:Addr} {l:Option Int} {vs:List V} {ds:List D}:ExcA F a C l→RepL K F vs ds→RepL K F (.ref a::vs) (.exc C l::ds)
theorem Same.rd{H H':Hp}{a:Addr}{u:HO}(e:Same H H')(h:Rd H a u):Rd H' a u:=by
 rcases h with h|⟨o,h⟩
 ·exact .inl (e _ _ h)
 ·exact .inr ⟨o,e _ _ h⟩
theorem Same.seqT{K:PySem.W.Frag}{H H':Hp}{a:Addr}{xs:List V}(e:Same H H')(h:SqT K H a xs):SqT K H' a xs:=by
 rcases h with(h|⟨o,h⟩)|h
 ·exact .inl (.inl (e _ _ h))
 ·exact .inl (.inr ⟨o,e _ _ h⟩)
 ·exact .inr h
section
variable {K:PySem.W.Frag} {F F':Hp}
theorem ExcA.mono{F F':Hp}{a C:Addr}{l:Option Int}(s:Same F F')(h:ExcA F a C l):ExcA F' a C l:=by
 cases l with
 |none=>obtain⟨t,e⟩:=h;exact⟨t,s _ _ e⟩
 |some n=>obtain⟨t,dx,e,q⟩:=h;exact⟨t,dx,s _ _ e,s _ _ q⟩
theorem RepL.mono(s:Same F F'){vs:List V}{ds:List D}(h:RepL K F vs ds):RepL K F' vs ds:=by
 induction h with
 |nil=>exact .nil
 |flat e _ ih=>exact .flat e ih
 |lst e _ _ i1 i2=>exact .lst (s.rd e) i1 i2
 |tup e _ _ i1 i2=>exact .tup (s.seqT e) i1 i2
 |dct e k _ _ _ i0 i1 i2=>exact .dct (s _ _ e) k i0 i1 i2
 |scr e _ i=>exact .scr (s.seq e) i
 |exc e _ i=>exact .exc (e.mono s) i
theorem RepL.length{vs:List V}{ds:List D}(h:RepL K F vs ds):vs.length=ds.length:=by
 induction h with
 |nil=>rfl
 |flat _ _ ih=>simp[ih]
 |lst _ _ _ _ ih=>simp[ih]
 |tup _ _ _ _ ih=>simp[ih]
 |dct _ _ _ _ _ _ _ ih=>simp[ih]
 |scr _ _ ih=>simp[ih]
 |exc _ _ ih=>simp[ih]
theorem RepL.inv{v:V}{vs:List V}{d:D}{ds:List D}(h:RepL K F (v::vs) (d::ds)):RepL K F [v] [d]∧RepL K F vs ds:=by
 cases h with
 |flat e t=>exact⟨.flat e .nil,t⟩
 |lst e i t=>exact⟨.lst e i .nil,t⟩
 |tup e i t=>exact⟨.tup e i .nil,t⟩
 |dct e k j i t=>exact⟨.dct e k j i .nil,t⟩
 |scr e t=>exact⟨.scr e .nil,t⟩
 |exc e t=>exact⟨.exc e .nil,t⟩
theorem RepL.cons{v:V}{vs:List V}{d:D}{ds:List D}(h:RepL K F [v] [d])(t:RepL K F vs ds):RepL K F (v::vs) (d::ds):=by
 cases h with
 |flat e _=>exact .flat e t
 |lst e i _=>exact .lst e i t
 |tup e i _=>exact .tup e i t
 |dct e k j i _=>exact .dct e k j i t
 |scr e _=>exact .scr e t
 |exc e _=>exact .exc e t
theorem RepL.get:∀{vs:List V} {ds:List D} {i:Nat} {d:D},RepL K F vs ds→ds[i]?=some d→∃v,vs[i]?=some v∧RepL K F [v] [d]
 |[],[],i,d,_,e=>by simp at e
 |v::vs,d'::ds,0,d,h,e=>by simp at e;subst e;exact⟨v,rfl,h.inv.1⟩
 |v::vs,d'::ds,i+1,d,h,e=>by
  obtain⟨u,h1,h2⟩:=RepL.get (i:=i) h.inv.2 (by simpa using e)
  exact⟨u,by simpa using h1,h2⟩
 |[],_::_,_,_,h,_=>by have:=h.length;simp at this
 |_::_,[],_,_,h,_=>by have:=h.length;simp at this
theorem RepL.append:∀{vs:List V} {ds:List D} {ws:List V} {es:List D},RepL K F vs ds→RepL K F ws es→RepL K F (vs++ws) (ds++es)
 |[],[],_,_,_,h=>h
 |v::vs,d::ds,_,_,h,t=>.cons h.inv.1 (RepL.append h.inv.2 t)
 |[],_::_,_,_,h,_=>by have:=h.length;simp at this
 |_::_,[],_,_,h,_=>by have:=h.length;simp at this
theorem RepL.take:∀{vs:List V} {ds:List D} (n:Nat),RepL K F vs ds→RepL K F (vs.take n) (ds.take n)
 |[],[],_,_=>by simp;exact .nil
 |v::vs,d::ds,0,_=>.nil
 |v::vs,d::ds,n+1,h=>.cons h.inv.1 (RepL.take n h.inv.2)
 |[],_::_,_,h=>by have:=h.length;simp at this
 |_::_,[],_,h=>by have:=h.length;simp at this
theorem RepL.drop:∀{vs:List V} {ds:List D} (n:Nat),RepL K F vs ds→RepL K F (vs.drop n) (ds.drop n)
 |[],[],_,_=>by simp;exact .nil
 |v::vs,d::ds,0,h=>h
 |v::vs,d::ds,n+1,h=>by simpa using RepL.drop n h.inv.2
 |[],_::_,_,h=>by have:=h.length;simp at this
 |_::_,[],_,h=>by have:=h.length;simp at this
end
inductive O where
 |frz (d:D)|lst (xs:List O)|tup (xs:List O)|dct (kvs:List (TK×O))
noncomputable abbrev Gm:=List (Option O)
inductive OwnL (K:PySem.W.Frag) (F H:Hp):St→Gm→List Addr→Prop
 |nil:OwnL K F H [] [] []
 |skip {x:Option V} {σ:St} {Γ:Gm} {B:List Addr}:OwnL K F H σ Γ B→OwnL K F H (x::σ) (none::Γ) B
 |frz {v:V} {d:D} {σ:St} {Γ:Gm} {B:List Addr}:RepL K F [v] [d]→OwnL K F H σ Γ B→OwnL K F H (some v::σ) (some (.frz d)::Γ) B
 |lst {a:Addr} {ws:List V} {ps:List O} {A B:List Addr} {σ:St} {Γ:Gm}:H a=some (.lst ws)→OwnL K F H (ws.map some) (ps.map some) A→OwnL K F H σ Γ B→OwnL K F H (some (.ref a)::σ) (some (.lst ps)::Γ) (a::A++B)
 |tup {a:Addr} {ws:List V} {ps:List O} {A B:List Addr} {σ:St} {Γ:Gm}:H a=some (.tup ws)→OwnL K F H (ws.map some) (ps.map some) A→OwnL K F H σ Γ B→OwnL K F H (some (.ref a)::σ) (some (.tup ps)::Γ) (a::A++B)
 |dct {a:Addr} {kvs:List (TK×V×V)} {ps:List (TK×O)} {ep:Nat} {A B:List Addr} {σ:St} {Γ:Gm}:H a=some (.dG kvs ep)→kvs.map (·.1)=ps.map (·.1)→RepL K F (kvs.map (·.2.1)) (ps.map (·.1.d))→OwnL K F H (kvs.map fun p=>some p.2.2) (ps.map fun p=>some p.2) A→OwnL K F H σ Γ B→
   OwnL K F H (some (.ref a)::σ) (some (.dct ps)::Γ) (a::A++B)
section
variable {K:PySem.W.Frag} {F F' H H':Hp} {σ τ:St} {Γ Θ:Gm} {A B:List Addr}
theorem OwnL.keep(h:OwnL K F H σ Γ A)(s:Same F F')(k:∀a∈A,∀o,H a=some o→H' a=some o):OwnL K F' H' σ Γ A:=by
 induction h with
 |nil=>exact .nil
 |skip _ ih=>exact .skip (ih k)
 |frz r _ ih=>exact .frz (r.mono s) (ih k)
 |lst e _ _ i1 i2=>exact .lst (k _ (by simp) _ e) (i1 fun a ha=>k a (by simp[ha])) (i2 fun a ha=>k a (by simp[ha]))
 |tup e _ _ i1 i2=>exact .tup (k _ (by simp) _ e) (i1 fun a ha=>k a (by simp[ha])) (i2 fun a ha=>k a (by simp[ha]))
 |dct e q r _ _ i1 i2=>exact .dct (k _ (by simp) _ e) q (r.mono s) (i1 fun a ha=>k a (by simp[ha])) (i2 fun a ha=>k a (by simp[ha]))
theorem OwnL.there(h:OwnL K F H σ Γ A):∀a∈A,H a≠none:=by
 induction h with
 |nil=>intro a ha;cases ha
 |skip _ ih=>exact ih
 |frz _ _ ih=>exact ih
 |lst e _ _ i1 i2=>
  intro a ha
  rcases List.mem_cons.mp ha with rfl|ha
  ·rw[e];exact fun z=>by cases z
  ·rcases List.mem_append.mp ha with ha|ha
   ·exact i1 a ha
   ·exact i2 a ha
 |tup e _ _ i1 i2=>
  intro a ha
  rcases List.mem_cons.mp ha with rfl|ha
  ·rw[e];exact fun z=>by cases z
  ·rcases List.mem_append.mp ha with ha|ha
   ·exact i1 a ha
   ·exact i2 a ha
 |dct e _ _ _ _ i1 i2=>
  intro a ha
  rcases List.mem_cons.mp ha with rfl|ha
  ·rw[e];exact fun z=>by cases z
  ·rcases List.mem_append.mp ha with ha|ha
   ·exact i1 a ha
   ·exact i2 a ha
theorem OwnL.length(h:OwnL K F H σ Γ A):σ.length=Γ.length:=by
 induction h <;> simp_all
theorem OwnL.app(h:OwnL K F H τ Θ B)(t:OwnL K F H σ Γ A):OwnL K F H (τ++σ) (Θ++Γ) (B++A):=by
 induction h with
 |nil=>exact t
 |skip _ ih=>exact .skip ih
 |frz r _ ih=>exact .frz r ih
 |lst e i _ _ ih=>simp only[List.cons_append,List.append_assoc];exact .lst e i ih
 |tup e i _ _ ih=>simp only[List.cons_append,List.append_assoc];exact .tup e i ih
 |dct e q r i _ _ ih=>simp only[List.cons_append,List.append_assoc];exact .dct e q r i ih
theorem OwnL.split:∀{τ:St} {Θ:Gm} {A:List Addr},τ.length=Θ.length→OwnL K F H (τ++σ) (Θ++Γ) A→∃B C,OwnL K F H τ Θ B∧OwnL K F H σ Γ C∧A=B++C
 |[],[],A,_,h=>⟨[],A,.nil,h,rfl⟩
 |[],_::_,_,e,_=>by simp at e
 |_::_,[],_,e,_=>by simp at e
 |x::τ,y::Θ,A,e,h=>by
  have e':τ.length=Θ.length:=by simpa using e
  cases h with
  |skip t=>obtain⟨B,C,h1,h2,h3⟩:=OwnL.split e' t;exact⟨B,C,.skip h1,h2,h3⟩
  |frz r t=>obtain⟨B,C,h1,h2,h3⟩:=OwnL.split e' t;exact⟨B,C,.frz r h1,h2,h3⟩
  |lst q i t=>obtain⟨B,C,h1,h2,h3⟩:=OwnL.split e' t;subst h3;exact⟨_,C,.lst q i h1,h2,by simp⟩
  |tup q i t=>obtain⟨B,C,h1,h2,h3⟩:=OwnL.split e' t;subst h3;exact⟨_,C,.tup q i h1,h2,by simp⟩
  |dct q z r i t=>obtain⟨B,C,h1,h2,h3⟩:=OwnL.split e' t;subst h3;exact⟨_,C,.dct q z r i h1,h2,by simp⟩
theorem OwnL.one{x:Option V}{y:Option O}(h:OwnL K F H (x::σ) (y::Γ) A):∃B C,OwnL K F H [x] [y] B∧OwnL K F H σ Γ C∧A=B++C:=OwnL.split (τ:=[x]) (Θ:=[y]) rfl h
theorem OwnL.take:∀{σ:St} {Γ:Gm} {A:List Addr} {i:Nat} {o:O},OwnL K F H σ Γ A→Γ[i]?=some (some o)→∃v Ai B,σ[i]?=some (some v)∧OwnL K F H [some v] [some o] Ai∧OwnL K F H σ (Γ.set i none) B∧A.Perm (Ai++B)
 |_,[],_,_,_,_,e=>by simp at e
 |[],_::_,_,_,_,h,_=>by have:=h.length;simp at this
 |x::σ,y::Γ,A,0,o,h,e=>by
  have e:y=some o:=by simpa using e
  subst e
  obtain⟨B,C,h1,h2,h3⟩:=h.one
  cases x with
  |none=>cases h1
  |some v=>exact⟨v,B,C,rfl,h1,.skip h2,by rw[h3]⟩
 |x::σ,y::Γ,A,i+1,o,h,e=>by
  obtain⟨B,C,h1,h2,h3⟩:=h.one
  obtain⟨v,Ai,B',g1,g2,g3,g4⟩:=OwnL.take (i:=i) h2 (by simpa using e)
  refine⟨v,Ai,B++B',by simpa using g1,g2,h1.app g3,?_⟩
  subst h3
  exact(List.Perm.append_left B g4).trans (by rw[←List.append_assoc,←List.append_assoc];exact(List.perm_append_comm).append_right _)
theorem OwnL.forget:∀{σ:St} {Γ:Gm} {A:List Addr} (i:Nat),OwnL K F H σ Γ A→∃B,OwnL K F H σ (Γ.set i none) B∧B.Sublist A
 |σ,[],A,i,h=>⟨A,by simpa using h,List.Sublist.refl _⟩
 |[],_::_,_,_,h=>by have:=h.length;simp at this
 |x::σ,y::Γ,A,0,h=>by
  obtain⟨B,C,h1,h2,h3⟩:=h.one
  subst h3
  exact⟨C,.skip h2,List.sublist_append_right _ _⟩
 |x::σ,y::Γ,A,i+1,h=>by
  obtain⟨B,C,h1,h2,h3⟩:=h.one
  obtain⟨B',g1,g2⟩:=OwnL.forget i h2
  subst h3
  exact⟨B++B',h1.app g1,g2.append_left _⟩
theorem OwnL.put{v:V}{o:O}{Ai:List Addr}(q:OwnL K F H [some v] [some o] Ai):∀{σ:St} {Γ:Gm} {A:List Addr} (i:Nat),OwnL K F H σ Γ A→i < Γ.length→∃B,OwnL K F H (σ.set i (some v)) (Γ.set i (some o)) B∧∃C,B.Perm (Ai++C)∧C.Sublist A
 |_,[],_,_,_,hi=>by simp at hi
 |[],_::_,_,_,h,_=>by have:=h.length;simp at this
 |x::σ,y::Γ,A,0,h,hi=>by
  obtain⟨B,C,h1,h2,h3⟩:=h.one
  subst h3
  exact⟨Ai++C,q.app h2,C,.refl _,List.sublist_append_right _ _⟩
 |x::σ,y::Γ,A,i+1,h,hi=>by
  obtain⟨B,C,h1,h2,h3⟩:=h.one
  obtain⟨B',g1,C',g2,g3⟩:=OwnL.put q i h2 (by simpa using hi)
  subst h3
  refine⟨B++B',h1.app g1,B++C',?_,g3.append_left _⟩
  exact(List.Perm.append_left B g2).trans (by rw[←List.append_assoc,←List.append_assoc];exact(List.perm_append_comm).append_right _)
theorem OwnL.loose{v:Option V}:∀{σ:St} {Γ:Gm} {A:List Addr} {i:Nat},OwnL K F H σ Γ A→Γ[i]?=some none→OwnL K F H (σ.set i v) Γ A
 |_,[],_,_,_,e=>by simp at e
 |[],_::_,_,_,h,_=>by have:=h.length;simp at this
 |x::σ,y::Γ,A,0,h,e=>by
  have e:y=none:=by simpa using e
  subst e
  cases h with
  |skip t=>exact .skip t
 |x::σ,y::Γ,A,i+1,h,e=>by
  obtain⟨B,C,h1,h2,h3⟩:=h.one
  subst h3
  exact h1.app (OwnL.loose (i:=i) h2 (by simpa using e))
end
structure OK (K:PySem.W.Frag) (F H:Hp) (σ:St) (Γ:Gm) (A:List Addr):Prop where
 le:Same F H
 os:OwnL K F H σ Γ A
 nd:A.Nodup
 fr:∀a∈A,F a=none
structure Ext (F H:Hp) (A:List Addr) (F' H':Hp) (A':List Addr):Prop where
 ff:Same F F'
 keep:∀a o,H a=some o→a∉A→H' a=some o
 dom:∀a,H a≠none→H' a≠none
 new:∀a,F' a≠none→F a≠none∨a∈A∨H a=none
 own:∀a∈A',a∈A∨H a=none
section
variable {K:PySem.W.Frag} {F F' F1 F2 H H' H1 H2:Hp} {σ σ' τ:St} {Γ Γ' Θ:Gm} {A A' A1 A2 B C:List Addr}
theorem Ext.refl:Ext F H A F H A:=⟨Same.refl _,fun _ _ e _=>e,fun _ h=>h,fun _ h=>.inl h,fun _ h=>.inl h⟩
theorem Ext.trans(x:Ext F H A F1 H1 A1)(y:Ext F1 H1 A1 F2 H2 A2):Ext F H A F2 H2 A2 where
 ff:=x.ff.trans y.ff
 keep:=fun a o e n=>y.keep a o (x.keep a o e n) fun m=>by
  rcases x.own a m with z|z
  ·exact n z
  ·rw[e] at z;cases z
 dom:=fun a h=>y.dom a (x.dom a h)
 new:=fun a h=>by
  rcases y.new a h with z|z|z
  ·exact x.new a z
  ·exact .inr (x.own a z)
  ·exact .inr (.inr (Classical.byContradiction fun q=>x.dom a q z))
 own:=fun a h=>by
  rcases y.own a h with z|z
  ·exact x.own a z
  ·exact .inr (Classical.byContradiction fun q=>x.dom a q z)
theorem Ext.own'(x:Ext F H A F' H' A')(h:∀a∈B,a∈A'):Ext F H A F' H' B:=⟨x.ff,x.keep,x.dom,x.new,fun a m=>x.own a (h a m)⟩
theorem OK.perm(k:OwnL K F H σ Γ A)(le:Same F H)(nd:B.Nodup)(fr:∀a∈B,F a=none)(p:A.Perm B):OK K F H σ Γ A:=⟨le,k,p.nodup_iff.mpr nd,fun a m=>fr a (p.mem_iff.mp m)⟩
theorem OK.frameAt(k:OK K F H (τ++σ) (Θ++Γ) (B++C))(h1:OwnL K F H τ Θ B)(h2:OwnL K F H σ Γ C):OK K F H σ Γ C∧∀F' H' σ' Γ' A',Ext F H C F' H' A'→OK K F' H' σ' Γ' A'→∃A'',Ext F H (B++C) F' H' A''∧OK K F' H' (τ++σ') (Θ++Γ') A'':=by
 obtain⟨n1,n2,n3⟩:=List.nodup_append.mp k.nd
 have nB:∀a∈B,a∉C:=fun a h1 h2=>n3 a h1 a h2 rfl
 refine⟨⟨k.le,h2,n2,fun a m=>k.fr a (List.mem_append_right _ m)⟩,fun F' H' σ' Γ' A' x k'=>?_⟩
 have hB:∀a∈B,F' a=none:=fun a m=>by
  cases e:F' a with
  |none=>rfl
  |some o=>
   rcases x.new a (by rw[e];exact fun z=>by cases z) with z|z|z
   ·exact absurd (k.fr a (List.mem_append_left _ m)) z
   ·exact absurd z (nB a m)
   ·exact absurd z (h1.there a m)
 refine⟨B++A',⟨x.ff,fun a o e n=>x.keep a o e fun m=>n (List.mem_append_right _ m),x.dom,fun a h=>?_,fun a m=>?_⟩,k'.le,(h1.keep x.ff fun a m o e=>x.keep a o e (nB a m)).app k'.os,?_,?_⟩
 ·rcases x.new a h with z|z|z
  ·exact .inl z
  ·exact .inr (.inl (List.mem_append_right _ z))
  ·exact .inr (.inr z)
 ·rcases List.mem_append.mp m with m|m
  ·exact .inl (List.mem_append_left _ m)
  ·rcases x.own a m with z|z
   ·exact .inl (List.mem_append_right _ z)
   ·exact .inr z
 ·refine List.nodup_append.mpr ⟨n1,k'.nd,fun a m b m' e=>?_⟩
  subst e
  rcases x.own a m' with z|z
  ·exact nB a m z
  ·exact h1.there a m z
 ·intro a m
  rcases List.mem_append.mp m with m|m
  ·exact hB a m
  ·exact k'.fr a m
theorem OK.frame(k:OK K F H (τ++σ) (Θ++Γ) A)(hl:τ.length=Θ.length):∃C,OK K F H σ Γ C∧∀F' H' σ' Γ' A',Ext F H C F' H' A'→OK K F' H' σ' Γ' A'→∃A'',Ext F H A F' H' A''∧OK K F' H' (τ++σ') (Θ++Γ') A'':=by
 obtain⟨B,C,h1,h2,h3⟩:=OwnL.split hl k.os
 subst h3
 exact⟨C,k.frameAt h1 h2⟩
theorem OK.swap(k:OK K F H (τ++σ) (Θ++Γ) A)(hl:τ.length=Θ.length):∃B,B.Perm A∧OK K F H (σ++τ) (Γ++Θ) B:=by
 obtain⟨B,C,h1,h2,h3⟩:=OwnL.split hl k.os
 subst h3
 exact⟨C++B,List.perm_append_comm,.perm (h2.app h1) k.le k.nd k.fr List.perm_append_comm⟩
theorem OK.part(k:OK K F H (τ++σ) (Θ++Γ) A)(hl:τ.length=Θ.length):∃B,OK K F H σ Γ B∧∀a∈B,a∈A:=by
 obtain⟨B,C,h1,h2,h3⟩:=OwnL.split hl k.os
 subst h3
 exact⟨C,⟨k.le,h2,(List.nodup_append.mp k.nd).2.1,fun a m=>k.fr a (List.mem_append_right _ m)⟩,fun a m=>List.mem_append_right _ m⟩
theorem OK.push{v:V}{o:O}{Av:List Addr}(k:OK K F H σ Γ A)(s:Same H H')(q:OwnL K F H' [some v] [some o] Av)(nd:Av.Nodup)(fresh:∀a∈Av,H a=none):
  OK K F H' (some v::σ) (some o::Γ) (Av++A)∧Ext F H A F H' (Av++A):=by
 have ne:∀a∈Av,a∉A:=fun a m z=>k.os.there a z (fresh a m)
 refine⟨⟨k.le.trans s,q.app (k.os.keep (Same.refl _) fun a _ o e=>s a o e),List.nodup_append.mpr ⟨nd,k.nd,fun a m b m' e=>?_⟩,fun a m=>?_⟩,Same.refl _,fun a o e _=>s a o e,fun a h z=>?_,fun a h=>.inl h,fun a m=>?_⟩
 ·subst e;exact ne a m m'
 ·rcases List.mem_append.mp m with m|m
  ·exact k.le.free (fresh a m)
  ·exact k.fr a m
 ·exact h (s.free z)
 ·rcases List.mem_append.mp m with m|m
  ·exact .inr (fresh a m)
  ·exact .inl m
end
end L2
namespace L2
open PySem PySem.Spec PyProof.Rows
inductive R where
 |own (o:O)|var (i:Nat)
noncomputable def R.o:R→Option O
 |.own o=>some o
 |.var _=>none
noncomputable abbrev GE:=Gm→Option (R×Gm)
noncomputable abbrev GA:=Gm→Option (List R×Gm)
noncomputable abbrev GT:=Gm→Option (Bool×Gm)
noncomputable def Held (σ:St):List R→List V→Prop
 |[],[]=>True
 |.own _::rs,_::vs=>Held σ rs vs
 |.var i::rs,v::vs=>σ[i]?=some (some v)∧Held σ rs vs
 |_,_=>False
noncomputable def Post (K:PySem.W.Frag) (F H:Hp) (A:List Addr) (σ:St) (Γ':Gm) (rs:List R) (vs:List V) (H':Hp):Prop:=
 ∃F' A',Ext F H A F' H' A'∧OK K F' H' (vs.map some++σ) (rs.map R.o++Γ') A'∧Held σ rs vs
noncomputable def tG (K:PySem.W.Frag) (f:GE):TE:=fun σ H Q=>∃F A Γ r Γ',OK K F H σ Γ A∧f Γ=some (r,Γ')∧∀v H',Post K F H A σ Γ' [r] [v] H'→Q v H'
noncomputable def tGA (K:PySem.W.Frag) (f:GA):TA:=fun σ H Q=>∃F A Γ rs Γ',OK K F H σ Γ A∧f Γ=some (rs,Γ')∧∀vs H',Post K F H A σ Γ' rs vs H'→Q vs H'
noncomputable def tGT (K:PySem.W.Frag) (f:GT):TT:=fun σ H Q=>∃F A Γ b Γ',OK K F H σ Γ A∧f Γ=some (b,Γ')∧∀H',Post K F H A σ Γ' [] [] H'→Q b H'
theorem Held.length:∀{σ:St} {rs:List R} {vs:List V},Held σ rs vs→rs.length=vs.length
 |_,[],[],_=>rfl
 |_,.own _::rs,_::vs,h=>by simp[Held.length (σ:=_) (rs:=rs) (vs:=vs) h]
 |_,.var _::rs,_::vs,h=>by simp[Held.length (σ:=_) (rs:=rs) (vs:=vs) h.2]
 |_,[],_::_,h=>h.elim
 |_,.own _::_,[],h=>h.elim
 |_,.var _::_,[],h=>h.elim
theorem Held.one{σ:St}{r:R}{vs:List V}{rs:List R}{v:V}(h:Held σ [r] [v])(t:Held σ rs vs):Held σ (r::rs) (v::vs):=by
 cases r with
 |own o=>exact t
 |var i=>exact⟨h.1,t⟩
theorem PE.mono{X:Cx}{e:Expr}{t t':TE}(h:PE X e t)(m:∀σ H Q,t' σ H Q→t σ H Q):PE X e t':=fun pins s σ H Q I q=>h pins s σ H Q I (m _ _ _ q)
theorem PT.mono{X:Cx}{e:Expr}{t t':TT}(h:PT X e t)(m:∀σ H Q,t' σ H Q→t σ H Q):PT X e t':=fun pins s σ H Q I q=>h pins s σ H Q I (m _ _ _ q)
theorem PW.mono{X:Cx}{e:Expr}{t t':TT}(h:PW X e t)(m:∀σ H Q,t' σ H Q→t σ H Q):PW X e t':=fun wh pins s σ H Q I q=>h wh pins s σ H Q I (m _ _ _ q)
theorem PA.mono{X:Cx}{e:List Expr}{t t':TA}(h:PA X e t)(m:∀σ H Q,t' σ H Q→t σ H Q):PA X e t':=fun pos pins s σ H Q I q=>h pos pins s σ H Q I (m _ _ _ q)
theorem PS.mono{X:Cx}{e:Stmt}{t t':TS}(h:PS X e t)(m:∀D σ H,t' D σ H→t D σ H):PS X e t':=fun pins s σ H D I q=>h pins s σ H D I (m _ _ _ q)
theorem PSs.mono{X:Cx}{e:List Stmt}{t t':TS}(h:PSs X e t)(m:∀D σ H,t' D σ H→t D σ H):PSs X e t':=fun pins s σ H D I q=>h pins s σ H D I (m _ _ _ q)
section
variable {K:PySem.W.Frag} {F H:Hp} {A:List Addr} {σ:St} {Γ Γ':Gm}
noncomputable def seeR (Γ:Gm):R→Option O
 |.own o=>some o
 |.var i=>(Γ[i]?).join
noncomputable def seeL (Γ:Gm):List R→Option (List O)
 |[]=>some []
 |r::rs=>(seeR Γ r).bind fun o=>(seeL Γ rs).bind fun os=>some (o::os)
noncomputable def Sees (K:PySem.W.Frag) (F H:Hp):List V→List O→Prop:=Paired fun v o=>∃B,OwnL K F H [some v] [some o] B
theorem b8u:∀{rs:List R} {vs:List V} {os:List O} {B:List Addr},OwnL K F H σ Γ A→OwnL K F H (vs.map some) (rs.map R.o) B→Held σ rs vs→seeL Γ rs=some os→Sees K F H vs os
 |[],[],os,_,_,_,_,e=>by cases e;exact .nil
 |r::rs,v::vs,os,B,k,h,hh,e=>by
  obtain⟨B1,C1,h1,h2,_⟩:=OwnL.one h
  unfold seeL at e
  cases e1:seeR Γ r with
  |none=>rw[e1] at e;cases e
  |some o=>
   rw[e1] at e
   cases e2:seeL Γ rs with
   |none=>rw[e2] at e;cases e
   |some os'=>
    rw[e2] at e
    cases e
    cases r with
    |own o'=>cases e1;exact .cons ⟨_,h1⟩ (b8u k h2 hh e2)
    |var i=>
     have e3:Γ[i]?=some (some o):=by
      have:(Γ[i]?).join=some o:=e1
      cases q:Γ[i]? with
      |none=>rw[q] at this;cases this
      |some z=>rw[q] at this;exact congrArg some this
     obtain⟨v',Ai,B',g1,g2,_⟩:=k.take e3
     have:=hh.1
     rw[g1] at this
     cases this
     exact .cons ⟨_,g2⟩ (b8u k h2 hh.2 e2)
 |[],_::_,_,_,_,_,h,_=>h.elim
 |.own _::_,[],_,_,_,_,h,_=>h.elim
 |.var _::_,[],_,_,_,_,h,_=>h.elim
noncomputable def Res (K:PySem.W.Frag) (F H:Hp) (o:O) (Q:VK):Prop:=∀v H' Av,Same H H'→OwnL K F H' [some v] [some o] Av→Av.Nodup→(∀a∈Av,H a=none)→Q v H'
theorem Post.res{rs:List R}{vs:List V}{H1:Hp}{os:List O}{o:O}{Q:VK}(h:Post K F H A σ Γ' rs vs H1)(e:seeL Γ' rs=some os)(q:∀v H',Post K F H A σ Γ' [.own o] [v] H'→Q v H'):
  ∃F1,Same F1 H1∧Sees K F1 H1 vs os∧Res K F1 H1 o Q:=by
 obtain⟨F1,A1,x,k,hh⟩:=h
 have hl:(vs.map some).length=(rs.map R.o).length:=by rw[List.length_map,List.length_map,hh.length]
 obtain⟨B,C,h1,h2,h3⟩:=OwnL.split hl k.os
 refine⟨F1,k.le,b8u h2 h1 hh e,fun v H' Av s w nd fresh=>q v H' ?_⟩
 obtain⟨B',kB,sub⟩:=k.part hl
 obtain⟨k2,x2⟩:=kB.push s w nd fresh
 exact⟨F1,Av++B',x.trans ((Ext.own' Ext.refl sub).trans x2),k2,True.intro⟩
theorem Res.flat{d:D}{v:V}{Q:VK}(h:Res K F H (.frz d) Q)(e:a4a d=some v):Q v H:=h v H [] (Same.refl _) (.frz (.flat e .nil) .nil) .nil (fun _ m=>by cases m)
theorem Res.frz{d:D}{v:V}{Q:VK}(h:Res K F H (.frz d) Q)(e:RepL K F [v] [d]):Q v H:=h v H [] (Same.refl _) (.frz e .nil) .nil (fun _ m=>by cases m)
end
noncomputable def gC (d:D):GE:=fun Γ=>some (.own (.frz d),Γ)
noncomputable def gVar (i:Nat):GE:=fun Γ=>match Γ[i]? with
 |some (some (.frz d))=>some (.own (.frz d),Γ)
 |some (some _)=>some (.var i,Γ)
 |_=>none
section
variable {X:Cx} {K:PySem.W.Frag} {e a b:Expr} {es:List Expr} {fa fb:GE} {fs:GA} {pos:Pos}
theorem a0u{v:V}{d:D}(h:PE X e (tC v))(q:a4a d=some v:=by rfl):PE X e (tG K (gC d)):=h.mono fun σ H Q t=>by
 obtain⟨F,A,Γ,r,Γ',k,e,w⟩:=t
 cases e
 obtain⟨k2,x⟩:=k.push (v:=v) (o:=.frz d) (Av:=[]) (Same.refl _) (.frz (.flat q .nil) .nil) .nil (fun _ m=>by cases m)
 exact w v H ⟨F,_,x,k2,True.intro⟩
theorem a0c{i:Nat}(h:PE X e (tVar i)):PE X e (tG K (gVar i)):=h.mono fun σ H Q t=>by
 obtain⟨F,A,Γ,r,Γ',k,e,w⟩:=t
 unfold gVar at e
 cases q:Γ[i]? with
 |none=>rw[q] at e;cases e
 |some z=>
  cases z with
  |none=>rw[q] at e;cases e
  |some o=>
   rw[q] at e
   obtain⟨v,Ai,B,g1,g2,g3,g4⟩:=k.os.take q
   refine⟨v,g1,w v H ?_⟩
   cases o with
   |frz d=>
    cases e
    cases g2 with
    |frz rp _=>
     obtain⟨k2,x⟩:=k.push (v:=v) (o:=.frz d) (Av:=[]) (Same.refl _) (.frz rp .nil) .nil (fun _ m=>by cases m)
     exact⟨F,_,x,k2,True.intro⟩
   |_=>
    cases e
    exact⟨F,A,Ext.refl,⟨k.le,.skip k.os,k.nd,k.fr⟩,g1,True.intro⟩
noncomputable def gaNil:GA:=fun Γ=>some ([],Γ)
noncomputable def a0a (f:GE) (g:GA):GA:=fun Γ=>(f Γ).bind fun p=>(g p.2).bind fun q=>some (p.1::q.1,q.2)
theorem b3u{f:GE}{g:GA}{Γ Γ':Gm}{rs:List R}(e:a0a f g Γ=some (rs,Γ')):∃r Γ1 rs',f Γ=some (r,Γ1)∧g Γ1=some (rs',Γ')∧rs=r::rs':=by
 unfold a0a at e
 cases e1:f Γ with
 |none=>rw[e1] at e;cases e
 |some p=>
  rw[e1] at e
  dsimp only[Option.bind] at e
  cases e2:g p.2 with
  |none=>rw[e2] at e;cases e
  |some q=>rw[e2] at e;cases e;exact⟨p.1,p.2,q.1,rfl,e2,rfl⟩
theorem a0f:PA X [] (tGA K gaNil):=pa_nil.mono fun σ H Q t=>by
 obtain⟨F,A,Γ,r,Γ',k,e,w⟩:=t
 cases e
 exact w [] H ⟨F,A,Ext.refl,k,True.intro⟩
theorem a6u{σ:St}{H:Hp}{Q:List V→Hp→Prop}(t:tGA K (a0a fa fs) σ H Q):tCons (tG K fa) (tGA K fs) σ H Q:=by
 obtain⟨F,A,Γ,r,Γ',k,e,w⟩:=t
 obtain⟨r1,Γ1,rs,e1,e2,rfl⟩:=b3u e
 refine⟨F,A,Γ,r1,Γ1,k,e1,fun v H1 p=>?_⟩
 obtain⟨F1,A1,x,k1,hh⟩:=id p
 obtain⟨C,kC,fr⟩:=OK.frame (τ:=[some v]) (Θ:=[r1.o]) k1 rfl
 refine⟨F1,C,Γ1,rs,Γ',kC,e2,fun vs H2 p2=>w (v::vs) H2 ?_⟩
 obtain⟨F2,A2,x2,k2,h2⟩:=p2
 obtain⟨A3,x3,k3⟩:=fr _ _ _ _ _ x2 k2
 exact⟨F2,A3,x.trans x3,k3,Held.one hh h2⟩
theorem a0b(ha:PE X e (tG K fa))(hs:PA X es (tGA K fs))(hp:starEach (e::es) X.env=(false,eval e X.env)::starEach es X.env:=by rfl):PA X (e::es) (tGA K (a0a fa fs)):=
 (a9z ha hs hp).mono fun σ H Q t=>a6u t
noncomputable def gOp (g:List O→Option O) (fs:GA):GE:=fun Γ=>(fs Γ).bind fun p=>(seeL p.2 p.1).bind fun os=>(g os).bind fun o=>some (.own o,p.2)
noncomputable abbrev gBin (g:List O→Option O) (fa fb:GE):GE:=gOp g (a0a fa (a0a fb gaNil))
noncomputable abbrev gUn (g:List O→Option O) (fa:GE):GE:=gOp g (a0a fa gaNil)
theorem d2o{g:List O→Option O}{Γ Γ':Gm}{r:R}(e:gOp g fs Γ=some (r,Γ')):∃rs os o,fs Γ=some (rs,Γ')∧seeL Γ' rs=some os∧g os=some o∧r=.own o:=by
 unfold gOp at e
 cases e1:fs Γ with
 |none=>rw[e1] at e;cases e
 |some p=>
  rw[e1] at e
  dsimp only[Option.bind] at e
  cases e2:seeL p.2 p.1 with
  |none=>rw[e2] at e;cases e
  |some os=>
   rw[e2] at e
   dsimp only at e
   cases e3:g os with
   |none=>rw[e3] at e;cases e
   |some o=>rw[e3] at e;cases e;exact⟨p.1,os,o,rfl,e2,e3,rfl⟩
noncomputable def OpOk (K:PySem.W.Frag) (r:List V→Hp→VK→Prop) (g:List O→Option O):Prop:=
 ∀(F H:Hp) (vs:List V) (os:List O) (o:O) (Q:VK),Same F H→Sees K F H vs os→g os=some o→Res K F H o Q→r vs H Q
theorem c8p{r:List V→Hp→VK→Prop}{g:List O→Option O}(ok:OpOk K r g){σ:St}{H:Hp}{Q:VK}(t:tG K (gOp g fs) σ H Q):tGA K fs σ H fun vs H1=>r vs H1 Q:=by
 obtain⟨F,A,Γ,rr,Γ',k,e,w⟩:=t
 obtain⟨rs,os,o,e1,e2,e3,rfl⟩:=d2o e
 refine⟨F,A,Γ,rs,Γ',k,e1,fun vs H1 p=>?_⟩
 obtain⟨F1,le,see,res⟩:=p.res e2 w
 exact ok F1 H1 vs os o Q le see e3 res
noncomputable def r2L (r:R2):List V→Hp→VK→Prop:=fun vs H Q=>∃x y,vs=[x,y]∧r x y H Q
noncomputable def r1L (r:V→Hp→VK→Prop):List V→Hp→VK→Prop:=fun vs H Q=>∃x,vs=[x]∧r x H Q
theorem tG.mono{f:GE}{Q1 Q2:VK}{σ:St}{H:Hp}(t:tG K f σ H Q1)(q:∀v H',Q1 v H'→Q2 v H'):tG K f σ H Q2:=by
 obtain⟨F,A,Γ,rr,Γ',k,e,w⟩:=t
 exact⟨F,A,Γ,rr,Γ',k,e,fun v H' p=>q _ _ (w v H' p)⟩
theorem c0c{r:R2}{g:List O→Option O}(ok:OpOk K (r2L r) g){σ:St}{H:Hp}{Q:VK}(t:tG K (gBin g fa fb) σ H Q):tOp r (tG K fa) (tG K fb) σ H Q:=by
 show tG K fa σ H fun x H1=>tG K fb σ H1 fun y H2=>r x y H2 Q
 refine tG.mono (a6u (c8p ok t)) fun x H1 h=>tG.mono (a6u h) fun y H2 h2=>?_
 obtain⟨F,A,Γ,rs,Γ',k,e,w⟩:=h2
 cases e
 obtain⟨x',y',e1,h3⟩:=w [] H2 ⟨F,A,Ext.refl,k,True.intro⟩
 cases e1
 exact h3
theorem d7w{r:V→Hp→VK→Prop}{g:List O→Option O}(ok:OpOk K (r1L r) g){σ:St}{H:Hp}{Q:VK}(t:tG K (gUn g fa) σ H Q):tG K fa σ H fun x H1=>r x H1 Q:=by
 refine tG.mono (a6u (c8p ok t)) fun x H1 h=>?_
 obtain⟨F,A,Γ,rs,Γ',k,e,w⟩:=h
 cases e
 obtain⟨x',e1,h3⟩:=w [] H1 ⟨F,A,Ext.refl,k,True.intro⟩
 cases e1
 exact h3
theorem a2e{op:Operator}{r:R2}{g:List O→Option O}(ho:OpR X (binaryOp op) r)(ok:OpOk K (r2L r) g)(ha:PE X a (tG K fa))(hb:PE X b (tG K fb)):PE X (.BinOp a op b pos) (tG K (gBin g fa fb)):=
 (d7t ho ha hb).mono fun _ _ _ t=>c0c ok t
theorem a5o{op:CmpOp}{r:R2}{g:List O→Option O}(ho:OpR X (compareOp op) r)(ok:OpOk K (r2L r) g)(ha:PE X a (tG K fa))(hb:PE X b (tG K fb))(hm:behindInMarks op b=false:=by first|rfl|exact d0o _):PE X (.Compare a [op] [b] pos) (tG K (gBin g fa fb)):=
 (d2b ho ha hb hm).mono fun _ _ _ t=>c0c ok t
theorem a1p{r:R2}{g:List O→Option O}(hr:IxR X r)(ok:OpOk K (r2L r) g)(ha:PE X a (tG K fa))(hb:PE X b (tG K fb))(hs:b4l b:=by exact fun _ _=>rfl):PE X (.Subscript a b pos) (tG K (gBin g fa fb)):=
 (d2h hr ha hb hs).mono fun _ _ _ t=>c0c ok t
theorem d5n{op:UnaryOp}{r:V→Hp→VK→Prop}{g:List O→Option O}(ho:UnR X (unaryOp op) r)(ok:OpOk K (r1L r) g)(ha:PE X a (tG K fa)):PE X (.UnaryOp op a pos) (tG K (gUn g fa)):=
 (d7u ho ha).mono fun _ _ _ t=>d7w ok t
variable {x:Str} {p:Pos} {id T:String} {r:List V→Hp→VK→Prop} {g:List O→Option O}
theorem a0w(hc:CallR X (.builtin id) r)(ok:OpOk K r g)(hm:X.mg x=none)(hv:bootBuiltins x=some (.builtin id))(ha:PA X (e::es) (tGA K fs))(hg:Gl X x:=by rfl)(hn:x≠"__name__":=by decide)(hdb:(x == ("__debug__":Str))=false:=by decide)
  (he:starEach (e::es) X.env=(false,eval e X.env)::starEach es X.env:=by rfl) (hpl:(backTo pos (starEach es X.env)).any (·.1)=false:=by rfl):PE X (.Call (.Name x p) (e::es) [] pos) (tG K (gOp g fs)):=
 (c8c hc hg hm hv ha hn hdb he hpl).mono fun _ _ _ t=>c8p ok t
theorem a6k(hc:CallR X (.type T) r)(ok:OpOk K r g)(hm:X.mg x=none)(hv:bootBuiltins x=some (.type T))(ha:PA X (e::es) (tGA K fs))(hg:Gl X x:=by rfl)(hn:x≠"__name__":=by decide)(hdb:(x == ("__debug__":Str))=false:=by decide)
  (he:starEach (e::es) X.env=(false,eval e X.env)::starEach es X.env:=by rfl) (hpl:(backTo pos (starEach es X.env)).any (·.1)=false:=by rfl):PE X (.Call (.Name x p) (e::es) [] pos) (tG K (gOp g fs)):=
 (c3k hc hg hm hv ha hn hdb he hpl).mono fun _ _ _ t=>c8p ok t
mutual
noncomputable def O.d:O→D
 |.frz d=>d
 |.lst xs=>.lst (O.dl xs)
 |.tup xs=>.tup (O.dl xs)
 |.dct kvs=>.dct (O.dk kvs)
noncomputable def O.dl:List O→List D
 |[]=>[]
 |x::xs=>x.d::O.dl xs
noncomputable def O.dk:List (TK×O)→List (TK×D)
 |[]=>[]
 |(k,x)::xs=>(k,x.d)::O.dk xs
end
end
theorem OwnL.rep{K:PySem.W.Frag}{F F' H:Hp}{σ:St}{Γ:Gm}{A:List Addr}(h:OwnL K F H σ Γ A)(s:Same F F')(k:∀a∈A,∀o,H a=some o→F' a=some o):
  ∀(vs:List V) (os:List O),σ=vs.map some→Γ=os.map some→RepL K F' vs (O.dl os):=by
 induction h with
 |nil=>
  intro vs os e1 e2
  cases vs with
  |nil=>cases os with
   |nil=>exact .nil
   |cons _ _=>cases e2
  |cons _ _=>cases e1
 |skip _ _=>
  intro vs os e1 e2
  cases os with
  |nil=>cases e2
  |cons _ _=>injection e2 with e3 _;cases e3
 |frz r _ ih=>
  intro vs os e1 e2
  cases vs with
  |nil=>cases e1
  |cons v vs=>cases os with
   |nil=>cases e2
   |cons o os=>
    injection e1 with e3 e4
    injection e2 with e5 e6
    cases e3;cases e5
    exact .cons (r.mono s) (ih k vs os e4 e6)
 |lst e _ _ i1 i2=>
  intro vs os e1 e2
  cases vs with
  |nil=>cases e1
  |cons v vs=>cases os with
   |nil=>cases e2
   |cons o os=>
    injection e1 with e3 e4
    injection e2 with e5 e6
    cases e3;cases e5
    exact .lst (.inl (k _ (by simp) _ e)) (i1 (fun a m=>k a (by simp[m])) _ _ rfl rfl) (i2 (fun a m=>k a (by simp[m])) vs os e4 e6)
 |tup e _ _ i1 i2=>
  intro vs os e1 e2
  cases vs with
  |nil=>cases e1
  |cons v vs=>cases os with
   |nil=>cases e2
   |cons o os=>
    injection e1 with e3 e4
    injection e2 with e5 e6
    cases e3;cases e5
    exact .tup (SqT.of (k _ (by simp) _ e)) (i1 (fun a m=>k a (by simp[m])) _ _ rfl rfl) (i2 (fun a m=>k a (by simp[m])) vs os e4 e6)
 |@dct a kvs ps ep A B σ Γ e q r _ _ i1 i2=>
  intro vs os e1 e2
  cases vs with
  |nil=>cases e1
  |cons v vs=>cases os with
   |nil=>cases e2
   |cons o os=>
    injection e1 with e3 e4
    injection e2 with e5 e6
    cases e3;cases e5
    have hk:∀ps:List (TK×O),(O.dk ps).map (·.1)=ps.map (·.1)∧(O.dk ps).map (·.2)=O.dl (ps.map (·.2))∧(O.dk ps).map (·.1.d)=ps.map (·.1.d):=by
     intro ps
     induction ps with
     |nil=>exact⟨rfl,rfl,rfl⟩
     |cons p ps ih=>obtain⟨a,b⟩:=p;exact⟨by simp[O.dk,ih.1],by simp[O.dk,O.dl,ih.2.1],by simp[O.dk,ih.2.2]⟩
    refine .dct (k _ (by simp) _ e) (q.trans (hk ps).1.symm) (by rw[(hk ps).2.2];exact r.mono s) ?_ (i2 (fun a m=>k a (by simp[m])) vs os e4 e6)
    rw[(hk ps).2.1]
    exact i1 (fun a m=>k a (by simp[m])) _ _ (by simp) (by simp)
section
variable {K:PySem.W.Frag} {F H:Hp} {A:List Addr} {σ:St} {Γ:Gm}
theorem OK.freeze{v:V}{o:O}(k:OK K F H (some v::σ) (some o::Γ) A):∃F' A',OK K F' H (some v::σ) (some (.frz o.d)::Γ) A'∧Ext F H A F' H A':=by
 obtain⟨B,C,h1,h2,h3⟩:=k.os.one
 subst h3
 obtain⟨n1,n2,n3⟩:=List.nodup_append.mp k.nd
 let F':Hp:=fun a=>if a∈B then H a else F a
 have in':∀a,a∈B→F' a=H a:=fun a m=>if_pos m
 have out':∀a,a∉B→F' a=F a:=fun a m=>if_neg m
 have s:Same F F':=fun a u e=>by
  rw[out' a fun m=>by rw[k.fr a (List.mem_append_left _ m)] at e;cases e]
  exact e
 have le:Same F' H:=fun a u e=>by
  by_cases m:a∈B
  ·rw[in' a m] at e;exact e
  ·rw[out' a m] at e;exact k.le a u e
 have rp:RepL K F' [v] [o.d]:=h1.rep s (fun a m u e=>by rw[in' a m];exact e) [v] [o] rfl rfl
 refine⟨F',C,⟨le,.frz rp (h2.keep s fun a _ u e=>e),n2,fun a m=>?_⟩,s,fun a u e _=>e,fun a h=>h,fun a h=>?_,fun a m=>.inl (List.mem_append_right _ m)⟩
 ·rw[out' a fun z=>n3 a z a m rfl]
  exact k.fr a (List.mem_append_right _ m)
 ·by_cases m:a∈B
  ·exact .inr (.inl (List.mem_append_left _ m))
  ·rw[out' a m] at h;exact .inl h
theorem OK.grab{v:V}{o:O}{i:Nat}{A:List Addr}(k:OK K F H (some v::σ) (none::Γ) A)(hv:σ[i]?=some (some v))(ho:Γ[i]?=some (some o)):∃A',OK K F H (some v::σ) (some o::Γ.set i none) A'∧Ext F H A F H A':=by
 obtain⟨B,C,h1,h2,h3⟩:=k.os.one
 subst h3
 have eB:B=[]:=by cases h1 with|skip t=>cases t;rfl
 subst eB
 obtain⟨v',Ai,B',g1,g2,g3,g4⟩:=h2.take ho
 rw[hv] at g1
 cases g1
 have nd:=k.nd
 have fr:=k.fr
 rw[List.nil_append] at nd fr
 exact⟨Ai++B',.perm (g2.app g3) k.le nd fr g4.symm,Ext.own' Ext.refl fun a m=>g4.mem_iff.mpr m⟩
end
noncomputable def gFrz (f:GE):GE:=fun Γ=>(f Γ).bind fun p=>match p.1 with
 |.own o=>some (.own (.frz o.d),p.2)
 |.var i=>match p.2[i]? with
  |some (some o)=>some (.own (.frz o.d),p.2.set i (some (.frz o.d)))
  |_=>none
noncomputable def gMove (f:GE):GE:=fun Γ=>(f Γ).bind fun p=>match p.1 with
 |.own o=>some (.own o,p.2)
 |.var i=>match p.2[i]? with
  |some (some o)=>some (.own o,p.2.set i none)
  |_=>none
section
variable {X:Cx} {K:PySem.W.Frag} {e a b:Expr} {es:List Expr} {fa fb:GE} {fs:GA} {pos:Pos}
theorem a4j{α:Type}:∀{l:List α} {i:Nat} {x:α},l[i]?=some x→l.set i x=l
 |[],_,_,e=>by simp at e
 |y::l,0,x,e=>by simp at e;subst e;rfl
 |y::l,i+1,x,e=>by rw[List.set_cons_succ,a4j (by simpa using e)]
theorem Post.frz{F H:Hp}{A:List Addr}{σ:St}{Γ Γ1 Γ':Gm}{r r':R}{v:V}{H':Hp}{f:GE}(e:f Γ=some (r,Γ1))(e':gFrz f Γ=some (r',Γ'))(h:Post K F H A σ Γ1 [r] [v] H'):Post K F H A σ Γ' [r'] [v] H':=by
 obtain⟨F1,A1,x,k,hh⟩:=h
 unfold gFrz at e'
 rw[e] at e'
 cases r with
 |own o=>
  cases e'
  obtain⟨F2,A2,k2,x2⟩:=OK.freeze (σ:=σ) (Γ:=Γ1) k
  exact⟨F2,A2,x.trans x2,k2,True.intro⟩
 |var i=>
  dsimp only[Option.bind] at e'
  cases q:Γ1[i]? with
  |none=>rw[q] at e';cases e'
  |some z=>
   cases z with
   |none=>rw[q] at e';cases e'
   |some o=>
    rw[q] at e'
    cases e'
    have hv:σ[i]?=some (some v):=hh.1
    obtain⟨A2,k2,x2⟩:=OK.grab (σ:=σ) (Γ:=Γ1) k hv q
    obtain⟨F3,A3,k3,x3⟩:=OK.freeze k2
    obtain⟨B,C,h1,h2,h3⟩:=k3.os.one
    have hi:i < (Γ1.set i none).length:=by
     rw[List.length_set]
     exact(List.getElem?_eq_some_iff.mp q).1
    have rp:RepL K F3 [v] [o.d]:=by cases h1 with|frz r _=>exact r
    have eB:B=[]:=by cases h1 with|frz _ t=>cases t;rfl
    subst eB
    obtain⟨B2,g1,C2,g2,g3⟩:=OwnL.put (.frz rp .nil) i h2 hi
    rw[a4j hv,List.set_set] at g1
    rw[List.nil_append] at g2 h3
    subst h3
    have nd2:B2.Nodup:=g2.nodup_iff.mpr (k3.nd.sublist g3)
    have sub:∀a∈B2,a∈A3:=fun a m=>g3.subset (g2.mem_iff.mp m)
    exact⟨F3,B2,(x.trans (x2.trans x3)).own' sub,⟨k3.le,.frz rp g1,nd2,fun a m=>k3.fr a (sub a m)⟩,True.intro⟩
theorem c8q{f:GE}{Γ Γ':Gm}{r:R}(e:gFrz f Γ=some (r,Γ')):∃r1 Γ1,f Γ=some (r1,Γ1):=by
 unfold gFrz at e
 cases q:f Γ with
 |none=>rw[q] at e;cases e
 |some p=>exact⟨p.1,p.2,rfl⟩
theorem d0t{σ:St}{H:Hp}{Q:VK}(t:tG K (gFrz fa) σ H Q):tG K fa σ H Q:=by
 obtain⟨F,A,Γ,rr,Γ',k,e,w⟩:=t
 obtain⟨r1,Γ1,e1⟩:=c8q e
 exact⟨F,A,Γ,r1,Γ1,k,e1,fun v H' p=>w v H' (p.frz e1 e)⟩
theorem a2n(h:PE X e (tG K fa)):PE X e (tG K (gFrz fa)):=h.mono fun _ _ _ t=>d0t t
theorem d2p{σ:St}{H:Hp}{Q:VK}(t:tG K (gMove fa) σ H Q):tG K fa σ H Q:=by
 obtain⟨F,A,Γ,rr,Γ',k,e,w⟩:=t
 unfold gMove at e
 cases q:fa Γ with
 |none=>rw[q] at e;cases e
 |some p=>
  rw[q] at e
  refine⟨F,A,Γ,p.1,p.2,k,q,fun v H' pp=>w v H' ?_⟩
  obtain⟨r,Γ1⟩:=p
  cases r with
  |own o=>cases e;exact pp
  |var i=>
   dsimp only[Option.bind] at e
   cases q:Γ1[i]? with
   |none=>rw[q] at e;cases e
   |some z=>
    cases z with
    |none=>rw[q] at e;cases e
    |some o=>
     rw[q] at e
     cases e
     obtain⟨F1,A1,x,k,hh⟩:=pp
     obtain⟨A2,k2,x2⟩:=OK.grab (σ:=σ) (Γ:=Γ1) k hh.1 q
     exact⟨F1,A2,x.trans x2,k2,True.intro⟩
theorem b1v(h:PE X e (tG K fa)):PE X e (tG K (gMove fa)):=h.mono fun _ _ _ t=>d2p t
noncomputable def ownL:List R→Option (List O)
 |[]=>some []
 |.own o::rs=>(ownL rs).bind fun os=>some (o::os)
 |.var _::_=>none
theorem a3u:∀{rs:List R} {os:List O},ownL rs=some os→rs.map R.o=os.map some
 |[],os,e=>by cases e;rfl
 |.own o::rs,os,e=>by
  unfold ownL at e
  cases q:ownL rs with
  |none=>rw[q] at e;cases e
  |some os'=>rw[q] at e;cases e;simp[a3u q,R.o]
 |.var _::_,_,e=>by cases e
noncomputable def gSeq (c:List O→O) (fs:GA):GE:=fun Γ=>(fs Γ).bind fun p=>if p.1.length≤1000 then(ownL p.1).bind fun os=>some (.own (c os),p.2) else none
theorem c0d{c:List O→O}{Γ Γ':Gm}{r:R}(e:gSeq c fs Γ=some (r,Γ')):∃rs os,fs Γ=some (rs,Γ')∧rs.length≤1000∧ownL rs=some os∧r=.own (c os):=by
 unfold gSeq at e
 cases e1:fs Γ with
 |none=>rw[e1] at e;cases e
 |some p=>
  rw[e1] at e
  dsimp only[Option.bind] at e
  split at e
  ·cases e2:ownL p.1 with
   |none=>rw[e2] at e;cases e
   |some os=>rw[e2] at e;cases e;exact⟨p.1,os,rfl,by assumption,e2,rfl⟩
  ·cases e
theorem a4x(h:PA X es (tGA K fs)):PE X (.List es pos) (tG K (gSeq .lst fs)):=(d5c h).mono fun σ H Q t=>by
 obtain⟨F,A,Γ,rr,Γ',k,e,w⟩:=t
 obtain⟨rs,os,e1,e2,e3,rfl⟩:=c0d e
 refine⟨F,A,Γ,rs,Γ',k,e1,fun vs H1 p=>?_⟩
 obtain⟨F1,A1,x,k1,hh⟩:=p
 rw[a3u e3] at k1
 have hl:=hh.length
 have ho:os.length=rs.length:=by have:=congrArg List.length (a3u e3);simpa using this.symm
 refine⟨d0s (by omega),fun l hn=>w (.ref l) _ ?_⟩
 obtain⟨B,C,h1,h2,h3⟩:=OwnL.split (by simp only[List.length_map];omega) k1.os
 have nl:∀a∈A1,a≠l:=fun a m z=>k1.os.there a m (by rw[z];exact hn)
 have kp:∀a∈A1,∀o,H1 a=some o→upd H1 l (.lst vs) a=some o:=fun a m o e=>by rw[a0s (nl a m)];exact e
 subst h3
 refine⟨F1,l::B++C,x.trans ⟨Same.refl _,fun a o e _=>?_,fun a h=>?_,fun a h=>.inl h,fun a m=>?_⟩,⟨fun a o e=>?_,?_,?_,?_⟩,True.intro⟩
 ·rw[a0s (a1a e hn)];exact e
 ·by_cases z:a=l
  ·rw[z,a1g];exact fun z=>by cases z
  ·rw[a0s z];exact h
 ·rcases List.mem_cons.mp m with rfl|m
  ·exact .inr hn
  ·exact .inl m
 ·have:=k1.le a o e
  rw[a0s (a1a this hn)];exact this
 ·exact .lst a1g (h1.keep (Same.refl _) fun a m=>kp a (List.mem_append_left _ m)) (h2.keep (Same.refl _) fun a m=>kp a (List.mem_append_right _ m))
 ·exact List.nodup_cons.mpr ⟨fun m=>nl l m rfl,k1.nd⟩
 ·intro a m
  rcases List.mem_cons.mp m with rfl|m
  ·exact k1.le.free hn
  ·exact k1.fr a m
theorem b6r{x1}(h:PA X es (tGA K fs)):PE X (.Tuple es x1 pos) (tG K (gSeq .tup fs)):=(d5b h).mono fun σ H Q t=>by
 obtain⟨F,A,Γ,rr,Γ',k,e,w⟩:=t
 obtain⟨rs,os,e1,e2,e3,rfl⟩:=c0d e
 refine⟨F,A,Γ,rs,Γ',k,e1,fun vs H1 p=>?_⟩
 obtain⟨F1,A1,x,k1,hh⟩:=p
 rw[a3u e3] at k1
 have hl:=hh.length
 have ho:os.length=rs.length:=by have:=congrArg List.length (a3u e3);simpa using this.symm
 refine⟨d0s (by omega),fun l hn=>w (.ref l) _ ?_⟩
 obtain⟨B,C,h1,h2,h3⟩:=OwnL.split (by simp only[List.length_map];omega) k1.os
 have nl:∀a∈A1,a≠l:=fun a m z=>k1.os.there a m (by rw[z];exact hn)
 have kp:∀a∈A1,∀o,H1 a=some o→upd H1 l (.tup vs) a=some o:=fun a m o e=>by rw[a0s (nl a m)];exact e
 subst h3
 refine⟨F1,l::B++C,x.trans ⟨Same.refl _,fun a o e _=>?_,fun a h=>?_,fun a h=>.inl h,fun a m=>?_⟩,⟨fun a o e=>?_,?_,?_,?_⟩,True.intro⟩
 ·rw[a0s (a1a e hn)];exact e
 ·by_cases z:a=l
  ·rw[z,a1g];exact fun z=>by cases z
  ·rw[a0s z];exact h
 ·rcases List.mem_cons.mp m with rfl|m
  ·exact .inr hn
  ·exact .inl m
 ·have:=k1.le a o e
  rw[a0s (a1a this hn)];exact this
 ·exact .tup a1g (h1.keep (Same.refl _) fun a m=>kp a (List.mem_append_left _ m)) (h2.keep (Same.refl _) fun a m=>kp a (List.mem_append_right _ m))
 ·exact List.nodup_cons.mpr ⟨fun m=>nl l m rfl,k1.nd⟩
 ·intro a m
  rcases List.mem_cons.mp m with rfl|m
  ·exact k1.le.free hn
  ·exact k1.fr a m
noncomputable def c0e:GE:=fun Γ=>some (.own (.dct []),Γ)
theorem c8r{P:Program}{w:World}{H:Hp}(h:Heap)(hb:sysModules < h.objs.size):ObjOk P w H (h.push { cls:=.type "dict",data:=.dict #[]}) h.objs.size (.dG [] 0):=
 ⟨Nat.zero_le _,beq_eq_false_iff_ne.mpr (Ne.symm (Nat.ne_of_lt hb)),_,#[],Heap.get?_push_size _ rfl,⟨rfl,rfl,rfl⟩,rfl,.nil,List.nodup_nil⟩
noncomputable def d5o:TE:=fun _ H Q=>∀p,H p=none→Q (.ref p) (upd H p (.dG [] 0))
theorem pe_dnewG:PE X (.Dict [] [] pos) d5o:=fun pins s σ H Q I h=>
 wpAny_Dict_empty ⟨.ref s.heap.objs.size,_,I.laid (a:=s.heap.objs.size) (o:=.dG [] 0) (t':=s.toks) (fun _ _ q=>Heap.get?_push_of_some _ q) (Nat.le_refl _) (c8r s.heap I.big),rfl,h _ (I.hok.fresh (Nat.le_refl _))⟩
theorem c0f:PE X (.Dict [] [] pos) (tG K c0e):=pe_dnewG.mono fun σ H Q t=>by
 obtain⟨F,A,Γ,rr,Γ',k,e,w⟩:=t
 cases e
 intro l hn
 refine w (.ref l) _ ?_
 have s:Same H (upd H l (.dG [] 0)):=a6s hn
 obtain⟨k2,x⟩:=k.push (v:=.ref l) (o:=.dct []) (Av:=[l]++[]++[]) s (.dct (kvs:=[]) a1g rfl .nil .nil .nil) (by simp) (fun a m=>by simp at m;rw[m];exact hn)
 exact⟨F,_,x,k2,True.intro⟩
noncomputable def gT (f:GE):GT:=fun Γ=>(f Γ).bind fun p=>match p.1 with
 |.own (.frz (.bl b))=>some (b,p.2)
 |_=>none
theorem Post.drop{F H:Hp}{A:List Addr}{σ:St}{Γ':Gm}{rs:List R}{vs:List V}{H':Hp}(h:Post K F H A σ Γ' rs vs H'):Post K F H A σ Γ' [] [] H':=by
 obtain⟨F1,A1,x,k,hh⟩:=h
 obtain⟨B,kB,sub⟩:=k.part (by rw[List.length_map,List.length_map,hh.length])
 exact⟨F1,B,x.own' sub,kB,True.intro⟩
theorem Post.flat{F H:Hp}{A:List Addr}{σ:St}{Γ':Gm}{d:D}{v w:V}{H':Hp}(h:Post K F H A σ Γ' [.own (.frz d)] [v] H')(e:a4a d=some w):v=w:=by
 obtain⟨F1,A1,x,k,hh⟩:=h
 obtain⟨B,C,h1,_⟩:=OwnL.one (σ:=σ) (Γ:=Γ') k.os
 cases h1 with
 |frz r _=>
  cases r with
  |flat e' _=>rw[e] at e';exact(Option.some.inj e').symm
  |lst _ _ _=>cases e
  |tup _ _ _=>cases e
  |dct _ _ _ _ _=>cases e
  |scr _ _=>cases e
  |exc _ _=>cases e
theorem c3z{f:GE}{σ:St}{H:Hp}{Q:Bool→Hp→Prop}(t:tGT K (gT f) σ H Q):tG K f σ H fun x H'=>∃k,x=.bl k∧Q k H':=by
 obtain⟨F,A,Γ,b,Γ',k,e,w⟩:=t
 unfold gT at e
 cases q:f Γ with
 |none=>rw[q] at e;cases e
 |some p=>
  obtain⟨r,Γ1⟩:=p
  rw[q] at e
  dsimp only[Option.bind] at e
  cases r with
  |var i=>cases e
  |own o=>
   cases o with
   |frz d=>
    cases d with
    |bl b'=>
     cases e
     exact⟨F,A,Γ,_,_,k,q,fun v H' pp=>⟨_,pp.flat rfl,w H' pp.drop⟩⟩
    |_=>cases e
   |_=>cases e
theorem a3g{op:CmpOp}{r:R2}{g:List O→Option O}(ho:OpR X (compareOp op) r)(ok:OpOk K (r2L r) g)(ha:PE X a (tG K fa))(hb:PE X b (tG K fb))(hm:behindInMarks op b=false:=by first|rfl|exact d0o _):PT X (.Compare a [op] [b] pos) (tGT K (gT (gBin g fa fb))):=
 (d2c ho ha hb hm).mono fun _ _ _ t=>c0c ok (c3z t)
noncomputable def truO:O→Option Bool
 |.frz .non=>some false
 |.frz (.bl b)=>some b
 |.frz (.int i)=>some (i != 0)
 |.frz (.str x)=>if x.length≤1000000 then some ((x.length:Int) != 0) else none
 |.frz (.lst xs)=>some (!xs.isEmpty)
 |.frz (.tup xs)=>some (!xs.isEmpty)
 |.lst xs=>some (!xs.isEmpty)
 |.tup xs=>some (!xs.isEmpty)
 |_=>none
noncomputable def gTru (f:GE):GT:=fun Γ=>(f Γ).bind fun p=>(seeR p.2 p.1).bind fun o=>(truO o).bind fun b=>some (b,p.2)
theorem a6v{α β:Type}{xs:List α}{ys:List β}(h:xs.length=ys.length):(!xs.isEmpty) = !ys.isEmpty:=by
 cases xs <;> cases ys <;> simp_all
theorem c4a{F H:Hp}{v:V}{o:O}{b:Bool}{B:List Addr}(le:Same F H)(h:OwnL K F H [some v] [some o] B)(e:truO o=some b):TruV K v H b:=by
 cases h with
 |lst q i _=>cases e;exact .inl ⟨_,SqL.of q,a6v (by have:=i.length;simpa using this.symm)⟩
 |tup q i _=>cases e;exact .inr (.inl ⟨_,SqT.of q,a6v (by have:=i.length;simpa using this.symm)⟩)
 |dct q z r i _=>cases e
 |@frz v d σ Γ B r _=>
  cases r with
  |lst q i _=>cases e;exact .inl ⟨_,.inl (le.rd q),a6v i.length.symm⟩
  |tup q i _=>cases e;exact .inr (.inl ⟨_,le.seqT q,a6v i.length.symm⟩)
  |dct q z r i _=>cases e
  |scr _ _=>cases e
  |exc _ _=>cases e
  |flat q _=>
   cases d with
   |non=>cases q;cases e;rfl
   |bl b'=>cases q;cases e;rfl
   |int i=>cases q;cases e;rfl
   |str x=>
    cases q
    unfold truO at e
    dsimp only at e
    split at e
    ·cases e
     exact⟨Nat.le_trans (by assumption) (by decide),rfl⟩
    ·cases e
   |ty n=>cases e
   |lst _=>cases q
   |tup _=>cases q
   |dct _=>cases q
   |scr _=>cases q
   |exc _ _=>cases q
theorem a5p{X:Cx}{a:Expr}{fa:GE}(ha:PE X a (tG K fa))(he:∀whole,isTrue a X.env whole=(do let v ←whole;standAt a.pos;holding [v] (truthy v)):=by exact fun _=>rfl)(hK:X.K=K:=by rfl):PT X a (tGT K (gTru fa)):=
 (b6q K ha he hK).mono fun σ H Q t=>by
  obtain⟨F,A,Γ,b,Γ',k,e,w⟩:=t
  unfold gTru at e
  cases q:fa Γ with
  |none=>rw[q] at e;cases e
  |some p=>
   obtain⟨r,Γ1⟩:=p
   rw[q] at e
   dsimp only[Option.bind] at e
   cases q2:seeR Γ1 r with
   |none=>rw[q2] at e;cases e
   |some o=>
    rw[q2] at e
    dsimp only at e
    cases q3:truO o with
    |none=>rw[q3] at e;cases e
    |some b'=>
     rw[q3] at e
     cases e
     refine⟨F,A,Γ,r,_,k,q,fun v H' pp=>⟨_,?_,w H' pp.drop⟩⟩
     obtain⟨F1,le,see,_⟩:=Post.res (Q:=fun _ _=>True) (o:=.frz .non) pp (os:=[o]) (by unfold seeL;rw[q2];rfl) (fun _ _ _=>True.intro)
     cases see with
     |cons hs _=>obtain⟨B,hB⟩:=hs;exact c4a le hB q3
noncomputable def gNotT (f:GT):GT:=fun Γ=>(f Γ).bind fun p=>some (!p.1,p.2)
noncomputable def gAndT (f g:GT):GT:=fun Γ=>(f Γ).bind fun p=>if p.1=true then g p.2 else some (false,p.2)
noncomputable def gOrT (f g:GT):GT:=fun Γ=>(f Γ).bind fun p=>if p.1=true then some (true,p.2) else g p.2
theorem b4r{f:GT}{h:GT}{φ:Bool→GT}(eh:∀Γ,h Γ=(f Γ).bind fun p=>φ p.1 p.2){σ:St}{H:Hp}{Q:Bool→Hp→Prop}(t:tGT K h σ H Q):tGT K f σ H fun c H1=>tGT K (φ c) σ H1 Q:=by
 obtain⟨F,A,Γ,b,Γ',k,e,w⟩:=t
 rw[eh] at e
 cases q:f Γ with
 |none=>rw[q] at e;cases e
 |some p=>
  obtain⟨c,Γ1⟩:=p
  rw[q] at e
  refine⟨F,A,Γ,c,Γ1,k,q,fun H1 pp=>?_⟩
  obtain⟨F1,A1,x,k1,_⟩:=pp
  exact⟨F1,A1,Γ1,b,Γ',k1,e,fun H2 p2=>w H2 (by obtain⟨F2,A2,x2,k2,h2⟩:=p2;exact⟨F2,A2,x.trans x2,k2,h2⟩)⟩
theorem b1g{b:Bool}{σ:St}{H:Hp}{Q:Bool→Hp→Prop}(t:tGT K (fun Γ=>some (b,Γ)) σ H Q):Q b H:=by
 obtain⟨F,A,Γ,b',Γ',k,e,w⟩:=t
 cases e
 exact w H ⟨F,A,Ext.refl,k,True.intro⟩
theorem tGT.mono{f:GT}{Q1 Q2:Bool→Hp→Prop}{σ:St}{H:Hp}(t:tGT K f σ H Q1)(q:∀v H',Q1 v H'→Q2 v H'):tGT K f σ H Q2:=by
 obtain⟨F,A,Γ,rr,Γ',k,e,w⟩:=t
 exact⟨F,A,Γ,rr,Γ',k,e,fun H' p=>q _ _ (w H' p)⟩
variable {ft gt:GT} {rest:List Expr}
theorem b0w(h:PT X a (tGT K ft)):PT X (.UnaryOp .Not a pos) (tGT K (gNotT ft)):=(d4r h).mono fun σ H Q t=>
 (b4r (φ:=fun c Γ=>some (!c,Γ)) (fun _=>rfl) t).mono fun c H1 h=>b1g h
theorem c4b(h:PT X a (tGT K ft)):PW X (.BoolOp .And [a] pos) (tGT K ft):=d1x h
theorem b6s(h:PT X a (tGT K ft)):PW X (.BoolOp .Or [a] pos) (tGT K ft):=d4p h
theorem d0u(ha:PT X a (tGT K ft))(hb:PW X (.BoolOp .And (b::rest) pos) (tGT K gt)):PW X (.BoolOp .And (a::b::rest) pos) (tGT K (gAndT ft gt)):=(d4q ha hb).mono fun σ H Q t=>
 (b4r (φ:=fun c Γ=>if c=true then gt Γ else some (false,Γ)) (fun _=>rfl) t).mono fun c H1 h=>by
  cases c with
  |true=>exact iteT (by simpa using h)
  |false=>exact iteF (b1g (by simpa using h))
theorem c4c(ha:PT X a (tGT K ft))(hb:PW X (.BoolOp .Or (b::rest) pos) (tGT K gt)):PW X (.BoolOp .Or (a::b::rest) pos) (tGT K (gOrT ft gt)):=(d7r ha hb).mono fun σ H Q t=>
 (b4r (φ:=fun c Γ=>if c=true then some (true,Γ) else gt Γ) (fun _=>rfl) t).mono fun c H1 h=>by
  cases c with
  |true=>exact iteT (b1g (by simpa using h))
  |false=>exact iteF (by simpa using h)
noncomputable def gIf (c:GT) (f g:GE):GE:=fun Γ=>(c Γ).bind fun p=>if p.1=true then f p.2 else g p.2
noncomputable def gAndV (f g:GE):GE:=fun Γ=>(gT f Γ).bind fun p=>if p.1=true then g p.2 else gC (.bl false) p.2
theorem d0v{f:GT}{h:GE}{φ:Bool→GE}(eh:∀Γ,h Γ=(f Γ).bind fun p=>φ p.1 p.2){σ:St}{H:Hp}{Q:VK}(t:tG K h σ H Q):tGT K f σ H fun c H1=>tG K (φ c) σ H1 Q:=by
 obtain⟨F,A,Γ,b,Γ',k,e,w⟩:=t
 rw[eh] at e
 cases q:f Γ with
 |none=>rw[q] at e;cases e
 |some p=>
  obtain⟨c,Γ1⟩:=p
  rw[q] at e
  refine⟨F,A,Γ,c,Γ1,k,q,fun H1 pp=>?_⟩
  obtain⟨F1,A1,x,k1,_⟩:=pp
  exact⟨F1,A1,Γ1,b,Γ',k1,e,fun v H2 p2=>w v H2 (by obtain⟨F2,A2,x2,k2,h2⟩:=p2;exact⟨F2,A2,x.trans x2,k2,h2⟩)⟩
theorem tG_c{d:D}{v:V}{σ:St}{H:Hp}{Q:VK}(t:tG K (gC d) σ H Q)(q:a4a d=some v):Q v H:=by
 obtain⟨F,A,Γ,r,Γ',k,e,w⟩:=t
 cases e
 obtain⟨k2,x⟩:=k.push (v:=v) (o:=.frz d) (Av:=[]) (Same.refl _) (.frz (.flat q .nil) .nil) .nil (fun _ m=>by cases m)
 exact w v H ⟨F,_,x,k2,True.intro⟩
theorem d5p{c:Expr}{fc:GT}(hc:PT X c (tGT K fc))(ha:PE X a (tG K fa))(hb:PE X b (tG K fb)):PE X (.IfExp c a b pos) (tG K (gIf fc fa fb)):=(c7v hc ha hb).mono fun σ H Q t=>
 (d0v (φ:=fun c Γ=>if c=true then fa Γ else fb Γ) (fun _=>rfl) t).mono fun c H1 h=>by
  cases c with
  |true=>exact iteT (by simpa using h)
  |false=>exact iteF (by simpa using h)
theorem c0g{op}(h:PE X a (tG K fa)):PE X (.BoolOp op [a] pos) (tG K fa):=d4s h
theorem b1w(ha:PE X a (tG K fa))(hb:PE X (.BoolOp .And (b::rest) pos) (tG K fb)):PE X (.BoolOp .And (a::b::rest) pos) (tG K (gAndV fa fb)):=(d4t ha hb).mono fun σ H Q t=>
 tG.mono (c3z (d0v (φ:=fun c Γ=>if c=true then fb Γ else gC (.bl false) Γ) (fun _=>rfl) t)) fun v H1 ⟨c,e,h⟩=>⟨c,e,by
  cases c with
  |true=>exact iteT (by simpa using h)
  |false=>exact iteF (tG_c (d:=.bl false) (by simpa using h) rfl)⟩
end
end L2
namespace L2
open PySem PySem.Spec PyProof.Rows
noncomputable def SubP (A B:List Addr):Prop:=∃L,A.Perm L∧L.Sublist B
theorem SubP.refl(A:List Addr):SubP A A:=⟨A,.refl _,List.Sublist.refl _⟩
theorem SubP.of_perm{A B:List Addr}(p:A.Perm B):SubP A B:=⟨B,p,List.Sublist.refl _⟩
theorem SubP.of_sub{A B:List Addr}(p:A.Sublist B):SubP A B:=⟨A,.refl _,p⟩
theorem SubP.trans{A B C:List Addr}(x:SubP A B)(y:SubP B C):SubP A C:=by
 obtain⟨L,p,s⟩:=x
 obtain⟨M,q,t⟩:=y
 obtain⟨N,n1,n2⟩:=List.exists_perm_sublist s q
 exact⟨N,p.trans n1.symm,n2.trans t⟩
theorem SubP.mem{A B:List Addr}(x:SubP A B):∀a∈A,a∈B:=fun a m=>let ⟨_,p,s⟩:=x;s.subset (p.mem_iff.mp m)
theorem SubP.nodup{A B:List Addr}(x:SubP A B)(n:B.Nodup):A.Nodup:=let ⟨_,p,s⟩:=x;p.nodup_iff.mpr (n.sublist s)
theorem SubP.app{A B C D:List Addr}(x:SubP A B)(y:SubP C D):SubP (A++C) (B++D):=let ⟨_,p,s⟩:=x;let ⟨_,q,t⟩:=y;⟨_,p.append q,s.append t⟩
theorem OK.sub{K:PySem.W.Frag}{F H:Hp}{σ σ':St}{Γ Γ':Gm}{A B:List Addr}(k:OK K F H σ Γ A)(h:OwnL K F H σ' Γ' B)(s:SubP B A):OK K F H σ' Γ' B∧Ext F H A F H B:=
 ⟨⟨k.le,h,s.nodup k.nd,fun a m=>k.fr a (s.mem a m)⟩,Ext.own' Ext.refl s.mem⟩
inductive Fl where
 |nx|bk|ct|rt (o:O)
noncomputable abbrev GS:=Gm→Option (Fl×Gm)
noncomputable def Kept (m:List Bool) (σ σ':St):Prop:=∀j:Nat,m[j]?=some true→σ'[j]?=σ[j]?
theorem Kept.refl{m:List Bool}{σ:St}:Kept m σ σ:=fun _ _=>rfl
theorem Kept.trans{m:List Bool}{σ σ1 σ2:St}(a:Kept m σ σ1)(b:Kept m σ1 σ2):Kept m σ σ2:=fun j h=>(b j h).trans (a j h)
theorem Kept.set{m:List Bool}{σ:St}{i:Nat}{v:Option V}(h:(m[i]? == some true)=false):Kept m σ (σ.set i v):=fun j hj=>by
 by_cases e:i=j
 ·subst e;rw[hj] at h;simp at h
 ·rw[List.getElem?_set_ne e]
noncomputable def PostS (K:PySem.W.Frag) (F H:Hp) (A:List Addr) (m:List Bool) (σ:St) (Γ':Gm) (σ':St) (H':Hp):Prop:=∃F' A',Ext F H A F' H' A'∧OK K F' H' σ' Γ' A'∧Kept m σ σ'
noncomputable def PostV (K:PySem.W.Frag) (F H:Hp) (A:List Addr) (m:List Bool) (σ:St) (Γ':Gm) (o:O) (v:V) (σ':St) (H':Hp):Prop:=∃F' A',Ext F H A F' H' A'∧OK K F' H' (some v::σ') (some o::Γ') A'∧Kept m σ σ'
noncomputable def Done (K:PySem.W.Frag) (m:List Bool) (D:Ends) (F H:Hp) (A:List Addr) (σ:St):Fl→Gm→Prop
 |.nx,Γ'=>∀σ' H',PostS K F H A m σ Γ' σ' H'→D.nx σ' H'
 |.bk,Γ'=>∀σ' H',PostS K F H A m σ Γ' σ' H'→D.bk σ' H'
 |.ct,Γ'=>∀σ' H',PostS K F H A m σ Γ' σ' H'→D.ct σ' H'
 |.rt o,Γ'=>∀v σ' H',PostV K F H A m σ Γ' o v σ' H'→D.rt v H'
noncomputable def tS (K:PySem.W.Frag) (m:List Bool) (f:GS):TS:=fun D σ H=>∃F A Γ fl Γ',OK K F H σ Γ A∧f Γ=some (fl,Γ')∧Done K m D F H A σ fl Γ'
theorem Done.step{K:PySem.W.Frag}{m:List Bool}{D:Ends}{F H F1 H1:Hp}{A A1:List Addr}{σ σ1:St}{fl:Fl}{Γ':Gm}(d:Done K m D F H A σ fl Γ')(x:Ext F H A F1 H1 A1)(kp:Kept m σ σ1):Done K m D F1 H1 A1 σ1 fl Γ':=by
 cases fl with
 |nx=>exact fun σ' H' ⟨F',A',x',k,q⟩=>d σ' H' ⟨F',A',x.trans x',k,kp.trans q⟩
 |bk=>exact fun σ' H' ⟨F',A',x',k,q⟩=>d σ' H' ⟨F',A',x.trans x',k,kp.trans q⟩
 |ct=>exact fun σ' H' ⟨F',A',x',k,q⟩=>d σ' H' ⟨F',A',x.trans x',k,kp.trans q⟩
 |rt o=>exact fun v σ' H' ⟨F',A',x',k,q⟩=>d v σ' H' ⟨F',A',x.trans x',k,kp.trans q⟩
section
variable {X:Cx} {K:PySem.W.Frag} {m:List Bool} {st:Stmt} {rest sa sb:List Stmt} {e:Expr} {f g:GS} {fa:GE} {ft:GT} {pos:Pos}
noncomputable def gsNil:GS:=fun Γ=>some (.nx,Γ)
noncomputable def a0e (f g:GS):GS:=fun Γ=>(f Γ).bind fun p=>match p.1 with
 |.nx=>g p.2
 |.bk=>some (.bk,p.2)
 |.ct=>some (.ct,p.2)
 |.rt o=>some (.rt o,p.2)
theorem a2t:PSs X [] (tS K m gsNil):=pss_nil.mono fun D σ H t=>by
 obtain⟨F,A,Γ,fl,Γ',k,e,w⟩:=t
 cases e
 exact w σ H ⟨F,A,Ext.refl,k,Kept.refl⟩
theorem a0h(h1:PS X st (tS K m f))(h2:PSs X rest (tS K m g)):PSs X (st::rest) (tS K m (a0e f g)):=(b4j h1 h2).mono fun D σ H t=>by
 obtain⟨F,A,Γ,fl,Γ',k,e,w⟩:=t
 unfold a0e at e
 cases q:f Γ with
 |none=>rw[q] at e;cases e
 |some p=>
  obtain⟨fl1,Γ1⟩:=p
  rw[q] at e
  dsimp only[Option.bind] at e
  refine⟨F,A,Γ,fl1,Γ1,k,q,?_⟩
  cases fl1 with
  |nx=>
   intro σ' H' ⟨F1,A1,x,k1,kp⟩
   exact⟨F1,A1,Γ1,fl,Γ',k1,e,w.step x kp⟩
  |bk=>cases e;exact w
  |ct=>cases e;exact w
  |rt o=>cases e;exact w
theorem a0r(h1:PS X st (tS K m f)):PSs X [st] (tS K m f):=d1y h1
noncomputable def gsRet (f:GE):GS:=fun Γ=>(f Γ).bind fun p=>match p.1 with
 |.own o=>some (.rt o,p.2)
 |.var _=>none
theorem a2d(h:PE X e (tG K fa)):PS X (.Return (some e) pos) (tS K m (gsRet fa)):=(d4u h).mono fun D σ H t=>by
 obtain⟨F,A,Γ,fl,Γ',k,e,w⟩:=t
 unfold gsRet at e
 cases q:fa Γ with
 |none=>rw[q] at e;cases e
 |some p=>
  obtain⟨r,Γ1⟩:=p
  rw[q] at e
  cases r with
  |var i=>cases e
  |own o=>
   cases e
   exact⟨F,A,Γ,_,_,k,q,fun v H' ⟨F1,A1,x,k1,_⟩=>w v σ H' ⟨F1,A1,x,k1,Kept.refl⟩⟩
noncomputable def gsIf (c:GT) (f g:GS):GS:=fun Γ=>(c Γ).bind fun p=>if p.1=true then f p.2 else g p.2
theorem a3z{c:Expr}(hc:PT X c (tGT K ft))(ha:PSs X sa (tS K m f))(hb:PSs X sb (tS K m g)):PS X (.If c sa sb pos) (tS K m (gsIf ft f g)):=(d7s hc ha hb).mono fun D σ H t=>by
 obtain⟨F,A,Γ,fl,Γ',k,e,w⟩:=t
 unfold gsIf at e
 cases q:ft Γ with
 |none=>rw[q] at e;cases e
 |some p=>
  obtain⟨b,Γ1⟩:=p
  rw[q] at e
  refine⟨F,A,Γ,b,Γ1,k,q,fun H1 hh=>?_⟩
  obtain⟨F1,A1,x,k1,_⟩:=hh
  cases b with
  |true=>exact iteT ⟨F1,A1,Γ1,fl,Γ',k1,e,w.step x Kept.refl⟩
  |false=>exact iteF ⟨F1,A1,Γ1,fl,Γ',k1,e,w.step x Kept.refl⟩
noncomputable def a1l (f:GE):GS:=fun Γ=>(f Γ).bind fun p=>some (.nx,p.2)
theorem a3h(he:PE X e (tG K fa))(hs:swapsWith e none pos.line X.env=pure false:=by rfl):PS X (.Expr e pos) (tS K m (a1l fa)):=(c3c he hs).mono fun D σ H t=>by
 obtain⟨F,A,Γ,fl,Γ',k,e,w⟩:=t
 unfold a1l at e
 cases q:fa Γ with
 |none=>rw[q] at e;cases e
 |some p=>
  rw[q] at e
  cases e
  exact⟨F,A,Γ,p.1,p.2,k,q,fun v H' pp=>by obtain⟨F1,A1,x,k1,_⟩:=pp.drop;exact w σ H' ⟨F1,A1,x,k1,Kept.refl⟩⟩
noncomputable def gsSet (i:Nat) (f:GE):GS:=fun Γ=>(f Γ).bind fun p=>match p.1 with
 |.own o=>if i < p.2.length then some (.nx,p.2.set i (some o)) else none
 |.var _=>none
theorem OK.store{F H:Hp}{A:List Addr}{σ:St}{Γ:Gm}{v:V}{o:O}{i:Nat}(k:OK K F H (some v::σ) (some o::Γ) A)(hi:i < Γ.length):∃B,OK K F H (σ.set i (some v)) (Γ.set i (some o)) B∧Ext F H A F H B:=by
 obtain⟨B,C,h1,h2,h3⟩:=k.os.one
 obtain⟨B2,g1,C2,g2,g3⟩:=OwnL.put h1 i h2 hi
 subst h3
 exact⟨B2,k.sub g1 ((SubP.of_perm g2).trans ((SubP.refl B).app (.of_sub g3)))⟩
theorem a1q{i:Nat}{x:Str}{pos':Pos}(hN:X.N.Nodup)(hi:X.N[i]?=some x)(hx:Loc X.env.scope x)(he:PE X e (tG K fa))(hm:(m[i]? == some true)=false:=by rfl)(hs:swapsWith e (some (.Name x pos')) pos.line X.env=pure false:=by rfl)(hf:X.fn x=true∨X.env.scope.names.lookup x=some .local := by first|exact .inl rfl|exact .inr rfl):
  PS X (.Assign [.Name x pos'] e pos) (tS K m (gsSet i fa)):=(d0m hN hi hx he hs hf).mono fun D σ H t=>by
 obtain⟨F,A,Γ,fl,Γ',k,e,w⟩:=t
 unfold gsSet at e
 cases q:fa Γ with
 |none=>rw[q] at e;cases e
 |some p=>
  obtain⟨r,Γ1⟩:=p
  rw[q] at e
  cases r with
  |var i=>cases e
  |own o=>
   dsimp only[Option.bind] at e
   split at e
   ·cases e
    refine⟨F,A,Γ,_,Γ1,k,q,fun v H' hh=>?_⟩
    obtain⟨F1,A1,x,k1,_⟩:=hh
    obtain⟨B,k2,x2⟩:=OK.store (σ:=σ) (Γ:=Γ1) k1 (by assumption)
    exact w _ H' ⟨F1,B,x.trans x2,k2,Kept.set hm⟩
   ·cases e
noncomputable def a2s (c:GT) (f:GS):Nat→GS
 |0=>fun _=>none
 |n+1=>fun Γ=>(c Γ).bind fun p=>if p.1=true then(f p.2).bind fun q=>match q.1 with
   |.nx=>a2s c f n q.2
   |.ct=>a2s c f n q.2
   |.bk=>some (.nx,q.2)
   |.rt o=>some (.rt o,q.2)
  else some (.nx,p.2)
theorem c8s(n:Nat){c:Expr}(hp:PassesOwn (model X.prog X.w) X.A X.env X.xe)(hc:PT X c (tGT K ft))(hb:PSs X sa (tS K m f)):PS X (.While c sa [] pos) (tS K m (a2s ft f n)):=(c7w hp hc hb).mono fun D σ H t=>by
 obtain⟨F,A,Γ,fl,Γ',k,e,w⟩:=t
 refine⟨fun n σ H=>∃F A Γ,OK K F H σ Γ A∧a2s ft f n Γ=some (fl,Γ')∧Done K m D F H A σ fl Γ',⟨n,F,A,Γ,k,e,w⟩,?_⟩
 rintro n σ H ⟨F,A,Γ,k,e,w⟩
 cases n with
 |zero=>cases e
 |succ n=>
  unfold a2s at e
  cases q:ft Γ with
  |none=>rw[q] at e;cases e
  |some p=>
   obtain⟨b,Γ1⟩:=p
   rw[q] at e
   refine⟨F,A,Γ,b,Γ1,k,q,fun H1 hh=>?_⟩
   obtain⟨F1,A1,x,k1,_⟩:=hh
   have k1:OK K F1 H1 σ Γ1 A1:=k1
   have w1:=w.step x (Kept.refl (m:=m) (σ:=σ))
   cases b with
   |false=>
    cases e
    exact iteF (w1 σ H1 ⟨F1,A1,Ext.refl,k1,Kept.refl⟩)
   |true=>
    refine iteT ⟨fun σ' H'=>∃F A Γ,OK K F H' σ' Γ A∧a2s ft f n Γ=some (fl,Γ')∧Done K m D F H' A σ' fl Γ',fun σ' H' h=>⟨n,Nat.lt_succ_self _,h⟩,?_⟩
    have e:((f Γ1).bind fun q=>match q.1 with
      |.nx=>a2s ft f n q.2
      |.ct=>a2s ft f n q.2
      |.bk=>some (.nx,q.2)
      |.rt o=>some (.rt o,q.2))=some (fl,Γ'):=e
    cases q2:f Γ1 with
    |none=>rw[q2] at e;cases e
    |some p2=>
     obtain⟨fl2,Γ2⟩:=p2
     rw[q2] at e
     dsimp only[Option.bind] at e
     refine⟨F1,A1,Γ1,fl2,Γ2,k1,q2,?_⟩
     cases fl2 with
     |nx=>exact fun σ' H' ⟨F2,A2,x2,k2,kp⟩=>⟨F2,A2,Γ2,k2,e,w1.step x2 kp⟩
     |ct=>exact fun σ' H' ⟨F2,A2,x2,k2,kp⟩=>⟨F2,A2,Γ2,k2,e,w1.step x2 kp⟩
     |bk=>cases e;exact w1
     |rt o=>cases e;exact w1
noncomputable abbrev GG:=D→Gm→Option Gm
noncomputable def TgOk (K:PySem.W.Frag) (m:List Bool) (t:TG) (g:GG):Prop:=
 ∀(F H:Hp) (σ:St) (Γ Γ1:Gm) (A:List Addr) (x:V) (d:D) (Q:St→Hp→Prop),OK K F H σ Γ A→RepL K F [x] [d]→g d Γ=some Γ1→(∀σ' A',OK K F H σ' Γ1 A'→Ext F H A F H A'→Kept m σ σ'→Q σ' H)→t x σ H Q
noncomputable def a0i (i:Nat):GG:=fun d Γ=>if i < Γ.length then some (Γ.set i (some (.frz d))) else none
theorem a1c{i:Nat}(hm:(m[i]? == some true)=false:=by rfl):TgOk K m (gName i) (a0i i):=by
 intro F H σ Γ Γ1 A x d Q k r e w
 unfold a0i at e
 split at e
 ·cases e
  obtain⟨k1,x1⟩:=k.push (v:=x) (o:=.frz d) (Av:=[]) (Same.refl _) (.frz r .nil) .nil (fun _ m=>by cases m)
  obtain⟨B,k2,x2⟩:=OK.store k1 (by assumption)
  exact w _ _ k2 (x1.trans x2) (Kept.set hm)
 ·cases e
noncomputable def ggAll:List GG→List D→Gm→Option Gm
 |[],[],Γ=>some Γ
 |g::gs,d::ds,Γ=>(g d Γ).bind fun Γ1=>ggAll gs ds Γ1
 |_,_,_=>none
noncomputable def TgsOk (K:PySem.W.Frag) (m:List Bool) (t:TGs) (g:List GG):Prop:=
 ∀(F H:Hp) (σ:St) (Γ Γ1:Gm) (A:List Addr) (xs:List V) (ds:List D) (Q:St→Hp→Prop),OK K F H σ Γ A→RepL K F xs ds→ggAll g ds Γ=some Γ1→(∀σ' A',OK K F H σ' Γ1 A'→Ext F H A F H A'→Kept m σ σ'→Q σ' H)→t xs σ H Q
theorem b1x:TgsOk K m gNil []:=by
 intro F H σ Γ Γ1 A xs ds Q k r e w
 cases ds with
 |nil=>
  cases e
  cases xs with
  |nil=>exact⟨rfl,w σ A k Ext.refl Kept.refl⟩
  |cons _ _=>have:=r.length;simp at this
 |cons _ _=>cases e
theorem a2q{t:TG}{ts:TGs}{g:GG}{gs:List GG}(h1:TgOk K m t g)(h2:TgsOk K m ts gs):TgsOk K m (L2.gCons t ts) (g::gs):=by
 intro F H σ Γ Γ1 A xs ds Q k r e w
 cases ds with
 |nil=>cases e
 |cons d ds=>
  cases xs with
  |nil=>have:=r.length;simp at this
  |cons x xs=>
   unfold ggAll at e
   cases q:g d Γ with
   |none=>rw[q] at e;cases e
   |some Γ2=>
    rw[q] at e
    refine⟨x,xs,rfl,h1 F H σ Γ Γ2 A x d _ k r.inv.1 q fun σ1 A1 k1 x1 kp1=>?_⟩
    exact h2 F H σ1 Γ2 Γ1 A1 xs ds _ k1 r.inv.2 e fun σ2 A2 k2 x2 kp2=>w σ2 A2 k2 (x1.trans x2) (kp1.trans kp2)
noncomputable def ggTup (gs:List GG):GG:=fun d Γ=>match d with
 |.tup ds=>ggAll gs ds Γ
 |_=>none
theorem b6t:∀{gs:List GG} {ds:List D} {Γ Γ1:Gm},ggAll gs ds Γ=some Γ1→ds.length=gs.length
 |[],[],_,_,_=>rfl
 |g::gs,d::ds,Γ,Γ1,e=>by
  unfold ggAll at e
  cases q:g d Γ with
  |none=>rw[q] at e;cases e
  |some Γ2=>rw[q] at e;simp[b6t (gs:=gs) (ds:=ds) e]
 |[],_::_,_,_,e=>by cases e
 |_::_,[],_,_,e=>by cases e
theorem b6u{ts:TGs}{gs:List GG}{n:Nat}(h:TgsOk K m ts gs)(hn:n=gs.length:=by rfl):TgOk K m (gTup K n ts) (ggTup gs):=by
 intro F H σ Γ Γ1 A x d Q k r e w
 cases d with
 |tup ds=>
  have e:ggAll gs ds Γ=some Γ1:=e
  cases r with
  |flat z _=>cases z
  |tup q i _=>exact⟨_,_,rfl,k.le.seqT q,by rw[hn,i.length,b6t e],h F H σ Γ Γ1 A _ ds Q k i e w⟩
 |_=>cases e
noncomputable def a1u (g:GG) (f:GS):List D→GS
 |[]=>fun Γ=>some (.nx,Γ)
 |d::ds=>fun Γ=>(g d Γ).bind fun Γ1=>(f Γ1).bind fun q=>match q.1 with
   |.nx=>a1u g f ds q.2
   |.ct=>a1u g f ds q.2
   |.bk=>some (.nx,q.2)
   |.rt o=>some (.rt o,q.2)
theorem b6v{t:TG}{g:GG}(tg:TgOk K m t g){F H:Hp}{σ:St}{Γ Γ':Gm}{A:List Addr}{x:V}{d:D}{ds:List D}{fl:Fl}{E:Ends}{Pv:St→Hp→Prop}(k:OK K F H σ Γ A)(r:RepL K F [x] [d])
  (e:a1u g f (d::ds) Γ=some (fl,Γ')) (w:Done K m E F H A σ fl Γ')
  (nxt:∀F1 H1 σ1 Γ1 A1,Ext F H A F1 H1 A1→OK K F1 H1 σ1 Γ1 A1→a1u g f ds Γ1=some (fl,Γ')→Done K m E F1 H1 A1 σ1 fl Γ'→Pv σ1 H1):t x σ H fun σ2 H2=>tS K m f { E with nx:=Pv,ct:=Pv,bk:=E.nx} σ2 H2:=by
 unfold a1u at e
 cases q:g d Γ with
 |none=>rw[q] at e;cases e
 |some Γ1=>
  rw[q] at e
  dsimp only[Option.bind] at e
  cases q2:f Γ1 with
  |none=>rw[q2] at e;cases e
  |some p=>
   obtain⟨fl1,Γ2⟩:=p
   rw[q2] at e
   dsimp only at e
   refine tg F H σ Γ Γ1 A x d _ k r q fun σ1 A1 k1 x1 kp=>⟨F,A1,Γ1,fl1,Γ2,k1,q2,?_⟩
   have w1:=w.step x1 kp
   cases fl1 with
   |nx=>exact fun σ' H' ⟨F2,A2,x2,k2,kp2⟩=>nxt F2 H' σ' Γ2 A2 (x1.trans x2) k2 e (w1.step x2 kp2)
   |ct=>exact fun σ' H' ⟨F2,A2,x2,k2,kp2⟩=>nxt F2 H' σ' Γ2 A2 (x1.trans x2) k2 e (w1.step x2 kp2)
   |bk=>cases e;exact w1
   |rt o=>cases e;exact w1
theorem c8t{g:GG}{F H:Hp}{σ:St}{Γ Γ':Gm}{A:List Addr}{fl:Fl}{E:Ends}(k:OK K F H σ Γ A)(e:a1u g f [] Γ=some (fl,Γ'))(w:Done K m E F H A σ fl Γ'):E.nx σ H:=by
 cases e
 exact w σ H ⟨F,A,Ext.refl,k,Kept.refl⟩
noncomputable def gsFor (it:GE) (g:GG) (f:GS):GS:=fun Γ=>(gFrz it Γ).bind fun p=>match p.1 with
 |.own (.frz (.lst ds))=>a1u g f ds p.2
 |_=>none
variable {tg iter:Expr} {t:TG} {gg:GG} {body:List Stmt}
noncomputable def LI (K:PySem.W.Frag) (m:List Bool) (gg:GG) (f:GS) (E:Ends) (F1:Hp) (fl:Fl) (Γ':Gm) (ds:List D) (i:Nat) (σ:St) (H:Hp):Prop:=∃F A Γ,OK K F H σ Γ A∧a1u gg f (ds.drop i) Γ=some (fl,Γ')∧Done K m E F H A σ fl Γ'∧Same F1 F
section
variable {F1 H1:Hp} {σ:St} {ds:List D} {i:Nat} {E:Ends} {fl:Fl} {Γ':Gm}
theorem LI.same(p:LI K m gg f E F1 fl Γ' ds i σ H1):Same F1 H1:=by
 obtain⟨F',A',Γc,k',e',w',s'⟩:=p
 exact s'.trans k'.le
theorem LI.turn(p:LI K m gg f E F1 fl Γ' ds i σ H1)(ht:TgOk K m t gg){x:V}{d:D}(hd:ds[i]?=some d)(r:RepL K F1 [x] [d]):t x σ H1 fun σ2 H2=>tS K m f { E with nx:=LI K m gg f E F1 fl Γ' ds (i+1),ct:=LI K m gg f E F1 fl Γ' ds (i+1),bk:=E.nx} σ2 H2:=by
 obtain⟨F',A',Γc,k',e',w',s'⟩:=p
 obtain⟨hi,he⟩:=List.getElem?_eq_some_iff.mp hd
 rw[List.drop_eq_getElem_cons hi,he] at e'
 exact b6v ht k' (r.mono s') e' w' fun F2 H2 σ2 Γ2 A2 x2 k2 e2 w2=>⟨F2,A2,Γ2,k2,e2,w2,s'.trans x2.ff⟩
theorem LI.step(p:LI K m gg f E F1 fl Γ' ds i σ H1)(ht:TgOk K m t gg){ws:List V}(ri:RepL K F1 ws ds){x:V}(hx:ws[i]?=some x):t x σ H1 fun σ2 H2=>tS K m f { E with nx:=LI K m gg f E F1 fl Γ' ds (i+1),ct:=LI K m gg f E F1 fl Γ' ds (i+1),bk:=E.nx} σ2 H2:=by
 have hi:i < ds.length:=by rw[←ri.length];exact(List.getElem?_eq_some_iff.mp hx).1
 obtain⟨x2,hx2,rx⟩:=ri.get (List.getElem?_eq_getElem hi)
 rw[hx] at hx2
 cases hx2
 exact p.turn ht (List.getElem?_eq_getElem hi) rx
theorem LI.fin(p:LI K m gg f E F1 fl Γ' ds i σ H1)(h:ds.length≤i):E.nx σ H1:=by
 obtain⟨F',A',Γc,k',e',w',s'⟩:=p
 rw[List.drop_of_length_le h] at e'
 exact c8t k' e' w'
theorem LI.start{F H:Hp}{A A1:List Addr}{v:V}{d:D}{Γ1:Gm}(k1:OK K F1 H1 (some v::σ) (some (.frz d)::Γ1) A1)(x:Ext F H A F1 H1 A1)(w:Done K m E F H A σ fl Γ')(e:a1u gg f ds Γ1=some (fl,Γ')):RepL K F1 [v] [d]∧LI K m gg f E F1 fl Γ' ds 0 σ H1:=by
 obtain⟨B,C,h1,h2,h3⟩:=OwnL.one (σ:=σ) (Γ:=Γ1) k1.os
 subst h3
 cases h1 with
 |frz rp tl=>exact⟨rp,F1,_,Γ1,(k1.sub h2 (.of_sub (List.sublist_append_right _ _))).1,e,w.step (x.own' fun a m=>List.mem_append_right _ m) Kept.refl,Same.refl _⟩
theorem d2q{α:Type}{φ:List D→Gm→Option α}{z:α}{Γ:Gm}(e:((gFrz fa Γ).bind fun p=>match p.1 with|.own (.frz (.lst ds))=>φ ds p.2|_=>none)=some z):∃ds Γ1,gFrz fa Γ=some (.own (.frz (.lst ds)),Γ1)∧φ ds Γ1=some z:=by
 obtain⟨⟨r,Γ1⟩,q,e⟩:=Option.bind_eq_some_iff.mp e
 dsimp only at e
 split at e
 ·exact⟨_,Γ1,q,e⟩
 ·cases e
theorem c4d{v:V}(h:RepL K F1 [v] [.lst ds]):∃a ws,v=.ref a∧Rd F1 a (.lst ws)∧RepL K F1 ws ds:=by
 cases h with
 |flat z _=>cases z
 |@lst a ws vs es ds' sq ri _=>exact⟨a,ws,rfl,sq,ri⟩
end
theorem b1y(hp:PassesOwn (model X.prog X.w) X.A X.env X.xe)(hi:PE X iter (tG K fa))(hg:PG X tg t)(ht:TgOk K m t gg)(hb:PSs X body (tS K m f))(hc:X.calm=true:=by rfl)(hK:X.K=K:=by rfl)(hs:∀x,foldedSetIterable iter X.env x=pure x:=by intro _;rfl):PS X (.For tg iter body [] pos) (tS K m (gsFor fa gg f)):=by
 subst hK
 refine(b9u hp hc (b8i (a2n hi)) hg hb hs).mono fun D σ H tt=>?_
 obtain⟨F,A,Γ,fl,Γ',k,e,w⟩:=tt
 obtain⟨ds,Γ1,q,e⟩:=d2q (φ:=fun ds Γ=>a1u gg f ds Γ) e
 refine⟨F,A,Γ,_,Γ1,k,q,fun v H1 pp=>?_⟩
 obtain⟨F1,A1,x,k1,_⟩:=pp
 obtain⟨rp,st⟩:=LI.start k1 x w e
 obtain⟨a,ws,rfl,sq,ri⟩:=c4d rp
 exact⟨a,rfl,⟨ws,.inl (k1.le.rd sq)⟩,c7z (xs:=ws) (LI X.K m gg f D F1 fl Γ' ds) st (fun i σ' H' _ p=>.inl (p.same.rd sq)) (fun i x' σ' H' hx p=>p.step ht ri hx) fun σ' H' p=>p.fin (by rw[ri.length];exact Nat.le_refl _)⟩
end
end L2
namespace L2
open PySem PySem.Spec PyProof.Rows
noncomputable def rngD (lo:Int) (n:Nat):List D:=(List.range n).map fun(k:Nat)=>D.int (lo+(k:Int))
noncomputable def rngC (lo c:Int) (n:Nat):List D:=(List.range n).map fun(k:Nat)=>D.int (lo+(k:Int) * c)
theorem b3k{α:Type}(h:Nat→α){i n:Nat}(hi:i < n):((List.range n).map h).drop i=h i::((List.range n).map h).drop (i+1):=by
 have e:i < ((List.range n).map h).length:=by simpa using hi
 rw[List.drop_eq_getElem_cons e]
 simp
noncomputable def int1:List R→Option Int
 |[.own (.frz (.int j))]=>if Nat.ble j.natAbs 1000000000000=true then some j else none
 |_=>none
noncomputable def int3:List R→Option (Int×Int)
 |[.own (.frz (.int i)),.own (.frz (.int j)),.own (.frz (.int k))]=>if k = -1∧Nat.ble i.natAbs 1000000=true∧Nat.ble j.natAbs 1000000=true then some (i,j) else none
 |_=>none
theorem c0h{rs:List R}{j:Int}(e:int1 rs=some j):rs=[.own (.frz (.int j))] ∧ -(2 ^ 62)≤j∧j < 2 ^ 62:=by
 unfold int1 at e
 split at e
 ·split at e
  ·rename_i h
   have h:=Nat.le_of_ble_eq_true h
   cases e;exact⟨rfl,by omega,by omega⟩
  ·cases e
 ·cases e
theorem c8u{rs:List R}{p:Int×Int}(e:int3 rs=some p):rs=[.own (.frz (.int p.1)),.own (.frz (.int p.2)),.own (.frz (.int (-1)))] ∧ -(2 ^ 20)≤p.1∧p.1 < 2 ^ 20 ∧ -(2 ^ 20)≤p.2∧p.2 < 2 ^ 20:=by
 unfold int3 at e
 split at e
 ·split at e
  ·rename_i h
   obtain⟨rfl,h1,h2⟩:=h
   have h1:=Nat.le_of_ble_eq_true h1
   have h2:=Nat.le_of_ble_eq_true h2
   cases e;exact⟨rfl,by omega,by omega,by omega,by omega⟩
  ·cases e
 ·cases e
theorem b8v{j:Int}(h:j.natAbs≤1000000):int1 [.own (.frz (.int j))]=some j:=by
 unfold int1
 dsimp only
 rw[if_pos (Nat.ble_eq_true_of_le (by omega))]
theorem d2r{i j:Int}(h:i.natAbs≤1000000)(h':j.natAbs≤1000000):int3 [.own (.frz (.int i)),.own (.frz (.int j)),.own (.frz (.int (-1)))]=some (i,j):=by
 unfold int3
 dsimp only
 rw[if_pos ⟨rfl,Nat.ble_eq_true_of_le h,Nat.ble_eq_true_of_le h'⟩]
noncomputable def a9e (fs:GA) (g:GG) (f:GS):GS:=fun Γ=>(fs Γ).bind fun p=>(int1 p.1).bind fun j=>a1u g f (rngD 0 j.toNat) p.2
noncomputable def b4s (fs:GA) (g:GG) (f:GS):GS:=fun Γ=>(fs Γ).bind fun p=>(int3 p.1).bind fun j=>a1u g f (rngC j.1 (-1) (j.1 - j.2).toNat) p.2
section
variable {X:Cx} {K:PySem.W.Frag} {m:List Bool} {f:GS} {fa:GE} {fs:GA} {pos p:Pos} {tg a b c:Expr} {t:TG} {gg:GG} {body:List Stmt}
theorem a7l{F H:Hp}{σ:St}{Γ:Gm}{A:List Addr}{v:V}{i:Int}(h:OwnL K F H (some v::σ) (some (.frz (.int i))::Γ) A):v=.int i∧OwnL K F H σ Γ A:=by
 cases h with
 |frz r t=>
  cases r with
  |flat e _=>cases e;exact⟨rfl,t⟩
theorem d5q{α:Type}:∀{l:List α},1=l.length→∃a,l=[a]
 |[a],_=>⟨a,rfl⟩
theorem d5r{α:Type}:∀{l:List α},2=l.length→∃a b,l=[a,b]
 |[a,b],_=>⟨a,b,rfl⟩
theorem d5s{α:Type}:∀{l:List α},3=l.length→∃a b c,l=[a,b,c]
 |[a,b,c],_=>⟨a,b,c,rfl⟩
theorem LI.ints{F1 H1:Hp}{σ:St}{E:Ends}{fl:Fl}{Γ' Γ1:Gm}{F H:Hp}{A A1:List Addr}{τ:St}{Θ:Gm}{ds:List D}(k1:OK K F1 H1 τ Θ A1)(h:OwnL K F1 H1 σ Γ1 A1)(x:Ext F H A F1 H1 A1)(w:Done K m E F H A σ fl Γ')(e:a1u gg f ds Γ1=some (fl,Γ')):LI K m gg f E F1 fl Γ' ds 0 σ H1:=
 ⟨F1,A1,Γ1,(k1.sub h (SubP.refl _)).1,e,w.step x Kept.refl,Same.refl _⟩
theorem d0w{g:Nat→D}{n i:Nat}(h:i < n):((List.range n).map g)[i]?=some (g i):=by rw[List.getElem?_map,List.getElem?_range h];rfl
theorem b6w(hp:PassesOwn (model X.prog X.w) X.A X.env X.xe)(hm:X.mg "range"=none)(ha:PA X [a] (tGA K fs))(hg:PG X tg t)(ht:TgOk K m t gg)(hb:PSs X body (tS K m f))(hc:X.calm=true:=by rfl)(hgl:Gl X "range":=by rfl)
  (hs:starEach [a] X.env=[(false,eval a X.env)]:=by rfl) (hf:∀x,foldedSetIterable (.Call (.Name "range" p) [a] [] pos) X.env x=pure x:=by intro _;rfl) {fp:Pos}:PS X (.For tg (.Call (.Name "range" p) [a] [] pos) body [] fp) (tS K m (a9e fs gg f)):=by
 refine(b9u hp hc (b5z hgl hm ha hs) hg hb hf).mono fun D σ H tt=>?_
 obtain⟨F,A,Γ,fl,Γ',k,e,w⟩:=tt
 obtain⟨⟨rs,Γ1⟩,q,e⟩:=Option.bind_eq_some_iff.mp e
 obtain⟨j,q2,e⟩:=Option.bind_eq_some_iff.mp e
 obtain⟨hj,hb⟩:=c0h q2
 subst hj
 refine⟨F,A,Γ,_,Γ1,k,q,fun vs H1 pp=>?_⟩
 obtain⟨F1,A1,x,k1,hh⟩:=pp
 obtain⟨v,rfl⟩:=d5q hh.length
 obtain⟨rfl,h2⟩:=a7l (σ:=σ) (Γ:=Γ1) k1.os
 exact⟨j,rfl,hb.1,hb.2,c3f (LI K m gg f D F1 fl Γ' (rngD 0 j.toNat)) (.ints k1 h2 x w e) (fun i σ' H' hi p=>p.turn ht (d0w hi) (.flat rfl .nil)) fun σ' H' p=>p.fin (by simp[rngD])⟩
theorem c4e(hp:PassesOwn (model X.prog X.w) X.A X.env X.xe)(hm:X.mg "range"=none)(ha:PA X [a,b,c] (tGA K fs))(hg:PG X tg t)(ht:TgOk K m t gg)(hb:PSs X body (tS K m f))(hc:X.calm=true:=by rfl)(hgl:Gl X "range":=by rfl)
  (hs:starEach [a,b,c] X.env=[(false,eval a X.env),(false,eval b X.env),(false,eval c X.env)]:=by rfl) (hs2:starEach [b,c] X.env=[(false,eval b X.env),(false,eval c X.env)]:=by rfl)
  (hf:∀x,foldedSetIterable (.Call (.Name "range" p) [a,b,c] [] pos) X.env x=pure x:=by intro _;rfl) {fp:Pos} :
  PS X (.For tg (.Call (.Name "range" p) [a,b,c] [] pos) body [] fp) (tS K m (b4s fs gg f)):=by
 refine(b9u hp hc (c3y hgl hm ha hs hs2) hg hb hf).mono fun D σ H tt=>?_
 obtain⟨F,A,Γ,fl,Γ',k,e,w⟩:=tt
 obtain⟨⟨rs,Γ1⟩,q,e⟩:=Option.bind_eq_some_iff.mp e
 obtain⟨⟨i0,j⟩,q2,e⟩:=Option.bind_eq_some_iff.mp e
 obtain⟨hj,hb⟩:=c8u q2
 subst hj
 refine⟨F,A,Γ,_,Γ1,k,q,fun vs H1 pp=>?_⟩
 obtain⟨F1,A1,x,k1,hh⟩:=pp
 obtain⟨v,v',v'',rfl⟩:=d5s hh.length
 obtain⟨rfl,h0⟩:=a7l (σ:=some v'::some v''::σ) (Γ:=some (.frz (.int j))::some (.frz (.int (-1)))::Γ1) k1.os
 obtain⟨rfl,h1⟩:=a7l (σ:=some v''::σ) (Γ:=some (.frz (.int (-1)))::Γ1) h0
 obtain⟨rfl,h2⟩:=a7l (σ:=σ) (Γ:=Γ1) h1
 exact⟨i0,j,rfl,hb,c2e (LI K m gg f D F1 fl Γ' (rngC i0 (-1) (i0 - j).toNat)) (.ints k1 h2 x w e) (fun i σ' H' hi p=>p.turn ht (d0w hi) (.flat rfl .nil)) fun σ' H' p=>p.fin (by simp[rngC])⟩
end
noncomputable abbrev GM:=List O→Option (O×Gm)
noncomputable def PostC (K:PySem.W.Frag) (F H:Hp) (A:List Addr) (vs:List V) (fin:Gm) (o:O) (v:V) (H':Hp):Prop:=∃F' A',Ext F H A F' H' A'∧OK K F' H' (some v::vs.map some) (some o::fin) A'
noncomputable def SpM (K:PySem.W.Frag) (n:Nat) (M:GM):Sp:=fun vs H Q _=>vs.length=n∧∃F A os o fin,OK K F H (vs.map some) (os.map some) A∧M os=some (o,fin)∧∀v H',PostC K F H A vs fin o v H'→Q v H'
noncomputable def keepM:List Bool→Gm→Gm
 |true::m,x::Γ=>x::keepM m Γ
 |false::m,_::Γ=>none::keepM m Γ
 |[],_::Γ=>none::keepM [] Γ
 |_,[]=>[]
noncomputable def Fl.val:Fl→Option O
 |.rt o=>some o
 |.nx=>some (.frz .non)
 |_=>none
noncomputable def runM (n:Nat) (m:List Bool) (f:GS):GM:=fun os=>(f (os.map some++List.replicate (n - os.length) none)).bind fun p=>p.1.val.bind fun o=>if p.2.length=n then some (o,keepM m (p.2.take os.length)) else none
section
variable {K:PySem.W.Frag} {F H:Hp} {σ:St} {Γ:Gm} {A:List Addr}
theorem b1z:∀n:Nat,OwnL K F H (List.replicate n none) (List.replicate n none) []
 |0=>.nil
 |n+1=>.skip (b1z n)
theorem b4t:∀{m:List Bool} {vs:List V} {σ':St} {Γ:Gm} {B:List Addr},OwnL K F H σ' Γ B→σ'.length=vs.length→(∀j:Nat,m[j]?=some true→σ'[j]?=(vs.map some)[j]?)→∃C,OwnL K F H (vs.map some) (keepM m Γ) C∧C.Sublist B
 |m,[],[],[],B,h,_,_=>by
  cases m with
  |nil=>exact⟨B,h,List.Sublist.refl _⟩
  |cons b m=>cases b <;> exact⟨B,h,List.Sublist.refl _⟩
 |m,v::vs,x::σ',y::Γ,B,h,hl,hk=>by
  obtain⟨B1,B2,h1,h2,h3⟩:=h.one
  subst h3
  have hl':σ'.length=vs.length:=by simpa using hl
  cases m with
  |nil=>
   obtain⟨C,g1,g2⟩:=b4t (m:=[]) h2 hl' (fun j hj=>by simp at hj)
   exact⟨C,.skip g1,g2.trans (List.sublist_append_right _ _)⟩
  |cons b m=>
   obtain⟨C,g1,g2⟩:=b4t (m:=m) h2 hl' (fun j hj=>by simpa using hk (j+1) (by simpa using hj))
   cases b with
   |false=>exact⟨C,.skip g1,g2.trans (List.sublist_append_right _ _)⟩
   |true=>
    have hx:x=some v:=by simpa using hk 0 rfl
    subst hx
    exact⟨B1++C,h1.app g1,g2.append_left _⟩
 |_,[],_::_,_,_,_,hl,_=>by simp at hl
 |_,_::_,[],_,_,_,hl,_=>by simp at hl
 |_,[],[],_::_,_,h,_,_=>by have:=h.length;simp at this
 |_,_::_,_::_,[],_,h,_,_=>by have:=h.length;simp at this
theorem OK.params{m:List Bool}{vs:List V}{σ':St}{Γ':Gm}{v:V}{o:O}{rest:St}(k:OK K F H (some v::σ') (some o::Γ') A)(hl:vs.length≤σ'.length)(kp:Kept m (vs.map some++rest) σ')(hm:m.length≤vs.length):
  ∃B,OK K F H (some v::vs.map some) (some o::keepM m (Γ'.take vs.length)) B∧Ext F H A F H B:=by
 obtain⟨B,C,h1,h2,h3⟩:=k.os.one
 subst h3
 have hΓ:=h2.length
 have e1:σ'=σ'.take vs.length++σ'.drop vs.length:=(List.take_append_drop _ _).symm
 have e2:Γ'=Γ'.take vs.length++Γ'.drop vs.length:=(List.take_append_drop _ _).symm
 have h2':OwnL K F H (σ'.take vs.length++σ'.drop vs.length) (Γ'.take vs.length++Γ'.drop vs.length) C:=by rw[←e1,←e2];exact h2
 obtain⟨C1,C2,g1,g2,g3⟩:=OwnL.split (by rw[List.length_take,List.length_take];omega) h2'
 subst g3
 obtain⟨C3,j1,j2⟩:=b4t (m:=m) (vs:=vs) g1 (by rw[List.length_take];omega) (fun j hj=>by
  have hlt:j < vs.length:=by
   have:=(List.getElem?_eq_some_iff.mp hj).1
   omega
  rw[List.getElem?_take_of_lt hlt,kp j hj,List.getElem?_append_left (by simpa using hlt)])
 exact⟨B++C3,k.sub (h1.app j1) ((SubP.refl B).app (.of_sub (j2.trans (List.sublist_append_left _ _))))⟩
end
section
variable {P:Program} {w:World} {K:PySem.W.Frag} {mg:Str→Option Value} {base:Heap}
theorem c4f{x qual:Str}{st:Stmt}{fa:Addr}{fd:FuncData}{N ps:List Str}{k:Nat}(m:List Bool)(f:GS)(Fn:Fun K x qual st fa fd)(S:FnScope N ps (a0l st))(hm:m.length≤ps.length)
  (hbody:∀(cdv:Value) (A:Around) (outer:List Env) (s:Shared) (H:Hp) (E:XK),Room k (A.deeper (envOfC qual (a0l st) s.heap.objs.size fa cdv))→
   PSs (cxOf CX0 P w K mg base N qual (a0l st) fa cdv A outer s H E).nox (a6r st) (tS K m f)):FnOk P w K mg base CX0 (k+1) fa fd ps (SpM K ps.length (runM N.length m f)):=by
 refine Fn.ok S (fun vs H Q E h=>h.1) fun cdv A outer s H vs Q E hr h=>⟨_,hbody cdv A outer s H E hr,?_⟩
 obtain⟨hl,F,A0,os,o,fin,k0,e,q⟩:=h
 have hlo:vs.length=os.length:=by have:=k0.os.length;simpa using this
 have hN:ps.length≤N.length:=by have:=congrArg List.length S.pre;rw[List.length_take] at this;omega
 unfold runM at e
 cases q1:f (os.map some++List.replicate (N.length - os.length) none) with
 |none=>rw[q1] at e;cases e
 |some p=>
  obtain⟨fl,Γ'⟩:=p
  rw[q1] at e
  dsimp only[Option.bind] at e
  have k1:OK K F H (start N vs) (os.map some++List.replicate (N.length - os.length) none) A0:=by
   unfold start
   rw[hlo]
   have z:=k0.os.app (b1z (K:=K) (F:=F) (H:=H) (N.length - os.length))
   rw[List.append_nil] at z
   exact⟨k0.le,z,k0.nd,k0.fr⟩
  cases q2:fl.val with
  |none=>rw[q2] at e;cases e
  |some o'=>
   rw[q2] at e
   dsimp only at e
   split at e
   ·rename_i hlen
    cases e
    refine⟨F,A0,_,fl,Γ',k1,q1,?_⟩
    have fin':∀{F' H':Hp} {A':List Addr} {v:V} {σ':St},Ext F H A0 F' H' A'→OK K F' H' (some v::σ') (some o::Γ') A'→Kept m (start N vs) σ'→Q v H':=by
     intro F' H' A' v σ' x k' kp
     unfold start at kp
     have hs:σ'.length=Γ'.length:=by have:=k'.os.length;simpa using this
     obtain⟨B,k2,x2⟩:=OK.params (m:=m) (vs:=vs) k' (by omega) kp (by omega)
     rw[hlo] at k2
     exact q v H' ⟨F',B,x.trans x2,k2⟩
    cases fl with
    |nx=>
     cases q2
     intro σ' H' ⟨F',A',x,k',kp⟩
     obtain⟨k2,x2⟩:=k'.push (v:=.non) (o:=.frz .non) (Av:=[]) (Same.refl _) (.frz (.flat rfl .nil) .nil) .nil (fun _ m=>by cases m)
     exact fin' (x.trans x2) k2 kp
    |rt o1=>
     cases q2
     intro v σ' H' ⟨F',A',x,k',kp⟩
     exact fin' x k' kp
    |bk=>cases q2
    |ct=>cases q2
   ·cases e
theorem a3n{x qual:Str}{st:Stmt}{fa:Addr}{fd:FuncData}{N ps:List Str}{k:Nat}(m:List Bool)(f:GS)(Fn:Fun K x qual st fa fd)(S:FnScope N ps (a0l st)){n pn:Nat}(hn:N.length=n)(hp:ps.length=pn)(hm:m.length≤ps.length)
  (hbody:∀(cdv:Value) (A:Around) (outer:List Env) (s:Shared) (H:Hp) (E:XK),Room k (A.deeper (envOfC qual (a0l st) s.heap.objs.size fa cdv))→
   ∃f',PSs (cxOf CX0 P w K mg base N qual (a0l st) fa cdv A outer s H E).nox (a6r st) (tS K m f')∧f'=f):FnOk P w K mg base CX0 (k+1) fa fd ps (SpM K pn (runM n m f)):=by
 subst hn hp
 exact c4f m f Fn S hm fun cdv A outer s H E hr=>by
  obtain⟨f',h,e⟩:=hbody cdv A outer s H E hr
  rw[←e]
  exact h
end
noncomputable def a2w:List R→Gm→Option (List O×Gm)
 |[],Γ=>some ([],Γ)
 |.own o::rs,Γ=>(a2w rs Γ).bind fun p=>some (o::p.1,p.2)
 |.var i::rs,Γ=>match Γ[i]? with
  |some (some o)=>(a2w rs (Γ.set i none)).bind fun p=>some (o::p.1,p.2)
  |_=>none
noncomputable def a4t:List R→Gm→Gm→Gm
 |.own _::rs,_::fin,Γ=>a4t rs fin Γ
 |.var i::rs,f::fin,Γ=>(a4t rs fin Γ).set i f
 |_,_,Γ=>Γ
noncomputable def gCall (M:GM) (fs:GA):GE:=fun Γ=>(fs Γ).bind fun p=>(a2w p.1 p.2).bind fun q=>(M q.1).bind fun r=>some (.own r.1,a4t p.1 r.2 q.2)
section
variable {K:PySem.W.Frag} {F H:Hp} {σ:St}
theorem b2a:∀{rs:List R} {vs:List V} {Γ Γ2:Gm} {os:List O} {B C:List Addr},OwnL K F H (vs.map some) (rs.map R.o) B→OwnL K F H σ Γ C→Held σ rs vs→a2w rs Γ=some (os,Γ2)→
  ∃B' C',OwnL K F H (vs.map some) (os.map some) B'∧OwnL K F H σ Γ2 C'∧(B'++C').Perm (B++C)
 |[],[],Γ,Γ2,os,B,C,h1,h2,_,e=>by cases e;exact⟨B,C,h1,h2,.refl _⟩
 |.own o::rs,v::vs,Γ,Γ2,os,B,C,h1,h2,hh,e=>by
  obtain⟨B1,B2,g1,g2,rfl⟩:=OwnL.one h1
  unfold a2w at e
  cases q:a2w rs Γ with
  |none=>rw[q] at e;cases e
  |some p=>
   rw[q] at e
   cases e
   obtain⟨B',C',j1,j2,j3⟩:=b2a g2 h2 hh q
   exact⟨B1++B',C',g1.app j1,j2,by rw[List.append_assoc,List.append_assoc];exact .append_left _ j3⟩
 |.var i::rs,v::vs,Γ,Γ2,os,B,C,h1,h2,hh,e=>by
  obtain⟨B1,B2,g1,g2,rfl⟩:=OwnL.one h1
  have eB:B1=[]:=by cases g1 with|skip t=>cases t;rfl
  subst eB
  unfold a2w at e
  cases q0:Γ[i]? with
  |none=>rw[q0] at e;cases e
  |some z=>
   cases z with
   |none=>rw[q0] at e;cases e
   |some o=>
    rw[q0] at e
    dsimp only at e
    cases q:a2w rs (Γ.set i none) with
    |none=>rw[q] at e;cases e
    |some p=>
     rw[q] at e
     cases e
     obtain⟨v',Ai,C1,k1,k2,k3,k4⟩:=h2.take q0
     rw[hh.1] at k1
     cases k1
     obtain⟨B',C',j1,j2,j3⟩:=b2a g2 k3 hh.2 q
     refine⟨Ai++B',C',k2.app j1,j2,?_⟩
     rw[List.append_assoc,List.nil_append]
     refine(List.Perm.append_left Ai j3).trans ?_
     rw[←List.append_assoc]
     refine(List.Perm.append_right C1 List.perm_append_comm).trans ?_
     rw[List.append_assoc]
     exact .append_left _ k4.symm
 |[],_::_,_,_,_,_,_,_,_,h,_=>h.elim
 |.own _::_,[],_,_,_,_,_,_,_,h,_=>h.elim
 |.var _::_,[],_,_,_,_,_,_,_,h,_=>h.elim
theorem b4u:∀{rs:List R} {vs:List V} {fin Γ:Gm} {B C:List Addr},OwnL K F H (vs.map some) fin B→OwnL K F H σ Γ C→Held σ rs vs→∃D,OwnL K F H σ (a4t rs fin Γ) D∧SubP D (B++C)
 |[],[],fin,Γ,B,C,h1,h2,_=>by
  cases h1
  exact⟨C,h2,.of_sub (List.sublist_append_right _ _)⟩
 |.own o::rs,v::vs,[],Γ,B,C,h1,h2,hh=>by have:=h1.length;simp at this
 |.var i::rs,v::vs,[],Γ,B,C,h1,h2,hh=>by have:=h1.length;simp at this
 |.own o::rs,v::vs,f::fin,Γ,B,C,h1,h2,hh=>by
  obtain⟨B1,B2,g1,g2,rfl⟩:=OwnL.one h1
  obtain⟨D,j1,j2⟩:=b4u g2 h2 hh
  exact⟨D,j1,j2.trans (by rw[List.append_assoc];exact .of_sub (List.sublist_append_right _ _))⟩
 |.var i::rs,v::vs,f::fin,Γ,B,C,h1,h2,hh=>by
  obtain⟨B1,B2,g1,g2,rfl⟩:=OwnL.one h1
  obtain⟨D,j1,j2⟩:=b4u g2 h2 hh.2
  cases f with
  |none=>
   obtain⟨D',k1,k2⟩:=OwnL.forget i j1
   exact⟨D',k1,(SubP.of_sub k2).trans (j2.trans (by rw[List.append_assoc];exact .of_sub (List.sublist_append_right _ _)))⟩
  |some o=>
   have hi:i < (a4t rs fin Γ).length:=by
    rw[←j1.length]
    exact(List.getElem?_eq_some_iff.mp hh.1).1
   obtain⟨D',k1,C',k2,k3⟩:=OwnL.put g1 i j1 hi
   rw[a4j hh.1] at k1
   refine⟨D',k1,(SubP.of_perm k2).trans ?_⟩
   rw[List.append_assoc]
   exact(SubP.refl B1).app ((SubP.of_sub k3).trans j2)
 |[],_::_,_,_,_,_,_,_,h=>h.elim
 |.own _::_,[],_,_,_,_,_,_,h=>h.elim
 |.var _::_,[],_,_,_,_,_,_,h=>h.elim
end
section
variable {X:Cx} {K:PySem.W.Frag} {k n:Nat} {f:Addr} {fd:FuncData} {ps:List Str} {x:Str} {p pos:Pos} {e:Expr} {es:List Expr} {fs:GA} {st:Stmt} {M:GM}
theorem d2s{σ:St}{H:Hp}{Q:VK}(t:tG K (gCall M fs) σ H Q)(hn:∀rs Γ Γ',fs Γ=some (rs,Γ')→rs.length=n):tCall (SpM K n M) [] E0 (tGA K fs) σ H Q:=by
 obtain⟨F,A,Γ,rr,Γ',k,e,w⟩:=t
 unfold gCall at e
 cases q:fs Γ with
 |none=>rw[q] at e;cases e
 |some pr=>
  obtain⟨rs,Γ1⟩:=pr
  rw[q] at e
  dsimp only[Option.bind] at e
  cases q2:a2w rs Γ1 with
  |none=>rw[q2] at e;cases e
  |some pr2=>
   obtain⟨os,Γ2⟩:=pr2
   rw[q2] at e
   dsimp only at e
   cases q3:M os with
   |none=>rw[q3] at e;cases e
   |some pr3=>
    obtain⟨o,fin⟩:=pr3
    rw[q3] at e
    cases e
    refine⟨F,A,Γ,rs,Γ1,k,q,fun vs H1 pp=>?_⟩
    show SpM K n M (vs++[]) H1 Q E0
    rw[List.append_nil]
    obtain⟨F1,A1,x,k1,hh⟩:=pp
    have hl:(vs.map some).length=(rs.map R.o).length:=by rw[List.length_map,List.length_map,hh.length]
    obtain⟨B,C,h1,h2,h3⟩:=OwnL.split hl k1.os
    subst h3
    obtain⟨B',C',j1,j2,j3⟩:=b2a h1 h2 hh q2
    have k2:OK K F1 H1 (vs.map some++σ) (os.map some++Γ2) (B'++C'):=.perm (j1.app j2) k1.le k1.nd k1.fr j3
    obtain⟨A3,p3,k3⟩:=k2.swap j1.length
    obtain⟨A4,k4,fr⟩:=k3.frame j2.length
    refine⟨by rw[←hh.length];exact hn rs Γ Γ1 q,F1,A4,os,o,fin,k4,q3,fun v H' pc=>w v H' ?_⟩
    obtain⟨F5,A5,x5,k5⟩:=pc
    obtain⟨A6,x6,k6⟩:=fr _ _ _ _ _ x5 k5
    obtain⟨D1,D2,g1,g2,g3⟩:=OwnL.split j2.length k6.os
    subst g3
    obtain⟨D3,D4,g4,g5,g6⟩:=g2.one
    subst g6
    obtain⟨D5,g7,g8⟩:=b4u g5 g1 hh
    have s1:SubP (D3++D5) (D1++(D3++D4)):=by
     refine((SubP.refl D3).app g8).trans (.of_perm ?_)
     rw[←List.append_assoc]
     exact List.perm_append_comm
    obtain⟨k7,x7⟩:=k6.sub (σ':=some v::σ) (Γ':=some o::a4t rs fin Γ2) (g4.app g7) s1
    have x3:Ext F1 H1 (B++C) F1 H1 A3:=Ext.own' Ext.refl fun a m=>j3.mem_iff.mp (p3.mem_iff.mp m)
    exact⟨F5,D3++D5,((x.trans x3).trans x6).trans x7,k7,True.intro⟩
theorem a0k:∀rs Γ Γ',gaNil Γ=some (rs,Γ')→rs.length=0:=fun rs Γ Γ' e=>by cases e;rfl
theorem a0d{f:GE}{g:GA}{n:Nat}(h:∀rs Γ Γ',g Γ=some (rs,Γ')→rs.length=n):∀rs Γ Γ',a0a f g Γ=some (rs,Γ')→rs.length=n+1:=fun rs Γ Γ' e=>by
 obtain⟨r,Γ1,rs',_,e2,rfl⟩:=b3u e
 simp[h _ _ _ e2]
theorem a1f(D:DefAt X.K X.mg x st f fd ps)(Fn:FnOk X.prog X.w X.K X.mg X.base CX0 k f fd ps (SpM K n M))(hr:Room k X.A)(ha:PA X (e::es) (tGA K fs))(hn:∀rs Γ Γ',fs Γ=some (rs,Γ')→rs.length=n)(hg:Gl X x:=by rfl)(hdb:(x == ("__debug__":Str))=false:=by decide)
  (he:starEach (e::es) X.env=(false,eval e X.env)::starEach es X.env:=by rfl) (hpl:(backTo pos (starEach es X.env)).any (·.1)=false:=by rfl) :
  PE X (.Call (.Name x p) (e::es) [] pos) (tG K (gCall M fs)):=(pcall D Fn hr ha hg hdb he hpl).mono fun _ _ _ t=>d2s t hn
end
end L2
namespace L2
open PySem PySem.Spec PyProof.Rows
noncomputable def frzL:List O→Option (List D)
 |[]=>some []
 |.frz d::os=>(frzL os).bind fun ds=>some (d::ds)
 |_::_=>none
noncomputable def listD:O→Option (List D)
 |.frz (.lst ds)=>some ds
 |.frz (.scr ns)=>some (ns.map .int)
 |.lst os=>frzL os
 |_=>none
noncomputable def tupD:O→Option (List D)
 |.frz (.tup ds)=>some ds
 |.tup os=>frzL os
 |_=>none
theorem a8b:∀ds:List D,frzL (ds.map .frz)=some ds
 |[]=>rfl
 |d::ds=>by rw[List.map_cons,frzL,a8b ds];rfl
theorem b3v:∀ds:List D,O.dl (ds.map .frz)=ds
 |[]=>rfl
 |d::ds=>by rw[List.map_cons,O.dl,b3v ds];rfl
section
variable {K:PySem.W.Frag} {F H:Hp} {x y v:V} {o:O} {B:List Addr} {ds:List D} {d:D} {ws:List V}
theorem b1h:∀{ws:List V} {os:List O} {ds:List D} {B:List Addr},OwnL K F H (ws.map some) (os.map some) B→frzL os=some ds→RepL K F ws ds
 |[],[],_,_,_,e=>by cases e;exact .nil
 |w::ws,o::os,ds,B,h,e=>by
  obtain⟨B1,B2,h1,h2,_⟩:=OwnL.one h
  cases o with
  |frz d=>
   unfold frzL at e
   cases q:frzL os with
   |none=>rw[q] at e;cases e
   |some ds'=>
    rw[q] at e
    cases e
    cases h1 with
    |frz r _=>exact .cons r (b1h h2 q)
  |_=>cases e
 |[],_::_,_,_,h,_=>by have:=h.length;simp at this
 |_::_,[],_,_,h,_=>by have:=h.length;simp at this
theorem b1i:∀{ws:List V} {ds:List D},RepL K F ws ds→OwnL K F H (ws.map some) ((ds.map .frz).map some) []
 |[],[],_=>.nil
 |w::ws,d::ds,h=>.frz h.inv.1 (b1i h.inv.2)
 |[],_::_,h=>by have:=h.length;simp at this
 |_::_,[],h=>by have:=h.length;simp at this
theorem b4v:∀ns:List Int,RepL K F (ns.map V.int) (ns.map D.int)
 |[]=>.nil
 |n::ns=>.flat rfl (b4v ns)
theorem a9f(le:Same F H)(h:OwnL K F H [some x] [some o] B)(e:listD o=some ds):∃a ws,x=.ref a∧SqL K H a ws∧RepL K F ws ds:=by
 cases h with
 |@frz _ d _ _ _ r _=>
  cases r with
  |lst q i _=>cases e;exact⟨_,_,rfl,.inl (le.rd q),i⟩
  |exc _ _=>cases e
  |scr q _=>cases e;exact⟨_,_,rfl,le.seq q,b4v _⟩
  |flat q _=>cases d <;> first|(cases q;done)|cases e
  |tup _ _ _=>cases e
  |dct _ _ _ _ _=>cases e
 |lst q i _=>exact⟨_,_,rfl,SqL.of q,b1h i e⟩
 |tup _ _ _=>cases e
 |dct _ _ _ _ _=>cases e
theorem d2t(le:Same F H)(h:OwnL K F H [some x] [some o] B)(e:tupD o=some ds):∃a ws,x=.ref a∧SqT K H a ws∧RepL K F ws ds:=by
 cases h with
 |@frz _ d _ _ _ r _=>
  cases r with
  |tup q i _=>cases e;exact⟨_,_,rfl,le.seqT q,i⟩
  |scr q _=>cases e
  |exc _ _=>cases e
  |flat q _=>cases d <;> first|(cases q;done)|cases e
  |lst _ _ _=>cases e
  |dct _ _ _ _ _=>cases e
 |tup q i _=>exact⟨_,_,rfl,SqT.of q,b1h i e⟩
 |lst _ _ _=>cases e
 |dct _ _ _ _ _=>cases e
theorem a0v(h:OwnL K F H [some x] [some (.frz d)] B)(e:a4a d=some v):x=v:=by
 cases h with
 |frz r _=>
  cases r with
  |flat q _=>rw[e] at q;exact(Option.some.inj q).symm
  |lst _ _ _=>cases e
  |tup _ _ _=>cases e
  |dct _ _ _ _ _=>cases e
  |scr _ _=>cases e
  |exc _ _=>cases e
theorem a4f(le:Same F H)(h:OwnL K F H [some x] [some o] B):RepL K H [x] [o.d]:=h.rep le (fun _ _ _ e=>e) [x] [o] rfl rfl
theorem Res.lst{Q:VK}(h:Res K F H (.lst (ds.map .frz)) Q)(r:RepL K F ws ds){l:Addr}(hn:H l=none):Q (.ref l) (upd H l (.lst ws)):=
 h (.ref l) _ ([l]++[]++[]) (a6s hn) (.lst a1g (b1i r) .nil) (by simp) (fun a m=>by simp at m;rw[m];exact hn)
theorem Res.tup{Q:VK}(h:Res K F H (.tup (ds.map .frz)) Q)(r:RepL K F ws ds){l:Addr}(hn:H l=none):Q (.ref l) (upd H l (.tup ws)):=
 h (.ref l) _ ([l]++[]++[]) (a6s hn) (.tup a1g (b1i r) .nil) (by simp) (fun a m=>by simp at m;rw[m];exact hn)
theorem Sees.one{o:O}{vs:List V}(h:Sees K F H vs [o]):∃x B,vs=[x]∧OwnL K F H [some x] [some o] B:=by
 cases h with
 |cons a t=>cases t;obtain⟨B,a⟩:=a;exact⟨_,B,rfl,a⟩
theorem Sees.two{o o':O}{vs:List V}(h:Sees K F H vs [o,o']):∃x y B C,vs=[x,y]∧OwnL K F H [some x] [some o] B∧OwnL K F H [some y] [some o'] C:=by
 cases h with
 |cons a t=>cases t with
  |cons b t=>cases t;obtain⟨B,a⟩:=a;obtain⟨C,b⟩:=b;exact⟨_,_,B,C,rfl,a,b⟩
end
section
variable {X:Cx}
noncomputable def rCatL (K:PySem.W.Frag):R2:=fun x y H Q=>∃l b xs zs,x=.ref l∧y=.ref b∧SqL K H l xs∧SqL K H b zs∧xs.length+zs.length≤sizeLine∧∀p,H p=none→Q (.ref p) (upd H p (.lst (xs++zs)))
theorem d2u:OpR X (binaryOp .Add) (rCatL X.K):=by
 intro pins s σ H x y v u Q I rx ry h
 obtain⟨l,b,xs,zs,rfl,rfl,hH,hB,hz,q⟩:=h
 cases rx
 cases ry
 obtain⟨its,r,pl,_⟩:=I.list hH
 obtain⟨its2,r2,pl2,_⟩:=I.list hB
 have hl:=r.length
 have hl2:=r2.length
 obtain⟨⟨cls,dd,data,sl⟩,ho,hc,n,hd⟩:=id pl.isList
 obtain⟨⟨cls2,dd2,data2,sl2⟩,ho2,hc2,n2,hd2⟩:=id pl2.isList
 simp only at hc hd hc2 hd2
 subst hc hd hc2 hd2
 have ea:its.toArray++its2.toArray=(its++its2).toArray:=by simp
 refine concat_meets ⟨_,ho,rfl⟩ ⟨_,ho2,rfl⟩ noFill_list_add seq_list_add PySem.F.slot_list_add PySem.F.entry_list_add (PySem.F.args_list_add_2 _ _) (list_addW l b its.toArray its2.toArray n n2 dd dd2 sl sl2 (by simp only[List.size_toArray];omega)) ⟨ho,ho2,?_⟩
 rw[ea]
 exact⟨.ref _,_,I.lnew (t':=s.toks) (r.append r2) (by rw[List.length_append];omega),rfl,q _ I.fresh⟩
theorem c8v(K:PySem.W.Frag)(hK:X.K=K:=by rfl):OpR X (binaryOp .Add) (rCatL K):=hK ▸ d2u
noncomputable def addI:O→O→Option (Option O)
 |.frz (.int i),.frz (.int j)=>some (some (.frz (.int (i+j))))
 |.frz (.str x),.frz (.str y)=>some (if x.length+y.length≤1000000 then some (.frz (.str (x++y))) else none)
 |_,_=>none
noncomputable def oAdd:List O→Option O
 |[a,b]=>match addI a b with
  |some r=>r
  |none=>(listD a).bind fun xs=>(listD b).bind fun ys=>if xs.length+ys.length≤1000000 then some (.lst ((xs++ys).map .frz)) else none
 |_=>none
noncomputable def rAddA (K:PySem.W.Frag):R2:=fun x y H Q=>rI0 (fun i j=>.int (i+j)) x y H Q∨(∃i j,x=.str i∧y=.str j∧i.length+j.length≤sizeLine∧Q (.str (i++j)) H)∨rCatL K x y H Q
theorem a2k(K:PySem.W.Frag)(hK:X.K=K:=by rfl):OpR X (binaryOp .Add) (rAddA K):=op_add.or (op_add_str.or (c8v K hK))
theorem ml{n:Nat}(h:n≤1000000):n≤sizeLine:=Nat.le_trans h (by decide)
theorem a3o{K:PySem.W.Frag}:OpOk K (r2L (rAddA K)) oAdd:=by
 intro F H vs os o Q le see e res
 unfold oAdd at e
 split at e
 ·rename_i a b
  obtain⟨x,y,B,C,rfl,h1,h2⟩:=see.two
  split at e
  ·rename_i r q
   unfold addI at q
   split at q
   ·cases q
    cases e
    cases a0v h1 rfl
    cases a0v h2 rfl
    exact⟨_,_,rfl,.inl ⟨_,_,rfl,rfl,res.flat rfl⟩⟩
   ·cases q
    split at e
    ·cases e
     cases a0v h1 rfl
     cases a0v h2 rfl
     exact⟨_,_,rfl,.inr (.inl ⟨_,_,rfl,rfl,ml (by assumption),res.flat rfl⟩)⟩
    ·cases e
   ·cases q
  ·cases q1:listD a with
   |none=>rw[q1] at e;cases e
   |some xs=>
    rw[q1] at e
    cases q2:listD b with
    |none=>rw[q2] at e;cases e
    |some ys=>
     rw[q2] at e
     dsimp only[Option.bind] at e
     split at e
     ·cases e
      obtain⟨a1,ws1,rfl,s1,r1⟩:=a9f le h1 q1
      obtain⟨a2,ws2,rfl,s2,r2⟩:=a9f le h2 q2
      refine⟨_,_,rfl,.inr (.inr ⟨a1,a2,ws1,ws2,rfl,rfl,s1,s2,ml (by rw[r1.length,r2.length];assumption),fun p hp=>res.lst (r1.append r2) hp⟩)⟩
     ·cases e
 ·cases e
noncomputable def oInt (C:Int→Int→Bool) (f:Int→Int→D):List O→Option O
 |[.frz (.int i),.frz (.int j)]=>if C i j=true then some (.frz (f i j)) else none
 |_=>none
theorem b6x{K:PySem.W.Frag}{r:R2}{C:Int→Int→Bool}{f:Int→Int→D}{g:Int→Int→V}(hf:∀i j,a4a (f i j)=some (g i j))(hr:∀i j H Q,C i j=true→Q (g i j) H→r (.int i) (.int j) H Q):OpOk K (r2L r) (oInt C f):=by
 intro F H vs os o Q le see e res
 unfold oInt at e
 split at e
 ·split at e
  ·cases e
   obtain⟨x,y,B,C,rfl,h1,h2⟩:=see.two
   cases a0v h1 rfl
   cases a0v h2 rfl
   exact⟨_,_,rfl,hr _ _ _ _ (by assumption) (res.flat (hf _ _))⟩
  ·cases e
 ·cases e
noncomputable abbrev oSub:=oInt (fun _ _=>true) fun i j=>.int (i - j)
noncomputable abbrev oFdiv:=oInt (fun _ j=>decide (0 < j∧j < 1073741824)) fun i j=>.int (i / j)
noncomputable abbrev oMod:=oInt (fun _ j=>decide (0 < j)) fun i j=>.int (i % j)
noncomputable abbrev oLt:=oInt (fun _ _=>true) fun i j=>.bl (decide (i < j))
noncomputable abbrev oGt:=oInt (fun _ _=>true) fun i j=>.bl (decide (j < i))
theorem c4g{K:PySem.W.Frag}:OpOk K (r2L (rI0 fun i j=>.int (i - j))) oSub:=b6x (fun _ _=>rfl) fun _ _ _ _ _ q=>⟨_,_,rfl,rfl,q⟩
theorem b8w{K:PySem.W.Frag}:OpOk K (r2L (rI CDiv fun i j=>.int (i / j))) oFdiv:=b6x (fun _ _=>rfl) fun i j _ _ c q=>⟨_,_,rfl,rfl,show CDiv i j from of_decide_eq_true (p:=0 < j∧j < 1073741824) c,q⟩
theorem a8o{K:PySem.W.Frag}:OpOk K (r2L (rI (fun _ j=>0 < j) fun i j=>.int (i % j))) oMod:=b6x (fun _ _=>rfl) fun _ _ _ _ c q=>⟨_,_,rfl,rfl,of_decide_eq_true c,q⟩
theorem d2v{K:PySem.W.Frag}:OpOk K (r2L (rI0 fun i j=>.bl (decide (i < j)))) oLt:=b6x (fun _ _=>rfl) fun _ _ _ _ _ q=>⟨_,_,rfl,rfl,q⟩
theorem d5t{K:PySem.W.Frag}:OpOk K (r2L (rI0 fun i j=>.bl (decide (j < i)))) oGt:=b6x (fun _ _=>rfl) fun _ _ _ _ _ q=>⟨_,_,rfl,rfl,q⟩
end
end L2
namespace L2
open PySem PySem.Spec PyProof.Rows
noncomputable instance (z:Str) (n:Int):Decidable (MulOk z n):=by unfold MulOk;infer_instance
section
variable {X:Cx}
noncomputable def mulI (j:Int):O→Option O
 |.frz (.int i)=>if(-(2 ^ 64) < i∧i < 2 ^ 64)∨(-(2 ^ 64) < j∧j < 2 ^ 64) then some (.frz (.int (i * j))) else none
 |.frz (.str z)=>if MulOk z j then some (.frz (.str (Txt.mul z j))) else none
 |_=>none
noncomputable def oMulA:List O→Option O
 |[a,.frz (.int j)]=>mulI j a
 |_=>none
noncomputable def rMulA:R2:=fun x y H Q=>rI CMul (fun i j=>.int (i * j)) x y H Q∨∃z n,x=.str z∧y=.int n∧MulOk z n∧Q (.str (Txt.mul z n)) H
theorem a8u:OpR X (binaryOp .Mult) rMulA:=op_mul.or c2f
theorem b2b{K:PySem.W.Frag}:OpOk K (r2L rMulA) oMulA:=by
 intro F H vs os o Q le see e res
 unfold oMulA at e
 split at e
 ·obtain⟨x,y,B,C,rfl,h1,h2⟩:=see.two
  unfold mulI at e
  split at e
  ·split at e
   ·cases e
    cases a0v h1 rfl
    cases a0v h2 rfl
    exact⟨_,_,rfl,.inl ⟨_,_,rfl,rfl,by assumption,res.flat rfl⟩⟩
   ·cases e
  ·split at e
   ·cases e
    cases a0v h1 rfl
    cases a0v h2 rfl
    exact⟨_,_,rfl,.inr ⟨_,_,rfl,rfl,by assumption,res.flat rfl⟩⟩
   ·cases e
  ·cases e
 ·cases e
noncomputable def oNeg:List O→Option O
 |[.frz (.int i)]=>some (.frz (.int (-i)))
 |_=>none
theorem d0x{K:PySem.W.Frag}:OpOk K (r1L (rU fun i=>.int (-i))) oNeg:=by
 intro F H vs os o Q le see e res
 unfold oNeg at e
 split at e
 ·cases e
  obtain⟨x,B,rfl,h1⟩:=see.one
  cases a0v h1 rfl
  exact⟨_,rfl,_,rfl,res.flat rfl⟩
 ·cases e
mutual
noncomputable def eqD:D→D→Bool
 |.lst xs,.lst ys=>eqDs xs ys
 |.tup xs,.tup ys=>eqDs xs ys
 |.non,.non=>true
 |.bl a,.bl b=>a == b
 |.bl a,.int b=>(if a then 1 else 0) == b
 |.int a,.bl b=>a == (if b then 1 else 0)
 |.int a,.int b=>a == b
 |.str a,.str b=>a == b
 |_,_=>false
noncomputable def eqDs:List D→List D→Bool
 |[],[]=>true
 |x::xs,y::ys=>eqD x y && eqDs xs ys
 |_,_=>false
end
noncomputable def okD:Nat→D→Bool
 |n+1,.lst xs=>xs.all (okD n)
 |n+1,.tup xs=>xs.all (okD n)
 |_,.non=>true
 |_,.bl _=>true
 |_,.int _=>true
 |_,.str _=>true
 |_,_=>false
theorem a9g:∀{xs ys:List D},xs.length≠ys.length→eqDs xs ys=false
 |[],[],h=>absurd rfl h
 |[],_::_,_=>by unfold eqDs;rfl
 |_::_,[],_=>by unfold eqDs;rfl
 |x::xs,y::ys,h=>by unfold eqDs;rw[a9g (by simpa using h),Bool.and_false]
theorem a9h:∀{xs ys:List D} (n:Nat),xs.length=n→ys.length=n→eqDs xs ys=(List.range n).all fun j=>eqD (xs.getD j .non) (ys.getD j .non)
 |[],[],0,_,_=>by unfold eqDs;rfl
 |x::xs,y::ys,n+1,h1,h2=>by
  unfold eqDs
  rw[a9h n (by simpa using h1) (by simpa using h2),List.range_succ_eq_map,List.all_cons,List.all_map]
  rfl
 |[],_,_+1,h,_=>by simp at h
 |_::_,[],_+1,_,h=>by simp at h
 |_::_,_,0,h,_=>by simp at h
 |[],_::_,0,_,h=>by simp at h
variable {pins:List (Addr×Obj)} {σ:St} {H:Hp} {s:Shared}
theorem b0x{K:PySem.W.Frag}{F:Hp}{ws:List V}{es:List D}(r:RepL K F ws es){its:List Value}(rv:Vals ws its){j:Nat}(h:j < its.toArray.size):∃x,RelV x its.toArray[j]∧RepL K F [x] [es.getD j .non]∧j < es.length:=by
 obtain⟨x,hx,rx⟩:=rv.at h
 have hl:=r.length
 have hj:j < es.length:=by
  have:=(List.getElem?_eq_some_iff.mp hx).1
  omega
 obtain⟨y,hy,ry⟩:=r.get (i:=j) (d:=es[j]) (by simp[hj])
 rw[hx] at hy
 cases hy
 refine⟨x,rx,?_,hj⟩
 rw[show es.getD j .non=es[j] by simp[hj]]
 exact ry
theorem a5q{p:D→Bool}{es:List D}(h:es.all p=true){j:Nat}(hj:j < es.length):p (es.getD j .non)=true:=by
 rw[show es.getD j .non=es[j] by simp[hj]]
 exact List.all_eq_true.mp h _ (List.getElem_mem hj)
inductive Shp (K:PySem.W.Frag) (H:Hp) (s:Shared):Value→D→Prop
 |none:Shp K H s .none .non
 |bool (b:Bool):Shp K H s (.bool b) (.bl b)
 |int (i:Int) (t:Tok):Shp K H s (.int i t) (.int i)
 |str (x:Str) (t:Tok):Shp K H s (.str x t) (.str x)
 |list {a:Addr} {its:List Value} {ws:List V} {es:List D}:s.heap.IsList a its.toArray→Vals ws its→RepL K H ws es→Shp K H s (.ref a) (.lst es)
 |tuple {a:Addr} {its:List Value} {ws:List V} {es:List D}:s.heap.IsTuple a its.toArray→Vals ws its→RepL K H ws es→Shp K H s (.ref a) (.tup es)
theorem c0i(I:Inv X pins σ H s){n:Nat}{x:V}{u:Value}{d:D}(r:RepL X.K H [x] [d])(ru:RelV x u)(ok:okD n d=true):Shp X.K H s u d:=by
 cases r with
 |lst q i _=>
  cases ru
  obtain⟨its,rv,pl,_⟩:=I.list (.inl q)
  exact .list pl.isList rv i
 |tup q i _=>
  cases ru
  obtain⟨its,rv,pl,_⟩:=I.tuple q
  exact .tuple pl rv i
 |dct _ _ _ _ _=>cases n <;> cases ok
 |scr _ _=>cases n <;> cases ok
 |exc _ _=>cases n <;> cases ok
 |flat q _=>
  cases d with
  |non=>cases q;cases ru;exact .none
  |bl b=>cases q;cases ru;exact .bool b
  |int i=>cases q;obtain⟨t,rfl⟩:=ru;exact .int i t
  |str z=>cases q;obtain⟨t,rfl⟩:=ru;exact .str z t
  |ty _=>cases n <;> cases ok
  |lst _=>cases q
  |tup _=>cases q
  |dct _=>cases q
  |scr _=>cases q
  |exc _ _=>cases q
theorem b0f{n:Nat}{es:List D}(h:okD n (.lst es)=true):∃m,n=m+1∧es.all (okD m)=true:=by
 cases n with
 |zero=>cases h
 |succ n=>exact⟨n,rfl,h⟩
theorem b0g{n:Nat}{es:List D}(h:okD n (.tup es)=true):∃m,n=m+1∧es.all (okD m)=true:=by
 cases n with
 |zero=>cases h
 |succ n=>exact⟨n,rfl,h⟩
theorem b6y{es:List D}(h:∀d∈es,eqD d d=true):eqDs es es=true:=by
 induction es with
 |nil=>unfold eqDs;rfl
 |cons d es ih=>unfold eqDs;rw[h d (by simp),ih fun d m=>h d (by simp[m])];rfl
theorem b4w:∀(n:Nat) {d:D},okD n d=true→eqD d d=true:=by
 intro n
 induction n with
 |zero=>intro d h;cases d <;> first|(cases h;done)|simp[eqD]
 |succ n ih=>
  intro d h
  cases d with
  |lst es=>simp only[eqD];exact b6y fun d m=>ih (List.all_eq_true.mp h d m)
  |tup es=>simp only[eqD];exact b6y fun d m=>ih (List.all_eq_true.mp h d m)
  |dct _=>cases h
  |scr _=>cases h
  |exc _ _=>cases h
  |ty _=>cases h
  |_=>simp[eqD]
theorem b6z{xs ys:List D}(hl:xs.length=ys.length)(h:∀j,j < xs.length→xs.getD j .non=ys.getD j .non):xs=ys:=by
 apply List.ext_getElem hl
 intro j h1 h2
 have:=h j h1
 simpa[h1,h2] using this
noncomputable def unfl:V→D
 |.bl b=>.bl b
 |.int i=>.int i
 |.str x=>.str x
 |.ty n=>.ty n
 |_=>.non
theorem b7a{d:D}{v:V}(h:a4a d=some v):d=unfl v:=by cases d <;> cases h <;> rfl
theorem a6w{d:D}{a:Addr}(h:a4a d=some (.ref a)):False:=by cases d <;> cases h
theorem b4x(I:Inv X pins σ H s):∀(n m:Nat) {x:V} {d e:D},RepL X.K H [x] [d]→RepL X.K H [x] [e]→okD n d=true→okD m e=true→d=e:=by
 intro n
 induction n using Nat.strongRecOn with
 |ind n ih=>
 intro m x d e rd re od oe
 have go:∀{ws:List V} {es es2:List D} {n' m':Nat},n' < n→RepL X.K H ws es→RepL X.K H ws es2→es.all (okD n')=true→es2.all (okD m')=true→es=es2:=by
  intro ws es es2 n' m' hn r1 r2 o1 o2
  have l1:=r1.length
  have l2:=r2.length
  refine b6z (by omega) fun j hj=>?_
  have hj2:j < es2.length:=by omega
  obtain⟨v,g1,g2⟩:=r1.get (i:=j) (d:=es[j]) (by simp[hj])
  obtain⟨v',p1,p2⟩:=r2.get (i:=j) (d:=es2[j]) (by simp[hj2])
  rw[g1] at p1
  cases p1
  rw[show es.getD j .non=es[j] by simp[hj],show es2.getD j .non=es2[j] by simp[hj2]]
  exact ih n' hn m' g2 p2 (List.all_eq_true.mp o1 _ (List.getElem_mem hj)) (List.all_eq_true.mp o2 _ (List.getElem_mem hj2))
 cases rd with
 |flat q _=>
  cases re with
  |flat q' _=>
   rw[b7a q,b7a q']
  |lst _ _ _=>exact(a6w q).elim
  |tup _ _ _=>exact(a6w q).elim
  |dct _ _ _ _ _=>exact(a6w q).elim
  |scr _ _=>exact(a6w q).elim
  |exc _ _=>exact(a6w q).elim
 |lst q i _=>
  obtain⟨n',rfl,od'⟩:=b0f od
  cases re with
  |flat q' _=>exact(a6w q').elim
  |lst q' i' _=>
   obtain⟨m',rfl,oe'⟩:=b0f oe
   cases I.list_inj (.inl q) (.inl q')
   rw[go (Nat.lt_succ_self _) i i' od' oe']
  |tup q' i' _=>
   obtain⟨_,_,p1,_⟩:=I.list (.inl q)
   obtain⟨_,_,p2,_⟩:=I.tuple q'
   exact absurd rfl (SeqAt.ne_of_list_tuple p1.isList p2)
  |dct _ _ _ _ _=>cases m <;> cases oe
  |scr _ _=>cases m <;> cases oe
  |exc _ _=>cases m <;> cases oe
 |tup q i _=>
  obtain⟨n',rfl,od'⟩:=b0g od
  cases re with
  |flat q' _=>exact(a6w q').elim
  |tup q' i' _=>
   obtain⟨m',rfl,oe'⟩:=b0g oe
   cases I.tuple_inj q q'
   rw[go (Nat.lt_succ_self _) i i' od' oe']
  |lst q' i' _=>
   obtain⟨_,_,p1,_⟩:=I.list (.inl q')
   obtain⟨_,_,p2,_⟩:=I.tuple q
   exact absurd rfl (SeqAt.ne_of_list_tuple p1.isList p2)
  |dct _ _ _ _ _=>cases m <;> cases oe
  |scr _ _=>cases m <;> cases oe
  |exc _ _=>cases m <;> cases oe
 |dct _ _ _ _ _=>cases n <;> cases od
 |scr _ _=>cases n <;> cases od
 |exc _ _=>cases n <;> cases od
theorem b7b(I:Inv X pins σ H s):∀(n m:Nat) {A:Around} {x y:V} {u v:Value} {d e:D},RepL X.K H [x] [d]→RepL X.K H [y] [e]→okD n d=true→okD m e=true→RelV x u→RelV y v→A.units+n < cLine→
  SeqAt.EqAt A s u v (eqD d e)∧SeqAt.RcAt A s u v (eqD d e):=by
 intro n
 induction n using Nat.strongRecOn with
 |ind n ih=>
 intro m A x y u v d e rd re od oe ru rv hu
 have hu0:A.units < cLine:=by omega
 have s1:=c0i I rd ru od
 have s2:=c0i I re rv oe
 cases s1 with
 |none=>
  cases s2 with
  |none=>
   exact⟨SeqAt.EqAt.same _,SeqAt.RcAt.none_none⟩
  |bool a2=>
   simp only[eqD];exact⟨SeqAt.EqAt.none_bool a2,SeqAt.RcAt.none_bool a2⟩
  |int a2 t2=>
   simp only[eqD];exact⟨SeqAt.EqAt.none_int a2 t2,SeqAt.RcAt.none_int a2 t2⟩
  |str a2 t2=>
   simp only[eqD];exact⟨SeqAt.EqAt.none_str a2 t2,SeqAt.RcAt.none_str a2 t2⟩
  |list l2 v2 r2=>
   simp only[eqD];exact⟨SeqAt.EqAt.none_list l2 hu0,SeqAt.RcAt.none_list l2 hu0⟩
  |tuple l2 v2 r2=>
   simp only[eqD];exact⟨SeqAt.EqAt.none_tuple l2 hu0,SeqAt.RcAt.none_tuple l2 hu0⟩
 |bool a1=>
  cases s2 with
  |none=>
   simp only[eqD];exact⟨SeqAt.EqAt.bool_none a1,SeqAt.RcAt.bool_none a1⟩
  |bool a2=>
   simp only[eqD];exact⟨SeqAt.EqAt.bool_bool a1 a2,SeqAt.RcAt.bool_bool a1 a2⟩
  |int a2 t2=>
   simp only[eqD];exact⟨SeqAt.EqAt.bool_int a1 a2 t2,SeqAt.RcAt.bool_int a1 a2 t2⟩
  |str a2 t2=>
   simp only[eqD];exact⟨SeqAt.EqAt.bool_str a1 a2 t2,SeqAt.RcAt.bool_str a1 a2 t2⟩
  |list l2 v2 r2=>
   simp only[eqD];exact⟨SeqAt.EqAt.bool_list a1 l2 hu0,SeqAt.RcAt.bool_list a1 l2 hu0⟩
  |tuple l2 v2 r2=>
   simp only[eqD];exact⟨SeqAt.EqAt.bool_tuple a1 l2 hu0,SeqAt.RcAt.bool_tuple a1 l2 hu0⟩
 |int a1 t1=>
  cases s2 with
  |none=>
   simp only[eqD];exact⟨SeqAt.EqAt.int_none a1 t1,SeqAt.RcAt.int_none a1 t1⟩
  |bool a2=>
   simp only[eqD];exact⟨SeqAt.EqAt.int_bool a1 t1 a2,SeqAt.RcAt.int_bool a1 t1 a2⟩
  |int a2 t2=>
   simp only[eqD];exact⟨SeqAt.EqAt.int_int a1 t1 a2 t2,SeqAt.RcAt.int_int a1 t1 a2 t2⟩
  |str a2 t2=>
   simp only[eqD];exact⟨SeqAt.EqAt.int_str a1 t1 a2 t2,SeqAt.RcAt.int_str a1 t1 a2 t2⟩
  |list l2 v2 r2=>
   simp only[eqD];exact⟨SeqAt.EqAt.int_list a1 t1 l2 hu0,SeqAt.RcAt.int_list a1 t1 l2 hu0⟩
  |tuple l2 v2 r2=>
   simp only[eqD];exact⟨SeqAt.EqAt.int_tuple a1 t1 l2 hu0,SeqAt.RcAt.int_tuple a1 t1 l2 hu0⟩
 |str a1 t1=>
  cases s2 with
  |none=>
   simp only[eqD];exact⟨SeqAt.EqAt.str_none a1 t1,SeqAt.RcAt.str_none a1 t1⟩
  |bool a2=>
   simp only[eqD];exact⟨SeqAt.EqAt.str_bool a1 t1 a2,SeqAt.RcAt.str_bool a1 t1 a2⟩
  |int a2 t2=>
   simp only[eqD];exact⟨SeqAt.EqAt.str_int a1 t1 a2 t2,SeqAt.RcAt.str_int a1 t1 a2 t2⟩
  |str a2 t2=>
   simp only[eqD];exact⟨SeqAt.EqAt.str_str a1 t1 a2 t2,SeqAt.RcAt.str_str a1 t1 a2 t2⟩
  |list l2 v2 r2=>
   simp only[eqD];exact⟨SeqAt.EqAt.str_list a1 t1 l2 hu0,SeqAt.RcAt.str_list a1 t1 l2 hu0⟩
  |tuple l2 v2 r2=>
   simp only[eqD];exact⟨SeqAt.EqAt.str_tuple a1 t1 l2 hu0,SeqAt.RcAt.str_tuple a1 t1 l2 hu0⟩
 |list l1 v1 r1=>
  cases s2 with
  |none=>
   simp only[eqD];exact⟨SeqAt.EqAt.list_none l1 hu0,SeqAt.RcAt.list_none l1 hu0⟩
  |bool a2=>
   simp only[eqD];exact⟨SeqAt.EqAt.list_bool a2 l1 hu0,SeqAt.RcAt.list_bool a2 l1 hu0⟩
  |int a2 t2=>
   simp only[eqD];exact⟨SeqAt.EqAt.list_int a2 t2 l1 hu0,SeqAt.RcAt.list_int a2 t2 l1 hu0⟩
  |str a2 t2=>
   simp only[eqD];exact⟨SeqAt.EqAt.list_str a2 t2 l1 hu0,SeqAt.RcAt.list_str a2 t2 l1 hu0⟩
  |list l2 v2 r2=>
   rename_i a its ws es b its2 ws2 es2
   obtain⟨n',rfl,od'⟩:=b0f od
   obtain⟨m',rfl,oe'⟩:=b0f oe
   have la:=v1.length
   have lb:=v2.length
   have la':=r1.length
   have lb':=r2.length
   have rc:SeqAt.RcAt A s (.ref a) (.ref b) (eqD (.lst es) (.lst es2)):=by
    simp only[eqD]
    by_cases hl:es.length=es2.length
    ·rw[a9h its.toArray.size (by simp only[List.size_toArray];omega) (by simp only[List.size_toArray];omega)]
     refine SeqAt.RcAt.lists (A:=A) l1 l2 (by simp only[List.size_toArray];omega) hu0 fun j h1 h2=>?_
     obtain⟨x1,q1,q2,q3⟩:=b0x r1 v1 h1
     obtain⟨y1,p1,p2,p3⟩:=b0x r2 v2 h2
     exact(ih n' (Nat.lt_succ_self _) m' q2 p2 (a5q od' q3) (a5q oe' p3) q1 p1 (by show A.units+1+n' < cLine;omega)).1
    ·rw[a9g hl]
     exact SeqAt.RcAt.lists_lengths (A:=A) l1 l2 (by simp only[List.size_toArray,bne_iff_ne,ne_eq];omega) hu0
   refine⟨?_,rc⟩
   by_cases hab:a=b
   ·subst hab
    have exy:x=y:=RelV.inj ru rv
    subst exy
    have e2:=b4x I _ _ rd re od oe
    cases e2
    rw[b4w _ od]
    exact SeqAt.EqAt.same _
   ·exact SeqAt.EqAt.of_refs hab rc
  |tuple l2 v2 r2=>
   simp only[eqD];exact⟨SeqAt.EqAt.list_tuple l1 l2 hu0,SeqAt.RcAt.list_tuple l1 l2 hu0⟩
 |tuple l1 v1 r1=>
  cases s2 with
  |none=>
   simp only[eqD];exact⟨SeqAt.EqAt.tuple_none l1 hu0,SeqAt.RcAt.tuple_none l1 hu0⟩
  |bool a2=>
   simp only[eqD];exact⟨SeqAt.EqAt.tuple_bool a2 l1 hu0,SeqAt.RcAt.tuple_bool a2 l1 hu0⟩
  |int a2 t2=>
   simp only[eqD];exact⟨SeqAt.EqAt.tuple_int a2 t2 l1 hu0,SeqAt.RcAt.tuple_int a2 t2 l1 hu0⟩
  |str a2 t2=>
   simp only[eqD];exact⟨SeqAt.EqAt.tuple_str a2 t2 l1 hu0,SeqAt.RcAt.tuple_str a2 t2 l1 hu0⟩
  |list l2 v2 r2=>
   simp only[eqD];exact⟨SeqAt.EqAt.tuple_list l1 l2 hu0,SeqAt.RcAt.tuple_list l1 l2 hu0⟩
  |tuple l2 v2 r2=>
   rename_i a its ws es b its2 ws2 es2
   obtain⟨n',rfl,od'⟩:=b0g od
   obtain⟨m',rfl,oe'⟩:=b0g oe
   have la:=v1.length
   have lb:=v2.length
   have la':=r1.length
   have lb':=r2.length
   have rc:SeqAt.RcAt A s (.ref a) (.ref b) (eqD (.tup es) (.tup es2)):=by
    have z:=SeqAt.RcAt.tuples (A:=A) (e:=fun j=>eqD (es.getD j .non) (es2.getD j .non)) l1 l2 hu0 fun j h1 h2=>by
     obtain⟨x1,q1,q2,q3⟩:=b0x r1 v1 h1
     obtain⟨y1,p1,p2,p3⟩:=b0x r2 v2 h2
     exact(ih n' (Nat.lt_succ_self _) m' q2 p2 (a5q od' q3) (a5q oe' p3) q1 p1 (by show A.units+1+n' < cLine;omega)).1
    simp only[eqD]
    by_cases hl:es.length=es2.length
    ·rw[a9h its.toArray.size (by simp only[List.size_toArray];omega) (by simp only[List.size_toArray];omega)]
     have e1:its2.toArray.size=its.toArray.size:=by simp only[List.size_toArray];omega
     rw[e1,Nat.min_self,beq_self_eq_true,Bool.and_true] at z
     exact z
    ·rw[a9g hl]
     have e1:(its.toArray.size == its2.toArray.size)=false:=by rw[beq_eq_false_iff_ne];simp only[List.size_toArray];omega
     rw[e1,Bool.and_false] at z
     exact z
   refine⟨?_,rc⟩
   by_cases hab:a=b
   ·subst hab
    have exy:x=y:=RelV.inj ru rv
    subst exy
    have e2:=b4x I _ _ rd re od oe
    cases e2
    rw[b4w _ od]
    exact SeqAt.EqAt.same _
   ·exact SeqAt.EqAt.of_refs hab rc
end
end L2
namespace L2
open PySem PySem.Spec PyProof.Rows
mutual
theorem b8x:∀k j:TK,eqD k.d j.d=decide (k=j)
 |.inl a,.inl b=>by simp only[TK.d,eqD];rw[Bool.eq_iff_iff];simp
 |.inr a,.inr b=>by simp only[TK.d,eqD];rw[Bool.eq_iff_iff];simp
 |.tp l,.tp m=>by simp only[TK.d,eqD];rw[eqD_keys l m,Bool.eq_iff_iff];simp
 |.inl _,.inr _=>by simp[TK.d,eqD]
 |.inl _,.tp _=>by simp[TK.d,eqD]
 |.inr _,.inl _=>by simp[TK.d,eqD]
 |.inr _,.tp _=>by simp[TK.d,eqD]
 |.tp _,.inl _=>by simp[TK.d,eqD]
 |.tp _,.inr _=>by simp[TK.d,eqD]
theorem eqD_keys:∀l m:List TK,eqDs (TK.dl l) (TK.dl m)=decide (l=m)
 |[],[]=>by simp[TK.dl,eqDs]
 |a::l,b::m=>by simp only[TK.dl,eqDs];rw[b8x a b,eqD_keys l m,Bool.eq_iff_iff];simp
 |[],_::_=>by simp[TK.dl,eqDs]
 |_::_,[]=>by simp[TK.dl,eqDs]
end
theorem d0y:∀l:List TK,TK.dl l=l.map TK.d
 |[]=>by simp[TK.dl]
 |a::l=>by simp[TK.dl,d0y l]
theorem b0h:∀(n:Nat) {k:TK},k.ok n=true→okD n k.d=true
 |n,.inl i,_=>by cases n <;> simp[TK.d,okD]
 |n,.inr i,_=>by cases n <;> simp[TK.d,okD]
 |0,.tp l,h=>by simp[TK.ok] at h
 |n+1,.tp l,h=>by
  simp only[TK.d,okD,d0y,List.all_map]
  refine List.all_eq_true.mpr fun a m=>?_
  exact b0h n (List.all_eq_true.mp (by simpa only[TK.ok] using h) a m)
theorem c4h{α:Type}{M:Model}{A:Around}{E:Value→Shared→Prop}{s:Shared}{c:Prop}[Decidable c]{a b:Sem α}{Q:α→Shared→Prop}(h1:wpAny M A a Q E s)(h2:wpAny M A b Q E s):wpAny M A (if c then a else b) Q E s:=by
 split
 ·exact h1
 ·exact h2
theorem b0y(w:World):∀l m:List TK,TK.hashL w (l++m)=TK.hashL w l++TK.hashL w m
 |[],m=>by simp[TK.hashL]
 |a::l,m=>by simp[TK.hashL,b0y w l m]
theorem b2c{α β:Type}{R:α→β→Prop}:∀{l:List α} {m:List β} (i:Nat) {b:β},Paired R l m→m[i]?=some b→∃a,l[i]?=some a∧R a b
 |_,_,_,_,.nil,e=>by simp at e
 |_,_,0,_,.cons r _,e=>by simp at e;subst e;exact⟨_,rfl,r⟩
 |_,_,i+1,_,.cons _ t,e=>by
  obtain⟨a,h1,h2⟩:=b2c i t (by simpa using e)
  exact⟨a,by simpa using h1,h2⟩
theorem b2d{α β:Type}{R:α→β→Prop}:∀{l:List α} {m:List β} (i:Nat) {a:α},Paired R l m→l[i]?=some a→∃b,m[i]?=some b∧R a b
 |_,_,_,_,.nil,e=>by simp at e
 |_,_,0,_,.cons r _,e=>by simp at e;subst e;exact⟨_,rfl,r⟩
 |_,_,i+1,_,.cons _ t,e=>by
  obtain⟨a,h1,h2⟩:=b2d i t (by simpa using e)
  exact⟨a,by simpa using h1,h2⟩
section
variable {X:Cx} {pins:List (Addr×Obj)} {σ:St} {H:Hp}
theorem c4i{A:Around}{E:Value→Shared→Prop}{s:Shared}{y:V}{u:Value}{i:Int}{Q:Int→Shared→Prop}(r:RepL X.K H [y] [TK.d (.inl i)])(ru:RelV y u)(h:∀t,Q (TK.hash X.w (.inl i)) { s with toks:=t}):wpAny (model X.prog X.w) A (pyHash u) Q E s:=by
 simp only[TK.d] at r
 cases r with
 |flat q _=>cases q;obtain⟨t,rfl⟩:=ru;exact wpAny_pyHash_int (by simpa only[TK.hash] using h _)
theorem c4j{A:Around}{E:Value→Shared→Prop}{s:Shared}{y:V}{u:Value}{i:Str}{Q:Int→Shared→Prop}(r:RepL X.K H [y] [TK.d (.inr i)])(ru:RelV y u)(h:∀t,Q (TK.hash X.w (.inr i)) { s with toks:=t}):wpAny (model X.prog X.w) A (pyHash u) Q E s:=by
 simp only[TK.d] at r
 cases r with
 |flat q _=>cases q;obtain⟨t,rfl⟩:=ru;exact wpAny_pyHash_str (by simpa only[TK.hash] using h _)
theorem c0j:∀(n:Nat) {A:Around} {E:Value→Shared→Prop} {s:Shared} {y:V} {u:Value} {k:TK} {Q:Int→Shared→Prop},Inv X pins σ H s→RepL X.K H [y] [k.d]→k.ok n=true→RelV y u→A.units+n < cLine→
  (∀t,Q (k.hash X.w) { s with toks:=t})→wpAny (model X.prog X.w) A (pyHash u) Q E s:=by
 intro n
 induction n with
 |zero=>
  intro A E s y u k Q I r ok ru hu h
  cases k with
  |tp l=>simp[TK.ok] at ok
  |inl i=>exact c4i r ru h
  |inr x=>exact c4j r ru h
 |succ n ih=>
  intro A E s y u k Q I r ok ru hu h
  cases k with
  |inl i=>exact c4i r ru h
  |inr x=>exact c4j r ru h
  |tp l=>
   simp only[TK.d] at r
   cases r with
   |flat q _=>cases q
   |@tup a ws _ _ _ q i _=>
    cases ru
    obtain⟨its,rv,pl,_⟩:=I.tuple q
    have hT:s.TypeIs (.ref a) "tuple":=pl.typeIs
    obtain⟨o,g1,g2,nn,g3⟩:=pl
    have ok:l.all (TK.ok n)=true:=by simpa only[TK.ok] using ok
    show wpAny _ _ (pyHashByItsType (.ref a)) Q E s
    unfold pyHashByItsType
    refine wpAny_bind (wpAny_cRoomFor_or (.inr (by omega)) (wpAny_bind (wpAny_specialOf hT F.slot_tuple_hash.lookup ?_)))
    dsimp only
    rw[if_neg (by rw[beq_builtin_none];exact Bool.false_ne_true)]
    refine wpAny_bind (wpAny_specialOf hT F.slot_tuple_hash.lookup (wpAny_bind ?_))
    refine wpAny_callSpecialIfBoundUnlessNone?_slot hT F.slot_tuple_hash (wpAny_call_entry F.slot_tuple_hash hT F.entry_tuple_hash ?_ (F.args_tuple_hash_1 _))
    show wpAny _ _ (Builtin.Tuple.tupleItemsOf (.ref a) >>= fun z=>_) _ _ s
    refine wpAny_bind (wpAny_tupleItemsOf g1 g3 (wpAny_bind ?_))
    rw[←Array.forIn_toList]
    refine wpAny_forIn_list _ (fun rest (b:Array Int) s'=>∃done left wl t,l=done++left∧RepL X.K H wl (TK.dl left)∧Vals wl rest∧b.toList=TK.hashL X.w done∧s'={ s with toks:=t}) _ ?_ ?_ _ _ ⟨[],l,ws,s.toks,rfl,i,rv,by simp[TK.hashL],rfl⟩
    ·rintro x rest b s' ⟨done,left,wl,t,e,r',v',hb,rfl⟩
     cases v' with
     |@cons w1 _ wl _ rw1 v'=>
      cases left with
      |nil=>have:=r'.length;simp[TK.dl] at this
      |cons k1 left=>
       simp only[TK.dl] at r'
       have ok1:k1.ok n=true:=List.all_eq_true.mp ok k1 (by rw[e];simp)
       have fin:∀t',∃done' left' wl' t'',l=done'++left'∧RepL X.K H wl' (TK.dl left')∧Vals wl' rest∧(b.push (k1.hash X.w)).toList=TK.hashL X.w done'∧({ s with toks:=t'}:Shared)={ s with toks:=t''}:=
        fun t'=>⟨done++[k1],left,wl,t',by simp[e],r'.inv.2,v',by rw[b0y,←hb];simp[TK.hashL],rfl⟩
       exact wpAny_bind (ih (I.tok t) r'.inv.1 ok1 rw1 (by show A.units+1+n < cLine;omega) fun t'=>by
        first
         |exact wpAny_pure (fin t')
         |exact wpAny_bind (wpAny_pure (wpAny_pure (fin t'))))
    ·rintro b s' ⟨done,left,wl,t,e,r',v',hb,rfl⟩
     cases v'
     have hl:left=[]:=by
      cases left with
      |nil=>rfl
      |cons _ _=>have:=r'.length;simp[TK.dl] at this
     subst hl
     rw[List.append_nil] at e
     subst e
     show wpAny _ _ (retInt (Builtin.Tuple.tupleHashOf b.toList)) _ _ _
     rw[hb]
     refine wpAny_ret_mkInt ?_
     have h':∀t,Q (reduceHash (Builtin.Tuple.tupleHashOf (TK.hashL X.w l))) { s with toks:=t}:=fun t=>by simpa only[TK.hash] using h t
     unfold reduceHash at h'
     show wpAny _ _ (if(decide (-(2:Int) ^ 63≤Builtin.Tuple.tupleHashOf (TK.hashL X.w l)) && decide (Builtin.Tuple.tupleHashOf (TK.hashL X.w l) < 2 ^ 63))=true then _ else _) Q E _
     split
     ·rename_i hc
      rw[if_pos hc] at h'
      exact wpAny_pure (h' _)
     ·rename_i hc
      rw[if_neg hc] at h'
      exact wpAny_bind (wpAny_rule (wpAny_pure (h' _)))
theorem b7c:∀(n:Nat) {A:Around} {E:Value→Shared→Prop} {s:Shared} {y:V} {u:Value} {k:TK} {Q:Bool→Shared→Prop},Inv X pins σ H s→RepL X.K H [y] [k.d]→k.ok n=true→RelV y u→Q true s→
  wpAny (model X.prog X.w) A (eqIsQuiet n u) Q E s:=by
 intro n
 induction n with
 |zero=>
  intro A E s y u k Q I r ok ru h
  cases k with
  |tp l=>simp[TK.ok] at ok
  |inl i=>simp only[TK.d] at r;cases r with|flat q _=>cases q;obtain⟨t,rfl⟩:=ru;rw[eqIsQuiet_byValue 0 rfl];exact wpAny_pure h
  |inr i=>simp only[TK.d] at r;cases r with|flat q _=>cases q;obtain⟨t,rfl⟩:=ru;rw[eqIsQuiet_byValue 0 rfl];exact wpAny_pure h
 |succ n ih=>
  intro A E s y u k Q I r ok ru h
  cases k with
  |inl i=>simp only[TK.d] at r;cases r with|flat q _=>cases q;obtain⟨t,rfl⟩:=ru;rw[eqIsQuiet_byValue (n+1) rfl];exact wpAny_pure h
  |inr i=>simp only[TK.d] at r;cases r with|flat q _=>cases q;obtain⟨t,rfl⟩:=ru;rw[eqIsQuiet_byValue (n+1) rfl];exact wpAny_pure h
  |tp l=>
   simp only[TK.d] at r
   cases r with
   |flat q _=>cases q
   |@tup a ws _ _ _ q i _=>
    cases ru
    obtain⟨its,rv,pl,_⟩:=I.tuple q
    have hT:s.TypeIs (.ref a) "tuple":=pl.typeIs
    obtain⟨o,g1,g2,nn,g3⟩:=pl
    have ok:l.all (TK.ok n)=true:=by simpa only[TK.ok] using ok
    unfold eqIsQuiet
    refine wpAny_bind (wpAny_specialOf hT F.slot_tuple_eq.lookup (wpAny_bind (wpAny_isInstance hT isSubtype_tuple_tuple ?_)))
    simp only[Bool.not_true,Bool.false_eq_true,if_false]
    refine wpAny_bind (wpAny_seqItems g1 g3 (wpAny_bind ?_))
    show wpAny _ _ (forIn its.toArray _ _) _ _ s
    rw[←Array.forIn_toList]
    refine wpAny_forIn_list _ (fun rest r s'=>r.1=none∧s'=s∧∃left wl,RepL X.K H wl (TK.dl left)∧Vals wl rest∧∀x∈left,x.ok n=true) _ ?_ ?_ _ _ ⟨rfl,rfl,l,ws,i,rv,fun x m=>List.all_eq_true.mp ok x m⟩
    ·rintro v rest r s' ⟨hr,rfl,left,wl,r',v',hk⟩
     cases v' with
     |@cons w1 _ wl _ rw1 v'=>
      cases left with
      |nil=>have:=r'.length;simp[TK.dl] at this
      |cons k1 left=>
       simp only[TK.dl] at r'
       refine wpAny_bind (ih I r'.inv.1 (hk k1 (by simp)) rw1 ?_)
       simp only[Bool.not_true,Bool.false_eq_true,if_false]
       exact wpAny_pure ⟨rfl,rfl,left,wl,r'.inv.2,v',fun x m=>hk x (by simp[m])⟩
    ·rintro⟨r1,r2⟩ s' ⟨hr,rfl,_⟩
     cases(show r1=none from hr)
     exact wpAny_pure h
structure DAt (X:Cx) (A:Around) (E:Value→Shared→Prop) (s:Shared) (xs:Array DictEntry) (es:List (TK×V×V)) (k:TK) (u:Value):Prop where
 ent:∀(j:Nat) (x:DictEntry),xs[j]?=some x→∃e,es[j]?=some e∧EntG X.w e x∧(∀(R:Bool→Shared→Prop),R (decide (e.1=k)) s→wpAny (model X.prog X.w) A (eqBool x.key u) R E s)∧
  ∀(R:Bool→Shared→Prop),R true s→wpAny (model X.prog X.w) A (eqIsQuiet 8 x.key) R E s
 ents:∀(j:Nat) (e:TK×V×V),es[j]?=some e→∃x:DictEntry,xs[j]?=some x∧EntG X.w e x
 uniq:∀(i j:Nat) (e f:TK×V×V),es[i]?=some e→es[j]?=some f→e.1=k→f.1=k→i=j
theorem d5u{A:Around}{E:Value→Shared→Prop}{s:Shared}{xs:Array DictEntry}{es:List (TK×V×V)}{k:TK}{y:V}{u:Value}(I:Inv X pins σ H s)(g3:Paired (EntG X.w) es xs.toList)(g4:(es.map (·.1)).Nodup)
  (rk:RepL X.K H (es.map (·.2.1)) (es.map (·.1.d))) (ry:RepL X.K H [y] [k.d]) (ok:k.ok 8=true) (ru:RelV y u) (hu:A.units+8 < cLine):DAt X A E s xs es k u where
 ent:=fun j x hx=>by
  obtain⟨e,e1,e2⟩:=b2c j g3 (by rw[Array.getElem?_toList];exact hx)
  obtain⟨v,v1,v2⟩:=rk.get (i:=j) (d:=e.1.d) (by rw[List.getElem?_map,e1];rfl)
  rw[List.getElem?_map,e1] at v1
  cases v1
  refine⟨e,e1,e2,fun R hR=>?_,fun R hR=>b7c 8 I v2 e2.2.2.2 e2.2.1 hR⟩
  refine(b7b I 8 8 v2 ry (b0h 8 e2.2.2.2) (b0h 8 ok) e2.2.1 ru hu).1 X.prog X.w E R ?_
  rw[b8x]
  exact hR
 ents:=fun j e he=>by
  obtain⟨x,x1,x2⟩:=b2d j g3 he
  exact⟨x,by rw[←Array.getElem?_toList];exact x1,x2⟩
 uniq:=fun i j e f he hf ek fk=>by
  have hi:(es.map (·.1))[i]?=some k:=by rw[List.getElem?_map,he,←ek];rfl
  have hj:(es.map (·.1))[j]?=some k:=by rw[List.getElem?_map,hf,←fk];rfl
  exact(List.getElem?_inj (List.getElem?_eq_some_iff.mp hi).1 g4).mp (hi.trans hj.symm)
section
variable {A:Around} {E:Value→Shared→Prop} {s:Shared} {d:Addr} {o:Obj} {xs:Array DictEntry} {ep:Nat} {es:List (TK×V×V)} {k:TK} {u:Value} {Q:Option Nat→Shared→Prop}
noncomputable abbrev plc (xs:Array DictEntry) (h:Int):List Nat:=placesWithHash xs.size (fun i=>xs[i]?.map (·.hash)) h
theorem plc_mem{h:Int}{i:Nat}:i∈plc xs h↔∃x,xs[i]?=some x∧x.hash=h:=by
 unfold plc placesWithHash
 rw[List.mem_filter,List.mem_range]
 constructor
 ·rintro⟨h1,h2⟩
  refine⟨xs[i],Array.getElem?_eq_getElem h1,?_⟩
  dsimp only at h2
  rw[Array.getElem?_eq_getElem h1] at h2
  simpa using h2
 ·rintro⟨x,h1,h2⟩
  refine⟨(Array.getElem?_eq_some_iff.mp h1).1,?_⟩
  dsimp only
  rw[h1,Option.map_some,h2]
  simp
theorem c4k{h:Int}:(plc xs h).Nodup:=List.Nodup.sublist List.filter_sublist List.nodup_range
theorem DAt.plc(D:DAt X A E s xs es k u){j:Nat}{e:TK×V×V}(he:es[j]?=some e)(ek:e.1=k):j∈plc xs (k.hash X.w):=by
 obtain⟨x,x1,x2⟩:=D.ents j e he
 exact plc_mem.mpr ⟨x,x1,by rw[x2.1,ek]⟩
theorem c4l(D:DAt X A E s xs es k u)(g1:s.heap.get? d=some o)(g2:o.data=.dict xs ep)
  (q0:(∀(j:Nat) (e:TK×V×V),es[j]?=some e→e.1≠k)→Q none s) (q1:∀(j:Nat) (e:TK×V×V),es[j]?=some e→e.1=k→Q (some j) s) :
  wpAny (model X.prog X.w) A (dictWalkPlain d u (k.hash X.w) xs (plc xs (k.hash X.w))) Q E s:=by
 unfold dictWalkPlain
 refine wpAny_bind (wpAny_forIn_list _ (fun rest b s'=>s'=s∧b=(none,())∧∃done,plc xs (k.hash X.w)=done++rest∧∀j e,j∈done→es[j]?=some e→e.1≠k) _ ?_ ?_ _ _ ⟨rfl,rfl,[],rfl,fun _ _ m=>by cases m⟩)
 ·rintro i rest b s' ⟨rfl,rfl,done,hd,hno⟩
  obtain⟨x,x1,x2⟩:=plc_mem.mp (show i∈plc xs (k.hash X.w) by rw[hd];simp)
  obtain⟨e,e1,e2,eq,_⟩:=D.ent i x x1
  simp only[x1]
  rw[if_pos (by rw[x2];simp)]
  refine wpAny_bind (wpAny_dictEpoch g1 g2 (wpAny_bind (eq _ (wpAny_bind (wpAny_dictEpoch g1 g2 ?_)))))
  rw[if_neg (by simp)]
  by_cases ek:e.1=k
  ·rw[decide_eq_true ek]
   exact wpAny_bind (wpAny_rule (wpAny_pure (wpAny_pure (q1 i e e1 ek))))
  ·rw[decide_eq_false ek]
   refine wpAny_bind (wpAny_rule (wpAny_pure ⟨rfl,rfl,done++[i],by simp[hd],fun j f m hf=>?_⟩))
   rcases List.mem_append.mp m with m|m
   ·exact hno j f m hf
   ·simp at m
    subst m
    rw[e1] at hf
    cases hf
    exact ek
 ·rintro b s' ⟨rfl,rfl,done,hd,hno⟩
  refine wpAny_pure (q0 fun j e he ek=>hno j e ?_ he ek)
  have:=D.plc he ek
  rw[hd] at this
  simpa using this
noncomputable def idv (u:Value):Value:=u
theorem c8w(D:DAt X A E s xs es k u)(g1:s.heap.get? d=some o)(g2:o.data=.dict xs ep)(hq:∀(R:Bool→Shared→Prop),R true s→wpAny (model X.prog X.w) A (eqIsQuiet 8 u) R E s)
  (hs:∀z t,u=.str z t→k=.inr z) (hst:∀(j:Nat) (x:DictEntry) (e:TK×V×V) z t,xs[j]?=some x→es[j]?=some e→x.key=.str z t→e.1=.inr z) (hh:∀a (j:Nat) (x:DictEntry) (e:TK×V×V),u=.ref a→xs[j]?=some x→es[j]?=some e→x.key=u→e.1=k)
  (q0:(∀(j:Nat) (e:TK×V×V),es[j]?=some e→e.1≠k)→Q none s) (q1:∀(j:Nat) (e:TK×V×V),es[j]?=some e→e.1=k→Q (some j) s) :
  wpAny (model X.prog X.w) A (dictFind d u (k.hash X.w)) Q E s:=by
 have walk:=c4l D g1 g2 q0 q1
 have stored:∀v∈(plc xs (k.hash X.w)).filterMap (fun i=>xs[i]?.map (·.key)),∀(R:Bool→Shared→Prop),R true s→wpAny (model X.prog X.w) A (eqIsQuiet 8 v) R E s:=by
  intro v hv R hR
  obtain⟨i,_,hi⟩:=List.mem_filterMap.mp hv
  cases hx:xs[i]? with
  |none=>rw[hx] at hi;cases hi
  |some x=>
   rw[hx] at hi
   obtain rfl:x.key=v:=by simpa using hi
   obtain⟨e,_,_,_,h⟩:=D.ent i x hx
   exact h R hR
 have tell:∀(R:Bool→Shared→Prop),R false s→wpAny (model X.prog X.w) A (tableMayTell u ((plc xs (k.hash X.w)).filterMap fun i=>xs[i]?.map (·.key))) R E s:=by
  intro R hR
  unfold tableMayTell
  split
  ·exact wpAny_pure hR
  ·refine wpAny_bind (hq _ ?_)
   simp only[Bool.not_true,Bool.false_eq_true,if_false]
   refine wpAny_bind (wpAny_forIn_list _ (fun rest r s'=>s'=s∧r=(none,())∧∀v∈rest,∀(R:Bool→Shared→Prop),R true s→wpAny (model X.prog X.w) A (eqIsQuiet 8 v) R E s) _ ?_ ?_ _ _ ⟨rfl,rfl,stored⟩)
   ·rintro x rest r s' ⟨rfl,rfl,hr⟩
    refine wpAny_bind (hr x (by simp) _ ?_)
    simp only[Bool.not_true,Bool.false_eq_true,if_false]
    exact wpAny_pure ⟨rfl,rfl,fun v hv=>hr v (by simp[hv])⟩
   ·rintro r s' ⟨rfl,rfl,_⟩
    exact wpAny_pure hR
 have tell2:∀(R:Bool→Shared→Prop),R false s→wpAny (model X.prog X.w) A (if((plc xs (k.hash X.w)).filterMap (fun i=>xs[i]?.map (·.key)) == [u])=true then pure false else tableMayTell u ((plc xs (k.hash X.w)).filterMap fun i=>xs[i]?.map (·.key))) R E s:=by
  intro R hR
  split
  ·exact wpAny_pure hR
  ·exact tell R hR
 have fin:∀(i:Nat) (x:DictEntry) (e:TK×V×V),xs[i]?=some x→es[i]?=some e→EntG X.w e x→(x.hash == k.hash X.w)=false→e.1≠k:=fun i x e _ _ he hf ek=>by
  rw[he.1,ek] at hf
  simp at hf
 unfold dictFind
 (try with_reducible refine wpAny_holding ?_);refine wpAny_bind (wpAny_dictEntries g1 g2 ?_)
 dsimp only
 by_cases hall:((u::(plc xs (k.hash X.w)).filterMap fun i=>xs[i]?.map (·.key)).all carriedByValue)=true
 ·rw[if_pos hall]
  split
  next z t=>
   split
   next hstr=>
    unfold foundByValue
    cases hf:xs.findIdx? (fun e=>e.key.isStr z) with
    |none=>
     refine wpAny_pure (q0 fun j e he ek=>?_)
     obtain⟨x,x1,x2⟩:=D.ents j e he
     have n1:=Array.findIdx?_eq_none_iff.mp hf x (Array.mem_of_getElem? x1)
     have e2:=x2.2.1
     have n2:isExactStrKey x.key=true:=by
      have h:=Array.all_eq_true.mp hstr j (Array.getElem?_eq_some_iff.mp x1).1
      rw[(Array.getElem?_eq_some_iff.mp x1).2] at h
      exact h
     cases hk:x.key with
     |str z2 t2=>
      have e3:=hst j x e z2 t2 x1 he hk
      rw[ek,hs z t rfl] at e3
      cases e3
      rw[hk] at n1
      simp[Value.isStr] at n1
     |_=>rw[hk] at n2;cases n2
    |some i=>
     obtain⟨hlt,hi,_⟩:=Array.findIdx?_eq_some_iff_getElem.mp hf
     obtain⟨e,e1,e2,eq,_⟩:=D.ent i xs[i] (Array.getElem?_eq_getElem hlt)
     have ek:e.1=k:=by
      cases hk:xs[i].key with
      |str z2 t2=>
       rw[hk] at hi
       have:z2=z:=by simpa[Value.isStr] using hi
       subst this
       rw[hst i _ e z2 t2 (Array.getElem?_eq_getElem hlt) e1 hk,hs z2 t rfl]
      |_=>rw[hk] at hi;simp[Value.isStr] at hi
     simp only[Array.getElem?_eq_getElem hlt]
     refine wpAny_bind (wpAny_dictEpoch g1 g2 (wpAny_bind (eq _ (wpAny_bind (wpAny_dictEpoch g1 g2 ?_)))))
     rw[if_neg (by simp),decide_eq_true ek]
     exact wpAny_bind (wpAny_rule (wpAny_pure (q1 i e e1 ek)))
   next=>exact walk
  next=>exact walk
 ·rw[if_neg hall]
  have nostr:∀z t,u=.str z t→¬(xs.all fun e=>isExactStrKey e.key)=true:=by
   intro z t hu hx
   refine hall (List.all_eq_true.mpr fun v hv=>?_)
   rcases List.mem_cons.mp hv with rfl|hv
   ·rw[hu];rfl
   ·obtain⟨i,_,hi⟩:=List.mem_filterMap.mp hv
    cases hx1:xs[i]? with
    |none=>rw[hx1] at hi;cases hi
    |some x=>
     rw[hx1] at hi
     obtain rfl:x.key=v:=by simpa using hi
     have h:=Array.all_eq_true.mp hx i (Array.getElem?_eq_some_iff.mp hx1).1
     rw[(Array.getElem?_eq_some_iff.mp hx1).2] at h
     cases hk:x.key with
     |str _ _=>rfl
     |_=>rw[hk] at h;cases h
  have noany:∀a,u=.ref a→¬(xs.any fun e=>e.key == u && e.hash != k.hash X.w)=true:=by
   intro a hu hx
   rw[Array.any_eq_true] at hx
   obtain⟨i,hi,hc⟩:=hx
   rw[Bool.and_eq_true,beq_iff_eq,bne_iff_ne] at hc
   obtain⟨e,e1,e2,_⟩:=D.ent i xs[i] (Array.getElem?_eq_getElem hi)
   have:=hh a i _ e hu (Array.getElem?_eq_getElem hi) e1 hc.1
   exact hc.2 (by rw[e2.1,this])
  have hid:u=idv u:=rfl
  refine(fun(key:?P)=>?main) ?k
  case main=>
   rw(occs:=.pos [1]) [hid]
   split
   ·rename_i z t hz
    rw[if_neg (nostr z t hz)]
    rw(occs:=.pos [1]) [hid]
    split
    ·rename_i a ha
     rw[if_neg (noany a ha)]
     exact key
    ·exact key
   ·rw(occs:=.pos [1]) [hid]
    split
    ·rename_i a ha
     rw[if_neg (noany a ha)]
     exact key
    ·exact key
  refine(fun(key2:?P2)=>?main2) ?k2
  case main2=>
   refine c4h ?_ ?_
   ·refine wpAny_bind (wpAny_pure ?_)
    exact key2
   ·refine wpAny_bind (tell _ ?_)
    exact key2
  all_goals (
   show wpAny _ _ (if(false && _)=true then _ else _) _ _ _
   rw[if_neg (by rw[Bool.false_and];exact Bool.false_ne_true)]
   refine wpAny_bind (wpAny_forIn_list _ (fun rest b s'=>s'=s∧∃hit done,b=(none,hit)∧plc xs (k.hash X.w)=done++rest∧((hit=none∧∀(j:Nat) (e:TK×V×V),j∈done→es[j]?=some e→e.1≠k)∨∃(j:Nat) (e:TK×V×V),hit=some j∧j∈done∧es[j]?=some e∧e.1=k)) _ ?_ ?_ _ _
    ⟨rfl,none,[],rfl,rfl,.inl ⟨rfl,fun _ _ m=>by cases m⟩⟩)
   ·rintro i rest b s' ⟨rfl,hit,done,rfl,hd,hH⟩
    obtain⟨x,x1,x2⟩:=plc_mem.mp (show i∈plc xs (k.hash X.w) by rw[hd];simp)
    obtain⟨e,e1,e2,eq,_⟩:=D.ent i x x1
    have hni:i∉done:=fun m=>by
     have:=c4k (xs:=xs) (h:=k.hash X.w)
     rw[hd] at this
     exact(List.nodup_append.mp this).2.2 i m i (by simp) rfl
    simp only[x1]
    rw[if_pos (by rw[x2];simp)]
    refine wpAny_bind (wpAny_dictEpoch g1 g2 (wpAny_bind (eq _ (wpAny_bind (wpAny_dictEpoch g1 g2 ?_)))))
    rw[if_neg (by simp)]
    by_cases ek:e.1=k
    ·rw[decide_eq_true ek]
     rcases hH with⟨rfl,hno⟩|⟨j,f,rfl,jd,jf,fk⟩
     ·first|rw[if_pos rfl]|skip
      simp only[Option.isSome_none,Bool.false_eq_true,if_false]
      first|refine wpAny_bind (wpAny_pure ?_)|skip
      refine wpAny_bind (wpAny_rule ?_)
      split
      ·exact wpAny_pure (wpAny_pure (q1 i e e1 ek))
      ·exact wpAny_pure ⟨rfl,some i,done++[i],rfl,by simp[hd],.inr ⟨i,e,rfl,by simp,e1,ek⟩⟩
     ·exact absurd (D.uniq i j e f e1 jf ek fk) fun z=>hni (by rw[z];exact jd)
    ·rw[decide_eq_false ek]
     have nx:(hit=none∧∀(j:Nat) (e:TK×V×V),j∈done++[i]→es[j]?=some e→e.1≠k)∨∃(j:Nat) (e:TK×V×V),hit=some j∧j∈done++[i]∧es[j]?=some e∧e.1=k:=by
      rcases hH with⟨h0,hno⟩|⟨j,f,h0,jd,jf,fk⟩
      ·refine .inl ⟨h0,fun j f m hf=>?_⟩
       rcases List.mem_append.mp m with m|m
       ·exact hno j f m hf
       ·simp at m
        subst m
        rw[e1] at hf
        cases hf
        exact ek
      ·exact .inr ⟨j,f,h0,by simp[jd],jf,fk⟩
     simp only[Bool.false_eq_true,if_false]
     refine wpAny_bind (wpAny_rule ?_)
     first|rw[if_neg (by simp)]|skip
     first
      |exact wpAny_pure ⟨rfl,hit,done++[i],rfl,by simp[hd],nx⟩
      |exact wpAny_bind (wpAny_pure (wpAny_pure ⟨rfl,hit,done++[i],rfl,by simp[hd],nx⟩))
   ·rintro b s' ⟨rfl,hit,done,rfl,hd,hH⟩
    rcases hH with⟨rfl,hno⟩|⟨j,f,rfl,jd,jf,fk⟩
    ·refine wpAny_pure (q0 fun j e he ek=>hno j e ?_ he ek)
     have:=D.plc he ek
     rw[hd] at this
     simpa using this
    ·exact wpAny_pure (q1 j f jf fk))
end
end
end L2
namespace L2
open PySem PySem.Spec PyProof.Rows
noncomputable def valX (es:List (TK×V×V)) (k:TK):Option V:=(es.find? fun e=>decide (e.1=k)).map (·.2.2)
noncomputable def putX:List (TK×V×V)→TK→V→V→List (TK×V×V)
 |[],k,y,v=>[(k,y,v)]
 |e::es,k,y,v=>if e.1=k then(e.1,e.2.1,v)::es else e::putX es k y v
noncomputable def putE (es:List (TK×V×V)) (k:TK) (ep:Nat):Nat:=if(es.any fun e=>decide (e.1=k))=true then ep else ep+1
noncomputable def XGet (K:PySem.W.Frag) (H:Hp) (a:Addr) (y:V) (r:Option V):Prop:=∃es ep k,H a=some (.dG es ep)∧RepL K H (es.map (·.2.1)) (es.map (·.1.d))∧RepL K H [y] [k.d]∧k.ok 8=true∧r=valX es k
noncomputable def XPut (K:PySem.W.Frag) (H:Hp) (a:Addr) (y v:V) (H':Hp):Prop:=∃es ep k,H a=some (.dG es ep)∧RepL K H (es.map (·.2.1)) (es.map (·.1.d))∧RepL K H [y] [k.d]∧k.ok 8=true∧es.length < sizeLine∧H'=upd H a (.dG (putX es k y v) (putE es k ep))
theorem d2w{k j:TK}(e:k.d=j.d)(h:k.ok 8=true):k=j:=by
 have h1:=b8x k j
 rw[←e,b4w 8 (b0h 8 h)] at h1
 exact of_decide_eq_true h1.symm
section
variable {X:Cx} {pins:List (Addr×Obj)} {σ:St} {H:Hp}
theorem c4m{y:V}{z:Str}{t:Tok}{k:TK}(r:RepL X.K H [y] [k.d])(ru:RelV y (.str z t)):k=.inr z:=by
 cases k with
 |inl i=>simp only[TK.d] at r;cases r with|flat q _=>cases q;obtain⟨t,e⟩:=ru;cases e
 |inr i=>simp only[TK.d] at r;cases r with|flat q _=>cases q;obtain⟨t,e⟩:=ru;cases e;rfl
 |tp l=>simp only[TK.d] at r;cases r with|flat q _=>cases q|tup q _ _=>cases ru
theorem c4n{y:V}{a:Addr}(ru:RelV y (.ref a)):y=.ref a:=by
 cases y with
 |ref b=>cases ru;rfl
 |non=>cases ru
 |bl _=>cases ru
 |ty _=>cases ru
 |_=>obtain⟨t,e⟩:=ru;cases e
section
variable {A:Around} {E:Value→Shared→Prop} {s:Shared} {d:Addr} {es:List (TK×V×V)} {k:TK} {y v:V} {u r:Value}
theorem d0z{o:Obj}{xs:Array DictEntry}{ep:Nat}{Q:Option Nat→Shared→Prop}(I:Inv X pins σ H s)(g1:s.heap.get? d=some o)(g2:o.data=.dict xs ep)(g3:Paired (EntG X.w) es xs.toList)(g4:(es.map (·.1)).Nodup)
  (rk:RepL X.K H (es.map (·.2.1)) (es.map (·.1.d))) (ry:RepL X.K H [y] [k.d]) (ok:k.ok 8=true) (ru:RelV y u) (hu:A.units+8 < cLine)
  (q0:(∀(j:Nat) (e:TK×V×V),es[j]?=some e→e.1≠k)→Q none s) (q1:∀(j:Nat) (e:TK×V×V),es[j]?=some e→e.1=k→Q (some j) s):wpAny (model X.prog X.w) A (dictFind d u (k.hash X.w)) Q E s:=by
 have at':∀(j:Nat) (x:DictEntry) (e:TK×V×V),xs[j]?=some x→es[j]?=some e→EntG X.w e x∧RepL X.K H [e.2.1] [e.1.d]:=by
  intro j x e hx he
  obtain⟨e',e1,e2⟩:=b2c j g3 (by rw[Array.getElem?_toList];exact hx)
  rw[he] at e1
  cases e1
  obtain⟨v,v1,v2⟩:=rk.get (i:=j) (d:=e.1.d) (by rw[List.getElem?_map,he];rfl)
  rw[List.getElem?_map,he] at v1
  cases v1
  exact⟨e2,v2⟩
 refine c8w (d5u I g3 g4 rk ry ok ru hu) g1 g2 (fun R hR=>b7c 8 I ry ok ru hR) (fun z t e=>c4m ry (by rw[←e];exact ru)) (fun j x e z t hx he hk=>?_) (fun a j x e hu' hx he hk=>?_) q0 q1
 ·obtain⟨g,r'⟩:=at' j x e hx he
  exact c4m r' (by rw[←hk];exact g.2.1)
 ·obtain⟨g,r'⟩:=at' j x e hx he
  have h1:=g.2.1
  rw[hk,hu'] at h1
  rw[hu'] at ru
  rw[c4n h1] at r'
  rw[c4n ru] at ry
  exact d2w (b4x I 8 8 r' ry (b0h 8 g.2.2.2) (b0h 8 ok)) g.2.2.2
theorem c4o(h:∀(j:Nat) (e:TK×V×V),es[j]?=some e→e.1≠k):valX es k=none:=by
 unfold valX
 rw[List.find?_eq_none.mpr fun e m z=>?_,Option.map_none]
 obtain⟨j,hj⟩:=List.mem_iff_getElem?.mp m
 exact h j e hj (of_decide_eq_true z)
theorem c4p(hn:(es.map (·.1)).Nodup){j:Nat}{e:TK×V×V}(he:es[j]?=some e)(ek:e.1=k):valX es k=some e.2.2:=by
 induction es generalizing j with
 |nil=>simp at he
 |cons x es ih=>
  rw[List.map_cons,List.nodup_cons] at hn
  unfold valX
  rw[List.find?_cons]
  cases j with
  |zero=>
   simp only[List.getElem?_cons_zero,Option.some.injEq] at he
   subst he
   rw[decide_eq_true ek]
   rfl
  |succ j=>
   simp only[List.getElem?_cons_succ] at he
   have ne:¬x.1=k:=fun z=>hn.1 (by rw[z,←ek];exact List.mem_map.mpr ⟨e,List.mem_of_getElem? he,rfl⟩)
   rw[decide_eq_false ne]
   exact ih hn.2 he
theorem b7d{o:Option V}{Q:Option Value→Shared→Prop}(hu:A.units+8 < cLine)(I:Inv X pins σ H s)(g:XGet X.K H d y o)(ru:RelV y u)(h:∀w t,RelO o w→Q w { s with toks:=t}):
  wpAny (model X.prog X.w) A (dictGet d u) Q E s:=by
 obtain⟨es,ep,k,hd,rk,ry,ok,rfl⟩:=g
 obtain⟨_,_,ob,xs,g1,_,g2,g3,g4⟩:=(show ObjOk X.prog X.w H s.heap d (.dG es ep) from I.hok d _ hd)
 unfold dictGet
 (try with_reducible refine wpAny_holding ?_);refine wpAny_bind (c0j 8 I ry ok ru hu fun t=>wpAny_bind (d0z (I.tok t) g1 g2 g3 g4 rk ry ok ru hu (fun q0=>?_) (fun j e he ek=>?_)))
 ·exact wpAny_pure (h none t (by rw[c4o q0];exact True.intro))
 ·obtain⟨x,x1,x2⟩:=b2d j g3 he
  refine wpAny_bind (wpAny_dictEntries (s:={ s with toks:=t}) g1 g2 (wpAny_pure ?_))
  rw[←Array.getElem?_toList,x1]
  exact h (some x.val) t (by rw[c4p g4 he ek];exact x2.2.2.1)
theorem XGet.ty{o:Option V}(I:Inv X pins σ H s)(g:XGet X.K H d y o):s.TypeIs (.ref d) "dict"∧(d == sysModules)=false:=by
 obtain⟨es,ep,k,hd,_⟩:=g
 obtain⟨_,z,ob,xs,g1,g5,_⟩:=(show ObjOk X.prog X.w H s.heap d (.dG es ep) from I.hok d _ hd)
 exact⟨⟨ob,g1,g5.1⟩,z⟩
theorem c4q{Q:Value→Shared→Prop}(hu:A.units+9 < cLine)(I:Inv X pins σ H s)(g:XGet X.K H d y (some v))(ru:RelV y u)(h:∀w' s',Inv X pins σ H s'→RelV v w'→Q w' s'):wpAny (model X.prog X.w) A (getItem (.ref d) u) Q E s:=by
 have hT:=(g.ty I).1
 unfold getItem
 (try with_reducible refine wpAny_holding ?_);refine wpAny_bind (wpAny_sequenceKey hT (by decide) (wpAny_bind (wpAny_callSpecial?_slot (name:=Str.ofString "__getitem__") hT slot_dict_getitem (wpAny_call_entry slot_dict_getitem hT entry_dict_getitem ?_ (args_dict_getitem _ _)))))
 show wpAny _ _ (dictGet d u >>= _) _ _ s
 refine wpAny_bind (b7d (by show A.units+1+8 < cLine;omega) I g ru fun w t rw'=>?_)
 obtain⟨w',rfl,r'⟩:=RelO.some_of rw'
 exact wpAny_pure ⟨w',rfl,wpAny_pure (h w' _ (I.tok t) r')⟩
theorem b3w{o:Option V}{Q:Bool→Shared→Prop}(hu:A.units+9 < cLine)(I:Inv X pins σ H s)(g:XGet X.K H d y o)(ru:RelV y u)(h:∀s',Inv X pins σ H s'→Q o.isSome s'):wpAny (model X.prog X.w) A (contains (.ref d) u) Q E s:=by
 obtain⟨hT,hd⟩:=g.ty I
 unfold contains
 (try with_reducible refine wpAny_holding ?_);refine wpAny_bind (wpAny_specialOf hT slot_dict_contains.lookup ?_)
 dsimp only
 rw[if_neg (by rw[beq_builtin_none];exact Bool.false_ne_true)]
 refine wpAny_bind (wpAny_callSpecialUnlessNone?_slot (name:=Str.ofString "__contains__") hT slot_dict_contains (wpAny_call_entry slot_dict_contains hT entry_dict_contains ?_ (args_dict_contains _ _)))
 show wpAny _ _ (dictGet d u >>= _) _ _ s
 refine wpAny_bind (b7d (by show A.units+1+8 < cLine;omega) I g ru fun w t rw'=>?_)
 have e:=rw'.isSome_eq
 cases w with
 |some w=>
  show wpAny _ _ (ret (.bool true)) _ _ _
  refine wpAny_pure ⟨_,rfl,wpAny_truthy_bool ?_⟩
  have:=h _ (I.tok t)
  rw[e] at this
  exact this
 |none=>
  show wpAny _ _ (Builtin.Dict.pendingKey? d u >>= _) _ _ _
  refine wpAny_bind (wpAny_pendingKey_other hd (wpAny_pure ⟨_,rfl,wpAny_truthy_bool ?_⟩))
  have:=h _ (I.tok t)
  rw[e] at this
  exact this
theorem x_in{o:Option V}{Q:Value→Shared→Prop}(hu:A.units+9 < cLine)(I:Inv X pins σ H s)(g:XGet X.K H d y o)(ru:RelV y u)(h:∀s',Inv X pins σ H s'→Q (.bool o.isSome) s'):wpAny (model X.prog X.w) A (compareOp .In u (.ref d)) Q E s:=
 wpAny_bind (b3w hu I g ru fun s' I'=>wpAny_pure (h s' I'))
theorem d2x{o:Option V}{Q:Value→Shared→Prop}(hu:A.units+9 < cLine)(I:Inv X pins σ H s)(g:XGet X.K H d y o)(ru:RelV y u)(h:∀s',Inv X pins σ H s'→Q (.bool (!o.isSome)) s'):wpAny (model X.prog X.w) A (compareOp .NotIn u (.ref d)) Q E s:=
 wpAny_bind (b3w hu I g ru fun s' I'=>wpAny_pure (h s' I'))
theorem b2e(k:TK)(y v:V):∀es:List (TK×V×V),(putX es k y v).length≤es.length+1
 |[]=>by simp[putX]
 |e::es=>by
  unfold putX
  have:=b2e k y v es
  split <;> simp <;> omega
theorem c0k:∀{es:List (TK×V×V)},(∀(j:Nat) (e:TK×V×V),es[j]?=some e→e.1≠k)→putX es k y v=es++[(k,y,v)]
 |[],_=>rfl
 |e::es,h=>by
  unfold putX
  rw[if_neg (h 0 e rfl),c0k fun j x hx=>h (j+1) x (by simpa using hx)]
  rfl
theorem d2y{w:World}{xs:List DictEntry}(g3:Paired (EntG w) es xs)(ry:RelV y u)(rv:RelV v r)(ok:k.ok 8=true):Paired (EntG w) (es++[(k,y,v)]) (xs++[⟨k.hash w,u,r⟩]):=by
 induction g3 with
 |nil=>exact .cons ⟨rfl,ry,rv,ok⟩ .nil
 |cons a _ ih=>exact .cons a ih
theorem c4r{w:World}:∀{es:List (TK×V×V)} {xs:List DictEntry} {j:Nat} {e:TK×V×V},Paired (EntG w) es xs→(es.map (·.1)).Nodup→es[j]?=some e→e.1=k→RelV v r→
  Paired (EntG w) (putX es k y v) (xs.modify j fun x=>{ x with val:=r})∧(putX es k y v).map (·.1)=es.map (·.1)
 |_,_,_,_,.nil,_,he,_,_=>by simp at he
 |_::es,_::xs,0,e,.cons a t,hn,he,ek,rv=>by
  simp only[List.getElem?_cons_zero,Option.some.injEq] at he
  subst he
  unfold putX
  rw[if_pos ek]
  exact⟨.cons ⟨a.1,a.2.1,rv,a.2.2.2⟩ t,rfl⟩
 |x::es,_::xs,j+1,e,.cons a t,hn,he,ek,rv=>by
  simp only[List.getElem?_cons_succ] at he
  rw[List.map_cons,List.nodup_cons] at hn
  have ne:¬x.1=k:=fun z=>hn.1 (by rw[z,←ek];exact List.mem_map.mpr ⟨e,List.mem_of_getElem? he,rfl⟩)
  unfold putX
  rw[if_neg ne]
  have ih:=c4r t hn.2 he ek rv
  exact⟨.cons a ih.1,by rw[List.map_cons,List.map_cons,ih.2]⟩
theorem c4s{H':Hp}{Q:Unit→Shared→Prop}(hu:A.units+8 < cLine)(I:Inv X pins σ H s)(g:XPut X.K H d y v H')(ru:RelV y u)(rv:RelV v r)(h:∀s',Inv X pins σ H' s'→Q () s'):
  wpAny (model X.prog X.w) A (dictSet d u r) Q E s:=by
 obtain⟨es,ep,k,hd,rk,ry,ok,hl,rfl⟩:=g
 obtain⟨_,z,ob,xs,g1,g5,g2,g3,g4⟩:=(show ObjOk X.prog X.w H s.heap d (.dG es ep) from I.hok d _ hd)
 have hz:xs.size≤sizeLine:=by have:=Paired.length g3;simp at this;omega
 have hl2:(putX es k y v).length≤sizeLine:=by have:=b2e k y v es;omega
 unfold dictSet
 (try with_reducible refine wpAny_holding ?_);refine wpAny_bind (c0j 8 I ry ok ru hu fun t=>?_)
 unfold dictSetHashed
 (try with_reducible refine wpAny_holding ?_);refine wpAny_bind (d0z (I.tok t) g1 g2 g3 g4 rk ry ok ru hu (fun q0=>?_) (fun j e he ek=>?_))
 ·have ep2:putX es k y v=es++[(k,y,v)]:=c0k q0
  have ep3:putE es k ep=ep+1:=if_neg (by
   rw[List.any_eq_true]
   rintro⟨e,m,q⟩
   obtain⟨j,hj⟩:=List.mem_iff_getElem?.mp m
   exact q0 j e hj (of_decide_eq_true q))
  rw[ep3] at h
  refine wpAny_bind (wpAny_rule (wpAny_updateDictKeys (hz:=hz) (s:={ s with toks:=t}) g1 g2 (h _ ?_)))
  refine c3o (I.tok t) (by rw[hd];exact True.intro) (Heap.SameBut.update ..) ⟨_,Heap.get?_update_self _ g1 (Obj.isFreed_of_dict (Obj.data_mapDictKeys g2 _))⟩ ⟨hl2,z,_,_,Heap.get?_update_self _ g1 (Obj.isFreed_of_dict (Obj.data_mapDictKeys g2 _)),g5.mapDictKeys _,Obj.data_mapDictKeys g2 _,?_,?_⟩
  ·rw[ep2,Array.toList_push]
   exact d2y g3 ru rv ok
  ·rw[ep2,List.map_append,List.nodup_append]
   refine⟨g4,by simp,fun a m b m' e=>?_⟩
   simp at m'
   subst m'
   obtain⟨x,mx,rfl⟩:=List.mem_map.mp m
   obtain⟨j,hj⟩:=List.mem_iff_getElem?.mp mx
   exact q0 j x hj e
 ·have em:=c4r (y:=y) g3 g4 he ek rv
  have ep3:putE es k ep=ep:=if_pos (List.any_eq_true.mpr ⟨e,List.mem_of_getElem? he,decide_eq_true ek⟩)
  rw[ep3] at h
  refine wpAny_bind (wpAny_rule (wpAny_bind (wpAny_updateDict (s:={ s with toks:=t}) g1 g2 (wpAny_point (h _ ?_)))))
  refine c3o (I.tok t) (by rw[hd];exact True.intro) (Heap.SameBut.update ..) ⟨_,Heap.get?_update_self _ g1 (Obj.isFreed_of_dict (Obj.data_mapDict g2 _))⟩ ⟨hl2,z,_,_,Heap.get?_update_self _ g1 (Obj.isFreed_of_dict (Obj.data_mapDict g2 _)),g5.mapDict _,Obj.data_mapDict g2 _,?_,?_⟩
  ·obtain⟨l⟩:=xs
   simpa using em.1
  ·rw[em.2]
   exact g4
theorem c4t{H':Hp}{Q:Unit→Shared→Prop}(hu:A.units+9 < cLine)(I:Inv X pins σ H s)(g:XPut X.K H d y v H')(ru:RelV y u)(rv:RelV v r)(h:∀s',Inv X pins σ H' s'→Q () s'):
  wpAny (model X.prog X.w) A (setItem (.ref d) u r) Q E s:=by
 have hT:s.TypeIs (.ref d) "dict":=by
  obtain⟨es,ep,k,hd,rk,ry,ok,_⟩:=g
  exact(XGet.ty I ⟨es,ep,k,hd,rk,ry,ok,rfl⟩).1
 unfold setItem
 (try with_reducible refine wpAny_holding ?_);refine wpAny_bind (wpAny_sequenceKey hT (by decide) (wpAny_bind (wpAny_callSpecial?_slot (name:=Str.ofString "__setitem__") hT slot_dict_setitem (wpAny_call_entry slot_dict_setitem hT entry_dict_setitem ?_ (args_dict_setitem _ _ _)))))
 show wpAny _ _ (Builtin.Dict.notOrdered "__setitem__" ⟨[.ref d,u,r],[]⟩ >>= _) _ _ s
 refine wpAny_bind (wpAny_notOrdered_dict hT ?_)
 show wpAny _ _ (dictSet d u r >>= fun z=>_) _ _ s
 exact wpAny_bind (c4s (by show A.units+1+8 < cLine;omega) I g ru rv fun s' I'=>wpAny_pure ⟨.none,rfl,wpAny_pure (h s' I')⟩)
end
end
end L2
namespace L2
open PySem PySem.Spec PyProof.Rows
section
variable {X:Cx} {K:PySem.W.Frag}
noncomputable def rEqA (K:PySem.W.Frag):R2:=fun x y H Q=>∃d e,RepL K H [x] [d]∧RepL K H [y] [e]∧okD 40 d=true∧okD 40 e=true∧Q (.bl (eqD d e)) H
theorem a5g(K:PySem.W.Frag)(hu:X.A.units+40 < cLine)(hK:X.K=K:=by rfl):OpR X (compareOp .Eq) (rEqA K):=by
 subst hK
 intro pins s σ H x y v u Q I rx ry h
 obtain⟨d,e,r1,r2,o1,o2,q⟩:=h
 exact(b7b I 40 40 r1 r2 o1 o2 rx ry hu).2 X.prog X.w _ _ ⟨.bl _,H,I,rfl,q⟩
open Classical in
noncomputable def inE (K:PySem.W.Frag) (H:Hp) (dx:D) (u:Value):Bool:=decide (∃x d,RelV x u∧RepL K H [x] [d]∧okD 40 d=true∧eqD d dx=true)
open Classical in
theorem d1a{pins:List (Addr×Obj)}{s:Shared}{σ:St}{H:Hp}(I:Inv X pins σ H s){dx d:D}{x:V}{u:Value}(rx:RelV x u)(r:RepL X.K H [x] [d])(ok:okD 40 d=true):inE X.K H dx u=eqD d dx:=by
 unfold inE
 rw[Bool.eq_iff_iff,decide_eq_true_iff]
 constructor
 ·rintro⟨x',d',rx',r',ok',e⟩
  have:=RelV.inj rx rx'
  subst this
  rw[b4x I 40 40 r r' ok ok']
  exact e
 ·exact fun e=>⟨x,d,rx,r,ok,e⟩
theorem c0l{pins:List (Addr×Obj)}{s:Shared}{σ:St}{H:Hp}(I:Inv X pins σ H s){dx:D}{ws:List V}{its:List Value}{ds:List D}(t:Vals ws its)(rp:RepL X.K H ws ds)(ok:ds.all (okD 40)=true):its.any (inE X.K H dx)=ds.any fun d=>eqD d dx:=by
 induction t generalizing ds with
 |nil=>
  cases ds with
  |nil=>rfl
  |cons _ _=>have:=rp.length;simp at this
 |cons r t ih=>
  cases ds with
  |nil=>have:=rp.length;simp at this
  |cons d ds=>
   rw[List.all_cons,Bool.and_eq_true] at ok
   rw[List.any_cons,List.any_cons,d1a I r rp.inv.1 ok.1,ih rp.inv.2 ok.2]
theorem c0m{pins:List (Addr×Obj)}{s:Shared}{σ:St}{H:Hp}(I:Inv X pins σ H s){dx:D}{y:V}{v:Value}{A:Around}(rv:RelV y v)(ry:RepL X.K H [y] [dx])(oy:okD 40 dx=true)(hu:A.units+40 < cLine):
  ∀{ws:List V} {its:List Value} {ds:List D},Vals ws its→RepL X.K H ws ds→ds.all (okD 40)=true→∀u∈its,SeqAt.EqAt A s u v (inE X.K H dx u):=by
 intro ws its ds t
 induction t generalizing ds with
 |nil=>intro _ _ u m;cases m
 |cons r t ih=>
  intro rp ok u' m
  cases ds with
  |nil=>have:=rp.length;simp at this
  |cons d ds=>
   rw[List.all_cons,Bool.and_eq_true] at ok
   rcases List.mem_cons.mp m with rfl|m
   ·rw[d1a I r rp.inv.1 ok.1]
    exact(b7b I 40 40 rp.inv.1 ry ok.1 oy r rv hu).1
   ·exact ih rp.inv.2 ok.2 u' m
noncomputable def seqO:D→Option (List D)
 |.lst ds=>some ds
 |.tup ds=>some ds
 |_=>none
noncomputable def rInA (K:PySem.W.Frag) (neg:Bool):R2:=fun x y H Q=>
 (∃d e ds,RepL K H [x] [d]∧RepL K H [y] [e]∧seqO e=some ds∧okD 40 d=true∧ds.all (okD 40)=true∧Q (.bl (if neg then !ds.any fun z=>eqD z d else ds.any fun z=>eqD z d)) H)∨
 (∃i j,x=.str i∧y=.str j∧Q (.bl (if neg then !(!(Builtin.Str.occurrences j i 0 j.length 1).isEmpty) else !(Builtin.Str.occurrences j i 0 j.length 1).isEmpty)) H)∨
 ∃a o,y=.ref a∧XGet K H a x o∧Q (.bl (if neg then !o.isSome else o.isSome)) H
theorem b0z(K:PySem.W.Frag)(hu:X.A.units+41 < cLine)(hK:X.K=K:=by rfl):OpR X (compareOp .In) (rInA K false):=by
 subst hK
 intro pins s σ H x y v u Q I rx ry h
 rcases h with⟨d,e,ds,r1,r2,es,o1,o2,q⟩|⟨i,j,rfl,rfl,q⟩|⟨a,o,rfl,g,q⟩
 ·have hu':X.A.in1.units+40 < cLine:=by show X.A.units+1+40 < cLine;omega
  cases r2 with
  |flat z _=>cases e <;> first|(cases z;done)|cases es
  |lst sq i _=>
   cases es
   cases ry
   obtain⟨its,r,pl,hz⟩:=I.list (.inl sq)
   refine SeqAt.in_listAt (inE X.K H d) pl.isList (fun w hw=>c0m I rx r1 o1 hu' r i o2 w (by simpa using hw)) ⟨.bl _,H,I,rfl,?_⟩
   rw[show its.toArray.any (inE X.K H d)=its.any (inE X.K H d) by simp,c0l I r i o2]
   exact q
  |tup sq i _=>
   cases es
   cases ry
   obtain⟨its,r,pl,hz⟩:=I.tuple sq
   refine SeqAt.in_tupleAt (inE X.K H d) pl (fun w hw=>c0m I rx r1 o1 hu' r i o2 w (by simpa using hw)) ⟨.bl _,H,I,rfl,?_⟩
   rw[show its.toArray.any (inE X.K H d)=its.any (inE X.K H d) by simp,c0l I r i o2]
   exact q
  |dct _ _ _ _ _=>cases es
  |scr _ _=>cases es
  |exc _ _=>cases es
 ·exact c3h pins s σ H _ _ v u Q I rx ry ⟨i,j,rfl,rfl,q⟩
 ·cases ry
  exact x_in (by omega) I g rx fun s3 I3=>⟨.bl o.isSome,H,I3,rfl,q⟩
theorem a7m(K:PySem.W.Frag)(hu:X.A.units+41 < cLine)(hK:X.K=K:=by rfl):OpR X (compareOp .NotIn) (rInA K true):=by
 subst hK
 intro pins s σ H x y v u Q I rx ry h
 rcases h with⟨d,e,ds,r1,r2,es,o1,o2,q⟩|⟨i,j,rfl,rfl,q⟩|⟨a,o,rfl,g,q⟩
 ·have hu':X.A.in1.units+40 < cLine:=by show X.A.units+1+40 < cLine;omega
  cases r2 with
  |flat z _=>cases e <;> first|(cases z;done)|cases es
  |lst sq i _=>
   cases es
   cases ry
   obtain⟨its,r,pl,hz⟩:=I.list (.inl sq)
   refine SeqAt.notIn_listAt (inE X.K H d) pl.isList (fun w hw=>c0m I rx r1 o1 hu' r i o2 w (by simpa using hw)) ⟨.bl _,H,I,rfl,?_⟩
   rw[show its.toArray.any (inE X.K H d)=its.any (inE X.K H d) by simp,c0l I r i o2]
   exact q
  |tup sq i _=>
   cases es
   cases ry
   obtain⟨its,r,pl,hz⟩:=I.tuple sq
   refine SeqAt.notIn_tupleAt (inE X.K H d) pl (fun w hw=>c0m I rx r1 o1 hu' r i o2 w (by simpa using hw)) ⟨.bl _,H,I,rfl,?_⟩
   rw[show its.toArray.any (inE X.K H d)=its.any (inE X.K H d) by simp,c0l I r i o2]
   exact q
  |dct _ _ _ _ _=>cases es
  |scr _ _=>cases es
  |exc _ _=>cases es
 ·exact b6b pins s σ H _ _ v u Q I rx ry ⟨i,j,rfl,rfl,q⟩
 ·cases ry
  exact d2x (by omega) I g rx fun s3 I3=>⟨.bl (!o.isSome),H,I3,rfl,q⟩
noncomputable def oEq:List O→Option O
 |[a,b]=>if okD 40 a.d=true∧okD 40 b.d=true then some (.frz (.bl (eqD a.d b.d))) else none
 |_=>none
theorem a8v:OpOk K (r2L (rEqA K)) oEq:=by
 intro F H vs os o Q le see e res
 unfold oEq at e
 split at e
 ·split at e
  ·cases e
   obtain⟨x,y,B,C,rfl,h1,h2⟩:=see.two
   rename_i hh
   exact⟨_,_,rfl,_,_,a4f le h1,a4f le h2,hh.1,hh.2,res.flat rfl⟩
  ·cases e
 ·cases e
mutual
noncomputable def tkD:D→Option TK
 |.int i=>some (.inl i)
 |.str x=>some (.inr x)
 |.tup l=>(tkDs l).map .tp
 |_=>none
noncomputable def tkDs:List D→Option (List TK)
 |[]=>some []
 |d::l=>(tkD d).bind fun k=>(tkDs l).map fun ks=>k::ks
end
noncomputable def keyD:D→Option TK
 |.int i=>some (.inl i)
 |.str x=>some (.inr x)
 |.tup l=>(tkDs l).bind fun ks=>if TK.ok 8 (.tp ks)=true then some (.tp ks) else none
 |_=>none
mutual
theorem d7x:∀{d:D} {k:TK},tkD d=some k→k.d=d
 |.int i,k,e=>by simp only[tkD] at e;cases e;simp[TK.d]
 |.str i,k,e=>by simp only[tkD] at e;cases e;simp[TK.d]
 |.tup l,k,e=>by
  simp only[tkD] at e
  obtain⟨ks,h1,rfl⟩:=Option.map_eq_some_iff.mp e
  simp only[TK.d]
  rw[tkDs_d h1]
 |.non,k,e=>by simp[tkD] at e
 |.bl _,k,e=>by simp[tkD] at e
 |.ty _,k,e=>by simp[tkD] at e
 |.lst _,k,e=>by simp[tkD] at e
 |.dct _,k,e=>by simp[tkD] at e
 |.scr _,k,e=>by simp[tkD] at e
 |.exc _ _,k,e=>by simp[tkD] at e
theorem tkDs_d:∀{l:List D} {ks:List TK},tkDs l=some ks→TK.dl ks=l
 |[],ks,e=>by simp only[tkDs] at e;cases e;simp[TK.dl]
 |d::l,ks,e=>by
  simp only[tkDs] at e
  obtain⟨k,h1,e⟩:=Option.bind_eq_some_iff.mp e
  obtain⟨ks',h2,rfl⟩:=Option.map_eq_some_iff.mp e
  simp only[TK.dl]
  rw[d7x h1,tkDs_d h2]
end
theorem a7n{d:D}{k:TK}(e:keyD d=some k):k.d=d∧k.ok 8=true:=by
 cases d with
 |int i=>cases e;exact⟨by simp[TK.d],rfl⟩
 |str i=>cases e;exact⟨by simp[TK.d],rfl⟩
 |tup l=>
  simp only[keyD] at e
  obtain⟨ks,h1,e⟩:=Option.bind_eq_some_iff.mp e
  split at e
  ·rename_i h
   cases e
   exact⟨by simp only[TK.d];rw[tkDs_d h1],h⟩
  ·cases e
 |_=>cases e
noncomputable def dictO:O→Option (List (TK×D))
 |.frz (.dct kvs)=>some kvs
 |.dct kvs=>some (O.dk kvs)
 |_=>none
theorem c0n{α β:Type}:∀{ws:List (TK×α)} {kvs:List (TK×β)},ws.map (·.1)=kvs.map (·.1)→ws.map (·.1.d)=kvs.map (·.1.d):=fun{ws kvs} h=>by
 have:=congrArg (List.map TK.d) h
 rw[List.map_map,List.map_map] at this
 exact this
theorem c8x{F H:Hp}{x:V}{o:O}{B:List Addr}{kvs:List (TK×D)}(le:Same F H)(h:OwnL K F H [some x] [some o] B)(e:dictO o=some kvs):∃a ws ep,x=.ref a∧H a=some (.dG ws ep)∧ws.map (·.1)=kvs.map (·.1)∧RepL K H (ws.map (·.2.1)) (ws.map (·.1.d))∧RepL K H (ws.map (·.2.2)) (kvs.map (·.2)):=by
 have r:=a4f le h
 have ed:o.d=.dct kvs:=by
  cases o with
  |frz d=>cases d <;> cases e;rfl
  |dct _=>cases e;rfl
  |_=>cases e
 rw[ed] at r
 cases r with
 |flat z _=>cases z
 |dct q k r i _=>exact⟨_,_,_,rfl,q,k,by rw[c0n k];exact r,i⟩
noncomputable def valD (kvs:List (TK×D)) (k:TK):Option D:=(kvs.find? fun kv=>decide (kv.1=k)).map (·.2)
theorem b8y{F:Hp}{k:TK}:∀{ws:List (TK×V×V)} {kvs:List (TK×D)},ws.map (·.1)=kvs.map (·.1)→RepL K F (ws.map (·.2.2)) (kvs.map (·.2))→(valX ws k=none∧valD kvs k=none)∨∃v d,valX ws k=some v∧valD kvs k=some d∧RepL K F [v] [d]
 |[],[],_,_=>.inl ⟨rfl,rfl⟩
 |w::ws,p::kvs,h,r=>by
  rw[List.map_cons,List.map_cons] at h
  injection h with h1 h2
  unfold valX valD
  rw[List.find?_cons,List.find?_cons,h1]
  by_cases e:p.1=k
  ·rw[decide_eq_true e]
   exact .inr ⟨w.2.2,p.2,rfl,rfl,r.inv.1⟩
  ·rw[decide_eq_false e]
   exact b8y h2 r.inv.2
 |[],_::_,h,_=>by simp at h
 |_::_,[],h,_=>by simp at h
theorem c2g{F:Hp}{k:TK}{ws:List (TK×V×V)}{kvs:List (TK×D)}(h:ws.map (·.1)=kvs.map (·.1))(r:RepL K F (ws.map (·.2.2)) (kvs.map (·.2))):(valX ws k).isSome=(valD kvs k).isSome:=by
 rcases b8y (k:=k) h r with⟨e1,e2⟩|⟨v,d,e1,e2,_⟩ <;> rw[e1,e2] <;> rfl
noncomputable def oInG (neg:Bool):List O→Option O
 |[a,b]=>match dictO b with
  |some kvs=>(match a with
   |.frz d=>(keyD d).bind fun k=>some (.frz (.bl (if neg then !(valD kvs k).isSome else(valD kvs k).isSome)))
   |_=>none)
  |none=>(match a,b with
   |.frz (.str i),.frz (.str j)=>some (.frz (.bl (if neg then !(!(Builtin.Str.occurrences j i 0 j.length 1).isEmpty) else !(Builtin.Str.occurrences j i 0 j.length 1).isEmpty)))
   |a,b=>(seqO b.d).bind fun ds=>if okD 40 a.d=true∧ds.all (okD 40)=true then some (.frz (.bl (if neg then !ds.any fun z=>eqD z a.d else ds.any fun z=>eqD z a.d))) else none)
 |_=>none
theorem b0i(neg:Bool):OpOk K (r2L (rInA K neg)) (oInG neg):=by
 intro F H vs os o Q le see e res
 unfold oInG at e
 split at e
 ·rename_i a b
  obtain⟨x,y,B,C,rfl,h1,h2⟩:=see.two
  cases q:dictO b with
  |some kvs=>
   rw[q] at e
   dsimp only at e
   cases a with
   |frz d=>
    dsimp only at e
    cases q2:keyD d with
    |none=>rw[q2] at e;cases e
    |some k=>
     rw[q2] at e
     cases e
     obtain⟨p,ws,ep,rfl,hp,hk,rk,hr⟩:=c8x le h2 q
     refine⟨_,_,rfl,.inr (.inr ⟨p,valX ws k,rfl,⟨ws,ep,k,hp,rk,by rw[(a7n q2).1];exact a4f le h1,(a7n q2).2,rfl⟩,?_⟩)⟩
     rw[c2g hk hr]
     exact res.flat rfl
   |_=>cases e
  |none=>
   rw[q] at e
   dsimp only at e
   split at e
   ·cases e
    cases a0v h1 rfl
    cases a0v h2 rfl
    exact⟨_,_,rfl,.inr (.inl ⟨_,_,rfl,rfl,res.flat rfl⟩)⟩
   ·cases q3:seqO b.d with
    |none=>rw[q3] at e;cases e
    |some ds=>
     rw[q3] at e
     dsimp only[Option.bind] at e
     split at e
     ·rename_i hh
      cases e
      exact⟨_,_,rfl,.inl ⟨_,_,ds,a4f le h1,a4f le h2,q3,hh.1,hh.2,res.flat rfl⟩⟩
     ·cases e
 ·cases e
noncomputable def rIxA (K:PySem.W.Frag):R2:=fun x y H Q=>rIxL K x y H Q∨rIxT K x y H Q∨rIxS x y H Q∨∃a v,x=.ref a∧XGet K H a y (some v)∧Q v H
theorem d2z(hu:X.A.units+9 < cLine):IxR X (fun x y H Q=>∃a v,x=.ref a∧XGet X.K H a y (some v)∧Q v H):=by
 intro value slice pins s σ H x y v u Q I rx ry h hs
 obtain⟨a,w,rfl,g,q⟩:=h
 cases rx
 exact tail_any (g.ty I).1 PySem.F.slot_dict_getitem.lookup (c4q hu I g ry fun w' s3 I3 rw'=>⟨w,H,I3,rw',q⟩) hs
theorem a4u(K:PySem.W.Frag)(hu:X.A.units+41 < cLine)(hK:X.K=K:=by rfl):IxR X (rIxA K):=by
 subst hK
 exact(c8l X.K rfl).or ((d2m X.K rfl).or (ix_str.or (d2z (by omega))))
noncomputable def unfrz:O→Option O
 |.frz d=>some (.frz d)
 |_=>none
noncomputable def valO (kvs:List (TK×O)) (k:TK):Option O:=(kvs.find? fun kv=>decide (kv.1=k)).map (·.2)
noncomputable def intD:D→Option Int
 |.int k=>some k
 |_=>none
theorem a8w{i:D}{k:Int}(h:intD i=some k):i=.int k:=by
 cases i with
 |int _=>cases h;rfl
 |_=>cases h
noncomputable def ixD (d i:D):Option O:=match d with
 |.lst ds=>(intD i).bind fun k=>(atI ds k).map .frz
 |.tup ds=>(intD i).bind fun k=>(atI ds k).map .frz
 |.scr ns=>(intD i).bind fun k=>(atI (ns.map D.int) k).map .frz
 |.str z=>(intD i).bind fun k=>if z.length≤1000000 then(atI z.cps.toList k).map fun c=>.frz (.str ⟨#[c]⟩) else none
 |.dct kvs=>(keyD i).bind fun k=>(valD kvs k).map .frz
 |_=>none
noncomputable def oIx1 (a:O) (i:D):Option O:=match a with
 |.frz d=>ixD d i
 |.lst os=>(intD i).bind fun k=>(atI os k).bind unfrz
 |.tup os=>(intD i).bind fun k=>(atI os k).bind unfrz
 |.dct kvs=>(keyD i).bind fun k=>(valO kvs k).bind unfrz
noncomputable def oIx:List O→Option O
 |[a,.frz i]=>oIx1 a i
 |_=>none
theorem b8z{F:Hp}{ws:List V}{ds:List D}{i:Int}{d:D}(r:RepL K F ws ds)(e:atI ds i=some d):∃v,atI ws i=some v∧RepL K F [v] [d]:=by
 unfold atI at e ⊢
 rw[r.length]
 cases q:ixN ds.length i with
 |none=>rw[q] at e;cases e
 |some j=>
  rw[q] at e
  exact r.get e
theorem c4u{F H:Hp}:∀{ws:List V} {os:List O} {B:List Addr} {j:Nat} {d:D},OwnL K F H (ws.map some) (os.map some) B→os[j]?=some (.frz d)→∃v,ws[j]?=some v∧RepL K F [v] [d]
 |w::ws,o::os,B,0,d,h,e=>by
  obtain⟨B1,B2,h1,h2,_⟩:=OwnL.one h
  simp at e
  subst e
  cases h1 with
  |frz r _=>exact⟨w,rfl,r⟩
 |w::ws,o::os,B,j+1,d,h,e=>by
  obtain⟨B1,B2,h1,h2,_⟩:=OwnL.one h
  obtain⟨v,g1,g2⟩:=c4u (j:=j) h2 (by simpa using e)
  exact⟨v,by simpa using g1,g2⟩
 |[],[],_,_,_,_,e=>by simp at e
 |[],_::_,_,_,_,h,_=>by have:=h.length;simp at this
 |_::_,[],_,_,_,h,_=>by have:=h.length;simp at this
theorem c4v{F H:Hp}{ws:List V}{os:List O}{B:List Addr}{i:Int}{o:O}(r:OwnL K F H (ws.map some) (os.map some) B)(e:(atI os i).bind unfrz=some o):∃v d,atI ws i=some v∧RepL K F [v] [d]∧o=.frz d:=by
 have hl:ws.length=os.length:=by have:=r.length;simpa using this
 unfold atI at e ⊢
 rw[hl]
 cases q:ixN os.length i with
 |none=>rw[q] at e;cases e
 |some j=>
  rw[q] at e
  dsimp only[Option.bind] at e
  cases q2:os[j]? with
  |none=>rw[q2] at e;cases e
  |some o'=>
   rw[q2] at e
   dsimp only at e
   cases o' with
   |frz d=>cases e;obtain⟨v,g1,g2⟩:=c4u r q2;exact⟨v,d,g1,g2,rfl⟩
   |_=>cases e
theorem b4y{F H:Hp}{v:V}{d:D}{B:List Addr}(h:OwnL K F H [some v] [some (.frz d)] B):RepL K F [v] [d]:=by
 cases h with
 |frz r _=>exact r
theorem c4w{F H:Hp}{k:TK}{d:D}:∀{ws:List (TK×V×V)} {kvs:List (TK×O)} {B:List Addr},ws.map (·.1)=kvs.map (·.1)→OwnL K F H (ws.map fun p=>some p.2.2) (kvs.map fun p=>some p.2) B→valO kvs k=some (.frz d)→∃v,valX ws k=some v∧RepL K F [v] [d]
 |[],[],_,_,_,e=>by cases e
 |w::ws,p::kvs,B,h,r,e=>by
  rw[List.map_cons,List.map_cons] at h
  injection h with h1 h2
  obtain⟨B1,B2,g1,g2,_⟩:=OwnL.one r
  unfold valO at e
  unfold valX
  rw[List.find?_cons] at e ⊢
  rw[h1]
  by_cases q:p.1=k
  ·rw[decide_eq_true q] at e ⊢
   have e:some p.2=some (.frz d):=e
   injection e with e
   have g1:OwnL K F H [some w.2.2] [some p.2] B1:=g1
   rw[e] at g1
   exact⟨w.2.2,rfl,b4y g1⟩
  ·rw[decide_eq_false q] at e ⊢
   exact c4w h2 g2 e
 |[],_::_,_,h,_,_=>by simp at h
 |_::_,[],_,h,_,_=>by simp at h
theorem a1r:OpOk K (r2L (rIxA K)) oIx:=by
 intro F H vs os o Q le see e res
 unfold oIx at e
 split at e
 ·rename_i a i
  obtain⟨x,y,B,C,rfl,h1,h2⟩:=see.two
  refine⟨_,_,rfl,?_⟩
  cases h1 with
  |@frz _ da _ _ _ r _=>
   cases r with
   |lst sq ri _=>
    obtain⟨k,hk,ee⟩:=Option.bind_eq_some_iff.mp (show(intD i).bind (fun k=>(atI _ k).map O.frz)=some o from e)
    cases a8w hk
    cases a0v h2 rfl
    obtain⟨d,q1,q2⟩:=Option.map_eq_some_iff.mp ee
    subst q2
    obtain⟨v,g1,g2⟩:=b8z ri q1
    exact .inl ⟨_,_,_,v,rfl,rfl,.inl (le.rd sq),g1,res.frz g2⟩
   |exc _ _=>cases e
   |@scr _ ns _ _ sq _=>
    obtain⟨k,hk,ee⟩:=Option.bind_eq_some_iff.mp (show(intD i).bind (fun k=>(atI (ns.map D.int) k).map O.frz)=some o from e)
    cases a8w hk
    cases a0v h2 rfl
    obtain⟨d,q1,q2⟩:=Option.map_eq_some_iff.mp ee
    subst q2
    obtain⟨v,g1,g2⟩:=b8z (b4v (K:=K) (F:=F) ns) q1
    exact .inl ⟨_,_,_,v,rfl,rfl,le.seq sq,g1,res.frz g2⟩
   |tup sq ri _=>
    obtain⟨k,hk,ee⟩:=Option.bind_eq_some_iff.mp (show(intD i).bind (fun k=>(atI _ k).map O.frz)=some o from e)
    cases a8w hk
    cases a0v h2 rfl
    obtain⟨d,q1,q2⟩:=Option.map_eq_some_iff.mp ee
    subst q2
    obtain⟨v,g1,g2⟩:=b8z ri q1
    exact .inr (.inl ⟨_,_,_,v,rfl,rfl,le.seqT sq,g1,res.frz g2⟩)
   |@dct _ ws es ep _ _ hd hk rk ri _=>
    obtain⟨k,q,e⟩:=Option.bind_eq_some_iff.mp (show(keyD i).bind (fun k=>(valD es k).map O.frz)=some o from e)
    obtain⟨d,q1,q2⟩:=Option.map_eq_some_iff.mp e
    subst q2
    rcases b8y (k:=k) hk ri with⟨_,z⟩|⟨v,d',g1,g2,g3⟩
    ·rw[q1] at z;cases z
    ·rw[q1] at g2
     cases g2
     exact .inr (.inr (.inr ⟨_,v,rfl,⟨ws,ep,k,le _ _ hd,by rw[c0n hk];exact rk.mono le,by rw[(a7n q).1];exact a4f le h2,(a7n q).2,g1.symm⟩,res.frz g3⟩))
   |flat z _=>
    cases da with
    |str zz=>
     obtain⟨k,hk,ee⟩:=Option.bind_eq_some_iff.mp (show(intD i).bind (fun k=>if zz.length≤1000000 then(atI zz.cps.toList k).map fun c=>O.frz (.str ⟨#[c]⟩) else none)=some o from e)
     cases a8w hk
     split at ee
     ·obtain⟨c,q1,q2⟩:=Option.map_eq_some_iff.mp ee
      subst q2
      cases z
      cases a0v h2 rfl
      exact .inr (.inr (.inl ⟨_,_,c,rfl,rfl,ml (by assumption),q1,res.flat rfl⟩))
     ·cases ee
    |non=>cases e
    |bl _=>cases e
    |int _=>cases e
    |ty _=>cases e
    |_=>cases z
  |lst sq ri _=>
   obtain⟨k,hk,ee⟩:=Option.bind_eq_some_iff.mp (show(intD i).bind (fun k=>(atI _ k).bind unfrz)=some o from e)
   cases a8w hk
   cases a0v h2 rfl
   obtain⟨v,d,g1,g2,rfl⟩:=c4v ri ee
   exact .inl ⟨_,_,_,v,rfl,rfl,SqL.of sq,g1,res.frz g2⟩
  |tup sq ri _=>
   obtain⟨k,hk,ee⟩:=Option.bind_eq_some_iff.mp (show(intD i).bind (fun k=>(atI _ k).bind unfrz)=some o from e)
   cases a8w hk
   cases a0v h2 rfl
   obtain⟨v,d,g1,g2,rfl⟩:=c4v ri ee
   exact .inr (.inl ⟨_,_,_,v,rfl,rfl,SqT.of sq,g1,res.frz g2⟩)
  |@dct _ ws es ep _ _ _ _ hd hk rk ri _=>
   obtain⟨k,q,e⟩:=Option.bind_eq_some_iff.mp (show(keyD i).bind (fun k=>(valO es k).bind unfrz)=some o from e)
   obtain⟨o',q2,e⟩:=Option.bind_eq_some_iff.mp e
   cases o' with
   |frz d=>
    cases e
    obtain⟨v,g1,g2⟩:=c4w hk ri q2
    exact .inr (.inr (.inr ⟨_,v,rfl,⟨ws,ep,k,hd,by rw[c0n hk];exact rk.mono le,by rw[(a7n q).1];exact a4f le h2,(a7n q).2,g1.symm⟩,res.frz g2⟩))
   |_=>cases e
 ·cases e
noncomputable def rLenA (K:PySem.W.Frag):List V→Hp→VK→Prop:=fun xs H Q=>(∃p ys,xs=[.ref p]∧(SqL K H p ys∨SqT K H p ys)∧Q (.int ys.length) H)∨(∃z,xs=[.str z]∧z.length≤sizeLine∧Q (.int z.length) H)
theorem a1s(K:PySem.W.Frag)(hK:X.K=K:=by rfl):CallR X (.builtin "len") (rLenA K):=(b4p K hK).or b6i
noncomputable def lenD:D→Option Int
 |.lst ds=>some ds.length
 |.tup ds=>some ds.length
 |.str z=>if z.length≤1000000 then some z.length else none
 |.scr ns=>some ns.length
 |_=>none
noncomputable def oLen:List O→Option O
 |[a]=>(lenD a.d).map fun n=>.frz (.int n)
 |_=>none
theorem a4y:OpOk K (rLenA K) oLen:=by
 intro F H vs os o Q le see e res
 unfold oLen at e
 split at e
 ·rename_i a
  obtain⟨x,B,rfl,h1⟩:=see.one
  obtain⟨n,q1,q2⟩:=Option.map_eq_some_iff.mp e
  subst q2
  have r:=a4f le h1
  cases hd:a.d with
  |lst ds=>
   rw[hd] at q1 r
   cases q1
   cases r with
   |flat z _=>cases z
   |lst sq ri _=>exact .inl ⟨_,_,rfl,.inl (.inl sq),by rw[ri.length];exact res.flat rfl⟩
  |tup ds=>
   rw[hd] at q1 r
   cases q1
   cases r with
   |flat z _=>cases z
   |tup sq ri _=>exact .inl ⟨_,_,rfl,.inr sq,by rw[ri.length];exact res.flat rfl⟩
  |str z=>
   rw[hd] at q1 r
   unfold lenD at q1
   dsimp only at q1
   split at q1
   ·cases q1
    cases r with
    |flat z _=>cases z;exact .inr ⟨_,rfl,ml (by assumption),res.flat rfl⟩
   ·cases q1
  |scr ns=>
   rw[hd] at q1 r
   cases q1
   cases r with
   |flat z _=>cases z
   |scr sq _=>exact .inl ⟨_,_,rfl,.inl sq,by rw[List.length_map];exact res.flat rfl⟩
  |_=>rw[hd] at q1;cases q1
 ·cases e
noncomputable def kindD:D→Option String
 |.non=>some "NoneType"
 |.bl _=>some "bool"
 |.int _=>some "int"
 |.str _=>some "str"
 |.lst _=>some "list"
 |.tup _=>some "tuple"
 |_=>none
noncomputable def oIsi:List O→Option O
 |[a,.frz (.ty T)]=>if T="int"∨T="str"∨T="bool"∨T="list"∨T="tuple" then(kindD a.d).map fun k=>.frz (.bl (isiB k T)) else none
 |_=>none
theorem c8y{H:Hp}{x:V}{d:D}{k:String}(r:RepL K H [x] [d])(e:kindD d=some k):b9z K H x k:=by
 cases r with
 |flat q _=>cases d <;> cases e <;> cases q <;> rfl
 |lst sq _ _=>cases e;exact .inl ⟨rfl,_,.inl sq⟩
 |tup sq _ _=>cases e;exact .inr ⟨rfl,_,sq⟩
 |dct _ _ _ _ _=>cases e
 |scr _ _=>cases e
 |exc _ _=>cases e
theorem a6l:OpOk K (fun xs H Q=>∃x k T,xs=[x,.ty T]∧b9z K H x k∧(T="int"∨T="str"∨T="bool"∨T="list"∨T="tuple")∧Q (.bl (isiB k T)) H) oIsi:=by
 intro F H vs os o Q le see e res
 unfold oIsi at e
 split at e
 ·split at e
  ·obtain⟨x,y,B,C,rfl,h1,h2⟩:=see.two
   obtain⟨k,q1,q2⟩:=Option.map_eq_some_iff.mp e
   subst q2
   cases a0v h2 rfl
   exact⟨x,k,_,rfl,c8y (a4f le h1) q1,by assumption,res.flat rfl⟩
  ·cases e
 ·cases e
noncomputable def oInt1:List O→Option O
 |[.frz (.int i)]=>some (.frz (.int i))
 |[.frz (.bl b)]=>some (.frz (.int (if b then 1 else 0)))
 |_=>none
theorem b4z:OpOk K (fun xs H Q=>(∃i,xs=[.int i]∧Q (.int i) H)∨∃k,xs=[.bl k]∧Q (.int (if k then 1 else 0)) H) oInt1:=by
 intro F H vs os o Q le see e res
 unfold oInt1 at e
 split at e
 ·cases e
  obtain⟨x,B,rfl,h1⟩:=see.one
  cases a0v h1 rfl
  exact .inl ⟨_,rfl,res.flat rfl⟩
 ·cases e
  obtain⟨x,B,rfl,h1⟩:=see.one
  cases a0v h1 rfl
  exact .inr ⟨_,rfl,res.flat rfl⟩
 ·cases e
end
end L2
namespace L2
open PySem PySem.Spec PyProof.Rows
noncomputable def MutOk (K:PySem.W.Frag) (r:V→List V→Hp→VK→Prop) (g:O→List O→Option (O×O)):Prop:=
 ∀(F H:Hp) (x:V) (vs:List V) (o:O) (os:List O) (o' res:O) (Ai Aτ:List Addr) (Q:VK),Same F H→OwnL K F H [some x] [some o] Ai→OwnL K F H (vs.map some) (os.map some) Aτ→(Ai++Aτ).Nodup→(∀a∈Ai++Aτ,F a=none)→
  g o os=some (o',res)→
  (∀v H' A' Ar,(∀a u,a∉Ai→H a=some u→H' a=some u)→(∀a,H a≠none→H' a≠none)→OwnL K F H' [some x] [some o'] A'→OwnL K F H' [some v] [some res] Ar→SubP (Ar++A') (Ai++Aτ)→Q v H')→r x vs H Q
noncomputable def gMut (g:O→List O→Option (O×O)) (fo:GE) (fs:GA):GE:=fun Γ=>(fo Γ).bind fun p=>match p.1 with
 |.var i=>match p.2[i]? with
  |some (some (.lst _))=>(fs p.2).bind fun q=>(ownL q.1).bind fun os=>match q.2[i]? with
   |some (some o)=>(g o os).bind fun z=>some (.own z.2,q.2.set i (some z.1))
   |_=>none
  |_=>none
 |_=>none
section
variable {K:PySem.W.Frag} {F H:Hp} {A:List Addr} {σ:St} {Γ:Gm}
theorem c8z{g:O→List O→Option (O×O)}{fo:GE}{fs:GA}{Γ Γ':Gm}{r:R}(e:gMut g fo fs Γ=some (r,Γ')):
  ∃i Γ1 ps rs Γ2 os o z,fo Γ=some (.var i,Γ1)∧Γ1[i]?=some (some (.lst ps))∧fs Γ1=some (rs,Γ2)∧ownL rs=some os∧Γ2[i]?=some (some o)∧g o os=some z∧r=.own z.2∧Γ'=Γ2.set i (some z.1):=by
 unfold gMut at e
 cases q:fo Γ with
 |none=>rw[q] at e;cases e
 |some p=>
  obtain⟨r1,Γ1⟩:=p
  rw[q] at e
  dsimp only[Option.bind] at e
  cases r1 with
  |own _=>cases e
  |var i=>
   dsimp only at e
   split at e
   ·rename_i ps h1
    cases q2:fs Γ1 with
    |none=>rw[q2] at e;cases e
    |some p2=>
     obtain⟨rs,Γ2⟩:=p2
     rw[q2] at e
     dsimp only at e
     cases q3:ownL rs with
     |none=>rw[q3] at e;cases e
     |some os=>
      rw[q3] at e
      dsimp only at e
      split at e
      ·rename_i o h2
       cases q4:g o os with
       |none=>rw[q4] at e;cases e
       |some z=>rw[q4] at e;cases e;exact⟨i,Γ1,ps,rs,Γ2,os,o,z,rfl,h1,q2,q3,h2,q4,rfl,rfl⟩
      ·cases e
   ·cases e
theorem OK.mutate{vs:List V}{os:List O}{i:Nat}{x:V}{o o' res:O}{g:O→List O→Option (O×O)}{r:V→List V→Hp→VK→Prop}{Q:VK}(ok:MutOk K r g)(k:OK K F H (vs.map some++σ) (os.map some++Γ) A)(hx:σ[i]?=some (some x))(ho:Γ[i]?=some (some o))
  (hl:vs.length=os.length) (e:g o os=some (o',res)) (q:∀v H' A',Ext F H A F H' A'→OK K F H' (some v::σ) (some res::Γ.set i (some o')) A'→Q v H'):r x vs H Q:=by
 obtain⟨B,C,h1,h2,h3⟩:=OwnL.split (by simpa using hl) k.os
 subst h3
 obtain⟨x',Ai,C',g1,g2,g3,g4⟩:=h2.take ho
 rw[hx] at g1
 cases g1
 have p1:(B++C).Perm ((Ai++B)++C'):=by
  refine(List.Perm.append_left B g4).trans ?_
  rw[←List.append_assoc]
  exact List.perm_append_comm.append_right _
 have nd:((Ai++B)++C').Nodup:=p1.nodup_iff.mp k.nd
 have fr:∀a∈(Ai++B)++C',F a=none:=fun a m=>k.fr a (p1.mem_iff.mpr m)
 obtain⟨n1,n2,n3⟩:=List.nodup_append.mp nd
 have nC:∀a∈C',a∉Ai:=fun a m z=>n3 a (List.mem_append_left _ z) a m rfl
 refine ok F H x vs o os o' res Ai B Q k.le g2 h1 n1 (fun a m=>fr a (List.mem_append_left _ m)) e fun v H' A' Ar kp dm w1 w2 sp=>?_
 have s2:SubP ((Ar++A')++C') ((Ai++B)++C'):=sp.app (SubP.refl C')
 have hi:i < Γ.length:=(List.getElem?_eq_some_iff.mp ho).1
 have g3':OwnL K F H' σ (Γ.set i none) C':=g3.keep (Same.refl _) fun a m u e=>kp a u (nC a m) e
 obtain⟨D,j1,C2,j2,j3⟩:=OwnL.put w1 i g3' (by rw[List.length_set];exact hi)
 rw[a4j hx,List.set_set] at j1
 have s3:SubP (Ar++D) (B++C):=by
  have a1:SubP (Ar++D) (Ar++(A'++C')):=(SubP.refl Ar).app ((SubP.of_perm j2).trans ((SubP.refl A').app (.of_sub j3)))
  rw[←List.append_assoc] at a1
  exact a1.trans (s2.trans (.of_perm p1.symm))
 refine q v H' (Ar++D) ⟨Same.refl _,fun a u e n=>kp a u (fun m=>n (p1.mem_iff.mpr (by simp[m]))) e,dm,fun a h=>.inl h,fun a m=>.inl (s3.mem a m)⟩ ⟨fun a u e=>?_,w2.app j1,s3.nodup k.nd,fun a m=>k.fr a (s3.mem a m)⟩
 refine kp a u (fun m=>?_) (k.le a u e)
 rw[fr a (by simp[m])] at e
 cases e
end
section
variable {X:Cx} {K:PySem.W.Frag} {o e:Expr} {es:List Expr} {fo:GE} {fs:GA} {name:Str} {apos cpos:Pos} {id:String} {r:V→List V→Hp→VK→Prop} {g:O→List O→Option (O×O)}
theorem d5v(ok:MutOk K r g){σ:St}{H:Hp}{Q:VK}(t:tG K (gMut g fo fs) σ H Q):tBM K "list" r (tG K fo) (tGA K fs) σ H Q:=by
 obtain⟨F,A,Γ,rr,Γ',k,e,w⟩:=t
 obtain⟨i,Γ1,ps,rs,Γ2,os,o,z,e1,e2,e3,e4,e5,e6,rfl,rfl⟩:=c8z e
 refine⟨F,A,Γ,_,Γ1,k,e1,fun x H1 p=>?_⟩
 obtain⟨F1,A1,x1,k1,hh⟩:=p
 have hx:σ[i]?=some (some x):=hh.1
 obtain⟨k2,x2⟩:=k1.sub (σ':=σ) (Γ':=Γ1) (by cases k1.os with|skip t=>exact t) (SubP.refl _)
 refine⟨?_,F1,A1,Γ1,rs,Γ2,k2,e3,fun vs H2 p2=>?_⟩
 ·obtain⟨v,Ai,B,g1,g2,_⟩:=k2.os.take e2
  rw[hx] at g1
  cases g1
  cases g2 with
  |lst hq _ _=>exact .inl ⟨rfl,_,SqL.of hq⟩
 ·obtain⟨F3,A3,x3,k3,h3⟩:=p2
  rw[a3u e4] at k3
  have hl:vs.length=os.length:=by
   have:=h3.length
   have h4:=congrArg List.length (a3u e4)
   simp at h4
   omega
  exact OK.mutate ok k3 hx e5 hl e6 fun v H' A' x4 k4=>w v H' ⟨F3,A',(x1.trans (x2.trans (x3.trans x4))),k4,True.intro⟩
theorem b3x(slot:Slot "list" name id)(hty:typeOf (.builtin id)=pure (.type "method_descriptor"))(hm:MtM X id r)(ok:MutOk K r g)(ho:PE X o (tG K fo))(ha:PA X (e::es) (tGA K fs))
  (hbase:attributeBase o name X.env (eval o X.env)=eval o X.env:=by rfl)
  (hfew:((backTo cpos (starEach (e::es) X.env)).all (fun x => !x.1) && (backToKw cpos (keywordEach [] X.env)).all (fun x=>x.1.isSome)
   && decide ((e::es).length+([]:List Keyword).length+(if([]:List Keyword).isEmpty then 0 else 1) < 30))=true:=by rfl)
  (hline:(apos.endLine == cpos.line)=true:=by rfl) (hs:starEach (e::es) X.env=(false,eval e X.env)::starEach es X.env:=by rfl) (hplain:(backTo cpos (starEach es X.env)).any (·.1)=false:=by rfl) (hK:X.K=K:=by rfl) :
  PE X (.Call (.Attribute o name apos) (e::es) [] cpos) (tG K (gMut g fo fs)):=by
 subst hK
 exact(b8m PySem.F.plainAttrs_list slot hty hm ho ha hbase hfew hline hs hplain).mono fun _ _ _ t=>d5v ok t
end
section
variable {K:PySem.W.Frag} {F H:Hp} {l:Addr} {ws ws':List V} {ps ps':List O} {Ap A':List Addr}
theorem c2h(hn:l∉A')(h:OwnL K F H (ws'.map some) (ps'.map some) A'):OwnL K F (upd H l (.lst ws')) [some (.ref l)] [some (.lst ps')] (l::A'++[]):=
 .lst a1g (h.keep (Same.refl _) fun a m u e=>by rw[a0s (fun z=>hn (by rw[←z];exact m):a≠l)];exact e) .nil
theorem c0o{o:HO}{Ai:List Addr}(hm:l∈Ai):∀a u,a∉Ai→H a=some u→upd H l o a=some u:=fun a u n e=>by
 rw[a0s (fun z=>n (by rw[z];exact hm):a≠l)];exact e
theorem b5a{o:HO}:∀a,H a≠none→upd H l o a≠none:=fun a h=>by
 by_cases z:a=l
 ·rw[z,a1g];exact fun z=>by cases z
 ·rw[a0s z];exact h
theorem a9i{x:V}{Ai Aτ:List Addr}{Q:VK}{o:O}(h:OwnL K F H [some x] [some o] Ai)(hps:o=.lst ps)(nd:(Ai++Aτ).Nodup){o' res:O}
  (q:∀v H' A' Ar,(∀a u,a∉Ai→H a=some u→H' a=some u)→(∀a,H a≠none→H' a≠none)→OwnL K F H' [some x] [some o'] A'→OwnL K F H' [some v] [some res] Ar→SubP (Ar++A') (Ai++Aτ)→Q v H') :
  ∃l ws Ap,x=.ref l∧H l=some (.lst ws)∧OwnL K F H (ws.map some) (ps.map some) Ap∧(Ap++Aτ).Nodup∧∀ws' ps' A' v Ar,o'=.lst ps'→OwnL K F H (ws'.map some) (ps'.map some) A'→OwnL K F H [some v] [some res] Ar→SubP (Ar++A') (Ap++Aτ)→Q v (upd H l (.lst ws')):=by
 subst hps
 cases h with
 |@lst l ws _ Ap B _ _ hl i t=>
  have eB:B=[]:=by cases t;rfl
  subst eB
  rw[List.append_nil] at nd q
  obtain⟨nl,nd'⟩:=List.nodup_cons.mp (by simpa using nd:(l::(Ap++Aτ)).Nodup)
  refine⟨l,ws,Ap,rfl,hl,i,nd',fun ws' ps' A' v Ar eo w1 w2 sp=>?_⟩
  subst eo
  have nA:l∉A':=fun m=>nl (sp.mem l (List.mem_append_right _ m))
  have nR:l∉Ar:=fun m=>nl (sp.mem l (List.mem_append_left _ m))
  refine q v _ _ Ar (c0o (by simp)) b5a (c2h nA w1) (w2.keep (Same.refl _) fun a m u e=>by rw[a0s (fun z=>nR (by rw[←z];exact m):a≠l)];exact e) ?_
  rw[List.append_nil]
  have s1:SubP (Ar++l::A') (l::(Ar++A')):=.of_perm (by simpa using List.perm_middle)
  refine s1.trans ?_
  obtain⟨L,p1,p2⟩:=sp
  exact⟨l::L,p1.cons l,by rw[List.cons_append];exact p2.cons_cons l⟩
theorem b2f:OwnL K F H [some .non] [some (.frz .non)] []:=.frz (.flat rfl .nil) .nil
noncomputable def a1z:O→List O→Option (O×O)
 |.lst ps,[y]=>if ps.length < 1000000 then some (.lst (ps++[y]),.frz .non) else none
 |_,_=>none
theorem a7o:MutOk K b8n a1z:=by
 intro F H x vs o os o' res Ai Aτ Q le h1 h2 nd fr e q
 unfold a1z at e
 split at e
 ·rename_i ps y
  split at e
  ·rename_i hz
   cases e
   obtain⟨l,ws,Ap,rfl,hl,i,nd',go⟩:=a9i h1 rfl nd q
   match vs,h2 with
   |[v],h2=>
    have hlen:ws.length=ps.length:=by have:=i.length;simpa using this
    refine⟨l,ws,v,rfl,rfl,hl,Nat.lt_of_lt_of_le (by omega:ws.length < 1000000) (by decide),?_⟩
    refine go (ws++[v]) (ps++[y]) (Ap++Aτ) .non [] rfl ?_ b2f (SubP.refl _)
    rw[List.map_append,List.map_append]
    exact i.app h2
   |[],h2=>have:=h2.length;simp at this
   |_::_::_,h2=>have:=h2.length;simp at this
  ·cases e
 ·cases e
noncomputable def a4g:O→List O→Option (O×O)
 |.lst ps,[.frz (.int i),y]=>if 0≤i∧i < 1000000∧ps.length < 1000000 then some (.lst (ps.take i.toNat++y::ps.drop i.toNat),.frz .non) else none
 |_,_=>none
theorem b2g:MutOk K c3x a4g:=by
 intro F H x vs o os o' res Ai Aτ Q le h1 h2 nd fr e q
 unfold a4g at e
 split at e
 ·rename_i ps k y
  split at e
  ·rename_i hz
   cases e
   obtain⟨l,ws,Ap,rfl,hl,i,nd',go⟩:=a9i h1 rfl nd q
   match vs,h2 with
   |[v,v'],h2=>
    have hlen:ws.length=ps.length:=by have:=i.length;simpa using this
    obtain⟨rfl,h3⟩:=a7l h2
    refine⟨l,ws,k,v',rfl,rfl,hl,hz.1,by omega,Nat.lt_of_lt_of_le (by omega:ws.length < 1000000) (by decide),?_⟩
    have es:OwnL K F H ((ws.take k.toNat).map some++(ws.drop k.toNat).map some) ((ps.take k.toNat).map some++(ps.drop k.toNat).map some) Ap:=by
     rw[←List.map_append,←List.map_append,List.take_append_drop,List.take_append_drop];exact i
    obtain⟨B,C,g1,g2,g3⟩:=OwnL.split (by simp[hlen]) es
    subst g3
    refine go (insV ws k.toNat v') (ps.take k.toNat++y::ps.drop k.toNat) (B++(Aτ++C)) .non [] rfl ?_ b2f ?_
    ·unfold insV
     rw[List.map_append,List.map_append,List.map_cons,List.map_cons]
     exact g1.app (h3.app g2)
    ·rw[List.nil_append,List.append_assoc]
     exact(SubP.refl B).app (.of_perm List.perm_append_comm)
   |[],h2=>have:=h2.length;simp at this
   |[_],h2=>have:=h2.length;simp at this
   |_::_::_::_,h2=>have:=h2.length;simp at this
  ·cases e
 ·cases e
noncomputable def mPop:O→List O→Option (O×O)
 |.lst ps,[]=>(ps[ps.length - 1]?).map fun y=>(.lst ps.dropLast,y)
 |_,_=>none
theorem d5w:MutOk K rPop mPop:=by
 intro F H x vs o os o' res Ai Aτ Q le h1 h2 nd fr e q
 unfold mPop at e
 split at e
 ·rename_i ps
  obtain⟨y,e1,e2⟩:=Option.map_eq_some_iff.mp e
  cases e2
  obtain⟨l,ws,Ap,rfl,hl,i,nd',go⟩:=a9i h1 rfl nd q
  match vs,h2 with
  |[],h2=>
   have hlen:ws.length=ps.length:=by have:=i.length;simpa using this
   have hp:0 < ps.length:=by
    have:=(List.getElem?_eq_some_iff.mp e1).1
    omega
   have hpn:ps≠[]:=fun z=>by rw[z] at hp;simp at hp
   have hwn:ws≠[]:=fun z=>by rw[z] at hlen;simp at hlen;omega
   have ey:ps.getLast hpn=res:=by
    rw[List.getLast_eq_getElem]
    exact(List.getElem?_eq_some_iff.mp e1).2
   have ep:ps=ps.dropLast++[res]:=by rw[←ey];exact(List.dropLast_concat_getLast hpn).symm
   have ew:ws=ws.dropLast++[ws.getLast hwn]:=(List.dropLast_concat_getLast hwn).symm
   have es:OwnL K F H (ws.dropLast.map some++[some (ws.getLast hwn)]) (ps.dropLast.map some++[some res]) Ap:=by
    have:=i
    rw[ew,ep] at this
    simpa using this
   obtain⟨B,C,g1,g2,g3⟩:=OwnL.split (by simp[hlen]) es
   subst g3
   refine⟨l,ws,ws.getLast hwn,rfl,rfl,hl,?_,go _ _ B _ C rfl g1 g2 ?_⟩
   ·rw[List.getLast_eq_getElem]
    simp
   ·exact(SubP.of_perm List.perm_append_comm).trans (.of_sub (List.sublist_append_left _ _))
  |_::_,h2=>have:=h2.length;simp at this
 ·cases e
end
end L2
namespace L2
open PySem PySem.Spec PyProof.Rows
noncomputable def rSetA (K:PySem.W.Frag):TSet:=fun o i v H Q=>rSetL o i v H Q∨∃a H4,o=.ref a∧XPut K H a i v H4∧Q H4
theorem d7y{X:Cx}(hu:X.A.units+41 < cLine):PSet X (rSetA X.K):=by
 intro pins s σ H o i v ov iv u Q I ro ri rv h
 rcases h with h|⟨a,H4,rfl,g,q⟩
 ·exact c8f pins s σ H o i v ov iv u Q I ro ri rv h
 ·cases ro
  exact c4t (by omega) I g ri rv fun s4 I4=>⟨H4,I4,q⟩
noncomputable def putG {α:Type}:List (TK×α)→TK→α→List (TK×α)
 |[],k,v=>[(k,v)]
 |e::es,k,v=>if e.1=k then(e.1,v)::es else e::putG es k v
noncomputable def setO (v:O) (i:D):O→Option (O×O)
 |.lst ps=>(intD i).bind fun k=>(ixN ps.length k).map fun j=>(.lst (ps.set j v),.frz .non)
 |.dct kvs=>(keyD i).bind fun k=>if kvs.length < 1000000 then some (.dct (putG kvs k v),.frz .non) else none
 |_=>none
noncomputable def mSet (o:O):List O→Option (O×O)
 |[v,.frz i]=>setO v i o
 |_=>none
noncomputable def rSetM (K:PySem.W.Frag):V→List V→Hp→VK→Prop:=fun x vs H Q=>∃v i,vs=[v,i]∧rSetA K x i v H fun H'=>Q .non H'
section
variable {K:PySem.W.Frag} {F H:Hp}
theorem c0p{k:TK}{y v:V}{o:O}{Bv:List Addr}(q:OwnL K F H [some v] [some o] Bv)(ry:RepL K F [y] [k.d]):∀{ws:List (TK×V×V)} {kvs:List (TK×O)} {B:List Addr},ws.map (·.1)=kvs.map (·.1)→RepL K F (ws.map (·.2.1)) (kvs.map (·.1.d))→
  OwnL K F H (ws.map fun p=>some p.2.2) (kvs.map fun p=>some p.2) B→∃C,OwnL K F H ((putX ws k y v).map fun p=>some p.2.2) ((putG kvs k o).map fun p=>some p.2) C∧SubP C (Bv++B)∧(putX ws k y v).map (·.1)=(putG kvs k o).map (·.1)∧
   RepL K F ((putX ws k y v).map (·.2.1)) ((putG kvs k o).map (·.1.d))
 |[],[],B,_,_,h=>⟨Bv,q,.of_sub (List.sublist_append_left _ _),rfl,ry⟩
 |w::ws,p::kvs,B,hk,rk,h=>by
  rw[List.map_cons,List.map_cons] at hk
  injection hk with h1 h2
  obtain⟨B1,B2,g1,g2,rfl⟩:=OwnL.one h
  unfold putX putG
  rw[h1]
  by_cases e:p.1=k
  ·rw[if_pos e,if_pos e]
   refine⟨Bv++B2,OwnL.app (τ:=[some v]) (Θ:=[some o]) q g2,.of_sub ((List.Sublist.refl _).append (List.sublist_append_right _ _)),?_,?_⟩
   ·simp only[List.map_cons,h2]
   ·simp only[List.map_cons]
    exact rk
  ·rw[if_neg e,if_neg e]
   obtain⟨C,j1,j2,j3,j4⟩:=c0p q ry h2 rk.inv.2 g2
   refine⟨B1++C,OwnL.app (τ:=[some w.2.2]) (Θ:=[some p.2]) g1 j1,?_,?_,?_⟩
   ·refine((SubP.refl B1).app j2).trans (.of_perm ?_)
    rw[←List.append_assoc,←List.append_assoc]
    exact List.perm_append_comm.append_right _
   ·simp only[List.map_cons,h1,j3]
   ·exact .cons rk.inv.1 j4
 |[],_::_,_,h,_,_=>by simp at h
 |_::_,[],_,h,_,_=>by simp at h
theorem d3a{F H:Hp}{v:V}{kvs:List (TK×O)}{A:List Addr}(h:OwnL K F H [some v] [some (.dct kvs)] A):∃a ws ep Ap,v=.ref a∧A=a::Ap∧H a=some (.dG ws ep)∧ws.map (·.1)=kvs.map (·.1)∧RepL K F (ws.map (·.2.1)) (kvs.map (·.1.d))∧OwnL K F H (ws.map fun p=>some p.2.2) (kvs.map fun p=>some p.2) Ap:=by
 cases h with
 |@dct a ws _ ep Ap B _ _ hl hk rk ch t=>
  cases t
  exact⟨a,ws,ep,Ap,rfl,List.append_nil _,hl,hk,rk,ch⟩
theorem d5x:MutOk K (rSetM K) mSet:=by
 intro F H x vs o os o' res Ai Aτ Q le h1 h2 nd fr e q
 unfold mSet at e
 split at e
 case h_2=>cases e
 rename_i ov i
 unfold setO at e
 split at e
 ·rename_i ps
  obtain⟨k,hk,e⟩:=Option.bind_eq_some_iff.mp e
  cases a8w hk
  obtain⟨j,e1,e2⟩:=Option.map_eq_some_iff.mp e
  cases e2
  obtain⟨l,ws,Ap,rfl,hl,i,nd',go⟩:=a9i h1 rfl nd q
  obtain⟨v,v',rfl⟩:=d5r (l:=vs) (by have:=h2.length;simp at this;omega)
  have hlen:ws.length=ps.length:=by have:=i.length;simpa using this
  obtain⟨B1,B2,g1,g2,rfl⟩:=OwnL.one h2
  obtain⟨rfl,g3⟩:=a7l g2
  cases g3
  have hj:j < ps.length:=(b8k e1).2.1
  refine⟨v,.int k,rfl,.inl ⟨l,ws,k,j,rfl,rfl,hl,by rw[hlen];exact e1,?_⟩⟩
  obtain⟨D,j1,C2,j2,j3⟩:=OwnL.put g1 j i (by simpa using hj)
  refine go (ws.set j v) (ps.set j ov) D .non [] rfl (by rw[List.map_set,List.map_set];exact j1) b2f ?_
  rw[List.nil_append,List.append_nil]
  exact((SubP.of_perm j2).trans ((SubP.refl B1).app (.of_sub j3))).trans (.of_perm List.perm_append_comm)
 ·rename_i kvs
  cases q1:keyD i with
  |none=>rw[q1] at e;cases e
  |some k=>
   rw[q1] at e
   dsimp only[Option.bind] at e
   split at e
   ·rename_i hz
    cases e
    obtain⟨v,v',rfl⟩:=d5r (l:=vs) (by have:=h2.length;simp at this;omega)
    obtain⟨B1,B2,g1,g2,rfl⟩:=OwnL.one h2
    have ry:RepL K F [v'] [k.d]:=by rw[(a7n q1).1];exact b4y g2
    obtain⟨l,ws,ep,Ap,rfl,rfl,hl,hk,rk,ch⟩:=d3a h1
    obtain⟨C,j1,j2,j3,j4⟩:=c0p (k:=k) g1 ry hk rk ch
    have hlen:ws.length=kvs.length:=by have:=congrArg List.length hk;simpa using this
    have nd1:(l::(Ap++(B1++B2))).Nodup:=by simpa using nd
    have nC:l∉C:=fun m=>(List.nodup_cons.mp nd1).1 (by
     rcases List.mem_append.mp (j2.mem l m) with z|z
     ·simp[z]
     ·simp[z])
    refine⟨v,v',rfl,.inr ⟨l,_,rfl,⟨ws,ep,k,hl,by rw[c0n hk];exact rk.mono le,ry.mono le,(a7n q1).2,Nat.lt_of_lt_of_le (by omega:ws.length < 1000000) (by decide),rfl⟩,?_⟩⟩
    refine q .non _ (l::C++[]) [] (c0o (by simp)) b5a (.dct a1g j3 j4 (j1.keep (Same.refl _) fun a m u e=>by rw[a0s (fun z=>nC (by rw[←z];exact m):a≠l)];exact e) .nil) b2f ?_
    rw[List.nil_append,List.append_nil]
    refine((SubP.refl [l]).app j2).trans ⟨l::(Ap++B1),?_,?_⟩
    ·show(l::(B1++Ap)).Perm _
     exact List.perm_append_comm.cons l
    ·exact((List.Sublist.refl Ap).append (List.sublist_append_left B1 B2)).cons_cons l
   ·cases e
 ·cases e
end
noncomputable def gsPut (fv fo fi:GE):GS:=fun Γ=>(fv Γ).bind fun p=>(fo p.2).bind fun q=>(fi q.2).bind fun r=>match p.1,q.1,r.1 with
 |.own v,.var i,.own y=>match r.2[i]? with
  |some (some o)=>(mSet o [v,y]).bind fun z=>some (.nx,r.2.set i (some z.1))
  |_=>none
 |_,_,_=>none
section
variable {X:Cx} {K:PySem.W.Frag} {m:List Bool} {e o i:Expr} {fv fo fi:GE} {pos pos':Pos}
theorem c4x{Γ Γ':Gm}{fl:Fl}(e:gsPut fv fo fi Γ=some (fl,Γ')):∃v Γ1 j Γ2 y Γ3 o z,fv Γ=some (.own v,Γ1)∧fo Γ1=some (.var j,Γ2)∧fi Γ2=some (.own y,Γ3)∧Γ3[j]?=some (some o)∧mSet o [v,y]=some z∧fl=.nx∧Γ'=Γ3.set j (some z.1):=by
 unfold gsPut at e
 cases q1:fv Γ with
 |none=>rw[q1] at e;cases e
 |some p=>
  obtain⟨r1,Γ1⟩:=p
  rw[q1] at e
  dsimp only[Option.bind] at e
  cases q2:fo Γ1 with
  |none=>rw[q2] at e;cases e
  |some p=>
   obtain⟨r2,Γ2⟩:=p
   rw[q2] at e
   dsimp only at e
   cases q3:fi Γ2 with
   |none=>rw[q3] at e;cases e
   |some p=>
    obtain⟨r3,Γ3⟩:=p
    rw[q3] at e
    dsimp only at e
    cases r1 with
    |var _=>cases e
    |own v=>
     cases r2 with
     |own _=>cases e
     |var j=>
      cases r3 with
      |var _=>cases e
      |own y=>
       dsimp only at e
       split at e
       ·rename_i oo h
        cases q4:mSet oo [v,y] with
        |none=>rw[q4] at e;cases e
        |some z=>rw[q4] at e;cases e;exact⟨v,Γ1,j,Γ2,y,Γ3,oo,z,rfl,q2,q3,h,q4,rfl,rfl⟩
       ·cases e
theorem b7e(he:PE X e (tG K fv))(ho:PE X o (tG K fo))(hi:PE X i (tG K fi))(hu:X.A.units+41 < cLine)
  (ha:∀v,assign (.Subscript o i pos') X.env v=(do
   let ov ←holding [v] (eval o X.env)
   let iv ←holding [v,ov] (eval i X.env)
   standAt pos'
   holding [v,ov,iv] (setItem ov iv v)
   release [v,ov,iv] []):=by intro _;rfl)
  (hs:swapsWithSole [.Subscript o i pos'] e pos.line X.env=pure false:=by rfl) (hw:swappedStores [.Subscript o i pos'] e X.env=pure none:=by rfl)
  (h1:(assignEach [.Subscript o i pos'] X.env).map (·.2)=[assign (.Subscript o i pos') X.env]:=by rfl) (hK:X.K=K:=by rfl):PS X (.Assign [.Subscript o i pos'] e pos) (tS K m (gsPut fv fo fi)):=by
 subst hK
 refine(d4w he (d4v ho hi (d7y hu) ha) hs hw h1).mono fun D σ H t=>?_
 obtain⟨F,A,Γ,fl,Γ',k,e,w⟩:=t
 obtain⟨v,Γ1,j,Γ2,y,Γ3,oo,z,e1,e2,e3,e4,e5,rfl,rfl⟩:=c4x e
 have t:tGA X.K (a0a fv (a0a fo (a0a fi gaNil))) σ H fun vs H'=>∃a b c,vs=[a,b,c]∧rSetA X.K b c a H' fun H4=>D.nx σ H4:=by
  refine⟨F,A,Γ,[.own v,.var j,.own y],Γ3,k,?_,fun vs H1 p=>?_⟩
  ·unfold a0a
   simp only[e1,e2,e3,Option.bind,gaNil]
  ·obtain⟨F1,A1,x,k1,hh⟩:=p
   obtain⟨a,b,c,rfl⟩:=d5s hh.length
   refine⟨a,b,c,rfl,?_⟩
   have hx:σ[j]?=some (some b):=hh.1
   have k2:OK X.K F1 H1 ([a,c].map some++σ) ([v,y].map some++Γ3) A1:=by
    obtain⟨B1,C1,g1,g2,g3⟩:=OwnL.one (σ:=some b::some c::σ) (Γ:=none::some y::Γ3) k1.os
    cases g2 with
    |skip g2=>subst g3;exact⟨k1.le,g1.app g2,k1.nd,k1.fr⟩
   have z':=OK.mutate (r:=rSetM X.K) (g:=mSet) (Q:=fun _ H4=>D.nx σ H4) (o':=z.1) (res:=z.2) d5x k2 hx e4 rfl e5 fun v' H' A' x4 k4=>by
    obtain⟨B2,k5,sub⟩:=OK.part (τ:=[some v']) (Θ:=[some z.2]) k4 rfl
    exact w σ H' ⟨F1,B2,(x.trans x4).own' sub,k5,Kept.refl⟩
   obtain⟨v',i',ee,q⟩:=z'
   cases ee
   exact q
 have t1:=a6u t
 refine tG.mono t1 fun a H1 h=>tG.mono (a6u h) fun b H2 h2=>tG.mono (a6u h2) fun c H3 h3=>?_
 obtain⟨F,A,Γ,rs,Γ',k,e,w⟩:=h3
 cases e
 obtain⟨a',b',c',ee,q⟩:=w [] H3 ⟨F,A,Ext.refl,k,True.intro⟩
 cases ee
 exact q
end
noncomputable abbrev GO:=Gm→Option (Option Int×Gm)
noncomputable def tGO (K:PySem.W.Frag) (f:GO):TO:=fun σ H Q=>∃F A Γ b Γ',OK K F H σ Γ A∧f Γ=some (b,Γ')∧∀H',Post K F H A σ Γ' [] [] H'→Q b H'
noncomputable def a9j:GO:=fun Γ=>some (none,Γ)
noncomputable def intR:R→Option Int
 |.own (.frz (.int i))=>some i
 |_=>none
noncomputable def a8p (f:GE):GO:=fun Γ=>(f Γ).bind fun p=>(intR p.1).map fun i=>(some i,p.2)
section
variable {X:Cx} {K:PySem.W.Frag} {e:Expr} {fa:GE} {lo hi:Option Expr} {fl fh:GO} {pos p2:Pos}
theorem b2h:PO X none (tGO K a9j):=by
 intro pins s σ H Q I t
 refine d2f pins s σ H Q I ?_
 obtain⟨F,A,Γ,b,Γ',k,e,w⟩:=t
 cases e
 exact w H ⟨F,A,Ext.refl,k,True.intro⟩
theorem b2i(h:PE X e (tG K fa)):PO X (some e) (tGO K (a8p fa)):=by
 intro pins s σ H Q I t
 refine d2g h pins s σ H Q I ?_
 obtain⟨F,A,Γ,b,Γ',k,e,w⟩:=t
 unfold a8p at e
 cases q:fa Γ with
 |none=>rw[q] at e;cases e
 |some p=>
  obtain⟨r,Γ1⟩:=p
  rw[q] at e
  obtain⟨i,e1,e2⟩:=Option.map_eq_some_iff.mp e
  cases e2
  have er:r=.own (.frz (.int i)):=by
   unfold intR at e1
   split at e1
   ·rename_i hh;cases e1;exact hh
   ·cases e1
  subst er
  exact⟨F,A,Γ,_,_,k,q,fun v H' pp=>⟨i,pp.flat rfl,w H' pp.drop⟩⟩
noncomputable def cutD (ds:List D) (lo hi:Option Int):List D:=(ds.drop (HT.sIx ds.length 0 lo)).take (HT.sIx ds.length ds.length hi - HT.sIx ds.length 0 lo)
noncomputable def slO (o:O) (lo hi:Option Int):Option O:=match o,listD o,tupD o with
 |.frz (.str z),_,_=>if z.length≤1000000 then some (.frz (.str (Txt.slice z lo hi))) else none
 |_,some ds,_=>some (.lst ((cutD ds lo hi).map .frz))
 |_,none,some ds=>if HT.sIx ds.length 0 lo=0∧HT.sIx ds.length ds.length hi=ds.length then none else some (.tup ((cutD ds lo hi).map .frz))
 |_,_,_=>none
noncomputable def rSlA (K:PySem.W.Frag):V→Option Int→Option Int→Hp→VK→Prop:=fun x lo hi H Q=>rSlS x lo hi H Q∨rSlL K x lo hi H Q∨rSlT K x lo hi H Q
theorem sl_A(K:PySem.W.Frag)(hK:X.K=K:=by rfl):SlR X (rSlA K):=sl_str.or ((c8m K hK).or (d2n K hK))
theorem d7z{F H:Hp}{x:V}{o o':O}{B:List Addr}{Q:VK}{lo hi:Option Int}(le:Same F H)(h:OwnL K F H [some x] [some o] B)(e:slO o lo hi=some o')(res:Res K F H o' Q):rSlA K x lo hi H Q:=by
 unfold slO at e
 split at e
 ·split at e
  ·cases e
   cases a0v h rfl
   exact .inl ⟨_,rfl,ml (by assumption),res.flat rfl⟩
  ·cases e
 ·rename_i ds _ _ q1 _
  cases e
  obtain⟨a,ws,rfl,sq,r⟩:=a9f le h (by assumption)
  refine .inr (.inl ⟨a,ws,rfl,sq,fun p hp=>res.lst ?_ hp⟩)
  unfold cutV cutD
  rw[r.length]
  exact(r.drop _).take _
 ·split at e
  ·cases e
  ·rename_i hne
   cases e
   obtain⟨a,ws,rfl,sq,r⟩:=d2t le h (by assumption)
   refine .inr (.inr ⟨a,ws,rfl,sq,by rw[r.length];exact hne,fun p hp=>res.tup ?_ hp⟩)
   unfold cutV cutD
   rw[r.length]
   exact(r.drop _).take _
 ·cases e
noncomputable def a7p (f:GE) (lo hi:GO):GE:=fun Γ=>(f Γ).bind fun p=>(lo p.2).bind fun q=>(hi q.2).bind fun r=>(seeR r.2 p.1).bind fun o=>(slO o q.1 r.1).bind fun o'=>some (.own o',r.2)
theorem c2i{Γ Γ':Gm}{r:R}(e:a7p fa fl fh Γ=some (r,Γ')):∃r1 Γ1 l Γ2 u o o',fa Γ=some (r1,Γ1)∧fl Γ1=some (l,Γ2)∧fh Γ2=some (u,Γ')∧seeR Γ' r1=some o∧slO o l u=some o'∧r=.own o':=by
 unfold a7p at e
 cases q1:fa Γ with
 |none=>rw[q1] at e;cases e
 |some p=>
  rw[q1] at e
  dsimp only[Option.bind] at e
  cases q2:fl p.2 with
  |none=>rw[q2] at e;cases e
  |some q=>
   rw[q2] at e
   dsimp only at e
   cases q3:fh q.2 with
   |none=>rw[q3] at e;cases e
   |some w=>
    rw[q3] at e
    dsimp only at e
    cases q4:seeR w.2 p.1 with
    |none=>rw[q4] at e;cases e
    |some o=>
     rw[q4] at e
     dsimp only at e
     cases q5:slO o q.1 w.1 with
     |none=>rw[q5] at e;cases e
     |some o'=>rw[q5] at e;cases e;exact⟨p.1,p.2,q.1,q.2,w.1,o,o',rfl,q2,q3,q4,q5,rfl⟩
theorem a9k(he:PE X e (tG K fa))(hl:PO X lo (tGO K fl))(hu:PO X hi (tGO K fh))(hK:X.K=K:=by rfl):PE X (.Subscript e (.Slice lo hi none p2) pos) (tG K (a7p fa fl fh)):=by
 refine(c8e (sl_A K hK) he hl hu).mono fun σ H Q t=>?_
 obtain⟨F,A,Γ,rr,Γ',k,e,w⟩:=t
 obtain⟨r1,Γ1,l,Γ2,u,o,o',e1,e2,e3,e4,e5,rfl⟩:=c2i e
 refine⟨F,A,Γ,r1,Γ1,k,e1,fun v H1 p=>?_⟩
 obtain⟨F1,A1,x1,k1,hh⟩:=p
 obtain⟨C,kC,fr⟩:=OK.frame (τ:=[some v]) (Θ:=[r1.o]) k1 rfl
 refine⟨F1,C,Γ1,l,Γ2,kC,e2,fun H2 p2=>?_⟩
 obtain⟨F2,A2,x2,k2,_⟩:=p2
 obtain⟨A3,x3,k3⟩:=fr _ _ _ _ _ x2 k2
 obtain⟨C2,kC2,fr2⟩:=OK.frame (τ:=[some v]) (Θ:=[r1.o]) k3 rfl
 refine⟨F2,C2,Γ2,u,Γ',kC2,e3,fun H3 p3=>?_⟩
 obtain⟨F4,A4,x4,k4,_⟩:=p3
 obtain⟨A5,x5,k5⟩:=fr2 _ _ _ _ _ x4 k4
 have pp:Post K F H A σ Γ' [r1] [v] H3:=⟨F4,A5,x1.trans (x3.trans x5),k5,hh⟩
 obtain⟨F6,le,see,res⟩:=pp.res (os:=[o]) (o:=o') (by unfold seeL;rw[e4];rfl) w
 obtain⟨x,B,ev,h1⟩:=see.one
 cases ev
 exact d7z le h1 e5 res
end
end L2
namespace L2
open PySem PySem.Spec PyProof.Rows
noncomputable def capIn:List Nat→Gm→Gm×Gm
 |[],Γ=>([],Γ)
 |i::cap,Γ=>let p:=capIn cap (Γ.set i none);((Γ[i]?).join::p.1,p.2)
noncomputable def a8q:List Nat→Gm→Gm→Gm
 |i::cap,x::Γi,Γ=>(a8q cap Γi Γ).set i x
 |_,_,Γ=>Γ
noncomputable def compLoop (g:GG) (ct:GT) (ce:GE):List D→Gm→List O→Option (List O×Gm)
 |[],Γ,acc=>some (acc,Γ)
 |d::ds,Γ,acc=>(g d Γ).bind fun Γ1=>(ct Γ1).bind fun p=>if p.1=true then
   (ce p.2).bind fun q=>(ownL [q.1]).bind fun os=>if acc.length < 1000000 then compLoop g ct ce ds q.2 (acc++os) else none
  else compLoop g ct ce ds p.2 acc
section
variable {K:PySem.W.Frag} {F H:Hp} {σ:St}
theorem c0q:∀{cap:List Nat} {Γ:Gm} {C:List Addr},OwnL K F H σ Γ C→∃B C',OwnL K F H (cap.map fun i=>(σ[i]?).join) (capIn cap Γ).1 B∧OwnL K F H σ (capIn cap Γ).2 C'∧SubP (B++C') C
 |[],Γ,C,h=>⟨[],C,.nil,h,SubP.refl _⟩
 |i::cap,Γ,C,h=>by
  cases q:Γ[i]? with
  |none=>
   obtain⟨C1,g1,g2⟩:=OwnL.forget i h
   obtain⟨B,C',j1,j2,j3⟩:=c0q (cap:=cap) g1
   refine⟨B,C',?_,j2,j3.trans (.of_sub g2)⟩
   unfold capIn
   simp only[q,List.map_cons]
   exact .skip j1
  |some z=>
   cases z with
   |none=>
    obtain⟨C1,g1,g2⟩:=OwnL.forget i h
    obtain⟨B,C',j1,j2,j3⟩:=c0q (cap:=cap) g1
    refine⟨B,C',?_,j2,j3.trans (.of_sub g2)⟩
    unfold capIn
    simp only[q,List.map_cons]
    exact .skip j1
   |some o=>
    obtain⟨v,Ai,C1,g1,g2,g3,g4⟩:=h.take q
    obtain⟨B,C',j1,j2,j3⟩:=c0q (cap:=cap) g3
    refine⟨Ai++B,C',?_,j2,?_⟩
    ·unfold capIn
     simp only[q,List.map_cons,g1]
     exact g2.app j1
    ·rw[List.append_assoc]
     exact((SubP.refl Ai).app j3).trans (.of_perm g4.symm)
theorem c4y:∀{cap:List Nat} {τ:St} {Γi Γ:Gm} {B C:List Addr},OwnL K F H τ Γi B→OwnL K F H σ Γ C→τ=(cap.map fun i=>(σ[i]?).join)→∃D,OwnL K F H σ (a8q cap Γi Γ) D∧SubP D (B++C)
 |[],_,Γi,Γ,B,C,h1,h2,e=>by
  subst e
  cases h1
  exact⟨C,h2,.of_sub (List.sublist_append_right _ _)⟩
 |i::cap,τ,[],Γ,B,C,h1,h2,e=>by subst e;have:=h1.length;simp at this
 |i::cap,τ,x::Γi,Γ,B,C,h1,h2,e=>by
  subst e
  obtain⟨B1,B2,g1,g2,rfl⟩:=OwnL.one h1
  obtain⟨D,j1,j2⟩:=c4y (cap:=cap) g2 h2 rfl
  have s1:SubP D ((B1++B2)++C):=j2.trans (by rw[List.append_assoc];exact .of_sub (List.sublist_append_right _ _))
  cases x with
  |none=>
   obtain⟨D',k1,k2⟩:=OwnL.forget i j1
   exact⟨D',k1,(SubP.of_sub k2).trans s1⟩
  |some o=>
   have g1:OwnL K F H [(σ[i]?).join] [some o] B1:=g1
   cases q:σ[i]? with
   |none=>rw[q] at g1;cases g1
   |some z=>
    cases z with
    |none=>rw[q] at g1;cases g1
    |some v=>
     rw[q] at g1
     have hi:i < (a8q cap Γi Γ).length:=by rw[←j1.length];exact(List.getElem?_eq_some_iff.mp q).1
     obtain⟨D',k1,C',k2,k3⟩:=OwnL.put (show OwnL K F H [some v] [some o] B1 from g1) i j1 hi
     rw[a4j q] at k1
     refine⟨D',k1,(SubP.of_perm k2).trans ?_⟩
     rw[List.append_assoc]
     exact(SubP.refl B1).app ((SubP.of_sub k3).trans j2)
end
noncomputable def capM (k:Nat) (cap:List Nat):List Bool:=List.replicate k false++List.replicate cap.length true
noncomputable def a4b (src:Gm→Option (List D×Gm)) (g:GG) (ct:GT) (ce:GE) (k:Nat) (cap:List Nat):GE:=fun Γ=>(src Γ).bind fun p=>
 (compLoop g ct ce p.1 (List.replicate k none++(capIn cap p.2).1) []).bind fun q=>if q.2.length=k+cap.length then some (.own (.lst q.1),a8q cap (q.2.drop k) (capIn cap p.2).2) else none
section
variable {K:PySem.W.Frag}
structure CPv (K:PySem.W.Frag) (m:List Bool) (g:GG) (ct:GT) (ce:GE) (ds:List D) (fin:List O×Gm) (F1 H1:Hp) (C:List Addr) (τ₀:St) (i:Nat) (τ:St) (acc:List V) (H:Hp):Prop where
 ex:∃F A Γc accs,OK K F H (acc.map some++τ) (accs.map some++Γc) A∧Ext F1 H1 C F H A∧compLoop g ct ce (ds.drop i) Γc accs=some fin∧acc.length=accs.length∧Kept m τ₀ τ
theorem c4z{m:List Bool}{t:TG}{g:GG}{ct:GT}{ce:GE}(tg:TgOk K m t g){ds:List D}{fin:List O×Gm}{F1 H1:Hp}{C:List Addr}{τ₀:St}{i:Nat}{τ:St}{acc:List V}{H:Hp}{x:V}{d:D}(p:CPv K m g ct ce ds fin F1 H1 C τ₀ i τ acc H)
  (ed:ds.drop i=d::ds.drop (i+1)) (rx:∀F,Same F1 F→RepL K F [x] [d]) :
  t x τ H fun τ2 H2=>tGT K ct τ2 H2 fun b H3=>if b=true then tG K ce τ2 H3 fun v H4=>acc.length < sizeLine∧CPv K m g ct ce ds fin F1 H1 C τ₀ (i+1) τ2 (acc++[v]) H4 else CPv K m g ct ce ds fin F1 H1 C τ₀ (i+1) τ2 acc H3:=by
 obtain⟨F,A,Γc,accs,k,x0,e,hl,kp⟩:=p.ex
 rw[ed] at e
 unfold compLoop at e
 cases q1:g d Γc with
 |none=>rw[q1] at e;cases e
 |some Γ1=>
  rw[q1] at e
  dsimp only[Option.bind] at e
  cases q2:ct Γ1 with
  |none=>rw[q2] at e;cases e
  |some pb=>
   obtain⟨b,Γ2⟩:=pb
   rw[q2] at e
   dsimp only at e
   have hle:(acc.map some).length=(accs.map some).length:=by simp[hl]
   obtain⟨C1,k1,fr1⟩:=k.frame hle
   refine tg F H τ Γc Γ1 C1 x d _ k1 (rx F x0.ff) q1 fun τ2 A2 k2 x2 kp2=>?_
   obtain⟨A3,x3,k3⟩:=fr1 _ _ _ _ _ x2 k2
   obtain⟨C4,k4,fr4⟩:=k3.frame hle
   refine⟨F,C4,Γ1,b,Γ2,k4,q2,fun H3 pp=>?_⟩
   obtain⟨F5,A5,x5,k5,_⟩:=pp
   obtain⟨A6,x6,k6⟩:=fr4 _ _ _ _ _ x5 k5
   cases b with
   |false=>exact iteF ⟨F5,A6,Γ2,accs,k6,x0.trans (x3.trans x6),e,hl,kp.trans kp2⟩
   |true=>
    have e:((ce Γ2).bind fun q=>(ownL [q.1]).bind fun os=>if accs.length < 1000000 then compLoop g ct ce (ds.drop (i+1)) q.2 (accs++os) else none)=some fin:=e
    cases q3:ce Γ2 with
    |none=>rw[q3] at e;cases e
    |some pr=>
     obtain⟨r,Γ3⟩:=pr
     rw[q3] at e
     dsimp only[Option.bind] at e
     cases q4:ownL [r] with
     |none=>rw[q4] at e;cases e
     |some os=>
      rw[q4] at e
      dsimp only at e
      split at e
      ·rename_i hz
       obtain⟨C7,k7,fr7⟩:=k6.frame hle
       refine iteT ⟨F5,C7,Γ2,r,Γ3,k7,q3,fun v H4 pp=>⟨Nat.lt_of_lt_of_le (by omega:acc.length < 1000000) (by decide),?_⟩⟩
       obtain⟨F8,A8,x8,k8,_⟩:=pp
       rw[a3u q4] at k8
       obtain⟨A9,x9,k9⟩:=fr7 _ _ _ _ _ x8 k8
       refine⟨F8,A9,Γ3,accs++os,?_,x0.trans (x3.trans (x6.trans x9)),e,?_,kp.trans kp2⟩
       ·rw[List.map_append,List.map_append,List.append_assoc,List.append_assoc]
        exact k9
       ·have:=congrArg List.length (a3u q4)
        simp at this
        simp[hl,this]
      ·cases e
theorem c9a{m:List Bool}{g:GG}{ct:GT}{ce:GE}{ds:List D}{fin:List O×Gm}{F1 H1:Hp}{C:List Addr}{τ₀:St}{τ:St}{acc:List V}{H:Hp}(p:CPv K m g ct ce ds fin F1 H1 C τ₀ ds.length τ acc H):
  ∃F A,OK K F H (acc.map some++τ) (fin.1.map some++fin.2) A∧Ext F1 H1 C F H A∧acc.length=fin.1.length∧Kept m τ₀ τ:=by
 obtain⟨F,A,Γc,accs,k,x0,e,hl,kp⟩:=p.ex
 rw[List.drop_of_length_le (Nat.le_refl _)] at e
 cases e
 exact⟨F,A,k,x0,hl,kp⟩
theorem b7f:∀{cap:List Nat} {Γ:Gm} {j:Nat},j∉cap→(capIn cap Γ).2[j]?=Γ[j]?
 |[],Γ,j,_=>rfl
 |i::cap,Γ,j,h=>by
  unfold capIn
  dsimp only
  rw[b7f (fun z=>h (List.mem_cons_of_mem _ z)),List.getElem?_set_ne (fun z=>h (by rw[z];exact List.mem_cons_self))]
theorem c9b{F H:Hp}{σ:St}{Γ:Gm}{A:List Addr}{j:Nat}{ps:List O}{a:Addr}(h:OwnL K F H σ Γ A)(hΓ:Γ[j]?=some (some (.lst ps)))(hσ:σ[j]?=some (some (.ref a))):a∈A:=by
 obtain⟨v,Ai,B,g1,g2,_,g4⟩:=h.take hΓ
 rw[hσ] at g1
 cases g1
 cases g2 with
 |lst _ _ _=>exact g4.mem_iff.mpr (by simp)
theorem c2j{k:Nat}{cap:List Nat}{F H:Hp}{σ:St}{Γ:Gm}{A:List Addr}(ok:OK K F H σ Γ A):∃C,OK K F H (capS k cap σ) (List.replicate k none++(capIn cap Γ).1) C∧
  (∀j ps a,j∉cap→Γ[j]?=some (some (.lst ps))→σ[j]?=some (some (.ref a))→a∉C)∧
  ∀F' H' τ' accs acc Γi A',Ext F H C F' H' A'→OK K F' H' (acc.map some++τ') (accs.map some++Γi) A'→acc.length=accs.length→Kept (capM k cap) (capS k cap σ) τ'→Γi.length=k+cap.length→∀l,H' l=none→
   ∃A'',Ext F H A F' (upd H' l (.lst acc)) A''∧OK K F' (upd H' l (.lst acc)) (some (.ref l)::σ) (some (.lst accs)::a8q cap (Γi.drop k) (capIn cap Γ).2) A'':=by
 obtain⟨B,C',h1,h2,h3⟩:=c0q (cap:=cap) ok.os
 have k0:OwnL K F H (capS k cap σ++σ) ((List.replicate k none++(capIn cap Γ).1)++(capIn cap Γ).2) (B++C'):=by
  have:=(b1z (K:=K) (F:=F) (H:=H) k).app h1
  exact this.app h2
 obtain⟨k1,x1⟩:=ok.sub k0 h3
 have hl0:(capS k cap σ).length=(List.replicate k (none:Option O)++(capIn cap Γ).1).length:=by
  have:=h1.length
  unfold capS
  simp at this ⊢
  omega
 obtain⟨A1,p1,k2⟩:=k1.swap hl0
 have k2':=k2
 obtain⟨D0,C,hd0,hd1,hd2⟩:=OwnL.split h2.length k2.os
 have nn:∀a∈D0,a∉C:=fun a m z=>(List.nodup_append.mp (hd2 ▸ k2.nd)).2.2 a m a z rfl
 obtain⟨k3,fr⟩:OK K F H (capS k cap σ) (List.replicate k none++(capIn cap Γ).1) C∧∀F' H' σ' Γ' A',Ext F H C F' H' A'→OK K F' H' σ' Γ' A'→∃A'',Ext F H A1 F' H' A''∧OK K F' H' (σ++σ') ((capIn cap Γ).2++Γ') A'':=by
  subst hd2
  exact k2.frameAt hd0 hd1
 refine⟨C,k3,fun j ps a hj hΓj hσj=>nn a (c9b hd0 (by rw[b7f hj];exact hΓj) hσj),fun F' H' τ' accs acc Γi A' x k' hl kp hΓ l hn=>?_⟩
 have hΓl:=k'.os.length
 have k5:∃A5,OK K F' (upd H' l (.lst acc)) (some (.ref l)::τ') (some (.lst accs)::Γi) A5∧Ext F' H' A' F' (upd H' l (.lst acc)) A5:=by
  obtain⟨B1,C1,g1,g2,g3⟩:=OwnL.split (by simp[hl]) k'.os
  have nl:∀a∈A',a≠l:=fun a m z=>k'.os.there a m (by rw[z];exact hn)
  have kpp:∀a∈A',∀o,H' a=some o→upd H' l (.lst acc) a=some o:=fun a m o e=>by rw[a0s (nl a m)];exact e
  subst g3
  refine⟨l::B1++C1,⟨fun a o e=>?_,.lst a1g (g1.keep (Same.refl _) fun a m=>kpp a (List.mem_append_left _ m)) (g2.keep (Same.refl _) fun a m=>kpp a (List.mem_append_right _ m)),List.nodup_cons.mpr ⟨fun m=>nl l m rfl,k'.nd⟩,fun a m=>?_⟩,
   Same.refl _,fun a o e _=>?_,b5a,fun a h=>.inl h,fun a m=>?_⟩
  ·have:=k'.le a o e
   rw[a0s (a1a this hn)];exact this
  ·rcases List.mem_cons.mp m with rfl|m
   ·exact k'.le.free hn
   ·exact k'.fr a m
  ·rw[a0s (a1a e hn)];exact e
  ·rcases List.mem_cons.mp m with rfl|m
   ·exact .inr hn
   ·exact .inl m
 obtain⟨A5,k5,x5⟩:=k5
 obtain⟨A6,x6,k6⟩:=fr _ _ _ _ _ (x.trans x5) k5
 obtain⟨D1,D2,g1,g2,g3⟩:=OwnL.split h2.length k6.os
 subst g3
 obtain⟨D3,D4,g4,g5,g6⟩:=g2.one
 subst g6
 have hτ:τ'.length=k+cap.length:=by
  have:=g5.length
  omega
 have e1:τ'=τ'.take k++τ'.drop k:=(List.take_append_drop _ _).symm
 have e2:Γi=Γi.take k++Γi.drop k:=(List.take_append_drop _ _).symm
 have g5':OwnL K F' (upd H' l (.lst acc)) (τ'.take k++τ'.drop k) (Γi.take k++Γi.drop k) D4:=by rw[←e1,←e2];exact g5
 obtain⟨D5,D6,g7,g8,g9⟩:=OwnL.split (by rw[List.length_take,List.length_take];omega) g5'
 subst g9
 have eτ:τ'.drop k=cap.map fun i=>(σ[i]?).join:=by
  apply List.ext_getElem?
  intro j
  by_cases hj:j < cap.length
  ·have hm:(capM k cap)[k+j]?=some true:=by
    unfold capM
    rw[List.getElem?_append_right (by simp)]
    simp[hj]
   have:=kp (k+j) hm
   rw[List.getElem?_drop,this]
   unfold capS
   rw[List.getElem?_append_right (by simp)]
   simp
  ·rw[List.getElem?_eq_none (by rw[List.length_drop];omega),List.getElem?_eq_none (by rw[List.length_map];omega)]
 obtain⟨D7,g10,g11⟩:=c4y g8 g1 eτ
 have s1:SubP (D3++D7) (D1++(D3++(D5++D6))):=by
  refine((SubP.refl D3).app g11).trans ?_
  refine SubP.trans (B:=D3++(D5++D6)++D1) ?_ (.of_perm List.perm_append_comm)
  rw[List.append_assoc]
  refine(SubP.refl D3).app ?_
  rw[List.append_assoc]
  exact .of_sub (List.sublist_append_right _ _)
 obtain⟨k7,x7⟩:=k6.sub (σ':=some (.ref l)::σ) (Γ':=some (.lst accs)::a8q cap (Γi.drop k) (capIn cap Γ).2) (g4.app g10) s1
 exact⟨D3++D7,(x1.trans (Ext.own' Ext.refl fun a m=>p1.mem_iff.mp m)).trans (x6.trans x7),k7⟩
end
noncomputable def srcL (it:GE):Gm→Option (List D×Gm):=fun Γ=>(gFrz it Γ).bind fun p=>match p.1 with
 |.own (.frz (.lst ds))=>some (ds,p.2)
 |_=>none
noncomputable def srcS (it:GE):Gm→Option (List D×Gm):=fun Γ=>(it Γ).bind fun p=>match p.1 with
 |.own (.frz (.str z))=>some (z.cps.toList.map fun c=>.str (chr1 c),p.2)
 |_=>none
noncomputable def srcR1 (fs:GA):Gm→Option (List D×Gm):=fun Γ=>(fs Γ).bind fun p=>(int1 p.1).map fun j=>(rngD 0 j.toNat,p.2)
noncomputable def srcV (i:Nat) (cap:List Nat):Gm→Option (List D×Gm):=fun Γ=>if i∈cap then none else match Γ[i]? with
 |some (some (.lst os))=>(frzL os).map fun ds=>(ds,Γ)
 |_=>none
noncomputable def SrcOk (K:PySem.W.Frag) (cap:List Nat) (wi:TI) (src:Gm→Option (List D×Gm)):Prop:=
 ∀(σ:St) (F H:Hp) (A:List Addr) (Γ Γ1:Gm) (ds:List D) (R:It→Hp→Prop),OK K F H σ Γ A→src Γ=some (ds,Γ1)→
  (∀J H1 F1 A1,Ext F H A F1 H1 A1→OK K F1 H1 σ Γ1 A1→
   (∀(g:TG) (tt:TT) (te:TE) (τ:St) (Fin:List V→Hp→Prop) (Pv:Nat→St→List V→Hp→Prop),Pv 0 τ [] H1→(∀i τ acc H,Pv i τ acc H→(∃F,Same F1 F∧Same F H)∧∀(j:Nat) ps a o,j∉cap→Γ1[j]?=some (some (.lst ps))→σ[j]?=some (some (.ref a))→H1 a=some o→H a=some o)→
    (∀i d x τ acc H,ds.drop i=d::ds.drop (i+1)→(∀F,Same F1 F→RepL K F [x] [d])→Pv i τ acc H→g x τ H fun τ2 H2=>tt τ2 H2 fun b H3=>if b=true then te τ2 H3 fun v H4=>acc.length < sizeLine∧Pv (i+1) τ2 (acc++[v]) H4 else Pv (i+1) τ2 acc H3)→
    (∀τ acc H,Pv ds.length τ acc H→Fin acc H)→CompW J g tt te τ H1 Fin)→R J H1)→wi σ H R
section
variable {X:Cx} {K:PySem.W.Frag} {fa:GE} {fs:GA}
theorem b9a{α:Type}{l:List α}{i:Nat}{x:α}(h:l[i]?=some x):l.drop i=x::l.drop (i+1):=by
 obtain⟨hi,e⟩:=List.getElem?_eq_some_iff.mp h
 rw[List.drop_eq_getElem_cons hi,e]
theorem b5b{cap:List Nat}:SrcOk K cap (iList K (tG K (gFrz fa))) (srcL fa):=by
 intro σ F H A Γ Γ1 ds R k e w
 unfold srcL at e
 cases q:gFrz fa Γ with
 |none=>rw[q] at e;cases e
 |some p=>
  obtain⟨r,Γ2⟩:=p
  rw[q] at e
  dsimp only[Option.bind] at e
  cases r with
  |var i=>cases e
  |own o=>
   cases o with
   |frz d=>
    cases d with
    |lst es=>
     cases e
     refine⟨F,A,Γ,_,_,k,q,fun v H1 pp=>?_⟩
     obtain⟨F1,A1,x,k1,_⟩:=pp
     obtain⟨B,C,h1,h2,h3⟩:=OwnL.one (σ:=σ) k1.os
     have rp:=b4y h1
     subst h3
     obtain⟨k2,x2⟩:=k1.sub h2 (.of_sub (List.sublist_append_right _ _))
     cases rp with
     |flat z _=>cases z
     |@lst a ws _ _ _ sq ri _=>
      refine⟨a,rfl,⟨ws,.inl (k1.le.rd sq)⟩,w (Itl K a) H1 F1 C (x.trans x2) k2 fun g tt te τ Fin Pv h0 hF hs hd=>?_⟩
      have hl:=ri.length
      refine b6m (xs:=ws) Pv h0 (fun i τ acc H hi p=>?_) (fun i x τ acc H hx p=>?_) (fun τ acc H p=>hd τ acc H (by rw[←hl];exact p))
      ·obtain⟨⟨F',s1,s2⟩,_⟩:=hF i τ acc H p
       exact .inl ((s1.trans s2).rd sq)
      ·have hi:i < ds.length:=by
        have:=(List.getElem?_eq_some_iff.mp hx).1
        omega
       obtain⟨x2,hx2,rx⟩:=ri.get (i:=i) (d:=ds[i]) (by simp[hi])
       rw[hx] at hx2
       cases hx2
       exact hs i ds[i] x τ acc H (b9a (by simp[hi])) (fun F' s=>rx.mono s) p
    |_=>cases e
   |_=>cases e
theorem c5a{i:Nat}{cap:List Nat}:SrcOk K cap (iList K (tVar i)) (srcV i cap):=by
 intro σ F H A Γ Γ1 ds R k e w
 unfold srcV at e
 split at e
 ·cases e
 ·rename_i hi
  split at e
  ·rename_i os hΓ
   obtain⟨ds',e1,e2⟩:=Option.map_eq_some_iff.mp e
   cases e2
   obtain⟨v,Ai,B,g1,g2,_⟩:=k.os.take hΓ
   refine⟨v,g1,?_⟩
   cases g2 with
   |@lst a ws _ _ _ _ _ hl ch _=>
    have ri:=b1h ch e1
    refine⟨a,rfl,⟨ws,SqL.of hl⟩,w (Itl K a) H F A Ext.refl k fun g tt te τ Fin Pv h0 hF hs hd=>?_⟩
    have hln:=ri.length
    refine b6m (xs:=ws) Pv h0 (fun j τ acc H' hj p=>?_) (fun j x τ acc H' hx p=>?_) (fun τ acc H' p=>hd τ acc H' (by rw[←hln];exact p))
    ·exact SqL.of ((hF j τ acc H' p).2 i os a _ hi hΓ g1 hl)
    ·have hj:j < ds.length:=by
      have:=(List.getElem?_eq_some_iff.mp hx).1
      omega
     obtain⟨x2,hx2,rx⟩:=ri.get (i:=j) (d:=ds[j]) (by simp[hj])
     rw[hx] at hx2
     cases hx2
     exact hs j ds[j] x τ acc H' (b9a (by simp[hj])) (fun F' s=>rx.mono s) p
  ·cases e
theorem c5b{cap:List Nat}:SrcOk K cap (iStr (tG K fa)) (srcS fa):=by
 intro σ F H A Γ Γ1 ds R k e w
 unfold srcS at e
 cases q:fa Γ with
 |none=>rw[q] at e;cases e
 |some p=>
  obtain⟨r,Γ2⟩:=p
  rw[q] at e
  dsimp only[Option.bind] at e
  cases r with
  |var i=>cases e
  |own o=>
   cases o with
   |frz d=>
    cases d with
    |str z=>
     cases e
     refine⟨F,A,Γ,_,_,k,q,fun v H1 pp=>?_⟩
     have ev:=pp.flat rfl
     obtain⟨F1,A1,x,k1,_⟩:=pp.drop
     refine⟨z,ev,w (Its z) H1 F1 A1 x k1 fun g tt te τ Fin Pv h0 hF hs hd=>?_⟩
     refine c8i Pv h0 (fun i c τ acc H hc p=>?_) (fun τ acc H p=>hd τ acc H (by simpa using p))
     refine hs i (.str (chr1 c)) _ τ acc H (b9a ?_) (fun F' s=>.flat rfl .nil) p
     rw[List.getElem?_map,Array.getElem?_toList,hc]
     rfl
    |_=>cases e
   |_=>cases e
theorem d5y{cap:List Nat}:SrcOk K cap (iRng1 (tGA K fs)) (srcR1 fs):=by
 intro σ F H A Γ Γ1 ds R k e w
 unfold srcR1 at e
 cases q:fs Γ with
 |none=>rw[q] at e;cases e
 |some p=>
  obtain⟨rs,Γ2⟩:=p
  rw[q] at e
  obtain⟨j,e1,e2⟩:=Option.map_eq_some_iff.mp e
  cases e2
  obtain⟨hj,hb⟩:=c0h e1
  have hj:rs=_:=hj
  subst hj
  refine⟨F,A,Γ,_,_,k,q,fun vs H1 pp=>?_⟩
  obtain⟨F1,A1,x,k1,hh⟩:=pp
  match vs,hh with
  |[v],_=>
   obtain⟨rfl,h2⟩:=a7l (σ:=σ) k1.os
   obtain⟨k2,x2⟩:=k1.sub h2 (SubP.refl _)
   refine⟨j,rfl,hb.1,hb.2,w (Itr 0 j.toNat) H1 F1 A1 x k2 fun g tt te τ Fin Pv h0 hF hs hd=>?_⟩
   refine c2d Pv h0 (fun i τ acc H hi p=>?_) (fun τ acc H p=>hd τ acc H (by simpa[rngD] using p))
   exact hs i (.int (0+(i:Int))) _ τ acc H (by unfold rngD;exact b3k _ hi) (fun F' s=>.flat rfl .nil) p
theorem PTs.mono{ifs:List Expr}{t t':TT}(h:PTs X ifs t)(m:∀σ H Q,t' σ H Q→t σ H Q):PTs X ifs t':=fun pins s σ H Q I q=>h pins s σ H Q I (m _ _ _ q)
noncomputable def gYes:GT:=fun Γ=>some (true,Γ)
theorem b0j:PTs X [] (tGT K gYes):=pts_nil.mono fun σ H Q t=>b1g t
theorem c5c{c:Expr}{ft:GT}(h:PT X c (tGT K ft)):PTs X [c] (tGT K ft):=c3r h
variable {tg elt iter:Expr} {ifs:List Expr} {scope:Scope} {pos:Pos} {M:List Str} {k:Nat} {cap:List Nat} {t:TG} {gg:GG} {ct:GT} {ce:GE} {wi:TI} {src:Gm→Option (List D×Gm)}
theorem c5d(so:SrcOk K cap wi src)(tg':TgOk K (capM k cap) t gg){σ:St}{H:Hp}{Q:VK}(tt:tG K (a4b src gg ct ce k cap) σ H Q):tComp wi t (tGT K ct) (tG K ce) k cap σ H Q:=by
 obtain⟨F,A,Γ,rr,Γ',ok,e,w⟩:=tt
 unfold a4b at e
 cases q1:src Γ with
 |none=>rw[q1] at e;cases e
 |some p=>
  obtain⟨ds,Γ1⟩:=p
  rw[q1] at e
  dsimp only[Option.bind] at e
  cases q2:compLoop gg ct ce ds (List.replicate k none++(capIn cap Γ1).1) [] with
  |none=>rw[q2] at e;cases e
  |some fin=>
   rw[q2] at e
   dsimp only at e
   split at e
   ·rename_i hlen
    cases e
    refine so σ F H A Γ Γ1 ds _ ok q1 fun J H1 F1 A1 x1 k1 mk=>?_
    obtain⟨C,kC,nC,back⟩:=c2j (k:=k) (cap:=cap) k1
    refine mk t (tGT K ct) (tG K ce) (capS k cap σ) _ (CPv K (capM k cap) gg ct ce ds fin F1 H1 C (capS k cap σ)) ?_ ?_ ?_ ?_
    ·exact⟨F1,C,_,[],kC,Ext.refl,q2,rfl,Kept.refl⟩
    ·rintro i τ acc H ⟨F',A',Γc,accs,k',x',_⟩
     exact⟨⟨F',x'.ff,k'.le⟩,fun j ps a o hj h1 h2 h3=>x'.keep a o h3 (nC j ps a hj h1 h2)⟩
    ·intro i d x τ acc H ed rx p
     exact c4z tg' p ed rx
    ·intro τ acc H p l hn
     obtain⟨F',A',k',x',hl,kp⟩:=c9a p
     obtain⟨A'',x'',k''⟩:=back F' H τ fin.1 acc fin.2 A' x' k' hl kp hlen l hn
     exact w _ _ ⟨F',A'',x1.trans x'',k'',True.intro⟩
   ·cases e
theorem a8x(so:SrcOk K cap wi src)(tg':TgOk K (capM k cap) t gg)(ok:CompOk X scope M k cap)(hi:PI X tg iter wi)
  (hg:∀C s H fp,PG (a1k X scope M C s H fp) tg t) (ht:∀C s H fp,PTs (a1k X scope M C s H fp) ifs (tGT K ct)) (he:∀C s H fp,PE (a1k X scope M C s H fp) elt (tG K ce)) (hc:X.calm=true:=by rfl)
  (hs:∀x,foldedSetIterable iter X.env x=pure x:=by intro _;rfl):PE X (.ListComp elt [⟨tg,iter,ifs,0⟩] scope pos) (tG K (a4b src gg ct ce k cap)):=
 (d2j hc ok hi hg ht he hs).mono fun _ _ _ t=>c5d so tg' t
variable {m:List Bool}
theorem c9c{i:Nat}{x:Str}{px spos:Pos}(so:SrcOk K cap wi src)(tg':TgOk K (capM k cap) t gg)(ok:CompOk X scope M k cap)(hN:X.N.Nodup)(hix:X.N[i]?=some x)(hx:Loc X.env.scope x)(hi:PI X tg iter wi)
  (hg:∀C s H fp,PG (a1k X scope M C s H fp) tg t) (ht:∀C s H fp,PTs (a1k X scope M C s H fp) ifs (tGT K ct)) (he:∀C s H fp,PE (a1k X scope M C s H fp) elt (tG K ce)) (hc:X.calm=true:=by rfl) (hm:(m[i]? == some true)=false:=by rfl)
  (hsw:swapsWith (.ListComp elt [⟨tg,iter,ifs,0⟩] scope pos) (some (.Name x px)) spos.line X.env=pure true:=by rfl)
  (hs:∀x,foldedSetIterable iter X.env x=pure x:=by intro _;rfl) (hf:X.fn x=true∨X.env.scope.names.lookup x=some .local := by first|exact .inl rfl|exact .inr rfl) :
  PS X (.Assign [.Name x px] (.ListComp elt [⟨tg,iter,ifs,0⟩] scope pos) spos) (tS K m (gsSet i (gFrz (a4b src gg ct ce k cap)))):=(c3s hc ok hN hix hx hi hg ht he hsw hs hf).mono fun D σ H tt=>by
 obtain⟨F,A,Γ,fl,Γ',k,e,w⟩:=tt
 unfold gsSet at e
 cases q:gFrz (a4b src gg ct ce _ cap) Γ with
 |none=>rw[q] at e;cases e
 |some p=>
  obtain⟨r,Γ1⟩:=p
  rw[q] at e
  cases r with
  |var i=>cases e
  |own o=>
   dsimp only[Option.bind] at e
   split at e
   ·cases e
    refine c5d so tg' (d0t ⟨F,A,Γ,_,Γ1,k,q,fun v H' hh=>?_⟩)
    obtain⟨F1,A1,x,k1,_⟩:=hh
    obtain⟨B,k2,x2⟩:=OK.store (σ:=σ) (Γ:=Γ1) k1 (by assumption)
    exact w _ H' ⟨F1,B,x.trans x2,k2,Kept.set hm⟩
   ·cases e
end
end L2
namespace L2
open PySem PySem.Spec PyProof.Rows
inductive Wk (K:PySem.W.Frag) (H:Hp):V→List Nat→V→Prop
 |nil {x:V}:Wk K H x [] x
 |cons {p:Addr} {ws:List V} {j:Nat} {y v:V} {π:List Nat}:(SqL K H p ws∨SqT K H p ws)→ws[j]?=some y→Wk K H y π v→Wk K H (.ref p) (j::π) v
theorem Wk.snoc{K:PySem.W.Frag}{H:Hp}{x v:V}{π:List Nat}{j:Nat}(h:Wk K H x (π++[j]) v):∃p ws,Wk K H x π (.ref p)∧(SqL K H p ws∨SqT K H p ws)∧ws[j]?=some v:=by
 induction π generalizing x with
 |nil=>
  cases h with
  |cons s e t=>cases t;exact⟨_,_,.nil,s,e⟩
 |cons i π ih=>
  cases h with
  |cons s e t=>
   obtain⟨p,ws,h1,h2,h3⟩:=ih t
   exact⟨p,ws,.cons s e h1,h2,h3⟩
noncomputable def tPath (K:PySem.W.Frag) (i:Nat) (π:List Nat):TE:=fun σ H Q=>∃x v,σ[i]?=some (some x)∧Wk K H x π v∧Q v H
section
variable {X:Cx} {K:PySem.W.Frag} {e:Expr} {i j:Nat} {π:List Nat} {pos p1 p2:Pos} {n:Nat}
theorem b7g(h:PE X e (tVar i)):PE X e (tPath K i []):=h.mono fun σ H Q t=>by
 obtain⟨x,v,e,w,q⟩:=t
 cases w
 exact⟨x,e,q⟩
theorem b9b(h:PE X e (tPath K i π))(hu:X.A.units+41 < cLine)(hK:X.K=K:=by rfl)(hs:b4l (.Constant (.int (j:Int)) n p1):=by exact fun _ _=>rfl):PE X (.Subscript e (.Constant (.int (j:Int)) n p1) pos) (tPath K i (π++[j])):=
 (d2h (a4u K hu hK) h a0g hs).mono fun σ H Q t=>by
  obtain⟨x,v,e,w,q⟩:=t
  obtain⟨p,ws,h1,h2,h3⟩:=w.snoc
  refine⟨x,.ref p,e,h1,?_⟩
  rcases h2 with h2|h2
  ·exact .inl ⟨p,ws,j,v,rfl,rfl,h2,a3s h3,q⟩
  ·exact .inr (.inl ⟨p,ws,j,v,rfl,rfl,h2,a3s h3,q⟩)
end
noncomputable def setP (f:O→Option (O×O)):O→List Nat→Option (O×O)
 |.lst ps,[]=>f (.lst ps)
 |.tup os,j::π=>(os[j]?).bind fun c=>(setP f c π).bind fun z=>some (.tup (os.set j z.1),z.2)
 |.lst os,j::π=>(os[j]?).bind fun c=>(setP f c π).bind fun z=>some (.lst (os.set j z.1),z.2)
 |_,_=>none
section
variable {K:PySem.W.Frag} {F H:Hp}
theorem b3y{ws:List V}{os:List O}{A:List Addr}{j:Nat}{c:O}(h:OwnL K F H (ws.map some) (os.map some) A)(e:os[j]?=some c):∃v Ac B,ws[j]?=some v∧OwnL K F H [some v] [some c] Ac∧A.Perm (Ac++B)∧
  ∀F' H' c' A',Same F F'→(∀a∈B,∀u,H a=some u→H' a=some u)→OwnL K F' H' [some v] [some c'] A'→∃D,OwnL K F' H' (ws.map some) ((os.set j c').map some) D∧SubP D (A'++B):=by
 have e':(os.map some)[j]?=some (some c):=by rw[List.getElem?_map,e];rfl
 obtain⟨v,Ac,B,g1,g2,g3,g4⟩:=h.take e'
 have hv:ws[j]?=some v:=by
  rw[List.getElem?_map] at g1
  cases q:ws[j]? with
  |none=>rw[q] at g1;cases g1
  |some z=>rw[q] at g1;cases g1;rfl
 refine⟨v,Ac,B,hv,g2,g4,fun F' H' c' A' sf kp w=>?_⟩
 have g3':OwnL K F' H' (ws.map some) ((os.map some).set j none) B:=g3.keep sf kp
 have hj:j < ((os.map some).set j none).length:=by
  rw[List.length_set,List.length_map]
  exact(List.getElem?_eq_some_iff.mp e).1
 obtain⟨D,k1,C,k2,k3⟩:=OwnL.put w j g3' hj
 rw[List.set_set,a4j g1] at k1
 refine⟨D,by rw[List.map_set];exact k1,(SubP.of_perm k2).trans ((SubP.refl A').app (.of_sub k3))⟩
noncomputable def PaW (K:PySem.W.Frag) (F H:Hp) (f:O→Option (O×O)) (π:List Nat) (x:V) (o' res:O) (A:List Addr):Prop:=∃v c c' Ac B,Wk K H x π v∧OwnL K F H [some v] [some c] Ac∧(∃ps,c=.lst ps)∧f c=some (c',res)∧A.Perm (Ac++B)∧
   ∀F' H' A',Same F F'→(∀a u,a∉Ac→H a=some u→H' a=some u)→OwnL K F' H' [some v] [some c'] A'→∃D,OwnL K F' H' [some x] [some o'] D∧SubP D (A'++B)
theorem b7h{f:O→Option (O×O)}{π:List Nat}{x:V}{a:Addr}{ws:List V}{os:List O}{c0 d res:O}{Ap:List Addr}{j:Nat}{N:List O→O}(nd:(a::Ap).Nodup)(ch:OwnL K F H (ws.map some) (os.map some) Ap)(q1:os[j]?=some c0)
  (ih:∀{y A},OwnL K F H [some y] [some c0] A→A.Nodup→PaW K F H f π y d res A) (hx:∀{y v},ws[j]?=some y→Wk K H y π v→Wk K H x (j::π) v)
  (mk:∀{F' H' D},(∀u,H a=some u→H' a=some u)→OwnL K F' H' (ws.map some) ((os.set j d).map some) D→OwnL K F' H' [some x] [some (N (os.set j d))] (a::D++[])):PaW K F H f (j::π) x (N (os.set j d)) res (a::Ap):=by
 obtain⟨na,nd1⟩:=List.nodup_cons.mp nd
 obtain⟨y,Ay,B1,g1,g2,g3,g4⟩:=b3y ch q1
 have nd2:(Ay++B1).Nodup:=g3.nodup_iff.mp nd1
 obtain⟨v,c,c',Ac,B2,k1,k2,k3,k4,k5,k6⟩:=ih g2 (List.nodup_append.mp nd2).1
 refine⟨v,c,c',Ac,a::(B2++B1),hx g1 k1,k2,k3,k4,?_,fun F' H' A' sf kp w=>?_⟩
 ·refine((g3.trans (k5.append_right _)).cons a).trans ?_
  rw[List.append_assoc]
  exact List.perm_middle.symm
 ·obtain⟨D,w1,w2⟩:=k6 F' H' A' sf kp w
  have hac:∀b∈Ac,b∈Ay:=fun b m=>k5.mem_iff.mpr (List.mem_append_left _ m)
  obtain⟨D2,w3,w4⟩:=g4 F' H' d D sf (fun b m u e=>kp b u (fun z=>(List.nodup_append.mp nd2).2.2 b (hac b z) b m rfl) e) w1
  have ha:a∉Ac:=fun z=>na (g3.mem_iff.mpr (List.mem_append_left _ (hac a z)))
  refine⟨a::D2++[],mk (fun u=>kp a u ha) w3,?_⟩
  rw[List.append_nil]
  have s1:SubP D2 (A'++(B2++B1)):=w4.trans (by rw[←List.append_assoc];exact w2.app (SubP.refl B1))
  obtain⟨L,p1,p2⟩:=s1
  exact SubP.trans ⟨a::L,p1.cons a,p2.cons_cons a⟩ (.of_perm List.perm_middle.symm)
theorem b7i{f:O→Option (O×O)}{os:List O}{N:List O→O}{j:Nat}{π:List Nat}{o' res:O}(e:((os[j]?).bind fun c=>(setP f c π).bind fun z=>some (N (os.set j z.1),z.2))=some (o',res)):∃c0 d,os[j]?=some c0∧setP f c0 π=some (d,res)∧o'=N (os.set j d):=by
 obtain⟨c,q1,e⟩:=Option.bind_eq_some_iff.1 e
 obtain⟨z,q2,e⟩:=Option.bind_eq_some_iff.1 e
 cases e
 exact⟨c,_,q1,q2,rfl⟩
theorem b2j{f:O→Option (O×O)}{π:List Nat}:∀{x:V} {o o' res:O} {A:List Addr},OwnL K F H [some x] [some o] A→A.Nodup→setP f o π=some (o',res)→PaW K F H f π x o' res A:=by
 induction π with
 |nil=>
  intro x o o' res A h nd e
  cases o with
  |lst ps=>exact⟨x,_,o',A,[],.nil,h,⟨ps,rfl⟩,e,by rw[List.append_nil],fun F' H' A' _ _ w=>⟨A',w,by rw[List.append_nil];exact SubP.refl _⟩⟩
  |_=>cases e
 |cons j π ih=>
  intro x o o' res A h nd e
  cases o with
  |tup os=>
   obtain⟨c0,d,q1,q2,rfl⟩:=b7i (N:=.tup) e
   cases h with
   |@tup a ws _ Ap B0 _ _ hl ch t=>
    have eB:B0=[]:=by cases t;rfl
    subst eB
    rw[List.append_nil] at nd ⊢
    exact b7h nd ch q1 (fun h n=>ih h n q2) (fun g1 k1=>.cons (.inr (SqT.of hl)) g1 k1) fun kp w=>.tup (kp _ hl) w .nil
  |lst os=>
   obtain⟨c0,d,q1,q2,rfl⟩:=b7i (N:=.lst) e
   cases h with
   |@lst a ws _ Ap B0 _ _ hl ch t=>
    have eB:B0=[]:=by cases t;rfl
    subst eB
    rw[List.append_nil] at nd ⊢
    exact b7h nd ch q1 (fun h n=>ih h n q2) (fun g1 k1=>.cons (.inl (SqL.of hl)) g1 k1) fun kp w=>.lst (kp _ hl) w .nil
  |_=>cases e
end
noncomputable def gMutC (g:O→List O→Option (O×O)) (i:Nat) (π:List Nat) (ds:List D):GE:=fun Γ=>match Γ[i]? with
 |some (some o)=>(setP (fun c=>g c (ds.map .frz)) o π).bind fun z=>some (.own z.2,Γ.set i (some z.1))
 |_=>none
section
variable {X:Cx} {K:PySem.W.Frag} {o e:Expr} {es:List Expr} {i:Nat} {π:List Nat} {t:TA} {name:Str} {apos cpos:Pos} {id:String} {r:V→List V→Hp→VK→Prop} {g:O→List O→Option (O×O)} {ds:List D} {vs:List V}
theorem b7j{F H:Hp}:∀{ds:List D} {vs:List V},ds.map a4a=vs.map some→OwnL K F H (vs.map some) ((ds.map .frz).map some) []
 |[],[],_=>.nil
 |d::ds,v::vs,h=>by
  rw[List.map_cons,List.map_cons] at h
  injection h with h1 h2
  exact .frz (.flat h1 .nil) (b7j h2)
 |[],_::_,h=>by simp at h
 |_::_,[],h=>by simp at h
theorem c5e(ok:MutOk K r g)(hv:ds.map a4a=vs.map some)(ht:∀σ H Q,Q vs H→t σ H Q){σ:St}{H:Hp}{Q:VK}(tt:tG K (gMutC g i π ds) σ H Q):tBM K "list" r (tPath K i π) t σ H Q:=by
 obtain⟨F,A,Γ,rr,Γ',k,e,w⟩:=tt
 unfold gMutC at e
 split at e
 ·rename_i oo hΓ
  cases q:setP (fun c=>g c (ds.map .frz)) oo π with
  |none=>rw[q] at e;cases e
  |some z=>
   rw[q] at e
   cases e
   obtain⟨x,Ai,C,g1,g2,g3,g4⟩:=k.os.take hΓ
   have nd:(Ai++C).Nodup:=g4.nodup_iff.mp k.nd
   have fr:∀a∈Ai++C,F a=none:=fun a m=>k.fr a (g4.mem_iff.mpr m)
   obtain⟨n1,n2,n3⟩:=List.nodup_append.mp nd
   obtain⟨v,c,c',Ac,B,k1,k2,⟨ps,k3⟩,k4,k5,k6⟩:=b2j g2 n1 q
   refine⟨x,v,g1,k1,?_,ht σ H _ ?_⟩
   ·subst k3
    cases k2 with
    |lst hq _ _=>exact .inl ⟨rfl,_,SqL.of hq⟩
   ·have ndc:(Ac++B).Nodup:=k5.nodup_iff.mp n1
    have hac:∀a∈Ac,a∈Ai:=fun a m=>k5.mem_iff.mpr (List.mem_append_left _ m)
    refine ok F H v vs c (ds.map .frz) c' z.2 Ac [] Q k.le k2 (b7j hv) (by rw[List.append_nil];exact(List.nodup_append.mp ndc).1) (fun a m=>fr a (List.mem_append_left _ (hac a (by simpa using m)))) k4 fun v' H' A' Ar kp dm w1 w2 sp=>?_
    rw[List.append_nil] at sp
    obtain⟨D,j1,j2⟩:=k6 F H' A' (Same.refl _) kp w1
    have nC:∀a∈C,a∉Ac:=fun a m y=>n3 a (hac a y) a m rfl
    have g3':OwnL K F H' σ (Γ.set i none) C:=g3.keep (Same.refl _) fun a m u e=>kp a u (nC a m) e
    have hi:i < (Γ.set i none).length:=by rw[List.length_set];exact(List.getElem?_eq_some_iff.mp hΓ).1
    obtain⟨D2,j3,C2,j4,j5⟩:=OwnL.put j1 i g3' hi
    rw[a4j g1,List.set_set] at j3
    have s1:SubP (Ar++D2) A:=by
     have a1:SubP D2 (D++C):=(SubP.of_perm j4).trans ((SubP.refl D).app (.of_sub j5))
     have a2:SubP (Ar++D2) (Ar++((A'++B)++C)):=(SubP.refl Ar).app (a1.trans (j2.app (SubP.refl C)))
     have a3:SubP (Ar++((A'++B)++C)) ((Ac++B)++C):=by
      rw[←List.append_assoc,←List.append_assoc]
      exact(sp.app (SubP.refl B)).app (SubP.refl C)
     exact a2.trans (a3.trans (.of_perm ((k5.symm.append_right C).trans g4.symm)))
    refine w v' H' ⟨F,Ar++D2,⟨Same.refl _,fun a u e n=>kp a u (fun y=>n (g4.mem_iff.mpr (List.mem_append_left _ (hac a y)))) e,dm,fun a h=>.inl h,fun a m=>.inl (s1.mem a m)⟩,⟨fun a u e=>?_,w2.app j3,s1.nodup k.nd,fun a m=>k.fr a (s1.mem a m)⟩,True.intro⟩
    refine kp a u (fun y=>?_) (k.le a u e)
    rw[fr a (List.mem_append_left _ (hac a y))] at e
    cases e
 ·cases e
theorem c5f(slot:Slot "list" name id)(hty:typeOf (.builtin id)=pure (.type "method_descriptor"))(hm:MtM X id r)(ok:MutOk K r g)(ho:PE X o (tPath K i π))(ha:PA X (e::es) t)(hv:ds.map a4a=vs.map some)(ht:∀σ H Q,Q vs H→t σ H Q)
  (hbase:attributeBase o name X.env (eval o X.env)=eval o X.env:=by rfl)
  (hfew:((backTo cpos (starEach (e::es) X.env)).all (fun x => !x.1) && (backToKw cpos (keywordEach [] X.env)).all (fun x=>x.1.isSome)
   && decide ((e::es).length+([]:List Keyword).length+(if([]:List Keyword).isEmpty then 0 else 1) < 30))=true:=by rfl)
  (hline:(apos.endLine == cpos.line)=true:=by rfl) (hs:starEach (e::es) X.env=(false,eval e X.env)::starEach es X.env:=by rfl) (hplain:(backTo cpos (starEach es X.env)).any (·.1)=false:=by rfl) (hK:X.K=K:=by rfl) :
  PE X (.Call (.Attribute o name apos) (e::es) [] cpos) (tG K (gMutC g i π ds)):=by
 subst hK
 exact(b8m PySem.F.plainAttrs_list slot hty hm ho ha hbase hfew hline hs hplain).mono fun _ _ _ t=>c5e ok hv ht t
theorem c9d(slot:Slot "list" name id)(hty:typeOf (.builtin id)=pure (.type "method_descriptor"))(hm:MtM X id r)(ok:MutOk K r g)(ho:PE X o (tPath K i π))
  (hbase:attributeBase o name X.env (eval o X.env)=eval o X.env:=by rfl) (hline:(apos.endLine == cpos.line)=true:=by rfl) (hK:X.K=K:=by rfl) :
  PE X (.Call (.Attribute o name apos) [] [] cpos) (tG K (gMutC g i π [])):=by
 subst hK
 refine(d5h PySem.F.plainAttrs_list slot hty hm ho hbase hline).mono fun σ H Q t=>?_
 obtain⟨x,v,h1,h2,h3,h4⟩:=c5e (t:=fun _ H Q=>Q [] H) (vs:=[]) ok rfl (fun _ _ _ q=>q) t
 exact⟨x,v,h1,h2,h3,h4⟩
end
end L2
namespace L2
open PySem PySem.Spec PyProof.Rows
noncomputable def a2u (M:GM) (fs:GA):GE:=fun Γ=>(fs Γ).bind fun p=>(seeL p.2 p.1).bind fun os=>(M ((O.dl os).map .frz)).bind fun r=>match r.1 with
 |.frz d=>(a4a d).bind fun _=>some (.own (.frz d),p.2)
 |_=>none
section
variable {K:PySem.W.Frag}
theorem c9e{F H:Hp}(le:Same F H){vs:List V}{os:List O}(h:Sees K F H vs os):RepL K H vs (O.dl os):=by
 unfold Sees at h
 induction h with
 |nil=>exact .nil
 |cons p t ih=>obtain⟨B,h⟩:=p;exact .cons (a4f le h) ih
theorem c2k{M:GM}{fs:GA}{Γ Γ':Gm}{r:R}(e:a2u M fs Γ=some (r,Γ')):∃rs os d fin v,fs Γ=some (rs,Γ')∧seeL Γ' rs=some os∧M ((O.dl os).map .frz)=some (.frz d,fin)∧a4a d=some v∧r=.own (.frz d):=by
 unfold a2u at e
 cases q1:fs Γ with
 |none=>rw[q1] at e;cases e
 |some p=>
  rw[q1] at e
  dsimp only[Option.bind] at e
  cases q2:seeL p.2 p.1 with
  |none=>rw[q2] at e;cases e
  |some os=>
   rw[q2] at e
   dsimp only at e
   cases q3:M ((O.dl os).map .frz) with
   |none=>rw[q3] at e;cases e
   |some z=>
    obtain⟨o,fin⟩:=z
    rw[q3] at e
    dsimp only at e
    cases o with
    |frz d=>
     dsimp only at e
     cases q4:a4a d with
     |none=>rw[q4] at e;cases e
     |some v=>rw[q4] at e;cases e;exact⟨p.1,os,d,fin,v,rfl,q2,q3,q4,rfl⟩
    |_=>cases e
variable {X:Cx} {k n:Nat} {f:Addr} {fd:FuncData} {ps:List Str} {x:Str} {p pos:Pos} {e:Expr} {es:List Expr} {fs:GA} {st:Stmt} {M:GM}
theorem c9f{σ:St}{H:Hp}{Q:VK}(t:tG K (a2u M fs) σ H Q)(hn:∀rs Γ Γ',fs Γ=some (rs,Γ')→rs.length=n):tCall (SpM K n M) [] E0 (tGA K fs) σ H Q:=by
 obtain⟨F,A,Γ,rr,Γ',k,e,w⟩:=t
 obtain⟨rs,os,d,fin,v0,e1,e2,e3,e4,rfl⟩:=c2k e
 refine⟨F,A,Γ,rs,Γ',k,e1,fun vs H1 pp=>?_⟩
 show SpM K n M (vs++[]) H1 Q E0
 rw[List.append_nil]
 obtain⟨F1,le,see,res⟩:=pp.res e2 w
 obtain⟨_,_,_,_,hh⟩:=pp
 refine⟨by rw[←hh.length];exact hn rs Γ Γ' e1,H1,[],(O.dl os).map .frz,.frz d,fin,⟨Same.refl _,b1i (c9e le see),.nil,fun _ m=>by cases m⟩,e3,fun v H' pc=>?_⟩
 obtain⟨F5,A5,x5,k5⟩:=pc
 have s:Same H1 H':=fun a o e=>x5.keep a o e (by simp)
 have ev:v=v0:=by
  obtain⟨B,C,h1,_⟩:=k5.os.one
  exact a0v h1 e4
 subst ev
 exact res v H' [] s (.frz (.flat e4 .nil) .nil) .nil (fun _ m=>by cases m)
theorem a4k(D:DefAt X.K X.mg x st f fd ps)(Fn:FnOk X.prog X.w X.K X.mg X.base CX0 k f fd ps (SpM K n M))(hr:Room k X.A)(ha:PA X (e::es) (tGA K fs))(hn:∀rs Γ Γ',fs Γ=some (rs,Γ')→rs.length=n)(hg:Gl X x:=by rfl)(hdb:(x == ("__debug__":Str))=false:=by decide)
  (he:starEach (e::es) X.env=(false,eval e X.env)::starEach es X.env:=by rfl) (hpl:(backTo pos (starEach es X.env)).any (·.1)=false:=by rfl) :
  PE X (.Call (.Name x p) (e::es) [] pos) (tG K (a2u M fs)):=(pcall D Fn hr ha hg hdb he hpl).mono fun _ _ _ t=>c9f t hn
theorem d3b{P:Program}{w:World}{mg:Str→Option Value}{base:Heap}{k:Nat}{f:Addr}{fd:FuncData}{ps:List Str}{M:GM}(F:FnOk P w K mg base CX0 k f fd ps (SpM K 1 M))(h:∀ns:List Int,ns.length≤63→∃fin,M [.frz (.scr ns)]=some (.frz (.bl true),fin)):
  FnOk P w K mg base CX0 k f fd ps (fun vs H Q _=>∃(a:Addr) (ns:List Int),vs=[.ref a]∧SqL K H a (ns.map V.int)∧ns.length≤63∧∀H',Q (.bl true) H'):=F.imp fun vs H Q E q=>by
 obtain⟨a,ns,rfl,hS,hl,q⟩:=q
 obtain⟨fin,e⟩:=h ns hl
 refine⟨rfl,H,[],[.frz (.scr ns)],_,fin,⟨Same.refl _,.frz (.scr hS .nil) .nil,.nil,fun _ m=>by cases m⟩,e,fun v H' pc=>?_⟩
 obtain⟨F5,A5,x5,k5⟩:=pc
 obtain⟨B,C,h1,_⟩:=k5.os.one
 cases a0v h1 rfl
 exact q H'
end
end L2
namespace L2
open PySem
open Lean Meta in
simproc_decl evBind (Option.bind _ _):=fun e=>do
 let a:=e.getAppArgs
 unless a.size == 4 do return .continue
 let r0 ←Simp.simp a[2]!
 let r:={ r0 with expr:=(←instantiateMVars r0.expr).cleanupAnnotations.headBeta}
 let pr ←match r.proof? with
  |none=>pure none
  |some p=>pure (some (←mkCongrArg (.lam `z (←inferType a[2]!) (mkApp4 e.getAppFn a[0]! a[1]! (.bvar 0) a[3]!) .default) p))
 if r.expr.isAppOfArity ``Option.some 2 then
  return .visit { expr:=(mkApp a[3]! r.expr.appArg!).headBeta,proof?:=pr}
 if r.expr.isAppOfArity ``Option.none 1 then
  return .done { expr:=mkApp (.const ``Option.none (e.getAppFn.constLevels!.drop 1)) a[1]!,proof?:=pr}
 return .done { expr:=mkApp4 e.getAppFn a[0]! a[1]! r.expr a[3]!,proof?:=pr}
open Lean Meta in
simproc_decl evMap (Option.map _ _):=fun e=>do
 let a:=e.getAppArgs
 unless a.size == 4 do return .continue
 let r0 ←Simp.simp a[3]!
 let r:={ r0 with expr:=(←instantiateMVars r0.expr).cleanupAnnotations.headBeta}
 let pr ←match r.proof? with
  |none=>pure none
  |some p=>pure (some (←mkCongrArg (.lam `z (←inferType a[3]!) (mkApp4 e.getAppFn a[0]! a[1]! a[2]! (.bvar 0)) .default) p))
 if r.expr.isAppOfArity ``Option.some 2 then
  return .visit { expr:=mkApp2 (.const ``Option.some (e.getAppFn.constLevels!.drop 1)) a[1]! (mkApp a[2]! r.expr.appArg!).headBeta,proof?:=pr}
 if r.expr.isAppOfArity ``Option.none 1 then
  return .done { expr:=mkApp (.const ``Option.none (e.getAppFn.constLevels!.drop 1)) a[1]!,proof?:=pr}
 return .done { expr:=mkApp4 e.getAppFn a[0]! a[1]! a[2]! r.expr,proof?:=pr}
section
variable (f g h:GS) (fa fb fc:GE) (fs:GA) (ft gt:GT) (lo hi:GO) (Γ:Gm) (i n:Nat) (o:O) (d:D) (ds:List D) (os:List O) (gg:GG) (M:GM) (op:List O→Option O) (mu:O→List O→Option (O×O)) (c:List O→O)
theorem a0x:a0e f g Γ=(f Γ).bind fun p=>match p.1 with
 |.nx=>g p.2
 |.bk=>some (.bk,p.2)
 |.ct=>some (.ct,p.2)
 |.rt o=>some (.rt o,p.2):=rfl
theorem a1m:gsNil Γ=some (.nx,Γ):=rfl
theorem a3i:gsSet i fa Γ=(fa Γ).bind fun p=>match p.1 with
 |.own o=>if i < p.2.length then some (.nx,p.2.set i (some o)) else none
 |.var _=>none:=rfl
theorem a2o:gsRet fa Γ=(fa Γ).bind fun p=>match p.1 with
 |.own o=>some (.rt o,p.2)
 |.var _=>none:=rfl
theorem a3c:a1l fa Γ=(fa Γ).bind fun p=>some (.nx,p.2):=rfl
theorem a1j:gsIf ft f g Γ=(ft Γ).bind fun p=>if p.1=true then f p.2 else g p.2:=rfl
theorem b3z:gsPut fa fb fc Γ=(fa Γ).bind fun p=>(fb p.2).bind fun q=>(fc q.2).bind fun r=>match p.1,q.1,r.1 with
 |.own v,.var i,.own y=>match r.2[i]? with
  |some (some o)=>(mSet o [v,y]).bind fun z=>some (.nx,r.2.set i (some z.1))
  |_=>none
 |_,_,_=>none:=rfl
theorem a9l:gsFor fa gg f Γ=(gFrz fa Γ).bind fun p=>match p.1 with
 |.own (.frz (.lst ds))=>a1u gg f ds p.2
 |_=>none:=rfl
theorem c5g:a9e fs gg f Γ=(fs Γ).bind fun p=>(int1 p.1).bind fun j=>a1u gg f (rngD 0 j.toNat) p.2:=rfl
theorem d5z:b4s fs gg f Γ=(fs Γ).bind fun p=>(int3 p.1).bind fun j=>a1u gg f (rngC j.1 (-1) (j.1 - j.2).toNat) p.2:=rfl
theorem a6f:gC d Γ=some (.own (.frz d),Γ):=rfl
theorem a0t:gVar i Γ=match Γ[i]? with
 |some (some (.frz d))=>some (.own (.frz d),Γ)
 |some (some _)=>some (.var i,Γ)
 |_=>none:=rfl
theorem a1v:gFrz fa Γ=(fa Γ).bind fun p=>match p.1 with
 |.own o=>some (.own (.frz o.d),p.2)
 |.var i=>match p.2[i]? with
  |some (some o)=>some (.own (.frz o.d),p.2.set i (some (.frz o.d)))
  |_=>none:=rfl
theorem b0k:gMove fa Γ=(fa Γ).bind fun p=>match p.1 with
 |.own o=>some (.own o,p.2)
 |.var i=>match p.2[i]? with
  |some (some o)=>some (.own o,p.2.set i none)
  |_=>none:=rfl
theorem a0m:gaNil Γ=some ([],Γ):=rfl
theorem a0j:a0a fa fs Γ=(fa Γ).bind fun p=>(fs p.2).bind fun q=>some (p.1::q.1,q.2):=rfl
theorem a1t:gOp op fs Γ=(fs Γ).bind fun p=>(seeL p.2 p.1).bind fun os=>(op os).bind fun o=>some (.own o,p.2):=rfl
theorem a4c:gSeq c fs Γ=(fs Γ).bind fun p=>if p.1.length≤1000 then(ownL p.1).bind fun os=>some (.own (c os),p.2) else none:=rfl
theorem c0r:c0e Γ=some (.own (.dct []),Γ):=rfl
theorem a8c:gT fa Γ=(fa Γ).bind fun p=>match p.1 with
 |.own (.frz (.bl b))=>some (b,p.2)
 |_=>none:=rfl
theorem a5r:gTru fa Γ=(fa Γ).bind fun p=>(seeR p.2 p.1).bind fun o=>(truO o).bind fun b=>some (b,p.2):=rfl
theorem b2k:gNotT ft Γ=(ft Γ).bind fun p=>some (!p.1,p.2):=rfl
theorem b9c:gAndT ft gt Γ=(ft Γ).bind fun p=>if p.1=true then gt p.2 else some (false,p.2):=rfl
theorem a7q:gOrT ft gt Γ=(ft Γ).bind fun p=>if p.1=true then some (true,p.2) else gt p.2:=rfl
theorem d3c:gIf ft fa fb Γ=(ft Γ).bind fun p=>if p.1=true then fa p.2 else fb p.2:=rfl
theorem b2l:gAndV fa fb Γ=(gT fa Γ).bind fun p=>if p.1=true then fb p.2 else gC (.bl false) p.2:=rfl
theorem a3d:gCall M fs Γ=(fs Γ).bind fun p=>(a2w p.1 p.2).bind fun q=>(M q.1).bind fun r=>some (.own r.1,a4t p.1 r.2 q.2):=rfl
theorem a9m:gMut mu fa fs Γ=(fa Γ).bind fun p=>match p.1 with
 |.var i=>match p.2[i]? with
  |some (some (.lst _))=>(fs p.2).bind fun q=>(ownL q.1).bind fun os=>match q.2[i]? with
   |some (some o)=>(mu o os).bind fun z=>some (.own z.2,q.2.set i (some z.1))
   |_=>none
  |_=>none
 |_=>none:=rfl
theorem b0l:a9j Γ=some (none,Γ):=rfl
theorem b0m:a8p fa Γ=(fa Γ).bind fun p=>(intR p.1).map fun i=>(some i,p.2):=rfl
theorem a8d:a7p fa lo hi Γ=(fa Γ).bind fun p=>(lo p.2).bind fun q=>(hi q.2).bind fun r=>(seeR r.2 p.1).bind fun o=>(slO o q.1 r.1).bind fun o'=>some (.own o',r.2):=rfl
theorem a6x(src:Gm→Option (List D×Gm))(k:Nat)(cap:List Nat):a4b src gg ft fa k cap Γ=(src Γ).bind fun p=>
 (compLoop gg ft fa p.1 (List.replicate k none++(capIn cap p.2).1) []).bind fun q=>if q.2.length=k+cap.length then some (.own (.lst q.1),a8q cap (q.2.drop k) (capIn cap p.2).2) else none:=rfl
theorem b9d:srcL fa Γ=(gFrz fa Γ).bind fun p=>match p.1 with
 |.own (.frz (.lst ds))=>some (ds,p.2)
 |_=>none:=rfl
theorem c0s:srcR1 fs Γ=(fs Γ).bind fun p=>(int1 p.1).map fun j=>(rngD 0 j.toNat,p.2):=rfl
theorem c5h:gYes Γ=some (true,Γ):=rfl
theorem a2l:a0i i d Γ=if i < Γ.length then some (Γ.set i (some (.frz d))) else none:=rfl
theorem b0n(gs:List GG):ggTup gs (.tup ds) Γ=ggAll gs ds Γ:=rfl
theorem a8e:ggAll [] [] Γ=some Γ:=rfl
theorem a8f(gs:List GG):ggAll (gg::gs) (d::ds) Γ=(gg d Γ).bind fun Γ1=>ggAll gs ds Γ1:=rfl
theorem a1w(m:List Bool):runM n m f os=(f (os.map some++List.replicate (n - os.length) none)).bind fun p=>p.1.val.bind fun o=>if p.2.length=n then some (o,keepM m (p.2.take os.length)) else none:=rfl
theorem a8g:a1u gg f (d::ds) Γ=(gg d Γ).bind fun Γ1=>(f Γ1).bind fun q=>match q.1 with
 |.nx=>a1u gg f ds q.2
 |.ct=>a1u gg f ds q.2
 |.bk=>some (.nx,q.2)
 |.rt o=>some (.rt o,q.2):=rfl
theorem b7k:compLoop gg ft fa [] Γ os=some (os,Γ):=rfl
theorem b2m:compLoop gg ft fa (d::ds) Γ os=(gg d Γ).bind fun Γ1=>(ft Γ1).bind fun p=>if p.1=true then
   (fa p.2).bind fun q=>(ownL [q.1]).bind fun os'=>if os.length < 1000000 then compLoop gg ft fa ds q.2 (os++os') else none
  else compLoop gg ft fa ds p.2 os:=rfl
theorem b2n(z:Str):slO (.frz (.str z)) l u=if z.length≤1000000 then some (.frz (.str (Txt.slice z l u))) else none:=rfl
theorem d6a:listD (.lst (ds.map .frz))=some ds:=a8b ds
theorem c5i:listD (.lst os)=frzL os:=rfl
theorem d6b:frzL []=some []:=rfl
theorem d6c:frzL (.frz d::os)=(frzL os).bind fun ds=>some (d::ds):=rfl
theorem a3v(a b:Int):oAdd [.frz (.int a),.frz (.int b)]=some (.frz (.int (a+b))):=rfl
theorem c5j(a b:Str):oAdd [.frz (.str a),.frz (.str b)]=if a.length+b.length≤1000000 then some (.frz (.str (a++b))) else none:=rfl
theorem d3d(a b:List O):oAdd [.lst a,.lst b]=(listD (.lst a)).bind fun xs=>(listD (.lst b)).bind fun ys=>if xs.length+ys.length≤1000000 then some (.lst ((xs++ys).map .frz)) else none:=rfl
theorem c5k(a b:List D):oAdd [.frz (.lst a),.frz (.lst b)]=if a.length+b.length≤1000000 then some (.lst ((a++b).map .frz)) else none:=rfl
theorem b5c(a:List O)(b:List D):oAdd [.lst a,.frz (.lst b)]=(listD (.lst a)).bind fun xs=>if xs.length+b.length≤1000000 then some (.lst ((xs++b).map .frz)) else none:=rfl
theorem a5h(C:Int→Int→Bool)(q:Int→Int→D)(a b:Int):oInt C q [.frz (.int a),.frz (.int b)]=if C a b=true then some (.frz (q a b)) else none:=rfl
theorem b5d(a b:Int):oMulA [.frz (.int a),.frz (.int b)]=if(-(2 ^ 64) < a∧a < 2 ^ 64)∨(-(2 ^ 64) < b∧b < 2 ^ 64) then some (.frz (.int (a * b))) else none:=rfl
theorem c5l(a:Str)(b:Int):oMulA [.frz (.str a),.frz (.int b)]=if MulOk a b then some (.frz (.str (Txt.mul a b))) else none:=rfl
theorem d1b(a:Int):oNeg [.frz (.int a)]=some (.frz (.int (-a))):=rfl
theorem a4o(a:O):oIx [a,.frz d]=oIx1 a d:=rfl
theorem a5s(k:Int):oIx1 (.frz (.lst ds)) (.int k)=(atI ds k).map .frz:=rfl
theorem b2o(k:Int):oIx1 (.frz (.tup ds)) (.int k)=(atI ds k).map .frz:=rfl
theorem a7r(k:Int):oIx1 (.lst os) (.int k)=(atI os k).bind unfrz:=rfl
theorem d6d(z:Str)(k:Int):oIx1 (.frz (.str z)) (.int k)=if z.length≤1000000 then(atI z.cps.toList k).map fun c=>.frz (.str ⟨#[c]⟩) else none:=rfl
theorem a3w:unfrz (.frz d)=some (.frz d):=rfl
theorem a9n(a:O):oLen [a]=(lenD a.d).map fun n=>.frz (.int n):=rfl
theorem a6y:lenD (.lst ds)=some (ds.length:Int):=rfl
theorem a6z(a b:O):oEq [a,b]=if okD 40 a.d=true∧okD 40 b.d=true then some (.frz (.bl (eqD a.d b.d))) else none:=rfl
theorem b7l(a:Bool):oInt1 [.frz (.bl a)]=some (.frz (.int (if a then 1 else 0))):=rfl
theorem b9e(ps:List O)(v:O)(k:Int):mSet (.lst ps) [v,.frz (.int k)]=(ixN ps.length k).map fun j=>(.lst (ps.set j v),.frz .non):=rfl
theorem a2b:a2w [] Γ=some ([],Γ):=rfl
theorem a2c(rs:List R):a2w (.own o::rs) Γ=(a2w rs Γ).bind fun p=>some (o::p.1,p.2):=rfl
theorem a3e(rs:List R):a2w (.var i::rs) Γ=match Γ[i]? with
  |some (some o)=>(a2w rs (Γ.set i none)).bind fun p=>some (o::p.1,p.2)
  |_=>none:=rfl
theorem a4d(fin:Gm):a4t [] fin Γ=Γ:=by cases fin <;> rfl
theorem a4e(rs:List R)(x:Option O)(fin:Gm):a4t (.own o::rs) (x::fin) Γ=a4t rs fin Γ:=rfl
theorem a5t(rs:List R)(x:Option O)(fin:Gm):a4t (.var i::rs) (x::fin) Γ=(a4t rs fin Γ).set i x:=rfl
theorem a0n:seeL Γ []=some []:=rfl
theorem a0o(r:R)(rs:List R):seeL Γ (r::rs)=(seeR Γ r).bind fun o=>(seeL Γ rs).bind fun os=>some (o::os):=rfl
theorem a0p:seeR Γ (.own o)=some o:=rfl
theorem a2x:seeR Γ (.var i)=(Γ[i]?).join:=rfl
theorem a1i:ownL []=some []:=rfl
theorem a1n(rs:List R):ownL (.own o::rs)=(ownL rs).bind fun os=>some (o::os):=rfl
theorem b0o(k:Int):intR (.own (.frz (.int k)))=some k:=rfl
theorem b1f(m:List Bool)(x:Option O):keepM (true::m) (x::Γ)=x::keepM m Γ:=rfl
theorem a3r(m:List Bool)(x:Option O):keepM (false::m) (x::Γ)=none::keepM m Γ:=rfl
theorem a3p(m:List Bool):keepM m []=[]:=by
 cases m with
 |nil=>rfl
 |cons b m=>cases b <;> rfl
theorem a4h:(Fl.rt o).val=some o:=rfl
theorem c5m:Fl.nx.val=some (.frz .non):=rfl
theorem a4i(b:Bool):truO (.frz (.bl b))=some b:=rfl
theorem c5n:truO (.frz (.lst ds))=some (!ds.isEmpty):=rfl
theorem a2f:(O.frz d).d=d:=rfl
theorem a5i:(O.lst os).d=.lst (O.dl os):=rfl
theorem c9g:(O.tup os).d=.tup (O.dl os):=rfl
theorem a5j:O.dl []=[]:=rfl
theorem a4z:O.dl (o::os)=o.d::O.dl os:=rfl
theorem b4a:O.dl (ds.map .frz)=ds:=b3v ds
end
theorem a5a{α:Type}(a:α)(l:List α):atI (a::l) 0=some a:=a3s (j:=0) rfl
theorem a7a{α:Type}(a b:α)(l:List α):atI (a::b::l) 1=some b:=a3s (j:=1) rfl
theorem a9o{α:Type}(a b c:α)(l:List α):atI (a::b::c::l) 2=some c:=a3s (j:=2) rfl
theorem a9p{α:Type}(a b c d:α)(l:List α):atI (a::b::c::d::l) 3=some d:=a3s (j:=3) rfl
theorem b5e{α:Type}(a b c d e:α)(l:List α):atI (a::b::c::d::e::l) 4=some e:=a3s (j:=4) rfl
theorem c5o(ns:List Int)(l u:Option Int):slO (.frz (.scr ns)) l u=some (.lst ((cutD (ns.map D.int) l u).map .frz)):=rfl
theorem b5f(i:Nat)(cap:List Nat)(Γ:Gm):srcV i cap Γ=if i∈cap then none else match Γ[i]? with
 |some (some (.lst os))=>(frzL os).map fun ds=>(ds,Γ)
 |_=>none:=rfl
theorem c5p(g:O→List O→Option (O×O))(i:Nat)(π:List Nat)(ds:List D)(Γ:Gm):gMutC g i π ds Γ=match Γ[i]? with
 |some (some o)=>(setP (fun c=>g c (ds.map .frz)) o π).bind fun z=>some (.own z.2,Γ.set i (some z.1))
 |_=>none:=rfl
theorem a5u(Γ:Gm):capIn [] Γ=([],Γ):=rfl
theorem a9q(i:Nat)(cap:List Nat)(Γ:Gm):capIn (i::cap) Γ=((Γ[i]?).join::(capIn cap (Γ.set i none)).1,(capIn cap (Γ.set i none)).2):=rfl
theorem a5v(x Γ:Gm):a8q [] x Γ=Γ:=by cases x <;> rfl
theorem a9r(i:Nat)(cap:List Nat)(x:Option O)(Γi Γ:Gm):a8q (i::cap) (x::Γi) Γ=(a8q cap Γi Γ).set i x:=rfl
theorem a5b(M:GM)(fs:GA)(Γ:Gm):a2u M fs Γ=(fs Γ).bind fun p=>(seeL p.2 p.1).bind fun os=>(M ((O.dl os).map .frz)).bind fun r=>match r.1 with
 |.frz d=>(a4a d).bind fun _=>some (.own (.frz d),p.2)
 |_=>none:=rfl
theorem c5q(a:Str):a4a (.str a)=some (.str a):=rfl
theorem a8y(a:Bool):a4a (.bl a)=some (.bl a):=rfl
theorem a4v(n:Nat)(a:Int):okD n (.int a)=true:=by cases n <;> rfl
theorem a6g(n:Nat)(a:Str):okD n (.str a)=true:=by cases n <;> rfl
theorem c5r(n:Nat)(a:Bool):okD n (.bl a)=true:=by cases n <;> rfl
theorem a7h(a b:Int):eqD (.int a) (.int b)=(a == b):=by unfold eqD;rfl
theorem b1a(a b:Str):eqD (.str a) (.str b)=(a == b):=by unfold eqD;rfl
theorem d1c(a b:Bool):eqD (.bl a) (.bl b)=(a == b):=by unfold eqD;rfl
end L2
namespace L2
open PySem PySem.Spec PyProof.Rows
section
variable {X:Cx} {pins:List (Addr×Obj)} {s:Shared} {σ:St} {H:Hp}
theorem d6e(I:Inv X pins σ H s){n m:Nat}{A:Around}{x y:V}{u v:Value}{d e:D}(rd:RepL X.K H [x] [d])(re:RepL X.K H [y] [e])(od:okD n d=true)(oe:okD m e=true)(ru:RelV x u)(rv:RelV y v)(hu:A.units+n < cLine):SeqAt.RcNeAt A s u v (!eqD d e):=by
 have hu0:A.units < cLine:=by omega
 have s1:=c0i I rd ru od
 have s2:=c0i I re rv oe
 cases s1 with
 |none=>
  cases s2 with
  |none=>
   simp only[eqD];exact SeqAt.RcNeAt.none_none
  |bool a2=>
   simp only[eqD];exact SeqAt.RcNeAt.none_bool a2
  |int a2 t2=>
   simp only[eqD];exact SeqAt.RcNeAt.none_int a2 t2
  |str a2 t2=>
   simp only[eqD];exact SeqAt.RcNeAt.none_str a2 t2
  |list l2 v2 r2=>
   simp only[eqD];exact SeqAt.RcNeAt.none_list l2 hu0
  |tuple l2 v2 r2=>
   simp only[eqD];exact SeqAt.RcNeAt.none_tuple l2 hu0
 |bool a1=>
  cases s2 with
  |none=>
   simp only[eqD];exact SeqAt.RcNeAt.bool_none a1
  |bool a2=>
   simp only[eqD];exact SeqAt.RcNeAt.bool_bool a1 a2
  |int a2 t2=>
   simp only[eqD];exact SeqAt.RcNeAt.bool_int a1 a2 t2
  |str a2 t2=>
   simp only[eqD];exact SeqAt.RcNeAt.bool_str a1 a2 t2
  |list l2 v2 r2=>
   simp only[eqD];exact SeqAt.RcNeAt.bool_list a1 l2 hu0
  |tuple l2 v2 r2=>
   simp only[eqD];exact SeqAt.RcNeAt.bool_tuple a1 l2 hu0
 |int a1 t1=>
  cases s2 with
  |none=>
   simp only[eqD];exact SeqAt.RcNeAt.int_none a1 t1
  |bool a2=>
   simp only[eqD];exact SeqAt.RcNeAt.int_bool a1 t1 a2
  |int a2 t2=>
   simp only[eqD];exact SeqAt.RcNeAt.int_int a1 t1 a2 t2
  |str a2 t2=>
   simp only[eqD];exact SeqAt.RcNeAt.int_str a1 t1 a2 t2
  |list l2 v2 r2=>
   simp only[eqD];exact SeqAt.RcNeAt.int_list a1 t1 l2 hu0
  |tuple l2 v2 r2=>
   simp only[eqD];exact SeqAt.RcNeAt.int_tuple a1 t1 l2 hu0
 |str a1 t1=>
  cases s2 with
  |none=>
   simp only[eqD];exact SeqAt.RcNeAt.str_none a1 t1
  |bool a2=>
   simp only[eqD];exact SeqAt.RcNeAt.str_bool a1 t1 a2
  |int a2 t2=>
   simp only[eqD];exact SeqAt.RcNeAt.str_int a1 t1 a2 t2
  |str a2 t2=>
   simp only[eqD];exact SeqAt.RcNeAt.str_str a1 t1 a2 t2
  |list l2 v2 r2=>
   simp only[eqD];exact SeqAt.RcNeAt.str_list a1 t1 l2 hu0
  |tuple l2 v2 r2=>
   simp only[eqD];exact SeqAt.RcNeAt.str_tuple a1 t1 l2 hu0
 |list l1 v1 r1=>
  cases s2 with
  |none=>
   simp only[eqD];exact SeqAt.RcNeAt.list_none l1 hu0
  |bool a2=>
   simp only[eqD];exact SeqAt.RcNeAt.list_bool a2 l1 hu0
  |int a2 t2=>
   simp only[eqD];exact SeqAt.RcNeAt.list_int a2 t2 l1 hu0
  |str a2 t2=>
   simp only[eqD];exact SeqAt.RcNeAt.list_str a2 t2 l1 hu0
  |list l2 v2 r2=>
   rename_i a its ws es b its2 ws2 es2
   obtain⟨n',rfl,od'⟩:=b0f od
   obtain⟨m',rfl,oe'⟩:=b0f oe
   have la:=v1.length
   have lb:=v2.length
   have la':=r1.length
   have lb':=r2.length
   simp only[eqD]
   by_cases hl:es.length=es2.length
   ·rw[a9h its.toArray.size (by simp only[List.size_toArray];omega) (by simp only[List.size_toArray];omega)]
    refine SeqAt.RcNeAt.lists (A:=A) l1 l2 (by simp only[List.size_toArray];omega) hu0 fun j h1 h2=>?_
    obtain⟨x1,q1,q2,q3⟩:=b0x r1 v1 h1
    obtain⟨y1,p1,p2,p3⟩:=b0x r2 v2 h2
    exact(b7b I n' m' q2 p2 (a5q od' q3) (a5q oe' p3) q1 p1 (by show A.units+1+n' < cLine;omega)).1
   ·rw[a9g hl]
    exact SeqAt.RcNeAt.lists_lengths (A:=A) l1 l2 (by simp only[List.size_toArray,bne_iff_ne,ne_eq];omega) hu0
  |tuple l2 v2 r2=>
   simp only[eqD];exact SeqAt.RcNeAt.list_tuple l1 l2 hu0
 |tuple l1 v1 r1=>
  cases s2 with
  |none=>
   simp only[eqD];exact SeqAt.RcNeAt.tuple_none l1 hu0
  |bool a2=>
   simp only[eqD];exact SeqAt.RcNeAt.tuple_bool a2 l1 hu0
  |int a2 t2=>
   simp only[eqD];exact SeqAt.RcNeAt.tuple_int a2 t2 l1 hu0
  |str a2 t2=>
   simp only[eqD];exact SeqAt.RcNeAt.tuple_str a2 t2 l1 hu0
  |list l2 v2 r2=>
   simp only[eqD];exact SeqAt.RcNeAt.tuple_list l1 l2 hu0
  |tuple l2 v2 r2=>
   rename_i a its ws es b its2 ws2 es2
   obtain⟨n',rfl,od'⟩:=b0g od
   obtain⟨m',rfl,oe'⟩:=b0g oe
   have la:=v1.length
   have lb:=v2.length
   have la':=r1.length
   have lb':=r2.length
   have z:=SeqAt.RcNeAt.tuples (A:=A) (e:=fun j=>eqD (es.getD j .non) (es2.getD j .non)) l1 l2 hu0 fun j h1 h2=>by
    obtain⟨x1,q1,q2,q3⟩:=b0x r1 v1 h1
    obtain⟨y1,p1,p2,p3⟩:=b0x r2 v2 h2
    exact(b7b I n' m' q2 p2 (a5q od' q3) (a5q oe' p3) q1 p1 (by show A.units+1+n' < cLine;omega)).1
   simp only[eqD]
   by_cases hl:es.length=es2.length
   ·rw[a9h its.toArray.size (by simp only[List.size_toArray];omega) (by simp only[List.size_toArray];omega)]
    have e1:its2.toArray.size=its.toArray.size:=by simp only[List.size_toArray];omega
    rw[e1,Nat.min_self,beq_self_eq_true,Bool.and_true] at z
    exact z
   ·rw[a9g hl]
    have e1:(its.toArray.size == its2.toArray.size)=false:=by rw[beq_eq_false_iff_ne];simp only[List.size_toArray];omega
    rw[e1,Bool.and_false] at z
    exact z
end
section
variable {X:Cx} {K:PySem.W.Frag}
noncomputable def rNeA (K:PySem.W.Frag):R2:=fun x y H Q=>∃d e,RepL K H [x] [d]∧RepL K H [y] [e]∧okD 40 d=true∧okD 40 e=true∧Q (.bl (!eqD d e)) H
theorem c0t(K:PySem.W.Frag)(hu:X.A.units+40 < cLine)(hK:X.K=K:=by rfl):OpR X (compareOp .NotEq) (rNeA K):=by
 subst hK
 intro pins s σ H x y v u Q I rx ry h
 obtain⟨d,e,r1,r2,o1,o2,q⟩:=h
 exact(d6e I r1 r2 o1 o2 rx ry hu) X.prog X.w _ _ ⟨.bl _,H,I,rfl,q⟩
noncomputable def oNeA:List O→Option O
 |[a,b]=>if okD 40 a.d=true∧okD 40 b.d=true then some (.frz (.bl (!eqD a.d b.d))) else none
 |_=>none
theorem c0u:OpOk K (r2L (rNeA K)) oNeA:=by
 intro F H vs os o Q le see e res
 unfold oNeA at e
 split at e
 ·split at e
  ·cases e
   obtain⟨x,y,B,C,rfl,h1,h2⟩:=see.two
   rename_i hh
   exact⟨_,_,rfl,_,_,a4f le h1,a4f le h2,hh.1,hh.2,res.flat rfl⟩
  ·cases e
 ·cases e
end
end L2
namespace L2
open PySem
noncomputable def a9s (g:GG) (ct:GT) (ce:GE) (d:D) (Γ:Gm):Option (Option R×Gm):=(g d Γ).bind fun Γ1=>(ct Γ1).bind fun p=>if p.1=true then(ce p.2).bind fun q=>some (some q.1,q.2) else some (none,p.2)
theorem b7m{g:GG}{ct:GT}{ce:GE}{d:D}{ds:List D}{Γ Γ':Gm}{os:List O}{r:Option R}(h:a9s g ct ce d Γ=some (r,Γ')):
  compLoop g ct ce (d::ds) Γ os=match r with
   |some r=>(ownL [r]).bind fun os'=>if os.length < 1000000 then compLoop g ct ce ds Γ' (os++os') else none
   |none=>compLoop g ct ce ds Γ' os:=by
 rw[b2m]
 unfold a9s at h
 cases e1:g d Γ with
 |none=>rw[e1] at h;cases h
 |some Γ1=>
  rw[e1] at h
  rw[Option.bind_some] at h ⊢
  cases e2:ct Γ1 with
  |none=>rw[e2] at h;cases h
  |some p=>
   rw[e2] at h
   rw[Option.bind_some] at h ⊢
   by_cases hp:p.1=true
   ·rw[if_pos hp] at h ⊢
    cases e3:ce p.2 with
    |none=>rw[e3] at h;cases h
    |some q=>rw[e3] at h;cases h;rfl
   ·rw[if_neg hp] at h ⊢
    cases h
    rfl
theorem b5g{α:Type}{g:GG}{ct:GT}{ce:GE}(St:Gm→Prop)(enc:α→D)(p:α→Bool)(val:α→D):∀(xs:List α) (acc:List D) (Γ:Gm),St Γ→acc.length+xs.length < 1000000→
  (∀x∈xs,∀Γ,St Γ→∃Γ',a9s g ct ce (enc x) Γ=some (if p x=true then some (.own (.frz (val x))) else none,Γ')∧St Γ')→
  ∃Γ',St Γ'∧compLoop g ct ce (xs.map enc) Γ (acc.map .frz)=some ((acc++(xs.filter p).map val).map .frz,Γ')
 |[],acc,Γ,hS,_,_=>⟨Γ,hS,by rw[List.map_nil,b7k,List.filter_nil,List.map_nil,List.append_nil]⟩
 |x::xs,acc,Γ,hS,hl,h=>by
  rw[List.length_cons] at hl
  obtain⟨Γ1,e1,s1⟩:=h x (.head _) Γ hS
  by_cases hp:p x=true
  ·rw[if_pos hp] at e1
   rw[List.map_cons,b7m e1]
   obtain⟨Γ2,s2,e2⟩:=b5g St enc p val xs (acc++[val x]) Γ1 s1 (by rw[List.length_append,List.length_singleton];omega) fun y hy=>h y (.tail _ hy)
   refine⟨Γ2,s2,?_⟩
   show(if(acc.map O.frz).length < 1000000 then compLoop g ct ce (xs.map enc) Γ1 (acc.map O.frz++[O.frz (val x)]) else none)=_
   rw[if_pos (by rw[List.length_map];omega),List.filter_cons_of_pos hp,List.map_cons,show acc++val x::(xs.filter p).map val=acc++[val x]++(xs.filter p).map val by simp,←e2,List.map_append]
   rfl
  ·rw[if_neg hp] at e1
   rw[List.map_cons,b7m e1]
   obtain⟨Γ2,s2,e2⟩:=b5g St enc p val xs acc Γ1 s1 (by omega) fun y hy=>h y (.tail _ hy)
   refine⟨Γ2,s2,?_⟩
   rw[List.filter_cons_of_neg hp]
   exact e2
theorem c9h{α:Type}{g:GG}{ct:GT}{ce:GE}(St:Gm→Prop)(enc:α→D)(val:α→D)(xs:List α)(Γ:Gm)(hS:St Γ)(hl:xs.length < 1000000)
  (h:∀x∈xs,∀Γ,St Γ→∃Γ',a9s g ct ce (enc x) Γ=some (some (.own (.frz (val x))),Γ')∧St Γ'):∃Γ',St Γ'∧compLoop g ct ce (xs.map enc) Γ []=some ((xs.map val).map .frz,Γ'):=by
 obtain⟨Γ',s,e⟩:=b5g St enc (fun _=>true) val xs [] Γ hS (by rw[List.length_nil];omega) fun x hx Γ hΓ=>h x hx Γ hΓ
 refine⟨Γ',s,?_⟩
 rw[List.nil_append,List.filter_eq_self.mpr (fun _ _=>rfl)] at e
 exact e
theorem c9i(g:GG)(ct:GT)(ce:GE)(d:D)(Γ:Gm):a9s g ct ce d Γ=(g d Γ).bind fun Γ1=>(ct Γ1).bind fun p=>if p.1=true then(ce p.2).bind fun q=>some (some q.1,q.2) else some (none,p.2):=rfl
theorem d6f(a b:Int):oNeA [.frz (.int a),.frz (.int b)]=some (.frz (.bl (!(a == b)))):=by
 unfold oNeA;simp[O.d,okD,eqD]
theorem a7b{α:Type}{g:GG}{f:GS}(enc:α→D)(P:List α→Gm→Prop):∀(xs pre:List α) (Γ:Gm),P pre Γ→
  (∀q x post Γ,xs=q++x::post→P (pre++q) Γ→∃Γ2,(g (enc x) Γ).bind f=some (.nx,Γ2)∧P (pre++q++[x]) Γ2)→∃Γ',a1u g f (xs.map enc) Γ=some (.nx,Γ')∧P (pre++xs) Γ'
 |[],pre,Γ,h,_=>⟨Γ,rfl,by rw[List.append_nil];exact h⟩
 |x::xs,pre,Γ,h,st=>by
  obtain⟨Γ2,h2,h3⟩:=st [] x xs Γ rfl (by rw[List.append_nil];exact h)
  rw[List.append_nil] at h3
  obtain⟨Γ',h4,h5⟩:=a7b enc P xs (pre++[x]) Γ2 h3 fun q y post Γ e p=>by
   obtain⟨Γ2,b,c⟩:=st (x::q) y post Γ (by rw[e];rfl) (by rw[show pre++x::q=pre++[x]++q by simp];exact p)
   exact⟨Γ2,b,by rw[show pre++[x]++q++[y]=pre++x::q++[y] by simp];exact c⟩
  refine⟨Γ',?_,by rw[show pre++x::xs=pre++[x]++xs by simp];exact h5⟩
  rw[List.map_cons,a8g]
  cases q:g (enc x) Γ with
  |none=>rw[q] at h2;cases h2
  |some Γ1=>
   rw[q] at h2
   have h2:f Γ1=some (.nx,Γ2):=h2
   show(f Γ1).bind _=_
   rw[h2]
   exact h4
theorem c0v{α:Type}{g:GG}{f:GS}(enc:α→D)(P:Gm→Prop)(xs:List α)(Γ:Gm)(h:P Γ)(st:∀x∈xs,∀Γ,P Γ→∃Γ2,(g (enc x) Γ).bind f=some (.nx,Γ2)∧P Γ2):∃Γ',a1u g f (xs.map enc) Γ=some (.nx,Γ')∧P Γ':=
 a7b enc (fun _ Γ=>P Γ) xs [] Γ h fun q x post Γ e p=>st x (by rw[e];simp) Γ p
theorem c9j(lo:Int)(n:Nat):rngD lo n=(List.range n).map fun(k:Nat)=>D.int (lo+(k:Int)):=rfl
end L2
namespace L2
open PySem PySem.Spec PyProof.Rows
section
variable {X:Cx} {K:PySem.W.Frag} {fa fk fv:GE} {f:GS} {m:List Bool} {tg l:Expr} {t:TG} {gg:GG} {body:List Stmt} {p0 p1 pos:Pos}
end
end L2
namespace L2
open PySem PySem.Spec PyProof.Rows
section
variable {X:Cx} {K:PySem.W.Frag} {fo f:GE} {fs:GA} {g:List O→Option O} {r:V→List V→Hp→VK→Prop} {o e:Expr} {es:List Expr} {name:Str} {id:String} {apos cpos pos:Pos}
noncomputable def a7i (g:List O→Option O) (fo:GE) (fs:GA):GE:=fun Γ=>(fo Γ).bind fun p=>match p.1 with
 |.own (.frz (.str z))=>(fs p.2).bind fun q=>(seeL q.2 q.1).bind fun os=>(g (.frz (.str z)::os)).bind fun o=>some (.own o,q.2)
 |_=>none
theorem a8h(g:List O→Option O)(fo:GE)(fs:GA)(Γ:Gm):a7i g fo fs Γ=(fo Γ).bind fun p=>match p.1 with
 |.own (.frz (.str z))=>(fs p.2).bind fun q=>(seeL q.2 q.1).bind fun os=>(g (.frz (.str z)::os)).bind fun o=>some (.own o,q.2)
 |_=>none:=rfl
noncomputable def rMeth (r:V→List V→Hp→VK→Prop):List V→Hp→VK→Prop:=fun vs H Q=>∃x xs,vs=x::xs∧r x xs H Q
theorem c9k(ok:OpOk K (rMeth r) g){σ:St}{H:Hp}{Q:VK}(t:tG K (a7i g fo fs) σ H Q):tBM K "str" r (tG K fo) (tGA K fs) σ H Q:=by
 obtain⟨F,A,Γ,rr,Γ',k,e,w⟩:=t
 unfold a7i at e
 obtain⟨⟨r1,Γ1⟩,e1,e'⟩:=Option.bind_eq_some_iff.mp e
 clear e
 dsimp only at e'
 split at e'
 ·rename_i z
  obtain⟨⟨rs,Γ2⟩,e2,e3⟩:=Option.bind_eq_some_iff.mp e'
  obtain⟨os,e4,e5⟩:=Option.bind_eq_some_iff.mp e3
  obtain⟨ob,e6,e7⟩:=Option.bind_eq_some_iff.mp e5
  cases e7
  refine⟨F,A,Γ,_,Γ1,k,e1,fun v H1 pp=>?_⟩
  have hv:v=.str z:=Post.flat pp rfl
  subst hv
  refine⟨rfl,?_⟩
  obtain⟨F1,A1,x1,k1,hh⟩:=pp
  obtain⟨B,C,h1,h2,h3⟩:=OwnL.one (σ:=σ) (Γ:=Γ1) k1.os
  subst h3
  obtain⟨k2,x2⟩:=k1.sub h2 (.of_sub (List.sublist_append_right _ _))
  refine⟨F1,C,Γ1,rs,_,k2,e2,fun vs H2 p2=>?_⟩
  have p3:Post K F H A σ Γ2 rs vs H2:=by
   obtain⟨F2,A2,x3,k3,hh3⟩:=p2
   exact⟨F2,A2,(x1.trans x2).trans x3,k3,hh3⟩
  obtain⟨F3,le,see,res⟩:=p3.res e4 w
  obtain⟨x,xs,exs,rr'⟩:=ok F3 H2 (.str z::vs) (.frz (.str z)::os) ob Q le (.cons ⟨[],.frz (.flat rfl .nil) .nil⟩ see) e6 res
  cases exs
  exact rr'
 ·cases e'
theorem b1j(slot:Slot "str" name id)(hty:typeOf (.builtin id)=pure (.type "method_descriptor"))(hm:MtM X id r)(ok:OpOk K (rMeth r) g)(ho:PE X o (tG K fo))(ha:PA X (e::es) (tGA K fs))
  (hbase:attributeBase o name X.env (eval o X.env)=eval o X.env:=by rfl)
  (hfew:((backTo cpos (starEach (e::es) X.env)).all (fun x => !x.1) && (backToKw cpos (keywordEach [] X.env)).all (fun x=>x.1.isSome)
   && decide ((e::es).length+([]:List Keyword).length+(if([]:List Keyword).isEmpty then 0 else 1) < 30))=true:=by rfl)
  (hline:(apos.endLine == cpos.line)=true:=by rfl) (hs:starEach (e::es) X.env=(false,eval e X.env)::starEach es X.env:=by rfl) (hplain:(backTo cpos (starEach es X.env)).any (·.1)=false:=by rfl) (hK:X.K=K:=by rfl) :
  PE X (.Call (.Attribute o name apos) (e::es) [] cpos) (tG K (a7i g fo fs)):=by
 subst hK
 exact(b8m PySem.F.plainAttrs_str slot hty hm ho ha hbase hfew hline hs hplain).mono fun _ _ _ t=>c9k ok t
noncomputable def strsD:List D→Option (List Str)
 |[]=>some []
 |.str x::ds=>(strsD ds).map fun xs=>x::xs
 |_=>none
theorem b7n:∀xs:List Str,strsD (xs.map .str)=some xs
 |[]=>rfl
 |i::is=>by rw[List.map_cons];show(strsD (is.map .str)).map _=_;rw[b7n is];rfl
theorem b7o:∀{ds:List D} {xs:List Str},strsD ds=some xs→ds=xs.map .str
 |[],xs,e=>by cases e;rfl
 |d::ds,xs,e=>by
  cases d with
  |str i=>
   obtain⟨js,e1,e2⟩:=Option.map_eq_some_iff.mp (show(strsD ds).map _=some xs from e)
   rw[←e2,b7o e1]
   rfl
  |_=>cases e
theorem b2p{F:Hp}:∀{ws:List V} {xs:List Str},RepL K F ws (xs.map .str)→ws=xs.map .str
 |[],[],_=>rfl
 |[],_::_,h=>by have:=h.length;simp at this
 |_::_,[],h=>by have:=h.length;simp at this
 |w::ws,i::is,h=>by
  rw[List.map_cons] at h
  have h1:=h.inv.1
  have h2:=b2p h.inv.2
  rw[h2,List.map_cons]
  cases h1 with
  |flat e _=>cases e;rfl
theorem b0p:∀{xs:List Str} {its:List Value},Vals (xs.map V.str) its→∃ps:List (Str×Tok),its=ps.map (fun p=>Value.str p.1 p.2)∧ps.map (·.1)=xs
 |[],its,h=>by
  rw[List.map_nil] at h
  cases h
  exact⟨[],rfl,rfl⟩
 |i::is,its,h=>by
  rw[List.map_cons] at h
  cases h with
  |cons r t=>
   obtain⟨ps,e1,e2⟩:=b0p t
   obtain⟨tk,rfl⟩:=r
   exact⟨(i,tk)::ps,by rw[e1];rfl,by rw[List.map_cons,e2]⟩
noncomputable def rJoin (K:PySem.W.Frag):V→List V→Hp→VK→Prop:=fun x xs H Q=>∃z a ys,x=.str z∧xs=[.ref a]∧SqL K H a (ys.map V.str)∧JoinOk z ys=true∧Q (.str (Txt.join z ys)) H
theorem c5s(K:PySem.W.Frag)(hK:X.K=K:=by rfl):MtM X "str.join" (rJoin K):=by
 subst hK
 intro pins s σ H x xs v us Q I rx rs h
 obtain⟨z,a,ys,rfl,rfl,hq,hj,q⟩:=h
 obtain⟨t,rfl⟩:=rx
 obtain⟨u,rfl,ru⟩:=vals1 rs
 cases ru
 obtain⟨its,rv,p,hz⟩:=I.list hq
 obtain⟨ps,e1,e2⟩:=b0p rv
 subst e1
 exact SC.join (l:=ps) p.isList e2 hj fun t' k=>⟨.str (Txt.join z ys),H,I.tok _,⟨_,rfl⟩,q⟩
noncomputable def oJoin:List O→Option O
 |[.frz (.str z),o]=>(listD o).bind fun ds=>(strsD ds).bind fun ys=>if JoinOk z ys=true then some (.frz (.str (Txt.join z ys))) else none
 |_=>none
theorem c5t:OpOk K (rMeth (rJoin K)) oJoin:=by
 intro F H vs os o Q le see e res
 unfold oJoin at e
 split at e
 ·rename_i z o'
  obtain⟨ds,e1,e2⟩:=Option.bind_eq_some_iff.mp e
  obtain⟨ys,e3,e4⟩:=Option.bind_eq_some_iff.mp e2
  split at e4
  ·rename_i hj
   cases e4
   obtain⟨x,y,B,C,rfl,h1,h2⟩:=see.two
   obtain⟨a,ws,rfl,sq,ri⟩:=a9f le h2 e1
   rw[b7o e3] at ri
   have:=b2p ri
   subst this
   cases a0v h1 rfl
   exact⟨_,_,rfl,z,a,ys,rfl,rfl,sq,hj,res.flat rfl⟩
  ·cases e4
 ·cases e
theorem c0w(z:Str)(ys:List Str):oJoin [.frz (.str z),.lst ((ys.map D.str).map .frz)]=if JoinOk z ys=true then some (.frz (.str (Txt.join z ys))) else none:=by
 show((listD (.lst ((ys.map D.str).map .frz))).bind fun ds=>(strsD ds).bind fun ys=>if JoinOk z ys=true then some (O.frz (.str (Txt.join z ys))) else none)=_
 rw[d6a,Option.bind_some,b7n,Option.bind_some]
theorem c5u:CallR X (.type "str") (fun xs H Q=>∃i:Int,xs=[.int i]∧i.natAbs.log2 < 1920∧Q (.str (Str.ofString (toString i))) H):=by
 intro pins s σ H xs us Q I r h
 obtain⟨i,rfl,hi,q⟩:=h
 obtain⟨u,rfl,ru⟩:=vals1 r
 obtain⟨t,rfl⟩:=ru
 exact P.str_of_int hi ⟨.str (Str.ofString (toString i)),H,I.tok _,⟨_,rfl⟩,q⟩
noncomputable def oStr1:List O→Option O
 |[.frz (.int i)]=>if i.natAbs.log2 < 1920 then some (.frz (.str (Str.ofString (toString i)))) else none
 |_=>none
theorem d3e:OpOk K (fun xs H Q=>∃i:Int,xs=[.int i]∧i.natAbs.log2 < 1920∧Q (.str (Str.ofString (toString i))) H) oStr1:=by
 intro F H vs os o Q le see e res
 unfold oStr1 at e
 split at e
 ·split at e
  ·rename_i hi
   cases e
   obtain⟨x,B,rfl,h1⟩:=see.one
   cases a0v h1 rfl
   exact⟨_,rfl,hi,res.flat rfl⟩
  ·cases e
 ·cases e
theorem c5v(i:Int):oStr1 [.frz (.int i)]=if i.natAbs.log2 < 1920 then some (.frz (.str (Str.ofString (toString i)))) else none:=rfl
end
end L2
namespace L2
open PySem PySem.Spec PyProof.Rows
section
variable {X:Cx} {pins:List (Addr×Obj)} {σ:List (Option V)} {H:Hp} {s:Shared} {h':Heap}
theorem Inv.turnLay{L:List Addr}{T:Addr}{o:HO}{t':Nat}(I:Inv X pins σ H s)(k:∀b ob,b∉L→s.heap.get? b=some ob→h'.get? b=some ob)(hL:∀b∈L,FpOk X pins H b)(hT:s.heap.objs.size≤T)
  (new:ObjOk X.prog X.w (upd H T o) h' T o):Inv X pins σ (upd H T o) { s with heap:=h',toks:=t'}:=by
 have hn:H T=none:=I.hok.fresh hT
 have nL:∀b u,H b=some u→b∉L:=fun b u e z=>by rw[(hL b z).1] at e;cases e
 have nT:∀b u,H b=some u→b≠T:=fun b u e z=>by rw[z,hn] at e;cases e
 refine I.step (g':=s.gens) (d':=s.drawn) (ch:=L) (fun b hb=>?_) (fun b ob _ _ hc e _=>k b ob hc e) (fun b ob _ _ hc e _=>⟨ob.slots,k b ob hc e⟩) (fun b ob _ e n=>?_)
  (fun b ob hc e=>⟨ob,k b ob hc e⟩) (fun b xs e=>?_) (fun b ob u e=>?_) (fun b ps e=>⟨#[],?_⟩) (fun m hm=>?_) (fun b u e=>?_) I.bare
 ·obtain⟨f0,f1,f2,f3,f4,f5⟩:=hL b hb
  exact⟨f3,f1,f4,f5⟩
 ·rw[a0s (fun z=>by subst z;exact absurd (Nat.lt_of_lt_of_le (Heap.lt_size e) hT) (Nat.lt_irrefl _))];exact n
 ·rw[a0s (nT b _ e)];exact e
 ·rw[a0s (nT b _ e)];exact e
 ·rw[a0s (nT b _ e),e];simp
 ·obtain⟨ob,es,ep,ho,r⟩:=hm
  exact⟨ob,es,ep,k _ ob (fun z=>(hL _ z).2.1 rfl) ho,r⟩
 ·by_cases hb:b=T
  ·subst hb
   rw[a1g] at e
   cases e
   exact new
  ·rw[a0s hb] at e
   refine(I.hok b u e).stay (fun c v hc q=>k c v ?_ q) (fun c q=>by rw[a0s (nT c _ q)];exact q) fun c xs q=>by rw[a0s (nT c _ q)];exact q
   rcases hc with z|z
   ·rw[z];exact nL b u e
   ·exact nL c _ z
theorem Inv.turnL{L:List Addr}{t':Nat}(I:Inv X pins σ H s)(k:∀b ob,b∉L→s.heap.get? b=some ob→h'.get? b=some ob)(hL:∀b∈L,FpOk X pins H b):Inv X pins σ H { s with heap:=h',toks:=t'}:=by
 have nL:∀b u,H b=some u→b∉L:=fun b u e z=>by rw[(hL b z).1] at e;cases e
 refine I.step (g':=s.gens) (d':=s.drawn) (ch:=L) (fun b hb=>?_) (fun b ob _ _ hc e _=>k b ob hc e) (fun b ob _ _ hc e _=>⟨ob.slots,k b ob hc e⟩) (fun b ob _ e n=>n)
  (fun b ob hc e=>⟨ob,k b ob hc e⟩) (fun b xs e=>e) (fun b ob u e=>e) (fun b ps e=>⟨#[],by rw[e];simp⟩) (fun m hm=>?_) (fun b u e=>?_) I.bare
 ·obtain⟨f0,f1,f2,f3,f4,f5⟩:=hL b hb
  exact⟨f3,f1,f4,f5⟩
 ·obtain⟨ob,es,ep,ho,r⟩:=hm
  exact⟨ob,es,ep,k _ ob (fun z=>(hL _ z).2.1 rfl) ho,r⟩
 ·refine(I.hok b u e).stay (fun c v hc q=>k c v ?_ q) (fun c q=>q) fun c xs q=>q
  rcases hc with z|z
  ·rw[z];exact nL b u e
  ·exact nL c _ z
end
noncomputable def ItP (Src:Hp→Prop) (n:Nat) (val:Nat→List V→Prop):It:=
 ⟨fun i H=>i < n∧Src H,fun i H x H'=>∃p ws,x=.ref p∧H p=none∧val i ws∧H'=upd H p (.tup ws),fun i H=>n≤i∧Src H⟩
theorem c5w{P:Program}{w:World}{K:PySem.W.Frag}{elts:List Expr}{x1:Nat}{pos:Pos}{FP wr:List Addr}{it:Addr}{n:Nat}{Src:Hp→Prop}{val:Nat→List V→Prop}{tn:Nat→Heap→Prop}(mem:it∈FP)(sub:∀b∈wr,b∈FP)
  (obj:∀i h,tn i h→∀b∈FP,∃o,h.get? b=some o∧∀v,o.data≠.cell v) (keep:∀i h h',tn i h→(∀b∈FP,∀o,h.get? b=some o→h'.get? b=some o)→tn i h')
  (hW:∀(X:Cx),X.prog=P→X.w=w→X.K=K→X.calm=true→∀(pins:List (Addr×Obj)) (s:Shared) (σ:St) (H:Hp),Inv X pins σ H s→Src H→∃(fpW:List Addr) (Pt:Nat→Array Value→Prop) (St:Nat→Heap→Prop) (Mid:Nat→Addr→Heap→Prop),
   WalksT P w X.A it fpW wr n Pt St Mid∧(∀i,tn i s.heap→St i s.heap)∧(∀i h,St i h→tn i h)∧∀i vals,Pt i vals→∃ws,val i ws∧Vals ws vals.toList∧ws.length≤10)
  (self:∀(A:Around) (i:Nat) (s:Shared) (Q:Value→Shared→Prop) (E:Value→Shared→Prop),tn i s.heap→Q (.ref it) s→wpAny (model P w) A (pyIter (.ref it)) Q E s) :
  Turn P w K (.Tuple elts x1 pos) (ItP Src n val) FP it (fun i h=>i≤n∧tn i h) where
 mem:=mem
 obj:=fun i h st=>obj i h st.2
 keep:=fun i h h' st k=>⟨st.1,keep i h h' st.2 k⟩
 item:=by
  intro X hP hw hK hc i pins s σ H E I hf st hg
  obtain⟨fpW,Pt,St,Mid,W,toSt,ofSt,pv⟩:=hW X hP hw hK hc pins s σ H I hg.2
  subst hP hw hK
  refine W.item i s _ E hg.1 (toSt i st.2) fun T vals h1 tk hPt hsz hTup hMid hk1=>?_
  refine⟨.ref T,rfl,W.go elts x1 pos i T _ _ E hMid fun h2 hSt hk2=>?_⟩
  obtain⟨ws,hv,rv,hwl⟩:=pv i vals hPt
  have hT2:IsTup h2 T vals:=by
   obtain⟨o,e,c⟩:=hTup
   exact⟨o,hk2 T o (W.apart i T h1 hMid) e,c⟩
  have hn:H T=none:=I.hok.fresh hsz
  have I2:Inv X pins σ (upd H T (.tup ws)) { s with heap:=h2,toks:=tk}:=I.turnLay (L:=wr) (fun b ob hb e=>hk2 b ob hb (hk1 b ob hb e)) (fun b hb=>hf b (sub b hb)) hsz ⟨by rw[sizeLine_eq];omega,vals.toList,rv,by simpa using hT2⟩
  refine⟨.ref T,_,I2,rfl,⟨T,ws,rfl,hn,hv,rfl⟩,⟨by have:=hg.1;omega,ofSt _ _ hSt⟩,fun b hb=>?_⟩
  have hb0:=(hf b hb).1
  rw[a0s]
  ·exact hb0
  ·intro z
   subst z
   obtain⟨o,e,_⟩:=obj i s.heap st.2 b hb
   exact absurd (Nat.lt_of_lt_of_le (Heap.lt_size e) hsz) (Nat.lt_irrefl _)
 done:=by
  intro X hP hw hK hc i pins s σ H E I hf st hg
  obtain⟨fpW,Pt,St,Mid,W,toSt,ofSt,pv⟩:=hW X hP hw hK hc pins s σ H I hg.2
  subst hP hw hK
  have ei:i=n:=by have:=hg.1;have:=st.1;omega
  subst ei
  exact W.done s _ E (toSt i st.2) fun h2 tk hk=>⟨rfl,I.turnL (L:=wr) (fun b ob hb e=>hk b ob hb e) fun b hb=>hf b (sub b hb)⟩
 self:=fun A i s Q E st h=>self A i s Q E st.2 h
theorem c9l{Src:Hp→Prop}{n:Nat}{val:Nat→List V→Prop}{g:TG}{tb:TS}{D:Ends}{σ:St}{H:Hp}(Pv:Nat→St→Hp→Prop)(h0:Pv 0 σ H)(hl:∀i σ H,i≤n→Pv i σ H→Src H)
  (hs:∀i p ws σ H,i < n→H p=none→val i ws→Pv i σ H→g (.ref p) σ (upd H p (.tup ws)) fun σ2 H2=>tb { D with nx:=Pv (i+1),ct:=Pv (i+1),bk:=D.nx} σ2 H2) (hd:∀σ H,Pv n σ H→D.nx σ H) :
  ∃W:Nat→Nat→St→Hp→Prop,(∃m,W 0 m σ H)∧∀i m σ H,W i m σ H→
   ((ItP Src n val).stop i H∧D.nx σ H)∨((ItP Src n val).go i H∧∃N:St→Hp→Prop,(∀σ' H',N σ' H'→∃m',m' < m∧W (i+1) m' σ' H')∧∀x H',(ItP Src n val).yld i H x H'→g x σ H' fun σ2 H2=>tb { D with nx:=N,ct:=N,bk:=D.nx} σ2 H2):=by
 refine⟨fun i m σ H=>m=n - i∧i≤n∧Pv i σ H,⟨n,by simp,Nat.zero_le _,h0⟩,?_⟩
 rintro i m σ H ⟨rfl,hi,p⟩
 have q:=hl i σ H hi p
 by_cases hlt:i < n
 ·refine .inr ⟨⟨hlt,q⟩,Pv (i+1),fun σ' H' p'=>⟨n - (i+1),by omega,rfl,hlt,p'⟩,fun x H' y=>?_⟩
  obtain⟨pp,ws,rfl,hn,hv,rfl⟩:=y
  exact hs i pp ws σ H hlt hn hv p
 ·have e:i=n:=by omega
  subst e
  exact .inl ⟨⟨Nat.le_refl _,q⟩,hd σ H p⟩
theorem c9m{h:Heap}{a l:Addr}{i:Nat}(p:h.IsListIter a l i):∃o,h.get? a=some o∧∀v,o.data≠.cell v:=by
 obtain⟨o,e,_,d⟩:=p
 exact⟨o,e,fun v z=>by rw[d] at z;cases z⟩
noncomputable def valE (xs:List V) (i:Nat) (ws:List V):Prop:=∃x,xs[i]?=some x∧ws=[.int i,x]
theorem c5x{P:Program}{w:World}{K:PySem.W.Frag}{elts:List Expr}{x1:Nat}{pos:Pos}{e it l:Addr}(n1:e≠it)(n2:l≠e)(n3:l≠it)(xs:List V):
  Turn P w K (.Tuple elts x1 pos) (ItP (fun H=>SqL K H l xs) xs.length (valE xs)) [e,it] e (fun i h=>i≤xs.length∧((∃old,IsEnum h e it (i:Int) old)∧h.IsListIter it l i)):=by
 refine c5w (FP:=[e,it]) (wr:=[e,it]) (by simp) (fun b hb=>hb) (fun i h st b hb=>?_) (fun i h h' st k=>?_) (fun X hP hw hK hc pins s σ H I hS=>?_) (fun A i s Q E st h=>?_)
 ·obtain⟨⟨old,s1⟩,s2⟩:=st
  simp only[List.mem_cons,List.not_mem_nil,or_false] at hb
  rcases hb with rfl|rfl
  ·exact⟨_,s1,fun v z=>by cases z⟩
  ·exact c9m s2
 ·obtain⟨⟨old,s1⟩,s2⟩:=st
  exact⟨⟨old,k e (by simp) _ s1⟩,s2.at fun o q=>k it (by simp) o q⟩
 ·subst hP hw hK
  obtain⟨its1,rv1,p1,_⟩:=I.list hS
  have e1:=rv1.length
  have W:=WalksT.enumerate (prog:=X.prog) (w:=X.w) (A:=X.A) (I.ok.hd hc) e it l n1 n2 n3 its1.toArray
  rw[show its1.toArray.size=xs.length by rw[List.size_toArray,←e1]] at W
  refine⟨_,_,_,_,W,fun i st=>?_,fun i h st=>?_,fun i vals hp=>?_⟩
  ·exact⟨st.1,st.2,p1.isList⟩
  ·exact⟨st.1,st.2.1⟩
  ·obtain⟨t,u,hu,rfl⟩:=hp
   have hu:its1[i]?=some u:=by simpa using hu
   have hi1:i < xs.length:=by have:=(List.getElem?_eq_some_iff.mp hu).1;omega
   obtain⟨u',hu',ru⟩:=rv1.get (List.getElem?_eq_getElem hi1)
   rw[hu] at hu';cases hu'
   exact⟨[.int i,xs[i]],⟨_,List.getElem?_eq_getElem hi1,rfl⟩,.cons ⟨t,rfl⟩ (.cons ru .nil),by show 2≤10;decide⟩
 ·obtain⟨old,s1⟩:=st.1
  exact wpAny_pyIter_enum s1 h
noncomputable def iEnum (K:PySem.W.Frag) (ta:TA):TI:=fun σ H R=>ta σ H fun vs H1=>∃a xs,vs=[.ref a]∧SqL K H1 a xs∧R (ItP (fun H=>SqL K H a xs) xs.length (valE xs)) H1
theorem d3f{X:Cx}{elts:List Expr}{x1:Nat}{tpos:Pos}{a:Expr}{ta:TA}{p pos:Pos}(hg:Gl X "enumerate")(hm:X.mg "enumerate"=none)(ha:PA X [a] ta)(hs:starEach [a] X.env=[(false,eval a X.env)]:=by rfl):
  PI X (.Tuple elts x1 tpos) (.Call (.Name "enumerate" p) [a] [] pos) (iEnum X.K ta):=by
 intro pins s σ H R I h
 refine Call_ (b3o I hg hm PyProof.Rows.Boot.enumerate (PyProof.Rows.callWith_type1 (thn (ha pos pins s σ H _ I h) fun us s1 hh=>?_) hs rfl))
 obtain⟨vs,H1,I1,r1,q1⟩:=hh
 obtain⟨l1,xs,e,hq1,q⟩:=q1
 subst e
 cases r1 with
 |cons r rr=>
  cases rr
  cases r
  obtain⟨its1,rv1,p1,_⟩:=I1.list hq1
  refine call_enumerate_list p1.isList fun h' z1 z2 z3 z4=>?_
  have L1:l1 < s1.heap.objs.size:=by obtain⟨o,n,e,_⟩:=p1;exact Heap.lt_size e
  refine wpAny_pyIter_enum z1 ?_
  refine⟨s1.heap.objs.size+1,[s1.heap.objs.size+1,s1.heap.objs.size],_,_,H1,rfl,I1.kept (t':=s1.toks) z4,c5x (e:=s1.heap.objs.size+1) (it:=s1.heap.objs.size) (l:=l1) (Nat.ne_of_gt (by omega)) (Nat.ne_of_lt (Nat.lt_of_lt_of_le L1 (Nat.le_add_right _ _))) (Nat.ne_of_lt L1) xs,⟨Nat.zero_le _,⟨_,z1⟩,z2⟩,fun b hb=>?_,q⟩
  simp only[List.mem_cons,List.not_mem_nil,or_false] at hb
  have hb':s1.heap.objs.size≤b:=by rcases hb with rfl|rfl <;> omega
  exact I1.fpOk hb' (I1.hok.fresh hb')
section
variable {X:Cx} {K:PySem.W.Frag} {fa fb:GE} {f:GS} {m:List Bool} {l l':Expr} {elts:List Expr} {x1:Nat} {tpos:Pos} {t:TG} {gg:GG} {body:List Stmt} {p0 p1 pos:Pos}
theorem d3g{F H:Hp}{σ:St}{Γ:Gm}{A:List Addr}{p:Addr}{ws:List V}(k:OK K F H σ Γ A)(hn:H p=none):OK K (upd F p (.tup ws)) (upd H p (.tup ws)) σ Γ A∧Ext F H A (upd F p (.tup ws)) (upd H p (.tup ws)) A:=by
 have hF:F p=none:=k.le.free hn
 have np:∀a∈A,a≠p:=fun a m z=>k.os.there a m (by rw[z];exact hn)
 refine⟨⟨fun a o e=>?_,k.os.keep (a6s hF) fun a m o e=>by rw[a0s (np a m)];exact e,k.nd,fun a m=>by rw[a0s (np a m)];exact k.fr a m⟩,⟨a6s hF,fun a o e _=>a6s hn a o e,fun a h z=>h ((a6s hn).free z),fun a h=>?_,fun a m=>.inl m⟩⟩
 ·by_cases z:a=p
  ·subst z;rw[a1g] at e ⊢;exact e
  ·rw[a0s z] at e ⊢;exact k.le a o e
 ·by_cases z:a=p
  ·subst z;exact .inr (.inr hn)
  ·rw[a0s z] at h;exact .inl h
theorem LI.tup{m:List Bool}{gg:GG}{f:GS}{t:TG}{F1 H1:Hp}{σ:St}{ds es:List D}{i:Nat}{E:Ends}{fl:Fl}{Γ':Gm}{p:Addr}{us:List V}(q:LI K m gg f E F1 fl Γ' ds i σ H1)(ht:TgOk K m t gg)(hn:H1 p=none)(hd:ds[i]?=some (.tup es))(r:RepL K F1 us es):
  t (.ref p) σ (upd H1 p (.tup us)) fun σ2 H2=>tS K m f { E with nx:=LI K m gg f E F1 fl Γ' ds (i+1),ct:=LI K m gg f E F1 fl Γ' ds (i+1),bk:=E.nx} σ2 H2:=by
 obtain⟨F',A',Γc,k',e',w',s'⟩:=q
 obtain⟨k2,x2⟩:=d3g (ws:=us) k' hn
 have s2:Same F1 (upd F' p (.tup us)):=s'.trans x2.ff
 obtain⟨hi,he⟩:=List.getElem?_eq_some_iff.mp hd
 rw[List.drop_eq_getElem_cons hi,he] at e'
 exact b6v ht k2 (.tup (.inl (.inl a1g)) (r.mono s2) .nil) e' (w'.step x2 Kept.refl) fun F2 H2 σ2 Γ3 A2 x3 k3 e3 w3=>⟨F2,A2,Γ3,k3,e3,w3,s2.trans x3.ff⟩
noncomputable def enumD (ds:List D):List D:=(List.range ds.length).zipWith (fun(i:Nat) d=>D.tup [.int i,d]) ds
noncomputable def b2q (fa:GE) (gg:GG) (f:GS):GS:=fun Γ=>(gFrz fa Γ).bind fun p=>match p.1 with
 |.own (.frz (.lst ds))=>a1u gg f (enumD ds) p.2
 |_=>none
theorem c5y(fa:GE)(gg:GG)(f:GS)(Γ:Gm):b2q fa gg f Γ=(gFrz fa Γ).bind fun p=>match p.1 with
 |.own (.frz (.lst ds))=>a1u gg f (enumD ds) p.2
 |_=>none:=rfl
theorem c5z(hp:PassesOwn (model X.prog X.w) X.A X.env X.xe)(hm:X.mg "enumerate"=none)(hi:PE X l (tG K fa))(hg:PG X (.Tuple elts x1 tpos) t)(ht:TgOk K m t gg)(hb:PSs X body (tS K m f))(hc:X.calm=true:=by rfl)(hgl:Gl X "enumerate":=by rfl)(hst:starEach [l] X.env=(false,eval l X.env)::starEach [] X.env:=by rfl)(hst2:starEach [l] X.env=[(false,eval l X.env)]:=by rfl)(hK:X.K=K:=by rfl)(hs:∀x,foldedSetIterable (.Call (.Name "enumerate" p0) [l] [] p1) X.env x=pure x:=by intro _;rfl):PS X (.For (.Tuple elts x1 tpos) (.Call (.Name "enumerate" p0) [l] [] p1) body [] pos) (tS K m (b2q fa gg f)):=by
 subst hK
 refine(b9u hp hc (d3f hgl hm (a0b (a2n hi) a0f hst) hst2) hg hb hs).mono fun De σ H tt=>?_
 obtain⟨F,A,Γ,fl,Γ',k,e,w⟩:=tt
 unfold b2q at e
 obtain⟨⟨r1,Γ1⟩,q1,e'⟩:=Option.bind_eq_some_iff.mp e
 clear e
 dsimp only at e'
 split at e'
 ·rename_i ds
  refine⟨F,A,Γ,[.own (.frz (.lst ds))],Γ1,k,by rw[a0j,q1];rfl,fun vs H1 pp=>?_⟩
  obtain⟨F1,A1,x,k1,hh⟩:=pp
  have hlv:=hh.length
  obtain⟨v1,rfl⟩:=d5q hlv
  obtain⟨rp1,st⟩:=LI.start k1 x w e'
  obtain⟨a,ws1,rfl,sq1,ri1⟩:=c4d rp1
  have hl1:=ri1.length
  refine⟨a,ws1,rfl,.inl (k1.le.rd sq1),c9l (LI X.K m gg f De F1 fl Γ' (enumD ds)) st (fun i σ' H' _ p=>.inl (p.same.rd sq1)) ?_ fun σ' H' p=>p.fin (by unfold enumD;rw[List.length_zipWith,List.length_range,hl1,Nat.min_self];exact Nat.le_refl _)⟩
  rintro i p ws σ' H' hlt hn ⟨u1,hu1,rfl⟩ q
  have hi1:i < ds.length:=by omega
  obtain⟨y1,hy1,ry1⟩:=ri1.get (i:=i) (d:=ds[i]) (List.getElem?_eq_getElem hi1)
  rw[hu1] at hy1;cases hy1
  exact q.tup ht hn (by unfold enumD;rw[List.getElem?_zipWith,List.getElem?_range hi1,List.getElem?_eq_getElem hi1]) (.flat rfl (.cons ry1 .nil))
 ·cases e'
end
end L2
namespace L2
open PySem PySem.Spec PyProof.Rows
section
variable {X:Cx} {K:PySem.W.Frag} {fa fo:GE} {fs:GA} {f:GS} {m:List Bool} {e o:Expr} {es:List Expr} {tg:Expr} {t:TG} {gg:GG} {pos apos cpos:Pos} {name:Str} {idn:String} {g:List O→Option O} {r:V→List V→Hp→VK→Prop}
noncomputable def c0x:List D→Option (List Bool)
 |[]=>some []
 |.bl b::ds=>(c0x ds).map fun bs=>b::bs
 |_=>none
theorem b4b:∀{ds:List D} {bs:List Bool},c0x ds=some bs→ds=bs.map .bl
 |[],bs,e=>by cases e;rfl
 |d::ds,bs,e=>by
  cases d with
  |bl i=>
   obtain⟨js,e1,e2⟩:=Option.map_eq_some_iff.mp (show(c0x ds).map _=some bs from e)
   rw[←e2,b4b e1]
   rfl
  |_=>cases e
theorem b4c{F:Hp}:∀{ws:List V} {bs:List Bool},RepL K F ws (bs.map .bl)→ws=bs.map .bl
 |[],[],_=>rfl
 |[],_::_,h=>by have:=h.length;simp at this
 |_::_,[],h=>by have:=h.length;simp at this
 |w::ws,i::is,h=>by
  rw[List.map_cons] at h
  have h1:=h.inv.1
  have h2:=b4c h.inv.2
  rw[h2,List.map_cons]
  cases h1 with
  |flat e _=>cases e;rfl
noncomputable def c0y (q:List Bool→Bool):List O→Option O
 |[o]=>(listD o).bind fun ds=>(c0x ds).bind fun bs=>some (.frz (.bl (q bs)))
 |_=>none
theorem c0z(q:List Bool→Bool):OpOk K (fun xs H Q=>∃(a:Addr) (bs:List Bool),xs=[.ref a]∧SqL K H a (bs.map V.bl)∧Q (.bl (q bs)) H) (c0y q):=by
 intro F H vs os o Q le see e res
 unfold c0y at e
 split at e
 ·obtain⟨ds,e1,e2⟩:=Option.bind_eq_some_iff.mp e
  obtain⟨bs,e3,e4⟩:=Option.bind_eq_some_iff.mp e2
  cases e4
  obtain⟨x,B,rfl,h1⟩:=see.one
  obtain⟨a,ws,rfl,sq,ri⟩:=a9f le h1 e1
  rw[b4b e3] at ri
  have:=b4c ri
  subst this
  exact⟨a,bs,rfl,sq,res.flat rfl⟩
 ·cases e
theorem b7p(K:PySem.W.Frag)(hc:X.calm=true:=by rfl)(hK:X.K=K:=by rfl):CallR X (.builtin "all") (fun xs H Q=>∃(a:Addr) (bs:List Bool),xs=[.ref a]∧SqL K H a (bs.map V.bl)∧Q (.bl (bs.all id)) H):=hK ▸ c3v hc
noncomputable def c6a (z:Str):Value→Bool
 |.str y _=>y == z
 |_=>false
noncomputable def findS (ys:List Str) (z:Str):Option Nat:=ys.findIdx? (· == z)
theorem b4d{ys:List Str}{z:Str}{j:Nat}(e:findS ys z=some j):ys[j]?=some z∧∀i y,i < j→ys[i]?=some y→y≠z:=by
 unfold findS at e
 rw[List.findIdx?_eq_some_iff_getElem] at e
 obtain⟨h,h1,h2⟩:=e
 refine⟨by rw[List.getElem?_eq_getElem h];congr 1;exact eq_of_beq h1,fun i y hi ey=>?_⟩
 have:=h2 i hi
 obtain⟨hl,e3⟩:=List.getElem?_eq_some_iff.mp ey
 rw[e3] at this
 intro z'
 subst z'
 simp at this
end
end L2
namespace L2
open PySem PySem.Spec PyProof.Rows
section
variable {X:Cx} {K:PySem.W.Frag} {fa fb fc:GE} {m:List Bool} {a b c:Expr} {pos:Pos}
noncomputable def a5w:GS:=fun _=>none
theorem a5x(Γ:Gm):a5w Γ=none:=rfl
theorem a8z{st:Stmt}:PS X st (tS K m a5w):=fun _ _ _ _ _ _ ⟨_,_,_,_,_,_,e,_⟩=>by cases e
noncomputable def c1a (c1 c2:Int→Int→Bool) (fa fb fc:GE):GT:=fun Γ=>(fa Γ).bind fun p=>(fb p.2).bind fun q=>match p.1,q.1 with
 |.own (.frz (.int x)),.own (.frz (.int y))=>if c1 x y=true then(fc q.2).bind fun r=>match r.1 with
   |.own (.frz (.int z))=>some (c2 y z,r.2)
   |_=>none
  else some (false,q.2)
 |_,_=>none
theorem c1b{op op':CmpOp}{c1 c2:Int→Int→Bool}(ho:OpR X (compareOp op) (rI0 fun i j=>.bl (c1 i j)))(ho':OpR X (compareOp op') (rI0 fun i j=>.bl (c2 i j)))(ha:PE X a (tG K fa))(hb:PE X b (tG K fb))(hc:PE X c (tG K fc))
  (hm:lastMarks [op,op'] [b,c]=false:=by with_unfolding_all rfl):PT X (.Compare a [op,op'] [b,c] pos) (tGT K (c1a c1 c2 fa fb fc)):=(c8b ho ho' ha hb hc hm).mono fun σ H Q t=>by
 obtain⟨F,A,Γ,rb,Γ',k,e,w⟩:=t
 unfold c1a at e
 obtain⟨⟨r1,Γ1⟩,e1,e'⟩:=Option.bind_eq_some_iff.mp e
 clear e
 obtain⟨⟨r2,Γ2⟩,e2,e⟩:=Option.bind_eq_some_iff.mp e'
 clear e'
 dsimp only at e2 e
 split at e
 ·rename_i x y
  refine⟨F,A,Γ,_,Γ1,k,e1,fun v H1 pp=>?_⟩
  have hv:v=.int x:=Post.flat pp rfl
  subst hv
  obtain⟨F1,A1,x1,k1,hh⟩:=pp
  obtain⟨B,C,h1,h2,h3⟩:=OwnL.one (σ:=σ) (Γ:=Γ1) k1.os
  subst h3
  obtain⟨k2,x2⟩:=k1.sub h2 (.of_sub (List.sublist_append_right _ _))
  refine⟨F1,C,Γ1,_,Γ2,k2,e2,fun v2 H2 pp2=>?_⟩
  have hv2:v2=.int y:=Post.flat pp2 rfl
  subst hv2
  obtain⟨F2,A2,x3,k3,hh2⟩:=pp2
  obtain⟨B2,C2,h4,h5,h6⟩:=OwnL.one (σ:=σ) (Γ:=Γ2) k3.os
  subst h6
  obtain⟨k4,x4⟩:=k3.sub h5 (.of_sub (List.sublist_append_right _ _))
  have x12:=(x1.trans x2).trans (x3.trans x4)
  refine⟨x,y,rfl,rfl,c1 x y,rfl,?_⟩
  cases hc1:c1 x y with
  |true=>
   rw[hc1,if_pos rfl] at e
   rw[if_pos rfl]
   obtain⟨⟨r3,Γ3⟩,e3,e4⟩:=Option.bind_eq_some_iff.mp e
   dsimp only at e4
   split at e4
   ·rename_i z
    cases e4
    refine⟨F2,C2,Γ2,_,_,k4,e3,fun v3 H3 pp3=>?_⟩
    have hv3:v3=.int z:=Post.flat pp3 rfl
    subst hv3
    obtain⟨F3,A3,x5,k5,hh3⟩:=pp3
    obtain⟨B3,C3,h7,h8,h9⟩:=OwnL.one (σ:=σ) k5.os
    subst h9
    obtain⟨k6,x6⟩:=k5.sub h8 (.of_sub (List.sublist_append_right _ _))
    exact⟨y,z,rfl,rfl,_,rfl,w H3 ⟨F3,C3,x12.trans (x5.trans x6),k6,True.intro⟩⟩
   ·cases e4
  |false=>
   rw[hc1,if_neg Bool.false_ne_true] at e
   rw[if_neg Bool.false_ne_true]
   cases e
   exact⟨_,rfl,w H2 ⟨F2,C2,x12,k4,True.intro⟩⟩
 ·cases e
end
theorem d3h{P:Program}{w:World}{K:PySem.W.Frag}{mg:Str→Option Value}{base:Heap}{CX:CXT}{k n:Nat}{f:Addr}{fd:FuncData}{ps:List Str}:FnOk P w K mg base CX k f fd ps (SpM K n fun _=>none):=
 {len:=fun _ _ _ _ q=>(by
   obtain⟨_,_,_,_,_,_,_,e,_⟩:=q
   cases e)
  run:=fun _ _ _ _ _ _ _ _ _ _ _ _ _ q=>(by
   obtain⟨_,_,_,_,_,_,_,e,_⟩:=q
   cases e)}
end L2
namespace L2
open PySem PySem.Spec PyProof.Rows
section
variable {X:Cx} {K:PySem.W.Frag} {pos:Pos}
theorem b7q{x:Str}{n:Int}(hg:Gl X x)(hm:∃t,X.mg x=some (.int n t))(hd:(x == ("__debug__":Str))=false:=by decide):PE X (.Name x pos) (tC (.int n)):=by
 obtain⟨t,h⟩:=hm
 exact c3b hg h ⟨t,rfl⟩ hd
theorem b7r{x z:Str}(hg:Gl X x)(hm:∃t,X.mg x=some (.str z t))(hd:(x == ("__debug__":Str))=false:=by decide):PE X (.Name x pos) (tC (.str z)):=by
 obtain⟨t,h⟩:=hm
 exact c3b hg h ⟨t,rfl⟩ hd
theorem c6b:CallR X (.type "int") (fun xs H Q=>∃(x:Str) (n:Int),xs=[.str x]∧intText? x=some n∧x.length≤640∧Q (.int n) H):=by
 intro pins s σ H xs us Q I r h
 obtain⟨x,n,rfl,hx,hl,q⟩:=h
 obtain⟨u,rfl,ru⟩:=vals1 r
 obtain⟨t,rfl⟩:=ru
 exact PySem.W.KIN.call_text hx hl ⟨.int n,H,I.tok _,⟨_,rfl⟩,q⟩
noncomputable def oIntS:List O→Option O
 |[.frz (.str x)]=>if x.length≤640 then(intText? x).map fun n=>.frz (.int n) else none
 |_=>none
theorem d3i:OpOk K (fun xs H Q=>∃(x:Str) (n:Int),xs=[.str x]∧intText? x=some n∧x.length≤640∧Q (.int n) H) oIntS:=by
 intro F H vs os o Q le see e res
 unfold oIntS at e
 split at e
 ·split at e
  ·rename_i hl
   obtain⟨n,e1,e2⟩:=Option.map_eq_some_iff.mp e
   cases e2
   obtain⟨x,B,rfl,h1⟩:=see.one
   cases a0v h1 rfl
   exact⟨_,n,rfl,e1,hl,res.flat rfl⟩
  ·cases e
 ·cases e
theorem d3j(x:Str):oIntS [.frz (.str x)]=if x.length≤640 then(intText? x).map fun n=>.frz (.int n) else none:=rfl
noncomputable def a3q (x y:Str):List Str:=
 if(decide (x.length < y.length) || decide (Builtin.Str.strKind x < Builtin.Str.strKind y))=true then[x]
 else if(Builtin.Str.occurrences x y 0 x.length (x.length+1)).isEmpty=true then[x]
 else Builtin.Str.partsBetween x (Builtin.Str.occurrences x y 0 x.length (x.length+1)) y.length
noncomputable def d1d:V→List V→Hp→VK→Prop:=fun x xs H Q=>∃z y,x=.str z∧xs=[.str y]∧(y.length == 0)=false∧z.length≤sizeLine∧(a3q z y).length≤sizeLine∧∀l,H l=none→Q (.ref l) (upd H l (.lst ((a3q z y).map V.str)))
theorem b7s:∀(n:Nat) (xs:List Str),Vals (xs.map V.str) (strsFrom n xs)
 |n,[]=>.nil
 |n,x::xs=>.cons ⟨_,rfl⟩ (b7s (n+1) xs)
theorem c1c:MtM X "str.split" d1d:=by
 intro pins s σ H x xs v us Q I rx rs h
 obtain⟨z,y,rfl,rfl,hy,hz,hs,q⟩:=h
 obtain⟨t,rfl⟩:=rx
 obtain⟨u,rfl,ru⟩:=vals1 rs
 obtain⟨t',rfl⟩:=ru
 have one:a3q z y=[z]→∀tk,EP X pins σ Q (.ref s.heap.objs.size) { s with heap:=s.heap.push { cls:=.type "list",data:=.seq #[Value.str z t]},toks:=tk}:=fun e tk=>by
  refine⟨.ref s.heap.objs.size,_,I.laid (a:=s.heap.objs.size) (o:=.lst ((a3q z y).map V.str)) (t':=tk) (fun _ _ q=>Heap.get?_push_of_some _ q) (Nat.le_refl _) ⟨by rw[List.length_map];exact hs,[Value.str z t],0,by rw[e];exact .cons ⟨_,rfl⟩ .nil,Heap.get?_push_size _ rfl⟩,rfl,q _ (I.hok.fresh (Nat.le_refl _))⟩
 by_cases h1:(decide (z.length < y.length) || decide (Builtin.Str.strKind z < Builtin.Str.strKind y))=true
 ·refine call_meets F.slot_str_split (typeIs_str s z t) F.entry_str_split (F.args_str_split_2 _ _) (meets_str_split_cannot_occur z y t t' h1) ?_
  exact one (by unfold a3q;rw[if_pos h1]) s.toks
 ·rw[Bool.not_eq_true] at h1
  by_cases h2:(Builtin.Str.occurrences z y 0 z.length (z.length+1)).isEmpty=true
  ·refine call_meets F.slot_str_split (typeIs_str s z t) F.entry_str_split (F.args_str_split_2 _ _) (meets_str_split_not_found z y t t' h1 hy h2) ?_
   exact one (by unfold a3q;rw[h1,if_neg Bool.false_ne_true,if_pos h2]) s.toks
  ·rw[Bool.not_eq_true] at h2
   have e:a3q z y=Builtin.Str.partsBetween z (Builtin.Str.occurrences z y 0 z.length (z.length+1)) y.length:=by unfold a3q;rw[h1,h2,if_neg Bool.false_ne_true,if_neg Bool.false_ne_true]
   refine call_meets F.slot_str_split (typeIs_str s z t) F.entry_str_split (F.args_str_split_2 _ _) (meets_str_split_sep z y t t' h1 hy h2 hz (by rw[←e];exact hs)) ?_
   refine⟨.ref s.heap.objs.size,_,I.laid (a:=s.heap.objs.size) (o:=.lst ((a3q z y).map V.str)) (fun _ _ q=>Heap.get?_push_of_some _ q) (Nat.le_refl _) ⟨by rw[List.length_map];exact hs,strsFrom s.toks (a3q z y),0,b7s _ _,?_⟩,rfl,q _ (I.hok.fresh (Nat.le_refl _))⟩
   rw[e]
   exact Heap.get?_push_size _ rfl
noncomputable def a8r:List O→Option O
 |[.frz (.str z),.frz (.str y)]=>if(y.length == 0)=false∧z.length≤1000000∧(a3q z y).length≤1000000 then some (.lst (((a3q z y).map D.str).map .frz)) else none
 |_=>none
theorem c1d{F:Hp}:∀xs:List Str,RepL K F (xs.map V.str) (xs.map D.str)
 |[]=>.nil
 |_::xs=>.flat rfl (c1d xs)
theorem c1e:OpOk K (rMeth d1d) a8r:=by
 intro F H vs os o Q le see e res
 unfold a8r at e
 split at e
 ·split at e
  ·rename_i z y hh
   cases e
   obtain⟨x,x2,B,C,rfl,h1,h2⟩:=see.two
   cases a0v h1 rfl
   cases a0v h2 rfl
   exact⟨_,_,rfl,z,y,rfl,rfl,hh.1,ml hh.2.1,ml hh.2.2,fun l hn=>res.lst (c1d _) hn⟩
  ·cases e
 ·cases e
theorem b5h(z y:Str):a8r [.frz (.str z),.frz (.str y)]=if(y.length == 0)=false∧z.length≤1000000∧(a3q z y).length≤1000000 then some (.lst (((a3q z y).map D.str).map .frz)) else none:=rfl
end
end L2
namespace L2
open PySem PySem.Spec PyProof.Rows
section
variable {X:Cx} {K:PySem.W.Frag}
noncomputable def c6c:V→List V→Hp→VK→Prop:=fun x xs H Q=>∃(l:Addr) (ys:List Str) (z:Str) (j:Nat),x=.ref l∧xs=[.str z]∧H l=some (.lst (ys.map V.str))∧ys[j]?=some z∧(∀i y,i < j→ys[i]?=some y→y≠z)∧Q .non (upd H l (.lst ((ys.eraseIdx j).map V.str)))
theorem b2r{α β:Type}(f:α→β):∀(xs:List α) (j:Nat),(xs.map f).eraseIdx j=(xs.eraseIdx j).map f
 |[],j=>by simp
 |_::_,0=>rfl
 |x::xs,j+1=>by show f x::(xs.map f).eraseIdx j=f x::(xs.eraseIdx j).map f;rw[b2r f xs j]
theorem a9t:∀{ps:List (Str×Tok)},Vals ((ps.map (·.1)).map V.str) (ps.map fun p=>Value.str p.1 p.2)
 |[]=>.nil
 |p::ps=>.cons ⟨p.2,rfl⟩ a9t
theorem c6d:MtM X "list.remove" c6c:=by
 intro pins s σ H x xs v us Q I rx rs h
 obtain⟨l,ys,z,j,rfl,rfl,hH,hj,hne,q⟩:=h
 cases rx
 obtain⟨u,rfl,ru⟩:=vals1 rs
 obtain⟨t,rfl⟩:=ru
 obtain⟨hz,its,n,rv,hl,eo⟩:=I.lstM hH
 obtain⟨ps,e1,e2⟩:=b0p rv
 subst e1
 have hlen:ps.length=ys.length:=by rw[←e2,List.length_map]
 have hjl:j < ys.length:=(List.getElem?_eq_some_iff.mp hj).1
 have hys:∀i (hi:i < ps.length),ys[i]?=some ps[i].1:=fun i hi=>by rw[←e2];simp[hi]
 have hsz:(ps.map fun p=>Value.str p.1 p.2).toArray.size=ps.length:=by simp
 have hjz:ps[j].1=z:=by
  have:=hys j (by omega)
  rw[hj] at this
  exact(Option.some.inj this).symm
 refine call_meets F.slot_list_remove ⟨_,eo,rfl⟩ F.entry_list_remove (F.args_list_remove_2 _ _) (MeetsSeq.list_remove l _ n (.str z t) (c6a z) ?_ j (by rw[hsz];omega) ?_ ?_ (by rw[hsz,hlen];simpa using hz)) ⟨eo,?_⟩
 ·intro y hy
  simp at hy
  obtain⟨b,t',_,rfl⟩:=hy
  show MeetsSeq.EqGives _ _ (b == z)
  rw[←SeqAt.str_beq]
  exact SeqRoads2.EqGives.str b z t' t
 ·simp[c6a,hjz]
 ·intro i hi hij
  rw[hsz] at hi
  have:=hne i _ hij (hys i hi)
  simp[c6a]
  exact this
 ·refine⟨.non,_,I.lset (its':=(ps.eraseIdx j).map fun p=>Value.str p.1 p.2) hH eo ?_ ?_ ?_,rfl,q⟩
  ·apply Array.toList_inj.mp
   simp[Array.toList_eraseIdxIfInBounds,b2r]
  ·rw[←e2,b2r]
   exact a9t
  ·rw[List.length_map]
   have:=List.length_eraseIdx_le ys j
   rw[List.length_map] at hz
   omega
noncomputable def strsO:List O→Option (List Str)
 |[]=>some []
 |.frz (.str x)::os=>(strsO os).map fun xs=>x::xs
 |_=>none
noncomputable abbrev fzS (y:Str):O:=.frz (.str y)
theorem b7t:∀xs:List Str,strsO (xs.map fzS)=some xs
 |[]=>rfl
 |i::is=>by rw[List.map_cons];show(strsO (is.map fzS)).map _=_;rw[b7t is];rfl
theorem b7u:∀{os:List O} {xs:List Str},strsO os=some xs→os=xs.map fzS
 |[],xs,e=>by cases e;rfl
 |o::os,xs,e=>by
  unfold strsO at e
  split at e
  ·cases e
   rename_i h
   cases h
  ·rename_i x os' h
   cases h
   obtain⟨ys,e1,e2⟩:=Option.map_eq_some_iff.mp e
   subst e2
   rw[List.map_cons,←b7u e1]
  ·cases e
theorem b1b{F H:Hp}:∀{ws:List V} {xs:List Str} {A:List Addr},OwnL K F H (ws.map some) ((xs.map fzS).map some) A→ws=xs.map .str
 |[],[],_,_=>rfl
 |[],_::_,_,h=>by have:=h.length;simp at this
 |_::_,[],_,h=>by have:=h.length;simp at this
 |w::ws,i::is,A,h=>by
  obtain⟨B1,B2,g1,g2,rfl⟩:=OwnL.one h
  cases a0v g1 rfl
  rw[b1b g2]
  rfl
theorem c1f{F H:Hp}:∀(xs:List Str),OwnL K F H ((xs.map V.str).map some) ((xs.map fzS).map some) []
 |[]=>.nil
 |_::xs=>.frz (.flat rfl .nil) (c1f xs)
noncomputable def b0q:O→List O→Option (O×O)
 |.lst ps,[.frz (.str z)]=>(strsO ps).bind fun ys=>(findS ys z).map fun j=>(.lst ((ys.eraseIdx j).map fzS),.frz .non)
 |_,_=>none
theorem c6e:MutOk K c6c b0q:=by
 intro F H x vs o os o' res Ai Aτ Q le h1 h2 nd fr e q
 unfold b0q at e
 split at e
 ·rename_i ps z
  obtain⟨ys,e1,e2⟩:=Option.bind_eq_some_iff.mp e
  obtain⟨j,e3,e4⟩:=Option.map_eq_some_iff.mp e2
  cases e4
  cases b7u e1
  obtain⟨l,ws,Ap,rfl,hl,i,nd',go⟩:=a9i h1 rfl nd q
  match vs,h2 with
  |[v],h2=>
   cases a0v h2 rfl
   cases b1b i
   obtain⟨s1,s2⟩:=b4d e3
   exact⟨l,ys,z,j,rfl,rfl,hl,s1,s2,go _ _ [] .non [] rfl (c1f _) b2f ⟨_,List.Perm.refl _,List.nil_sublist _⟩⟩
  |[],h2=>have:=h2.length;simp at this
  |_::_::_,h2=>have:=h2.length;simp at this
 ·cases e
theorem c6f(ys:List Str)(z:Str):b0q (.lst (ys.map fzS)) [.frz (.str z)]=(findS ys z).map fun j=>(.lst ((ys.eraseIdx j).map fzS),.frz .non):=by
 show((strsO (ys.map fzS)).bind _)=_
 rw[b7t,Option.bind_some]
end
end L2
namespace L2
open PySem PySem.Spec PyProof.Rows
theorem Wk.mono{K:PySem.W.Frag}{H H':Hp}(s:Same H H'){x v:V}{π:List Nat}(h:Wk K H x π v):Wk K H' x π v:=by
 induction h with
 |nil=>exact .nil
 |cons q e _ ih=>
  refine .cons ?_ e ih
  rcases q with q|q
  ·exact .inl (q.imp (fun q=>s.rd q) id)
  ·exact .inr (s.seqT q)
noncomputable def gMutP (g:O→List O→Option (O×O)) (i:Nat) (π:List Nat) (fs:GA):GE:=fun Γ=>match Γ[i]? with
 |some (some o)=>(fs (Γ.set i none)).bind fun q=>(ownL q.1).bind fun os=>match q.2[i]? with
  |some none=>(setP (fun c=>g c os) o π).bind fun z=>some (.own z.2,q.2.set i (some z.1))
  |_=>none
 |_=>none
section
variable {X:Cx} {K:PySem.W.Frag} {o e:Expr} {es:List Expr} {i:Nat} {π:List Nat} {fs:GA} {name:Str} {apos cpos:Pos} {id:String} {r:V→List V→Hp→VK→Prop} {g:O→List O→Option (O×O)}
theorem c6g{Γ Γ':Gm}{rr:R}(e:gMutP g i π fs Γ=some (rr,Γ')):∃o rs Γ2 os z,Γ[i]?=some (some o)∧fs (Γ.set i none)=some (rs,Γ2)∧ownL rs=some os∧Γ2[i]?=some none∧setP (fun c=>g c os) o π=some z∧rr=.own z.2∧Γ'=Γ2.set i (some z.1):=by
 unfold gMutP at e
 split at e
 ·rename_i o h
  obtain⟨q,e1,e⟩:=Option.bind_eq_some_iff.mp e
  obtain⟨os,e2,e⟩:=Option.bind_eq_some_iff.mp e
  split at e
  ·rename_i h3
   obtain⟨z,e4,e⟩:=Option.bind_eq_some_iff.mp e
   cases e
   exact⟨o,q.1,q.2,os,z,h,e1,e2,h3,e4,rfl,rfl⟩
  ·cases e
 ·cases e
theorem d3k(ok:MutOk K r g){σ:St}{H:Hp}{Q:VK}(tt:tG K (gMutP g i π fs) σ H Q):tBM K "list" r (tPath K i π) (tGA K fs) σ H Q:=by
 obtain⟨F,A,Γ,rr,Γ',k,e,w⟩:=tt
 obtain⟨oo,rs,Γ2,os,z,hΓ,e2,e3,e4,q,rfl,rfl⟩:=c6g e
 obtain⟨x,Ai,C,g1,g2,g3,g4⟩:=k.os.take hΓ
 have nd:(Ai++C).Nodup:=g4.nodup_iff.mp k.nd
 have fr:∀a∈Ai++C,F a=none:=fun a m=>k.fr a (g4.mem_iff.mpr m)
 obtain⟨n1,n2,n3⟩:=List.nodup_append.mp nd
 have nC:∀a∈Ai,a∉C:=fun a m y=>n3 a m a y rfl
 have hr:∀a,(fun a=>if a∈Ai then H a else none:Hp) a=if a∈Ai then H a else none:=fun _=>rfl
 generalize hHr:(fun a=>if a∈Ai then H a else none:Hp)=Hr at hr
 have sr:Same Hr H:=fun a u e=>by
  rw[hr] at e
  split at e
  ·exact e
  ·cases e
 have inr:∀a u,Hr a=some u→a∈Ai:=fun a u e=>by
  rw[hr] at e
  split at e
  ·assumption
  ·cases e
 have g2r:OwnL K F Hr [some x] [some oo] Ai:=g2.keep (Same.refl _) fun a m u e=>by rw[hr,if_pos m];exact e
 obtain⟨v,c,c',Ac,B,k1,k2,⟨ps,k3⟩,k4,k5,k6⟩:=b2j g2r n1 q
 have hac:∀a∈Ac,a∈Ai:=fun a m=>k5.mem_iff.mpr (List.mem_append_left _ m)
 refine⟨x,v,g1,k1.mono sr,?_,F,C,Γ.set i none,rs,Γ2,⟨k.le,g3,n2,fun a m=>fr a (List.mem_append_right _ m)⟩,e2,fun vs H1 p=>?_⟩
 ·subst k3
  cases k2 with
  |lst hq _ _=>exact .inl ⟨rfl,_,SqL.of (sr _ _ hq)⟩
 obtain⟨F1,A1,x1,kk,hh⟩:=p
 rw[a3u e3] at kk
 have hl:vs.length=os.length:=by
  have:=hh.length
  have h4:=congrArg List.length (a3u e3)
  simp at h4
  omega
 obtain⟨B1,C1,a1,a2,a3⟩:=OwnL.split (by simpa using hl) kk.os
 subst a3
 have h1:∀a u,Hr a=some u→H1 a=some u:=fun a u e=>x1.keep a u (sr a u e) (nC a (inr a u e))
 have dis:∀a∈Ai,a∉B1++C1:=fun a m y=>by
  rcases x1.own a y with z|z
  ·exact nC a m z
  ·exact g2.there a m z
 have hF1:∀a∈Ai,F1 a=none:=fun a m=>by
  cases e:F1 a with
  |none=>rfl
  |some o=>
   rcases x1.new a (by rw[e];exact fun z=>by cases z) with z|z|z
   ·exact absurd (fr a (List.mem_append_left _ m)) z
   ·exact absurd z (nC a m)
   ·exact absurd z (g2.there a m)
 have ndA:(Ai++(B1++C1)).Nodup:=List.nodup_append.mpr ⟨n1,kk.nd,fun a m b m' e=>by subst e;exact dis a m m'⟩
 have ndc:(Ac++B).Nodup:=k5.nodup_iff.mp n1
 have k2':OwnL K F1 H1 [some v] [some c] Ac:=k2.keep x1.ff fun a m u e=>h1 a u e
 have ndB:(Ac++B1).Nodup:=List.nodup_append.mpr ⟨(List.nodup_append.mp ndc).1,(List.nodup_append.mp kk.nd).1,fun a m b m' e=>by subst e;exact dis a (hac a m) (List.mem_append_left _ m')⟩
 refine ok F1 H1 v vs c os c' z.2 Ac B1 Q kk.le k2' a1 ndB (fun a m=>?_) k4 fun v' H' A' Ar kp dm w1 w2 sp=>?_
 ·rcases List.mem_append.mp m with m|m
  ·exact hF1 a (hac a m)
  ·exact kk.fr a (List.mem_append_left _ m)
 obtain⟨D,j1,j2⟩:=k6 F1 H' A' x1.ff (fun a u n e=>kp a u n (h1 a u e)) w1
 have g3':OwnL K F1 H' σ Γ2 C1:=a2.keep (Same.refl _) fun a m u e=>kp a u (fun y=>dis a (hac a y) (List.mem_append_right _ m)) e
 have hi:i < Γ2.length:=(List.getElem?_eq_some_iff.mp e4).1
 obtain⟨D2,j3,C2,j4,j5⟩:=OwnL.put j1 i g3' hi
 rw[a4j g1] at j3
 have s1:SubP (Ar++D2) (Ai++(B1++C1)):=by
  have b1:SubP D2 (D++C1):=(SubP.of_perm j4).trans ((SubP.refl D).app (.of_sub j5))
  have b2:SubP (Ar++D2) (Ar++((A'++B)++C1)):=(SubP.refl Ar).app (b1.trans (j2.app (SubP.refl C1)))
  have b3:SubP (Ar++((A'++B)++C1)) (((Ac++B1)++B)++C1):=by
   rw[←List.append_assoc,←List.append_assoc]
   exact(sp.app (SubP.refl B)).app (SubP.refl C1)
  have b4:(((Ac++B1)++B)++C1).Perm (Ai++(B1++C1)):=by
   have p1:((Ac++B1)++B).Perm (Ai++B1):=by
    rw[List.append_assoc]
    refine(List.Perm.append_left Ac List.perm_append_comm).trans ?_
    rw[←List.append_assoc]
    exact k5.symm.append_right B1
   rw[←List.append_assoc]
   exact p1.append_right C1
  exact b2.trans (b3.trans (.of_perm b4))
 have hA:∀a∈C,a∈A:=fun a m=>g4.mem_iff.mpr (List.mem_append_right _ m)
 have hAi:∀a∈Ai,a∈A:=fun a m=>g4.mem_iff.mpr (List.mem_append_left _ m)
 refine w v' H' ⟨F1,Ar++D2,⟨x1.ff,fun a u e n=>kp a u (fun y=>n (hAi a (hac a y))) (x1.keep a u e fun y=>n (hA a y)),fun a h=>dm a (x1.dom a h),fun a h=>?_,fun a m=>?_⟩,⟨fun a u e=>?_,w2.app j3,s1.nodup ndA,fun a m=>?_⟩,True.intro⟩
 ·rcases x1.new a h with y|y|y
  ·exact .inl y
  ·exact .inr (.inl (hA a y))
  ·exact .inr (.inr y)
 ·rcases List.mem_append.mp (s1.mem a m) with m|m
  ·exact .inl (hAi a m)
  ·rcases x1.own a m with y|y
   ·exact .inl (hA a y)
   ·exact .inr y
 ·refine kp a u (fun y=>?_) (kk.le a u e)
  rw[hF1 a (hac a y)] at e
  cases e
 ·rcases List.mem_append.mp (s1.mem a m) with m|m
  ·exact hF1 a m
  ·exact kk.fr a m
theorem d3l(slot:Slot "list" name id)(hty:typeOf (.builtin id)=pure (.type "method_descriptor"))(hm:MtM X id r)(ok:MutOk K r g)(ho:PE X o (tPath K i π))(ha:PA X (e::es) (tGA K fs))
  (hbase:attributeBase o name X.env (eval o X.env)=eval o X.env:=by rfl)
  (hfew:((backTo cpos (starEach (e::es) X.env)).all (fun x => !x.1) && (backToKw cpos (keywordEach [] X.env)).all (fun x=>x.1.isSome)
   && decide ((e::es).length+([]:List Keyword).length+(if([]:List Keyword).isEmpty then 0 else 1) < 30))=true:=by rfl)
  (hline:(apos.endLine == cpos.line)=true:=by rfl) (hs:starEach (e::es) X.env=(false,eval e X.env)::starEach es X.env:=by rfl) (hplain:(backTo cpos (starEach es X.env)).any (·.1)=false:=by rfl) (hK:X.K=K:=by rfl) :
  PE X (.Call (.Attribute o name apos) (e::es) [] cpos) (tG K (gMutP g i π fs)):=by
 subst hK
 exact(b8m PySem.F.plainAttrs_list slot hty hm ho ha hbase hfew hline hs hplain).mono fun _ _ _ t=>d3k ok t
theorem c6h(g:O→List O→Option (O×O))(i:Nat)(π:List Nat)(fs:GA)(Γ:Gm):gMutP g i π fs Γ=match Γ[i]? with
 |some (some o)=>(fs (Γ.set i none)).bind fun q=>(ownL q.1).bind fun os=>match q.2[i]? with
  |some none=>(setP (fun c=>g c os) o π).bind fun z=>some (.own z.2,q.2.set i (some z.1))
  |_=>none
 |_=>none:=rfl
end
end L2
namespace L2
open PySem PySem.Spec PyProof.Rows PySem.StrLaws Builtin Builtin.Str
theorem b0r(x:Str)(c limit:Nat):∀(n a:Nat) (st:Array Nat×Nat),st.snd≤a→st.fst.size+n≤limit→
  (forIn (List.range' a n) st (occBody x ⟨#[c]⟩ x.length limit)).run.fst.toList=st.fst.toList++(List.range' a n).filter (fun i=>x.cps.toList[i]? == some c)
 |0,a,st,_,_=>by simp
 |n+1,a,st,h1,h2=>by
  rw[List.range'_succ,List.forIn_cons]
  unfold occBody
  split
  ·rename_i hc
   have e:(x.cps.toList[a]? == some c)=true:=by
    rw[beq_iff_eq]
    exact(subAt_one x c a).mp ⟨hc.1.2,hc.2⟩
   rw[List.filter_cons,if_pos e]
   have:=b0r x c limit n (a+1) (st.fst.push a,a+(⟨#[c]⟩:Str).length) (Nat.le_refl _) (by simp only[Array.size_push];omega)
   refine Eq.trans this ?_
   simp
  ·rename_i hc
   have e:¬(x.cps.toList[a]? == some c)=true:=by
    rw[beq_iff_eq]
    intro z
    obtain⟨z1,z2⟩:=(subAt_one x c a).mpr z
    exact hc ⟨⟨⟨by omega,h1⟩,z1⟩,z2⟩
   rw[List.filter_cons,if_neg e]
   exact b0r x c limit n (a+1) st (by omega) (by omega)
theorem c6i(x:Str)(c:Nat):occurrences x ⟨#[c]⟩ 0 x.length (x.length+1)=(List.range' 0 (x.length+1)).filter (fun i=>x.cps.toList[i]? == some c):=by
 rw[occ_eq]
 exact(b0r x c (x.length+1) (x.length+1) 0 (#[],0) (Nat.le_refl _) (by simp)).trans (by simp)
noncomputable def jl (c:Nat):List (List Nat)→List Nat
 |[]=>[]
 |[p]=>p
 |p::q::r=>p++c::jl c (q::r)
noncomputable def b2s:Nat→List (List Nat)→List Nat
 |_,[]=>[]
 |_,[_]=>[]
 |a,p::q::r=>(a+p.length)::b2s (a+p.length+1) (q::r)
theorem a9a{l:List Nat}{c:Nat}:∀(n a:Nat),(∀k,k < n→l[a+k]?≠some c)→(List.range' a n).filter (fun i=>l[i]? == some c)=[]
 |0,a,_=>by simp
 |n+1,a,h=>by
  have h0:=h 0 (by omega)
  rw[List.range'_succ,List.filter_cons,if_neg (by rw[beq_iff_eq];simpa using h0)]
  exact a9a n (a+1) fun k hk=>by have:=h (k+1) (by omega);rwa [show a+1+k=a+(k+1) by omega]
theorem b2t(c:Nat):∀(ps:List (List Nat)) (pre l:List Nat),ps≠[]→(∀p∈ps,c∉p)→l=pre++jl c ps→(List.range' pre.length (l.length+1 - pre.length)).filter (fun i=>l[i]? == some c)=b2s pre.length ps
 |[],_,_,h,_,_=>absurd rfl h
 |[p],pre,l,_,hp,e=>by
  subst e
  refine a9a _ _ fun k hk=>?_
  intro z
  have hc:=hp p (.head _)
  rw[List.getElem?_append_right (by omega),show pre.length+k - pre.length=k by omega] at z
  exact hc (List.mem_of_getElem? z)
 |p::q::r,pre,l,_,hp,e=>by
  have hc:=hp p (.head _)
  have ih:=b2t c (q::r) (pre++p++[c]) l (by simp) (fun x m=>hp x (.tail _ m)) (by rw[e];simp[jl])
  have hl:l.length=pre.length+(p.length+1+(jl c (q::r)).length):=by rw[e];simp[jl];omega
  have e1:l.length+1 - pre.length=p.length+(1+(l.length+1 - (pre++p++[c]).length)):=by simp;omega
  rw[e1,←List.range'_append_1,List.filter_append,a9a,List.nil_append]
  ·rw[show 1+(l.length+1 - (pre++p++[c]).length)=(l.length+1 - (pre++p++[c]).length)+1 by omega,List.range'_succ,List.filter_cons]
   have hx:l[pre.length+p.length]?=some c:=by
    rw[e,show pre++jl c (p::q::r)=(pre++p)++c::jl c (q::r) by simp[jl],List.getElem?_append_right (by simp)]
    simp
   rw[if_pos (by rw[beq_iff_eq];exact hx)]
   show _=(pre.length+p.length)::b2s (pre.length+p.length+1) (q::r)
   rw[show pre.length+p.length+1=(pre++p++[c]).length by simp;omega,ih]
  ·intro k hk z
   rw[e,show pre++jl c (p::q::r)=pre++(p++c::jl c (q::r)) by simp[jl],List.getElem?_append_right (by omega),show pre.length+k - pre.length=k by omega,List.getElem?_append_left hk] at z
   exact hc (List.mem_of_getElem? z)
noncomputable def cpsL (ps:List Str):List (List Nat):=ps.map fun p=>p.cps.toList
theorem b2u{x y:Str}(h:x.cps.toList=y.cps.toList):x=y:=by
 cases x;cases y
 simp only[Str.mk.injEq]
 exact Array.toList_inj.mp h
theorem b4e(c:Nat)(x:Str):∀(ps:List Str) (pre:List Nat),ps≠[]→x.cps.toList=pre++jl c (cpsL ps)→partsFrom x 1 pre.length (b2s pre.length (cpsL ps))=ps
 |[],_,h,_=>absurd rfl h
 |[p],pre,_,e=>by
  show[strSub x pre.length x.length]=[p]
  have hn:x.cps.toList.length=x.length:=by simp[Str.length]
  have:strSub x pre.length x.length=p:=by
   apply b2u
   rw[strSub_toList,←hn,e]
   simp[cpsL,jl]
   exact List.take_of_length_le (by simp)
  rw[this]
 |p::q::r,pre,_,e=>by
  have hn:x.cps.toList.length=x.length:=by simp[Str.length]
  have e':x.cps.toList=(pre++p.cps.toList++[c])++jl c (cpsL (q::r)):=by rw[e];simp[cpsL,jl]
  have ih:=b4e c x (q::r) (pre++p.cps.toList++[c]) (by simp) e'
  show strSub x pre.length (pre.length+p.cps.toList.length)::partsFrom x 1 (pre.length+p.cps.toList.length+1) (b2s (pre.length+p.cps.toList.length+1) (cpsL (q::r)))=_
  rw[show(pre++p.cps.toList++[c]).length=pre.length+p.cps.toList.length+1 by simp;omega] at ih
  rw[ih]
  have:strSub x pre.length (pre.length+p.cps.toList.length)=p:=by
   apply b2u
   rw[strSub_toList,e]
   simp[cpsL,jl]
  rw[this]
theorem d3m(x:Str):1≤Builtin.Str.strKind x:=by
 unfold Builtin.Str.strKind
 split
 ·decide
 ·split <;> decide
theorem c2l(c:Nat)(hc:c < 256)(x:Str)(ps:List Str)(hps:ps≠[])(hno:∀p∈ps,c∉p.cps.toList)(e:x.cps.toList=jl c (cpsL ps)):a3q x ⟨#[c]⟩=ps:=by
 have h1:occurrences x ⟨#[c]⟩ 0 x.length (x.length+1)=b2s 0 (cpsL ps):=by
  rw[c6i]
  have hn:x.cps.toList.length=x.length:=by simp[Str.length]
  have:=b2t c (cpsL ps) [] x.cps.toList (by unfold cpsL;simpa using hps) (fun p m=>by
   obtain⟨q,hq,rfl⟩:=List.mem_map.mp m
   exact hno q hq) (by simpa using e)
  simpa[hn] using this
 have h2:=b4e c x ps [] hps (by simpa using e)
 have hw:(⟨#[c]⟩:Str).length=1:=rfl
 have hk:Builtin.Str.strKind (⟨#[c]⟩:Str)=1:=by
  unfold Builtin.Str.strKind
  rw[if_pos]
  simp[hc]
 unfold a3q
 have hx:partsFrom x 1 0 []=[x]:=by
  show[strSub x 0 x.length]=[x]
  rw[sub_whole]
 split
 ·rename_i hz
  rw[hk,hw] at hz
  have hl:x.length=0:=by
   have:=d3m x
   simp at hz
   omega
  have hcut:b2s 0 (cpsL ps)=[]:=by
   rw[←h1,c6i,hl]
   have:x.cps.toList=[]:=by
    apply List.eq_nil_of_length_eq_zero
    rw[show x.cps.toList.length=x.length by simp[Str.length],hl]
   rw[this]
   simp
  rw[List.length_nil,hcut,hx] at h2
  exact h2
 ·split
  ·rename_i hz
   rw[h1,List.isEmpty_iff] at hz
   rw[List.length_nil,hz,hx] at h2
   exact h2
  ·rw[partsBetween_eq,h1,hw]
   exact h2
end L2
namespace L2
open PySem PySem.Spec PyProof.Rows
noncomputable def filtO:List O→Option (List O)
 |[]=>some []
 |.lst xs::r=>(filtO r).map fun q=>if xs.isEmpty then q else .lst xs::q
 |_::_=>none
noncomputable def a9u (i:Nat):GS:=fun Γ=>match Γ[i]? with
 |some (some (.lst ps))=>if ps.length≤1000 then(filtO ps).bind fun qs=>some (.nx,Γ.set i (some (.lst qs))) else none
 |_=>none
noncomputable def neH (H:Hp):V→Bool
 |.ref p=>match H p with
  |some (.lst xs) => !xs.isEmpty
  |_=>false
 |_=>false
section
variable {K:PySem.W.Frag} {F H:Hp}
theorem c6j{a:Addr}{ws:List V}{ne:V→Bool}{τ₀:St}{Fin:List V→Hp→Prop}(hq:SqL K H a ws)(hz:ws.length≤1000)(ht:∀w∈ws,TruV K w H (ne w))(h0:0 < τ₀.length)(fin:Fin (ws.filter ne) H):
  CompW (Itl K a) (gName 0) (fun σ H Q=>tVar 0 σ H fun x H'=>∃k,TruV K x H' k∧Q k H') (tVar 0) τ₀ H Fin:=by
 refine⟨ws.length,fun i τ acc H'=>H'=H∧acc=(ws.take i).filter ne∧0 < τ.length,⟨rfl,rfl,h0⟩,fun i τ acc H' hi hW=>?_⟩
 obtain⟨rfl,rfl,hτ⟩:=hW
 by_cases hlt:i < ws.length
 ·refine .inr ⟨hlt,⟨ws,ws[i],hq,List.getElem?_eq_getElem hlt⟩,fun x H2 y=>?_⟩
  obtain⟨rfl,y⟩:=y
  have hx:=y ws hq
  have ex:ws[i]=x:=by rw[List.getElem?_eq_getElem hlt] at hx;exact Option.some.inj hx
  have hs:(τ.set 0 (some x))[0]?=some (some x):=by simp[hτ]
  have et:ws.take (i+1)=ws.take i++[x]:=by rw[List.take_succ,hx];rfl
  have hl:0 < (τ.set 0 (some x)).length:=by rw[List.length_set];exact hτ
  refine⟨x,hs,ne x,ht x (List.mem_of_getElem? hx),?_⟩
  cases hb:ne x with
  |true=>
   rw[if_pos rfl]
   refine⟨x,hs,?_,rfl,?_,hl⟩
   ·have:=List.length_filter_le ne (ws.take i)
    rw[List.length_take] at this
    rw[sizeLine_eq]
    omega
   ·rw[et,List.filter_append,List.filter_cons_of_pos hb,List.filter_nil]
  |false=>
   rw[if_neg Bool.false_ne_true]
   refine⟨rfl,?_,hl⟩
   rw[et,List.filter_append,List.filter_cons_of_neg (by rw[hb];exact Bool.false_ne_true),List.filter_nil,List.append_nil]
 ·refine .inl ⟨⟨ws,hq,by omega⟩,?_⟩
  rw[List.take_of_length_le (by omega)]
  exact fin
theorem c9n:∀{ps qs:List O} {ws:List V} {A:List Addr},OwnL K F H (ws.map some) (ps.map some) A→filtO ps=some qs→(∀w∈ws,TruV K w H (neH H w))∧∃B,OwnL K F H ((ws.filter (neH H)).map some) (qs.map some) B∧SubP B A:=by
 intro ps
 induction ps with
 |nil=>
  intro qs ws A h e
  cases e
  cases ws with
  |nil=>exact⟨fun w m=>(nomatch m),A,h,SubP.refl _⟩
  |cons w ws=>have:=h.length;simp at this
 |cons p ps ih=>
  intro qs ws A h e
  cases ws with
  |nil=>have:=h.length;simp at this
  |cons w ws=>
   cases p with
   |lst xs=>
    obtain⟨q,e1,e2⟩:=Option.map_eq_some_iff.mp (show(filtO ps).map (fun q=>if xs.isEmpty then q else .lst xs::q)=some qs from e)
    have h':OwnL K F H (some w::ws.map some) (some (.lst xs)::ps.map some) A:=h
    cases h' with
    |@lst a vs _ A1 B1 _ _ hH ch tl=>
     obtain⟨t1,B,t2,t3⟩:=ih tl e1
     have hne:neH H (.ref a) = !vs.isEmpty:=by unfold neH;dsimp only;rw[hH]
     have hl:vs.length=xs.length:=by have:=ch.length;simpa using this
     have hx:vs.isEmpty=xs.isEmpty:=by cases vs <;> cases xs <;> simp at hl ⊢
     refine⟨fun u m=>?_,?_⟩
     ·rcases List.mem_cons.1 m with rfl|m
      ·exact .inl ⟨vs,SqL.of hH,hne⟩
      ·exact t1 u m
     ·rw[←e2]
      cases hb:xs.isEmpty with
      |true=>
       rw[if_pos rfl,List.filter_cons_of_neg (by rw[hne,hx,hb];exact Bool.false_ne_true)]
       exact⟨B,t2,t3.trans (.of_sub (List.sublist_append_right _ _))⟩
      |false=>
       rw[if_neg Bool.false_ne_true,List.filter_cons_of_pos (by rw[hne,hx,hb];rfl)]
       exact⟨a::A1++B,.lst hH ch t2,(SubP.refl (a::A1)).app t3⟩
   |frz d=>cases e
   |tup xs=>cases e
   |dct xs=>cases e
theorem d3n{σ:St}{Γ:Gm}{A:List Addr}{acc:List V}{accs:List O}{l:Addr}(k:OK K F H (acc.map some++σ) (accs.map some++Γ) A)(hl:acc.length=accs.length)(hn:H l=none):
  ∃B,OK K F (upd H l (.lst acc)) (some (.ref l)::σ) (some (.lst accs)::Γ) B∧Ext F H A F (upd H l (.lst acc)) B:=by
 obtain⟨B1,C1,g1,g2,g3⟩:=OwnL.split (by simp[hl]) k.os
 have nl:∀a∈A,a≠l:=fun a m z=>k.os.there a m (by rw[z];exact hn)
 have kpp:∀a∈A,∀o,H a=some o→upd H l (.lst acc) a=some o:=fun a m o e=>by rw[a0s (nl a m)];exact e
 subst g3
 refine⟨l::B1++C1,⟨fun a o e=>?_,.lst a1g (g1.keep (Same.refl _) fun a m=>kpp a (List.mem_append_left _ m)) (g2.keep (Same.refl _) fun a m=>kpp a (List.mem_append_right _ m)),List.nodup_cons.mpr ⟨fun m=>nl l m rfl,k.nd⟩,fun a m=>?_⟩,
  Same.refl _,fun a o e _=>?_,b5a,fun a h=>.inl h,fun a m=>?_⟩
 ·have:=k.le a o e
  rw[a0s (a1a this hn)];exact this
 ·rcases List.mem_cons.mp m with rfl|m
  ·exact k.le.free hn
  ·exact k.fr a m
 ·rw[a0s (a1a e hn)];exact e
 ·rcases List.mem_cons.mp m with rfl|m
  ·exact .inr hn
  ·exact .inl m
end
section
variable {X:Cx} {K:PySem.W.Frag} {m:List Bool} {scope:Scope} {M:List Str} {i:Nat} {x r:Str} {px p1 p2 p3 p4 spos pos:Pos}
theorem c6k{cap:List Nat}{k:Nat}(hk:0 < k)(ok:CompOk X scope M k cap)(hN:X.N.Nodup)(hix:X.N[i]?=some x)(hx:Loc X.env.scope x)(hi:PE X (.Name x p3) (tVar i))
  (hg:∀C s H fp,PG (a1k X scope M C s H fp) (.Name r p2) (gName 0)) (ht:∀C s H fp,PT (a1k X scope M C s H fp) (.Name r p4) (fun σ H Q=>tVar 0 σ H fun x H'=>∃k,TruV K x H' k∧Q k H')) (he:∀C s H fp,PE (a1k X scope M C s H fp) (.Name r p1) (tVar 0)) (hc:X.calm=true:=by rfl) (hm:(m[i]? == some true)=false:=by rfl)
  (hsw:swapsWith (.ListComp (.Name r p1) [⟨.Name r p2,.Name x p3,[.Name r p4],0⟩] scope pos) (some (.Name x px)) spos.line X.env=pure true:=by rfl)
  (hs:∀y,foldedSetIterable (.Name x p3) X.env y=pure y:=by intro _;rfl) (hf:X.fn x=true∨X.env.scope.names.lookup x=some .local := by first|exact .inl rfl|exact .inr rfl) (hK:X.K=K:=by rfl) :
  PS X (.Assign [.Name x px] (.ListComp (.Name r p1) [⟨.Name r p2,.Name x p3,[.Name r p4],0⟩] scope pos) spos) (tS K m (a9u i)):=by
 subst hK
 refine(c3s hc ok hN hix hx (b8i hi) hg (fun C s H fp=>c3r (ht C s H fp)) he hsw hs hf).mono fun D σ H tt=>?_
 obtain⟨F,A,Γ,fl,Γ',k0,e,w⟩:=tt
 unfold a9u at e
 split at e
 ·rename_i ps hΓ
  split at e
  case isFalse=>cases e
  rename_i hlen
  obtain⟨qs,e1,e2⟩:=Option.bind_eq_some_iff.mp e
  cases e2
  obtain⟨v,Ai,C,g1,g2,g3,g4⟩:=k0.os.take hΓ
  cases g2 with
  |@lst a ws _ Ap B0 _ _ hH ch tl=>
   have eB:B0=[]:=by cases tl;rfl
   subst eB
   rw[List.append_nil] at g4
   have hz:=ch.length
   rw[List.length_map,List.length_map] at hz
   obtain⟨t1,Aq,t2,t3⟩:=c9n ch e1
   refine⟨_,g1,a,rfl,⟨ws,SqL.of hH⟩,c6j (SqL.of hH) ?_ t1 ?_ fun l hn=>?_⟩
   ·omega
   ·unfold capS;rw[List.length_append,List.length_replicate];omega
   ·have sp:SubP (Aq++C) A:=(t3.app (SubP.refl C)).trans (SubP.trans (.of_sub (List.sublist_cons_self _ _)) (.of_perm g4.symm))
    obtain⟨k1,x1⟩:=k0.sub (t2.app g3) sp
    obtain⟨B5,k5,x5⟩:=d3n k1 (by have:=t2.length;rw[List.length_map,List.length_map] at this;exact this) hn
    obtain⟨B6,k6,x6⟩:=OK.store (σ:=σ) (Γ:=Γ.set i none) (i:=i) k5 (by rw[List.length_set];exact(List.getElem?_eq_some_iff.mp hΓ).1)
    rw[List.set_set] at k6
    exact w _ _ ⟨F,B6,(x1.trans x5).trans x6,k6,Kept.set hm⟩
 ·cases e
end
end L2
namespace L2
open PySem PySem.Spec PyProof.Rows
noncomputable def popTo (ps:List O) (n:Int):Option (Nat×O×List O):=(ixN ps.length n).bind fun j=>match ps[j]? with
 |some (.lst (q::qs))=>some (j,q,qs)
 |_=>none
section
variable {K:PySem.W.Frag} {F H:Hp} {σ:St} {Γ:Gm} {A:List Addr}
theorem d6g{ir il iw:Nat}{ps ls qs:List O}{q:O}{j:Nat}(k:OK K F H σ Γ A)(hr:Γ[ir]?=some (some (.lst ps)))(hl:Γ[il]?=some (some (.lst ls)))(hp:ps[j]?=some (.lst (q::qs)))(n1:ir≠il)(n2:iw≠ir)(n3:iw≠il)(hw:iw < Γ.length):
  ∃a ws p u us b vs,σ[ir]?=some (some (.ref a))∧H a=some (.lst ws)∧ws[j]?=some (.ref p)∧ws.length=ps.length∧H p=some (.lst (u::us))∧σ[il]?=some (some (.ref b))∧H b=some (.lst vs)∧vs.length=ls.length∧b≠p∧
   ∃A',OK K F (upd (upd H p (.lst us)) b (.lst (vs++[u]))) (σ.set iw (some (.ref p))) (((Γ.set ir (some (.lst (ps.set j (.lst qs))))).set il (some (.lst (ls++[q])))).set iw none) A'∧Ext F H A F (upd (upd H p (.lst us)) b (.lst (vs++[u]))) A':=by
 obtain⟨x,Ai,C,g1,g2,g3,g4⟩:=k.os.take hr
 obtain⟨y,Al,C2,f1,f2,f3,f4⟩:=g3.take (i:=il) (o:=.lst ls) (by rw[List.getElem?_set_ne n1];exact hl)
 cases g2 with
 |@lst a ws _ Ap B0 _ _ ha ch t0=>
  have eB:B0=[]:=by cases t0;rfl
  subst eB
  cases f2 with
  |@lst b vs _ Bp B1 _ _ hb cb t1=>
   have eB:B1=[]:=by cases t1;rfl
   subst eB
   obtain⟨w,Ac,B,c1,c2,c3,c4⟩:=b3y ch hp
   cases c2 with
   |@lst p vs' _ A1 B2 _ _ hpp cp t2=>
    have eB:B2=[]:=by cases t2;rfl
    subst eB
    cases vs' with
    |nil=>have:=cp.length;simp at this
    |cons u us=>
     obtain⟨Bq,Cq,d1,d2,d3⟩:=OwnL.one (σ:=us.map some) (Γ:=qs.map some) (x:=some u) (y:=some q) cp
     subst d3
     have hL:(a::(((p::(Bq++Cq))++B)++((b::Bp)++C2))).Perm A:=by
      refine .trans ?_ g4.symm
      rw[List.append_nil]
      refine(((List.Perm.append ?_ ?_)).cons a)
      ·refine .trans ?_ c3.symm
       rw[List.append_nil]
      ·refine .trans ?_ f4.symm
       rw[List.append_nil]
     have nd:=hL.nodup_iff.mpr k.nd
     have fr:∀z∈(a::(((p::(Bq++Cq))++B)++((b::Bp)++C2))),F z=none:=fun z m=>k.fr z (hL.mem_iff.mp m)
     have wl:ws.length=ps.length:=by have:=ch.length;simpa using this
     have vl:vs.length=ls.length:=by have:=cb.length;simpa using this
     have nbp:b≠p:=by
      rintro rfl
      simp[List.nodup_cons,List.nodup_append] at nd
     refine⟨a,ws,p,u,us,b,vs,g1,ha,c1,wl,hpp,f1,hb,vl,nbp,?_⟩
     have ne:∀z,(z=a∨z∈Bq∨z∈Cq∨z∈B∨z∈Bp∨z∈C2)→z≠p∧z≠b:=by
      intro z hz
      simp only[List.cons_append,List.nodup_cons,List.nodup_append,List.mem_cons,List.mem_append,not_or] at nd
      grind
     have kp:∀z o,z≠p→z≠b→H z=some o→upd (upd H p (.lst us)) b (.lst (vs++[u])) z=some o:=fun z o h1 h2 e=>by rw[a0s h2,a0s h1];exact e
     have kq:∀z,(z=a∨z∈Bq∨z∈Cq∨z∈B∨z∈Bp∨z∈C2)→∀o,H z=some o→upd (upd H p (.lst us)) b (.lst (vs++[u])) z=some o:=fun z m o e=>kp z o (ne z m).1 (ne z m).2 e
     have e1:OwnL K F (upd (upd H p (.lst us)) b (.lst (vs++[u]))) [some (.ref p)] [some (.lst qs)] (p::Cq++[]):=.lst (by rw[a0s (Ne.symm nbp),a1g]) (d2.keep (Same.refl _) fun z m=>kq z (.inr (.inr (.inl m)))) .nil
     obtain⟨D,e2,e3⟩:=c4 F (upd (upd H p (.lst us)) b (.lst (vs++[u]))) (.lst qs) _ (Same.refl _) (fun z m=>kq z (.inr (.inr (.inr (.inl m))))) e1
     have e4:OwnL K F (upd (upd H p (.lst us)) b (.lst (vs++[u]))) [some (.ref a)] [some (.lst (ps.set j (.lst qs)))] (a::D++[]):=.lst (kq a (.inl rfl) _ ha) e2 .nil
     have e5:OwnL K F (upd (upd H p (.lst us)) b (.lst (vs++[u]))) ((vs++[u]).map some) ((ls++[q]).map some) (Bp++Bq):=by
      rw[List.map_append,List.map_append]
      exact(cb.keep (Same.refl _) fun z m=>kq z (.inr (.inr (.inr (.inr (.inl m)))))).app (d1.keep (Same.refl _) fun z m=>kq z (.inr (.inl m)))
     have e6:OwnL K F (upd (upd H p (.lst us)) b (.lst (vs++[u]))) [some (.ref b)] [some (.lst (ls++[q]))] (b::(Bp++Bq)++[]):=.lst a1g e5 .nil
     have e7:OwnL K F (upd (upd H p (.lst us)) b (.lst (vs++[u]))) σ ((Γ.set ir none).set il none) C2:=f3.keep (Same.refl _) fun z m=>kq z (.inr (.inr (.inr (.inr (.inr m)))))
     have lir:ir < ((Γ.set ir none).set il none).length:=by rw[List.length_set,List.length_set];exact(List.getElem?_eq_some_iff.mp hr).1
     obtain⟨D1,e8,S1,p1,s1⟩:=OwnL.put e4 ir e7 lir
     rw[a4j g1] at e8
     obtain⟨D2,e9,S2,p2,s2⟩:=OwnL.put e6 il e8 (by rw[List.length_set,List.length_set,List.length_set];exact(List.getElem?_eq_some_iff.mp hl).1)
     rw[a4j f1] at e9
     obtain⟨D3,e10,s3⟩:=OwnL.forget iw e9
     have eΓ:((((Γ.set ir none).set il none).set ir (some (.lst (ps.set j (.lst qs))))).set il (some (.lst (ls++[q]))))=(Γ.set ir (some (.lst (ps.set j (.lst qs))))).set il (some (.lst (ls++[q]))):=by
      rw[List.set_comm _ _ (Ne.symm n1),List.set_set,List.set_set]
     rw[eΓ] at e10
     have e11:=OwnL.loose (v:=some (.ref p)) (i:=iw) e10 (by rw[List.getElem?_set_self (by simp[hw])])
     have sub:SubP D3 (a::(((p::(Bq++Cq))++B)++((b::Bp)++C2))):=by
      have a1:SubP D3 ((b::(Bp++Bq))++S2):=(SubP.of_sub s3).trans (by rw[List.append_nil] at p2;exact .of_perm p2)
      have a2:SubP S2 (([a]++D)++S1):=(SubP.of_sub s2).trans (by rw[List.append_nil] at p1;exact .of_perm p1)
      have a3:SubP S2 (([a]++((p::Cq)++B))++C2):=a2.trans (((SubP.refl [a]).app (by rw[List.append_nil] at e3;exact e3)).app (.of_sub s1))
      refine(a1.trans ((SubP.refl _).app a3)).trans (.of_perm (List.perm_iff_count.2 fun z=>?_))
      simp only[List.count_append,List.count_cons,List.count_nil]
      omega
     have nd3:=sub.nodup nd
     refine⟨D3,⟨fun z o e=>?_,e11,nd3,fun z m=>fr z (sub.mem z m)⟩,Same.refl _,fun z o e m=>?_,fun z h=>?_,fun z h=>.inl h,fun z m=>.inl (hL.mem_iff.mp (sub.mem z m))⟩
     ·refine kp z o ?_ ?_ (k.le z o e)
      ·rintro rfl;rw[fr z (by simp)] at e;cases e
      ·rintro rfl;rw[fr z (by simp)] at e;cases e
     ·refine kp z o ?_ ?_ e
      ·rintro rfl;exact m (hL.mem_iff.mp (by simp))
      ·rintro rfl;exact m (hL.mem_iff.mp (by simp))
     ·by_cases z2:z=b
      ·subst z2;rw[a1g];simp
      ·rw[a0s z2]
       by_cases z1:z=p
       ·subst z1;rw[a1g];simp
       ·rw[a0s z1];exact h
end
noncomputable def b2v (fe:GE) (ir il iw:Nat):GS:=fun Γ=>match Γ[ir]? with
 |some (some _)=>(fe Γ).bind fun p=>match p.1,p.2[ir]?,p.2[il]? with
  |.own (.frz (.int n)),some (some (.lst ps)),some (some (.lst ls))=>if ls.length < 1000∧iw < p.2.length then(popTo ps n).bind fun z=>some (.nx,((p.2.set ir (some (.lst (ps.set z.1 (.lst z.2.2))))).set il (some (.lst (ls++[z.2.1])))).set iw none) else none
  |_,_,_=>none
 |_=>none
section
variable {X:Cx} {K:PySem.W.Frag} {m:List Bool} {fe:GE} {ir il iw:Nat} {x y w:Str} {e:Expr} {rest:List Stmt} {f:GS} {p0 p1 p2 p3 p4 p5 a1 a2 c1 c2 s1 s2:Pos}
theorem c9o(hN:X.N.Nodup)(hw:X.N[iw]?=some w)(hx:Loc X.env.scope w)(vx:PE X (.Name x p1) (tVar ir))(vy:PE X (.Name y p3) (tVar il))(vw:PE X (.Name w p4) (tVar iw))(he:PE X e (tG K fe))(hr:PSs X rest (tS K m f))(n1:(ir == il)=false)(n2:(iw == ir)=false)(n3:(iw == il)=false)(hm:(m[iw]? == some true)=false:=by rfl)
  (hpi:b4l e:=by exact fun _ _=>rfl) (hs:swapsWith (.Subscript (.Name x p1) e p2) (some (.Name w p0)) s1.line X.env=pure false:=by rfl) (hf:X.fn w=true∨X.env.scope.names.lookup w=some .local := by first|exact .inl rfl|exact .inr rfl) (hK:X.K=K:=by rfl)
  (hA:PE X (.Call (.Attribute (.Name w p4) "pop" a2) [.Constant (.int 0) 0 p5] [] c2) (tBM X.K "list" c3n (tVar iw) (tCons (tC (.int 0)) tNil)))
  (hB:PS X (.Expr (.Call (.Attribute (.Name y p3) "append" a1) [.Call (.Attribute (.Name w p4) "pop" a2) [.Constant (.int 0) 0 p5] [] c2] [] c1) s2) (tDrop (tBM X.K "list" b8n (tVar il) (tCons (tBM X.K "list" c3n (tVar iw) (tCons (tC (.int 0)) tNil)) tNil)))) :
  PSs X (.Assign [.Name w p0] (.Subscript (.Name x p1) e p2) s1::.Expr (.Call (.Attribute (.Name y p3) "append" a1) [.Call (.Attribute (.Name w p4) "pop" a2) [.Constant (.int 0) 0 p5] [] c2] [] c1) s2::rest) (tS K m (a0e (b2v fe ir il iw) f)):=by
 subst hK
 refine(b4j (d0m hN hw hx (d2h c3m vx he hpi) hs hf) (b4j hB hr)).mono fun D σ H tt=>?_
 obtain⟨F,A,Γ,fl,Γ',k,e,w⟩:=tt
 obtain⟨⟨fl1,Γ2⟩,q,e⟩:=Option.bind_eq_some_iff.mp e
 unfold b2v at q
 split at q
 ·rename_i o0 hΓ
  obtain⟨⟨r,Γ1⟩,q1,q⟩:=Option.bind_eq_some_iff.mp q
  dsimp only at q
  split at q
  ·rename_i n ps ls hr1 hl1
   split at q
   case isFalse=>cases q
   rename_i hc
   obtain⟨⟨j,qo,qs⟩,z1,z2⟩:=Option.bind_eq_some_iff.mp q
   cases z2
   obtain⟨j',y1,y2⟩:=Option.bind_eq_some_iff.mp z1
   split at y2
   ·rename_i q' qs' hj
    cases y2
    obtain⟨v,_,_,g1,_⟩:=k.os.take hΓ
    refine⟨v,g1,F,A,Γ,_,Γ1,k,q1,fun u H1 pp=>?_⟩
    obtain⟨F1,A1,x1,k1,hh⟩:=pp
    obtain⟨rfl,h2⟩:=a7l (σ:=σ) (Γ:=Γ1) k1.os
    obtain⟨k2,_⟩:=k1.sub h2 (SubP.refl _)
    obtain⟨a,ws,p,u,us,b,vs,t1,t2,t3,t4,t5,t6,t7,t8,t9,A',k3,x3⟩:=d6g k2 hr1 hl1 hj (by simpa using n1) (by simpa using n2) (by simpa using n3) hc.2
    rw[g1] at t1
    cases t1
    have hiw:iw < σ.length:=by have:=k2.os.length;omega
    refine⟨a,ws,n,.ref p,rfl,rfl,SqL.of t2,?_,?_⟩
    ·unfold atI;rw[t4,y1,Option.bind_some];exact t3
    ·refine⟨.ref b,by rw[List.getElem?_set_ne (by simpa using n3)];exact t6,.inl ⟨rfl,_,SqL.of t7⟩,.ref p,by rw[List.getElem?_set_self hiw],.inl ⟨rfl,_,SqL.of t5⟩,?_⟩
     refine⟨p,_,0,0,u,rfl,rfl,t5,by decide,by decide,?_,rfl,?_⟩
     ·unfold seqIndex?;simp
     ·refine⟨b,vs,u,rfl,rfl,by rw[a0s t9];exact t7,by rw[t8,sizeLine_eq];omega,?_⟩
      exact⟨F1,A',_,fl,Γ',k3,e,w.step (x1.trans x3) (Kept.set hm)⟩
   ·cases y2
  ·cases q
 ·cases q
end
end L2
namespace L2
open PySem PySem.Spec PyProof.Rows
theorem c1g{X:Cx}{K:PySem.W.Frag}{a b c d e f:Expr}{es:List Expr}{fa fb fc fd fe ff:GE}{fs:GA}(h1:PE X a (tG K fa))(h2:PE X b (tG K fb))(h3:PE X c (tG K fc))(h4:PE X d (tG K fd))(h5:PE X e (tG K fe))(h6:PE X f (tG K ff))(hr:PA X es (tGA K fs))
  (s1:starEach (a::b::c::d::e::f::es) X.env=(false,eval a X.env)::starEach (b::c::d::e::f::es) X.env:=by rfl) (s2:starEach (b::c::d::e::f::es) X.env=(false,eval b X.env)::starEach (c::d::e::f::es) X.env:=by rfl)
  (s3:starEach (c::d::e::f::es) X.env=(false,eval c X.env)::starEach (d::e::f::es) X.env:=by rfl) (s4:starEach (d::e::f::es) X.env=(false,eval d X.env)::starEach (e::f::es) X.env:=by rfl)
  (s5:starEach (e::f::es) X.env=(false,eval e X.env)::starEach (f::es) X.env:=by rfl) (s6:starEach (f::es) X.env=(false,eval f X.env)::starEach es X.env:=by rfl) :
  PA X (a::b::c::d::e::f::es) (tGA K (a0a fa (a0a fb (a0a fc (a0a fd (a0a fe (a0a ff fs))))))):=a0b h1 (a0b h2 (a0b h3 (a0b h4 (a0b h5 (a0b h6 hr s6) s5) s4) s3) s2) s1
end L2
namespace L2
open PySem PySem.Spec PyProof.Rows
noncomputable def gTruP (i:Nat) (π:List Nat):GT:=fun Γ=>match Γ[i]? with
 |some (some o)=>(setP (fun c=>(truO c).map fun b=>(c,.frz (.bl b))) o π).bind fun z=>match z.2 with
  |.frz (.bl b)=>some (b,Γ)
  |_=>none
 |_=>none
theorem d3o{X:Cx}{K:PySem.W.Frag}{a:Expr}{i:Nat}{π:List Nat}(ha:PE X a (tPath K i π))(he:∀whole,isTrue a X.env whole=(do let v ←whole;standAt a.pos;holding [v] (truthy v)):=by exact fun _=>rfl)(hK:X.K=K:=by rfl):PT X a (tGT K (gTruP i π)):=
 (b6q K ha he hK).mono fun σ H Q t=>by
  obtain⟨F,A,Γ,b,Γ',k,e,w⟩:=t
  unfold gTruP at e
  split at e
  ·rename_i o hΓ
   obtain⟨z,q,e⟩:=Option.bind_eq_some_iff.mp e
   split at e
   ·rename_i b' hz
    cases e
    obtain⟨x,Ai,C,g1,g2,g3,g4⟩:=k.os.take hΓ
    have nd:(Ai++C).Nodup:=g4.nodup_iff.mp k.nd
    obtain⟨o',res⟩:=z
    dsimp only at hz
    subst hz
    obtain⟨v,c,c',Ac,B,k1,k2,_,k4,_,_⟩:=b2j g2 (List.nodup_append.mp nd).1 q
    dsimp only at k4
    cases q3:truO c with
    |none=>rw[q3] at k4;cases k4
    |some b2=>
     rw[q3] at k4
     cases k4
     exact⟨x,v,g1,k1,_,c4a k.le k2 q3,w H ⟨F,A,Ext.refl,by simpa using k,True.intro⟩⟩
   ·cases e
  ·cases e
end L2
namespace L2
theorem a2m{A:PySem.Around}{k:Nat}(hr:Room k A):A.units+41 < PySem.cLine:=Nat.lt_of_le_of_lt (Nat.add_le_add_left (by decide:41≤64) _) hr.units
end L2
namespace Carry
open PySem L2
seal PE PA PT PS PSs
noncomputable def top (i:Nat):Stmt:=PySem.Challenge.pw_carry_k08_houses_read.main.body.getD i (.Pass ⟨0,0,0,0⟩)
noncomputable abbrev a7s:Stmt:=top 10
noncomputable abbrev a5c:Stmt:=top 12
noncomputable abbrev a5d:Stmt:=top 13
noncomputable abbrev a5e:Stmt:=top 14
noncomputable abbrev a7c:Stmt:=top 15
noncomputable abbrev a5y:Stmt:=top 16
noncomputable abbrev a5z:Stmt:=top 17
noncomputable abbrev a4p:Stmt:=top 18
noncomputable abbrev a7t:Stmt:=top 19
noncomputable abbrev a6a:Stmt:=top 23
noncomputable abbrev a4l:Stmt:=top 24
noncomputable abbrev a4m:Stmt:=top 25
noncomputable abbrev a5k:Stmt:=top 26
noncomputable abbrev b1k:Stmt:=top 28
noncomputable abbrev b1l:Stmt:=top 29
noncomputable abbrev b1m:Stmt:=top 30
noncomputable abbrev a9v:Stmt:=top 31
noncomputable abbrev a6m:Stmt:=top 32
noncomputable abbrev a5l:Stmt:=top 33
noncomputable abbrev a9w:Stmt:=top 34
noncomputable abbrev c9p:Stmt:=top 35
noncomputable abbrev Adr:=Nat→Addr×FuncData
structure Txt (K:PySem.W.Frag) (mg:Str→Option Value) (t:Adr):Prop where
 F_is_name:DefAt K mg "is_name" a7s (t 0).1 (t 0).2 ["thing"]
 F_right_house:DefAt K mg "right_house" a5c (t 1).1 (t 1).2 ["house"]
 F_check_carts:DefAt K mg "check_carts" a5d (t 2).1 (t 2).2 ["carts","taken"]
 F_check_belts:DefAt K mg "check_belts" a5e (t 3).1 (t 3).2 ["belts","taken"]
 F_take_name:DefAt K mg "take_name" a7c (t 4).1 (t 4).2 ["name","taken"]
 F_check_outs:DefAt K mg "check_outs" a5y (t 5).1 (t 5).2 ["belts","carts"]
 F_check_hand:DefAt K mg "check_hand" a5z (t 6).1 (t 6).2 ["house"]
 F_belt_names:DefAt K mg "belt_names" a4p (t 7).1 (t 7).2 ["belts"]
 F_reached:DefAt K mg "reached" a7t (t 8).1 (t 8).2 ["house","belt"]
 F_read_house:DefAt K mg "read_house" a6a (t 9).1 (t 9).2 ["text"]
 F_is_belt_line:DefAt K mg "is_belt_line" a4l (t 10).1 (t 10).2 ["words"]
 F_is_cart_line:DefAt K mg "is_cart_line" a4m (t 11).1 (t 11).2 ["words"]
 F_is_number:DefAt K mg "is_number" a5k (t 12).1 (t 12).2 ["word"]
 F_l_feed:DefAt K mg "_law_feed" b1k (t 13).1 (t 13).2 ["_law_script"]
 F_l_draw:DefAt K mg "_law_draw" b1l (t 14).1 (t 14).2 ["_law_feed_here","_law_many"]
 F_l_name:DefAt K mg "_law_name" b1m (t 15).1 (t 15).2 ["_law_feed_here","_law_k"]
 F_l_outs:DefAt K mg "_law_outs" a9v (t 16).1 (t 16).2 ["_law_feed_here","_law_later","_law_carts"]
 F_l_house:DefAt K mg "_law_house" a6m (t 17).1 (t 17).2 ["_law_feed_here"]
 F_l_mixed:DefAt K mg "_law_mixed" a5l (t 18).1 (t 18).2 ["_law_feed_here","_law_house_here"]
 F_l_alike:DefAt K mg "_law_alike" a9w (t 19).1 (t 19).2 ["_law_found","_law_due"]
 F_law:DefAt K mg "law" c9p (t 20).1 (t 20).2 ["_law_script"]
 b_len:mg "len"=none
 b_isinstance:mg "isinstance"=none
 b_int:mg "int"=none
 b_bool:mg "bool"=none
 b_str:mg "str"=none
 b_list:mg "list"=none
 b_tuple:mg "tuple"=none
 b_range:mg "range"=none
 b_enumerate:mg "enumerate"=none
 b_all:mg "all"=none
 c_LETTERS:∃t,mg "LETTERS"=some (.str "abcdefghijklmnopqrstuvwxyz" t)
 c_FIGURES:∃t,mg "FIGURES"=some (.str "0123456789" t)
 c_MOST_LETTERS:∃t,mg "MOST_LETTERS"=some (.int 8 t)
 c_MOST_FIGURES:∃t,mg "MOST_FIGURES"=some (.int 9 t)
end Carry
namespace Carry
open PySem L2
seal PE PA PT PS PSs
section
variable {P:Program} {w:World} {K:PySem.W.Frag} {mg:Str→Option Value} {base:Heap} {t:Adr}
theorem c2m:FnScope ["thing"] ["thing"] (a0l a7s):=⟨rfl,rfl,rfl,by decide +kernel,rfl,by decide +kernel,by decide +kernel⟩
noncomputable def b7v:GS:=(a0e (gsIf (gNotT (gTru (gOp oIsi (a0a (gVar 0) (a0a (gC (.ty "str")) gaNil)))))
  (gsRet (gC (.bl false)))
  gsNil)
 (a0e (gsIf (gNotT (c1a (fun i j=>decide (i≤j)) (fun i j=>decide (i≤j)) (gC (.int 1)) (gOp oLen (a0a (gVar 0) gaNil)) (gC (.int 8))))
  (gsRet (gC (.bl false)))
  gsNil)
 (gsRet (gOp (c0y fun bs=>bs.all id) (a0a (a4b (srcS (gVar 0)) (a0i 0) gYes (gBin (oInG false) (gVar 0) (gC (.str "abcdefghijklmnopqrstuvwxyz"))) 1 []) gaNil)))))
noncomputable def a3x:GM:=runM 1 [false] b7v
theorem c2n(T:Txt K mg t):FnOk P w K mg base CX0 1 (t 0).1 (t 0).2 ["thing"] (SpM K 1 a3x):=
 a3n (k:=0) [false] b7v T.F_is_name.fn c2m rfl rfl (by decide) fun cdv A outer s H E hr=>(by
  have hu:=a6c hr
  have hu40:=a2i hr
  have hu41:=a2m hr
  exact⟨_,(a0h (a3z (b0w (a5p (a0w (a2r K) a6l T.b_isinstance a6j (a0b (a0c (pv 0)) (a0b (a0u (d:=.ty "str") (b0d (by rfl) T.b_str c0a)) a0f)))))
   (a0r (a2d (a0u (d:=.bl false) a9y)))
   a2t)
   (a0h (a3z (b0w (c1b c8a c8a (a0u (d:=.int 1) a0g) (a0w (a1s K) a4y T.b_len a4w (a0b (a0c (pv 0)) a0f)) (a0u (d:=(.int 8)) (b7q (by rfl) T.c_MOST_LETTERS))))
   (a0r (a2d (a0u (d:=.bl false) a9y)))
   a2t)
   (a0r (a2d (a0w (b7p K) (c0z _) T.b_all d0r (a0b (a8x c5b (k:=1) (cap:=[]) a1c (M:=["sign"]) (CompOk.of (a0l a7s).names ["thing"] (by decide +kernel)) (d0q (a0c (pv 0)))
    (fun _ _ _ _=>(a1b (i:=0) (show List.Nodup (["sign"]:List Str) by decide +kernel) rfl (Or.inl rfl))) (fun _ _ _ _=>b0j) (fun _ _ _ _=>(a5o (b0z K (by exact hu41)) (b0i false) (a0c (pv 0)) (a0u (d:=(.str "abcdefghijklmnopqrstuvwxyz")) (b7r (by rfl) T.c_LETTERS))))) a0f)))))),rfl⟩)
end
end Carry
namespace Carry
open PySem L2
seal PE PA PT PS PSs
section
variable {P:Program} {w:World} {K:PySem.W.Frag} {mg:Str→Option Value} {base:Heap} {t:Adr}
theorem b5i:FnScope ["belts"] ["belts"] (a0l a4p):=⟨rfl,rfl,rfl,by decide +kernel,rfl,by decide +kernel,by decide +kernel⟩
noncomputable def a7u:GS:=(gsRet (a4b (srcL (gVar 0)) (a0i 0) gYes (gBin oIx (gVar 0) (gC (.int 0))) 1 []))
noncomputable def a1x:GM:=runM 1 [false] a7u
theorem b5j(T:Txt K mg t):FnOk P w K mg base CX0 1 (t 7).1 (t 7).2 ["belts"] (SpM K 1 a1x):=
 a3n (k:=0) [false] a7u T.F_belt_names.fn b5i rfl rfl (by decide) fun cdv A outer s H E hr=>(by
  have hu:=a6c hr
  have hu40:=a2i hr
  have hu41:=a2m hr
  exact⟨_,(a0r (a2d (a8x b5b (k:=1) (cap:=[]) a1c (M:=["belt"]) (CompOk.of (a0l a4p).names ["belts"] (by decide +kernel)) (a9d K (a2n (a0c (pv 0))))
    (fun _ _ _ _=>(a1b (i:=0) (show List.Nodup (["belt"]:List Str) by decide +kernel) rfl (Or.inl rfl))) (fun _ _ _ _=>b0j) (fun _ _ _ _=>(a1p (a4u K (by exact hu41)) a1r (a0c (pv 0)) (a0u (d:=.int 0) a0g)))))),rfl⟩)
end
end Carry
namespace Carry
open PySem L2
seal PE PA PT PS PSs
section
variable {P:Program} {w:World} {K:PySem.W.Frag} {mg:Str→Option Value} {base:Heap} {t:Adr}
theorem b2w:FnScope ["words"] ["words"] (a0l a4m):=⟨rfl,rfl,rfl,by decide +kernel,rfl,by decide +kernel,by decide +kernel⟩
noncomputable def a6h:GS:=(gsRet (gAndV (gBin oEq (gOp oLen (a0a (gVar 0) gaNil)) (gC (.int 2))) (gAndV (gBin (oInG true) (gC (.str "")) (gVar 0)) (gBin oEq (gBin oIx (gVar 0) (gC (.int 0))) (gC (.str "cart"))))))
noncomputable def a3a:GM:=runM 1 [false] a6h
theorem b2x(T:Txt K mg t):FnOk P w K mg base CX0 1 (t 11).1 (t 11).2 ["words"] (SpM K 1 a3a):=
 a3n (k:=0) [false] a6h T.F_is_cart_line.fn b2w rfl rfl (by decide) fun cdv A outer s H E hr=>(by
  have hu:=a6c hr
  have hu40:=a2i hr
  have hu41:=a2m hr
  exact⟨_,(a0r (a2d (b1w (a5o (a5g K (by exact hu40)) a8v (a0w (a1s K) a4y T.b_len a4w (a0b (a0c (pv 0)) a0f)) (a0u (d:=.int 2) a0g)) (b1w (a5o (a7m K (by exact hu41)) (b0i true) (a0u (d:=.str "") a1d) (a0c (pv 0))) (c0g (a5o (a5g K (by exact hu40)) a8v (a1p (a4u K (by exact hu41)) a1r (a0c (pv 0)) (a0u (d:=.int 0) a0g)) (a0u (d:=.str "cart") a1d))))))),rfl⟩)
end
end Carry
namespace Carry
open PySem L2
seal PE PA PT PS PSs
section
variable {P:Program} {w:World} {K:PySem.W.Frag} {mg:Str→Option Value} {base:Heap} {t:Adr}
theorem b7w:FnScope ["word"] ["word"] (a0l a5k):=⟨rfl,rfl,rfl,by decide +kernel,rfl,by decide +kernel,by decide +kernel⟩
noncomputable def b2y:GS:=(a0e (gsIf (gNotT (c1a (fun i j=>decide (i≤j)) (fun i j=>decide (i≤j)) (gC (.int 1)) (gOp oLen (a0a (gVar 0) gaNil)) (gC (.int 9))))
  (gsRet (gC (.bl false)))
  gsNil)
 (a0e (gsIf (gAndT (gT (gBin oEq (gBin oIx (gVar 0) (gC (.int 0))) (gC (.str "0")))) (gT (gBin oNeA (gVar 0) (gC (.str "0")))))
  (gsRet (gC (.bl false)))
  gsNil)
 (gsRet (gOp (c0y fun bs=>bs.all id) (a0a (a4b (srcS (gVar 0)) (a0i 0) gYes (gBin (oInG false) (gVar 0) (gC (.str "0123456789"))) 1 []) gaNil)))))
noncomputable def a5m:GM:=runM 1 [false] b2y
theorem b7x(T:Txt K mg t):FnOk P w K mg base CX0 1 (t 12).1 (t 12).2 ["word"] (SpM K 1 a5m):=
 a3n (k:=0) [false] b2y T.F_is_number.fn b7w rfl rfl (by decide) fun cdv A outer s H E hr=>(by
  have hu:=a6c hr
  have hu40:=a2i hr
  have hu41:=a2m hr
  exact⟨_,(a0h (a3z (b0w (c1b c8a c8a (a0u (d:=.int 1) a0g) (a0w (a1s K) a4y T.b_len a4w (a0b (a0c (pv 0)) a0f)) (a0u (d:=(.int 9)) (b7q (by rfl) T.c_MOST_FIGURES))))
   (a0r (a2d (a0u (d:=.bl false) a9y)))
   a2t)
   (a0h (a3z (PW.pt (d0u (a3g (a5g K (by exact hu40)) a8v (a1p (a4u K (by exact hu41)) a1r (a0c (pv 0)) (a0u (d:=.int 0) a0g)) (a0u (d:=.str "0") a1d)) (c4b (a3g (c0t K (by exact hu40)) c0u (a0c (pv 0)) (a0u (d:=.str "0") a1d)))))
   (a0r (a2d (a0u (d:=.bl false) a9y)))
   a2t)
   (a0r (a2d (a0w (b7p K) (c0z _) T.b_all d0r (a0b (a8x c5b (k:=1) (cap:=[]) a1c (M:=["sign"]) (CompOk.of (a0l a5k).names ["word"] (by decide +kernel)) (d0q (a0c (pv 0)))
    (fun _ _ _ _=>(a1b (i:=0) (show List.Nodup (["sign"]:List Str) by decide +kernel) rfl (Or.inl rfl))) (fun _ _ _ _=>b0j) (fun _ _ _ _=>(a5o (b0z K (by exact hu41)) (b0i false) (a0c (pv 0)) (a0u (d:=(.str "0123456789")) (b7r (by rfl) T.c_FIGURES))))) a0f)))))),rfl⟩)
end
end Carry
namespace Carry
open PySem L2
seal PE PA PT PS PSs
section
variable {P:Program} {w:World} {K:PySem.W.Frag} {mg:Str→Option Value} {base:Heap} {t:Adr}
theorem sc_l_feed:FnScope ["_law_script","_law_cells"] ["_law_script"] (a0l b1k):=⟨rfl,rfl,rfl,by decide +kernel,rfl,by decide +kernel,by decide +kernel⟩
noncomputable def b5k:GS:=(a0e (gsSet 1 (gFrz (gBin oAdd (a7p (gVar 0) a9j (a8p (gC (.int 2)))) (gSeq .lst (a0a (gC (.int 0)) (a0a (gC (.int 0)) gaNil))))))
 (gsRet (gSeq .lst (a0a (gFrz (a7p (gVar 0) a9j (a8p (gC (.int 120))))) (a0a (gC (.int 0)) (a0a (gC (.int 0)) (a0a (gBin oMod (gBin oIx (gVar 1) (gC (.int 0))) (gC (.int 2))) (a0a (gBin oIx (gVar 1) (gC (.int 1))) gaNil))))))))
noncomputable def a8i:GM:=runM 2 [false] b5k
theorem c6l(T:Txt K mg t):FnOk P w K mg base CX0 1 (t 13).1 (t 13).2 ["_law_script"] (SpM K 1 a8i):=
 a3n (k:=0) [false] b5k T.F_l_feed.fn sc_l_feed rfl rfl (by decide) fun cdv A outer s H E hr=>(by
  have hu:=a6c hr
  have hu40:=a2i hr
  have hu41:=a2m hr
  exact⟨_,(a0h (a1q (i:=1) sc_l_feed.nd rfl (Or.inl rfl) (a2n (a2e (a2k K) a3o (a9k (a0c (pv 0)) b2h (b2i (a0u (d:=.int 2) a0g))) (a4x (a0b (a0u (d:=.int 0) a0g) (a0b (a0u (d:=.int 0) a0g) a0f))))))
   (a0r (a2d (a4x (a0b (a2n (a9k (a0c (pv 0)) b2h (b2i (a0u (d:=.int 120) a0g)))) (a0b (a0u (d:=.int 0) a0g) (a0b (a0u (d:=.int 0) a0g) (a0b (a2e a8k a8o (a1p (a4u K (by exact hu41)) a1r (a0c (pv 1)) (a0u (d:=.int 0) a0g)) (a0u (d:=.int 2) a0g)) (a0b (a1p (a4u K (by exact hu41)) a1r (a0c (pv 1)) (a0u (d:=.int 1) a0g)) a0f))))))))),rfl⟩)
end
end Carry
namespace Carry
open PySem L2
seal PE PA PT PS PSs
section
variable {P:Program} {w:World} {K:PySem.W.Frag} {mg:Str→Option Value} {base:Heap} {t:Adr}
theorem sc_l_draw:FnScope ["_law_feed_here","_law_many","_law_found","_law_at","_law_cell"] ["_law_feed_here","_law_many"] (a0l b1l):=⟨rfl,rfl,rfl,by decide +kernel,rfl,by decide +kernel,by decide +kernel⟩
noncomputable def b5l:GS:=(a0e (gsIf (gT (gBin oEq (gBin oIx (gVar 0) (gC (.int 3))) (gC (.int 1))))
  (a0e (gsSet 2 (gBin oMod (gBin oIx (gVar 0) (gC (.int 4))) (gVar 1)))
 (a0e (gsPut (gBin oFdiv (gBin oIx (gVar 0) (gC (.int 4))) (gVar 1)) (gVar 0) (gC (.int 4)))
 (gsRet (gVar 2))))
  gsNil)
 (a0e (gsSet 3 (gBin oIx (gVar 0) (gC (.int 1))))
 (a0e (gsPut (gFrz (gBin oAdd (gVar 3) (gC (.int 1)))) (gVar 0) (gC (.int 1)))
 (a0e (gsSet 4 (gVar 3))
 (a0e (gsIf (gT (gBin oGt (gOp oLen (a0a (gBin oIx (gVar 0) (gC (.int 0))) gaNil)) (gC (.int 0))))
  (gsSet 4 (gFrz (gBin oAdd (gBin oIx (gBin oIx (gVar 0) (gC (.int 0))) (gBin oMod (gVar 3) (gOp oLen (a0a (gBin oIx (gVar 0) (gC (.int 0))) gaNil)))) (gBin oMulA (gBin oFdiv (gVar 3) (gOp oLen (a0a (gBin oIx (gVar 0) (gC (.int 0))) gaNil))) (gC (.int 31))))))
  gsNil)
 (gsRet (gBin oMod (gBin oMod (gBin oMulA (gBin oMod (gBin oAdd (gBin oMulA (gVar 4) (gC (.int 48271))) (gBin oMulA (gC (.int 31)) (gVar 3))) (gC (.int 1000003))) (gC (.int 69621))) (gC (.int 999983))) (gVar 1))))))))
noncomputable def a0y:GM:=runM 5 [true,false] b5l
theorem c6m(T:Txt K mg t):FnOk P w K mg base CX0 1 (t 14).1 (t 14).2 ["_law_feed_here","_law_many"] (SpM K 2 a0y):=
 a3n (k:=0) [true,false] b5l T.F_l_draw.fn sc_l_draw rfl rfl (by decide) fun cdv A outer s H E hr=>(by
  have hu:=a6c hr
  have hu40:=a2i hr
  have hu41:=a2m hr
  exact⟨_,(a0h (a3z (a3g (a5g K (by exact hu40)) a8v (a1p (a4u K (by exact hu41)) a1r (a0c (pv 0)) (a0u (d:=.int 3) a0g)) (a0u (d:=.int 1) a0g))
   (a0h (a1q (i:=2) sc_l_draw.nd rfl (Or.inl rfl) (a2e a8k a8o (a1p (a4u K (by exact hu41)) a1r (a0c (pv 0)) (a0u (d:=.int 4) a0g)) (a0c (pv 1))))
   (a0h (b7e (a2e b8j b8w (a1p (a4u K (by exact hu41)) a1r (a0c (pv 0)) (a0u (d:=.int 4) a0g)) (a0c (pv 1))) (a0c (pv 0)) (a0u (d:=.int 4) a0g) (by exact hu41))
   (a0r (a2d (a0c (pv 2))))))
   a2t)
   (a0h (a1q (i:=3) sc_l_draw.nd rfl (Or.inl rfl) (a1p (a4u K (by exact hu41)) a1r (a0c (pv 0)) (a0u (d:=.int 1) a0g)))
   (a0h (b7e (a2n (a2e (a2k K) a3o (a0c (pv 3)) (a0u (d:=.int 1) a0g))) (a0c (pv 0)) (a0u (d:=.int 1) a0g) (by exact hu41))
   (a0h (a1q (i:=4) sc_l_draw.nd rfl (Or.inl rfl) (a0c (pv 3)))
   (a0h (a3z (a3g d4y d5t (a0w (a1s K) a4y T.b_len a4w (a0b (a1p (a4u K (by exact hu41)) a1r (a0c (pv 0)) (a0u (d:=.int 0) a0g)) a0f)) (a0u (d:=.int 0) a0g))
   (a0r (a1q (i:=4) sc_l_draw.nd rfl (Or.inl rfl) (a2n (a2e (a2k K) a3o (a1p (a4u K (by exact hu41)) a1r (a1p (a4u K (by exact hu41)) a1r (a0c (pv 0)) (a0u (d:=.int 0) a0g)) (a2e a8k a8o (a0c (pv 3)) (a0w (a1s K) a4y T.b_len a4w (a0b (a1p (a4u K (by exact hu41)) a1r (a0c (pv 0)) (a0u (d:=.int 0) a0g)) a0f)))) (a2e a8u b2b (a2e b8j b8w (a0c (pv 3)) (a0w (a1s K) a4y T.b_len a4w (a0b (a1p (a4u K (by exact hu41)) a1r (a0c (pv 0)) (a0u (d:=.int 0) a0g)) a0f))) (a0u (d:=.int 31) a0g))))))
   a2t)
   (a0r (a2d (a2e a8k a8o (a2e a8k a8o (a2e a8u b2b (a2e a8k a8o (a2e (a2k K) a3o (a2e a8u b2b (a0c (pv 4)) (a0u (d:=.int 48271) a0g)) (a2e a8u b2b (a0u (d:=.int 31) a0g) (a0c (pv 3)))) (a0u (d:=.int 1000003) a0g)) (a0u (d:=.int 69621) a0g)) (a0u (d:=.int 999983) a0g)) (a0c (pv 1)))))))))),rfl⟩)
end
end Carry
namespace Carry
open PySem L2
seal PE PA PT PS PSs
section
variable {P:Program} {w:World} {K:PySem.W.Frag} {mg:Str→Option Value} {base:Heap} {t:Adr}
theorem c6n:FnScope ["_law_feed_here","_law_k"] ["_law_feed_here","_law_k"] (a0l b1m):=⟨rfl,rfl,rfl,by decide +kernel,rfl,by decide +kernel,by decide +kernel⟩
noncomputable def b5m:GS:=(a0e (gsIf (gT (gBin oEq (gBin oMod (gBin oIx (gVar 0) (gC (.int 2))) (gC (.int 5))) (gC (.int 4))))
  (gsRet (gBin oIx (gSeq .lst (a0a (gC (.str "ring")) (a0a (gC (.str "to")) (a0a (gC (.str "belt")) (a0a (gC (.str "cart")) (a0a (gC (.str "rin")) (a0a (gC (.str "tooo")) (a0a (gC (.str "carts")) (a0a (gC (.str "r")) (a0a (gC (.str "belts")) (a0a (gC (.str "t")) (a0a (gC (.str "cartto")) (a0a (gC (.str "be")) gaNil))))))))))))) (gVar 1)))
  gsNil)
 (a0e (gsIf (gT (gBin oEq (gBin oMod (gBin oIx (gVar 0) (gC (.int 2))) (gC (.int 4))) (gC (.int 3))))
  (gsRet (gBin oIx (gSeq .lst (a0a (gFrz (a7p (gC (.str "zbdgkafe")) a9j (a8p (gBin oAdd (gVar 1) (gC (.int 1)))))) (a0a (gBin oMulA (gC (.str "y")) (gBin oSub (gVar 1) (gC (.int 7)))) gaNil))) (gOp oInt1 (a0a (gBin oGt (gVar 1) (gC (.int 7))) gaNil))))
  gsNil)
 (gsRet (gBin oAdd (gBin oAdd (gBin oIx (gSeq .lst (a0a (gC (.str "")) (a0a (gC (.str "ab")) (a0a (gC (.str "zzz")) gaNil)))) (gBin oMod (gBin oIx (gVar 0) (gC (.int 2))) (gC (.int 4)))) (gBin oIx (gC (.str "dbgkafelcjhi")) (gVar 1))) (gBin oIx (gSeq .lst (a0a (gC (.str "")) (a0a (gC (.str "ba")) (a0a (gC (.str "zz")) gaNil)))) (gBin oMod (gBin oFdiv (gBin oIx (gVar 0) (gC (.int 2))) (gC (.int 4))) (gC (.int 3))))))))
noncomputable def a3k:GM:=runM 2 [false,false] b5m
theorem c6o(T:Txt K mg t):FnOk P w K mg base CX0 1 (t 15).1 (t 15).2 ["_law_feed_here","_law_k"] (SpM K 2 a3k):=
 a3n (k:=0) [false,false] b5m T.F_l_name.fn c6n rfl rfl (by decide) fun cdv A outer s H E hr=>(by
  have hu:=a6c hr
  have hu40:=a2i hr
  have hu41:=a2m hr
  exact⟨_,(a0h (a3z (a3g (a5g K (by exact hu40)) a8v (a2e a8k a8o (a1p (a4u K (by exact hu41)) a1r (a0c (pv 0)) (a0u (d:=.int 2) a0g)) (a0u (d:=.int 5) a0g)) (a0u (d:=.int 4) a0g))
   (a0r (a2d (a1p (a4u K (by exact hu41)) a1r (a4x (c1g (a0u (d:=.str "ring") a1d) (a0u (d:=.str "to") a1d) (a0u (d:=.str "belt") a1d) (a0u (d:=.str "cart") a1d) (a0u (d:=.str "rin") a1d) (a0u (d:=.str "tooo") a1d) (c1g (a0u (d:=.str "carts") a1d) (a0u (d:=.str "r") a1d) (a0u (d:=.str "belts") a1d) (a0u (d:=.str "t") a1d) (a0u (d:=.str "cartto") a1d) (a0u (d:=.str "be") a1d) a0f))) (a0c (pv 1)))))
   a2t)
   (a0h (a3z (a3g (a5g K (by exact hu40)) a8v (a2e a8k a8o (a1p (a4u K (by exact hu41)) a1r (a0c (pv 0)) (a0u (d:=.int 2) a0g)) (a0u (d:=.int 4) a0g)) (a0u (d:=.int 3) a0g))
   (a0r (a2d (a1p (a4u K (by exact hu41)) a1r (a4x (a0b (a2n (a9k (a0u (d:=.str "zbdgkafe") a1d) b2h (b2i (a2e (a2k K) a3o (a0c (pv 1)) (a0u (d:=.int 1) a0g))))) (a0b (a2e a8u b2b (a0u (d:=.str "y") a1d) (a2e c3g c4g (a0c (pv 1)) (a0u (d:=.int 7) a0g))) a0f))) (a6k a9c b4z T.b_int b3r (a0b (a5o d4y d5t (a0c (pv 1)) (a0u (d:=.int 7) a0g)) a0f)))))
   a2t)
   (a0r (a2d (a2e (a2k K) a3o (a2e (a2k K) a3o (a1p (a4u K (by exact hu41)) a1r (a4x (a0b (a0u (d:=.str "") a1d) (a0b (a0u (d:=.str "ab") a1d) (a0b (a0u (d:=.str "zzz") a1d) a0f)))) (a2e a8k a8o (a1p (a4u K (by exact hu41)) a1r (a0c (pv 0)) (a0u (d:=.int 2) a0g)) (a0u (d:=.int 4) a0g))) (a1p (a4u K (by exact hu41)) a1r (a0u (d:=.str "dbgkafelcjhi") a1d) (a0c (pv 1)))) (a1p (a4u K (by exact hu41)) a1r (a4x (a0b (a0u (d:=.str "") a1d) (a0b (a0u (d:=.str "ba") a1d) (a0b (a0u (d:=.str "zz") a1d) a0f)))) (a2e a8k a8o (a2e b8j b8w (a1p (a4u K (by exact hu41)) a1r (a0c (pv 0)) (a0u (d:=.int 2) a0g)) (a0u (d:=.int 4) a0g)) (a0u (d:=.int 3) a0g)))))))),rfl⟩)
end
end Carry
namespace Carry
open PySem L2
seal PE PA PT PS PSs
section
variable {P:Program} {w:World} {K:PySem.W.Frag} {mg:Str→Option Value} {base:Heap} {t:Adr}
theorem b7y:FnScope ["name","taken"] ["name","taken"] (a0l a7c):=⟨rfl,rfl,rfl,by decide +kernel,rfl,by decide +kernel,by decide +kernel⟩
noncomputable def a9b:GS:=(a0e (gsIf (gOrT (gNotT (gTru (a2u a3x (a0a (gVar 0) gaNil)))) (gT (gBin (oInG false) (gVar 0) (gVar 1))))
  a5w
  gsNil)
 (gsPut (gC (.bl true)) (gVar 1) (gVar 0)))
noncomputable def a2y:GM:=runM 2 [false,true] a9b
theorem b7z(T:Txt K mg t)(G_is_name:FnOk P w K mg base CX0 1 (t 0).1 (t 0).2 ["thing"] (SpM K 1 a3x)):FnOk P w K mg base CX0 2 (t 4).1 (t 4).2 ["name","taken"] (SpM K 2 a2y):=
 a3n (k:=1) [false,true] a9b T.F_take_name.fn b7y rfl rfl (by decide) fun cdv A outer s H E hr=>(by
  have hu:=a6c hr
  have hu40:=a2i hr
  have hu41:=a2m hr
  exact⟨_,(a0h (a3z (PW.pt (c4c (b0w (a5p (a4k T.F_is_name G_is_name (by exact hr.mono (by decide)) (a0b (a0c (pv 0)) a0f) (a0d a0k)))) (b6s (a3g (b0z K (by exact hu41)) (b0i false) (a0c (pv 0)) (a0c (pv 1))))))
   (a0r a8z)
   a2t)
   (a0r (b7e (a0u (d:=.bl true) a9y) (a0c (pv 1)) (a0c (pv 0)) (by exact hu41)))),rfl⟩)
end
end Carry
namespace Carry
open PySem L2
seal PE PA PT PS PSs
section
variable {P:Program} {w:World} {K:PySem.W.Frag} {mg:Str→Option Value} {base:Heap} {t:Adr}
theorem sc_check_outs:FnScope ["belts","carts","k","belt","name","outs","left","out"] ["belts","carts"] (a0l a5y):=⟨rfl,rfl,rfl,by decide +kernel,rfl,by decide +kernel,by decide +kernel⟩
noncomputable def a7v:GS:=(b2q (gVar 0) (ggTup [(a0i 2),(a0i 3)])
  (a0e (gsSet 4 (gBin oIx (gVar 3) (gC (.int 0))))
 (a0e (gsSet 5 (gFrz (gIf (gTru (gOp oIsi (a0a (gBin oIx (gVar 3) (gC (.int 3))) (a0a (gC (.ty "list")) gaNil)))) (gBin oIx (gVar 3) (gC (.int 3))) (gSeq .lst gaNil))))
 (a0e (gsSet 6 (gBin oAdd (gCall a1x (a0a (gFrz (a7p (gVar 0) (a8p (gBin oAdd (gVar 2) (gC (.int 1)))) a9j)) gaNil)) (gVar 1)))
 (a0e (gsFor (gVar 5) (a0i 7)
  (a0e (gsIf (gT (gBin (oInG true) (gVar 7) (gVar 6)))
  a5w
  gsNil)
 (a1l (gMut b0q (gVar 6) (a0a (gVar 7) gaNil)))))
 (gsIf (gNotT (gTru (gVar 5)))
  a5w
  gsNil))))))
noncomputable def a4q:GM:=runM 8 [false,false] a7v
theorem b5n(T:Txt K mg t)(G_belt_names:FnOk P w K mg base CX0 1 (t 7).1 (t 7).2 ["belts"] (SpM K 1 a1x)):FnOk P w K mg base CX0 2 (t 5).1 (t 5).2 ["belts","carts"] (SpM K 2 a4q):=
 a3n (k:=1) [false,false] a7v T.F_check_outs.fn sc_check_outs rfl rfl (by decide) fun cdv A outer s H E hr=>(by
  have hu:=a6c hr
  have hu40:=a2i hr
  have hu41:=a2m hr
  exact⟨_,(a0r (c5z PassesOwn.never T.b_enumerate (a0c (pv 0)) (b5y rfl (a2p (a1b (i:=2) sc_check_outs.nd rfl (Or.inl rfl)) (a2p (a1b (i:=3) sc_check_outs.nd rfl (Or.inl rfl)) b1o))) (b6u (a2q a1c (a2q a1c b1x)))
   (a0h (a1q (i:=4) sc_check_outs.nd rfl (Or.inl rfl) (a1p (a4u K (by exact hu41)) a1r (a0c (pv 3)) (a0u (d:=.int 0) a0g)))
   (a0h (a1q (i:=5) sc_check_outs.nd rfl (Or.inl rfl) (a2n (d5p (a5p (a0w (a2r K) a6l T.b_isinstance a6j (a0b (a1p (a4u K (by exact hu41)) a1r (a0c (pv 3)) (a0u (d:=.int 3) a0g)) (a0b (a0u (d:=.ty "list") (b0d (by rfl) T.b_list b4n)) a0f)))) (a1p (a4u K (by exact hu41)) a1r (a0c (pv 3)) (a0u (d:=.int 3) a0g)) (a4x a0f))))
   (a0h (a1q (i:=6) sc_check_outs.nd rfl (Or.inl rfl) (a2e (a2k K) a3o (a1f T.F_belt_names G_belt_names (by exact hr.mono (by decide)) (a0b (a2n (a9k (a0c (pv 0)) (b2i (a2e (a2k K) a3o (a0c (pv 2)) (a0u (d:=.int 1) a0g))) b2h)) a0f) (a0d a0k)) (a0c (pv 1))))
   (a0h (b1y PassesOwn.never (a0c (pv 5)) (a1b (i:=7) sc_check_outs.nd rfl (Or.inl rfl)) a1c
   (a0h (a3z (a3g (a7m K (by exact hu41)) (b0i true) (a0c (pv 7)) (a0c (pv 6)))
   (a0r a8z)
   a2t)
   (a0r (a3h (b3x PySem.F.slot_list_remove PySem.F.type_list_remove c6d c6e (a0c (pv 6)) (a0b (a0c (pv 7)) a0f))))))
   (a0r (a3z (b0w (a5p (a0c (pv 5))))
   (a0r a8z)
   a2t)))))))),rfl⟩)
end
end Carry
namespace Carry
open PySem L2
seal PE PA PT PS PSs
section
variable {P:Program} {w:World} {K:PySem.W.Frag} {mg:Str→Option Value} {base:Heap} {t:Adr}
theorem sc_reached:FnScope ["house","belt","found","name","long","ring","outs","out"] ["house","belt"] (a0l a7t):=⟨rfl,rfl,rfl,by decide +kernel,rfl,by decide +kernel,by decide +kernel⟩
noncomputable def b2z:GS:=(a0e (gsSet 2 c0e)
 (a0e (gsFor (gBin oIx (gVar 0) (gC (.int 0))) (ggTup [(a0i 3),(a0i 4),(a0i 5),(a0i 6)])
  (gsIf (gOrT (gT (gBin oEq (gVar 3) (gVar 1))) (gT (gBin (oInG false) (gVar 3) (gVar 2))))
  (gsFor (gVar 6) (a0i 7)
  (gsPut (gC (.bl true)) (gVar 2) (gVar 7)))
  gsNil))
 (gsRet (a4b (srcL (gBin oAdd (gCall a1x (a0a (gBin oIx (gVar 0) (gC (.int 0))) gaNil)) (gBin oIx (gVar 0) (gC (.int 1))))) (a0i 0) (gT (gBin (oInG false) (gVar 0) (gVar 1))) (gVar 0) 1 [2]))))
noncomputable def a6n:GM:=runM 8 [false,false] b2z
theorem c2o(T:Txt K mg t)(G_belt_names:FnOk P w K mg base CX0 1 (t 7).1 (t 7).2 ["belts"] (SpM K 1 a1x)):FnOk P w K mg base CX0 2 (t 8).1 (t 8).2 ["house","belt"] (SpM K 2 a6n):=
 a3n (k:=1) [false,false] b2z T.F_reached.fn sc_reached rfl rfl (by decide) fun cdv A outer s H E hr=>(by
  have hu:=a6c hr
  have hu40:=a2i hr
  have hu41:=a2m hr
  exact⟨_,(a0h (a1q (i:=2) sc_reached.nd rfl (Or.inr rfl) c0f)
   (a0h (b1y PassesOwn.never (a1p (a4u K (by exact hu41)) a1r (a0c (pv 0)) (a0u (d:=.int 0) a0g)) (b5y rfl (a2p (a1b (i:=3) sc_reached.nd rfl (Or.inl rfl)) (a2p (a1b (i:=4) sc_reached.nd rfl (Or.inl rfl)) (a2p (a1b (i:=5) sc_reached.nd rfl (Or.inl rfl)) (a2p (a1b (i:=6) sc_reached.nd rfl (Or.inl rfl)) b1o))))) (b6u (a2q a1c (a2q a1c (a2q a1c (a2q a1c b1x)))))
   (a0r (a3z (PW.pt (c4c (a3g (a5g K (by exact hu40)) a8v (a0c (pv 3)) (a0c (pv 1))) (b6s (a3g (b0z K (by exact hu41)) (b0i false) (a0c (pv 3)) (a0c (pv 2))))))
   (a0r (b1y PassesOwn.never (a0c (pv 6)) (a1b (i:=7) sc_reached.nd rfl (Or.inl rfl)) a1c
   (a0r (b7e (a0u (d:=.bl true) a9y) (a0c (pv 2)) (a0c (pv 7)) (by exact hu41)))))
   a2t)))
   (a0r (a2d (a8x b5b (k:=1) (cap:=[2]) a1c (M:=["name","found"]) (CompOk.of (a0l a7t).names ["house","belt","found","name","long","ring","outs","out"] (by decide +kernel)) (a9d K (a2n (a2e (a2k K) a3o (a1f T.F_belt_names G_belt_names (by exact hr.mono (by decide)) (a0b (a1p (a4u K (by exact hu41)) a1r (a0c (pv 0)) (a0u (d:=.int 0) a0g)) a0f) (a0d a0k)) (a1p (a4u K (by exact hu41)) a1r (a0c (pv 0)) (a0u (d:=.int 1) a0g)))))
    (fun _ _ _ _=>(a1b (i:=0) (show List.Nodup (["name","found"]:List Str) by decide +kernel) rfl (Or.inl rfl))) (fun _ _ _ _=>(c5c (a3g (b0z K (by exact hu41)) (b0i false) (a0c (pv 0)) (a0c (pv 1))))) (fun _ _ _ _=>(a0c (pv 0)))))))),rfl⟩)
end
end Carry
namespace Carry
open PySem L2
seal PE PA PT PS PSs
section
variable {P:Program} {w:World} {K:PySem.W.Frag} {mg:Str→Option Value} {base:Heap} {t:Adr}
theorem b3a:FnScope ["words"] ["words"] (a0l a4l):=⟨rfl,rfl,rfl,by decide +kernel,rfl,by decide +kernel,by decide +kernel⟩
noncomputable def a4n:GS:=(a0e (gsIf (gOrT (gT (gBin oLt (gOp oLen (a0a (gVar 0) gaNil)) (gC (.int 5)))) (gT (gBin (oInG false) (gC (.str "")) (gVar 0))))
  (gsRet (gC (.bl false)))
  gsNil)
 (gsRet (gAndV (gBin (oInG false) (gBin oIx (gVar 0) (gC (.int 0))) (gSeq .tup (a0a (gC (.str "belt")) (a0a (gC (.str "ring")) gaNil)))) (gAndV (a2u a5m (a0a (gBin oIx (gVar 0) (gC (.int 2))) gaNil)) (gBin oEq (gBin oIx (gVar 0) (gC (.int 3))) (gC (.str "to")))))))
noncomputable def a1y:GM:=runM 1 [false] a4n
theorem b3b(T:Txt K mg t)(G_is_number:FnOk P w K mg base CX0 1 (t 12).1 (t 12).2 ["word"] (SpM K 1 a5m)):FnOk P w K mg base CX0 2 (t 10).1 (t 10).2 ["words"] (SpM K 1 a1y):=
 a3n (k:=1) [false] a4n T.F_is_belt_line.fn b3a rfl rfl (by decide) fun cdv A outer s H E hr=>(by
  have hu:=a6c hr
  have hu40:=a2i hr
  have hu41:=a2m hr
  exact⟨_,(a0h (a3z (PW.pt (c4c (a3g d2a d2v (a0w (a1s K) a4y T.b_len a4w (a0b (a0c (pv 0)) a0f)) (a0u (d:=.int 5) a0g)) (b6s (a3g (b0z K (by exact hu41)) (b0i false) (a0u (d:=.str "") a1d) (a0c (pv 0))))))
   (a0r (a2d (a0u (d:=.bl false) a9y)))
   a2t)
   (a0r (a2d (b1w (a5o (b0z K (by exact hu41)) (b0i false) (a1p (a4u K (by exact hu41)) a1r (a0c (pv 0)) (a0u (d:=.int 0) a0g)) (b6r (a0b (a0u (d:=.str "belt") a1d) (a0b (a0u (d:=.str "ring") a1d) a0f)))) (b1w (a4k T.F_is_number G_is_number (by exact hr.mono (by decide)) (a0b (a1p (a4u K (by exact hu41)) a1r (a0c (pv 0)) (a0u (d:=.int 2) a0g)) a0f) (a0d a0k)) (c0g (a5o (a5g K (by exact hu40)) a8v (a1p (a4u K (by exact hu41)) a1r (a0c (pv 0)) (a0u (d:=.int 3) a0g)) (a0u (d:=.str "to") a1d)))))))),rfl⟩)
end
end Carry
namespace Carry
open PySem L2
seal PE PA PT PS PSs
section
variable {P:Program} {w:World} {K:PySem.W.Frag} {mg:Str→Option Value} {base:Heap} {t:Adr}
theorem sc_l_outs:FnScope ["_law_feed_here","_law_later","_law_carts","_law_outs_here","_law_t","_law_out"] ["_law_feed_here","_law_later","_law_carts"] (a0l a9v):=⟨rfl,rfl,rfl,by decide +kernel,rfl,by decide +kernel,by decide +kernel⟩
noncomputable def b5o:GS:=(a0e (gsSet 3 (gSeq .lst gaNil))
 (a0e (a9e (a0a (gBin oAdd (gC (.int 1)) (gCall a0y (a0a (gVar 0) (a0a (gC (.int 3)) gaNil)))) gaNil) (a0i 4)
  (a0e (gsSet 5 (gBin oIx (gBin oAdd (gVar 1) (gVar 2)) (gCall a0y (a0a (gVar 0) (a0a (gFrz (gBin oAdd (gOp oLen (a0a (gVar 1) gaNil)) (gOp oLen (a0a (gVar 2) gaNil)))) gaNil)))))
 (gsIf (gT (gBin (oInG true) (gVar 5) (gVar 3)))
  (a1l (gMut a4g (gVar 3) (a0a (gFrz (gCall a0y (a0a (gVar 0) (a0a (gFrz (gBin oAdd (gOp oLen (a0a (gVar 3) gaNil)) (gC (.int 1)))) gaNil)))) (a0a (gVar 5) gaNil))))
  gsNil)))
 (a0e (gsIf (gAndT (gT (gBin (oInG true) (gBin oIx (gVar 2) (gC (.int 0))) (gVar 3))) (gT (gBin oEq (gOp oLen (a0a (a4b (srcV 3 [1]) (a0i 0) (gT (gBin (oInG false) (gVar 0) (gVar 1))) (gVar 0) 1 [1]) gaNil)) (gC (.int 0)))))
  (a1l (gMut a4g (gVar 3) (a0a (gFrz (gCall a0y (a0a (gVar 0) (a0a (gFrz (gBin oAdd (gOp oLen (a0a (gVar 3) gaNil)) (gC (.int 1)))) gaNil)))) (a0a (gBin oIx (gVar 2) (gC (.int 0))) gaNil))))
  gsNil)
 (gsRet (gMove (gVar 3))))))
noncomputable def a6b:GM:=runM 6 [true,false,false] b5o
theorem c6p(T:Txt K mg t)(G_l_draw:FnOk P w K mg base CX0 1 (t 14).1 (t 14).2 ["_law_feed_here","_law_many"] (SpM K 2 a0y)):FnOk P w K mg base CX0 2 (t 16).1 (t 16).2 ["_law_feed_here","_law_later","_law_carts"] (SpM K 3 a6b):=
 a3n (k:=1) [true,false,false] b5o T.F_l_outs.fn sc_l_outs rfl rfl (by decide) fun cdv A outer s H E hr=>(by
  have hu:=a6c hr
  have hu40:=a2i hr
  have hu41:=a2m hr
  exact⟨_,(a0h (a1q (i:=3) sc_l_outs.nd rfl (Or.inl rfl) (a4x a0f))
   (a0h (b6w PassesOwn.never T.b_range (a0b (a2e (a2k K) a3o (a0u (d:=.int 1) a0g) (a1f T.F_l_draw G_l_draw (by exact hr.mono (by decide)) (a0b (a0c (pv 0)) (a0b (a0u (d:=.int 3) a0g) a0f)) (a0d (a0d a0k)))) a0f) (a1b (i:=4) sc_l_outs.nd rfl (Or.inl rfl)) a1c
   (a0h (a1q (i:=5) sc_l_outs.nd rfl (Or.inl rfl) (a1p (a4u K (by exact hu41)) a1r (a2e (a2k K) a3o (a0c (pv 1)) (a0c (pv 2))) (a1f T.F_l_draw G_l_draw (by exact hr.mono (by decide)) (a0b (a0c (pv 0)) (a0b (a2n (a2e (a2k K) a3o (a0w (a1s K) a4y T.b_len a4w (a0b (a0c (pv 1)) a0f)) (a0w (a1s K) a4y T.b_len a4w (a0b (a0c (pv 2)) a0f)))) a0f)) (a0d (a0d a0k)))))
   (a0r (a3z (a3g (a7m K (by exact hu41)) (b0i true) (a0c (pv 5)) (a0c (pv 3)))
   (a0r (a3h (b3x PySem.F.slot_list_insert PySem.F.type_list_insert b1u b2g (a0c (pv 3)) (a0b (a2n (a1f T.F_l_draw G_l_draw (by exact hr.mono (by decide)) (a0b (a0c (pv 0)) (a0b (a2n (a2e (a2k K) a3o (a0w (a1s K) a4y T.b_len a4w (a0b (a0c (pv 3)) a0f)) (a0u (d:=.int 1) a0g))) a0f)) (a0d (a0d a0k)))) (a0b (a0c (pv 5)) a0f)))))
   a2t))))
   (a0h (a3z (PW.pt (d0u (a3g (a7m K (by exact hu41)) (b0i true) (a1p (a4u K (by exact hu41)) a1r (a0c (pv 2)) (a0u (d:=.int 0) a0g)) (a0c (pv 3))) (c4b (a3g (a5g K (by exact hu40)) a8v (a0w (a1s K) a4y T.b_len a4w (a0b (a8x c5a (k:=1) (cap:=[1]) a1c (M:=["_law_out","_law_later"]) (CompOk.of (a0l a9v).names ["_law_feed_here","_law_later","_law_carts","_law_outs_here","_law_t","_law_out"] (by decide +kernel)) (a9d K (pv 3))
    (fun _ _ _ _=>(a1b (i:=0) (show List.Nodup (["_law_out","_law_later"]:List Str) by decide +kernel) rfl (Or.inl rfl))) (fun _ _ _ _=>(c5c (a3g (b0z K (by exact hu41)) (b0i false) (a0c (pv 0)) (a0c (pv 1))))) (fun _ _ _ _=>(a0c (pv 0)))) a0f)) (a0u (d:=.int 0) a0g)))))
   (a0r (a3h (b3x PySem.F.slot_list_insert PySem.F.type_list_insert b1u b2g (a0c (pv 3)) (a0b (a2n (a1f T.F_l_draw G_l_draw (by exact hr.mono (by decide)) (a0b (a0c (pv 0)) (a0b (a2n (a2e (a2k K) a3o (a0w (a1s K) a4y T.b_len a4w (a0b (a0c (pv 3)) a0f)) (a0u (d:=.int 1) a0g))) a0f)) (a0d (a0d a0k)))) (a0b (a1p (a4u K (by exact hu41)) a1r (a0c (pv 2)) (a0u (d:=.int 0) a0g)) a0f)))))
   a2t)
   (a0r (a2d (b1v (a0c (pv 3)))))))),rfl⟩)
end
end Carry
namespace Carry
open PySem L2
seal PE PA PT PS PSs
section
variable {P:Program} {w:World} {K:PySem.W.Frag} {mg:Str→Option Value} {base:Heap} {t:Adr}
theorem sc_l_mixed:FnScope ["_law_feed_here","_law_house_here","_law_rows","_law_name_here","_law_long","_law_ring","_law_outs_here","_law_lines","_law_row"] ["_law_feed_here","_law_house_here"] (a0l a5l):=⟨rfl,rfl,rfl,by decide +kernel,rfl,by decide +kernel,by decide +kernel⟩
noncomputable def b3c:GS:=(a0e (gsSet 2 (gSeq .lst (a0a (gSeq .lst gaNil) (a0a (a4b (srcL (gBin oIx (gVar 1) (gC (.int 1)))) (a0i 0) gYes (gFrz (gBin oAdd (gC (.str "cart ")) (gVar 0))) 1 []) gaNil))))
 (a0e (gsFor (gBin oIx (gVar 1) (gC (.int 0))) (ggTup [(a0i 3),(a0i 4),(a0i 5),(a0i 6)])
  (a1l (gMutP a1z 2 [0] (a0a (a7i oJoin (gC (.str " ")) (a0a (gBin oAdd (gSeq .lst (a0a (gBin oIx (gSeq .lst (a0a (gC (.str "belt")) (a0a (gC (.str "ring")) gaNil))) (gOp oInt1 (a0a (gVar 5) gaNil))) (a0a (gVar 3) (a0a (gOp oStr1 (a0a (gVar 4) gaNil)) (a0a (gC (.str "to")) gaNil))))) (gVar 6)) gaNil)) gaNil))))
 (a0e (gsSet 7 (gSeq .lst gaNil))
 (a0e (a9u 2)
 (a0e (a2s (gTru (gVar 2)) (a0e (b2v (gCall a0y (a0a (gVar 0) (a0a (gOp oLen (a0a (gVar 2) gaNil)) gaNil))) 2 7 8)
 (a9u 2)) 1000)
 (gsRet (a7i oJoin (gC (.str "\n")) (a0a (gVar 7) gaNil))))))))
noncomputable def a6o:GM:=runM 9 [true,false] b3c
theorem c2p(T:Txt K mg t)(G_l_draw:FnOk P w K mg base CX0 1 (t 14).1 (t 14).2 ["_law_feed_here","_law_many"] (SpM K 2 a0y)):FnOk P w K mg base CX0 2 (t 18).1 (t 18).2 ["_law_feed_here","_law_house_here"] (SpM K 2 a6o):=
 a3n (k:=1) [true,false] b3c T.F_l_mixed.fn sc_l_mixed rfl rfl (by decide) fun cdv A outer s H E hr=>(by
  have hu:=a6c hr
  have hu40:=a2i hr
  have hu41:=a2m hr
  exact⟨_,(a0h (a1q (i:=2) sc_l_mixed.nd rfl (Or.inl rfl) (a4x (a0b (a4x a0f) (a0b (a8x b5b (k:=1) (cap:=[]) a1c (M:=["_law_cart"]) (CompOk.of (a0l a5l).names ["_law_feed_here","_law_house_here","_law_rows","_law_name_here","_law_long","_law_ring","_law_outs_here","_law_lines","_law_row"] (by decide +kernel)) (a9d K (a2n (a1p (a4u K (by exact hu41)) a1r (a0c (pv 1)) (a0u (d:=.int 1) a0g))))
    (fun _ _ _ _=>(a1b (i:=0) (show List.Nodup (["_law_cart"]:List Str) by decide +kernel) rfl (Or.inl rfl))) (fun _ _ _ _=>b0j) (fun _ _ _ _=>(a2n (a2e (a2k K) a3o (a0u (d:=.str "cart ") a1d) (a0c (pv 0)))))) a0f))))
   (a0h (b1y PassesOwn.never (a1p (a4u K (by exact hu41)) a1r (a0c (pv 1)) (a0u (d:=.int 0) a0g)) (b5y rfl (a2p (a1b (i:=3) sc_l_mixed.nd rfl (Or.inl rfl)) (a2p (a1b (i:=4) sc_l_mixed.nd rfl (Or.inl rfl)) (a2p (a1b (i:=5) sc_l_mixed.nd rfl (Or.inl rfl)) (a2p (a1b (i:=6) sc_l_mixed.nd rfl (Or.inl rfl)) b1o))))) (b6u (a2q a1c (a2q a1c (a2q a1c (a2q a1c b1x)))))
   (a0r (a3h (d3l (π:=[0]) PySem.F.slot_list_append PySem.F.type_list_append a6i a7o (b9b (j:=0) (b7g (pv 2)) (by exact hu41)) (a0b (b1j PySem.F.slot_str_join PySem.F.type_str_join (c5s K) c5t (a0u (d:=.str " ") a1d) (a0b (a2e (a2k K) a3o (a4x (a0b (a1p (a4u K (by exact hu41)) a1r (a4x (a0b (a0u (d:=.str "belt") a1d) (a0b (a0u (d:=.str "ring") a1d) a0f))) (a6k a9c b4z T.b_int b3r (a0b (a0c (pv 5)) a0f))) (a0b (a0c (pv 3)) (a0b (a6k c5u d3e T.b_str c0a (a0b (a0c (pv 4)) a0f)) (a0b (a0u (d:=.str "to") a1d) a0f))))) (a0c (pv 6))) a0f)) a0f)))))
   (a0h (a1q (i:=7) sc_l_mixed.nd rfl (Or.inl rfl) (a4x a0f))
   (a0h (c6k (i:=2) (k:=1) (cap:=[]) (M:=["_law_row"]) (by decide) (CompOk.of (a0l a5l).names ["_law_feed_here","_law_house_here","_law_rows","_law_name_here","_law_long","_law_ring","_law_outs_here","_law_lines","_law_row"] (by decide +kernel)) sc_l_mixed.nd rfl (Or.inl rfl) (pv 2) (fun _ _ _ _=>a1b (show List.Nodup (["_law_row"]:List Str) by decide +kernel) rfl (Or.inl rfl)) (fun _ _ _ _=>b4k (pv 0) (fun _=>rfl)) (fun _ _ _ _=>pv 0))
   (a0h (c8s 1000 PassesOwn.never (a5p (a0c (pv 2)))
   (c9o sc_l_mixed.nd rfl (Or.inl rfl) (pv 2) (pv 7) (pv 8) (a1f T.F_l_draw G_l_draw (by exact hr.mono (by decide)) (a0b (a0c (pv 0)) (a0b (a0w (a1s K) a4y T.b_len a4w (a0b (a0c (pv 2)) a0f)) a0f)) (a0d (a0d a0k))) (a0r (c6k (i:=2) (k:=1) (cap:=[]) (M:=["_law_row"]) (by decide) (CompOk.of (a0l a5l).names ["_law_feed_here","_law_house_here","_law_rows","_law_name_here","_law_long","_law_ring","_law_outs_here","_law_lines","_law_row"] (by decide +kernel)) sc_l_mixed.nd rfl (Or.inl rfl) (pv 2) (fun _ _ _ _=>a1b (show List.Nodup (["_law_row"]:List Str) by decide +kernel) rfl (Or.inl rfl)) (fun _ _ _ _=>b4k (pv 0) (fun _=>rfl)) (fun _ _ _ _=>pv 0))) rfl rfl rfl (hA:=(b8m PySem.F.plainAttrs_list PySem.F.slot_list_pop PySem.F.type_list_pop b9x (pv 8) (a9z a0g pa_nil))) (hB:=(c3c (b8m PySem.F.plainAttrs_list PySem.F.slot_list_append PySem.F.type_list_append a6i (pv 7) (a9z (b8m PySem.F.plainAttrs_list PySem.F.slot_list_pop PySem.F.type_list_pop b9x (pv 8) (a9z a0g pa_nil)) pa_nil))))))
   (a0r (a2d (b1j PySem.F.slot_str_join PySem.F.type_str_join (c5s K) c5t (a0u (d:=.str "\n") a1d) (a0b (a0c (pv 7)) a0f))))))))),rfl⟩)
end
end Carry
namespace Carry
open PySem L2
seal PE PA PT PS PSs
section
variable {P:Program} {w:World} {K:PySem.W.Frag} {mg:Str→Option Value} {base:Heap} {t:Adr}
theorem sc_check_carts:FnScope ["carts","taken","cart"] ["carts","taken"] (a0l a5d):=⟨rfl,rfl,rfl,by decide +kernel,rfl,by decide +kernel,by decide +kernel⟩
noncomputable def a7d:GS:=(a0e (gsFor (gVar 0) (a0i 2)
  (a1l (gCall a2y (a0a (gVar 2) (a0a (gVar 1) gaNil)))))
 (gsIf (gNotT (gTru (gVar 0)))
  a5w
  gsNil))
noncomputable def a3l:GM:=runM 3 [false,true] a7d
theorem b3l(T:Txt K mg t)(G_take_name:FnOk P w K mg base CX0 2 (t 4).1 (t 4).2 ["name","taken"] (SpM K 2 a2y)):FnOk P w K mg base CX0 3 (t 2).1 (t 2).2 ["carts","taken"] (SpM K 2 a3l):=
 a3n (k:=2) [false,true] a7d T.F_check_carts.fn sc_check_carts rfl rfl (by decide) fun cdv A outer s H E hr=>(by
  have hu:=a6c hr
  have hu40:=a2i hr
  have hu41:=a2m hr
  exact⟨_,(a0h (b1y PassesOwn.never (a0c (pv 0)) (a1b (i:=2) sc_check_carts.nd rfl (Or.inl rfl)) a1c
   (a0r (a3h (a1f T.F_take_name G_take_name (by exact hr.mono (by decide)) (a0b (a0c (pv 2)) (a0b (a0c (pv 1)) a0f)) (a0d (a0d a0k))))))
   (a0r (a3z (b0w (a5p (a0c (pv 0))))
   (a0r a8z)
   a2t))),rfl⟩)
end
end Carry
namespace Carry
open PySem L2
seal PE PA PT PS PSs
section
variable {P:Program} {w:World} {K:PySem.W.Frag} {mg:Str→Option Value} {base:Heap} {t:Adr}
theorem sc_check_belts:FnScope ["belts","taken","name","long","ring","outs","least"] ["belts","taken"] (a0l a5e):=⟨rfl,rfl,rfl,by decide +kernel,rfl,by decide +kernel,by decide +kernel⟩
noncomputable def a7e:GS:=(gsFor (gVar 0) (ggTup [(a0i 2),(a0i 3),(a0i 4),(a0i 5)])
  (a0e (a1l (gCall a2y (a0a (gVar 2) (a0a (gVar 1) gaNil))))
 (a0e (gsSet 6 (gFrz (gIf (gTru (gVar 4)) (gC (.int 2)) (gC (.int 1)))))
 (gsIf (gT (gBin oLt (gVar 3) (gVar 6)))
  a5w
  gsNil))))
noncomputable def a3y:GM:=runM 7 [false,true] a7e
theorem b3m(T:Txt K mg t)(G_take_name:FnOk P w K mg base CX0 2 (t 4).1 (t 4).2 ["name","taken"] (SpM K 2 a2y)):FnOk P w K mg base CX0 3 (t 3).1 (t 3).2 ["belts","taken"] (SpM K 2 a3y):=
 a3n (k:=2) [false,true] a7e T.F_check_belts.fn sc_check_belts rfl rfl (by decide) fun cdv A outer s H E hr=>(by
  have hu:=a6c hr
  have hu40:=a2i hr
  have hu41:=a2m hr
  exact⟨_,(a0r (b1y PassesOwn.never (a0c (pv 0)) (b5y rfl (a2p (a1b (i:=2) sc_check_belts.nd rfl (Or.inl rfl)) (a2p (a1b (i:=3) sc_check_belts.nd rfl (Or.inl rfl)) (a2p (a1b (i:=4) sc_check_belts.nd rfl (Or.inl rfl)) (a2p (a1b (i:=5) sc_check_belts.nd rfl (Or.inl rfl)) b1o))))) (b6u (a2q a1c (a2q a1c (a2q a1c (a2q a1c b1x)))))
   (a0h (a3h (a1f T.F_take_name G_take_name (by exact hr.mono (by decide)) (a0b (a0c (pv 2)) (a0b (a0c (pv 1)) a0f)) (a0d (a0d a0k))))
   (a0h (a1q (i:=6) sc_check_belts.nd rfl (Or.inl rfl) (a2n (d5p (a5p (a0c (pv 4))) (a0u (d:=.int 2) a0g) (a0u (d:=.int 1) a0g))))
   (a0r (a3z (a3g d2a d2v (a0c (pv 3)) (a0c (pv 6)))
   (a0r a8z)
   a2t)))))),rfl⟩)
end
end Carry
namespace Carry
open PySem L2
seal PE PA PT PS PSs
section
variable {P:Program} {w:World} {K:PySem.W.Frag} {mg:Str→Option Value} {base:Heap} {t:Adr}
theorem sc_check_hand:FnScope ["house","hand","name"] ["house"] (a0l a5z):=⟨rfl,rfl,rfl,by decide +kernel,rfl,by decide +kernel,by decide +kernel⟩
noncomputable def a7w:GS:=(a0e (gsSet 1 (gBin oIx (gBin oIx (gVar 0) (gC (.int 1))) (gC (.int 0))))
 (gsFor (gCall a1x (a0a (gBin oIx (gVar 0) (gC (.int 0))) gaNil)) (a0i 2)
  (gsIf (gT (gBin (oInG true) (gVar 1) (gCall a6n (a0a (gVar 0) (a0a (gVar 2) gaNil)))))
  a5w
  gsNil)))
noncomputable def a4r:GM:=runM 3 [false] a7w
theorem b5p(T:Txt K mg t)(G_belt_names:FnOk P w K mg base CX0 1 (t 7).1 (t 7).2 ["belts"] (SpM K 1 a1x))(G_reached:FnOk P w K mg base CX0 2 (t 8).1 (t 8).2 ["house","belt"] (SpM K 2 a6n)):FnOk P w K mg base CX0 3 (t 6).1 (t 6).2 ["house"] (SpM K 1 a4r):=
 a3n (k:=2) [false] a7w T.F_check_hand.fn sc_check_hand rfl rfl (by decide) fun cdv A outer s H E hr=>(by
  have hu:=a6c hr
  have hu40:=a2i hr
  have hu41:=a2m hr
  exact⟨_,(a0h (a1q (i:=1) sc_check_hand.nd rfl (Or.inl rfl) (a1p (a4u K (by exact hu41)) a1r (a1p (a4u K (by exact hu41)) a1r (a0c (pv 0)) (a0u (d:=.int 1) a0g)) (a0u (d:=.int 0) a0g)))
   (a0r (b1y PassesOwn.never (a1f T.F_belt_names G_belt_names (by exact hr.mono (by decide)) (a0b (a1p (a4u K (by exact hu41)) a1r (a0c (pv 0)) (a0u (d:=.int 0) a0g)) a0f) (a0d a0k)) (a1b (i:=2) sc_check_hand.nd rfl (Or.inl rfl)) a1c
   (a0r (a3z (a3g (a7m K (by exact hu41)) (b0i true) (a0c (pv 1)) (a1f T.F_reached G_reached (by exact hr.mono (by decide)) (a0b (a0c (pv 0)) (a0b (a0c (pv 2)) a0f)) (a0d (a0d a0k))))
   (a0r a8z)
   a2t))))),rfl⟩)
end
end Carry
namespace Carry
open PySem L2
seal PE PA PT PS PSs
section
variable {P:Program} {w:World} {K:PySem.W.Frag} {mg:Str→Option Value} {base:Heap} {t:Adr}
theorem sc_l_house:FnScope ["_law_feed_here","_law_many","_law_carts","_law_belts","_law_wide","_law_k","_law_ring","_law_long","_law_outs_here"] ["_law_feed_here"] (a0l a6m):=⟨rfl,rfl,rfl,by decide +kernel,rfl,by decide +kernel,by decide +kernel⟩
noncomputable def b3d:GS:=(a0e (gsSet 1 (gFrz (gCall a0y (a0a (gVar 0) (a0a (gC (.int 7)) gaNil)))))
 (a0e (gsSet 2 (gFrz (a4b (srcR1 (a0a (gBin oAdd (gC (.int 1)) (gCall a0y (a0a (gVar 0) (a0a (gC (.int 5)) gaNil)))) gaNil)) (a0i 0) gYes (a2u a3k (a0a (gVar 1) (a0a (gBin oSub (gC (.int 11)) (gVar 0)) gaNil))) 1 [0])))
 (a0e (gsSet 3 (gSeq .lst gaNil))
 (a0e (gsSet 4 (gC (.int 0)))
 (a0e (gsIf (gT (gBin oLt (gVar 1) (gC (.int 3))))
  (gsSet 4 (gBin oMulA (gCall a0y (a0a (gVar 0) (a0a (gC (.int 2)) gaNil))) (gCall a0y (a0a (gVar 0) (a0a (gC (.int 20)) gaNil)))))
  gsNil)
 (a0e (b4s (a0a (gBin oSub (gVar 1) (gC (.int 1))) (a0a (gUn oNeg (gC (.int 1))) (a0a (gUn oNeg (gC (.int 1))) gaNil))) (a0i 5)
  (a0e (gsSet 6 (gBin oEq (gCall a0y (a0a (gVar 0) (a0a (gC (.int 3)) gaNil))) (gC (.int 0))))
 (a0e (gsSet 7 (gFrz (gBin oAdd (gBin oAdd (gBin oAdd (gC (.int 1)) (gOp oInt1 (a0a (gVar 6) gaNil))) (gCall a0y (a0a (gVar 0) (a0a (gC (.int 4)) gaNil)))) (gBin oMulA (gVar 4) (gOp oInt1 (a0a (gBin oEq (gVar 5) (gC (.int 0))) gaNil))))))
 (a0e (gsSet 8 (gFrz (gCall a6b (a0a (gVar 0) (a0a (gFrz (a4b (srcV 3 []) (a0i 0) gYes (gBin oIx (gVar 0) (gC (.int 0))) 1 [])) (a0a (gVar 2) gaNil))))))
 (a1l (gMut a4g (gVar 3) (a0a (gC (.int 0)) (a0a (gFrz (gSeq .tup (a0a (a2u a3k (a0a (gVar 0) (a0a (gVar 5) gaNil))) (a0a (gVar 7) (a0a (gVar 6) (a0a (gVar 8) gaNil)))))) gaNil))))))))
 (gsRet (gSeq .tup (a0a (gMove (gVar 3)) (a0a (gVar 2) gaNil))))))))))
noncomputable def a6p:GM:=runM 9 [true] b3d
theorem c2q(T:Txt K mg t)(G_l_draw:FnOk P w K mg base CX0 1 (t 14).1 (t 14).2 ["_law_feed_here","_law_many"] (SpM K 2 a0y))(G_l_name:FnOk P w K mg base CX0 1 (t 15).1 (t 15).2 ["_law_feed_here","_law_k"] (SpM K 2 a3k))(G_l_outs:FnOk P w K mg base CX0 2 (t 16).1 (t 16).2 ["_law_feed_here","_law_later","_law_carts"] (SpM K 3 a6b)):FnOk P w K mg base CX0 3 (t 17).1 (t 17).2 ["_law_feed_here"] (SpM K 1 a6p):=
 a3n (k:=2) [true] b3d T.F_l_house.fn sc_l_house rfl rfl (by decide) fun cdv A outer s H E hr=>(by
  have hu:=a6c hr
  have hu40:=a2i hr
  have hu41:=a2m hr
  exact⟨_,(a0h (a1q (i:=1) sc_l_house.nd rfl (Or.inl rfl) (a2n (a1f T.F_l_draw G_l_draw (by exact hr.mono (by decide)) (a0b (a0c (pv 0)) (a0b (a0u (d:=.int 7) a0g) a0f)) (a0d (a0d a0k)))))
   (a0h (c9c (i:=2) d5y (k:=1) (cap:=[0]) a1c (M:=["_law_k","_law_feed_here"]) (CompOk.of (a0l a6m).names ["_law_feed_here","_law_many","_law_carts","_law_belts","_law_wide","_law_k","_law_ring","_law_long","_law_outs_here"] (by decide +kernel)) sc_l_house.nd rfl (Or.inl rfl) (b5z (by rfl) T.b_range (a0b (a2e (a2k K) a3o (a0u (d:=.int 1) a0g) (a1f T.F_l_draw G_l_draw (by exact hr.mono (by decide)) (a0b (a0c (pv 0)) (a0b (a0u (d:=.int 5) a0g) a0f)) (a0d (a0d a0k)))) a0f))
    (fun _ _ _ _=>(a1b (i:=0) (show List.Nodup (["_law_k","_law_feed_here"]:List Str) by decide +kernel) rfl (Or.inl rfl))) (fun _ _ _ _=>b0j) (fun _ _ _ _=>(a4k T.F_l_name G_l_name (by exact hr.mono (by decide)) (a0b (a0c (pv 1)) (a0b (a2e c3g c4g (a0u (d:=.int 11) a0g) (a0c (pv 0))) a0f)) (a0d (a0d a0k)))))
   (a0h (a1q (i:=3) sc_l_house.nd rfl (Or.inl rfl) (a4x a0f))
   (a0h (a1q (i:=4) sc_l_house.nd rfl (Or.inl rfl) (a0u (d:=.int 0) a0g))
   (a0h (a3z (a3g d2a d2v (a0c (pv 1)) (a0u (d:=.int 3) a0g))
   (a0r (a1q (i:=4) sc_l_house.nd rfl (Or.inl rfl) (a2e a8u b2b (a1f T.F_l_draw G_l_draw (by exact hr.mono (by decide)) (a0b (a0c (pv 0)) (a0b (a0u (d:=.int 2) a0g) a0f)) (a0d (a0d a0k))) (a1f T.F_l_draw G_l_draw (by exact hr.mono (by decide)) (a0b (a0c (pv 0)) (a0b (a0u (d:=.int 20) a0g) a0f)) (a0d (a0d a0k))))))
   a2t)
   (a0h (c4e PassesOwn.never T.b_range (a0b (a2e c3g c4g (a0c (pv 1)) (a0u (d:=.int 1) a0g)) (a0b (d5n d0n d0x (a0u (d:=.int 1) a0g)) (a0b (d5n d0n d0x (a0u (d:=.int 1) a0g)) a0f))) (a1b (i:=5) sc_l_house.nd rfl (Or.inl rfl)) a1c
   (a0h (a1q (i:=6) sc_l_house.nd rfl (Or.inl rfl) (a5o (a5g K (by exact hu40)) a8v (a1f T.F_l_draw G_l_draw (by exact hr.mono (by decide)) (a0b (a0c (pv 0)) (a0b (a0u (d:=.int 3) a0g) a0f)) (a0d (a0d a0k))) (a0u (d:=.int 0) a0g)))
   (a0h (a1q (i:=7) sc_l_house.nd rfl (Or.inl rfl) (a2n (a2e (a2k K) a3o (a2e (a2k K) a3o (a2e (a2k K) a3o (a0u (d:=.int 1) a0g) (a6k a9c b4z T.b_int b3r (a0b (a0c (pv 6)) a0f))) (a1f T.F_l_draw G_l_draw (by exact hr.mono (by decide)) (a0b (a0c (pv 0)) (a0b (a0u (d:=.int 4) a0g) a0f)) (a0d (a0d a0k)))) (a2e a8u b2b (a0c (pv 4)) (a6k a9c b4z T.b_int b3r (a0b (a5o (a5g K (by exact hu40)) a8v (a0c (pv 5)) (a0u (d:=.int 0) a0g)) a0f))))))
   (a0h (a1q (i:=8) sc_l_house.nd rfl (Or.inl rfl) (a2n (a1f T.F_l_outs G_l_outs (by exact hr.mono (by decide)) (a0b (a0c (pv 0)) (a0b (a2n (a8x c5a (k:=1) (cap:=[]) a1c (M:=["_law_belt"]) (CompOk.of (a0l a6m).names ["_law_feed_here","_law_many","_law_carts","_law_belts","_law_wide","_law_k","_law_ring","_law_long","_law_outs_here"] (by decide +kernel)) (a9d K (pv 3))
    (fun _ _ _ _=>(a1b (i:=0) (show List.Nodup (["_law_belt"]:List Str) by decide +kernel) rfl (Or.inl rfl))) (fun _ _ _ _=>b0j) (fun _ _ _ _=>(a1p (a4u K (by exact hu41)) a1r (a0c (pv 0)) (a0u (d:=.int 0) a0g))))) (a0b (a0c (pv 2)) a0f))) (a0d (a0d (a0d a0k))))))
   (a0r (a3h (b3x PySem.F.slot_list_insert PySem.F.type_list_insert b1u b2g (a0c (pv 3)) (a0b (a0u (d:=.int 0) a0g) (a0b (a2n (b6r (a0b (a4k T.F_l_name G_l_name (by exact hr.mono (by decide)) (a0b (a0c (pv 0)) (a0b (a0c (pv 5)) a0f)) (a0d (a0d a0k))) (a0b (a0c (pv 7)) (a0b (a0c (pv 6)) (a0b (a0c (pv 8)) a0f)))))) a0f)))))))))
   (a0r (a2d (b6r (a0b (b1v (a0c (pv 3))) (a0b (a0c (pv 2)) a0f))))))))))),rfl⟩)
end
end Carry
namespace Carry
open PySem L2
seal PE PA PT PS PSs
section
variable {P:Program} {w:World} {K:PySem.W.Frag} {mg:Str→Option Value} {base:Heap} {t:Adr}
theorem sc_right_house:FnScope ["house","belts","carts","taken"] ["house"] (a0l a5c):=⟨rfl,rfl,rfl,by decide +kernel,rfl,by decide +kernel,by decide +kernel⟩
noncomputable def a7f:GS:=(a0e (gsSet 1 (gBin oIx (gVar 0) (gC (.int 0))))
 (a0e (gsSet 2 (gBin oIx (gVar 0) (gC (.int 1))))
 (a0e (gsSet 3 c0e)
 (a0e (a1l (gCall a3l (a0a (gVar 2) (a0a (gVar 3) gaNil))))
 (a0e (a1l (gCall a3y (a0a (gVar 1) (a0a (gVar 3) gaNil))))
 (a0e (a1l (gCall a4q (a0a (gVar 1) (a0a (gVar 2) gaNil))))
 (a0e (a1l (gCall a4r (a0a (gVar 0) gaNil)))
 (gsRet (gC (.bl true))))))))))
noncomputable def a2z:GM:=runM 4 [false] a7f
theorem b3n(T:Txt K mg t)(G_check_belts:FnOk P w K mg base CX0 3 (t 3).1 (t 3).2 ["belts","taken"] (SpM K 2 a3y))(G_check_carts:FnOk P w K mg base CX0 3 (t 2).1 (t 2).2 ["carts","taken"] (SpM K 2 a3l))(G_check_hand:FnOk P w K mg base CX0 3 (t 6).1 (t 6).2 ["house"] (SpM K 1 a4r))(G_check_outs:FnOk P w K mg base CX0 2 (t 5).1 (t 5).2 ["belts","carts"] (SpM K 2 a4q)):FnOk P w K mg base CX0 4 (t 1).1 (t 1).2 ["house"] (SpM K 1 a2z):=
 a3n (k:=3) [false] a7f T.F_right_house.fn sc_right_house rfl rfl (by decide) fun cdv A outer s H E hr=>(by
  have hu:=a6c hr
  have hu40:=a2i hr
  have hu41:=a2m hr
  exact⟨_,(a0h (a1q (i:=1) sc_right_house.nd rfl (Or.inl rfl) (a1p (a4u K (by exact hu41)) a1r (a0c (pv 0)) (a0u (d:=.int 0) a0g)))
   (a0h (a1q (i:=2) sc_right_house.nd rfl (Or.inl rfl) (a1p (a4u K (by exact hu41)) a1r (a0c (pv 0)) (a0u (d:=.int 1) a0g)))
   (a0h (a1q (i:=3) sc_right_house.nd rfl (Or.inl rfl) c0f)
   (a0h (a3h (a1f T.F_check_carts G_check_carts (by exact hr.mono (by decide)) (a0b (a0c (pv 2)) (a0b (a0c (pv 3)) a0f)) (a0d (a0d a0k))))
   (a0h (a3h (a1f T.F_check_belts G_check_belts (by exact hr.mono (by decide)) (a0b (a0c (pv 1)) (a0b (a0c (pv 3)) a0f)) (a0d (a0d a0k))))
   (a0h (a3h (a1f T.F_check_outs G_check_outs (by exact hr.mono (by decide)) (a0b (a0c (pv 1)) (a0b (a0c (pv 2)) a0f)) (a0d (a0d a0k))))
   (a0h (a3h (a1f T.F_check_hand G_check_hand (by exact hr.mono (by decide)) (a0b (a0c (pv 0)) a0f) (a0d a0k)))
   (a0r (a2d (a0u (d:=.bl true) a9y)))))))))),rfl⟩)
end
end Carry
namespace Carry
open PySem L2
seal PE PA PT PS PSs
section
variable {P:Program} {w:World} {K:PySem.W.Frag} {mg:Str→Option Value} {base:Heap} {t:Adr}
theorem sc_read_house:FnScope ["text","belts","carts","number","line","words","house"] ["text"] (a0l a6a):=⟨rfl,rfl,rfl,by decide +kernel,rfl,by decide +kernel,by decide +kernel⟩
noncomputable def a7x:GS:=(a0e (gsSet 1 (gSeq .lst gaNil))
 (a0e (gsSet 2 (gSeq .lst gaNil))
 (a0e (b2q (a7i a8r (gVar 0) (a0a (gC (.str "\n")) gaNil)) (ggTup [(a0i 3),(a0i 4)])
  (a0e (gsSet 5 (gFrz (a7i a8r (gVar 4) (a0a (gC (.str " ")) gaNil))))
 (gsIf (gTru (a2u a1y (a0a (gVar 5) gaNil)))
  (a1l (gMut a1z (gVar 1) (a0a (gSeq .tup (a0a (gBin oIx (gVar 5) (gC (.int 1))) (a0a (gOp oIntS (a0a (gBin oIx (gVar 5) (gC (.int 2))) gaNil)) (a0a (gBin oEq (gBin oIx (gVar 5) (gC (.int 0))) (gC (.str "ring"))) (a0a (a7p (gVar 5) (a8p (gC (.int 4))) a9j) gaNil))))) gaNil)))
  (gsIf (gTru (a2u a3a (a0a (gVar 5) gaNil)))
  (a1l (gMut a1z (gVar 2) (a0a (gBin oIx (gVar 5) (gC (.int 1))) gaNil)))
  a5w))))
 (a0e (gsSet 6 (gSeq .tup (a0a (gMove (gVar 1)) (a0a (gMove (gVar 2)) gaNil))))
 (a0e (a1l (a2u a2z (a0a (gVar 6) gaNil)))
 (gsRet (gMove (gVar 6))))))))
noncomputable def a2g:GM:=runM 7 [false] a7x
theorem b5q(T:Txt K mg t)(G_is_belt_line:FnOk P w K mg base CX0 2 (t 10).1 (t 10).2 ["words"] (SpM K 1 a1y))(G_is_cart_line:FnOk P w K mg base CX0 1 (t 11).1 (t 11).2 ["words"] (SpM K 1 a3a))(G_right_house:FnOk P w K mg base CX0 4 (t 1).1 (t 1).2 ["house"] (SpM K 1 a2z)):FnOk P w K mg base CX0 5 (t 9).1 (t 9).2 ["text"] (SpM K 1 a2g):=
 a3n (k:=4) [false] a7x T.F_read_house.fn sc_read_house rfl rfl (by decide) fun cdv A outer s H E hr=>(by
  have hu:=a6c hr
  have hu40:=a2i hr
  have hu41:=a2m hr
  exact⟨_,(a0h (a1q (i:=1) sc_read_house.nd rfl (Or.inl rfl) (a4x a0f))
   (a0h (a1q (i:=2) sc_read_house.nd rfl (Or.inl rfl) (a4x a0f))
   (a0h (c5z PassesOwn.never T.b_enumerate (b1j PySem.F.slot_str_split PySem.F.type_str_split c1c c1e (a0c (pv 0)) (a0b (a0u (d:=.str "\n") a1d) a0f)) (b5y rfl (a2p (a1b (i:=3) sc_read_house.nd rfl (Or.inl rfl)) (a2p (a1b (i:=4) sc_read_house.nd rfl (Or.inl rfl)) b1o))) (b6u (a2q a1c (a2q a1c b1x)))
   (a0h (a1q (i:=5) sc_read_house.nd rfl (Or.inl rfl) (a2n (b1j PySem.F.slot_str_split PySem.F.type_str_split c1c c1e (a0c (pv 4)) (a0b (a0u (d:=.str " ") a1d) a0f))))
   (a0r (a3z (a5p (a4k T.F_is_belt_line G_is_belt_line (by exact hr.mono (by decide)) (a0b (a0c (pv 5)) a0f) (a0d a0k)))
   (a0r (a3h (b3x PySem.F.slot_list_append PySem.F.type_list_append a6i a7o (a0c (pv 1)) (a0b (b6r (a0b (a1p (a4u K (by exact hu41)) a1r (a0c (pv 5)) (a0u (d:=.int 1) a0g)) (a0b (a6k c6b d3i T.b_int b3r (a0b (a1p (a4u K (by exact hu41)) a1r (a0c (pv 5)) (a0u (d:=.int 2) a0g)) a0f)) (a0b (a5o (a5g K (by exact hu40)) a8v (a1p (a4u K (by exact hu41)) a1r (a0c (pv 5)) (a0u (d:=.int 0) a0g)) (a0u (d:=.str "ring") a1d)) (a0b (a9k (a0c (pv 5)) (b2i (a0u (d:=.int 4) a0g)) b2h) a0f))))) a0f))))
   (a0r (a3z (a5p (a4k T.F_is_cart_line G_is_cart_line (by exact hr.mono (by decide)) (a0b (a0c (pv 5)) a0f) (a0d a0k)))
   (a0r (a3h (b3x PySem.F.slot_list_append PySem.F.type_list_append a6i a7o (a0c (pv 2)) (a0b (a1p (a4u K (by exact hu41)) a1r (a0c (pv 5)) (a0u (d:=.int 1) a0g)) a0f))))
   (a0r a8z)))))))
   (a0h (a1q (i:=6) sc_read_house.nd rfl (Or.inl rfl) (b6r (a0b (b1v (a0c (pv 1))) (a0b (b1v (a0c (pv 2))) a0f))))
   (a0h (a3h (a4k T.F_right_house G_right_house (by exact hr.mono (by decide)) (a0b (a0c (pv 6)) a0f) (a0d a0k)))
   (a0r (a2d (b1v (a0c (pv 6)))))))))),rfl⟩)
end
end Carry
namespace Carry
open PySem L2
seal PE PA PT PS PSs
section
variable {P:Program} {w:World} {K:PySem.W.Frag} {mg:Str→Option Value} {base:Heap} {t:Adr}
theorem sc_l_alike:FnScope ["_law_found","_law_due","_law_k"] ["_law_found","_law_due"] (a0l a9w):=⟨rfl,rfl,rfl,by decide +kernel,rfl,by decide +kernel,by decide +kernel⟩
noncomputable def a3j (S:GM):GS:=(a0e (gsIf (gOrT (gTru (gOp oIsi (a0a (gVar 1) (a0a (gC (.ty "tuple")) gaNil)))) (gTru (gOp oIsi (a0a (gVar 1) (a0a (gC (.ty "list")) gaNil)))))
  (a0e (gsIf (gOrT (gT (gBin oNeA (gOp oIsi (a0a (gVar 0) (a0a (gC (.ty "tuple")) gaNil))) (gOp oIsi (a0a (gVar 1) (a0a (gC (.ty "tuple")) gaNil))))) (gT (gBin oNeA (gOp oIsi (a0a (gVar 0) (a0a (gC (.ty "list")) gaNil))) (gOp oIsi (a0a (gVar 1) (a0a (gC (.ty "list")) gaNil))))))
  (gsRet (gC (.bl false)))
  gsNil)
 (a0e (gsIf (gT (gBin oNeA (gOp oLen (a0a (gVar 0) gaNil)) (gOp oLen (a0a (gVar 1) gaNil))))
  (gsRet (gC (.bl false)))
  gsNil)
 (a0e (a9e (a0a (gOp oLen (a0a (gVar 1) gaNil)) gaNil) (a0i 2)
  (gsIf (gNotT (gTru (a2u S (a0a (gBin oIx (gVar 0) (gVar 2)) (a0a (gBin oIx (gVar 1) (gVar 2)) gaNil)))))
  (gsRet (gC (.bl false)))
  gsNil))
 (gsRet (gC (.bl true))))))
  gsNil)
 (a0e (gsIf (gTru (gOp oIsi (a0a (gVar 1) (a0a (gC (.ty "str")) gaNil))))
  (gsRet (gAndV (gOp oIsi (a0a (gVar 0) (a0a (gC (.ty "str")) gaNil))) (gBin oEq (gVar 0) (gVar 1))))
  gsNil)
 (gsRet (gAndV (gOp oIsi (a0a (gVar 0) (a0a (gC (.ty "int")) gaNil))) (gAndV (gBin oEq (gOp oIsi (a0a (gVar 0) (a0a (gC (.ty "bool")) gaNil))) (gOp oIsi (a0a (gVar 1) (a0a (gC (.ty "bool")) gaNil)))) (gBin oEq (gVar 0) (gVar 1)))))))
noncomputable def a1h:Nat→GM
 |0=>fun _=>none
 |n+1=>runM 3 [false,false] (a3j (a1h n))
theorem b1c(T:Txt K mg t):∀n:Nat,FnOk P w K mg base CX0 (1+n) (t 19).1 (t 19).2 ["_law_found","_law_due"] (SpM K 2 (a1h n))
 |0=>d3h
 |n+1=>by
  have G_self:=b1c T n
  exact a3n (k:=1+n) [false,false] (a3j (a1h n)) T.F_l_alike.fn sc_l_alike rfl rfl (by decide) fun cdv A outer s H E hr=>(by
   have hu:=a6c hr
   have hu40:=a2i hr
   have hu41:=a2m hr
   exact⟨_,(a0h (a3z (PW.pt (c4c (a5p (a0w (a2r K) a6l T.b_isinstance a6j (a0b (a0c (pv 1)) (a0b (a0u (d:=.ty "tuple") (b0d (by rfl) T.b_tuple b4o)) a0f)))) (b6s (a5p (a0w (a2r K) a6l T.b_isinstance a6j (a0b (a0c (pv 1)) (a0b (a0u (d:=.ty "list") (b0d (by rfl) T.b_list b4n)) a0f)))))))
   (a0h (a3z (PW.pt (c4c (a3g (c0t K (by exact hu40)) c0u (a0w (a2r K) a6l T.b_isinstance a6j (a0b (a0c (pv 0)) (a0b (a0u (d:=.ty "tuple") (b0d (by rfl) T.b_tuple b4o)) a0f))) (a0w (a2r K) a6l T.b_isinstance a6j (a0b (a0c (pv 1)) (a0b (a0u (d:=.ty "tuple") (b0d (by rfl) T.b_tuple b4o)) a0f)))) (b6s (a3g (c0t K (by exact hu40)) c0u (a0w (a2r K) a6l T.b_isinstance a6j (a0b (a0c (pv 0)) (a0b (a0u (d:=.ty "list") (b0d (by rfl) T.b_list b4n)) a0f))) (a0w (a2r K) a6l T.b_isinstance a6j (a0b (a0c (pv 1)) (a0b (a0u (d:=.ty "list") (b0d (by rfl) T.b_list b4n)) a0f)))))))
   (a0r (a2d (a0u (d:=.bl false) a9y)))
   a2t)
   (a0h (a3z (a3g (c0t K (by exact hu40)) c0u (a0w (a1s K) a4y T.b_len a4w (a0b (a0c (pv 0)) a0f)) (a0w (a1s K) a4y T.b_len a4w (a0b (a0c (pv 1)) a0f)))
   (a0r (a2d (a0u (d:=.bl false) a9y)))
   a2t)
   (a0h (b6w PassesOwn.never T.b_range (a0b (a0w (a1s K) a4y T.b_len a4w (a0b (a0c (pv 1)) a0f)) a0f) (a1b (i:=2) sc_l_alike.nd rfl (Or.inl rfl)) a1c
   (a0r (a3z (b0w (a5p (a4k T.F_l_alike G_self hr (a0b (a1p (a4u K (by exact hu41)) a1r (a0c (pv 0)) (a0c (pv 2))) (a0b (a1p (a4u K (by exact hu41)) a1r (a0c (pv 1)) (a0c (pv 2))) a0f)) (a0d (a0d a0k)))))
   (a0r (a2d (a0u (d:=.bl false) a9y)))
   a2t)))
   (a0r (a2d (a0u (d:=.bl true) a9y))))))
   a2t)
   (a0h (a3z (a5p (a0w (a2r K) a6l T.b_isinstance a6j (a0b (a0c (pv 1)) (a0b (a0u (d:=.ty "str") (b0d (by rfl) T.b_str c0a)) a0f))))
   (a0r (a2d (b1w (a0w (a2r K) a6l T.b_isinstance a6j (a0b (a0c (pv 0)) (a0b (a0u (d:=.ty "str") (b0d (by rfl) T.b_str c0a)) a0f))) (c0g (a5o (a5g K (by exact hu40)) a8v (a0c (pv 0)) (a0c (pv 1)))))))
   a2t)
   (a0r (a2d (b1w (a0w (a2r K) a6l T.b_isinstance a6j (a0b (a0c (pv 0)) (a0b (a0u (d:=.ty "int") (b0d (by rfl) T.b_int b3r)) a0f))) (b1w (a5o (a5g K (by exact hu40)) a8v (a0w (a2r K) a6l T.b_isinstance a6j (a0b (a0c (pv 0)) (a0b (a0u (d:=.ty "bool") (b0d (by rfl) T.b_bool c3w)) a0f))) (a0w (a2r K) a6l T.b_isinstance a6j (a0b (a0c (pv 1)) (a0b (a0u (d:=.ty "bool") (b0d (by rfl) T.b_bool c3w)) a0f)))) (c0g (a5o (a5g K (by exact hu40)) a8v (a0c (pv 0)) (a0c (pv 1)))))))))),rfl⟩)
theorem c2r(T:Txt K mg t):FnOk P w K mg base CX0 9 (t 19).1 (t 19).2 ["_law_found","_law_due"] (SpM K 2 (a1h 8)):=b1c T 8
end
end Carry
namespace Carry
open PySem L2
seal PE PA PT PS PSs
section
variable {P:Program} {w:World} {K:PySem.W.Frag} {mg:Str→Option Value} {base:Heap} {t:Adr}
theorem sc_law:FnScope ["_law_script","_law_feed_here","_law_house_here","_law_words","_law_found"] ["_law_script"] (a0l c9p):=⟨rfl,rfl,rfl,by decide +kernel,rfl,by decide +kernel,by decide +kernel⟩
noncomputable def d3p:GS:=(a0e (gsSet 1 (gCall a8i (a0a (gVar 0) gaNil)))
 (a0e (gsPut (gFrz (gCall a0y (a0a (gVar 1) (a0a (gC (.int 60)) gaNil)))) (gVar 1) (gC (.int 2)))
 (a0e (gsSet 2 (gFrz (gCall a6p (a0a (gVar 1) gaNil))))
 (a0e (gsSet 3 (gFrz (gCall a6o (a0a (gVar 1) (a0a (gVar 2) gaNil)))))
 (a0e (gsSet 4 (gCall a2g (a0a (gVar 3) gaNil)))
 (a0e (gsIf (gNotT (gTru (a2u (a1h 8) (a0a (gVar 4) (a0a (gVar 2) gaNil)))))
  (gsRet (gC (.bl false)))
  gsNil)
 (a0e (gsIf (gTruP 4 [0])
  (a0e (a1l (gMutC a1z 4 [0,0,3] [.str "x"]))
 (a1l (gMutC mPop 4 [0] [])))
  gsNil)
 (a0e (a1l (gMutC a1z 4 [1] [.str "y"]))
 (gsRet (a2u (a1h 8) (a0a (gCall a2g (a0a (gVar 3) gaNil)) (a0a (gVar 2) gaNil))))))))))))
noncomputable def d3q:GM:=runM 5 [false] d3p
theorem d6h(T:Txt K mg t)(G_l_alike:FnOk P w K mg base CX0 9 (t 19).1 (t 19).2 ["_law_found","_law_due"] (SpM K 2 (a1h 8)))(G_l_draw:FnOk P w K mg base CX0 1 (t 14).1 (t 14).2 ["_law_feed_here","_law_many"] (SpM K 2 a0y))(G_l_feed:FnOk P w K mg base CX0 1 (t 13).1 (t 13).2 ["_law_script"] (SpM K 1 a8i))(G_l_house:FnOk P w K mg base CX0 3 (t 17).1 (t 17).2 ["_law_feed_here"] (SpM K 1 a6p))(G_l_mixed:FnOk P w K mg base CX0 2 (t 18).1 (t 18).2 ["_law_feed_here","_law_house_here"] (SpM K 2 a6o))(G_read_house:FnOk P w K mg base CX0 5 (t 9).1 (t 9).2 ["text"] (SpM K 1 a2g)):FnOk P w K mg base CX0 10 (t 20).1 (t 20).2 ["_law_script"] (SpM K 1 d3q):=
 a3n (k:=9) [false] d3p T.F_law.fn sc_law rfl rfl (by decide) fun cdv A outer s H E hr=>(by
  have hu:=a6c hr
  have hu40:=a2i hr
  have hu41:=a2m hr
  exact⟨_,(a0h (a1q (i:=1) sc_law.nd rfl (Or.inl rfl) (a1f T.F_l_feed G_l_feed (by exact hr.mono (by decide)) (a0b (a0c (pv 0)) a0f) (a0d a0k)))
   (a0h (b7e (a2n (a1f T.F_l_draw G_l_draw (by exact hr.mono (by decide)) (a0b (a0c (pv 1)) (a0b (a0u (d:=.int 60) a0g) a0f)) (a0d (a0d a0k)))) (a0c (pv 1)) (a0u (d:=.int 2) a0g) (by exact hu41))
   (a0h (a1q (i:=2) sc_law.nd rfl (Or.inl rfl) (a2n (a1f T.F_l_house G_l_house (by exact hr.mono (by decide)) (a0b (a0c (pv 1)) a0f) (a0d a0k))))
   (a0h (a1q (i:=3) sc_law.nd rfl (Or.inl rfl) (a2n (a1f T.F_l_mixed G_l_mixed (by exact hr.mono (by decide)) (a0b (a0c (pv 1)) (a0b (a0c (pv 2)) a0f)) (a0d (a0d a0k)))))
   (a0h (a1q (i:=4) sc_law.nd rfl (Or.inl rfl) (a1f T.F_read_house G_read_house (by exact hr.mono (by decide)) (a0b (a0c (pv 3)) a0f) (a0d a0k)))
   (a0h (a3z (b0w (a5p (a4k T.F_l_alike G_l_alike (by exact hr.mono (by decide)) (a0b (a0c (pv 4)) (a0b (a0c (pv 2)) a0f)) (a0d (a0d a0k)))))
   (a0r (a2d (a0u (d:=.bl false) a9y)))
   a2t)
   (a0h (a3z (d3o (π:=[0]) (b9b (j:=0) (b7g (pv 4)) (by exact hu41)))
   (a0h (a3h (c5f (π:=[0,0,3]) (ds:=[.str "x"]) (vs:=[.str "x"]) PySem.F.slot_list_append PySem.F.type_list_append a6i a7o (b9b (j:=3) (b9b (j:=0) (b9b (j:=0) (b7g (pv 4)) (by exact hu41)) (by exact hu41)) (by exact hu41)) (a9z a1d pa_nil) rfl (fun _ _ _ h=>h)))
   (a0r (a3h (c9d (π:=[0]) PySem.F.slot_list_pop PySem.F.type_list_pop d5i d5w (b9b (j:=0) (b7g (pv 4)) (by exact hu41))))))
   a2t)
   (a0h (a3h (c5f (π:=[1]) (ds:=[.str "y"]) (vs:=[.str "y"]) PySem.F.slot_list_append PySem.F.type_list_append a6i a7o (b9b (j:=1) (b7g (pv 4)) (by exact hu41)) (a9z a1d pa_nil) rfl (fun _ _ _ h=>h)))
   (a0r (a2d (a4k T.F_l_alike G_l_alike (by exact hr.mono (by decide)) (a0b (a1f T.F_read_house G_read_house (by exact hr.mono (by decide)) (a0b (a0c (pv 3)) a0f) (a0d a0k)) (a0b (a0c (pv 2)) a0f)) (a0d (a0d a0k))))))))))))),rfl⟩)
end
end Carry
namespace Carry
open PySem L2
noncomputable def feedL (F:Feed):List O:=[.frz (.lst (F.ns.map .int)),.frz (.int F.pl),.frz (.int F.style),.frz (.int F.mode),.frz (.int F.num)]
noncomputable abbrev feedT (F:Feed):O:=.lst (feedL F)
noncomputable def feed0 (ns:List Int):Feed:=⟨ns,0,0,ns.getD 0 0 % 2,ns.getD 1 0⟩
theorem d1e(ds:List D)(n:Nat):cutD ds none (some (n:Int))=ds.take n:=by
 unfold cutD
 have e1:HT.sIx ds.length 0 none=0:=rfl
 have e2:HT.sIx ds.length ds.length (some (n:Int))=min n ds.length:=by
  unfold HT.sIx
  simp
  try omega
 rw[e1,e2]
 simp only[List.drop_zero,Nat.sub_zero]
 rw[List.take_eq_take_iff]
 omega
theorem cut2(ds:List D):cutD ds none (some 2)=ds.take 2:=d1e ds 2
theorem d6i(ds:List D):cutD ds none (some 120)=ds.take 120:=d1e ds 120
theorem ix54:ixN 5 4=some 4:=by decide
theorem ix51:ixN 5 1=some 1:=by decide
theorem ix52:ixN 5 2=some 2:=by decide
theorem at0(ns:List Int):atI ((ns.map D.int).take 2++[D.int 0,D.int 0]) 0=some (.int (ns.getD 0 0)):=by
 refine a3s (j:=0) ?_
 match ns with
 |[]=>rfl
 |[x]=>rfl
 |x::y::r=>rfl
theorem at1(ns:List Int):atI ((ns.map D.int).take 2++[D.int 0,D.int 0]) 1=some (.int (ns.getD 1 0)):=by
 refine a3s (j:=1) ?_
 match ns with
 |[]=>rfl
 |[x]=>rfl
 |x::y::r=>rfl
theorem qq0{α:Type _}{a:α}{l:List α}:(a::l)[0]?=some a:=rfl
theorem qq1{α:Type _}{a:α}{i:Nat}{l:List α}:(a::l)[i+1]?=l[i]?:=rfl
theorem qq2{α:Type _}{a:α}{l:List α}:(a::l).length=l.length+1:=rfl
theorem qq3{α:Type _}:([]:List α).length=0:=rfl
theorem qq4{α:Type _}{x a:α}{l:List α}:(x::l).set 0 a=a::l:=rfl
theorem qq5{α:Type _}{x a:α}{n:Nat}{l:List α}:(x::l).set (n+1) a=x::l.set n a:=rfl
theorem qq6{α β:Type _}{f:α→β}{a:α}{l:List α}:(a::l).map f=f a::l.map f:=rfl
theorem qq7{α β:Type _}{f:α→β}:([]:List α).map f=[]:=rfl
theorem qq8{α:Type _}{a:α}:List.replicate 0 a=[]:=rfl
theorem qq9{α:Type _}{a:α}{n:Nat}:List.replicate (n+1) a=a::List.replicate n a:=rfl
theorem qqa{α:Type _}{a:α}{l:List α}{i:Nat}:(a::l).take (i+1)=a::l.take i:=rfl
theorem qqb{α:Type _}{a:α}{l r:List α}:(a::l)++r=a::(l++r):=rfl
theorem qqc{α:Type _}(l:List α):[]++l=l:=rfl
theorem qqd{α:Type _}{l:List α}:l.take 0=[]:=rfl
theorem qqe:(false=true)=False:=Bool.false_eq_true
theorem qqf(n:Nat):0+n=n:=Nat.zero_add n
theorem d6j(ns:List Int)(h:ns.length≤63):a8i [.frz (.scr ns)]=some (feedT (feed0 ns),[none]):=by
 have c1:(min 2 ns.length≤999998)=True:=eq_true (by omega)
 have c2:(ns.map D.int).take 120=ns.map D.int:=List.take_of_length_le (by rw[List.length_map];omega)
 unfold a8i b5k
 simp only[a1w,qq6,qq7,qq2,qq3,qqf,Nat.reduceSub,qq9,qq8,qqb,qqc,a0x,a3i,a1v,a1t,a0j,a8d,a0t,qq0,↓evBind,b0l,b0m,a6f,b0o,↓evMap,a0p,c5o,cut2,a4c,a0m,Nat.reduceAdd,Nat.reduceLeDiff,a1n,a1i,if_true,a0o,a0n,d3d,c5i,a8b,d6c,d6b,List.length_take,List.length_map,c1,a5i,b4a,Nat.reduceLT,qq5,qq4,a2o,d6i,c2,qq1,a4o,a5s,at0,a5h,Int.reduceLT,decide_true,at1,a4h,qqa,qqd,a3r,a3p]
 rfl
theorem d6k(F:Feed)(m:Int)(h0:0 < m)(h1:m < 1073741824)(hp:0≤F.pl)(hl:F.ns.length≤63):a0y [feedT F,.frz (.int m)]=some (.frz (.int (drawV F m)),[some (feedT (drawF F m)),none]):=by
 unfold a0y b5l feedT feedL
 by_cases hm:F.mode=1
 ·have e1:drawV F m=F.num % m:=by unfold drawV;rw[if_pos hm]
  have e2:drawF F m={ F with num:=F.num / m}:=by unfold drawF;rw[if_pos hm]
  rw[e1,e2]
  simp only[hm,a1w,qq6,qq7,qq2,qq3,qqf,Nat.reduceAdd,Nat.reduceSub,qq9,qq8,qqb,qqc,a0x,a1j,a8c,a1t,a0j,a0t,qq0,↓evBind,a6f,a0m,a0o,a2x,Option.join_some,a0p,a0n,a4o,a7r,a9p,a3w,a6z,a2f,a4v,and_self,a7h,beq_self_eq_true,if_true,a3i,b5e,qq1,a5h,h0,decide_true,Nat.reduceLT,qq5,qq4,b3z,h1,b9e,ix54,↓evMap,a2o,a1m,a4h,qqa,qqd,b1f,a3r,a3p]
 ·have hm':(F.mode == 1)=false:=by simpa using hm
  have e1:drawV F m=(cellOf F * 48271+31 * F.pl) % 1000003 * 69621 % 999983 % m:=by unfold drawV;rw[if_neg hm]
  have e2:drawF F m={ F with pl:=F.pl+1}:=by unfold drawF;rw[if_neg hm]
  rw[e1,e2]
  have m1:∀x:Int,((-(2 ^ 64) < x∧x < 2 ^ 64∨(-(2 ^ 64):Int) < 31∧(31:Int) < 2 ^ 64)=True):=fun x=>eq_true (.inr ⟨by decide,by decide⟩)
  have m2:∀x:Int,((-(2 ^ 64) < x∧x < 2 ^ 64∨(-(2 ^ 64):Int) < 48271∧(48271:Int) < 2 ^ 64)=True):=fun x=>eq_true (.inr ⟨by decide,by decide⟩)
  have m3:∀x:Int,((-(2 ^ 64) < x∧x < 2 ^ 64∨(-(2 ^ 64):Int) < 69621∧(69621:Int) < 2 ^ 64)=True):=fun x=>eq_true (.inr ⟨by decide,by decide⟩)
  have m4:∀x:Int,(((-(2 ^ 64):Int) < 31∧(31:Int) < 2 ^ 64 ∨ -(2 ^ 64) < x∧x < 2 ^ 64)=True):=fun x=>eq_true (.inl ⟨by decide,by decide⟩)
  by_cases hc:(0:Int) < F.ns.length
  ·have hs:(F.ns.length:Int) < 1073741824:=by omega
   have hmod:0≤F.pl % (F.ns.length:Int)∧F.pl % (F.ns.length:Int) < F.ns.length:=⟨Int.emod_nonneg _ (by omega),Int.emod_lt_of_pos _ hc⟩
   have hat:atI (F.ns.map D.int) (F.pl % (F.ns.length:Int))=some (.int (F.ns.getD (F.pl % F.ns.length).toNat 0)):=by
    have hk':(F.pl % (F.ns.length:Int)).toNat < F.ns.length:=by omega
    have e:(F.ns.map D.int)[(F.pl % (F.ns.length:Int)).toNat]?=some (.int (F.ns.getD (F.pl % F.ns.length).toNat 0)):=by simp[hk']
    have z:=a3s e
    rwa [show(((F.pl % (F.ns.length:Int)).toNat:Nat):Int)=F.pl % (F.ns.length:Int) by omega] at z
   have ec:cellOf F=F.ns.getD (F.pl % F.ns.length).toNat 0+F.pl / F.ns.length * 31:=by unfold cellOf;rw[if_pos (by omega)]
   rw[ec]
   simp only[a1w,qq6,qq7,qq2,qq3,qqf,Nat.reduceAdd,Nat.reduceSub,qq9,qq8,qqb,qqc,a0x,a1j,a8c,a1t,a0j,a0t,qq0,↓evBind,a6f,a0m,a0o,a2x,Option.join_some,a0p,a0n,a4o,a7r,a9p,a3w,a6z,a2f,a4v,and_self,a7h,hm',if_true,qqe,a3i,b5e,qq1,a5h,h0,decide_true,Nat.reduceLT,qq5,qq4,b3z,h1,b9e,↓evMap,a1m,if_false,a7a,a1v,a3v,ix51,a5a,a9n,a6y,List.length_map,hc,a5s,hat,hs,b5d,m1,a2o,m2,m4,Int.reduceLT,m3,a4h,qqa,qqd,b1f,a3r,a3p]
  ·have ec:cellOf F=F.pl:=by unfold cellOf;rw[if_neg (by omega)]
   rw[ec]
   simp only[a1w,qq6,qq7,qq2,qq3,qqf,Nat.reduceAdd,Nat.reduceSub,qq9,qq8,qqb,qqc,a0x,a1j,a8c,a1t,a0j,a0t,qq0,↓evBind,a6f,a0m,a0o,a2x,Option.join_some,a0p,a0n,a4o,a7r,a9p,a3w,a6z,a2f,a4v,and_self,a7h,hm',if_true,qqe,a3i,b5e,qq1,a5h,h0,decide_true,Nat.reduceLT,qq5,qq4,b3z,h1,b9e,↓evMap,a1m,if_false,a7a,a1v,a3v,ix51,a5a,a9n,a6y,List.length_map,hc,decide_false,a2o,b5d,m2,m4,Int.reduceLT,m3,a4h,qqa,qqd,b1f,a3r,a3p]
end Carry
namespace L2
theorem b5r{g:GG}{f:GS}(P:Nat→Gm→Prop):∀(ds:List D) (i:Nat) (Γ:Gm),P i Γ→(∀j Γ d,ds[j]?=some d→P (i+j) Γ→∃Γ2,(g d Γ).bind f=some (.nx,Γ2)∧P (i+j+1) Γ2)→∃Γ',a1u g f ds Γ=some (.nx,Γ')∧P (i+ds.length) Γ'
 |[],i,Γ,h,_=>⟨Γ,rfl,h⟩
 |d::ds,i,Γ,h,st=>by
  obtain⟨Γ2,h2,h3⟩:=st 0 Γ d rfl h
  obtain⟨Γ',h4,h5⟩:=b5r P ds (i+1) Γ2 h3 fun j Γ d' e p=>by
   obtain⟨Γ2,b,c⟩:=st (j+1) Γ d' (by simpa using e) (by rw[show i+(j+1)=i+1+j by omega];exact p)
   exact⟨Γ2,b,by rw[show i+1+j+1=i+(j+1)+1 by omega];exact c⟩
  refine⟨Γ',?_,by rw[List.length_cons,show i+(ds.length+1)=i+1+ds.length by omega];exact h5⟩
  rw[a8g]
  cases q:g d Γ with
  |none=>rw[q] at h2;cases h2
  |some Γ1=>
   rw[q] at h2
   have h2:f Γ1=some (.nx,Γ2):=h2
   show(f Γ1).bind _=_
   rw[h2]
   exact h4
end L2
namespace Carry
open PySem L2
theorem c6q:∀k:Nat,k < 12→MulOk "y" ((k:Int) - 7):=by unfold MulOk;decide +kernel
theorem d3r:∀n:Nat,n < 3→((["","ab","zzz"]:List Str).getD n "").length≤4:=by decide +kernel
theorem d3s:∀n:Nat,n < 3→((["","ba","zz"]:List Str).getD n "").length≤4:=by decide +kernel
theorem c1h{xs:List Str}{k:Int}(h:0≤k∧k < xs.length):atI (xs.map fun x=>O.frz (.str x)) k=some (.frz (.str (xs.getD k.toNat ""))):=by
 have hk':k.toNat < xs.length:=by omega
 have e:(xs.map fun x=>O.frz (.str x))[k.toNat]?=some (.frz (.str (xs.getD k.toNat ""))):=by simp[hk']
 have z:=a3s e
 rwa [show((k.toNat:Nat):Int)=k by omega] at z
theorem d1f(F:Feed)(k:Int)(s0:0≤F.style)(s1:F.style < 60)(k0:0≤k)(k1:k < 12):a3k [.frz (feedT F).d,.frz (.int k)]=some (.frz (.str (a1o F.style k)),[none,none]):=by
 unfold a3k b5m feedT feedL
 have l8:(("zbdgkafe":Str).length≤1000000)=True:=eq_true (by decide +kernel)
 have l12:(("dbgkafelcjhi":Str).length≤1000000)=True:=eq_true (by decide +kernel)
 by_cases h5:F.style % 5=4
 ·have a0:=c1h (xs:=ws12) (k:=k) ⟨k0,by show k < (12:Nat);omega⟩
  have e:a1o F.style k=ws12.getD k.toNat "":=by unfold a1o;rw[if_pos h5]
  rw[e]
  generalize ws12.getD k.toNat ""=nm at *
  unfold ws12 at a0
  simp only[qq6,qq7] at a0
  simp only[a5i,a4z,a2f,a5j,a1w,qq6,qq7,qq2,qq3,qqf,Nat.reduceAdd,Nat.reduceSub,qq8,qqb,qqc,a0x,a1j,a8c,a1t,a0j,a0t,qq0,↓evBind,a6f,a0m,a0o,a0p,a0n,a4o,a5s,a9o,↓evMap,a5h,Int.reduceLT,decide_true,h5,if_true,a6z,a4v,and_self,a7h,beq_self_eq_true,a2o,a4c,Nat.reduceLeDiff,a1n,a1i,qq1,a7r,a0,a3w,a1m,a4h,qqa,qqd,a3r,a3p]
 have h5':(F.style % 5 == 4)=false:=by simpa using h5
 by_cases hm:F.style % 4=3
 ·obtain⟨kn,rfl,kl⟩:=a7g (n:=12) k0 k1
  have hmk:MulOk "y" ((kn:Int) - 7)=True:=eq_true (c6q kn kl)
  by_cases hk:(7:Int) < kn
  ·have e:a1o F.style kn=Txt.mul "y" (kn - 7):=by unfold a1o;rw[if_neg h5,if_pos hm,if_pos hk]
   rw[e]
   simp only[a5i,a4z,a2f,a5j,a1w,qq6,qq7,qq2,qq3,qqf,Nat.reduceAdd,Nat.reduceSub,qq8,qqb,qqc,a0x,a1j,a8c,a1t,a0j,a0t,qq0,↓evBind,a6f,a0m,a0o,a0p,a0n,a4o,a5s,a9o,↓evMap,a5h,Int.reduceLT,decide_true,if_true,a6z,a4v,and_self,a7h,h5',qqe,a2o,a4c,Nat.reduceLeDiff,a1n,a1i,qq1,a7r,a1m,if_false,hm,beq_self_eq_true,a1v,a8d,b0l,b0m,a3v,b0o,b2n,l8,c5l,hmk,hk,b7l,a7a,a3w,a4h,qqa,qqd,a3r,a3p]
  ·have e:a1o F.style kn=Txt.slice "zbdgkafe" none (some (kn+1)):=by unfold a1o;rw[if_neg h5,if_pos hm,if_neg hk]
   rw[e]
   simp only[a5i,a4z,a2f,a5j,a1w,qq6,qq7,qq2,qq3,qqf,Nat.reduceAdd,Nat.reduceSub,qq8,qqb,qqc,a0x,a1j,a8c,a1t,a0j,a0t,qq0,↓evBind,a6f,a0m,a0o,a0p,a0n,a4o,a5s,a9o,↓evMap,a5h,Int.reduceLT,decide_true,if_true,a6z,a4v,and_self,a7h,h5',qqe,a2o,a4c,Nat.reduceLeDiff,a1n,a1i,qq1,a7r,a1m,if_false,hm,beq_self_eq_true,a1v,a8d,b0l,b0m,a3v,b0o,b2n,l8,c5l,hmk,hk,decide_false,b7l,a5a,a3w,a4h,qqa,qqd,a3r,a3p]
 ·have m4:0≤F.style % 4∧F.style % 4 < 3:=by omega
  have m3:0≤F.style / 4 % 3∧F.style / 4 % 3 < 3:=by omega
  have a1:=c1h (xs:=["","ab","zzz"]) m4
  have a2:=c1h (xs:=["","ba","zz"]) m3
  simp only[qq6,qq7] at a1 a2
  have l1:=d3r (F.style % 4).toNat (by omega)
  have l2:=d3s (F.style / 4 % 3).toNat (by omega)
  have hm':(F.style % 4 == 3)=false:=by simpa using hm
  have c4:decide ((0:Int) < 4∧(4:Int) < 1073741824)=true:=by decide
  have e:a1o F.style k=((["","ab","zzz"]:List Str).getD (F.style % 4).toNat ""++chr1 (("dbgkafelcjhi":Str).cps.toList.getD k.toNat 0))++(["","ba","zz"]:List Str).getD (F.style / 4 % 3).toNat "":=by
   unfold a1o;rw[if_neg h5,if_neg hm]
  have a3:atI ("dbgkafelcjhi":Str).cps.toList k=some (("dbgkafelcjhi":Str).cps.toList.getD k.toNat 0):=c8k 0 k0 (by show k < (12:Nat);omega)
  have q1:((["","ab","zzz"]:List Str).getD (F.style % 4).toNat "").length+(⟨#[("dbgkafelcjhi":Str).cps.toList.getD k.toNat 0]⟩:Str).length≤1000000:=by show _+1≤_;omega
  have q2:((["","ab","zzz"]:List Str).getD (F.style % 4).toNat ""++(⟨#[("dbgkafelcjhi":Str).cps.toList.getD k.toNat 0]⟩:Str)).length+((["","ba","zz"]:List Str).getD (F.style / 4 % 3).toNat "").length≤1000000:=by
   rw[Str.length_append]
   show _+1+_≤_
   omega
  rw[e]
  simp only[a5i,a4z,a2f,a5j,a1w,qq6,qq7,qq2,qq3,qqf,Nat.reduceAdd,Nat.reduceSub,qq8,qqb,qqc,a0x,a1j,a8c,a1t,a0j,a0t,qq0,↓evBind,a6f,a0m,a0o,a0p,a0n,a4o,a5s,a9o,↓evMap,a5h,Int.reduceLT,decide_true,if_true,a6z,a4v,and_self,a7h,h5',qqe,a2o,a4c,Nat.reduceLeDiff,a1n,a1i,qq1,a7r,a1m,if_false,hm',a1v,a8d,b0l,b0m,a3v,b0o,b2n,a1,a3w,d6d,l12,a3,c5j,q1,a2,q2,a4h,qqa,qqd,a3r,a3p]
  rfl
end Carry
namespace Carry
open PySem L2
noncomputable abbrev fS (x:Str):O:=.frz (.str x)
theorem c1i(xs:List Str):xs.map fS=(xs.map D.str).map .frz:=by rw[List.map_map];rfl
theorem b9f(xs:List Str):O.dl (xs.map fS)=xs.map D.str:=by rw[c1i,b3v]
theorem d3t(xs:List Str):frzL (xs.map fS)=some (xs.map D.str):=by rw[c1i,a8b]
theorem b9g(x:Str):∀xs:List Str,((xs.map D.str).any fun z=>eqD z (.str x))=xs.contains x
 |[]=>rfl
 |y::r=>by
  rw[List.map_cons,List.any_cons,b9g x r,List.contains_cons,b1a]
  congr 1
  exact BEq.comm
theorem c6r(n:Nat)(xs:List Str):(xs.map D.str).all (okD n)=true:=by
 rw[List.all_eq_true]
 intro d hd
 obtain⟨y,_,rfl⟩:=List.mem_map.mp hd
 exact a6g n y
theorem b3e(neg:Bool)(x:Str)(xs:List Str):oInG neg [.frz (.str x),.lst (xs.map fS)]=some (.frz (.bl (if neg then !xs.contains x else xs.contains x))):=by
 unfold oInG
 have e:seqO (O.lst (xs.map fS)).d=some (xs.map D.str):=by rw[c1i];show some (O.dl _)=_;rw[b3v]
 simp only[dictO,e,Option.bind_some,a2f,a6g,c6r,and_self,if_true,b9g]
theorem c1j(neg:Bool)(x:Str)(xs:List Str):oInG neg [.frz (.str x),.frz (.lst (xs.map D.str))]=some (.frz (.bl (if neg then !xs.contains x else xs.contains x))):=by
 unfold oInG
 have e:seqO (.lst (xs.map D.str))=some (xs.map D.str):=rfl
 simp only[dictO,e,Option.bind_some,a2f,a6g,c6r,and_self,if_true,b9g]
theorem c6s(xs:List Str)(i:Int)(y:Str)(h0:0≤i)(h1:i < 1000000)(hl:xs.length < 1000000):a4g (.lst (xs.map fS)) [.frz (.int i),.frz (.str y)]=some (.lst ((insS xs i.toNat y).map fS),.frz .non):=by
 unfold a4g
 dsimp only
 rw[if_pos ⟨h0,h1,by rw[List.length_map];exact hl⟩]
 unfold insS
 rw[List.map_append,List.map_cons,List.map_take,List.map_drop]
theorem d3u{xs:List Str}{k:Int}(h0:0≤k)(h1:k < xs.length):atI ((xs.map D.str).map O.frz) k=some (.frz (.str (xs.getD k.toNat ""))):=by
 have z:=c1h ⟨h0,h1⟩
 rw[List.map_map]
 exact z
theorem b9h(later:List Str):∀(xs acc:List Str) (a:Option O),acc.length+xs.length < 1000000→∃a',compLoop (a0i 0) (gT (gBin (oInG false) (gVar 0) (gVar 1))) (gVar 0) (xs.map D.str) [a,some (.frz (.lst (later.map D.str)))] (acc.map fS) =
  some ((acc++xs.filter fun o=>later.contains o).map fS,[a',some (.frz (.lst (later.map D.str)))])
 |[],acc,a,_=>⟨a,by rw[List.map_nil,b7k,List.filter_nil,List.append_nil]⟩
 |x::xs,acc,a,h=>by
  rw[List.length_cons] at h
  have hl:(acc.map fS).length < 1000000:=by rw[List.length_map];omega
  cases hc:later.contains x with
  |true=>
   obtain⟨a',e⟩:=b9h later xs (acc++[x]) (some (fS x)) (by rw[List.length_append,List.length_singleton];omega)
   refine⟨a',?_⟩
   rw[List.filter_cons,if_pos hc,show acc++x::(xs.filter fun o=>later.contains o)=acc++[x]++(xs.filter fun o=>later.contains o) by simp]
   rw[←e,List.map_append]
   simp only[qq6,b2m,a2l,qq2,qq3,qqf,Nat.reduceAdd,Nat.reduceLT,qq4,if_true,↓evBind,a8c,a1t,a0j,a0t,qq0,qq1,a0m,a0o,a0p,a0n,c1j,qqe,hc,if_false,a1n,a1i,hl,qq7]
  |false=>
   obtain⟨a',e⟩:=b9h later xs acc (some (fS x)) (by omega)
   refine⟨a',?_⟩
   rw[List.filter_cons,if_neg (by rw[hc];exact Bool.false_ne_true)]
   rw[←e]
   simp only[qq6,b2m,a2l,qq2,qq3,qqf,Nat.reduceAdd,Nat.reduceLT,qq4,if_true,↓evBind,a8c,a1t,a0j,a0t,qq0,qq1,a0m,a0o,a0p,a0n,c1j,qqe,hc,if_false,a1n,a1i,hl]
structure GoodF (F:Feed):Prop where
 pos:0≤F.pl
 len:F.ns.length≤63
theorem GoodF.draw{F:Feed}(h:GoodF F)(m:Int):GoodF (drawF F m):=⟨c8o F m h.pos,by rw[c8n];exact h.len⟩
theorem xd{F:Feed}(h:GoodF F){m:Int}(h0:0 < m)(h1:m < 1073741824):a0y [feedT F,.frz (.int m)]=some (.frz (.int (drawV F m)),[some (feedT (drawF F m)),none]):=d6k F m h0 h1 h.pos h.len
theorem a4s{later carts:List Str}{F:Feed}{xs:List Str}(h:GoodF F):∀n,GoodF (a3b later carts n (F,xs)).1∧(a3b later carts n (F,xs)).2.length≤xs.length+n
 |0=>⟨h,Nat.le_refl _⟩
 |n+1=>by
  obtain⟨g1,g2⟩:=a4s (later:=later) (carts:=carts) (xs:=xs) h n
  show GoodF (a3f later carts _).1∧_
  unfold a3f
  dsimp only
  split
  ·refine⟨g1.draw _,?_⟩
   show(a3f later carts _).2.length≤_
   unfold a3f
   dsimp only
   rw[if_pos (by assumption)]
   dsimp only
   omega
  ·refine⟨(g1.draw _).draw _,?_⟩
   show(a3f later carts _).2.length≤_
   unfold a3f
   dsimp only
   rw[if_neg (by assumption)]
   dsimp only
   rw[c0b]
   omega
theorem d6l(F:Feed)(later carts:List Str)(h:GoodF F)(hl:later.length≤100)(hc0:0 < carts.length)(hc:carts.length≤100):
  a6b [feedT F,.frz (.lst (later.map .str)),.frz (.lst (carts.map .str))]=some (.lst ((outsM F later carts).2.map fS),[some (feedT (outsM F later carts).1),none,none]):=by
 have hd:=xd h (m:=3) (by decide) (by decide)
 have d0:=a0q F (m:=3) (by decide)
 have d1:=a2a F (m:=3) (by decide)
 have i1:int1 [.own (.frz (.int (1+drawV F 3)))]=some (1+drawV F 3):=b8v (by omega)
 obtain⟨Γ',eL,a,b,rfl⟩:=b5r (g:=a0i 4) (f:=a0e (gsSet 5 (gBin oIx (gBin oAdd (gVar 1) (gVar 2)) (gCall a0y (a0a (gVar 0) (a0a (gFrz (gBin oAdd (gOp oLen (a0a (gVar 1) gaNil)) (gOp oLen (a0a (gVar 2) gaNil)))) gaNil)))))
   (gsIf (gT (gBin (oInG true) (gVar 5) (gVar 3)))
    (a1l (gMut a4g (gVar 3) (a0a (gFrz (gCall a0y (a0a (gVar 0) (a0a (gFrz (gBin oAdd (gOp oLen (a0a (gVar 3) gaNil)) (gC (.int 1)))) gaNil)))) (a0a (gVar 5) gaNil))))
    gsNil))
  (fun i Γ=>∃a b,Γ=[some (feedT (a3b later carts i (drawF F 3,[])).1),some (.frz (.lst (later.map .str))),some (.frz (.lst (carts.map .str))),some (.lst ((a3b later carts i (drawF F 3,[])).2.map fS)),a,b])
  (rngD 0 (1+drawV F 3).toNat) 0 [some (feedT (drawF F 3)),some (.frz (.lst (later.map .str))),some (.frz (.lst (carts.map .str))),some (.lst []),none,none] ⟨none,none,rfl⟩ (by
   rintro j Γ d hd ⟨a,b,rfl⟩
   rw[Nat.zero_add] at *
   have hj:j < (1+drawV F 3).toNat:=by
    have:=(List.getElem?_eq_some_iff.mp hd).1
    simpa[rngD] using this
   obtain⟨g1,g2⟩:=a4s (later:=later) (carts:=carts) (xs:=[]) (h.draw 3) j
   rw[List.length_nil,Nat.zero_add] at g2
   show ∃Γ2,_∧∃a b,Γ2=[some (feedT (a3f later carts (a3b later carts j (drawF F 3,[]))).1),_,_,some (.lst ((a3f later carts (a3b later carts j (drawF F 3,[]))).2.map fS)),a,b]
   generalize a3b later carts j (drawF F 3,[])=p at *
   obtain⟨G,outs⟩:=p
   dsimp only at g1 g2 ⊢
   have hm0:(0:Int) < (later.length:Int)+carts.length:=by omega
   have hm1:(later.length:Int)+carts.length < 1073741824:=by omega
   have e1:=xd g1 hm0 hm1
   have v0:=a0q G hm0
   have v1:=a2a G hm0
   have hat:atI (((later++carts).map D.str).map O.frz) (drawV G (later.length+carts.length))=some (.frz (.str ((later++carts).getD (drawV G (later.length+carts.length)).toNat ""))):=d3u v0 (by rw[List.length_append];omega)
   have c1:(later.length+carts.length≤1000000)=True:=eq_true (by omega)
   cases hc:outs.contains ((later++carts).getD (drawV G (later.length+carts.length)).toNat "") with
   |true=>
    refine⟨_,by simp only[a2l,qq2,qq3,qqf,Nat.reduceAdd,Nat.reduceLT,qq5,qq4,if_true,↓evBind,a0x,a3i,a1t,a0j,a0t,qq1,qq0,a0m,a0o,a0p,a0n,c5k,List.length_map,c1,←List.map_append,a3d,a1v,a9n,a2f,a6y,↓evMap,a3v,a3e,a2c,a2b,e1,a5t,a4e,a4d,a4o,a7r,hat,a3w,a1j,a8c,a2x,Option.join_some,b3e,hc,Bool.not_true,qqe,a3c,a9m,a5i,a6f,a1m,if_false];rfl,?_⟩
    unfold a3f
    dsimp only
    rw[if_pos hc]
    exact⟨_,_,rfl⟩
   |false=>
    have hm2:(0:Int) < (outs.length:Int)+1:=by omega
    have hm3:(outs.length:Int)+1 < 1073741824:=by omega
    have e2:=xd (g1.draw (later.length+carts.length)) hm2 hm3
    have e3:=c6s outs (drawV (drawF G (later.length+carts.length)) (outs.length+1)) ((later++carts).getD (drawV G (later.length+carts.length)).toNat "") (a0q _ hm2) (by have:=a2a (drawF G (later.length+carts.length)) hm2;omega) (by omega)
    refine⟨_,by simp only[a2l,qq2,qq3,qqf,Nat.reduceAdd,Nat.reduceLT,qq5,qq4,if_true,↓evBind,a0x,a3i,a1t,a0j,a0t,qq1,qq0,a0m,a0o,a0p,a0n,c5k,List.length_map,c1,←List.map_append,a3d,a1v,a9n,a2f,a6y,↓evMap,a3v,a3e,a2c,a2b,e1,a5t,a4e,a4d,a4o,a7r,hat,a3w,a1j,a8c,a2x,Option.join_some,b3e,hc,Bool.not_false,a3c,a9m,a5i,b9f,a6f,e2,a1n,a1i,e3,a1m];rfl,?_⟩
    unfold a3f
    dsimp only
    rw[if_neg (by rw[hc];exact Bool.false_ne_true)]
    exact⟨_,_,rfl⟩)
 have hlen:(rngD 0 (1+drawV F 3).toNat).length=(1+drawV F 3).toNat:=by simp[rngD]
 rw[hlen,Nat.zero_add] at eL
 obtain⟨g1,g2⟩:=a4s (later:=later) (carts:=carts) (xs:=[]) (h.draw 3) (1+drawV F 3).toNat
 rw[List.length_nil,Nat.zero_add] at g2
 have eO:outsM F later carts=(let p:=a3b later carts (1+drawV F 3).toNat (drawF F 3,[])
  if(!p.2.contains (carts.getD 0 "") && decide (((p.2.filter fun o=>later.contains o).length:Int)=0))=true then(drawF p.1 (p.2.length+1),insS p.2 (drawV p.1 (p.2.length+1)).toNat (carts.getD 0 "")) else p):=rfl
 rw[eO]
 unfold a6b b5o
 generalize a3b later carts (1+drawV F 3).toNat (drawF F 3,[])=p at *
 obtain⟨G,outs⟩:=p
 dsimp only at eL g1 g2 ⊢
 have hat:atI (carts.map D.str) 0=some (.str (carts.getD 0 "")):=by
  refine a3s (j:=0) ?_
  cases carts with
  |nil=>simp at hc0
  |cons c r=>rfl
 obtain⟨a',eC⟩:=b9h later outs [] none (by rw[List.length_nil];omega)
 rw[List.map_nil,List.nil_append] at eC
 have hm2:(0:Int) < (outs.length:Int)+1:=by omega
 have hm3:(outs.length:Int)+1 < 1073741824:=by omega
 have e2:=xd g1 hm2 hm3
 have e3:=c6s outs (drawV G (outs.length+1)) (carts.getD 0 "") (a0q _ hm2) (by have:=a2a G hm2;omega) (by omega)
 cases hc:outs.contains (carts.getD 0 "") with
 |true=>
  simp only[a1w,qq6,qq7,qq2,qq3,qqf,Nat.reduceAdd,Nat.reduceSub,qq9,qq8,qqb,qqc,a0x,a3i,a4c,a0m,↓evBind,Nat.reduceLeDiff,a1i,if_true,Nat.reduceLT,qq5,qq4,c5g,a0j,a1t,a6f,a3d,a0t,qq0,a3e,a2c,a2b,hd,a5t,a4e,a4d,a0o,a0p,a0n,a3v,i1,eL,a1j,b9c,a8c,qq1,a4o,a5s,hat,↓evMap,a2x,Option.join_some,b3e,hc,Bool.not_true,qqe,a6x,b5f,List.mem_cons,Nat.reduceEqDiff,List.not_mem_nil,or_false,if_false,a3c,a9m,a1v,a9n,a5i,a6y,a2f,a1m,a2o,b0k,a4h,qqa,qqd,b1f,a3r,a3p,Bool.false_and]
 |false=>
  cases hz:decide (((outs.filter fun o=>later.contains o).length:Int)=0) with
  |true=>
   have hz':(((outs.filter fun o=>later.contains o).length:Int) == 0)=true:=by rw[←hz];exact Bool.beq_eq_decide_eq _ _
   simp only[a1w,qq6,qq7,qq2,qq3,qqf,Nat.reduceAdd,Nat.reduceSub,qq9,qq8,qqb,qqc,a0x,a3i,a4c,a0m,↓evBind,Nat.reduceLeDiff,a1i,if_true,Nat.reduceLT,qq5,qq4,c5g,a0j,a1t,a6f,a3d,a0t,qq0,a3e,a2c,a2b,hd,a5t,a4e,a4d,a0o,a0p,a0n,a3v,i1,eL,a1j,b9c,a8c,qq1,a4o,a5s,hat,↓evMap,a2x,Option.join_some,b3e,hc,Bool.not_false,a6x,b5f,List.mem_cons,Nat.reduceEqDiff,List.not_mem_nil,or_false,d3t,if_false,a9q,a5u,eC,List.drop_succ_cons,List.drop_zero,a9r,a5v,a9n,a5i,b9f,a6y,List.length_map,a6z,a2f,a4v,and_self,a7h,hz',a3c,a9m,a1v,e2,a1n,e3,a1m,a2o,b0k,a4h,qqa,qqd,b1f,a3r,a3p,Bool.true_and]
  |false=>
   have hz':(((outs.filter fun o=>later.contains o).length:Int) == 0)=false:=by rw[←hz];exact Bool.beq_eq_decide_eq _ _
   simp only[a1w,qq6,qq7,qq2,qq3,qqf,Nat.reduceAdd,Nat.reduceSub,qq9,qq8,qqb,qqc,a0x,a3i,a4c,a0m,↓evBind,Nat.reduceLeDiff,a1i,if_true,Nat.reduceLT,qq5,qq4,c5g,a0j,a1t,a6f,a3d,a0t,qq0,a3e,a2c,a2b,hd,a5t,a4e,a4d,a0o,a0p,a0n,a3v,i1,eL,a1j,b9c,a8c,qq1,a4o,a5s,hat,↓evMap,a2x,Option.join_some,b3e,hc,Bool.not_false,a6x,b5f,List.mem_cons,Nat.reduceEqDiff,List.not_mem_nil,or_false,d3t,if_false,a9q,a5u,eC,List.drop_succ_cons,List.drop_zero,a9r,a5v,a9n,a5i,b9f,a6y,List.length_map,a6z,a2f,a4v,and_self,a7h,hz',qqe,a3c,a9m,a1v,e2,a1n,e3,a1m,a2o,b0k,a4h,qqa,qqd,b1f,a3r,a3p,Bool.true_and]
end Carry
namespace Carry
open PySem L2
noncomputable def beltD (b:Belt):D:=.tup [.str b.name,.int b.long,.bl b.ring,.lst (b.outs.map .str)]
noncomputable def a2h (h:House):D:=.tup [.lst (h.belts.map beltD),.lst (h.carts.map .str)]
noncomputable abbrev fB (b:Belt):O:=.frz (beltD b)
theorem d8a(xs:List Belt):frzL (xs.map fB)=some (xs.map beltD):=by rw[show xs.map fB=(xs.map beltD).map .frz by rw[List.map_map];rfl,a8b]
theorem b0s:∀(xs:List Belt) (acc:List Str) (a:Option O),acc.length+xs.length < 1000000→∃a',compLoop (a0i 0) gYes (gBin oIx (gVar 0) (gC (.int 0))) (xs.map beltD) [a] (acc.map fS)=some ((acc++xs.map Belt.name).map fS,[a'])
 |[],acc,a,_=>⟨a,by rw[List.map_nil,b7k,List.map_nil,List.append_nil]⟩
 |x::xs,acc,a,h=>by
  rw[List.length_cons] at h
  have hl:(acc.map fS).length < 1000000:=by rw[List.length_map];omega
  obtain⟨a',e⟩:=b0s xs (acc++[x.name]) (some (fB x)) (by rw[List.length_append,List.length_singleton];omega)
  refine⟨a',?_⟩
  rw[List.map_cons (f:=Belt.name),show acc++x.name::xs.map Belt.name=acc++[x.name]++xs.map Belt.name by simp]
  rw[←e,List.map_append]
  simp only[qq6,beltD,b2m,a2l,qq2,qq3,qqf,Nat.reduceLT,qq4,if_true,↓evBind,c5h,a1t,a0j,a0t,qq0,a6f,a0m,a0o,a0p,a0n,a4o,b2o,a5a,↓evMap,a1n,a1i,hl,qq7]
  rfl
theorem b4f(F:Feed)(s0:0≤F.style)(s1:F.style < 60):∀(n j:Nat) (acc:List Str) (a:Option O),j+n≤12→acc.length+n < 1000000→∃a',compLoop (a0i 0) gYes (a2u a3k (a0a (gVar 1) (a0a (gBin oSub (gC (.int 11)) (gVar 0)) gaNil))) ((List.range' j n).map fun(k:Nat)=>D.int (0+(k:Int))) [a,some (feedT F)] (acc.map fS) =
  some ((acc++(List.range' j n).map fun(k:Nat)=>a1o F.style (11 - (0+(k:Int)))).map fS,[a',some (feedT F)])
 |0,j,acc,a,_,_=>⟨a,by rw[List.range'_zero,List.map_nil,b7k,List.map_nil,List.append_nil]⟩
 |n+1,j,acc,a,h,h2=>by
  have hl:(acc.map fS).length < 1000000:=by rw[List.length_map];omega
  obtain⟨a',e⟩:=b4f F s0 s1 n (j+1) (acc++[a1o F.style (11 - (0+(j:Int)))]) (some (.frz (.int (0+(j:Int))))) (by omega) (by rw[List.length_append,List.length_singleton];omega)
  refine⟨a',?_⟩
  have xn:=d1f F (11 - (0+(j:Int))) s0 s1 (by omega) (by omega)
  rw[List.range'_succ,List.map_cons,List.map_cons,show acc++a1o F.style (11 - (0+(j:Int)))::(List.range' (j+1) n).map (fun(k:Nat)=>a1o F.style (11 - (0+(k:Int))))=acc++[a1o F.style (11 - (0+(j:Int)))]++(List.range' (j+1) n).map (fun(k:Nat)=>a1o F.style (11 - (0+(k:Int)))) by simp]
  rw[←e,List.map_append]
  have xn':a3k [.frz (.lst (O.dl (feedL F))),.frz (.int (11 - (0+(j:Int))))]=_:=xn
  simp only[b2m,a2l,qq2,qq3,qqf,Nat.reduceAdd,Nat.reduceLT,qq4,if_true,↓evBind,c5h,a5b,a0j,a0t,qq1,qq0,a1t,a6f,a0m,a0o,a0p,a0n,a5h,a2x,Option.join_some,a4z,a5i,a2f,a5j,qq6,qq7,xn',c5q,a1n,a1i,hl]
theorem insB(xs:List Belt)(b:Belt)(hl:xs.length < 1000000):a4g (.lst (xs.map fB)) [.frz (.int 0),.frz (beltD b)]=some (.lst ((b::xs).map fB),.frz .non):=by
 unfold a4g
 dsimp only
 rw[if_pos ⟨by decide,by decide,by rw[List.length_map];exact hl⟩]
 rfl
theorem c2s{F:Feed}(h:GoodF F)(later carts:List Str):GoodF (outsM F later carts).1:=by
 obtain⟨g1,_⟩:=a4s (later:=later) (carts:=carts) (xs:=[]) (h.draw 3) (1+drawV F 3).toNat
 unfold outsM
 dsimp only
 split
 ·exact g1.draw _
 ·exact g1
theorem a5f{many wide:Int}{carts:List Str}{p:Feed×List Belt}(h:GoodF p.1):∀n,GoodF (a0z many wide carts n p).1
 |0=>h
 |n+1=>by
  have:=a5f (many:=many) (wide:=wide) (carts:=carts) h n
  exact c2s ((this.draw 3).draw 4) _ _
theorem c2t(many wide:Int)(G:Feed)(carts:List Str)(belts:List Belt)(k:Int)(g:GoodF G)(s0:0≤G.style)(s1:G.style < 60)(k0:0≤k)(k1:k < 12)(hb:belts.length≤100)(hc0:0 < carts.length)(hc:carts.length≤100)(a5 a6 a7 a8:Option O):
  ∃b6 b7 b8,(a0i 5 (.int k) [some (feedT G),some (.frz (.int many)),some (.frz (.lst (carts.map .str))),some (.lst (belts.map fB)),some (.frz (.int wide)),a5,a6,a7,a8]).bind
   (a0e (gsSet 6 (gBin oEq (gCall a0y (a0a (gVar 0) (a0a (gC (.int 3)) gaNil))) (gC (.int 0))))
 (a0e (gsSet 7 (gFrz (gBin oAdd (gBin oAdd (gBin oAdd (gC (.int 1)) (gOp oInt1 (a0a (gVar 6) gaNil))) (gCall a0y (a0a (gVar 0) (a0a (gC (.int 4)) gaNil)))) (gBin oMulA (gVar 4) (gOp oInt1 (a0a (gBin oEq (gVar 5) (gC (.int 0))) gaNil))))))
 (a0e (gsSet 8 (gFrz (gCall a6b (a0a (gVar 0) (a0a (gFrz (a4b (srcV 3 []) (a0i 0) gYes (gBin oIx (gVar 0) (gC (.int 0))) 1 [])) (a0a (gVar 2) gaNil))))))
 (a1l (gMut a4g (gVar 3) (a0a (gC (.int 0)) (a0a (gFrz (gSeq .tup (a0a (a2u a3k (a0a (gVar 0) (a0a (gVar 5) gaNil))) (a0a (gVar 7) (a0a (gVar 6) (a0a (gVar 8) gaNil)))))) gaNil))))))) =
  some (.nx,[some (feedT (outsM (drawF (drawF G 3) 4) (belts.map Belt.name) carts).1),some (.frz (.int many)),some (.frz (.lst (carts.map .str))),
   some (.lst ((⟨a1o (outsM (drawF (drawF G 3) 4) (belts.map Belt.name) carts).1.style k,1+(if(drawV G 3 == 0) then 1 else 0)+drawV (drawF G 3) 4+wide * (if(k == 0) then 1 else 0),drawV G 3 == 0,(outsM (drawF (drawF G 3) 4) (belts.map Belt.name) carts).2⟩::belts).map fB)),some (.frz (.int wide)),some (.frz (.int k)),b6,b7,b8]):=by
 have e1:=xd g (m:=3) (by decide) (by decide)
 have e2:=xd (g.draw 3) (m:=4) (by decide) (by decide)
 obtain⟨a',e3⟩:=b0s belts [] none (by rw[List.length_nil];omega)
 rw[List.map_nil,List.nil_append] at e3
 have e4:=d6l (drawF (drawF G 3) 4) (belts.map Belt.name) carts ((g.draw 3).draw 4) (by rw[List.length_map];exact hb) hc0 hc
 have hst:(outsM (drawF (drawF G 3) 4) (belts.map Belt.name) carts).1.style=G.style:=by simp only[a8t,a2j]
 generalize outsM (drawF (drawF G 3) 4) (belts.map Belt.name) carts=q at *
 obtain⟨G',outs⟩:=q
 dsimp only at hst e4 ⊢
 have e5:a3k [.frz (.lst (O.dl (feedL G'))),.frz (.int k)]=_:=d1f G' k (by rw[hst];exact s0) (by rw[hst];exact s1) k0 k1
 have mm:∀b:Bool,((-(2 ^ 64) < wide∧wide < 2 ^ 64∨(-(2 ^ 64):Int) < (if b=true then 1 else 0)∧(if b=true then(1:Int) else 0) < 2 ^ 64)=True):=fun b=>eq_true (.inr (by cases b <;> decide))
 have e6:=insB belts ⟨a1o G'.style k,1+(if(drawV G 3 == 0) then 1 else 0)+drawV (drawF G 3) 4+wide * (if(k == 0) then 1 else 0),drawV G 3 == 0,outs⟩ (by omega)
 unfold beltD at e6
 dsimp only at e6
 exact⟨some (.frz (.bl (drawV G 3 == 0))),some (.frz (.int (1+(if(drawV G 3 == 0) then 1 else 0)+drawV (drawF G 3) 4+wide * (if(k == 0) then 1 else 0)))),some (.frz (.lst (outs.map .str))),by
  simp only[a2l,qq2,qq3,qqf,Nat.reduceAdd,Nat.reduceLT,qq5,qq4,if_true,↓evBind,a0x,a3i,a1t,a0j,a3d,a0t,qq0,a6f,a0m,a3e,a2c,a2b,e1,a5t,a4e,a4d,a0o,a0p,a0n,a6z,a2f,a4v,and_self,a7h,a1v,qq1,b7l,a3v,e2,b5d,mm,a6x,b5f,List.not_mem_nil,d8a,↓evMap,if_false,qq9,qq8,a5u,qqb,qqc,e3,List.drop_succ_cons,List.drop_zero,a5v,a5i,b9f,e4,a3c,a9m,a4c,a5b,a2x,Option.join_some,a4z,a5j,qq6,qq7,e5,c5q,Nat.reduceLeDiff,a1n,a1i,c9g,e6]⟩
theorem dec01(a:Int):decide (V.int a=V.int 0)=(a == 0):=d1z
theorem c2u(st:Int)(n:Nat):a3t st n=(List.range' 0 n).map fun(k:Nat)=>a1o st (11 - (0+(k:Int))):=by unfold a3t;rw[List.range_eq_range']
theorem d3v(F:Feed)(h:GoodF F)(s0:0≤F.style)(s1:F.style < 60):
  a6p [feedT F]=some (.tup [.lst ((a8n 5 F).2.belts.map fB),.frz (.lst ((a8n 5 F).2.carts.map .str))],[some (feedT (a8n 5 F).1)]):=by
 have e1:=xd h (m:=7) (by decide) (by decide)
 have g1:=h.draw 7
 have e2:=xd g1 (m:=5) (by decide) (by decide)
 have g2:=g1.draw 5
 have m0:=a0q F (m:=7) (by decide)
 have m1:=a2a F (m:=7) (by decide)
 have n0:=a0q (drawF F 7) (m:=5) (by decide)
 have n1:=a2a (drawF F 7) (m:=5) (by decide)
 have i1:int1 [.own (.frz (.int (1+drawV (drawF F 7) 5)))]=some (1+drawV (drawF F 7) 5):=b8v (by omega)
 have st2:(drawF (drawF F 7) 5).style=F.style:=by simp only[a2j]
 obtain⟨a',eC⟩:=b4f (drawF (drawF F 7) 5) (by rw[st2];exact s0) (by rw[st2];exact s1) (1+drawV (drawF F 7) 5).toNat 0 [] none (by omega) (by rw[List.length_nil];omega)
 rw[List.map_nil,List.nil_append,st2,←c2u,←List.range_eq_range'] at eC
 have eC:compLoop (a0i 0) gYes (a2u a3k (a0a (gVar 1) (a0a (gBin oSub (gC (.int 11)) (gVar 0)) gaNil))) (rngD 0 (1+drawV (drawF F 7) 5).toNat) [none,some (feedT (drawF (drawF F 7) 5))] []=_:=eC
 have hcl:(a3t F.style (1+drawV (drawF F 7) 5).toNat).length=(1+drawV (drawF F 7) 5).toNat:=b3t _ _
 have eH:a8n 5 F=(let w:=wideM (drawV F 7) (drawF (drawF F 7) 5);let r:=a0z (drawV F 7) w.2 (a3t F.style (1+drawV (drawF F 7) 5).toNat) (drawV F 7).toNat (w.1,[]);(r.1,⟨r.2,a3t F.style (1+drawV (drawF F 7) 5).toNat⟩)):=rfl
 rw[eH]
 generalize hcd:a3t F.style (1+drawV (drawF F 7) 5).toNat=carts at *
 have i3:int3 [.own (.frz (.int (drawV F 7 - 1))),.own (.frz (.int (-1))),.own (.frz (.int (-1)))]=some (drawV F 7 - 1,-1):=d2r (by omega) (by omega)
 have key:∀(G:Feed) (wide:Int),GoodF G→G.style=F.style→∃a5 a6 a7 a8,a1u (a0i 5) (a0e (gsSet 6 (gBin oEq (gCall a0y (a0a (gVar 0) (a0a (gC (.int 3)) gaNil))) (gC (.int 0))))
 (a0e (gsSet 7 (gFrz (gBin oAdd (gBin oAdd (gBin oAdd (gC (.int 1)) (gOp oInt1 (a0a (gVar 6) gaNil))) (gCall a0y (a0a (gVar 0) (a0a (gC (.int 4)) gaNil)))) (gBin oMulA (gVar 4) (gOp oInt1 (a0a (gBin oEq (gVar 5) (gC (.int 0))) gaNil))))))
 (a0e (gsSet 8 (gFrz (gCall a6b (a0a (gVar 0) (a0a (gFrz (a4b (srcV 3 []) (a0i 0) gYes (gBin oIx (gVar 0) (gC (.int 0))) 1 [])) (a0a (gVar 2) gaNil))))))
 (a1l (gMut a4g (gVar 3) (a0a (gC (.int 0)) (a0a (gFrz (gSeq .tup (a0a (a2u a3k (a0a (gVar 0) (a0a (gVar 5) gaNil))) (a0a (gVar 7) (a0a (gVar 6) (a0a (gVar 8) gaNil)))))) gaNil))))))) (rngC (drawV F 7 - 1) (-1) (drawV F 7 - 1 - -1).toNat)
   [some (feedT G),some (.frz (.int (drawV F 7))),some (.frz (.lst (carts.map .str))),some (.lst []),some (.frz (.int wide)),none,none,none,none] =
   some (.nx,[some (feedT (a0z (drawV F 7) wide carts (drawV F 7).toNat (G,[])).1),some (.frz (.int (drawV F 7))),some (.frz (.lst (carts.map .str))),some (.lst ((a0z (drawV F 7) wide carts (drawV F 7).toNat (G,[])).2.map fB)),some (.frz (.int wide)),a5,a6,a7,a8]):=by
  intro G wide gG sG
  have hln:(rngC (drawV F 7 - 1) (-1) (drawV F 7 - 1 - -1).toNat).length=(drawV F 7).toNat:=by simp[rngC]
  obtain⟨Γ',eL,a5,a6,a7,a8,rfl⟩:=b5r (g:=a0i 5) (f:=a0e (gsSet 6 (gBin oEq (gCall a0y (a0a (gVar 0) (a0a (gC (.int 3)) gaNil))) (gC (.int 0))))
 (a0e (gsSet 7 (gFrz (gBin oAdd (gBin oAdd (gBin oAdd (gC (.int 1)) (gOp oInt1 (a0a (gVar 6) gaNil))) (gCall a0y (a0a (gVar 0) (a0a (gC (.int 4)) gaNil)))) (gBin oMulA (gVar 4) (gOp oInt1 (a0a (gBin oEq (gVar 5) (gC (.int 0))) gaNil))))))
 (a0e (gsSet 8 (gFrz (gCall a6b (a0a (gVar 0) (a0a (gFrz (a4b (srcV 3 []) (a0i 0) gYes (gBin oIx (gVar 0) (gC (.int 0))) 1 [])) (a0a (gVar 2) gaNil))))))
 (a1l (gMut a4g (gVar 3) (a0a (gC (.int 0)) (a0a (gFrz (gSeq .tup (a0a (a2u a3k (a0a (gVar 0) (a0a (gVar 5) gaNil))) (a0a (gVar 7) (a0a (gVar 6) (a0a (gVar 8) gaNil)))))) gaNil)))))))
   (fun i Γ=>∃a5 a6 a7 a8,Γ=[some (feedT (a0z (drawV F 7) wide carts i (G,[])).1),some (.frz (.int (drawV F 7))),some (.frz (.lst (carts.map .str))),some (.lst ((a0z (drawV F 7) wide carts i (G,[])).2.map fB)),some (.frz (.int wide)),a5,a6,a7,a8])
   (rngC (drawV F 7 - 1) (-1) (drawV F 7 - 1 - -1).toNat) 0 _ ⟨none,none,none,none,rfl⟩ (by
    rintro j Γ d hd ⟨a5,a6,a7,a8,rfl⟩
    have hj:j < (drawV F 7).toNat:=by
     have:=(List.getElem?_eq_some_iff.mp hd).1
     omega
    have ed:d=.int (drawV F 7 - 1+(j:Int) * -1):=by
     unfold rngC at hd
     rw[List.getElem?_map,List.getElem?_range (by omega)] at hd
     exact(Option.some.inj hd).symm
    subst ed
    rw[Nat.zero_add]
    have sJ:=a6e (drawV F 7) wide carts (G,[]) j
    obtain⟨b6,b7,b8,eb⟩:=c2t (drawV F 7) wide (a0z (drawV F 7) wide carts j (G,[])).1 carts (a0z (drawV F 7) wide carts j (G,[])).2 (drawV F 7 - 1+(j:Int) * -1) (a5f gG j) (by rw[sJ];show 0≤G.style;omega) (by rw[sJ];show G.style < 60;omega) (by omega) (by omega)
     (by rw[a7k];simp;omega) (by omega) (by omega) a5 a6 a7 a8
    exact⟨_,eb,_,b6,b7,b8,by
     show _=[some (feedT (a5n (drawV F 7) wide carts j (a0z (drawV F 7) wide carts j (G,[]))).1),_,_,some (.lst ((a5n (drawV F 7) wide carts j (a0z (drawV F 7) wide carts j (G,[]))).2.map fB)),_,_,_,_,_]
     unfold a5n
     dsimp only
     rw[dec01,dec01]
     rfl⟩)
  rw[hln,Nat.zero_add] at eL
  exact⟨a5,a6,a7,a8,eL⟩
 unfold a6p b3d
 have hw:wideM (drawV F 7) (drawF (drawF F 7) 5)=if drawV F 7 < 3 then(drawF (drawF (drawF (drawF F 7) 5) 2) 20,drawV (drawF (drawF F 7) 5) 2 * drawV (drawF (drawF (drawF F 7) 5) 2) 20) else(drawF (drawF F 7) 5,0):=rfl
 by_cases h3:drawV F 7 < 3
 ·rw[if_pos h3] at hw
  rw[hw]
  have e3:=xd g2 (m:=2) (by decide) (by decide)
  have e4:=xd (g2.draw 2) (m:=20) (by decide) (by decide)
  have p0:=a0q (drawF (drawF F 7) 5) (m:=2) (by decide)
  have p1:=a2a (drawF (drawF F 7) 5) (m:=2) (by decide)
  have mm:(-(2 ^ 64) < drawV (drawF (drawF F 7) 5) 2∧drawV (drawF (drawF F 7) 5) 2 < 2 ^ 64 ∨ -(2 ^ 64) < drawV (drawF (drawF (drawF F 7) 5) 2) 20∧drawV (drawF (drawF (drawF F 7) 5) 2) 20 < 2 ^ 64)=True:=eq_true (.inl ⟨by omega,by omega⟩)
  obtain⟨a5,a6,a7,a8,eL⟩:=key (drawF (drawF (drawF (drawF F 7) 5) 2) 20) (drawV (drawF (drawF F 7) 5) 2 * drawV (drawF (drawF (drawF F 7) 5) 2) 20) ((g2.draw 2).draw 20) (by simp only[a2j])
  dsimp only
  simp only[a1w,qq6,qq7,qq2,qq3,qqf,Nat.reduceSub,qq9,qq8,qqb,qqc,a0x,a3i,a1v,a3d,a0j,a0t,qq0,↓evBind,a6f,a0m,a3e,qq4,a2c,a2b,e1,a5t,a4e,a4d,a2f,Nat.reduceAdd,Nat.reduceLT,qq5,if_true,a6x,c0s,a1t,e2,a0o,a0p,a0n,a3v,i1,↓evMap,a9q,Option.join_some,a5u,eC,List.drop_succ_cons,List.drop_zero,a9r,a5v,a5i,b9f,a4c,Nat.reduceLeDiff,a1i,a1j,a8c,qq1,a5h,h3,decide_true,e3,e4,b5d,mm,a1m,d5z,d1b,Int.reduceNeg,i3,eL,a2o,b0k,a1n,a4h,qqa,qqd,b1f,a3p]
 ·rw[if_neg h3] at hw
  rw[hw]
  obtain⟨a5,a6,a7,a8,eL⟩:=key (drawF (drawF F 7) 5) 0 g2 st2
  dsimp only
  simp only[a1w,qq6,qq7,qq2,qq3,qqf,Nat.reduceSub,qq9,qq8,qqb,qqc,a0x,a3i,a1v,a3d,a0j,a0t,qq0,↓evBind,a6f,a0m,a3e,qq4,a2c,a2b,e1,a5t,a4e,a4d,a2f,Nat.reduceAdd,Nat.reduceLT,qq5,if_true,a6x,c0s,a1t,e2,a0o,a0p,a0n,a3v,i1,↓evMap,a9q,Option.join_some,a5u,eC,List.drop_succ_cons,List.drop_zero,a9r,a5v,a5i,b9f,a4c,Nat.reduceLeDiff,a1i,a1j,a8c,qq1,a5h,h3,decide_false,qqe,a1m,if_false,d5z,d1b,Int.reduceNeg,i3,eL,a2o,b0k,a1n,a4h,qqa,qqd,b1f,a3p]
end Carry
namespace Carry
open PySem L2
structure SmallH (h:House):Prop where
 bl:h.belts.length≤100
 ct:h.carts.length≤100
 ou:(h.belts.map fun x=>x.outs.length).sum≤900
noncomputable def Fwd (carts:List Str):List Belt→Prop
 |[]=>True
 |b::bs=>(∀o∈b.outs,o∈bs.map Belt.name∨o∈carts)∧b.name∉bs.map Belt.name∧b.name∉carts∧Fwd carts bs
theorem c1k{carts:List Str}:∀{bs:List Belt},Fwd carts bs→∀x∈bs,∀y∈bs,x.name=y.name→x=y
 |z::bs,f,x,hx,y,hy,e=>by
  rcases List.mem_cons.mp hx with hx1|hx1
  ·rcases List.mem_cons.mp hy with hy1|hy1
   ·rw[hx1,hy1]
   ·exact absurd (List.mem_map_of_mem (f:=Belt.name) hy1) (by rw[←e,hx1];exact f.2.1)
  ·rcases List.mem_cons.mp hy with hy1|hy1
   ·exact absurd (List.mem_map_of_mem (f:=Belt.name) hx1) (by rw[e,hy1];exact f.2.1)
   ·exact c1k f.2.2.2 x hx1 y hy1 e
theorem b9i{later carts:List Str}{p:Feed×List Str}(hm:0 < later.length+carts.length)(h:∀o∈p.2,o∈later++carts):∀o∈(a3f later carts p).2,o∈later++carts:=by
 have hm0:(0:Int) < (later.length:Int)+carts.length:=by omega
 have v0:=a0q p.1 hm0
 have v1:=a2a p.1 hm0
 have hx:(later++carts).getD (drawV p.1 (later.length+carts.length)).toNat ""∈later++carts:=by
  rw[List.getD_eq_getElem?_getD,List.getElem?_eq_getElem (by rw[List.length_append];omega)]
  exact List.getElem_mem _
 unfold a3f
 dsimp only
 split
 ·exact h
 ·intro o ho
  rcases mem_insS.mp ho with z|z
  ·rw[z];exact hx
  ·exact h o z
theorem b3f{later carts:List Str}{F:Feed}(hm:0 < later.length+carts.length):∀n,∀o∈(a3b later carts n (F,[])).2,o∈later++carts
 |0=>fun o m=>by cases m
 |n+1=>b9i hm (b3f hm n)
theorem c6t{F:Feed}{later carts:List Str}(hc:0 < carts.length):∀o∈(outsM F later carts).2,o∈later++carts:=by
 have hh:carts.getD 0 ""∈later++carts:=by
  cases carts with
  |nil=>simp at hc
  |cons c r=>simp
 have hi:=b3f (F:=drawF F 3) (later:=later) (carts:=carts) (by omega) (1+drawV F 3).toNat
 unfold outsM
 dsimp only
 split
 ·intro o ho
  rcases mem_insS.mp ho with z|z
  ·rw[z];exact hh
  ·exact hi o z
 ·exact hi
theorem c6u{F:Feed}{later carts:List Str}(h:GoodF F):(outsM F later carts).2.length≤4:=by
 have d0:=a0q F (m:=3) (by decide)
 have d1:=a2a F (m:=3) (by decide)
 obtain⟨_,g2⟩:=a4s (later:=later) (carts:=carts) (xs:=[]) (h.draw 3) (1+drawV F 3).toNat
 rw[List.length_nil] at g2
 unfold outsM
 dsimp only
 split
 ·dsimp only
  rw[c0b]
  omega
 ·omega
theorem c2v{F:Feed}{later carts:List Str}:carts.getD 0 ""∈(outsM F later carts).2∨∃o∈(outsM F later carts).2,o∈later:=by
 unfold outsM
 dsimp only
 split
 ·exact .inl (mem_insS.mpr (.inl rfl))
 ·rename_i hq
  by_cases hc:carts.getD 0 ""∈(a3b later carts (1+drawV F 3).toNat (drawF F 3,[])).2
  ·exact .inl hc
  ·right
   have hc':(a3b later carts (1+drawV F 3).toNat (drawF F 3,[])).2.contains (carts.getD 0 "")=false:=by
    rw[←Bool.not_eq_true,List.contains_iff_mem];exact hc
   have hq':=hq
   cases e:(a3b later carts (1+drawV F 3).toNat (drawF F 3,[])).2.filter fun x=>later.contains x with
   |nil=>
    exfalso
    apply hq
    rw[hc',e]
    rfl
   |cons o r=>
    have:o∈(a3b later carts (1+drawV F 3).toNat (drawF F 3,[])).2.filter fun x=>later.contains x:=by rw[e];exact .head _
    rw[List.mem_filter,List.contains_iff_mem] at this
    exact⟨o,this.1,this.2⟩
structure HInv (st many:Int) (carts:List Str) (i:Nat) (bs:List Belt):Prop where
 fwd:Fwd carts bs
 nm:∀b∈bs,∃k:Int,many - i≤k∧k < many∧b.name=a1o st k
 ln:(bs.map fun x=>x.outs.length).sum≤4 * i
 lg:∀b∈bs,1≤b.long∧b.long≤60
 hd:∀b∈bs,carts.getD 0 ""∈b.outs∨∃o∈b.outs,o∈bs.map Belt.name
theorem c1l{st many wide:Int}{carts:List Str}{F:Feed}(h:GoodF F)(hs:F.style=st)(s0:0≤st)(s1:st < 60)(m1:many≤6)(w0:0≤wide)(w1:wide≤19)(hc0:0 < carts.length)(hc:∀c∈carts,∃k:Int,7≤k∧k < 12∧c=a1o st k):
  ∀i:Nat,(i:Int)≤many→HInv st many carts i (a0z many wide carts i (F,[])).2
 |0,_=>⟨True.intro,fun b m=>(by cases m),Nat.le_refl _,fun b m=>(by cases m),fun b m=>(by cases m)⟩
 |i+1,hi=>by
  have ih:=c1l (wide:=wide) h hs s0 s1 m1 w0 w1 hc0 hc i (by omega)
  have gd:=a5f (many:=many) (wide:=wide) (carts:=carts) (p:=(F,[])) h i
  have sJ:=a6e many wide carts (F,[]) i
  show HInv st many carts (i+1) (a5n many wide carts i (a0z many wide carts i (F,[]))).2
  unfold a5n
  dsimp only
  have so:∀later,(outsM (drawF (drawF (a0z many wide carts i (F,[])).1 3) 4) later carts).1.style=st:=fun later=>by simp only[a8t,a2j];rw[sJ];exact hs
  rw[so]
  have ek:many - 1+(i:Int) * (-1)=many - 1 - i:=by omega
  rw[ek]
  refine⟨⟨fun o ho=>?_,fun hn=>?_,fun hn=>?_,ih.fwd⟩,fun b hb=>?_,?_,fun b hb=>?_,fun b hb=>?_⟩
  ·rcases List.mem_append.mp (c6t hc0 o ho) with z|z
   ·exact .inl z
   ·exact .inr z
  ·obtain⟨b,hb,e⟩:=List.mem_map.mp hn
   obtain⟨k,k1,k2,k3⟩:=ih.nm b hb
   have e:b.name=a1o st (many - 1 - i):=e
   rw[k3] at e
   have:=b0e s0 s1 (by omega) (by omega) (by omega) (by omega) e
   omega
  ·obtain⟨k,k1,k2,k3⟩:=hc _ hn
   have:=b0e s0 s1 (by omega) (by omega) (by omega) (by omega) k3
   omega
  ·rcases List.mem_cons.mp hb with rfl|hb
   ·exact⟨many - 1 - i,by omega,by omega,rfl⟩
   ·obtain⟨k,k1,k2,k3⟩:=ih.nm b hb
    exact⟨k,by omega,k2,k3⟩
  ·rw[List.map_cons,List.sum_cons]
   have:=c6u (later:=((a0z many wide carts i (F,[])).2.map Belt.name)) (carts:=carts) ((gd.draw 3).draw 4)
   have:=ih.ln
   dsimp only
   omega
  ·rcases List.mem_cons.mp hb with rfl|hb
   ·have d0:=a0q (drawF (a0z many wide carts i (F,[])).1 3) (m:=4) (by decide)
    have d1:=a2a (drawF (a0z many wide carts i (F,[])).1 3) (m:=4) (by decide)
    dsimp only
    have b1:∀x:Bool,0≤b01 x∧b01 x≤1:=fun x=>by cases x <;> decide
    have w2:∀x:Bool,0≤wide * b01 x∧wide * b01 x≤19:=fun x=>by cases x <;> simp[b01] <;> omega
    have q1:=b1 (decide (V.int (drawV (a0z many wide carts i (F,[])).1 3)=V.int 0))
    have q2:=w2 (decide (V.int (many - 1 - (i:Int))=V.int 0))
    constructor <;> omega
   ·exact ih.lg b hb
  ·rcases List.mem_cons.mp hb with rfl|hb
   ·rcases c2v (F:=drawF (drawF (a0z many wide carts i (F,[])).1 3) 4) (later:=(a0z many wide carts i (F,[])).2.map Belt.name) (carts:=carts) with z|⟨o,z1,z2⟩
    ·exact .inl z
    ·exact .inr ⟨o,z1,.tail _ z2⟩
   ·rcases ih.hd b hb with z|⟨o,z1,z2⟩
    ·exact .inl z
    ·exact .inr ⟨o,z1,.tail _ z2⟩
structure GoodH (st:Int) (h:House):Prop where
 fwd:Fwd h.carts h.belts
 sm:SmallH h
 nm:∀b∈h.belts,∃k:Int,0≤k∧k < 12∧b.name=a1o st k
 ol:∀b∈h.belts,b.outs.length≤24
 lg:∀b∈h.belts,1≤b.long∧b.long≤60
 hd:∀b∈h.belts,h.carts.getD 0 ""∈b.outs∨∃o∈b.outs,o∈h.belts.map Belt.name
 cn:h.carts.Nodup
 c0:0 < h.carts.length
 cm:∀c∈h.carts,∃k:Int,7≤k∧k < 12∧c=a1o st k
theorem d1g:∀{bs:List Belt} {b:Belt},b∈bs→b.outs.length≤(bs.map fun x=>x.outs.length).sum
 |x::bs,b,h=>by
  rw[List.map_cons,List.sum_cons]
  rcases List.mem_cons.mp h with rfl|h
  ·omega
  ·have:=d1g h
   omega
theorem c2w(F:Feed)(h:GoodF F)(s0:0≤F.style)(s1:F.style < 60):GoodH F.style (a8n 5 F).2:=by
 have m0:=a0q F (m:=7) (by decide)
 have m1:=a2a F (m:=7) (by decide)
 have n0:=a0q (drawF F 7) (m:=5) (by decide)
 have n1:=a2a (drawF F 7) (m:=5) (by decide)
 have hcl:(a3t F.style (1+drawV (drawF F 7) 5).toNat).length=(1+drawV (drawF F 7) 5).toNat:=b3t _ _
 have hcm:∀c∈a3t F.style (1+drawV (drawF F 7) 5).toNat,∃k:Int,7≤k∧k < 12∧c=a1o F.style k:=fun c m=>by
  unfold a3t at m
  obtain⟨k,hk,e⟩:=List.mem_map.mp m
  rw[List.mem_range] at hk
  exact⟨11 - (0+(k:Int)),by omega,by omega,e.symm⟩
 have gw:GoodF (wideM (drawV F 7) (drawF (drawF F 7) 5)).1:=by
  unfold wideM
  split
  ·exact(((h.draw 7).draw 5).draw 2).draw 20
  ·exact(h.draw 7).draw 5
 have sw:(wideM (drawV F 7) (drawF (drawF F 7) 5)).1.style=F.style:=by rw[b8t];simp only[a2j]
 have ww:0≤(wideM (drawV F 7) (drawF (drawF F 7) 5)).2∧(wideM (drawV F 7) (drawF (drawF F 7) 5)).2≤19:=by
  unfold wideM
  split
  ·have p0:=a0q (drawF (drawF F 7) 5) (m:=2) (by decide)
   have p1:=a2a (drawF (drawF F 7) 5) (m:=2) (by decide)
   have r0:=a0q (drawF (drawF (drawF F 7) 5) 2) (m:=20) (by decide)
   have r1:=a2a (drawF (drawF (drawF F 7) 5) 2) (m:=20) (by decide)
   have:drawV (drawF (drawF F 7) 5) 2=0∨drawV (drawF (drawF F 7) 5) 2=1:=by omega
   dsimp only
   rcases this with z|z <;> rw[z] <;> constructor <;> omega
  ·exact⟨Int.le_refl 0,by show(0:Int)≤19;decide⟩
 have bi:=c1l (wide:=(wideM (drawV F 7) (drawF (drawF F 7) 5)).2) gw sw s0 s1 (many:=drawV F 7) (by omega) ww.1 ww.2 (by omega) hcm (drawV F 7).toNat (by omega)
 have bl:=a7k (drawV F 7) (wideM (drawV F 7) (drawF (drawF F 7) 5)).2 (a3t F.style (1+drawV (drawF F 7) 5).toNat) ((wideM (drawV F 7) (drawF (drawF F 7) 5)).1,[]) (drawV F 7).toNat
 have ln:=bi.ln
 refine⟨bi.fwd,⟨?_,?_,?_⟩,fun b hb=>?_,fun b hb=>?_,bi.lg,bi.hd,?_,?_,hcm⟩
 ·show(a0z _ _ _ _ _).2.length≤100
  rw[bl];simp;omega
 ·show(a3t _ _).length≤100
  omega
 ·exact Nat.le_trans ln (by omega)
 ·obtain⟨k,k1,k2,k3⟩:=bi.nm b hb
  exact⟨k,by omega,by omega,k3⟩
 ·exact Nat.le_trans (d1g hb) (Nat.le_trans ln (by omega))
 ·show(a3t _ _).Nodup
  unfold a3t
  unfold List.Nodup
  rw[List.pairwise_map]
  refine List.Pairwise.imp_of_mem ?_ (List.nodup_range (n:=(1+drawV (drawF F 7) 5).toNat))
  intro i j hi hj hij e
  rw[List.mem_range] at hi hj
  have:=b0e s0 s1 (by omega) (by omega) (by omega) (by omega) e
  exact hij (by omega)
 ·show 0 < (a3t _ _).length
  omega
theorem b3g{carts:List Str}:∀{bs:List Belt},Fwd carts bs→∀c∈carts,c∉bs.map Belt.name
 |[],_,c,_,h=>by cases h
 |b::bs,f,c,hc,h=>by
  rcases List.mem_cons.mp h with z|z
  ·exact f.2.2.1 (by rw[←z];exact hc)
  ·exact b3g f.2.2.2 c hc z
theorem b0t{carts:List Str}:∀{xs ys:List Belt},Fwd carts (xs++ys)→Fwd carts ys
 |[],_,f=>f
 |_::xs,ys,f=>b0t (xs:=xs) f.2.2.2
end Carry
namespace Carry
open PySem L2
theorem d6m(ds:List D):oIsi [.frz (.lst ds),.frz (.ty "list")]=some (.frz (.bl true)):=by unfold oIsi;simp[kindD,isiB,O.d]
theorem d8b(x:Str):oIsi [.frz (.str x),.frz (.ty "str")]=some (.frz (.bl true)):=by unfold oIsi;simp[kindD,isiB,O.d]
theorem d8c(ds:List D):oIsi [.frz (.tup ds),.frz (.ty "tuple")]=some (.frz (.bl true)):=by unfold oIsi;simp[kindD,isiB,O.d]
theorem d8d(x:Bool):oIsi [.frz (.bl x),.frz (.ty "bool")]=some (.frz (.bl true)):=by unfold oIsi;simp[kindD,isiB,O.d]
theorem d8e(x:Int):oIsi [.frz (.int x),.frz (.ty "int")]=some (.frz (.bl true)):=by unfold oIsi;simp[kindD,isiB,O.d]
theorem d6n(x:Int):oIsi [.frz (.int x),.frz (.ty "bool")]=some (.frz (.bl false)):=by unfold oIsi;simp[kindD,isiB,O.d]
theorem d1h(n:Nat)(h:n≤1000):int1 [.own (.frz (.int (n:Int)))]=some (n:Int):=b8v (by omega)
theorem xh0(h:House):oIx1 (.frz (a2h h)) (.int 0)=some (.frz (.lst (h.belts.map beltD))):=by unfold a2h;simp only[b2o,a5a,Option.map_some]
theorem xh1(h:House):oIx1 (.frz (a2h h)) (.int 1)=some (.frz (.lst (h.carts.map .str))):=by unfold a2h;simp only[b2o,a7a,Option.map_some]
theorem xb0(b:Belt):oIx1 (.frz (beltD b)) (.int 0)=some (.frz (.str b.name)):=by unfold beltD;simp only[b2o,a5a,Option.map_some]
theorem xb3(b:Belt):oIx1 (.frz (beltD b)) (.int 3)=some (.frz (.lst (b.outs.map .str))):=by unfold beltD;simp only[b2o,a9p,Option.map_some]
theorem c6v(F:Feed)(v:Int):mSet (feedT F) [.frz (.int v),.frz (.int 2)]=some (feedT { F with style:=v},.frz .non):=by
 show((ixN (feedL F).length 2).map fun j=>(O.lst ((feedL F).set j (.frz (.int v))),O.frz .non))=_
 rw[show(feedL F).length=5 from rfl,ix52]
 rfl
end Carry
namespace Carry
open PySem L2
theorem slen(a b:Str):(a++b).length=a.length+b.length:=Str.length_append ..
noncomputable def glueL (z:Str):List Str→Str
 |[]=>Str.empty
 |y::ys=>ys.foldl (fun acc p=>acc++z++p) y
theorem b8a(z:Str):∀ys:List Str,Txt.join z ys=glueL z ys
 |[]=>rfl
 |y::ys=>by
  show Str.mk (ys.foldl (fun acc p=>acc++z.cps++p.cps) y.cps)=ys.foldl (fun acc p=>acc++z++p) y
  induction ys generalizing y with
  |nil=>rfl
  |cons x xs ih=>
   rw[List.foldl_cons,List.foldl_cons]
   exact ih (y++z++x)
theorem c6w(z:Str)(ys:List Str)(hz:z.length≤10)(hl:ys.length≤500)(hy:∀y∈ys,y.length≤1000):JoinOk z ys=true:=by
 have key:∀(ys:List Str) (a:Nat),(∀y∈ys,y.length≤1000)→ys.foldl (fun x1 x2=>x1+x2.length+z.length) a≤a+ys.length * 1010:=by
  intro ys
  induction ys with
  |nil=>intro a _;simp
  |cons y ys ih=>
   intro a h
   have h1:=h y (.head _)
   have h2:=ih (a+y.length+z.length) fun x m=>h x (.tail _ m)
   rw[List.foldl_cons,List.length_cons]
   omega
 unfold JoinOk Builtin.Str.tooLong
 have:=key ys 0 hy
 rw[List.foldl_toArray]
 rw[Bool.not_eq_true',decide_eq_false_iff_not,sizeLine_eq]
 omega
noncomputable def wrd (b:Belt):Str:=if b.ring=true then "ring" else "belt"
noncomputable def strI (i:Int):Str:=Str.ofString (toString i)
noncomputable def a1e (b:Belt):List Str:=[wrd b,b.name,strI b.long,"to"]++b.outs
noncomputable def lineB (b:Belt):Str:=glueL " " (a1e b)
noncomputable def lineC (c:Str):Str:=("cart ":Str)++c
theorem c9q:∀n:Nat,n < 61→(Str.ofString (toString (n:Int))).length≤4:=by decide +kernel
theorem c9r:∀n:Nat,n < 61→(n:Int).natAbs.log2 < 1920:=by decide +kernel
structure FewH (h:House):Prop where
 bl:h.belts.length≤100
 ct:h.carts.length≤100
 c0:0 < h.carts.length
 nm:∀b∈h.belts,b.name.length≤20
 cm:∀c∈h.carts,c.length≤20
 om:∀b∈h.belts,∀o∈b.outs,o.length≤20
 ol:∀b∈h.belts,b.outs.length≤24
 lg:∀b∈h.belts,(strI b.long).length≤4∧b.long.natAbs.log2 < 1920
theorem b5s{carts:List Str}:∀{bs:List Belt},Fwd carts bs→∀b∈bs,∀o∈b.outs,o∈bs.map Belt.name∨o∈carts
 |x::bs,f,b,hb,o,ho=>by
  rcases List.mem_cons.mp hb with rfl|hb
  ·rcases f.1 o ho with z|z
   ·exact .inl (.tail _ z)
   ·exact .inr z
  ·rcases b5s f.2.2.2 b hb o ho with z|z
   ·exact .inl (.tail _ z)
   ·exact .inr z
theorem d1i{st:Int}{h:House}(g:GoodH st h)(s0:0≤st)(s1:st < 60):FewH h:=by
 obtain⟨sn,rfl,hs⟩:=a7g (n:=60) s0 s1
 have nm:∀b∈h.belts,b.name.length≤20:=fun b hb=>by
  obtain⟨k,k0,k1,k2⟩:=g.nm b hb
  obtain⟨kn,rfl,hk⟩:=a7g (n:=12) k0 k1
  rw[k2];exact a8m sn hs kn hk
 have cm:∀c∈h.carts,c.length≤20:=fun c hc=>by
  obtain⟨k,k0,k1,k2⟩:=g.cm c hc
  obtain⟨kn,rfl,hk⟩:=a7g (n:=12) (x:=k) (by omega) k1
  rw[k2];exact a8m sn hs kn hk
 refine⟨g.sm.bl,g.sm.ct,g.c0,nm,cm,fun b hb o ho=>?_,g.ol,fun b hb=>?_⟩
 ·rcases b5s g.fwd b hb o ho with z|z
  ·obtain⟨x,hx,e⟩:=List.mem_map.mp z
   rw[←e];exact nm x hx
  ·exact cm o z
 ·obtain⟨n,hn,hl⟩:=a7g (n:=61) (x:=b.long) (by have:=(g.lg b hb).1;omega) (by have:=(g.lg b hb).2;omega)
  unfold strI
  rw[hn]
  exact⟨c9q n hl,c9r n hl⟩
theorem c6x(b:Belt):(wrd b).length=4:=by
 unfold wrd
 split <;> rfl
theorem c9s{h:House}(f:FewH h)(b:Belt)(hb:b∈h.belts):JoinOk " " (a1e b)=true:=by
 have ol:=f.ol b hb
 refine c6w " " (a1e b) (by decide) (by unfold a1e;simp;omega) fun y hy=>?_
 unfold a1e at hy
 rcases List.mem_append.mp hy with z|z
 ·have h1:=c6x b
  have h2:=f.nm b hb
  have h3:=(f.lg b hb).1
  simp only[List.mem_cons,List.not_mem_nil,or_false] at z
  rcases z with rfl|rfl|rfl|rfl
  ·omega
  ·omega
  ·omega
  ·decide
 ·have:=f.om b hb y z
  omega
theorem b8b(z:Str):∀(ys:List Str) (a:Str),(∀y∈ys,y.length≤20)→z.length≤1→(ys.foldl (fun acc p=>acc++z++p) a).length≤a.length+ys.length * 21
 |[],a,_,_=>by simp
 |y::ys,a,h,hz=>by
  have h1:=h y (.head _)
  have h2:=b8b z ys (a++z++y) (fun x m=>h x (.tail _ m)) hz
  rw[List.foldl_cons,List.length_cons]
  rw[slen,slen] at h2
  omega
noncomputable def headB (b:Belt):Str:=wrd b++" "++b.name++" "++strI b.long++" "++"to"
theorem c9t(b:Belt):lineB b=b.outs.foldl (fun(acc p:Str)=>acc++(" ":Str)++p) (headB b):=rfl
theorem c6y{h:House}(f:FewH h)(b:Belt)(hb:b∈h.belts):(headB b).length≤40:=by
 have h1:=c6x b
 have h2:=f.nm b hb
 have h3:=(f.lg b hb).1
 have h4:(" ":Str).length=1:=rfl
 have h5:("to":Str).length=2:=rfl
 unfold headB
 rw[slen,slen,slen,slen,slen,slen]
 omega
theorem b8c{h:House}(f:FewH h)(b:Belt)(hb:b∈h.belts):(lineB b).length≤600:=by
 have h1:=b8b " " b.outs (headB b) (f.om b hb) (by decide)
 have h2:=c6y f b hb
 have h3:=f.ol b hb
 rw[c9t]
 omega
theorem b8d{h:House}(f:FewH h)(c:Str)(hc:c∈h.carts):(lineC c).length≤600:=by
 have h1:=f.cm c hc
 have h4:("cart ":Str).length=5:=rfl
 unfold lineC
 rw[slen]
 omega
end Carry
namespace Carry
open PySem L2
noncomputable def isT:Option (O×Gm)→Bool
 |some (.frz (.bl true),[none])=>true
 |_=>false
theorem d1j{r:Option (O×Gm)}(h:isT r=true):r=some (.frz (.bl true),[none]):=by
 unfold isT at h
 split at h
 ·rfl
 ·cases h
theorem c9u:∀n:Nat,n < 61→intText? (Str.ofString (toString (n:Int)))=some (n:Int):=by decide +kernel
theorem d6o:∀n:Nat,n < 61→isT (a5m [.frz (.str (Str.ofString (toString (n:Int))))])=true:=by decide +kernel
theorem c6z:∀s:Nat,s < 60→∀k:Nat,k < 12→isT (a3x [.frz (.str (a1o (s:Int) (k:Int)))])=true:=by decide +kernel
noncomputable def a6q (x:Str):Bool:=decide (32∉x.cps.toList) && decide (10∉x.cps.toList) && decide (0 < x.length)
theorem c7a:∀s:Nat,s < 60→∀k:Nat,k < 12→a6q (a1o (s:Int) (k:Int))=true:=by decide +kernel
theorem d6p:∀n:Nat,n < 61→a6q (Str.ofString (toString (n:Int)))=true:=by decide +kernel
theorem a7y{x:Str}(h:a6q x=true):32∉x.cps.toList∧10∉x.cps.toList∧0 < x.length:=by
 unfold a6q at h
 rw[Bool.and_eq_true,Bool.and_eq_true,decide_eq_true_eq,decide_eq_true_eq,decide_eq_true_eq] at h
 exact⟨h.1.1,h.1.2,h.2⟩
theorem d6q(c:Nat)(p q:List Nat):∀r:List (List Nat),jl c ((p++q)::r)=p++jl c (q::r)
 |[]=>rfl
 |x::r=>by show(p++q)++c::jl c (x::r)=p++(q++c::jl c (x::r));rw[List.append_assoc]
theorem c7b(a b:Str):(a++b).cps.toList=a.cps.toList++b.cps.toList:=by rw[Str.cps_append,Array.toList_append]
theorem c1m(c:Nat):∀(ys:List Str) (a:Str),(ys.foldl (fun(acc p:Str)=>acc++(⟨#[c]⟩:Str)++p) a).cps.toList=jl c (a.cps.toList::cpsL ys)
 |[],a=>rfl
 |y::ys,a=>by
  rw[List.foldl_cons,c1m c ys,c7b,c7b,d6q,List.append_assoc]
  rfl
theorem b5t(c:Nat)(ps:List Str):(glueL ⟨#[c]⟩ ps).cps.toList=jl c (cpsL ps):=by
 cases ps with
 |nil=>rfl
 |cons p r=>exact c1m c r p
theorem c7c{c x:Nat}:∀{ps:List (List Nat)},x∈jl c ps→x=c∨∃p∈ps,x∈p
 |[],h=>by cases h
 |[p],h=>.inr ⟨p,.head _,h⟩
 |p::q::r,h=>by
  rcases List.mem_append.mp h with h|h
  ·exact .inr ⟨p,.head _,h⟩
  ·rcases List.mem_cons.mp h with h|h
   ·exact .inl h
   ·rcases c7c h with h|⟨y,hy,h⟩
    ·exact .inl h
    ·exact .inr ⟨y,.tail _ hy,h⟩
theorem b0u(c:Nat)(hc:c < 256)(ps:List Str)(h0:ps≠[])(hn:∀p∈ps,c∉p.cps.toList):a3q (glueL ⟨#[c]⟩ ps) ⟨#[c]⟩=ps:=c2l c hc _ ps h0 hn (b5t c ps)
structure PlainH (h:House):Prop where
 nm:∀b∈h.belts,a6q b.name=true∧isT (a3x [.frz (.str b.name)])=true
 cm:∀c∈h.carts,a6q c=true∧isT (a3x [.frz (.str c)])=true
 om:∀b∈h.belts,∀o∈b.outs,a6q o=true
 lg:∀b∈h.belts,a6q (strI b.long)=true∧isT (a5m [.frz (.str (strI b.long))])=true∧intText? (strI b.long)=some b.long
theorem c1n{st:Int}{h:House}(g:GoodH st h)(s0:0≤st)(s1:st < 60):PlainH h:=by
 obtain⟨sn,rfl,hs⟩:=a7g (n:=60) s0 s1
 have nm:∀b∈h.belts,a6q b.name=true∧isT (a3x [.frz (.str b.name)])=true:=fun b hb=>by
  obtain⟨k,k0,k1,k2⟩:=g.nm b hb
  obtain⟨kn,rfl,hk⟩:=a7g (n:=12) k0 k1
  rw[k2];exact⟨c7a sn hs kn hk,c6z sn hs kn hk⟩
 have cm:∀c∈h.carts,a6q c=true∧isT (a3x [.frz (.str c)])=true:=fun c hc=>by
  obtain⟨k,k0,k1,k2⟩:=g.cm c hc
  obtain⟨kn,rfl,hk⟩:=a7g (n:=12) (x:=k) (by omega) k1
  rw[k2];exact⟨c7a sn hs kn hk,c6z sn hs kn hk⟩
 refine⟨nm,cm,fun b hb o ho=>?_,fun b hb=>?_⟩
 ·rcases b5s g.fwd b hb o ho with z|z
  ·obtain⟨x,hx,e⟩:=List.mem_map.mp z
   rw[←e];exact(nm x hx).1
  ·exact(cm o z).1
 ·obtain⟨n,hn,hl⟩:=a7g (n:=61) (x:=b.long) (by have:=(g.lg b hb).1;omega) (by have:=(g.lg b hb).2;omega)
  unfold strI
  rw[hn]
  exact⟨d6p n hl,d6o n hl,c9u n hl⟩
theorem c9v:(" ":Str)=⟨#[32]⟩:=by decide +kernel
theorem d8f:("\n":Str)=⟨#[10]⟩:=by decide +kernel
theorem d6r(b:Belt):a6q (wrd b)=true:=by
 unfold wrd
 split
 ·decide +kernel
 ·decide +kernel
theorem b5u{h:House}(p:PlainH h){b:Belt}(hb:b∈h.belts):∀w∈a1e b,a6q w=true:=by
 intro w hw
 unfold a1e at hw
 rcases List.mem_append.mp hw with z|z
 ·simp only[List.mem_cons,List.not_mem_nil,or_false] at z
  rcases z with rfl|rfl|rfl|rfl
  ·exact d6r b
  ·exact(p.nm b hb).1
  ·exact(p.lg b hb).1
  ·decide +kernel
 ·exact p.om b hb w z
theorem d3w{h:House}(p:PlainH h){b:Belt}(hb:b∈h.belts):a3q (lineB b) " "=a1e b:=by
 unfold lineB
 rw[c9v]
 exact b0u 32 (by decide) _ (by unfold a1e;simp) fun w hw=>(a7y (b5u p hb w hw)).1
theorem c1o(c:Str):lineC c=glueL " " ["cart",c]:=by
 show("cart ":Str)++c=("cart":Str)++" "++c
 rfl
theorem d3x{h:House}(p:PlainH h){c:Str}(hc:c∈h.carts):a3q (lineC c) " "=[("cart":Str),c]:=by
 rw[c1o,c9v]
 refine b0u 32 (by decide) _ (by simp) fun w hw=>?_
 simp only[List.mem_cons,List.not_mem_nil,or_false] at hw
 rcases hw with rfl|rfl
 ·decide +kernel
 ·exact(a7y (p.cm _ hc).1).1
inductive Ln where
 |b (x:Belt)
 |c (x:Str)
noncomputable def Ln.s:Ln→Str
 |.b x=>lineB x
 |.c x=>lineC x
noncomputable def Ln.ok (h:House):Ln→Prop
 |.b x=>x∈h.belts
 |.c x=>x∈h.carts
theorem d3y{h:House}(p:PlainH h)(ls:List Ln)(h0:ls≠[])(hk:∀l∈ls,l.ok h):a3q (glueL "\n" (ls.map Ln.s)) "\n"=ls.map Ln.s:=by
 rw[d8f]
 refine b0u 10 (by decide) _ (fun z=>h0 (List.map_eq_nil_iff.mp z)) fun l hl=>?_
 obtain⟨x,hx,rfl⟩:=List.mem_map.mp hl
 have ho:=hk x hx
 intro z
 cases x with
 |b b=>
  have z:10∈(lineB b).cps.toList:=z
  unfold lineB at z
  rw[c9v,b5t] at z
  rcases c7c z with z|⟨q,hq,z⟩
  ·omega
  ·obtain⟨w,hw,rfl⟩:=List.mem_map.mp hq
   exact(a7y (b5u p ho w hw)).2.1 z
 |c c=>
  have z:10∈(lineC c).cps.toList:=z
  rw[c1o,c9v,b5t] at z
  rcases c7c z with y|⟨q,hq,y⟩
  ·omega
  ·obtain⟨w,hw,rfl⟩:=List.mem_map.mp hq
   simp only[List.mem_cons,List.not_mem_nil,or_false] at hw
   rcases hw with rfl|rfl
   ·revert y;decide +kernel
   ·exact(a7y (p.cm _ ho).1).2.1 y
end Carry
namespace Carry
open PySem L2
noncomputable abbrev fL (xs:List Str):O:=.frz (.lst (xs.map D.str))
theorem b5v(x:Str)(xs:List Str):oIx1 (fL (x::xs)) (.int 0)=some (.frz (.str x)):=by simp only[a5s,qq6,a5a,Option.map_some]
theorem c7d(x y:Str)(xs:List Str):oIx1 (fL (x::y::xs)) (.int 1)=some (.frz (.str y)):=by simp only[a5s,qq6,a7a,Option.map_some]
theorem c7e(x y z:Str)(xs:List Str):oIx1 (fL (x::y::z::xs)) (.int 2)=some (.frz (.str z)):=by simp only[a5s,qq6,a9o,Option.map_some]
theorem d3z(x y z w:Str)(xs:List Str):oIx1 (fL (x::y::z::w::xs)) (.int 3)=some (.frz (.str w)):=by simp only[a5s,qq6,a9p,Option.map_some]
theorem d6s(b:Belt):oInG false [.frz (.str (wrd b)),.tup [.frz (.str "belt"),.frz (.str "ring")]]=some (.frz (.bl true)):=by
 unfold wrd
 split <;> rfl
theorem c1p{ws:List Str}(h:∀w∈ws,a6q w=true):ws.contains ("":Str)=false:=by
 rw[←Bool.not_eq_true,List.contains_iff_mem]
 intro z
 have:=(a7y (h _ z)).2.2
 revert this
 decide
theorem c7f(xs:List Str):oLen [fL xs]=some (.frz (.int (xs.length:Nat))):=by
 simp only[a9n,a2f,a6y,List.length_map,Option.map_some,Option.bind_some]
theorem d8g{h:House}(p:PlainH h){b:Belt}(hb:b∈h.belts)(ho:b.outs≠[]):a1y [fL (a1e b)]=some (.frz (.bl true),[none]):=by
 have hi:=c1j false "" (a1e b)
 rw[c1p (b5u p hb),if_neg Bool.false_ne_true] at hi
 have hl:5≤(a1e b).length:=by
  unfold a1e
  have:=List.length_pos_iff.mpr ho
  simp
  omega
 have hl:=c7f (a1e b)
 have hn:=d1j (p.lg b hb).2.1
 have i0:oIx1 (fL (a1e b)) (.int 0)=some (.frz (.str (wrd b))):=b5v _ _
 have i2:oIx1 (fL (a1e b)) (.int 2)=some (.frz (.str (strI b.long))):=c7e _ _ _ _
 have i3:oIx1 (fL (a1e b)) (.int 3)=some (.frz (.str "to")):=d3z _ _ _ _ _
 have i4:=d6s b
 have c5:decide (((a1e b).length:Int) < 5)=false:=by simp;omega
 generalize a1e b=ws at *
 unfold a1y a4n
 simp only[a1w,qq6,qq7,qq2,qq3,qqf,Nat.reduceSub,qq8,qqb,qqc,a0x,a1j,a7q,a8c,a1t,a0j,a0t,qq0,↓evBind,a0m,a0o,a0p,a0n,hl,a6f,a5h,c5,if_true,qqe,hi,if_false,a2o,a1m,b2l,a4o,i0,a4c,Nat.reduceAdd,Nat.reduceLeDiff,a1n,a1i,i4,a5b,i2,a4z,a2f,a5j,hn,a8y,i3,a6z,a6g,and_self,b1a,beq_self_eq_true,a4h,qqa,qqd,a3r,a3p]
end Carry
namespace L2
theorem c9w{α:Type}(enc:α→D)(xs:List α):enumD (xs.map enc)=((List.range xs.length).zip xs).map fun(p:Nat×α)=>D.tup [.int (p.1:Nat),enc p.2]:=by
 unfold enumD
 rw[List.length_map,List.zipWith_map_right,List.map_zip_eq_zipWith]
 rfl
theorem b8e{α:Type}{g:GG}{f:GS}(enc:α→D)(P:List α→Gm→Prop)(xs:List α)(Γ:Gm)(h:P [] Γ)
  (st:∀q x post Γ (i:Int),xs=q++x::post→i=(q.length:Nat)→P q Γ→∃Γ2,(g (.tup [.int i,enc x]) Γ).bind f=some (.nx,Γ2)∧P (q++[x]) Γ2):∃Γ',a1u g f (enumD (xs.map enc)) Γ=some (.nx,Γ')∧P xs Γ':=by
 have hs:((List.range xs.length).zip xs).map Prod.snd=xs:=by rw[List.map_snd_zip];simp
 rw[c9w]
 obtain⟨Γ',e,p⟩:=a7b (g:=g) (f:=f) (fun(p:Nat×α)=>D.tup [.int (p.1:Nat),enc p.2]) (fun pre Γ=>P (pre.map Prod.snd) Γ) ((List.range xs.length).zip xs) [] Γ h (by
  intro q x post Γ e p
  rw[List.nil_append] at p ⊢
  have hx:xs=q.map Prod.snd++x.2::post.map Prod.snd:=by
   have:=congrArg (List.map Prod.snd) e
   rw[hs] at this
   rw[this,List.map_append,List.map_cons]
  have hi:x.1=q.length:=by
   have:((List.range xs.length).zip xs)[q.length]?=some x:=by rw[e,List.getElem?_append_right (Nat.le_refl _)];simp
   rw[List.getElem?_zip_eq_some] at this
   have h1:=this.1
   rw[List.getElem?_eq_some_iff] at h1
   obtain⟨hl,h1⟩:=h1
   rw[List.getElem_range] at h1
   exact h1.symm
  obtain⟨Γ2,a,b⟩:=st (q.map Prod.snd) x.2 (post.map Prod.snd) Γ (x.1:Nat) hx (by rw[hi,List.length_map]) p
  exact⟨Γ2,a,by rw[List.map_append];exact b⟩)
 exact⟨Γ',e,by rw[List.nil_append,hs] at p;exact p⟩
end L2
namespace Carry
open PySem L2
theorem d6t{h:House}(p:PlainH h){c:Str}(hc:c∈h.carts):a1y [fL ["cart",c]]=some (.frz (.bl false),[none]):=by
 have hl:=c7f ["cart",c]
 have c5:decide (((["cart",c]:List Str).length:Int) < 5)=true:=by simp
 generalize(["cart",c]:List Str)=ws at *
 unfold a1y a4n
 simp only[a1w,qq6,qq7,qq2,qq3,qqf,Nat.reduceSub,qq8,qqb,qqc,a0x,a1j,a7q,a8c,a1t,a0j,a0t,qq0,↓evBind,a0m,a0o,a0p,a0n,hl,a6f,a5h,c5,if_true,a2o,a1m,a4h,qqa,qqd,a3r,a3p]
theorem d8h{h:House}(p:PlainH h){c:Str}(hc:c∈h.carts):a3a [fL ["cart",c]]=some (.frz (.bl true),[none]):=by
 have hl:=c7f ["cart",c]
 rw[show((["cart",c]:List Str).length:Int)=2 from rfl] at hl
 have hi:=c1j true "" ["cart",c]
 rw[c1p (by
  intro w hw
  simp only[List.mem_cons,List.not_mem_nil,or_false] at hw
  rcases hw with rfl|rfl
  ·decide +kernel
  ·exact(p.cm _ hc).1),if_pos rfl] at hi
 have i0:oIx1 (fL ["cart",c]) (.int 0)=some (.frz (.str "cart")):=b5v _ _
 generalize(["cart",c]:List Str)=ws at *
 unfold a3a a6h
 simp only[a1w,qq6,qq7,qq2,qq3,qqf,Nat.reduceSub,qq8,qqb,qqc,a2o,b2l,a8c,a1t,a0j,a0t,qq0,↓evBind,a0m,a0o,a0p,a0n,hl,a6f,a6z,a2f,a4v,and_self,a7h,beq_self_eq_true,if_true,hi,Bool.not_false,a4o,i0,a6g,b1a,a4h,qqa,qqd,a3r,a3p]
noncomputable def ownB (b:Belt):O:=.tup [.frz (.str b.name),.frz (.int b.long),.frz (.bl b.ring),.lst (b.outs.map fS)]
noncomputable def readB:GS:=(a0e (gsSet 5 (gFrz (a7i a8r (gVar 4) (a0a (gC (.str " ")) gaNil))))
 (gsIf (gTru (a2u a1y (a0a (gVar 5) gaNil)))
  (a1l (gMut a1z (gVar 1) (a0a (gSeq .tup (a0a (gBin oIx (gVar 5) (gC (.int 1))) (a0a (gOp oIntS (a0a (gBin oIx (gVar 5) (gC (.int 2))) gaNil)) (a0a (gBin oEq (gBin oIx (gVar 5) (gC (.int 0))) (gC (.str "ring"))) (a0a (a7p (gVar 5) (a8p (gC (.int 4))) a9j) gaNil))))) gaNil)))
  (gsIf (gTru (a2u a3a (a0a (gVar 5) gaNil)))
  (a1l (gMut a1z (gVar 2) (a0a (gBin oIx (gVar 5) (gC (.int 1))) gaNil)))
  a5w)))
theorem c7g:a7x=(a0e (gsSet 1 (gSeq .lst gaNil))
 (a0e (gsSet 2 (gSeq .lst gaNil))
 (a0e (b2q (a7i a8r (gVar 0) (a0a (gC (.str "\n")) gaNil)) (ggTup [(a0i 3),(a0i 4)]) readB)
 (a0e (gsSet 6 (gSeq .tup (a0a (gMove (gVar 1)) (a0a (gMove (gVar 2)) gaNil))))
 (a0e (a1l (a2u a2z (a0a (gVar 6) gaNil)))
 (gsRet (gMove (gVar 6)))))))):=rfl
theorem sp_B{h:House}(f:FewH h)(p:PlainH h){b:Belt}(hb:b∈h.belts):a8r [.frz (.str (lineB b)),.frz (.str " ")]=some (.lst (((a1e b).map D.str).map .frz)):=by
 have h1:=b8c f b hb
 have h2:=f.ol b hb
 rw[b5h,d3w p hb,if_pos ⟨by decide,by omega,by unfold a1e;simp;omega⟩]
theorem sp_C{h:House}(f:FewH h)(p:PlainH h){c:Str}(hc:c∈h.carts):a8r [.frz (.str (lineC c)),.frz (.str " ")]=some (.lst ((([("cart":Str),c]:List Str).map D.str).map .frz)):=by
 have h1:=b8d f c hc
 rw[b5h,d3x p hc,if_pos ⟨by decide,by omega,by simp⟩]
theorem c7h{h:House}(f:FewH h)(p:PlainH h){b:Belt}(hb:b∈h.belts)(ho:b.outs≠[])(s0 s2 a3 a5 s6:Option O)(bs:List O)(hl:bs.length < 1000):
  ∃b5,readB [s0,some (.lst bs),s2,a3,some (.frz (.str (lineB b))),a5,s6]=some (.nx,[s0,some (.lst (bs++[ownB b])),s2,a3,some (.frz (.str (lineB b))),b5,s6]):=by
 have sb:=sp_B f p hb
 have e1:=d8g p hb ho
 have i0:oIx1 (fL (a1e b)) (.int 0)=some (.frz (.str (wrd b))):=b5v _ _
 have i1:oIx1 (fL (a1e b)) (.int 1)=some (.frz (.str b.name)):=c7d _ _ _
 have i2:oIx1 (fL (a1e b)) (.int 2)=some (.frz (.str (strI b.long))):=c7e _ _ _ _
 have hn:=(f.lg b hb).1
 have ei:oIntS [.frz (.str (strI b.long))]=some (.frz (.int b.long)):=by
  rw[d3j,if_pos (by omega),(p.lg b hb).2.2]
  rfl
 have eq:(wrd b == ("ring":Str))=b.ring:=by
  unfold wrd
  cases b.ring with
  |true=>decide +kernel
  |false=>decide +kernel
 have sl:slO (fL (a1e b)) (some 4) none=some (.lst ((b.outs.map D.str).map .frz)):=by
  show some (O.lst ((cutD ((a1e b).map D.str) (some 4) none).map .frz))=_
  have:cutD ((a1e b).map D.str) (some 4) none=b.outs.map D.str:=by
   unfold cutD
   have e4:HT.sIx ((a1e b).map D.str).length 0 (some 4)=4:=by
    unfold HT.sIx a1e
    simp
   have e5:HT.sIx ((a1e b).map D.str).length ((a1e b).map D.str).length none=((a1e b).map D.str).length:=rfl
   rw[e4,e5]
   unfold a1e
   simp
   exact List.take_of_length_le (by simp)
  rw[this]
 have eb:O.tup [.frz (.str b.name),.frz (.int b.long),.frz (.bl b.ring),.lst ((b.outs.map D.str).map .frz)]=ownB b:=by unfold ownB;rw[c1i]
 have ap:a1z (.lst bs) [ownB b]=some (.lst (bs++[ownB b]),.frz .non):=if_pos (by omega)
 generalize a1e b=ws at *
 generalize lineB b=ln at *
 refine⟨some (fL ws),?_⟩
 unfold readB
 simp only[a0x,a3i,a1v,a8h,a0t,qq1,qq0,↓evBind,a0j,a6f,a0m,a0o,a0p,a0n,sb,a5i,b4a,qq2,qq3,qqf,Nat.reduceAdd,Nat.reduceLT,qq5,qq4,if_true,a1j,a5r,a5b,a4z,a2f,a5j,qq6,qq7,e1,a8y,a4i,a3c,a9m,a4c,a1t,a4o,i1,i2,ei,i0,a6z,a6g,and_self,b1a,eq,a8d,b0m,b0o,↓evMap,b0l,sl,Nat.reduceLeDiff,a1n,a1i,eb,ap]
theorem c7i{h:House}(f:FewH h)(p:PlainH h){c:Str}(hc:c∈h.carts)(s0 s1 a3 a5 s6:Option O)(bs:List O)(hl:bs.length < 1000):
  ∃b5,readB [s0,s1,some (.lst bs),a3,some (.frz (.str (lineC c))),a5,s6]=some (.nx,[s0,s1,some (.lst (bs++[.frz (.str c)])),a3,some (.frz (.str (lineC c))),b5,s6]):=by
 have sb:=sp_C f p hc
 have e1:=d6t p hc
 have e2:=d8h p hc
 have i1:oIx1 (fL ["cart",c]) (.int 1)=some (.frz (.str c)):=c7d _ _ _
 have ap:a1z (.lst bs) [.frz (.str c)]=some (.lst (bs++[.frz (.str c)]),.frz .non):=if_pos (by omega)
 generalize([("cart":Str),c]:List Str)=ws at *
 generalize lineC c=ln at *
 refine⟨some (fL ws),?_⟩
 unfold readB
 simp only[a0x,a3i,a1v,a8h,a0t,qq1,qq0,↓evBind,a0j,a6f,a0m,a0o,a0p,a0n,sb,a5i,b4a,qq2,qq3,qqf,Nat.reduceAdd,Nat.reduceLT,qq5,qq4,if_true,a1j,a5r,a5b,a4z,a2f,a5j,qq6,qq7,e1,a8y,a4i,qqe,a3c,a9m,e2,a1t,a4o,i1,a1n,a1i,ap,a5x,if_false]
noncomputable def Ln.d (l:Ln):D:=.str l.s
noncomputable def lnB:List Ln→List Belt
 |[]=>[]
 |.b x::r=>x::lnB r
 |.c _::r=>lnB r
noncomputable def lnC:List Ln→List Str
 |[]=>[]
 |.b _::r=>lnC r
 |.c x::r=>x::lnC r
theorem b9j:∀(p q:List Ln),lnB (p++q)=lnB p++lnB q
 |[],_=>rfl
 |.b x::r,q=>by show x::lnB (r++q)=x::(lnB r++lnB q);rw[b9j]
 |.c _::r,q=>b9j r q
theorem b9k:∀(p q:List Ln),lnC (p++q)=lnC p++lnC q
 |[],_=>rfl
 |.c x::r,q=>by show x::lnC (r++q)=x::(lnC r++lnC q);rw[b9k]
 |.b _::r,q=>b9k r q
theorem b9l:∀(p:List Ln),(lnB p).length≤p.length
 |[]=>Nat.le_refl _
 |.b x::r=>by have:=b9l r;show(lnB r).length+1≤r.length+1;omega
 |.c _::r=>by have:=b9l r;show(lnB r).length≤r.length+1;omega
theorem b9m:∀(p:List Ln),(lnC p).length≤p.length
 |[]=>Nat.le_refl _
 |.c x::r=>by have:=b9m r;show(lnC r).length+1≤r.length+1;omega
 |.b _::r=>by have:=b9m r;show(lnC r).length≤r.length+1;omega
theorem d8i(ls:List Ln):ls.map Ln.d=(ls.map Ln.s).map D.str:=by rw[List.map_map];rfl
theorem c7j{h:House}(f:FewH h)(p:PlainH h)(ho:∀b∈h.belts,b.outs≠[])(ls:List Ln)(hlen:ls.length≤200)(hk:∀l∈ls,l.ok h)(s0 a3 a4 a5 s6:Option O):
  ∃b3 b4 b5,a1u (ggTup [(a0i 3),(a0i 4)]) readB (enumD ((ls.map Ln.s).map D.str)) [s0,some (.lst []),some (.lst []),a3,a4,a5,s6]=some (.nx,[s0,some (.lst ((lnB ls).map ownB)),some (.lst ((lnC ls).map fS)),b3,b4,b5,s6]):=by
 rw[←d8i]
 obtain⟨Γ',e,b3,b4,b5,rfl⟩:=b8e (g:=ggTup [(a0i 3),(a0i 4)]) (f:=readB) Ln.d (fun pre Γ=>∃b3 b4 b5,Γ=[s0,some (.lst ((lnB pre).map ownB)),some (.lst ((lnC pre).map fS)),b3,b4,b5,s6]) ls [s0,some (.lst []),some (.lst []),a3,a4,a5,s6] ⟨_,_,_,rfl⟩ (by
  rintro q x post Γ i eq hi ⟨b3,b4,b5,rfl⟩
  have hq:q.length≤200:=by have:=congrArg List.length eq;simp at this;omega
  have h1:=b9l q
  have h2:=b9m q
  have hx:=hk x (by rw[eq];simp)
  rw[b9j,b9k]
  cases x with
  |b x=>
   obtain⟨c5,e⟩:=c7h f p hx (ho x hx) s0 (some (.lst ((lnC q).map fS))) (some (.frz (.int i))) b5 s6 ((lnB q).map ownB) (by rw[List.length_map];omega)
   refine⟨_,(?_:Option.bind (ggTup [(a0i 3),(a0i 4)] (.tup [.int i,.str (lineB x)]) _) readB=_),some (.frz (.int i)),some (.frz (.str (lineB x))),c5,rfl⟩
   refine(show _=readB [s0,some (.lst ((lnB q).map ownB)),some (.lst ((lnC q).map fS)),some (.frz (.int i)),some (.frz (.str (lineB x))),b5,s6] from rfl).trans (e.trans ?_)
   simp[lnB,lnC]
  |c x=>
   obtain⟨c5,e⟩:=c7i f p hx s0 (some (.lst ((lnB q).map ownB))) (some (.frz (.int i))) b5 s6 ((lnC q).map fS) (by rw[List.length_map];omega)
   refine⟨_,(?_:Option.bind (ggTup [(a0i 3),(a0i 4)] (.tup [.int i,.str (lineC x)]) _) readB=_),some (.frz (.int i)),some (.frz (.str (lineC x))),c5,rfl⟩
   refine(show _=readB [s0,some (.lst ((lnB q).map ownB)),some (.lst ((lnC q).map fS)),some (.frz (.int i)),some (.frz (.str (lineC x))),b5,s6] from rfl).trans (e.trans ?_)
   simp[lnB,lnC])
 exact⟨b3,b4,b5,e⟩
end Carry
namespace Carry
open PySem L2
noncomputable abbrev d6u (h:House):O:=.tup [.lst (h.belts.map ownB),.lst (h.carts.map fS)]
theorem d6v(b:Belt):(ownB b).d=beltD b:=by unfold ownB beltD;simp only[a4z,a5j,a2f,a5i,c9g,b9f]
theorem b9n:∀bs:List Belt,O.dl (bs.map ownB)=bs.map beltD
 |[]=>by simp only[qq7,a5j]
 |b::bs=>by simp only[qq6,a4z,d6v,b9n bs]
theorem dl_B(bs:List Belt):O.dl (bs.map fB)=bs.map beltD:=by
 rw[show bs.map fB=(bs.map beltD).map O.frz by rw[List.map_map];rfl,b3v]
theorem d8j(cs:List Str):O.dl (cs.map fS)=cs.map D.str:=by
 rw[show cs.map fS=(cs.map D.str).map O.frz by rw[List.map_map];rfl,b3v]
theorem b8f(z:Str)(hz:z.length≤1):∀(ys:List Str) (a:Str),(∀y∈ys,y.length≤600)→(ys.foldl (fun acc p=>acc++z++p) a).length≤a.length+ys.length * 601
 |[],a,_=>by simp
 |y::ys,a,h=>by
  have h1:=h y (.head _)
  have h2:=b8f z hz ys (a++z++y) (fun x m=>h x (.tail _ m))
  rw[List.foldl_cons,List.length_cons]
  rw[slen,slen] at h2
  omega
theorem d1k{h:House}(f:FewH h){l:Ln}(hk:l.ok h):l.s.length≤600:=by
 cases l with
 |b b=>exact b8c f b hk
 |c c=>exact b8d f c hk
theorem c9x(ls:List Str)(hn:ls.length≤200)(hl:∀l∈ls,l.length≤600):(glueL "\n" ls).length≤200000:=by
 cases ls with
 |nil=>decide
 |cons l ls=>
  have h0:=hl l (.head _)
  have h1:=b8f "\n" (by decide) ls l fun y m=>hl y (.tail _ m)
  rw[List.length_cons] at hn
  show(ls.foldl (fun acc p=>acc++("\n":Str)++p) l).length≤_
  omega
structure Mix (h:House) (ls:List Ln):Prop where
 b:lnB ls=h.belts
 c:lnC ls=h.carts
 len:ls.length≤200
 ne:ls≠[]
 ok:∀l∈ls,l.ok h
theorem sp_H{h:House}(f:FewH h)(p:PlainH h){ls:List Ln}(m:Mix h ls):a8r [.frz (.str (glueL "\n" (ls.map Ln.s))),.frz (.str "\n")]=some (.lst (((ls.map Ln.s).map D.str).map .frz)):=by
 have h1:=c9x (ls.map Ln.s) (by rw[List.length_map];exact m.len) fun y hy=>by
  obtain⟨l,hl,rfl⟩:=List.mem_map.mp hy
  exact d1k f (m.ok l hl)
 have h2:=m.len
 rw[b5h,d3y p ls m.ne m.ok,if_pos ⟨by decide,by omega,by rw[List.length_map];omega⟩]
theorem d6w{h:House}(f:FewH h)(p:PlainH h)(ho:∀b∈h.belts,b.outs≠[])(hr:a2z [.frz (a2h h)]=some (.frz (.bl true),[none])){ls:List Ln}(m:Mix h ls):a2g [.frz (.str (glueL "\n" (ls.map Ln.s)))]=some (d6u h,[none]):=by
 have sH:=sp_H f p m
 obtain⟨b3,b4,b5,el⟩:=c7j f p ho ls m.len m.ok (some (.frz (.str (glueL "\n" (ls.map Ln.s))))) none none none none
 rw[m.b,m.c] at el
 unfold a2h at hr
 have dB:=b9n h.belts
 have dC:=d8j h.carts
 unfold a2g
 rw[c7g]
 generalize glueL "\n" (ls.map Ln.s)=tx at *
 generalize ls.map Ln.s=lt at *
 simp only[a1w,qq6,qq7,qq2,qq3,qqf,Nat.reduceSub,qq9,qq8,qqb,qqc,a0x,a3i,a4c,a0m,↓evBind,Nat.reduceLeDiff,a1i,if_true,Nat.reduceAdd,Nat.reduceLT,qq5,qq4,c5y,a1v,a8h,a0t,qq0,a0j,a6f,a0o,a0p,a0n,sH,a5i,b4a,el,b0k,qq1,a1n,a3c,a5b,a2x,Option.join_some,a4z,c9g,dB,dC,a5j,hr,a8y,a2o,a4h,qqa,qqd,a3r,a3p]
end Carry
namespace Carry
open PySem L2
theorem b9o(bs:List Belt)(h:bs.length < 1000000):a1x [.frz (.lst (bs.map beltD))]=some (.lst ((bs.map Belt.name).map fS),[none]):=by
 obtain⟨a',e⟩:=b0s bs [] none (by rw[List.length_nil];omega)
 rw[List.map_nil,List.nil_append] at e
 unfold a1x a7u
 simp only[a1w,qq6,qq7,qq2,qq3,qqf,Nat.reduceSub,qq8,qqb,qqc,a2o,a6x,b9d,a1v,a0t,qq0,↓evBind,a2f,qq9,a5u,e,Nat.reduceAdd,List.drop_succ_cons,List.drop_zero,a5v,if_true,a4h,qqa,qqd,a3r,a3p]
noncomputable def kd (ks:List Str):List (TK×O):=ks.map fun k=>(TK.inr k,.frz (.bl true))
noncomputable def kdD (ks:List Str):List (TK×D):=ks.map fun k=>(TK.inr k,.bl true)
noncomputable def addS (ks:List Str) (k:Str):List Str:=if ks.contains k then ks else ks++[k]
theorem d6x:∀ks:List Str,O.dk (kd ks)=kdD ks
 |[]=>rfl
 |k::ks=>by
  show(_,_)::O.dk (kd ks)=_
  rw[d6x ks];rfl
theorem d1l(x:Str):∀ks:List Str,(valD (kdD ks) (.inr x)).isSome=ks.contains x
 |[]=>rfl
 |k::ks=>by
  have ih:=d1l x ks
  unfold valD kdD at *
  rw[List.map_cons,List.find?_cons,List.contains_cons]
  by_cases e:k=x
  ·rw[decide_eq_true (by rw[e]),e,beq_self_eq_true]
   rfl
  ·rw[decide_eq_false (fun z=>e (TK.inr.inj z)),show(x == k)=false by rw[beq_eq_false_iff_ne];exact fun z=>e z.symm]
   rw[Bool.false_or]
   exact ih
theorem c1q(neg:Bool)(x:Str)(ks:List Str):oInG neg [.frz (.str x),.dct (kd ks)]=some (.frz (.bl (if neg then !ks.contains x else ks.contains x))):=by
 unfold oInG
 simp only[dictO,d6x,keyD,Option.bind_some,d1l]
theorem d1m(k:Str):∀ks:List Str,putG (kd ks) (.inr k) (.frz (.bl true))=kd (addS ks k)
 |[]=>rfl
 |j::ks=>by
  have ih:=d1m k ks
  show(if(TK.inr j)=TK.inr k then(TK.inr j,O.frz (.bl true))::kd ks else(TK.inr j,O.frz (.bl true))::putG (kd ks) (.inr k) (.frz (.bl true)))=_
  unfold addS at *
  rw[List.contains_cons]
  by_cases e:j=k
  ·rw[if_pos (by rw[e]),e,beq_self_eq_true,Bool.true_or,if_pos rfl];rfl
  ·rw[if_neg (fun z=>e (TK.inr.inj z)),ih,show(k == j)=false by rw[beq_eq_false_iff_ne];exact fun z=>e z.symm,Bool.false_or]
   cases ks.contains k with
   |true=>rw[if_pos rfl,if_pos rfl];rfl
   |false=>rw[if_neg Bool.false_ne_true,if_neg Bool.false_ne_true];rfl
theorem d1n(ks:List Str)(k:Str)(h:ks.length < 1000000):mSet (.dct (kd ks)) [.frz (.bl true),.frz (.str k)]=some (.dct (kd (addS ks k)),.frz .non):=by
 show(if(kd ks).length < 1000000 then some (O.dct (putG (kd ks) (.inr k) (.frz (.bl true))),O.frz .non) else none)=_
 rw[if_pos (by unfold kd;rw[List.length_map];exact h),d1m]
theorem c1r(ks:List Str)(k:Str):(addS ks k).length≤ks.length+1:=by
 unfold addS
 split
 ·omega
 ·rw[List.length_append,List.length_singleton];exact Nat.le_refl _
theorem c9y{ks:List Str}{k n:Str}:n∈addS ks k↔n=k∨n∈ks:=by
 unfold addS
 split
 ·rename_i h
  rw[List.contains_iff_mem] at h
  constructor
  ·exact .inr
  ·rintro(rfl|h')
   ·exact h
   ·exact h'
 ·rw[List.mem_append,List.mem_singleton]
  exact Or.comm
theorem c1s:∀(outs ks:List Str) (g0 g1 g3 g4 g5 g6 a:Option O),ks.length+outs.length < 1000000→∃a',a1u (a0i 7) (gsPut (gC (.bl true)) (gVar 2) (gVar 7)) (outs.map D.str) [g0,g1,some (.dct (kd ks)),g3,g4,g5,g6,a] =
  some (.nx,[g0,g1,some (.dct (kd (outs.foldl addS ks))),g3,g4,g5,g6,a'])
 |[],ks,g0,g1,g3,g4,g5,g6,a,_=>⟨a,rfl⟩
 |o::outs,ks,g0,g1,g3,g4,g5,g6,a,h=>by
  rw[List.length_cons] at h
  have hl:=c1r ks o
  obtain⟨a',e⟩:=c1s outs (addS ks o) g0 g1 g3 g4 g5 g6 (some (fS o)) (by omega)
  refine⟨a',?_⟩
  rw[List.foldl_cons,←e]
  simp only[qq6,a8g,a2l,qq2,qq3,qqf,Nat.reduceAdd,Nat.reduceLT,qq5,qq4,if_true,↓evBind,b3z,a6f,a0t,qq1,qq0,d1n ks o (by omega)]
noncomputable def stepF (b:Str) (ks:List Str) (x:Belt):List Str:=if(x.name == b || ks.contains x.name)=true then x.outs.foldl addS ks else ks
theorem c9z(outs:List Str):∀ks:List Str,(outs.foldl addS ks).length≤ks.length+outs.length:=by
 induction outs with
 |nil=>intro ks;exact Nat.le_refl _
 |cons o outs ih=>
  intro ks
  rw[List.foldl_cons,List.length_cons]
  have:=ih (addS ks o)
  have:=c1r ks o
  omega
theorem a8j(b:Str)(hd:D):∀(bs:List Belt) (ks:List Str) (a3 a4 a5 a6 a7:Option O),ks.length+(bs.map fun x=>x.outs.length).sum < 1000000→∃b3 b4 b5 b6 b7,a1u (ggTup [(a0i 3),(a0i 4),(a0i 5),(a0i 6)])
  (gsIf (gOrT (gT (gBin oEq (gVar 3) (gVar 1))) (gT (gBin (oInG false) (gVar 3) (gVar 2))))
  (gsFor (gVar 6) (a0i 7)
  (gsPut (gC (.bl true)) (gVar 2) (gVar 7)))
  gsNil) (bs.map beltD) [some (.frz hd),some (fS b),some (.dct (kd ks)),a3,a4,a5,a6,a7]=some (.nx,[some (.frz hd),some (fS b),some (.dct (kd (bs.foldl (stepF b) ks))),b3,b4,b5,b6,b7])
 |[],ks,a3,a4,a5,a6,a7,_=>⟨a3,a4,a5,a6,a7,rfl⟩
 |x::bs,ks,a3,a4,a5,a6,a7,h=>by
  rw[List.map_cons,List.sum_cons] at h
  have hf:=c9z x.outs ks
  obtain⟨a',e1⟩:=c1s x.outs ks (some (.frz hd)) (some (fS b)) (some (.frz (.str x.name))) (some (.frz (.int x.long))) (some (.frz (.bl x.ring))) (some (.frz (.lst (x.outs.map .str)))) a7 (by omega)
  cases c1:x.name == b with
  |true=>
   obtain⟨b3,b4,b5,b6,b7,e⟩:=a8j b hd bs (x.outs.foldl addS ks) (some (.frz (.str x.name))) (some (.frz (.int x.long))) (some (.frz (.bl x.ring))) (some (.frz (.lst (x.outs.map .str)))) a' (by omega)
   refine⟨b3,b4,b5,b6,b7,?_⟩
   rw[List.foldl_cons,show stepF b ks x=x.outs.foldl addS ks by unfold stepF;rw[c1,Bool.true_or,if_pos rfl],←e,List.map_cons]
   rw[show beltD x=.tup [.str x.name,.int x.long,.bl x.ring,.lst (x.outs.map .str)] from rfl]
   simp only[a8g,b0n,a8f,a2l,qq2,qq3,qqf,Nat.reduceAdd,Nat.reduceLT,qq5,qq4,if_true,↓evBind,a8e,a1j,a7q,a8c,a1t,a0j,a0t,qq1,qq0,a0m,a0o,a0p,a0n,a6z,a2f,a6g,and_self,b1a,c1,a2x,Option.join_some,a9l,a1v,e1,a1m]
  |false=>
   cases c2:ks.contains x.name with
   |true=>
    obtain⟨b3,b4,b5,b6,b7,e⟩:=a8j b hd bs (x.outs.foldl addS ks) (some (.frz (.str x.name))) (some (.frz (.int x.long))) (some (.frz (.bl x.ring))) (some (.frz (.lst (x.outs.map .str)))) a' (by omega)
    refine⟨b3,b4,b5,b6,b7,?_⟩
    rw[List.foldl_cons,show stepF b ks x=x.outs.foldl addS ks by unfold stepF;rw[c1,c2,Bool.or_true,if_pos rfl],←e,List.map_cons]
    rw[show beltD x=.tup [.str x.name,.int x.long,.bl x.ring,.lst (x.outs.map .str)] from rfl]
    simp only[a8g,b0n,a8f,a2l,qq2,qq3,qqf,Nat.reduceAdd,Nat.reduceLT,qq5,qq4,if_true,↓evBind,a8e,a1j,a7q,a8c,a1t,a0j,a0t,qq1,qq0,a0m,a0o,a0p,a0n,a6z,a2f,a6g,and_self,b1a,c1,qqe,a2x,Option.join_some,c1q,c2,if_false,a9l,a1v,e1,a1m]
   |false=>
    obtain⟨b3,b4,b5,b6,b7,e⟩:=a8j b hd bs ks (some (.frz (.str x.name))) (some (.frz (.int x.long))) (some (.frz (.bl x.ring))) (some (.frz (.lst (x.outs.map .str)))) a7 (by omega)
    refine⟨b3,b4,b5,b6,b7,?_⟩
    rw[List.foldl_cons,show stepF b ks x=ks by unfold stepF;rw[c1,c2,Bool.false_or,if_neg Bool.false_ne_true],←e,List.map_cons]
    rw[show beltD x=.tup [.str x.name,.int x.long,.bl x.ring,.lst (x.outs.map .str)] from rfl]
    simp only[a8g,b0n,a8f,a2l,qq2,qq3,qqf,Nat.reduceAdd,Nat.reduceLT,qq5,qq4,if_true,↓evBind,a8e,a1j,a7q,a8c,a1t,a0j,a0t,qq1,qq0,a0m,a0o,a0p,a0n,a6z,a2f,a6g,and_self,b1a,c1,qqe,a2x,Option.join_some,c1q,c2,if_false,a9l,a1v,a1m]
theorem b5w(ks:List Str)(o:O)(ho:∀x,oInG false [.frz (.str x),o]=some (.frz (.bl (ks.contains x))))(hv:gVar 1=gVar 1):∀(xs acc:List Str) (a:Option O),acc.length+xs.length < 1000000→(∀Γ0:Option O,∃r,gVar 1 [Γ0,some o]=some (r,[Γ0,some o])∧seeR [Γ0,some o] r=some o)→
  ∃a',compLoop (a0i 0) (gT (gBin (oInG false) (gVar 0) (gVar 1))) (gVar 0) (xs.map D.str) [a,some o] (acc.map fS)=some ((acc++xs.filter fun x=>ks.contains x).map fS,[a',some o])
 |[],acc,a,_,_=>⟨a,by rw[List.map_nil,b7k,List.filter_nil,List.append_nil]⟩
 |x::xs,acc,a,h,hg=>by
  rw[List.length_cons] at h
  have hl:(acc.map fS).length < 1000000:=by rw[List.length_map];omega
  obtain⟨r,r1,r2⟩:=hg (some (.frz (.str x)))
  have v0:gVar 0 [some (.frz (.str x)),some o]=some (.own (.frz (.str x)),[some (.frz (.str x)),some o]):=rfl
  cases hc:ks.contains x with
  |true=>
   obtain⟨a',e⟩:=b5w ks o ho hv xs (acc++[x]) (some (fS x)) (by rw[List.length_append,List.length_singleton];omega) hg
   refine⟨a',?_⟩
   rw[List.filter_cons,if_pos hc,show acc++x::(xs.filter fun o=>ks.contains o)=acc++[x]++(xs.filter fun o=>ks.contains o) by simp]
   rw[←e,List.map_append]
   simp only[↓evBind,↓evMap,qq6,qq7,b2m,a2l,qq2,qq3,Nat.reduceAdd,Nat.reduceLT,if_true,qq4,Option.bind_some,a8c,a1t,a0j,a0m,v0,r1,a0o,a0n,a0p,r2,ho,hc,a1n,a1i,hl]
  |false=>
   obtain⟨a',e⟩:=b5w ks o ho hv xs acc (some (fS x)) (by omega) hg
   refine⟨a',?_⟩
   rw[List.filter_cons,if_neg (by rw[hc];exact Bool.false_ne_true)]
   rw[←e]
   simp only[↓evBind,↓evMap,qq6,qq7,b2m,a2l,qq2,qq3,Nat.reduceAdd,Nat.reduceLT,if_true,qq4,Option.bind_some,a8c,a1t,a0j,a0m,v0,r1,a0o,a0n,a0p,r2,ho,hc,a1n,a1i,hl,qqe,if_false]
noncomputable def a9x (bs:List Belt) (b:Str):List Str:=bs.foldl (stepF b) []
theorem c7k(h:House)(b:Str)(sm:SmallH h):a6n [.frz (a2h h),fS b]=some (.lst (((h.belts.map Belt.name++h.carts).filter fun x=>(a9x h.belts b).contains x).map fS),[none,none]):=by
 have hb:=sm.bl
 have hc:=sm.ct
 obtain⟨b3,b4,b5,b6,b7,e1⟩:=a8j b (a2h h) h.belts [] none none none none none (by have:=sm.ou;rw[List.length_nil];omega)
 have e2:=b9o h.belts (by omega)
 obtain⟨a',e3⟩:=b5w (a9x h.belts b) (.dct (kd (a9x h.belts b))) (fun x=>c1q false x _) rfl (h.belts.map Belt.name++h.carts) [] none (by rw[List.length_nil,List.length_append,List.length_map];omega) (fun Γ0=>⟨.var 1,rfl,rfl⟩)
 rw[List.map_nil,List.nil_append] at e3
 have c1:(h.belts.length+h.carts.length≤1000000)=True:=eq_true (by omega)
 have kd0:kd []=[]:=rfl
 unfold a6n b2z
 unfold a9x at *
 rw[kd0] at e1
 unfold a2h at *
 simp only[a1w,qq6,qq7,qq2,qq3,qqf,Nat.reduceAdd,Nat.reduceSub,qq9,qq8,qqb,qqc,a0x,a3i,c0r,↓evBind,Nat.reduceLT,qq5,qq4,if_true,a9l,a1v,a1t,a0j,a0t,qq0,a6f,a0m,a0o,a0p,a0n,a4o,b2o,a5a,↓evMap,a2f,e1,a2o,a6x,b9d,a3d,a2c,a2b,e2,a4e,a4d,a7a,b5c,c5i,d3t,List.length_map,c1,←List.map_append,a5i,b4a,a9q,qq1,Option.join_some,a5u,e3,List.drop_succ_cons,List.drop_zero,a9r,a5v,a4h,qqa,qqd,a3r,a3p]
inductive RR (bs:List Belt) (outs:List Str):Str→Prop
 |base {n:Str}:n∈outs→RR bs outs n
 |step {m n:Str} {b:Belt}:RR bs outs m→b∈bs→b.name=m→n∈b.outs→RR bs outs n
theorem mem_fold{outs:List Str}:∀{ks:List Str} {n:Str},n∈outs.foldl addS ks↔n∈outs∨n∈ks:=by
 induction outs with
 |nil=>intro ks n;simp
 |cons o outs ih=>
  intro ks n
  rw[List.foldl_cons,ih,c9y,List.mem_cons]
  constructor
  ·rintro(h|h|h)
   ·exact .inl (.inr h)
   ·exact .inl (.inl h)
   ·exact .inr h
  ·rintro((h|h)|h)
   ·exact .inr (.inl h)
   ·exact .inl h
   ·exact .inr (.inr h)
theorem c7l{b:Str}{ks:List Str}{x:Belt}{n:Str}(h:n∈ks):n∈stepF b ks x:=by
 unfold stepF
 split
 ·exact mem_fold.mpr (.inr h)
 ·exact h
theorem c7m{b:Str}{bs:List Belt}:∀{ks:List Str} {n:Str},n∈ks→n∈bs.foldl (stepF b) ks:=by
 induction bs with
 |nil=>intro ks n h;exact h
 |cons x bs ih=>intro ks n h;exact ih (c7l h)
theorem b8g{carts:List Str}{b:Str}:∀{bs:List Belt} {ks:List Str} {n:Str},Fwd carts bs→n∈bs.foldl (stepF b) ks→n∈ks∨n∈bs.tail.map Belt.name∨n∈carts
 |[],ks,n,_,h=>.inl h
 |x::bs,ks,n,f,h=>by
  rcases b8g f.2.2.2 h with z|z|z
  ·unfold stepF at z
   split at z
   ·rcases mem_fold.mp z with z|z
    ·rcases f.1 n z with z|z
     ·exact .inr (.inl z)
     ·exact .inr (.inr z)
    ·exact .inl z
   ·exact .inl z
  ·refine .inr (.inl ?_)
   cases bs with
   |nil=>exact z
   |cons y bs=>exact List.mem_cons_of_mem _ z
  ·exact .inr (.inr z)
theorem a7z{carts:List Str}{b:Str}:∀{bs:List Belt} {ks:List Str},Fwd carts bs→∀x∈bs,(x.name=b∨x.name∈bs.foldl (stepF b) ks)→∀o∈x.outs,o∈bs.foldl (stepF b) ks
 |y::bs,ks,f,x,hx,hn,o,ho=>by
  rcases List.mem_cons.mp hx with rfl|hx
  ·have h1:(x.name == b || ks.contains x.name)=true:=by
    rcases hn with hn|hn
    ·rw[hn,beq_self_eq_true,Bool.true_or]
    ·rcases b8g (b:=b) f hn with z|z|z
     ·rw[List.contains_iff_mem.mpr z,Bool.or_true]
     ·exact absurd z f.2.1
     ·exact absurd z f.2.2.1
   show o∈bs.foldl (stepF b) (stepF b ks x)
   refine c7m ?_
   unfold stepF
   rw[if_pos h1]
   exact mem_fold.mpr (.inl ho)
  ·exact a7z (ks:=stepF b ks y) f.2.2.2 x hx hn o ho
theorem c1t{bs0:List Belt}{b:Belt}(hb:b∈bs0)(hu:∀x∈bs0,x.name=b.name→x=b):∀{bs:List Belt} {ks:List Str},(∀x∈bs,x∈bs0)→(∀n∈ks,RR bs0 b.outs n)→∀n∈bs.foldl (stepF b.name) ks,RR bs0 b.outs n
 |[],ks,_,h,n,hn=>h n hn
 |x::bs,ks,hs,h,n,hn=>c1t hb hu (fun y hy=>hs y (List.mem_cons_of_mem _ hy)) (fun m hm=>by
   unfold stepF at hm
   split at hm
   ·rename_i hc
    rcases mem_fold.mp hm with z|z
    ·rw[Bool.or_eq_true,beq_iff_eq,List.contains_iff_mem] at hc
     rcases hc with hc|hc
     ·rw[hu x (hs x List.mem_cons_self) hc] at z
      exact .base z
     ·exact .step (h _ hc) (hs x List.mem_cons_self) rfl z
    ·exact h m z
   ·exact h m hm) n hn
theorem c7n{h:House}(f:Fwd h.carts h.belts){b:Belt}(hb:b∈h.belts)(n:Str):n∈a9x h.belts b.name↔RR h.belts b.outs n:=by
 unfold a9x
 constructor
 ·exact c1t hb (fun x hx e=>c1k f x hx b hb e) (fun _ m=>m) (fun _ m=>by cases m) n
 ·intro r
  induction r with
  |base m=>exact a7z f b hb (.inl rfl) _ m
  |step r hx hn hm ih=>exact a7z f _ hx (.inr (by rw[hn];exact ih)) _ hm
end Carry
namespace Carry
open PySem L2
theorem d1o(x:Str)(ks:List Str)(hn:isT (a3x [.frz (.str x)])=true)(hx:x∉ks)(hl:ks.length < 1000):a2y [fS x,.dct (kd ks)]=some (.frz .non,[none,some (.dct (kd (ks++[x])))]):=by
 have e1:=d1j hn
 have hc:ks.contains x=false:=by rw[←Bool.not_eq_true,List.contains_iff_mem];exact hx
 have e2:=c1q false x ks
 rw[hc,if_neg Bool.false_ne_true] at e2
 have e3:=d1n ks x (by omega)
 have ea:addS ks x=ks++[x]:=by unfold addS;rw[hc,if_neg Bool.false_ne_true]
 rw[ea] at e3
 generalize kd (ks++[x])=k2 at *
 generalize kd ks=k1 at *
 unfold a2y a9b
 simp only[a1w,qq6,qq7,qq2,qq3,qqf,Nat.reduceAdd,Nat.reduceSub,qq8,qqb,qqc,a0x,a1j,a7q,b2k,a5r,a5b,a0j,a0t,qq0,↓evBind,a0m,a0o,a0p,a0n,a4z,a2f,a5j,e1,a8y,a4i,Bool.not_true,qqe,a8c,a1t,qq1,a2x,Option.join_some,e2,if_false,a5x,a1m,b3z,a6f,e3,qq5,qq4,c5m,qqa,qqd,a3r,b1f,a3p,if_true]
theorem d4a{h:House}(p:PlainH h)(f:FewH h)(hn:h.carts.Nodup):a3l [fL h.carts,.dct (kd [])]=some (.frz .non,[none,some (.dct (kd h.carts))]):=by
 have ct:=f.ct
 obtain⟨Γ',e,a,rfl⟩:=a7b (g:=a0i 2) (f:=a1l (gCall a2y (a0a (gVar 2) (a0a (gVar 1) gaNil)))) D.str (fun pre Γ=>∃a,Γ=[some (fL h.carts),some (.dct (kd pre)),a]) h.carts [] [some (fL h.carts),some (.dct (kd [])),none] ⟨_,rfl⟩ (by
  rintro q x post Γ eq ⟨a,rfl⟩
  rw[List.nil_append] at *
  have hx:x∉q:=fun z=>by
   rw[eq] at hn
   exact(List.nodup_append.mp hn).2.2 x z x (.head _) rfl
  have hc:x∈h.carts:=by rw[eq];simp
  have hq:q.length < 1000:=by have:=congrArg List.length eq;simp at this;omega
  have e1:=d1o x q (p.cm x hc).2 hx hq
  refine⟨_,?_,some (fS x),rfl⟩
  generalize kd (q++[x])=k2 at *
  generalize kd q=k1 at *
  generalize h.carts=cs at *
  simp only[a2l,qq2,qq3,qqf,Nat.reduceAdd,Nat.reduceLT,qq5,qq4,if_true,↓evBind,a3c,a3d,a0j,a0t,qq1,qq0,a0m,a2c,a3e,a2b,e1,a4e,a5t,a4d])
 rw[List.nil_append] at e
 have ht:(h.carts.map D.str).isEmpty=false:=by
  have:=f.c0
  cases hcs:h.carts with
  |nil=>rw[hcs] at this;simp at this
  |cons _ _=>rfl
 unfold a3l a7d
 generalize kd h.carts=k2 at *
 generalize kd []=k1 at *
 simp only[a1w,qq6,qq7,qq2,qq3,qqf,Nat.reduceAdd,Nat.reduceSub,qq9,qq8,qqb,qqc,a0x,a9l,a1v,a0t,qq0,↓evBind,a2f,e,a1j,b2k,a5r,a0p,c5n,ht,Bool.not_false,Bool.not_true,qqe,a5x,a1m,if_false,c5m,qqa,qqd,a3r,b1f,a3p,if_true]
theorem d4b{h:House}(p:PlainH h)(f:FewH h)(fw:Fwd h.carts h.belts)(lg:∀b∈h.belts,1≤b.long∧(b.ring=true→2≤b.long)):a3y [.frz (.lst (h.belts.map beltD)),.dct (kd h.carts)]=some (.frz .non,[none,some (.dct (kd (h.carts++h.belts.map Belt.name)))]):=by
 have ct:=f.ct
 have bl:=f.bl
 obtain⟨Γ',e,a2,a3,a4,a5,a6,rfl⟩:=a7b (g:=ggTup [(a0i 2),(a0i 3),(a0i 4),(a0i 5)]) (f:=(a0e (a1l (gCall a2y (a0a (gVar 2) (a0a (gVar 1) gaNil))))
 (a0e (gsSet 6 (gFrz (gIf (gTru (gVar 4)) (gC (.int 2)) (gC (.int 1)))))
 (gsIf (gT (gBin oLt (gVar 3) (gVar 6)))
  a5w
  gsNil)))) beltD (fun pre Γ=>∃a2 a3 a4 a5 a6,Γ=[some (.frz (.lst (h.belts.map beltD))),some (.dct (kd (h.carts++pre.map Belt.name))),a2,a3,a4,a5,a6]) h.belts [] [some (.frz (.lst (h.belts.map beltD))),some (.dct (kd h.carts)),none,none,none,none,none] ⟨none,none,none,none,none,by rw[List.map_nil,List.append_nil]⟩ (by
  rintro q x post Γ eq ⟨a2,a3,a4,a5,a6,rfl⟩
  rw[List.nil_append] at *
  have hb:x∈h.belts:=by rw[eq];simp
  have hx:x.name∉h.carts++q.map Belt.name:=fun z=>by
   rcases List.mem_append.mp z with z|z
   ·exact b3g fw _ z (List.mem_map_of_mem hb)
   ·obtain⟨y,hy,ey⟩:=List.mem_map.mp z
    have:∀{bs q:List Belt} {x:Belt} {post:List Belt},Fwd h.carts bs→bs=q++x::post→∀y∈q,y.name≠x.name:=by
     intro bs q
     induction q generalizing bs with
     |nil=>intro x post _ _ y hy;cases hy
     |cons w q ih=>
      intro x post fw eq y hy
      rw[eq] at fw
      rcases List.mem_cons.mp hy with rfl|hy
      ·intro z
       exact fw.2.1 (by rw[z];simp)
      ·exact ih fw.2.2.2 rfl y hy
    exact this fw eq y hy ey
  have hq:(h.carts++q.map Belt.name).length < 1000:=by have:=congrArg List.length eq;simp at this ⊢;omega
  have e1:=d1o x.name _ (p.nm x hb).2 hx hq
  have hk:h.carts++(q++[x]).map Belt.name=h.carts++q.map Belt.name++[x.name]:=by simp
  have hg:=lg x hb
  rw[hk]
  refine⟨[some (.frz (.lst (h.belts.map beltD))),some (.dct (kd (h.carts++q.map Belt.name++[x.name]))),some (fS x.name),some (.frz (.int x.long)),some (.frz (.bl x.ring)),some (fL x.outs),some (.frz (.int (if x.ring=true then 2 else 1)))],?_,_,_,_,_,_,rfl⟩
  generalize kd (h.carts++q.map Belt.name++[x.name])=k2 at *
  generalize kd (h.carts++q.map Belt.name)=k1 at *
  generalize h.belts.map beltD=bs at *
  unfold beltD
  cases hr:x.ring with
  |true=>
   have c2:decide (x.long < 2)=false:=by have:=hg.2 hr;simp;omega
   simp only[b0n,a8f,a2l,qq2,qq3,qqf,Nat.reduceAdd,Nat.reduceLT,qq5,qq4,if_true,↓evBind,a8e,a0x,a3c,a3d,a0j,a0t,qq1,qq0,a0m,a2c,a3e,a2b,e1,a4e,a5t,a4d,a3i,a1v,d3c,a5r,a0p,a4i,a6f,a2f,a1j,a8c,a1t,a0o,a0n,a5h,c2,qqe,a5x,a1m,if_false]
  |false=>
   have c2:decide (x.long < 1)=false:=by have:=hg.1;simp;omega
   simp only[b0n,a8f,a2l,qq2,qq3,qqf,Nat.reduceAdd,Nat.reduceLT,qq5,qq4,if_true,↓evBind,a8e,a0x,a3c,a3d,a0j,a0t,qq1,qq0,a0m,a2c,a3e,a2b,e1,a4e,a5t,a4d,a3i,a1v,d3c,a5r,a0p,a4i,qqe,a6f,if_false,a2f,a1j,a8c,a1t,a0o,a0n,a5h,c2,a5x,a1m])
 rw[List.nil_append] at e
 unfold a3y a7e
 generalize kd (h.carts++h.belts.map Belt.name)=k2 at *
 generalize kd h.carts=k1 at *
 generalize h.belts.map beltD=bs at *
 simp only[a1w,qq6,qq7,qq2,qq3,qqf,Nat.reduceAdd,Nat.reduceSub,qq9,qq8,qqb,qqc,a9l,a1v,a0t,qq0,↓evBind,a2f,e,c5m,qqa,qqd,a3r,b1f,a3p,if_true]
end Carry
namespace Carry
open PySem L2
theorem b1d{x z:Str}:∀{ys:List Str} {j:Nat},ys[j]?=some z→x∈ys→x≠z→x∈ys.eraseIdx j
 |y::ys,0,e,hx,hne=>by
  rw[List.getElem?_cons_zero] at e
  cases e
  rcases List.mem_cons.mp hx with rfl|hx
  ·exact absurd rfl hne
  ·exact hx
 |y::ys,j+1,e,hx,hne=>by
  rw[List.getElem?_cons_succ] at e
  show x∈y::ys.eraseIdx j
  rcases List.mem_cons.mp hx with rfl|hx
  ·exact .head _
  ·exact .tail _ (b1d e hx hne)
 |[],_,_,hx,_=>by cases hx
theorem c7o{z:Str}{ys:List Str}(h:z∈ys):∃j,findS ys z=some j:=by
 cases q:findS ys z with
 |some j=>exact⟨j,rfl⟩
 |none=>
  unfold findS at q
  rw[List.findIdx?_eq_none_iff] at q
  have:=q z h
  simp at this
noncomputable def outC:GS:=(a0e (gsIf (gT (gBin (oInG true) (gVar 7) (gVar 6)))
  a5w
  gsNil)
 (a1l (gMut b0q (gVar 6) (a0a (gVar 7) gaNil))))
theorem d0a(outs L:List Str)(nd:outs.Nodup)(hs:∀o∈outs,o∈L)(s0 s1 s2 s3 s4 s5 a7:Option O):∃b6 b7,a1u (a0i 7) outC (outs.map D.str) [s0,s1,s2,s3,s4,s5,some (.lst (L.map fS)),a7]=some (.nx,[s0,s1,s2,s3,s4,s5,b6,b7]):=by
 obtain⟨Γ',e,L',b7,rfl,_⟩:=a7b (g:=a0i 7) (f:=outC) D.str (fun pre Γ=>∃L' b7,Γ=[s0,s1,s2,s3,s4,s5,some (.lst (L'.map fS)),b7]∧∀o∈outs,o∉pre→o∈L') outs [] [s0,s1,s2,s3,s4,s5,some (.lst (L.map fS)),a7] ⟨L,a7,rfl,fun o ho _=>hs o ho⟩ (by
  rintro q x post Γ eq ⟨L',b7,rfl,hL⟩
  rw[List.nil_append] at *
  have hxq:x∉q:=fun z=>by
   rw[eq] at nd
   exact(List.nodup_append.mp nd).2.2 x z x (.head _) rfl
  have hx:x∈L':=hL x (by rw[eq];simp) hxq
  obtain⟨j,hj⟩:=c7o hx
  have e1:=b3e true x L'
  rw[List.contains_iff_mem.mpr hx,if_pos rfl] at e1
  have e2:b0q (.lst (L'.map fS)) [.frz (.str x)]=some (.lst ((L'.eraseIdx j).map fS),.frz .non):=(c6f L' x).trans (by rw[hj];rfl)
  refine⟨[s0,s1,s2,s3,s4,s5,some (.lst ((L'.eraseIdx j).map fS)),some (fS x)],?_,L'.eraseIdx j,some (fS x),rfl,fun o ho hq=>?_⟩
  ·generalize(L'.eraseIdx j).map fS=l2 at *
   generalize L'.map fS=l1 at *
   unfold outC
   simp only[a2l,qq2,qq3,qqf,Nat.reduceAdd,Nat.reduceLT,qq5,qq4,if_true,↓evBind,a0x,a1j,a8c,a1t,a0j,a0t,qq1,qq0,a0m,a0o,a0p,a2x,Option.join_some,a0n,e1,Bool.not_true,qqe,a5x,a1m,if_false,a3c,a9m,a1n,a1i,e2]
  ·simp only[List.mem_append,List.mem_singleton,not_or] at hq
   exact b1d (b4d hj).1 (hL o ho hq.1) hq.2)
 exact⟨_,b7,e⟩
noncomputable def b9p:GS:=(a0e (gsSet 4 (gBin oIx (gVar 3) (gC (.int 0))))
 (a0e (gsSet 5 (gFrz (gIf (gTru (gOp oIsi (a0a (gBin oIx (gVar 3) (gC (.int 3))) (a0a (gC (.ty "list")) gaNil)))) (gBin oIx (gVar 3) (gC (.int 3))) (gSeq .lst gaNil))))
 (a0e (gsSet 6 (gBin oAdd (gCall a1x (a0a (gFrz (a7p (gVar 0) (a8p (gBin oAdd (gVar 2) (gC (.int 1)))) a9j)) gaNil)) (gVar 1)))
 (a0e (gsFor (gVar 5) (a0i 7) outC)
 (gsIf (gNotT (gTru (gVar 5)))
  a5w
  gsNil)))))
theorem c7p:a7v=b2q (gVar 0) (ggTup [(a0i 2),(a0i 3)]) b9p:=rfl
theorem d0b(q:List Belt)(x:Belt)(post:List Belt)(i:Int)(hi:i=(q.length:Nat)):slO (.frz (.lst ((q++x::post).map beltD))) (some (i+1)) none=some (.lst ((post.map beltD).map .frz)):=by
 show some (O.lst ((cutD ((q++x::post).map beltD) (some (i+1)) none).map .frz))=_
 have:cutD ((q++x::post).map beltD) (some (i+1)) none=post.map beltD:=by
  unfold cutD
  have e4:HT.sIx ((q++x::post).map beltD).length 0 (some (i+1))=q.length+1:=by
   unfold HT.sIx
   simp only[List.length_map,List.length_append,qq2]
   rw[if_neg (by omega)]
   omega
  have e5:HT.sIx ((q++x::post).map beltD).length ((q++x::post).map beltD).length none=((q++x::post).map beltD).length:=rfl
  have e6:((q++x::post).map beltD).drop (q.length+1)=post.map beltD:=by
   rw[←List.map_drop,show q++x::post=(q++[x])++post by simp,List.drop_left' (by simp)]
  rw[e4,e5,e6]
  exact List.take_of_length_le (by rw[List.length_map,List.length_map,List.length_append,List.length_cons];omega)
 rw[this]
theorem c7q{h:House}(f:FewH h)(fw:Fwd h.carts h.belts)(ho:∀b∈h.belts,b.outs≠[])(nd:∀b∈h.belts,b.outs.Nodup):a4q [.frz (.lst (h.belts.map beltD)),fL h.carts]=some (.frz .non,[none,none]):=by
 have bl:=f.bl
 have ct:=f.ct
 obtain⟨Γ',e,a2,a3,a4,a5,a6,a7,rfl⟩:=b8e (g:=ggTup [(a0i 2),(a0i 3)]) (f:=b9p) beltD (fun pre Γ=>∃a2 a3 a4 a5 a6 a7,Γ=[some (.frz (.lst (h.belts.map beltD))),some (fL h.carts),a2,a3,a4,a5,a6,a7]) h.belts [some (.frz (.lst (h.belts.map beltD))),some (fL h.carts),none,none,none,none,none,none] ⟨_,_,_,_,_,_,rfl⟩ (by
  rintro q x post Γ i eq hi ⟨a2,a3,a4,a5,a6,a7,rfl⟩
  have hb:x∈h.belts:=by rw[eq];simp
  have hp:post.length < 1000000:=by have:=congrArg List.length eq;simp at this;omega
  have fx:Fwd h.carts (x::post):=b0t (by rw[←eq];exact fw)
  have sl:=d0b q x post i hi
  rw[←eq] at sl
  have e1:=b9o post hp
  have fz:frzL ((post.map Belt.name).map fS)=some ((post.map Belt.name).map D.str):=by
   rw[show(post.map Belt.name).map fS=((post.map Belt.name).map D.str).map O.frz by simp[Function.comp_def],a8b]
  have c1:(((post.map Belt.name).map D.str).length+(h.carts.map D.str).length≤1000000)=True:=eq_true (by rw[List.length_map,List.length_map,List.length_map];have:=congrArg List.length eq;simp at this;omega)
  have en:((post.map Belt.name).map D.str++h.carts.map D.str).map O.frz=(post.map Belt.name++h.carts).map fS:=by rw[←List.map_append,List.map_map];rfl
  obtain⟨b6,b7,el⟩:=d0a x.outs (post.map Belt.name++h.carts) (nd x hb) (fun o m=>by
   rcases fx.1 o m with z|z
   ·exact List.mem_append_left _ z
   ·exact List.mem_append_right _ z) (some (.frz (.lst (h.belts.map beltD)))) (some (fL h.carts)) (some (.frz (.int i))) (some (fB x)) (some (fS x.name)) (some (fL x.outs)) a7
  have ht:(x.outs.map D.str).isEmpty=false:=by
   have:=ho x hb
   cases hcs:x.outs with
   |nil=>exact absurd hcs this
   |cons _ _=>rfl
  have il:=d6m (x.outs.map D.str)
  have i0:=xb0 x
  have i3:=xb3 x
  refine⟨[some (.frz (.lst (h.belts.map beltD))),some (fL h.carts),some (.frz (.int i)),some (fB x),some (fS x.name),some (fL x.outs),b6,b7],?_,_,_,_,_,_,_,rfl⟩
  generalize(post.map Belt.name++h.carts).map fS=l2 at *
  generalize(post.map Belt.name).map fS=l1 at *
  generalize(post.map Belt.name).map D.str=l3 at *
  generalize h.belts.map beltD=bs at *
  generalize post.map beltD=ps at *
  unfold b9p
  simp only[b0n,a8f,a2l,qq2,qq3,qqf,Nat.reduceAdd,Nat.reduceLT,qq5,qq4,if_true,↓evBind,a8e,a0x,a3i,a1t,a0j,a0t,qq1,qq0,a6f,a0m,a0o,a0p,a0n,a4o,i0,a1v,d3c,a5r,i3,il,a4i,a4c,Nat.reduceLeDiff,a1i,a2f,a3d,a8d,b0m,a3v,b0o,↓evMap,b0l,sl,a5i,b4a,a2c,a2b,e1,a4e,a4d,b5c,c5i,fz,c1,en,a9l,el,a1j,b2k,c5n,ht,Bool.not_false,Bool.not_true,qqe,a5x,a1m,if_false])
 unfold a4q
 rw[c7p]
 generalize h.belts.map beltD=bs at *
 simp only[a1w,qq6,qq7,qq2,qq3,qqf,Nat.reduceAdd,Nat.reduceSub,qq9,qq8,qqb,qqc,c5y,a1v,a0t,qq0,↓evBind,a2f,e,c5m,qqa,qqd,a3r,a3p,if_true]
end Carry
namespace Carry
open PySem L2
theorem d0c{bs:List Belt}{outs:List Str}{w:Belt}(hw:w∈bs)(r:RR bs outs w.name){n:Str}(r2:RR bs w.outs n):RR bs outs n:=by
 induction r2 with
 |base m=>exact .step r hw rfl m
 |step _ hb hn hm ih=>exact .step ih hb hn hm
theorem b9q{st:Int}{h:House}(g:GoodH st h):∀{bs pre:List Belt},h.belts=pre++bs→∀b∈bs,RR h.belts b.outs (h.carts.getD 0 "")
 |x::bs,pre,eq,b,hb=>by
  have eq':h.belts=(pre++[x])++bs:=by rw[eq];simp
  rcases List.mem_cons.mp hb with rfl|hb
  ·have hbm:b∈h.belts:=by rw[eq];simp
   have fx:Fwd h.carts (b::bs):=b0t (by rw[←eq];exact g.fwd)
   rcases g.hd b hbm with z|⟨o,z1,z2⟩
   ·exact .base z
   ·rcases fx.1 o z1 with y|y
    ·obtain⟨w,hw,ew⟩:=List.mem_map.mp y
     exact d0c (w:=w) (by rw[eq'];simp[hw]) (by rw[ew];exact .base z1) (b9q g eq' w hw)
    ·exact absurd z2 (b3g g.fwd o y)
  ·exact b9q g eq' b hb
theorem d6y{st:Int}{h:House}(g:GoodH st h):a4r [.frz (a2h h)]=some (.frz .non,[none]):=by
 have bl:=g.sm.bl
 have hc:h.carts.getD 0 ""∈h.carts:=by
  have:=g.c0
  cases hcs:h.carts with
  |nil=>rw[hcs] at this;simp at this
  |cons c cs=>simp
 have i0:oIx1 (.frz (.lst (h.carts.map .str))) (.int 0)=some (fS (h.carts.getD 0 "")):=by
  have:=g.c0
  cases hcs:h.carts with
  |nil=>rw[hcs] at this;simp at this
  |cons c cs=>exact b5v c cs
 have e1:=b9o h.belts (by omega)
 obtain⟨Γ',e,a,rfl⟩:=c0v (g:=a0i 2) (f:=(gsIf (gT (gBin (oInG true) (gVar 1) (gCall a6n (a0a (gVar 0) (a0a (gVar 2) gaNil)))))
  a5w
  gsNil)) (fun b:Belt=>D.str b.name) (fun Γ=>∃a,Γ=[some (.frz (a2h h)),some (fS (h.carts.getD 0 "")),a]) h.belts [some (.frz (a2h h)),some (fS (h.carts.getD 0 "")),none] ⟨_,rfl⟩ (by
  rintro b hb Γ ⟨a,rfl⟩
  have e1:=c7k h b.name g.sm
  have hm:h.carts.getD 0 ""∈(h.belts.map Belt.name++h.carts).filter fun x=>(a9x h.belts b.name).contains x:=by
   rw[List.mem_filter]
   exact⟨List.mem_append_right _ hc,List.contains_iff_mem.mpr ((c7n g.fwd hb _).mpr (b9q g (pre:=[]) rfl b hb))⟩
  have e2:=b3e true (h.carts.getD 0 "") ((h.belts.map Belt.name++h.carts).filter fun x=>(a9x h.belts b.name).contains x)
  rw[List.contains_iff_mem.mpr hm,if_pos rfl] at e2
  refine⟨[some (.frz (a2h h)),some (fS (h.carts.getD 0 "")),some (fS b.name)],?_,_,rfl⟩
  generalize((h.belts.map Belt.name++h.carts).filter fun x=>(a9x h.belts b.name).contains x).map fS=l at *
  generalize h.carts.getD 0 ""=hand at *
  simp only[a2l,qq2,qq3,qqf,Nat.reduceAdd,Nat.reduceLT,qq5,qq4,if_true,↓evBind,a1j,a8c,a1t,a0j,a0t,qq1,qq0,a3d,a0m,a2c,a2b,e1,a4e,a4d,a0o,a0p,a0n,e2,Bool.not_true,qqe,a5x,a1m,if_false])
 have e0:=xh0 h
 have e01:=xh1 h
 have dn:=d8j (h.belts.map Belt.name)
 have mn:(h.belts.map Belt.name).map D.str=h.belts.map fun b=>D.str b.name:=by rw[List.map_map];rfl
 rw[mn] at dn
 unfold a4r a7w
 generalize h.belts.map (fun b=>D.str b.name)=l1 at *
 generalize(h.belts.map Belt.name).map fS=l2 at *
 generalize h.carts.getD 0 ""=hand at *
 simp only[a1w,qq6,qq7,qq2,qq3,qqf,Nat.reduceSub,qq9,qq8,qqb,qqc,a0x,a3i,a1t,a0j,a0t,qq0,↓evBind,a6f,a0m,a0o,a0p,a0n,a4o,e01,i0,Nat.reduceAdd,Nat.reduceLT,qq5,qq4,if_true,a9l,a1v,a3d,e0,a2c,a2b,e1,a4e,a4d,a5i,dn,e,c5m,qqa,qqd,a3r,a3p]
theorem d4c{st:Int}{h:House}(g:GoodH st h)(s0:0≤st)(s1:st < 60)(nd:∀b∈h.belts,b.outs.Nodup)(rg:∀b∈h.belts,b.ring=true→2≤b.long):a2z [.frz (a2h h)]=some (.frz (.bl true),[none]):=by
 have f:=d1i g s0 s1
 have p:=c1n g s0 s1
 have ho:∀b∈h.belts,b.outs≠[]:=fun b hb z=>by
  rcases g.hd b hb with y|⟨o,y,_⟩
  ·rw[z] at y;cases y
  ·rw[z] at y;cases y
 have e1:a3l [fL h.carts,.dct []]=some (.frz .non,[none,some (.dct (kd h.carts))]):=d4a p f g.cn
 have e2:=d4b p f g.fwd fun b hb=>⟨(g.lg b hb).1,rg b hb⟩
 have e3:=c7q f g.fwd ho nd
 have e4:=d6y g
 have e0:=xh0 h
 have e01:=xh1 h
 unfold a2z a7f
 generalize kd (h.carts++h.belts.map Belt.name)=k2 at *
 generalize kd h.carts=k1 at *
 simp only[a1w,qq6,qq7,qq2,qq3,qqf,Nat.reduceSub,qq9,qq8,qqb,qqc,a0x,a3i,a1t,a0j,a0t,qq0,↓evBind,a6f,a0m,a0o,a0p,a0n,a4o,e0,Nat.reduceAdd,Nat.reduceLT,qq5,qq4,if_true,e01,c0r,a3c,a3d,qq1,a2c,a3e,a2b,e1,a4e,a5t,a4d,e2,e3,e4,a2o,a4h,qqa,qqd,a3r,a3p]
end Carry
namespace Carry
open PySem L2
theorem b4g{xs:List Str}{k:Nat}{y:Str}(h:xs.Nodup)(hy:y∉xs):(insS xs k y).Nodup:=by
 unfold insS
 have p:(xs.take k++y::xs.drop k).Perm (y::xs):=by
  refine List.perm_middle.trans ?_
  rw[List.take_append_drop]
 rw[p.nodup_iff]
 exact List.nodup_cons.mpr ⟨hy,h⟩
theorem c2x{later carts:List Str}{p:Feed×List Str}(h:p.2.Nodup):(a3f later carts p).2.Nodup:=by
 unfold a3f
 dsimp only
 split
 ·exact h
 ·rename_i hc
  exact b4g h (fun z=>hc (List.contains_iff_mem.mpr z))
theorem b4h{later carts:List Str}{p:Feed×List Str}(h:p.2.Nodup):∀n,(a3b later carts n p).2.Nodup
 |0=>h
 |n+1=>c2x (b4h h n)
theorem d0d{F:Feed}{later carts:List Str}:(outsM F later carts).2.Nodup:=by
 have h:=b4h (later:=later) (carts:=carts) (p:=(drawF F 3,[])) List.nodup_nil (1+drawV F 3).toNat
 unfold outsM
 dsimp only
 split
 ·rename_i hc
  rw[Bool.and_eq_true,Bool.not_eq_true'] at hc
  exact b4g h (fun z=>by rw[List.contains_iff_mem.mpr z] at hc;exact absurd hc.1 (by decide))
 ·exact h
theorem c1u{many wide:Int}{carts:List Str}{F:Feed}(w0:0≤wide):∀i:Nat,∀b∈(a0z many wide carts i (F,[])).2,b.outs.Nodup∧(b.ring=true→2≤b.long)
 |0,b,m=>by cases m
 |i+1,b,m=>by
  have ih:=c1u (many:=many) (wide:=wide) (carts:=carts) (F:=F) w0 i
  have m:b∈(a5n many wide carts i (a0z many wide carts i (F,[]))).2:=m
  unfold a5n at m
  dsimp only at m
  rcases List.mem_cons.mp m with rfl|m
  ·refine⟨d0d,fun hr=>?_⟩
   have d0:=a0q (drawF (a0z many wide carts i (F,[])).1 3) (m:=4) (by decide)
   have w2:∀x:Bool,0≤wide * b01 x:=fun x=>by cases x <;> simp[b01] <;> omega
   have q2:=w2 (decide (V.int (many - 1+(i:Int) * (-1))=V.int 0))
   dsimp only at hr ⊢
   rw[hr]
   have:b01 true=1:=rfl
   omega
  ·exact ih b m
theorem d0e(F:Feed):∀b∈(a8n 5 F).2.belts,b.outs.Nodup∧(b.ring=true→2≤b.long):=by
 have ww:0≤(wideM (drawV F 7) (drawF (drawF F 7) 5)).2:=by
  unfold wideM
  split
  ·exact Int.mul_nonneg (a0q _ (by decide)) (a0q _ (by decide))
  ·exact Int.le_refl 0
 exact c1u ww _
end Carry
namespace Carry
open PySem L2
noncomputable def AL (n:Nat) (d:D):Prop:=a1h n [.frz d,.frz d]=some (.frz (.bl true),[none,none])
theorem d6z(x:Str):oIsi [.frz (.str x),.frz (.ty "tuple")]=some (.frz (.bl false)):=by unfold oIsi;simp[kindD,isiB,O.d]
theorem d7a(x:Str):oIsi [.frz (.str x),.frz (.ty "list")]=some (.frz (.bl false)):=by unfold oIsi;simp[kindD,isiB,O.d]
theorem d7b(x:Int):oIsi [.frz (.int x),.frz (.ty "tuple")]=some (.frz (.bl false)):=by unfold oIsi;simp[kindD,isiB,O.d]
theorem d7c(x:Int):oIsi [.frz (.int x),.frz (.ty "list")]=some (.frz (.bl false)):=by unfold oIsi;simp[kindD,isiB,O.d]
theorem d7d(x:Int):oIsi [.frz (.int x),.frz (.ty "str")]=some (.frz (.bl false)):=by unfold oIsi;simp[kindD,isiB,O.d]
theorem d7e(x:Bool):oIsi [.frz (.bl x),.frz (.ty "tuple")]=some (.frz (.bl false)):=by unfold oIsi;simp[kindD,isiB,O.d]
theorem d7f(x:Bool):oIsi [.frz (.bl x),.frz (.ty "list")]=some (.frz (.bl false)):=by unfold oIsi;simp[kindD,isiB,O.d]
theorem d7g(x:Bool):oIsi [.frz (.bl x),.frz (.ty "str")]=some (.frz (.bl false)):=by unfold oIsi;simp[kindD,isiB,O.d]
theorem d7h(x:Bool):oIsi [.frz (.bl x),.frz (.ty "int")]=some (.frz (.bl true)):=by unfold oIsi;simp[kindD,isiB,O.d]
theorem d7i(ds:List D):oIsi [.frz (.lst ds),.frz (.ty "tuple")]=some (.frz (.bl false)):=by unfold oIsi;simp[kindD,isiB,O.d]
theorem d7j(ds:List D):oIsi [.frz (.tup ds),.frz (.ty "list")]=some (.frz (.bl false)):=by unfold oIsi;simp[kindD,isiB,O.d]
theorem neB(a:Bool):oNeA [.frz (.bl a),.frz (.bl a)]=some (.frz (.bl false)):=by cases a <;> rfl
theorem neI(a:Int):oNeA [.frz (.int a),.frz (.int a)]=some (.frz (.bl false)):=by
 simp only[d6f]
 simp
theorem d1p(n:Nat)(x:Str):AL (n+1) (.str x):=by
 unfold AL
 show runM 3 [false,false] (a3j (a1h n)) _=_
 unfold a3j
 simp only[a1w,qq6,qq7,qq2,qq3,qqf,Nat.reduceAdd,Nat.reduceSub,qq9,qq8,qqb,qqc,a0x,a1j,a7q,a5r,a1t,a0j,a0t,qq1,qq0,↓evBind,a6f,a0m,a0o,a0p,a0n,d6z,a4i,qqe,d7a,if_false,a8c,a1m,d8b,a2o,b2l,a6z,a2f,a6g,and_self,b1a,beq_self_eq_true,if_true,a4h,qqa,qqd,a3r,a3p]
theorem d7k(n:Nat)(x:Int):AL (n+1) (.int x):=by
 unfold AL
 show runM 3 [false,false] (a3j (a1h n)) _=_
 unfold a3j
 simp only[a1w,qq6,qq7,qq2,qq3,qqf,Nat.reduceAdd,Nat.reduceSub,qq9,qq8,qqb,qqc,a0x,a1j,a7q,a5r,a1t,a0j,a0t,qq1,qq0,↓evBind,a6f,a0m,a0o,a0p,a0n,d7b,a4i,qqe,d7c,if_false,a8c,a1m,d7d,a2o,b2l,a6z,a2f,a4v,and_self,a7h,beq_self_eq_true,if_true,d8e,d6n,c5r,d1c,a4h,qqa,qqd,a3r,a3p]
theorem d8k(n:Nat)(x:Bool):AL (n+1) (.bl x):=by
 unfold AL
 show runM 3 [false,false] (a3j (a1h n)) _=_
 unfold a3j
 simp only[a1w,qq6,qq7,qq2,qq3,qqf,Nat.reduceAdd,Nat.reduceSub,qq9,qq8,qqb,qqc,a0x,a1j,a7q,a5r,a1t,a0j,a0t,qq1,qq0,↓evBind,a6f,a0m,a0o,a0p,a0n,d7e,a4i,qqe,d7f,if_false,a8c,a1m,d7g,a2o,b2l,a6z,a2f,c5r,and_self,d1c,beq_self_eq_true,if_true,d7h,d8d,a4h,qqa,qqd,a3r,a3p]
noncomputable def alB (n:Nat):GS:=(gsIf (gNotT (gTru (a2u (a1h n) (a0a (gBin oIx (gVar 0) (gVar 2)) (a0a (gBin oIx (gVar 1) (gVar 2)) gaNil)))))
  (gsRet (gC (.bl false)))
  gsNil)
theorem c1v(n:Nat)(d0:D)(ds:List D)(h:∀d∈ds,AL n d)(hx:∀i:Int,oIx1 (.frz d0) (.int i)=(atI ds i).map .frz)(a:Option O):∃b,a1u (a0i 2) (alB n) (rngD 0 ds.length) [some (.frz d0),some (.frz d0),a]=some (.nx,[some (.frz d0),some (.frz d0),b]):=by
 rw[c9j]
 obtain⟨Γ',e,b,rfl⟩:=c0v (g:=a0i 2) (f:=alB n) (fun(k:Nat)=>D.int (0+(k:Int))) (fun Γ=>∃b,Γ=[some (.frz d0),some (.frz d0),b]) (List.range ds.length) [some (.frz d0),some (.frz d0),a] ⟨_,rfl⟩ (by
  rintro k hk Γ ⟨b,rfl⟩
  rw[List.mem_range] at hk
  have hat:atI ds (0+(k:Int))=some ds[k]:=by
   rw[Int.zero_add]
   exact a3s (by simp[hk])
  have hd:=h ds[k] (List.getElem_mem hk)
  have e1:=hx (0+(k:Int))
  rw[hat,Option.map_some] at e1
  unfold AL at hd
  generalize ds[k]=d at *
  generalize 0+(k:Int)=ki at *
  refine⟨_,?_,some (.frz (.int ki)),rfl⟩
  unfold alB
  simp only[a2l,qq2,qq3,qqf,Nat.reduceAdd,Nat.reduceLT,qq5,qq4,if_true,↓evBind,a1j,b2k,a5r,a5b,a0j,a1t,a0t,qq0,qq1,a0m,a0o,a0p,a0n,a4o,e1,a4z,a2f,a5j,qq6,qq7,hd,a8y,a4i,Bool.not_true,qqe,a2o,a6f,a1m,if_false])
 exact⟨b,e⟩
theorem b4i(n:Nat):a3j (a1h n)=(a0e (gsIf (gOrT (gTru (gOp oIsi (a0a (gVar 1) (a0a (gC (.ty "tuple")) gaNil)))) (gTru (gOp oIsi (a0a (gVar 1) (a0a (gC (.ty "list")) gaNil)))))
  (a0e (gsIf (gOrT (gT (gBin oNeA (gOp oIsi (a0a (gVar 0) (a0a (gC (.ty "tuple")) gaNil))) (gOp oIsi (a0a (gVar 1) (a0a (gC (.ty "tuple")) gaNil))))) (gT (gBin oNeA (gOp oIsi (a0a (gVar 0) (a0a (gC (.ty "list")) gaNil))) (gOp oIsi (a0a (gVar 1) (a0a (gC (.ty "list")) gaNil))))))
  (gsRet (gC (.bl false)))
  gsNil)
 (a0e (gsIf (gT (gBin oNeA (gOp oLen (a0a (gVar 0) gaNil)) (gOp oLen (a0a (gVar 1) gaNil))))
  (gsRet (gC (.bl false)))
  gsNil)
 (a0e (a9e (a0a (gOp oLen (a0a (gVar 1) gaNil)) gaNil) (a0i 2) (alB n))
 (gsRet (gC (.bl true))))))
  gsNil)
 (a0e (gsIf (gTru (gOp oIsi (a0a (gVar 1) (a0a (gC (.ty "str")) gaNil))))
  (gsRet (gAndV (gOp oIsi (a0a (gVar 0) (a0a (gC (.ty "str")) gaNil))) (gBin oEq (gVar 0) (gVar 1))))
  gsNil)
 (gsRet (gAndV (gOp oIsi (a0a (gVar 0) (a0a (gC (.ty "int")) gaNil))) (gAndV (gBin oEq (gOp oIsi (a0a (gVar 0) (a0a (gC (.ty "bool")) gaNil))) (gOp oIsi (a0a (gVar 1) (a0a (gC (.ty "bool")) gaNil)))) (gBin oEq (gVar 0) (gVar 1))))))):=rfl
theorem d1q(n:Nat)(ds:List D)(hl:ds.length≤1000)(h:∀d∈ds,AL n d):AL (n+1) (.lst ds):=by
 obtain⟨b,e⟩:=c1v n (.lst ds) ds h (fun i=>a5s ..) none
 have i1:=d1h ds.length hl
 have tn:(ds.length:Int).toNat=ds.length:=by omega
 have ll:oLen [.frz (.lst ds)]=some (.frz (.int (ds.length:Nat))):=rfl
 have ne:=neI (ds.length:Nat)
 have t1:=d7i ds
 have t2:=d6m ds
 unfold AL
 show runM 3 [false,false] (a3j (a1h n)) _=_
 rw[b4i]
 generalize D.lst ds=d0 at *
 rw[←tn] at e
 generalize(ds.length:Int)=li at *
 simp only[a1w,qq6,qq7,qq2,qq3,qqf,Nat.reduceAdd,Nat.reduceSub,qq9,qq8,qqb,qqc,a0x,a1j,a7q,a5r,a1t,a0j,a0t,qq1,qq0,↓evBind,a6f,a0m,a0o,a0p,a0n,t1,a4i,qqe,t2,if_false,a8c,neB,a2o,a1m,ll,ne,c5g,i1,e,if_true,a4h,qqa,qqd,a3r,a3p]
theorem d1r(n:Nat)(ds:List D)(hl:ds.length≤1000)(h:∀d∈ds,AL n d):AL (n+1) (.tup ds):=by
 obtain⟨b,e⟩:=c1v n (.tup ds) ds h (fun i=>b2o ..) none
 have i1:=d1h ds.length hl
 have tn:(ds.length:Int).toNat=ds.length:=by omega
 have ll:oLen [.frz (.tup ds)]=some (.frz (.int (ds.length:Nat))):=rfl
 have ne:=neI (ds.length:Nat)
 have t1:=d8c ds
 have t2:=d7j ds
 unfold AL
 show runM 3 [false,false] (a3j (a1h n)) _=_
 rw[b4i]
 generalize D.tup ds=d0 at *
 rw[←tn] at e
 generalize(ds.length:Int)=li at *
 simp only[a1w,qq6,qq7,qq2,qq3,qqf,Nat.reduceAdd,Nat.reduceSub,qq9,qq8,qqb,qqc,a0x,a1j,a7q,a5r,a1t,a0j,a0t,qq1,qq0,↓evBind,a6f,a0m,a0o,a0p,a0n,t1,a4i,t2,if_true,a8c,neB,qqe,if_false,a2o,a1m,ll,ne,c5g,i1,e,a4h,qqa,qqd,a3r,a3p]
theorem c7r(n:Nat)(xs:List Str)(hl:xs.length≤1000):AL (n+2) (.lst (xs.map .str)):=d1q (n+1) _ (by rw[List.length_map];exact hl) fun d hd=>by
 obtain⟨x,_,rfl⟩:=List.mem_map.mp hd
 exact d1p n x
theorem d4d(b:Belt)(ho:b.outs.length≤24):AL 6 (beltD b):=by
 unfold beltD
 refine d1r 5 _ (by simp) fun d hd=>?_
 simp only[List.mem_cons,List.not_mem_nil,or_false] at hd
 rcases hd with rfl|rfl|rfl|rfl
 ·exact d1p 4 _
 ·exact d7k 4 _
 ·exact d8k 4 _
 ·exact c7r 3 _ (by omega)
theorem d0f{h:House}(f:FewH h):AL 8 (a2h h):=by
 unfold a2h
 refine d1r 7 _ (by simp) fun d hd=>?_
 simp only[List.mem_cons,List.not_mem_nil,or_false] at hd
 rcases hd with rfl|rfl
 ·refine d1q 6 _ (by rw[List.length_map];have:=f.bl;omega) fun d hd=>?_
  obtain⟨b,hb,rfl⟩:=List.mem_map.mp hd
  exact d4d b (f.ol b hb)
 ·exact c7r 5 _ (by have:=f.ct;omega)
end Carry
namespace Carry
open PySem L2
theorem d8l(l1 l2:List O)(y:O)(h:l1.length < 1000):setP (fun c=>a1z c [y]) (.lst [.lst l1,.lst l2]) [0]=some (.lst [.lst (l1++[y]),.lst l2],.frz .non):=by
 have ap:a1z (.lst l1) [y]=some (.lst (l1++[y]),.frz .non):=if_pos (by omega)
 unfold setP
 simp only[qq0,Option.bind_some]
 unfold setP
 rw[ap]
 rfl
noncomputable def mixB:GS:=a1l (gMutP a1z 2 [0] (a0a (a7i oJoin (gC (.str " ")) (a0a (gBin oAdd (gSeq .lst (a0a (gBin oIx (gSeq .lst (a0a (gC (.str "belt")) (a0a (gC (.str "ring")) gaNil))) (gOp oInt1 (a0a (gVar 5) gaNil))) (a0a (gVar 3) (a0a (gOp oStr1 (a0a (gVar 4) gaNil)) (a0a (gC (.str "to")) gaNil))))) (gVar 6)) gaNil)) gaNil))
theorem d0g{h:House}(f:FewH h)(b:Belt)(hb:b∈h.belts)(s0 s1 s7 s8:Option O)(xs ys:List O)(hl:xs.length < 1000):
  mixB [s0,s1,some (.lst [.lst xs,.lst ys]),some (.frz (.str b.name)),some (.frz (.int b.long)),some (.frz (.bl b.ring)),some (.frz (.lst (b.outs.map .str))),s7,s8] =
  some (.nx,[s0,s1,some (.lst [.lst (xs++[fS (lineB b)]),.lst ys]),some (.frz (.str b.name)),some (.frz (.int b.long)),some (.frz (.bl b.ring)),some (.frz (.lst (b.outs.map .str))),s7,s8]):=by
 have hj:=c9s f b hb
 have ol:=f.ol b hb
 have lg:=(f.lg b hb).2
 have ew:([.str (wrd b),.str b.name,.str (strI b.long),.str "to"]++b.outs.map D.str:List D)=(a1e b).map D.str:=by unfold a1e;rw[List.map_append];rfl
 have lj:Txt.join " " (a1e b)=lineB b:=b8a _ _
 have ei:(if b.long.natAbs.log2 < 1920 then some (O.frz (.str (Str.ofString (toString b.long)))) else none)=some (.frz (.str (strI b.long))):=if_pos lg
 have eo:oAdd [.lst [.frz (.str (wrd b)),.frz (.str b.name),.frz (.str (strI b.long)),.frz (.str "to")],.frz (.lst (b.outs.map .str))]=some (.lst (((a1e b).map D.str).map .frz)):=by
  rw[b5c]
  show(Option.bind (some [D.str (wrd b),.str b.name,.str (strI b.long),.str "to"]) fun xs=>if xs.length+(b.outs.map D.str).length≤1000000 then some (O.lst ((xs++b.outs.map D.str).map .frz)) else none)=_
  rw[Option.bind_some,if_pos (by simp;omega),ew]
 have jo:=c0w " " (a1e b)
 rw[if_pos hj,lj] at jo
 have ap:=d8l xs ys (fS (lineB b)) hl
 unfold mixB
 generalize lineB b=ln at *
 cases hr:b.ring with
 |true=>
  have hw:wrd b="ring":=by unfold wrd;rw[hr];rfl
  rw[hw] at eo
  simp only[a3c,c6h,qq1,qq0,qq5,qq4,a0j,a8h,a6f,↓evBind,a1t,a4c,a0m,qq2,qq3,qqf,Nat.reduceAdd,Nat.reduceLeDiff,a1n,a1i,if_true,a0t,a0o,a0p,a0n,b7l,a4o,a7r,a7a,a3w,c5v,ei,eo,jo,ap]
 |false=>
  have hw:wrd b="belt":=by unfold wrd;rw[hr];rfl
  rw[hw] at eo
  simp only[a3c,c6h,qq1,qq0,qq5,qq4,a0j,a8h,a6f,↓evBind,a1t,a4c,a0m,qq2,qq3,qqf,Nat.reduceAdd,Nat.reduceLeDiff,a1n,a1i,if_true,a0t,a0o,a0p,a0n,b7l,qqe,if_false,a4o,a7r,a5a,a3w,c5v,ei,eo,jo,ap]
theorem c7s{h:House}(f:FewH h)(s0 s1 a3 a4 a5 a6 s7 s8:Option O)(ys:List O):∃b3 b4 b5 b6,a1u (ggTup [(a0i 3),(a0i 4),(a0i 5),(a0i 6)]) mixB (h.belts.map beltD) [s0,s1,some (.lst [.lst [],.lst ys]),a3,a4,a5,a6,s7,s8] =
  some (.nx,[s0,s1,some (.lst [.lst (h.belts.map fun b=>fS (lineB b)),.lst ys]),b3,b4,b5,b6,s7,s8]):=by
 have bl:=f.bl
 obtain⟨Γ',e,b3,b4,b5,b6,rfl⟩:=a7b (g:=ggTup [(a0i 3),(a0i 4),(a0i 5),(a0i 6)]) (f:=mixB) beltD (fun pre Γ=>∃b3 b4 b5 b6,Γ=[s0,s1,some (.lst [.lst (pre.map fun b=>fS (lineB b)),.lst ys]),b3,b4,b5,b6,s7,s8]) h.belts [] [s0,s1,some (.lst [.lst [],.lst ys]),a3,a4,a5,a6,s7,s8] ⟨_,_,_,_,rfl⟩ (by
  rintro q x post Γ eq ⟨b3,b4,b5,b6,rfl⟩
  have hq:q.length≤100:=by have:=congrArg List.length eq;simp at this;omega
  have hx:x∈h.belts:=by rw[eq];simp
  have e:=d0g f x hx s0 s1 s7 s8 (q.map fun b=>fS (lineB b)) ys (by rw[List.length_map];omega)
  refine⟨_,(show _=mixB [s0,s1,some (.lst [.lst (q.map fun b=>fS (lineB b)),.lst ys]),some (.frz (.str x.name)),some (.frz (.int x.long)),some (.frz (.bl x.ring)),some (.frz (.lst (x.outs.map .str))),s7,s8] from rfl).trans e,some (.frz (.str x.name)),some (.frz (.int x.long)),some (.frz (.bl x.ring)),some (.frz (.lst (x.outs.map .str))),?_⟩
  rw[List.nil_append,List.map_append]
  rfl)
 exact⟨b3,b4,b5,b6,e⟩
noncomputable def rowsO (bs:List Belt) (cs:List Str):List O:=(if bs.isEmpty then[] else[.lst (bs.map fun b=>fS (lineB b))])++(if cs.isEmpty then[] else[.lst (cs.map fun c=>fS (lineC c))])
theorem b3h(bs:List Belt)(cs:List Str):filtO [.lst (bs.map fun b=>fS (lineB b)),.lst (cs.map fun c=>fS (lineC c))]=some (rowsO bs cs):=by
 cases bs <;> cases cs <;> rfl
theorem d7l(bs:List Belt):filtO [.lst (bs.map fun b=>fS (lineB b))]=some (rowsO bs []):=by
 cases bs <;> rfl
theorem d7m(cs:List Str):filtO [.lst (cs.map fun c=>fS (lineC c))]=some (rowsO [] cs):=by
 cases cs <;> rfl
noncomputable def mixD:GE:=gCall a0y (a0a (gVar 0) (a0a (gOp oLen (a0a (gVar 2) gaNil)) gaNil))
noncomputable def mixW:GS:=a0e (b2v mixD 2 7 8) (a9u 2)
noncomputable abbrev mixG (G:Feed) (s1:Option O) (rows:List O) (s3 s4 s5 s6:Option O) (ls:List O) (s8:Option O):Gm:=[some (feedT G),s1,some (.lst rows),s3,s4,s5,s6,some (.lst ls),s8]
theorem d1s:∀os:List O,(O.dl os).length=os.length
 |[]=>rfl
 |o::os=>by rw[a4z,List.length_cons,List.length_cons,d1s os]
theorem d0h{G:Feed}(g:GoodF G){rows:List O}(h0:0 < rows.length)(h1:rows.length≤2)(s1 s3 s4 s5 s6 s8:Option O)(ls:List O):
  mixD (mixG G s1 rows s3 s4 s5 s6 ls s8)=some (.own (.frz (.int (drawV G rows.length))),mixG (drawF G rows.length) s1 rows s3 s4 s5 s6 ls s8):=by
 have e:=xd g (m:=(rows.length:Int)) (by omega) (by omega)
 have hl:oLen [.lst rows]=some (.frz (.int (rows.length:Nat))):=by simp only[a9n,a2f,a5i,a6y,d1s,Option.map_some,Option.bind_some]
 generalize(rows.length:Int)=m at *
 unfold mixD mixG
 simp only[a3d,a0j,a0t,qq0,↓evBind,a1t,qq1,a0m,a0o,a2x,Option.join_some,a0n,hl,a3e,qq4,a2c,a2b,e,a5t,a4e,a4d]
theorem b1n{G:Feed}(g:GoodF G){rows:List O}(h0:0 < rows.length)(h1:rows.length≤2)(s1 s3 s4 s5 s6 s8:Option O)(ls:List O){j:Nat}{q:O}{qs rows':List O}(hp:popTo rows (drawV G rows.length)=some (j,q,qs))(hf:filtO (rows.set j (.lst qs))=some rows')(hl:ls.length < 1000):
  mixW (mixG G s1 rows s3 s4 s5 s6 ls s8)=some (.nx,mixG (drawF G rows.length) s1 rows' s3 s4 s5 s6 (ls++[q]) none):=by
 have e:=d0h g h0 h1 s1 s3 s4 s5 s6 s8 ls
 have e1:b2v mixD 2 7 8 (mixG G s1 rows s3 s4 s5 s6 ls s8)=some (.nx,mixG (drawF G rows.length) s1 (rows.set j (.lst qs)) s3 s4 s5 s6 (ls++[q]) none):=by
  show(Option.bind (mixD (mixG G s1 rows s3 s4 s5 s6 ls s8)) _)=_
  rw[e,Option.bind_some]
  show(if ls.length < 1000∧8 < 9 then(popTo rows (drawV G rows.length)).bind _ else none)=_
  rw[if_pos ⟨hl,by decide⟩,hp]
  rfl
 unfold mixW
 rw[a0x,e1,Option.bind_some]
 show(if(rows.set j (.lst qs)).length≤1000 then(filtO (rows.set j (.lst qs))).bind _ else none)=_
 rw[if_pos (by rw[List.length_set];omega),hf]
 rfl
theorem c1w(c:GT)(f:GS)(n:Nat)(Γ:Gm):a2s c f (n+1) Γ=(c Γ).bind fun p=>if p.1=true then(f p.2).bind fun q=>match q.1 with
   |.nx=>a2s c f n q.2
   |.ct=>a2s c f n q.2
   |.bk=>some (.nx,q.2)
   |.rt o=>some (.rt o,q.2)
  else some (.nx,p.2):=rfl
theorem d1t{c:GT}{f:GS}{n:Nat}{Γ Γ1 Γ2:Gm}(hc:c Γ=some (true,Γ1))(hf:f Γ1=some (.nx,Γ2)):a2s c f (n+1) Γ=a2s c f n Γ2:=by
 rw[c1w,hc,Option.bind_some,if_pos rfl,hf]
 rfl
theorem d4e(G:Feed)(s1:Option O)(rows:List O)(s3 s4 s5 s6:Option O)(ls:List O)(s8:Option O):gTru (gVar 2) (mixG G s1 rows s3 s4 s5 s6 ls s8)=some (!rows.isEmpty,mixG G s1 rows s3 s4 s5 s6 ls s8):=rfl
noncomputable abbrev lnO (ls:List Ln):List O:=ls.map fun l=>fS l.s
theorem b3i(s1 s3 s4 s5 s6:Option O):∀(n fuel:Nat) (bs:List Belt) (cs:List Str) (G:Feed) (ls:List Ln) (s8:Option O),bs.length+cs.length=n→n < fuel→ls.length+n≤500→GoodF G→
  ∃G' ls' s8',a2s (gTru (gVar 2)) mixW fuel (mixG G s1 (rowsO bs cs) s3 s4 s5 s6 (lnO ls) s8)=some (.nx,mixG G' s1 [] s3 s4 s5 s6 (lnO (ls++ls')) s8')∧lnB ls'=bs∧lnC ls'=cs
 |_,0,_,_,_,_,_,_,h,_,_=>by omega
 |0,fuel+1,bs,cs,G,ls,s8,hn,_,_,_=>by
  cases bs with
  |cons b bs=>simp at hn
  |nil=>
   cases cs with
   |cons c cs=>simp at hn
   |nil=>
    refine⟨G,[],s8,?_,rfl,rfl⟩
    rw[c1w,d4e,List.append_nil]
    rfl
 |n+1,fuel+1,bs,cs,G,ls,s8,hn,hf,hl,g=>by
  have hls:(lnO ls).length < 1000:=by rw[List.length_map];omega
  have goB:∀b bs',bs=b::bs'→∀(G1:Feed),GoodF G1→mixW (mixG G s1 (rowsO bs cs) s3 s4 s5 s6 (lnO ls) s8)=some (.nx,mixG G1 s1 (rowsO bs' cs) s3 s4 s5 s6 (lnO ls++[fS (lineB b)]) none)→
    gTru (gVar 2) (mixG G s1 (rowsO bs cs) s3 s4 s5 s6 (lnO ls) s8)=some (true,mixG G s1 (rowsO bs cs) s3 s4 s5 s6 (lnO ls) s8)→
    ∃G' ls' s8',a2s (gTru (gVar 2)) mixW (fuel+1) (mixG G s1 (rowsO bs cs) s3 s4 s5 s6 (lnO ls) s8)=some (.nx,mixG G' s1 [] s3 s4 s5 s6 (lnO (ls++ls')) s8')∧lnB ls'=bs∧lnC ls'=cs:=by
   rintro b bs' rfl G1 g1 e1 e2
   obtain⟨G',ls',s8',a1,a2,a3⟩:=b3i s1 s3 s4 s5 s6 n fuel bs' cs G1 (ls++[.b b]) none (by rw[List.length_cons] at hn;omega) (by omega) (by simp;omega) g1
   refine⟨G',.b b::ls',s8',?_,by show b::lnB ls'=_;rw[a2],a3⟩
   rw[d1t e2 e1,show ls++Ln.b b::ls'=ls++[.b b]++ls' by simp,←a1,show lnO (ls++[Ln.b b])=lnO ls++[fS (lineB b)] by unfold lnO;rw[List.map_append];rfl]
  have goC:∀c cs',cs=c::cs'→∀(G1:Feed),GoodF G1→mixW (mixG G s1 (rowsO bs cs) s3 s4 s5 s6 (lnO ls) s8)=some (.nx,mixG G1 s1 (rowsO bs cs') s3 s4 s5 s6 (lnO ls++[fS (lineC c)]) none)→
    gTru (gVar 2) (mixG G s1 (rowsO bs cs) s3 s4 s5 s6 (lnO ls) s8)=some (true,mixG G s1 (rowsO bs cs) s3 s4 s5 s6 (lnO ls) s8)→
    ∃G' ls' s8',a2s (gTru (gVar 2)) mixW (fuel+1) (mixG G s1 (rowsO bs cs) s3 s4 s5 s6 (lnO ls) s8)=some (.nx,mixG G' s1 [] s3 s4 s5 s6 (lnO (ls++ls')) s8')∧lnB ls'=bs∧lnC ls'=cs:=by
   rintro c cs' rfl G1 g1 e1 e2
   obtain⟨G',ls',s8',a1,a2,a3⟩:=b3i s1 s3 s4 s5 s6 n fuel bs cs' G1 (ls++[.c c]) none (by rw[List.length_cons] at hn;omega) (by omega) (by simp;omega) g1
   refine⟨G',.c c::ls',s8',?_,a2,by show c::lnC ls'=_;rw[a3]⟩
   rw[d1t e2 e1,show ls++Ln.c c::ls'=ls++[.c c]++ls' by simp,←a1,show lnO (ls++[Ln.c c])=lnO ls++[fS (lineC c)] by unfold lnO;rw[List.map_append];rfl]
  cases bs with
  |nil=>
   cases cs with
   |nil=>simp at hn
   |cons c cs'=>
    have v0:drawV G 1=0:=by have:=a0q G (m:=1) (by decide);have:=a2a G (m:=1) (by decide);omega
    exact goC c cs' rfl _ (g.draw 1) (b1n (j:=0) g (by show 0 < 1;decide) (by show 1≤2;decide) s1 s3 s4 s5 s6 s8 (lnO ls) (by show popTo _ (drawV G 1)=_;rw[v0];rfl) (d7m cs') hls) rfl
  |cons b bs'=>
   cases cs with
   |nil=>
    have v0:drawV G 1=0:=by have:=a0q G (m:=1) (by decide);have:=a2a G (m:=1) (by decide);omega
    exact goB b bs' rfl _ (g.draw 1) (b1n (j:=0) g (by show 0 < 1;decide) (by show 1≤2;decide) s1 s3 s4 s5 s6 s8 (lnO ls) (by show popTo _ (drawV G 1)=_;rw[v0];rfl) (d7l bs') hls) rfl
   |cons c cs'=>
    have v0:=a0q G (m:=2) (by decide)
    have v1:=a2a G (m:=2) (by decide)
    by_cases hz:drawV G 2=0
    ·exact goB b bs' rfl _ (g.draw 2) (b1n (j:=0) g (by show 0 < 2;decide) (by show 2≤2;decide) s1 s3 s4 s5 s6 s8 (lnO ls) (by show popTo _ (drawV G 2)=_;rw[hz];rfl) (b3h bs' (c::cs')) hls) rfl
    ·have hz:drawV G 2=1:=by omega
     exact goC c cs' rfl _ (g.draw 2) (b1n (j:=1) g (by show 0 < 2;decide) (by show 2≤2;decide) s1 s3 s4 s5 s6 s8 (lnO ls) (by show popTo _ (drawV G 2)=_;rw[hz];rfl) (b3h (b::bs') cs') hls) rfl
end Carry
namespace Carry
open PySem L2
theorem d8m{x:Belt}:∀{ls:List Ln},Ln.b x∈ls→x∈lnB ls
 |.b y::r,h=>by
  rcases List.mem_cons.mp h with z|z
  ·cases z;exact .head _
  ·exact .tail _ (d8m z)
 |.c y::r,h=>by
  rcases List.mem_cons.mp h with z|z
  ·cases z
  ·exact d8m (ls:=r) z
theorem d8n{x:Str}:∀{ls:List Ln},Ln.c x∈ls→x∈lnC ls
 |.c y::r,h=>by
  rcases List.mem_cons.mp h with z|z
  ·cases z;exact .head _
  ·exact .tail _ (d8n z)
 |.b y::r,h=>by
  rcases List.mem_cons.mp h with z|z
  ·cases z
  ·exact d8n (ls:=r) z
theorem d4f:∀(ls:List Ln),ls.length=(lnB ls).length+(lnC ls).length
 |[]=>rfl
 |.b x::r=>by have:=d4f r;show r.length+1=(lnB r).length+1+(lnC r).length;omega
 |.c x::r=>by have:=d4f r;show r.length+1=(lnB r).length+((lnC r).length+1);omega
theorem d7n{h:House}(f:FewH h){ls:List Ln}(hb:lnB ls=h.belts)(hc:lnC ls=h.carts):Mix h ls:=by
 refine⟨hb,hc,?_,?_,?_⟩
 ·have h1:=d4f ls;rw[hb,hc] at h1;have:=f.bl;have:=f.ct;omega
 ·intro z;subst z;have h1:=f.c0;rw[←hc] at h1;exact absurd h1 (by decide)
 ·intro l hl
  cases l with
  |b x=>show x∈h.belts;rw[←hb];exact d8m hl
  |c x=>show x∈h.carts;rw[←hc];exact d8n hl
theorem d4g{Γ:Gm}{i:Nat}{ps qs:List O}(h:Γ[i]?=some (some (.lst ps)))(hl:ps.length≤1000)(hf:filtO ps=some qs):a9u i Γ=some (.nx,Γ.set i (some (.lst qs))):=by
 unfold a9u
 rw[h]
 dsimp only
 rw[if_pos hl,hf]
 rfl
theorem c2y:b3c=(a0e (gsSet 2 (gSeq .lst (a0a (gSeq .lst gaNil) (a0a (a4b (srcL (gBin oIx (gVar 1) (gC (.int 1)))) (a0i 0) gYes (gFrz (gBin oAdd (gC (.str "cart ")) (gVar 0))) 1 []) gaNil))))
 (a0e (gsFor (gBin oIx (gVar 1) (gC (.int 0))) (ggTup [(a0i 3),(a0i 4),(a0i 5),(a0i 6)]) mixB)
 (a0e (gsSet 7 (gSeq .lst gaNil))
 (a0e (a9u 2)
 (a0e (a2s (gTru (gVar 2)) mixW 1000)
 (gsRet (a7i oJoin (gC (.str "\n")) (a0a (gVar 7) gaNil)))))))):=rfl
theorem d4h{h:House}(f:FewH h){G:Feed}(g:GoodF G):∃ls G',Mix h ls∧a6o [feedT G,.frz (a2h h)]=some (.frz (.str (glueL "\n" (ls.map Ln.s))),[some (feedT G'),none]):=by
 have bl:=f.bl
 have ct:=f.ct
 obtain⟨Γ2,⟨a2,rfl⟩,e2⟩:=c9h (g:=a0i 0) (ct:=gYes) (ce:=gFrz (gBin oAdd (gC (.str "cart ")) (gVar 0))) (fun Γ=>∃a,Γ=[a]) D.str (fun c=>.str (lineC c)) h.carts [none] ⟨_,rfl⟩ (by omega) (by
  rintro c hc Γ ⟨a,rfl⟩
  have hl:=f.cm c hc
  have c2:(("cart ":Str).length+c.length≤1000000)=True:=eq_true (by have:("cart ":Str).length=5:=rfl;omega)
  have el:("cart ":Str)++c=lineC c:=rfl
  refine⟨[some (fS c)],?_,_,rfl⟩
  simp only[c9i,a2l,qq2,qq3,qqf,Nat.reduceLT,qq4,if_true,↓evBind,c5h,a1v,a1t,a0j,a6f,a0t,qq0,a0m,a0o,a0p,a0n,c5j,c2,el,a2f])
 have ew:(h.carts.map (fun c=>D.str (lineC c))).map O.frz=h.carts.map fun c=>fS (lineC c):=by rw[List.map_map];rfl
 rw[ew] at e2
 obtain⟨b3,b4,b5,b6,e3⟩:=c7s f (some (feedT G)) (some (.frz (a2h h))) none none none none none none (h.carts.map fun c=>fS (lineC c))
 obtain⟨G',ls,s8,e4,hb,hc⟩:=b3i (some (.frz (a2h h))) b3 b4 b5 b6 (h.belts.length+h.carts.length) 1000 h.belts h.carts G [] none rfl (by omega) (by simp;omega) g
 have m:=d7n f hb hc
 have ef:a9u 2 [some (feedT G),some (.frz (a2h h)),some (.lst [.lst (h.belts.map fun b=>fS (lineB b)),.lst (h.carts.map fun c=>fS (lineC c))]),b3,b4,b5,b6,some (.lst []),none]=some (.nx,[some (feedT G),some (.frz (a2h h)),some (.lst (rowsO h.belts h.carts)),b3,b4,b5,b6,some (.lst []),none]):=by
  exact d4g (i:=2) rfl (by simp) (b3h h.belts h.carts)
 have hj:JoinOk "\n" (ls.map Ln.s)=true:=c6w "\n" _ (by decide) (by rw[List.length_map];have:=m.len;omega) fun y hy=>by
  obtain⟨l,hl,rfl⟩:=List.mem_map.mp hy
  have:=d1k f (m.ok l hl)
  omega
 have jo:=c0w "\n" (ls.map Ln.s)
 rw[if_pos hj,b8a] at jo
 have el:lnO ([]++ls)=((ls.map Ln.s).map D.str).map .frz:=by rw[List.nil_append,List.map_map,List.map_map];rfl
 rw[el] at e4
 have e4:a2s (gTru (gVar 2)) mixW 1000 [some (feedT G),some (.frz (a2h h)),some (.lst (rowsO h.belts h.carts)),b3,b4,b5,b6,some (.lst []),none]=_:=e4
 refine⟨ls,G',m,?_⟩
 unfold a6o
 rw[c2y]
 have x0:=xh0 h
 have x1:=xh1 h
 generalize((ls.map Ln.s).map D.str).map O.frz=lo at *
 generalize glueL "\n" (ls.map Ln.s)=tx at *
 generalize a2s (gTru (gVar 2)) mixW 1000=W at *
 generalize a2h h=hD at *
 generalize rowsO h.belts h.carts=ro at *
 generalize h.belts.map beltD=l3 at *
 generalize h.carts.map D.str=l4 at *
 simp only[a1w,qq6,qq7,qq2,qq3,qqf,Nat.reduceAdd,Nat.reduceSub,qq9,qq8,qqb,qqc,a0x,a3i,a4c,a0j,a0m,↓evBind,Nat.reduceLeDiff,a1i,if_true,a6x,b9d,a1v,a1t,a0t,qq1,qq0,a6f,a0o,a0p,a0n,a4o,x1,a2f,a5u,e2,List.drop_succ_cons,List.drop_zero,a5v,a1n,Nat.reduceLT,qq5,qq4,a9l,x0,e3,ef,e4,a2o,a8h,a2x,Option.join_some,jo,a4h,qqa,qqd,b1f,a3r,a3p]
end Carry
namespace Carry
open PySem L2
theorem d4i(l1 l2:List O)(s0 s1 s2 s3:Option O):gTruP 4 [0] [s0,s1,s2,s3,some (.tup [.lst l1,.lst l2])]=some (!l1.isEmpty,[s0,s1,s2,s3,some (.tup [.lst l1,.lst l2])]):=rfl
theorem d0i(l1 l2:List O)(y:O)(h:l2.length < 1000):setP (fun c=>a1z c [y]) (.tup [.lst l1,.lst l2]) [1]=some (.tup [.lst l1,.lst (l2++[y])],.frz .non):=by
 have ap:a1z (.lst l2) [y]=some (.lst (l2++[y]),.frz .non):=if_pos (by omega)
 show((a1z (.lst l2) [y]).bind fun z=>some (O.tup ([.lst l1,.lst l2].set 1 z.1),z.2))=_
 rw[ap]
 rfl
theorem d0j(a b c:O)(os l1 l2:List O)(y:O)(h:os.length < 1000):setP (fun c=>a1z c [y]) (.tup [.lst (.tup [a,b,c,.lst os]::l1),.lst l2]) [0,0,3]=some (.tup [.lst (.tup [a,b,c,.lst (os++[y])]::l1),.lst l2],.frz .non):=by
 have ap:a1z (.lst os) [y]=some (.lst (os++[y]),.frz .non):=if_pos (by omega)
 show((((((a1z (.lst os) [y]).bind fun z=>some (O.tup ([a,b,c,.lst os].set 3 z.1),z.2)).bind fun z=>some (O.lst ((O.tup [a,b,c,.lst os]::l1).set 0 z.1),z.2))).bind fun z=>some (O.tup ([.lst (.tup [a,b,c,.lst os]::l1),.lst l2].set 0 z.1),z.2)))=_
 rw[ap]
 rfl
theorem d4j(x:O)(l1 l2:List O):∃y l1',setP (fun c=>mPop c []) (.tup [.lst (x::l1),.lst l2]) [0]=some (.tup [.lst l1',.lst l2],y):=by
 obtain⟨y,hy⟩:∃y,(x::l1)[(x::l1).length - 1]?=some y:=by
  have:(x::l1).length - 1 < (x::l1).length:=by simp
  exact⟨_,List.getElem?_eq_getElem this⟩
 refine⟨y,(x::l1).dropLast,?_⟩
 show(((((x::l1)[(x::l1).length - 1]?).map fun y=>(O.lst (x::l1).dropLast,y)).bind fun z=>some (O.tup ([.lst (x::l1),.lst l2].set 0 z.1),z.2)))=_
 rw[hy]
 rfl
noncomputable def lawIf:GS:=(gsIf (gTruP 4 [0])
  (a0e (a1l (gMutC a1z 4 [0,0,3] [.str "x"]))
 (a1l (gMutC mPop 4 [0] [])))
  gsNil)
theorem d7o{h:House}(f:FewH h)(l2:List O)(s0 s1 s2 s3:Option O):∃l1,lawIf [s0,s1,s2,s3,some (.tup [.lst (h.belts.map ownB),.lst l2])]=some (.nx,[s0,s1,s2,s3,some (.tup [.lst l1,.lst l2])]):=by
 cases hb:h.belts with
 |nil=>exact⟨[],rfl⟩
 |cons b bs=>
  have ol:=f.ol b (by rw[hb];exact .head _)
  have e0:=d4i (ownB b::bs.map ownB) l2 s0 s1 s2 s3
  have e1:setP (fun c=>a1z c [.frz (.str "x")]) (.tup [.lst (ownB b::bs.map ownB),.lst l2]) [0,0,3]=_:=d0j (.frz (.str b.name)) (.frz (.int b.long)) (.frz (.bl b.ring)) (b.outs.map fS) (bs.map ownB) l2 (.frz (.str "x")) (by rw[List.length_map];omega)
  obtain⟨y,l1,e2⟩:=d4j (.tup [.frz (.str b.name),.frz (.int b.long),.frz (.bl b.ring),.lst (b.outs.map fS++[.frz (.str "x")])]) (bs.map ownB) l2
  refine⟨l1,?_⟩
  unfold lawIf
  rw[List.map_cons]
  generalize ownB b=ob at *
  generalize bs.map ownB=obs at *
  simp only[a1j,e0,List.isEmpty_cons,Bool.not_false,↓evBind,a0x,a3c,c5p,qq1,qq0,qq6,qq7,e1,qq5,qq4,e2,a1m,if_true]
theorem b9r(F:Feed)(h:GoodF F):GoodF (a8n 5 F).1:=by
 have eH:a8n 5 F=(let w:=wideM (drawV F 7) (drawF (drawF F 7) 5);let r:=a0z (drawV F 7) w.2 (a3t F.style (1+drawV (drawF F 7) 5).toNat) (drawV F 7).toNat (w.1,[]);(r.1,⟨r.2,a3t F.style (1+drawV (drawF F 7) 5).toNat⟩)):=rfl
 have g2:=(h.draw 7).draw 5
 rw[eH]
 dsimp only
 refine a5f (p:=(_,[])) ?_ _
 show GoodF (if drawV F 7 < 3 then(drawF (drawF (drawF (drawF F 7) 5) 2) 20,drawV (drawF (drawF F 7) 5) 2 * drawV (drawF (drawF (drawF F 7) 5) 2) 20) else(drawF (drawF F 7) 5,0)).1
 split
 ·exact(g2.draw 2).draw 20
 ·exact g2
theorem d0k:d3p=(a0e (gsSet 1 (gCall a8i (a0a (gVar 0) gaNil)))
 (a0e (gsPut (gFrz (gCall a0y (a0a (gVar 1) (a0a (gC (.int 60)) gaNil)))) (gVar 1) (gC (.int 2)))
 (a0e (gsSet 2 (gFrz (gCall a6p (a0a (gVar 1) gaNil))))
 (a0e (gsSet 3 (gFrz (gCall a6o (a0a (gVar 1) (a0a (gVar 2) gaNil)))))
 (a0e (gsSet 4 (gCall a2g (a0a (gVar 3) gaNil)))
 (a0e (gsIf (gNotT (gTru (a2u (a1h 8) (a0a (gVar 4) (a0a (gVar 2) gaNil)))))
  (gsRet (gC (.bl false)))
  gsNil)
 (a0e lawIf
 (a0e (a1l (gMutC a1z 4 [1] [.str "y"]))
 (gsRet (a2u (a1h 8) (a0a (gCall a2g (a0a (gVar 3) gaNil)) (a0a (gVar 2) gaNil)))))))))))):=rfl
theorem d8o(ns:List Int)(hn:ns.length≤63):∃fin,d3q [.frz (.scr ns)]=some (.frz (.bl true),fin):=by
 have e1:=d6j ns hn
 have g0:GoodF (feed0 ns):=⟨Int.le_refl 0,hn⟩
 have e2:=xd g0 (m:=60) (by decide) (by decide)
 have v0:=a0q (feed0 ns) (m:=60) (by decide)
 have v1:=a2a (feed0 ns) (m:=60) (by decide)
 have e3:=c6v (drawF (feed0 ns) 60) (drawV (feed0 ns) 60)
 have g1:GoodF { drawF (feed0 ns) 60 with style:=drawV (feed0 ns) 60}:=⟨(g0.draw 60).pos,(g0.draw 60).len⟩
 have e4:=d3v _ g1 v0 v1
 have gh:=c2w _ g1 v0 v1
 have nd:=d0e { drawF (feed0 ns) 60 with style:=drawV (feed0 ns) 60}
 have gG:GoodF (a8n 5 { drawF (feed0 ns) 60 with style:=drawV (feed0 ns) 60}).1:=b9r _ g1
 generalize a8n 5 { drawF (feed0 ns) 60 with style:=drawV (feed0 ns) 60}=p at *
 obtain⟨G,h⟩:=p
 dsimp only at e4 gh nd gG
 have hd:D.tup [.lst (O.dl (h.belts.map fB)),.lst (h.carts.map .str)]=a2h h:=by rw[dl_B];rfl
 have hd2:D.tup [.lst (h.belts.map beltD),.lst (h.carts.map .str)]=a2h h:=rfl
 have f:=d1i gh v0 v1
 have pl:=c1n gh v0 v1
 have ho:∀b∈h.belts,b.outs≠[]:=fun b hb z=>by
  rcases gh.hd b hb with y|⟨o,y,_⟩
  ·rw[z] at y;cases y
  ·rw[z] at y;cases y
 have r1:=d4c gh v0 v1 (fun b hb=>(nd b hb).1) (fun b hb=>(nd b hb).2)
 obtain⟨ls,G',m,r2⟩:=d4h f gG
 have r3:a2g [.frz (.str (glueL "\n" (ls.map Ln.s)))]=some (.tup [.lst (h.belts.map ownB),.lst (h.carts.map fS)],[none]):=d6w f pl ho r1 m
 have r4:a1h 8 [.frz (a2h h),.frz (a2h h)]=some (.frz (.bl true),[none,none]):=d0f f
 have dB:=b9n h.belts
 have dC:=d8j h.carts
 have ct:=f.ct
 obtain⟨l1',e5⟩:=d7o f (h.carts.map fS) (some (.frz (.scr ns))) (some (feedT G')) (some (.frz (a2h h))) (some (.frz (.str (glueL "\n" (ls.map Ln.s)))))
 have e6:=d0i l1' (h.carts.map fS) (.frz (.str "y")) (by rw[List.length_map];omega)
 refine⟨[none],?_⟩
 unfold d3q
 rw[d0k]
 generalize glueL "\n" (ls.map Ln.s)=tx at *
 generalize a2h h=hD at *
 generalize h.belts.map ownB=lo at *
 generalize h.belts.map fB=l1 at *
 generalize h.carts.map fS=l2 at *
 generalize h.belts.map beltD=l3 at *
 generalize h.carts.map D.str=l4 at *
 simp only[a1w,qq6,qq7,qq2,qq3,qqf,Nat.reduceSub,qq9,qq8,qqb,qqc,a0x,a3i,a3d,a0j,a0t,qq0,↓evBind,a0m,a2c,a2b,e1,a4e,a4d,Nat.reduceAdd,Nat.reduceLT,qq5,qq4,if_true,b3z,a1v,qq1,a6f,a3e,e2,a5t,a2f,e3,e4,c9g,a4z,a5i,a5j,hd,r2,r3,a1j,b2k,a5r,a5b,a0o,a2x,Option.join_some,a0p,a0n,dB,dC,hd2,r4,a8y,a4i,Bool.not_true,qqe,a2o,a1m,if_false,e5,a3c,c5p,e6,a4h,qqa,qqd,a3r,a3p]
end Carry
namespace Carry
open PySem L2
noncomputable def spLaw (K:PySem.W.Frag):L2.Sp:=fun vs H Q _=>∃(a:Addr) (ns:List Int),vs=[.ref a]∧SqL K H a (ns.map V.int)∧ns.length≤63∧∀H',Q (.bl true) H'
theorem d7p{P:Program}{w:World}{K:PySem.W.Frag}{mg:Str→Option Value}{base:Heap}{t:Adr}(T:Txt K mg t):FnOk P w K mg base CX0 10 (t 20).1 (t 20).2 ["_law_script"] (spLaw K):=by
 have z_is_name:=c2n (P:=P) (w:=w) (base:=base) T
 have z_belt_names:=b5j (P:=P) (w:=w) (base:=base) T
 have z_is_cart_line:=b2x (P:=P) (w:=w) (base:=base) T
 have z_is_number:=b7x (P:=P) (w:=w) (base:=base) T
 have z_l_feed:=c6l (P:=P) (w:=w) (base:=base) T
 have z_l_draw:=c6m (P:=P) (w:=w) (base:=base) T
 have z_l_name:=c6o (P:=P) (w:=w) (base:=base) T
 have z_take_name:=b7z (P:=P) (w:=w) (base:=base) T z_is_name
 have z_check_outs:=b5n (P:=P) (w:=w) (base:=base) T z_belt_names
 have z_reached:=c2o (P:=P) (w:=w) (base:=base) T z_belt_names
 have z_is_belt_line:=b3b (P:=P) (w:=w) (base:=base) T z_is_number
 have z_l_outs:=c6p (P:=P) (w:=w) (base:=base) T z_l_draw
 have z_l_mixed:=c2p (P:=P) (w:=w) (base:=base) T z_l_draw
 have z_check_carts:=b3l (P:=P) (w:=w) (base:=base) T z_take_name
 have z_check_belts:=b3m (P:=P) (w:=w) (base:=base) T z_take_name
 have z_check_hand:=b5p (P:=P) (w:=w) (base:=base) T z_belt_names z_reached
 have z_l_house:=c2q (P:=P) (w:=w) (base:=base) T z_l_draw z_l_name z_l_outs
 have z_right_house:=b3n (P:=P) (w:=w) (base:=base) T z_check_belts z_check_carts z_check_hand z_check_outs
 have z_read_house:=b5q (P:=P) (w:=w) (base:=base) T z_is_belt_line z_is_cart_line z_right_house
 have z_l_alike:=c2r (P:=P) (w:=w) (base:=base) T
 exact d3b (d6h T z_l_alike z_l_draw z_l_feed z_l_house z_l_mixed z_read_house) d8o
theorem c7t{us:List Value}(h:us.length=1):∃a0,us=[a0]:=by
 obtain _|⟨a0,us⟩:=us
 ·cases h
 obtain _|⟨z,us⟩:=us
 ·exact⟨a0,rfl⟩
 ·simp at h
theorem d0l{us:List Value}(h:us.length=2):∃a0 a1,us=[a0,a1]:=by
 obtain _|⟨a0,us⟩:=us
 ·cases h
 obtain _|⟨a1,us⟩:=us
 ·cases h
 obtain _|⟨z,us⟩:=us
 ·exact⟨a0,a1,rfl⟩
 ·simp at h
theorem us_3{us:List Value}(h:us.length=3):∃a0 a1 a2,us=[a0,a1,a2]:=by
 obtain _|⟨a0,us⟩:=us
 ·cases h
 obtain _|⟨a1,us⟩:=us
 ·cases h
 obtain _|⟨a2,us⟩:=us
 ·cases h
 obtain _|⟨z,us⟩:=us
 ·exact⟨a0,a1,a2,rfl⟩
 ·simp at h
open PyProof.Rows
noncomputable def tops:List Stmt:=[1,2,3,4,5,6,8,9,10,12,13,14,15,16,17,18,19,21,22,23,24,25,26,28,29,30,31,32,33,34,35].map top
noncomputable def dl:List (Str×Nat):=[("is_name",8),("right_house",9),("check_carts",10),("check_belts",11),("take_name",12),("check_outs",13),("check_hand",14),("belt_names",15),("reached",16),("read_house",19),("is_belt_line",20),("is_cart_line",21),("is_number",22),("_law_feed",23),("_law_draw",24),("_law_name",25),("_law_outs",26),("_law_house",27),("_law_mixed",28),("_law_alike",29),("law",30)]
noncomputable def bl:List Str:=["len","isinstance","int","bool","str","list","tuple","range","enumerate","all"]
theorem d7q{l:PySem.W.OpenLaw}{w:World}{q:Program}{L:List Str}{me:ExcName→Option Value}{mg mb:Str→Option Value}{h:Heap}{fa:Addr}(T:Top q L me mg mb h)(hfa:mg "law"=some (.ref fa))(hq:q.main.body=tops)(hD:chkD tops dl=true)(hB:chkB q L bl=true)(y_LETTERS:valOf q "LETTERS"=some (.str "abcdefghijklmnopqrstuvwxyz"))(y_FIGURES:valOf q "FIGURES"=some (.str "0123456789"))(y_MOST_LETTERS:valOf q "MOST_LETTERS"=some (.int 8))(y_MOST_FIGURES:valOf q "MOST_FIGURES"=some (.int 9)):
  ∃fd:FuncData,(∀(s:Shared) (v:Value),BindsTo s fd ⟨[v],[]⟩ [("_law_script",v)])∧∀base:Heap,FnOk l.prog w (snap h) mg base CX0 10 fa fd ["_law_script"] (spLaw (snap h)):=by
 obtain⟨f0,d0,m0,F0⟩:=a3m (st:=a7s) T hq hD 0 rfl rfl
 have D0:DefAt (snap h) mg "is_name" a7s f0 d0 ["thing"]:=⟨F0,m0,F0.binds fun _ _ _ _ _ _ us hl=>by obtain⟨_,rfl⟩:=c7t hl;rfl⟩
 obtain⟨f1,d1,m1,F1⟩:=a3m (st:=a5c) T hq hD 1 rfl rfl
 have D1:DefAt (snap h) mg "right_house" a5c f1 d1 ["house"]:=⟨F1,m1,F1.binds fun _ _ _ _ _ _ us hl=>by obtain⟨_,rfl⟩:=c7t hl;rfl⟩
 obtain⟨f2,d2,m2,F2⟩:=a3m (st:=a5d) T hq hD 2 rfl rfl
 have D2:DefAt (snap h) mg "check_carts" a5d f2 d2 ["carts","taken"]:=⟨F2,m2,F2.binds fun _ _ _ _ _ _ us hl=>by obtain⟨_,_,rfl⟩:=d0l hl;rfl⟩
 obtain⟨f3,d3,m3,F3⟩:=a3m (st:=a5e) T hq hD 3 rfl rfl
 have D3:DefAt (snap h) mg "check_belts" a5e f3 d3 ["belts","taken"]:=⟨F3,m3,F3.binds fun _ _ _ _ _ _ us hl=>by obtain⟨_,_,rfl⟩:=d0l hl;rfl⟩
 obtain⟨f4,d4,m4,F4⟩:=a3m (st:=a7c) T hq hD 4 rfl rfl
 have D4:DefAt (snap h) mg "take_name" a7c f4 d4 ["name","taken"]:=⟨F4,m4,F4.binds fun _ _ _ _ _ _ us hl=>by obtain⟨_,_,rfl⟩:=d0l hl;rfl⟩
 obtain⟨f5,d5,m5,F5⟩:=a3m (st:=a5y) T hq hD 5 rfl rfl
 have D5:DefAt (snap h) mg "check_outs" a5y f5 d5 ["belts","carts"]:=⟨F5,m5,F5.binds fun _ _ _ _ _ _ us hl=>by obtain⟨_,_,rfl⟩:=d0l hl;rfl⟩
 obtain⟨f6,d6,m6,F6⟩:=a3m (st:=a5z) T hq hD 6 rfl rfl
 have D6:DefAt (snap h) mg "check_hand" a5z f6 d6 ["house"]:=⟨F6,m6,F6.binds fun _ _ _ _ _ _ us hl=>by obtain⟨_,rfl⟩:=c7t hl;rfl⟩
 obtain⟨f7,d7,m7,F7⟩:=a3m (st:=a4p) T hq hD 7 rfl rfl
 have D7:DefAt (snap h) mg "belt_names" a4p f7 d7 ["belts"]:=⟨F7,m7,F7.binds fun _ _ _ _ _ _ us hl=>by obtain⟨_,rfl⟩:=c7t hl;rfl⟩
 obtain⟨f8,d8,m8,F8⟩:=a3m (st:=a7t) T hq hD 8 rfl rfl
 have D8:DefAt (snap h) mg "reached" a7t f8 d8 ["house","belt"]:=⟨F8,m8,F8.binds fun _ _ _ _ _ _ us hl=>by obtain⟨_,_,rfl⟩:=d0l hl;rfl⟩
 obtain⟨f9,d9,m9,F9⟩:=a3m (st:=a6a) T hq hD 9 rfl rfl
 have D9:DefAt (snap h) mg "read_house" a6a f9 d9 ["text"]:=⟨F9,m9,F9.binds fun _ _ _ _ _ _ us hl=>by obtain⟨_,rfl⟩:=c7t hl;rfl⟩
 obtain⟨f10,d10,m10,F10⟩:=a3m (st:=a4l) T hq hD 10 rfl rfl
 have D10:DefAt (snap h) mg "is_belt_line" a4l f10 d10 ["words"]:=⟨F10,m10,F10.binds fun _ _ _ _ _ _ us hl=>by obtain⟨_,rfl⟩:=c7t hl;rfl⟩
 obtain⟨f11,d11,m11,F11⟩:=a3m (st:=a4m) T hq hD 11 rfl rfl
 have D11:DefAt (snap h) mg "is_cart_line" a4m f11 d11 ["words"]:=⟨F11,m11,F11.binds fun _ _ _ _ _ _ us hl=>by obtain⟨_,rfl⟩:=c7t hl;rfl⟩
 obtain⟨f12,d12,m12,F12⟩:=a3m (st:=a5k) T hq hD 12 rfl rfl
 have D12:DefAt (snap h) mg "is_number" a5k f12 d12 ["word"]:=⟨F12,m12,F12.binds fun _ _ _ _ _ _ us hl=>by obtain⟨_,rfl⟩:=c7t hl;rfl⟩
 obtain⟨f13,d13,m13,F13⟩:=a3m (st:=b1k) T hq hD 13 rfl rfl
 have D13:DefAt (snap h) mg "_law_feed" b1k f13 d13 ["_law_script"]:=⟨F13,m13,F13.binds fun _ _ _ _ _ _ us hl=>by obtain⟨_,rfl⟩:=c7t hl;rfl⟩
 obtain⟨f14,d14,m14,F14⟩:=a3m (st:=b1l) T hq hD 14 rfl rfl
 have D14:DefAt (snap h) mg "_law_draw" b1l f14 d14 ["_law_feed_here","_law_many"]:=⟨F14,m14,F14.binds fun _ _ _ _ _ _ us hl=>by obtain⟨_,_,rfl⟩:=d0l hl;rfl⟩
 obtain⟨f15,d15,m15,F15⟩:=a3m (st:=b1m) T hq hD 15 rfl rfl
 have D15:DefAt (snap h) mg "_law_name" b1m f15 d15 ["_law_feed_here","_law_k"]:=⟨F15,m15,F15.binds fun _ _ _ _ _ _ us hl=>by obtain⟨_,_,rfl⟩:=d0l hl;rfl⟩
 obtain⟨f16,d16,m16,F16⟩:=a3m (st:=a9v) T hq hD 16 rfl rfl
 have D16:DefAt (snap h) mg "_law_outs" a9v f16 d16 ["_law_feed_here","_law_later","_law_carts"]:=⟨F16,m16,F16.binds fun _ _ _ _ _ _ us hl=>by obtain⟨_,_,_,rfl⟩:=us_3 hl;rfl⟩
 obtain⟨f17,d17,m17,F17⟩:=a3m (st:=a6m) T hq hD 17 rfl rfl
 have D17:DefAt (snap h) mg "_law_house" a6m f17 d17 ["_law_feed_here"]:=⟨F17,m17,F17.binds fun _ _ _ _ _ _ us hl=>by obtain⟨_,rfl⟩:=c7t hl;rfl⟩
 obtain⟨f18,d18,m18,F18⟩:=a3m (st:=a5l) T hq hD 18 rfl rfl
 have D18:DefAt (snap h) mg "_law_mixed" a5l f18 d18 ["_law_feed_here","_law_house_here"]:=⟨F18,m18,F18.binds fun _ _ _ _ _ _ us hl=>by obtain⟨_,_,rfl⟩:=d0l hl;rfl⟩
 obtain⟨f19,d19,m19,F19⟩:=a3m (st:=a9w) T hq hD 19 rfl rfl
 have D19:DefAt (snap h) mg "_law_alike" a9w f19 d19 ["_law_found","_law_due"]:=⟨F19,m19,F19.binds fun _ _ _ _ _ _ us hl=>by obtain⟨_,_,rfl⟩:=d0l hl;rfl⟩
 obtain⟨f20,d20,m20,F20⟩:=a3m (st:=c9p) T hq hD 20 rfl rfl
 have D20:DefAt (snap h) mg "law" c9p f20 d20 ["_law_script"]:=⟨F20,m20,F20.binds fun _ _ _ _ _ _ us hl=>by obtain⟨_,rfl⟩:=c7t hl;rfl⟩
 have T:Txt (snap h) mg (fun i=>[(f0,d0),(f1,d1),(f2,d2),(f3,d3),(f4,d4),(f5,d5),(f6,d6),(f7,d7),(f8,d8),(f9,d9),(f10,d10),(f11,d11),(f12,d12),(f13,d13),(f14,d14),(f15,d15),(f16,d16),(f17,d17),(f18,d18),(f19,d19),(f20,d20)].getD i (f0,d0)):=⟨D0,D1,D2,D3,D4,D5,D6,D7,D8,D9,D10,D11,D12,D13,D14,D15,D16,D17,D18,D19,D20,a6d T hB 0 rfl,a6d T hB 1 rfl,a6d T hB 2 rfl,a6d T hB 3 rfl,a6d T hB 4 rfl,a6d T hB 5 rfl,a6d T hB 6 rfl,a6d T hB 7 rfl,a6d T hB 8 rfl,a6d T hB 9 rfl,b6p T y_LETTERS,b6p T y_FIGURES,b6o T y_MOST_LETTERS,b6o T y_MOST_FIGURES⟩
 have e:=hfa.symm.trans m20
 cases e
 obtain⟨oc,od,kV,doc,pm,an,cdv,ct,osl,rfl,_,_⟩:=F20.ex
 exact⟨_,fun s v=>.of_eq rfl,fun base=>d7p T⟩
theorem walk{l:PySem.W.OpenLaw}{q:Program}{loose:List Str}{XP:(Str→Option Value)→Heap→Prop}{YP:World→Heap→Prop}{d:DefRec}(hn:l.most=some 63)(hdf:d.params.defaults=[])(hdn:d.name="law")
  (hq:q.main.body=tops) (hD:chkD tops dl=true) (hB:chkB q (PySem.W.looseW q loose) bl=true) (y_LETTERS:valOf q "LETTERS"=some (.str "abcdefghijklmnopqrstuvwxyz")) (y_FIGURES:valOf q "FIGURES"=some (.str "0123456789")) (y_MOST_LETTERS:valOf q "MOST_LETTERS"=some (.int 8)) (y_MOST_FIGURES:valOf q "MOST_FIGURES"=some (.int 9)) :
  PySem.W.WalkO q loose XP YP l.row.toRowW d [] (fun f vs=>PySem.call f vs):=
 L2.walk_top (n:=63) (k:=10) (x:="_law_script") (CX:=CX0) (sp:=spLaw) hn (by decide) hdf ⟨rfl,by decide,by decide⟩ (fun _ _ _ _ _ _ T hm=>d7q T (hdn ▸ hm) hq hD hB y_LETTERS y_FIGURES y_MOST_LETTERS y_MOST_FIGURES) (fun _ _ a ns hl _ hS=>⟨a,ns,rfl,hS,hl,fun _=>rfl⟩) fun _ _ _ _ z=>z
end Carry
open PySem PySem.W PyProof.Rows
set_option maxRecDepth 100000 in
set_option maxHeartbeats 0 in
theorem PySem.Challenge.cw_carry_k08_houses_read_holds : PySem.Challenge.rw_carry_k08_houses_read.Holds := by
 w_on;o_law;o_head Hook.none;(case hw=>w_witness2)
 exact Carry.walk (l:=PySem.Challenge.rw_carry_k08_houses_read) rfl rfl rfl (by kernel_rfl) (by k_qdec) (by k_qdec) (by kernel_rfl) (by kernel_rfl) (by kernel_rfl) (by kernel_rfl)