import PyProof.Rows.All
import Wide.All
import OpenK.AllK
import Wide.FinOn
import Lean
import PyProof.EqAt
import PyProof.EqKinds
import PyProof.NeKinds
import PyProof.TupleCall
import KE.KRevIter
import PyProof.SeqI3
import PyProof.ZipIter
import PyProof.EnumIter
import PyProof.EnumStmt
import PyProof.EnumMake
import PyProof.WalksEnum
import PyProof.ExcClass3
import PyProof.ExcBaseAll.ValueError
import PyProof.ExcArgsOwn
import KE.KIsAll
import PyProof.ExcAttrAll.ValueError
import PyProof.InstStoreFacts
import PySem.Challenge.RW_carry_k10_refusals_apart
set_option Elab.async false
set_option linter.all false
set_option maxRecDepth 100000
namespace L2
open PySem PySem.Spec PyProof.Rows
abbrev Key := Sum Int Str
def keyIs : Key → Value → Bool
  | .inl k, v => Value.isInt k v
  | .inr x, v => Value.isStrOf x v
def keyH (w : World) : Key → Int
  | .inl k => hashInt k
  | .inr x => hashStr w x
theorem keyIs_shape : ∀ {k : Key} {v : Value}, keyIs k v = true → (∃ i t, k = Sum.inl i ∧ v = Value.int i t) ∨ (∃ x t, k = Sum.inr x ∧ v = Value.str x t)
  | .inl i, v, h => by
    obtain ⟨t, e⟩ := Value.isInt_shape (k := i) (v := v) h
    exact .inl ⟨i, t, rfl, e⟩
  | .inr x, v, h => by
    obtain ⟨t, e⟩ := Value.isStrOf_shape (x := x) (v := v) h
    exact .inr ⟨x, t, rfl, e⟩
theorem key_ll (a b : Int) : decide ((Sum.inl a : Key) = Sum.inl b) = (a == b) := by
  by_cases e : a = b
  · subst e; simp
  · have h : ¬ (Sum.inl a : Key) = Sum.inl b := fun q => e (Sum.inl.inj q)
    rw [decide_eq_false h]
    exact (beq_eq_false_iff_ne.mpr e).symm
theorem key_rr (a b : Str) : decide ((Sum.inr a : Key) = Sum.inr b) = decide (a = b) := by
  by_cases e : a = b
  · subst e; simp
  · have h : ¬ (Sum.inr a : Key) = Sum.inr b := fun q => e (Sum.inr.inj q)
    rw [decide_eq_false h, decide_eq_false e]
theorem key_lr (a : Int) (b : Str) : decide ((Sum.inl a : Key) = Sum.inr b) = false := decide_eq_false (fun q => nomatch q)
theorem key_rl (a : Str) (b : Int) : decide ((Sum.inr a : Key) = Sum.inl b) = false := decide_eq_false (fun q => nomatch q)
def mixKind (prog : Program) (w : World) : PySem.KeyKind prog w Key where
  is := keyIs
  hash := keyH w
  inj := fun v a b ha hb => by
    rcases keyIs_shape ha with ⟨i, t, rfl, rfl⟩ | ⟨x, t, rfl, rfl⟩
    · rcases keyIs_shape hb with ⟨j, u, rfl, e⟩ | ⟨y, u, rfl, e⟩
      · injection e with e1 _; rw [e1]
      · exact nomatch e
    · rcases keyIs_shape hb with ⟨j, u, rfl, e⟩ | ⟨y, u, rfl, e⟩
      · exact nomatch e
      · injection e with e1 _; rw [e1]
  byValue := fun k v h => by
    rcases keyIs_shape h with ⟨i, t, rfl, rfl⟩ | ⟨x, t, rfl, rfl⟩ <;> rfl
  pyHash := fun hv h => by
    rcases keyIs_shape hv with ⟨i, t, rfl, rfl⟩ | ⟨x, t, rfl, rfl⟩
    · exact wpAny_pyHash_int h
    · exact wpAny_pyHash_str h
  eqBool := fun hu hv h => by
    rcases keyIs_shape hu with ⟨i, t, rfl, rfl⟩ | ⟨x, t, rfl, rfl⟩
    · rcases keyIs_shape hv with ⟨j, u, rfl, rfl⟩ | ⟨y, u, rfl, rfl⟩
      · rw [key_ll] at h; exact wpAny_eqBool_int h
      · rw [key_lr] at h; exact SeqAt.EqAt.int_str i t y u _ _ _ _ h
    · rcases keyIs_shape hv with ⟨j, u, rfl, rfl⟩ | ⟨y, u, rfl, rfl⟩
      · rw [key_rl] at h; exact SeqAt.EqAt.str_int x t j u _ _ _ _ h
      · rw [key_rr] at h; exact wpAny_eqBool_str h
  «strs» := fun k x t v h => by
    rcases keyIs_shape h with ⟨i, u, rfl, e⟩ | ⟨y, u, rfl, e⟩
    · exact nomatch e
    · injection e with e1 _
      subst e1
      cases v <;> rfl
end L2
namespace L2
open PySem PySem.Spec PyProof.Rows
inductive V where
  | non | bl (b : Bool) | int (i : Int) | str (x : Str) | byt (b : Array UInt8) | flt (b : UInt64) | ref (a : Addr) | ty (n : String)
  deriving DecidableEq
def RelV : V → Value → Prop
  | .non, u => u = Value.none
  | .bl b, u => u = Value.bool b
  | .int i, u => ∃ t, u = Value.int i t
  | .str x, u => ∃ t, u = Value.str x t
  | .byt b, u => ∃ t, u = Value.bytes b t
  | .flt b, u => ∃ t, u = Value.float b t
  | .ref a, u => u = Value.ref a
  | .ty n, u => u = Value.type n
abbrev Vals : List V → List Value → Prop := Paired RelV
theorem Vals.length {xs : List V} {us : List Value} (r : Vals xs us) : xs.length = us.length := Paired.length r
theorem Vals.get : ∀ {xs : List V} {us : List Value} {i : Nat} {x : V}, Vals xs us → xs[i]? = some x → ∃ u, us[i]? = some u ∧ RelV x u
  | _, _, _, _, .nil, e => by simp at e
  | _, _, 0, _, .cons r _, e => by simp at e; subst e; exact ⟨_, rfl, r⟩
  | _, _, i + 1, x, .cons _ t, e => by
    obtain ⟨u, h1, h2⟩ := Vals.get (i := i) (x := x) t (by simpa using e)
    exact ⟨u, by simpa using h1, h2⟩
theorem Vals.set {x : V} {u : Value} (r : RelV x u) : ∀ {xs : List V} {us : List Value} (i : Nat), Vals xs us → Vals (xs.set i x) (us.set i u)
  | _, _, _, .nil => .nil
  | _, _, 0, .cons _ t => .cons r t
  | _, _, i + 1, .cons q t => .cons q (Vals.set r i t)
theorem Vals.append {xs ys : List V} {us ws : List Value} (h : Vals xs us) (s : Vals ys ws) : Vals (xs ++ ys) (us ++ ws) := by
  induction h with
  | nil => exact s
  | cons r t ih => exact .cons r ih
theorem Vals.take : ∀ {xs : List V} {us : List Value} (n : Nat), Vals xs us → Vals (xs.take n) (us.take n)
  | _, _, 0, _ => .nil
  | _, _, _ + 1, .nil => .nil
  | _, _, n + 1, .cons r t => .cons r (Vals.take n t)
theorem Vals.drop : ∀ {xs : List V} {us : List Value} (n : Nat), Vals xs us → Vals (xs.drop n) (us.drop n)
  | _, _, 0, r => r
  | _, _, _ + 1, .nil => .nil
  | _, _, n + 1, .cons _ t => Vals.drop n t
def RelO : Option V → Option Value → Prop
  | some v, some u => RelV v u
  | none, none => True
  | _, _ => False
def KV {κ : Type} : List (κ × V) → List (κ × Value) → Prop := Paired fun (p : κ × V) (q : κ × Value) => p.1 = q.1 ∧ RelV p.2 q.2
def kV : Key → V
  | .inl i => .int i
  | .inr x => .str x
inductive TK where
  | inl (i : Int) | inr (x : Str) | tp (l : List TK)
mutual
def TK.beq : TK → TK → Bool
  | .inl a, .inl b => decide (a = b)
  | .inr a, .inr b => decide (a = b)
  | .tp l, .tp m => TK.beqL l m
  | _, _ => false
def TK.beqL : List TK → List TK → Bool
  | [], [] => true
  | a :: l, b :: m => TK.beq a b && TK.beqL l m
  | _, _ => false
end
mutual
theorem TK.beq_iff : ∀ a b : TK, TK.beq a b = true ↔ a = b
  | .inl a, .inl b => by unfold TK.beq; rw [decide_eq_true_eq]; exact ⟨fun e => by rw [e], fun e => by cases e; rfl⟩
  | .inr a, .inr b => by unfold TK.beq; rw [decide_eq_true_eq]; exact ⟨fun e => by rw [e], fun e => by cases e; rfl⟩
  | .tp l, .tp m => by unfold TK.beq; rw [TK.beqL_iff l m]; exact ⟨fun e => by rw [e], fun e => by cases e; rfl⟩
  | .inl _, .inr _ => by unfold TK.beq; exact ⟨fun e => (nomatch e), fun e => (nomatch e)⟩
  | .inl _, .tp _ => by unfold TK.beq; exact ⟨fun e => (nomatch e), fun e => (nomatch e)⟩
  | .inr _, .inl _ => by unfold TK.beq; exact ⟨fun e => (nomatch e), fun e => (nomatch e)⟩
  | .inr _, .tp _ => by unfold TK.beq; exact ⟨fun e => (nomatch e), fun e => (nomatch e)⟩
  | .tp _, .inl _ => by unfold TK.beq; exact ⟨fun e => (nomatch e), fun e => (nomatch e)⟩
  | .tp _, .inr _ => by unfold TK.beq; exact ⟨fun e => (nomatch e), fun e => (nomatch e)⟩
theorem TK.beqL_iff : ∀ l m : List TK, TK.beqL l m = true ↔ l = m
  | [], [] => by unfold TK.beqL; exact ⟨fun _ => rfl, fun _ => rfl⟩
  | a :: l, b :: m => by unfold TK.beqL; rw [Bool.and_eq_true, TK.beq_iff a b, TK.beqL_iff l m]; exact ⟨fun e => by rw [e.1, e.2], fun e => by cases e; exact ⟨rfl, rfl⟩⟩
  | [], _ :: _ => by unfold TK.beqL; exact ⟨fun e => (nomatch e), fun e => (nomatch e)⟩
  | _ :: _, [] => by unfold TK.beqL; exact ⟨fun e => (nomatch e), fun e => (nomatch e)⟩
end
instance : DecidableEq TK := fun a b => decidable_of_iff _ (TK.beq_iff a b)
mutual
def TK.hash (w : World) : TK → Int
  | .inl i => hashInt i
  | .inr x => hashStr w x
  | .tp l => reduceHash (Builtin.Tuple.tupleHashOf (TK.hashL w l))
def TK.hashL (w : World) : List TK → List Int
  | [] => []
  | a :: l => TK.hash w a :: TK.hashL w l
end
def TK.ok : Nat → TK → Bool
  | n + 1, .tp l => l.all (TK.ok n)
  | 0, .tp _ => false
  | _, _ => true
def EntG (w : World) (e : TK × V × V) (x : DictEntry) : Prop := x.hash = e.1.hash w ∧ RelV e.2.1 x.key ∧ RelV e.2.2 x.val ∧ e.1.ok 8 = true
inductive HO where
  /-- a list -/
  | lst (xs : List V)
  /-- a tuple (never changes) -/
  | tup (xs : List V)
  /-- a dict whose keys are ints and texts; one whose keys are tuples of ints and texts (the empty one is both) -/
  | dK (kvs : List (Key × V)) | dT (kvs : List (List Key × V))
  /-- a dict of any keys: the key, its value, what it holds -/
  | dG (es : List (TK × V × V)) (ep : Nat)
  /-- a set of ints: its members, its size -/
  | set (S : Int → Bool) (n : Nat)
  /-- an instance of the class at C, its dict at dx, its attributes -/
  | ins (C dx : Addr) (fs : List (Str × V))
  /-- the dict of the instance at x -/
  | own (x : Addr)
  /-- the dict of an exception -/
  | xd (fs : List (Str × V))
  /-- a bound method, f of x -/
  | met (f x : Addr)
  /-- a range object lo, lo + 1, .. below hi -/
  | rng (lo hi : Int)
  /-- a thing that is known to the object (the script; a dict while a loop walks it): read, never written while it is so -/
  | frz (o : Obj) (u : HO)
  /-- a code object's table -/
  | tbl (ps : Array Value)
  /-- any other thing, by what is true of its one object (a def of one's own: SetO a S n := HO.ext fun h => ..) -/
  | ext (φ : Heap → Prop)
abbrev Hp := Addr → Option HO
def upd (H : Hp) (a : Addr) (o : HO) : Hp := fun b => if b = a then some o else H b
theorem upd_same {H : Hp} {a : Addr} {o : HO} : upd H a o a = some o := by unfold upd; rw [if_pos rfl]
theorem upd_ne {H : Hp} {a b : Addr} {o : HO} (h : b ≠ a) : upd H a o b = H b := by unfold upd; rw [if_neg h]
theorem ne_of {H : Hp} {a b : Addr} {o u : HO} (h : H a = some o) (h' : H b = some u) (d : o ≠ u) : a ≠ b := by
  intro e; subst e; rw [h] at h'; exact d (Option.some.inj h')
theorem ne_of_none {H : Hp} {a b : Addr} {o : HO} (h : H a = some o) (h' : H b = none) : a ≠ b := by
  intro e; subst e; rw [h] at h'; cases h'
section
variable (P : Program) (w : World)
def ObjOk (H : Hp) (h : Heap) (a : Addr) : HO → Prop
  | .lst xs => xs.length ≤ sizeLine ∧ ∃ (its : List Value) (n : Nat), Vals xs its ∧ h.get? a = some { cls := .type "list", data := .seq its.toArray n }
  | .tup xs => xs.length ≤ sizeLine ∧ ∃ its : List Value, Vals xs its ∧ IsTup h a its.toArray
  | .dK kvs => kvs.length ≤ sizeLine ∧ (a == sysModules) = false ∧ ∃ vs, KV kvs vs ∧ h.DictOf (mixKind P w) a vs
  | .dT kvs => kvs.length ≤ sizeLine ∧ (a == sysModules) = false ∧ ∃ xs : List (List Key × Addr × Value),
      Paired (fun (p : List Key × V) (q : List Key × Addr × Value) => p.1 = q.1 ∧ H q.2.1 = some (.tup (p.1.map kV)) ∧ RelV p.2 q.2.2) kvs xs ∧
      ∃ o es ep, h.get? a = some o ∧ o.ExactDict ∧ o.data = .dict es ep ∧ es.toList = xs.map (entryOfKey (tupleKind (mixKind P w))) ∧ (xs.map (·.1)).Nodup
  | .dG es ep => es.length ≤ sizeLine ∧ (a == sysModules) = false ∧ ∃ o xs, h.get? a = some o ∧ o.ExactDict ∧ o.data = .dict xs ep ∧ Paired (EntG w) es xs.toList ∧ (es.map (·.1)).Nodup
  | .set S n => h.SetOf (intKind P w) a S n
  | .ins C dx fs => H dx = some (.own a) ∧ fs.length ≤ 1000 ∧ dx ≠ a ∧ h.get? a = some (PySem.W.instObj C dx) ∧
      ∃ mA, h.Ns1 dx mA ∧ (∀ f, RelO (fs.lookup f) (mA f)) ∧ PySem.Within mA (fs.map (·.1))
  | .own _ => ∃ o, h.get? a = some o
  | .xd fs => ∃ mA, h.Ns1 a mA ∧ ∀ f, RelO (fs.lookup f) (mA f)
  | .rng lo hi => ∃ t u v, h.get? a = some { cls := .type "range", data := .fields #[.int lo t, .int hi u, .int 1 v] }
  | .frz o u => h.get? a = some o ∧ ObjOk H h a u
  | .tbl ps => h.get? a = some { cls := .none, data := .fields ps }
  | .met f x => h.get? a = some (PySem.W.methodObj (.ref f) (.ref x))
  | .ext φ => φ h ∧ (∃ o, h.get? a = some o) ∧ ∀ h1 h2 : Heap, φ h1 → (∀ o, h1.get? a = some o → h2.get? a = some o) → φ h2
def HOk (H : Hp) (h : Heap) : Prop := ∀ a o, H a = some o → ObjOk P w H h a o
end
section
variable {P : Program} {w : World} {H H' : Hp} {h h' : Heap} {a : Addr} {o : HO}
theorem ObjOk.lt (x : ObjOk P w H h a o) : a < h.objs.size := by
  cases o with
  | lst xs => obtain ⟨_, _, _, _, e⟩ := x; exact Heap.lt_size e
  | tup xs => obtain ⟨_, _, _, p⟩ := x; exact p.lt
  | dK kvs => obtain ⟨_, _, _, _, o, _, _, e, _⟩ := x; exact Heap.lt_size e
  | dT kvs => obtain ⟨_, _, _, _, o, _, _, e, _⟩ := x; exact Heap.lt_size e
  | dG es ep => obtain ⟨_, _, o, _, e, _⟩ := x; exact Heap.lt_size e
  | set S n => obtain ⟨o, _, _, _, e, _⟩ := x; exact Heap.lt_size e
  | ins C dx fs => obtain ⟨_, _, _, e, _⟩ := x; exact Heap.lt_size e
  | own y => obtain ⟨_, e⟩ := x; exact Heap.lt_size e
  | xd fs => obtain ⟨_, ⟨_, _, _, e, _⟩, _⟩ := x; exact Heap.lt_size e
  | rng lo hi => obtain ⟨_, _, _, e⟩ := x; exact Heap.lt_size e
  | frz ob u => obtain ⟨e, _⟩ := x; exact Heap.lt_size e
  | tbl ps => exact Heap.lt_size (show h.get? a = some _ from x)
  | met f y => exact Heap.lt_size (show h.get? a = some _ from x)
  | ext φ => obtain ⟨_, ⟨_, e⟩, _⟩ := x; exact Heap.lt_size e
theorem Paired.mapP {α β : Type} {F G : α → β → Prop} {l₁ : List α} {l₂ : List β} (h : Paired F l₁ l₂) (f : ∀ a b, F a b → G a b) : Paired G l₁ l₂ := by
  induction h with
  | nil => exact .nil
  | cons r t ih => exact .cons (f _ _ r) ih
theorem ObjOk.stay (x : ObjOk P w H h a o) (k : ∀ b u, (b = a ∨ H b = some (.own a)) → h.get? b = some u → h'.get? b = some u)
    (ho : ∀ b, H b = some (.own a) → H' b = some (.own a)) (ht : ∀ b xs, H b = some (.tup xs) → H' b = some (.tup xs)) : ObjOk P w H' h' a o := by
  induction o with
  | lst xs => obtain ⟨z, its, n, r, e⟩ := x; exact ⟨z, its, n, r, k _ _ (.inl rfl) e⟩
  | tup xs => obtain ⟨z, its, r, ob, e, c⟩ := x; exact ⟨z, its, r, ob, k _ _ (.inl rfl) e, c⟩
  | dK kvs => obtain ⟨z, y, vs, r, ob, es, ep, e, c⟩ := x; exact ⟨z, y, vs, r, ob, es, ep, k _ _ (.inl rfl) e, c⟩
  | dT kvs =>
    obtain ⟨z, y, xs, r, ob, es, ep, e, c⟩ := x
    exact ⟨z, y, xs, Paired.mapP r fun p q z => ⟨z.1, ht _ _ z.2.1, z.2.2⟩, ob, es, ep, k _ _ (.inl rfl) e, c⟩
  | dG es ep => obtain ⟨z, y, ob, xs, e, c⟩ := x; exact ⟨z, y, ob, xs, k _ _ (.inl rfl) e, c⟩
  | set S n => obtain ⟨ob, es, ep, t, e, c⟩ := x; exact ⟨ob, es, ep, t, k _ _ (.inl rfl) e, c⟩
  | ins C dx fs =>
    obtain ⟨d, z, ne, e, mA, ⟨od, es, ep, e2, c⟩, r⟩ := x
    exact ⟨ho _ d, z, ne, k _ _ (.inl rfl) e, mA, ⟨od, es, ep, k _ _ (.inr d) e2, c⟩, r⟩
  | own y => obtain ⟨ob, e⟩ := x; exact ⟨ob, k _ _ (.inl rfl) e⟩
  | xd fs => obtain ⟨mA, ⟨od, es, ep, e, c⟩, r⟩ := x; exact ⟨mA, ⟨od, es, ep, k _ _ (.inl rfl) e, c⟩, r⟩
  | rng lo hi => obtain ⟨t, u, v, e⟩ := x; exact ⟨t, u, v, k _ _ (.inl rfl) e⟩
  | frz ob u ih => obtain ⟨e, q⟩ := x; exact ⟨k _ _ (.inl rfl) e, ih q⟩
  | tbl ps =>
    have e : h.get? a = some { cls := .none, data := .fields ps } := x
    show h'.get? a = some { cls := .none, data := .fields ps }
    exact k a _ (.inl rfl) e
  | met f y =>
    have e : h.get? a = some (PySem.W.methodObj (.ref f) (.ref y)) := x
    show h'.get? a = some (PySem.W.methodObj (.ref f) (.ref y))
    exact k a _ (.inl rfl) e
  | ext φ => obtain ⟨p, ⟨o, e⟩, st⟩ := x; exact ⟨st _ _ p fun o q => k _ _ (.inl rfl) q, ⟨o, k _ _ (.inl rfl) e⟩, st⟩
theorem HOk.lt (x : HOk P w H h) (e : H a = some o) : a < h.objs.size := (x a o e).lt
theorem HOk.fresh (x : HOk P w H h) (e : h.objs.size ≤ a) : H a = none := by
  cases q : H a with
  | none => rfl
  | some u => exact absurd (Nat.lt_of_lt_of_le (x.lt q) e) (Nat.lt_irrefl _)
theorem HOk.kept (x : HOk P w H h) (k : ∀ b u, h.get? b = some u → h'.get? b = some u) : HOk P w H h' := fun a o e =>
  (x a o e).stay (fun b u _ q => k b u q) (fun _ q => q) fun _ _ q => q
theorem HOk.laid (x : HOk P w H h) (k : ∀ b u, h.get? b = some u → h'.get? b = some u) (hp : h.objs.size ≤ a) (new : ObjOk P w (upd H a o) h' a o) : HOk P w (upd H a o) h' := fun b u e => by
  have hn := x.fresh hp
  by_cases hb : b = a
  · subst hb; rw [upd_same] at e; cases e; exact new
  · rw [upd_ne hb] at e
    exact (x b u e).stay (fun c v _ q => k c v q) (fun c q => by rw [upd_ne (ne_of_none q hn)]; exact q) fun c xs q => by rw [upd_ne (ne_of_none q hn)]; exact q
end
def Rd (H : Hp) (a : Addr) (u : HO) : Prop := H a = some u ∨ ∃ o, H a = some (.frz o u)
theorem Rd.of {H : Hp} {a : Addr} {u : HO} (h : H a = some u) : Rd H a u := .inl h
theorem Rd.ok {P : Program} {w : World} {H : Hp} {h : Heap} {a : Addr} {u : HO} (r : Rd H a u) (x : HOk P w H h) : ObjOk P w H h a u := by
  rcases r with r | ⟨o, r⟩
  · exact x a u r
  · obtain ⟨_, q⟩ := x a _ r
    exact q
def Mut : Option HO → Prop
  | some (.lst _) => True
  | some (.dK _) => True
  | some (.dT _) => True
  | some (.dG _ _) => True
  | some (.set _ _) => True
  | some (.ins _ _ _) => True
  | some (.ext _) => True
  | _ => False
section
variable {P : Program} {w : World} {H : Hp} {h h' : Heap} {x e : Addr} {o' : HO}
theorem HOk.write (ok : HOk P w H h) (mu : Mut (H x)) (he : e = x ∨ H e = some (.own x)) (k : ∀ b u, b ≠ e → h.get? b = some u → h'.get? b = some u) (heo : ∃ u, h'.get? e = some u)
    (new : ObjOk P w (upd H x o') h' x o') : HOk P w (upd H x o') h' := fun b u q => by
  have nown : ∀ c y, H c = some (.own y) → c ≠ x := fun c y r z => by subst z; rw [r] at mu; exact mu
  have ntup : ∀ c xs, H c = some (.tup xs) → c ≠ x := fun c xs r z => by subst z; rw [r] at mu; exact mu
  by_cases hb : b = x
  · subst hb; rw [upd_same] at q; cases q; exact new
  · rw [upd_ne hb] at q
    by_cases hbe : b = e
    · have q' : H b = some (.own x) := by
        rcases he with z | z
        · exact absurd (hbe.trans z) hb
        · rw [hbe]; exact z
      rw [q] at q'; cases q'
      obtain ⟨v, hv⟩ := heo
      exact ⟨v, by rw [hbe]; exact hv⟩
    · refine (ok b u q).stay (fun c v hc r => k c v ?_ r) (fun c r => by rw [upd_ne (nown c b r)]; exact r) fun c xs r => by rw [upd_ne (ntup c xs r)]; exact r
      rcases hc with rfl | hc
      · exact hbe
      · rintro rfl
        rcases he with z | z
        · exact nown c b hc z
        · rw [hc] at z; cases z; exact hb rfl
end
structure Un (fs ex : List Addr) (H H' : Hp) (h h' : Heap) : Prop where
  keep : ∀ b o, h.get? b = some o → H b = none → b ∉ fs → b ∉ ex → h'.get? b = some o
  slot : ∀ b o, h.get? b = some o → H b = none → b ∈ fs → b ∉ ex → ∃ sl, h'.get? b = some { o with slots := sl }
  free : ∀ b o, h.get? b = some o → H b = none → b ∉ ex → H' b = none
  there : ∀ b o, h.get? b = some o → b ∉ ex → ∃ o', h'.get? b = some o'
  tups : ∀ b xs, H b = some (.tup xs) → H' b = some (.tup xs)
  frzs : ∀ b o u, H b = some (.frz o u) → H' b = some (.frz o u)
  tbls : ∀ b ps, H b = some (.tbl ps) → ∃ more, H' b = some (.tbl (ps ++ more))
section
variable {fs fs' ex ex' : List Addr} {H H1 H2 : Hp} {h h1 h2 h' : Heap} {a x e : Addr} {o : HO}
theorem Un.any (u : Un fs ex H H1 h h1) {b : Addr} {ob : Obj} (q : h.get? b = some ob) (n : H b = none) (hx : b ∉ ex) : ∃ sl, h1.get? b = some { ob with slots := sl } := by
  by_cases hb : b ∈ fs
  · exact u.slot b ob q n hb hx
  · exact ⟨ob.slots, u.keep b ob q n hb hx⟩
theorem Un.trans (a : Un fs ex H H1 h h1) (b : Un fs ex H1 H2 h1 h2) : Un fs ex H H2 h h2 where
  keep := fun c ob q n hc hx => b.keep c ob (a.keep c ob q n hc hx) (a.free c ob q n hx) hc hx
  slot := fun c ob q n hc hx => by
    obtain ⟨sl, e1⟩ := a.slot c ob q n hc hx
    obtain ⟨sl', e2⟩ := b.slot c _ e1 (a.free c ob q n hx) hc hx
    exact ⟨sl', e2⟩
  free := fun c ob q n hx => by
    obtain ⟨o', e1⟩ := a.there c ob q hx
    exact b.free c o' e1 (a.free c ob q n hx) hx
  there := fun c ob q hx => by
    obtain ⟨o', e1⟩ := a.there c ob q hx
    exact b.there c o' e1 hx
  tups := fun c xs q => b.tups c xs (a.tups c xs q)
  frzs := fun c ob xs q => b.frzs c ob xs (a.frzs c ob xs q)
  tbls := fun c ps q => by
    obtain ⟨m1, e1⟩ := a.tbls c ps q
    obtain ⟨m2, e2⟩ := b.tbls c _ e1
    exact ⟨m1 ++ m2, by rw [e2, Array.append_assoc]⟩
theorem Un.kept (k : ∀ b u, h.get? b = some u → h'.get? b = some u) : Un fs ex H H h h' :=
  ⟨fun b ob q _ _ _ => k b ob q, fun b ob q _ _ _ => ⟨ob.slots, k b ob q⟩, fun _ _ _ n _ => n, fun b ob q _ => ⟨ob, k b ob q⟩, fun _ _ q => q, fun _ _ _ q => q, fun _ ps q => ⟨#[], by rw [q]; simp⟩⟩
theorem Un.refl : Un fs ex H H h h := Un.kept fun _ _ q => q
theorem Un.laid (k : ∀ b u, h.get? b = some u → h'.get? b = some u) (hp : h.objs.size ≤ a) (hn : H a = none) : Un fs ex H (upd H a o) h h' where
  keep := fun b u q _ _ _ => k b u q
  slot := fun b u q _ _ _ => ⟨u.slots, k b u q⟩
  free := fun b u q n _ => by rw [upd_ne (Nat.ne_of_lt (Nat.lt_of_lt_of_le (Heap.lt_size q) hp))]; exact n
  there := fun b u q _ => ⟨u, k b u q⟩
  tups := fun b xs q => by rw [upd_ne (ne_of_none q hn)]; exact q
  frzs := fun b u xs q => by rw [upd_ne (ne_of_none q hn)]; exact q
  tbls := fun b ps q => ⟨#[], by rw [upd_ne (ne_of_none q hn), q]; simp⟩
theorem Un.write (mu : Mut (H x)) (he : e = x ∨ H e = some (.own x)) (k : ∀ b u, b ≠ e → h.get? b = some u → h'.get? b = some u) (heo : ∃ u, h'.get? e = some u) : Un fs ex H (upd H x o) h h' := by
  have hx : ∀ b, H b = none → b ≠ x := fun b n z => by subst z; rw [n] at mu; exact mu
  have hb : ∀ b, H b = none → b ≠ e := fun b n z => by
    subst z
    rcases he with r | r
    · exact hx b n r
    · rw [n] at r; cases r
  have hm : ∀ b u, H b = some u → ¬ Mut (some u) → b ≠ x := fun b u q nm z => by subst z; rw [q] at mu; exact nm mu
  refine ⟨fun b u q n _ _ => k b u (hb b n) q, fun b u q n _ _ => ⟨u.slots, k b u (hb b n) q⟩, fun b u q n _ => by rw [upd_ne (hx b n)]; exact n, fun b u q _ => ?_,
    fun b xs q => by rw [upd_ne (hm b _ q fun z => z)]; exact q, fun b u xs q => by rw [upd_ne (hm b _ q fun z => z)]; exact q, fun b ps q => ⟨#[], by rw [upd_ne (hm b _ q fun z => z), q]; simp⟩⟩
  by_cases hbe : b = e
  · subst hbe; exact heo
  · exact ⟨u, k b u hbe q⟩
theorem Un.mono (u : Un fs ex H H1 h h1) (hs : ∀ b ∈ fs, b ∈ fs') (hx : ∀ b ∈ ex, b ∈ ex') : Un fs' ex' H H1 h h1 :=
  ⟨fun b ob q n hb he => u.keep b ob q n (fun z => hb (hs b z)) fun z => he (hx b z), fun _ _ q n _ he => u.any q n fun z => he (hx _ z), fun b ob q n he => u.free b ob q n fun z => he (hx b z), fun b ob q he => u.there b ob q fun z => he (hx b z), u.tups, u.frzs, u.tbls⟩
end
def trk (h : Heap) (H : Hp) : List Addr := (List.range h.objs.size).filter fun a => (H a).isSome
def hidT (h : Heap) (H : Hp) : Heap := PySem.W.hideAll h (trk h H)
theorem hidT_size (h : Heap) (H : Hp) : (hidT h H).objs.size = h.objs.size := PySem.W.hideAll_size _ _
theorem hidT_get {h : Heap} {H : Hp} {b : Addr} {o : Obj} (e : h.get? b = some o) (n : H b = none) : (hidT h H).get? b = some o :=
  PySem.W.hideAll_get _ e fun hm => by
    have q : (H b).isSome = true := (List.mem_filter.mp hm).2
    rw [n] at q; simp at q
theorem of_hidT {h : Heap} {H : Hp} {b : Addr} {o : Obj} (e : (hidT h H).get? b = some o) : h.get? b = some o ∧ H b = none := by
  have e' : h.get? b = some o := PySem.W.of_hideAll (trk h H) e
  refine ⟨e', ?_⟩
  cases q : H b with
  | none => rfl
  | some x =>
    have hm : b ∈ trk h H := List.mem_filter.mpr ⟨List.mem_range.mpr (Heap.lt_size e'), by simp [q]⟩
    have z : (hidT h H).get? b = none := PySem.W.hideAll_none (trk h H) hm
    rw [z] at e; cases e
def allNews (g h : Heap) (L : Addr) : List (Addr × Obj) := (List.range h.objs.size).filterMap fun a => if a = L ∨ (g.get? a).isSome = true then none else (h.get? a).map fun o => (a, o)
def rest (g h : Heap) (L d : Addr) : List (Addr × Obj) := (allNews g h L).filter fun p => decide (p.1 ≠ d)
end L2
namespace L2
open PySem PySem.Spec PyProof.Rows
structure Mod (K : PySem.W.Frag) (mg : Str → Option Value) (base : Heap) : Prop where
  kin : K.In base
  glob : base.Ns mainGlobals mg
  blt : ∃ mb, base.Ns builtinsNs mb ∧ ∀ x : Str, x ≠ "__name__" → mb x = bootBuiltins x
  nolimit : base.NoLimit
structure Cx where
  prog : Program
  w : World
  K : PySem.W.Frag
  mg : Str → Option Value
  base : Heap
  A : Around
  N : List Str
  s₀ : Shared
  H₀ : Hp
  env : Env
  outer : List Env
  stack : List Env
  ex : List Addr
  fn : Str → Bool
  calm : Bool
  pn : List (Addr × Obj)
  xe : Value → Shared → Prop
def frs (l : List Env) : List Addr := l.filterMap (·.frame)
abbrev Cx.fs (X : Cx) : List Addr := frs X.outer
def Vis (sc : Scope) (x : Str) : Prop := sc.names.lookup x = some .local ∨ sc.names.lookup x = some .cell ∨ sc.names.lookup x = some .free
def Loc (sc : Scope) (x : Str) : Prop := sc.names.lookup x = some .local ∨ sc.names.lookup x = some .cell
def Look (env : Env) (h : Heap) (m : Str → Option Value) (x : Str) (u : Value) : Prop :=
  (env.kindOf x = some .local ∧ m x = some u) ∨ ((env.kindOf x = some .cell ∨ env.kindOf x = some .free) ∧ ∃ c, env.cells.lookup x = some c ∧ h.IsCell c (some u))
structure Cx.Ok (X : Cx) : Prop where
  mod : Mod X.K X.mg X.base
  kind : X.env.scope.kind = .function
  glob : X.env.globals = mainGlobals
  blt : X.env.builtins = builtinsNs
  above : X.s₀.heap.objs.size ≤ X.env.locals
  inj : ∀ x y c, X.env.cells.lookup x = some c → X.env.cells.lookup y = some c → x = y
  has : ∀ x, (X.env.kindOf x = some .cell ∨ X.env.kindOf x = some .free) → ∃ c, X.env.cells.lookup x = some c
  cab : ∀ x c, X.fn x = true → X.env.cells.lookup x = some c → X.s₀.heap.objs.size ≤ c
  hd : X.calm = true → X.A.handled = none
  frames : X.A.frames = some X.stack
  stk : X.stack = X.outer ∨ (X.stack = X.env :: X.outer ∧ X.env.frame = some X.env.locals)
  exf : ∀ b ∈ X.ex, b ≠ X.env.locals ∧ ∀ x c, X.env.cells.lookup x = some c → c ≠ b
  bs : ∀ b o, X.base.get? b = some o → X.s₀.heap.get? b = some o ∧ X.H₀ b = none
  bsz : X.base.objs.size ≤ X.s₀.heap.objs.size
  noex : ∀ b o, X.base.get? b = some o → b ∉ X.ex
  exfs : ∀ b ∈ X.ex, b ∉ X.fs
  funs : X.s₀.heap.FunFrames X.base X.outer
  frf : ∀ b ∈ X.fs, X.H₀ b = none
structure Inv (X : Cx) (pins : List (Addr × Obj)) (σ : List (Option V)) (H : Hp) (s : Shared) : Prop where
  ok : X.Ok
  os : s.os = X.s₀.os
  bare : AllBare s.gens
  base : Un X.fs X.ex X.H₀ H X.s₀.heap s.heap
  loc : ∃ m, s.heap.Ns X.env.locals m ∧ ∀ (i : Nat) (x : Str) (v : V), X.N[i]? = some x → σ[i]? = some (some v) → Vis X.env.scope x → ∃ u, RelV v u ∧ Look X.env s.heap m x u
  cell : ∀ x c, X.env.cells.lookup x = some c → ∃ v, s.heap.IsCell c v
  free : H X.env.locals = none
  freeC : ∀ x c, X.env.cells.lookup x = some c → H c = none
  pin : ∀ p ∈ X.pn ++ pins, s.heap.get? p.1 = some p.2 ∧ H p.1 = none ∧ p.1 ≠ X.env.locals ∧ p.1 ∉ X.fs ∧ ∀ v, p.2.data ≠ .cell v
  hok : HOk X.prog X.w H s.heap
  len : σ.length = X.N.length
section
variable {X : Cx} {pins : List (Addr × Obj)} {σ : List (Option V)} {H H' : Hp} {s : Shared} {h' : Heap}
theorem Cx.Ok.nofr (ok : X.Ok) {b : Addr} {o : Obj} (e : X.base.get? b = some o) : b ∉ X.fs := fun hb => by
  have := (ok.funs.mem hb).1
  rw [e] at this; cases this
theorem Inv.bs (I : Inv X pins σ H s) : ∀ b o, X.base.get? b = some o → s.heap.get? b = some o ∧ H b = none := fun b o e =>
  ⟨I.base.keep b o (I.ok.bs b o e).1 (I.ok.bs b o e).2 (I.ok.nofr e) (I.ok.noex b o e), I.base.free b o (I.ok.bs b o e).1 (I.ok.bs b o e).2 (I.ok.noex b o e)⟩
theorem Inv.bk (I : Inv X pins σ H s) : ∀ b o, X.base.get? b = some o → s.heap.get? b = some o := fun b o e => (I.bs b o e).1
theorem Inv.mod (I : Inv X pins σ H s) : Mod X.K X.mg X.base := I.ok.mod
theorem Inv.kIn (I : Inv X pins σ H s) : X.K.In s.heap := I.ok.mod.kin.keeps I.bk
theorem Inv.nolimit (I : Inv X pins σ H s) : s.heap.NoLimit := I.ok.mod.nolimit.keeps I.bk
theorem Inv.fr (I : Inv X pins σ H s) : ∃ m, Fr X.base X.env.locals s.heap m :=
  let ⟨m, hn, _⟩ := I.loc
  ⟨m, hn, I.bk, Nat.le_trans I.ok.bsz I.ok.above⟩
theorem Inv.lt (I : Inv X pins σ H s) : X.env.locals < s.heap.objs.size := let ⟨_, hn, _⟩ := I.loc; hn.lt
theorem Inv.sz (I : Inv X pins σ H s) : X.s₀.heap.objs.size ≤ s.heap.objs.size := Nat.le_trans I.ok.above (Nat.le_of_lt I.lt)
theorem Inv.nofs (I : Inv X pins σ H s) {a : Addr} (h : s.heap.objs.size ≤ a) : a ∉ X.fs := fun hb => by
  obtain ⟨_, o, ho, _⟩ := I.ok.funs.mem hb
  exact absurd (Nat.lt_of_lt_of_le (Heap.lt_size ho) (Nat.le_trans I.sz h)) (Nat.lt_irrefl _)
theorem Inv.cne (I : Inv X pins σ H s) : ∀ x c, X.env.cells.lookup x = some c → c ≠ X.env.locals := fun x c e z => by
  obtain ⟨v, o, ho, hd⟩ := I.cell x c e
  obtain ⟨m, ⟨o', es, ep, ho', hd', _⟩, _⟩ := I.loc
  rw [z, ho'] at ho; cases ho; rw [hd'] at hd; cases hd
theorem Inv.funs (I : Inv X pins σ H s) : s.heap.FunFrames X.base X.outer := by
  have all : ∀ (l : List Env), (∀ b ∈ frs l, b ∈ X.fs) → X.s₀.heap.FunFrames X.base l → s.heap.FunFrames X.base l := by
    intro l
    induction l with
    | nil => intro _ _; trivial
    | cons env r ih =>
      intro hs hl
      obtain ⟨hk, ⟨L, o, hf, hn, ho, hd⟩, hr⟩ := hl
      have hL : L ∈ X.fs := hs L (by unfold frs; rw [List.filterMap_cons, hf]; exact List.mem_cons_self)
      obtain ⟨sl, e⟩ := I.base.slot L o ho (I.ok.frf L hL) hL fun z => I.ok.exfs L z hL
      exact ⟨hk, ⟨L, _, hf, hn, e, hd⟩, ih (fun b hb => hs b (by unfold frs; rw [List.filterMap_cons, hf]; exact List.mem_cons_of_mem _ hb)) hr⟩
  exact all X.outer (fun _ hb => hb) I.ok.funs
theorem Inv.stack (I : Inv X pins σ H s) : s.heap.FunFrames X.base X.stack := by
  rcases I.ok.stk with e | ⟨e, hf⟩
  · rw [e]; exact I.funs
  · rw [e]
    obtain ⟨m, hn, _⟩ := I.loc
    refine .cons (by rw [I.ok.kind]; decide) hf hn ?_ I.funs
    exact Heap.get?_none_of_le (Nat.le_trans I.ok.bsz I.ok.above)
theorem Inv.stkSub (I : Inv X pins σ H s) : ∀ b ∈ frs X.stack, b ∈ X.env.locals :: X.fs := fun b hb => by
  rcases I.ok.stk with e | ⟨e, hf⟩
  · rw [e] at hb; exact List.mem_cons_of_mem _ hb
  · rw [e] at hb
    unfold frs at hb
    rw [List.filterMap_cons, hf] at hb
    exact hb
theorem Inv.stkFree (I : Inv X pins σ H s) : ∀ b ∈ frs X.stack, H b = none := fun b hb => by
  rcases List.mem_cons.mp (I.stkSub b hb) with e | hb
  · rw [e]; exact I.free
  · obtain ⟨_, o, ho, _⟩ := I.ok.funs.mem hb
    exact I.base.free b o ho (I.ok.frf b hb) fun z => I.ok.exfs b z hb
theorem Inv.step {g' : Array GenState} {t' : Nat} {d' : Drawn} {ch : List Addr} (I : Inv X pins σ H s)
    (hch : ∀ b ∈ ch, (b ∈ X.ex ∨ X.s₀.heap.objs.size ≤ b) ∧ b ≠ X.env.locals ∧ (∀ x c, X.env.cells.lookup x = some c → c ≠ b) ∧ ∀ p ∈ X.pn ++ pins, p.1 ≠ b)
    (keep : ∀ b o, b ≠ X.env.locals → b ∉ X.fs → b ∉ ch → s.heap.get? b = some o → H b = none → h'.get? b = some o)
    (slot : ∀ b o, b ≠ X.env.locals → b ∈ X.fs → b ∉ ch → s.heap.get? b = some o → H b = none → ∃ sl, h'.get? b = some { o with slots := sl }) (free : ∀ b o, b ∉ ch → s.heap.get? b = some o → H b = none → H' b = none)
    (there : ∀ b o, b ∉ ch → s.heap.get? b = some o → ∃ o', h'.get? b = some o')
    (tups : ∀ b xs, H b = some (.tup xs) → H' b = some (.tup xs)) (frzs : ∀ b o u, H b = some (.frz o u) → H' b = some (.frz o u)) (tbls : ∀ b ps, H b = some (.tbl ps) → ∃ more, H' b = some (.tbl (ps ++ more)))
    (ns : ∀ m, s.heap.Ns X.env.locals m → h'.Ns X.env.locals m) (hok : HOk X.prog X.w H' h') (hg : AllBare g') :
    Inv X pins σ H' { s with heap := h', gens := g', drawn := d', toks := t' } := by
  have neL : ∀ b o, X.s₀.heap.get? b = some o → b ≠ X.env.locals := fun b o e => Nat.ne_of_lt (Nat.lt_of_lt_of_le (Heap.lt_size e) I.ok.above)
  have neC : ∀ b o, X.s₀.heap.get? b = some o → b ∉ X.ex → b ∉ ch := fun b o e hx hb => by
    rcases (hch b hb).1 with z | z
    · exact hx z
    · exact absurd (Nat.lt_of_lt_of_le (Heap.lt_size e) z) (Nat.lt_irrefl _)
  have cellK : ∀ x c, X.env.cells.lookup x = some c → ∀ v, s.heap.IsCell c v → h'.IsCell c v := fun x c e v ⟨o, ho, hd⟩ => by
    have nch : c ∉ ch := fun z => (hch c z).2.2.1 x c e rfl
    by_cases hc : c ∈ X.fs
    · obtain ⟨sl, q⟩ := slot c o (I.cne x c e) hc nch ho (I.freeC x c e)
      exact ⟨_, q, hd⟩
    · exact ⟨o, keep c o (I.cne x c e) hc nch ho (I.freeC x c e), hd⟩
  refine ⟨I.ok, I.os, hg, ⟨fun b o e n hb hx => ?_, fun b o e n hb hx => ?_, fun b o e n hx => ?_, fun b o e hx => ?_, fun b xs e => tups b xs (I.base.tups b xs e), fun b o xs e => frzs b o xs (I.base.frzs b o xs e), fun b ps e => ?_⟩, ?_, fun x c e => ?_, ?_, fun x c e => ?_, fun p hp => ?_, hok, I.len⟩
  · exact keep b o (neL b o e) hb (neC b o e hx) (I.base.keep b o e n hb hx) (I.base.free b o e n hx)
  · obtain ⟨sl, e1⟩ := I.base.slot b o e n hb hx
    obtain ⟨sl', e2⟩ := slot b _ (neL b o e) hb (neC b o e hx) e1 (I.base.free b o e n hx)
    exact ⟨sl', e2⟩
  · obtain ⟨o', e1⟩ := I.base.there b o e hx
    exact free b o' (neC b o e hx) e1 (I.base.free b o e n hx)
  · obtain ⟨o', e1⟩ := I.base.there b o e hx
    exact there b o' (neC b o e hx) e1
  · obtain ⟨m1, e1⟩ := I.base.tbls b ps e
    obtain ⟨m2, e2⟩ := tbls b _ e1
    exact ⟨m1 ++ m2, by rw [e2, Array.append_assoc]⟩
  · obtain ⟨m, hn, hl⟩ := I.loc
    refine ⟨m, ns m hn, fun i x v e1 e2 e3 => ?_⟩
    obtain ⟨u, r, l⟩ := hl i x v e1 e2 e3
    refine ⟨u, r, ?_⟩
    rcases l with l | ⟨k, c, e, z⟩
    · exact .inl l
    · exact .inr ⟨k, c, e, cellK x c e _ z⟩
  · obtain ⟨v, z⟩ := I.cell x c e
    exact ⟨v, cellK x c e v z⟩
  · obtain ⟨m, ⟨o, _, _, ho, _⟩, _⟩ := I.loc
    exact free _ o (fun z => (hch _ z).2.1 rfl) ho I.free
  · obtain ⟨v, o, ho, hd⟩ := I.cell x c e
    exact free c o (fun z => (hch c z).2.2.1 x c e rfl) ho (I.freeC x c e)
  · obtain ⟨e, n, ne, nf, d⟩ := I.pin p hp
    have nch : p.1 ∉ ch := fun z => (hch p.1 z).2.2.2 p hp rfl
    exact ⟨keep p.1 p.2 ne nf nch e n, free p.1 p.2 nch e n, ne, nf, d⟩
theorem Inv.un {t' : Nat} (I : Inv X pins σ H s) (u : Un X.fs [] H H' s.heap h') (hok : HOk X.prog X.w H' h') : Inv X pins σ H' { s with heap := h', toks := t' } := by
  obtain ⟨m, ⟨o, es, ep, ho, r⟩, _⟩ := id I.loc
  obtain ⟨sl, hL⟩ := u.any ho I.free (by simp)
  exact I.step (g' := s.gens) (d' := s.drawn) (ch := []) (fun _ z => nomatch z) (fun b o _ hb _ e n => u.keep b o e n hb (by simp)) (fun b o _ hb _ e n => u.slot b o e n hb (by simp)) (fun b o _ e n => u.free b o e n (by simp)) (fun b o _ e => u.there b o e (by simp)) u.tups u.frzs u.tbls (fun m' hm => by
    obtain ⟨o', es', ep', ho', r'⟩ := hm
    rw [ho] at ho'; cases ho'
    exact ⟨_, es', ep', hL, r'⟩) hok I.bare
theorem Inv.call {g' : Array GenState} {t' : Nat} {d' : Drawn} {ch : List Addr} (I : Inv X pins σ H s) (u : Un (frs X.stack) ch H H' s.heap h') (hok : HOk X.prog X.w H' h') (hg : AllBare g')
    (hch : ∀ b ∈ ch, (b ∈ X.ex ∨ X.s₀.heap.objs.size ≤ b) ∧ b ≠ X.env.locals ∧ (∀ x c, X.env.cells.lookup x = some c → c ≠ b) ∧ ∀ p ∈ X.pn ++ pins, p.1 ≠ b) :
    Inv X pins σ H' { s with heap := h', gens := g', drawn := d', toks := t' } := by
  obtain ⟨m, ⟨o, es, ep, ho, r⟩, _⟩ := id I.loc
  obtain ⟨sl, hL⟩ := u.any ho I.free fun z => (hch _ z).2.1 rfl
  exact I.step (ch := ch) hch (fun b o hL hb hc e n => u.keep b o e n (fun z => (List.mem_cons.mp (I.stkSub b z)).elim hL hb) hc) (fun b o _ _ hc e n => u.any e n hc) (fun b o hc e n => u.free b o e n hc) (fun b o hc e => u.there b o e hc) u.tups u.frzs u.tbls (fun m' hm => by
    obtain ⟨o', es', ep', ho', r'⟩ := hm
    rw [ho] at ho'; cases ho'
    exact ⟨_, es', ep', hL, r'⟩) hok hg
theorem Inv.turned {t' : Nat} {it : Addr} (I : Inv X pins σ H s) (k : ∀ b o, b ≠ it → s.heap.get? b = some o → h'.get? b = some o) (hn : H it = none) (hL : it ≠ X.env.locals)
    (h1 : it ∈ X.ex ∨ X.s₀.heap.objs.size ≤ it) (h2 : ∀ x c, X.env.cells.lookup x = some c → c ≠ it) (h3 : ∀ p ∈ X.pn ++ pins, p.1 ≠ it) : Inv X pins σ H { s with heap := h', toks := t' } := by
  have nit : ∀ b u, H b = some u → b ≠ it := fun b u e z => by rw [z, hn] at e; cases e
  refine I.step (g' := s.gens) (d' := s.drawn) (ch := [it]) (fun b hb => ?_) (fun b o _ _ hc e _ => k b o (fun z => hc (by simp [z])) e) (fun b o _ _ hc e _ => ⟨o.slots, k b o (fun z => hc (by simp [z])) e⟩) (fun _ _ _ _ n => n)
    (fun b o hc e => ⟨o, k b o (fun z => hc (by simp [z])) e⟩) (fun _ _ e => e) (fun _ _ _ e => e) (fun b ps e => ⟨#[], by rw [e]; simp⟩) (fun m hm => ?_) (fun b u e => ?_) I.bare
  · have e : b = it := by simpa using hb
    subst e
    exact ⟨h1, hL, h2, h3⟩
  · obtain ⟨o, es, ep, ho, r⟩ := hm
    exact ⟨o, es, ep, k _ o (Ne.symm hL) ho, r⟩
  · refine (I.hok b u e).stay (fun c v hc q => k c v ?_ q) (fun _ q => q) fun _ _ q => q
    rcases hc with z | z
    · rw [z]; exact nit b u e
    · exact nit c _ z
theorem Inv.tok (I : Inv X pins σ H s) (t : Nat) : Inv X pins σ H { s with toks := t } := I.un (h' := s.heap) (t' := t) Un.refl I.hok
theorem Inv.kept {t' : Nat} (I : Inv X pins σ H s) (k : ∀ b u, s.heap.get? b = some u → h'.get? b = some u) : Inv X pins σ H { s with heap := h', toks := t' } := I.un (Un.kept k) (I.hok.kept k)
theorem Inv.laid {a : Addr} {o : HO} {t' : Nat} (I : Inv X pins σ H s) (k : ∀ b u, s.heap.get? b = some u → h'.get? b = some u) (hp : s.heap.objs.size ≤ a) (new : ObjOk X.prog X.w (upd H a o) h' a o) :
    Inv X pins σ (upd H a o) { s with heap := h', toks := t' } := I.un (Un.laid k hp (I.hok.fresh hp)) (I.hok.laid k hp new)
theorem Inv.write {x e : Addr} {o : HO} {t' : Nat} (I : Inv X pins σ H s) (mu : Mut (H x)) (he : e = x ∨ H e = some (.own x)) (k : ∀ b u, b ≠ e → s.heap.get? b = some u → h'.get? b = some u) (heo : ∃ u, h'.get? e = some u)
    (new : ObjOk X.prog X.w (upd H x o) h' x o) : Inv X pins σ (upd H x o) { s with heap := h', toks := t' } := I.un (Un.write mu he k heo) (I.hok.write mu he k heo new)
theorem Inv.pins_of {pins' : List (Addr × Obj)} (I : Inv X pins σ H s) (h : ∀ p ∈ pins', s.heap.get? p.1 = some p.2 ∧ H p.1 = none ∧ p.1 ≠ X.env.locals ∧ p.1 ∉ X.fs ∧ ∀ v, p.2.data ≠ .cell v) : Inv X pins' σ H s :=
  ⟨I.ok, I.os, I.bare, I.base, I.loc, I.cell, I.free, I.freeC, fun p hp => (List.mem_append.mp hp).elim (fun z => I.pin p (List.mem_append_left _ z)) (h p), I.hok, I.len⟩
theorem nodup_ix {N : List Str} (hN : N.Nodup) {i j : Nat} {x : Str} (a : N[i]? = some x) (b : N[j]? = some x) : i = j := by
  obtain ⟨h1, e1⟩ := List.getElem?_eq_some_iff.mp a
  obtain ⟨h2, e2⟩ := List.getElem?_eq_some_iff.mp b
  exact (List.getElem_inj hN).mp (e1.trans e2.symm)
theorem store_ok2 {M : Model} {A : Around} {E : Value → Shared → Prop} {i : Nat} {x : Str} {v : V} {u : Value} {Q : Unit → Shared → Prop} (I : Inv X pins σ H s) (hN : X.N.Nodup) (hi : X.N[i]? = some x) (hx : Loc X.env.scope x) (r : RelV v u)
    (h : ∀ s', Inv X pins (σ.set i (some v)) H s' → (∃ a, Heap.SameBut a s.heap s'.heap ∧ (a = X.env.locals ∨ X.env.cells.lookup x = some a)) → Q () s') (hf : X.fn x = true ∨ X.env.scope.names.lookup x = some .local := by first | exact .inl rfl | exact .inr rfl | assumption) : wpAny M A (storeName X.env x u) Q E s := by
  obtain ⟨m, hn, hl⟩ := id I.loc
  have hcls : (X.env.scope.kind == .class || (X.env.scope.kind == .module && X.env.locals != X.env.globals)) = false := by rw [I.ok.kind]; rfl
  have hiσ : i < σ.length := by rw [I.len]; exact (List.getElem?_eq_some_iff.mp hi).1
  have cne := I.cne
  have tracked : ∀ {a : Addr} {h' : Heap}, (∃ o, s.heap.get? a = some o ∧ H a = none) → Heap.SameBut a s.heap h' → HOk X.prog X.w H h' := fun {a h'} ha hs b ob e => by
    obtain ⟨_, _, hfree⟩ := ha
    refine (I.hok b ob e).stay (fun c w' hc q => (hs.2 c ?_).trans q) (fun _ q => q) fun _ _ q => q
    rintro rfl
    rcases hc with rfl | hc
    · rw [hfree] at e; cases e
    · rw [hfree] at hc; cases hc
  rcases hx with hk | hk
  · refine wpAny_storeName_local hk hn (fun h' hn' hs => ?_) hcls
    obtain ⟨oL, _, _, hoL, _⟩ := id hn
    refine h _ ⟨I.ok, I.os, I.bare, ⟨fun b o e n hb hx => ?_, fun b o e n hb hx => ?_, I.base.free, fun b o e hx => ?_, I.base.tups, I.base.frzs, I.base.tbls⟩, ⟨_, hn', fun j y v' e1 e2 e3 => ?_⟩, fun y c e => ?_, I.free, I.freeC, fun p hp => ?_, tracked ⟨oL, hoL, I.free⟩ hs, by simpa using I.len⟩ ⟨_, hs, .inl rfl⟩
    · exact (hs.2 b (Nat.ne_of_lt (Nat.lt_of_lt_of_le (Heap.lt_size e) I.ok.above))).trans (I.base.keep b o e n hb hx)
    · obtain ⟨sl, e1⟩ := I.base.slot b o e n hb hx
      exact ⟨sl, (hs.2 b (Nat.ne_of_lt (Nat.lt_of_lt_of_le (Heap.lt_size e) I.ok.above))).trans e1⟩
    · obtain ⟨o', e1⟩ := I.base.there b o e hx
      exact ⟨o', (hs.2 b (Nat.ne_of_lt (Nat.lt_of_lt_of_le (Heap.lt_size e) I.ok.above))).trans e1⟩
    · by_cases hj : j = i
      · subst hj
        rw [hi] at e1; cases e1
        rw [List.getElem?_set_self hiσ] at e2
        cases e2
        exact ⟨u, r, .inl ⟨hk, by simp⟩⟩
      · rw [List.getElem?_set_ne (Ne.symm hj)] at e2
        obtain ⟨u', r', q⟩ := hl j y v' e1 e2 e3
        refine ⟨u', r', ?_⟩
        rcases q with ⟨k, e⟩ | ⟨k, c, e, z⟩
        · refine .inl ⟨k, ?_⟩
          have : y ≠ x := fun e => hj (nodup_ix hN e1 (e ▸ hi))
          simp [this, e]
        · exact .inr ⟨k, c, e, z.sameBut hs (cne y c e)⟩
    · obtain ⟨w', z⟩ := I.cell y c e
      exact ⟨w', z.sameBut hs (cne y c e)⟩
    · obtain ⟨e, n, ne, nf, d⟩ := I.pin p hp
      exact ⟨(hs.2 p.1 ne).trans e, n, ne, nf, d⟩
  · have hfn : X.fn x = true := by
      rcases hf with z | z
      · exact z
      · rw [z] at hk; cases hk
    obtain ⟨c, hc⟩ := I.ok.has x (.inl hk)
    obtain ⟨w', z⟩ := I.cell x c hc
    refine wpAny_storeName_cell I.ok.kind hk hc z (fun h' hc' hs => ?_)
    obtain ⟨oc, hoc, hocd⟩ := id z
    refine h { s with heap := h' } ⟨I.ok, I.os, I.bare, ⟨fun b o e n hb hx => ?_, fun b o e n hb hx => ?_, I.base.free, fun b o e hx => ?_, I.base.tups, I.base.frzs, I.base.tbls⟩, ⟨m, hn.sameBut hs (Ne.symm (cne x c hc)), fun j y v' e1 e2 e3 => ?_⟩, fun y c' e => ?_, I.free, I.freeC, fun p hp => ?_, tracked ⟨oc, hoc, I.freeC x c hc⟩ hs, by simpa using I.len⟩ ⟨c, hs, .inr hc⟩
    · exact (hs.2 b (Nat.ne_of_lt (Nat.lt_of_lt_of_le (Heap.lt_size e) (I.ok.cab x c hfn hc)))).trans (I.base.keep b o e n hb hx)
    · obtain ⟨sl, e1⟩ := I.base.slot b o e n hb hx
      exact ⟨sl, (hs.2 b (Nat.ne_of_lt (Nat.lt_of_lt_of_le (Heap.lt_size e) (I.ok.cab x c hfn hc)))).trans e1⟩
    · obtain ⟨o', e1⟩ := I.base.there b o e hx
      exact ⟨o', (hs.2 b (Nat.ne_of_lt (Nat.lt_of_lt_of_le (Heap.lt_size e) (I.ok.cab x c hfn hc)))).trans e1⟩
    · by_cases hj : j = i
      · subst hj
        rw [hi] at e1; cases e1
        rw [List.getElem?_set_self hiσ] at e2
        cases e2
        exact ⟨u, r, .inr ⟨.inl hk, c, hc, hc'⟩⟩
      · rw [List.getElem?_set_ne (Ne.symm hj)] at e2
        obtain ⟨u', r', q⟩ := hl j y v' e1 e2 e3
        refine ⟨u', r', ?_⟩
        rcases q with q | ⟨k, c', e, z'⟩
        · exact .inl q
        · refine .inr ⟨k, c', e, z'.sameBut hs ?_⟩
          rintro rfl
          exact hj (nodup_ix hN e1 (I.ok.inj _ _ _ e hc ▸ hi))
    · by_cases hcc : c' = c
      · subst hcc; exact ⟨_, hc'⟩
      · obtain ⟨w2, z2⟩ := I.cell y c' e
        exact ⟨w2, z2.sameBut hs hcc⟩
    · obtain ⟨e, n, ne, nf, d⟩ := I.pin p hp
      refine ⟨(hs.2 p.1 ?_).trans e, n, ne, nf, d⟩
      intro q
      rw [q, hoc] at e
      have q' : oc = p.2 := Option.some.inj e
      exact d w' (by rw [← q']; exact hocd)
theorem store_ok {M : Model} {A : Around} {E : Value → Shared → Prop} {i : Nat} {x : Str} {v : V} {u : Value} {Q : Unit → Shared → Prop} (I : Inv X pins σ H s) (hN : X.N.Nodup) (hi : X.N[i]? = some x) (hx : Loc X.env.scope x) (r : RelV v u)
    (h : ∀ s', Inv X pins (σ.set i (some v)) H s' → Q () s') (hf : X.fn x = true ∨ X.env.scope.names.lookup x = some .local := by first | exact .inl rfl | exact .inr rfl | assumption) : wpAny M A (storeName X.env x u) Q E s :=
  store_ok2 I hN hi hx r (fun s' I' _ => h s' I') hf
end
abbrev XK := Value → Option Addr → Hp → Prop
abbrev St := List (Option V)
abbrev VK := V → Hp → Prop
abbrev TE := St → Hp → VK → Prop
abbrev TT := St → Hp → (Bool → Hp → Prop) → Prop
abbrev TA := St → Hp → (List V → Hp → Prop) → Prop
structure Ends where
  nx : St → Hp → Prop
  rt : VK
  bk : St → Hp → Prop := fun _ _ => False
  ct : St → Hp → Prop := fun _ _ => False
abbrev TS := Ends → St → Hp → Prop
def EP (X : Cx) (pins : List (Addr × Obj)) (σ : St) (Q : VK) (u : Value) (s' : Shared) : Prop := ∃ v H', Inv X pins σ H' s' ∧ RelV v u ∧ Q v H'
def TP (X : Cx) (pins : List (Addr × Obj)) (σ : St) (Q : Bool → Hp → Prop) (b : Bool) (s' : Shared) : Prop := ∃ H', Inv X pins σ H' s' ∧ Q b H'
def AP (X : Cx) (pins : List (Addr × Obj)) (σ : St) (Q : List V → Hp → Prop) (us : List Value) (s' : Shared) : Prop := ∃ vs H', Inv X pins σ H' s' ∧ Vals vs us ∧ Q vs H'
def SP (X : Cx) (pins : List (Addr × Obj)) (D : Ends) (f : Flow) (s' : Shared) : Prop :=
  match f with
  | .next => ∃ σ' H', Inv X pins σ' H' s' ∧ D.nx σ' H'
  | .brk => ∃ σ' H', Inv X pins σ' H' s' ∧ D.bk σ' H'
  | .cont => ∃ σ' H', Inv X pins σ' H' s' ∧ D.ct σ' H'
  | .ret u => ∃ v σ' H', Inv X pins σ' H' s' ∧ RelV v u ∧ D.rt v H'
def PE (X : Cx) (e : Expr) (t : TE) : Prop :=
  ∀ (pins : List (Addr × Obj)) (s : Shared) (σ : St) (H : Hp) (Q : VK), Inv X pins σ H s → t σ H Q → wpAny (model X.prog X.w) X.A (eval e X.env) (EP X pins σ Q) X.xe s
def PT (X : Cx) (e : Expr) (t : TT) : Prop :=
  ∀ (pins : List (Addr × Obj)) (s : Shared) (σ : St) (H : Hp) (Q : Bool → Hp → Prop), Inv X pins σ H s → t σ H Q → wpAny (model X.prog X.w) X.A (isTrue e X.env (eval e X.env)) (TP X pins σ Q) X.xe s
def PW (X : Cx) (e : Expr) (t : TT) : Prop :=
  ∀ (whole : Sem Value) (pins : List (Addr × Obj)) (s : Shared) (σ : St) (H : Hp) (Q : Bool → Hp → Prop), Inv X pins σ H s → t σ H Q → wpAny (model X.prog X.w) X.A (isTrue e X.env whole) (TP X pins σ Q) X.xe s
theorem PW.pt {X : Cx} {e : Expr} {t : TT} (h : PW X e t) : PT X e t := h _
def PA (X : Cx) (es : List Expr) (t : TA) : Prop :=
  ∀ (pos : Pos) (pins : List (Addr × Obj)) (s : Shared) (σ : St) (H : Hp) (Q : List V → Hp → Prop), Inv X pins σ H s → t σ H Q → wpAny (model X.prog X.w) X.A (spliced (backTo pos (starEach es X.env))) (AP X pins σ Q) X.xe s
def PS (X : Cx) (st : Stmt) (t : TS) : Prop :=
  ∀ (pins : List (Addr × Obj)) (s : Shared) (σ : St) (H : Hp) (D : Ends), Inv X pins σ H s → t D σ H → wpAny (model X.prog X.w) X.A (exec st X.env) (SP X pins D) X.xe s
def PSs (X : Cx) (st : List Stmt) (t : TS) : Prop :=
  ∀ (pins : List (Addr × Obj)) (s : Shared) (σ : St) (H : Hp) (D : Ends), Inv X pins σ H s → t D σ H → wpAny (model X.prog X.w) X.A (execs st X.env) (SP X pins D) X.xe s
theorem thn {α : Type} {t : Sem α} {Q Q' : α → Shared → Prop} {M : Model} {A : Around} {E : Value → Shared → Prop} {s : Shared} (h : wpAny M A t Q E s) (hQ : ∀ a s, Q a s → Q' a s) : wpAny M A t Q' E s := wpAny_mono h hQ fun _ _ x => x
end L2
namespace L2
open PySem PySem.Spec PyProof.Rows
section
variable {X : Cx}
def tVar (i : Nat) : TE := fun σ H Q => ∃ v, σ[i]? = some (some v) ∧ Q v H
def tC (v : V) : TE := fun _ H Q => Q v H
theorem pe_var {i : Nat} {x : Str} {pos : Pos} (hN : X.N[i]? = some x) (hv : Vis X.env.scope x) (hd : (x == ("__debug__" : Str)) = false := by decide) (hcd : (x == ("__classdict__" : Str)) = false := by decide) : PE X (.Name x pos) (tVar i) := by
  intro pins s σ H Q I h
  obtain ⟨v, e, h⟩ := h
  obtain ⟨m, hn, hl⟩ := I.loc
  obtain ⟨u, r, l⟩ := hl i x v hN e hv
  have fin : EP X pins σ Q u s := ⟨v, H, I, r, h⟩
  rcases l with ⟨hk, hm⟩ | ⟨hk, c, hc, hcell⟩
  · exact wpAny_Name (wpAny_loadName_local I.ok.kind hk hn hm fin) hd
  · rcases hk with hk | hk
    · exact wpAny_Name (wpAny_loadName_cell I.ok.kind hk hc hcell fin) hd
    · exact wpAny_Name (wpAny_loadName_free I.ok.kind hk hc hcell fin hcd) hd
theorem pe_int {i j pos} : PE X (.Constant (.int i) j pos) (tC (.int i)) := fun _ _ _ H _ I h => wpAny_Constant_int ⟨.int i, H, I.tok _, ⟨_, rfl⟩, h⟩
theorem pe_bl {b j pos} : PE X (.Constant (.bool b) j pos) (tC (.bl b)) := fun _ _ _ H _ I h => Constant_bool ⟨.bl b, H, I, rfl, h⟩
theorem pe_str {x j pos} : PE X (.Constant (.str x) j pos) (tC (.str x)) := fun _ _ _ H _ I h => Calls.Constant_str ⟨.str x, H, I.tok _, ⟨_, rfl⟩, h⟩
def Gl (X : Cx) (x : Str) : Prop := X.env.kindOf x = some .globalImplicit
theorem ld_glob {E : Value → Shared → Prop} {pins : List (Addr × Obj)} {s : Shared} {σ : St} {H : Hp} {x : Str} {u : Value} {pos : Pos} {Q : Value → Shared → Prop} (I : Inv X pins σ H s) (hg : Gl X x) (hm : X.mg x = some u) (h : Q u s)
    (hd : (x == ("__debug__" : Str)) = false := by decide) : wpAny (model X.prog X.w) X.A (eval (.Name x pos) X.env) Q E s :=
  Calls.Name_function_global I.ok.kind hg (Calls.loadGlobal_global (by rw [I.ok.glob]; exact I.mod.glob.keeps I.bk) hm h) hd
theorem ld_blt {E : Value → Shared → Prop} {pins : List (Addr × Obj)} {s : Shared} {σ : St} {H : Hp} {x : Str} {u : Value} {pos : Pos} {Q : Value → Shared → Prop} (I : Inv X pins σ H s) (hg : Gl X x) (hm : X.mg x = none) (hv : bootBuiltins x = some u) (h : Q u s)
    (hn : x ≠ "__name__" := by decide) (hd : (x == ("__debug__" : Str)) = false := by decide) : wpAny (model X.prog X.w) X.A (eval (.Name x pos) X.env) Q E s := by
  obtain ⟨mb, h1, h2⟩ := I.mod.blt
  exact Calls.Name_function_global I.ok.kind hg (Calls.loadGlobal_builtin (by rw [I.ok.glob]; exact I.mod.glob.keeps I.bk) hm (by rw [I.ok.blt]; exact h1.keeps I.bk) ((h2 x hn).trans hv) h) hd
theorem pe_glob {x : Str} {v : V} {u : Value} {pos : Pos} (hg : Gl X x) (hm : X.mg x = some u) (r : RelV v u) (hd : (x == ("__debug__" : Str)) = false := by decide) : PE X (.Name x pos) (tC v) :=
  fun _ _ _ H _ I h => ld_glob I hg hm ⟨v, H, I, r, h⟩ hd
theorem pe_bltn {x : Str} {v : V} {u : Value} {pos : Pos} (hg : Gl X x) (hm : X.mg x = none) (hv : bootBuiltins x = some u) (r : RelV v u) (hn : x ≠ "__name__" := by decide) (hd : (x == ("__debug__" : Str)) = false := by decide) : PE X (.Name x pos) (tC v) :=
  fun _ _ _ H _ I h => ld_blt I hg hm hv ⟨v, H, I, r, h⟩ hn hd
variable {a b : Expr} {ta tb : TE} {pos : Pos}
def tB (t : TE) : TT := fun σ H Q => t σ H fun x H1 => ∃ c, x = .bl c ∧ Q c H1
variable {tA tB' : TT} {rest : List Expr}
def tOr (t u : TT) : TT := fun σ H Q => t σ H fun c H1 => if c = true then Q true H1 else u σ H1 Q
def tNot (t : TT) : TT := fun σ H Q => t σ H fun c H1 => Q (!c) H1
theorem pw_or1 (ha : PT X a tA) : PW X (.BoolOp .Or [a] pos) tA := by
  intro wh pins s σ H Q I h
  refine isTrue_or (thn (ha pins s σ H Q I h) fun c s1 e => ?_)
  cases c with
  | false => exact isTrue_or_nil e
  | true => exact e
theorem pw_or (ha : PT X a tA) (hb : PW X (.BoolOp .Or (b :: rest) pos) tB') : PW X (.BoolOp .Or (a :: b :: rest) pos) (tOr tA tB') := by
  intro wh pins s σ H Q I h
  refine isTrue_or (thn (ha pins s σ H _ I h) fun c s1 hh => ?_)
  obtain ⟨H1, I1, q1⟩ := hh
  cases c with
  | true => exact ⟨H1, I1, q1⟩
  | false => exact hb wh pins s1 σ H1 Q I1 q1
theorem pt_not (ha : PT X a tA) : PT X (.UnaryOp .Not a pos) (tNot tA) := by
  intro pins s σ H Q I h
  exact isTrue_not (ha pins s σ H (fun c H1 => Q (!c) H1) I h)
def tAndV (ta tb : TE) : TE := fun σ H Q => ta σ H fun x H1 => ∃ c, x = .bl c ∧ if c = true then tb σ H1 Q else Q (.bl false) H1
def tNotV (ta : TE) : TE := fun σ H Q => ta σ H fun x H1 => ∃ c, x = .bl c ∧ Q (.bl (!c)) H1
theorem pe_one {op} {t : TE} (h : PE X a t) : PE X (.BoolOp op [a] pos) t := fun pins s σ H Q I hw => BoolOp_one (h pins s σ H Q I hw)
theorem pe_and (ha : PE X a ta) (hb : PE X (.BoolOp .And (b :: rest) pos) tb) : PE X (.BoolOp .And (a :: b :: rest) pos) (tAndV ta tb) := by
  intro pins s σ H Q I h
  refine BoolOp_and (thn (ha pins s σ H _ I h) fun v s1 hh => ?_)
  obtain ⟨x, H1, I1, r1, q1⟩ := hh
  obtain ⟨c, rfl, q1⟩ := q1
  cases r1
  refine wpAny_truthy_bool ?_
  cases c with
  | true => exact hb pins s1 σ H1 Q I1 q1
  | false => exact ⟨.bl false, H1, I1, rfl, q1⟩
theorem pe_not (ha : PE X a ta) : PE X (.UnaryOp .Not a pos) (tNotV ta) := by
  intro pins s σ H Q I h
  refine UnaryOp_ (thn (ha pins s σ H _ I h) fun v s1 hh => ?_)
  obtain ⟨x, H1, I1, r1, q1⟩ := hh
  obtain ⟨c, rfl, q1⟩ := q1
  cases r1
  exact not_of (wpAny_truthy_bool ⟨.bl (!c), H1, I1, rfl, q1⟩)
end
end L2
namespace L2
open PySem PySem.Spec PyProof.Rows
def SqL (K : PySem.W.Frag) (H : Hp) (a : Addr) (xs : List V) : Prop :=
  Rd H a (.lst xs) ∨
    ∃ (o : Obj) (its : Array Value) (n : Nat), K.lookup a = some o ∧ o.cls = .type "list" ∧ o.dict = none ∧ o.data = .seq its n ∧ its.size ≤ sizeLine ∧ Vals xs its.toList
def SqT (K : PySem.W.Frag) (H : Hp) (a : Addr) (xs : List V) : Prop :=
  Rd H a (.tup xs) ∨
    ∃ (o : Obj) (its : Array Value) (n : Nat), K.lookup a = some o ∧ o.cls = .type "tuple" ∧ o.data = .seq its n ∧ its.size ≤ sizeLine ∧ Vals xs its.toList
def absV : Value → Option V
  | .none => some .non
  | .bool b => some (.bl b)
  | .int i _ => some (.int i)
  | .str x _ => some (.str x)
  | .bytes b _ => some (.byt b)
  | .float b _ => some (.flt b)
  | .ref a => some (.ref a)
  | .type n => some (.ty n)
  | _ => none
theorem RelV.abs {x : V} {u : Value} (r : RelV x u) : absV u = some x := by
  cases x with
  | non => cases r; rfl
  | bl _ => cases r; rfl
  | int _ => obtain ⟨t, rfl⟩ := r; rfl
  | str _ => obtain ⟨t, rfl⟩ := r; rfl
  | byt _ => obtain ⟨t, rfl⟩ := r; rfl
  | flt _ => obtain ⟨t, rfl⟩ := r; rfl
  | ref _ => cases r; rfl
  | ty _ => cases r; rfl
theorem RelV.inj {x y : V} {u : Value} (r : RelV x u) (q : RelV y u) : x = y := Option.some.inj (r.abs.symm.trans q.abs)
theorem Vals.inj {xs ys : List V} {us : List Value} (h : Vals xs us) (h' : Vals ys us) : xs = ys := by
  induction h generalizing ys with
  | nil => cases h'; rfl
  | cons r t ih =>
    cases h' with
    | cons r' t' => rw [r.inj r', ih t']
section
variable {X : Cx} {pins : List (Addr × Obj)} {σ : St} {H : Hp} {s : Shared} {a : Addr} {xs ys : List V}
theorem SqL.of {K : PySem.W.Frag} (h : H a = some (.lst xs)) : SqL K H a xs := .inl (.inl h)
theorem SqT.of {K : PySem.W.Frag} (h : H a = some (.tup xs)) : SqT K H a xs := .inl (.inl h)
theorem Inv.list (I : Inv X pins σ H s) (h : SqL X.K H a xs) : ∃ its : List Value, Vals xs its ∧ PlainL s.heap a its.toArray ∧ xs.length ≤ sizeLine := by
  rcases h with h | ⟨o, its, n, hk, hc, hd, hs, hz, r⟩
  · obtain ⟨z, its, n, r, e⟩ := h.ok I.hok
    exact ⟨its, r, ⟨_, n, e, rfl, rfl, rfl⟩, z⟩
  · refine ⟨its.toList, r, ⟨o, n, I.kIn a o hk, hc, hd, by simpa using hs⟩, ?_⟩
    have e := r.length
    simp only [Array.length_toList] at e
    omega
theorem Inv.tuple (I : Inv X pins σ H s) (h : SqT X.K H a xs) : ∃ its : List Value, Vals xs its ∧ IsTup s.heap a its.toArray ∧ xs.length ≤ sizeLine := by
  rcases h with h | ⟨o, its, n, hk, hc, hs, hz, r⟩
  · obtain ⟨z, its, r, p⟩ := h.ok I.hok
    exact ⟨its, r, p, z⟩
  · refine ⟨its.toList, r, ⟨o, I.kIn a o hk, hc, n, by simpa using hs⟩, ?_⟩
    have e := r.length
    simp only [Array.length_toList] at e
    omega
theorem Inv.list_inj (I : Inv X pins σ H s) (h : SqL X.K H a xs) (h' : SqL X.K H a ys) : xs = ys := by
  obtain ⟨its, r, ⟨o, n, e, _, _, d⟩, _⟩ := I.list h
  obtain ⟨its', r', ⟨o', n', e', _, _, d'⟩, _⟩ := I.list h'
  rw [e] at e'; cases e'
  rw [d] at d'
  injection d' with d1 _
  have : its = its' := by simpa using congrArg Array.toList d1
  subst this
  exact r.inj r'
theorem Inv.tuple_inj (I : Inv X pins σ H s) (h : SqT X.K H a xs) (h' : SqT X.K H a ys) : xs = ys := by
  obtain ⟨its, r, ⟨o, e, _, n, d⟩, _⟩ := I.tuple h
  obtain ⟨its', r', ⟨o', e', _, n', d'⟩, _⟩ := I.tuple h'
  rw [e] at e'; cases e'
  rw [d] at d'
  injection d' with d1 _
  have : its = its' := by simpa using congrArg Array.toList d1
  subst this
  exact r.inj r'
end
abbrev Cx.wish (X : Cx) (E : Value → Shared → Prop) : Cx := { X with xe := E }
abbrev Cx.nox (X : Cx) : Cx := X.wish fun _ _ => False
theorem Cx.Ok.wish {X : Cx} (ok : X.Ok) (E : Value → Shared → Prop) : (X.wish E).Ok :=
  ⟨ok.mod, ok.kind, ok.glob, ok.blt, ok.above, ok.inj, ok.has, ok.cab, ok.hd, ok.frames, ok.stk, ok.exf, ok.bs, ok.bsz, ok.noex, ok.exfs, ok.funs, ok.frf⟩
theorem Cx.Ok.unwish {X : Cx} {E : Value → Shared → Prop} (ok : (X.wish E).Ok) : X.Ok :=
  ⟨ok.mod, ok.kind, ok.glob, ok.blt, ok.above, ok.inj, ok.has, ok.cab, ok.hd, ok.frames, ok.stk, ok.exf, ok.bs, ok.bsz, ok.noex, ok.exfs, ok.funs, ok.frf⟩
section
variable {X : Cx} {pins : List (Addr × Obj)} {σ : St} {H : Hp} {s : Shared} {E : Value → Shared → Prop}
theorem Inv.wish (I : Inv X pins σ H s) (E : Value → Shared → Prop) : Inv (X.wish E) pins σ H s := ⟨I.ok.wish E, I.os, I.bare, I.base, I.loc, I.cell, I.free, I.freeC, I.pin, I.hok, I.len⟩
theorem Inv.unwish (I : Inv (X.wish E) pins σ H s) : Inv X pins σ H s := ⟨I.ok.unwish, I.os, I.bare, I.base, I.loc, I.cell, I.free, I.freeC, I.pin, I.hok, I.len⟩
theorem SP.unwish {D : Ends} {f : Flow} {s' : Shared} (h : SP (X.wish E) pins D f s') : SP X pins D f s' := by
  cases f with
  | next => obtain ⟨σ', H', I, q⟩ := h; exact ⟨σ', H', I.unwish, q⟩
  | brk => obtain ⟨σ', H', I, q⟩ := h; exact ⟨σ', H', I.unwish, q⟩
  | cont => obtain ⟨σ', H', I, q⟩ := h; exact ⟨σ', H', I.unwish, q⟩
  | ret u => obtain ⟨v, σ', H', I, r, q⟩ := h; exact ⟨v, σ', H', I.unwish, r, q⟩
theorem PE.nox {e : Expr} {t : TE} (h : PE X.nox e t) : PE X e t := fun pins s σ H Q I hw =>
  wpAny_mono (h pins s σ H Q (I.wish _) hw) (fun _ _ ⟨v, H', I', r, q⟩ => ⟨v, H', I'.unwish, r, q⟩) fun _ _ z => False.elim z
theorem PT.nox {e : Expr} {t : TT} (h : PT X.nox e t) : PT X e t := fun pins s σ H Q I hw =>
  wpAny_mono (h pins s σ H Q (I.wish _) hw) (fun _ _ ⟨H', I', q⟩ => ⟨H', I'.unwish, q⟩) fun _ _ z => False.elim z
theorem PSs.nox {st : List Stmt} {t : TS} (h : PSs X.nox st t) : PSs X st t := fun pins s σ H D I hw =>
  wpAny_mono (h pins s σ H D (I.wish _) hw) (fun _ _ q => q.unwish) fun _ _ z => False.elim z
end
section
variable {X : Cx} {st : Stmt} {rest : List Stmt} {t u : TS} {e : Expr} {te : TE} {pos : Pos}
def tNext : TS := fun D σ H => D.nx σ H
def tSeq (t u : TS) : TS := fun D σ H => t { D with nx := u D } σ H
theorem pss_nil : PSs X [] tNext := fun _ _ σ H _ I h => wpAny_execs_nil ⟨σ, H, I, h⟩
theorem pss_cons (h1 : PS X st t) (h2 : PSs X rest u) : PSs X (st :: rest) (tSeq t u) := by
  intro pins s σ H D I h
  refine wpAny_execs_cons (thn (h1 pins s σ H { D with nx := u D } I h) fun f s1 q => ?_)
  cases f with
  | next =>
    obtain ⟨σ', H', I', q⟩ := q
    exact h2 pins s1 σ' H' D I' q
  | ret v => exact q
  | brk => exact q
  | cont => exact q
theorem pss_one (h1 : PS X st t) : PSs X [st] t := by
  intro pins s σ H D I h
  refine wpAny_execs_cons (thn (h1 pins s σ H D I h) fun f s1 q => ?_)
  cases f with
  | next => exact wpAny_execs_nil q
  | ret v => exact q
  | brk => exact q
  | cont => exact q
theorem Inv.quiet {pins : List (Addr × Obj)} {σ : St} {H : Hp} {s : Shared} (I : Inv X pins σ H s) : interactive X.env = false := by simp [interactive, I.ok.kind]
def tDrop (te : TE) : TS := fun D σ H => te σ H fun _ H1 => D.nx σ H1
theorem ps_expr (he : PE X e te) (hs : swapsWith e none pos.line X.env = pure false := by rfl) : PS X (.Expr e pos) (tDrop te) := by
  intro pins s σ H D I h
  exact wpAny_Expr_any (thn (he pins s σ H _ I h) fun v s1 ⟨x, H1, I1, r1, q1⟩ => ⟨σ, H1, I1, q1⟩) I.quiet hs
def tRet (te : TE) : TS := fun D σ H => te σ H D.rt
theorem ps_ret (he : PE X e te) : PS X (.Return (some e) pos) (tRet te) := by
  intro pins s σ H D I h
  exact wpAny_Return_some (thn (he pins s σ H _ I h) fun v s1 ⟨x, H1, I1, r1, q1⟩ => ⟨x, σ, H1, I1, r1, q1⟩)
def tIfS (c : TT) (t u : TS) : TS := fun D σ H => c σ H fun b H1 => if b = true then t D σ H1 else u D σ H1
theorem ps_if {c : Expr} {a b : List Stmt} {tc : TT} (hc : PT X c tc) (ha : PSs X a t) (hb : PSs X b u) : PS X (.If c a b pos) (tIfS tc t u) := by
  intro pins s σ H D I h
  refine wpAny_If (thn (hc pins s σ H _ I h) fun d s1 hh => ?_)
  obtain ⟨H1, I1, q1⟩ := hh
  cases d with
  | true => exact ha pins s1 σ H1 D I1 q1
  | false => exact hb pins s1 σ H1 D I1 q1
end
abbrev TG := V → St → Hp → (St → Hp → Prop) → Prop
def PG (X : Cx) (target : Expr) (t : TG) : Prop :=
  ∀ (pins : List (Addr × Obj)) (s : Shared) (σ : St) (H : Hp) (v : V) (u : Value) (Q : St → Hp → Prop), Inv X pins σ H s → RelV v u → t v σ H Q →
    wpAny (model X.prog X.w) X.A (assign target X.env u) (fun _ s' => ∃ σ' H', Inv X pins σ' H' s' ∧ Q σ' H') X.xe s
section
variable {X : Cx} {pos : Pos}
def gName (i : Nat) : TG := fun v σ H Q => Q (σ.set i (some v)) H
theorem pg_name {i : Nat} {x : Str} (hN : X.N.Nodup) (hi : X.N[i]? = some x) (hx : Loc X.env.scope x) (hf : X.fn x = true ∨ X.env.scope.names.lookup x = some .local := by first | exact .inl rfl | exact .inr rfl | assumption) : PG X (.Name x pos) (gName i) := by
  intro pins s σ H v u Q I r h
  exact wpAny_assign_Name (store_ok I hN hi hx r (fun s' I' => ⟨_, H, I', h⟩) hf)
def tAsg (te : TE) (g : TG) : TS := fun D σ H => te σ H fun x H1 => g x σ H1 D.nx
theorem ps_asg {tg e : Expr} {te : TE} {g : TG} (he : PE X e te) (hg : PG X tg g) (hs : swapsWithSole [tg] e pos.line X.env = pure false := by rfl) (hw : swappedStores [tg] e X.env = pure none := by rfl)
    (h1 : (assignEach [tg] X.env).map (·.2) = [assign tg X.env] := by rfl) : PS X (.Assign [tg] e pos) (tAsg te g) := by
  intro pins s σ H D I h
  refine wpAny_Assign_stores (thn (he pins s σ H _ I h) fun v s1 hh => ?_) hs hw
  obtain ⟨x, H1, I1, r1, q1⟩ := hh
  rw [h1]
  exact thn (hg pins s1 σ H1 x v _ I1 r1 q1) fun _ s2 q => q
theorem ps_set {i : Nat} {x : Str} {e : Expr} {te : TE} {pos' : Pos} (hN : X.N.Nodup) (hi : X.N[i]? = some x) (hx : Loc X.env.scope x) (he : PE X e te) (hs : swapsWith e (some (.Name x pos')) pos.line X.env = pure false := by rfl) (hf : X.fn x = true ∨ X.env.scope.names.lookup x = some .local := by first | exact .inl rfl | exact .inr rfl | assumption) :
    PS X (.Assign [.Name x pos'] e pos) (tAsg te (gName i)) := by
  intro pins s σ H D I h
  refine wpAny_Assign_Name (thn (he pins s σ H _ I h) fun v s1 hh => ?_) hs
  obtain ⟨y, H1, I1, r1, q1⟩ := hh
  exact store_ok I1 hN hi hx r1 (fun s2 I2 => ⟨_, H1, I2, q1⟩) hf
end
section
variable {X : Cx} {pos : Pos}
end
structure It where
  go : Nat → Hp → Prop
  yld : Nat → Hp → V → Hp → Prop
  stop : Nat → Hp → Prop
def FpOk (X : Cx) (pins : List (Addr × Obj)) (H : Hp) (b : Addr) : Prop :=
  H b = none ∧ b ≠ X.env.locals ∧ b ∉ X.fs ∧ (b ∈ X.ex ∨ X.s₀.heap.objs.size ≤ b) ∧ (∀ x c, X.env.cells.lookup x = some c → c ≠ b) ∧ ∀ p ∈ X.pn ++ pins, p.1 ≠ b
theorem Inv.fpOk {X : Cx} {pins : List (Addr × Obj)} {σ : St} {H H' : Hp} {s : Shared} {b : Addr} (I : Inv X pins σ H s) (hb : s.heap.objs.size ≤ b) (hn : H' b = none) : FpOk X pins H' b := by
  refine ⟨hn, Nat.ne_of_gt (Nat.lt_of_lt_of_le I.lt hb), I.nofs hb, .inr (Nat.le_trans I.sz hb), fun x c e z => ?_, fun p hp z => ?_⟩
  · obtain ⟨v, q⟩ := I.cell x c e
    exact absurd (Nat.lt_of_lt_of_le q.lt (by rw [z]; exact hb)) (Nat.lt_irrefl _)
  · exact absurd (Nat.lt_of_lt_of_le (Heap.lt_size (I.pin p hp).1) (by rw [z]; exact hb)) (Nat.lt_irrefl _)
structure Turn (P : Program) (w : World) (K : PySem.W.Frag) (tg : Expr) (J : It) (fp : List Addr) (it : Addr) (tn : Nat → Heap → Prop) : Prop where
  mem : it ∈ fp
  obj : ∀ i h, tn i h → ∀ b ∈ fp, ∃ o, h.get? b = some o ∧ ∀ v, o.data ≠ .cell v
  keep : ∀ i h h', tn i h → (∀ b ∈ fp, ∀ o, h.get? b = some o → h'.get? b = some o) → tn i h'
  item : ∀ (X : Cx), X.prog = P → X.w = w → X.K = K → X.calm = true → ∀ (i : Nat) (pins : List (Addr × Obj)) (s : Shared) (σ : St) (H : Hp) (E : Value → Shared → Prop), Inv X pins σ H s → (∀ b ∈ fp, FpOk X pins H b) → tn i s.heap → J.go i H →
    wpAny (model P w) X.A (pyNext (.ref it)) (fun r s1 => ∃ u, r = some u ∧
      wpAny (model P w) X.A (letOwnedTupleGo tg (.ref it) u) (fun _ s2 => ∃ x H', Inv X pins σ H' s2 ∧ RelV x u ∧ J.yld i H x H' ∧ tn (i + 1) s2.heap ∧ ∀ b ∈ fp, H' b = none) E s1) E s
  done : ∀ (X : Cx), X.prog = P → X.w = w → X.K = K → X.calm = true → ∀ (i : Nat) (pins : List (Addr × Obj)) (s : Shared) (σ : St) (H : Hp) (E : Value → Shared → Prop), Inv X pins σ H s → (∀ b ∈ fp, FpOk X pins H b) → tn i s.heap → J.stop i H →
    wpAny (model P w) X.A (pyNext (.ref it)) (fun r s1 => r = none ∧ Inv X pins σ H s1) E s
  self : ∀ (A : Around) (i : Nat) (s : Shared) (Q : Value → Shared → Prop) (E : Value → Shared → Prop), tn i s.heap → Q (.ref it) s → wpAny (model P w) A (pyIter (.ref it)) Q E s
abbrev TI := St → Hp → (It → Hp → Prop) → Prop
def PIE (X : Cx) (pins : List (Addr × Obj)) (σ : St) (tg : Expr) (R : It → Hp → Prop) (itv : Value) (s2 : Shared) : Prop :=
  ∃ (it : Addr) (fp : List Addr) (tn : Nat → Heap → Prop) (J : It) (H' : Hp), itv = .ref it ∧ Inv X pins σ H' s2 ∧ Turn X.prog X.w X.K tg J fp it tn ∧ tn 0 s2.heap ∧ (∀ b ∈ fp, FpOk X pins H' b) ∧ R J H'
def PI (X : Cx) (tg iter : Expr) (wi : TI) : Prop :=
  ∀ (pins : List (Addr × Obj)) (s : Shared) (σ : St) (H : Hp) (R : It → Hp → Prop), Inv X pins σ H s → wi σ H R →
    wpAny (model X.prog X.w) X.A (eval iter X.env) (fun v s1 => wpAny (model X.prog X.w) X.A (pyIter v) (PIE X pins σ tg R) X.xe s1) X.xe s
theorem go_of {M : Model} {A : Around} {E : Value → Shared → Prop} {s : Shared} {tg : Expr} {it : Addr} {u : Value} {o : Obj} {n : String} {vs : Array Value} {Q : Unit → Shared → Prop} (ho : s.heap.get? it = some o) (hc : o.cls = .type n) (hd : o.data = .fields vs)
    (hn : ["enumerate", "zip", "dict_itemiterator", "dict_reverseitemiterator", "odict_iterator", "itertools.zip_longest", "itertools.pairwise"].contains n = false) (hQ : Q () s) : wpAny M A (letOwnedTupleGo tg (.ref it) u) Q E s := by
  unfold letOwnedTupleGo
  cases tg <;> first
    | exact wpAny_pure hQ
    | (cases u <;> first
        | exact wpAny_pure hQ
        | (refine wpAny_bind (wpAny_load ho ?_)
           rw [hc, hd]
           show wpAny M A (if (["enumerate", "zip", "dict_itemiterator", "dict_reverseitemiterator", "odict_iterator", "itertools.zip_longest", "itertools.pairwise"].contains n && vs[0]? == some (rawInt _)) = true then _ else _) Q E s
           rw [if_neg (by intro h; rw [hn, Bool.false_and] at h; cases h)]
           exact wpAny_pure hQ))
def Itr (lo : Int) (n : Nat) : It := ⟨fun i _ => i < n, fun i H x H' => H' = H ∧ x = .int (lo + i), fun i _ => n ≤ i⟩
theorem turn_range {P : Program} {w : World} {K : PySem.W.Frag} {tg : Expr} (it : Addr) (lo : Int) (n : Nat) : Turn P w K tg (Itr lo n) [it] it (fun i h => IsRangeIter h it (lo + (i : Nat) * 1) ((n : Int) - (i : Nat)) 1) where
  mem := by simp
  obj := fun i h st b hb => by
    have e : b = it := by simpa using hb
    subst e
    exact ⟨_, st, fun v z => by
      have z' : Data.fields _ = Data.cell v := z
      cases z'⟩
  keep := fun i h h' st k => k it (by simp) _ st
  item := by
    intro X hP hw hK hc i pins s σ H E I hf st hg
    subst hP hw hK
    obtain ⟨f0, f1, f2, f3, f4, f5⟩ := hf it (by simp)
    have W := Walks.range (prog := X.prog) (w := X.w) (I.ok.hd hc) it lo 1 n
    refine W.item i s _ _ hg st fun v h' tk hv st' kk => ?_
    obtain ⟨t, rfl⟩ := hv
    have I1 : Inv X pins σ H { s with heap := h', toks := tk } := I.turned (fun b o hb e => kk b o (by simpa using hb) e) f0 f1 f3 f4 f5
    refine ⟨_, rfl, go_of (s := { s with heap := h', toks := tk }) (n := "range_iterator") st' rfl rfl (by decide) ⟨.int (lo + i), H, I1, ⟨t, ?_⟩, ⟨rfl, rfl⟩, st', fun b hb => (hf b hb).1⟩⟩
    rw [Int.mul_one]
  done := by
    intro X hP hw hK hc i pins s σ H E I hf st hg
    subst hP hw hK
    obtain ⟨f0, f1, f2, f3, f4, f5⟩ := hf it (by simp)
    exact wpAny_pyNext_range_end (I.ok.hd hc) st (by have : n ≤ i := hg; omega) fun h' eb => ⟨rfl, I.turned (t' := s.toks) (fun b o hb e => eb b o hb e) f0 f1 f3 f4 f5⟩
  self := fun _ _ _ _ _ st h => wpAny_pyIter_rangeiter st h
end L2
namespace L2
open PySem PySem.Spec PyProof.Rows
section
variable {X : Cx} {tg : Expr}
theorem range_it {pins : List (Addr × Obj)} {σ : St} {H : Hp} {s : Shared} {R : It → Hp → Prop} {E : Value → Shared → Prop} {lo hi : Int} {t u v : Tok} {tk : Nat} (I : Inv X pins σ H s) (h1 : -(2 ^ 62) ≤ lo) (h2 : lo < 2 ^ 62) (h3 : -(2 ^ 62) ≤ hi) (h4 : hi < 2 ^ 62)
    (q : R (Itr lo (hi - lo).toNat) H) : wpAny (model X.prog X.w) X.A (pyIter (.ref s.heap.objs.size)) (PIE X pins σ tg R) E { s with heap := s.heap.push { cls := .type "range", data := .fields #[.int lo t, .int hi u, .int 1 v] }, toks := tk } := by
  refine wpAny_pyIter_range (IsRange.new ..) (small_one h1 h2 h3 h4) ?_
  have I1 : Inv X pins σ H { s with heap := s.heap.push { cls := .type "range", data := .fields #[.int lo t, .int hi u, .int 1 v] }, toks := tk } := I.kept fun b o e => Heap.get?_push_of_some _ e
  refine ⟨(s.heap.push { cls := .type "range", data := .fields #[.int lo t, .int hi u, .int 1 v] }).objs.size, [(s.heap.push { cls := .type "range", data := .fields #[.int lo t, .int hi u, .int 1 v] }).objs.size], _, _, H, rfl,
    I1.kept (t' := tk) fun b o e => Heap.get?_push_of_some _ e, turn_range _ lo (hi - lo).toNat, ?_, fun b hb => ?_, q⟩
  · have e1 : lo + ((0 : Nat) : Int) * 1 = lo := by simp
    have e2 : (((hi - lo).toNat : Nat) : Int) - ((0 : Nat) : Int) = Builtin.Range.rangeSize lo hi 1 := by rw [rangeSize_one]; split <;> omega
    show IsRangeIter _ _ (lo + ((0 : Nat) : Int) * 1) ((((hi - lo).toNat : Nat) : Int) - ((0 : Nat) : Int)) 1
    rw [e1, e2]
    exact Heap.get?_push_size _ rfl
  · have e : b = (s.heap.push { cls := .type "range", data := .fields #[.int lo t, .int hi u, .int 1 v] }).objs.size := by simpa using hb
    subst e
    exact I1.fpOk (Nat.le_refl _) (I1.hok.fresh (Nat.le_refl _))
def iRng1 (ta : TA) : TI := fun σ H R => ta σ H fun vs H1 => ∃ j : Int, vs = [.int j] ∧ -(2 ^ 62) ≤ j ∧ j < 2 ^ 62 ∧ R (Itr 0 j.toNat) H1
theorem pi_range1 {a : Expr} {ta : TA} {p pos : Pos} (hg : Gl X "range") (hm : X.mg "range" = none) (ha : PA X [a] ta) (hs : starEach [a] X.env = [(false, eval a X.env)] := by rfl) : PI X tg (.Call (.Name "range" p) [a] [] pos) (iRng1 ta) := by
  intro pins s σ H R I h
  refine Call_ (ld_blt I hg hm boot_range (PyProof.Rows.callWith_type1 (thn (ha pos pins s σ H _ I h) fun us s1 hh => ?_) hs rfl))
  obtain ⟨vs, H1, I1, r1, q1⟩ := hh
  obtain ⟨j, e, q1, q2, q⟩ := q1
  subst e
  cases r1 with
  | cons r rr =>
    cases rr
    obtain ⟨t, rfl⟩ := r
    exact call_range_1 (range_it I1 (by omega) (by omega) q1 q2 (by simpa using q))
def tFor (wi : TI) (g : TG) (tb : TS) : TS := fun D σ H => wi σ H fun J H1 => ∃ W : Nat → Nat → St → Hp → Prop, (∃ m, W 0 m σ H1) ∧ ∀ i m σ H, W i m σ H →
  (J.stop i H ∧ D.nx σ H) ∨ (J.go i H ∧ ∃ N : St → Hp → Prop, (∀ σ' H', N σ' H' → ∃ m', m' < m ∧ W (i + 1) m' σ' H') ∧ ∀ x H', J.yld i H x H' → g x σ H' fun σ2 H2 => tb { D with nx := N, ct := N, bk := D.nx } σ2 H2)
def pinsAt (fp : List Addr) (h : Heap) : List (Addr × Obj) := fp.filterMap fun b => (h.get? b).map fun o => (b, o)
theorem mem_pinsAt {fp : List Addr} {h : Heap} {b : Addr} {o : Obj} (hb : b ∈ fp) (e : h.get? b = some o) : (b, o) ∈ pinsAt fp h := List.mem_filterMap.mpr ⟨b, hb, by rw [e]; rfl⟩
theorem of_pinsAt {fp : List Addr} {h : Heap} {p : Addr × Obj} (hp : p ∈ pinsAt fp h) : p.1 ∈ fp ∧ h.get? p.1 = some p.2 := by
  obtain ⟨b, hb, e⟩ := List.mem_filterMap.mp hp
  cases q : h.get? b with
  | none => rw [q] at e; cases e
  | some o =>
    rw [q] at e
    have e' : (b, o) = p := Option.some.inj e
    subst e'
    exact ⟨hb, q⟩
theorem Inv.pinned {pins : List (Addr × Obj)} {σ : St} {H : Hp} {s : Shared} {fp : List Addr} (I : Inv X pins σ H s) (hf : ∀ b ∈ fp, FpOk X pins H b) (ho : ∀ b ∈ fp, ∃ o, s.heap.get? b = some o ∧ ∀ v, o.data ≠ .cell v) : Inv X (pins ++ pinsAt fp s.heap) σ H s :=
  I.pins_of fun p hp => (List.mem_append.mp hp).elim (fun z => I.pin p (List.mem_append_right _ z)) fun z => by
    obtain ⟨hb, e⟩ := of_pinsAt z
    obtain ⟨f0, f1, f2, _⟩ := hf p.1 hb
    obtain ⟨o, e', d⟩ := ho p.1 hb
    rw [e] at e'; cases e'
    exact ⟨e, f0, f1, f2, d⟩
theorem Inv.unpinned {pins pl : List (Addr × Obj)} {σ : St} {H : Hp} {s : Shared} (I : Inv X (pins ++ pl) σ H s) : Inv X pins σ H s := I.pins_of fun p hp => I.pin p (List.mem_append_right _ (List.mem_append_left _ hp))
theorem ps_for {iter : Expr} {body : List Stmt} {wi : TI} {g : TG} {tb : TS} {pos : Pos} (hp : PassesOwn (model X.prog X.w) X.A X.env X.xe) (hc : X.calm = true) (hi : PI X tg iter wi) (hg : PG X tg g) (hb : PSs X body tb)
    (hs : ∀ x, foldedSetIterable iter X.env x = pure x := by intro _; rfl) : PS X (.For tg iter body [] pos) (tFor wi g tb) := by
  intro pins s σ H D I h
  refine wpAny_For (thn (hi pins s σ H _ I h) fun v s1 h1 => thn h1 fun itv s2 h2 => ?_) hs
  obtain ⟨it, fp, tn, J, H2, e, I2, T, st2, f2, W, ⟨m0, w0⟩, turn⟩ := h2
  subst e
  have stat : ∀ {H' : Hp}, (∀ b ∈ fp, H' b = none) → ∀ b ∈ fp, FpOk X pins H' b := fun hn b hb => ⟨hn b hb, (f2 b hb).2⟩
  refine codeAny_forLoop_any (fun n s' => ∃ i σ' H', Inv X pins σ' H' s' ∧ tn i s'.heap ∧ (∀ b ∈ fp, H' b = none) ∧ W i n σ' H') ?_ m0 ⟨0, σ, H2, I2, st2, fun b hb => (f2 b hb).1, w0⟩
  rintro n s3 ⟨i, σ3, H3, I3, st3, fr3, w3⟩
  rcases turn i n σ3 H3 w3 with ⟨stop, qn⟩ | ⟨go, N, hN, step⟩
  · refine wpAny_passesOwn hp (thn (T.done X rfl rfl rfl hc i pins s3 σ3 H3 X.xe I3 (stat fr3) st3 stop) fun r s4 ⟨hr, I4⟩ => ?_)
    subst hr
    exact wpAny_execs_nil ⟨σ3, H3, I4, qn⟩
  · refine wpAny_passesOwn hp (thn (T.item X rfl rfl rfl hc i pins s3 σ3 H3 X.xe I3 (stat fr3) st3 go) fun r s4 ⟨u, hr, h4⟩ => ?_)
    subst hr
    refine wpAny_passesOwn hp (thn h4 fun _ s5 hh => ?_)
    obtain ⟨x, H5, I5, r5, y5, st5, fr5⟩ := hh
    have I5' := I5.pinned (stat fr5) (T.obj _ _ st5)
    refine wpAny_passesOwn hp (thn (hg _ s5 σ3 H5 x u _ I5' r5 (step x H5 y5)) fun _ s6 hh => ?_)
    obtain ⟨σ6, H6, I6, q6⟩ := hh
    refine wpAny_passesOwn hp (thn (hb _ s6 σ6 H6 _ I6 q6) fun f s7 q7 => ?_)
    have again : ∀ {σ7 : St} {H7 : Hp}, Inv X (pins ++ pinsAt fp s5.heap) σ7 H7 s7 → N σ7 H7 → ∃ m, m < n ∧ ∃ i σ' H', Inv X pins σ' H' s7 ∧ tn i s7.heap ∧ (∀ b ∈ fp, H' b = none) ∧ W i m σ' H' := fun {σ7 H7} I7 n7 => by
      obtain ⟨m', hm, w7⟩ := hN σ7 H7 n7
      refine ⟨m', hm, i + 1, σ7, H7, I7.unpinned, T.keep _ _ _ st5 fun b hb o e => (I7.pin (b, o) (List.mem_append_right _ (List.mem_append_right _ (mem_pinsAt hb e)))).1, fun b hb => ?_, w7⟩
      obtain ⟨o, e, d⟩ := T.obj _ _ st5 b hb
      exact (I7.pin (b, o) (List.mem_append_right _ (List.mem_append_right _ (mem_pinsAt hb e)))).2.1
    cases f with
    | next => obtain ⟨σ7, H7, I7, n7⟩ := q7; exact again I7 n7
    | cont => obtain ⟨σ7, H7, I7, n7⟩ := q7; exact again I7 n7
    | brk => obtain ⟨σ7, H7, I7, q7⟩ := q7; exact ⟨σ7, H7, I7.unpinned, q7⟩
    | ret v => obtain ⟨x7, σ7, H7, I7, r7, q7⟩ := q7; exact ⟨x7, σ7, H7, I7.unpinned, r7, q7⟩
end
theorem for_range {lo : Int} {n : Nat} {g : TG} {tb : TS} {D : Ends} {σ : St} {H : Hp} (Pv : Nat → St → Hp → Prop) (h0 : Pv 0 σ H)
    (hs : ∀ i σ H, i < n → Pv i σ H → g (.int (lo + i)) σ H fun σ2 H2 => tb { D with nx := Pv (i + 1), ct := Pv (i + 1), bk := D.nx } σ2 H2) (hd : ∀ σ H, Pv n σ H → D.nx σ H) :
    ∃ W : Nat → Nat → St → Hp → Prop, (∃ m, W 0 m σ H) ∧ ∀ i m σ H, W i m σ H →
      ((Itr lo n).stop i H ∧ D.nx σ H) ∨ ((Itr lo n).go i H ∧ ∃ N : St → Hp → Prop, (∀ σ' H', N σ' H' → ∃ m', m' < m ∧ W (i + 1) m' σ' H') ∧ ∀ x H', (Itr lo n).yld i H x H' → g x σ H' fun σ2 H2 => tb { D with nx := N, ct := N, bk := D.nx } σ2 H2) := by
  refine ⟨fun i m σ H => m = n - i ∧ i ≤ n ∧ Pv i σ H, ⟨n, by simp, Nat.zero_le _, h0⟩, ?_⟩
  rintro i m σ H ⟨rfl, hi, p⟩
  by_cases hlt : i < n
  · refine .inr ⟨hlt, Pv (i + 1), fun σ' H' p' => ⟨n - (i + 1), by omega, rfl, hlt, p'⟩, fun x H' y => ?_⟩
    obtain ⟨e, y⟩ := y
    subst e y
    exact hs i σ _ hlt p
  · have e : i = n := by omega
    subst e
    exact .inl ⟨Nat.le_refl _, hd σ H p⟩
end L2
namespace L2
open PySem PySem.Spec PyProof.Rows
abbrev R2 := V → V → Hp → VK → Prop
def OpR (X : Cx) (f : Value → Value → Sem Value) (r : R2) : Prop :=
  ∀ (pins : List (Addr × Obj)) (s : Shared) (σ : St) (H : Hp) (x y : V) (v u : Value) (Q : VK), Inv X pins σ H s → RelV x v → RelV y u → r x y H Q →
    wpAny (model X.prog X.w) X.A (f v u) (EP X pins σ Q) X.xe s
def CallR (X : Cx) (f : Value) (r : List V → Hp → VK → Prop) : Prop :=
  ∀ (pins : List (Addr × Obj)) (s : Shared) (σ : St) (H : Hp) (xs : List V) (us : List Value) (Q : VK), Inv X pins σ H s → Vals xs us → r xs H Q →
    wpAny (model X.prog X.w) X.A (call f us) (EP X pins σ Q) X.xe s
def TruR (X : Cx) (r : V → Hp → (Bool → Hp → Prop) → Prop) : Prop :=
  ∀ (pins : List (Addr × Obj)) (s : Shared) (σ : St) (H : Hp) (x : V) (v : Value) (Q : Bool → Hp → Prop), Inv X pins σ H s → RelV x v → r x H Q →
    wpAny (model X.prog X.w) X.A (truthy v) (TP X pins σ Q) X.xe s
def tOp (r : R2) (ta tb : TE) : TE := fun σ H Q => ta σ H fun x H1 => tb σ H1 fun y H2 => r x y H2 Q
def rI (C : Int → Int → Prop) (g : Int → Int → V) : R2 := fun x y H Q => ∃ i j, x = .int i ∧ y = .int j ∧ C i j ∧ Q (g i j) H
def rI0 (g : Int → Int → V) : R2 := fun x y H Q => ∃ i j, x = .int i ∧ y = .int j ∧ Q (g i j) H
section
variable {X : Cx} {a b c : Expr} {ta tb tc : TE} {pos : Pos}
theorem binT (ha : PE X a ta) (hb : PE X b tb) {pins : List (Addr × Obj)} {s : Shared} {σ : St} {H : Hp} {R : V → V → Hp → Prop} (I : Inv X pins σ H s)
    (h : ta σ H fun x H1 => tb σ H1 fun y H2 => R x y H2) {Q : Value → Shared → Prop} {f : Value → Value → Sem Value}
    (hf : ∀ v u s2 x y H2, Inv X pins σ H2 s2 → RelV x v → RelV y u → R x y H2 → wpAny (model X.prog X.w) X.A (f v u) Q X.xe s2) :
    wpAny (model X.prog X.w) X.A (eval a X.env) (fun v s₁ => wpAny (model X.prog X.w) X.A (eval b X.env) (fun u s₂ => wpAny (model X.prog X.w) X.A (f v u) Q X.xe s₂) X.xe s₁) X.xe s := by
  refine thn (ha pins s σ H _ I h) fun v s1 hh => ?_
  obtain ⟨x, H1, I1, r1, q1⟩ := hh
  refine thn (hb pins s1 σ H1 _ I1 q1) fun u s2 hh => ?_
  obtain ⟨y, H2, I2, r2, q2⟩ := hh
  exact hf v u s2 x y H2 I2 r1 r2 q2
theorem pe_op {op : Operator} {r : R2} (ho : OpR X (binaryOp op) r) (ha : PE X a ta) (hb : PE X b tb) : PE X (.BinOp a op b pos) (tOp r ta tb) := by
  intro pins s σ H Q I h
  exact wpAny_BinOp (binT ha hb I h fun v u s2 x y H2 I2 rx ry q => ho pins s2 σ H2 x y v u Q I2 rx ry q)
theorem opI {f : Value → Value → Sem Value} {C : Int → Int → Prop} {g : Int → Int → Int}
    (rule : ∀ (i j : Int) (t u : Tok) (s : Shared) (Q : Value → Shared → Prop) (E : Value → Shared → Prop), C i j → Q (.int (g i j) s.toks) { s with toks := s.toks + 1 } → wpAny (model X.prog X.w) X.A (f (.int i t) (.int j u)) Q E s) :
    OpR X f (rI C fun i j => .int (g i j)) := by
  intro pins s σ H x y v u Q I rx ry h
  obtain ⟨i, j, rfl, rfl, hc, q⟩ := h
  obtain ⟨t, rfl⟩ := rx
  obtain ⟨t', rfl⟩ := ry
  exact rule i j t t' s _ _ hc ⟨.int (g i j), H, I.tok _, ⟨_, rfl⟩, q⟩
theorem opI0 {f : Value → Value → Sem Value} {g : Int → Int → Int}
    (rule : ∀ (i j : Int) (t u : Tok) (s : Shared) (Q : Value → Shared → Prop) (E : Value → Shared → Prop), Q (.int (g i j) s.toks) { s with toks := s.toks + 1 } → wpAny (model X.prog X.w) X.A (f (.int i t) (.int j u)) Q E s) :
    OpR X f (rI0 fun i j => .int (g i j)) := by
  intro pins s σ H x y v u Q I rx ry h
  obtain ⟨i, j, rfl, rfl, q⟩ := h
  obtain ⟨t, rfl⟩ := rx
  obtain ⟨t', rfl⟩ := ry
  exact rule i j t t' s _ _ ⟨.int (g i j), H, I.tok _, ⟨_, rfl⟩, q⟩
theorem opB0 {f : Value → Value → Sem Value} {g : Int → Int → Bool}
    (rule : ∀ (i j : Int) (t u : Tok) (s : Shared) (Q : Value → Shared → Prop) (E : Value → Shared → Prop), Q (.bool (g i j)) s → wpAny (model X.prog X.w) X.A (f (.int i t) (.int j u)) Q E s) :
    OpR X f (rI0 fun i j => .bl (g i j)) := by
  intro pins s σ H x y v u Q I rx ry h
  obtain ⟨i, j, rfl, rfl, q⟩ := h
  obtain ⟨t, rfl⟩ := rx
  obtain ⟨t', rfl⟩ := ry
  exact rule i j t t' s _ _ ⟨.bl (g i j), H, I, rfl, q⟩
def CPow (i j : Int) : Prop := 0 ≤ j ∧ j ≤ 1000000 ∧ i.natAbs < 2 ^ 64
def CMul (i j : Int) : Prop := (-(2 ^ 64) < i ∧ i < 2 ^ 64) ∨ (-(2 ^ 64) < j ∧ j < 2 ^ 64)
theorem CMul.ok {i j : Int} (h : CMul i j) : IntMulOk i j := by
  rcases h with ⟨h1, h2⟩ | ⟨h1, h2⟩
  · exact .of_left (intBits_le_64 h1 h2)
  · exact .of_right (intBits_le_64 h1 h2)
theorem op_add : OpR X (binaryOp .Add) (rI0 fun i j => .int (i + j)) := opI0 fun _ _ _ _ _ _ _ q => add_int q
theorem op_sub : OpR X (binaryOp .Sub) (rI0 fun i j => .int (i - j)) := opI0 fun _ _ _ _ _ _ _ q => sub_int q
theorem op_mul : OpR X (binaryOp .Mult) (rI CMul fun i j => .int (i * j)) := opI fun _ _ _ _ _ _ _ hc q => mul_int q hc.ok
theorem op_mod : OpR X (binaryOp .Mod) (rI (fun _ j => 0 < j) fun i j => .int (i % j)) := opI fun i j _ _ _ _ _ hc q => by
  have h1 : (0 : Int) < j := hc
  exact mod_int' (by omega) (by rw [Int.fmod_eq_emod_of_nonneg i (by omega)]; exact q)
theorem op_pow : OpR X (binaryOp .Pow) (rI CPow fun i j => .int (i ^ j.toNat)) := opI fun _ _ _ _ _ _ _ hc q => pow_int_small hc.1 hc.2.1 hc.2.2 q
end
section
variable {X : Cx} {a b c : Expr} {ta tb tc : TE} {pos : Pos}
theorem fin_bl {pins : List (Addr × Obj)} {σ : St} {H : Hp} {s : Shared} {Q : VK} {k k' : Bool} (I : Inv X pins σ H s) (q : Q (.bl k) H) (e : k = k') : EP X pins σ Q (.bool k') s := by
  subst e
  exact ⟨.bl k, H, I, rfl, q⟩
theorem op_lt : OpR X (compareOp .Lt) (rI0 fun i j => .bl (decide (i < j))) := opB0 fun _ _ _ _ _ _ _ q => lt_int q
theorem op_in_str : OpR X (compareOp .In) (fun x y H Q => ∃ i j, x = .str i ∧ y = .str j ∧ Q (.bl (!(Builtin.Str.occurrences j i 0 j.length 1).isEmpty)) H) := by
  intro pins s σ H x y v u Q I rx ry h
  obtain ⟨i, j, rfl, rfl, q⟩ := h
  obtain ⟨t, rfl⟩ := rx
  obtain ⟨t', rfl⟩ := ry
  exact in_str (fin_bl I q rfl)
theorem OpR.or {f : Value → Value → Sem Value} {r r' : R2} (h : OpR X f r) (h' : OpR X f r') : OpR X f (fun x y H Q => r x y H Q ∨ r' x y H Q) := by
  intro pins s σ H x y v u Q I rx ry q
  rcases q with q | q
  · exact h pins s σ H x y v u Q I rx ry q
  · exact h' pins s σ H x y v u Q I rx ry q
theorem nomark (b : Expr) {op : CmpOp} (h : op ≠ .In := by decide) (h2 : op ≠ .NotIn := by decide) : behindInMarks op b = false := by
  have e1 : (op == CmpOp.In) = false := by cases op <;> first | rfl | exact absurd rfl h
  have e2 : (op == CmpOp.NotIn) = false := by cases op <;> first | rfl | exact absurd rfl h2
  cases b <;> simp [behindInMarks, e1, e2]
theorem pe_cmpR {op : CmpOp} {r : R2} (ho : OpR X (compareOp op) r) (ha : PE X a ta) (hb : PE X b tb) (hm : behindInMarks op b = false) : PE X (.Compare a [op] [b] pos) (tOp r ta tb) := by
  intro pins s σ H Q I h
  exact wpAny_Compare1 (binT ha hb I h fun v u s2 x y H2 I2 rx ry q => ho pins s2 σ H2 x y v u Q I2 rx ry q) hm
def tTest (t : TE) : TT := fun σ H Q => t σ H fun x H' => ∃ k, x = .bl k ∧ Q k H'
theorem pt_cmpR {op : CmpOp} {r : R2} (ho : OpR X (compareOp op) r) (ha : PE X a ta) (hb : PE X b tb) (hm : behindInMarks op b = false) : PT X (.Compare a [op] [b] pos) (tTest (tOp r ta tb)) := by
  intro pins s σ H Q I h
  refine wpAny_isTrue_Compare1 (thn (ha pins s σ H _ I h) fun v s1 ⟨x, H1, I1, r1, q1⟩ => thn (hb pins s1 σ H1 _ I1 q1) fun u s2 ⟨y, H2, I2, r2, q2⟩ =>
    thn (ho pins s2 σ H2 x y v u _ I2 r1 r2 q2) fun c s3 ⟨z, H3, I3, r3, k, e, q3⟩ => ?_) hm
  subst e
  cases r3
  exact wpAny_truthy_bool ⟨H3, I3, q3⟩
def TruV (K : PySem.W.Frag) (x : V) (H : Hp) (k : Bool) : Prop :=
  match x with
  | .non => k = false
  | .bl b => k = b
  | .int i => k = (i != 0)
  | .str y => y.length ≤ sizeLine ∧ k = ((y.length : Int) != 0)
  | .byt y => y.size ≤ sizeLine ∧ k = ((y.size : Int) != 0)
  | .ref p => (∃ xs, SqL K H p xs ∧ k = !xs.isEmpty) ∨ (∃ xs, SqT K H p xs ∧ k = !xs.isEmpty) ∨ ∃ kvs, H p = some (.dK kvs) ∧ k = !kvs.isEmpty
  | _ => False
theorem isEmpty_kv {κ : Type} {kvs : List (κ × V)} {vs : List (κ × Value)} (r : KV kvs vs) : (!vs.isEmpty) = !kvs.isEmpty := by
  cases r <;> rfl
theorem isEmpty_of {xs : List V} {its : List Value} (r : Vals xs its) : (!its.toArray.isEmpty) = !xs.isEmpty := by
  cases r <;> simp
theorem line63 : (sizeLine : Nat) < 2 ^ 63 := by rw [sizeLine_eq]; decide
theorem tru_ok : TruR X (fun x H Q => ∃ k, TruV X.K x H k ∧ Q k H) := by
  intro pins s σ H x v Q I rx h
  obtain ⟨k, e, q⟩ := h
  have hl := line63
  have hs : sizeLine = 16777216 := sizeLine_eq
  cases x with
  | non =>
    cases rx
    have e' : k = false := e
    subst e'
    exact truthy_none ⟨H, I, q⟩
  | bl b =>
    cases rx
    have e' : k = b := e
    subst e'
    exact wpAny_truthy_bool ⟨H, I, q⟩
  | int i =>
    obtain ⟨t, rfl⟩ := rx
    have e' : k = (i != 0) := e
    subst e'
    exact PySem.P.truthy_int ⟨H, I, q⟩
  | str y =>
    obtain ⟨t, rfl⟩ := rx
    obtain ⟨hy, e'⟩ : y.length ≤ sizeLine ∧ k = ((y.length : Int) != 0) := e
    subst e'
    exact PySem.P.truthy_str (by omega) ⟨H, I.tok _, q⟩
  | byt y =>
    obtain ⟨t, rfl⟩ := rx
    obtain ⟨hy, e'⟩ : y.size ≤ sizeLine ∧ k = ((y.size : Int) != 0) := e
    subst e'
    exact PySem.W.truthy_bytes (by omega) ⟨H, I.tok _, q⟩
  | ref p =>
    cases rx
    have e' : (∃ xs, SqL X.K H p xs ∧ k = !xs.isEmpty) ∨ (∃ xs, SqT X.K H p xs ∧ k = !xs.isEmpty) ∨ ∃ kvs, H p = some (.dK kvs) ∧ k = !kvs.isEmpty := e
    rcases e' with ⟨xs, hx, e'⟩ | ⟨xs, hx, e'⟩ | ⟨kvs, hx, e'⟩
    · subst e'
      obtain ⟨its, r, pl, hz⟩ := I.list hx
      have hlen := r.length
      exact wpAny_truthy_list pl.isList (by simp only [List.size_toArray]; omega) ⟨H, I.tok _, by rw [isEmpty_of r]; exact q⟩
    · subst e'
      obtain ⟨its, r, pl, hz⟩ := I.tuple hx
      have hlen := r.length
      exact truthy_tuple pl (by simp only [List.size_toArray]; omega) ⟨H, I.tok _, by rw [isEmpty_of r]; exact q⟩
    · subst e'
      obtain ⟨hz, hS, vs, r, m⟩ : kvs.length ≤ sizeLine ∧ (p == sysModules) = false ∧ ∃ vs, KV kvs vs ∧ s.heap.DictOf (mixKind X.prog X.w) p vs := I.hok p _ hx
      have hlen : kvs.length = vs.length := Paired.length r
      exact wpAny_truthy_dict hS m (by omega) ⟨H, I.tok _, by rw [isEmpty_kv r]; exact q⟩
  | _ => exact (show False from e).elim
theorem pt_truth (ha : PE X a ta) (he : ∀ whole, isTrue a X.env whole = (do let v ← whole; standAt a.pos; holding [v] (truthy v))) :
    PT X a (fun σ H Q => ta σ H fun x H' => ∃ k, TruV X.K x H' k ∧ Q k H') := by
  intro pins s σ H Q I h
  exact isTrue_plain (thn (ha pins s σ H _ I h) fun v s1 ⟨x, H1, I1, r1, q1⟩ => tru_ok pins s1 σ H1 x v Q I1 r1 q1) (he _)
theorem op_add_str : OpR X (binaryOp .Add) (fun x y H Q => ∃ i j, x = .str i ∧ y = .str j ∧ i.length + j.length ≤ sizeLine ∧ Q (.str (i ++ j)) H) := by
  intro pins s σ H x y v u Q I rx ry h
  obtain ⟨i, j, rfl, rfl, hz, q⟩ := h
  obtain ⟨t, rfl⟩ := rx
  obtain ⟨t', rfl⟩ := ry
  exact add_str (fun t' tk => ⟨.str (i ++ j), H, I.tok _, ⟨_, rfl⟩, q⟩) hz
theorem vals1 {x : V} {us : List Value} (r : Vals [x] us) : ∃ u, us = [u] ∧ RelV x u := by
  cases r with
  | cons r1 r2 => cases r2; exact ⟨_, rfl, r1⟩
theorem vals2 {x y : V} {us : List Value} (r : Vals [x, y] us) : ∃ u w', us = [u, w'] ∧ RelV x u ∧ RelV y w' := by
  cases r with
  | cons r1 r2 =>
    cases r2 with
    | cons r3 r4 => cases r4; exact ⟨_, _, rfl, r1, r3⟩
end
end L2
namespace L2
open PySem PySem.Spec PyProof.Rows
structure ObjM (h : Heap) (x dx C : Addr) (mA : Str → Option Value) : Prop where
  obj : h.get? x = some (PySem.W.instObj C dx)
  ns : h.Ns1 dx mA
  ne : dx ≠ x
theorem lookIn_ns {h : Heap} {dx : Addr} {mA : Str → Option Value} (n : h.Ns1 dx mA) : ∃ od, h.get? dx = some od ∧ ∀ name, PySem.W.lookIn name od = some (mA name) := by
  obtain ⟨o, es, ep, ho, hd, hk, _, hm⟩ := n
  refine ⟨o, ho, fun name => ?_⟩
  have e := hm name
  unfold nsFind findBy at e
  rw [← Array.find?_toList] at e
  unfold PySem.W.lookIn
  rw [hd]
  dsimp only
  split
  · rename_i y q
    rw [q] at e
    exact congrArg some e
  · rename_i q
    rw [q] at e
    have a : es.toList.any (·.refKey) = false := by
      rw [List.any_eq_false]
      intro y hy
      obtain ⟨z, t, hkey⟩ := hk y (Array.mem_toList_iff.mp hy)
      simp [DictEntry.refKey, hkey]
    have a' : ¬ es.toList.any (·.refKey) = true := by rw [a]; exact Bool.false_ne_true
    rw [if_neg a']
    exact congrArg some e
section
variable {prog : Program} {w : World} {A : Around} {E : Value → Shared → Prop} {s : Shared} {K : PySem.W.Frag} {x dx C f : Addr} {mA : Str → Option Value} {name : Str} {v : Value}
end
theorem RelO.some_of {v : V} {o : Option Value} (r : RelO (some v) o) : ∃ u, o = some u ∧ RelV v u := by
  cases o with
  | none => exact (show False from r).elim
  | some u => exact ⟨u, rfl, r⟩
section
variable {P : Program} {w : World} {H H' : Hp} {h h' : Heap} {a C dx : Addr} {fs fs' : List (Str × V)}
end
structure Cls (K : PySem.W.Frag) (C : Addr) : Prop where
  pg : PySem.W.plainGet K C Str.empty = true
  hd : PySem.W.hasDictIn K C = true
  po : PySem.W.plainOver K C = true
  sa : PySem.W.findIn K (.ref C) "__setattr__" = some (some (.builtin "object.__setattr__"))
theorem Cls.get {K : PySem.W.Frag} {C : Addr} (c : Cls K C) (f : Str) : PySem.W.plainGet K C f = true := c.pg
structure Con (K : PySem.W.Frag) (C : Addr) (f : Str) (v : V) (u : Value) : Prop where
  at_ : PySem.W.findIn K (.ref C) f = some (some u)
  rel : RelV v u
  get : PySem.W.specialIn K u "__get__" = some none
  cp : PySem.W.copiedNames.contains f = false
structure Meth (K : PySem.W.Frag) (C : Addr) (m : Str) (f : Addr) : Prop where
  at_ : PySem.W.findIn K (.ref C) m = some (some (.ref f))
  fn : PySem.W.isFn K (.ref f) = true
  kp : PySem.W.keepIn K (.ref f) = true
section
variable {X : Cx} {pins : List (Addr × Obj)} {σ : St} {H : Hp} {s : Shared} {a C dx : Addr} {fs : List (Str × V)} {f : Str} {v : V} {A : Around} {E : Value → Shared → Prop}
theorem Inv.made (I : Inv X pins σ H s) : Inv X pins σ (upd (upd H s.heap.objs.size (.own (s.heap.objs.size + 1))) (s.heap.objs.size + 1) (.ins C s.heap.objs.size []))
    { s with heap := (s.heap.push PySem.W.emptyDict).push (PySem.W.instObj C s.heap.objs.size) } := by
  have e1 : (s.heap.push PySem.W.emptyDict).get? s.heap.objs.size = some PySem.W.emptyDict := Heap.get?_push_size s.heap rfl
  have e2 : ((s.heap.push PySem.W.emptyDict).push (PySem.W.instObj C s.heap.objs.size)).get? (s.heap.objs.size + 1) = some (PySem.W.instObj C s.heap.objs.size) := by
    have := Heap.get?_push_size (s.heap.push PySem.W.emptyDict) (o := PySem.W.instObj C s.heap.objs.size) rfl
    rwa [Heap.size_push] at this
  have e3 : (s.heap.push PySem.W.emptyDict).Ns s.heap.objs.size (fun _ => none) := ⟨PySem.W.emptyDict, #[], _, e1, rfl, (fun e he => absurd he (by simp)), fun _ => rfl⟩
  have I1 := I.laid (a := s.heap.objs.size) (o := .own (s.heap.objs.size + 1)) (h' := s.heap.push PySem.W.emptyDict) (t' := s.toks) (fun b u q => Heap.get?_push_of_some _ q) (Nat.le_refl _) ⟨_, e1⟩
  refine I1.laid (a := s.heap.objs.size + 1) (o := .ins C s.heap.objs.size []) (t' := s.toks) (fun b u q => Heap.get?_push_of_some _ q) (Nat.le_of_eq (Heap.size_push _ _)) ?_
  have ne : s.heap.objs.size ≠ s.heap.objs.size + 1 := Nat.ne_of_lt (Nat.lt_succ_self _)
  refine ⟨by rw [upd_ne ne, upd_same], Nat.zero_le _, ne, e2, fun _ => none, (Heap.Ns1.of_empty e3).at fun o q => Heap.get?_push_of_some _ q, fun _ => True.intro, fun y hy => absurd rfl hy⟩
theorem attr_of {prog : Program} {w : World} {env : Env} {e : Expr} {f : Str} {pos : Pos} {s : Shared} {Q : Value → Shared → Prop} (hb : attributeBase e f env (eval e env) = eval e env)
    (h : wpAny (model prog w) A (eval e env) (fun o s₁ => wpAny (model prog w) A (getAttr o f true) Q E s₁) E s) : wpAny (model prog w) A (eval (.Attribute e f pos) env) Q E s :=
  Attribute_any_ h (by rw [arm_eval_Attribute, hb])
end
section
variable {X : Cx} {o e value : Expr} {f : Str} {pos pos' tpos : Pos} {ta tv : TE}
end
section
variable {X : Cx} {pins : List (Addr × Obj)} {σ : St} {H : Hp} {s : Shared} {A : Around} {E : Value → Shared → Prop} {Q : Value → Shared → Prop} {c : Value} {b : Bool}
inductive TyOf (K : PySem.W.Frag) (H : Hp) : V → Value → Prop where
  | non : TyOf K H .non (.type "NoneType")
  | bl (x : Bool) : TyOf K H (.bl x) (.type "bool")
  | int (i : Int) : TyOf K H (.int i) (.type "int")
  | str (x : Str) : TyOf K H (.str x) (.type "str")
  | flt (x : UInt64) : TyOf K H (.flt x) (.type "float")
  | lst {a : Addr} {xs : List V} (e : H a = some (.lst xs)) : TyOf K H (.ref a) (.type "list")
  | frz {a : Addr} {o : Obj} {xs : List V} (e : H a = some (.frz o (.lst xs))) : TyOf K H (.ref a) (.type "list")
  | tup {a : Addr} {xs : List V} (e : H a = some (.tup xs)) : TyOf K H (.ref a) (.type "tuple")
  | dK {a : Addr} {kvs : List (Key × V)} (e : H a = some (.dK kvs)) : TyOf K H (.ref a) (.type "dict")
  | dT {a : Addr} {kvs : List (List Key × V)} (e : H a = some (.dT kvs)) : TyOf K H (.ref a) (.type "dict")
  | ins {a C dx : Addr} {fs : List (Str × V)} (e : H a = some (.ins C dx fs)) (cl : Cls K C) (ha : PySem.W.findIn K (.ref C) "__class__" = some (some (.builtin "object.__class__")))
      (hn : PySem.W.specialIn K (.builtin "object.__class__") "__get__" = some (some (.builtin "getset_descriptor.__get__"))) (htk : PySem.W.takesIn K (.builtin "object.__class__") = some true)
      (hm : PySem.W.mroIn K C (.type "object") = some true) : TyOf K H (.ref a) (.ref C)
end
end L2
namespace L2
open PySem PySem.Spec PyProof.Rows
structure Room (k : Nat) (A : Around) : Prop where
  hd : A.handled = none
  dp : A.depth + 3 * k + 5 < recursionLimit
  un : A.units + 16 * k + 200 < cLine
theorem Room.mono {j k : Nat} {A : Around} (r : Room k A) (h : j ≤ k) : Room j A := ⟨r.hd, by have := r.dp; omega, by have := r.un; omega⟩
theorem Room.deeper {k : Nat} {A : Around} (r : Room (k + 1) A) (env : Env) : Room k (A.deeper env) :=
  ⟨r.hd, by have := r.dp; show A.depth + 1 + 3 * k + 5 < _; omega, by have := r.un; show A.units + 3 + 16 * k + 200 < _; omega⟩
theorem Room.in1 {k : Nat} {A : Around} (r : Room (k + 1) A) : Room k A.in1 :=
  ⟨r.hd, by have := r.dp; show A.depth + 3 * k + 5 < _; omega, by have := r.un; show A.units + 1 + 16 * k + 200 < _; omega⟩
theorem make_depth {A : Around} {C : Addr} {us : List Value} {kw : List (Str × Value)} : (A.under (.builtin "type.__call__" ⟨.ref C :: us, kw⟩)).depth = A.depth + 1 := by
  first | rfl | simp [Around.under, Code.weight, Code.isCreation, Code.isGuard, Code.isCaller, Code.frames, Code.isFrame, guardIds]
theorem make_units {A : Around} {C : Addr} {us : List Value} {kw : List (Str × Value)} : (A.under (.builtin "type.__call__" ⟨.ref C :: us, kw⟩)).units = A.units + 1 := by
  first | rfl | simp [Around.under, Code.cUnits, Code.frames, Code.isFrame]
theorem Room.make {k : Nat} {A : Around} (r : Room (k + 1) A) (C : Addr) (us : List Value) (kw : List (Str × Value)) : Room k (A.under (.builtin "type.__call__" ⟨.ref C :: us, kw⟩)) :=
  ⟨r.hd, by have := r.dp; rw [make_depth]; omega, by have := r.un; rw [make_units]; omega⟩
theorem Room.depth {k : Nat} {A : Around} (r : Room k A) : A.depth < recursionLimit := by have := r.dp; omega
theorem Room.units {k : Nat} {A : Around} (r : Room k A) : A.units + 64 < cLine := by have := r.un; omega
def tNil : TA := fun _ H Q => Q [] H
def tCons (ta : TE) (tr : TA) : TA := fun σ H Q => ta σ H fun x H1 => tr σ H1 fun xs H2 => Q (x :: xs) H2
section
variable {X : Cx} {e : Expr} {es : List Expr} {te : TE} {t : TA} {pos : Pos}
theorem pa_nil : PA X [] tNil := fun _ _ _ _ H Q I h => Calls.spliced_nil ⟨[], H, I, .nil, h⟩
theorem pa_cons (ha : PE X e te) (hr : PA X es t) (hs : starEach (e :: es) X.env = (false, eval e X.env) :: starEach es X.env := by rfl) : PA X (e :: es) (tCons te t) := by
  intro pos pins s σ H Q I h
  rw [hs]
  show wpAny _ _ (spliced ((false, eval e X.env) :: backTo pos (starEach es X.env))) _ _ s
  refine Calls.spliced_cons (thn (ha pins s σ H _ I h) fun u s1 hh => ?_)
  obtain ⟨x, H1, I1, r1, q1⟩ := hh
  exact thn (hr pos pins s1 σ H1 _ I1 q1) fun us s2 ⟨xs, H2, I2, r2, q2⟩ => ⟨x :: xs, H2, I2, .cons r1 r2, q2⟩
def tLst (t : TA) : TE := fun σ H Q => t σ H fun xs H1 => xs.length ≤ sizeLine ∧ ∀ p, H1 p = none → Q (.ref p) (upd H1 p (.lst xs))
theorem pe_lst (h : PA X es t) : PE X (.List es pos) (tLst t) := by
  intro pins s σ H Q I hq
  refine wpAny_List_spliced (thn (h pos pins s σ H _ I hq) fun us s1 ⟨xs, H1, I1, r, z, q⟩ => ⟨by rw [← r.length]; exact z, ?_⟩)
  have hf : H1 s1.heap.objs.size = none := I1.hok.fresh (Nat.le_refl _)
  refine ⟨.ref s1.heap.objs.size, upd H1 s1.heap.objs.size (.lst xs), I1.laid (t' := s1.toks) (fun b u e => Heap.get?_push_of_some _ e) (Nat.le_refl _) ?_, rfl, q _ hf⟩
  exact ⟨z, us, 0, r, Heap.get?_push_size _ rfl⟩
end
abbrev Sp := List V → Hp → VK → XK → Prop
abbrev CXT := List Env → Hp → Shared → XK → Value → Shared → Prop
structure Env0 (P : Program) (w : World) (K : PySem.W.Frag) (mg : Str → Option Value) (base : Heap) (A : Around) (outer : List Env) (s : Shared) (H : Hp) : Prop where
  frames : A.frames = some outer
  mod : Mod K mg base
  bs : ∀ b o, base.get? b = some o → s.heap.get? b = some o ∧ H b = none
  bsz : base.objs.size ≤ s.heap.objs.size
  funs : s.heap.FunFrames base outer
  frf : ∀ b ∈ frs outer, H b = none
  hok : HOk P w H s.heap
  bare : AllBare s.gens
def CE (outer : List Env) (P : Program) (w : World) (H : Hp) (s : Shared) (Q : VK) (u : Value) (s' : Shared) : Prop :=
  ∃ v H', s'.os = s.os ∧ AllBare s'.gens ∧ Un (frs outer) [] H H' s.heap s'.heap ∧ HOk P w H' s'.heap ∧ RelV v u ∧ Q v H'
def CR (CX : CXT) (outer : List Env) (P : Program) (w : World) (H : Hp) (s : Shared) (Q : VK) (E : XK) (r : Result) (s' : Shared) : Prop :=
  match r with
  | .ok (.ret u) => CE outer P w H s Q u s'
  | .ok _ => False
  | .error e => CX outer H s E e s'
structure FnOk (P : Program) (w : World) (K : PySem.W.Frag) (mg : Str → Option Value) (base : Heap) (CX : CXT) (k : Nat) (f : Addr) (fd : FuncData) (ps : List Str) (sp : Sp) : Prop where
  len : ∀ vs H Q E, sp vs H Q E → vs.length = ps.length
  run : ∀ (A : Around) (outer : List Env) (s : Shared) (H : Hp) (args : Args) (us : List Value) (vs : List V) (Q : VK) (E : XK), Room k A → Env0 P w K mg base A outer s H → BindsTo s fd args (ps.zip us) → Vals vs us → sp vs H Q E →
    codeAny (model P w) A (.call (.ref f) args) (CR CX outer P w H s Q E) s
theorem FnOk.mono {P : Program} {w : World} {K : PySem.W.Frag} {mg : Str → Option Value} {base : Heap} {CX : CXT} {j k : Nat} {f : Addr} {fd : FuncData} {ps : List Str} {sp : Sp} (F : FnOk P w K mg base CX j f fd ps sp) (h : j ≤ k) :
    FnOk P w K mg base CX k f fd ps sp := ⟨F.len, fun A outer s H args us vs Q E hr => F.run A outer s H args us vs Q E (hr.mono h)⟩
theorem FnOk.imp {P : Program} {w : World} {K : PySem.W.Frag} {mg : Str → Option Value} {base : Heap} {CX : CXT} {k : Nat} {f : Addr} {fd : FuncData} {ps : List Str} {sp sp' : Sp} (F : FnOk P w K mg base CX k f fd ps sp)
    (h : ∀ vs H Q E, sp' vs H Q E → sp vs H Q E) : FnOk P w K mg base CX k f fd ps sp' :=
  ⟨fun vs H Q E q => F.len vs H Q E (h _ _ _ _ q), fun A outer s H args us vs Q E hr he hb hv hs => F.run A outer s H args us vs Q E hr he hb hv (h _ _ _ _ hs)⟩
theorem Env0.make {P : Program} {w : World} {K : PySem.W.Frag} {mg : Str → Option Value} {base : Heap} {A : Around} {outer : List Env} {s : Shared} {H : Hp} (e : Env0 P w K mg base A outer s H) (C : Addr) (us : List Value) (kw : List (Str × Value)) :
    Env0 P w K mg base (A.under (.builtin "type.__call__" ⟨.ref C :: us, kw⟩)) outer s H := ⟨by first | exact e.frames | (simpa [Around.under, Code.envs, Code.isFrame, pushEnvs] using e.frames), e.mod, e.bs, e.bsz, e.funs, e.frf, e.hok, e.bare⟩
theorem Env0.in1 {P : Program} {w : World} {K : PySem.W.Frag} {mg : Str → Option Value} {base : Heap} {A : Around} {outer : List Env} {s : Shared} {H : Hp} (e : Env0 P w K mg base A outer s H) :
    Env0 P w K mg base A.in1 outer s H := ⟨e.frames, e.mod, e.bs, e.bsz, e.funs, e.frf, e.hok, e.bare⟩
section
variable {X : Cx} {pins : List (Addr × Obj)} {σ : St} {H : Hp} {s s' : Shared}
theorem Inv.env0 (I : Inv X pins σ H s) : Env0 X.prog X.w X.K X.mg X.base X.A X.stack s H :=
  ⟨I.ok.frames, I.ok.mod, I.bs, Nat.le_trans I.ok.bsz I.sz, I.stack, I.stkFree, I.hok, I.bare⟩
theorem Inv.after {Q : VK} {u : Value} (I : Inv X pins σ H s) (h : CE X.stack X.prog X.w H s Q u s') : EP X pins σ Q u s' := by
  obtain ⟨v, H', os, bare, un, hok, r, q⟩ := h
  obtain ⟨hh, g, d, t, os'⟩ := s'
  obtain rfl : os' = s.os := os
  exact ⟨v, H', I.call (h' := hh) (g' := g) (d' := d) (t' := t) (ch := []) un hok bare (fun b z => absurd z (by simp)), r, q⟩
end
def tCall (sp : Sp) (dvs : List V) (E : XK) (t : TA) : TE := fun σ H Q => t σ H fun vs H1 => sp (vs ++ dvs) H1 Q E
def Binds (K : PySem.W.Frag) (fd : FuncData) (ps : List Str) (ds : List Value) : Prop :=
  ∀ (s : Shared) (us : List Value), K.In s.heap → (us ++ ds).length = ps.length → BindsTo s fd ⟨us, []⟩ (ps.zip (us ++ ds))
theorem Binds.all {K : PySem.W.Frag} {fd : FuncData} {ps : List Str} (h : ∀ us : List Value, us.length = ps.length → bindArgs fd ⟨us, []⟩ = pure (ps.zip us)) : Binds K fd ps [] := fun s us _ hl => by
  rw [List.append_nil] at hl ⊢
  exact .of_eq (h us hl)
def Passes (CX : CXT) (X : Cx) (E : XK) : Prop := ∀ (pins : List (Addr × Obj)) (σ : St) (H : Hp) (s : Shared) (e : Value) (s' : Shared), Inv X pins σ H s → CX X.stack H s E e s' → X.xe e s'
section
variable {X : Cx} {CX : CXT} {k : Nat} {f C : Addr} {fd : FuncData} {ps : List Str} {sp : Sp} {dvs : List V} {ds : List Value} {E : XK} {x m : Str} {p pos apos : Pos} {e o : Expr} {es : List Expr} {ta : TE} {t : TA}
theorem run_fn {pins : List (Addr × Obj)} {σ : St} {H : Hp} {s : Shared} {Q : VK} {us : List Value} {vs : List V} (F : FnOk X.prog X.w X.K X.mg X.base CX k f fd ps sp) (hr : Room k X.A) (hb : Binds X.K fd ps ds) (hd : Vals dvs ds) (hx : Passes CX X E)
    (I : Inv X pins σ H s) (r : Vals vs us) (h : sp (vs ++ dvs) H Q E) : wpAny (model X.prog X.w) X.A (call (.ref f) us) (EP X pins σ Q) X.xe s := by
  have r2 : Vals (vs ++ dvs) (us ++ ds) := r.append hd
  have hl : (us ++ ds).length = ps.length := by rw [← r2.length]; exact F.len _ _ _ _ h
  refine wpAny_call (codeAny_mono (F.run X.A X.stack s H ⟨us, []⟩ (us ++ ds) (vs ++ dvs) Q E hr I.env0 (hb s us I.kIn hl) r2 h) fun r s' hq => ?_)
  cases r with
  | error e => exact hx pins σ H s e s' I hq
  | ok fl =>
    cases fl with
    | ret u => exact I.after hq
    | next => exact False.elim hq
    | brk => exact False.elim hq
    | cont => exact False.elim hq
theorem pe_call (F : FnOk X.prog X.w X.K X.mg X.base CX k f fd ps sp) (hr : Room k X.A) (hg : Gl X x) (hm : X.mg x = some (.ref f)) (hk : PySem.W.keepIn X.K (.ref f) = true) (hb : Binds X.K fd ps ds) (hd : Vals dvs ds) (hx : Passes CX X E)
    (ha : PA X (e :: es) t) (hdb : (x == ("__debug__" : Str)) = false := by decide) (he : starEach (e :: es) X.env = (false, eval e X.env) :: starEach es X.env := by rfl) (hpl : (backTo pos (starEach es X.env)).any (·.1) = false := by rfl) :
    PE X (.Call (.Name x p) (e :: es) [] pos) (tCall sp dvs E t) := by
  intro pins s σ H Q I h
  refine wpAny_Call_Name_kw (ld_glob I hg hm ?_ hdb)
  refine PySem.W.callWith_K (h₀ := X.base) I.ok.mod.kin hk (thn (ha pos pins s σ H _ I h) fun us s1 ⟨vs, H1, I1, r, q⟩ => ⟨I1.kIn, ?_⟩) he hpl
  exact run_fn F hr hb hd hx I1 r q
structure Mk (K : PySem.W.Frag) (C f : Addr) : Prop where
  makes : PySem.W.makesIn K C = true
  init : PySem.W.findIn K (.ref C) "__init__" = some (some (.ref f))
  fn : PySem.W.isFn K (.ref f) = true
  kp : PySem.W.keepIn K (.ref C) = true
end
section
variable {X : Cx} {CX : CXT} {k : Nat} {f C : Addr} {fd : FuncData} {ps ks : List Str} {sp : Sp} {E : XK} {x m : Str} {p pos apos kpos : Pos} {e o : Expr} {es : List Expr} {kws : List Keyword} {te ta : TE} {t tk : TA} {nm : Option Str}
structure KBinds (K : PySem.W.Frag) (fd : FuncData) (ps ks : List Str) (g : List Value → List Value → List Value) (gV : List V → List V → List V) : Prop where
  to : ∀ (s : Shared) (us ws : List Value), K.In s.heap → (g us ws).length = ps.length → BindsTo s fd ⟨us, ks.zip ws⟩ (ps.zip (g us ws))
  rel : ∀ {vs : List V} {us : List Value} {zs : List V} {ws : List Value}, Vals vs us → Vals zs ws → Vals (gV vs zs) (g us ws)
variable {g : List Value → List Value → List Value} {gV : List V → List V → List V}
end
structure FnScope (N P : List Str) (sc : Scope) : Prop where
  kind : sc.kind = .function
  co : sc.isCoroutine = false
  gen : sc.isGenerator = false
  nd : N.Nodup
  pre : N.take P.length = P
  par : ∀ x ∈ P, sc.names.lookup x = some .local ∨ sc.names.lookup x = some .cell
  nofree : ∀ y ∈ sc.names, y.2 ≠ .free
theorem bindL_out {kindOf : Str → Option NameKind} {x : Str} : ∀ {binds : List (Str × Value)} {m : Str → Option Value}, (∀ v, (x, v) ∉ binds) → bindL kindOf binds m x = m x
  | [], _, _ => rfl
  | (n, v) :: r, m, h => by
    unfold bindL
    rw [bindL_out fun w hw => h w (List.mem_cons_of_mem _ hw)]
    split
    · have : x ≠ n := by rintro rfl; exact h v List.mem_cons_self
      simp [this]
    · rfl
theorem bindC_out {kindOf : Str → Option NameKind} {x : Str} : ∀ {binds : List (Str × Value)} {m : Str → Option Value}, (∀ v, (x, v) ∉ binds) → bindC kindOf binds m x = m x
  | [], _, _ => rfl
  | (n, v) :: r, m, h => by
    unfold bindC
    rw [bindC_out fun w hw => h w (List.mem_cons_of_mem _ hw)]
    split
    · rfl
    · have : x ≠ n := by rintro rfl; exact h v List.mem_cons_self
      simp [this]
theorem bindL_get {kindOf : Str → Option NameKind} {x : Str} {v : Value} : ∀ {P : List Str} {vs : List Value} {i : Nat} {m : Str → Option Value}, P.Nodup → P[i]? = some x → vs[i]? = some v → kindOf x = some .local →
    bindL kindOf (P.zip vs) m x = some v
  | [], _, _, _, _, h, _, _ => by simp at h
  | _ :: _, [], _, _, _, _, h, _ => by simp at h
  | p :: P, w :: vs, 0, m, nd, h1, h2, hk => by
    simp at h1 h2; subst h1; subst h2
    show bindL kindOf ((p, w) :: P.zip vs) m p = _
    unfold bindL
    rw [bindL_out fun v hv => (List.nodup_cons.mp nd).1 (List.of_mem_zip hv).1, if_pos hk]
    simp
  | p :: P, w :: vs, i + 1, m, nd, h1, h2, hk => by
    show bindL kindOf ((p, w) :: P.zip vs) m x = _
    unfold bindL
    exact bindL_get (i := i) (List.nodup_cons.mp nd).2 (by simpa using h1) (by simpa using h2) hk
theorem bindC_get {kindOf : Str → Option NameKind} {x : Str} {v : Value} : ∀ {P : List Str} {vs : List Value} {i : Nat} {m : Str → Option Value}, P.Nodup → P[i]? = some x → vs[i]? = some v → kindOf x ≠ some .local →
    bindC kindOf (P.zip vs) m x = some v
  | [], _, _, _, _, h, _, _ => by simp at h
  | _ :: _, [], _, _, _, _, h, _ => by simp at h
  | p :: P, w :: vs, 0, m, nd, h1, h2, hk => by
    simp at h1 h2; subst h1; subst h2
    show bindC kindOf ((p, w) :: P.zip vs) m p = _
    unfold bindC
    rw [bindC_out fun v hv => (List.nodup_cons.mp nd).1 (List.of_mem_zip hv).1, if_neg hk]
    simp
  | p :: P, w :: vs, i + 1, m, nd, h1, h2, hk => by
    show bindC kindOf ((p, w) :: P.zip vs) m x = _
    unfold bindC
    exact bindC_get (i := i) (List.nodup_cons.mp nd).2 (by simpa using h1) (by simpa using h2) hk
def start (N : List Str) (vs : List V) : St := vs.map some ++ List.replicate (N.length - vs.length) none
def cxOf (CX : CXT) (P : Program) (w : World) (K : PySem.W.Frag) (mg : Str → Option Value) (base : Heap) (N : List Str) (qual : Str) (scope : Scope) (f : Addr) (cd : Value) (A : Around) (outer : List Env) (s : Shared) (H : Hp) (E : XK) : Cx where
  prog := P
  w := w
  K := K
  mg := mg
  base := base
  A := A.deeper (envOfC qual scope s.heap.objs.size f cd)
  N := N
  s₀ := s
  H₀ := H
  env := envOfC qual scope s.heap.objs.size f cd
  outer := outer
  stack := envOfC qual scope s.heap.objs.size f cd :: outer
  ex := []
  calm := true
  fn := fun _ => true
  pn := []
  xe := fun e s' => wpAny (model P w) (A.deeper (envOfC qual scope s.heap.objs.size f cd)) (leaving (envOfC qual scope s.heap.objs.size f cd) e) (fun _ s'' => CX outer H s E e s'') (fun e' s'' => CX outer H s E e' s'') s'
theorem cell_has {sc : Scope} {n : Nat} {x : Str} (h : sc.names.lookup x = some .cell) : ∃ c, (cellsFrom n sc.names []).lookup x = some c := by
  have q := PySem.W.cellsFrom_some sc.names n [] (.inl h)
  exact Option.isSome_iff_exists.mp q
theorem inv_start {CX : CXT} {P : Program} {w : World} {K : PySem.W.Frag} {mg : Str → Option Value} {base : Heap} {N ps : List Str} {qual : Str} {scope : Scope} {f : Addr} {cd : Value} {A : Around} {outer : List Env} {s s1 : Shared} {H : Hp} {E : XK} {us : List Value} {vs : List V}
    (S : FnScope N ps scope) (hd : A.handled = none) (e0 : Env0 P w K mg base A outer s H) (hl : vs.length = ps.length) (r : Vals vs us)
    (x : InCallC s s.heap.objs.size (bindL (envOfC qual scope s.heap.objs.size f cd).kindOf (ps.zip us) fun _ => none) (cellsFrom (s.heap.objs.size + 1) scope.names []) (bindC (envOfC qual scope s.heap.objs.size f cd).kindOf (ps.zip us) fun _ => none) s1) :
    Inv (cxOf CX P w K mg base N qual scope f cd A outer s H E) [] (start N vs) H s1 := by
  have hpl : ps.length ≤ N.length := by have := congrArg List.length S.pre; rw [List.length_take] at this; omega
  obtain ⟨h1, tk, rfl, hk⟩ := x.done
  have noA : ∀ b : Addr, b ∉ (cxOf CX P w K mg base N qual scope f cd A outer s H E).ex := fun b z => absurd (show b ∈ ([] : List Addr) from z) (by simp)
  refine ⟨⟨e0.mod, S.kind, rfl, rfl, Nat.le_refl _, fun y z c h1 h2 => ?_, fun y hy => ?_, fun y c _ h => ?_, fun _ => hd, Around.frames_deeper e0.frames, .inr ⟨rfl, rfl⟩, fun b z => absurd z (noA b), e0.bs, e0.bsz, fun b _ _ => noA b, fun b z => absurd z (noA b), e0.funs, e0.frf⟩,
    rfl, e0.bare, Un.kept hk, ⟨_, x.toInCall.ns, fun i y v h1 h2 h3 => ?_⟩, fun y c h => ⟨_, x.cell y c h⟩, e0.hok.fresh (Nat.le_refl _), fun y c h => ?_, fun p hp => absurd (show p ∈ ([] : List (Addr × Obj)) from hp) (by simp), e0.hok.kept hk, ?_⟩
  · exact name_of_addr x.apart (PySem.mem_of_lookup h1) (PySem.mem_of_lookup h2)
  · have hy : scope.names.lookup y = some .cell ∨ scope.names.lookup y = some .free := hy
    rcases hy with hy | hy
    · exact cell_has hy
    · exact absurd rfl (S.nofree _ (PySem.mem_of_lookup hy))
  · exact Nat.le_of_lt (x.above y c (PySem.mem_of_lookup h))
  · have hi : i < vs.length := by
      unfold start at h2
      by_cases hi : i < vs.length
      · exact hi
      · rw [List.getElem?_append_right (by simpa using hi)] at h2
        rw [List.getElem?_replicate] at h2
        split at h2 <;> cases h2
    have ha : vs[i]? = some v := by
      unfold start at h2
      rw [List.getElem?_append_left (by simpa using hi), List.getElem?_map] at h2
      cases e : vs[i]? with
      | none => rw [e] at h2; cases h2
      | some a => rw [e] at h2; cases h2; rfl
    obtain ⟨u, hu, rv⟩ := r.get ha
    have hp : ps[i]? = some y := by
      rw [← S.pre, List.getElem?_take_of_lt (by omega)]; exact h1
    have ndP : ps.Nodup := by rw [← S.pre]; exact S.nd.sublist (List.take_sublist _ _)
    refine ⟨u, rv, ?_⟩
    rcases S.par y (List.mem_of_getElem? hp) with k | k
    · exact .inl ⟨k, bindL_get ndP hp hu k⟩
    · obtain ⟨c, e⟩ := cell_has (n := s.heap.objs.size + 1) k
      refine .inr ⟨.inl k, c, e, ?_⟩
      have q := x.cell y c e
      rw [bindC_get ndP hp hu (by show scope.names.lookup y ≠ _; rw [k]; decide)] at q
      exact q
  · exact e0.hok.fresh (Nat.le_of_lt (x.above y c (PySem.mem_of_lookup h)))
  · unfold start
    show _ = N.length
    rw [List.length_append, List.length_map, List.length_replicate]
    omega
theorem fn_of {CX : CXT} {P : Program} {w : World} {K : PySem.W.Frag} {mg : Str → Option Value} {base : Heap} {k : Nat} {f : Addr} {name qual : Str} {params : Arguments} {body : List Stmt} {scope : Scope} {dV kV doc pm cdv ct oc : Value} {an od : Option Addr}
    {osl : Array (Option Value)} {N ps : List Str} {sp : Sp} (lk : K.lookup f = some ⟨oc, od, .func (PySem.W.fnOf name qual params body scope dV kV doc pm an cdv ct), osl⟩) (hcd : PySem.W.codeIn K cdv qual = true) (S : FnScope N ps scope)
    (len : ∀ vs H Q E, sp vs H Q E → vs.length = ps.length)
    (hbody : ∀ (A : Around) (outer : List Env) (s : Shared) (H : Hp) (vs : List V) (Q : VK) (E : XK), Room k (A.deeper (envOfC qual scope s.heap.objs.size f cdv)) → sp vs H Q E →
      ∃ t, PSs (cxOf CX P w K mg base N qual scope f cdv A outer s H E) body t ∧ t { nx := fun _ H' => Q .non H', rt := Q } (start N vs) H) :
    FnOk P w K mg base CX (k + 1) f (PySem.W.fnOf name qual params body scope dV kV doc pm an cdv ct) ps sp := by
  refine ⟨len, fun A outer s H args us vs Q E hr e0 hb r hsp => ?_⟩
  have hl := len _ _ _ _ hsp
  have KX : K.In s.heap := e0.mod.kin.keeps fun b o e => (e0.bs b o e).1
  have lim : s.heap.NoLimit := e0.mod.nolimit.keeps fun b o e => (e0.bs b o e).1
  have hkind : ∀ y ∈ ps.zip us, scope.names.lookup y.1 = some .local ∨ (scope.names.lookup y.1 = some .cell ∧ ((cellsFrom (s.heap.objs.size + 1) scope.names []).lookup y.1).isSome = true) := fun ⟨n, v⟩ hy => by
    rcases S.par n (List.of_mem_zip hy).1 with q | q
    · exact .inl q
    · exact .inr ⟨q, PySem.W.cellsFrom_some _ _ _ (.inl q)⟩
  refine codeAny_call_function hr.depth (KX _ _ lk) rfl S.co S.gen rfl (PySem.W.codeRec_of KX hcd) (hb _ _ _ _ ?_)
  refine wpAny_newFunctionEnv_cells S.kind hkind fun env he s1 x => ?_
  subst he
  refine ⟨lim.keeps x.toInCall.keep, codeAny_func ?_⟩
  obtain ⟨t, ht, hq⟩ := hbody A outer s H vs Q E (hr.deeper _) hsp
  have I : Inv (cxOf CX P w K mg base N qual scope f cdv A outer s H E) [] (start N vs) H s1 := inv_start S hr.hd e0 hl r x
  refine wpAny_mono (ht [] s1 (start N vs) H _ I hq) (fun fl s' hs => ?_) fun e s' hs => hs
  have fin : ∀ {σ' : St} {H' : Hp} {v : V} {u : Value}, Inv (cxOf CX P w K mg base N qual scope f cdv A outer s H E) [] σ' H' s' → RelV v u → Q v H' → CE outer P w H s Q u s' :=
    fun {σ' H' v u} J rv q => ⟨v, H', J.os, J.bare, J.base, J.hok, rv, q⟩
  cases fl with
  | ret u =>
    obtain ⟨v, σ', H', J, rv, q⟩ := hs
    exact fin J rv q
  | next =>
    obtain ⟨σ', H', J, q⟩ := hs
    exact fin (v := V.non) (u := Value.none) J rfl q
  | brk =>
    obtain ⟨_, _, _, q⟩ := hs
    exact False.elim q
  | cont =>
    obtain ⟨_, _, _, q⟩ := hs
    exact False.elim q
end L2
namespace L2
open PySem PySem.Spec PyProof.Rows
section
variable {X : Cx} {x : Str} {p pos : Pos} {e : Expr} {es : List Expr} {t : TA} {id T : String} {r : List V → Hp → VK → Prop}
def tCB (r : List V → Hp → VK → Prop) (t : TA) : TE := fun σ H Q => t σ H fun vs H1 => r vs H1 Q
theorem pe_callB (hc : CallR X (.builtin id) r) (hg : Gl X x) (hm : X.mg x = none) (hv : bootBuiltins x = some (.builtin id)) (ha : PA X (e :: es) t) (hn : x ≠ "__name__" := by decide) (hdb : (x == ("__debug__" : Str)) = false := by decide)
    (he : starEach (e :: es) X.env = (false, eval e X.env) :: starEach es X.env := by rfl) (hpl : (backTo pos (starEach es X.env)).any (·.1) = false := by rfl) : PE X (.Call (.Name x p) (e :: es) [] pos) (tCB r t) := by
  intro pins s σ H Q I h
  refine wpAny_Call_Name_kw (ld_blt I hg hm hv ?_ hn hdb)
  exact PyProof.Rows.callWith_builtin1 (thn (ha pos pins s σ H _ I h) fun us s1 ⟨vs, H1, I1, r1, q1⟩ => hc pins s1 σ H1 vs us Q I1 r1 q1) he hpl
end
end L2
namespace HT
open PySem PyProof.Rows
section
open PySem.SeqAt
open PySem.AutoSeq1 (wpAny_loadPart')
open PySem.MeetsSeq PySem.MeetsSeq2 PySem.MeetsSeq3
end
section
variable {prog : Program} {w : World} {A : Around} {E : Value → Shared → Prop} {s : Shared}
def sIx (n d : Nat) : Option Int → Nat
  | none => d
  | some v => if v < 0 then (v + (n : Int)).toNat else min v.toNat n
theorem sIx_le (n d : Nat) (hd : d ≤ n) (o : Option Int) : sIx n d o ≤ n := by
  cases o with
  | none => exact hd
  | some v =>
    show (if v < 0 then (v + (n : Int)).toNat else min v.toNat n) ≤ n
    by_cases hv : v < 0
    · rw [if_pos hv]; omega
    · rw [if_neg hv]; exact Nat.min_le_right _ _
theorem clip_eq (v : Int) (n d : Nat) : (if v < 0 then max (v + (n : Int)) 0 else min v (n : Int)) = ((sIx n d (some v) : Nat) : Int) := by
  show (if v < 0 then max (v + (n : Int)) 0 else min v (n : Int)) = (((if v < 0 then (v + (n : Int)).toNat else min v.toNat n) : Nat) : Int)
  by_cases hv : v < 0
  · simp only [if_pos hv]; omega
  · simp only [if_neg hv]; omega
theorem adjust_gen (lo hi : Option Int) (n : Nat) : Builtin.Slice.sliceAdjust lo hi 1 (n : Int) = (((sIx n 0 lo : Nat) : Int), ((sIx n n hi : Nat) : Int)) := by
  have h1 : ¬ ((1 : Int) < 0) := by omega
  unfold Builtin.Slice.sliceAdjust
  simp only [h1, if_false]
  refine Prod.ext ?_ ?_
  · cases lo with
    | none => rfl
    | some v => exact clip_eq v n 0
  · cases hi with
    | none => rfl
    | some v => exact clip_eq v n n
theorem places_gen (i j : Nat) : Builtin.Slice.slicePlaces (i : Int) (j : Int) 1 = j - i := by
  unfold Builtin.Slice.slicePlaces
  have h1 : (1 : Int) > 0 := by omega
  simp only [h1, if_true, Int.ediv_one]
  split <;> omega
theorem slicePart_ {v : Value} {o : Option Int} {Q : Option Int → Shared → Prop} (p : IsPart v o) (h : Q o s) : wpAny (model prog w) A (Builtin.Slice.slicePartIndex v) Q E s := by
  cases p with
  | none => exact slicePart_none h
  | int i t => exact slicePart_int h
theorem sliceApplied_gen {sl : Addr} {vl vu : Value} {lo hi : Option Int} {n : Nat} {Q : Int × Int × Nat → Shared → Prop} (hs : s.heap.IsSliceOf sl vl vu .none) (pl : IsPart vl lo) (pu : IsPart vu hi)
    (h : Q (((sIx n 0 lo : Nat) : Int), 1, sIx n n hi - sIx n 0 lo) s) : wpAny (model prog w) A (Builtin.Slice.sliceApplied (.ref sl) (pure (n : Int))) Q E s := by
  obtain ⟨os, hos, hcs, hds⟩ := id hs
  unfold Builtin.Slice.sliceApplied Builtin.Slice.sliceFields
  refine wpAny_bind (wpAny_bind (wpAny_field hos hds (x := vl) rfl (wpAny_bind (wpAny_field hos hds (x := vu) rfl (wpAny_bind (wpAny_field hos hds (x := .none) rfl (wpAny_pure ?_)))))))
  refine wpAny_bind (slicePart_none ?_)
  show wpAny _ _ (if ((1 : Int) == 0) = true then _ else _) _ _ s
  rw [if_neg (by decide)]
  refine wpAny_bind (slicePart_ pl (wpAny_bind (slicePart_ pu (wpAny_bind (wpAny_pure ?_)))))
  show wpAny _ _ (match Builtin.Slice.sliceAdjust lo hi 1 (n : Int) with | (lo, hi) => pure (lo, (1 : Int), Builtin.Slice.slicePlaces lo hi 1)) _ _ s
  rw [adjust_gen lo hi n]
  show wpAny _ _ (pure (((sIx n 0 lo : Nat) : Int), (1 : Int), Builtin.Slice.slicePlaces ((sIx n 0 lo : Nat) : Int) ((sIx n n hi : Nat) : Int) 1)) _ _ s
  rw [places_gen]
  exact wpAny_pure h
theorem pick_gen (xs : Array Value) (i k : Nat) : ((List.range k).filterMap fun (m : Nat) => xs[((i : Int) + (m : Int) * 1).toNat]?).toArray = ((xs.toList.drop i).take k).toArray := by
  have e : (fun (m : Nat) => xs[((i : Int) + (m : Int) * 1).toNat]?) = fun m => xs[i + m]? := by
    funext m
    have : ((i : Int) + (m : Int) * 1).toNat = i + m := by omega
    rw [this]
  rw [e]
  have := pick_run xs i k
  rw [List.filterMap_map] at this
  have e2 : ((fun x => xs[x]?) ∘ fun x => i + x) = fun m => xs[i + m]? := rfl
  rw [e2] at this
  rw [this]
theorem getItem_tuple_cut {t sl : Addr} {items : Array Value} {vl vu : Value} {lo hi : Option Int} {Q : Value → Shared → Prop} (ht : IsTup s.heap t items) (hs : s.heap.IsSliceOf sl vl vu .none) (pl : IsPart vl lo) (pu : IsPart vu hi)
    (hw : ¬ (sIx items.size 0 lo = 0 ∧ sIx items.size items.size hi = items.size))
    (h : Q (.ref s.heap.objs.size) { s with heap := s.heap.push { cls := .type "tuple", data := .seq ((items.toList.drop (sIx items.size 0 lo)).take (sIx items.size items.size hi - sIx items.size 0 lo)).toArray } })
    (hsz : items.size ≤ sizeLine) : wpAny (model prog w) A (getItem (.ref t) (.ref sl)) Q E s := by
  have htake : sizeOk (.seq ((items.toList.drop (sIx items.size 0 lo)).take (sIx items.size items.size hi - sIx items.size 0 lo)).toArray) := by
    show ((items.toList.drop (sIx items.size 0 lo)).take (sIx items.size items.size hi - sIx items.size 0 lo)).toArray.size ≤ sizeLine
    rw [List.size_toArray, List.length_take, List.length_drop, Array.length_toList]
    omega
  have hj : sIx items.size items.size hi ≤ items.size := sIx_le _ _ (Nat.le_refl _) hi
  obtain ⟨os, hos, hcs, hds⟩ := id hs
  have hTs : s.TypeIs (.ref sl) "slice" := ⟨os, hos, hcs⟩
  unfold getItem
  try with_reducible refine wpAny_holding ?_
  first | refine wpAny_bind (wpAny_pure ?_) | skip
  refine wpAny_bind (wpAny_sequenceKey ht.typeIs (by decide) ?_)
  refine wpAny_bind (wpAny_callSpecial?_slot (name := Str.ofString "__getitem__") ht.typeIs PyProof.Rows.slot_tuple_getitem
    (wpAny_call_entry PyProof.Rows.slot_tuple_getitem ht.typeIs entry_tuple_getitem ?_ (args_tuple_getitem _ _)))
  show wpAny _ _ (Builtin.Tuple.tupleItemsOf (.ref t) >>= _) _ _ s
  refine wpAny_bind (tupleItemsOf_ ht ?_)
  refine wpAny_bind (wpAny_typeOf hTs ?_)
  rw [if_pos (by decide)]
  refine wpAny_bind (sliceApplied_gen hs pl pu ?_)
  have hno : ¬ ((((sIx items.size 0 lo : Nat) : Int) == 0 && (1 : Int) == 1 && (sIx items.size items.size hi - sIx items.size 0 lo) == items.size) = true) := by
    intro q
    rw [Bool.and_eq_true, Bool.and_eq_true] at q
    have q1 : ((sIx items.size 0 lo : Nat) : Int) = 0 := eq_of_beq q.1.1
    have q2 : sIx items.size items.size hi - sIx items.size 0 lo = items.size := eq_of_beq q.2
    exact hw ⟨by omega, by omega⟩
  show wpAny _ _ (if (((sIx items.size 0 lo : Nat) : Int) == 0 && (1 : Int) == 1 && (sIx items.size items.size hi - sIx items.size 0 lo) == items.size) = true then _ else _) _ _ s
  rw [if_neg hno, pick_gen]
  first
    | exact wpAny_bind (m := Builtin.Tuple.tupleExact _) (wpAny_newObj_type (wpAny_pure ⟨_, rfl, wpAny_pure h⟩) htake)
    | exact wpAny_bind (m := Builtin.Tuple.tupleExact _) (wpAny_newObj_type (wpAny_bind (wpAny_pure (wpAny_pure ⟨_, rfl, wpAny_pure h⟩))) htake)
    | exact wpAny_bind (wpAny_bind (m := Builtin.Tuple.tupleExact _) (wpAny_newObj_type (wpAny_pure (wpAny_pure ⟨_, rfl, wpAny_pure h⟩)) htake))
    | exact wpAny_bind (wpAny_bind (m := Builtin.Tuple.tupleExact _) (wpAny_newObj_type (wpAny_pure ⟨_, rfl, wpAny_pure h⟩) htake))
end
end HT
namespace L2
open PySem PySem.Spec PyProof.Rows
abbrev TO := St → Hp → (Option Int → Hp → Prop) → Prop
def PO (X : Cx) (e : Option Expr) (t : TO) : Prop :=
  ∀ (pins : List (Addr × Obj)) (s : Shared) (σ : St) (H : Hp) (Q : Option Int → Hp → Prop), Inv X pins σ H s → t σ H Q →
    wpAny (model X.prog X.w) X.A (evalPart e X.env) (fun u s' => ∃ o H', Inv X pins σ H' s' ∧ IsPart u o ∧ Q o H') X.xe s
def tNoPart : TO := fun _ H Q => Q none H
def tPart (t : TE) : TO := fun σ H Q => t σ H fun x H1 => ∃ i, x = .int i ∧ Q (some i) H1
section
variable {X : Cx} {e : Expr} {te : TE} {lo hi : Option Expr} {tl th : TO} {pos p2 : Pos}
theorem po_none : PO X none tNoPart := by
  intro pins s σ H Q I h
  rw [evalPart_none]
  exact wpAny_pure ⟨none, H, I, .none, h⟩
theorem po_some (h : PE X e te) : PO X (some e) (tPart te) := by
  intro pins s σ H Q I hw
  rw [evalPart_some]
  refine thn (h pins s σ H _ I hw) fun u s1 hh => ?_
  obtain ⟨x, H1, I1, r1, q1⟩ := hh
  obtain ⟨i, rfl, q⟩ := q1
  obtain ⟨t, rfl⟩ := r1
  exact ⟨some i, H1, I1, .int i t, q⟩
def SlR (X : Cx) (r : V → Option Int → Option Int → Hp → VK → Prop) : Prop :=
  ∀ (pins : List (Addr × Obj)) (s : Shared) (σ : St) (H : Hp) (x : V) (v vl vu : Value) (lo hi : Option Int) (sl : Addr) (Q : VK), Inv X pins σ H s → RelV x v → s.heap.IsSliceOf sl vl vu .none → IsPart vl lo → IsPart vu hi → r x lo hi H Q →
    ∃ T id, typeLookup (.type T) "__getitem__" = pure (some (.builtin id)) ∧ s.TypeIs v T ∧ wpAny (model X.prog X.w) X.A (getItem v (.ref sl)) (EP X pins σ Q) X.xe s
theorem SlR.or {r r' : V → Option Int → Option Int → Hp → VK → Prop} (h : SlR X r) (h' : SlR X r') : SlR X (fun x lo hi H Q => r x lo hi H Q ∨ r' x lo hi H Q) := by
  intro pins s σ H x v vl vu lo hi sl Q I rx hs pl pu q
  rcases q with q | q
  · exact h pins s σ H x v vl vu lo hi sl Q I rx hs pl pu q
  · exact h' pins s σ H x v vl vu lo hi sl Q I rx hs pl pu q
def tSl (r : V → Option Int → Option Int → Hp → VK → Prop) (te : TE) (tl th : TO) : TE := fun σ H Q => te σ H fun x H1 => tl σ H1 fun l H2 => th σ H2 fun u H3 => r x l u H3 Q
theorem pe_slice {r : V → Option Int → Option Int → Hp → VK → Prop} (hr : SlR X r) (he : PE X e te) (hl : PO X lo tl) (hu : PO X hi th) : PE X (.Subscript e (.Slice lo hi none p2) pos) (tSl r te tl th) := by
  intro pins s σ H Q I h
  refine Subscript_ (thn (he pins s σ H _ I h) fun v s1 hh => ?_)
  obtain ⟨x, H1, I1, r1, q1⟩ := hh
  refine wpAny_Slice (thn (hl pins s1 σ H1 _ I1 q1) fun vl s2 ⟨l, H2, I2, pl, q2⟩ => thn (hu pins s2 σ H2 _ I2 q2) fun vu s3 ⟨u, H3, I3, pu, q3⟩ => ?_)
  rw [evalPart_none]
  refine wpAny_pure ?_
  have I4 : Inv X pins σ H3 { s3 with heap := s3.heap.push { cls := .type "slice", data := .fields #[vl, vu, .none] } } := I3.kept (t' := s3.toks) fun b ob q => Heap.get?_push_of_some _ q
  obtain ⟨T, id, hT, ht, hg⟩ := hr pins { s3 with heap := s3.heap.push { cls := .type "slice", data := .fields #[vl, vu, .none] } } σ H3 x v vl vu l u s3.heap.objs.size Q I4 r1 (Heap.IsSliceOf.new ..) pl pu q3
  show wpAny (model X.prog X.w) X.A (subscriptTail e (.Slice lo hi none p2) v (.ref s3.heap.objs.size)) (EP X pins σ Q) X.xe { s3 with heap := s3.heap.push { cls := .type "slice", data := .fields #[vl, vu, .none] } }
  exact tail_any (ops := [.ref s3.heap.objs.size, v]) ht hT hg (by with_unfolding_all rfl)
def cutV (xs : List V) (lo hi : Option Int) : List V := (xs.drop (HT.sIx xs.length 0 lo)).take (HT.sIx xs.length xs.length hi - HT.sIx xs.length 0 lo)
theorem cutV_length (xs : List V) (lo hi : Option Int) : (cutV xs lo hi).length ≤ xs.length := by
  unfold cutV
  rw [List.length_take, List.length_drop]
  omega
def rSlT (K : PySem.W.Frag) : V → Option Int → Option Int → Hp → VK → Prop := fun x lo hi H Q => ∃ a xs, x = .ref a ∧ SqT K H a xs ∧
  ¬ (HT.sIx xs.length 0 lo = 0 ∧ HT.sIx xs.length xs.length hi = xs.length) ∧ ∀ p, H p = none → Q (.ref p) (upd H p (.tup (cutV xs lo hi)))
theorem sl_tup : SlR X (rSlT X.K) := by
  intro pins s σ H x v vl vu lo hi sl Q I rx hs pl pu h
  obtain ⟨a, xs, rfl, hx, hw, q⟩ := h
  cases rx
  obtain ⟨its, r, ht, hz⟩ := I.tuple hx
  have hlen : its.toArray.size = xs.length := by rw [List.size_toArray]; exact r.length.symm
  refine ⟨"tuple", _, PyProof.Rows.slot_tuple_getitem.lookup, ht.typeIs, ?_⟩
  refine HT.getItem_tuple_cut ht hs pl pu (by rw [hlen]; exact hw) ?_ (by rw [hlen]; exact hz)
  rw [hlen]
  refine ⟨.ref s.heap.objs.size, _, I.laid (t' := s.toks) (o := .tup (cutV xs lo hi)) (fun b ob q => Heap.get?_push_of_some _ q) (Nat.le_refl _) ?_, rfl, q _ (I.hok.fresh (Nat.le_refl _))⟩
  exact ⟨Nat.le_trans (cutV_length xs lo hi) hz, _, (r.drop (HT.sIx xs.length 0 lo)).take (HT.sIx xs.length xs.length hi - HT.sIx xs.length 0 lo), IsTup.new _ _⟩
end
end L2
namespace L2
open PySem PySem.Spec PyProof.Rows
def ixN (n : Nat) (i : Int) : Option Nat := if 0 ≤ i then (if i < n then some i.toNat else none) else if -(n : Int) ≤ i then some (i + n).toNat else none
def atI {α : Type} (xs : List α) (i : Int) : Option α := (ixN xs.length i).bind fun j => xs[j]?
theorem ixN_seq {n : Nat} {i : Int} {j : Nat} (h : ixN n i = some j) : seqIndex? i n = some j ∧ j < n ∧ -(n : Int) ≤ i ∧ i < n := by
  unfold ixN at h
  by_cases h0 : 0 ≤ i
  · rw [if_pos h0] at h
    by_cases h1 : i < n
    · rw [if_pos h1] at h
      have e : i.toNat = j := Option.some.inj h
      exact ⟨by rw [seqIndex_of h0 h1, e], by omega, by omega, h1⟩
    · rw [if_neg h1] at h; cases h
  · rw [if_neg h0] at h
    by_cases h1 : -(n : Int) ≤ i
    · rw [if_pos h1] at h
      have e : (i + n).toNat = j := Option.some.inj h
      exact ⟨by rw [seqIndex_neg (by omega) h1, e], by omega, h1, by omega⟩
    · rw [if_neg h1] at h; cases h
theorem atI_get {α : Type} {xs : List α} {i : Int} {v : α} (h : atI xs i = some v) : ∃ j, seqIndex? i xs.length = some j ∧ xs[j]? = some v ∧ j < xs.length ∧ -(xs.length : Int) ≤ i ∧ i < xs.length := by
  unfold atI at h
  cases e : ixN xs.length i with
  | none => rw [e] at h; cases h
  | some j =>
    rw [e] at h
    obtain ⟨h1, h2, h3, h4⟩ := ixN_seq e
    exact ⟨j, h1, h, h2, h3, h4⟩
theorem atI_nat {α : Type} {xs : List α} {j : Nat} {v : α} (h : xs[j]? = some v) : atI xs (j : Int) = some v := by
  have hj : j < xs.length := (List.getElem?_eq_some_iff.mp h).1
  have e : ixN xs.length (j : Int) = some j := by
    unfold ixN
    rw [if_pos (by omega), if_pos (by omega)]; simp
  unfold atI; rw [e]; exact h
def PlainIx (b : Expr) : Prop := ∀ o i, subscripted b false o i = operate [o, i] (getItem o i)
def IxR (X : Cx) (r : R2) : Prop :=
  ∀ (value slice : Expr) (pins : List (Addr × Obj)) (s : Shared) (σ : St) (H : Hp) (x y : V) (v u : Value) (Q : VK), Inv X pins σ H s → RelV x v → RelV y u → r x y H Q →
    subscripted slice false v u = operate [v, u] (getItem v u) → wpAny (model X.prog X.w) X.A (subscriptTail value slice v u) (EP X pins σ Q) X.xe s
def MtR (X : Cx) (id : String) (r : V → List V → Hp → VK → Prop) : Prop :=
  ∀ (pins : List (Addr × Obj)) (s : Shared) (σ : St) (H : Hp) (x : V) (xs : List V) (v : Value) (us : List Value) (Q : VK), Inv X pins σ H s → RelV x v → Vals xs us → r x xs H Q →
    wpAny (model X.prog X.w) X.A (call (.builtin id) (v :: us)) (EP X pins σ Q) X.xe s
section
variable {X : Cx} {a b : Expr} {ta tb : TE} {pos : Pos}
theorem IxR.or {r r' : R2} (h : IxR X r) (h' : IxR X r') : IxR X (fun x y H Q => r x y H Q ∨ r' x y H Q) := by
  intro value slice pins s σ H x y v u Q I rx ry q hs
  rcases q with q | q
  · exact h value slice pins s σ H x y v u Q I rx ry q hs
  · exact h' value slice pins s σ H x y v u Q I rx ry q hs
theorem MtR.or {id : String} {r r' : V → List V → Hp → VK → Prop} (h : MtR X id r) (h' : MtR X id r') : MtR X id (fun x xs H Q => r x xs H Q ∨ r' x xs H Q) := by
  intro pins s σ H x xs v us Q I rx rs q
  rcases q with q | q
  · exact h pins s σ H x xs v us Q I rx rs q
  · exact h' pins s σ H x xs v us Q I rx rs q
theorem pe_ix {r : R2} (hr : IxR X r) (ha : PE X a ta) (hb : PE X b tb) (hs : PlainIx b) : PE X (.Subscript a b pos) (tOp r ta tb) := by
  intro pins s σ H Q I h
  exact Subscript_ (binT ha hb I h fun v u s2 x y H2 I2 rx ry q => hr a b pins s2 σ H2 x y v u Q I2 rx ry q (hs _ _))
def rIxL (K : PySem.W.Frag) : R2 := fun x y H Q => ∃ p xs i v, x = .ref p ∧ y = .int i ∧ SqL K H p xs ∧ atI xs i = some v ∧ Q v H
def rIxT (K : PySem.W.Frag) : R2 := fun x y H Q => ∃ p xs i v, x = .ref p ∧ y = .int i ∧ SqT K H p xs ∧ atI xs i = some v ∧ Q v H
def rIxS : R2 := fun x y H Q => ∃ z i c, x = .str z ∧ y = .int i ∧ z.length ≤ sizeLine ∧ atI z.cps.toList i = some c ∧ Q (.str ⟨#[c]⟩) H
theorem ix_list : IxR X (rIxL X.K) := by
  intro value slice pins s σ H x y v u Q I rx ry h hs
  obtain ⟨p, xs, i, z, rfl, rfl, hq, he, q⟩ := h
  cases rx
  obtain ⟨t, rfl⟩ := ry
  obtain ⟨its, r, pl, hz⟩ := I.list hq
  obtain ⟨j, h1, h2, h3, h4, h5⟩ := atI_get he
  obtain ⟨w, ew, rw'⟩ := r.get h2
  have hl := r.length
  have hn := line63
  have fin : EP X pins σ Q w s := ⟨z, H, I, rw', q⟩
  by_cases h0 : 0 ≤ i
  · have hj : i.toNat = j := by
      rw [seqIndex_of h0 h5] at h1
      exact Option.some.inj h1
    exact item_listR pl.isList h0 (by omega) (by rw [hj]; simpa using ew) fin hs
  · have hj : (i + (its.toArray.size : Int)).toNat = j := by
      rw [seqIndex_neg (by omega) h4] at h1
      rw [List.size_toArray, ← hl]
      exact Option.some.inj h1
    exact subscriptTail_builtinR (x := w) pl.isList.typeIs slot_list_getitem.lookup
      (wpAny_getItem_list_neg (Q := fun r s' => r = w ∧ EP X pins σ Q r s') pl.isList (by omega) (by rw [List.size_toArray] <;> omega) (by omega) (by rw [hj]; simpa using ew) ⟨rfl, fin⟩) hs
theorem ix_tup : IxR X (rIxT X.K) := by
  intro value slice pins s σ H x y v u Q I rx ry h hs
  obtain ⟨p, xs, i, z, rfl, rfl, hq, he, q⟩ := h
  cases rx
  obtain ⟨t, rfl⟩ := ry
  obtain ⟨its, r, pl, hz⟩ := I.tuple hq
  obtain ⟨j, h1, h2, h3, h4, h5⟩ := atI_get he
  obtain ⟨w, ew, rw'⟩ := r.get h2
  have hl := r.length
  have hn := line63
  have fin : EP X pins σ Q w s := ⟨z, H, I, rw', q⟩
  exact subscriptTail_builtinR (x := w) pl.typeIs slot_tuple_getitem.lookup
    (getItem_tuple (j := j) (Q := fun r s' => r = w ∧ EP X pins σ Q r s') pl (by omega) (by omega) (by rw [List.size_toArray, ← hl]; exact h1) (by simpa using ew) ⟨rfl, fin⟩) hs
theorem ix_str : IxR X rIxS := by
  intro value slice pins s σ H x y v u Q I rx ry h hs
  obtain ⟨z, i, c, rfl, rfl, hz, he, q⟩ := h
  obtain ⟨t, rfl⟩ := rx
  obtain ⟨t', rfl⟩ := ry
  obtain ⟨j, h1, h2, h3, h4, h5⟩ := atI_get he
  have hl : z.cps.toList.length = z.length := by simp [Str.length]
  rw [hl] at h1 h4 h5
  have hn := line63
  exact tail_any (typeIs_str s z t) slot_str_getitem.lookup (getItem_str (c := c) (by
    have e1 : decide (i < -(2 ^ 63 : Int)) = false := decide_eq_false (by omega)
    have e2 : decide (i ≥ 2 ^ 63) = false := decide_eq_false (by omega)
    rw [e1, e2, Bool.or_false]) (by rw [h1]; simpa using h2) ⟨.str ⟨#[c]⟩, H, I.tok _, ⟨_, rfl⟩, q⟩) hs
theorem Inv.lst {pins : List (Addr × Obj)} {σ : St} {H : Hp} {s : Shared} {p : Addr} {xs : List V} (I : Inv X pins σ H s) (h : H p = some (.lst xs)) :
    ∃ (its : List Value) (n : Nat), Vals xs its ∧ s.heap.get? p = some { cls := .type "list", data := .seq its.toArray n } ∧ xs.length ≤ sizeLine := by
  obtain ⟨z, its, n, r, e⟩ := I.hok p _ h
  exact ⟨its, n, r, e, z⟩
theorem slice_bounds (lo hi : Option Int) (n : Nat) : (sliceBounds lo hi none n).1 = ((HT.sIx n 0 lo : Nat) : Int) ∧ (sliceBounds lo hi none n).2.1 = ((HT.sIx n n hi : Nat) : Int) ∧ (sliceBounds lo hi none n).2.2 = 1 := by
  refine ⟨?_, ?_, rfl⟩
  · cases lo with
    | none => simp [sliceBounds, HT.sIx]
    | some i =>
      simp only [sliceBounds, HT.sIx, Option.getD_none, show (1 : Int) > 0 by decide, if_true]
      by_cases h : i < 0
      · simp only [h, if_true] <;> omega
      · simp only [h, if_false] <;> omega
  · cases hi with
    | none => simp [sliceBounds, HT.sIx]
    | some i =>
      simp only [sliceBounds, HT.sIx, Option.getD_none, show (1 : Int) > 0 by decide, if_true]
      by_cases h : i < 0
      · simp only [h, if_true] <;> omega
      · simp only [h, if_false] <;> omega
theorem slicePick_cut (its : List Value) (lo hi : Option Int) : slicePick its.toArray lo hi none = ((its.drop (HT.sIx its.length 0 lo)).take (HT.sIx its.length its.length hi - HT.sIx its.length 0 lo)).toArray := by
  obtain ⟨h1, h2, h3⟩ := slice_bounds lo hi its.toArray.size
  unfold slicePick
  rw [h1, h2, h3]
  simp only [sliceRange_one, pick_run, List.size_toArray] <;> rfl
def rSlL (K : PySem.W.Frag) : V → Option Int → Option Int → Hp → VK → Prop := fun x lo hi H Q => ∃ a xs, x = .ref a ∧ SqL K H a xs ∧ ∀ p, H p = none → Q (.ref p) (upd H p (.lst (cutV xs lo hi)))
theorem sl_list : SlR X (rSlL X.K) := by
  intro pins s σ H x v vl vu lo hi sl Q I rx hs pl pu h
  obtain ⟨a, xs, rfl, hx, q⟩ := h
  cases rx
  obtain ⟨its, r, ht, hz⟩ := I.list hx
  have hlen := r.length
  refine ⟨"list", _, slot_list_getitem.lookup, ht.isList.typeIs, ?_⟩
  refine wpAny_getItem_list_slice ht.isList hs pl pu .none (by simp) ?_ (by rw [List.size_toArray] <;> omega)
  rw [slicePick_cut, ← hlen]
  refine ⟨.ref s.heap.objs.size, _, I.laid (t' := s.toks) (o := .lst (cutV xs lo hi)) (fun b ob q => Heap.get?_push_of_some _ q) (Nat.le_refl _) ?_, rfl, q _ (I.hok.fresh (Nat.le_refl _))⟩
  exact ⟨Nat.le_trans (cutV_length xs lo hi) hz, _, 0, (r.drop (HT.sIx xs.length 0 lo)).take (HT.sIx xs.length xs.length hi - HT.sIx xs.length 0 lo), Heap.get?_push_size _ rfl⟩
def flatV : V → Bool
  | .non => true
  | .bl _ => true
  | .int _ => true
  | .str _ => true
  | _ => false
def eqV : V → V → Bool
  | .non, .non => true
  | .bl a, .bl b => a == b
  | .bl a, .int b => (if a then 1 else 0) == b
  | .int a, .bl b => a == (if b then 1 else 0)
  | .int a, .int b => a == b
  | .str a, .str b => a == b
  | _, _ => false
theorem eqAt_V {A : Around} {s : Shared} {y x : V} {u v : Value} (ry : RelV y u) (rx : RelV x v) (fy : flatV y = true) (fx : flatV x = true) : SeqAt.EqAt A s u v (eqV y x) := by
  cases y with
  | non =>
    cases ry
    cases x with
    | non => cases rx; exact SeqAt.EqAt.same _
    | bl b => cases rx; exact SeqAt.EqAt.none_bool b
    | int b => obtain ⟨t, rfl⟩ := rx; exact SeqAt.EqAt.none_int b t
    | str b => obtain ⟨t, rfl⟩ := rx; exact SeqAt.EqAt.none_str b t
    | _ => exact absurd (show false = true from fx) Bool.false_ne_true
  | bl a =>
    cases ry
    cases x with
    | non => cases rx; exact SeqAt.EqAt.bool_none a
    | bl b => cases rx; exact SeqAt.EqAt.bool_bool a b
    | int b => obtain ⟨t, rfl⟩ := rx; exact SeqAt.EqAt.bool_int a b t
    | str b => obtain ⟨t, rfl⟩ := rx; exact SeqAt.EqAt.bool_str a b t
    | _ => exact absurd (show false = true from fx) Bool.false_ne_true
  | int a =>
    obtain ⟨t', rfl⟩ := ry
    cases x with
    | non => cases rx; exact SeqAt.EqAt.int_none a t'
    | bl b => cases rx; exact SeqAt.EqAt.int_bool a t' b
    | int b => obtain ⟨t, rfl⟩ := rx; exact SeqAt.EqAt.int_int a t' b t
    | str b => obtain ⟨t, rfl⟩ := rx; exact SeqAt.EqAt.int_str a t' b t
    | _ => exact absurd (show false = true from fx) Bool.false_ne_true
  | str a =>
    obtain ⟨t', rfl⟩ := ry
    cases x with
    | non => cases rx; exact SeqAt.EqAt.str_none a t'
    | bl b => cases rx; exact SeqAt.EqAt.str_bool a t' b
    | int b => obtain ⟨t, rfl⟩ := rx; exact SeqAt.EqAt.str_int a t' b t
    | str b => obtain ⟨t, rfl⟩ := rx; exact SeqAt.EqAt.str_str a t' b t
    | _ => exact absurd (show false = true from fx) Bool.false_ne_true
  | _ => exact absurd (show false = true from fy) Bool.false_ne_true
theorem call_len_seq : CallR X (.builtin "len") (fun xs H Q => ∃ p ys, xs = [.ref p] ∧ (SqL X.K H p ys ∨ SqT X.K H p ys) ∧ Q (.int ys.length) H) := by
  intro pins s σ H xs us Q I r h
  obtain ⟨p, ys, rfl, hq, q⟩ := h
  obtain ⟨u, rfl, rx⟩ := vals1 r
  cases rx
  have hn := line63
  rcases hq with hq | hq
  · obtain ⟨its, r', pl, hz⟩ := I.list hq
    have hlen := r'.length
    exact Calls.call_len_list pl.isList (by simp only [List.size_toArray] <;> omega) ⟨.int ys.length, H, I.tok _, ⟨s.toks + 1, by rw [List.size_toArray, hlen]⟩, q⟩
  · obtain ⟨its, r', pl, hz⟩ := I.tuple hq
    have hlen := r'.length
    exact len_tuple pl (by simp only [List.size_toArray] <;> omega) ⟨.int ys.length, H, I.tok _, ⟨s.toks + 1, by rw [List.size_toArray, hlen]⟩, q⟩
theorem call_len_str : CallR X (.builtin "len") (fun xs H Q => ∃ z, xs = [.str z] ∧ z.length ≤ sizeLine ∧ Q (.int z.length) H) := by
  intro pins s σ H xs us Q I r h
  obtain ⟨z, rfl, hz, q⟩ := h
  obtain ⟨u, rfl, t, rfl⟩ := vals1 r
  have hn := line63
  exact len_str (by omega) ⟨.int z.length, H, I.tok _, ⟨_, rfl⟩, q⟩
theorem CallR.or {f : Value} {r r' : List V → Hp → VK → Prop} (h : CallR X f r) (h' : CallR X f r') : CallR X f (fun xs H Q => r xs H Q ∨ r' xs H Q) := by
  intro pins s σ H xs us Q I rs q
  rcases q with q | q
  · exact h pins s σ H xs us Q I rs q
  · exact h' pins s σ H xs us Q I rs q
def tyV (K : PySem.W.Frag) (T : String) (x : V) (H : Hp) : Prop := match x with
  | .str _ => T = "str"
  | .int _ => T = "int"
  | .ref p => (T = "list" ∧ ∃ xs, SqL K H p xs) ∨ (T = "tuple" ∧ ∃ o, K.lookup p = some o ∧ o.cls = .type "tuple" ∧ o.dict = none) ∨
      (T = "dict" ∧ ((∃ kvs, H p = some (.dK kvs)) ∨ (∃ kvs, H p = some (.dT kvs)) ∨ ∃ es ep, H p = some (.dG es ep))) ∨ (T = "set" ∧ ∃ S n, H p = some (.set S n))
  | _ => False
theorem tyV_is {pins : List (Addr × Obj)} {σ : St} {H : Hp} {s : Shared} {T : String} {x : V} {v : Value} (I : Inv X pins σ H s) (r : RelV x v) (ty : tyV X.K T x H) :
    s.TypeIs v T ∧ ∀ a, v = .ref a → ∃ ob, s.heap.get? a = some ob ∧ ob.dict = none := by
  cases x with
  | str z =>
    obtain ⟨t, rfl⟩ := r
    cases (show T = "str" from ty)
    exact ⟨typeIs_str s z t, fun _ e => nomatch e⟩
  | int i =>
    obtain ⟨t, rfl⟩ := r
    cases (show T = "int" from ty)
    exact ⟨typeIs_int s i t, fun _ e => nomatch e⟩
  | ref p =>
    cases r
    rcases ty with ⟨rfl, xs, hq⟩ | ⟨rfl, o, hk, hc, hd⟩ | ⟨rfl, hk⟩ | ⟨rfl, S, n, hk⟩
    · obtain ⟨its, _, pl, _⟩ := I.list hq
      refine ⟨pl.isList.typeIs, fun a e => ?_⟩
      cases e
      obtain ⟨o, n, e, c, hd, _⟩ := pl
      exact ⟨o, e, hd⟩
    · refine ⟨⟨o, I.kIn p o hk, hc⟩, fun a e => ?_⟩
      cases e
      exact ⟨o, I.kIn _ o hk, hd⟩
    · have z : ∃ o, s.heap.get? p = some o ∧ o.ExactDict := by
        rcases hk with ⟨kvs, hk⟩ | ⟨kvs, hk⟩ | ⟨es, ep, hk⟩
        · obtain ⟨_, _, _, _, o, _, _, e, ex, _⟩ := I.hok p _ hk
          exact ⟨o, e, ex⟩
        · obtain ⟨_, _, _, _, o, _, _, e, ex, _⟩ := I.hok p _ hk
          exact ⟨o, e, ex⟩
        · obtain ⟨_, _, o, _, e, ex, _⟩ := I.hok p _ hk
          exact ⟨o, e, ex⟩
      obtain ⟨o, e, ex⟩ := z
      refine ⟨⟨o, e, ex.1⟩, fun a e2 => ?_⟩
      cases e2
      exact ⟨o, e, ex.2.1⟩
    · obtain ⟨o, _, _, _, e, ex, _⟩ := I.hok p _ hk
      refine ⟨⟨o, e, ex.1⟩, fun a e2 => ?_⟩
      cases e2
      exact ⟨o, e, ex.2.1⟩
  | _ => exact False.elim ty
def tBM (K : PySem.W.Frag) (T : String) (r : V → List V → Hp → VK → Prop) (to : TE) (t : TA) : TE := fun σ H Q => to σ H fun x H1 => tyV K T x H1 ∧ t σ H1 fun xs H2 => r x xs H2 Q
variable {o e : Expr} {es : List Expr} {to : TE} {t : TA} {name : Str} {apos cpos : Pos} {T id : String} {r : V → List V → Hp → VK → Prop}
theorem pe_bm (pa : PlainAttrs T) (slot : Slot T name id) (hty : typeOf (.builtin id) = pure (.type "method_descriptor")) (hm : MtR X id r) (ho : PE X o to) (ha : PA X (e :: es) t)
    (hbase : attributeBase o name X.env (eval o X.env) = eval o X.env := by rfl)
    (hfew : ((backTo cpos (starEach (e :: es) X.env)).all (fun x => !x.1) && (backToKw cpos (keywordEach [] X.env)).all (fun x => x.1.isSome)
      && decide ((e :: es).length + ([] : List Keyword).length + (if ([] : List Keyword).isEmpty then 0 else 1) < 30)) = true := by rfl)
    (hline : (apos.endLine == cpos.line) = true := by rfl) (hs : starEach (e :: es) X.env = (false, eval e X.env) :: starEach es X.env := by rfl) (hplain : (backTo cpos (starEach es X.env)).any (·.1) = false := by rfl) :
    PE X (.Call (.Attribute o name apos) (e :: es) [] cpos) (tBM X.K T r to t) := by
  intro pins s σ H Q I h
  refine wpAny_Call_method_late hbase hfew hline rfl (thn (ho pins s σ H _ I h) fun v s1 hh => ?_)
  obtain ⟨x, H1, I1, r1, ty, q1⟩ := hh
  obtain ⟨h1, h2⟩ := tyV_is I1 r1 ty
  refine ⟨T, id, pa, slot, hty, h1, h2, ?_⟩
  have hA := ha cpos pins s1 σ H1 _ I1 q1
  rw [hs] at hA ⊢
  refine Calls.callWith_builtin (by show (false || (backTo cpos (starEach es X.env)).any (·.1)) = false; rw [hplain] <;> rfl) (Calls.evalArgs_plain ?_)
  exact thn hA fun us s2 ⟨vs, H2, I2, r2, q2⟩ => hm pins s2 σ H2 x vs v us Q I2 r1 r2 q2
end
end L2
namespace L2
open PySem PySem.Spec PyProof.Rows
def MtM (X : Cx) (id : String) (r : V → List V → Hp → VK → Prop) : Prop :=
  ∀ (pins : List (Addr × Obj)) (s : Shared) (σ : St) (H : Hp) (x : V) (xs : List V) (v : Value) (us : List Value) (Q : VK), Inv X pins σ H s → RelV x v → Vals xs us → r x xs H Q →
    wpAny (model X.prog X.w) X.A (call (.builtin id) (v :: us)) (EP X pins σ Q) X.xe s
theorem Vals.one {x : V} {us : List Value} (h : Vals [x] us) : ∃ u, us = [u] ∧ RelV x u := by
  cases h with
  | cons r t =>
    cases t
    exact ⟨_, rfl, r⟩
theorem Vals.two {x y : V} {us : List Value} (h : Vals [x, y] us) : ∃ u v, us = [u, v] ∧ RelV x u ∧ RelV y v := by
  cases h with
  | cons r t =>
    obtain ⟨v, rfl, q⟩ := Vals.one t
    exact ⟨_, _, rfl, r, q⟩
theorem Vals.zero : ∀ {us : List Value}, Vals [] us → us = []
  | _, .nil => rfl
theorem Vals.reverse {xs : List V} {us : List Value} (h : Vals xs us) : Vals xs.reverse us.reverse := by
  induction h with
  | nil => exact .nil
  | cons r t ih => rw [List.reverse_cons, List.reverse_cons]; exact Vals.append ih (.cons r .nil)
theorem Vals.rep {xs : List V} {us : List Value} (h : Vals xs us) : ∀ k : Nat, Vals (List.replicate k xs).flatten (List.replicate k us).flatten
  | 0 => .nil
  | k + 1 => by
    rw [List.replicate_succ, List.replicate_succ, List.flatten_cons, List.flatten_cons]
    exact Vals.append h (Vals.rep h k)
section
variable {X : Cx} {pins : List (Addr × Obj)} {σ : St} {H : Hp} {s : Shared} {l b : Addr} {xs ys zs : List V}
theorem Inv.lnew {its : List Value} {t' : Nat} (I : Inv X pins σ H s) (hv : Vals ys its) (hz : ys.length ≤ sizeLine) :
    Inv X pins σ (upd H s.heap.objs.size (.lst ys)) { s with heap := s.heap.push { cls := .type "list", data := .seq its.toArray }, toks := t' } :=
  I.laid (fun _ _ q => Heap.get?_push_of_some _ q) (Nat.le_refl _) ⟨hz, its, 0, hv, Heap.get?_push_size _ rfl⟩
theorem Inv.fresh (I : Inv X pins σ H s) : H s.heap.objs.size = none := I.hok.fresh (Nat.le_refl _)
end
section
variable {X : Cx}
end
section
variable {prog : Program} {w : World} {A : Around} {E : Value → Shared → Prop} {s : Shared}
end
section
variable {X : Cx}
end
end L2
namespace L2
open PySem PySem.Spec PyProof.Rows
section
variable {κ : Type} [DecidableEq κ]
def valV (kvs : List (κ × V)) (k : κ) : Option V := (kvs.find? fun kv => decide (kv.1 = k)).map (·.2)
def putK (kvs : List (κ × V)) (k : κ) (v : V) : List (κ × V) :=
  if (kvs.any fun kv => decide (kv.1 = k)) = true then kvs.map (fun kv => if kv.1 = k then (kv.1, v) else kv) else kvs ++ [(k, v)]
def dropK (kvs : List (κ × V)) (k : κ) : List (κ × V) := kvs.filter fun kv => decide (kv.1 ≠ k)
theorem valV_pos {p : κ × V} {r : List (κ × V)} {k : κ} (e : p.1 = k) : valV (p :: r) k = some p.2 := by simp [valV, List.find?_cons, e]
theorem valV_neg {p : κ × V} {r : List (κ × V)} {k : κ} (e : ¬ p.1 = k) : valV (p :: r) k = valV r k := by simp [valV, List.find?_cons, e]
theorem valV_any (k : κ) : ∀ kvs : List (κ × V), (kvs.any fun kv => decide (kv.1 = k)) = (valV kvs k).isSome
  | [] => rfl
  | p :: r => by
    rw [List.any_cons]
    by_cases e : p.1 = k
    · simp only [valV_pos e, decide_eq_true e, Bool.true_or, Option.isSome_some]
    · rw [valV_neg e, decide_eq_false e, Bool.false_or]; exact valV_any k r
theorem RelO.isSome_eq {o : Option V} {u : Option Value} (r : RelO o u) : o.isSome = u.isSome := by
  cases o with
  | none => cases u with
    | none => rfl
    | some _ => exact (show False from r).elim
  | some _ => cases u with
    | none => exact (show False from r).elim
    | some _ => rfl
theorem RelO.getD {o : Option V} {u : Option Value} {d : V} {d' : Value} (r : RelO o u) (rd : RelV d d') : RelV (o.getD d) (u.getD d') := by
  cases o with
  | none => cases u with
    | none => exact rd
    | some _ => exact (show False from r).elim
  | some _ => cases u with
    | none => exact (show False from r).elim
    | some _ => exact r
theorem KV.val {kvs : List (κ × V)} {vs : List (κ × Value)} (r : KV kvs vs) (k : κ) : RelO (valV kvs k) (valueAt vs k) := by
  unfold KV at r
  induction r with
  | nil => exact True.intro
  | @cons p q ps qs h t ih =>
    obtain ⟨h1, h2⟩ := h
    by_cases e : p.1 = k
    · have e' : q.1 = k := h1.symm.trans e
      have b : valueAt (q :: qs) k = some q.2 := by simp [valueAt, List.find?_cons, e']
      rw [valV_pos e, b]; exact h2
    · have e' : ¬ q.1 = k := fun z => e (h1.trans z)
      have b : valueAt (q :: qs) k = valueAt qs k := by simp [valueAt, List.find?_cons, e']
      rw [valV_neg e, b]; exact ih
theorem KV.any {kvs : List (κ × V)} {vs : List (κ × Value)} (r : KV kvs vs) (k : κ) : (kvs.any fun kv => decide (kv.1 = k)) = vs.any fun kv => decide (kv.1 = k) := by
  unfold KV at r
  induction r with
  | nil => rfl
  | cons h t ih => rw [List.any_cons, List.any_cons, ih, h.1]
theorem KV.repl {kvs : List (κ × V)} {vs : List (κ × Value)} (r : KV kvs vs) (k : κ) {y : V} {u : Value} (ry : RelV y u) :
    KV (kvs.map fun kv => if kv.1 = k then (kv.1, y) else kv) (vs.map fun kv => if kv.1 = k then (kv.1, u) else kv) := by
  unfold KV at r ⊢
  induction r with
  | nil => exact .nil
  | @cons p q ps qs h t ih =>
    rw [List.map_cons, List.map_cons]
    refine .cons ?_ ih
    obtain ⟨h1, h2⟩ := h
    by_cases e : p.1 = k
    · rw [if_pos e, if_pos (h1.symm.trans e)]; exact ⟨h1, ry⟩
    · rw [if_neg e, if_neg (fun z => e (h1.trans z))]; exact ⟨h1, h2⟩
theorem KV.put {kvs : List (κ × V)} {vs : List (κ × Value)} (r : KV kvs vs) (k : κ) {y : V} {u : Value} (ry : RelV y u) : KV (putK kvs k y) (stored vs k u) := by
  unfold putK stored
  rw [r.any k]
  by_cases e : (vs.any fun kv => decide (kv.1 = k)) = true
  · rw [if_pos e, if_pos e]; exact r.repl k ry
  · rw [if_neg e, if_neg e]; exact Paired.snoc r ⟨rfl, ry⟩
theorem KV.drop {kvs : List (κ × V)} {vs : List (κ × Value)} (r : KV kvs vs) (k : κ) : KV (dropK kvs k) (without vs k) := by
  unfold KV at r ⊢
  unfold dropK without
  induction r with
  | nil => exact .nil
  | @cons p q ps qs h t ih =>
    obtain ⟨h1, h2⟩ := h
    rw [List.filter_cons, List.filter_cons]
    by_cases e : p.1 = k
    · have a : ¬ decide (p.1 ≠ k) = true := by simp [e]
      have b : ¬ decide (q.1 ≠ k) = true := by simp [h1.symm.trans e]
      rw [if_neg a, if_neg b]; exact ih
    · have e' : ¬ q.1 = k := fun z => e (h1.trans z)
      have a : decide (p.1 ≠ k) = true := by simp [e]
      have b : decide (q.1 ≠ k) = true := by simp [e']
      rw [if_pos a, if_pos b]; exact .cons ⟨h1, h2⟩ ih
theorem KV.keys {kvs : List (κ × V)} {vs : List (κ × Value)} (r : KV kvs vs) : kvs.map (·.1) = vs.map (·.1) := by
  unfold KV at r
  induction r with
  | nil => rfl
  | cons h t ih => rw [List.map_cons, List.map_cons, ih, h.1]
theorem KV.length {kvs : List (κ × V)} {vs : List (κ × Value)} (r : KV kvs vs) : kvs.length = vs.length := Paired.length r
end
abbrev KT (H : Hp) : List (List Key × V) → List (List Key × Addr × Value) → Prop := Paired fun p q => p.1 = q.1 ∧ H q.2.1 = some (.tup (p.1.map kV)) ∧ RelV p.2 q.2.2
theorem KT.val {H : Hp} {kvs : List (List Key × V)} {xs : List (List Key × Addr × Value)} (r : KT H kvs xs) (k : List Key) : RelO (valV kvs k) ((atKey xs k).map (·.2)) := by
  induction r with
  | nil => exact True.intro
  | @cons p q ps qs h t ih =>
    obtain ⟨h1, _, h2⟩ := h
    by_cases e : p.1 = k
    · have e' : q.1 = k := h1.symm.trans e
      have b : atKey (q :: qs) k = some q.2 := by simp [atKey, List.find?_cons, e']
      rw [valV_pos e, b]; exact h2
    · have e' : ¬ q.1 = k := fun z => e (h1.trans z)
      have b : atKey (q :: qs) k = atKey qs k := by simp [atKey, List.find?_cons, e']
      rw [valV_neg e, b]; exact ih
theorem KT.repl {H : Hp} {kvs : List (List Key × V)} {xs : List (List Key × Addr × Value)} (r : KT H kvs xs) (k : List Key) {y : V} {u : Value} (ry : RelV y u) :
    KT H (kvs.map fun kv => if kv.1 = k then (kv.1, y) else kv) (xs.map (putAt k u)) := by
  induction r with
  | nil => exact .nil
  | @cons p q ps qs h t ih =>
    rw [List.map_cons, List.map_cons]
    refine .cons ?_ ih
    obtain ⟨h1, h2, h3⟩ := h
    unfold putAt
    by_cases e : p.1 = k
    · rw [if_pos e, if_pos (h1.symm.trans e)]; exact ⟨h1, h2, ry⟩
    · rw [if_neg e, if_neg (fun z => e (h1.trans z))]; exact ⟨h1, h2, h3⟩
theorem KT.put {H : Hp} {kvs : List (List Key × V)} {xs : List (List Key × Addr × Value)} (r : KT H kvs xs) (k : List Key) {b : Addr} {y : V} {u : Value} (hb : H b = some (.tup (k.map kV))) (ry : RelV y u) :
    KT H (putK kvs k y) (storedH xs k b u) := by
  have e : (kvs.any fun kv => decide (kv.1 = k)) = (atKey xs k).isSome := by
    rw [valV_any, (r.val k).isSome_eq, Option.isSome_map]
  unfold putK storedH
  rw [e]
  by_cases q : (atKey xs k).isSome = true
  · rw [if_pos q, if_pos q]; exact r.repl k ry
  · rw [if_neg q, if_neg q]; exact Paired.snoc r ⟨rfl, hb, ry⟩
theorem KT.keeps {H H' : Hp} {kvs : List (List Key × V)} {xs : List (List Key × Addr × Value)} (r : KT H kvs xs) (ht : ∀ b ys, H b = some (.tup ys) → H' b = some (.tup ys)) : KT H' kvs xs :=
  Paired.mapP r fun _ _ z => ⟨z.1, ht _ _ z.2.1, z.2.2⟩
section
variable {P : Program} {w : World} {H : Hp} {h : Heap} {a : Addr}
end
def DGet (H : Hp) (a : Addr) (y : V) (r : Option V) : Prop :=
  (∃ kvs k, Rd H a (.dK kvs) ∧ y = kV k ∧ r = valV kvs k) ∨ ∃ kvs k b, Rd H a (.dT kvs) ∧ y = .ref b ∧ H b = some (.tup (k.map kV)) ∧ r = valV kvs k
def DPut (H : Hp) (a : Addr) (y v : V) (H' : Hp) : Prop :=
  (∃ kvs k, H a = some (.dK kvs) ∧ y = kV k ∧ kvs.length < sizeLine ∧ H' = upd H a (.dK (putK kvs k v))) ∨
  ∃ kvs k b, H a = some (.dT kvs) ∧ y = .ref b ∧ H b = some (.tup (k.map kV)) ∧ kvs.length < sizeLine ∧ H' = upd H a (.dT (putK kvs k v))
theorem DGet.k {H : Hp} {a : Addr} {kvs : List (Key × V)} {k : Key} (e : H a = some (.dK kvs)) : DGet H a (kV k) (valV kvs k) := .inl ⟨kvs, k, .inl e, rfl, rfl⟩
theorem DGet.t {H : Hp} {a b : Addr} {kvs : List (List Key × V)} {k : List Key} (e : H a = some (.dT kvs)) (eb : H b = some (.tup (k.map kV))) : DGet H a (.ref b) (valV kvs k) := .inr ⟨kvs, k, b, .inl e, rfl, eb, rfl⟩
theorem DPut.k {H : Hp} {a : Addr} {kvs : List (Key × V)} {k : Key} {v : V} (e : H a = some (.dK kvs)) (hl : kvs.length < sizeLine) : DPut H a (kV k) v (upd H a (.dK (putK kvs k v))) := .inl ⟨kvs, k, e, rfl, hl, rfl⟩
theorem DPut.t {H : Hp} {a b : Addr} {kvs : List (List Key × V)} {k : List Key} {v : V} (e : H a = some (.dT kvs)) (eb : H b = some (.tup (k.map kV))) (hl : kvs.length < sizeLine) :
    DPut H a (.ref b) v (upd H a (.dT (putK kvs k v))) := .inr ⟨kvs, k, b, e, rfl, eb, hl, rfl⟩
section
variable {X : Cx} {pins : List (Addr × Obj)} {σ : St} {H : Hp} {s : Shared} {a : Addr} {y v : V} {u r : Value} {o : Option V} {A : Around} {E : Value → Shared → Prop}
theorem Inv.big (I : Inv X pins σ H s) : sysModules < s.heap.objs.size := by
  have h : mainGlobals < s.heap.objs.size := (I.mod.glob.keeps I.bk).lt
  exact Nat.lt_trans (by decide) h
theorem d_write {h' : Heap} {t' : Nat} {ob : HO} (I : Inv X pins σ H s) (mu : Mut (H a)) (hs : Heap.SameBut a s.heap h') (he : ∃ q, h'.get? a = some q) (new : ObjOk X.prog X.w (upd H a ob) h' a ob) :
    Inv X pins σ (upd H a ob) { s with heap := h', toks := t' } :=
  I.write (x := a) (e := a) mu (.inl rfl) (fun b q hb z => (hs.2 b hb).trans z) he new
end
section
variable {X : Cx} {pins : List (Addr × Obj)} {σ : St} {H : Hp} {s : Shared} {a : Addr} {kvs : List (Key × V)} {k : Key} {u : Value} {A : Around} {E : Value → Shared → Prop}
end
section
variable {X : Cx} {o i e value : Expr} {pos pos' tpos : Pos} {td ty tv : TE}
end
section
variable {X : Cx} {pos : Pos}
end
structure M1 (X : Cx) (o : Expr) (m : Str) (apos : Pos) (e : Expr) (cpos : Pos) : Prop where
  base : attributeBase o m X.env (eval o X.env) = eval o X.env
  few : ((backTo cpos (starEach [e] X.env)).all (fun x => !x.1) && (backToKw cpos (keywordEach [] X.env)).all (fun x => x.1.isSome)
    && decide (([e] : List Expr).length + ([] : List Keyword).length + (if ([] : List Keyword).isEmpty then 0 else 1) < 30)) = true
  line : (apos.endLine == cpos.line) = true
  trees : backTo cpos (starEach [e] X.env) = [(false, eval e X.env)]
structure M2 (X : Cx) (o : Expr) (m : Str) (apos : Pos) (e f : Expr) (cpos : Pos) : Prop where
  base : attributeBase o m X.env (eval o X.env) = eval o X.env
  few : ((backTo cpos (starEach [e, f] X.env)).all (fun x => !x.1) && (backToKw cpos (keywordEach [] X.env)).all (fun x => x.1.isSome)
    && decide (([e, f] : List Expr).length + ([] : List Keyword).length + (if ([] : List Keyword).isEmpty then 0 else 1) < 30)) = true
  line : (apos.endLine == cpos.line) = true
  trees : backTo cpos (starEach [e, f] X.env) = [(false, eval e X.env), (false, eval f X.env)]
section
variable {X : Cx} {pins : List (Addr × Obj)} {σ : St} {H : Hp} {s : Shared} {a : Addr} {y d : V} {u r : Value} {o : Option V} {A : Around} {E : Value → Shared → Prop}
end
section
variable {X : Cx} {o e f : Expr} {apos cpos : Pos} {td ty tx : TE}
end
section
variable {X : Cx} {pins : List (Addr × Obj)} {σ : St} {H : Hp} {s : Shared} {a : Addr} {kvs : List (Key × V)} {A : Around} {E : Value → Shared → Prop}
end
section
variable {X : Cx} {pins : List (Addr × Obj)} {σ : St} {H : Hp} {s : Shared} {a : Addr} {y : V} {u : Value} {A : Around} {E : Value → Shared → Prop}
end
end L2
namespace Att
open PySem PySem.W PySem.Calls PyProof.Rows
theorem ints_of_wellAll {P : Params} {h : Heap} : ∀ (ns : List Int) (vs : List Value), WellAll P h vs (ns.map WData.int) → IntsAre vs ns := by
  intro ns
  induction ns with
  | nil =>
    intro vs w
    rw [List.map_nil] at w
    cases w
    exact .nil
  | cons n ns ih =>
    intro vs w
    rw [List.map_cons] at w
    cases w with
    | cons a b =>
      cases a
      exact .cons _ _ (ih _ b)
theorem script_of {l : OpenLaw} {n : Nat} (hn : l.most = some n) {P : Params} {h : Heap} {args : List WData} {vals : List Value}
    (hpre : l.row.toRowW.claim.pre args = true) (hwl : WellAll P h vals args) :
    ∃ a vs ns, vals = [Value.ref a] ∧ args = [WData.list (ns.map WData.int)] ∧ h.get? a = some { cls := .type "list", data := .seq vs.toArray } ∧ IntsAre vs ns ∧ ns.length ≤ n := by
  have hsh : WShape.hasAll [] args [.list .int] = true := (pre_splitW hpre).1
  have hc : l.pre.holds [] { args := args } = true := (pre_splitW hpre).2
  obtain ⟨d, r, rfl, h1, h2⟩ := hasAllW_cons hsh
  obtain rfl := hasAllW_nil h2
  obtain ⟨xs, rfl, h3⟩ := hasW_list h1
  obtain ⟨ns, rfl⟩ := items_int h3
  have hlen : ns.length ≤ n := by
    unfold OpenLaw.pre at hc
    have h4 : (WTm.not (.lt (.lit (.int (n : Int))) (.len (.arg 0)))).holds [] { args := [.list (ns.map .int)] } = true := by
      have h4 := (holds_andW hc).1
      rw [hn] at h4
      exact h4
    have h5 := condW_of h4 (w_not (w_lt w_lit (w_len_list (w_arg rfl))))
    rw [List.length_map] at h5
    refine Nat.le_of_not_lt fun q => ?_
    have q' : (n : Int) < ((ns.length : Nat) : Int) := by omega
    first
      | (rw [decide_eq_true q'] at h5; exact absurd h5 (by decide))
      | (simp at h5; omega)
  cases hwl with
  | cons w1 w2 =>
    cases w2
    cases w1 with
    | list ho hall => exact ⟨_, _, ns, rfl, rfl, ho, ints_of_wellAll ns _ hall, hlen⟩
theorem post_true (l : OpenLaw) (args : List WData) : l.row.toRowW.claim.post args (.bool true) args = true :=
  postW_of (r := l.row.toRowW) (X := (true == true))
    (show WShape.has [] (.bool true) .bool = true by first | rfl | decide | simp [WShape.has, WShape.arms, WShape.armsAll])
    (show (WTm.eq .res (.lit (.bool true))).value [] { args := args, res := some (.bool true), after := args } = some (.bool (true == true)) from w_eq_bool (w_res rfl) w_lit) rfl
theorem attach_call {l : OpenLaw} {n : Nat} {q : Program} {loose : List Str} {XP : (Str → Option Value) → Heap → Prop} {YP : World → Heap → Prop} {d : DefRec}
    (hn : l.most = some n) (hdf : d.params.defaults = [])
    (call : ∀ (w : World) (s₀ s₁ : Shared) (mg mb : Str → Option Value) (fa : Addr) (o : Obj) (pm cd doc : Value) (a : Addr) (vs : List Value) (ns : List Int),
      Ground q loose [] XP w s₀ mg mb s₁.heap → YP w s₁.heap →
      s₁.heap.get? fa = some o → o.data = .func (docDef d.name d.params d.body d.scope pm cd doc) → s₁.heap.CodeRec cd d.name → mg d.name = some (.ref fa) →
      s₁.heap.get? a = some { cls := .type "list", data := .seq vs.toArray } → IntsAre vs ns → ns.length ≤ n → s₁.gens = #[] →
      codeAny (model l.prog w) callerA (.call (.ref fa) ⟨[.ref a], []⟩) (fun r s' => r = .ok (.ret (.bool true)) ∧ OldK s₁.heap s'.heap ∧ s'.os = s₁.os ∧ AllBare s'.gens) s₁) :
    WalkO q loose XP YP l.row.toRowW d [] (fun f vs => PySem.call f vs) := by
  intro w s₀ s₁ mg mb G Y fa o pm cd doc dV kV ho hd hcd hD hmg hg args vals as hpre hlay hrd hwl hlo
  obtain rfl : dV = .none := Dflts.none hD hdf
  obtain rfl : kV = .none := Dflts.noKw hD
  obtain ⟨a, vs, ns, rfl, rfl, hobj, hints, hlen⟩ := script_of hn hpre hwl
  refine enter_call (codeAny_mono (call w s₀ s₁ mg mb fa o pm cd doc a vs ns G Y ho (fd_plain hd) hcd hmg hobj hints hlen hg) fun r s' hq => ?_)
  obtain ⟨rfl, h2, h3, h4⟩ := hq
  exact ⟨.inl ⟨.bool true, .bool true, [], rfl, fun _ => rfl, .bool true, post_true l _, fun _ => ⟨List.Pairwise.nil, fun _ hm => (nomatch hm)⟩⟩, h2, h3, h4⟩
section
variable {prog : Program} {w : World} {A : Around} {E : Value → Shared → Prop} {s : Shared} {K : Frag}
end
end Att
namespace L2
open PySem PySem.Spec PyProof.Rows
theorem vals_ints : ∀ {vs : List Value} {ns : List Int}, IntsAre vs ns → Vals (ns.map V.int) vs
  | _, _, .nil => .nil
  | _, _, .cons n t h => .cons ⟨t, rfl⟩ (vals_ints h)
def Only (H : Hp) : Prop := ∀ b, H b = none ∨ ∃ o xs, H b = some (.frz o (.lst xs))
theorem law_call {P : Program} {w : World} {K : PySem.W.Frag} {mg mb : Str → Option Value} {CX : CXT} {k : Nat} {fa a : Addr} {fd : FuncData} {x : Str} {sp : Sp} {s₁ : Shared} {vs : List Value} {ns : List Int}
    (KX : K.In s₁.heap) (hns : s₁.heap.Ns mainGlobals mg) (hb : s₁.heap.Ns builtinsNs mb) (hbb : ∀ x : Str, x ≠ "__name__" → mb x = bootBuiltins x) (hlim : s₁.heap.NoLimit) (hg : s₁.gens = #[])
    (ha : s₁.heap.get? a = some { cls := .type "list", data := .seq vs.toArray }) (hi : IntsAre vs ns) (hl : ns.length ≤ sizeLine) (hr : Room k callerA)
    (F : ∀ base : Heap, K.In base → base.Ns mainGlobals mg → FnOk P w K mg base CX k fa fd [x] sp) (hbind : ∀ (s : Shared) (u : Value), BindsTo s fd ⟨[u], []⟩ [(x, u)])
    (hsp : ∀ H : Hp, Only H → SqL K H a (ns.map V.int) → sp [.ref a] H (fun v _ => v = .bl true) fun _ _ _ => False)
    (hCX : ∀ H e s', CX [] H s₁ (fun _ _ _ => False) e s' → False) :
    codeAny (model P w) callerA (.call (.ref fa) ⟨[.ref a], []⟩) (fun r s' => r = .ok (.ret (.bool true)) ∧ OldK s₁.heap s'.heap ∧ s'.os = s₁.os ∧ AllBare s'.gens) s₁ := by
  have rv := vals_ints hi
  have lenV := hi.length
  have core : ∀ H : Hp, Only H → SqL K H a (ns.map V.int) → HOk P w H s₁.heap → (∀ b, H b ≠ none → b = a) → (H a ≠ none → K.lookup a = none) →
      codeAny (model P w) callerA (.call (.ref fa) ⟨[.ref a], []⟩) (fun r s' => r = .ok (.ret (.bool true)) ∧ OldK s₁.heap s'.heap ∧ s'.os = s₁.os ∧ AllBare s'.gens) s₁ := by
    intro H hO hS hok hA hK
    have base_of : ∀ {b : Addr} {o : Obj}, s₁.heap.get? b = some o → H b = none → (hidT s₁.heap H).get? b = some o := fun e n => hidT_get e n
    have noA : ∀ {b : Addr} {o : Obj} {es : Array DictEntry} {ep : Nat}, s₁.heap.get? b = some o → o.data = .dict es ep → H b = none := fun {b o es ep} e d => by
      cases q : H b with
      | none => rfl
      | some u =>
        have e' : b = a := hA b (by rw [q]; simp)
        subst e'
        rw [ha] at e; cases e
        have d' : Data.seq vs.toArray _ = Data.dict es ep := d
        cases d'
    have nsK : ∀ {b : Addr} {m : Str → Option Value}, s₁.heap.Ns b m → (hidT s₁.heap H).Ns b m := fun {b m} ⟨o, es, ep, e, d, r⟩ => ⟨o, es, ep, base_of e (noA e d), d, r⟩
    have hKb : K.In (hidT s₁.heap H) := fun b o e => base_of (KX b o e) (by
      cases q : H b with
      | none => rfl
      | some u =>
        have e' : b = a := hA b (by rw [q]; simp)
        subst e'
        rw [hK (by rw [q]; simp)] at e; cases e)
    have hM : Mod K mg (hidT s₁.heap H) := ⟨hKb, nsK hns, ⟨mb, nsK hb, hbb⟩, let ⟨mc, h1, h2⟩ := hlim; ⟨mc, nsK h1, h2⟩⟩
    have e0 : Env0 P w K mg (hidT s₁.heap H) callerA [] s₁ H := ⟨rfl, hM, fun b o e => of_hidT e, Nat.le_of_eq (hidT_size _ _), trivial, fun b hb => absurd (show b ∈ ([] : List Addr) from hb) (by simp), hok, .of_eq hg⟩
    refine codeAny_mono ((F _ hKb (nsK hns)).run callerA [] s₁ H ⟨[.ref a], []⟩ [.ref a] [.ref a] _ _ hr e0 (hbind s₁ (.ref a)) (.cons rfl .nil) (hsp H hO hS)) fun r s' h => ?_
    cases r with
    | error e => exact (hCX H e s' h).elim
    | ok fl =>
      cases fl with
      | next => exact False.elim h
      | brk => exact False.elim h
      | cont => exact False.elim h
      | ret u =>
        obtain ⟨v, H', os, bare, un, hok', r', q⟩ := h
        have q' : v = .bl true := q
        subst q'
        obtain rfl : u = Value.bool true := r'
        refine ⟨rfl, OldK.of_keep fun b o e => ?_, os, bare⟩
        cases q : H b with
        | none => exact un.keep b o e q (by intro z; exact absurd (show b ∈ ([] : List Addr) from z) (by simp)) (by simp)
        | some u =>
          rcases hO b with z | ⟨ob, xs, z⟩
          · rw [q] at z; cases z
          · have z2 := un.frzs b ob _ z
            obtain ⟨e1, _⟩ := hok b _ z
            obtain ⟨e2, _⟩ := hok' b _ z2
            rw [e] at e1; cases e1
            exact e2
  cases hk : K.lookup a with
  | some o =>
    have e := KX a o hk
    rw [ha] at e
    cases e
    refine core (fun _ => none) (fun _ => .inl rfl) (.inr ⟨_, vs.toArray, _, hk, rfl, rfl, rfl, by rw [List.size_toArray, lenV]; exact hl, by simpa using rv⟩) (fun b u z => by have z' : (none : Option HO) = some u := z; cases z') (fun b z => absurd rfl z) fun z => absurd rfl z
  | none =>
    refine core (fun b => if b = a then some (.frz { cls := .type "list", data := .seq vs.toArray } (.lst (ns.map V.int))) else none) (fun b => ?_) (.inl (.inr ⟨{ cls := .type "list", data := .seq vs.toArray }, if_pos rfl⟩)) (fun b u z => ?_) (fun b z => ?_) fun _ => hk
    · by_cases hb : b = a
      · exact .inr ⟨_, _, if_pos hb⟩
      · exact .inl (if_neg hb)
    · by_cases hb : b = a
      · have z' := (if_pos hb).symm.trans z
        cases z'
        subst hb
        exact ⟨ha, by rw [List.length_map]; exact hl, vs, _, rv, ha⟩
      · have z' := (if_neg hb).symm.trans z
        cases z'
    · by_cases hb : b = a
      · exact hb
      · exact absurd (if_neg hb) z
end L2
namespace L2
open PySem PySem.Spec PyProof.Rows
theorem walk_of {l : PySem.W.OpenLaw} {n k : Nat} {q : Program} {loose : List Str} {XP : (Str → Option Value) → Heap → Prop} {YP : World → Heap → Prop} {d : DefRec} {K : Params → PySem.W.Frag} {CX : World → CXT} {sp : World → Sp} {x : Str}
    (hn : l.most = some n) (hn2 : n ≤ sizeLine) (hdf : d.params.defaults = []) (hr : Room k callerA)
    (hY : ∀ (w : World) (h : Heap), YP w h → (K w.params).In h)
    (F : ∀ (w : World) (mg : Str → Option Value) (fa : Addr) (h : Heap), (K w.params).In h → h.Ns mainGlobals mg → mg d.name = some (.ref fa) →
      ∃ fd : FuncData, (∀ (s : Shared) (u : Value), BindsTo s fd ⟨[u], []⟩ [(x, u)]) ∧
        ∀ base : Heap, (K w.params).In base → base.Ns mainGlobals mg → FnOk l.prog w (K w.params) mg base (CX w) k fa fd [x] (sp w))
    (hsp : ∀ (w : World) (H : Hp) (a : Addr) (ns : List Int), ns.length ≤ n → Only H → SqL (K w.params) H a (ns.map V.int) → sp w [.ref a] H (fun v _ => v = .bl true) fun _ _ _ => False)
    (hCX : ∀ (w : World) (H : Hp) (s : Shared) (e : Value) (s' : Shared), CX w [] H s (fun _ _ _ => False) e s' → False) :
    PySem.W.WalkO q loose XP YP l.row.toRowW d [] (fun f vs => PySem.call f vs) := by
  refine Att.attach_call hn hdf fun w s₀ s₁ mg mb fa o pm cd doc a vs ns G Y ho hd hcd hmg hobj hints hlen hg => ?_
  have KX := hY w _ Y
  obtain ⟨fd, hb, hF⟩ := F w mg fa _ KX G.T.g hmg
  exact law_call KX G.T.g G.T.b G.T.builtins G.T.nolimit hg hobj hints (Nat.le_trans hlen hn2) hr hF hb (fun H hO hS => hsp w H a ns hlen hO hS) fun H e s' => hCX w H s₁ e s'
end L2
namespace L2
open PySem PySem.Spec PyProof.Rows
def inClass (s : Stmt) (j : Nat) : Stmt := match s with
  | .ClassDef _ _ _ body _ _ _ _ _ _ _ => body.getD j (.Pass ⟨0, 0, 0, 0⟩)
  | _ => .Pass ⟨0, 0, 0, 0⟩
def defArgs (s : Stmt) : Arguments := match s with
  | .FunctionDef _ a _ _ _ _ _ _ _ _ => a
  | _ => { posonlyargs := [], args := [], vararg := none, kwonlyargs := [], kw_defaults := [], kwarg := none, defaults := [] }
def defBody (s : Stmt) : List Stmt := match s with
  | .FunctionDef _ _ b _ _ _ _ _ _ _ => b
  | _ => []
def defScope (s : Stmt) : Scope := match s with
  | .FunctionDef _ _ _ _ _ _ sc _ _ _ => sc
  | _ => { kind := .function, names := [], isGenerator := false, isCoroutine := false }
abbrev CX0 : CXT := fun _ _ _ _ _ _ => False
abbrev E0 : XK := fun _ _ _ => False
theorem pass0 {X : Cx} : Passes CX0 X E0 := fun _ _ _ _ _ _ _ h => h.elim
structure Fun (K : PySem.W.Frag) (x qual : Str) (st : Stmt) (f : Addr) (fd : FuncData) : Prop where
  ex : ∃ (oc : Value) (od : Option Addr) (kV doc pm : Value) (an : Option Addr) (cdv ct : Value) (osl : Array (Option Value)),
    fd = PySem.W.fnOf x qual (defArgs st) (defBody st) (defScope st) .none kV doc pm an cdv ct ∧ K.lookup f = some ⟨oc, od, .func fd, osl⟩ ∧ PySem.W.codeIn K cdv qual = true
  kp : PySem.W.keepIn K (.ref f) = true
section
variable {P : Program} {w : World} {K : PySem.W.Frag} {mg : Str → Option Value} {base : Heap}
theorem Fun.ok {x qual : Str} {st : Stmt} {f : Addr} {fd : FuncData} {N ps : List Str} {k : Nat} {sp : Sp} (F : Fun K x qual st f fd) (S : FnScope N ps (defScope st)) (len : ∀ vs H Q E, sp vs H Q E → vs.length = ps.length)
    (hbody : ∀ (cdv : Value) (A : Around) (outer : List Env) (s : Shared) (H : Hp) (vs : List V) (Q : VK) (E : XK), Room k (A.deeper (envOfC qual (defScope st) s.heap.objs.size f cdv)) → sp vs H Q E →
      ∃ t, PSs (cxOf CX0 P w K mg base N qual (defScope st) f cdv A outer s H E).nox (defBody st) t ∧ t { nx := fun _ H' => Q .non H', rt := Q } (start N vs) H) : FnOk P w K mg base CX0 (k + 1) f fd ps sp := by
  obtain ⟨oc, od, kV, doc, pm, an, cdv, ct, osl, rfl, lk, hcd⟩ := F.ex
  refine fn_of lk hcd S len fun A outer s H vs Q E hr hsp => ?_
  obtain ⟨t, h, q⟩ := hbody cdv A outer s H vs Q E hr hsp
  exact ⟨t, h.nox, q⟩
theorem Fun.binds {x qual : Str} {st : Stmt} {f : Addr} {fd : FuncData} {ps : List Str} (F : Fun K x qual st f fd)
    (h : ∀ (kV doc pm : Value) (an : Option Addr) (cdv ct : Value) (us : List Value), us.length = ps.length → bindArgs (PySem.W.fnOf x qual (defArgs st) (defBody st) (defScope st) .none kV doc pm an cdv ct) ⟨us, []⟩ = pure (ps.zip us)) : Binds K fd ps [] := by
  obtain ⟨oc, od, kV, doc, pm, an, cdv, ct, osl, rfl, lk, hcd⟩ := F.ex
  exact .all (h kV doc pm an cdv ct)
theorem fun_mk {x qual : Str} {st : Stmt} {f : Addr} {oc : Value} {od an : Option Addr} {osl : Array (Option Value)} {kV doc pm cdv ct : Value} (l : K.lookup f = some ⟨oc, od, .func (PySem.W.fnOf x qual (defArgs st) (defBody st) (defScope st) .none kV doc pm an cdv ct), osl⟩)
    (c : PySem.W.codeIn K cdv qual = true) (k : PySem.W.keepIn K (.ref f) = true) : Fun K x qual st f (PySem.W.fnOf x qual (defArgs st) (defBody st) (defScope st) .none kV doc pm an cdv ct) := ⟨⟨oc, od, kV, doc, pm, an, cdv, ct, osl, rfl, l, c⟩, k⟩
end
theorem hu_of {A : Around} {k : Nat} (hr : Room k A) : A.units + 1 < cLine := Nat.lt_of_le_of_lt (Nat.add_le_add_left (by decide : 1 ≤ 64) _) hr.units
section
variable {X : Cx}
theorem pv (i : Nat) {x : Str} {pos : Pos} (hN : X.N[i]? = some x := by rfl) (hv : Vis X.env.scope x := by first | exact Or.inl rfl | exact Or.inr (Or.inl rfl) | exact Or.inr (Or.inr rfl)) (hd : (x == ("__debug__" : Str)) = false := by decide)
    (hcd : (x == ("__classdict__" : Str)) = false := by decide) : PE X (.Name x pos) (tVar i) := pe_var hN hv hd hcd
end
theorem iteF {A B : Prop} (h : B) : if false = true then A else B := by
  rw [if_neg Bool.false_ne_true]
  exact h
theorem iteT {A B : Prop} (h : A) : if true = true then A else B := by
  rw [if_pos rfl]
  exact h
def Same (H H' : Hp) : Prop := ∀ b o, H b = some o → H' b = some o
theorem Same.refl (H : Hp) : Same H H := fun _ _ h => h
theorem Same.trans {H H1 H2 : Hp} (a : Same H H1) (b : Same H1 H2) : Same H H2 := fun c o h => b c o (a c o h)
theorem Same.free {H H' : Hp} (e : Same H H') {l : Addr} (h : H' l = Option.none) : H l = Option.none := by
  cases q : H l with
  | none => rfl
  | some o =>
    rw [e l o q] at h
    cases h
theorem Same.seq {K : PySem.W.Frag} {H H' : Hp} {a : Addr} {xs : List V} (e : Same H H') (h : SqL K H a xs) : SqL K H' a xs := by
  rcases h with (h | ⟨o, h⟩) | h
  · exact .inl (.inl (e _ _ h))
  · exact .inl (.inr ⟨o, e _ _ h⟩)
  · exact .inr h
section
variable {κ : Type} [DecidableEq κ]
end
end L2
set_option Elab.async false
set_option linter.all false
set_option maxRecDepth 100000
set_option maxHeartbeats 4000000
namespace L2
open PySem PySem.Spec PyProof.Rows
def PTs (X : Cx) (ifs : List Expr) (t : TT) : Prop :=
  ∀ (pins : List (Addr × Obj)) (s : Shared) (σ : St) (H : Hp) (Q : Bool → Hp → Prop), Inv X pins σ H s → t σ H Q →
    wpAny (model X.prog X.w) X.A (forIn ifs true fun c r => if r = true then do let ok ← isTrue c X.env (eval c X.env); pure (ForInStep.yield ok) else pure (ForInStep.yield r)) (TP X pins σ Q) X.xe s
end L2
set_option Elab.async false
set_option linter.all false
set_option maxRecDepth 100000
set_option maxHeartbeats 4000000
namespace L2
open PySem PySem.Spec PyProof.Rows
theorem Inv.track {X : Cx} {pins : List (Addr × Obj)} {σ : St} {H : Hp} {s : Shared} {a : Addr} {o : HO} (I : Inv X pins σ H s) (hn : H a = none) (hy : X.s₀.heap.objs.size ≤ a) (hL : a ≠ X.env.locals) (hC : ∀ x c, X.env.cells.lookup x = some c → c ≠ a)
    (hP : ∀ p ∈ X.pn ++ pins, p.1 ≠ a) (new : ObjOk X.prog X.w (upd H a o) s.heap a o) : Inv X pins σ (upd H a o) s := by
  refine ⟨I.ok, I.os, I.bare, ⟨I.base.keep, I.base.slot, fun b ob e n hx => ?_, I.base.there, fun b xs e => ?_, fun b ob u e => ?_, fun b ps e => ?_⟩, I.loc, I.cell, ?_, fun x c e => ?_, fun p hp => ?_, fun b u e => ?_, I.len⟩
  · rw [upd_ne (Nat.ne_of_lt (Nat.lt_of_lt_of_le (Heap.lt_size e) hy))]
    exact I.base.free b ob e n hx
  · have z := I.base.tups b xs e
    rw [upd_ne (ne_of_none z hn)]; exact z
  · have z := I.base.frzs b ob u e
    rw [upd_ne (ne_of_none z hn)]; exact z
  · obtain ⟨m, z⟩ := I.base.tbls b ps e
    exact ⟨m, by rw [upd_ne (ne_of_none z hn)]; exact z⟩
  · rw [upd_ne (Ne.symm hL)]; exact I.free
  · rw [upd_ne (hC x c e)]; exact I.freeC x c e
  · obtain ⟨e, n, r⟩ := I.pin p hp
    exact ⟨e, by rw [upd_ne (hP p hp)]; exact n, r⟩
  · by_cases hb : b = a
    · subst hb; rw [upd_same] at e; cases e; exact new
    · rw [upd_ne hb] at e
      exact (I.hok b u e).stay (fun c v _ q => q) (fun c q => by rw [upd_ne (ne_of_none q hn)]; exact q) fun c xs q => by rw [upd_ne (ne_of_none q hn)]; exact q
structure CompOk (X : Cx) (scope : Scope) (M : List Str) (k : Nat) (cap : List Nat) : Prop where
  kind : scope.kind = .function
  cell : ∀ y ∈ scope.names, y.2 ≠ .cell
  free : ∀ y ∈ scope.names, y.2 = .free → X.env.kindOf y.1 = some .cell ∨ X.env.kindOf y.1 = some .free
  names : ∀ y ∈ scope.names, y.2 = .local → scope.names.lookup y.1 = some .local
  len : M.length = k + cap.length
  caps : ∀ (j i : Nat) (x : Str), cap[j]? = some i → M[k + j]? = some x → X.N[i]? = some x ∧ scope.names.lookup x = some .free
section
variable {X : Cx} {pins : List (Addr × Obj)} {σ : St} {tg elt iter : Expr} {ifs : List Expr} {scope : Scope} {pos : Pos} {M : List Str} {k : Nat} {cap : List Nat} {g : TG} {tt : TT} {te : TE}
end
end L2
set_option Elab.async false
set_option linter.all false
set_option maxRecDepth 100000
set_option maxHeartbeats 4000000
namespace L2
open PySem PySem.Spec PyProof.Rows
def chr1 (c : Nat) : Str := ⟨#[c]⟩
def compOkB (names outer : List (Str × NameKind)) (N M : List Str) (k : Nat) (cap : List Nat) : Bool :=
  names.all (fun y => y.2 != .cell) && (names.all (fun y => y.2 != .free || (outer.lookup y.1 == some .cell || outer.lookup y.1 == some .free)) && (names.all (fun y => y.2 != .local || names.lookup y.1 == some .local) &&
    (M.length == k + cap.length && (List.range cap.length).all (fun j => match cap[j]?, M[k + j]? with | some i, some x => N[i]? == some x && names.lookup x == some .free | _, _ => true))))
theorem CompOk.of {X : Cx} {scope : Scope} {M : List Str} {k : Nat} {cap : List Nat} (outer : List (Str × NameKind)) (N : List Str) (h : compOkB scope.names outer N M k cap = true) (ho : X.env.scope.names = outer := by rfl) (hN : X.N = N := by rfl) (hk : scope.kind = .function := by rfl) : CompOk X scope M k cap := by
  unfold compOkB at h
  simp only [Bool.and_eq_true, List.all_eq_true, Bool.or_eq_true, bne_iff_ne, ne_eq, beq_iff_eq] at h
  obtain ⟨h1, h2, h3, h4, h5⟩ := h
  refine ⟨hk, h1, fun y hy e => ?_, fun y hy e => ?_, h4, fun j i x e1 e2 => ?_⟩
  · rcases h2 y hy with z | z
    · exact absurd e z
    · show X.env.scope.names.lookup y.1 = _ ∨ X.env.scope.names.lookup y.1 = _
      rw [ho]; exact z
  · rcases h3 y hy with z | z
    · exact absurd e z
    · exact z
  · have hj : j < cap.length := (List.getElem?_eq_some_iff.mp e1).1
    have := h5 j (List.mem_range.mpr hj)
    rw [e1, e2] at this
    simp only [Bool.and_eq_true, beq_iff_eq] at this
    rw [hN]; exact this
section
variable {X : Cx}
def KindIs (K : PySem.W.Frag) (H : Hp) : V → String → Prop
  | .non, n => n = "NoneType"
  | .bl _, n => n = "bool"
  | .int _, n => n = "int"
  | .str _, n => n = "str"
  | .ref a, n => (n = "list" ∧ ∃ xs, SqL K H a xs) ∨ (n = "tuple" ∧ ∃ xs, SqT K H a xs)
  | _, _ => False
def isiB (k T : String) : Bool := k == T || (k == "bool" && T == "int")
theorem call_isi : CallR X (.builtin "isinstance") (fun xs H Q => ∃ x k T, xs = [x, .ty T] ∧ KindIs X.K H x k ∧ (T = "int" ∨ T = "str" ∨ T = "bool" ∨ T = "list" ∨ T = "tuple") ∧ Q (.bl (isiB k T)) H) := by
  intro pins s σ H xs us Q I r h
  obtain ⟨x, k, T, rfl, hk, hT, q⟩ := h
  obtain ⟨u, w', rfl, rx, ry⟩ := vals2 r
  cases ry
  have fin : ∀ b, b = isiB k T → EP X pins σ Q (.bool b) s := fun b e => fin_bl I q e.symm
  have fin' : ∀ b, b = isiB k T → EP X pins σ Q (.bool b) { s with toks := s.toks + 1 } := fun b e => fin_bl (I.tok _) q e.symm
  cases x with
  | non =>
    cases rx
    have hk : k = "NoneType" := hk
    subst hk
    rcases hT with rfl | rfl | rfl | rfl | rfl
    · exact IsiPair.NoneType_int (fin' _ (by decide))
    · exact IsiPair.NoneType_str (fin' _ (by decide))
    · exact IsiPair.NoneType_bool (fin' _ (by decide))
    · exact IsiPair.NoneType_list (fin' _ (by decide))
    · exact IsiPair.NoneType_tuple (fin' _ (by decide))
  | bl b =>
    cases rx
    have hk : k = "bool" := hk
    subst hk
    rcases hT with rfl | rfl | rfl | rfl | rfl
    · exact IsiPair.bool_int (fin _ (by decide))
    · exact IsiPair.bool_str (fin' _ (by decide))
    · exact IsiPair.bool_bool (fin _ (by decide))
    · exact IsiPair.bool_list (fin' _ (by decide))
    · exact IsiPair.bool_tuple (fin' _ (by decide))
  | int i =>
    obtain ⟨t, rfl⟩ := rx
    have hk : k = "int" := hk
    subst hk
    rcases hT with rfl | rfl | rfl | rfl | rfl
    · exact IsiPair.int_int (fin _ (by decide))
    · exact IsiPair.int_str (fin' _ (by decide))
    · exact IsiPair.int_bool (fin' _ (by decide))
    · exact IsiPair.int_list (fin' _ (by decide))
    · exact IsiPair.int_tuple (fin' _ (by decide))
  | str z =>
    obtain ⟨t, rfl⟩ := rx
    have hk : k = "str" := hk
    subst hk
    rcases hT with rfl | rfl | rfl | rfl | rfl
    · exact IsiPair.str_int (fin' _ (by decide))
    · exact IsiPair.str_str (fin _ (by decide))
    · exact IsiPair.str_bool (fin' _ (by decide))
    · exact IsiPair.str_list (fin' _ (by decide))
    · exact IsiPair.str_tuple (fin' _ (by decide))
  | ref a =>
    cases rx
    rcases hk with ⟨hk, ys, hs⟩ | ⟨hk, ys, hs⟩
    · subst hk
      obtain ⟨its, _, ⟨o, n, e, hc, _⟩, _⟩ := I.list hs
      rcases hT with rfl | rfl | rfl | rfl | rfl
      · exact IsiPair.list_int e hc (fin' _ (by decide))
      · exact IsiPair.list_str e hc (fin' _ (by decide))
      · exact IsiPair.list_bool e hc (fin' _ (by decide))
      · exact IsiPair.list_list e hc (fin _ (by decide))
      · exact IsiPair.list_tuple e hc (fin' _ (by decide))
    · subst hk
      obtain ⟨its, _, ⟨o, e, hc, _⟩, _⟩ := I.tuple hs
      rcases hT with rfl | rfl | rfl | rfl | rfl
      · exact IsiPair.tuple_int e hc (fin' _ (by decide))
      · exact IsiPair.tuple_str e hc (fin' _ (by decide))
      · exact IsiPair.tuple_bool e hc (fin' _ (by decide))
      · exact IsiPair.tuple_list e hc (fin' _ (by decide))
      · exact IsiPair.tuple_tuple e hc (fin _ (by decide))
  | byt _ => exact False.elim hk
  | flt _ => exact False.elim hk
  | ty _ => exact False.elim hk
theorem pe_ty {x : Str} {n : String} {pos : Pos} (hg : Gl X x) (hm : X.mg x = none) (hv : bootBuiltins x = some (.type n)) (hn : x ≠ "__name__" := by decide) (hd : (x == ("__debug__" : Str)) = false := by decide) : PE X (.Name x pos) (tC (.ty n)) :=
  pe_bltn hg hm hv rfl hn hd
theorem truth_bools {prog : Program} {w : World} {A : Around} (its : List Value) (bs : List Bool) (hv : Vals (bs.map V.bl) its) : TruthOf prog w A (fun i v => its.toArray[i]? = some v) (fun i => bs.getD i false) := by
  intro i v s Q E hP hQ
  have hP' : its[i]? = some v := by simpa using hP
  have hl := hv.length
  rw [List.length_map] at hl
  have hi : i < its.length := (List.getElem?_eq_some_iff.mp hP').1
  have hb : (bs.map V.bl)[i]? = some (.bl bs[i]) := by simp [show i < bs.length by omega]
  obtain ⟨u, hu, ru⟩ := hv.get hb
  rw [hP'] at hu; cases hu
  cases ru
  have e : bs.getD i false = bs[i] := by simp [show i < bs.length by omega]
  have hQ' : Q (bs.getD i false) s := hQ
  rw [e] at hQ'
  exact wpAny_truthy_bool hQ'
theorem range_all (bs : List Bool) : (List.range bs.length).all (fun i => bs.getD i false) = bs.all id := by
  rw [Bool.eq_iff_iff, List.all_eq_true, List.all_eq_true]
  constructor
  · intro h b hb
    obtain ⟨i, hi, e⟩ := List.mem_iff_getElem.mp hb
    have := h i (List.mem_range.mpr hi)
    simp [hi] at this
    rw [← e]; exact this
  · intro h i hi
    have hi := List.mem_range.mp hi
    have := h bs[i] (List.getElem_mem hi)
    simp [hi]; exact this
theorem range_any (bs : List Bool) : (List.range bs.length).any (fun i => bs.getD i false) = bs.any id := by
  rw [Bool.eq_iff_iff, List.any_eq_true, List.any_eq_true]
  constructor
  · rintro ⟨i, hi, h⟩
    have hi := List.mem_range.mp hi
    simp [hi] at h
    exact ⟨bs[i], List.getElem_mem hi, h⟩
  · rintro ⟨b, hb, h⟩
    obtain ⟨i, hi, e⟩ := List.mem_iff_getElem.mp hb
    refine ⟨i, List.mem_range.mpr hi, ?_⟩
    simp [hi]; rw [e]; exact h
theorem call_all1 (hc : X.calm = true) : CallR X (.builtin "all") (fun xs H Q => ∃ (a : Addr) (bs : List Bool), xs = [.ref a] ∧ SqL X.K H a (bs.map V.bl) ∧ Q (.bl (bs.all id)) H) := by
  intro pins s σ H xs us Q I r h
  obtain ⟨a, bs, rfl, hs, q⟩ := h
  obtain ⟨u, rfl, ru⟩ := vals1 r
  cases ru
  obtain ⟨its, rv, p, hz⟩ := I.list hs
  have hl := rv.length
  rw [List.length_map] at hl
  refine call_all_walk (wpAny_pyIter_list p.isList ?_)
  have hne : a ≠ s.heap.objs.size := by obtain ⟨o, n, e, _⟩ := p; exact Nat.ne_of_lt (Heap.lt_size e)
  refine ⟨s.heap.objs.size, _, _, its.toArray.size, _, _, fun i => bs.getD i false, rfl, Walks.list (A := X.A.in1) (show X.A.in1.handled = none from I.ok.hd hc) _ a hne its.toArray, ⟨⟨_, Heap.get?_push_size _ rfl, rfl, rfl⟩, ?_⟩, truth_bools its bs rv, fun h' tk hk => ?_⟩
  · exact p.isList.at fun o e => Heap.get?_push_of_some _ e
  · have e1 : its.toArray.size = bs.length := by rw [List.size_toArray, ← hl]
    refine ⟨.bl (bs.all id), H, I.kept (h' := h') (t' := tk) (fun b o e => hk b o (fun z => absurd (Nat.lt_of_lt_of_le (Heap.lt_size e) (Nat.le_of_eq (List.mem_singleton.mp z).symm)) (Nat.lt_irrefl _)) (Heap.get?_push_of_some _ e)), ?_, q⟩
    show Value.bool _ = Value.bool _
    rw [e1, range_all]
theorem call_any1 (hc : X.calm = true) : CallR X (.builtin "any") (fun xs H Q => ∃ (a : Addr) (bs : List Bool), xs = [.ref a] ∧ SqL X.K H a (bs.map V.bl) ∧ Q (.bl (bs.any id)) H) := by
  intro pins s σ H xs us Q I r h
  obtain ⟨a, bs, rfl, hs, q⟩ := h
  obtain ⟨u, rfl, ru⟩ := vals1 r
  cases ru
  obtain ⟨its, rv, p, hz⟩ := I.list hs
  have hl := rv.length
  rw [List.length_map] at hl
  refine call_any_walk (wpAny_pyIter_list p.isList ?_)
  have hne : a ≠ s.heap.objs.size := by obtain ⟨o, n, e, _⟩ := p; exact Nat.ne_of_lt (Heap.lt_size e)
  refine ⟨s.heap.objs.size, _, _, its.toArray.size, _, _, fun i => bs.getD i false, rfl, Walks.list (A := X.A.in1) (show X.A.in1.handled = none from I.ok.hd hc) _ a hne its.toArray, ⟨⟨_, Heap.get?_push_size _ rfl, rfl, rfl⟩, ?_⟩, truth_bools its bs rv, fun h' tk hk => ?_⟩
  · exact p.isList.at fun o e => Heap.get?_push_of_some _ e
  · have e1 : its.toArray.size = bs.length := by rw [List.size_toArray, ← hl]
    refine ⟨.bl (bs.any id), H, I.kept (h' := h') (t' := tk) (fun b o e => hk b o (fun z => absurd (Nat.lt_of_lt_of_le (Heap.lt_size e) (Nat.le_of_eq (List.mem_singleton.mp z).symm)) (Nat.lt_irrefl _)) (Heap.get?_push_of_some _ e)), ?_, q⟩
    show Value.bool _ = Value.bool _
    rw [e1, range_any]
end
end L2
set_option Elab.async false
set_option linter.all false
set_option maxRecDepth 100000
namespace L2
open PySem PySem.Spec PyProof.Rows
structure DefAt (K : PySem.W.Frag) (mg : Str → Option Value) (x : Str) (st : Stmt) (f : Addr) (fd : FuncData) (ps : List Str) : Prop where
  fn : Fun K x x st f fd
  mg : mg x = some (.ref f)
  bd : Binds K fd ps []
section
variable {X : Cx} {k : Nat} {f : Addr} {fd : FuncData} {ps : List Str} {sp : Sp} {x : Str} {p pos : Pos} {e : Expr} {es : List Expr} {t : TA} {st : Stmt}
theorem pcall (D : DefAt X.K X.mg x st f fd ps) (F : FnOk X.prog X.w X.K X.mg X.base CX0 k f fd ps sp) (hr : Room k X.A) (ha : PA X (e :: es) t) (hg : Gl X x := by rfl) (hdb : (x == ("__debug__" : Str)) = false := by decide)
    (he : starEach (e :: es) X.env = (false, eval e X.env) :: starEach es X.env := by rfl) (hpl : (backTo pos (starEach es X.env)).any (·.1) = false := by rfl) :
    PE X (.Call (.Name x p) (e :: es) [] pos) (tCall sp [] E0 t) := pe_call F hr hg D.mg D.fn.kp D.bd .nil pass0 ha hdb he hpl
end
section
variable {X : Cx} {a b : Expr} {rest : List Expr} {pos : Pos} {ta tb : TE} {tA tB : TT}
end
theorem Same.put {H H' : Hp} {a : Addr} {o : HO} (s : Same H H') (h : H' a = none) : Same H (upd H' a o) := fun b u e => by
  have z := s b u e
  rw [upd_ne (ne_of_none z h)]; exact z
theorem same_upd {H : Hp} {a : Addr} {o : HO} (h : H a = none) : Same H (upd H a o) := (Same.refl H).put h
theorem bt_int : bootBuiltins "int" = some (.type "int") := by decide +kernel
theorem bt_bool : bootBuiltins "bool" = some (.type "bool") := by decide +kernel
theorem bt_isi : bootBuiltins "isinstance" = some (.builtin "isinstance") := by decide +kernel
theorem bt_len : bootBuiltins "len" = some (.builtin "len") := by decide +kernel
theorem sl1000 {n : Nat} (h : n ≤ 1000) : n ≤ sizeLine := Nat.le_trans h (by decide)
end L2
set_option Elab.async false
set_option linter.all false
set_option maxRecDepth 100000
set_option maxHeartbeats 4000000
namespace L2
open PySem PySem.Spec PyProof.Rows
section
variable {X : Cx}
def rSlS : V → Option Int → Option Int → Hp → VK → Prop := fun x lo hi H Q => ∃ z, x = .str z ∧ z.length ≤ sizeLine ∧ Q (.str (Txt.slice z lo hi)) H
theorem sl_str : SlR X rSlS := by
  intro pins s σ H x v vl vu lo hi sl Q I rx hs pl pu h
  obtain ⟨z, rfl, hz, q⟩ := h
  obtain ⟨t, rfl⟩ := rx
  refine ⟨"str", _, F.slot_str_getitem.lookup, typeIs_str _ _ _, ?_⟩
  have fin : ∀ t' k, EP X pins σ Q (.str (Txt.slice z lo hi) t') { s with toks := k } := fun t' k => ⟨.str _, H, I.tok _, ⟨_, rfl⟩, q⟩
  cases pl with
  | none =>
    cases pu with
    | none => exact wpAny_getItem_str_slice (l := none) (u := none) (st := none) hs rfl (post_val_or_str ⟨Nat.le_trans (Txt.slice_le z _ _) hz, fin⟩)
    | int j tj => exact wpAny_getItem_str_slice (l := none) (u := some (j, tj)) (st := none) hs rfl (post_val_or_str ⟨Nat.le_trans (Txt.slice_le z _ _) hz, fin⟩)
  | int i ti =>
    cases pu with
    | none => exact wpAny_getItem_str_slice (l := some (i, ti)) (u := none) (st := none) hs rfl (post_val_or_str ⟨Nat.le_trans (Txt.slice_le z _ _) hz, fin⟩)
    | int j tj => exact wpAny_getItem_str_slice (l := some (i, ti)) (u := some (j, tj)) (st := none) hs rfl (post_val_or_str ⟨Nat.le_trans (Txt.slice_le z _ _) hz, fin⟩)
theorem op_mul_str : OpR X (binaryOp .Mult) (fun x y H Q => ∃ z n, x = .str z ∧ y = .int n ∧ MulOk z n ∧ Q (.str (Txt.mul z n)) H) := by
  intro pins s σ H x y v u Q I rx ry h
  obtain ⟨z, n, rfl, rfl, hm, q⟩ := h
  obtain ⟨t, rfl⟩ := rx
  obtain ⟨t', rfl⟩ := ry
  exact SB.mul hm fun t' k => ⟨.str _, H, I.tok _, ⟨_, rfl⟩, q⟩
end
inductive EqD (K : PySem.W.Frag) (H : Hp) : Nat → V → V → Bool → Prop
  | flat {d : Nat} {x y : V} : flatV x = true → flatV y = true → EqD K H d x y (eqV x y)
  | same {d : Nat} {a : Addr} : EqD K H d (.ref a) (.ref a) true
  | lst {d : Nat} {a b : Addr} {xs ys : List V} {e : Nat → Bool} : a ≠ b → SqL K H a xs → SqL K H b ys → xs.length = ys.length → (∀ (i : Nat) x y, xs[i]? = some x → ys[i]? = some y → EqD K H d x y (e i)) → EqD K H (d + 1) (.ref a) (.ref b) ((List.range xs.length).all e)
  | lstN {d : Nat} {a b : Addr} {xs ys : List V} : a ≠ b → SqL K H a xs → SqL K H b ys → xs.length ≠ ys.length → EqD K H (d + 1) (.ref a) (.ref b) false
  | tup {d : Nat} {a b : Addr} {xs ys : List V} {e : Nat → Bool} : a ≠ b → SqT K H a xs → SqT K H b ys → (∀ (i : Nat) x y, xs[i]? = some x → ys[i]? = some y → EqD K H d x y (e i)) → EqD K H (d + 1) (.ref a) (.ref b) ((List.range (min xs.length ys.length)).all e && xs.length == ys.length)
section
variable {X : Cx} {pins : List (Addr × Obj)} {σ : St} {H : Hp} {s : Shared}
theorem Vals.at {xs : List V} {us : List Value} (r : Vals xs us) {j : Nat} (h : j < us.toArray.size) : ∃ x, xs[j]? = some x ∧ RelV x us.toArray[j] := by
  have hl := r.length
  have h' : j < us.length := by simpa using h
  have hx : xs[j]? = some xs[j] := by simp [show j < xs.length by omega]
  obtain ⟨u, hu, ru⟩ := r.get hx
  have : us[j]? = some us[j] := by simp [h']
  rw [this] at hu
  cases hu
  exact ⟨xs[j], hx, by simpa using ru⟩
theorem EqD.at (I : Inv X pins σ H s) {d : Nat} {x y : V} {c : Bool} (h : EqD X.K H d x y c) : ∀ {A : Around} {u v : Value}, RelV x u → RelV y v → A.units + d < cLine → SeqAt.EqAt A s u v c := by
  induction h with
  | flat hx hy => intro A u v rx ry _; exact eqAt_V rx ry hx hy
  | same => intro A u v rx ry _; cases rx; cases ry; exact SeqAt.EqAt.same _
  | @lst d a b xs ys e ne ha hb hl he ih =>
    intro A u v rx ry hu
    cases rx; cases ry
    obtain ⟨ia, ra, pa, za⟩ := I.list ha
    obtain ⟨ib, rb, pb, zb⟩ := I.list hb
    have la := ra.length
    have lb := rb.length
    have es : ia.toArray.size = xs.length := by rw [List.size_toArray, ← la]
    rw [← es]
    refine SeqAt.EqAt.of_refs ne (SeqAt.RcAt.lists pa.isList pb.isList (by simp only [List.size_toArray]; omega) (by omega) fun j h1 h2 => ?_)
    obtain ⟨x, hx, rx⟩ := ra.at h1
    obtain ⟨y, hy, ry⟩ := rb.at h2
    exact ih j x y hx hy rx ry (by show A.units + 1 + _ < cLine; omega)
  | @lstN d a b xs ys ne ha hb hl =>
    intro A u v rx ry hu
    cases rx; cases ry
    obtain ⟨ia, ra, pa, za⟩ := I.list ha
    obtain ⟨ib, rb, pb, zb⟩ := I.list hb
    have la := ra.length
    have lb := rb.length
    exact SeqAt.EqAt.of_refs ne (SeqAt.RcAt.lists_lengths pa.isList pb.isList (by simp only [List.size_toArray, bne_iff_ne, ne_eq]; omega) (by omega))
  | @tup d a b xs ys e ne ha hb he ih =>
    intro A u v rx ry hu
    cases rx; cases ry
    obtain ⟨ia, ra, pa, za⟩ := I.tuple ha
    obtain ⟨ib, rb, pb, zb⟩ := I.tuple hb
    have es : ia.toArray.size = xs.length := by rw [List.size_toArray, ← ra.length]
    have es' : ib.toArray.size = ys.length := by rw [List.size_toArray, ← rb.length]
    rw [← es, ← es']
    refine SeqAt.EqAt.of_refs ne (SeqAt.RcAt.tuples pa pb (by omega) fun j h1 h2 => ?_)
    obtain ⟨x, hx, rx⟩ := ra.at h1
    obtain ⟨y, hy, ry⟩ := rb.at h2
    exact ih j x y hx hy rx ry (by show A.units + 1 + _ < cLine; omega)
end
section
variable {X : Cx}
theorem ix_listK (K : PySem.W.Frag) (hK : X.K = K := by rfl) : IxR X (rIxL K) := hK ▸ ix_list
theorem ix_tupK (K : PySem.W.Frag) (hK : X.K = K := by rfl) : IxR X (rIxT K) := hK ▸ ix_tup
theorem call_len_seqK (K : PySem.W.Frag) (hK : X.K = K := by rfl) : CallR X (.builtin "len") (fun xs H Q => ∃ p ys, xs = [.ref p] ∧ (SqL K H p ys ∨ SqT K H p ys) ∧ Q (.int ys.length) H) := hK ▸ call_len_seq
theorem sl_listK (K : PySem.W.Frag) (hK : X.K = K := by rfl) : SlR X (rSlL K) := hK ▸ sl_list
theorem sl_tupK (K : PySem.W.Frag) (hK : X.K = K := by rfl) : SlR X (rSlT K) := hK ▸ sl_tup
theorem call_isiK (K : PySem.W.Frag) (hK : X.K = K := by rfl) : CallR X (.builtin "isinstance") (fun xs H Q => ∃ x k T, xs = [x, .ty T] ∧ KindIs K H x k ∧ (T = "int" ∨ T = "str" ∨ T = "bool" ∨ T = "list" ∨ T = "tuple") ∧ Q (.bl (isiB k T)) H) := hK ▸ call_isi
theorem pt_truthK (K : PySem.W.Frag) {a : Expr} {ta : TE} (ha : PE X a ta) (he : ∀ whole, isTrue a X.env whole = (do let v ← whole; standAt a.pos; holding [v] (truthy v))) (hK : X.K = K := by rfl) :
    PT X a (fun σ H Q => ta σ H fun x H' => ∃ k, TruV K x H' k ∧ Q k H') := hK ▸ pt_truth ha he
end
theorem hu40_of {A : Around} {k : Nat} (hr : Room k A) : A.units + 40 < cLine := Nat.lt_of_le_of_lt (Nat.add_le_add_left (by decide : 40 ≤ 64) _) hr.units
end L2
set_option Elab.async false
set_option linter.all false
set_option maxRecDepth 100000
set_option maxHeartbeats 4000000
namespace Carry
open PySem L2
def SB (f : Addr) (H H' : Hp) : Prop := ∀ b o, H b = some o → b ≠ f → H' b = some o
theorem SB.refl {f : Addr} (H : Hp) : SB f H H := fun _ _ e _ => e
theorem SB.trans {f : Addr} {H H1 H2 : Hp} (a : SB f H H1) (b : SB f H1 H2) : SB f H H2 := fun c o e n => b c o (a c o e n) n
theorem SB.of {f : Addr} {H H' : Hp} (s : Same H H') : SB f H H' := fun b o e _ => s b o e
theorem SB.write {f : Addr} {H : Hp} {o : HO} : SB f H (upd H f o) := fun b u e n => by rw [upd_ne n]; exact e
theorem SB.put {f a : Addr} {H H' : Hp} {o : HO} (s : SB f H H') (h : H' a = none) : SB f H (upd H' a o) := fun b u e n => by
  have z := s b u e n
  rw [upd_ne (ne_of_none z h)]; exact z
theorem SB.free {f a : Addr} {H H' : Hp} (s : SB f H H') (hf : H' f ≠ none) (h : H' a = none) : H a = none := by
  cases e : H a with
  | none => rfl
  | some o =>
    by_cases n : a = f
    · subst n; exact absurd h hf
    · rw [s a o e n] at h; cases h
structure Feed where
  ns : List Int
  pl : Int
  style : Int
  mode : Int
  num : Int
def feedO (sl : Addr) (F : Feed) : HO := .lst [.ref sl, .int F.pl, .int F.style, .int F.mode, .int F.num]
structure FeedAt (H : Hp) (f sl : Addr) (F : Feed) : Prop where
  fo : H f = some (feedO sl F)
  so : H sl = some (.lst (F.ns.map V.int))
  pos : 0 ≤ F.pl
  len : F.ns.length ≤ 63
theorem FeedAt.ne {H : Hp} {f sl : Addr} {F : Feed} (h : FeedAt H f sl F) : sl ≠ f := by
  refine ne_of h.so h.fo fun z => ?_
  have z' : F.ns.map V.int = [.ref sl, .int F.pl, .int F.style, .int F.mode, .int F.num] := HO.lst.inj z
  cases e : F.ns with
  | nil => rw [e] at z'; cases z'
  | cons a r => rw [e] at z'; cases z'
theorem FeedAt.there {H : Hp} {f sl : Addr} {F : Feed} (h : FeedAt H f sl F) : H f ≠ none := by rw [h.fo]; exact fun z => by cases z
theorem FeedAt.same {H H' : Hp} {f sl : Addr} {F : Feed} (h : FeedAt H f sl F) (s : Same H H') : FeedAt H' f sl F := ⟨s _ _ h.fo, s _ _ h.so, h.pos, h.len⟩
theorem FeedAt.write {H : Hp} {f sl : Addr} {F G : Feed} (h : FeedAt H f sl F) (e : G.ns = F.ns) (p : 0 ≤ G.pl) : FeedAt (upd H f (feedO sl G)) f sl G :=
  ⟨upd_same, by rw [upd_ne h.ne, e]; exact h.so, p, by rw [e]; exact h.len⟩
structure Belt where
  name : Str
  long : Int
  ring : Bool
  outs : List Str
structure House where
  belts : List Belt
  carts : List Str
def strs' (xs : List Str) : List V := xs.map V.str
def BeltAt (H : Hp) (v : V) (b : Belt) : Prop := ∃ p o, v = .ref p ∧ H p = some (.tup [.str b.name, .int b.long, .bl b.ring, .ref o]) ∧ H o = some (.lst (strs' b.outs))
structure HouseAt (H : Hp) (p pb pc : Addr) (refs : List V) (h : House) : Prop where
  top : H p = some (.tup [.ref pb, .ref pc])
  bl : H pb = some (.lst refs)
  ct : H pc = some (.lst (strs' h.carts))
  each : Paired (BeltAt H) refs h.belts
theorem BeltAt.keep {H H' : Hp} {v : V} {b : Belt} (h : BeltAt H v b) (s : Same H H') : BeltAt H' v b := by
  obtain ⟨p, o, e, h1, h2⟩ := h
  exact ⟨p, o, e, s _ _ h1, s _ _ h2⟩
theorem HouseAt.keep {H H' : Hp} {p pb pc : Addr} {refs : List V} {h : House} (x : HouseAt H p pb pc refs h) (s : Same H H') : HouseAt H' p pb pc refs h :=
  ⟨s _ _ x.top, s _ _ x.bl, s _ _ x.ct, Paired.mapP x.each fun _ _ z => z.keep s⟩
theorem BeltAt.sb {H H' : Hp} {f sl : Addr} {F : Feed} {v : V} {b : Belt} (h : BeltAt H v b) (hF : FeedAt H f sl F) (s : SB f H H') : BeltAt H' v b := by
  obtain ⟨p, o, e, h1, h2⟩ := h
  refine ⟨p, o, e, s _ _ h1 (ne_of h1 hF.fo fun z => by cases z), s _ _ h2 (ne_of h2 hF.fo fun z => ?_)⟩
  have z' := HO.lst.inj z
  cases e : b.outs with
  | nil => rw [e] at z'; cases z'
  | cons a r => rw [e] at z'; cases z'
theorem BeltAt.lb {H : Hp} {lb : Addr} {refs : List V} {v : V} {b : Belt} {o : HO} (h : BeltAt H v b) (hl : H lb = some (.lst refs)) (hv : v ∈ refs) : BeltAt (upd H lb o) v b := by
  obtain ⟨p, ol, e, h1, h2⟩ := h
  have n2 : ol ≠ lb := ne_of h2 hl fun z => by
    have z' := HO.lst.inj z
    rw [← z'] at hv
    obtain ⟨x, _, rfl⟩ := List.mem_map.mp hv
    cases e
  exact ⟨p, ol, e, by rw [upd_ne (ne_of h1 hl fun z => by cases z)]; exact h1, by rw [upd_ne n2]; exact h2⟩
end Carry
set_option Elab.async false
set_option linter.all false
set_option maxRecDepth 100000
set_option maxHeartbeats 4000000
namespace L2
open PySem PySem.Spec PyProof.Rows
inductive D where
  | non | bl (b : Bool) | int (i : Int) | str (x : Str) | ty (n : String)
  | lst (xs : List D) | tup (xs : List D) | dct (kvs : List (TK × D)) | scr (ns : List Int) | exc (C : Addr) (l : Option Int)
mutual
def TK.d : TK → D
  | .inl i => .int i
  | .inr x => .str x
  | .tp l => .tup (TK.dl l)
def TK.dl : List TK → List D
  | [] => []
  | k :: l => TK.d k :: TK.dl l
end
def flatOf : D → Option V
  | .non => some .non
  | .bl b => some (.bl b)
  | .int i => some (.int i)
  | .str x => some (.str x)
  | .ty n => some (.ty n)
  | _ => none
def excO (C t : Addr) (d : Option Addr) : Obj := { cls := .ref C, dict := d, data := .fields #[.ref t, .none, .none, .none, .bool false, .none] }
def ExcA (F : Hp) (a C : Addr) : Option Int → Prop
  | none => ∃ t, F a = some (.frz (excO C t none) (.own 0))
  | some n => ∃ t dx, F a = some (.frz (excO C t (some dx)) (.own 0)) ∧ F dx = some (.xd [("line", .int n)])
inductive RepL (K : PySem.W.Frag) (F : Hp) : List V → List D → Prop
  | nil : RepL K F [] []
  | flat {v : V} {d : D} {vs : List V} {ds : List D} : flatOf d = some v → RepL K F vs ds → RepL K F (v :: vs) (d :: ds)
  | lst {a : Addr} {ws vs : List V} {es ds : List D} : Rd F a (.lst ws) → RepL K F ws es → RepL K F vs ds → RepL K F (.ref a :: vs) (.lst es :: ds)
  | tup {a : Addr} {ws vs : List V} {es ds : List D} : SqT K F a ws → RepL K F ws es → RepL K F vs ds → RepL K F (.ref a :: vs) (.tup es :: ds)
  | dct {a : Addr} {kvs : List (TK × V × V)} {es : List (TK × D)} {ep : Nat} {vs : List V} {ds : List D} : F a = some (.dG kvs ep) → kvs.map (·.1) = es.map (·.1) → RepL K F (kvs.map (·.2.1)) (es.map (·.1.d)) → RepL K F (kvs.map (·.2.2)) (es.map (·.2)) → RepL K F vs ds → RepL K F (.ref a :: vs) (.dct es :: ds)
  | scr {a : Addr} {ns : List Int} {vs : List V} {ds : List D} : SqL K F a (ns.map V.int) → RepL K F vs ds → RepL K F (.ref a :: vs) (.scr ns :: ds)
  | exc {a C : Addr} {l : Option Int} {vs : List V} {ds : List D} : ExcA F a C l → RepL K F vs ds → RepL K F (.ref a :: vs) (.exc C l :: ds)
theorem Same.rd {H H' : Hp} {a : Addr} {u : HO} (e : Same H H') (h : Rd H a u) : Rd H' a u := by
  rcases h with h | ⟨o, h⟩
  · exact .inl (e _ _ h)
  · exact .inr ⟨o, e _ _ h⟩
theorem Same.seqT {K : PySem.W.Frag} {H H' : Hp} {a : Addr} {xs : List V} (e : Same H H') (h : SqT K H a xs) : SqT K H' a xs := by
  rcases h with (h | ⟨o, h⟩) | h
  · exact .inl (.inl (e _ _ h))
  · exact .inl (.inr ⟨o, e _ _ h⟩)
  · exact .inr h
section
variable {K : PySem.W.Frag} {F F' : Hp}
theorem ExcA.mono {F F' : Hp} {a C : Addr} {l : Option Int} (s : Same F F') (h : ExcA F a C l) : ExcA F' a C l := by
  cases l with
  | none => obtain ⟨t, e⟩ := h; exact ⟨t, s _ _ e⟩
  | some n => obtain ⟨t, dx, e, q⟩ := h; exact ⟨t, dx, s _ _ e, s _ _ q⟩
theorem RepL.mono (s : Same F F') {vs : List V} {ds : List D} (h : RepL K F vs ds) : RepL K F' vs ds := by
  induction h with
  | nil => exact .nil
  | flat e _ ih => exact .flat e ih
  | lst e _ _ i1 i2 => exact .lst (s.rd e) i1 i2
  | tup e _ _ i1 i2 => exact .tup (s.seqT e) i1 i2
  | dct e k _ _ _ i0 i1 i2 => exact .dct (s _ _ e) k i0 i1 i2
  | scr e _ i => exact .scr (s.seq e) i
  | exc e _ i => exact .exc (e.mono s) i
theorem RepL.length {vs : List V} {ds : List D} (h : RepL K F vs ds) : vs.length = ds.length := by
  induction h with
  | nil => rfl
  | flat _ _ ih => simp [ih]
  | lst _ _ _ _ ih => simp [ih]
  | tup _ _ _ _ ih => simp [ih]
  | dct _ _ _ _ _ _ _ ih => simp [ih]
  | scr _ _ ih => simp [ih]
  | exc _ _ ih => simp [ih]
theorem RepL.inv {v : V} {vs : List V} {d : D} {ds : List D} (h : RepL K F (v :: vs) (d :: ds)) : RepL K F [v] [d] ∧ RepL K F vs ds := by
  cases h with
  | flat e t => exact ⟨.flat e .nil, t⟩
  | lst e i t => exact ⟨.lst e i .nil, t⟩
  | tup e i t => exact ⟨.tup e i .nil, t⟩
  | dct e k j i t => exact ⟨.dct e k j i .nil, t⟩
  | scr e t => exact ⟨.scr e .nil, t⟩
  | exc e t => exact ⟨.exc e .nil, t⟩
theorem RepL.cons {v : V} {vs : List V} {d : D} {ds : List D} (h : RepL K F [v] [d]) (t : RepL K F vs ds) : RepL K F (v :: vs) (d :: ds) := by
  cases h with
  | flat e _ => exact .flat e t
  | lst e i _ => exact .lst e i t
  | tup e i _ => exact .tup e i t
  | dct e k j i _ => exact .dct e k j i t
  | scr e _ => exact .scr e t
  | exc e _ => exact .exc e t
theorem RepL.get : ∀ {vs : List V} {ds : List D} {i : Nat} {d : D}, RepL K F vs ds → ds[i]? = some d → ∃ v, vs[i]? = some v ∧ RepL K F [v] [d]
  | [], [], i, d, _, e => by simp at e
  | v :: vs, d' :: ds, 0, d, h, e => by simp at e; subst e; exact ⟨v, rfl, h.inv.1⟩
  | v :: vs, d' :: ds, i + 1, d, h, e => by
    obtain ⟨u, h1, h2⟩ := RepL.get (i := i) h.inv.2 (by simpa using e)
    exact ⟨u, by simpa using h1, h2⟩
  | [], _ :: _, _, _, h, _ => by have := h.length; simp at this
  | _ :: _, [], _, _, h, _ => by have := h.length; simp at this
theorem RepL.append : ∀ {vs : List V} {ds : List D} {ws : List V} {es : List D}, RepL K F vs ds → RepL K F ws es → RepL K F (vs ++ ws) (ds ++ es)
  | [], [], _, _, _, h => h
  | v :: vs, d :: ds, _, _, h, t => .cons h.inv.1 (RepL.append h.inv.2 t)
  | [], _ :: _, _, _, h, _ => by have := h.length; simp at this
  | _ :: _, [], _, _, h, _ => by have := h.length; simp at this
theorem RepL.take : ∀ {vs : List V} {ds : List D} (n : Nat), RepL K F vs ds → RepL K F (vs.take n) (ds.take n)
  | [], [], _, _ => by simp; exact .nil
  | v :: vs, d :: ds, 0, _ => .nil
  | v :: vs, d :: ds, n + 1, h => .cons h.inv.1 (RepL.take n h.inv.2)
  | [], _ :: _, _, h => by have := h.length; simp at this
  | _ :: _, [], _, h => by have := h.length; simp at this
theorem RepL.drop : ∀ {vs : List V} {ds : List D} (n : Nat), RepL K F vs ds → RepL K F (vs.drop n) (ds.drop n)
  | [], [], _, _ => by simp; exact .nil
  | v :: vs, d :: ds, 0, h => h
  | v :: vs, d :: ds, n + 1, h => by simpa using RepL.drop n h.inv.2
  | [], _ :: _, _, h => by have := h.length; simp at this
  | _ :: _, [], _, h => by have := h.length; simp at this
end
inductive O where
  | frz (d : D) | lst (xs : List O) | tup (xs : List O) | dct (kvs : List (TK × O))
abbrev Gm := List (Option O)
inductive OwnL (K : PySem.W.Frag) (F H : Hp) : St → Gm → List Addr → Prop
  | nil : OwnL K F H [] [] []
  | skip {x : Option V} {σ : St} {Γ : Gm} {B : List Addr} : OwnL K F H σ Γ B → OwnL K F H (x :: σ) (none :: Γ) B
  | frz {v : V} {d : D} {σ : St} {Γ : Gm} {B : List Addr} : RepL K F [v] [d] → OwnL K F H σ Γ B → OwnL K F H (some v :: σ) (some (.frz d) :: Γ) B
  | lst {a : Addr} {ws : List V} {ps : List O} {A B : List Addr} {σ : St} {Γ : Gm} : H a = some (.lst ws) → OwnL K F H (ws.map some) (ps.map some) A → OwnL K F H σ Γ B → OwnL K F H (some (.ref a) :: σ) (some (.lst ps) :: Γ) (a :: A ++ B)
  | tup {a : Addr} {ws : List V} {ps : List O} {A B : List Addr} {σ : St} {Γ : Gm} : H a = some (.tup ws) → OwnL K F H (ws.map some) (ps.map some) A → OwnL K F H σ Γ B → OwnL K F H (some (.ref a) :: σ) (some (.tup ps) :: Γ) (a :: A ++ B)
  | dct {a : Addr} {kvs : List (TK × V × V)} {ps : List (TK × O)} {ep : Nat} {A B : List Addr} {σ : St} {Γ : Gm} : H a = some (.dG kvs ep) → kvs.map (·.1) = ps.map (·.1) → RepL K F (kvs.map (·.2.1)) (ps.map (·.1.d)) → OwnL K F H (kvs.map fun p => some p.2.2) (ps.map fun p => some p.2) A → OwnL K F H σ Γ B →
      OwnL K F H (some (.ref a) :: σ) (some (.dct ps) :: Γ) (a :: A ++ B)
section
variable {K : PySem.W.Frag} {F F' H H' : Hp} {σ τ : St} {Γ Θ : Gm} {A B : List Addr}
theorem OwnL.keep (h : OwnL K F H σ Γ A) (s : Same F F') (k : ∀ a ∈ A, ∀ o, H a = some o → H' a = some o) : OwnL K F' H' σ Γ A := by
  induction h with
  | nil => exact .nil
  | skip _ ih => exact .skip (ih k)
  | frz r _ ih => exact .frz (r.mono s) (ih k)
  | lst e _ _ i1 i2 => exact .lst (k _ (by simp) _ e) (i1 fun a ha => k a (by simp [ha])) (i2 fun a ha => k a (by simp [ha]))
  | tup e _ _ i1 i2 => exact .tup (k _ (by simp) _ e) (i1 fun a ha => k a (by simp [ha])) (i2 fun a ha => k a (by simp [ha]))
  | dct e q r _ _ i1 i2 => exact .dct (k _ (by simp) _ e) q (r.mono s) (i1 fun a ha => k a (by simp [ha])) (i2 fun a ha => k a (by simp [ha]))
theorem OwnL.there (h : OwnL K F H σ Γ A) : ∀ a ∈ A, H a ≠ none := by
  induction h with
  | nil => intro a ha; cases ha
  | skip _ ih => exact ih
  | frz _ _ ih => exact ih
  | lst e _ _ i1 i2 =>
    intro a ha
    rcases List.mem_cons.mp ha with rfl | ha
    · rw [e]; exact fun z => by cases z
    · rcases List.mem_append.mp ha with ha | ha
      · exact i1 a ha
      · exact i2 a ha
  | tup e _ _ i1 i2 =>
    intro a ha
    rcases List.mem_cons.mp ha with rfl | ha
    · rw [e]; exact fun z => by cases z
    · rcases List.mem_append.mp ha with ha | ha
      · exact i1 a ha
      · exact i2 a ha
  | dct e _ _ _ _ i1 i2 =>
    intro a ha
    rcases List.mem_cons.mp ha with rfl | ha
    · rw [e]; exact fun z => by cases z
    · rcases List.mem_append.mp ha with ha | ha
      · exact i1 a ha
      · exact i2 a ha
theorem OwnL.length (h : OwnL K F H σ Γ A) : σ.length = Γ.length := by
  induction h <;> simp_all
theorem OwnL.app (h : OwnL K F H τ Θ B) (t : OwnL K F H σ Γ A) : OwnL K F H (τ ++ σ) (Θ ++ Γ) (B ++ A) := by
  induction h with
  | nil => exact t
  | skip _ ih => exact .skip ih
  | frz r _ ih => exact .frz r ih
  | lst e i _ _ ih => simp only [List.cons_append, List.append_assoc]; exact .lst e i ih
  | tup e i _ _ ih => simp only [List.cons_append, List.append_assoc]; exact .tup e i ih
  | dct e q r i _ _ ih => simp only [List.cons_append, List.append_assoc]; exact .dct e q r i ih
theorem OwnL.split : ∀ {τ : St} {Θ : Gm} {A : List Addr}, τ.length = Θ.length → OwnL K F H (τ ++ σ) (Θ ++ Γ) A → ∃ B C, OwnL K F H τ Θ B ∧ OwnL K F H σ Γ C ∧ A = B ++ C
  | [], [], A, _, h => ⟨[], A, .nil, h, rfl⟩
  | [], _ :: _, _, e, _ => by simp at e
  | _ :: _, [], _, e, _ => by simp at e
  | x :: τ, y :: Θ, A, e, h => by
    have e' : τ.length = Θ.length := by simpa using e
    cases h with
    | skip t => obtain ⟨B, C, h1, h2, h3⟩ := OwnL.split e' t; exact ⟨B, C, .skip h1, h2, h3⟩
    | frz r t => obtain ⟨B, C, h1, h2, h3⟩ := OwnL.split e' t; exact ⟨B, C, .frz r h1, h2, h3⟩
    | lst q i t => obtain ⟨B, C, h1, h2, h3⟩ := OwnL.split e' t; subst h3; exact ⟨_, C, .lst q i h1, h2, by simp⟩
    | tup q i t => obtain ⟨B, C, h1, h2, h3⟩ := OwnL.split e' t; subst h3; exact ⟨_, C, .tup q i h1, h2, by simp⟩
    | dct q z r i t => obtain ⟨B, C, h1, h2, h3⟩ := OwnL.split e' t; subst h3; exact ⟨_, C, .dct q z r i h1, h2, by simp⟩
theorem OwnL.one {x : Option V} {y : Option O} (h : OwnL K F H (x :: σ) (y :: Γ) A) : ∃ B C, OwnL K F H [x] [y] B ∧ OwnL K F H σ Γ C ∧ A = B ++ C := OwnL.split (τ := [x]) (Θ := [y]) rfl h
theorem OwnL.take : ∀ {σ : St} {Γ : Gm} {A : List Addr} {i : Nat} {o : O}, OwnL K F H σ Γ A → Γ[i]? = some (some o) → ∃ v Ai B, σ[i]? = some (some v) ∧ OwnL K F H [some v] [some o] Ai ∧ OwnL K F H σ (Γ.set i none) B ∧ A.Perm (Ai ++ B)
  | _, [], _, _, _, _, e => by simp at e
  | [], _ :: _, _, _, _, h, _ => by have := h.length; simp at this
  | x :: σ, y :: Γ, A, 0, o, h, e => by
    have e : y = some o := by simpa using e
    subst e
    obtain ⟨B, C, h1, h2, h3⟩ := h.one
    cases x with
    | none => cases h1
    | some v => exact ⟨v, B, C, rfl, h1, .skip h2, by rw [h3]⟩
  | x :: σ, y :: Γ, A, i + 1, o, h, e => by
    obtain ⟨B, C, h1, h2, h3⟩ := h.one
    obtain ⟨v, Ai, B', g1, g2, g3, g4⟩ := OwnL.take (i := i) h2 (by simpa using e)
    refine ⟨v, Ai, B ++ B', by simpa using g1, g2, h1.app g3, ?_⟩
    subst h3
    exact (List.Perm.append_left B g4).trans (by rw [← List.append_assoc, ← List.append_assoc]; exact (List.perm_append_comm).append_right _)
theorem OwnL.forget : ∀ {σ : St} {Γ : Gm} {A : List Addr} (i : Nat), OwnL K F H σ Γ A → ∃ B, OwnL K F H σ (Γ.set i none) B ∧ B.Sublist A
  | σ, [], A, i, h => ⟨A, by simpa using h, List.Sublist.refl _⟩
  | [], _ :: _, _, _, h => by have := h.length; simp at this
  | x :: σ, y :: Γ, A, 0, h => by
    obtain ⟨B, C, h1, h2, h3⟩ := h.one
    subst h3
    exact ⟨C, .skip h2, List.sublist_append_right _ _⟩
  | x :: σ, y :: Γ, A, i + 1, h => by
    obtain ⟨B, C, h1, h2, h3⟩ := h.one
    obtain ⟨B', g1, g2⟩ := OwnL.forget i h2
    subst h3
    exact ⟨B ++ B', h1.app g1, g2.append_left _⟩
theorem OwnL.put {v : V} {o : O} {Ai : List Addr} (q : OwnL K F H [some v] [some o] Ai) : ∀ {σ : St} {Γ : Gm} {A : List Addr} (i : Nat), OwnL K F H σ Γ A → i < Γ.length → ∃ B, OwnL K F H (σ.set i (some v)) (Γ.set i (some o)) B ∧ ∃ C, B.Perm (Ai ++ C) ∧ C.Sublist A
  | _, [], _, _, _, hi => by simp at hi
  | [], _ :: _, _, _, h, _ => by have := h.length; simp at this
  | x :: σ, y :: Γ, A, 0, h, hi => by
    obtain ⟨B, C, h1, h2, h3⟩ := h.one
    subst h3
    exact ⟨Ai ++ C, q.app h2, C, .refl _, List.sublist_append_right _ _⟩
  | x :: σ, y :: Γ, A, i + 1, h, hi => by
    obtain ⟨B, C, h1, h2, h3⟩ := h.one
    obtain ⟨B', g1, C', g2, g3⟩ := OwnL.put q i h2 (by simpa using hi)
    subst h3
    refine ⟨B ++ B', h1.app g1, B ++ C', ?_, g3.append_left _⟩
    exact (List.Perm.append_left B g2).trans (by rw [← List.append_assoc, ← List.append_assoc]; exact (List.perm_append_comm).append_right _)
theorem OwnL.loose {v : Option V} : ∀ {σ : St} {Γ : Gm} {A : List Addr} {i : Nat}, OwnL K F H σ Γ A → Γ[i]? = some none → OwnL K F H (σ.set i v) Γ A
  | _, [], _, _, _, e => by simp at e
  | [], _ :: _, _, _, h, _ => by have := h.length; simp at this
  | x :: σ, y :: Γ, A, 0, h, e => by
    have e : y = none := by simpa using e
    subst e
    cases h with
    | skip t => exact .skip t
  | x :: σ, y :: Γ, A, i + 1, h, e => by
    obtain ⟨B, C, h1, h2, h3⟩ := h.one
    subst h3
    exact h1.app (OwnL.loose (i := i) h2 (by simpa using e))
end
structure OK (K : PySem.W.Frag) (F H : Hp) (σ : St) (Γ : Gm) (A : List Addr) : Prop where
  le : Same F H
  os : OwnL K F H σ Γ A
  nd : A.Nodup
  fr : ∀ a ∈ A, F a = none
structure Ext (F H : Hp) (A : List Addr) (F' H' : Hp) (A' : List Addr) : Prop where
  ff : Same F F'
  keep : ∀ a o, H a = some o → a ∉ A → H' a = some o
  dom : ∀ a, H a ≠ none → H' a ≠ none
  new : ∀ a, F' a ≠ none → F a ≠ none ∨ a ∈ A ∨ H a = none
  own : ∀ a ∈ A', a ∈ A ∨ H a = none
section
variable {K : PySem.W.Frag} {F F' F1 F2 H H' H1 H2 : Hp} {σ σ' τ : St} {Γ Γ' Θ : Gm} {A A' A1 A2 B C : List Addr}
theorem Ext.refl : Ext F H A F H A := ⟨Same.refl _, fun _ _ e _ => e, fun _ h => h, fun _ h => .inl h, fun _ h => .inl h⟩
theorem Ext.trans (x : Ext F H A F1 H1 A1) (y : Ext F1 H1 A1 F2 H2 A2) : Ext F H A F2 H2 A2 where
  ff := x.ff.trans y.ff
  keep := fun a o e n => y.keep a o (x.keep a o e n) fun m => by
    rcases x.own a m with z | z
    · exact n z
    · rw [e] at z; cases z
  dom := fun a h => y.dom a (x.dom a h)
  new := fun a h => by
    rcases y.new a h with z | z | z
    · exact x.new a z
    · exact .inr (x.own a z)
    · exact .inr (.inr (Classical.byContradiction fun q => x.dom a q z))
  own := fun a h => by
    rcases y.own a h with z | z
    · exact x.own a z
    · exact .inr (Classical.byContradiction fun q => x.dom a q z)
theorem Ext.own' (x : Ext F H A F' H' A') (h : ∀ a ∈ B, a ∈ A') : Ext F H A F' H' B := ⟨x.ff, x.keep, x.dom, x.new, fun a m => x.own a (h a m)⟩
theorem OK.perm (k : OwnL K F H σ Γ A) (le : Same F H) (nd : B.Nodup) (fr : ∀ a ∈ B, F a = none) (p : A.Perm B) : OK K F H σ Γ A := ⟨le, k, p.nodup_iff.mpr nd, fun a m => fr a (p.mem_iff.mp m)⟩
theorem OK.frameAt (k : OK K F H (τ ++ σ) (Θ ++ Γ) (B ++ C)) (h1 : OwnL K F H τ Θ B) (h2 : OwnL K F H σ Γ C) : OK K F H σ Γ C ∧ ∀ F' H' σ' Γ' A', Ext F H C F' H' A' → OK K F' H' σ' Γ' A' → ∃ A'', Ext F H (B ++ C) F' H' A'' ∧ OK K F' H' (τ ++ σ') (Θ ++ Γ') A'' := by
  obtain ⟨n1, n2, n3⟩ := List.nodup_append.mp k.nd
  have nB : ∀ a ∈ B, a ∉ C := fun a h1 h2 => n3 a h1 a h2 rfl
  refine ⟨⟨k.le, h2, n2, fun a m => k.fr a (List.mem_append_right _ m)⟩, fun F' H' σ' Γ' A' x k' => ?_⟩
  have hB : ∀ a ∈ B, F' a = none := fun a m => by
    cases e : F' a with
    | none => rfl
    | some o =>
      rcases x.new a (by rw [e]; exact fun z => by cases z) with z | z | z
      · exact absurd (k.fr a (List.mem_append_left _ m)) z
      · exact absurd z (nB a m)
      · exact absurd z (h1.there a m)
  refine ⟨B ++ A', ⟨x.ff, fun a o e n => x.keep a o e fun m => n (List.mem_append_right _ m), x.dom, fun a h => ?_, fun a m => ?_⟩, k'.le, (h1.keep x.ff fun a m o e => x.keep a o e (nB a m)).app k'.os, ?_, ?_⟩
  · rcases x.new a h with z | z | z
    · exact .inl z
    · exact .inr (.inl (List.mem_append_right _ z))
    · exact .inr (.inr z)
  · rcases List.mem_append.mp m with m | m
    · exact .inl (List.mem_append_left _ m)
    · rcases x.own a m with z | z
      · exact .inl (List.mem_append_right _ z)
      · exact .inr z
  · refine List.nodup_append.mpr ⟨n1, k'.nd, fun a m b m' e => ?_⟩
    subst e
    rcases x.own a m' with z | z
    · exact nB a m z
    · exact h1.there a m z
  · intro a m
    rcases List.mem_append.mp m with m | m
    · exact hB a m
    · exact k'.fr a m
theorem OK.frame (k : OK K F H (τ ++ σ) (Θ ++ Γ) A) (hl : τ.length = Θ.length) : ∃ C, OK K F H σ Γ C ∧ ∀ F' H' σ' Γ' A', Ext F H C F' H' A' → OK K F' H' σ' Γ' A' → ∃ A'', Ext F H A F' H' A'' ∧ OK K F' H' (τ ++ σ') (Θ ++ Γ') A'' := by
  obtain ⟨B, C, h1, h2, h3⟩ := OwnL.split hl k.os
  subst h3
  exact ⟨C, k.frameAt h1 h2⟩
theorem OK.swap (k : OK K F H (τ ++ σ) (Θ ++ Γ) A) (hl : τ.length = Θ.length) : ∃ B, B.Perm A ∧ OK K F H (σ ++ τ) (Γ ++ Θ) B := by
  obtain ⟨B, C, h1, h2, h3⟩ := OwnL.split hl k.os
  subst h3
  exact ⟨C ++ B, List.perm_append_comm, .perm (h2.app h1) k.le k.nd k.fr List.perm_append_comm⟩
theorem OK.part (k : OK K F H (τ ++ σ) (Θ ++ Γ) A) (hl : τ.length = Θ.length) : ∃ B, OK K F H σ Γ B ∧ ∀ a ∈ B, a ∈ A := by
  obtain ⟨B, C, h1, h2, h3⟩ := OwnL.split hl k.os
  subst h3
  exact ⟨C, ⟨k.le, h2, (List.nodup_append.mp k.nd).2.1, fun a m => k.fr a (List.mem_append_right _ m)⟩, fun a m => List.mem_append_right _ m⟩
theorem OK.push {v : V} {o : O} {Av : List Addr} (k : OK K F H σ Γ A) (s : Same H H') (q : OwnL K F H' [some v] [some o] Av) (nd : Av.Nodup) (fresh : ∀ a ∈ Av, H a = none) :
    OK K F H' (some v :: σ) (some o :: Γ) (Av ++ A) ∧ Ext F H A F H' (Av ++ A) := by
  have ne : ∀ a ∈ Av, a ∉ A := fun a m z => k.os.there a z (fresh a m)
  refine ⟨⟨k.le.trans s, q.app (k.os.keep (Same.refl _) fun a _ o e => s a o e), List.nodup_append.mpr ⟨nd, k.nd, fun a m b m' e => ?_⟩, fun a m => ?_⟩, Same.refl _, fun a o e _ => s a o e, fun a h z => ?_, fun a h => .inl h, fun a m => ?_⟩
  · subst e; exact ne a m m'
  · rcases List.mem_append.mp m with m | m
    · exact k.le.free (fresh a m)
    · exact k.fr a m
  · exact h (s.free z)
  · rcases List.mem_append.mp m with m | m
    · exact .inr (fresh a m)
    · exact .inl m
end
end L2
set_option Elab.async false
set_option linter.all false
set_option maxRecDepth 100000
set_option maxHeartbeats 4000000
namespace L2
open PySem PySem.Spec PyProof.Rows
inductive R where
  | own (o : O) | var (i : Nat)
def R.o : R → Option O
  | .own o => some o
  | .var _ => none
abbrev GE := Gm → Option (R × Gm)
abbrev GA := Gm → Option (List R × Gm)
abbrev GT := Gm → Option (Bool × Gm)
def Held (σ : St) : List R → List V → Prop
  | [], [] => True
  | .own _ :: rs, _ :: vs => Held σ rs vs
  | .var i :: rs, v :: vs => σ[i]? = some (some v) ∧ Held σ rs vs
  | _, _ => False
def Post (K : PySem.W.Frag) (F H : Hp) (A : List Addr) (σ : St) (Γ' : Gm) (rs : List R) (vs : List V) (H' : Hp) : Prop :=
  ∃ F' A', Ext F H A F' H' A' ∧ OK K F' H' (vs.map some ++ σ) (rs.map R.o ++ Γ') A' ∧ Held σ rs vs
def tG (K : PySem.W.Frag) (f : GE) : TE := fun σ H Q => ∃ F A Γ r Γ', OK K F H σ Γ A ∧ f Γ = some (r, Γ') ∧ ∀ v H', Post K F H A σ Γ' [r] [v] H' → Q v H'
def tGA (K : PySem.W.Frag) (f : GA) : TA := fun σ H Q => ∃ F A Γ rs Γ', OK K F H σ Γ A ∧ f Γ = some (rs, Γ') ∧ ∀ vs H', Post K F H A σ Γ' rs vs H' → Q vs H'
def tGT (K : PySem.W.Frag) (f : GT) : TT := fun σ H Q => ∃ F A Γ b Γ', OK K F H σ Γ A ∧ f Γ = some (b, Γ') ∧ ∀ H', Post K F H A σ Γ' [] [] H' → Q b H'
theorem Held.length : ∀ {σ : St} {rs : List R} {vs : List V}, Held σ rs vs → rs.length = vs.length
  | _, [], [], _ => rfl
  | _, .own _ :: rs, _ :: vs, h => by simp [Held.length (σ := _) (rs := rs) (vs := vs) h]
  | _, .var _ :: rs, _ :: vs, h => by simp [Held.length (σ := _) (rs := rs) (vs := vs) h.2]
  | _, [], _ :: _, h => h.elim
  | _, .own _ :: _, [], h => h.elim
  | _, .var _ :: _, [], h => h.elim
theorem Held.one {σ : St} {r : R} {vs : List V} {rs : List R} {v : V} (h : Held σ [r] [v]) (t : Held σ rs vs) : Held σ (r :: rs) (v :: vs) := by
  cases r with
  | own o => exact t
  | var i => exact ⟨h.1, t⟩
theorem PE.mono {X : Cx} {e : Expr} {t t' : TE} (h : PE X e t) (m : ∀ σ H Q, t' σ H Q → t σ H Q) : PE X e t' := fun pins s σ H Q I q => h pins s σ H Q I (m _ _ _ q)
theorem PT.mono {X : Cx} {e : Expr} {t t' : TT} (h : PT X e t) (m : ∀ σ H Q, t' σ H Q → t σ H Q) : PT X e t' := fun pins s σ H Q I q => h pins s σ H Q I (m _ _ _ q)
theorem PW.mono {X : Cx} {e : Expr} {t t' : TT} (h : PW X e t) (m : ∀ σ H Q, t' σ H Q → t σ H Q) : PW X e t' := fun wh pins s σ H Q I q => h wh pins s σ H Q I (m _ _ _ q)
theorem PA.mono {X : Cx} {e : List Expr} {t t' : TA} (h : PA X e t) (m : ∀ σ H Q, t' σ H Q → t σ H Q) : PA X e t' := fun pos pins s σ H Q I q => h pos pins s σ H Q I (m _ _ _ q)
theorem PS.mono {X : Cx} {e : Stmt} {t t' : TS} (h : PS X e t) (m : ∀ D σ H, t' D σ H → t D σ H) : PS X e t' := fun pins s σ H D I q => h pins s σ H D I (m _ _ _ q)
theorem PSs.mono {X : Cx} {e : List Stmt} {t t' : TS} (h : PSs X e t) (m : ∀ D σ H, t' D σ H → t D σ H) : PSs X e t' := fun pins s σ H D I q => h pins s σ H D I (m _ _ _ q)
section
variable {K : PySem.W.Frag} {F H : Hp} {A : List Addr} {σ : St} {Γ Γ' : Gm}
theorem Post.then {F' H' H'' : Hp} {A' : List Addr} {r : R} {v : V} {rs : List R} {vs : List V} {Γ1 Γ2 : Gm} (h : Post K F H A σ Γ1 [r] [v] H')
    (go : ∀ F1 A1, OK K F1 H' σ Γ1 A1 → Post K F1 H' A1 σ Γ2 rs vs H'') : Post K F H A σ Γ2 (r :: rs) (v :: vs) H'' := by
  obtain ⟨F1, A1, x, k, hh⟩ := h
  have k : OK K F1 H' ([some v] ++ σ) ([r.o] ++ Γ1) A1 := k
  obtain ⟨C, kC, fr⟩ := k.frame rfl
  obtain ⟨F2, A2, x2, k2, h2⟩ := go F1 C kC
  obtain ⟨A3, x3, k3⟩ := fr _ _ _ _ _ x2 k2
  exact ⟨F2, A3, x.trans x3, k3, Held.one hh h2⟩
def seeR (Γ : Gm) : R → Option O
  | .own o => some o
  | .var i => (Γ[i]?).join
def seeL (Γ : Gm) : List R → Option (List O)
  | [] => some []
  | r :: rs => (seeR Γ r).bind fun o => (seeL Γ rs).bind fun os => some (o :: os)
def Sees (K : PySem.W.Frag) (F H : Hp) : List V → List O → Prop := Paired fun v o => ∃ B, OwnL K F H [some v] [some o] B
theorem see_all : ∀ {rs : List R} {vs : List V} {os : List O} {B : List Addr}, OwnL K F H σ Γ A → OwnL K F H (vs.map some) (rs.map R.o) B → Held σ rs vs → seeL Γ rs = some os → Sees K F H vs os
  | [], [], os, _, _, _, _, e => by cases e; exact .nil
  | r :: rs, v :: vs, os, B, k, h, hh, e => by
    obtain ⟨B1, C1, h1, h2, _⟩ := OwnL.one h
    unfold seeL at e
    cases e1 : seeR Γ r with
    | none => rw [e1] at e; cases e
    | some o =>
      rw [e1] at e
      cases e2 : seeL Γ rs with
      | none => rw [e2] at e; cases e
      | some os' =>
        rw [e2] at e
        cases e
        cases r with
        | own o' => cases e1; exact .cons ⟨_, h1⟩ (see_all k h2 hh e2)
        | var i =>
          have e3 : Γ[i]? = some (some o) := by
            have : (Γ[i]?).join = some o := e1
            cases q : Γ[i]? with
            | none => rw [q] at this; cases this
            | some z => rw [q] at this; exact congrArg some this
          obtain ⟨v', Ai, B', g1, g2, _⟩ := k.take e3
          have := hh.1
          rw [g1] at this
          cases this
          exact .cons ⟨_, g2⟩ (see_all k h2 hh.2 e2)
  | [], _ :: _, _, _, _, _, h, _ => h.elim
  | .own _ :: _, [], _, _, _, _, h, _ => h.elim
  | .var _ :: _, [], _, _, _, _, h, _ => h.elim
def Res (K : PySem.W.Frag) (F H : Hp) (o : O) (Q : VK) : Prop := ∀ v H' Av, Same H H' → OwnL K F H' [some v] [some o] Av → Av.Nodup → (∀ a ∈ Av, H a = none) → Q v H'
theorem Post.res {rs : List R} {vs : List V} {H1 : Hp} {os : List O} {o : O} {Q : VK} (h : Post K F H A σ Γ' rs vs H1) (e : seeL Γ' rs = some os) (q : ∀ v H', Post K F H A σ Γ' [.own o] [v] H' → Q v H') :
    ∃ F1, Same F1 H1 ∧ Sees K F1 H1 vs os ∧ Res K F1 H1 o Q := by
  obtain ⟨F1, A1, x, k, hh⟩ := h
  have hl : (vs.map some).length = (rs.map R.o).length := by rw [List.length_map, List.length_map, hh.length]
  obtain ⟨B, C, h1, h2, h3⟩ := OwnL.split hl k.os
  refine ⟨F1, k.le, see_all h2 h1 hh e, fun v H' Av s w nd fresh => q v H' ?_⟩
  obtain ⟨B', kB, sub⟩ := k.part hl
  obtain ⟨k2, x2⟩ := kB.push s w nd fresh
  exact ⟨F1, Av ++ B', x.trans ((Ext.own' Ext.refl sub).trans x2), k2, True.intro⟩
theorem Res.flat {d : D} {v : V} {Q : VK} (h : Res K F H (.frz d) Q) (e : flatOf d = some v) : Q v H := h v H [] (Same.refl _) (.frz (.flat e .nil) .nil) .nil (fun _ m => by cases m)
theorem Res.frz {d : D} {v : V} {Q : VK} (h : Res K F H (.frz d) Q) (e : RepL K F [v] [d]) : Q v H := h v H [] (Same.refl _) (.frz e .nil) .nil (fun _ m => by cases m)
end
def gC (d : D) : GE := fun Γ => some (.own (.frz d), Γ)
def gVar (i : Nat) : GE := fun Γ => match Γ[i]? with
  | some (some (.frz d)) => some (.own (.frz d), Γ)
  | some (some _) => some (.var i, Γ)
  | _ => none
section
variable {X : Cx} {K : PySem.W.Frag} {e a b : Expr} {es : List Expr} {fa fb : GE} {fs : GA} {pos : Pos}
theorem de_c {v : V} {d : D} (h : PE X e (tC v)) (q : flatOf d = some v := by rfl) : PE X e (tG K (gC d)) := h.mono fun σ H Q t => by
  obtain ⟨F, A, Γ, r, Γ', k, e, w⟩ := t
  cases e
  obtain ⟨k2, x⟩ := k.push (v := v) (o := .frz d) (Av := []) (Same.refl _) (.frz (.flat q .nil) .nil) .nil (fun _ m => by cases m)
  exact w v H ⟨F, _, x, k2, True.intro⟩
theorem de_var {i : Nat} (h : PE X e (tVar i)) : PE X e (tG K (gVar i)) := h.mono fun σ H Q t => by
  obtain ⟨F, A, Γ, r, Γ', k, e, w⟩ := t
  unfold gVar at e
  cases q : Γ[i]? with
  | none => rw [q] at e; cases e
  | some z =>
    cases z with
    | none => rw [q] at e; cases e
    | some o =>
      rw [q] at e
      obtain ⟨v, Ai, B, g1, g2, g3, g4⟩ := k.os.take q
      refine ⟨v, g1, w v H ?_⟩
      cases o with
      | frz d =>
        cases e
        cases g2 with
        | frz rp _ =>
          obtain ⟨k2, x⟩ := k.push (v := v) (o := .frz d) (Av := []) (Same.refl _) (.frz rp .nil) .nil (fun _ m => by cases m)
          exact ⟨F, _, x, k2, True.intro⟩
      | _ =>
        cases e
        exact ⟨F, A, Ext.refl, ⟨k.le, .skip k.os, k.nd, k.fr⟩, g1, True.intro⟩
def gaNil : GA := fun Γ => some ([], Γ)
def gaCons (f : GE) (g : GA) : GA := fun Γ => (f Γ).bind fun p => (g p.2).bind fun q => some (p.1 :: q.1, q.2)
theorem gaCons_inv {f : GE} {g : GA} {Γ Γ' : Gm} {rs : List R} (e : gaCons f g Γ = some (rs, Γ')) : ∃ r Γ1 rs', f Γ = some (r, Γ1) ∧ g Γ1 = some (rs', Γ') ∧ rs = r :: rs' := by
  unfold gaCons at e
  cases e1 : f Γ with
  | none => rw [e1] at e; cases e
  | some p =>
    rw [e1] at e
    dsimp only [Option.bind] at e
    cases e2 : g p.2 with
    | none => rw [e2] at e; cases e
    | some q => rw [e2] at e; cases e; exact ⟨p.1, p.2, q.1, rfl, e2, rfl⟩
theorem da_nil : PA X [] (tGA K gaNil) := pa_nil.mono fun σ H Q t => by
  obtain ⟨F, A, Γ, r, Γ', k, e, w⟩ := t
  cases e
  exact w [] H ⟨F, A, Ext.refl, k, True.intro⟩
theorem tGA_cons {σ : St} {H : Hp} {Q : List V → Hp → Prop} (t : tGA K (gaCons fa fs) σ H Q) : tCons (tG K fa) (tGA K fs) σ H Q := by
  obtain ⟨F, A, Γ, r, Γ', k, e, w⟩ := t
  obtain ⟨r1, Γ1, rs, e1, e2, rfl⟩ := gaCons_inv e
  refine ⟨F, A, Γ, r1, Γ1, k, e1, fun v H1 p => ?_⟩
  obtain ⟨F1, A1, x, k1, hh⟩ := id p
  obtain ⟨C, kC, fr⟩ := OK.frame (τ := [some v]) (Θ := [r1.o]) k1 rfl
  refine ⟨F1, C, Γ1, rs, Γ', kC, e2, fun vs H2 p2 => w (v :: vs) H2 ?_⟩
  obtain ⟨F2, A2, x2, k2, h2⟩ := p2
  obtain ⟨A3, x3, k3⟩ := fr _ _ _ _ _ x2 k2
  exact ⟨F2, A3, x.trans x3, k3, Held.one hh h2⟩
theorem da_cons (ha : PE X e (tG K fa)) (hs : PA X es (tGA K fs)) (hp : starEach (e :: es) X.env = (false, eval e X.env) :: starEach es X.env := by rfl) : PA X (e :: es) (tGA K (gaCons fa fs)) :=
  (pa_cons ha hs hp).mono fun σ H Q t => tGA_cons t
def gOp (g : List O → Option O) (fs : GA) : GE := fun Γ => (fs Γ).bind fun p => (seeL p.2 p.1).bind fun os => (g os).bind fun o => some (.own o, p.2)
abbrev gBin (g : List O → Option O) (fa fb : GE) : GE := gOp g (gaCons fa (gaCons fb gaNil))
abbrev gUn (g : List O → Option O) (fa : GE) : GE := gOp g (gaCons fa gaNil)
theorem gOp_inv {g : List O → Option O} {Γ Γ' : Gm} {r : R} (e : gOp g fs Γ = some (r, Γ')) : ∃ rs os o, fs Γ = some (rs, Γ') ∧ seeL Γ' rs = some os ∧ g os = some o ∧ r = .own o := by
  unfold gOp at e
  cases e1 : fs Γ with
  | none => rw [e1] at e; cases e
  | some p =>
    rw [e1] at e
    dsimp only [Option.bind] at e
    cases e2 : seeL p.2 p.1 with
    | none => rw [e2] at e; cases e
    | some os =>
      rw [e2] at e
      dsimp only at e
      cases e3 : g os with
      | none => rw [e3] at e; cases e
      | some o => rw [e3] at e; cases e; exact ⟨p.1, os, o, rfl, e2, e3, rfl⟩
def OpOk (K : PySem.W.Frag) (r : List V → Hp → VK → Prop) (g : List O → Option O) : Prop :=
  ∀ (F H : Hp) (vs : List V) (os : List O) (o : O) (Q : VK), Same F H → Sees K F H vs os → g os = some o → Res K F H o Q → r vs H Q
theorem tG_op {r : List V → Hp → VK → Prop} {g : List O → Option O} (ok : OpOk K r g) {σ : St} {H : Hp} {Q : VK} (t : tG K (gOp g fs) σ H Q) : tGA K fs σ H fun vs H1 => r vs H1 Q := by
  obtain ⟨F, A, Γ, rr, Γ', k, e, w⟩ := t
  obtain ⟨rs, os, o, e1, e2, e3, rfl⟩ := gOp_inv e
  refine ⟨F, A, Γ, rs, Γ', k, e1, fun vs H1 p => ?_⟩
  obtain ⟨F1, le, see, res⟩ := p.res e2 w
  exact ok F1 H1 vs os o Q le see e3 res
def r2L (r : R2) : List V → Hp → VK → Prop := fun vs H Q => ∃ x y, vs = [x, y] ∧ r x y H Q
def r1L (r : V → Hp → VK → Prop) : List V → Hp → VK → Prop := fun vs H Q => ∃ x, vs = [x] ∧ r x H Q
theorem tG.mono {f : GE} {Q1 Q2 : VK} {σ : St} {H : Hp} (t : tG K f σ H Q1) (q : ∀ v H', Q1 v H' → Q2 v H') : tG K f σ H Q2 := by
  obtain ⟨F, A, Γ, rr, Γ', k, e, w⟩ := t
  exact ⟨F, A, Γ, rr, Γ', k, e, fun v H' p => q _ _ (w v H' p)⟩
theorem tG_bin {r : R2} {g : List O → Option O} (ok : OpOk K (r2L r) g) {σ : St} {H : Hp} {Q : VK} (t : tG K (gBin g fa fb) σ H Q) : tOp r (tG K fa) (tG K fb) σ H Q := by
  show tG K fa σ H fun x H1 => tG K fb σ H1 fun y H2 => r x y H2 Q
  refine tG.mono (tGA_cons (tG_op ok t)) fun x H1 h => tG.mono (tGA_cons h) fun y H2 h2 => ?_
  obtain ⟨F, A, Γ, rs, Γ', k, e, w⟩ := h2
  cases e
  obtain ⟨x', y', e1, h3⟩ := w [] H2 ⟨F, A, Ext.refl, k, True.intro⟩
  cases e1
  exact h3
theorem tG_un {r : V → Hp → VK → Prop} {g : List O → Option O} (ok : OpOk K (r1L r) g) {σ : St} {H : Hp} {Q : VK} (t : tG K (gUn g fa) σ H Q) : tG K fa σ H fun x H1 => r x H1 Q := by
  refine tG.mono (tGA_cons (tG_op ok t)) fun x H1 h => ?_
  obtain ⟨F, A, Γ, rs, Γ', k, e, w⟩ := h
  cases e
  obtain ⟨x', e1, h3⟩ := w [] H1 ⟨F, A, Ext.refl, k, True.intro⟩
  cases e1
  exact h3
theorem de_op {op : Operator} {r : R2} {g : List O → Option O} (ho : OpR X (binaryOp op) r) (ok : OpOk K (r2L r) g) (ha : PE X a (tG K fa)) (hb : PE X b (tG K fb)) : PE X (.BinOp a op b pos) (tG K (gBin g fa fb)) :=
  (pe_op ho ha hb).mono fun _ _ _ t => tG_bin ok t
theorem de_cmp {op : CmpOp} {r : R2} {g : List O → Option O} (ho : OpR X (compareOp op) r) (ok : OpOk K (r2L r) g) (ha : PE X a (tG K fa)) (hb : PE X b (tG K fb)) (hm : behindInMarks op b = false := by first | rfl | exact nomark _) : PE X (.Compare a [op] [b] pos) (tG K (gBin g fa fb)) :=
  (pe_cmpR ho ha hb hm).mono fun _ _ _ t => tG_bin ok t
theorem de_ix {r : R2} {g : List O → Option O} (hr : IxR X r) (ok : OpOk K (r2L r) g) (ha : PE X a (tG K fa)) (hb : PE X b (tG K fb)) (hs : PlainIx b := by exact fun _ _ => rfl) : PE X (.Subscript a b pos) (tG K (gBin g fa fb)) :=
  (pe_ix hr ha hb hs).mono fun _ _ _ t => tG_bin ok t
variable {x : Str} {p : Pos} {id T : String} {r : List V → Hp → VK → Prop} {g : List O → Option O}
theorem de_callB (hc : CallR X (.builtin id) r) (ok : OpOk K r g) (hm : X.mg x = none) (hv : bootBuiltins x = some (.builtin id)) (ha : PA X (e :: es) (tGA K fs)) (hg : Gl X x := by rfl) (hn : x ≠ "__name__" := by decide) (hdb : (x == ("__debug__" : Str)) = false := by decide)
    (he : starEach (e :: es) X.env = (false, eval e X.env) :: starEach es X.env := by rfl) (hpl : (backTo pos (starEach es X.env)).any (·.1) = false := by rfl) : PE X (.Call (.Name x p) (e :: es) [] pos) (tG K (gOp g fs)) :=
  (pe_callB hc hg hm hv ha hn hdb he hpl).mono fun _ _ _ t => tG_op ok t
mutual
def O.d : O → D
  | .frz d => d
  | .lst xs => .lst (O.dl xs)
  | .tup xs => .tup (O.dl xs)
  | .dct kvs => .dct (O.dk kvs)
def O.dl : List O → List D
  | [] => []
  | x :: xs => x.d :: O.dl xs
def O.dk : List (TK × O) → List (TK × D)
  | [] => []
  | (k, x) :: xs => (k, x.d) :: O.dk xs
end
end
theorem OwnL.rep {K : PySem.W.Frag} {F F' H : Hp} {σ : St} {Γ : Gm} {A : List Addr} (h : OwnL K F H σ Γ A) (s : Same F F') (k : ∀ a ∈ A, ∀ o, H a = some o → F' a = some o) :
    ∀ (vs : List V) (os : List O), σ = vs.map some → Γ = os.map some → RepL K F' vs (O.dl os) := by
  induction h with
  | nil =>
    intro vs os e1 e2
    cases vs with
    | nil => cases os with
      | nil => exact .nil
      | cons _ _ => cases e2
    | cons _ _ => cases e1
  | skip _ _ =>
    intro vs os e1 e2
    cases os with
    | nil => cases e2
    | cons _ _ => injection e2 with e3 _; cases e3
  | frz r _ ih =>
    intro vs os e1 e2
    cases vs with
    | nil => cases e1
    | cons v vs => cases os with
      | nil => cases e2
      | cons o os =>
        injection e1 with e3 e4
        injection e2 with e5 e6
        cases e3; cases e5
        exact .cons (r.mono s) (ih k vs os e4 e6)
  | lst e _ _ i1 i2 =>
    intro vs os e1 e2
    cases vs with
    | nil => cases e1
    | cons v vs => cases os with
      | nil => cases e2
      | cons o os =>
        injection e1 with e3 e4
        injection e2 with e5 e6
        cases e3; cases e5
        exact .lst (.inl (k _ (by simp) _ e)) (i1 (fun a m => k a (by simp [m])) _ _ rfl rfl) (i2 (fun a m => k a (by simp [m])) vs os e4 e6)
  | tup e _ _ i1 i2 =>
    intro vs os e1 e2
    cases vs with
    | nil => cases e1
    | cons v vs => cases os with
      | nil => cases e2
      | cons o os =>
        injection e1 with e3 e4
        injection e2 with e5 e6
        cases e3; cases e5
        exact .tup (SqT.of (k _ (by simp) _ e)) (i1 (fun a m => k a (by simp [m])) _ _ rfl rfl) (i2 (fun a m => k a (by simp [m])) vs os e4 e6)
  | @dct a kvs ps ep A B σ Γ e q r _ _ i1 i2 =>
    intro vs os e1 e2
    cases vs with
    | nil => cases e1
    | cons v vs => cases os with
      | nil => cases e2
      | cons o os =>
        injection e1 with e3 e4
        injection e2 with e5 e6
        cases e3; cases e5
        have hk : ∀ ps : List (TK × O), (O.dk ps).map (·.1) = ps.map (·.1) ∧ (O.dk ps).map (·.2) = O.dl (ps.map (·.2)) ∧ (O.dk ps).map (·.1.d) = ps.map (·.1.d) := by
          intro ps
          induction ps with
          | nil => exact ⟨rfl, rfl, rfl⟩
          | cons p ps ih => obtain ⟨a, b⟩ := p; exact ⟨by simp [O.dk, ih.1], by simp [O.dk, O.dl, ih.2.1], by simp [O.dk, ih.2.2]⟩
        refine .dct (k _ (by simp) _ e) (q.trans (hk ps).1.symm) (by rw [(hk ps).2.2]; exact r.mono s) ?_ (i2 (fun a m => k a (by simp [m])) vs os e4 e6)
        rw [(hk ps).2.1]
        exact i1 (fun a m => k a (by simp [m])) _ _ (by simp) (by simp)
section
variable {K : PySem.W.Frag} {F H : Hp} {A : List Addr} {σ : St} {Γ : Gm}
theorem OK.freeze {v : V} {o : O} (k : OK K F H (some v :: σ) (some o :: Γ) A) : ∃ F' A', OK K F' H (some v :: σ) (some (.frz o.d) :: Γ) A' ∧ Ext F H A F' H A' := by
  obtain ⟨B, C, h1, h2, h3⟩ := k.os.one
  subst h3
  obtain ⟨n1, n2, n3⟩ := List.nodup_append.mp k.nd
  let F' : Hp := fun a => if a ∈ B then H a else F a
  have in' : ∀ a, a ∈ B → F' a = H a := fun a m => if_pos m
  have out' : ∀ a, a ∉ B → F' a = F a := fun a m => if_neg m
  have s : Same F F' := fun a u e => by
    rw [out' a fun m => by rw [k.fr a (List.mem_append_left _ m)] at e; cases e]
    exact e
  have le : Same F' H := fun a u e => by
    by_cases m : a ∈ B
    · rw [in' a m] at e; exact e
    · rw [out' a m] at e; exact k.le a u e
  have rp : RepL K F' [v] [o.d] := h1.rep s (fun a m u e => by rw [in' a m]; exact e) [v] [o] rfl rfl
  refine ⟨F', C, ⟨le, .frz rp (h2.keep s fun a _ u e => e), n2, fun a m => ?_⟩, s, fun a u e _ => e, fun a h => h, fun a h => ?_, fun a m => .inl (List.mem_append_right _ m)⟩
  · rw [out' a fun z => n3 a z a m rfl]
    exact k.fr a (List.mem_append_right _ m)
  · by_cases m : a ∈ B
    · exact .inr (.inl (List.mem_append_left _ m))
    · rw [out' a m] at h; exact .inl h
theorem OK.grab {v : V} {o : O} {i : Nat} {A : List Addr} (k : OK K F H (some v :: σ) (none :: Γ) A) (hv : σ[i]? = some (some v)) (ho : Γ[i]? = some (some o)) : ∃ A', OK K F H (some v :: σ) (some o :: Γ.set i none) A' ∧ Ext F H A F H A' := by
  obtain ⟨B, C, h1, h2, h3⟩ := k.os.one
  subst h3
  have eB : B = [] := by cases h1 with | skip t => cases t; rfl
  subst eB
  obtain ⟨v', Ai, B', g1, g2, g3, g4⟩ := h2.take ho
  rw [hv] at g1
  cases g1
  have nd := k.nd
  have fr := k.fr
  rw [List.nil_append] at nd fr
  exact ⟨Ai ++ B', .perm (g2.app g3) k.le nd fr g4.symm, Ext.own' Ext.refl fun a m => g4.mem_iff.mpr m⟩
end
def gFrz (f : GE) : GE := fun Γ => (f Γ).bind fun p => match p.1 with
  | .own o => some (.own (.frz o.d), p.2)
  | .var i => match p.2[i]? with
    | some (some o) => some (.own (.frz o.d), p.2.set i (some (.frz o.d)))
    | _ => none
def gMove (f : GE) : GE := fun Γ => (f Γ).bind fun p => match p.1 with
  | .own o => some (.own o, p.2)
  | .var i => match p.2[i]? with
    | some (some o) => some (.own o, p.2.set i none)
    | _ => none
section
variable {X : Cx} {K : PySem.W.Frag} {e a b : Expr} {es : List Expr} {fa fb : GE} {fs : GA} {pos : Pos}
theorem set_same {α : Type} : ∀ {l : List α} {i : Nat} {x : α}, l[i]? = some x → l.set i x = l
  | [], _, _, e => by simp at e
  | y :: l, 0, x, e => by simp at e; subst e; rfl
  | y :: l, i + 1, x, e => by rw [List.set_cons_succ, set_same (by simpa using e)]
theorem Post.frz {F H : Hp} {A : List Addr} {σ : St} {Γ Γ1 Γ' : Gm} {r r' : R} {v : V} {H' : Hp} {f : GE} (e : f Γ = some (r, Γ1)) (e' : gFrz f Γ = some (r', Γ')) (h : Post K F H A σ Γ1 [r] [v] H') : Post K F H A σ Γ' [r'] [v] H' := by
  obtain ⟨F1, A1, x, k, hh⟩ := h
  unfold gFrz at e'
  rw [e] at e'
  cases r with
  | own o =>
    cases e'
    obtain ⟨F2, A2, k2, x2⟩ := OK.freeze (σ := σ) (Γ := Γ1) k
    exact ⟨F2, A2, x.trans x2, k2, True.intro⟩
  | var i =>
    dsimp only [Option.bind] at e'
    cases q : Γ1[i]? with
    | none => rw [q] at e'; cases e'
    | some z =>
      cases z with
      | none => rw [q] at e'; cases e'
      | some o =>
        rw [q] at e'
        cases e'
        have hv : σ[i]? = some (some v) := hh.1
        obtain ⟨A2, k2, x2⟩ := OK.grab (σ := σ) (Γ := Γ1) k hv q
        obtain ⟨F3, A3, k3, x3⟩ := OK.freeze k2
        obtain ⟨B, C, h1, h2, h3⟩ := k3.os.one
        have hi : i < (Γ1.set i none).length := by
          rw [List.length_set]
          exact (List.getElem?_eq_some_iff.mp q).1
        have rp : RepL K F3 [v] [o.d] := by cases h1 with | frz r _ => exact r
        have eB : B = [] := by cases h1 with | frz _ t => cases t; rfl
        subst eB
        obtain ⟨B2, g1, C2, g2, g3⟩ := OwnL.put (.frz rp .nil) i h2 hi
        rw [set_same hv, List.set_set] at g1
        rw [List.nil_append] at g2 h3
        subst h3
        have nd2 : B2.Nodup := g2.nodup_iff.mpr (k3.nd.sublist g3)
        have sub : ∀ a ∈ B2, a ∈ A3 := fun a m => g3.subset (g2.mem_iff.mp m)
        exact ⟨F3, B2, (x.trans (x2.trans x3)).own' sub, ⟨k3.le, .frz rp g1, nd2, fun a m => k3.fr a (sub a m)⟩, True.intro⟩
theorem gFrz_inv {f : GE} {Γ Γ' : Gm} {r : R} (e : gFrz f Γ = some (r, Γ')) : ∃ r1 Γ1, f Γ = some (r1, Γ1) := by
  unfold gFrz at e
  cases q : f Γ with
  | none => rw [q] at e; cases e
  | some p => exact ⟨p.1, p.2, rfl⟩
theorem tG_frz {σ : St} {H : Hp} {Q : VK} (t : tG K (gFrz fa) σ H Q) : tG K fa σ H Q := by
  obtain ⟨F, A, Γ, rr, Γ', k, e, w⟩ := t
  obtain ⟨r1, Γ1, e1⟩ := gFrz_inv e
  exact ⟨F, A, Γ, r1, Γ1, k, e1, fun v H' p => w v H' (p.frz e1 e)⟩
theorem de_frz (h : PE X e (tG K fa)) : PE X e (tG K (gFrz fa)) := h.mono fun _ _ _ t => tG_frz t
def ownL : List R → Option (List O)
  | [] => some []
  | .own o :: rs => (ownL rs).bind fun os => some (o :: os)
  | .var _ :: _ => none
theorem ownL_map : ∀ {rs : List R} {os : List O}, ownL rs = some os → rs.map R.o = os.map some
  | [], os, e => by cases e; rfl
  | .own o :: rs, os, e => by
    unfold ownL at e
    cases q : ownL rs with
    | none => rw [q] at e; cases e
    | some os' => rw [q] at e; cases e; simp [ownL_map q, R.o]
  | .var _ :: _, _, e => by cases e
def gSeq (c : List O → O) (fs : GA) : GE := fun Γ => (fs Γ).bind fun p => if p.1.length ≤ 1000 then (ownL p.1).bind fun os => some (.own (c os), p.2) else none
theorem gSeq_inv {c : List O → O} {Γ Γ' : Gm} {r : R} (e : gSeq c fs Γ = some (r, Γ')) : ∃ rs os, fs Γ = some (rs, Γ') ∧ rs.length ≤ 1000 ∧ ownL rs = some os ∧ r = .own (c os) := by
  unfold gSeq at e
  cases e1 : fs Γ with
  | none => rw [e1] at e; cases e
  | some p =>
    rw [e1] at e
    dsimp only [Option.bind] at e
    split at e
    · cases e2 : ownL p.1 with
      | none => rw [e2] at e; cases e
      | some os => rw [e2] at e; cases e; exact ⟨p.1, os, rfl, by assumption, e2, rfl⟩
    · cases e
theorem de_lst (h : PA X es (tGA K fs)) : PE X (.List es pos) (tG K (gSeq .lst fs)) := (pe_lst h).mono fun σ H Q t => by
  obtain ⟨F, A, Γ, rr, Γ', k, e, w⟩ := t
  obtain ⟨rs, os, e1, e2, e3, rfl⟩ := gSeq_inv e
  refine ⟨F, A, Γ, rs, Γ', k, e1, fun vs H1 p => ?_⟩
  obtain ⟨F1, A1, x, k1, hh⟩ := p
  rw [ownL_map e3] at k1
  have hl := hh.length
  have ho : os.length = rs.length := by have := congrArg List.length (ownL_map e3); simpa using this.symm
  refine ⟨sl1000 (by omega), fun l hn => w (.ref l) _ ?_⟩
  obtain ⟨B, C, h1, h2, h3⟩ := OwnL.split (by simp only [List.length_map]; omega) k1.os
  have nl : ∀ a ∈ A1, a ≠ l := fun a m z => k1.os.there a m (by rw [z]; exact hn)
  have kp : ∀ a ∈ A1, ∀ o, H1 a = some o → upd H1 l (.lst vs) a = some o := fun a m o e => by rw [upd_ne (nl a m)]; exact e
  subst h3
  refine ⟨F1, l :: B ++ C, x.trans ⟨Same.refl _, fun a o e _ => ?_, fun a h => ?_, fun a h => .inl h, fun a m => ?_⟩, ⟨fun a o e => ?_, ?_, ?_, ?_⟩, True.intro⟩
  · rw [upd_ne (ne_of_none e hn)]; exact e
  · by_cases z : a = l
    · rw [z, upd_same]; exact fun z => by cases z
    · rw [upd_ne z]; exact h
  · rcases List.mem_cons.mp m with rfl | m
    · exact .inr hn
    · exact .inl m
  · have := k1.le a o e
    rw [upd_ne (ne_of_none this hn)]; exact this
  · exact .lst upd_same (h1.keep (Same.refl _) fun a m => kp a (List.mem_append_left _ m)) (h2.keep (Same.refl _) fun a m => kp a (List.mem_append_right _ m))
  · exact List.nodup_cons.mpr ⟨fun m => nl l m rfl, k1.nd⟩
  · intro a m
    rcases List.mem_cons.mp m with rfl | m
    · exact k1.le.free hn
    · exact k1.fr a m
def gDict0 : GE := fun Γ => some (.own (.dct []), Γ)
theorem dg_empty {P : Program} {w : World} {H : Hp} (h : Heap) (hb : sysModules < h.objs.size) : ObjOk P w H (h.push { cls := .type "dict", data := .dict #[] }) h.objs.size (.dG [] 0) :=
  ⟨Nat.zero_le _, beq_eq_false_iff_ne.mpr (Ne.symm (Nat.ne_of_lt hb)), _, #[], Heap.get?_push_size _ rfl, ⟨rfl, rfl, rfl⟩, rfl, .nil, List.nodup_nil⟩
def gT (f : GE) : GT := fun Γ => (f Γ).bind fun p => match p.1 with
  | .own (.frz (.bl b)) => some (b, p.2)
  | _ => none
theorem Post.drop {F H : Hp} {A : List Addr} {σ : St} {Γ' : Gm} {rs : List R} {vs : List V} {H' : Hp} (h : Post K F H A σ Γ' rs vs H') : Post K F H A σ Γ' [] [] H' := by
  obtain ⟨F1, A1, x, k, hh⟩ := h
  obtain ⟨B, kB, sub⟩ := k.part (by rw [List.length_map, List.length_map, hh.length])
  exact ⟨F1, B, x.own' sub, kB, True.intro⟩
theorem Post.flat {F H : Hp} {A : List Addr} {σ : St} {Γ' : Gm} {d : D} {v w : V} {H' : Hp} (h : Post K F H A σ Γ' [.own (.frz d)] [v] H') (e : flatOf d = some w) : v = w := by
  obtain ⟨F1, A1, x, k, hh⟩ := h
  obtain ⟨B, C, h1, _⟩ := OwnL.one (σ := σ) (Γ := Γ') k.os
  cases h1 with
  | frz r _ =>
    cases r with
    | flat e' _ => rw [e] at e'; exact (Option.some.inj e').symm
    | lst _ _ _ => cases e
    | tup _ _ _ => cases e
    | dct _ _ _ _ _ => cases e
    | scr _ _ => cases e
    | exc _ _ => cases e
theorem tG_test {f : GE} {σ : St} {H : Hp} {Q : Bool → Hp → Prop} (t : tGT K (gT f) σ H Q) : tG K f σ H fun x H' => ∃ k, x = .bl k ∧ Q k H' := by
  obtain ⟨F, A, Γ, b, Γ', k, e, w⟩ := t
  unfold gT at e
  cases q : f Γ with
  | none => rw [q] at e; cases e
  | some p =>
    obtain ⟨r, Γ1⟩ := p
    rw [q] at e
    dsimp only [Option.bind] at e
    cases r with
    | var i => cases e
    | own o =>
      cases o with
      | frz d =>
        cases d with
        | bl b' =>
          cases e
          exact ⟨F, A, Γ, _, _, k, q, fun v H' pp => ⟨_, pp.flat rfl, w H' pp.drop⟩⟩
        | _ => cases e
      | _ => cases e
theorem dt_cmp {op : CmpOp} {r : R2} {g : List O → Option O} (ho : OpR X (compareOp op) r) (ok : OpOk K (r2L r) g) (ha : PE X a (tG K fa)) (hb : PE X b (tG K fb)) (hm : behindInMarks op b = false := by first | rfl | exact nomark _) : PT X (.Compare a [op] [b] pos) (tGT K (gT (gBin g fa fb))) :=
  (pt_cmpR ho ha hb hm).mono fun _ _ _ t => tG_bin ok (tG_test t)
def truO : O → Option Bool
  | .frz .non => some false
  | .frz (.bl b) => some b
  | .frz (.int i) => some (i != 0)
  | .frz (.str x) => if x.length ≤ 1000000 then some ((x.length : Int) != 0) else none
  | .frz (.lst xs) => some (!xs.isEmpty)
  | .frz (.tup xs) => some (!xs.isEmpty)
  | .lst xs => some (!xs.isEmpty)
  | .tup xs => some (!xs.isEmpty)
  | _ => none
def gTru (f : GE) : GT := fun Γ => (f Γ).bind fun p => (seeR p.2 p.1).bind fun o => (truO o).bind fun b => some (b, p.2)
theorem isEmpty_len {α β : Type} {xs : List α} {ys : List β} (h : xs.length = ys.length) : (!xs.isEmpty) = !ys.isEmpty := by
  cases xs <;> cases ys <;> simp_all
theorem truO_ok {F H : Hp} {v : V} {o : O} {b : Bool} {B : List Addr} (le : Same F H) (h : OwnL K F H [some v] [some o] B) (e : truO o = some b) : TruV K v H b := by
  cases h with
  | lst q i _ => cases e; exact .inl ⟨_, SqL.of q, isEmpty_len (by have := i.length; simpa using this.symm)⟩
  | tup q i _ => cases e; exact .inr (.inl ⟨_, SqT.of q, isEmpty_len (by have := i.length; simpa using this.symm)⟩)
  | dct q z r i _ => cases e
  | @frz v d σ Γ B r _ =>
    cases r with
    | lst q i _ => cases e; exact .inl ⟨_, .inl (le.rd q), isEmpty_len i.length.symm⟩
    | tup q i _ => cases e; exact .inr (.inl ⟨_, le.seqT q, isEmpty_len i.length.symm⟩)
    | dct q z r i _ => cases e
    | scr _ _ => cases e
    | exc _ _ => cases e
    | flat q _ =>
      cases d with
      | non => cases q; cases e; rfl
      | bl b' => cases q; cases e; rfl
      | int i => cases q; cases e; rfl
      | str x =>
        cases q
        unfold truO at e
        dsimp only at e
        split at e
        · cases e
          exact ⟨Nat.le_trans (by assumption) (by decide), rfl⟩
        · cases e
      | ty n => cases e
      | lst _ => cases q
      | tup _ => cases q
      | dct _ => cases q
      | scr _ => cases q
      | exc _ _ => cases q
theorem dt_tru {X : Cx} {a : Expr} {fa : GE} (ha : PE X a (tG K fa)) (he : ∀ whole, isTrue a X.env whole = (do let v ← whole; standAt a.pos; holding [v] (truthy v)) := by exact fun _ => rfl) (hK : X.K = K := by rfl) : PT X a (tGT K (gTru fa)) :=
  (pt_truthK K ha he hK).mono fun σ H Q t => by
    obtain ⟨F, A, Γ, b, Γ', k, e, w⟩ := t
    unfold gTru at e
    cases q : fa Γ with
    | none => rw [q] at e; cases e
    | some p =>
      obtain ⟨r, Γ1⟩ := p
      rw [q] at e
      dsimp only [Option.bind] at e
      cases q2 : seeR Γ1 r with
      | none => rw [q2] at e; cases e
      | some o =>
        rw [q2] at e
        dsimp only at e
        cases q3 : truO o with
        | none => rw [q3] at e; cases e
        | some b' =>
          rw [q3] at e
          cases e
          refine ⟨F, A, Γ, r, _, k, q, fun v H' pp => ⟨_, ?_, w H' pp.drop⟩⟩
          obtain ⟨F1, le, see, _⟩ := Post.res (Q := fun _ _ => True) (o := .frz .non) pp (os := [o]) (by unfold seeL; rw [q2]; rfl) (fun _ _ _ => True.intro)
          cases see with
          | cons hs _ => obtain ⟨B, hB⟩ := hs; exact truO_ok le hB q3
def gNotT (f : GT) : GT := fun Γ => (f Γ).bind fun p => some (!p.1, p.2)
def gAndT (f g : GT) : GT := fun Γ => (f Γ).bind fun p => if p.1 = true then g p.2 else some (false, p.2)
def gOrT (f g : GT) : GT := fun Γ => (f Γ).bind fun p => if p.1 = true then some (true, p.2) else g p.2
theorem tGT_bind {f : GT} {h : GT} {φ : Bool → GT} (eh : ∀ Γ, h Γ = (f Γ).bind fun p => φ p.1 p.2) {σ : St} {H : Hp} {Q : Bool → Hp → Prop} (t : tGT K h σ H Q) : tGT K f σ H fun c H1 => tGT K (φ c) σ H1 Q := by
  obtain ⟨F, A, Γ, b, Γ', k, e, w⟩ := t
  rw [eh] at e
  cases q : f Γ with
  | none => rw [q] at e; cases e
  | some p =>
    obtain ⟨c, Γ1⟩ := p
    rw [q] at e
    refine ⟨F, A, Γ, c, Γ1, k, q, fun H1 pp => ?_⟩
    obtain ⟨F1, A1, x, k1, _⟩ := pp
    exact ⟨F1, A1, Γ1, b, Γ', k1, e, fun H2 p2 => w H2 (by obtain ⟨F2, A2, x2, k2, h2⟩ := p2; exact ⟨F2, A2, x.trans x2, k2, h2⟩)⟩
theorem tGT_pure {b : Bool} {σ : St} {H : Hp} {Q : Bool → Hp → Prop} (t : tGT K (fun Γ => some (b, Γ)) σ H Q) : Q b H := by
  obtain ⟨F, A, Γ, b', Γ', k, e, w⟩ := t
  cases e
  exact w H ⟨F, A, Ext.refl, k, True.intro⟩
theorem tGT.mono {f : GT} {Q1 Q2 : Bool → Hp → Prop} {σ : St} {H : Hp} (t : tGT K f σ H Q1) (q : ∀ v H', Q1 v H' → Q2 v H') : tGT K f σ H Q2 := by
  obtain ⟨F, A, Γ, rr, Γ', k, e, w⟩ := t
  exact ⟨F, A, Γ, rr, Γ', k, e, fun H' p => q _ _ (w H' p)⟩
variable {ft gt : GT} {rest : List Expr}
theorem dt_not (h : PT X a (tGT K ft)) : PT X (.UnaryOp .Not a pos) (tGT K (gNotT ft)) := (pt_not h).mono fun σ H Q t =>
  (tGT_bind (φ := fun c Γ => some (!c, Γ)) (fun _ => rfl) t).mono fun c H1 h => tGT_pure h
theorem dw_or1 (h : PT X a (tGT K ft)) : PW X (.BoolOp .Or [a] pos) (tGT K ft) := pw_or1 h
theorem dw_or (ha : PT X a (tGT K ft)) (hb : PW X (.BoolOp .Or (b :: rest) pos) (tGT K gt)) : PW X (.BoolOp .Or (a :: b :: rest) pos) (tGT K (gOrT ft gt)) := (pw_or ha hb).mono fun σ H Q t =>
  (tGT_bind (φ := fun c Γ => if c = true then some (true, Γ) else gt Γ) (fun _ => rfl) t).mono fun c H1 h => by
    cases c with
    | true => exact iteT (tGT_pure (by simpa using h))
    | false => exact iteF (by simpa using h)
def gIf (c : GT) (f g : GE) : GE := fun Γ => (c Γ).bind fun p => if p.1 = true then f p.2 else g p.2
def gAndV (f g : GE) : GE := fun Γ => (gT f Γ).bind fun p => if p.1 = true then g p.2 else gC (.bl false) p.2
def gOrV (f g : GE) : GE := fun Γ => (gT f Γ).bind fun p => if p.1 = true then gC (.bl true) p.2 else g p.2
def gNotV (f : GE) : GE := fun Γ => (gT f Γ).bind fun p => gC (.bl (!p.1)) p.2
theorem tG_ofT {f : GT} {h : GE} {φ : Bool → GE} (eh : ∀ Γ, h Γ = (f Γ).bind fun p => φ p.1 p.2) {σ : St} {H : Hp} {Q : VK} (t : tG K h σ H Q) : tGT K f σ H fun c H1 => tG K (φ c) σ H1 Q := by
  obtain ⟨F, A, Γ, b, Γ', k, e, w⟩ := t
  rw [eh] at e
  cases q : f Γ with
  | none => rw [q] at e; cases e
  | some p =>
    obtain ⟨c, Γ1⟩ := p
    rw [q] at e
    refine ⟨F, A, Γ, c, Γ1, k, q, fun H1 pp => ?_⟩
    obtain ⟨F1, A1, x, k1, _⟩ := pp
    exact ⟨F1, A1, Γ1, b, Γ', k1, e, fun v H2 p2 => w v H2 (by obtain ⟨F2, A2, x2, k2, h2⟩ := p2; exact ⟨F2, A2, x.trans x2, k2, h2⟩)⟩
theorem tG_c {d : D} {v : V} {σ : St} {H : Hp} {Q : VK} (t : tG K (gC d) σ H Q) (q : flatOf d = some v) : Q v H := by
  obtain ⟨F, A, Γ, r, Γ', k, e, w⟩ := t
  cases e
  obtain ⟨k2, x⟩ := k.push (v := v) (o := .frz d) (Av := []) (Same.refl _) (.frz (.flat q .nil) .nil) .nil (fun _ m => by cases m)
  exact w v H ⟨F, _, x, k2, True.intro⟩
theorem de_one {op} (h : PE X a (tG K fa)) : PE X (.BoolOp op [a] pos) (tG K fa) := pe_one h
theorem de_and (ha : PE X a (tG K fa)) (hb : PE X (.BoolOp .And (b :: rest) pos) (tG K fb)) : PE X (.BoolOp .And (a :: b :: rest) pos) (tG K (gAndV fa fb)) := (pe_and ha hb).mono fun σ H Q t =>
  tG.mono (tG_test (tG_ofT (φ := fun c Γ => if c = true then fb Γ else gC (.bl false) Γ) (fun _ => rfl) t)) fun v H1 ⟨c, e, h⟩ => ⟨c, e, by
    cases c with
    | true => exact iteT (by simpa using h)
    | false => exact iteF (tG_c (d := .bl false) (by simpa using h) rfl)⟩
theorem de_not (ha : PE X a (tG K fa)) : PE X (.UnaryOp .Not a pos) (tG K (gNotV fa)) := (pe_not ha).mono fun σ H Q t =>
  tG.mono (tG_test (tG_ofT (φ := fun c => gC (.bl (!c))) (fun _ => rfl) t)) fun v H1 ⟨c, e, h⟩ => ⟨c, e, tG_c h rfl⟩
end
end L2
set_option Elab.async false
set_option linter.all false
set_option maxRecDepth 100000
set_option maxHeartbeats 4000000
namespace L2
open PySem PySem.Spec PyProof.Rows
def SubP (A B : List Addr) : Prop := ∃ L, A.Perm L ∧ L.Sublist B
theorem SubP.refl (A : List Addr) : SubP A A := ⟨A, .refl _, List.Sublist.refl _⟩
theorem SubP.of_perm {A B : List Addr} (p : A.Perm B) : SubP A B := ⟨B, p, List.Sublist.refl _⟩
theorem SubP.of_sub {A B : List Addr} (p : A.Sublist B) : SubP A B := ⟨A, .refl _, p⟩
theorem SubP.trans {A B C : List Addr} (x : SubP A B) (y : SubP B C) : SubP A C := by
  obtain ⟨L, p, s⟩ := x
  obtain ⟨M, q, t⟩ := y
  obtain ⟨N, n1, n2⟩ := List.exists_perm_sublist s q
  exact ⟨N, p.trans n1.symm, n2.trans t⟩
theorem SubP.mem {A B : List Addr} (x : SubP A B) : ∀ a ∈ A, a ∈ B := fun a m => let ⟨_, p, s⟩ := x; s.subset (p.mem_iff.mp m)
theorem SubP.nodup {A B : List Addr} (x : SubP A B) (n : B.Nodup) : A.Nodup := let ⟨_, p, s⟩ := x; p.nodup_iff.mpr (n.sublist s)
theorem SubP.app {A B C D : List Addr} (x : SubP A B) (y : SubP C D) : SubP (A ++ C) (B ++ D) := let ⟨_, p, s⟩ := x; let ⟨_, q, t⟩ := y; ⟨_, p.append q, s.append t⟩
theorem OK.sub {K : PySem.W.Frag} {F H : Hp} {σ σ' : St} {Γ Γ' : Gm} {A B : List Addr} (k : OK K F H σ Γ A) (h : OwnL K F H σ' Γ' B) (s : SubP B A) : OK K F H σ' Γ' B ∧ Ext F H A F H B :=
  ⟨⟨k.le, h, s.nodup k.nd, fun a m => k.fr a (s.mem a m)⟩, Ext.own' Ext.refl s.mem⟩
inductive Fl where
  | nx | bk | ct | rt (o : O)
abbrev GS := Gm → Option (Fl × Gm)
def Kept (m : List Bool) (σ σ' : St) : Prop := ∀ j : Nat, m[j]? = some true → σ'[j]? = σ[j]?
theorem Kept.refl {m : List Bool} {σ : St} : Kept m σ σ := fun _ _ => rfl
theorem Kept.trans {m : List Bool} {σ σ1 σ2 : St} (a : Kept m σ σ1) (b : Kept m σ1 σ2) : Kept m σ σ2 := fun j h => (b j h).trans (a j h)
theorem Kept.set {m : List Bool} {σ : St} {i : Nat} {v : Option V} (h : (m[i]? == some true) = false) : Kept m σ (σ.set i v) := fun j hj => by
  by_cases e : i = j
  · subst e; rw [hj] at h; simp at h
  · rw [List.getElem?_set_ne e]
def PostS (K : PySem.W.Frag) (F H : Hp) (A : List Addr) (m : List Bool) (σ : St) (Γ' : Gm) (σ' : St) (H' : Hp) : Prop := ∃ F' A', Ext F H A F' H' A' ∧ OK K F' H' σ' Γ' A' ∧ Kept m σ σ'
def PostV (K : PySem.W.Frag) (F H : Hp) (A : List Addr) (m : List Bool) (σ : St) (Γ' : Gm) (o : O) (v : V) (σ' : St) (H' : Hp) : Prop := ∃ F' A', Ext F H A F' H' A' ∧ OK K F' H' (some v :: σ') (some o :: Γ') A' ∧ Kept m σ σ'
def Done (K : PySem.W.Frag) (m : List Bool) (D : Ends) (F H : Hp) (A : List Addr) (σ : St) : Fl → Gm → Prop
  | .nx, Γ' => ∀ σ' H', PostS K F H A m σ Γ' σ' H' → D.nx σ' H'
  | .bk, Γ' => ∀ σ' H', PostS K F H A m σ Γ' σ' H' → D.bk σ' H'
  | .ct, Γ' => ∀ σ' H', PostS K F H A m σ Γ' σ' H' → D.ct σ' H'
  | .rt o, Γ' => ∀ v σ' H', PostV K F H A m σ Γ' o v σ' H' → D.rt v H'
def tS (K : PySem.W.Frag) (m : List Bool) (f : GS) : TS := fun D σ H => ∃ F A Γ fl Γ', OK K F H σ Γ A ∧ f Γ = some (fl, Γ') ∧ Done K m D F H A σ fl Γ'
theorem Done.step {K : PySem.W.Frag} {m : List Bool} {D : Ends} {F H F1 H1 : Hp} {A A1 : List Addr} {σ σ1 : St} {fl : Fl} {Γ' : Gm} (d : Done K m D F H A σ fl Γ') (x : Ext F H A F1 H1 A1) (kp : Kept m σ σ1) : Done K m D F1 H1 A1 σ1 fl Γ' := by
  cases fl with
  | nx => exact fun σ' H' ⟨F', A', x', k, q⟩ => d σ' H' ⟨F', A', x.trans x', k, kp.trans q⟩
  | bk => exact fun σ' H' ⟨F', A', x', k, q⟩ => d σ' H' ⟨F', A', x.trans x', k, kp.trans q⟩
  | ct => exact fun σ' H' ⟨F', A', x', k, q⟩ => d σ' H' ⟨F', A', x.trans x', k, kp.trans q⟩
  | rt o => exact fun v σ' H' ⟨F', A', x', k, q⟩ => d v σ' H' ⟨F', A', x.trans x', k, kp.trans q⟩
section
variable {X : Cx} {K : PySem.W.Frag} {m : List Bool} {st : Stmt} {rest sa sb : List Stmt} {e : Expr} {f g : GS} {fa : GE} {ft : GT} {pos : Pos}
def gsNil : GS := fun Γ => some (.nx, Γ)
def gsCons (f g : GS) : GS := fun Γ => (f Γ).bind fun p => match p.1 with
  | .nx => g p.2
  | .bk => some (.bk, p.2)
  | .ct => some (.ct, p.2)
  | .rt o => some (.rt o, p.2)
theorem ds_nil : PSs X [] (tS K m gsNil) := pss_nil.mono fun D σ H t => by
  obtain ⟨F, A, Γ, fl, Γ', k, e, w⟩ := t
  cases e
  exact w σ H ⟨F, A, Ext.refl, k, Kept.refl⟩
theorem ds_cons (h1 : PS X st (tS K m f)) (h2 : PSs X rest (tS K m g)) : PSs X (st :: rest) (tS K m (gsCons f g)) := (pss_cons h1 h2).mono fun D σ H t => by
  obtain ⟨F, A, Γ, fl, Γ', k, e, w⟩ := t
  unfold gsCons at e
  cases q : f Γ with
  | none => rw [q] at e; cases e
  | some p =>
    obtain ⟨fl1, Γ1⟩ := p
    rw [q] at e
    dsimp only [Option.bind] at e
    refine ⟨F, A, Γ, fl1, Γ1, k, q, ?_⟩
    cases fl1 with
    | nx =>
      intro σ' H' ⟨F1, A1, x, k1, kp⟩
      exact ⟨F1, A1, Γ1, fl, Γ', k1, e, w.step x kp⟩
    | bk => cases e; exact w
    | ct => cases e; exact w
    | rt o => cases e; exact w
theorem ds_one (h1 : PS X st (tS K m f)) : PSs X [st] (tS K m f) := pss_one h1
def gsBreak : GS := fun Γ => some (.bk, Γ)
def gsCont : GS := fun Γ => some (.ct, Γ)
def gsRet (f : GE) : GS := fun Γ => (f Γ).bind fun p => match p.1 with
  | .own o => some (.rt o, p.2)
  | .var _ => none
def gsRetN : GS := fun Γ => some (.rt (.frz .non), Γ)
theorem ds_ret (h : PE X e (tG K fa)) : PS X (.Return (some e) pos) (tS K m (gsRet fa)) := (ps_ret h).mono fun D σ H t => by
  obtain ⟨F, A, Γ, fl, Γ', k, e, w⟩ := t
  unfold gsRet at e
  cases q : fa Γ with
  | none => rw [q] at e; cases e
  | some p =>
    obtain ⟨r, Γ1⟩ := p
    rw [q] at e
    cases r with
    | var i => cases e
    | own o =>
      cases e
      exact ⟨F, A, Γ, _, _, k, q, fun v H' ⟨F1, A1, x, k1, _⟩ => w v σ H' ⟨F1, A1, x, k1, Kept.refl⟩⟩
def gsIf (c : GT) (f g : GS) : GS := fun Γ => (c Γ).bind fun p => if p.1 = true then f p.2 else g p.2
theorem ds_if {c : Expr} (hc : PT X c (tGT K ft)) (ha : PSs X sa (tS K m f)) (hb : PSs X sb (tS K m g)) : PS X (.If c sa sb pos) (tS K m (gsIf ft f g)) := (ps_if hc ha hb).mono fun D σ H t => by
  obtain ⟨F, A, Γ, fl, Γ', k, e, w⟩ := t
  unfold gsIf at e
  cases q : ft Γ with
  | none => rw [q] at e; cases e
  | some p =>
    obtain ⟨b, Γ1⟩ := p
    rw [q] at e
    refine ⟨F, A, Γ, b, Γ1, k, q, fun H1 hh => ?_⟩
    obtain ⟨F1, A1, x, k1, _⟩ := hh
    cases b with
    | true => exact iteT ⟨F1, A1, Γ1, fl, Γ', k1, e, w.step x Kept.refl⟩
    | false => exact iteF ⟨F1, A1, Γ1, fl, Γ', k1, e, w.step x Kept.refl⟩
def gsDrop (f : GE) : GS := fun Γ => (f Γ).bind fun p => some (.nx, p.2)
def gsSet (i : Nat) (f : GE) : GS := fun Γ => (f Γ).bind fun p => match p.1 with
  | .own o => if i < p.2.length then some (.nx, p.2.set i (some o)) else none
  | .var _ => none
theorem OK.store {F H : Hp} {A : List Addr} {σ : St} {Γ : Gm} {v : V} {o : O} {i : Nat} (k : OK K F H (some v :: σ) (some o :: Γ) A) (hi : i < Γ.length) : ∃ B, OK K F H (σ.set i (some v)) (Γ.set i (some o)) B ∧ Ext F H A F H B := by
  obtain ⟨B, C, h1, h2, h3⟩ := k.os.one
  obtain ⟨B2, g1, C2, g2, g3⟩ := OwnL.put h1 i h2 hi
  subst h3
  exact ⟨B2, k.sub g1 ((SubP.of_perm g2).trans ((SubP.refl B).app (.of_sub g3)))⟩
theorem ds_set {i : Nat} {x : Str} {pos' : Pos} (hN : X.N.Nodup) (hi : X.N[i]? = some x) (hx : Loc X.env.scope x) (he : PE X e (tG K fa)) (hm : (m[i]? == some true) = false := by rfl) (hs : swapsWith e (some (.Name x pos')) pos.line X.env = pure false := by rfl) (hf : X.fn x = true ∨ X.env.scope.names.lookup x = some .local := by first | exact .inl rfl | exact .inr rfl) :
    PS X (.Assign [.Name x pos'] e pos) (tS K m (gsSet i fa)) := (ps_set hN hi hx he hs hf).mono fun D σ H t => by
  obtain ⟨F, A, Γ, fl, Γ', k, e, w⟩ := t
  unfold gsSet at e
  cases q : fa Γ with
  | none => rw [q] at e; cases e
  | some p =>
    obtain ⟨r, Γ1⟩ := p
    rw [q] at e
    cases r with
    | var i => cases e
    | own o =>
      dsimp only [Option.bind] at e
      split at e
      · cases e
        refine ⟨F, A, Γ, _, Γ1, k, q, fun v H' hh => ?_⟩
        obtain ⟨F1, A1, x, k1, _⟩ := hh
        obtain ⟨B, k2, x2⟩ := OK.store (σ := σ) (Γ := Γ1) k1 (by assumption)
        exact w _ H' ⟨F1, B, x.trans x2, k2, Kept.set hm⟩
      · cases e
def gsWhile (c : GT) (f : GS) : Nat → GS
  | 0 => fun _ => none
  | n + 1 => fun Γ => (c Γ).bind fun p => if p.1 = true then (f p.2).bind fun q => match q.1 with
      | .nx => gsWhile c f n q.2
      | .ct => gsWhile c f n q.2
      | .bk => some (.nx, q.2)
      | .rt o => some (.rt o, q.2)
    else some (.nx, p.2)
abbrev GG := D → Gm → Option Gm
def TgOk (K : PySem.W.Frag) (m : List Bool) (t : TG) (g : GG) : Prop :=
  ∀ (F H : Hp) (σ : St) (Γ Γ1 : Gm) (A : List Addr) (x : V) (d : D) (Q : St → Hp → Prop), OK K F H σ Γ A → RepL K F [x] [d] → g d Γ = some Γ1 → (∀ σ' A', OK K F H σ' Γ1 A' → Ext F H A F H A' → Kept m σ σ' → Q σ' H) → t x σ H Q
def ggName (i : Nat) : GG := fun d Γ => if i < Γ.length then some (Γ.set i (some (.frz d))) else none
theorem tg_name {i : Nat} (hm : (m[i]? == some true) = false := by rfl) : TgOk K m (gName i) (ggName i) := by
  intro F H σ Γ Γ1 A x d Q k r e w
  unfold ggName at e
  split at e
  · cases e
    obtain ⟨k1, x1⟩ := k.push (v := x) (o := .frz d) (Av := []) (Same.refl _) (.frz r .nil) .nil (fun _ m => by cases m)
    obtain ⟨B, k2, x2⟩ := OK.store k1 (by assumption)
    exact w _ _ k2 (x1.trans x2) (Kept.set hm)
  · cases e
def ggAll : List GG → List D → Gm → Option Gm
  | [], [], Γ => some Γ
  | g :: gs, d :: ds, Γ => (g d Γ).bind fun Γ1 => ggAll gs ds Γ1
  | _, _, _ => none
def ggTup (gs : List GG) : GG := fun d Γ => match d with
  | .tup ds => ggAll gs ds Γ
  | _ => none
def gsLoop (g : GG) (f : GS) : List D → GS
  | [] => fun Γ => some (.nx, Γ)
  | d :: ds => fun Γ => (g d Γ).bind fun Γ1 => (f Γ1).bind fun q => match q.1 with
      | .nx => gsLoop g f ds q.2
      | .ct => gsLoop g f ds q.2
      | .bk => some (.nx, q.2)
      | .rt o => some (.rt o, q.2)
theorem loop_turn {t : TG} {g : GG} (tg : TgOk K m t g) {F H : Hp} {σ : St} {Γ Γ' : Gm} {A : List Addr} {x : V} {d : D} {ds : List D} {fl : Fl} {E : Ends} {Pv : St → Hp → Prop} (k : OK K F H σ Γ A) (r : RepL K F [x] [d])
    (e : gsLoop g f (d :: ds) Γ = some (fl, Γ')) (w : Done K m E F H A σ fl Γ')
    (nxt : ∀ F1 H1 σ1 Γ1 A1, Ext F H A F1 H1 A1 → OK K F1 H1 σ1 Γ1 A1 → gsLoop g f ds Γ1 = some (fl, Γ') → Done K m E F1 H1 A1 σ1 fl Γ' → Pv σ1 H1) : t x σ H fun σ2 H2 => tS K m f { E with nx := Pv, ct := Pv, bk := E.nx } σ2 H2 := by
  unfold gsLoop at e
  cases q : g d Γ with
  | none => rw [q] at e; cases e
  | some Γ1 =>
    rw [q] at e
    dsimp only [Option.bind] at e
    cases q2 : f Γ1 with
    | none => rw [q2] at e; cases e
    | some p =>
      obtain ⟨fl1, Γ2⟩ := p
      rw [q2] at e
      dsimp only at e
      refine tg F H σ Γ Γ1 A x d _ k r q fun σ1 A1 k1 x1 kp => ⟨F, A1, Γ1, fl1, Γ2, k1, q2, ?_⟩
      have w1 := w.step x1 kp
      cases fl1 with
      | nx => exact fun σ' H' ⟨F2, A2, x2, k2, kp2⟩ => nxt F2 H' σ' Γ2 A2 (x1.trans x2) k2 e (w1.step x2 kp2)
      | ct => exact fun σ' H' ⟨F2, A2, x2, k2, kp2⟩ => nxt F2 H' σ' Γ2 A2 (x1.trans x2) k2 e (w1.step x2 kp2)
      | bk => cases e; exact w1
      | rt o => cases e; exact w1
theorem loop_end {g : GG} {F H : Hp} {σ : St} {Γ Γ' : Gm} {A : List Addr} {fl : Fl} {E : Ends} (k : OK K F H σ Γ A) (e : gsLoop g f [] Γ = some (fl, Γ')) (w : Done K m E F H A σ fl Γ') : E.nx σ H := by
  cases e
  exact w σ H ⟨F, A, Ext.refl, k, Kept.refl⟩
def gsFor (it : GE) (g : GG) (f : GS) : GS := fun Γ => (gFrz it Γ).bind fun p => match p.1 with
  | .own (.frz (.lst ds)) => gsLoop g f ds p.2
  | _ => none
variable {tg iter : Expr} {t : TG} {gg : GG} {body : List Stmt}
def LI (K : PySem.W.Frag) (m : List Bool) (gg : GG) (f : GS) (E : Ends) (F1 : Hp) (fl : Fl) (Γ' : Gm) (ds : List D) (i : Nat) (σ : St) (H : Hp) : Prop := ∃ F A Γ, OK K F H σ Γ A ∧ gsLoop gg f (ds.drop i) Γ = some (fl, Γ') ∧ Done K m E F H A σ fl Γ' ∧ Same F1 F
section
variable {F1 H1 : Hp} {σ : St} {ds : List D} {i : Nat} {E : Ends} {fl : Fl} {Γ' : Gm}
theorem LI.same (p : LI K m gg f E F1 fl Γ' ds i σ H1) : Same F1 H1 := by
  obtain ⟨F', A', Γc, k', e', w', s'⟩ := p
  exact s'.trans k'.le
theorem LI.turn (p : LI K m gg f E F1 fl Γ' ds i σ H1) (ht : TgOk K m t gg) {x : V} {d : D} (hd : ds[i]? = some d) (r : RepL K F1 [x] [d]) : t x σ H1 fun σ2 H2 => tS K m f { E with nx := LI K m gg f E F1 fl Γ' ds (i + 1), ct := LI K m gg f E F1 fl Γ' ds (i + 1), bk := E.nx } σ2 H2 := by
  obtain ⟨F', A', Γc, k', e', w', s'⟩ := p
  obtain ⟨hi, he⟩ := List.getElem?_eq_some_iff.mp hd
  rw [List.drop_eq_getElem_cons hi, he] at e'
  exact loop_turn ht k' (r.mono s') e' w' fun F2 H2 σ2 Γ2 A2 x2 k2 e2 w2 => ⟨F2, A2, Γ2, k2, e2, w2, s'.trans x2.ff⟩
theorem LI.step (p : LI K m gg f E F1 fl Γ' ds i σ H1) (ht : TgOk K m t gg) {ws : List V} (ri : RepL K F1 ws ds) {x : V} (hx : ws[i]? = some x) : t x σ H1 fun σ2 H2 => tS K m f { E with nx := LI K m gg f E F1 fl Γ' ds (i + 1), ct := LI K m gg f E F1 fl Γ' ds (i + 1), bk := E.nx } σ2 H2 := by
  have hi : i < ds.length := by rw [← ri.length]; exact (List.getElem?_eq_some_iff.mp hx).1
  obtain ⟨x2, hx2, rx⟩ := ri.get (List.getElem?_eq_getElem hi)
  rw [hx] at hx2
  cases hx2
  exact p.turn ht (List.getElem?_eq_getElem hi) rx
theorem LI.fin (p : LI K m gg f E F1 fl Γ' ds i σ H1) (h : ds.length ≤ i) : E.nx σ H1 := by
  obtain ⟨F', A', Γc, k', e', w', s'⟩ := p
  rw [List.drop_of_length_le h] at e'
  exact loop_end k' e' w'
theorem LI.start {F H : Hp} {A A1 : List Addr} {v : V} {d : D} {Γ1 : Gm} (k1 : OK K F1 H1 (some v :: σ) (some (.frz d) :: Γ1) A1) (x : Ext F H A F1 H1 A1) (w : Done K m E F H A σ fl Γ') (e : gsLoop gg f ds Γ1 = some (fl, Γ')) : RepL K F1 [v] [d] ∧ LI K m gg f E F1 fl Γ' ds 0 σ H1 := by
  obtain ⟨B, C, h1, h2, h3⟩ := OwnL.one (σ := σ) (Γ := Γ1) k1.os
  subst h3
  cases h1 with
  | frz rp tl => exact ⟨rp, F1, _, Γ1, (k1.sub h2 (.of_sub (List.sublist_append_right _ _))).1, e, w.step (x.own' fun a m => List.mem_append_right _ m) Kept.refl, Same.refl _⟩
theorem lst_inv {α : Type} {φ : List D → Gm → Option α} {z : α} {Γ : Gm} (e : ((gFrz fa Γ).bind fun p => match p.1 with | .own (.frz (.lst ds)) => φ ds p.2 | _ => none) = some z) : ∃ ds Γ1, gFrz fa Γ = some (.own (.frz (.lst ds)), Γ1) ∧ φ ds Γ1 = some z := by
  obtain ⟨⟨r, Γ1⟩, q, e⟩ := Option.bind_eq_some_iff.mp e
  dsimp only at e
  split at e
  · exact ⟨_, Γ1, q, e⟩
  · cases e
theorem rep_lst {v : V} (h : RepL K F1 [v] [.lst ds]) : ∃ a ws, v = .ref a ∧ Rd F1 a (.lst ws) ∧ RepL K F1 ws ds := by
  cases h with
  | flat z _ => cases z
  | @lst a ws vs es ds' sq ri _ => exact ⟨a, ws, rfl, sq, ri⟩
end
end
end L2
set_option Elab.async false
set_option linter.all false
set_option maxRecDepth 100000
set_option maxHeartbeats 4000000
namespace L2
open PySem PySem.Spec PyProof.Rows
def rngD (lo : Int) (n : Nat) : List D := (List.range n).map fun (k : Nat) => D.int (lo + (k : Int))
def rngC (lo c : Int) (n : Nat) : List D := (List.range n).map fun (k : Nat) => D.int (lo + (k : Int) * c)
def int1 : List R → Option Int
  | [.own (.frz (.int j))] => if Nat.ble j.natAbs 1000000000000 = true then some j else none
  | _ => none
def int2 : List R → Option (Int × Int)
  | [.own (.frz (.int i)), .own (.frz (.int j))] => if Nat.ble i.natAbs 1000000000000 = true ∧ Nat.ble j.natAbs 1000000000000 = true then some (i, j) else none
  | _ => none
def int3 : List R → Option (Int × Int)
  | [.own (.frz (.int i)), .own (.frz (.int j)), .own (.frz (.int k))] => if k = -1 ∧ Nat.ble i.natAbs 1000000 = true ∧ Nat.ble j.natAbs 1000000 = true then some (i, j) else none
  | _ => none
theorem int1_inv {rs : List R} {j : Int} (e : int1 rs = some j) : rs = [.own (.frz (.int j))] ∧ -(2 ^ 62) ≤ j ∧ j < 2 ^ 62 := by
  unfold int1 at e
  split at e
  · split at e
    · rename_i h
      have h := Nat.le_of_ble_eq_true h
      cases e; exact ⟨rfl, by omega, by omega⟩
    · cases e
  · cases e
def gsRange1 (fs : GA) (g : GG) (f : GS) : GS := fun Γ => (fs Γ).bind fun p => (int1 p.1).bind fun j => gsLoop g f (rngD 0 j.toNat) p.2
def gsRange2 (fs : GA) (g : GG) (f : GS) : GS := fun Γ => (fs Γ).bind fun p => (int2 p.1).bind fun j => gsLoop g f (rngD j.1 (j.2 - j.1).toNat) p.2
def gsRangeD (fs : GA) (g : GG) (f : GS) : GS := fun Γ => (fs Γ).bind fun p => (int3 p.1).bind fun j => gsLoop g f (rngC j.1 (-1) (j.1 - j.2).toNat) p.2
section
variable {X : Cx} {K : PySem.W.Frag} {m : List Bool} {f : GS} {fa : GE} {fs : GA} {pos p : Pos} {tg a b c : Expr} {t : TG} {gg : GG} {body : List Stmt}
theorem own_int {F H : Hp} {σ : St} {Γ : Gm} {A : List Addr} {v : V} {i : Int} (h : OwnL K F H (some v :: σ) (some (.frz (.int i)) :: Γ) A) : v = .int i ∧ OwnL K F H σ Γ A := by
  cases h with
  | frz r t =>
    cases r with
    | flat e _ => cases e; exact ⟨rfl, t⟩
theorem len_1 {α : Type} : ∀ {l : List α}, 1 = l.length → ∃ a, l = [a]
  | [a], _ => ⟨a, rfl⟩
theorem len_2 {α : Type} : ∀ {l : List α}, 2 = l.length → ∃ a b, l = [a, b]
  | [a, b], _ => ⟨a, b, rfl⟩
theorem LI.ints {F1 H1 : Hp} {σ : St} {E : Ends} {fl : Fl} {Γ' Γ1 : Gm} {F H : Hp} {A A1 : List Addr} {τ : St} {Θ : Gm} {ds : List D} (k1 : OK K F1 H1 τ Θ A1) (h : OwnL K F1 H1 σ Γ1 A1) (x : Ext F H A F1 H1 A1) (w : Done K m E F H A σ fl Γ') (e : gsLoop gg f ds Γ1 = some (fl, Γ')) : LI K m gg f E F1 fl Γ' ds 0 σ H1 :=
  ⟨F1, A1, Γ1, (k1.sub h (SubP.refl _)).1, e, w.step x Kept.refl, Same.refl _⟩
theorem rng_at {g : Nat → D} {n i : Nat} (h : i < n) : ((List.range n).map g)[i]? = some (g i) := by rw [List.getElem?_map, List.getElem?_range h]; rfl
theorem ds_range1 (hp : PassesOwn (model X.prog X.w) X.A X.env X.xe) (hm : X.mg "range" = none) (ha : PA X [a] (tGA K fs)) (hg : PG X tg t) (ht : TgOk K m t gg) (hb : PSs X body (tS K m f)) (hc : X.calm = true := by rfl) (hgl : Gl X "range" := by rfl)
    (hs : starEach [a] X.env = [(false, eval a X.env)] := by rfl) (hf : ∀ x, foldedSetIterable (.Call (.Name "range" p) [a] [] pos) X.env x = pure x := by intro _; rfl) {fp : Pos} : PS X (.For tg (.Call (.Name "range" p) [a] [] pos) body [] fp) (tS K m (gsRange1 fs gg f)) := by
  refine (ps_for hp hc (pi_range1 hgl hm ha hs) hg hb hf).mono fun D σ H tt => ?_
  obtain ⟨F, A, Γ, fl, Γ', k, e, w⟩ := tt
  obtain ⟨⟨rs, Γ1⟩, q, e⟩ := Option.bind_eq_some_iff.mp e
  obtain ⟨j, q2, e⟩ := Option.bind_eq_some_iff.mp e
  obtain ⟨hj, hb⟩ := int1_inv q2
  subst hj
  refine ⟨F, A, Γ, _, Γ1, k, q, fun vs H1 pp => ?_⟩
  obtain ⟨F1, A1, x, k1, hh⟩ := pp
  obtain ⟨v, rfl⟩ := len_1 hh.length
  obtain ⟨rfl, h2⟩ := own_int (σ := σ) (Γ := Γ1) k1.os
  exact ⟨j, rfl, hb.1, hb.2, for_range (LI K m gg f D F1 fl Γ' (rngD 0 j.toNat)) (.ints k1 h2 x w e) (fun i σ' H' hi p => p.turn ht (rng_at hi) (.flat rfl .nil)) fun σ' H' p => p.fin (by simp [rngD])⟩
end
abbrev GM := List O → Option (O × Gm)
def PostC (K : PySem.W.Frag) (F H : Hp) (A : List Addr) (vs : List V) (fin : Gm) (o : O) (v : V) (H' : Hp) : Prop := ∃ F' A', Ext F H A F' H' A' ∧ OK K F' H' (some v :: vs.map some) (some o :: fin) A'
def SpM (K : PySem.W.Frag) (n : Nat) (M : GM) : Sp := fun vs H Q _ => vs.length = n ∧ ∃ F A os o fin, OK K F H (vs.map some) (os.map some) A ∧ M os = some (o, fin) ∧ ∀ v H', PostC K F H A vs fin o v H' → Q v H'
def keepM : List Bool → Gm → Gm
  | true :: m, x :: Γ => x :: keepM m Γ
  | false :: m, _ :: Γ => none :: keepM m Γ
  | [], _ :: Γ => none :: keepM [] Γ
  | _, [] => []
def Fl.val : Fl → Option O
  | .rt o => some o
  | .nx => some (.frz .non)
  | _ => none
def runM (n : Nat) (m : List Bool) (f : GS) : GM := fun os => (f (os.map some ++ List.replicate (n - os.length) none)).bind fun p => p.1.val.bind fun o => if p.2.length = n then some (o, keepM m (p.2.take os.length)) else none
section
variable {K : PySem.W.Frag} {F H : Hp} {σ : St} {Γ : Gm} {A : List Addr}
theorem own_nones : ∀ n : Nat, OwnL K F H (List.replicate n none) (List.replicate n none) []
  | 0 => .nil
  | n + 1 => .skip (own_nones n)
theorem own_keep : ∀ {m : List Bool} {vs : List V} {σ' : St} {Γ : Gm} {B : List Addr}, OwnL K F H σ' Γ B → σ'.length = vs.length → (∀ j : Nat, m[j]? = some true → σ'[j]? = (vs.map some)[j]?) → ∃ C, OwnL K F H (vs.map some) (keepM m Γ) C ∧ C.Sublist B
  | m, [], [], [], B, h, _, _ => by
    cases m with
    | nil => exact ⟨B, h, List.Sublist.refl _⟩
    | cons b m => cases b <;> exact ⟨B, h, List.Sublist.refl _⟩
  | m, v :: vs, x :: σ', y :: Γ, B, h, hl, hk => by
    obtain ⟨B1, B2, h1, h2, h3⟩ := h.one
    subst h3
    have hl' : σ'.length = vs.length := by simpa using hl
    cases m with
    | nil =>
      obtain ⟨C, g1, g2⟩ := own_keep (m := []) h2 hl' (fun j hj => by simp at hj)
      exact ⟨C, .skip g1, g2.trans (List.sublist_append_right _ _)⟩
    | cons b m =>
      obtain ⟨C, g1, g2⟩ := own_keep (m := m) h2 hl' (fun j hj => by simpa using hk (j + 1) (by simpa using hj))
      cases b with
      | false => exact ⟨C, .skip g1, g2.trans (List.sublist_append_right _ _)⟩
      | true =>
        have hx : x = some v := by simpa using hk 0 rfl
        subst hx
        exact ⟨B1 ++ C, h1.app g1, g2.append_left _⟩
  | _, [], _ :: _, _, _, _, hl, _ => by simp at hl
  | _, _ :: _, [], _, _, _, hl, _ => by simp at hl
  | _, [], [], _ :: _, _, h, _, _ => by have := h.length; simp at this
  | _, _ :: _, _ :: _, [], _, h, _, _ => by have := h.length; simp at this
theorem OK.params {m : List Bool} {vs : List V} {σ' : St} {Γ' : Gm} {v : V} {o : O} {rest : St} (k : OK K F H (some v :: σ') (some o :: Γ') A) (hl : vs.length ≤ σ'.length) (kp : Kept m (vs.map some ++ rest) σ') (hm : m.length ≤ vs.length) :
    ∃ B, OK K F H (some v :: vs.map some) (some o :: keepM m (Γ'.take vs.length)) B ∧ Ext F H A F H B := by
  obtain ⟨B, C, h1, h2, h3⟩ := k.os.one
  subst h3
  have hΓ := h2.length
  have e1 : σ' = σ'.take vs.length ++ σ'.drop vs.length := (List.take_append_drop _ _).symm
  have e2 : Γ' = Γ'.take vs.length ++ Γ'.drop vs.length := (List.take_append_drop _ _).symm
  have h2' : OwnL K F H (σ'.take vs.length ++ σ'.drop vs.length) (Γ'.take vs.length ++ Γ'.drop vs.length) C := by rw [← e1, ← e2]; exact h2
  obtain ⟨C1, C2, g1, g2, g3⟩ := OwnL.split (by rw [List.length_take, List.length_take]; omega) h2'
  subst g3
  obtain ⟨C3, j1, j2⟩ := own_keep (m := m) (vs := vs) g1 (by rw [List.length_take]; omega) (fun j hj => by
    have hlt : j < vs.length := by
      have := (List.getElem?_eq_some_iff.mp hj).1
      omega
    rw [List.getElem?_take_of_lt hlt, kp j hj, List.getElem?_append_left (by simpa using hlt)])
  exact ⟨B ++ C3, k.sub (h1.app j1) ((SubP.refl B).app (.of_sub (j2.trans (List.sublist_append_left _ _))))⟩
end
section
variable {P : Program} {w : World} {K : PySem.W.Frag} {mg : Str → Option Value} {base : Heap}
theorem Done.imp {m : List Bool} {D D' : Ends} {F H : Hp} {A : List Addr} {σ : St} {fl : Fl} {Γ' : Gm} (d : Done K m D F H A σ fl Γ') (h1 : ∀ σ H, D.nx σ H → D'.nx σ H) (h2 : ∀ v H, D.rt v H → D'.rt v H) (h3 : ∀ σ H, D.bk σ H → D'.bk σ H) (h4 : ∀ σ H, D.ct σ H → D'.ct σ H) : Done K m D' F H A σ fl Γ' := by
  cases fl with
  | nx => exact fun σ' H' q => h1 _ _ (d σ' H' q)
  | bk => exact fun σ' H' q => h3 _ _ (d σ' H' q)
  | ct => exact fun σ' H' q => h4 _ _ (d σ' H' q)
  | rt o => exact fun v σ' H' q => h2 _ _ (d v σ' H' q)
theorem fn_mirror {x qual : Str} {st : Stmt} {fa : Addr} {fd : FuncData} {N ps : List Str} {k : Nat} (m : List Bool) (f : GS) (Fn : Fun K x qual st fa fd) (S : FnScope N ps (defScope st)) (hm : m.length ≤ ps.length)
    (hbody : ∀ (cdv : Value) (A : Around) (outer : List Env) (s : Shared) (H : Hp) (E : XK), Room k (A.deeper (envOfC qual (defScope st) s.heap.objs.size fa cdv)) →
      PSs (cxOf CX0 P w K mg base N qual (defScope st) fa cdv A outer s H E).nox (defBody st) (tS K m f)) : FnOk P w K mg base CX0 (k + 1) fa fd ps (SpM K ps.length (runM N.length m f)) := by
  refine Fn.ok S (fun vs H Q E h => h.1) fun cdv A outer s H vs Q E hr h => ⟨_, hbody cdv A outer s H E hr, ?_⟩
  obtain ⟨hl, F, A0, os, o, fin, k0, e, q⟩ := h
  have hlo : vs.length = os.length := by have := k0.os.length; simpa using this
  have hN : ps.length ≤ N.length := by have := congrArg List.length S.pre; rw [List.length_take] at this; omega
  unfold runM at e
  cases q1 : f (os.map some ++ List.replicate (N.length - os.length) none) with
  | none => rw [q1] at e; cases e
  | some p =>
    obtain ⟨fl, Γ'⟩ := p
    rw [q1] at e
    dsimp only [Option.bind] at e
    have k1 : OK K F H (start N vs) (os.map some ++ List.replicate (N.length - os.length) none) A0 := by
      unfold start
      rw [hlo]
      have z := k0.os.app (own_nones (K := K) (F := F) (H := H) (N.length - os.length))
      rw [List.append_nil] at z
      exact ⟨k0.le, z, k0.nd, k0.fr⟩
    cases q2 : fl.val with
    | none => rw [q2] at e; cases e
    | some o' =>
      rw [q2] at e
      dsimp only at e
      split at e
      · rename_i hlen
        cases e
        refine ⟨F, A0, _, fl, Γ', k1, q1, ?_⟩
        have fin' : ∀ {F' H' : Hp} {A' : List Addr} {v : V} {σ' : St}, Ext F H A0 F' H' A' → OK K F' H' (some v :: σ') (some o :: Γ') A' → Kept m (start N vs) σ' → Q v H' := by
          intro F' H' A' v σ' x k' kp
          unfold start at kp
          have hs : σ'.length = Γ'.length := by have := k'.os.length; simpa using this
          obtain ⟨B, k2, x2⟩ := OK.params (m := m) (vs := vs) k' (by omega) kp (by omega)
          rw [hlo] at k2
          exact q v H' ⟨F', B, x.trans x2, k2⟩
        cases fl with
        | nx =>
          cases q2
          intro σ' H' ⟨F', A', x, k', kp⟩
          obtain ⟨k2, x2⟩ := k'.push (v := .non) (o := .frz .non) (Av := []) (Same.refl _) (.frz (.flat rfl .nil) .nil) .nil (fun _ m => by cases m)
          exact fin' (x.trans x2) k2 kp
        | rt o1 =>
          cases q2
          intro v σ' H' ⟨F', A', x, k', kp⟩
          exact fin' x k' kp
        | bk => cases q2
        | ct => cases q2
      · cases e
theorem fn_mir {x qual : Str} {st : Stmt} {fa : Addr} {fd : FuncData} {N ps : List Str} {k : Nat} (m : List Bool) (f : GS) (Fn : Fun K x qual st fa fd) (S : FnScope N ps (defScope st)) {n pn : Nat} (hn : N.length = n) (hp : ps.length = pn) (hm : m.length ≤ ps.length)
    (hbody : ∀ (cdv : Value) (A : Around) (outer : List Env) (s : Shared) (H : Hp) (E : XK), Room k (A.deeper (envOfC qual (defScope st) s.heap.objs.size fa cdv)) →
      ∃ f', PSs (cxOf CX0 P w K mg base N qual (defScope st) fa cdv A outer s H E).nox (defBody st) (tS K m f') ∧ f' = f) : FnOk P w K mg base CX0 (k + 1) fa fd ps (SpM K pn (runM n m f)) := by
  subst hn hp
  exact fn_mirror m f Fn S hm fun cdv A outer s H E hr => by
    obtain ⟨f', h, e⟩ := hbody cdv A outer s H E hr
    rw [← e]
    exact h
end
def takeArgs : List R → Gm → Option (List O × Gm)
  | [], Γ => some ([], Γ)
  | .own o :: rs, Γ => (takeArgs rs Γ).bind fun p => some (o :: p.1, p.2)
  | .var i :: rs, Γ => match Γ[i]? with
    | some (some o) => (takeArgs rs (Γ.set i none)).bind fun p => some (o :: p.1, p.2)
    | _ => none
def putBack : List R → Gm → Gm → Gm
  | .own _ :: rs, _ :: fin, Γ => putBack rs fin Γ
  | .var i :: rs, f :: fin, Γ => (putBack rs fin Γ).set i f
  | _, _, Γ => Γ
def gCall (M : GM) (fs : GA) : GE := fun Γ => (fs Γ).bind fun p => (takeArgs p.1 p.2).bind fun q => (M q.1).bind fun r => some (.own r.1, putBack p.1 r.2 q.2)
section
variable {K : PySem.W.Frag} {F H : Hp} {σ : St}
theorem take_args : ∀ {rs : List R} {vs : List V} {Γ Γ2 : Gm} {os : List O} {B C : List Addr}, OwnL K F H (vs.map some) (rs.map R.o) B → OwnL K F H σ Γ C → Held σ rs vs → takeArgs rs Γ = some (os, Γ2) →
    ∃ B' C', OwnL K F H (vs.map some) (os.map some) B' ∧ OwnL K F H σ Γ2 C' ∧ (B' ++ C').Perm (B ++ C)
  | [], [], Γ, Γ2, os, B, C, h1, h2, _, e => by cases e; exact ⟨B, C, h1, h2, .refl _⟩
  | .own o :: rs, v :: vs, Γ, Γ2, os, B, C, h1, h2, hh, e => by
    obtain ⟨B1, B2, g1, g2, rfl⟩ := OwnL.one h1
    unfold takeArgs at e
    cases q : takeArgs rs Γ with
    | none => rw [q] at e; cases e
    | some p =>
      rw [q] at e
      cases e
      obtain ⟨B', C', j1, j2, j3⟩ := take_args g2 h2 hh q
      exact ⟨B1 ++ B', C', g1.app j1, j2, by rw [List.append_assoc, List.append_assoc]; exact .append_left _ j3⟩
  | .var i :: rs, v :: vs, Γ, Γ2, os, B, C, h1, h2, hh, e => by
    obtain ⟨B1, B2, g1, g2, rfl⟩ := OwnL.one h1
    have eB : B1 = [] := by cases g1 with | skip t => cases t; rfl
    subst eB
    unfold takeArgs at e
    cases q0 : Γ[i]? with
    | none => rw [q0] at e; cases e
    | some z =>
      cases z with
      | none => rw [q0] at e; cases e
      | some o =>
        rw [q0] at e
        dsimp only at e
        cases q : takeArgs rs (Γ.set i none) with
        | none => rw [q] at e; cases e
        | some p =>
          rw [q] at e
          cases e
          obtain ⟨v', Ai, C1, k1, k2, k3, k4⟩ := h2.take q0
          rw [hh.1] at k1
          cases k1
          obtain ⟨B', C', j1, j2, j3⟩ := take_args g2 k3 hh.2 q
          refine ⟨Ai ++ B', C', k2.app j1, j2, ?_⟩
          rw [List.append_assoc, List.nil_append]
          refine (List.Perm.append_left Ai j3).trans ?_
          rw [← List.append_assoc]
          refine (List.Perm.append_right C1 List.perm_append_comm).trans ?_
          rw [List.append_assoc]
          exact .append_left _ k4.symm
  | [], _ :: _, _, _, _, _, _, _, _, h, _ => h.elim
  | .own _ :: _, [], _, _, _, _, _, _, _, h, _ => h.elim
  | .var _ :: _, [], _, _, _, _, _, _, _, h, _ => h.elim
theorem put_back : ∀ {rs : List R} {vs : List V} {fin Γ : Gm} {B C : List Addr}, OwnL K F H (vs.map some) fin B → OwnL K F H σ Γ C → Held σ rs vs → ∃ D, OwnL K F H σ (putBack rs fin Γ) D ∧ SubP D (B ++ C)
  | [], [], fin, Γ, B, C, h1, h2, _ => by
    cases h1
    exact ⟨C, h2, .of_sub (List.sublist_append_right _ _)⟩
  | .own o :: rs, v :: vs, [], Γ, B, C, h1, h2, hh => by have := h1.length; simp at this
  | .var i :: rs, v :: vs, [], Γ, B, C, h1, h2, hh => by have := h1.length; simp at this
  | .own o :: rs, v :: vs, f :: fin, Γ, B, C, h1, h2, hh => by
    obtain ⟨B1, B2, g1, g2, rfl⟩ := OwnL.one h1
    obtain ⟨D, j1, j2⟩ := put_back g2 h2 hh
    exact ⟨D, j1, j2.trans (by rw [List.append_assoc]; exact .of_sub (List.sublist_append_right _ _))⟩
  | .var i :: rs, v :: vs, f :: fin, Γ, B, C, h1, h2, hh => by
    obtain ⟨B1, B2, g1, g2, rfl⟩ := OwnL.one h1
    obtain ⟨D, j1, j2⟩ := put_back g2 h2 hh.2
    cases f with
    | none =>
      obtain ⟨D', k1, k2⟩ := OwnL.forget i j1
      exact ⟨D', k1, (SubP.of_sub k2).trans (j2.trans (by rw [List.append_assoc]; exact .of_sub (List.sublist_append_right _ _)))⟩
    | some o =>
      have hi : i < (putBack rs fin Γ).length := by
        rw [← j1.length]
        exact (List.getElem?_eq_some_iff.mp hh.1).1
      obtain ⟨D', k1, C', k2, k3⟩ := OwnL.put g1 i j1 hi
      rw [set_same hh.1] at k1
      refine ⟨D', k1, (SubP.of_perm k2).trans ?_⟩
      rw [List.append_assoc]
      exact (SubP.refl B1).app ((SubP.of_sub k3).trans j2)
  | [], _ :: _, _, _, _, _, _, _, h => h.elim
  | .own _ :: _, [], _, _, _, _, _, _, h => h.elim
  | .var _ :: _, [], _, _, _, _, _, _, h => h.elim
end
section
variable {X : Cx} {K : PySem.W.Frag} {k n : Nat} {f : Addr} {fd : FuncData} {ps : List Str} {x : Str} {p pos : Pos} {e : Expr} {es : List Expr} {fs : GA} {st : Stmt} {M : GM}
theorem tG_call {σ : St} {H : Hp} {Q : VK} (t : tG K (gCall M fs) σ H Q) (hn : ∀ rs Γ Γ', fs Γ = some (rs, Γ') → rs.length = n) : tCall (SpM K n M) [] E0 (tGA K fs) σ H Q := by
  obtain ⟨F, A, Γ, rr, Γ', k, e, w⟩ := t
  unfold gCall at e
  cases q : fs Γ with
  | none => rw [q] at e; cases e
  | some pr =>
    obtain ⟨rs, Γ1⟩ := pr
    rw [q] at e
    dsimp only [Option.bind] at e
    cases q2 : takeArgs rs Γ1 with
    | none => rw [q2] at e; cases e
    | some pr2 =>
      obtain ⟨os, Γ2⟩ := pr2
      rw [q2] at e
      dsimp only at e
      cases q3 : M os with
      | none => rw [q3] at e; cases e
      | some pr3 =>
        obtain ⟨o, fin⟩ := pr3
        rw [q3] at e
        cases e
        refine ⟨F, A, Γ, rs, Γ1, k, q, fun vs H1 pp => ?_⟩
        show SpM K n M (vs ++ []) H1 Q E0
        rw [List.append_nil]
        obtain ⟨F1, A1, x, k1, hh⟩ := pp
        have hl : (vs.map some).length = (rs.map R.o).length := by rw [List.length_map, List.length_map, hh.length]
        obtain ⟨B, C, h1, h2, h3⟩ := OwnL.split hl k1.os
        subst h3
        obtain ⟨B', C', j1, j2, j3⟩ := take_args h1 h2 hh q2
        have k2 : OK K F1 H1 (vs.map some ++ σ) (os.map some ++ Γ2) (B' ++ C') := .perm (j1.app j2) k1.le k1.nd k1.fr j3
        obtain ⟨A3, p3, k3⟩ := k2.swap j1.length
        obtain ⟨A4, k4, fr⟩ := k3.frame j2.length
        refine ⟨by rw [← hh.length]; exact hn rs Γ Γ1 q, F1, A4, os, o, fin, k4, q3, fun v H' pc => w v H' ?_⟩
        obtain ⟨F5, A5, x5, k5⟩ := pc
        obtain ⟨A6, x6, k6⟩ := fr _ _ _ _ _ x5 k5
        obtain ⟨D1, D2, g1, g2, g3⟩ := OwnL.split j2.length k6.os
        subst g3
        obtain ⟨D3, D4, g4, g5, g6⟩ := g2.one
        subst g6
        obtain ⟨D5, g7, g8⟩ := put_back g5 g1 hh
        have s1 : SubP (D3 ++ D5) (D1 ++ (D3 ++ D4)) := by
          refine ((SubP.refl D3).app g8).trans (.of_perm ?_)
          rw [← List.append_assoc]
          exact List.perm_append_comm
        obtain ⟨k7, x7⟩ := k6.sub (σ' := some v :: σ) (Γ' := some o :: putBack rs fin Γ2) (g4.app g7) s1
        have x3 : Ext F1 H1 (B ++ C) F1 H1 A3 := Ext.own' Ext.refl fun a m => j3.mem_iff.mp (p3.mem_iff.mp m)
        exact ⟨F5, D3 ++ D5, ((x.trans x3).trans x6).trans x7, k7, True.intro⟩
theorem ga_len_nil : ∀ rs Γ Γ', gaNil Γ = some (rs, Γ') → rs.length = 0 := fun rs Γ Γ' e => by cases e; rfl
theorem ga_len_cons {f : GE} {g : GA} {n : Nat} (h : ∀ rs Γ Γ', g Γ = some (rs, Γ') → rs.length = n) : ∀ rs Γ Γ', gaCons f g Γ = some (rs, Γ') → rs.length = n + 1 := fun rs Γ Γ' e => by
  obtain ⟨r, Γ1, rs', _, e2, rfl⟩ := gaCons_inv e
  simp [h _ _ _ e2]
theorem de_call (D : DefAt X.K X.mg x st f fd ps) (Fn : FnOk X.prog X.w X.K X.mg X.base CX0 k f fd ps (SpM K n M)) (hr : Room k X.A) (ha : PA X (e :: es) (tGA K fs)) (hn : ∀ rs Γ Γ', fs Γ = some (rs, Γ') → rs.length = n) (hg : Gl X x := by rfl) (hdb : (x == ("__debug__" : Str)) = false := by decide)
    (he : starEach (e :: es) X.env = (false, eval e X.env) :: starEach es X.env := by rfl) (hpl : (backTo pos (starEach es X.env)).any (·.1) = false := by rfl) :
    PE X (.Call (.Name x p) (e :: es) [] pos) (tG K (gCall M fs)) := (pcall D Fn hr ha hg hdb he hpl).mono fun _ _ _ t => tG_call t hn
end
end L2
set_option Elab.async false
set_option linter.all false
set_option maxRecDepth 100000
set_option maxHeartbeats 4000000
namespace L2
open PySem PySem.Spec PyProof.Rows
def frzL : List O → Option (List D)
  | [] => some []
  | .frz d :: os => (frzL os).bind fun ds => some (d :: ds)
  | _ :: _ => none
def listD : O → Option (List D)
  | .frz (.lst ds) => some ds
  | .frz (.scr ns) => some (ns.map .int)
  | .lst os => frzL os
  | _ => none
def tupD : O → Option (List D)
  | .frz (.tup ds) => some ds
  | .tup os => frzL os
  | _ => none
theorem frzL_frz : ∀ ds : List D, frzL (ds.map .frz) = some ds
  | [] => rfl
  | d :: ds => by rw [List.map_cons, frzL, frzL_frz ds]; rfl
theorem dl_frz : ∀ ds : List D, O.dl (ds.map .frz) = ds
  | [] => rfl
  | d :: ds => by rw [List.map_cons, O.dl, dl_frz ds]; rfl
section
variable {K : PySem.W.Frag} {F H : Hp} {x y v : V} {o : O} {B : List Addr} {ds : List D} {d : D} {ws : List V}
theorem own_frzL : ∀ {ws : List V} {os : List O} {ds : List D} {B : List Addr}, OwnL K F H (ws.map some) (os.map some) B → frzL os = some ds → RepL K F ws ds
  | [], [], _, _, _, e => by cases e; exact .nil
  | w :: ws, o :: os, ds, B, h, e => by
    obtain ⟨B1, B2, h1, h2, _⟩ := OwnL.one h
    cases o with
    | frz d =>
      unfold frzL at e
      cases q : frzL os with
      | none => rw [q] at e; cases e
      | some ds' =>
        rw [q] at e
        cases e
        cases h1 with
        | frz r _ => exact .cons r (own_frzL h2 q)
    | _ => cases e
  | [], _ :: _, _, _, h, _ => by have := h.length; simp at this
  | _ :: _, [], _, _, h, _ => by have := h.length; simp at this
theorem own_frzs : ∀ {ws : List V} {ds : List D}, RepL K F ws ds → OwnL K F H (ws.map some) ((ds.map .frz).map some) []
  | [], [], _ => .nil
  | w :: ws, d :: ds, h => .frz h.inv.1 (own_frzs h.inv.2)
  | [], _ :: _, h => by have := h.length; simp at this
  | _ :: _, [], h => by have := h.length; simp at this
theorem rep_ints : ∀ ns : List Int, RepL K F (ns.map V.int) (ns.map D.int)
  | [] => .nil
  | n :: ns => .flat rfl (rep_ints ns)
theorem own_list (le : Same F H) (h : OwnL K F H [some x] [some o] B) (e : listD o = some ds) : ∃ a ws, x = .ref a ∧ SqL K H a ws ∧ RepL K F ws ds := by
  cases h with
  | @frz _ d _ _ _ r _ =>
    cases r with
    | lst q i _ => cases e; exact ⟨_, _, rfl, .inl (le.rd q), i⟩
    | exc _ _ => cases e
    | scr q _ => cases e; exact ⟨_, _, rfl, le.seq q, rep_ints _⟩
    | flat q _ => cases d <;> first | (cases q; done) | cases e
    | tup _ _ _ => cases e
    | dct _ _ _ _ _ => cases e
  | lst q i _ => exact ⟨_, _, rfl, SqL.of q, own_frzL i e⟩
  | tup _ _ _ => cases e
  | dct _ _ _ _ _ => cases e
theorem own_tup (le : Same F H) (h : OwnL K F H [some x] [some o] B) (e : tupD o = some ds) : ∃ a ws, x = .ref a ∧ SqT K H a ws ∧ RepL K F ws ds := by
  cases h with
  | @frz _ d _ _ _ r _ =>
    cases r with
    | tup q i _ => cases e; exact ⟨_, _, rfl, le.seqT q, i⟩
    | scr q _ => cases e
    | exc _ _ => cases e
    | flat q _ => cases d <;> first | (cases q; done) | cases e
    | lst _ _ _ => cases e
    | dct _ _ _ _ _ => cases e
  | tup q i _ => exact ⟨_, _, rfl, SqT.of q, own_frzL i e⟩
  | lst _ _ _ => cases e
  | dct _ _ _ _ _ => cases e
theorem own_flat (h : OwnL K F H [some x] [some (.frz d)] B) (e : flatOf d = some v) : x = v := by
  cases h with
  | frz r _ =>
    cases r with
    | flat q _ => rw [e] at q; exact (Option.some.inj q).symm
    | lst _ _ _ => cases e
    | tup _ _ _ => cases e
    | dct _ _ _ _ _ => cases e
    | scr _ _ => cases e
    | exc _ _ => cases e
theorem own_rep (le : Same F H) (h : OwnL K F H [some x] [some o] B) : RepL K H [x] [o.d] := h.rep le (fun _ _ _ e => e) [x] [o] rfl rfl
theorem Res.lst {Q : VK} (h : Res K F H (.lst (ds.map .frz)) Q) (r : RepL K F ws ds) {l : Addr} (hn : H l = none) : Q (.ref l) (upd H l (.lst ws)) :=
  h (.ref l) _ ([l] ++ [] ++ []) (same_upd hn) (.lst upd_same (own_frzs r) .nil) (by simp) (fun a m => by simp at m; rw [m]; exact hn)
theorem Res.tup {Q : VK} (h : Res K F H (.tup (ds.map .frz)) Q) (r : RepL K F ws ds) {l : Addr} (hn : H l = none) : Q (.ref l) (upd H l (.tup ws)) :=
  h (.ref l) _ ([l] ++ [] ++ []) (same_upd hn) (.tup upd_same (own_frzs r) .nil) (by simp) (fun a m => by simp at m; rw [m]; exact hn)
theorem Sees.one {o : O} {vs : List V} (h : Sees K F H vs [o]) : ∃ x B, vs = [x] ∧ OwnL K F H [some x] [some o] B := by
  cases h with
  | cons a t => cases t; obtain ⟨B, a⟩ := a; exact ⟨_, B, rfl, a⟩
theorem Sees.two {o o' : O} {vs : List V} (h : Sees K F H vs [o, o']) : ∃ x y B C, vs = [x, y] ∧ OwnL K F H [some x] [some o] B ∧ OwnL K F H [some y] [some o'] C := by
  cases h with
  | cons a t => cases t with
    | cons b t => cases t; obtain ⟨B, a⟩ := a; obtain ⟨C, b⟩ := b; exact ⟨_, _, B, C, rfl, a, b⟩
end
section
variable {X : Cx}
def rCatL (K : PySem.W.Frag) : R2 := fun x y H Q => ∃ l b xs zs, x = .ref l ∧ y = .ref b ∧ SqL K H l xs ∧ SqL K H b zs ∧ xs.length + zs.length ≤ sizeLine ∧ ∀ p, H p = none → Q (.ref p) (upd H p (.lst (xs ++ zs)))
theorem op_catL : OpR X (binaryOp .Add) (rCatL X.K) := by
  intro pins s σ H x y v u Q I rx ry h
  obtain ⟨l, b, xs, zs, rfl, rfl, hH, hB, hz, q⟩ := h
  cases rx
  cases ry
  obtain ⟨its, r, pl, _⟩ := I.list hH
  obtain ⟨its2, r2, pl2, _⟩ := I.list hB
  have hl := r.length
  have hl2 := r2.length
  obtain ⟨⟨cls, dd, data, sl⟩, ho, hc, n, hd⟩ := id pl.isList
  obtain ⟨⟨cls2, dd2, data2, sl2⟩, ho2, hc2, n2, hd2⟩ := id pl2.isList
  simp only at hc hd hc2 hd2
  subst hc hd hc2 hd2
  have ea : its.toArray ++ its2.toArray = (its ++ its2).toArray := by simp
  refine concat_meets ⟨_, ho, rfl⟩ ⟨_, ho2, rfl⟩ noFill_list_add seq_list_add PySem.F.slot_list_add PySem.F.entry_list_add (PySem.F.args_list_add_2 _ _) (list_addW l b its.toArray its2.toArray n n2 dd dd2 sl sl2 (by simp only [List.size_toArray]; omega)) ⟨ho, ho2, ?_⟩
  rw [ea]
  exact ⟨.ref _, _, I.lnew (t' := s.toks) (r.append r2) (by rw [List.length_append]; omega), rfl, q _ I.fresh⟩
theorem op_catLK (K : PySem.W.Frag) (hK : X.K = K := by rfl) : OpR X (binaryOp .Add) (rCatL K) := hK ▸ op_catL
def addI : O → O → Option (Option O)
  | .frz (.int i), .frz (.int j) => some (some (.frz (.int (i + j))))
  | .frz (.str x), .frz (.str y) => some (if x.length + y.length ≤ 1000000 then some (.frz (.str (x ++ y))) else none)
  | _, _ => none
def oAdd : List O → Option O
  | [a, b] => match addI a b with
    | some r => r
    | none => (listD a).bind fun xs => (listD b).bind fun ys => if xs.length + ys.length ≤ 1000000 then some (.lst ((xs ++ ys).map .frz)) else none
  | _ => none
def rAddA (K : PySem.W.Frag) : R2 := fun x y H Q => rI0 (fun i j => .int (i + j)) x y H Q ∨ (∃ i j, x = .str i ∧ y = .str j ∧ i.length + j.length ≤ sizeLine ∧ Q (.str (i ++ j)) H) ∨ rCatL K x y H Q
theorem op_addA (K : PySem.W.Frag) (hK : X.K = K := by rfl) : OpR X (binaryOp .Add) (rAddA K) := op_add.or (op_add_str.or (op_catLK K hK))
theorem ml {n : Nat} (h : n ≤ 1000000) : n ≤ sizeLine := Nat.le_trans h (by decide)
theorem ok_add {K : PySem.W.Frag} : OpOk K (r2L (rAddA K)) oAdd := by
  intro F H vs os o Q le see e res
  unfold oAdd at e
  split at e
  · rename_i a b
    obtain ⟨x, y, B, C, rfl, h1, h2⟩ := see.two
    split at e
    · rename_i r q
      unfold addI at q
      split at q
      · cases q
        cases e
        cases own_flat h1 rfl
        cases own_flat h2 rfl
        exact ⟨_, _, rfl, .inl ⟨_, _, rfl, rfl, res.flat rfl⟩⟩
      · cases q
        split at e
        · cases e
          cases own_flat h1 rfl
          cases own_flat h2 rfl
          exact ⟨_, _, rfl, .inr (.inl ⟨_, _, rfl, rfl, ml (by assumption), res.flat rfl⟩)⟩
        · cases e
      · cases q
    · cases q1 : listD a with
      | none => rw [q1] at e; cases e
      | some xs =>
        rw [q1] at e
        cases q2 : listD b with
        | none => rw [q2] at e; cases e
        | some ys =>
          rw [q2] at e
          dsimp only [Option.bind] at e
          split at e
          · cases e
            obtain ⟨a1, ws1, rfl, s1, r1⟩ := own_list le h1 q1
            obtain ⟨a2, ws2, rfl, s2, r2⟩ := own_list le h2 q2
            refine ⟨_, _, rfl, .inr (.inr ⟨a1, a2, ws1, ws2, rfl, rfl, s1, s2, ml (by rw [r1.length, r2.length]; assumption), fun p hp => res.lst (r1.append r2) hp⟩)⟩
          · cases e
  · cases e
def oInt (C : Int → Int → Bool) (f : Int → Int → D) : List O → Option O
  | [.frz (.int i), .frz (.int j)] => if C i j = true then some (.frz (f i j)) else none
  | _ => none
theorem ok_int {K : PySem.W.Frag} {r : R2} {C : Int → Int → Bool} {f : Int → Int → D} {g : Int → Int → V} (hf : ∀ i j, flatOf (f i j) = some (g i j)) (hr : ∀ i j H Q, C i j = true → Q (g i j) H → r (.int i) (.int j) H Q) : OpOk K (r2L r) (oInt C f) := by
  intro F H vs os o Q le see e res
  unfold oInt at e
  split at e
  · split at e
    · cases e
      obtain ⟨x, y, B, C, rfl, h1, h2⟩ := see.two
      cases own_flat h1 rfl
      cases own_flat h2 rfl
      exact ⟨_, _, rfl, hr _ _ _ _ (by assumption) (res.flat (hf _ _))⟩
    · cases e
  · cases e
abbrev oSub := oInt (fun _ _ => true) fun i j => .int (i - j)
abbrev oMod := oInt (fun _ j => decide (0 < j)) fun i j => .int (i % j)
abbrev oLt := oInt (fun _ _ => true) fun i j => .bl (decide (i < j))
theorem ok_sub {K : PySem.W.Frag} : OpOk K (r2L (rI0 fun i j => .int (i - j))) oSub := ok_int (fun _ _ => rfl) fun _ _ _ _ _ q => ⟨_, _, rfl, rfl, q⟩
theorem ok_mod {K : PySem.W.Frag} : OpOk K (r2L (rI (fun _ j => 0 < j) fun i j => .int (i % j))) oMod := ok_int (fun _ _ => rfl) fun _ _ _ _ c q => ⟨_, _, rfl, rfl, of_decide_eq_true c, q⟩
theorem ok_lt {K : PySem.W.Frag} : OpOk K (r2L (rI0 fun i j => .bl (decide (i < j)))) oLt := ok_int (fun _ _ => rfl) fun _ _ _ _ _ q => ⟨_, _, rfl, rfl, q⟩
end
end L2
set_option Elab.async false
set_option linter.all false
set_option maxRecDepth 100000
set_option maxHeartbeats 4000000
namespace L2
open PySem PySem.Spec PyProof.Rows
instance (z : Str) (n : Int) : Decidable (MulOk z n) := by unfold MulOk; infer_instance
section
variable {X : Cx}
def mulI (j : Int) : O → Option O
  | .frz (.int i) => if (-(2 ^ 64) < i ∧ i < 2 ^ 64) ∨ (-(2 ^ 64) < j ∧ j < 2 ^ 64) then some (.frz (.int (i * j))) else none
  | .frz (.str z) => if MulOk z j then some (.frz (.str (Txt.mul z j))) else none
  | _ => none
def oMulA : List O → Option O
  | [a, .frz (.int j)] => mulI j a
  | _ => none
def rMulA : R2 := fun x y H Q => rI CMul (fun i j => .int (i * j)) x y H Q ∨ ∃ z n, x = .str z ∧ y = .int n ∧ MulOk z n ∧ Q (.str (Txt.mul z n)) H
theorem op_mulA : OpR X (binaryOp .Mult) rMulA := op_mul.or op_mul_str
theorem ok_mul {K : PySem.W.Frag} : OpOk K (r2L rMulA) oMulA := by
  intro F H vs os o Q le see e res
  unfold oMulA at e
  split at e
  · obtain ⟨x, y, B, C, rfl, h1, h2⟩ := see.two
    unfold mulI at e
    split at e
    · split at e
      · cases e
        cases own_flat h1 rfl
        cases own_flat h2 rfl
        exact ⟨_, _, rfl, .inl ⟨_, _, rfl, rfl, by assumption, res.flat rfl⟩⟩
      · cases e
    · split at e
      · cases e
        cases own_flat h1 rfl
        cases own_flat h2 rfl
        exact ⟨_, _, rfl, .inr ⟨_, _, rfl, rfl, by assumption, res.flat rfl⟩⟩
      · cases e
    · cases e
  · cases e
def oNeg : List O → Option O
  | [.frz (.int i)] => some (.frz (.int (-i)))
  | _ => none
mutual
def eqD : D → D → Bool
  | .lst xs, .lst ys => eqDs xs ys
  | .tup xs, .tup ys => eqDs xs ys
  | .non, .non => true
  | .bl a, .bl b => a == b
  | .bl a, .int b => (if a then 1 else 0) == b
  | .int a, .bl b => a == (if b then 1 else 0)
  | .int a, .int b => a == b
  | .str a, .str b => a == b
  | _, _ => false
def eqDs : List D → List D → Bool
  | [], [] => true
  | x :: xs, y :: ys => eqD x y && eqDs xs ys
  | _, _ => false
end
def okD : Nat → D → Bool
  | n + 1, .lst xs => xs.all (okD n)
  | n + 1, .tup xs => xs.all (okD n)
  | _, .non => true
  | _, .bl _ => true
  | _, .int _ => true
  | _, .str _ => true
  | _, _ => false
theorem eqDs_len : ∀ {xs ys : List D}, xs.length ≠ ys.length → eqDs xs ys = false
  | [], [], h => absurd rfl h
  | [], _ :: _, _ => by unfold eqDs; rfl
  | _ :: _, [], _ => by unfold eqDs; rfl
  | x :: xs, y :: ys, h => by unfold eqDs; rw [eqDs_len (by simpa using h), Bool.and_false]
theorem eqDs_all : ∀ {xs ys : List D} (n : Nat), xs.length = n → ys.length = n → eqDs xs ys = (List.range n).all fun j => eqD (xs.getD j .non) (ys.getD j .non)
  | [], [], 0, _, _ => by unfold eqDs; rfl
  | x :: xs, y :: ys, n + 1, h1, h2 => by
    unfold eqDs
    rw [eqDs_all n (by simpa using h1) (by simpa using h2), List.range_succ_eq_map, List.all_cons, List.all_map]
    rfl
  | [], _, _ + 1, h, _ => by simp at h
  | _ :: _, [], _ + 1, _, h => by simp at h
  | _ :: _, _, 0, h, _ => by simp at h
  | [], _ :: _, 0, _, h => by simp at h
variable {pins : List (Addr × Obj)} {σ : St} {H : Hp} {s : Shared}
theorem rep_at {K : PySem.W.Frag} {F : Hp} {ws : List V} {es : List D} (r : RepL K F ws es) {its : List Value} (rv : Vals ws its) {j : Nat} (h : j < its.toArray.size) : ∃ x, RelV x its.toArray[j] ∧ RepL K F [x] [es.getD j .non] ∧ j < es.length := by
  obtain ⟨x, hx, rx⟩ := rv.at h
  have hl := r.length
  have hj : j < es.length := by
    have := (List.getElem?_eq_some_iff.mp hx).1
    omega
  obtain ⟨y, hy, ry⟩ := r.get (i := j) (d := es[j]) (by simp [hj])
  rw [hx] at hy
  cases hy
  refine ⟨x, rx, ?_, hj⟩
  rw [show es.getD j .non = es[j] by simp [hj]]
  exact ry
theorem all_getD {p : D → Bool} {es : List D} (h : es.all p = true) {j : Nat} (hj : j < es.length) : p (es.getD j .non) = true := by
  rw [show es.getD j .non = es[j] by simp [hj]]
  exact List.all_eq_true.mp h _ (List.getElem_mem hj)
inductive Shp (K : PySem.W.Frag) (H : Hp) (s : Shared) : Value → D → Prop
  | none : Shp K H s .none .non
  | bool (b : Bool) : Shp K H s (.bool b) (.bl b)
  | int (i : Int) (t : Tok) : Shp K H s (.int i t) (.int i)
  | str (x : Str) (t : Tok) : Shp K H s (.str x t) (.str x)
  | list {a : Addr} {its : List Value} {ws : List V} {es : List D} : s.heap.IsList a its.toArray → Vals ws its → RepL K H ws es → Shp K H s (.ref a) (.lst es)
  | tuple {a : Addr} {its : List Value} {ws : List V} {es : List D} : s.heap.IsTuple a its.toArray → Vals ws its → RepL K H ws es → Shp K H s (.ref a) (.tup es)
theorem shp_of (I : Inv X pins σ H s) {n : Nat} {x : V} {u : Value} {d : D} (r : RepL X.K H [x] [d]) (ru : RelV x u) (ok : okD n d = true) : Shp X.K H s u d := by
  cases r with
  | lst q i _ =>
    cases ru
    obtain ⟨its, rv, pl, _⟩ := I.list (.inl q)
    exact .list pl.isList rv i
  | tup q i _ =>
    cases ru
    obtain ⟨its, rv, pl, _⟩ := I.tuple q
    exact .tuple pl rv i
  | dct _ _ _ _ _ => cases n <;> cases ok
  | scr _ _ => cases n <;> cases ok
  | exc _ _ => cases n <;> cases ok
  | flat q _ =>
    cases d with
    | non => cases q; cases ru; exact .none
    | bl b => cases q; cases ru; exact .bool b
    | int i => cases q; obtain ⟨t, rfl⟩ := ru; exact .int i t
    | str z => cases q; obtain ⟨t, rfl⟩ := ru; exact .str z t
    | ty _ => cases n <;> cases ok
    | lst _ => cases q
    | tup _ => cases q
    | dct _ => cases q
    | scr _ => cases q
    | exc _ _ => cases q
theorem okD_lst {n : Nat} {es : List D} (h : okD n (.lst es) = true) : ∃ m, n = m + 1 ∧ es.all (okD m) = true := by
  cases n with
  | zero => cases h
  | succ n => exact ⟨n, rfl, h⟩
theorem okD_tup {n : Nat} {es : List D} (h : okD n (.tup es) = true) : ∃ m, n = m + 1 ∧ es.all (okD m) = true := by
  cases n with
  | zero => cases h
  | succ n => exact ⟨n, rfl, h⟩
theorem eqDs_refl {es : List D} (h : ∀ d ∈ es, eqD d d = true) : eqDs es es = true := by
  induction es with
  | nil => unfold eqDs; rfl
  | cons d es ih => unfold eqDs; rw [h d (by simp), ih fun d m => h d (by simp [m])]; rfl
theorem eqD_refl : ∀ (n : Nat) {d : D}, okD n d = true → eqD d d = true := by
  intro n
  induction n with
  | zero => intro d h; cases d <;> first | (cases h; done) | simp [eqD]
  | succ n ih =>
    intro d h
    cases d with
    | lst es => simp only [eqD]; exact eqDs_refl fun d m => ih (List.all_eq_true.mp h d m)
    | tup es => simp only [eqD]; exact eqDs_refl fun d m => ih (List.all_eq_true.mp h d m)
    | dct _ => cases h
    | scr _ => cases h
    | exc _ _ => cases h
    | ty _ => cases h
    | _ => simp [eqD]
theorem list_eq_getD {xs ys : List D} (hl : xs.length = ys.length) (h : ∀ j, j < xs.length → xs.getD j .non = ys.getD j .non) : xs = ys := by
  apply List.ext_getElem hl
  intro j h1 h2
  have := h j h1
  simpa [h1, h2] using this
def unfl : V → D
  | .bl b => .bl b
  | .int i => .int i
  | .str x => .str x
  | .ty n => .ty n
  | _ => .non
theorem flat_unfl {d : D} {v : V} (h : flatOf d = some v) : d = unfl v := by cases d <;> cases h <;> rfl
theorem flat_ref {d : D} {a : Addr} (h : flatOf d = some (.ref a)) : False := by cases d <;> cases h
theorem rep_inj (I : Inv X pins σ H s) : ∀ (n m : Nat) {x : V} {d e : D}, RepL X.K H [x] [d] → RepL X.K H [x] [e] → okD n d = true → okD m e = true → d = e := by
  intro n
  induction n using Nat.strongRecOn with
  | ind n ih =>
  intro m x d e rd re od oe
  have go : ∀ {ws : List V} {es es2 : List D} {n' m' : Nat}, n' < n → RepL X.K H ws es → RepL X.K H ws es2 → es.all (okD n') = true → es2.all (okD m') = true → es = es2 := by
    intro ws es es2 n' m' hn r1 r2 o1 o2
    have l1 := r1.length
    have l2 := r2.length
    refine list_eq_getD (by omega) fun j hj => ?_
    have hj2 : j < es2.length := by omega
    obtain ⟨v, g1, g2⟩ := r1.get (i := j) (d := es[j]) (by simp [hj])
    obtain ⟨v', p1, p2⟩ := r2.get (i := j) (d := es2[j]) (by simp [hj2])
    rw [g1] at p1
    cases p1
    rw [show es.getD j .non = es[j] by simp [hj], show es2.getD j .non = es2[j] by simp [hj2]]
    exact ih n' hn m' g2 p2 (List.all_eq_true.mp o1 _ (List.getElem_mem hj)) (List.all_eq_true.mp o2 _ (List.getElem_mem hj2))
  cases rd with
  | flat q _ =>
    cases re with
    | flat q' _ =>
      rw [flat_unfl q, flat_unfl q']
    | lst _ _ _ => exact (flat_ref q).elim
    | tup _ _ _ => exact (flat_ref q).elim
    | dct _ _ _ _ _ => exact (flat_ref q).elim
    | scr _ _ => exact (flat_ref q).elim
    | exc _ _ => exact (flat_ref q).elim
  | lst q i _ =>
    obtain ⟨n', rfl, od'⟩ := okD_lst od
    cases re with
    | flat q' _ => exact (flat_ref q').elim
    | lst q' i' _ =>
      obtain ⟨m', rfl, oe'⟩ := okD_lst oe
      cases I.list_inj (.inl q) (.inl q')
      rw [go (Nat.lt_succ_self _) i i' od' oe']
    | tup q' i' _ =>
      obtain ⟨_, _, p1, _⟩ := I.list (.inl q)
      obtain ⟨_, _, p2, _⟩ := I.tuple q'
      exact absurd rfl (SeqAt.ne_of_list_tuple p1.isList p2)
    | dct _ _ _ _ _ => cases m <;> cases oe
    | scr _ _ => cases m <;> cases oe
    | exc _ _ => cases m <;> cases oe
  | tup q i _ =>
    obtain ⟨n', rfl, od'⟩ := okD_tup od
    cases re with
    | flat q' _ => exact (flat_ref q').elim
    | tup q' i' _ =>
      obtain ⟨m', rfl, oe'⟩ := okD_tup oe
      cases I.tuple_inj q q'
      rw [go (Nat.lt_succ_self _) i i' od' oe']
    | lst q' i' _ =>
      obtain ⟨_, _, p1, _⟩ := I.list (.inl q')
      obtain ⟨_, _, p2, _⟩ := I.tuple q
      exact absurd rfl (SeqAt.ne_of_list_tuple p1.isList p2)
    | dct _ _ _ _ _ => cases m <;> cases oe
    | scr _ _ => cases m <;> cases oe
    | exc _ _ => cases m <;> cases oe
  | dct _ _ _ _ _ => cases n <;> cases od
  | scr _ _ => cases n <;> cases od
  | exc _ _ => cases n <;> cases od
theorem eq_rep (I : Inv X pins σ H s) : ∀ (n m : Nat) {A : Around} {x y : V} {u v : Value} {d e : D}, RepL X.K H [x] [d] → RepL X.K H [y] [e] → okD n d = true → okD m e = true → RelV x u → RelV y v → A.units + n < cLine →
    SeqAt.EqAt A s u v (eqD d e) ∧ SeqAt.RcAt A s u v (eqD d e) := by
  intro n
  induction n using Nat.strongRecOn with
  | ind n ih =>
  intro m A x y u v d e rd re od oe ru rv hu
  have hu0 : A.units < cLine := by omega
  have s1 := shp_of I rd ru od
  have s2 := shp_of I re rv oe
  cases s1 with
  | none =>
    cases s2 with
    | none =>
      exact ⟨SeqAt.EqAt.same _, SeqAt.RcAt.none_none⟩
    | bool a2 =>
      simp only [eqD]; exact ⟨SeqAt.EqAt.none_bool a2, SeqAt.RcAt.none_bool a2⟩
    | int a2 t2 =>
      simp only [eqD]; exact ⟨SeqAt.EqAt.none_int a2 t2, SeqAt.RcAt.none_int a2 t2⟩
    | str a2 t2 =>
      simp only [eqD]; exact ⟨SeqAt.EqAt.none_str a2 t2, SeqAt.RcAt.none_str a2 t2⟩
    | list l2 v2 r2 =>
      simp only [eqD]; exact ⟨SeqAt.EqAt.none_list l2 hu0, SeqAt.RcAt.none_list l2 hu0⟩
    | tuple l2 v2 r2 =>
      simp only [eqD]; exact ⟨SeqAt.EqAt.none_tuple l2 hu0, SeqAt.RcAt.none_tuple l2 hu0⟩
  | bool a1 =>
    cases s2 with
    | none =>
      simp only [eqD]; exact ⟨SeqAt.EqAt.bool_none a1, SeqAt.RcAt.bool_none a1⟩
    | bool a2 =>
      simp only [eqD]; exact ⟨SeqAt.EqAt.bool_bool a1 a2, SeqAt.RcAt.bool_bool a1 a2⟩
    | int a2 t2 =>
      simp only [eqD]; exact ⟨SeqAt.EqAt.bool_int a1 a2 t2, SeqAt.RcAt.bool_int a1 a2 t2⟩
    | str a2 t2 =>
      simp only [eqD]; exact ⟨SeqAt.EqAt.bool_str a1 a2 t2, SeqAt.RcAt.bool_str a1 a2 t2⟩
    | list l2 v2 r2 =>
      simp only [eqD]; exact ⟨SeqAt.EqAt.bool_list a1 l2 hu0, SeqAt.RcAt.bool_list a1 l2 hu0⟩
    | tuple l2 v2 r2 =>
      simp only [eqD]; exact ⟨SeqAt.EqAt.bool_tuple a1 l2 hu0, SeqAt.RcAt.bool_tuple a1 l2 hu0⟩
  | int a1 t1 =>
    cases s2 with
    | none =>
      simp only [eqD]; exact ⟨SeqAt.EqAt.int_none a1 t1, SeqAt.RcAt.int_none a1 t1⟩
    | bool a2 =>
      simp only [eqD]; exact ⟨SeqAt.EqAt.int_bool a1 t1 a2, SeqAt.RcAt.int_bool a1 t1 a2⟩
    | int a2 t2 =>
      simp only [eqD]; exact ⟨SeqAt.EqAt.int_int a1 t1 a2 t2, SeqAt.RcAt.int_int a1 t1 a2 t2⟩
    | str a2 t2 =>
      simp only [eqD]; exact ⟨SeqAt.EqAt.int_str a1 t1 a2 t2, SeqAt.RcAt.int_str a1 t1 a2 t2⟩
    | list l2 v2 r2 =>
      simp only [eqD]; exact ⟨SeqAt.EqAt.int_list a1 t1 l2 hu0, SeqAt.RcAt.int_list a1 t1 l2 hu0⟩
    | tuple l2 v2 r2 =>
      simp only [eqD]; exact ⟨SeqAt.EqAt.int_tuple a1 t1 l2 hu0, SeqAt.RcAt.int_tuple a1 t1 l2 hu0⟩
  | str a1 t1 =>
    cases s2 with
    | none =>
      simp only [eqD]; exact ⟨SeqAt.EqAt.str_none a1 t1, SeqAt.RcAt.str_none a1 t1⟩
    | bool a2 =>
      simp only [eqD]; exact ⟨SeqAt.EqAt.str_bool a1 t1 a2, SeqAt.RcAt.str_bool a1 t1 a2⟩
    | int a2 t2 =>
      simp only [eqD]; exact ⟨SeqAt.EqAt.str_int a1 t1 a2 t2, SeqAt.RcAt.str_int a1 t1 a2 t2⟩
    | str a2 t2 =>
      simp only [eqD]; exact ⟨SeqAt.EqAt.str_str a1 t1 a2 t2, SeqAt.RcAt.str_str a1 t1 a2 t2⟩
    | list l2 v2 r2 =>
      simp only [eqD]; exact ⟨SeqAt.EqAt.str_list a1 t1 l2 hu0, SeqAt.RcAt.str_list a1 t1 l2 hu0⟩
    | tuple l2 v2 r2 =>
      simp only [eqD]; exact ⟨SeqAt.EqAt.str_tuple a1 t1 l2 hu0, SeqAt.RcAt.str_tuple a1 t1 l2 hu0⟩
  | list l1 v1 r1 =>
    cases s2 with
    | none =>
      simp only [eqD]; exact ⟨SeqAt.EqAt.list_none l1 hu0, SeqAt.RcAt.list_none l1 hu0⟩
    | bool a2 =>
      simp only [eqD]; exact ⟨SeqAt.EqAt.list_bool a2 l1 hu0, SeqAt.RcAt.list_bool a2 l1 hu0⟩
    | int a2 t2 =>
      simp only [eqD]; exact ⟨SeqAt.EqAt.list_int a2 t2 l1 hu0, SeqAt.RcAt.list_int a2 t2 l1 hu0⟩
    | str a2 t2 =>
      simp only [eqD]; exact ⟨SeqAt.EqAt.list_str a2 t2 l1 hu0, SeqAt.RcAt.list_str a2 t2 l1 hu0⟩
    | list l2 v2 r2 =>
      rename_i a its ws es b its2 ws2 es2
      obtain ⟨n', rfl, od'⟩ := okD_lst od
      obtain ⟨m', rfl, oe'⟩ := okD_lst oe
      have la := v1.length
      have lb := v2.length
      have la' := r1.length
      have lb' := r2.length
      have rc : SeqAt.RcAt A s (.ref a) (.ref b) (eqD (.lst es) (.lst es2)) := by
        simp only [eqD]
        by_cases hl : es.length = es2.length
        · rw [eqDs_all its.toArray.size (by simp only [List.size_toArray]; omega) (by simp only [List.size_toArray]; omega)]
          refine SeqAt.RcAt.lists (A := A) l1 l2 (by simp only [List.size_toArray]; omega) hu0 fun j h1 h2 => ?_
          obtain ⟨x1, q1, q2, q3⟩ := rep_at r1 v1 h1
          obtain ⟨y1, p1, p2, p3⟩ := rep_at r2 v2 h2
          exact (ih n' (Nat.lt_succ_self _) m' q2 p2 (all_getD od' q3) (all_getD oe' p3) q1 p1 (by show A.units + 1 + n' < cLine; omega)).1
        · rw [eqDs_len hl]
          exact SeqAt.RcAt.lists_lengths (A := A) l1 l2 (by simp only [List.size_toArray, bne_iff_ne, ne_eq]; omega) hu0
      refine ⟨?_, rc⟩
      by_cases hab : a = b
      · subst hab
        have exy : x = y := RelV.inj ru rv
        subst exy
        have e2 := rep_inj I _ _ rd re od oe
        cases e2
        rw [eqD_refl _ od]
        exact SeqAt.EqAt.same _
      · exact SeqAt.EqAt.of_refs hab rc
    | tuple l2 v2 r2 =>
      simp only [eqD]; exact ⟨SeqAt.EqAt.list_tuple l1 l2 hu0, SeqAt.RcAt.list_tuple l1 l2 hu0⟩
  | tuple l1 v1 r1 =>
    cases s2 with
    | none =>
      simp only [eqD]; exact ⟨SeqAt.EqAt.tuple_none l1 hu0, SeqAt.RcAt.tuple_none l1 hu0⟩
    | bool a2 =>
      simp only [eqD]; exact ⟨SeqAt.EqAt.tuple_bool a2 l1 hu0, SeqAt.RcAt.tuple_bool a2 l1 hu0⟩
    | int a2 t2 =>
      simp only [eqD]; exact ⟨SeqAt.EqAt.tuple_int a2 t2 l1 hu0, SeqAt.RcAt.tuple_int a2 t2 l1 hu0⟩
    | str a2 t2 =>
      simp only [eqD]; exact ⟨SeqAt.EqAt.tuple_str a2 t2 l1 hu0, SeqAt.RcAt.tuple_str a2 t2 l1 hu0⟩
    | list l2 v2 r2 =>
      simp only [eqD]; exact ⟨SeqAt.EqAt.tuple_list l1 l2 hu0, SeqAt.RcAt.tuple_list l1 l2 hu0⟩
    | tuple l2 v2 r2 =>
      rename_i a its ws es b its2 ws2 es2
      obtain ⟨n', rfl, od'⟩ := okD_tup od
      obtain ⟨m', rfl, oe'⟩ := okD_tup oe
      have la := v1.length
      have lb := v2.length
      have la' := r1.length
      have lb' := r2.length
      have rc : SeqAt.RcAt A s (.ref a) (.ref b) (eqD (.tup es) (.tup es2)) := by
        have z := SeqAt.RcAt.tuples (A := A) (e := fun j => eqD (es.getD j .non) (es2.getD j .non)) l1 l2 hu0 fun j h1 h2 => by
          obtain ⟨x1, q1, q2, q3⟩ := rep_at r1 v1 h1
          obtain ⟨y1, p1, p2, p3⟩ := rep_at r2 v2 h2
          exact (ih n' (Nat.lt_succ_self _) m' q2 p2 (all_getD od' q3) (all_getD oe' p3) q1 p1 (by show A.units + 1 + n' < cLine; omega)).1
        simp only [eqD]
        by_cases hl : es.length = es2.length
        · rw [eqDs_all its.toArray.size (by simp only [List.size_toArray]; omega) (by simp only [List.size_toArray]; omega)]
          have e1 : its2.toArray.size = its.toArray.size := by simp only [List.size_toArray]; omega
          rw [e1, Nat.min_self, beq_self_eq_true, Bool.and_true] at z
          exact z
        · rw [eqDs_len hl]
          have e1 : (its.toArray.size == its2.toArray.size) = false := by rw [beq_eq_false_iff_ne]; simp only [List.size_toArray]; omega
          rw [e1, Bool.and_false] at z
          exact z
      refine ⟨?_, rc⟩
      by_cases hab : a = b
      · subst hab
        have exy : x = y := RelV.inj ru rv
        subst exy
        have e2 := rep_inj I _ _ rd re od oe
        cases e2
        rw [eqD_refl _ od]
        exact SeqAt.EqAt.same _
      · exact SeqAt.EqAt.of_refs hab rc
end
end L2
set_option Elab.async false
set_option linter.all false
set_option maxRecDepth 100000
set_option maxHeartbeats 4000000
namespace L2
open PySem PySem.Spec PyProof.Rows
mutual
theorem eqD_key : ∀ k j : TK, eqD k.d j.d = decide (k = j)
  | .inl a, .inl b => by simp only [TK.d, eqD]; rw [Bool.eq_iff_iff]; simp
  | .inr a, .inr b => by simp only [TK.d, eqD]; rw [Bool.eq_iff_iff]; simp
  | .tp l, .tp m => by simp only [TK.d, eqD]; rw [eqD_keys l m, Bool.eq_iff_iff]; simp
  | .inl _, .inr _ => by simp [TK.d, eqD]
  | .inl _, .tp _ => by simp [TK.d, eqD]
  | .inr _, .inl _ => by simp [TK.d, eqD]
  | .inr _, .tp _ => by simp [TK.d, eqD]
  | .tp _, .inl _ => by simp [TK.d, eqD]
  | .tp _, .inr _ => by simp [TK.d, eqD]
theorem eqD_keys : ∀ l m : List TK, eqDs (TK.dl l) (TK.dl m) = decide (l = m)
  | [], [] => by simp [TK.dl, eqDs]
  | a :: l, b :: m => by simp only [TK.dl, eqDs]; rw [eqD_key a b, eqD_keys l m, Bool.eq_iff_iff]; simp
  | [], _ :: _ => by simp [TK.dl, eqDs]
  | _ :: _, [] => by simp [TK.dl, eqDs]
end
theorem dl_map : ∀ l : List TK, TK.dl l = l.map TK.d
  | [] => by simp [TK.dl]
  | a :: l => by simp [TK.dl, dl_map l]
theorem okD_key : ∀ (n : Nat) {k : TK}, k.ok n = true → okD n k.d = true
  | n, .inl i, _ => by cases n <;> simp [TK.d, okD]
  | n, .inr i, _ => by cases n <;> simp [TK.d, okD]
  | 0, .tp l, h => by simp [TK.ok] at h
  | n + 1, .tp l, h => by
    simp only [TK.d, okD, dl_map, List.all_map]
    refine List.all_eq_true.mpr fun a m => ?_
    exact okD_key n (List.all_eq_true.mp (by simpa only [TK.ok] using h) a m)
theorem wp_either {α : Type} {M : Model} {A : Around} {E : Value → Shared → Prop} {s : Shared} {c : Prop} [Decidable c] {a b : Sem α} {Q : α → Shared → Prop} (h1 : wpAny M A a Q E s) (h2 : wpAny M A b Q E s) : wpAny M A (if c then a else b) Q E s := by
  split
  · exact h1
  · exact h2
theorem hashL_append (w : World) : ∀ l m : List TK, TK.hashL w (l ++ m) = TK.hashL w l ++ TK.hashL w m
  | [], m => by simp [TK.hashL]
  | a :: l, m => by simp [TK.hashL, hashL_append w l m]
theorem paired_at {α β : Type} {R : α → β → Prop} : ∀ {l : List α} {m : List β} (i : Nat) {b : β}, Paired R l m → m[i]? = some b → ∃ a, l[i]? = some a ∧ R a b
  | _, _, _, _, .nil, e => by simp at e
  | _, _, 0, _, .cons r _, e => by simp at e; subst e; exact ⟨_, rfl, r⟩
  | _, _, i + 1, _, .cons _ t, e => by
    obtain ⟨a, h1, h2⟩ := paired_at i t (by simpa using e)
    exact ⟨a, by simpa using h1, h2⟩
theorem paired_of {α β : Type} {R : α → β → Prop} : ∀ {l : List α} {m : List β} (i : Nat) {a : α}, Paired R l m → l[i]? = some a → ∃ b, m[i]? = some b ∧ R a b
  | _, _, _, _, .nil, e => by simp at e
  | _, _, 0, _, .cons r _, e => by simp at e; subst e; exact ⟨_, rfl, r⟩
  | _, _, i + 1, _, .cons _ t, e => by
    obtain ⟨a, h1, h2⟩ := paired_of i t (by simpa using e)
    exact ⟨a, by simpa using h1, h2⟩
section
variable {X : Cx} {pins : List (Addr × Obj)} {σ : St} {H : Hp}
theorem hash_ki {A : Around} {E : Value → Shared → Prop} {s : Shared} {y : V} {u : Value} {i : Int} {Q : Int → Shared → Prop} (r : RepL X.K H [y] [TK.d (.inl i)]) (ru : RelV y u) (h : ∀ t, Q (TK.hash X.w (.inl i)) { s with toks := t }) : wpAny (model X.prog X.w) A (pyHash u) Q E s := by
  simp only [TK.d] at r
  cases r with
  | flat q _ => cases q; obtain ⟨t, rfl⟩ := ru; exact wpAny_pyHash_int (by simpa only [TK.hash] using h _)
theorem hash_ks {A : Around} {E : Value → Shared → Prop} {s : Shared} {y : V} {u : Value} {i : Str} {Q : Int → Shared → Prop} (r : RepL X.K H [y] [TK.d (.inr i)]) (ru : RelV y u) (h : ∀ t, Q (TK.hash X.w (.inr i)) { s with toks := t }) : wpAny (model X.prog X.w) A (pyHash u) Q E s := by
  simp only [TK.d] at r
  cases r with
  | flat q _ => cases q; obtain ⟨t, rfl⟩ := ru; exact wpAny_pyHash_str (by simpa only [TK.hash] using h _)
theorem hash_key : ∀ (n : Nat) {A : Around} {E : Value → Shared → Prop} {s : Shared} {y : V} {u : Value} {k : TK} {Q : Int → Shared → Prop}, Inv X pins σ H s → RepL X.K H [y] [k.d] → k.ok n = true → RelV y u → A.units + n < cLine →
    (∀ t, Q (k.hash X.w) { s with toks := t }) → wpAny (model X.prog X.w) A (pyHash u) Q E s := by
  intro n
  induction n with
  | zero =>
    intro A E s y u k Q I r ok ru hu h
    cases k with
    | tp l => simp [TK.ok] at ok
    | inl i => exact hash_ki r ru h
    | inr x => exact hash_ks r ru h
  | succ n ih =>
    intro A E s y u k Q I r ok ru hu h
    cases k with
    | inl i => exact hash_ki r ru h
    | inr x => exact hash_ks r ru h
    | tp l =>
      simp only [TK.d] at r
      cases r with
      | flat q _ => cases q
      | @tup a ws _ _ _ q i _ =>
        cases ru
        obtain ⟨its, rv, pl, _⟩ := I.tuple q
        have hT : s.TypeIs (.ref a) "tuple" := pl.typeIs
        obtain ⟨o, g1, g2, nn, g3⟩ := pl
        have ok : l.all (TK.ok n) = true := by simpa only [TK.ok] using ok
        show wpAny _ _ (pyHashByItsType (.ref a)) Q E s
        unfold pyHashByItsType
        refine wpAny_bind (wpAny_cRoomFor_or (.inr (by omega)) (wpAny_bind (wpAny_specialOf hT F.slot_tuple_hash.lookup ?_)))
        dsimp only
        rw [if_neg (by rw [beq_builtin_none]; exact Bool.false_ne_true)]
        refine wpAny_bind (wpAny_specialOf hT F.slot_tuple_hash.lookup (wpAny_bind ?_))
        refine wpAny_callSpecialIfBoundUnlessNone?_slot hT F.slot_tuple_hash (wpAny_call_entry F.slot_tuple_hash hT F.entry_tuple_hash ?_ (F.args_tuple_hash_1 _))
        show wpAny _ _ (Builtin.Tuple.tupleItemsOf (.ref a) >>= fun z => _) _ _ s
        refine wpAny_bind (wpAny_tupleItemsOf g1 g3 (wpAny_bind ?_))
        rw [← Array.forIn_toList]
        refine wpAny_forIn_list _ (fun rest (b : Array Int) s' => ∃ done left wl t, l = done ++ left ∧ RepL X.K H wl (TK.dl left) ∧ Vals wl rest ∧ b.toList = TK.hashL X.w done ∧ s' = { s with toks := t }) _ ?_ ?_ _ _ ⟨[], l, ws, s.toks, rfl, i, rv, by simp [TK.hashL], rfl⟩
        · rintro x rest b s' ⟨done, left, wl, t, e, r', v', hb, rfl⟩
          cases v' with
          | @cons w1 _ wl _ rw1 v' =>
            cases left with
            | nil => have := r'.length; simp [TK.dl] at this
            | cons k1 left =>
              simp only [TK.dl] at r'
              have ok1 : k1.ok n = true := List.all_eq_true.mp ok k1 (by rw [e]; simp)
              have fin : ∀ t', ∃ done' left' wl' t'', l = done' ++ left' ∧ RepL X.K H wl' (TK.dl left') ∧ Vals wl' rest ∧ (b.push (k1.hash X.w)).toList = TK.hashL X.w done' ∧ ({ s with toks := t' } : Shared) = { s with toks := t'' } :=
                fun t' => ⟨done ++ [k1], left, wl, t', by simp [e], r'.inv.2, v', by rw [hashL_append, ← hb]; simp [TK.hashL], rfl⟩
              exact wpAny_bind (ih (I.tok t) r'.inv.1 ok1 rw1 (by show A.units + 1 + n < cLine; omega) fun t' => by
                first
                  | exact wpAny_pure (fin t')
                  | exact wpAny_bind (wpAny_pure (wpAny_pure (fin t'))))
        · rintro b s' ⟨done, left, wl, t, e, r', v', hb, rfl⟩
          cases v'
          have hl : left = [] := by
            cases left with
            | nil => rfl
            | cons _ _ => have := r'.length; simp [TK.dl] at this
          subst hl
          rw [List.append_nil] at e
          subst e
          show wpAny _ _ (retInt (Builtin.Tuple.tupleHashOf b.toList)) _ _ _
          rw [hb]
          refine wpAny_ret_mkInt ?_
          have h' : ∀ t, Q (reduceHash (Builtin.Tuple.tupleHashOf (TK.hashL X.w l))) { s with toks := t } := fun t => by simpa only [TK.hash] using h t
          unfold reduceHash at h'
          show wpAny _ _ (if (decide (-(2 : Int) ^ 63 ≤ Builtin.Tuple.tupleHashOf (TK.hashL X.w l)) && decide (Builtin.Tuple.tupleHashOf (TK.hashL X.w l) < 2 ^ 63)) = true then _ else _) Q E _
          split
          · rename_i hc
            rw [if_pos hc] at h'
            exact wpAny_pure (h' _)
          · rename_i hc
            rw [if_neg hc] at h'
            exact wpAny_bind (wpAny_rule (wpAny_pure (h' _)))
theorem quiet_key : ∀ (n : Nat) {A : Around} {E : Value → Shared → Prop} {s : Shared} {y : V} {u : Value} {k : TK} {Q : Bool → Shared → Prop}, Inv X pins σ H s → RepL X.K H [y] [k.d] → k.ok n = true → RelV y u → Q true s →
    wpAny (model X.prog X.w) A (eqIsQuiet n u) Q E s := by
  intro n
  induction n with
  | zero =>
    intro A E s y u k Q I r ok ru h
    cases k with
    | tp l => simp [TK.ok] at ok
    | inl i => simp only [TK.d] at r; cases r with | flat q _ => cases q; obtain ⟨t, rfl⟩ := ru; rw [eqIsQuiet_byValue 0 rfl]; exact wpAny_pure h
    | inr i => simp only [TK.d] at r; cases r with | flat q _ => cases q; obtain ⟨t, rfl⟩ := ru; rw [eqIsQuiet_byValue 0 rfl]; exact wpAny_pure h
  | succ n ih =>
    intro A E s y u k Q I r ok ru h
    cases k with
    | inl i => simp only [TK.d] at r; cases r with | flat q _ => cases q; obtain ⟨t, rfl⟩ := ru; rw [eqIsQuiet_byValue (n + 1) rfl]; exact wpAny_pure h
    | inr i => simp only [TK.d] at r; cases r with | flat q _ => cases q; obtain ⟨t, rfl⟩ := ru; rw [eqIsQuiet_byValue (n + 1) rfl]; exact wpAny_pure h
    | tp l =>
      simp only [TK.d] at r
      cases r with
      | flat q _ => cases q
      | @tup a ws _ _ _ q i _ =>
        cases ru
        obtain ⟨its, rv, pl, _⟩ := I.tuple q
        have hT : s.TypeIs (.ref a) "tuple" := pl.typeIs
        obtain ⟨o, g1, g2, nn, g3⟩ := pl
        have ok : l.all (TK.ok n) = true := by simpa only [TK.ok] using ok
        unfold eqIsQuiet
        refine wpAny_bind (wpAny_specialOf hT F.slot_tuple_eq.lookup (wpAny_bind (wpAny_isInstance hT isSubtype_tuple_tuple ?_)))
        simp only [Bool.not_true, Bool.false_eq_true, if_false]
        refine wpAny_bind (wpAny_seqItems g1 g3 (wpAny_bind ?_))
        show wpAny _ _ (forIn its.toArray _ _) _ _ s
        rw [← Array.forIn_toList]
        refine wpAny_forIn_list _ (fun rest r s' => r.1 = none ∧ s' = s ∧ ∃ left wl, RepL X.K H wl (TK.dl left) ∧ Vals wl rest ∧ ∀ x ∈ left, x.ok n = true) _ ?_ ?_ _ _ ⟨rfl, rfl, l, ws, i, rv, fun x m => List.all_eq_true.mp ok x m⟩
        · rintro v rest r s' ⟨hr, rfl, left, wl, r', v', hk⟩
          cases v' with
          | @cons w1 _ wl _ rw1 v' =>
            cases left with
            | nil => have := r'.length; simp [TK.dl] at this
            | cons k1 left =>
              simp only [TK.dl] at r'
              refine wpAny_bind (ih I r'.inv.1 (hk k1 (by simp)) rw1 ?_)
              simp only [Bool.not_true, Bool.false_eq_true, if_false]
              exact wpAny_pure ⟨rfl, rfl, left, wl, r'.inv.2, v', fun x m => hk x (by simp [m])⟩
        · rintro ⟨r1, r2⟩ s' ⟨hr, rfl, _⟩
          cases (show r1 = none from hr)
          exact wpAny_pure h
structure DAt (X : Cx) (A : Around) (E : Value → Shared → Prop) (s : Shared) (xs : Array DictEntry) (es : List (TK × V × V)) (k : TK) (u : Value) : Prop where
  ent : ∀ (j : Nat) (x : DictEntry), xs[j]? = some x → ∃ e, es[j]? = some e ∧ EntG X.w e x ∧ (∀ (R : Bool → Shared → Prop), R (decide (e.1 = k)) s → wpAny (model X.prog X.w) A (eqBool x.key u) R E s) ∧
    ∀ (R : Bool → Shared → Prop), R true s → wpAny (model X.prog X.w) A (eqIsQuiet 8 x.key) R E s
  ents : ∀ (j : Nat) (e : TK × V × V), es[j]? = some e → ∃ x : DictEntry, xs[j]? = some x ∧ EntG X.w e x
  uniq : ∀ (i j : Nat) (e f : TK × V × V), es[i]? = some e → es[j]? = some f → e.1 = k → f.1 = k → i = j
theorem dat_of {A : Around} {E : Value → Shared → Prop} {s : Shared} {xs : Array DictEntry} {es : List (TK × V × V)} {k : TK} {y : V} {u : Value} (I : Inv X pins σ H s) (g3 : Paired (EntG X.w) es xs.toList) (g4 : (es.map (·.1)).Nodup)
    (rk : RepL X.K H (es.map (·.2.1)) (es.map (·.1.d))) (ry : RepL X.K H [y] [k.d]) (ok : k.ok 8 = true) (ru : RelV y u) (hu : A.units + 8 < cLine) : DAt X A E s xs es k u where
  ent := fun j x hx => by
    obtain ⟨e, e1, e2⟩ := paired_at j g3 (by rw [Array.getElem?_toList]; exact hx)
    obtain ⟨v, v1, v2⟩ := rk.get (i := j) (d := e.1.d) (by rw [List.getElem?_map, e1]; rfl)
    rw [List.getElem?_map, e1] at v1
    cases v1
    refine ⟨e, e1, e2, fun R hR => ?_, fun R hR => quiet_key 8 I v2 e2.2.2.2 e2.2.1 hR⟩
    refine (eq_rep I 8 8 v2 ry (okD_key 8 e2.2.2.2) (okD_key 8 ok) e2.2.1 ru hu).1 X.prog X.w E R ?_
    rw [eqD_key]
    exact hR
  ents := fun j e he => by
    obtain ⟨x, x1, x2⟩ := paired_of j g3 he
    exact ⟨x, by rw [← Array.getElem?_toList]; exact x1, x2⟩
  uniq := fun i j e f he hf ek fk => by
    have hi : (es.map (·.1))[i]? = some k := by rw [List.getElem?_map, he, ← ek]; rfl
    have hj : (es.map (·.1))[j]? = some k := by rw [List.getElem?_map, hf, ← fk]; rfl
    exact (List.getElem?_inj (List.getElem?_eq_some_iff.mp hi).1 g4).mp (hi.trans hj.symm)
section
variable {A : Around} {E : Value → Shared → Prop} {s : Shared} {d : Addr} {o : Obj} {xs : Array DictEntry} {ep : Nat} {es : List (TK × V × V)} {k : TK} {u : Value} {Q : Option Nat → Shared → Prop}
abbrev plc (xs : Array DictEntry) (h : Int) : List Nat := placesWithHash xs.size (fun i => xs[i]?.map (·.hash)) h
theorem plc_mem {h : Int} {i : Nat} : i ∈ plc xs h ↔ ∃ x, xs[i]? = some x ∧ x.hash = h := by
  unfold plc placesWithHash
  rw [List.mem_filter, List.mem_range]
  constructor
  · rintro ⟨h1, h2⟩
    refine ⟨xs[i], Array.getElem?_eq_getElem h1, ?_⟩
    dsimp only at h2
    rw [Array.getElem?_eq_getElem h1] at h2
    simpa using h2
  · rintro ⟨x, h1, h2⟩
    refine ⟨(Array.getElem?_eq_some_iff.mp h1).1, ?_⟩
    dsimp only
    rw [h1, Option.map_some, h2]
    simp
theorem plc_nodup {h : Int} : (plc xs h).Nodup := List.Nodup.sublist List.filter_sublist List.nodup_range
theorem DAt.plc (D : DAt X A E s xs es k u) {j : Nat} {e : TK × V × V} (he : es[j]? = some e) (ek : e.1 = k) : j ∈ plc xs (k.hash X.w) := by
  obtain ⟨x, x1, x2⟩ := D.ents j e he
  exact plc_mem.mpr ⟨x, x1, by rw [x2.1, ek]⟩
theorem find_walk (D : DAt X A E s xs es k u) (g1 : s.heap.get? d = some o) (g2 : o.data = .dict xs ep)
    (q0 : (∀ (j : Nat) (e : TK × V × V), es[j]? = some e → e.1 ≠ k) → Q none s) (q1 : ∀ (j : Nat) (e : TK × V × V), es[j]? = some e → e.1 = k → Q (some j) s) :
    wpAny (model X.prog X.w) A (dictWalkPlain d u (k.hash X.w) xs (plc xs (k.hash X.w))) Q E s := by
  unfold dictWalkPlain
  refine wpAny_bind (wpAny_forIn_list _ (fun rest b s' => s' = s ∧ b = (none, ()) ∧ ∃ done, plc xs (k.hash X.w) = done ++ rest ∧ ∀ j e, j ∈ done → es[j]? = some e → e.1 ≠ k) _ ?_ ?_ _ _ ⟨rfl, rfl, [], rfl, fun _ _ m => by cases m⟩)
  · rintro i rest b s' ⟨rfl, rfl, done, hd, hno⟩
    obtain ⟨x, x1, x2⟩ := plc_mem.mp (show i ∈ plc xs (k.hash X.w) by rw [hd]; simp)
    obtain ⟨e, e1, e2, eq, _⟩ := D.ent i x x1
    simp only [x1]
    rw [if_pos (by rw [x2]; simp)]
    refine wpAny_bind (wpAny_dictEpoch g1 g2 (wpAny_bind (eq _ (wpAny_bind (wpAny_dictEpoch g1 g2 ?_)))))
    rw [if_neg (by simp)]
    by_cases ek : e.1 = k
    · rw [decide_eq_true ek]
      exact wpAny_bind (wpAny_rule (wpAny_pure (wpAny_pure (q1 i e e1 ek))))
    · rw [decide_eq_false ek]
      refine wpAny_bind (wpAny_rule (wpAny_pure ⟨rfl, rfl, done ++ [i], by simp [hd], fun j f m hf => ?_⟩))
      rcases List.mem_append.mp m with m | m
      · exact hno j f m hf
      · simp at m
        subst m
        rw [e1] at hf
        cases hf
        exact ek
  · rintro b s' ⟨rfl, rfl, done, hd, hno⟩
    refine wpAny_pure (q0 fun j e he ek => hno j e ?_ he ek)
    have := D.plc he ek
    rw [hd] at this
    simpa using this
def idv (u : Value) : Value := u
theorem find_key (D : DAt X A E s xs es k u) (g1 : s.heap.get? d = some o) (g2 : o.data = .dict xs ep) (hq : ∀ (R : Bool → Shared → Prop), R true s → wpAny (model X.prog X.w) A (eqIsQuiet 8 u) R E s)
    (hs : ∀ z t, u = .str z t → k = .inr z) (hst : ∀ (j : Nat) (x : DictEntry) (e : TK × V × V) z t, xs[j]? = some x → es[j]? = some e → x.key = .str z t → e.1 = .inr z) (hh : ∀ a (j : Nat) (x : DictEntry) (e : TK × V × V), u = .ref a → xs[j]? = some x → es[j]? = some e → x.key = u → e.1 = k)
    (q0 : (∀ (j : Nat) (e : TK × V × V), es[j]? = some e → e.1 ≠ k) → Q none s) (q1 : ∀ (j : Nat) (e : TK × V × V), es[j]? = some e → e.1 = k → Q (some j) s) :
    wpAny (model X.prog X.w) A (dictFind d u (k.hash X.w)) Q E s := by
  have walk := find_walk D g1 g2 q0 q1
  have stored : ∀ v ∈ (plc xs (k.hash X.w)).filterMap (fun i => xs[i]?.map (·.key)), ∀ (R : Bool → Shared → Prop), R true s → wpAny (model X.prog X.w) A (eqIsQuiet 8 v) R E s := by
    intro v hv R hR
    obtain ⟨i, _, hi⟩ := List.mem_filterMap.mp hv
    cases hx : xs[i]? with
    | none => rw [hx] at hi; cases hi
    | some x =>
      rw [hx] at hi
      obtain rfl : x.key = v := by simpa using hi
      obtain ⟨e, _, _, _, h⟩ := D.ent i x hx
      exact h R hR
  have tell : ∀ (R : Bool → Shared → Prop), R false s → wpAny (model X.prog X.w) A (tableMayTell u ((plc xs (k.hash X.w)).filterMap fun i => xs[i]?.map (·.key))) R E s := by
    intro R hR
    unfold tableMayTell
    split
    · exact wpAny_pure hR
    · refine wpAny_bind (hq _ ?_)
      simp only [Bool.not_true, Bool.false_eq_true, if_false]
      refine wpAny_bind (wpAny_forIn_list _ (fun rest r s' => s' = s ∧ r = (none, ()) ∧ ∀ v ∈ rest, ∀ (R : Bool → Shared → Prop), R true s → wpAny (model X.prog X.w) A (eqIsQuiet 8 v) R E s) _ ?_ ?_ _ _ ⟨rfl, rfl, stored⟩)
      · rintro x rest r s' ⟨rfl, rfl, hr⟩
        refine wpAny_bind (hr x (by simp) _ ?_)
        simp only [Bool.not_true, Bool.false_eq_true, if_false]
        exact wpAny_pure ⟨rfl, rfl, fun v hv => hr v (by simp [hv])⟩
      · rintro r s' ⟨rfl, rfl, _⟩
        exact wpAny_pure hR
  have tell2 : ∀ (R : Bool → Shared → Prop), R false s → wpAny (model X.prog X.w) A (if ((plc xs (k.hash X.w)).filterMap (fun i => xs[i]?.map (·.key)) == [u]) = true then pure false else tableMayTell u ((plc xs (k.hash X.w)).filterMap fun i => xs[i]?.map (·.key))) R E s := by
    intro R hR
    split
    · exact wpAny_pure hR
    · exact tell R hR
  have fin : ∀ (i : Nat) (x : DictEntry) (e : TK × V × V), xs[i]? = some x → es[i]? = some e → EntG X.w e x → (x.hash == k.hash X.w) = false → e.1 ≠ k := fun i x e _ _ he hf ek => by
    rw [he.1, ek] at hf
    simp at hf
  unfold dictFind
  (try with_reducible refine wpAny_holding ?_); refine wpAny_bind (wpAny_dictEntries g1 g2 ?_)
  dsimp only
  by_cases hall : ((u :: (plc xs (k.hash X.w)).filterMap fun i => xs[i]?.map (·.key)).all carriedByValue) = true
  · rw [if_pos hall]
    split
    next z t =>
      split
      next hstr =>
        unfold foundByValue
        cases hf : xs.findIdx? (fun e => e.key.isStr z) with
        | none =>
          refine wpAny_pure (q0 fun j e he ek => ?_)
          obtain ⟨x, x1, x2⟩ := D.ents j e he
          have n1 := Array.findIdx?_eq_none_iff.mp hf x (Array.mem_of_getElem? x1)
          have e2 := x2.2.1
          have n2 : isExactStrKey x.key = true := by
            have h := Array.all_eq_true.mp hstr j (Array.getElem?_eq_some_iff.mp x1).1
            rw [(Array.getElem?_eq_some_iff.mp x1).2] at h
            exact h
          cases hk : x.key with
          | str z2 t2 =>
            have e3 := hst j x e z2 t2 x1 he hk
            rw [ek, hs z t rfl] at e3
            cases e3
            rw [hk] at n1
            simp [Value.isStr] at n1
          | _ => rw [hk] at n2; cases n2
        | some i =>
          obtain ⟨hlt, hi, _⟩ := Array.findIdx?_eq_some_iff_getElem.mp hf
          obtain ⟨e, e1, e2, eq, _⟩ := D.ent i xs[i] (Array.getElem?_eq_getElem hlt)
          have ek : e.1 = k := by
            cases hk : xs[i].key with
            | str z2 t2 =>
              rw [hk] at hi
              have : z2 = z := by simpa [Value.isStr] using hi
              subst this
              rw [hst i _ e z2 t2 (Array.getElem?_eq_getElem hlt) e1 hk, hs z2 t rfl]
            | _ => rw [hk] at hi; simp [Value.isStr] at hi
          simp only [Array.getElem?_eq_getElem hlt]
          refine wpAny_bind (wpAny_dictEpoch g1 g2 (wpAny_bind (eq _ (wpAny_bind (wpAny_dictEpoch g1 g2 ?_)))))
          rw [if_neg (by simp), decide_eq_true ek]
          exact wpAny_bind (wpAny_rule (wpAny_pure (q1 i e e1 ek)))
      next => exact walk
    next => exact walk
  · rw [if_neg hall]
    have nostr : ∀ z t, u = .str z t → ¬ (xs.all fun e => isExactStrKey e.key) = true := by
      intro z t hu hx
      refine hall (List.all_eq_true.mpr fun v hv => ?_)
      rcases List.mem_cons.mp hv with rfl | hv
      · rw [hu]; rfl
      · obtain ⟨i, _, hi⟩ := List.mem_filterMap.mp hv
        cases hx1 : xs[i]? with
        | none => rw [hx1] at hi; cases hi
        | some x =>
          rw [hx1] at hi
          obtain rfl : x.key = v := by simpa using hi
          have h := Array.all_eq_true.mp hx i (Array.getElem?_eq_some_iff.mp hx1).1
          rw [(Array.getElem?_eq_some_iff.mp hx1).2] at h
          cases hk : x.key with
          | str _ _ => rfl
          | _ => rw [hk] at h; cases h
    have noany : ∀ a, u = .ref a → ¬ (xs.any fun e => e.key == u && e.hash != k.hash X.w) = true := by
      intro a hu hx
      rw [Array.any_eq_true] at hx
      obtain ⟨i, hi, hc⟩ := hx
      rw [Bool.and_eq_true, beq_iff_eq, bne_iff_ne] at hc
      obtain ⟨e, e1, e2, _⟩ := D.ent i xs[i] (Array.getElem?_eq_getElem hi)
      have := hh a i _ e hu (Array.getElem?_eq_getElem hi) e1 hc.1
      exact hc.2 (by rw [e2.1, this])
    have hid : u = idv u := rfl
    refine (fun (key : ?P) => ?main) ?k
    case main =>
      rw (occs := .pos [1]) [hid]
      split
      · rename_i z t hz
        rw [if_neg (nostr z t hz)]
        rw (occs := .pos [1]) [hid]
        split
        · rename_i a ha
          rw [if_neg (noany a ha)]
          exact key
        · exact key
      · rw (occs := .pos [1]) [hid]
        split
        · rename_i a ha
          rw [if_neg (noany a ha)]
          exact key
        · exact key
    refine (fun (key2 : ?P2) => ?main2) ?k2
    case main2 =>
      refine wp_either ?_ ?_
      · refine wpAny_bind (wpAny_pure ?_)
        exact key2
      · refine wpAny_bind (tell _ ?_)
        exact key2
    all_goals (
      show wpAny _ _ (if (false && _) = true then _ else _) _ _ _
      rw [if_neg (by rw [Bool.false_and]; exact Bool.false_ne_true)]
      refine wpAny_bind (wpAny_forIn_list _ (fun rest b s' => s' = s ∧ ∃ hit done, b = (none, hit) ∧ plc xs (k.hash X.w) = done ++ rest ∧ ((hit = none ∧ ∀ (j : Nat) (e : TK × V × V), j ∈ done → es[j]? = some e → e.1 ≠ k) ∨ ∃ (j : Nat) (e : TK × V × V), hit = some j ∧ j ∈ done ∧ es[j]? = some e ∧ e.1 = k)) _ ?_ ?_ _ _
        ⟨rfl, none, [], rfl, rfl, .inl ⟨rfl, fun _ _ m => by cases m⟩⟩)
      · rintro i rest b s' ⟨rfl, hit, done, rfl, hd, hH⟩
        obtain ⟨x, x1, x2⟩ := plc_mem.mp (show i ∈ plc xs (k.hash X.w) by rw [hd]; simp)
        obtain ⟨e, e1, e2, eq, _⟩ := D.ent i x x1
        have hni : i ∉ done := fun m => by
          have := plc_nodup (xs := xs) (h := k.hash X.w)
          rw [hd] at this
          exact (List.nodup_append.mp this).2.2 i m i (by simp) rfl
        simp only [x1]
        rw [if_pos (by rw [x2]; simp)]
        refine wpAny_bind (wpAny_dictEpoch g1 g2 (wpAny_bind (eq _ (wpAny_bind (wpAny_dictEpoch g1 g2 ?_)))))
        rw [if_neg (by simp)]
        by_cases ek : e.1 = k
        · rw [decide_eq_true ek]
          rcases hH with ⟨rfl, hno⟩ | ⟨j, f, rfl, jd, jf, fk⟩
          · first | rw [if_pos rfl] | skip
            simp only [Option.isSome_none, Bool.false_eq_true, if_false]
            first | refine wpAny_bind (wpAny_pure ?_) | skip
            refine wpAny_bind (wpAny_rule ?_)
            split
            · exact wpAny_pure (wpAny_pure (q1 i e e1 ek))
            · exact wpAny_pure ⟨rfl, some i, done ++ [i], rfl, by simp [hd], .inr ⟨i, e, rfl, by simp, e1, ek⟩⟩
          · exact absurd (D.uniq i j e f e1 jf ek fk) fun z => hni (by rw [z]; exact jd)
        · rw [decide_eq_false ek]
          have nx : (hit = none ∧ ∀ (j : Nat) (e : TK × V × V), j ∈ done ++ [i] → es[j]? = some e → e.1 ≠ k) ∨ ∃ (j : Nat) (e : TK × V × V), hit = some j ∧ j ∈ done ++ [i] ∧ es[j]? = some e ∧ e.1 = k := by
            rcases hH with ⟨h0, hno⟩ | ⟨j, f, h0, jd, jf, fk⟩
            · refine .inl ⟨h0, fun j f m hf => ?_⟩
              rcases List.mem_append.mp m with m | m
              · exact hno j f m hf
              · simp at m
                subst m
                rw [e1] at hf
                cases hf
                exact ek
            · exact .inr ⟨j, f, h0, by simp [jd], jf, fk⟩
          simp only [Bool.false_eq_true, if_false]
          refine wpAny_bind (wpAny_rule ?_)
          first | rw [if_neg (by simp)] | skip
          first
            | exact wpAny_pure ⟨rfl, hit, done ++ [i], rfl, by simp [hd], nx⟩
            | exact wpAny_bind (wpAny_pure (wpAny_pure ⟨rfl, hit, done ++ [i], rfl, by simp [hd], nx⟩))
      · rintro b s' ⟨rfl, hit, done, rfl, hd, hH⟩
        rcases hH with ⟨rfl, hno⟩ | ⟨j, f, rfl, jd, jf, fk⟩
        · refine wpAny_pure (q0 fun j e he ek => hno j e ?_ he ek)
          have := D.plc he ek
          rw [hd] at this
          simpa using this
        · exact wpAny_pure (q1 j f jf fk))
end
end
end L2
set_option Elab.async false
set_option linter.all false
set_option maxRecDepth 100000
set_option maxHeartbeats 4000000
namespace L2
open PySem PySem.Spec PyProof.Rows
def valX (es : List (TK × V × V)) (k : TK) : Option V := (es.find? fun e => decide (e.1 = k)).map (·.2.2)
def putX : List (TK × V × V) → TK → V → V → List (TK × V × V)
  | [], k, y, v => [(k, y, v)]
  | e :: es, k, y, v => if e.1 = k then (e.1, e.2.1, v) :: es else e :: putX es k y v
def putE (es : List (TK × V × V)) (k : TK) (ep : Nat) : Nat := if (es.any fun e => decide (e.1 = k)) = true then ep else ep + 1
def XGet (K : PySem.W.Frag) (H : Hp) (a : Addr) (y : V) (r : Option V) : Prop := ∃ es ep k, H a = some (.dG es ep) ∧ RepL K H (es.map (·.2.1)) (es.map (·.1.d)) ∧ RepL K H [y] [k.d] ∧ k.ok 8 = true ∧ r = valX es k
def XPut (K : PySem.W.Frag) (H : Hp) (a : Addr) (y v : V) (H' : Hp) : Prop := ∃ es ep k, H a = some (.dG es ep) ∧ RepL K H (es.map (·.2.1)) (es.map (·.1.d)) ∧ RepL K H [y] [k.d] ∧ k.ok 8 = true ∧ es.length < sizeLine ∧ H' = upd H a (.dG (putX es k y v) (putE es k ep))
theorem key_inj {k j : TK} (e : k.d = j.d) (h : k.ok 8 = true) : k = j := by
  have h1 := eqD_key k j
  rw [← e, eqD_refl 8 (okD_key 8 h)] at h1
  exact of_decide_eq_true h1.symm
section
variable {X : Cx} {pins : List (Addr × Obj)} {σ : St} {H : Hp}
theorem key_str {y : V} {z : Str} {t : Tok} {k : TK} (r : RepL X.K H [y] [k.d]) (ru : RelV y (.str z t)) : k = .inr z := by
  cases k with
  | inl i => simp only [TK.d] at r; cases r with | flat q _ => cases q; obtain ⟨t, e⟩ := ru; cases e
  | inr i => simp only [TK.d] at r; cases r with | flat q _ => cases q; obtain ⟨t, e⟩ := ru; cases e; rfl
  | tp l => simp only [TK.d] at r; cases r with | flat q _ => cases q | tup q _ _ => cases ru
theorem rel_ref {y : V} {a : Addr} (ru : RelV y (.ref a)) : y = .ref a := by
  cases y with
  | ref b => cases ru; rfl
  | non => cases ru
  | bl _ => cases ru
  | ty _ => cases ru
  | _ => obtain ⟨t, e⟩ := ru; cases e
section
variable {A : Around} {E : Value → Shared → Prop} {s : Shared} {d : Addr} {es : List (TK × V × V)} {k : TK} {y v : V} {u r : Value}
theorem find_x {o : Obj} {xs : Array DictEntry} {ep : Nat} {Q : Option Nat → Shared → Prop} (I : Inv X pins σ H s) (g1 : s.heap.get? d = some o) (g2 : o.data = .dict xs ep) (g3 : Paired (EntG X.w) es xs.toList) (g4 : (es.map (·.1)).Nodup)
    (rk : RepL X.K H (es.map (·.2.1)) (es.map (·.1.d))) (ry : RepL X.K H [y] [k.d]) (ok : k.ok 8 = true) (ru : RelV y u) (hu : A.units + 8 < cLine)
    (q0 : (∀ (j : Nat) (e : TK × V × V), es[j]? = some e → e.1 ≠ k) → Q none s) (q1 : ∀ (j : Nat) (e : TK × V × V), es[j]? = some e → e.1 = k → Q (some j) s) : wpAny (model X.prog X.w) A (dictFind d u (k.hash X.w)) Q E s := by
  have at' : ∀ (j : Nat) (x : DictEntry) (e : TK × V × V), xs[j]? = some x → es[j]? = some e → EntG X.w e x ∧ RepL X.K H [e.2.1] [e.1.d] := by
    intro j x e hx he
    obtain ⟨e', e1, e2⟩ := paired_at j g3 (by rw [Array.getElem?_toList]; exact hx)
    rw [he] at e1
    cases e1
    obtain ⟨v, v1, v2⟩ := rk.get (i := j) (d := e.1.d) (by rw [List.getElem?_map, he]; rfl)
    rw [List.getElem?_map, he] at v1
    cases v1
    exact ⟨e2, v2⟩
  refine find_key (dat_of I g3 g4 rk ry ok ru hu) g1 g2 (fun R hR => quiet_key 8 I ry ok ru hR) (fun z t e => key_str ry (by rw [← e]; exact ru)) (fun j x e z t hx he hk => ?_) (fun a j x e hu' hx he hk => ?_) q0 q1
  · obtain ⟨g, r'⟩ := at' j x e hx he
    exact key_str r' (by rw [← hk]; exact g.2.1)
  · obtain ⟨g, r'⟩ := at' j x e hx he
    have h1 := g.2.1
    rw [hk, hu'] at h1
    rw [hu'] at ru
    rw [rel_ref h1] at r'
    rw [rel_ref ru] at ry
    exact key_inj (rep_inj I 8 8 r' ry (okD_key 8 g.2.2.2) (okD_key 8 ok)) g.2.2.2
theorem valX_none (h : ∀ (j : Nat) (e : TK × V × V), es[j]? = some e → e.1 ≠ k) : valX es k = none := by
  unfold valX
  rw [List.find?_eq_none.mpr fun e m z => ?_, Option.map_none]
  obtain ⟨j, hj⟩ := List.mem_iff_getElem?.mp m
  exact h j e hj (of_decide_eq_true z)
theorem valX_some (hn : (es.map (·.1)).Nodup) {j : Nat} {e : TK × V × V} (he : es[j]? = some e) (ek : e.1 = k) : valX es k = some e.2.2 := by
  induction es generalizing j with
  | nil => simp at he
  | cons x es ih =>
    rw [List.map_cons, List.nodup_cons] at hn
    unfold valX
    rw [List.find?_cons]
    cases j with
    | zero =>
      simp only [List.getElem?_cons_zero, Option.some.injEq] at he
      subst he
      rw [decide_eq_true ek]
      rfl
    | succ j =>
      simp only [List.getElem?_cons_succ] at he
      have ne : ¬ x.1 = k := fun z => hn.1 (by rw [z, ← ek]; exact List.mem_map.mpr ⟨e, List.mem_of_getElem? he, rfl⟩)
      rw [decide_eq_false ne]
      exact ih hn.2 he
theorem x_dictGet {o : Option V} {Q : Option Value → Shared → Prop} (hu : A.units + 8 < cLine) (I : Inv X pins σ H s) (g : XGet X.K H d y o) (ru : RelV y u) (h : ∀ w t, RelO o w → Q w { s with toks := t }) :
    wpAny (model X.prog X.w) A (dictGet d u) Q E s := by
  obtain ⟨es, ep, k, hd, rk, ry, ok, rfl⟩ := g
  obtain ⟨_, _, ob, xs, g1, _, g2, g3, g4⟩ := (show ObjOk X.prog X.w H s.heap d (.dG es ep) from I.hok d _ hd)
  unfold dictGet
  (try with_reducible refine wpAny_holding ?_); refine wpAny_bind (hash_key 8 I ry ok ru hu fun t => wpAny_bind (find_x (I.tok t) g1 g2 g3 g4 rk ry ok ru hu (fun q0 => ?_) (fun j e he ek => ?_)))
  · exact wpAny_pure (h none t (by rw [valX_none q0]; exact True.intro))
  · obtain ⟨x, x1, x2⟩ := paired_of j g3 he
    refine wpAny_bind (wpAny_dictEntries (s := { s with toks := t }) g1 g2 (wpAny_pure ?_))
    rw [← Array.getElem?_toList, x1]
    exact h (some x.val) t (by rw [valX_some g4 he ek]; exact x2.2.2.1)
theorem XGet.ty {o : Option V} (I : Inv X pins σ H s) (g : XGet X.K H d y o) : s.TypeIs (.ref d) "dict" ∧ (d == sysModules) = false := by
  obtain ⟨es, ep, k, hd, _⟩ := g
  obtain ⟨_, z, ob, xs, g1, g5, _⟩ := (show ObjOk X.prog X.w H s.heap d (.dG es ep) from I.hok d _ hd)
  exact ⟨⟨ob, g1, g5.1⟩, z⟩
theorem x_getItem {Q : Value → Shared → Prop} (hu : A.units + 9 < cLine) (I : Inv X pins σ H s) (g : XGet X.K H d y (some v)) (ru : RelV y u) (h : ∀ w' s', Inv X pins σ H s' → RelV v w' → Q w' s') : wpAny (model X.prog X.w) A (getItem (.ref d) u) Q E s := by
  have hT := (g.ty I).1
  unfold getItem
  (try with_reducible refine wpAny_holding ?_); refine wpAny_bind (wpAny_sequenceKey hT (by decide) (wpAny_bind (wpAny_callSpecial?_slot (name := Str.ofString "__getitem__") hT slot_dict_getitem (wpAny_call_entry slot_dict_getitem hT entry_dict_getitem ?_ (args_dict_getitem _ _)))))
  show wpAny _ _ (dictGet d u >>= _) _ _ s
  refine wpAny_bind (x_dictGet (by show A.units + 1 + 8 < cLine; omega) I g ru fun w t rw' => ?_)
  obtain ⟨w', rfl, r'⟩ := RelO.some_of rw'
  exact wpAny_pure ⟨w', rfl, wpAny_pure (h w' _ (I.tok t) r')⟩
theorem x_contains {o : Option V} {Q : Bool → Shared → Prop} (hu : A.units + 9 < cLine) (I : Inv X pins σ H s) (g : XGet X.K H d y o) (ru : RelV y u) (h : ∀ s', Inv X pins σ H s' → Q o.isSome s') : wpAny (model X.prog X.w) A (contains (.ref d) u) Q E s := by
  obtain ⟨hT, hd⟩ := g.ty I
  unfold contains
  (try with_reducible refine wpAny_holding ?_); refine wpAny_bind (wpAny_specialOf hT slot_dict_contains.lookup ?_)
  dsimp only
  rw [if_neg (by rw [beq_builtin_none]; exact Bool.false_ne_true)]
  refine wpAny_bind (wpAny_callSpecialUnlessNone?_slot (name := Str.ofString "__contains__") hT slot_dict_contains (wpAny_call_entry slot_dict_contains hT entry_dict_contains ?_ (args_dict_contains _ _)))
  show wpAny _ _ (dictGet d u >>= _) _ _ s
  refine wpAny_bind (x_dictGet (by show A.units + 1 + 8 < cLine; omega) I g ru fun w t rw' => ?_)
  have e := rw'.isSome_eq
  cases w with
  | some w =>
    show wpAny _ _ (ret (.bool true)) _ _ _
    refine wpAny_pure ⟨_, rfl, wpAny_truthy_bool ?_⟩
    have := h _ (I.tok t)
    rw [e] at this
    exact this
  | none =>
    show wpAny _ _ (Builtin.Dict.pendingKey? d u >>= _) _ _ _
    refine wpAny_bind (wpAny_pendingKey_other hd (wpAny_pure ⟨_, rfl, wpAny_truthy_bool ?_⟩))
    have := h _ (I.tok t)
    rw [e] at this
    exact this
theorem x_in {o : Option V} {Q : Value → Shared → Prop} (hu : A.units + 9 < cLine) (I : Inv X pins σ H s) (g : XGet X.K H d y o) (ru : RelV y u) (h : ∀ s', Inv X pins σ H s' → Q (.bool o.isSome) s') : wpAny (model X.prog X.w) A (compareOp .In u (.ref d)) Q E s :=
  wpAny_bind (x_contains hu I g ru fun s' I' => wpAny_pure (h s' I'))
theorem length_putX (k : TK) (y v : V) : ∀ es : List (TK × V × V), (putX es k y v).length ≤ es.length + 1
  | [] => by simp [putX]
  | e :: es => by
    unfold putX
    have := length_putX k y v es
    split <;> simp <;> omega
theorem putX_new : ∀ {es : List (TK × V × V)}, (∀ (j : Nat) (e : TK × V × V), es[j]? = some e → e.1 ≠ k) → putX es k y v = es ++ [(k, y, v)]
  | [], _ => rfl
  | e :: es, h => by
    unfold putX
    rw [if_neg (h 0 e rfl), putX_new fun j x hx => h (j + 1) x (by simpa using hx)]
    rfl
theorem ent_put {w : World} {xs : List DictEntry} (g3 : Paired (EntG w) es xs) (ry : RelV y u) (rv : RelV v r) (ok : k.ok 8 = true) : Paired (EntG w) (es ++ [(k, y, v)]) (xs ++ [⟨k.hash w, u, r⟩]) := by
  induction g3 with
  | nil => exact .cons ⟨rfl, ry, rv, ok⟩ .nil
  | cons a _ ih => exact .cons a ih
theorem ent_mod {w : World} : ∀ {es : List (TK × V × V)} {xs : List DictEntry} {j : Nat} {e : TK × V × V}, Paired (EntG w) es xs → (es.map (·.1)).Nodup → es[j]? = some e → e.1 = k → RelV v r →
    Paired (EntG w) (putX es k y v) (xs.modify j fun x => { x with val := r }) ∧ (putX es k y v).map (·.1) = es.map (·.1)
  | _, _, _, _, .nil, _, he, _, _ => by simp at he
  | _ :: es, _ :: xs, 0, e, .cons a t, hn, he, ek, rv => by
    simp only [List.getElem?_cons_zero, Option.some.injEq] at he
    subst he
    unfold putX
    rw [if_pos ek]
    exact ⟨.cons ⟨a.1, a.2.1, rv, a.2.2.2⟩ t, rfl⟩
  | x :: es, _ :: xs, j + 1, e, .cons a t, hn, he, ek, rv => by
    simp only [List.getElem?_cons_succ] at he
    rw [List.map_cons, List.nodup_cons] at hn
    have ne : ¬ x.1 = k := fun z => hn.1 (by rw [z, ← ek]; exact List.mem_map.mpr ⟨e, List.mem_of_getElem? he, rfl⟩)
    unfold putX
    rw [if_neg ne]
    have ih := ent_mod t hn.2 he ek rv
    exact ⟨.cons a ih.1, by rw [List.map_cons, List.map_cons, ih.2]⟩
theorem x_dictSet {H' : Hp} {Q : Unit → Shared → Prop} (hu : A.units + 8 < cLine) (I : Inv X pins σ H s) (g : XPut X.K H d y v H') (ru : RelV y u) (rv : RelV v r) (h : ∀ s', Inv X pins σ H' s' → Q () s') :
    wpAny (model X.prog X.w) A (dictSet d u r) Q E s := by
  obtain ⟨es, ep, k, hd, rk, ry, ok, hl, rfl⟩ := g
  obtain ⟨_, z, ob, xs, g1, g5, g2, g3, g4⟩ := (show ObjOk X.prog X.w H s.heap d (.dG es ep) from I.hok d _ hd)
  have hz : xs.size ≤ sizeLine := by have := Paired.length g3; simp at this; omega
  have hl2 : (putX es k y v).length ≤ sizeLine := by have := length_putX k y v es; omega
  unfold dictSet
  (try with_reducible refine wpAny_holding ?_); refine wpAny_bind (hash_key 8 I ry ok ru hu fun t => ?_)
  unfold dictSetHashed
  (try with_reducible refine wpAny_holding ?_); refine wpAny_bind (find_x (I.tok t) g1 g2 g3 g4 rk ry ok ru hu (fun q0 => ?_) (fun j e he ek => ?_))
  · have ep2 : putX es k y v = es ++ [(k, y, v)] := putX_new q0
    have ep3 : putE es k ep = ep + 1 := if_neg (by
      rw [List.any_eq_true]
      rintro ⟨e, m, q⟩
      obtain ⟨j, hj⟩ := List.mem_iff_getElem?.mp m
      exact q0 j e hj (of_decide_eq_true q))
    rw [ep3] at h
    refine wpAny_bind (wpAny_rule (wpAny_updateDictKeys (hz := hz) (s := { s with toks := t }) g1 g2 (h _ ?_)))
    refine d_write (I.tok t) (by rw [hd]; exact True.intro) (Heap.SameBut.update ..) ⟨_, Heap.get?_update_self _ g1 (Obj.isFreed_of_dict (Obj.data_mapDictKeys g2 _))⟩ ⟨hl2, z, _, _, Heap.get?_update_self _ g1 (Obj.isFreed_of_dict (Obj.data_mapDictKeys g2 _)), g5.mapDictKeys _, Obj.data_mapDictKeys g2 _, ?_, ?_⟩
    · rw [ep2, Array.toList_push]
      exact ent_put g3 ru rv ok
    · rw [ep2, List.map_append, List.nodup_append]
      refine ⟨g4, by simp, fun a m b m' e => ?_⟩
      simp at m'
      subst m'
      obtain ⟨x, mx, rfl⟩ := List.mem_map.mp m
      obtain ⟨j, hj⟩ := List.mem_iff_getElem?.mp mx
      exact q0 j x hj e
  · have em := ent_mod (y := y) g3 g4 he ek rv
    have ep3 : putE es k ep = ep := if_pos (List.any_eq_true.mpr ⟨e, List.mem_of_getElem? he, decide_eq_true ek⟩)
    rw [ep3] at h
    refine wpAny_bind (wpAny_rule (wpAny_bind (wpAny_updateDict (s := { s with toks := t }) g1 g2 (wpAny_point (h _ ?_)))))
    refine d_write (I.tok t) (by rw [hd]; exact True.intro) (Heap.SameBut.update ..) ⟨_, Heap.get?_update_self _ g1 (Obj.isFreed_of_dict (Obj.data_mapDict g2 _))⟩ ⟨hl2, z, _, _, Heap.get?_update_self _ g1 (Obj.isFreed_of_dict (Obj.data_mapDict g2 _)), g5.mapDict _, Obj.data_mapDict g2 _, ?_, ?_⟩
    · obtain ⟨l⟩ := xs
      simpa using em.1
    · rw [em.2]
      exact g4
end
end
end L2
set_option Elab.async false
set_option linter.all false
set_option maxRecDepth 100000
set_option maxHeartbeats 4000000
namespace L2
open PySem PySem.Spec PyProof.Rows
section
variable {X : Cx} {K : PySem.W.Frag}
def rEqA (K : PySem.W.Frag) : R2 := fun x y H Q => ∃ d e, RepL K H [x] [d] ∧ RepL K H [y] [e] ∧ okD 40 d = true ∧ okD 40 e = true ∧ Q (.bl (eqD d e)) H
theorem op_eqA (K : PySem.W.Frag) (hu : X.A.units + 40 < cLine) (hK : X.K = K := by rfl) : OpR X (compareOp .Eq) (rEqA K) := by
  subst hK
  intro pins s σ H x y v u Q I rx ry h
  obtain ⟨d, e, r1, r2, o1, o2, q⟩ := h
  exact (eq_rep I 40 40 r1 r2 o1 o2 rx ry hu).2 X.prog X.w _ _ ⟨.bl _, H, I, rfl, q⟩
open Classical in
noncomputable def inE (K : PySem.W.Frag) (H : Hp) (dx : D) (u : Value) : Bool := decide (∃ x d, RelV x u ∧ RepL K H [x] [d] ∧ okD 40 d = true ∧ eqD d dx = true)
open Classical in
theorem inE_of {pins : List (Addr × Obj)} {s : Shared} {σ : St} {H : Hp} (I : Inv X pins σ H s) {dx d : D} {x : V} {u : Value} (rx : RelV x u) (r : RepL X.K H [x] [d]) (ok : okD 40 d = true) : inE X.K H dx u = eqD d dx := by
  unfold inE
  rw [Bool.eq_iff_iff, decide_eq_true_iff]
  constructor
  · rintro ⟨x', d', rx', r', ok', e⟩
    have := RelV.inj rx rx'
    subst this
    rw [rep_inj I 40 40 r r' ok ok']
    exact e
  · exact fun e => ⟨x, d, rx, r, ok, e⟩
theorem in_any {pins : List (Addr × Obj)} {s : Shared} {σ : St} {H : Hp} (I : Inv X pins σ H s) {dx : D} {ws : List V} {its : List Value} {ds : List D} (t : Vals ws its) (rp : RepL X.K H ws ds) (ok : ds.all (okD 40) = true) : its.any (inE X.K H dx) = ds.any fun d => eqD d dx := by
  induction t generalizing ds with
  | nil =>
    cases ds with
    | nil => rfl
    | cons _ _ => have := rp.length; simp at this
  | cons r t ih =>
    cases ds with
    | nil => have := rp.length; simp at this
    | cons d ds =>
      rw [List.all_cons, Bool.and_eq_true] at ok
      rw [List.any_cons, List.any_cons, inE_of I r rp.inv.1 ok.1, ih rp.inv.2 ok.2]
theorem in_mem {pins : List (Addr × Obj)} {s : Shared} {σ : St} {H : Hp} (I : Inv X pins σ H s) {dx : D} {y : V} {v : Value} {A : Around} (rv : RelV y v) (ry : RepL X.K H [y] [dx]) (oy : okD 40 dx = true) (hu : A.units + 40 < cLine) :
    ∀ {ws : List V} {its : List Value} {ds : List D}, Vals ws its → RepL X.K H ws ds → ds.all (okD 40) = true → ∀ u ∈ its, SeqAt.EqAt A s u v (inE X.K H dx u) := by
  intro ws its ds t
  induction t generalizing ds with
  | nil => intro _ _ u m; cases m
  | cons r t ih =>
    intro rp ok u' m
    cases ds with
    | nil => have := rp.length; simp at this
    | cons d ds =>
      rw [List.all_cons, Bool.and_eq_true] at ok
      rcases List.mem_cons.mp m with rfl | m
      · rw [inE_of I r rp.inv.1 ok.1]
        exact (eq_rep I 40 40 rp.inv.1 ry ok.1 oy r rv hu).1
      · exact ih rp.inv.2 ok.2 u' m
def seqO : D → Option (List D)
  | .lst ds => some ds
  | .tup ds => some ds
  | _ => none
def rInA (K : PySem.W.Frag) (neg : Bool) : R2 := fun x y H Q =>
  (∃ d e ds, RepL K H [x] [d] ∧ RepL K H [y] [e] ∧ seqO e = some ds ∧ okD 40 d = true ∧ ds.all (okD 40) = true ∧ Q (.bl (if neg then !ds.any fun z => eqD z d else ds.any fun z => eqD z d)) H) ∨
  (∃ i j, x = .str i ∧ y = .str j ∧ Q (.bl (if neg then !(!(Builtin.Str.occurrences j i 0 j.length 1).isEmpty) else !(Builtin.Str.occurrences j i 0 j.length 1).isEmpty)) H) ∨
  ∃ a o, y = .ref a ∧ XGet K H a x o ∧ Q (.bl (if neg then !o.isSome else o.isSome)) H
theorem op_inA (K : PySem.W.Frag) (hu : X.A.units + 41 < cLine) (hK : X.K = K := by rfl) : OpR X (compareOp .In) (rInA K false) := by
  subst hK
  intro pins s σ H x y v u Q I rx ry h
  rcases h with ⟨d, e, ds, r1, r2, es, o1, o2, q⟩ | ⟨i, j, rfl, rfl, q⟩ | ⟨a, o, rfl, g, q⟩
  · have hu' : X.A.in1.units + 40 < cLine := by show X.A.units + 1 + 40 < cLine; omega
    cases r2 with
    | flat z _ => cases e <;> first | (cases z; done) | cases es
    | lst sq i _ =>
      cases es
      cases ry
      obtain ⟨its, r, pl, hz⟩ := I.list (.inl sq)
      refine SeqAt.in_listAt (inE X.K H d) pl.isList (fun w hw => in_mem I rx r1 o1 hu' r i o2 w (by simpa using hw)) ⟨.bl _, H, I, rfl, ?_⟩
      rw [show its.toArray.any (inE X.K H d) = its.any (inE X.K H d) by simp, in_any I r i o2]
      exact q
    | tup sq i _ =>
      cases es
      cases ry
      obtain ⟨its, r, pl, hz⟩ := I.tuple sq
      refine SeqAt.in_tupleAt (inE X.K H d) pl (fun w hw => in_mem I rx r1 o1 hu' r i o2 w (by simpa using hw)) ⟨.bl _, H, I, rfl, ?_⟩
      rw [show its.toArray.any (inE X.K H d) = its.any (inE X.K H d) by simp, in_any I r i o2]
      exact q
    | dct _ _ _ _ _ => cases es
    | scr _ _ => cases es
    | exc _ _ => cases es
  · exact op_in_str pins s σ H _ _ v u Q I rx ry ⟨i, j, rfl, rfl, q⟩
  · cases ry
    exact x_in (by omega) I g rx fun s3 I3 => ⟨.bl o.isSome, H, I3, rfl, q⟩
def oEq : List O → Option O
  | [a, b] => if okD 40 a.d = true ∧ okD 40 b.d = true then some (.frz (.bl (eqD a.d b.d))) else none
  | _ => none
theorem ok_eq : OpOk K (r2L (rEqA K)) oEq := by
  intro F H vs os o Q le see e res
  unfold oEq at e
  split at e
  · split at e
    · cases e
      obtain ⟨x, y, B, C, rfl, h1, h2⟩ := see.two
      rename_i hh
      exact ⟨_, _, rfl, _, _, own_rep le h1, own_rep le h2, hh.1, hh.2, res.flat rfl⟩
    · cases e
  · cases e
def neOk : D → D → Bool
  | .non, .non => true | .non, .int _ => true | .int _, .non => true | .non, .bl _ => true | .bl _, .non => true | .non, .str _ => true | .str _, .non => true
  | .int _, .int _ => true | .bl _, .bl _ => true | .str _, .str _ => true
  | .int _, .str _ => true | .str _, .int _ => true | .bl _, .str _ => true | .str _, .bl _ => true
  | _, _ => false
def oNe : List O → Option O
  | [.frz a, .frz b] => if neOk a b = true then some (.frz (.bl (!eqD a b))) else none
  | _ => none
mutual
def tkD : D → Option TK
  | .int i => some (.inl i)
  | .str x => some (.inr x)
  | .tup l => (tkDs l).map .tp
  | _ => none
def tkDs : List D → Option (List TK)
  | [] => some []
  | d :: l => (tkD d).bind fun k => (tkDs l).map fun ks => k :: ks
end
def keyD : D → Option TK
  | .int i => some (.inl i)
  | .str x => some (.inr x)
  | .tup l => (tkDs l).bind fun ks => if TK.ok 8 (.tp ks) = true then some (.tp ks) else none
  | _ => none
mutual
theorem tkD_d : ∀ {d : D} {k : TK}, tkD d = some k → k.d = d
  | .int i, k, e => by simp only [tkD] at e; cases e; simp [TK.d]
  | .str i, k, e => by simp only [tkD] at e; cases e; simp [TK.d]
  | .tup l, k, e => by
    simp only [tkD] at e
    obtain ⟨ks, h1, rfl⟩ := Option.map_eq_some_iff.mp e
    simp only [TK.d]
    rw [tkDs_d h1]
  | .non, k, e => by simp [tkD] at e
  | .bl _, k, e => by simp [tkD] at e
  | .ty _, k, e => by simp [tkD] at e
  | .lst _, k, e => by simp [tkD] at e
  | .dct _, k, e => by simp [tkD] at e
  | .scr _, k, e => by simp [tkD] at e
  | .exc _ _, k, e => by simp [tkD] at e
theorem tkDs_d : ∀ {l : List D} {ks : List TK}, tkDs l = some ks → TK.dl ks = l
  | [], ks, e => by simp only [tkDs] at e; cases e; simp [TK.dl]
  | d :: l, ks, e => by
    simp only [tkDs] at e
    obtain ⟨k, h1, e⟩ := Option.bind_eq_some_iff.mp e
    obtain ⟨ks', h2, rfl⟩ := Option.map_eq_some_iff.mp e
    simp only [TK.dl]
    rw [tkD_d h1, tkDs_d h2]
end
theorem keyD_ok {d : D} {k : TK} (e : keyD d = some k) : k.d = d ∧ k.ok 8 = true := by
  cases d with
  | int i => cases e; exact ⟨by simp [TK.d], rfl⟩
  | str i => cases e; exact ⟨by simp [TK.d], rfl⟩
  | tup l =>
    simp only [keyD] at e
    obtain ⟨ks, h1, e⟩ := Option.bind_eq_some_iff.mp e
    split at e
    · rename_i h
      cases e
      exact ⟨by simp only [TK.d]; rw [tkDs_d h1], h⟩
    · cases e
  | _ => cases e
def dictO : O → Option (List (TK × D))
  | .frz (.dct kvs) => some kvs
  | .dct kvs => some (O.dk kvs)
  | _ => none
theorem keys_d {α β : Type} : ∀ {ws : List (TK × α)} {kvs : List (TK × β)}, ws.map (·.1) = kvs.map (·.1) → ws.map (·.1.d) = kvs.map (·.1.d) := fun {ws kvs} h => by
  have := congrArg (List.map TK.d) h
  rw [List.map_map, List.map_map] at this
  exact this
def valD (kvs : List (TK × D)) (k : TK) : Option D := (kvs.find? fun kv => decide (kv.1 = k)).map (·.2)
theorem val_rep {F : Hp} {k : TK} : ∀ {ws : List (TK × V × V)} {kvs : List (TK × D)}, ws.map (·.1) = kvs.map (·.1) → RepL K F (ws.map (·.2.2)) (kvs.map (·.2)) → (valX ws k = none ∧ valD kvs k = none) ∨ ∃ v d, valX ws k = some v ∧ valD kvs k = some d ∧ RepL K F [v] [d]
  | [], [], _, _ => .inl ⟨rfl, rfl⟩
  | w :: ws, p :: kvs, h, r => by
    rw [List.map_cons, List.map_cons] at h
    injection h with h1 h2
    unfold valX valD
    rw [List.find?_cons, List.find?_cons, h1]
    by_cases e : p.1 = k
    · rw [decide_eq_true e]
      exact .inr ⟨w.2.2, p.2, rfl, rfl, r.inv.1⟩
    · rw [decide_eq_false e]
      exact val_rep h2 r.inv.2
  | [], _ :: _, h, _ => by simp at h
  | _ :: _, [], h, _ => by simp at h
def oInG (neg : Bool) : List O → Option O
  | [a, b] => match dictO b with
    | some kvs => (match a with
      | .frz d => (keyD d).bind fun k => some (.frz (.bl (if neg then !(valD kvs k).isSome else (valD kvs k).isSome)))
      | _ => none)
    | none => (match a, b with
      | .frz (.str i), .frz (.str j) => some (.frz (.bl (if neg then !(!(Builtin.Str.occurrences j i 0 j.length 1).isEmpty) else !(Builtin.Str.occurrences j i 0 j.length 1).isEmpty)))
      | a, b => (seqO b.d).bind fun ds => if okD 40 a.d = true ∧ ds.all (okD 40) = true then some (.frz (.bl (if neg then !ds.any fun z => eqD z a.d else ds.any fun z => eqD z a.d))) else none)
  | _ => none
def rIxA (K : PySem.W.Frag) : R2 := fun x y H Q => rIxL K x y H Q ∨ rIxT K x y H Q ∨ rIxS x y H Q ∨ ∃ a v, x = .ref a ∧ XGet K H a y (some v) ∧ Q v H
theorem ix_dict (hu : X.A.units + 9 < cLine) : IxR X (fun x y H Q => ∃ a v, x = .ref a ∧ XGet X.K H a y (some v) ∧ Q v H) := by
  intro value slice pins s σ H x y v u Q I rx ry h hs
  obtain ⟨a, w, rfl, g, q⟩ := h
  cases rx
  exact tail_any (g.ty I).1 PySem.F.slot_dict_getitem.lookup (x_getItem hu I g ry fun w' s3 I3 rw' => ⟨w, H, I3, rw', q⟩) hs
theorem ix_A (K : PySem.W.Frag) (hu : X.A.units + 41 < cLine) (hK : X.K = K := by rfl) : IxR X (rIxA K) := by
  subst hK
  exact (ix_listK X.K rfl).or ((ix_tupK X.K rfl).or (ix_str.or (ix_dict (by omega))))
def unfrz : O → Option O
  | .frz d => some (.frz d)
  | _ => none
def valO (kvs : List (TK × O)) (k : TK) : Option O := (kvs.find? fun kv => decide (kv.1 = k)).map (·.2)
def intD : D → Option Int
  | .int k => some k
  | _ => none
theorem intD_eq {i : D} {k : Int} (h : intD i = some k) : i = .int k := by
  cases i with
  | int _ => cases h; rfl
  | _ => cases h
def ixD (d i : D) : Option O := match d with
  | .lst ds => (intD i).bind fun k => (atI ds k).map .frz
  | .tup ds => (intD i).bind fun k => (atI ds k).map .frz
  | .scr ns => (intD i).bind fun k => (atI (ns.map D.int) k).map .frz
  | .str z => (intD i).bind fun k => if z.length ≤ 1000000 then (atI z.cps.toList k).map fun c => .frz (.str ⟨#[c]⟩) else none
  | .dct kvs => (keyD i).bind fun k => (valD kvs k).map .frz
  | _ => none
def oIx1 (a : O) (i : D) : Option O := match a with
  | .frz d => ixD d i
  | .lst os => (intD i).bind fun k => (atI os k).bind unfrz
  | .tup os => (intD i).bind fun k => (atI os k).bind unfrz
  | .dct kvs => (keyD i).bind fun k => (valO kvs k).bind unfrz
def oIx : List O → Option O
  | [a, .frz i] => oIx1 a i
  | _ => none
theorem atI_rep {F : Hp} {ws : List V} {ds : List D} {i : Int} {d : D} (r : RepL K F ws ds) (e : atI ds i = some d) : ∃ v, atI ws i = some v ∧ RepL K F [v] [d] := by
  unfold atI at e ⊢
  rw [r.length]
  cases q : ixN ds.length i with
  | none => rw [q] at e; cases e
  | some j =>
    rw [q] at e
    exact r.get e
theorem own_get {F H : Hp} : ∀ {ws : List V} {os : List O} {B : List Addr} {j : Nat} {d : D}, OwnL K F H (ws.map some) (os.map some) B → os[j]? = some (.frz d) → ∃ v, ws[j]? = some v ∧ RepL K F [v] [d]
  | w :: ws, o :: os, B, 0, d, h, e => by
    obtain ⟨B1, B2, h1, h2, _⟩ := OwnL.one h
    simp at e
    subst e
    cases h1 with
    | frz r _ => exact ⟨w, rfl, r⟩
  | w :: ws, o :: os, B, j + 1, d, h, e => by
    obtain ⟨B1, B2, h1, h2, _⟩ := OwnL.one h
    obtain ⟨v, g1, g2⟩ := own_get (j := j) h2 (by simpa using e)
    exact ⟨v, by simpa using g1, g2⟩
  | [], [], _, _, _, _, e => by simp at e
  | [], _ :: _, _, _, _, h, _ => by have := h.length; simp at this
  | _ :: _, [], _, _, _, h, _ => by have := h.length; simp at this
theorem atI_own {F H : Hp} {ws : List V} {os : List O} {B : List Addr} {i : Int} {o : O} (r : OwnL K F H (ws.map some) (os.map some) B) (e : (atI os i).bind unfrz = some o) : ∃ v d, atI ws i = some v ∧ RepL K F [v] [d] ∧ o = .frz d := by
  have hl : ws.length = os.length := by have := r.length; simpa using this
  unfold atI at e ⊢
  rw [hl]
  cases q : ixN os.length i with
  | none => rw [q] at e; cases e
  | some j =>
    rw [q] at e
    dsimp only [Option.bind] at e
    cases q2 : os[j]? with
    | none => rw [q2] at e; cases e
    | some o' =>
      rw [q2] at e
      dsimp only at e
      cases o' with
      | frz d => cases e; obtain ⟨v, g1, g2⟩ := own_get r q2; exact ⟨v, d, g1, g2, rfl⟩
      | _ => cases e
theorem own_rep1 {F H : Hp} {v : V} {d : D} {B : List Addr} (h : OwnL K F H [some v] [some (.frz d)] B) : RepL K F [v] [d] := by
  cases h with
  | frz r _ => exact r
theorem val_own {F H : Hp} {k : TK} {d : D} : ∀ {ws : List (TK × V × V)} {kvs : List (TK × O)} {B : List Addr}, ws.map (·.1) = kvs.map (·.1) → OwnL K F H (ws.map fun p => some p.2.2) (kvs.map fun p => some p.2) B → valO kvs k = some (.frz d) → ∃ v, valX ws k = some v ∧ RepL K F [v] [d]
  | [], [], _, _, _, e => by cases e
  | w :: ws, p :: kvs, B, h, r, e => by
    rw [List.map_cons, List.map_cons] at h
    injection h with h1 h2
    obtain ⟨B1, B2, g1, g2, _⟩ := OwnL.one r
    unfold valO at e
    unfold valX
    rw [List.find?_cons] at e ⊢
    rw [h1]
    by_cases q : p.1 = k
    · rw [decide_eq_true q] at e ⊢
      have e : some p.2 = some (.frz d) := e
      injection e with e
      have g1 : OwnL K F H [some w.2.2] [some p.2] B1 := g1
      rw [e] at g1
      exact ⟨w.2.2, rfl, own_rep1 g1⟩
    · rw [decide_eq_false q] at e ⊢
      exact val_own h2 g2 e
  | [], _ :: _, _, h, _, _ => by simp at h
  | _ :: _, [], _, h, _, _ => by simp at h
theorem ok_ix : OpOk K (r2L (rIxA K)) oIx := by
  intro F H vs os o Q le see e res
  unfold oIx at e
  split at e
  · rename_i a i
    obtain ⟨x, y, B, C, rfl, h1, h2⟩ := see.two
    refine ⟨_, _, rfl, ?_⟩
    cases h1 with
    | @frz _ da _ _ _ r _ =>
      cases r with
      | lst sq ri _ =>
        obtain ⟨k, hk, ee⟩ := Option.bind_eq_some_iff.mp (show (intD i).bind (fun k => (atI _ k).map O.frz) = some o from e)
        cases intD_eq hk
        cases own_flat h2 rfl
        obtain ⟨d, q1, q2⟩ := Option.map_eq_some_iff.mp ee
        subst q2
        obtain ⟨v, g1, g2⟩ := atI_rep ri q1
        exact .inl ⟨_, _, _, v, rfl, rfl, .inl (le.rd sq), g1, res.frz g2⟩
      | exc _ _ => cases e
      | @scr _ ns _ _ sq _ =>
        obtain ⟨k, hk, ee⟩ := Option.bind_eq_some_iff.mp (show (intD i).bind (fun k => (atI (ns.map D.int) k).map O.frz) = some o from e)
        cases intD_eq hk
        cases own_flat h2 rfl
        obtain ⟨d, q1, q2⟩ := Option.map_eq_some_iff.mp ee
        subst q2
        obtain ⟨v, g1, g2⟩ := atI_rep (rep_ints (K := K) (F := F) ns) q1
        exact .inl ⟨_, _, _, v, rfl, rfl, le.seq sq, g1, res.frz g2⟩
      | tup sq ri _ =>
        obtain ⟨k, hk, ee⟩ := Option.bind_eq_some_iff.mp (show (intD i).bind (fun k => (atI _ k).map O.frz) = some o from e)
        cases intD_eq hk
        cases own_flat h2 rfl
        obtain ⟨d, q1, q2⟩ := Option.map_eq_some_iff.mp ee
        subst q2
        obtain ⟨v, g1, g2⟩ := atI_rep ri q1
        exact .inr (.inl ⟨_, _, _, v, rfl, rfl, le.seqT sq, g1, res.frz g2⟩)
      | @dct _ ws es ep _ _ hd hk rk ri _ =>
        obtain ⟨k, q, e⟩ := Option.bind_eq_some_iff.mp (show (keyD i).bind (fun k => (valD es k).map O.frz) = some o from e)
        obtain ⟨d, q1, q2⟩ := Option.map_eq_some_iff.mp e
        subst q2
        rcases val_rep (k := k) hk ri with ⟨_, z⟩ | ⟨v, d', g1, g2, g3⟩
        · rw [q1] at z; cases z
        · rw [q1] at g2
          cases g2
          exact .inr (.inr (.inr ⟨_, v, rfl, ⟨ws, ep, k, le _ _ hd, by rw [keys_d hk]; exact rk.mono le, by rw [(keyD_ok q).1]; exact own_rep le h2, (keyD_ok q).2, g1.symm⟩, res.frz g3⟩))
      | flat z _ =>
        cases da with
        | str zz =>
          obtain ⟨k, hk, ee⟩ := Option.bind_eq_some_iff.mp (show (intD i).bind (fun k => if zz.length ≤ 1000000 then (atI zz.cps.toList k).map fun c => O.frz (.str ⟨#[c]⟩) else none) = some o from e)
          cases intD_eq hk
          split at ee
          · obtain ⟨c, q1, q2⟩ := Option.map_eq_some_iff.mp ee
            subst q2
            cases z
            cases own_flat h2 rfl
            exact .inr (.inr (.inl ⟨_, _, c, rfl, rfl, ml (by assumption), q1, res.flat rfl⟩))
          · cases ee
        | non => cases e
        | bl _ => cases e
        | int _ => cases e
        | ty _ => cases e
        | _ => cases z
    | lst sq ri _ =>
      obtain ⟨k, hk, ee⟩ := Option.bind_eq_some_iff.mp (show (intD i).bind (fun k => (atI _ k).bind unfrz) = some o from e)
      cases intD_eq hk
      cases own_flat h2 rfl
      obtain ⟨v, d, g1, g2, rfl⟩ := atI_own ri ee
      exact .inl ⟨_, _, _, v, rfl, rfl, SqL.of sq, g1, res.frz g2⟩
    | tup sq ri _ =>
      obtain ⟨k, hk, ee⟩ := Option.bind_eq_some_iff.mp (show (intD i).bind (fun k => (atI _ k).bind unfrz) = some o from e)
      cases intD_eq hk
      cases own_flat h2 rfl
      obtain ⟨v, d, g1, g2, rfl⟩ := atI_own ri ee
      exact .inr (.inl ⟨_, _, _, v, rfl, rfl, SqT.of sq, g1, res.frz g2⟩)
    | @dct _ ws es ep _ _ _ _ hd hk rk ri _ =>
      obtain ⟨k, q, e⟩ := Option.bind_eq_some_iff.mp (show (keyD i).bind (fun k => (valO es k).bind unfrz) = some o from e)
      obtain ⟨o', q2, e⟩ := Option.bind_eq_some_iff.mp e
      cases o' with
      | frz d =>
        cases e
        obtain ⟨v, g1, g2⟩ := val_own hk ri q2
        exact .inr (.inr (.inr ⟨_, v, rfl, ⟨ws, ep, k, hd, by rw [keys_d hk]; exact rk.mono le, by rw [(keyD_ok q).1]; exact own_rep le h2, (keyD_ok q).2, g1.symm⟩, res.frz g2⟩))
      | _ => cases e
  · cases e
def rLenA (K : PySem.W.Frag) : List V → Hp → VK → Prop := fun xs H Q => (∃ p ys, xs = [.ref p] ∧ (SqL K H p ys ∨ SqT K H p ys) ∧ Q (.int ys.length) H) ∨ (∃ z, xs = [.str z] ∧ z.length ≤ sizeLine ∧ Q (.int z.length) H)
theorem call_lenA (K : PySem.W.Frag) (hK : X.K = K := by rfl) : CallR X (.builtin "len") (rLenA K) := (call_len_seqK K hK).or call_len_str
def lenD : D → Option Int
  | .lst ds => some ds.length
  | .tup ds => some ds.length
  | .str z => if z.length ≤ 1000000 then some z.length else none
  | .scr ns => some ns.length
  | _ => none
def oLen : List O → Option O
  | [a] => (lenD a.d).map fun n => .frz (.int n)
  | _ => none
theorem ok_len : OpOk K (rLenA K) oLen := by
  intro F H vs os o Q le see e res
  unfold oLen at e
  split at e
  · rename_i a
    obtain ⟨x, B, rfl, h1⟩ := see.one
    obtain ⟨n, q1, q2⟩ := Option.map_eq_some_iff.mp e
    subst q2
    have r := own_rep le h1
    cases hd : a.d with
    | lst ds =>
      rw [hd] at q1 r
      cases q1
      cases r with
      | flat z _ => cases z
      | lst sq ri _ => exact .inl ⟨_, _, rfl, .inl (.inl sq), by rw [ri.length]; exact res.flat rfl⟩
    | tup ds =>
      rw [hd] at q1 r
      cases q1
      cases r with
      | flat z _ => cases z
      | tup sq ri _ => exact .inl ⟨_, _, rfl, .inr sq, by rw [ri.length]; exact res.flat rfl⟩
    | str z =>
      rw [hd] at q1 r
      unfold lenD at q1
      dsimp only at q1
      split at q1
      · cases q1
        cases r with
        | flat z _ => cases z; exact .inr ⟨_, rfl, ml (by assumption), res.flat rfl⟩
      · cases q1
    | scr ns =>
      rw [hd] at q1 r
      cases q1
      cases r with
      | flat z _ => cases z
      | scr sq _ => exact .inl ⟨_, _, rfl, .inl sq, by rw [List.length_map]; exact res.flat rfl⟩
    | _ => rw [hd] at q1; cases q1
  · cases e
def kindD : D → Option String
  | .non => some "NoneType"
  | .bl _ => some "bool"
  | .int _ => some "int"
  | .str _ => some "str"
  | .lst _ => some "list"
  | .tup _ => some "tuple"
  | _ => none
def oIsi : List O → Option O
  | [a, .frz (.ty T)] => if T = "int" ∨ T = "str" ∨ T = "bool" ∨ T = "list" ∨ T = "tuple" then (kindD a.d).map fun k => .frz (.bl (isiB k T)) else none
  | _ => none
theorem kind_rep {H : Hp} {x : V} {d : D} {k : String} (r : RepL K H [x] [d]) (e : kindD d = some k) : KindIs K H x k := by
  cases r with
  | flat q _ => cases d <;> cases e <;> cases q <;> rfl
  | lst sq _ _ => cases e; exact .inl ⟨rfl, _, .inl sq⟩
  | tup sq _ _ => cases e; exact .inr ⟨rfl, _, sq⟩
  | dct _ _ _ _ _ => cases e
  | scr _ _ => cases e
  | exc _ _ => cases e
theorem ok_isi : OpOk K (fun xs H Q => ∃ x k T, xs = [x, .ty T] ∧ KindIs K H x k ∧ (T = "int" ∨ T = "str" ∨ T = "bool" ∨ T = "list" ∨ T = "tuple") ∧ Q (.bl (isiB k T)) H) oIsi := by
  intro F H vs os o Q le see e res
  unfold oIsi at e
  split at e
  · split at e
    · obtain ⟨x, y, B, C, rfl, h1, h2⟩ := see.two
      obtain ⟨k, q1, q2⟩ := Option.map_eq_some_iff.mp e
      subst q2
      cases own_flat h2 rfl
      exact ⟨x, k, _, rfl, kind_rep (own_rep le h1) q1, by assumption, res.flat rfl⟩
    · cases e
  · cases e
def oInt1 : List O → Option O
  | [.frz (.int i)] => some (.frz (.int i))
  | [.frz (.bl b)] => some (.frz (.int (if b then 1 else 0)))
  | _ => none
end
end L2
set_option Elab.async false
set_option linter.all false
set_option maxRecDepth 100000
set_option maxHeartbeats 4000000
namespace L2
open PySem PySem.Spec PyProof.Rows
def gMut (g : O → List O → Option (O × O)) (fo : GE) (fs : GA) : GE := fun Γ => (fo Γ).bind fun p => match p.1 with
  | .var i => match p.2[i]? with
    | some (some (.lst _)) => (fs p.2).bind fun q => (ownL q.1).bind fun os => match q.2[i]? with
      | some (some o) => (g o os).bind fun z => some (.own z.2, q.2.set i (some z.1))
      | _ => none
    | _ => none
  | _ => none
section
variable {K : PySem.W.Frag} {F H : Hp} {A : List Addr} {σ : St} {Γ : Gm}
end
section
variable {X : Cx} {K : PySem.W.Frag} {o e : Expr} {es : List Expr} {fo : GE} {fs : GA} {name : Str} {apos cpos : Pos} {id : String} {r : V → List V → Hp → VK → Prop} {g : O → List O → Option (O × O)}
end
section
variable {K : PySem.W.Frag} {F H : Hp} {l : Addr} {ws ws' : List V} {ps ps' : List O} {Ap A' : List Addr}
def mAppend : O → List O → Option (O × O)
  | .lst ps, [y] => if ps.length < 1000000 then some (.lst (ps ++ [y]), .frz .non) else none
  | _, _ => none
def mClear : O → List O → Option (O × O)
  | .lst _, [] => some (.lst [], .frz .non)
  | _, _ => none
end
end L2
set_option Elab.async false
set_option linter.all false
set_option maxRecDepth 100000
set_option maxHeartbeats 4000000
namespace L2
open PySem PySem.Spec PyProof.Rows
def putG {α : Type} : List (TK × α) → TK → α → List (TK × α)
  | [], k, v => [(k, v)]
  | e :: es, k, v => if e.1 = k then (e.1, v) :: es else e :: putG es k v
def setO (v : O) (i : D) : O → Option (O × O)
  | .lst ps => (intD i).bind fun k => (ixN ps.length k).map fun j => (.lst (ps.set j v), .frz .non)
  | .dct kvs => (keyD i).bind fun k => if kvs.length < 1000000 then some (.dct (putG kvs k v), .frz .non) else none
  | _ => none
def mSet (o : O) : List O → Option (O × O)
  | [v, .frz i] => setO v i o
  | _ => none
section
variable {K : PySem.W.Frag} {F H : Hp}
end
def gsPut (fv fo fi : GE) : GS := fun Γ => (fv Γ).bind fun p => (fo p.2).bind fun q => (fi q.2).bind fun r => match p.1, q.1, r.1 with
  | .own v, .var i, .own y => match r.2[i]? with
    | some (some o) => (mSet o [v, y]).bind fun z => some (.nx, r.2.set i (some z.1))
    | _ => none
  | _, _, _ => none
section
variable {X : Cx} {K : PySem.W.Frag} {m : List Bool} {e o i : Expr} {fv fo fi : GE} {pos pos' : Pos}
end
abbrev GO := Gm → Option (Option Int × Gm)
def tGO (K : PySem.W.Frag) (f : GO) : TO := fun σ H Q => ∃ F A Γ b Γ', OK K F H σ Γ A ∧ f Γ = some (b, Γ') ∧ ∀ H', Post K F H A σ Γ' [] [] H' → Q b H'
def goNone : GO := fun Γ => some (none, Γ)
def intR : R → Option Int
  | .own (.frz (.int i)) => some i
  | _ => none
def goSome (f : GE) : GO := fun Γ => (f Γ).bind fun p => (intR p.1).map fun i => (some i, p.2)
section
variable {X : Cx} {K : PySem.W.Frag} {e : Expr} {fa : GE} {lo hi : Option Expr} {fl fh : GO} {pos p2 : Pos}
theorem do_none : PO X none (tGO K goNone) := by
  intro pins s σ H Q I t
  refine po_none pins s σ H Q I ?_
  obtain ⟨F, A, Γ, b, Γ', k, e, w⟩ := t
  cases e
  exact w H ⟨F, A, Ext.refl, k, True.intro⟩
theorem do_some (h : PE X e (tG K fa)) : PO X (some e) (tGO K (goSome fa)) := by
  intro pins s σ H Q I t
  refine po_some h pins s σ H Q I ?_
  obtain ⟨F, A, Γ, b, Γ', k, e, w⟩ := t
  unfold goSome at e
  cases q : fa Γ with
  | none => rw [q] at e; cases e
  | some p =>
    obtain ⟨r, Γ1⟩ := p
    rw [q] at e
    obtain ⟨i, e1, e2⟩ := Option.map_eq_some_iff.mp e
    cases e2
    have er : r = .own (.frz (.int i)) := by
      unfold intR at e1
      split at e1
      · rename_i hh; cases e1; exact hh
      · cases e1
    subst er
    exact ⟨F, A, Γ, _, _, k, q, fun v H' pp => ⟨i, pp.flat rfl, w H' pp.drop⟩⟩
def cutD (ds : List D) (lo hi : Option Int) : List D := (ds.drop (HT.sIx ds.length 0 lo)).take (HT.sIx ds.length ds.length hi - HT.sIx ds.length 0 lo)
def slO (o : O) (lo hi : Option Int) : Option O := match o, listD o, tupD o with
  | .frz (.str z), _, _ => if z.length ≤ 1000000 then some (.frz (.str (Txt.slice z lo hi))) else none
  | _, some ds, _ => some (.lst ((cutD ds lo hi).map .frz))
  | _, none, some ds => if HT.sIx ds.length 0 lo = 0 ∧ HT.sIx ds.length ds.length hi = ds.length then none else some (.tup ((cutD ds lo hi).map .frz))
  | _, _, _ => none
def rSlA (K : PySem.W.Frag) : V → Option Int → Option Int → Hp → VK → Prop := fun x lo hi H Q => rSlS x lo hi H Q ∨ rSlL K x lo hi H Q ∨ rSlT K x lo hi H Q
theorem sl_A (K : PySem.W.Frag) (hK : X.K = K := by rfl) : SlR X (rSlA K) := sl_str.or ((sl_listK K hK).or (sl_tupK K hK))
theorem ok_sl {F H : Hp} {x : V} {o o' : O} {B : List Addr} {Q : VK} {lo hi : Option Int} (le : Same F H) (h : OwnL K F H [some x] [some o] B) (e : slO o lo hi = some o') (res : Res K F H o' Q) : rSlA K x lo hi H Q := by
  unfold slO at e
  split at e
  · split at e
    · cases e
      cases own_flat h rfl
      exact .inl ⟨_, rfl, ml (by assumption), res.flat rfl⟩
    · cases e
  · rename_i ds _ _ q1 _
    cases e
    obtain ⟨a, ws, rfl, sq, r⟩ := own_list le h (by assumption)
    refine .inr (.inl ⟨a, ws, rfl, sq, fun p hp => res.lst ?_ hp⟩)
    unfold cutV cutD
    rw [r.length]
    exact (r.drop _).take _
  · split at e
    · cases e
    · rename_i hne
      cases e
      obtain ⟨a, ws, rfl, sq, r⟩ := own_tup le h (by assumption)
      refine .inr (.inr ⟨a, ws, rfl, sq, by rw [r.length]; exact hne, fun p hp => res.tup ?_ hp⟩)
      unfold cutV cutD
      rw [r.length]
      exact (r.drop _).take _
  · cases e
def gSlice (f : GE) (lo hi : GO) : GE := fun Γ => (f Γ).bind fun p => (lo p.2).bind fun q => (hi q.2).bind fun r => (seeR r.2 p.1).bind fun o => (slO o q.1 r.1).bind fun o' => some (.own o', r.2)
theorem gSlice_inv {Γ Γ' : Gm} {r : R} (e : gSlice fa fl fh Γ = some (r, Γ')) : ∃ r1 Γ1 l Γ2 u o o', fa Γ = some (r1, Γ1) ∧ fl Γ1 = some (l, Γ2) ∧ fh Γ2 = some (u, Γ') ∧ seeR Γ' r1 = some o ∧ slO o l u = some o' ∧ r = .own o' := by
  unfold gSlice at e
  cases q1 : fa Γ with
  | none => rw [q1] at e; cases e
  | some p =>
    rw [q1] at e
    dsimp only [Option.bind] at e
    cases q2 : fl p.2 with
    | none => rw [q2] at e; cases e
    | some q =>
      rw [q2] at e
      dsimp only at e
      cases q3 : fh q.2 with
      | none => rw [q3] at e; cases e
      | some w =>
        rw [q3] at e
        dsimp only at e
        cases q4 : seeR w.2 p.1 with
        | none => rw [q4] at e; cases e
        | some o =>
          rw [q4] at e
          dsimp only at e
          cases q5 : slO o q.1 w.1 with
          | none => rw [q5] at e; cases e
          | some o' => rw [q5] at e; cases e; exact ⟨p.1, p.2, q.1, q.2, w.1, o, o', rfl, q2, q3, q4, q5, rfl⟩
theorem de_slice (he : PE X e (tG K fa)) (hl : PO X lo (tGO K fl)) (hu : PO X hi (tGO K fh)) (hK : X.K = K := by rfl) : PE X (.Subscript e (.Slice lo hi none p2) pos) (tG K (gSlice fa fl fh)) := by
  refine (pe_slice (sl_A K hK) he hl hu).mono fun σ H Q t => ?_
  obtain ⟨F, A, Γ, rr, Γ', k, e, w⟩ := t
  obtain ⟨r1, Γ1, l, Γ2, u, o, o', e1, e2, e3, e4, e5, rfl⟩ := gSlice_inv e
  refine ⟨F, A, Γ, r1, Γ1, k, e1, fun v H1 p => ?_⟩
  obtain ⟨F1, A1, x1, k1, hh⟩ := p
  obtain ⟨C, kC, fr⟩ := OK.frame (τ := [some v]) (Θ := [r1.o]) k1 rfl
  refine ⟨F1, C, Γ1, l, Γ2, kC, e2, fun H2 p2 => ?_⟩
  obtain ⟨F2, A2, x2, k2, _⟩ := p2
  obtain ⟨A3, x3, k3⟩ := fr _ _ _ _ _ x2 k2
  obtain ⟨C2, kC2, fr2⟩ := OK.frame (τ := [some v]) (Θ := [r1.o]) k3 rfl
  refine ⟨F2, C2, Γ2, u, Γ', kC2, e3, fun H3 p3 => ?_⟩
  obtain ⟨F4, A4, x4, k4, _⟩ := p3
  obtain ⟨A5, x5, k5⟩ := fr2 _ _ _ _ _ x4 k4
  have pp : Post K F H A σ Γ' [r1] [v] H3 := ⟨F4, A5, x1.trans (x3.trans x5), k5, hh⟩
  obtain ⟨F6, le, see, res⟩ := pp.res (os := [o]) (o := o') (by unfold seeL; rw [e4]; rfl) w
  obtain ⟨x, B, ev, h1⟩ := see.one
  cases ev
  exact ok_sl le h1 e5 res
end
end L2
set_option Elab.async false
set_option linter.all false
set_option maxRecDepth 100000
set_option maxHeartbeats 4000000
namespace L2
open PySem PySem.Spec PyProof.Rows
def capIn : List Nat → Gm → Gm × Gm
  | [], Γ => ([], Γ)
  | i :: cap, Γ => let p := capIn cap (Γ.set i none); ((Γ[i]?).join :: p.1, p.2)
def capOut : List Nat → Gm → Gm → Gm
  | i :: cap, x :: Γi, Γ => (capOut cap Γi Γ).set i x
  | _, _, Γ => Γ
def compLoop (g : GG) (ct : GT) (ce : GE) : List D → Gm → List O → Option (List O × Gm)
  | [], Γ, acc => some (acc, Γ)
  | d :: ds, Γ, acc => (g d Γ).bind fun Γ1 => (ct Γ1).bind fun p => if p.1 = true then
      (ce p.2).bind fun q => (ownL [q.1]).bind fun os => if acc.length < 1000000 then compLoop g ct ce ds q.2 (acc ++ os) else none
    else compLoop g ct ce ds p.2 acc
section
variable {K : PySem.W.Frag} {F H : Hp} {σ : St}
end
def gCompG (src : Gm → Option (List D × Gm)) (g : GG) (ct : GT) (ce : GE) (k : Nat) (cap : List Nat) : GE := fun Γ => (src Γ).bind fun p =>
  (compLoop g ct ce p.1 (List.replicate k none ++ (capIn cap p.2).1) []).bind fun q => if q.2.length = k + cap.length then some (.own (.lst q.1), capOut cap (q.2.drop k) (capIn cap p.2).2) else none
section
variable {K : PySem.W.Frag}
structure CPv (K : PySem.W.Frag) (m : List Bool) (g : GG) (ct : GT) (ce : GE) (ds : List D) (fin : List O × Gm) (F1 H1 : Hp) (C : List Addr) (τ₀ : St) (i : Nat) (τ : St) (acc : List V) (H : Hp) : Prop where
  ex : ∃ F A Γc accs, OK K F H (acc.map some ++ τ) (accs.map some ++ Γc) A ∧ Ext F1 H1 C F H A ∧ compLoop g ct ce (ds.drop i) Γc accs = some fin ∧ acc.length = accs.length ∧ Kept m τ₀ τ
end
def srcL (it : GE) : Gm → Option (List D × Gm) := fun Γ => (gFrz it Γ).bind fun p => match p.1 with
  | .own (.frz (.lst ds)) => some (ds, p.2)
  | _ => none
def srcS (it : GE) : Gm → Option (List D × Gm) := fun Γ => (it Γ).bind fun p => match p.1 with
  | .own (.frz (.str z)) => some (z.cps.toList.map fun c => .str (chr1 c), p.2)
  | _ => none
def srcR1 (fs : GA) : Gm → Option (List D × Gm) := fun Γ => (fs Γ).bind fun p => (int1 p.1).map fun j => (rngD 0 j.toNat, p.2)
def srcR2 (fs : GA) : Gm → Option (List D × Gm) := fun Γ => (fs Γ).bind fun p => (int2 p.1).map fun j => (rngD j.1 (j.2 - j.1).toNat, p.2)
def srcV (i : Nat) (cap : List Nat) : Gm → Option (List D × Gm) := fun Γ => if i ∈ cap then none else match Γ[i]? with
  | some (some (.lst os)) => (frzL os).map fun ds => (ds, Γ)
  | _ => none
section
variable {X : Cx} {K : PySem.W.Frag} {fa : GE} {fs : GA}
theorem PTs.mono {ifs : List Expr} {t t' : TT} (h : PTs X ifs t) (m : ∀ σ H Q, t' σ H Q → t σ H Q) : PTs X ifs t' := fun pins s σ H Q I q => h pins s σ H Q I (m _ _ _ q)
def gYes : GT := fun Γ => some (true, Γ)
variable {tg elt iter : Expr} {ifs : List Expr} {scope : Scope} {pos : Pos} {M : List Str} {k : Nat} {cap : List Nat} {t : TG} {gg : GG} {ct : GT} {ce : GE} {wi : TI} {src : Gm → Option (List D × Gm)}
variable {m : List Bool}
end
end L2
set_option Elab.async false
set_option linter.all false
set_option maxRecDepth 100000
set_option maxHeartbeats 4000000
namespace L2
open PySem PySem.Spec PyProof.Rows
inductive Wk (K : PySem.W.Frag) (H : Hp) : V → List Nat → V → Prop
  | nil {x : V} : Wk K H x [] x
  | cons {p : Addr} {ws : List V} {j : Nat} {y v : V} {π : List Nat} : (SqL K H p ws ∨ SqT K H p ws) → ws[j]? = some y → Wk K H y π v → Wk K H (.ref p) (j :: π) v
theorem Wk.snoc {K : PySem.W.Frag} {H : Hp} {x v : V} {π : List Nat} {j : Nat} (h : Wk K H x (π ++ [j]) v) : ∃ p ws, Wk K H x π (.ref p) ∧ (SqL K H p ws ∨ SqT K H p ws) ∧ ws[j]? = some v := by
  induction π generalizing x with
  | nil =>
    cases h with
    | cons s e t => cases t; exact ⟨_, _, .nil, s, e⟩
  | cons i π ih =>
    cases h with
    | cons s e t =>
      obtain ⟨p, ws, h1, h2, h3⟩ := ih t
      exact ⟨p, ws, .cons s e h1, h2, h3⟩
section
variable {X : Cx} {K : PySem.W.Frag} {e : Expr} {i j : Nat} {π : List Nat} {pos p1 p2 : Pos} {n : Nat}
end
def setP (f : O → Option (O × O)) : O → List Nat → Option (O × O)
  | .lst ps, [] => f (.lst ps)
  | .tup os, j :: π => (os[j]?).bind fun c => (setP f c π).bind fun z => some (.tup (os.set j z.1), z.2)
  | .lst os, j :: π => (os[j]?).bind fun c => (setP f c π).bind fun z => some (.lst (os.set j z.1), z.2)
  | _, _ => none
section
variable {K : PySem.W.Frag} {F H : Hp}
end
def gMutC (g : O → List O → Option (O × O)) (i : Nat) (π : List Nat) (ds : List D) : GE := fun Γ => match Γ[i]? with
  | some (some o) => (setP (fun c => g c (ds.map .frz)) o π).bind fun z => some (.own z.2, Γ.set i (some z.1))
  | _ => none
section
variable {X : Cx} {K : PySem.W.Frag} {o e : Expr} {es : List Expr} {i : Nat} {π : List Nat} {t : TA} {name : Str} {apos cpos : Pos} {id : String} {r : V → List V → Hp → VK → Prop} {g : O → List O → Option (O × O)} {ds : List D} {vs : List V}
end
end L2
set_option Elab.async false
set_option linter.all false
set_option maxRecDepth 100000
set_option maxHeartbeats 4000000
namespace L2
open PySem PySem.Spec PyProof.Rows
def gCallF (M : GM) (fs : GA) : GE := fun Γ => (fs Γ).bind fun p => (seeL p.2 p.1).bind fun os => (M ((O.dl os).map .frz)).bind fun r => match r.1 with
  | .frz d => (flatOf d).bind fun _ => some (.own (.frz d), p.2)
  | _ => none
section
variable {K : PySem.W.Frag}
theorem sees_rep {F H : Hp} (le : Same F H) {vs : List V} {os : List O} (h : Sees K F H vs os) : RepL K H vs (O.dl os) := by
  unfold Sees at h
  induction h with
  | nil => exact .nil
  | cons p t ih => obtain ⟨B, h⟩ := p; exact .cons (own_rep le h) ih
theorem gCallF_inv {M : GM} {fs : GA} {Γ Γ' : Gm} {r : R} (e : gCallF M fs Γ = some (r, Γ')) : ∃ rs os d fin v, fs Γ = some (rs, Γ') ∧ seeL Γ' rs = some os ∧ M ((O.dl os).map .frz) = some (.frz d, fin) ∧ flatOf d = some v ∧ r = .own (.frz d) := by
  unfold gCallF at e
  cases q1 : fs Γ with
  | none => rw [q1] at e; cases e
  | some p =>
    rw [q1] at e
    dsimp only [Option.bind] at e
    cases q2 : seeL p.2 p.1 with
    | none => rw [q2] at e; cases e
    | some os =>
      rw [q2] at e
      dsimp only at e
      cases q3 : M ((O.dl os).map .frz) with
      | none => rw [q3] at e; cases e
      | some z =>
        obtain ⟨o, fin⟩ := z
        rw [q3] at e
        dsimp only at e
        cases o with
        | frz d =>
          dsimp only at e
          cases q4 : flatOf d with
          | none => rw [q4] at e; cases e
          | some v => rw [q4] at e; cases e; exact ⟨p.1, os, d, fin, v, rfl, q2, q3, q4, rfl⟩
        | _ => cases e
variable {X : Cx} {k n : Nat} {f : Addr} {fd : FuncData} {ps : List Str} {x : Str} {p pos : Pos} {e : Expr} {es : List Expr} {fs : GA} {st : Stmt} {M : GM}
theorem tG_callF {σ : St} {H : Hp} {Q : VK} (t : tG K (gCallF M fs) σ H Q) (hn : ∀ rs Γ Γ', fs Γ = some (rs, Γ') → rs.length = n) : tCall (SpM K n M) [] E0 (tGA K fs) σ H Q := by
  obtain ⟨F, A, Γ, rr, Γ', k, e, w⟩ := t
  obtain ⟨rs, os, d, fin, v0, e1, e2, e3, e4, rfl⟩ := gCallF_inv e
  refine ⟨F, A, Γ, rs, Γ', k, e1, fun vs H1 pp => ?_⟩
  show SpM K n M (vs ++ []) H1 Q E0
  rw [List.append_nil]
  obtain ⟨F1, le, see, res⟩ := pp.res e2 w
  obtain ⟨_, _, _, _, hh⟩ := pp
  refine ⟨by rw [← hh.length]; exact hn rs Γ Γ' e1, H1, [], (O.dl os).map .frz, .frz d, fin, ⟨Same.refl _, own_frzs (sees_rep le see), .nil, fun _ m => by cases m⟩, e3, fun v H' pc => ?_⟩
  obtain ⟨F5, A5, x5, k5⟩ := pc
  have s : Same H1 H' := fun a o e => x5.keep a o e (by simp)
  have ev : v = v0 := by
    obtain ⟨B, C, h1, _⟩ := k5.os.one
    exact own_flat h1 e4
  subst ev
  exact res v H' [] s (.frz (.flat e4 .nil) .nil) .nil (fun _ m => by cases m)
theorem de_callF (D : DefAt X.K X.mg x st f fd ps) (Fn : FnOk X.prog X.w X.K X.mg X.base CX0 k f fd ps (SpM K n M)) (hr : Room k X.A) (ha : PA X (e :: es) (tGA K fs)) (hn : ∀ rs Γ Γ', fs Γ = some (rs, Γ') → rs.length = n) (hg : Gl X x := by rfl) (hdb : (x == ("__debug__" : Str)) = false := by decide)
    (he : starEach (e :: es) X.env = (false, eval e X.env) :: starEach es X.env := by rfl) (hpl : (backTo pos (starEach es X.env)).any (·.1) = false := by rfl) :
    PE X (.Call (.Name x p) (e :: es) [] pos) (tG K (gCallF M fs)) := (pcall D Fn hr ha hg hdb he hpl).mono fun _ _ _ t => tG_callF t hn
theorem law_mir {P : Program} {w : World} {mg : Str → Option Value} {base : Heap} {k : Nat} {f : Addr} {fd : FuncData} {ps : List Str} {M : GM} (F : FnOk P w K mg base CX0 k f fd ps (SpM K 1 M)) (h : ∀ ns : List Int, ns.length ≤ 63 → ∃ fin, M [.frz (.scr ns)] = some (.frz (.bl true), fin)) :
    FnOk P w K mg base CX0 k f fd ps (fun vs H Q _ => ∃ (a : Addr) (ns : List Int), vs = [.ref a] ∧ SqL K H a (ns.map V.int) ∧ ns.length ≤ 63 ∧ ∀ H', Q (.bl true) H') := F.imp fun vs H Q E q => by
  obtain ⟨a, ns, rfl, hS, hl, q⟩ := q
  obtain ⟨fin, e⟩ := h ns hl
  refine ⟨rfl, H, [], [.frz (.scr ns)], _, fin, ⟨Same.refl _, .frz (.scr hS .nil) .nil, .nil, fun _ m => by cases m⟩, e, fun v H' pc => ?_⟩
  obtain ⟨F5, A5, x5, k5⟩ := pc
  obtain ⟨B, C, h1, _⟩ := k5.os.one
  cases own_flat h1 rfl
  exact q H'
end
end L2
set_option Elab.async false
set_option linter.all false
/-! how the functions over trees are reckoned: one row a form, at a state -/
namespace L2
open PySem
open Lean Meta in
simproc_decl evBind (Option.bind _ _) := fun e => do
  let a := e.getAppArgs
  unless a.size == 4 do return .continue
  let r0 ← Simp.simp a[2]!
  let r := { r0 with expr := (← instantiateMVars r0.expr).cleanupAnnotations.headBeta }
  let pr ← match r.proof? with
    | none => pure none
    | some p => pure (some (← mkCongrArg (.lam `z (← inferType a[2]!) (mkApp4 e.getAppFn a[0]! a[1]! (.bvar 0) a[3]!) .default) p))
  if r.expr.isAppOfArity ``Option.some 2 then
    return .visit { expr := (mkApp a[3]! r.expr.appArg!).headBeta, proof? := pr }
  if r.expr.isAppOfArity ``Option.none 1 then
    return .done { expr := mkApp (.const ``Option.none (e.getAppFn.constLevels!.drop 1)) a[1]!, proof? := pr }
  return .done { expr := mkApp4 e.getAppFn a[0]! a[1]! r.expr a[3]!, proof? := pr }
open Lean Meta in
simproc_decl evMap (Option.map _ _) := fun e => do
  let a := e.getAppArgs
  unless a.size == 4 do return .continue
  let r0 ← Simp.simp a[3]!
  let r := { r0 with expr := (← instantiateMVars r0.expr).cleanupAnnotations.headBeta }
  let pr ← match r.proof? with
    | none => pure none
    | some p => pure (some (← mkCongrArg (.lam `z (← inferType a[3]!) (mkApp4 e.getAppFn a[0]! a[1]! a[2]! (.bvar 0)) .default) p))
  if r.expr.isAppOfArity ``Option.some 2 then
    return .visit { expr := mkApp2 (.const ``Option.some (e.getAppFn.constLevels!.drop 1)) a[1]! (mkApp a[2]! r.expr.appArg!).headBeta, proof? := pr }
  if r.expr.isAppOfArity ``Option.none 1 then
    return .done { expr := mkApp (.const ``Option.none (e.getAppFn.constLevels!.drop 1)) a[1]!, proof? := pr }
  return .done { expr := mkApp4 e.getAppFn a[0]! a[1]! a[2]! r.expr, proof? := pr }
section
variable (f g h : GS) (fa fb fc : GE) (fs : GA) (ft gt : GT) (lo hi : GO) (Γ : Gm) (i n : Nat) (o : O) (d : D) (ds : List D) (os : List O) (gg : GG) (M : GM) (op : List O → Option O) (mu : O → List O → Option (O × O)) (c : List O → O)
theorem ev_cons : gsCons f g Γ = (f Γ).bind fun p => match p.1 with
  | .nx => g p.2
  | .bk => some (.bk, p.2)
  | .ct => some (.ct, p.2)
  | .rt o => some (.rt o, p.2) := rfl
theorem ev_nil : gsNil Γ = some (.nx, Γ) := rfl
theorem ev_set : gsSet i fa Γ = (fa Γ).bind fun p => match p.1 with
  | .own o => if i < p.2.length then some (.nx, p.2.set i (some o)) else none
  | .var _ => none := rfl
theorem ev_ret : gsRet fa Γ = (fa Γ).bind fun p => match p.1 with
  | .own o => some (.rt o, p.2)
  | .var _ => none := rfl
theorem ev_ifS : gsIf ft f g Γ = (ft Γ).bind fun p => if p.1 = true then f p.2 else g p.2 := rfl
theorem ev_c : gC d Γ = some (.own (.frz d), Γ) := rfl
theorem ev_var : gVar i Γ = match Γ[i]? with
  | some (some (.frz d)) => some (.own (.frz d), Γ)
  | some (some _) => some (.var i, Γ)
  | _ => none := rfl
theorem ev_frz : gFrz fa Γ = (fa Γ).bind fun p => match p.1 with
  | .own o => some (.own (.frz o.d), p.2)
  | .var i => match p.2[i]? with
    | some (some o) => some (.own (.frz o.d), p.2.set i (some (.frz o.d)))
    | _ => none := rfl
theorem ev_aNil : gaNil Γ = some ([], Γ) := rfl
theorem ev_aCons : gaCons fa fs Γ = (fa Γ).bind fun p => (fs p.2).bind fun q => some (p.1 :: q.1, q.2) := rfl
theorem ev_op : gOp op fs Γ = (fs Γ).bind fun p => (seeL p.2 p.1).bind fun os => (op os).bind fun o => some (.own o, p.2) := rfl
theorem ev_T : gT fa Γ = (fa Γ).bind fun p => match p.1 with
  | .own (.frz (.bl b)) => some (b, p.2)
  | _ => none := rfl
theorem ev_none : goNone Γ = some (none, Γ) := rfl
theorem ev_some : goSome fa Γ = (fa Γ).bind fun p => (intR p.1).map fun i => (some i, p.2) := rfl
theorem ev_slice : gSlice fa lo hi Γ = (fa Γ).bind fun p => (lo p.2).bind fun q => (hi q.2).bind fun r => (seeR r.2 p.1).bind fun o => (slO o q.1 r.1).bind fun o' => some (.own o', r.2) := rfl
theorem ev_run (m : List Bool) : runM n m f os = (f (os.map some ++ List.replicate (n - os.length) none)).bind fun p => p.1.val.bind fun o => if p.2.length = n then some (o, keepM m (p.2.take os.length)) else none := rfl
theorem ev_sl_str (z : Str) : slO (.frz (.str z)) l u = if z.length ≤ 1000000 then some (.frz (.str (Txt.slice z l u))) else none := rfl
theorem ev_addI (a b : Int) : oAdd [.frz (.int a), .frz (.int b)] = some (.frz (.int (a + b))) := rfl
theorem ev_int (C : Int → Int → Bool) (q : Int → Int → D) (a b : Int) : oInt C q [.frz (.int a), .frz (.int b)] = if C a b = true then some (.frz (q a b)) else none := rfl
theorem ev_mulI (a b : Int) : oMulA [.frz (.int a), .frz (.int b)] = if (-(2 ^ 64) < a ∧ a < 2 ^ 64) ∨ (-(2 ^ 64) < b ∧ b < 2 ^ 64) then some (.frz (.int (a * b))) else none := rfl
theorem ev_ix (a : O) : oIx [a, .frz d] = oIx1 a d := rfl
theorem ev_len (a : O) : oLen [a] = (lenD a.d).map fun n => .frz (.int n) := rfl
theorem ev_see0 : seeL Γ [] = some [] := rfl
theorem ev_see1 (r : R) (rs : List R) : seeL Γ (r :: rs) = (seeR Γ r).bind fun o => (seeL Γ rs).bind fun os => some (o :: os) := rfl
theorem ev_seeO : seeR Γ (.own o) = some o := rfl
theorem ev_intR (k : Int) : intR (.own (.frz (.int k))) = some k := rfl
theorem ev_kf (m : List Bool) (x : Option O) : keepM (false :: m) (x :: Γ) = none :: keepM m Γ := rfl
theorem ev_kn (m : List Bool) : keepM m [] = [] := by
  cases m with
  | nil => rfl
  | cons b m => cases b <;> rfl
theorem ev_vr : (Fl.rt o).val = some o := rfl
theorem ev_d1 : (O.frz d).d = d := rfl
theorem ev_dl0 : O.dl [] = [] := rfl
theorem ev_dl1 : O.dl (o :: os) = o.d :: O.dl os := rfl
end
theorem ev_ixC (ns : List Int) (k : Int) : oIx1 (.frz (.scr ns)) (.int k) = (atI (ns.map D.int) k).map .frz := rfl
theorem ev_len3 (ns : List Int) : lenD (.scr ns) = some (ns.length : Int) := rfl
theorem ev_callF (M : GM) (fs : GA) (Γ : Gm) : gCallF M fs Γ = (fs Γ).bind fun p => (seeL p.2 p.1).bind fun os => (M ((O.dl os).map .frz)).bind fun r => match r.1 with
  | .frz d => (flatOf d).bind fun _ => some (.own (.frz d), p.2)
  | _ => none := rfl
theorem ev_fo_i (a : Int) : flatOf (.int a) = some (.int a) := rfl
end L2
set_option Elab.async false
set_option linter.all false
set_option maxRecDepth 100000
set_option maxHeartbeats 4000000
namespace L2
open PySem PySem.Spec PyProof.Rows
section
variable {X : Cx} {pins : List (Addr × Obj)} {s : Shared} {σ : St} {H : Hp}
theorem ne_rep (I : Inv X pins σ H s) {n m : Nat} {A : Around} {x y : V} {u v : Value} {d e : D} (rd : RepL X.K H [x] [d]) (re : RepL X.K H [y] [e]) (od : okD n d = true) (oe : okD m e = true) (ru : RelV x u) (rv : RelV y v) (hu : A.units + n < cLine) : SeqAt.RcNeAt A s u v (!eqD d e) := by
  have hu0 : A.units < cLine := by omega
  have s1 := shp_of I rd ru od
  have s2 := shp_of I re rv oe
  cases s1 with
  | none =>
    cases s2 with
    | none =>
      simp only [eqD]; exact SeqAt.RcNeAt.none_none
    | bool a2 =>
      simp only [eqD]; exact SeqAt.RcNeAt.none_bool a2
    | int a2 t2 =>
      simp only [eqD]; exact SeqAt.RcNeAt.none_int a2 t2
    | str a2 t2 =>
      simp only [eqD]; exact SeqAt.RcNeAt.none_str a2 t2
    | list l2 v2 r2 =>
      simp only [eqD]; exact SeqAt.RcNeAt.none_list l2 hu0
    | tuple l2 v2 r2 =>
      simp only [eqD]; exact SeqAt.RcNeAt.none_tuple l2 hu0
  | bool a1 =>
    cases s2 with
    | none =>
      simp only [eqD]; exact SeqAt.RcNeAt.bool_none a1
    | bool a2 =>
      simp only [eqD]; exact SeqAt.RcNeAt.bool_bool a1 a2
    | int a2 t2 =>
      simp only [eqD]; exact SeqAt.RcNeAt.bool_int a1 a2 t2
    | str a2 t2 =>
      simp only [eqD]; exact SeqAt.RcNeAt.bool_str a1 a2 t2
    | list l2 v2 r2 =>
      simp only [eqD]; exact SeqAt.RcNeAt.bool_list a1 l2 hu0
    | tuple l2 v2 r2 =>
      simp only [eqD]; exact SeqAt.RcNeAt.bool_tuple a1 l2 hu0
  | int a1 t1 =>
    cases s2 with
    | none =>
      simp only [eqD]; exact SeqAt.RcNeAt.int_none a1 t1
    | bool a2 =>
      simp only [eqD]; exact SeqAt.RcNeAt.int_bool a1 t1 a2
    | int a2 t2 =>
      simp only [eqD]; exact SeqAt.RcNeAt.int_int a1 t1 a2 t2
    | str a2 t2 =>
      simp only [eqD]; exact SeqAt.RcNeAt.int_str a1 t1 a2 t2
    | list l2 v2 r2 =>
      simp only [eqD]; exact SeqAt.RcNeAt.int_list a1 t1 l2 hu0
    | tuple l2 v2 r2 =>
      simp only [eqD]; exact SeqAt.RcNeAt.int_tuple a1 t1 l2 hu0
  | str a1 t1 =>
    cases s2 with
    | none =>
      simp only [eqD]; exact SeqAt.RcNeAt.str_none a1 t1
    | bool a2 =>
      simp only [eqD]; exact SeqAt.RcNeAt.str_bool a1 t1 a2
    | int a2 t2 =>
      simp only [eqD]; exact SeqAt.RcNeAt.str_int a1 t1 a2 t2
    | str a2 t2 =>
      simp only [eqD]; exact SeqAt.RcNeAt.str_str a1 t1 a2 t2
    | list l2 v2 r2 =>
      simp only [eqD]; exact SeqAt.RcNeAt.str_list a1 t1 l2 hu0
    | tuple l2 v2 r2 =>
      simp only [eqD]; exact SeqAt.RcNeAt.str_tuple a1 t1 l2 hu0
  | list l1 v1 r1 =>
    cases s2 with
    | none =>
      simp only [eqD]; exact SeqAt.RcNeAt.list_none l1 hu0
    | bool a2 =>
      simp only [eqD]; exact SeqAt.RcNeAt.list_bool a2 l1 hu0
    | int a2 t2 =>
      simp only [eqD]; exact SeqAt.RcNeAt.list_int a2 t2 l1 hu0
    | str a2 t2 =>
      simp only [eqD]; exact SeqAt.RcNeAt.list_str a2 t2 l1 hu0
    | list l2 v2 r2 =>
      rename_i a its ws es b its2 ws2 es2
      obtain ⟨n', rfl, od'⟩ := okD_lst od
      obtain ⟨m', rfl, oe'⟩ := okD_lst oe
      have la := v1.length
      have lb := v2.length
      have la' := r1.length
      have lb' := r2.length
      simp only [eqD]
      by_cases hl : es.length = es2.length
      · rw [eqDs_all its.toArray.size (by simp only [List.size_toArray]; omega) (by simp only [List.size_toArray]; omega)]
        refine SeqAt.RcNeAt.lists (A := A) l1 l2 (by simp only [List.size_toArray]; omega) hu0 fun j h1 h2 => ?_
        obtain ⟨x1, q1, q2, q3⟩ := rep_at r1 v1 h1
        obtain ⟨y1, p1, p2, p3⟩ := rep_at r2 v2 h2
        exact (eq_rep I n' m' q2 p2 (all_getD od' q3) (all_getD oe' p3) q1 p1 (by show A.units + 1 + n' < cLine; omega)).1
      · rw [eqDs_len hl]
        exact SeqAt.RcNeAt.lists_lengths (A := A) l1 l2 (by simp only [List.size_toArray, bne_iff_ne, ne_eq]; omega) hu0
    | tuple l2 v2 r2 =>
      simp only [eqD]; exact SeqAt.RcNeAt.list_tuple l1 l2 hu0
  | tuple l1 v1 r1 =>
    cases s2 with
    | none =>
      simp only [eqD]; exact SeqAt.RcNeAt.tuple_none l1 hu0
    | bool a2 =>
      simp only [eqD]; exact SeqAt.RcNeAt.tuple_bool a2 l1 hu0
    | int a2 t2 =>
      simp only [eqD]; exact SeqAt.RcNeAt.tuple_int a2 t2 l1 hu0
    | str a2 t2 =>
      simp only [eqD]; exact SeqAt.RcNeAt.tuple_str a2 t2 l1 hu0
    | list l2 v2 r2 =>
      simp only [eqD]; exact SeqAt.RcNeAt.tuple_list l1 l2 hu0
    | tuple l2 v2 r2 =>
      rename_i a its ws es b its2 ws2 es2
      obtain ⟨n', rfl, od'⟩ := okD_tup od
      obtain ⟨m', rfl, oe'⟩ := okD_tup oe
      have la := v1.length
      have lb := v2.length
      have la' := r1.length
      have lb' := r2.length
      have z := SeqAt.RcNeAt.tuples (A := A) (e := fun j => eqD (es.getD j .non) (es2.getD j .non)) l1 l2 hu0 fun j h1 h2 => by
        obtain ⟨x1, q1, q2, q3⟩ := rep_at r1 v1 h1
        obtain ⟨y1, p1, p2, p3⟩ := rep_at r2 v2 h2
        exact (eq_rep I n' m' q2 p2 (all_getD od' q3) (all_getD oe' p3) q1 p1 (by show A.units + 1 + n' < cLine; omega)).1
      simp only [eqD]
      by_cases hl : es.length = es2.length
      · rw [eqDs_all its.toArray.size (by simp only [List.size_toArray]; omega) (by simp only [List.size_toArray]; omega)]
        have e1 : its2.toArray.size = its.toArray.size := by simp only [List.size_toArray]; omega
        rw [e1, Nat.min_self, beq_self_eq_true, Bool.and_true] at z
        exact z
      · rw [eqDs_len hl]
        have e1 : (its.toArray.size == its2.toArray.size) = false := by rw [beq_eq_false_iff_ne]; simp only [List.size_toArray]; omega
        rw [e1, Bool.and_false] at z
        exact z
end
section
variable {X : Cx} {K : PySem.W.Frag}
def rNeA (K : PySem.W.Frag) : R2 := fun x y H Q => ∃ d e, RepL K H [x] [d] ∧ RepL K H [y] [e] ∧ okD 40 d = true ∧ okD 40 e = true ∧ Q (.bl (!eqD d e)) H
theorem op_neA (K : PySem.W.Frag) (hu : X.A.units + 40 < cLine) (hK : X.K = K := by rfl) : OpR X (compareOp .NotEq) (rNeA K) := by
  subst hK
  intro pins s σ H x y v u Q I rx ry h
  obtain ⟨d, e, r1, r2, o1, o2, q⟩ := h
  exact (ne_rep I r1 r2 o1 o2 rx ry hu) X.prog X.w _ _ ⟨.bl _, H, I, rfl, q⟩
def oNeA : List O → Option O
  | [a, b] => if okD 40 a.d = true ∧ okD 40 b.d = true then some (.frz (.bl (!eqD a.d b.d))) else none
  | _ => none
theorem ok_neA : OpOk K (r2L (rNeA K)) oNeA := by
  intro F H vs os o Q le see e res
  unfold oNeA at e
  split at e
  · split at e
    · cases e
      obtain ⟨x, y, B, C, rfl, h1, h2⟩ := see.two
      rename_i hh
      exact ⟨_, _, rfl, _, _, own_rep le h1, own_rep le h2, hh.1, hh.2, res.flat rfl⟩
    · cases e
  · cases e
end
end L2
set_option Elab.async false
set_option linter.all false
set_option maxRecDepth 100000
set_option maxHeartbeats 4000000
namespace L2
open PySem
end L2
set_option Elab.async false
set_option linter.all false
set_option maxRecDepth 100000
set_option maxHeartbeats 4000000
namespace L2
open PySem PySem.Spec PyProof.Rows
section
variable {X : Cx} {K : PySem.W.Frag} {fa fk fv : GE} {f : GS} {m : List Bool} {tg l : Expr} {t : TG} {gg : GG} {body : List Stmt} {p0 p1 pos : Pos}
end
end L2
set_option Elab.async false
set_option linter.all false
set_option maxRecDepth 100000
set_option maxHeartbeats 4000000
namespace L2
open PySem PySem.Spec PyProof.Rows
section
variable {X : Cx} {K : PySem.W.Frag} {fo f : GE} {fs : GA} {g : List O → Option O} {r : V → List V → Hp → VK → Prop} {o e : Expr} {es : List Expr} {name : Str} {id : String} {apos cpos pos : Pos}
end
end L2
set_option Elab.async false
set_option linter.all false
set_option maxRecDepth 100000
set_option maxHeartbeats 4000000
namespace L2
open PySem PySem.Spec PyProof.Rows
section
variable {X : Cx} {pins : List (Addr × Obj)} {σ : List (Option V)} {H : Hp} {s : Shared} {h' : Heap}
end
section
variable {X : Cx} {K : PySem.W.Frag} {fa fb : GE} {f : GS} {m : List Bool} {l l' : Expr} {elts : List Expr} {x1 : Nat} {tpos : Pos} {t : TG} {gg : GG} {body : List Stmt} {p0 p1 pos : Pos}
theorem lay_tup {F H : Hp} {σ : St} {Γ : Gm} {A : List Addr} {p : Addr} {ws : List V} (k : OK K F H σ Γ A) (hn : H p = none) : OK K (upd F p (.tup ws)) (upd H p (.tup ws)) σ Γ A ∧ Ext F H A (upd F p (.tup ws)) (upd H p (.tup ws)) A := by
  have hF : F p = none := k.le.free hn
  have np : ∀ a ∈ A, a ≠ p := fun a m z => k.os.there a m (by rw [z]; exact hn)
  refine ⟨⟨fun a o e => ?_, k.os.keep (same_upd hF) fun a m o e => by rw [upd_ne (np a m)]; exact e, k.nd, fun a m => by rw [upd_ne (np a m)]; exact k.fr a m⟩, ⟨same_upd hF, fun a o e _ => same_upd hn a o e, fun a h z => h ((same_upd hn).free z), fun a h => ?_, fun a m => .inl m⟩⟩
  · by_cases z : a = p
    · subst z; rw [upd_same] at e ⊢; exact e
    · rw [upd_ne z] at e ⊢; exact k.le a o e
  · by_cases z : a = p
    · subst z; exact .inr (.inr hn)
    · rw [upd_ne z] at h; exact .inl h
theorem LI.tup {m : List Bool} {gg : GG} {f : GS} {t : TG} {F1 H1 : Hp} {σ : St} {ds es : List D} {i : Nat} {E : Ends} {fl : Fl} {Γ' : Gm} {p : Addr} {us : List V} (q : LI K m gg f E F1 fl Γ' ds i σ H1) (ht : TgOk K m t gg) (hn : H1 p = none) (hd : ds[i]? = some (.tup es)) (r : RepL K F1 us es) :
    t (.ref p) σ (upd H1 p (.tup us)) fun σ2 H2 => tS K m f { E with nx := LI K m gg f E F1 fl Γ' ds (i + 1), ct := LI K m gg f E F1 fl Γ' ds (i + 1), bk := E.nx } σ2 H2 := by
  obtain ⟨F', A', Γc, k', e', w', s'⟩ := q
  obtain ⟨k2, x2⟩ := lay_tup (ws := us) k' hn
  have s2 : Same F1 (upd F' p (.tup us)) := s'.trans x2.ff
  obtain ⟨hi, he⟩ := List.getElem?_eq_some_iff.mp hd
  rw [List.drop_eq_getElem_cons hi, he] at e'
  exact loop_turn ht k2 (.tup (.inl (.inl upd_same)) (r.mono s2) .nil) e' (w'.step x2 Kept.refl) fun F2 H2 σ2 Γ3 A2 x3 k3 e3 w3 => ⟨F2, A2, Γ3, k3, e3, w3, s2.trans x3.ff⟩
end
end L2
set_option Elab.async false
set_option linter.all false
set_option maxRecDepth 100000
set_option maxHeartbeats 4000000
namespace L2
open PySem PySem.Spec PyProof.Rows
section
variable {X : Cx} {K : PySem.W.Frag} {fa fo : GE} {fs : GA} {f : GS} {m : List Bool} {e o : Expr} {es : List Expr} {tg : Expr} {t : TG} {gg : GG} {pos apos cpos : Pos} {name : Str} {idn : String} {g : List O → Option O} {r : V → List V → Hp → VK → Prop}
end
end L2
set_option Elab.async false
set_option linter.all false
set_option maxRecDepth 100000
set_option maxHeartbeats 4000000
namespace L2
open PySem PySem.Spec PyProof.Rows
section
variable {prog : Program} {w : World} {A : Around} {E : Value → Shared → Prop} {h : Heap} {g : Array GenState} {d : Drawn} {t : Nat} {os : OsState}
variable {nm q : Str} {C N : Addr} {bs bm bmB : List Value} {hdct : Bool} {sn : List Str} {sub : List Value} {ab : Bool} {col : Option Bool} {dd : Option Addr} {k0 k1 k2 k3 k5 : Option Value} {B Bn newId nid initId inN : String} {bmN : List Value}
theorem tcall (Fn : ExcBaseFacts Bn newId inN bmN) (hBn : bmB.contains (.type Bn) = true) (F : ExcBaseFacts B nid initId bmB) (T : OwnTail h bmB bm) {mN : Str → Option Value} {rest : List Value} {Q : Fin → Shared → Prop}
    (hC : h.get? C = some (excClassObj nm q C N bs bm hdct sn sub ab col dd k0 k1 k2 k3 k5 newId)) (hn : h.Ns N mN) (hrest : rest.length ≤ sizeLine)
    (hq : ∀ i, i = (mN "__init__").getD (.builtin initId) → wpAny (model prog w) A (bindSpecial i (.ref (h.objs.size + 1))) (fun p s' => wpAny (model prog w) A (call p.1 (p.2 ++ rest)) (fun r s'' => r = .none ∧ Q (.done (.ret (.ref (h.objs.size + 1)))) s'') E s') E ⟨((h.push { cls := .type "tuple", data := .seq rest.toArray }).push { cls := .ref C, data := .fields #[.ref h.objs.size, .none, .none, .none, .bool false, .none] }), g, d, t, os⟩) :
    wpAny (model prog w) A (Builtin.«type.__call__» ⟨.ref C :: rest, []⟩) Q E ⟨h, g, d, t, os⟩ := by
  repeat (first | with_reducible refine wpAny_loadPart_at hC ?_ | with_reducible refine wpAny_madeBy_exc hC ?_ | wp_step)
  refine codeAny_call_builtin_code (Code.quiet_builtin _ Fn.quiet) (wpAny_check_new_subU Fn hBn T hC (codeAny_exc_new_subU Fn hBn F T hC ?_ hrest))
  show wpAny _ _ _ _ _ _
  have st : ∀ b o, h.get? b = some o → ((h.push { cls := .type "tuple", data := .seq rest.toArray }).push { cls := .ref C, data := .fields #[.ref h.objs.size, .none, .none, .none, .bool false, .none] }).get? b = some o := fun b o e => Heap.get?_push_of_some _ (Heap.get?_push_of_some _ e)
  have hC₁ := st _ _ hC
  have hget : ((h.push { cls := .type "tuple", data := .seq rest.toArray }).push { cls := .ref C, data := .fields #[.ref h.objs.size, .none, .none, .none, .bool false, .none] }).get? (h.objs.size + 1) = some { cls := .ref C, data := .fields #[.ref h.objs.size, .none, .none, .none, .bool false, .none] } := by heap_get
  have hcC : (Value.ref C :: bm).contains (.ref C) = true := by simp
  unfold isInstance
  repeat (first | with_reducible refine wpAny_loadPart_at hget ?_ | (with_reducible refine wpAny_isSubtype_exc hC₁ ?_; rw [hcC]) | wp_step)
  show wpAny _ _ (typeLookup (.ref C) _) _ _ _
  refine wpAny_typeLookup_tail hC₁ (hn.keeps st) (T.keeps st) F.mroIs F.init.lookup ?_
  cases hv : mN "__init__" with
  | none =>
    refine wpAny_holding (wpAny_bind (wpAny_mono (hq _ (by rw [hv]; rfl)) (fun p s' z => wpAny_bind (wpAny_mono z (fun r s'' y => ?_) fun _ _ y => y)) fun _ _ y => y))
    obtain ⟨rfl, y⟩ := y
    wp_walk
    exact y
  | some v =>
    refine wpAny_holding (wpAny_bind (wpAny_mono (hq _ (by rw [hv]; rfl)) (fun p s' z => wpAny_bind (wpAny_mono z (fun r s'' y => ?_) fun _ _ y => y)) fun _ _ y => y))
    obtain ⟨rfl, y⟩ := y
    wp_walk
    exact y
theorem call_exc (Fn : ExcBaseFacts Bn newId inN bmN) (hBn : bmB.contains (.type Bn) = true) (F : ExcBaseFacts B nid initId bmB) (T : OwnTail h bmB bm) {mN : Str → Option Value} {rest : List Value} {Q : Value → Shared → Prop}
    (hC : h.get? C = some (excClassObj nm q C N bs bm hdct sn sub ab col dd k0 k1 k2 k3 k5 newId)) (hn : h.Ns N mN) (hrest : rest.length ≤ sizeLine)
    (hq : ∀ i, i = (mN "__init__").getD (.builtin initId) → wpAny (model prog w) (A.under (.builtin "type.__call__" ⟨.ref C :: rest, []⟩)) (bindSpecial i (.ref (h.objs.size + 1))) (fun p s' => wpAny (model prog w) (A.under (.builtin "type.__call__" ⟨.ref C :: rest, []⟩)) (call p.1 (p.2 ++ rest)) (fun r s'' => r = .none ∧ Q (.ref (h.objs.size + 1)) s'') E s') E ⟨((h.push { cls := .type "tuple", data := .seq rest.toArray }).push { cls := .ref C, data := .fields #[.ref h.objs.size, .none, .none, .none, .bool false, .none] }), g, d, t, os⟩) :
    wpAny (model prog w) A (call (.ref C) rest) Q E ⟨h, g, d, t, os⟩ := by
  have f1 := tc_lookup
  have f2 := tc_bind (.ref C)
  have hT : (⟨h, g, d, t, os⟩ : Shared).TypeIs (.ref C) "type" := ⟨_, hC, rfl⟩
  refine wpAny_call (codeAny_of_tree (show wpAny _ _ (callAny (.ref C) _) _ _ _ from ?_))
  repeat (any_goals (first | assumption | with_reducible refine wpAny_loadPart_at hC ?_ | wp_step))
  exact ⟨rfl, codeAny_call_builtin_at (Code.quiet_builtin _ (by decide +kernel)) entry_typeCall (wpAny_check_type_call_sub hC (tcall Fn hBn F T hC hn hrest fun i e => hq i e))⟩
end
end L2
set_option Elab.async false
set_option linter.all false
set_option maxRecDepth 100000
set_option maxHeartbeats 4000000
namespace L2
open PySem PySem.Spec PySem.W PySem.Calls PyProof.Rows
section
variable {prog : Program} {w : World} {A : Around} {E : Value → Shared → Prop} {s : Shared} {K : Frag} {x C : Addr} {ox : Obj} {od : Option Obj} {name : Str} {tk : Tok}
theorem xga_check {nameV : Value} {Q : Unit → Shared → Prop} (X : K.In s.heap) (I : InstAt s.heap x ox C od) (hb : subIn K (.ref C) (.type "BaseException") = some true) (hq : Q () s) :
    wpAny (model prog w) A (checkBuiltinCall "BaseException.__getattribute__" ⟨[.ref x, nameV], []⟩) Q E s := by
  have hk : builtinKind "BaseException.__getattribute__" = some .slot := by decide +kernel
  have hsplit : splitId "BaseException.__getattribute__" = some ("BaseException", "__getattribute__") := by decide +kernel
  have LI : Looks (model prog w) s.heap (isInstance (.ref x) (.type "BaseException")) true := I.type.andThen (looks_subIn X hb)
  have ha := F.args_bexc_ga (.ref x) nameV
  simp only [checkBuiltinCall, hk, hsplit]
  refine wpAny_bind (LI.at ?_)
  repeat (any_goals (first | assumption | wp_step))
theorem xga_val {v : Value} {Q : Fin → Shared → Prop} (X : K.In s.heap) (I : InstAt s.heap x ox C od) (hf : findObj K C od name = some (.value v)) (hq : Q (.done (.ret v)) s) :
    wpAny (model prog w) A (Builtin.«object.__getattribute__» ⟨[.ref x, .str name tk], []⟩) Q E s := by
  have L0 := I.type (M := model prog w)
  have L1 := looks_find (M := model prog w) X I hf
  unfold Builtin.«object.__getattribute__»
  repeat (any_goals (first | assumption | with_reducible refine wpAny_bind (L0.at ?_) | with_reducible refine wpAny_bind (L1.at ?_) | wp_step))
theorem xga_bind {g a v : Value} {Q : Fin → Shared → Prop} (X : K.In s.heap) (I : InstAt s.heap x ox C od) (hf : findObj K C od name = some (.bind g a)) (hc : ∀ R : Result → Shared → Prop, R (.ok (.ret v)) s → codeAny (model prog w) A (.call g ⟨[a, .ref x, .ref C], []⟩) R s) (hq : Q (.done (.ret v)) s) :
    wpAny (model prog w) A (Builtin.«object.__getattribute__» ⟨[.ref x, .str name tk], []⟩) Q E s := by
  have L0 := I.type (M := model prog w)
  have L1 := looks_find (M := model prog w) X I hf
  unfold Builtin.«object.__getattribute__»
  repeat (any_goals (first | assumption | with_reducible refine wpAny_bind (L0.at ?_) | with_reducible refine wpAny_bind (L1.at ?_) | wp_step))
  refine hc _ ?_
  repeat (any_goals (first | assumption | wp_step))
theorem xga_by {fill expr : Bool} {v : Value} {Q : Value → Shared → Prop} (X : K.In s.heap) (I : InstAt s.heap x ox C od) (hb : subIn K (.ref C) (.type "BaseException") = some true)
    (hg : findIn K (.ref C) "__getattribute__" = some (some (.builtin "BaseException.__getattribute__"))) (hn : findIn K (.ref C) "__getattr__" = some none)
    (hr : ∀ (A : Around) (E : Value → Shared → Prop) (Q : Fin → Shared → Prop), Q (.done (.ret v)) s → wpAny (model prog w) A (Builtin.«object.__getattribute__» ⟨[.ref x, .str name tk], []⟩) Q E s) (hh : handedIn v = true) (hq : Q v s) :
    wpAny (model prog w) A (getAttrBy (.ref x) (.str name tk) fill expr) Q E s := by
  have L0 := I.type (M := model prog w)
  have L1 := looks_findIn (M := model prog w) X hg
  have L2 := looks_findIn (M := model prog w) X hn
  have f3 := F.attrBase_ValueError.ga.bind (.ref x)
  have hx0 : (expr && onTheHeap (Value.builtin "BaseException.__getattribute__")) = false := by cases expr <;> rfl
  have hx1 : (onTheHeap (Value.ref C) && Value.builtin "BaseException.__getattribute__" == Value.builtin "object.__getattribute__") = false := by rw [show (Value.builtin "BaseException.__getattribute__" == Value.builtin "object.__getattribute__") = false by decide +kernel]; rfl
  unfold getAttrBy
  refine wpAny_holding (wpAny_bind (L0.at (wpAny_bind (L1.at ?_))))
  dsimp only
  rw [if_neg (by rw [hx1]; exact Bool.false_ne_true)]
  unfold getAttrByItsOwn hookBefore
  refine wpAny_bind (L2.at (wpAny_bind (wpAny_attempt (wpAny_holding ?_))))
  unfold callGetattribute
  rw [if_neg (by rw [hx0]; exact Bool.false_ne_true)]
  unfold boundAndCalled
  refine wpAny_bind (wpAny_of_eq f3 (wpAny_call (codeAny_call_builtin F.attrBase_ValueError.ga.plain F.entry_bexc_ga (xga_check X I hb (hr _ _ _ ?_)))))
  exact handed_on hh hq
theorem xga_attr {expr : Bool} {v : Value} {Q : Value → Shared → Prop} (X : K.In s.heap) (I : InstAt s.heap x ox C od) (hb : subIn K (.ref C) (.type "BaseException") = some true)
    (hg : findIn K (.ref C) "__getattribute__" = some (some (.builtin "BaseException.__getattribute__"))) (hn : findIn K (.ref C) "__getattr__" = some none) (hf : findObj K C od name = some (.value v)) (hh : handedIn v = true) (hq : Q v { s with toks := s.toks + 1 }) :
    wpAny (model prog w) A (getAttr (.ref x) name expr) Q E s := by
  unfold getAttr
  exact wpAny_bind (wpAny_mkText (xga_by (s := { s with toks := s.toks + 1 }) X I hb hg hn (fun A E Q q => xga_val (s := { s with toks := s.toks + 1 }) X I hf q) hh hq))
theorem xga_class {Q : Option Value → Shared → Prop} (X : K.In s.heap) (I : InstAt s.heap x ox C od) (hb : subIn K (.ref C) (.type "BaseException") = some true)
    (hg : findIn K (.ref C) "__getattribute__" = some (some (.builtin "BaseException.__getattribute__"))) (hn : findIn K (.ref C) "__getattr__" = some none) (hf : findObj K C od "__class__" = some (.bind (.builtin "getset_descriptor.__get__") (.builtin "object.__class__"))) (hm : mroIn K C (.type "object") = some true)
    (hq : Q (some (.ref C)) { s with toks := s.toks + 1 }) : wpAny (model prog w) A (getAttr? (.ref x) "__class__") Q E s := by
  unfold getAttr? getAttrBy?
  exact wpAny_bind (wpAny_mkText (wpAny_bind (wpAny_attempt (xga_by (s := { s with toks := s.toks + 1 }) X I hb hg hn (fun A E Q q => xga_bind (s := { s with toks := s.toks + 1 }) X I hf (fun R r => class_get (s := { s with toks := s.toks + 1 }) X I hm r) q) rfl (wpAny_pure hq)))))
theorem kitx_exc {ox : Obj} (hb : subIn K (.ref C) (.type "BaseException") = some true)
    (hg : findIn K (.ref C) "__getattribute__" = some (some (.builtin "BaseException.__getattribute__"))) (hn : findIn K (.ref C) "__getattr__" = some none) (hf : findObj K C od "__class__" = some (.bind (.builtin "getset_descriptor.__get__") (.builtin "object.__class__"))) (hm : mroIn K C (.type "object") = some true) (hd : hasDictIn K C = true) :
    KitX K (.ref x) (.ref C) (fun h => InstAt h x ox C od) where
  ty := fun _ _ _ I => I.type
  it := fun _ _ X _ => by
    obtain ⟨cdD, hcD, _⟩ := any_some hd
    unfold clsIn at hcD
    split at hcD
    · rename_i c' d' cd' sl' ho
      intro A' Q' E' s' k q
      unfold isType loadHead
      exact wpAny_bind (wpAny_loadPart (k _ _ (X _ _ ho)) (wpAny_pure q))
    · cases hcD
  ne := fun h tp dd its n sl X htp => by
    obtain ⟨cdD, hcD, _⟩ := any_some hd
    refine Bool.eq_false_iff.mpr fun q => ?_
    cases Value.ref.inj (beq_iff_eq.mp q)
    unfold clsIn at hcD
    split at hcD
    · rename_i c' d' cd' sl' ho
      cases (X _ _ ho).symm.trans htp
    · cases hcD
  ca := fun X I k => xga_class X I hb hg hn hf hm k
end
end L2
set_option Elab.async false
set_option linter.all false
set_option maxRecDepth 100000
set_option maxHeartbeats 4000000
namespace L2
open PySem PySem.Spec PySem.W PySem.Calls PyProof.Rows Builtin Builtin.ObjectAttr
section
variable {prog : Program} {w : World} {A : Around} {E : Value → Shared → Prop} {s : Shared} {K : Frag} {x C B0 t : Addr} {name : Str} {tk : Tok} {v : Value} {cd : ClassData}
theorem inst_exc {h : Heap} (hx : h.get? x = some (excO C t none)) : InstAt h x (excO C t none) C none := ⟨hx, rfl, rfl, True.intro⟩
theorem inst_excD {h : Heap} {d : Addr} {od : Obj} (hx : h.get? x = some (excO C t (some d))) (hd : h.get? d = some od) : InstAt h x (excO C t (some d)) C (some od) := ⟨hx, rfl, rfl, hd⟩
theorem xsa_store {Q : Fin → Shared → Prop} {b : Bool} (X : K.In s.heap) (hx : s.heap.get? x = some (excO C t none)) (hcd : clsIn K C = some cd) (hdct : cd.hasDict = true)
    (hq : ∀ h' tk', h'.get? x = some (excO C t (some s.heap.objs.size)) → h'.Ns1 s.heap.objs.size (fun y => if y = name then some v else none) → (∀ b o, b ≠ x → s.heap.get? b = some o → h'.get? b = some o) → Q (.done (.ret .none)) { s with heap := h', toks := tk' }) :
    wpAny (model prog w) A (storeInOwnDict (.ref x) (.ref C) (.str name tk) name v b) Q E s := by
  obtain ⟨h, g, d, tt, os⟩ := s
  have hx₁ : (h.push { cls := .type "dict", data := .dict #[] }).get? x = some (excO C t none) := Heap.get?_push_of_some _ hx
  have hxs : x ≠ h.objs.size := Nat.ne_of_lt (Heap.lt_size hx)
  refine wpAny_bind (wpAny_pure (wpAny_bind (wpAny_bind (wpAny_loadPart hx (wpAny_bind ((looks_clsIn X hcd).here ?_))))))
  rw [hdct]
  have gx : ((h.push { cls := .type "dict", data := .dict #[] }).update x fun o => { o with dict := some h.objs.size }).get? x = some (excO C t (some h.objs.size)) := Heap.get?_update_self _ hx₁ rfl
  have gd : ((h.push { cls := .type "dict", data := .dict #[] }).update x fun o => { o with dict := some h.objs.size }).get? h.objs.size = some { cls := .type "dict", data := .dict #[] } := (Heap.get?_update_ne _ _ _ _ hxs.symm).trans (Heap.get?_push_at rfl rfl)
  have go : ∀ b o, b ≠ x → h.get? b = some o → ((h.push { cls := .type "dict", data := .dict #[] }).update x fun o => { o with dict := some h.objs.size }).get? b = some o := fun b o n e => (Heap.get?_update_ne _ _ _ _ n).trans (Heap.get?_push_of_some _ e)
  refine wpAny_bind (wpAny_alloc' (wpAny_bind (wpAny_update' hx₁ (wpAny_pure ?_))))
  show wpAny _ _ (storeInDict h.objs.size (.str name tk) name v) _ _ _
  unfold storeInDict newKeyGuard
  refine wpAny_bind (wpAny_pure (wpAny_bind (wpAny_nsSet1 (Heap.Ns1.of_empty ⟨_, #[], _, gd, rfl, fun e he => absurd he (by simp), fun _ => rfl⟩) fun h' hn' hs => ?_)))
  obtain ⟨oD, esD, epD, hoD, hdD, hcD⟩ := hn'.count (Within.cons name v Within.nil)
  refine wpAny_bind (wpAny_lookBehind hoD (by rw [hdD]; exact pastItsLine_dict (Nat.le_trans hcD (by rw [List.length_cons, List.length_nil, sizeLine_eq]; omega))) ?_)
  wp_walk
  exact hq h' _ ((hs.2 x hxs).trans gx) hn' (fun b o n e => (hs.2 b (Nat.ne_of_lt (Heap.lt_size e))).trans (go b o n e))
theorem xsa {Q : Unit → Shared → Prop} (X : K.In s.heap) (hx : s.heap.get? x = some (excO C t none)) (hs : findIn K (.ref C) "__setattr__" = some (some (.builtin "object.__setattr__"))) (hcd : clsIn K C = some cd)
    (hmro : cd.mro = [.ref C, .ref B0, .type "ValueError", .type "Exception", .type "BaseException", .type "object"]) (hdct : cd.hasDict = true) (hname : findIn K (.ref C) name = some none) (hsub : subIn K (.ref C) (.type "object") = some true)
    (hq : ∀ h' tk', h'.get? x = some (excO C t (some s.heap.objs.size)) → h'.Ns1 s.heap.objs.size (fun y => if y = name then some v else none) → (∀ b o, b ≠ x → s.heap.get? b = some o → h'.get? b = some o) → Q () { s with heap := h', toks := tk' }) :
    wpAny (model prog w) A (setAttr (.ref x) name v) Q E s := by
  have I := inst_exc hx
  have SF := F.store_object
  have sub : Looks (model prog w) s.heap (isInstance (.ref x) (.type "object")) true := I.type.andThen (looks_subIn X hsub)
  have hm : Looks (model prog w) s.heap (mroOf (.ref C)) cd.mro := (looks_clsIn X hcd).andThen .now
  refine set_plain X I hs (codeAny_call_builtin SF.slot.plain SF.entry (@check_slot (model prog w) _ _ { s with toks := s.toks + 1 } "object.__setattr__" "object" "__setattr__" (.ref x) [.str name s.toks, v] [] _ SF.kind SF.split sub (SF.args (.ref x) (.str name s.toks) v) ?_))
  rw [osa_eq, refuse_eq]
  have L0 := I.type (M := model prog w)
  refine wpAny_bind (wpAny_bind (L0.at (wpAny_bind (hm.at ?_))))
  rw [hmro, refuseLoop_ref, refuseLoop_ref, F.store_ValueError.passes]
  refine wpAny_pure (wpAny_bind (L0.at (wpAny_bind ((looks_findIn X hname).at (wpAny_bind (wpAny_pure ?_))))))
  exact xsa_store (s := { s with toks := s.toks + 1 }) X hx hcd hdct fun h' tk' e1 e2 e3 => hq h' tk' e1 e2 e3
end
section
variable {prog : Program} {w : World} {A : Around} {E : Value → Shared → Prop} {h : Heap} {g : Array GenState} {d : Drawn} {tt : Nat} {os : OsState} {x t : Addr}
variable {nm q : Str} {C N : Addr} {bs bm bmB : List Value} {hdct : Bool} {sn : List Str} {sub : List Value} {ab : Bool} {col : Option Bool} {dd : Option Addr} {k0 k1 k2 k3 k5 : Option Value} {newId : String}
theorem xinit {u : Value} {Q : Value → Shared → Prop} (T : OwnTail h [.type "ValueError", .type "Exception", .type "BaseException", .type "object"] bm) (hC : h.get? C = some (excClassObj nm q C N bs bm hdct sn sub ab col dd k0 k1 k2 k3 k5 newId)) (hx : h.get? x = some (excO C t none))
    (hq : ∀ h', h'.get? x = some (excO C h.objs.size none) → (∀ b o, b ≠ x → h.get? b = some o → h'.get? b = some o) → Q .none ⟨h', g, d, tt, os⟩) :
    wpAny (model prog w) A (call (.builtin "ValueError.__init__") [.ref x, u]) Q E ⟨h, g, d, tt, os⟩ := by
  have FB := F.excBase_ValueError
  have hx' : h.get? x = some { cls := .ref C, data := .fields #[.ref t, .none, .none, .none, .bool false, .none] } := hx
  refine wpAny_call (codeAny_call_builtin FB.init.plain FB.initEntry (wpAny_check_init_subU FB T hC hx' rfl ?_))
  wp_walk
  refine hq _ ?_ fun b o n e => ?_
  · rw [Heap.get?_update_self _ (Heap.get?_push_of_some _ hx') rfl]
    rfl
  · rw [Heap.get?_update_other _ _ (Ne.symm n)]
    exact Heap.get?_push_of_some _ e
end
end L2
set_option Elab.async false
set_option linter.all false
set_option maxRecDepth 100000
set_option maxHeartbeats 4000000
namespace L2
open PySem PySem.Spec PySem.W PySem.Calls PyProof.Rows
abbrev bmV : List Value := [.type "ValueError", .type "Exception", .type "BaseException", .type "object"]
def ErrC (K : Frag) (C : Addr) (bm : List Value) (ini : Option Value) : Prop := ∃ nm q N bs sn sub ab col dd k0 k1 k2 k3 k5 on odn es ep sln,
  K.lookup C = some (excClassObj nm q C N bs bm true sn sub ab col dd k0 k1 k2 k3 k5 "ValueError.__new__") ∧ K.lookup N = some ⟨on, odn, .dict es ep, sln⟩ ∧ StrKeys es ∧ nsFind es "__init__" = ini
def exH (C t : Addr) : HO := .frz (excO C t none) (.own 0)
def tExc (C : Addr) (t : TA) : TE := fun σ H Q => t σ H fun vs H1 => vs.length = 1 ∧ ∀ x t, H1 x = none → Q (.ref x) (upd H1 x (exH C t))
section
variable {X : Cx} {pins : List (Addr × Obj)} {σ : St} {H : Hp} {s : Shared} {Q : VK} {C B0 : Addr} {x : Str} {p pos : Pos} {e : Expr} {t : TA}
theorem run_exc {u : Value} (G : ErrC X.K C (.ref B0 :: bmV) none) (G0 : ErrC X.K B0 bmV none) (I : Inv X pins σ H s) (h : ∀ x t, H x = none → Q (.ref x) (upd H x (exH C t))) :
    wpAny (model X.prog X.w) X.A (call (.ref C) [u]) (EP X pins σ Q) X.xe s := by
  obtain ⟨hh, g, d, tt, os⟩ := s
  have KX : X.K.In hh := I.kIn
  obtain ⟨nm, q, N, bs, sn, sub, ab, col, dd, k0, k1, k2, k3, k5, on, odn, es, ep, sln, g1, g2, g3, g4⟩ := G
  obtain ⟨nm', q', N', bs', sn', sub', ab', col', dd', k0', k1', k2', k3', k5', on', odn', es', ep', sln', g1', g2', g3', g4'⟩ := G0
  have FB := F.excBase_ValueError
  have T : OwnTail hh bmV (.ref B0 :: bmV) := .own (KX _ _ g1') (mA := fun n => nsFind es' n) ⟨_, _, _, KX _ _ g2', rfl, g3', fun _ => rfl⟩ g4' .base
  have nf : H (hh.objs.size + 1) = none := I.hok.fresh (Nat.le_succ _)
  refine call_exc FB rfl FB T (KX _ _ g1) (mN := fun n => nsFind es n) ⟨_, _, _, KX _ _ g2, rfl, g3, fun _ => rfl⟩ (by rw [sizeLine_eq]; exact (by decide : 1 ≤ 16777216)) fun i ei => ?_
  rw [g4] at ei
  subst ei
  have st : ∀ b o, hh.get? b = some o → ((hh.push { cls := .type "tuple", data := .seq [u].toArray }).push { cls := .ref C, data := .fields #[.ref hh.objs.size, .none, .none, .none, .bool false, .none] }).get? b = some o := fun b o e => Heap.get?_push_of_some _ (Heap.get?_push_of_some _ e)
  have hget : ((hh.push { cls := .type "tuple", data := .seq [u].toArray }).push { cls := .ref C, data := .fields #[.ref hh.objs.size, .none, .none, .none, .bool false, .none] }).get? (hh.objs.size + 1) = some (excO C hh.objs.size none) := by unfold excO; heap_get
  refine wpAny_of_eq (FB.init.bind _) (xinit (T.keeps st) (st _ _ (KX _ _ g1)) hget fun h' e1 e2 => ?_)
  have J : Inv X pins σ (upd H (hh.objs.size + 1) (exH C _)) ⟨h', g, d, tt, os⟩ := I.laid (t' := tt) (fun b o z => e2 b o (Nat.ne_of_lt (Nat.lt_succ_of_lt (Heap.lt_size z))) (st b o z)) (Nat.le_succ _) ⟨e1, _, e1⟩
  exact ⟨rfl, .ref (hh.objs.size + 1), _, J, rfl, h _ _ nf⟩
theorem pe_exc (G : ErrC X.K C (.ref B0 :: bmV) none) (G0 : ErrC X.K B0 bmV none) (hk : keepIn X.K (.ref C) = true) (hg : Gl X x) (hm : X.mg x = some (.ref C)) (ha : PA X [e] t) (hdb : (x == ("__debug__" : Str)) = false := by decide)
    (he : starEach [e] X.env = (false, eval e X.env) :: starEach [] X.env := by rfl) (hpl : (backTo pos (starEach [] X.env)).any (·.1) = false := by rfl) : PE X (.Call (.Name x p) [e] [] pos) (tExc C t) := by
  intro pins s σ H Q I h
  refine wpAny_Call_Name_kw (ld_glob I hg hm ?_ hdb)
  refine PySem.W.callWith_K (h₀ := X.base) I.ok.mod.kin hk (thn (ha pos pins s σ H _ I h) fun us s1 ⟨vs, H1, I1, r, hl, q⟩ => ⟨I1.kIn, ?_⟩) he hpl
  obtain ⟨u, rfl⟩ := len_1 (show 1 = us.length by rw [← hl, r.length])
  exact run_exc G G0 I1 q
end
end L2
set_option Elab.async false
set_option linter.all false
set_option maxRecDepth 100000
set_option maxHeartbeats 4000000
namespace L2
open PySem PySem.Spec PySem.W PySem.Calls PyProof.Rows
structure IsErr (K : Frag) (C : Addr) : Prop where
  g : findIn K (.ref C) "__getattribute__" = some (some (.builtin "BaseException.__getattribute__"))
  n : findIn K (.ref C) "__getattr__" = some none
  c : findIn K (.ref C) "__class__" = some (some (.builtin "object.__class__"))
  s : specialIn K (.builtin "object.__class__") "__get__" = some (some (.builtin "getset_descriptor.__get__"))
  t : takesIn K (.builtin "object.__class__") = some true
section
variable {K : Frag} {C C' B0 a : Addr} {bm bm' : List Value} {i i' : Option Value} {l : Option Int}
theorem ErrC.cls (G : ErrC K C bm i) : ∃ cd, clsIn K C = some cd ∧ cd.mro = .ref C :: bm ∧ cd.hasDict = true ∧ typeIn K (.ref C) = some (.type "type") := by
  obtain ⟨nm, q, N, bs, sn, sub, ab, col, dd, k0, k1, k2, k3, k5, on, odn, es, ep, sln, g1, g2, g3, g4⟩ := G
  exact ⟨_, by unfold clsIn; rw [g1], rfl, rfl, by show (K.lookup C).map (·.cls) = _; rw [g1]; rfl⟩
theorem ErrC.sub (G : ErrC K C bm i) (b : Value) : subIn K (.ref C) b = some ((Value.ref C :: bm).contains b) := by
  obtain ⟨cd, c1, c2, c3, c4⟩ := G.cls
  show mroIn K C b = _
  unfold mroIn
  rw [c1, Option.bind_some, c2]
  rfl
theorem ErrC.kitC (G : ErrC K C bm i) (G' : ErrC K C' bm' i') : kitOne K (.ref C) (.ref C') = some ((Value.ref C :: bm).contains (.ref C')) := by
  obtain ⟨cd, c1, c2, c3, c4⟩ := G'.cls
  unfold kitOne
  split
  · rename_i e
    cases beq_iff_eq.1 e
    simp
  · unfold kitCls
    dsimp only
    rw [if_pos (by rw [c1, c4]; rfl)]
    exact G.sub _
theorem ErrC.kitT (G : ErrC K C (.ref B0 :: bmV) i) : kitOne K (.ref C) (.type "ValueError") = some true := by
  unfold kitOne
  rw [if_neg (fun e => by cases beq_iff_eq.1 e)]
  unfold kitCls
  dsimp only
  rw [if_pos (by decide +kernel), G.sub]
  rfl
theorem exc_inst {X : Cx} {pins : List (Addr × Obj)} {σ : St} {H : Hp} {s : Shared} (I : Inv X pins σ H s) (h : ExcA H a C l) : ∃ ox od, InstAt s.heap a ox C od ∧ ∀ n, l = some n → ∃ t, ∃ o, od = some o ∧ lookIn "line" o = some (some (.int n t)) := by
  cases l with
  | none =>
    obtain ⟨t, e⟩ := h
    obtain ⟨z, _⟩ := I.hok _ _ e
    exact ⟨_, none, inst_exc z, fun n e => by cases e⟩
  | some n =>
    obtain ⟨t, dx, e, q⟩ := h
    obtain ⟨z, _⟩ := I.hok _ _ e
    obtain ⟨mA, ns, r⟩ := I.hok _ _ q
    obtain ⟨od, o1, o2⟩ := lookIn_ns ns
    refine ⟨_, some od, inst_excD z o1, fun m e => ?_⟩
    cases e
    have r' := r "line"
    rw [show List.lookup (Str.ofString "line") [(Str.ofString "line", V.int n)] = some (V.int n) by rw [List.lookup_cons, beq_self_eq_true]] at r'
    cases hm : mA "line" with
    | none => rw [hm] at r'; cases r'
    | some u =>
      rw [hm] at r'
      obtain ⟨t', rfl⟩ : ∃ t', u = Value.int n t' := r'
      exact ⟨t', od, rfl, by rw [o2, hm]⟩
theorem IsErr.cla (E : IsErr K C) (G : ErrC K C bm i) (od : Option Obj) : findObj K C od "__class__" = some (.bind (.builtin "getset_descriptor.__get__") (.builtin "object.__class__")) := by
  obtain ⟨cd, c1, _⟩ := G.cls
  unfold findObj
  rw [c1, Option.bind_some, E.c, Option.bind_some]
  simp [E.s, E.t]
def rIsiX (K : Frag) (c : Value) (x : V) (H : Hp) (Q : VK) : Prop := ∃ a C l i b, x = .ref a ∧ ExcA H a C l ∧ ErrC K C (.ref B0 :: bmV) i ∧ IsErr K C ∧ kitOne K (.ref C) c = some b ∧ Q (.bl b) H
theorem isi_exc {X : Cx} {pins : List (Addr × Obj)} {σ : St} {H : Hp} {s : Shared} {x : V} {u c : Value} {Q : VK} (I : Inv X pins σ H s) (rx : RelV x u) (h : rIsiX (B0 := B0) X.K c x H Q) :
    wpAny (model X.prog X.w) X.A (call (.builtin "isinstance") [u, c]) (EP X pins σ Q) X.xe s := by
  obtain ⟨a, C, l, i, b, rfl, hx, G, E, e, q⟩ := h
  obtain rfl : u = Value.ref a := rx
  obtain ⟨ox, od, J, _⟩ := exc_inst I hx
  obtain ⟨cd, c1, c2, c3, c4⟩ := G.cls
  refine kia_one (kitx_exc (K := X.K) (od := od) (ox := ox) (by rw [G.sub]; rfl) E.g E.n (E.cla G od) (by have := G.sub (.type "object"); rw [show (Value.ref C :: .ref B0 :: bmV).contains (.type "object") = true from rfl] at this; exact this) (by unfold hasDictIn; rw [c1]; exact c3)) I.kIn J e (fun z => nomatch z) fun tk => ?_
  exact ⟨.bl b, H, I.tok _, rfl, q⟩
def oIsiX (w : Addr → Option Bool) : List O → Option O
  | [.frz (.exc C _)] => (w C).map fun b => .frz (.bl b)
  | _ => none
theorem ok_isiX {w : Addr → Option Bool} {c : Value} (hw : ∀ C b, w C = some b → (∃ i, ErrC K C (.ref B0 :: bmV) i) ∧ IsErr K C ∧ kitOne K (.ref C) c = some b) : OpOk K (r1L (rIsiX (B0 := B0) K c)) (oIsiX w) := by
  intro F H vs os o Q le see e res
  unfold oIsiX at e
  split at e
  · rename_i C l
    obtain ⟨x, B, rfl, h1⟩ := see.one
    obtain ⟨b, q1, q2⟩ := Option.map_eq_some_iff.mp e
    subst q2
    obtain ⟨⟨i, G⟩, E, kk⟩ := hw C b q1
    have r := own_rep le h1
    cases r with
    | flat z _ => cases z
    | @exc a _ _ _ _ hx _ => exact ⟨_, rfl, a, C, l, i, b, rfl, hx, G, E, kk, res.flat rfl⟩
  · cases e
theorem de_isiX {X : Cx} {e f : Expr} {p pos : Pos} {fe : GE} {v : V} {c : Value} {w : Addr → Option Bool} (hw : ∀ C b, w C = some b → (∃ i, ErrC K C (.ref B0 :: bmV) i) ∧ IsErr K C ∧ kitOne K (.ref C) c = some b) (hm : X.mg "isinstance" = none) (he : PE X e (tG K fe)) (hf : PE X f (tC v)) (rc : ∀ u, RelV v u → u = c) (hg : Gl X "isinstance" := by rfl)
    (hst : starEach [e, f] X.env = (false, eval e X.env) :: starEach [f] X.env := by rfl) (hst2 : starEach [f] X.env = (false, eval f X.env) :: starEach [] X.env := by rfl) (hpl : (backTo pos (starEach [f] X.env)).any (·.1) = false := by rfl) (hK : X.K = K := by rfl) :
    PE X (.Call (.Name "isinstance" p) [e, f] [] pos) (tG K (gUn (oIsiX w) fe)) := by
  subst hK
  have hc : CallR X (.builtin "isinstance") (fun xs H Q => ∃ x, xs = [x, v] ∧ rIsiX (B0 := B0) X.K c x H Q) := by
    intro pins s σ H xs us Q I r h
    obtain ⟨x, rfl, q⟩ := h
    obtain ⟨u, w', rfl, rx, ry⟩ := vals2 r
    cases rc _ ry
    exact isi_exc I rx q
  refine (pe_callB hc hg hm (by kernel_rfl) (pa_cons he (pa_cons hf pa_nil hst2) hst) (by decide) (by decide) hst hpl).mono fun σ H Q h => ?_
  exact (tG_un (ok_isiX hw) h).mono fun x H1 q => ⟨x, rfl, q⟩
def rLine (K : Frag) (x : V) (H : Hp) (Q : VK) : Prop := ∃ a C n i, x = .ref a ∧ ExcA H a C (some n) ∧ ErrC K C (.ref B0 :: bmV) i ∧ IsErr K C ∧ findIn K (.ref C) "line" = some none ∧ Q (.int n) H
def oLine (cs : List Addr) : List O → Option O
  | [.frz (.exc C (some n))] => if cs.contains C then some (.frz (.int n)) else none
  | _ => none
theorem ok_line {cs : List Addr} (hw : ∀ C ∈ cs, (∃ i, ErrC K C (.ref B0 :: bmV) i) ∧ IsErr K C ∧ findIn K (.ref C) "line" = some none) : OpOk K (r1L (rLine (B0 := B0) K)) (oLine cs) := by
  intro F H vs os o Q le see e res
  unfold oLine at e
  split at e
  · rename_i C n
    split at e
    · rename_i hc
      obtain ⟨x, B, rfl, h1⟩ := see.one
      cases e
      obtain ⟨⟨i, G⟩, E, kk⟩ := hw C (by simpa using hc)
      have r := own_rep le h1
      cases r with
      | flat z _ => cases z
      | @exc a _ _ _ _ hx _ => exact ⟨_, rfl, a, C, n, i, rfl, hx, G, E, kk, res.flat rfl⟩
    · cases e
  · cases e
theorem de_line {X : Cx} {e : Expr} {pos : Pos} {fe : GE} {cs : List Addr} (hw : ∀ C ∈ cs, (∃ i, ErrC K C (.ref B0 :: bmV) i) ∧ IsErr K C ∧ findIn K (.ref C) "line" = some none) (he : PE X e (tG K fe)) (hb : attributeBase e "line" X.env (eval e X.env) = eval e X.env := by rfl) (hK : X.K = K := by rfl) :
    PE X (.Attribute e "line" pos) (tG K (gUn (oLine cs) fe)) := by
  subst hK
  intro pins s σ H Q I h
  refine attr_of hb (thn (he pins s σ H _ I (tG_un (ok_line hw) h)) fun u s1 hh => ?_)
  obtain ⟨x, H1, I1, rx, a, C, n, i, rfl, hx, G, E, hl, q⟩ := hh
  obtain rfl : u = Value.ref a := rx
  obtain ⟨ox, od, J, hn⟩ := exc_inst I1 hx
  obtain ⟨t, o, rfl, lk⟩ := hn n rfl
  obtain ⟨cd, c1, c2, c3, c4⟩ := G.cls
  refine xga_attr I1.kIn J (by rw [G.sub]; rfl) E.g E.n (v := .int n t) ?_ rfl ⟨.int n, H1, I1.tok _, ⟨t, rfl⟩, q⟩
  unfold findObj
  rw [c1, Option.bind_some, hl, Option.bind_some]
  simp [W.ownOf, c3, lk]
end
end L2
set_option Elab.async false
set_option linter.all false
set_option maxRecDepth 100000
set_option maxHeartbeats 4000000
namespace L2
open PySem PySem.Spec PySem.W PySem.Calls PyProof.Rows
section
variable {K : Frag} {F H : Hp} {σ : St} {Γ : Gm} {A : List Addr} {p : Addr}
theorem lay_any {u : HO} (k : OK K F H σ Γ A) (hn : H p = none) : OK K (upd F p u) (upd H p u) σ Γ A ∧ Ext F H A (upd F p u) (upd H p u) A := by
  have hF : F p = none := k.le.free hn
  have np : ∀ a ∈ A, a ≠ p := fun a m z => k.os.there a m (by rw [z]; exact hn)
  refine ⟨⟨fun a o e => ?_, k.os.keep (same_upd hF) fun a m o e => by rw [upd_ne (np a m)]; exact e, k.nd, fun a m => by rw [upd_ne (np a m)]; exact k.fr a m⟩, ⟨same_upd hF, fun a o e _ => same_upd hn a o e, fun a h z => h ((same_upd hn).free z), fun a h => ?_, fun a m => .inl m⟩⟩
  · by_cases z : a = p
    · subst z; rw [upd_same] at e ⊢; exact e
    · rw [upd_ne z] at e ⊢; exact k.le a o e
  · by_cases z : a = p
    · subst z; exact .inr (.inr hn)
    · rw [upd_ne z] at h; exact .inl h
end
def gExc (C : Addr) (fe : GE) : GE := fun Γ => (gFrz fe Γ).bind fun p => some (.own (.frz (.exc C none)), p.2)
section
variable {K : Frag} {X : Cx} {C B0 : Addr} {x : Str} {p pos : Pos} {e : Expr} {fe : GE}
theorem de_exc (G : ErrC K C (.ref B0 :: bmV) none) (G0 : ErrC K B0 bmV none) (hk : keepIn K (.ref C) = true) (hm : X.mg x = some (.ref C)) (he : PE X e (tG K fe)) (hg : Gl X x := by rfl) (hdb : (x == ("__debug__" : Str)) = false := by decide)
    (hst : starEach [e] X.env = (false, eval e X.env) :: starEach [] X.env := by rfl) (hpl : (backTo pos (starEach [] X.env)).any (·.1) = false := by rfl) (hK : X.K = K := by rfl) : PE X (.Call (.Name x p) [e] [] pos) (tG K (gExc C fe)) := by
  subst hK
  refine (pe_exc G G0 hk hg hm (da_cons (de_frz he) da_nil hst) hdb hst hpl).mono fun σ H Q tt => ?_
  obtain ⟨F, A, Γ, r, Γ', k, e, w⟩ := tt
  obtain ⟨⟨r1, Γ1⟩, q, e⟩ := Option.bind_eq_some_iff.mp e
  cases e
  refine ⟨F, A, Γ, [r1], Γ1, k, by rw [ev_aCons, q]; rfl, fun vs H1 pp => ?_⟩
  obtain ⟨F1, A1, x1, k1, hh⟩ := pp
  have hl := hh.length
  refine ⟨hl.symm, fun a t hn => w _ _ ?_⟩
  obtain ⟨v, rfl⟩ := len_1 hl
  obtain ⟨B, C', h1, h2, h3⟩ := OwnL.one (σ := σ) (Γ := Γ1) k1.os
  subst h3
  obtain ⟨k2, _⟩ := k1.sub h2 (.of_sub (List.sublist_append_right _ _))
  obtain ⟨k3, x3⟩ := lay_any (u := exH C t) k2 hn
  exact ⟨_, C', (x1.own' fun a m => List.mem_append_right _ m).trans x3, ⟨k3.le, .frz (.exc ⟨t, upd_same⟩ .nil) k3.os, k3.nd, k3.fr⟩, True.intro⟩
end
end L2
set_option Elab.async false
set_option linter.all false
set_option maxRecDepth 100000
set_option maxHeartbeats 4000000
namespace L2
open PySem PySem.Spec PySem.W PySem.Calls PyProof.Rows
structure InitK (K : Frag) (B0 : Addr) : Prop where
  g : specialIn K (.ref B0) "__getattribute__" = some (some (.builtin "type.__getattribute__"))
  r : readsIn K B0 (.type "type") = true
  c : findCls K (.ref B0) (.type "type") "__init__" = some (.val (.builtin "ValueError.__init__"))
def exE (e C t : Addr) : HO := .ext (fun h => h.get? e = some (excO C t none))
def exD (C t dx : Addr) : HO := .frz (excO C t (some dx)) (.own 0)
def tInit (C : Addr) (i : Nat) : TE := fun σ H Q => ∃ e t, σ[i]? = some (some (.ref e)) ∧ H e = some (exE e C t) ∧ ∀ t', Q .non (upd H e (exE e C t'))
def sLine (C : Addr) (i j : Nat) : TS := fun D σ H => ∃ e t n, σ[i]? = some (some (.ref e)) ∧ σ[j]? = some (some (.int n)) ∧ H e = some (exE e C t) ∧ ∀ dx, H dx = none → dx ≠ e → D.nx σ (upd (upd H e (exD C t dx)) dx (.xd [("line", .int n)]))
section
variable {X : Cx} {pins : List (Addr × Obj)} {σ : St} {H : Hp} {s : Shared} {C B0 e t : Addr} {i : Option Value}
theorem exE_ok {P : Program} {w : World} {h : Heap} (z : h.get? e = some (excO C t none)) : ObjOk P w H h e (exE e C t) := ⟨z, ⟨_, z⟩, fun _ _ a b => b _ a⟩
theorem run_init {Q : VK} {u : Value} (G : ErrC X.K C (.ref B0 :: bmV) i) (G0 : ErrC X.K B0 bmV none) (I : Inv X pins σ H s) (hx : H e = some (exE e C t)) (h : ∀ t', Q .non (upd H e (exE e C t'))) :
    wpAny (model X.prog X.w) X.A (call (.builtin "ValueError.__init__") [.ref e, u]) (EP X pins σ Q) X.xe s := by
  obtain ⟨hh, g, d, tt, os⟩ := s
  have KX : X.K.In hh := I.kIn
  have zx : hh.get? e = some (excO C t none) := (I.hok _ _ hx).1
  obtain ⟨nm, q, N, bs, sn, sub, ab, col, dd, k0, k1, k2, k3, k5, on, odn, es, ep, sln, g1, g2, g3, g4⟩ := G
  obtain ⟨nm', q', N', bs', sn', sub', ab', col', dd', k0', k1', k2', k3', k5', on', odn', es', ep', sln', g1', g2', g3', g4'⟩ := G0
  have T : OwnTail hh bmV (.ref B0 :: bmV) := .own (KX _ _ g1') (mA := fun n => nsFind es' n) ⟨_, _, _, KX _ _ g2', rfl, g3', fun _ => rfl⟩ g4' .base
  refine xinit T (KX _ _ g1) zx fun h' e1 e2 => ?_
  have J : Inv X pins σ (upd H e (exE e C _)) ⟨h', g, d, tt, os⟩ := I.write (x := e) (e := e) (t' := tt) (by rw [hx]; exact True.intro) (.inl rfl) e2 ⟨_, e1⟩ (exE_ok e1)
  exact ⟨.non, _, J, rfl, h _⟩
variable {x0 : Str} {p0 ap cp pos p1 : Pos} {e1 e2 o value : Expr} {k j : Nat} {v : V}
theorem pe_init {pl : Sem Bool} (G : ErrC X.K C (.ref B0 :: bmV) i) (G0 : ErrC X.K B0 bmV none) (IK : InitK X.K B0) (hm : X.mg x0 = some (.ref B0)) (h1 : PE X e1 (tVar k)) (h2 : PE X e2 (tC v)) (hg : Gl X x0 := by rfl) (hdb : (x0 == ("__debug__" : Str)) = false := by decide)
    (hst : starEach [e1, e2] X.env = (false, eval e1 X.env) :: starEach [e2] X.env := by rfl) (hst2 : starEach [e2] X.env = (false, eval e2 X.env) :: starEach [] X.env := by rfl) (hpl : (backTo cp (starEach [e2] X.env)).any (·.1) = false := by rfl)
    (ht : eval (.Call (.Attribute (.Name x0 p0) "__init__" ap) [e1, e2] [] cp) X.env = (do
      let ov ← eval (.Name x0 p0) X.env
      standAt ap.atName
      let (f, first) ← holding [ov] (getMethod ov "__init__" pl)
      callWith cp f first (backTo cp (starEach [e1, e2] X.env)) (backToKw cp (keywordEach [] X.env))) := by rfl) :
    PE X (.Call (.Attribute (.Name x0 p0) "__init__" ap) [e1, e2] [] cp) (tInit C k) := by
  intro pins s σ H Q I h
  obtain ⟨e, t, hk, he, q⟩ := h
  refine PySem.W.methodCall_KW (pl := pl) (ld_glob I hg hm ?_ hdb) ht
  refine method_cls I.kIn IK.g (cls_value I.kIn IK.r IK.c rfl ?_)
  have I' := I.tok (s.toks + 1)
  have ha : PA X [e1, e2] (tCons (tVar k) (tCons (tC v) tNil)) := pa_cons h1 (pa_cons h2 pa_nil hst2) hst
  refine PyProof.Rows.callWith_builtin1 (thn (ha cp pins _ σ H (fun vs H1 => vs = [.ref e, v] ∧ H1 = H) I' ⟨_, hk, rfl, rfl⟩) fun us s1 hh => ?_) hst hpl
  obtain ⟨vs, H1, I1, r1, rfl, rfl⟩ := hh
  obtain ⟨u, u', rfl, ru, ru'⟩ := vals2 r1
  obtain rfl : u = Value.ref e := ru
  exact run_init G G0 I1 he q
theorem ps_line (G : ErrC X.K C (.ref B0 :: bmV) i) (hs1 : findIn X.K (.ref C) "__setattr__" = some (some (.builtin "object.__setattr__"))) (hn : findIn X.K (.ref C) "line" = some none) (ho : PE X o (tVar k)) (hv : PE X value (tVar j))
    (hs : swapsWith value (some (.Attribute o "line" p1)) pos.line X.env = pure false := by rfl) : PS X (.Assign [.Attribute o "line" p1] value pos) (sLine C k j) := by
  intro pins s σ H D I h
  obtain ⟨e, t, n, h1, h2, he, q⟩ := h
  refine plainObj_wpAny_Assign_Attribute (thn (hv pins s σ H (fun y H1 => y = .int n ∧ H1 = H) I ⟨_, h2, rfl, rfl⟩) fun u s1 hh => ?_) hs
  obtain ⟨y, H1, I1, ry, rfl, rfl⟩ := hh
  refine thn (ho pins s1 σ H1 (fun y H2 => y = .ref e ∧ H2 = H1) I1 ⟨_, h1, rfl, rfl⟩) fun ov s2 hh => ?_
  obtain ⟨y, H2, I2, rx, rfl, rfl⟩ := hh
  obtain rfl : ov = Value.ref e := rx
  obtain ⟨tk, rfl⟩ : ∃ tk, u = Value.int n tk := ry
  obtain ⟨cd, c1, c2, c3, c4⟩ := G.cls
  have zx : s2.heap.get? e = some (excO C t none) := (I2.hok _ _ he).1
  refine xsa I2.kIn zx hs1 c1 (B0 := B0) c2 c3 hn (by rw [G.sub]; rfl) fun h' tk' z1 z2 z3 => ?_
  have ne : s2.heap.objs.size ≠ e := Nat.ne_of_gt (Heap.lt_size zx)
  have J : Inv X pins σ (upd H2 e (exD C t s2.heap.objs.size)) { s2 with heap := h', toks := tk' } := I2.write (x := e) (e := e) (by rw [he]; exact True.intro) (.inl rfl) z3 ⟨_, z1⟩ ⟨z1, _, z1⟩
  have nf : H2 s2.heap.objs.size = none := I2.hok.fresh (Nat.le_refl _)
  have J2 : Inv X pins σ (upd (upd H2 e (exD C t s2.heap.objs.size)) s2.heap.objs.size (.xd [("line", .int n)])) { s2 with heap := h', toks := tk' } := J.track (by rw [upd_ne ne]; exact nf) I2.sz (Nat.ne_of_gt I2.lt)
    (fun x c e z => by obtain ⟨v, q⟩ := I2.cell x c e; exact absurd (z ▸ q.lt) (Nat.lt_irrefl _)) (fun p hp z => absurd (z ▸ Heap.lt_size (I2.pin p hp).1) (Nat.lt_irrefl _)) ⟨_, z2, fun f => ?_⟩
  · exact ⟨σ, _, J2, q _ nf ne⟩
  · by_cases z : f = "line"
    · subst z
      rw [List.lookup_cons, beq_self_eq_true, if_pos rfl]
      exact ⟨tk, rfl⟩
    · rw [List.lookup_cons, beq_false_of_ne z, if_neg z]
      exact True.intro
end
end L2
set_option Elab.async false
set_option linter.all false
set_option maxRecDepth 100000
set_option maxHeartbeats 4000000
namespace L2
open PySem PySem.Spec PySem.W PySem.Calls PyProof.Rows
structure Lined (H H' : Hp) (C e t dx : Addr) (n : Int) : Prop where
  ne : dx ≠ e
  d0 : H dx = none
  e1 : H' e = some (exD C t dx)
  d1 : H' dx = some (.xd [("line", .int n)])
  old : ∀ b, b ≠ e → b ≠ dx → H' b = H b
def spI (C : Addr) : Sp := fun vs H Q _ => ∃ e n t, vs = [.ref e, .int n] ∧ H e = some (exE e C t) ∧ ∀ H' t' dx, Lined H H' C e t' dx n → Q .non H'
theorem init_seq {C e t : Addr} {n : Int} {H : Hp} {σ : St} {D : Ends} (h0 : σ[0]? = some (some (.ref e))) (h1 : σ[1]? = some (some (.int n))) (he : H e = some (exE e C t)) (q : ∀ H' t' dx, Lined H H' C e t' dx n → D.nx σ H') : tSeq (tDrop (tInit C 0)) (sLine C 0 1) D σ H := by
  refine ⟨e, t, h0, he, fun t' => ⟨e, t', n, h0, h1, upd_same, fun dx hd ne => q _ t' dx ⟨ne, ?_, ?_, upd_same, fun b b1 b2 => ?_⟩⟩⟩
  · rw [upd_ne ne] at hd; exact hd
  · rw [upd_ne (Ne.symm ne), upd_same]
  · rw [upd_ne b2, upd_ne b1, upd_ne b1]
def tExcL (C : Addr) (t : TA) : TE := fun σ H Q => t σ H fun vs H1 => ∃ n, vs = [.int n] ∧ ∀ e t dx H', H1 e = none → Lined H1 H' C e t dx n → Q (.ref e) H'
section
variable {X : Cx} {pins : List (Addr × Obj)} {σ : St} {H : Hp} {s : Shared} {Q : VK} {C B0 fI : Addr} {x : Str} {p pos : Pos} {e : Expr} {t : TA} {fd : FuncData} {k : Nat}
theorem run_excL {u : Value} {n : Int} (G : ErrC X.K C (.ref B0 :: bmV) (some (.ref fI))) (G0 : ErrC X.K B0 bmV none) (hf : isFn X.K (.ref fI) = true) (F : FnOk X.prog X.w X.K X.mg X.base CX0 k fI fd ["self", "line"] (spI C)) (hr : Room (k + 1) X.A) (hb : Binds X.K fd ["self", "line"] [])
    (I : Inv X pins σ H s) (ru : RelV (.int n) u) (h : ∀ e t dx H', H e = none → Lined H H' C e t dx n → Q (.ref e) H') :
    wpAny (model X.prog X.w) X.A (call (.ref C) [u]) (EP X pins σ Q) X.xe s := by
  obtain ⟨hh, g, d, tt, os⟩ := s
  have KX : X.K.In hh := I.kIn
  obtain ⟨nm, q, N, bs, sn, sub, ab, col, dd, k0, k1, k2, k3, k5, on, odn, es, ep, sln, g1, g2, g3, g4⟩ := G
  obtain ⟨nm', q', N', bs', sn', sub', ab', col', dd', k0', k1', k2', k3', k5', on', odn', es', ep', sln', g1', g2', g3', g4'⟩ := G0
  have FB := PySem.F.excBase_ValueError
  have T : OwnTail hh bmV (.ref B0 :: bmV) := .own (KX _ _ g1') (mA := fun n => nsFind es' n) ⟨_, _, _, KX _ _ g2', rfl, g3', fun _ => rfl⟩ g4' .base
  have nf : H (hh.objs.size + 1) = none := I.hok.fresh (Nat.le_succ _)
  refine call_exc FB rfl FB T (KX _ _ g1) (mN := fun n => nsFind es n) ⟨_, _, _, KX _ _ g2, rfl, g3, fun _ => rfl⟩ (by rw [sizeLine_eq]; exact (by decide : 1 ≤ 16777216)) fun i ei => ?_
  rw [g4] at ei
  subst ei
  have st : ∀ b o, hh.get? b = some o → ((hh.push { cls := .type "tuple", data := .seq [u].toArray }).push { cls := .ref C, data := .fields #[.ref hh.objs.size, .none, .none, .none, .bool false, .none] }).get? b = some o := fun b o e => Heap.get?_push_of_some _ (Heap.get?_push_of_some _ e)
  have hget : ((hh.push { cls := .type "tuple", data := .seq [u].toArray }).push { cls := .ref C, data := .fields #[.ref hh.objs.size, .none, .none, .none, .bool false, .none] }).get? (hh.objs.size + 1) = some (excO C hh.objs.size none) := by unfold excO; heap_get
  have I2 : Inv X pins σ (upd H (hh.objs.size + 1) (exE (hh.objs.size + 1) C hh.objs.size)) ⟨((hh.push { cls := .type "tuple", data := .seq [u].toArray }).push { cls := .ref C, data := .fields #[.ref hh.objs.size, .none, .none, .none, .bool false, .none] }), g, d, tt, os⟩ := I.laid (t' := tt) st (Nat.le_succ _) (exE_ok hget)
  refine (show Looks (model X.prog X.w) _ (bindSpecial (.ref fI) (.ref (hh.objs.size + 1))) (.ref fI, [.ref (hh.objs.size + 1)]) from bind_fn I2.kIn _ (beq_iff_eq.mp hf)).at ?_
  have hq : spI C [.ref (hh.objs.size + 1), .int n] (upd H (hh.objs.size + 1) (exE (hh.objs.size + 1) C hh.objs.size)) (fun v H' => v = .non ∧ Q (.ref (hh.objs.size + 1)) H') E0 := by
    refine ⟨_, n, _, rfl, upd_same, fun H' t' dx L => ⟨rfl, h _ t' dx H' nf ⟨L.ne, ?_, L.e1, L.d1, fun b b1 b2 => ?_⟩⟩⟩
    · have := L.d0; rw [upd_ne L.ne] at this; exact this
    · rw [L.old b b1 b2, upd_ne b1]
  have r2 : Vals [V.ref (hh.objs.size + 1), .int n] [Value.ref (hh.objs.size + 1), u] := .cons rfl (.cons ru .nil)
  refine wpAny_call (codeAny_mono (F.run _ X.stack _ _ ⟨[Value.ref (hh.objs.size + 1), u], []⟩ ([Value.ref (hh.objs.size + 1), u] ++ []) _ _ E0 (hr.make C [u] []) (I2.env0.make C [u] []) (hb _ _ I2.kIn rfl) r2 hq) fun r s' hq' => ?_)
  cases r with
  | error e => exact False.elim hq'
  | ok fl =>
    cases fl with
    | ret u' =>
      obtain ⟨v, H', I3, rv, ev, q3⟩ := I2.after hq'
      subst ev
      exact ⟨rv, ⟨V.ref (hh.objs.size + 1), H', I3, rfl, q3⟩⟩
    | next => exact False.elim hq'
    | brk => exact False.elim hq'
    | cont => exact False.elim hq'
end
end L2
set_option Elab.async false
set_option linter.all false
set_option maxRecDepth 100000
set_option maxHeartbeats 4000000
namespace L2
open PySem PySem.Spec PySem.W PySem.Calls PyProof.Rows
def gExcL (C : Addr) (fe : GE) : GE := fun Γ => (gFrz fe Γ).bind fun p => match p.1 with
  | .own (.frz (.int n)) => some (.own (.frz (.exc C (some n))), p.2)
  | _ => none
section
variable {X : Cx} {C B0 fI : Addr} {x : Str} {p pos : Pos} {e : Expr} {t : TA} {fd : FuncData} {k : Nat} {K : Frag} {fe : GE}
theorem pe_excL (G : ErrC X.K C (.ref B0 :: bmV) (some (.ref fI))) (G0 : ErrC X.K B0 bmV none) (hf : isFn X.K (.ref fI) = true) (F : FnOk X.prog X.w X.K X.mg X.base CX0 k fI fd ["self", "line"] (spI C)) (hr : Room (k + 1) X.A) (hb : Binds X.K fd ["self", "line"] []) (hk : keepIn X.K (.ref C) = true) (hg : Gl X x) (hm : X.mg x = some (.ref C)) (ha : PA X [e] t) (hdb : (x == ("__debug__" : Str)) = false := by decide)
    (he : starEach [e] X.env = (false, eval e X.env) :: starEach [] X.env := by rfl) (hpl : (backTo pos (starEach [] X.env)).any (·.1) = false := by rfl) : PE X (.Call (.Name x p) [e] [] pos) (tExcL C t) := by
  intro pins s σ H Q I h
  refine wpAny_Call_Name_kw (ld_glob I hg hm ?_ hdb)
  refine PySem.W.callWith_K (h₀ := X.base) I.ok.mod.kin hk (thn (ha pos pins s σ H _ I h) fun us s1 ⟨vs, H1, I1, r, n, hv, q⟩ => ⟨I1.kIn, ?_⟩) he hpl
  subst hv
  obtain ⟨u, rfl, ru⟩ := Vals.one r
  exact run_excL G G0 hf F hr hb I1 ru q
theorem de_excL (G : ErrC K C (.ref B0 :: bmV) (some (.ref fI))) (G0 : ErrC K B0 bmV none) (hf : isFn K (.ref fI) = true) (F : FnOk X.prog X.w K X.mg X.base CX0 k fI fd ["self", "line"] (spI C)) (hr : Room (k + 1) X.A) (hb : Binds K fd ["self", "line"] []) (hk : keepIn K (.ref C) = true) (hm : X.mg x = some (.ref C)) (he : PE X e (tG K fe)) (hg : Gl X x := by rfl) (hdb : (x == ("__debug__" : Str)) = false := by decide)
    (hst : starEach [e] X.env = (false, eval e X.env) :: starEach [] X.env := by rfl) (hpl : (backTo pos (starEach [] X.env)).any (·.1) = false := by rfl) (hK : X.K = K := by rfl) : PE X (.Call (.Name x p) [e] [] pos) (tG K (gExcL C fe)) := by
  subst hK
  refine (pe_excL G G0 hf F hr hb hk hg hm (da_cons (de_frz he) da_nil hst) hdb hst hpl).mono fun σ H Q tt => ?_
  obtain ⟨F, A, Γ, r, Γ', k, e, w⟩ := tt
  obtain ⟨⟨r1, Γ1⟩, q, e⟩ := Option.bind_eq_some_iff.mp e
  dsimp only at e
  split at e
  · rename_i n
    cases e
    refine ⟨F, A, Γ, [.own (.frz (.int n))], Γ', k, by rw [ev_aCons, q]; rfl, fun vs H1 pp => ?_⟩
    obtain ⟨F1, A1, x1, k1, hh⟩ := pp
    obtain ⟨v, rfl⟩ := len_1 hh.length
    obtain ⟨rfl, h2⟩ := own_int (σ := σ) (Γ := Γ') k1.os
    refine ⟨n, rfl, fun a t dx H' hn L => w _ _ ?_⟩
    obtain ⟨k2, _⟩ := k1.sub h2 (SubP.refl _)
    obtain ⟨k3, x3⟩ := lay_any (u := exD C t dx) k2 hn
    obtain ⟨k4, x4⟩ := lay_any (p := dx) (u := .xd [("line", .int n)]) k3 (by rw [upd_ne L.ne]; exact L.d0)
    have eH : H' = upd (upd H1 a (exD C t dx)) dx (.xd [("line", .int n)]) := by
      funext b
      by_cases b2 : b = dx
      · subst b2; rw [upd_same, L.d1]
      · rw [upd_ne b2]
        by_cases b1 : b = a
        · subst b1; rw [upd_same, L.e1]
        · rw [upd_ne b1, L.old b b1 b2]
    subst eH
    exact ⟨_, A1, (x1.trans x3).trans x4, ⟨k4.le, .frz (.exc ⟨t, dx, by rw [upd_ne (Ne.symm L.ne), upd_same]; rfl, upd_same⟩ .nil) k4.os, k4.nd, k4.fr⟩, True.intro⟩
  · cases e
end
structure Errs (K : Frag) (mg : Str → Option Value) (tab : List (Str × Addr)) (L B0 fI : Addr) : Prop where
  all : ∀ p ∈ tab, mg p.1 = some (.ref p.2) ∧ ErrC K p.2 (.ref B0 :: bmV) none ∧ IsErr K p.2 ∧ keepIn K (.ref p.2) = true
  mgL : mg "NoLine" = some (.ref L)
  GL : ErrC K L (.ref B0 :: bmV) (some (.ref fI))
  EL : IsErr K L
  kL : keepIn K (.ref L) = true
  sL : findIn K (.ref L) "__setattr__" = some (some (.builtin "object.__setattr__"))
  nL : findIn K (.ref L) "line" = some none
  fL : isFn K (.ref fI) = true
  mg0 : mg "CarryError" = some (.ref B0)
  G0 : ErrC K B0 bmV none
  I0 : InitK K B0
def wE (cs : List Addr) (c : Addr) (C : Addr) : Option Bool := if cs.contains C then some (C == c) else none
def wT (cs : List Addr) (C : Addr) : Option Bool := if cs.contains C then some true else none
section
variable {K : Frag} {mg : Str → Option Value} {tab : List (Str × Addr)} {L B0 fI : Addr}
theorem Errs.one (E : Errs K mg tab L B0 fI) {C : Addr} (h : C ∈ L :: tab.map (·.2)) : (∃ i, ErrC K C (.ref B0 :: bmV) i) ∧ IsErr K C := by
  rcases List.mem_cons.1 h with rfl | h
  · exact ⟨⟨_, E.GL⟩, E.EL⟩
  · obtain ⟨p, m, rfl⟩ := List.mem_map.1 h
    exact ⟨⟨_, (E.all p m).2.1⟩, (E.all p m).2.2.1⟩
theorem Errs.wE (E : Errs K mg tab L B0 fI) {c : Addr} (hc : (L :: tab.map (·.2)).contains c = true) (h0 : (c == B0) = false) (C : Addr) (b : Bool) (h : wE (L :: tab.map (·.2)) c C = some b) : (∃ i, ErrC K C (.ref B0 :: bmV) i) ∧ IsErr K C ∧ kitOne K (.ref C) (.ref c) = some b := by
  unfold L2.wE at h
  split at h
  · rename_i hC
    cases h
    obtain ⟨⟨i, G⟩, I⟩ := E.one (C := C) (by simpa using hC)
    obtain ⟨⟨i', G'⟩, _⟩ := E.one (C := c) (by simpa using hc)
    refine ⟨⟨i, G⟩, I, (G.kitC G').trans (congrArg some ?_)⟩
    have n0 : c ≠ B0 := fun z => by rw [z] at h0; simp at h0
    by_cases z : C = c
    · subst z; simp
    · rw [show (C == c) = false from beq_false_of_ne z]
      simp [bmV, Ne.symm z, n0]
  · cases h
theorem Errs.wB (E : Errs K mg tab L B0 fI) (C : Addr) (b : Bool) (h : wT (L :: tab.map (·.2)) C = some b) : (∃ i, ErrC K C (.ref B0 :: bmV) i) ∧ IsErr K C ∧ kitOne K (.ref C) (.ref B0) = some b := by
  unfold wT at h
  split at h
  · rename_i hC
    cases h
    obtain ⟨⟨i, G⟩, I⟩ := E.one (C := C) (by simpa using hC)
    exact ⟨⟨i, G⟩, I, (G.kitC E.G0).trans (by simp)⟩
  · cases h
theorem Errs.wV (E : Errs K mg tab L B0 fI) (C : Addr) (b : Bool) (h : wT (L :: tab.map (·.2)) C = some b) : (∃ i, ErrC K C (.ref B0 :: bmV) i) ∧ IsErr K C ∧ kitOne K (.ref C) (.type "ValueError") = some b := by
  unfold wT at h
  split at h
  · rename_i hC
    cases h
    obtain ⟨⟨i, G⟩, I⟩ := E.one (C := C) (by simpa using hC)
    exact ⟨⟨i, G⟩, I, G.kitT⟩
  · cases h
theorem Errs.ln (E : Errs K mg tab L B0 fI) : ∀ C ∈ [L], (∃ i, ErrC K C (.ref B0 :: bmV) i) ∧ IsErr K C ∧ findIn K (.ref C) "line" = some none := fun C m => by
  cases List.mem_singleton.1 m
  exact ⟨⟨_, E.GL⟩, E.EL, E.nL⟩
end
end L2
set_option Elab.async false
set_option linter.all false
set_option maxRecDepth 100000
set_option maxHeartbeats 4000000
namespace L2
open PySem PySem.Spec PySem.W PySem.Calls PyProof.Rows
def powC (i j : Int) : Bool := decide (0 ≤ j) && decide (j ≤ 1000000) && decide (i.natAbs < 2 ^ 64)
abbrev oPow := oInt powC fun i j => .int (i ^ j.toNat)
theorem ok_pow {K : Frag} : OpOk K (r2L (rI CPow fun i j => .int (i ^ j.toNat))) oPow := ok_int (fun _ _ => rfl) fun _ _ _ _ c q => by
  simp only [powC, Bool.and_eq_true, decide_eq_true_eq] at c
  exact ⟨_, _, rfl, rfl, ⟨c.1.1, c.1.2, c.2⟩, q⟩
theorem bt_VE : bootBuiltins "ValueError" = some (.type "ValueError") := by kernel_rfl
theorem Errs.ix {K : Frag} {mg : Str → Option Value} {tab : List (Str × Addr)} {L B0 fI : Addr} (E : Errs K mg tab L B0 fI) {i : Nat} {n : Str} {C : Addr} (h : tab[i]? = some (n, C)) : mg n = some (.ref C) ∧ ErrC K C (.ref B0 :: bmV) none ∧ IsErr K C ∧ keepIn K (.ref C) = true := E.all _ (List.mem_of_getElem? h)
def isStrK (e : DictEntry) : Bool := match e.key with | .str _ _ => true | _ => false
theorem errC_mk {K : Frag} {C : Addr} {bm : List Value} {ini : Option Value} {nm q : Str} {N : Addr} {bs : List Value} {sn : List Str} {sub : List Value} {ab : Bool} {col : Option Bool} {dd : Option Addr} {k0 k1 k2 k3 k5 : Option Value} {on : Value} {odn : Option Addr} {es : Array DictEntry} {ep : Nat} {sln : Array (Option Value)}
    (l : K.lookup C = some (excClassObj nm q C N bs bm true sn sub ab col dd k0 k1 k2 k3 k5 "ValueError.__new__")) (d : K.lookup N = some ⟨on, odn, .dict es ep, sln⟩) (s : es.toList.all isStrK = true) (i : nsFind es "__init__" = ini) : ErrC K C bm ini := by
  refine ⟨_, _, _, _, _, _, _, _, _, _, _, _, _, _, _, _, _, _, _, l, d, fun e he => ?_, i⟩
  have := List.all_eq_true.1 s e (Array.mem_toList_iff.2 he)
  unfold isStrK at this
  split at this
  · exact ⟨_, _, by assumption⟩
  · cases this
theorem errOne {K : Frag} {h : Heap} {mg : Str → Option Value} {n : Str} {C : Addr} {r : Prop} (X : K.In h) (G : h.Ns mainGlobals mg) (a : nsIn K mainGlobals n = some (some (.ref C))) (e : r) (i : IsErr K C) (k : keepIn K (.ref C) = true) : mg n = some (.ref C) ∧ r ∧ IsErr K C ∧ keepIn K (.ref C) = true := ⟨mg_of X G a, e, i, k⟩
end L2
set_option Elab.async false
set_option linter.all false
set_option maxRecDepth 100000
set_option maxHeartbeats 4000000
namespace L2
theorem hu41_of {A : PySem.Around} {k : Nat} (hr : Room k A) : A.units + 41 < PySem.cLine := Nat.lt_of_le_of_lt (Nat.add_le_add_left (by decide : 41 ≤ 64) _) hr.units
end L2
namespace Carry
open PySem L2
/-! the text by places -/
def top (i : Nat) : Stmt := PySem.Challenge.pw_carry_k10_refusals_apart.main.body.getD i (.Pass ⟨0, 0, 0, 0⟩)
abbrev s_l_cell_at : Stmt := top 15
abbrev s_l_kinds : Stmt := top 16
abbrev s_law : Stmt := top 17
set_option genInjectivity false in
set_option genSizeOfSpec false in
structure Adr where
  d_init : FuncData
  f_l_cell_at : Addr
  d_l_cell_at : FuncData
  f_l_kinds : Addr
  d_l_kinds : FuncData
  f_law : Addr
  d_law : FuncData
abbrev s_init : Stmt := inClass (top 13) 0
abbrev errTab : List (Str × Addr) := [("NoName", 37), ("NoSize", 49), ("NoOut", 61), ("NoHand", 73), ("NoWay", 85), ("NoMoment", 97), ("NoFlight", 109), ("NoBelt", 121), ("NoRoom", 133), ("NoBag", 145), ("NoDeed", 157)]
abbrev errCs : List Addr := 176 :: errTab.map (·.2)
structure Txt (K : PySem.W.Frag) (mg : Str → Option Value) (t : Adr) : Prop where
  F_l_cell_at : DefAt K mg "_law_cell_at" s_l_cell_at t.f_l_cell_at t.d_l_cell_at ["_law_script", "_law_k"]
  F_l_kinds : DefAt K mg "_law_kinds" s_l_kinds t.f_l_kinds t.d_l_kinds ["_law_e"]
  F_law : DefAt K mg "law" s_law t.f_law t.d_law ["_law_script"]
  b_len : mg "len" = none
  b_isinstance : mg "isinstance" = none
  b_int : mg "int" = none
  b_bool : mg "bool" = none
  b_range : mg "range" = none
  b_ValueError : mg "ValueError" = none
  er : Errs K mg errTab 176 24 173
  F_init : Fun K "__init__" "NoLine.__init__" s_init 173 t.d_init
  B_init : Binds K t.d_init ["self", "line"] []
end Carry
set_option Elab.async false
set_option linter.all false
set_option maxRecDepth 100000
set_option maxHeartbeats 4000000
namespace Carry
open PySem L2
section
variable {P : Program} {w : World} {K : PySem.W.Frag} {mg : Str → Option Value} {base : Heap} {t : Adr}
theorem sc_init : FnScope ["self", "line"] ["self", "line"] (defScope s_init) := ⟨rfl, rfl, rfl, by decide +kernel, rfl, by decide +kernel, by decide +kernel⟩
theorem ok_init (T : Txt K mg t) : FnOk P w K mg base CX0 1 173 t.d_init ["self", "line"] (spI 176) := by
  refine T.F_init.ok (k := 0) sc_init (fun vs H Q E h => ?_) fun cdv A outer s H vs Q E hr h => ⟨_, pss_cons (ps_expr (pe_init T.er.GL T.er.G0 T.er.I0 T.er.mg0 (pv 0) pe_str)) (pss_one (ps_line T.er.GL T.er.sL T.er.nL (pv 0) (pv 1))), ?_⟩
  · obtain ⟨e, n, t', rfl, he, q⟩ := h
    rfl
  · obtain ⟨e, n, t', rfl, he, q⟩ := h
    exact init_seq rfl rfl he fun H' t' dx L => q H' t' dx L
end
end Carry
set_option Elab.async false
set_option linter.all false
set_option maxRecDepth 100000
set_option maxHeartbeats 4000000
namespace Carry
open PySem L2
section
variable {P : Program} {w : World} {K : PySem.W.Frag} {mg : Str → Option Value} {base : Heap} {t : Adr}
theorem sc_l_cell_at : FnScope ["_law_script", "_law_k"] ["_law_script", "_law_k"] (defScope s_l_cell_at) := ⟨rfl, rfl, rfl, by decide +kernel, rfl, by decide +kernel, by decide +kernel⟩
def m_l_cell_at : GS := (gsCons (gsIf (gT (gBin oLt (gVar 1) (gOp oLen (gaCons (gVar 0) gaNil))))
    (gsRet (gBin oIx (gVar 0) (gVar 1)))
    gsNil)
  (gsRet (gC (.int 0))))
def M_l_cell_at : GM := runM 2 [false, false] m_l_cell_at
theorem ok_l_cell_at (T : Txt K mg t) : FnOk P w K mg base CX0 1 t.f_l_cell_at t.d_l_cell_at ["_law_script", "_law_k"] (SpM K 2 M_l_cell_at) :=
  fn_mir (k := 0) [false, false] m_l_cell_at T.F_l_cell_at.fn sc_l_cell_at rfl rfl (by decide) fun cdv A outer s H E hr => (by
    have hu := hu_of hr
    have hu40 := hu40_of hr
    have hu41 := hu41_of hr
    exact ⟨_, (ds_cons (ds_if (dt_cmp op_lt ok_lt (de_var (pv 1)) (de_callB (call_lenA K) ok_len T.b_len bt_len (da_cons (de_var (pv 0)) da_nil)))
      (ds_one (ds_ret (de_ix (ix_A K (by exact hu41)) ok_ix (de_var (pv 0)) (de_var (pv 1)))))
      ds_nil)
      (ds_one (ds_ret (de_c (d := .int 0) pe_int)))), rfl⟩)
end
end Carry
set_option Elab.async false
set_option linter.all false
set_option maxRecDepth 100000
set_option maxHeartbeats 4000000
namespace Carry
open PySem L2
section
variable {P : Program} {w : World} {K : PySem.W.Frag} {mg : Str → Option Value} {base : Heap} {t : Adr}
theorem sc_l_kinds : FnScope ["_law_e", "_law_kinds_here"] ["_law_e"] (defScope s_l_kinds) := ⟨rfl, rfl, rfl, by decide +kernel, rfl, by decide +kernel, by decide +kernel⟩
def m_l_kinds : GS := (gsCons (gsSet 1 (gFrz (gSeq .lst (gaCons (gUn (oIsiX (wE errCs 145)) (gVar 0)) (gaCons (gUn (oIsiX (wE errCs 121)) (gVar 0)) (gaCons (gUn (oIsiX (wE errCs 157)) (gVar 0)) (gaCons (gUn (oIsiX (wE errCs 109)) (gVar 0)) gaNil)))))))
  (gsCons (gsSet 1 (gFrz (gBin oAdd (gVar 1) (gSeq .lst (gaCons (gUn (oIsiX (wE errCs 73)) (gVar 0)) (gaCons (gUn (oIsiX (wE errCs 97)) (gVar 0)) (gaCons (gUn (oIsiX (wE errCs 37)) (gVar 0)) (gaCons (gUn (oIsiX (wE errCs 61)) (gVar 0)) gaNil))))))))
  (gsCons (gsSet 1 (gFrz (gBin oAdd (gVar 1) (gSeq .lst (gaCons (gUn (oIsiX (wE errCs 133)) (gVar 0)) (gaCons (gUn (oIsiX (wE errCs 49)) (gVar 0)) (gaCons (gUn (oIsiX (wE errCs 85)) (gVar 0)) gaNil)))))))
  (gsRet (gBin oAdd (gVar 1) (gSeq .lst (gaCons (gUn (oIsiX (wE errCs 176)) (gVar 0)) gaNil)))))))
def M_l_kinds : GM := runM 2 [false] m_l_kinds
theorem ok_l_kinds (T : Txt K mg t) : FnOk P w K mg base CX0 1 t.f_l_kinds t.d_l_kinds ["_law_e"] (SpM K 1 M_l_kinds) :=
  fn_mir (k := 0) [false] m_l_kinds T.F_l_kinds.fn sc_l_kinds rfl rfl (by decide) fun cdv A outer s H E hr => (by
    have hu := hu_of hr
    have hu40 := hu40_of hr
    have hu41 := hu41_of hr
    exact ⟨_, (ds_cons (ds_set (i := 1) sc_l_kinds.nd rfl (Or.inl rfl) (de_frz (de_lst (da_cons (de_isiX (T.er.wE (c := 145) rfl rfl) T.b_isinstance (de_var (pv 0)) (pe_glob (v := .ref 145) (by rfl) (T.er.ix (i := 9) rfl).1 rfl) (fun _ r => r)) (da_cons (de_isiX (T.er.wE (c := 121) rfl rfl) T.b_isinstance (de_var (pv 0)) (pe_glob (v := .ref 121) (by rfl) (T.er.ix (i := 7) rfl).1 rfl) (fun _ r => r)) (da_cons (de_isiX (T.er.wE (c := 157) rfl rfl) T.b_isinstance (de_var (pv 0)) (pe_glob (v := .ref 157) (by rfl) (T.er.ix (i := 10) rfl).1 rfl) (fun _ r => r)) (da_cons (de_isiX (T.er.wE (c := 109) rfl rfl) T.b_isinstance (de_var (pv 0)) (pe_glob (v := .ref 109) (by rfl) (T.er.ix (i := 6) rfl).1 rfl) (fun _ r => r)) da_nil)))))))
      (ds_cons (ds_set (i := 1) sc_l_kinds.nd rfl (Or.inl rfl) (de_frz (de_op (op_addA K) ok_add (de_var (pv 1)) (de_lst (da_cons (de_isiX (T.er.wE (c := 73) rfl rfl) T.b_isinstance (de_var (pv 0)) (pe_glob (v := .ref 73) (by rfl) (T.er.ix (i := 3) rfl).1 rfl) (fun _ r => r)) (da_cons (de_isiX (T.er.wE (c := 97) rfl rfl) T.b_isinstance (de_var (pv 0)) (pe_glob (v := .ref 97) (by rfl) (T.er.ix (i := 5) rfl).1 rfl) (fun _ r => r)) (da_cons (de_isiX (T.er.wE (c := 37) rfl rfl) T.b_isinstance (de_var (pv 0)) (pe_glob (v := .ref 37) (by rfl) (T.er.ix (i := 0) rfl).1 rfl) (fun _ r => r)) (da_cons (de_isiX (T.er.wE (c := 61) rfl rfl) T.b_isinstance (de_var (pv 0)) (pe_glob (v := .ref 61) (by rfl) (T.er.ix (i := 2) rfl).1 rfl) (fun _ r => r)) da_nil))))))))
      (ds_cons (ds_set (i := 1) sc_l_kinds.nd rfl (Or.inl rfl) (de_frz (de_op (op_addA K) ok_add (de_var (pv 1)) (de_lst (da_cons (de_isiX (T.er.wE (c := 133) rfl rfl) T.b_isinstance (de_var (pv 0)) (pe_glob (v := .ref 133) (by rfl) (T.er.ix (i := 8) rfl).1 rfl) (fun _ r => r)) (da_cons (de_isiX (T.er.wE (c := 49) rfl rfl) T.b_isinstance (de_var (pv 0)) (pe_glob (v := .ref 49) (by rfl) (T.er.ix (i := 1) rfl).1 rfl) (fun _ r => r)) (da_cons (de_isiX (T.er.wE (c := 85) rfl rfl) T.b_isinstance (de_var (pv 0)) (pe_glob (v := .ref 85) (by rfl) (T.er.ix (i := 4) rfl).1 rfl) (fun _ r => r)) da_nil)))))))
      (ds_one (ds_ret (de_op (op_addA K) ok_add (de_var (pv 1)) (de_lst (da_cons (de_isiX (T.er.wE (c := 176) rfl rfl) T.b_isinstance (de_var (pv 0)) (pe_glob (v := .ref 176) (by rfl) T.er.mgL rfl) (fun _ r => r)) da_nil)))))))), rfl⟩)
end
end Carry
set_option Elab.async false
set_option linter.all false
set_option maxRecDepth 100000
set_option maxHeartbeats 4000000
namespace Carry
open PySem L2
section
variable {P : Program} {w : World} {K : PySem.W.Frag} {mg : Str → Option Value} {base : Heap} {t : Adr}
theorem sc_law : FnScope ["_law_script", "_law_words", "_law_number", "_law_line", "_law_made", "_law_k", "_law_kinds_here", "_law_j"] ["_law_script"] (defScope s_law) := ⟨rfl, rfl, rfl, by decide +kernel, rfl, by decide +kernel, by decide +kernel⟩
def m_law : GS := (gsCons (gsSet 1 (gFrz (gSlice (gC (.str "abcd")) goNone (goSome (gBin oMod (gCallF M_l_cell_at (gaCons (gVar 0) (gaCons (gC (.int 0)) gaNil))) (gC (.int 5)))))))
  (gsCons (gsSet 2 (gBin oSub (gBin oMod (gCallF M_l_cell_at (gaCons (gVar 0) (gaCons (gC (.int 1)) gaNil))) (gBin oAdd (gBin oMulA (gC (.int 2)) (gBin oPow (gC (.int 10)) (gC (.int 60)))) (gC (.int 1)))) (gBin oPow (gC (.int 10)) (gC (.int 60)))))
  (gsCons (gsSet 3 (gExcL 176 (gVar 2)))
  (gsCons (gsSet 4 (gFrz (gSeq .lst (gaCons (gExc 145 (gVar 1)) (gaCons (gExc 121 (gVar 1)) (gaCons (gExc 157 (gVar 1)) (gaCons (gExc 109 (gVar 1)) (gaCons (gExc 73 (gVar 1)) (gaCons (gExc 97 (gVar 1)) gaNil)))))))))
  (gsCons (gsSet 4 (gFrz (gBin oAdd (gVar 4) (gSeq .lst (gaCons (gExc 37 (gVar 1)) (gaCons (gExc 61 (gVar 1)) (gaCons (gExc 133 (gVar 1)) (gaCons (gExc 49 (gVar 1)) (gaCons (gExc 85 (gVar 1)) (gaCons (gVar 3) gaNil))))))))))
  (gsCons (gsRange1 (gaCons (gC (.int 12)) gaNil) (ggName 5)
    (gsCons (gsIf (gOrT (gNotT (gTru (gUn (oIsiX (wT errCs)) (gBin oIx (gVar 4) (gVar 5))))) (gNotT (gTru (gUn (oIsiX (wT errCs)) (gBin oIx (gVar 4) (gVar 5))))))
    (gsRet (gC (.bl false)))
    gsNil)
  (gsCons (gsSet 6 (gFrz (gCall M_l_kinds (gaCons (gBin oIx (gVar 4) (gVar 5)) gaNil))))
  (gsRange1 (gaCons (gC (.int 12)) gaNil) (ggName 7)
    (gsIf (gT (gBin oNeA (gBin oIx (gVar 6) (gVar 7)) (gBin oEq (gVar 7) (gVar 5))))
    (gsRet (gC (.bl false)))
    gsNil)))))
  (gsRet (gAndV (gOp oIsi (gaCons (gUn (oLine [176]) (gVar 3)) (gaCons (gC (.ty "int")) gaNil))) (gAndV (gNotV (gOp oIsi (gaCons (gUn (oLine [176]) (gVar 3)) (gaCons (gC (.ty "bool")) gaNil)))) (gBin oEq (gUn (oLine [176]) (gVar 3)) (gVar 2)))))))))))
def M_law : GM := runM 8 [false] m_law
theorem ok_law (T : Txt K mg t) (G_l_cell_at : FnOk P w K mg base CX0 1 t.f_l_cell_at t.d_l_cell_at ["_law_script", "_law_k"] (SpM K 2 M_l_cell_at)) (G_l_kinds : FnOk P w K mg base CX0 1 t.f_l_kinds t.d_l_kinds ["_law_e"] (SpM K 1 M_l_kinds)) : FnOk P w K mg base CX0 3 t.f_law t.d_law ["_law_script"] (SpM K 1 M_law) :=
  fn_mir (k := 2) [false] m_law T.F_law.fn sc_law rfl rfl (by decide) fun cdv A outer s H E hr => (by
    have hu := hu_of hr
    have hu40 := hu40_of hr
    have hu41 := hu41_of hr
    exact ⟨_, (ds_cons (ds_set (i := 1) sc_law.nd rfl (Or.inl rfl) (de_frz (de_slice (de_c (d := .str "abcd") pe_str) do_none (do_some (de_op op_mod ok_mod (de_callF T.F_l_cell_at G_l_cell_at (by exact hr.mono (by decide)) (da_cons (de_var (pv 0)) (da_cons (de_c (d := .int 0) pe_int) da_nil)) (ga_len_cons (ga_len_cons ga_len_nil))) (de_c (d := .int 5) pe_int))))))
      (ds_cons (ds_set (i := 2) sc_law.nd rfl (Or.inl rfl) (de_op op_sub ok_sub (de_op op_mod ok_mod (de_callF T.F_l_cell_at G_l_cell_at (by exact hr.mono (by decide)) (da_cons (de_var (pv 0)) (da_cons (de_c (d := .int 1) pe_int) da_nil)) (ga_len_cons (ga_len_cons ga_len_nil))) (de_op (op_addA K) ok_add (de_op op_mulA ok_mul (de_c (d := .int 2) pe_int) (de_op op_pow ok_pow (de_c (d := .int 10) pe_int) (de_c (d := .int 60) pe_int))) (de_c (d := .int 1) pe_int))) (de_op op_pow ok_pow (de_c (d := .int 10) pe_int) (de_c (d := .int 60) pe_int))))
      (ds_cons (ds_set (i := 3) sc_law.nd rfl (Or.inl rfl) (de_excL T.er.GL T.er.G0 T.er.fL (ok_init (P := P) (w := w) (base := base) T) (by exact hr.mono (by decide)) T.B_init T.er.kL T.er.mgL (de_var (pv 2))))
      (ds_cons (ds_set (i := 4) sc_law.nd rfl (Or.inl rfl) (de_frz (de_lst (da_cons (de_exc (T.er.ix (i := 9) rfl).2.1 T.er.G0 (T.er.ix (i := 9) rfl).2.2.2 (T.er.ix (i := 9) rfl).1 (de_var (pv 1))) (da_cons (de_exc (T.er.ix (i := 7) rfl).2.1 T.er.G0 (T.er.ix (i := 7) rfl).2.2.2 (T.er.ix (i := 7) rfl).1 (de_var (pv 1))) (da_cons (de_exc (T.er.ix (i := 10) rfl).2.1 T.er.G0 (T.er.ix (i := 10) rfl).2.2.2 (T.er.ix (i := 10) rfl).1 (de_var (pv 1))) (da_cons (de_exc (T.er.ix (i := 6) rfl).2.1 T.er.G0 (T.er.ix (i := 6) rfl).2.2.2 (T.er.ix (i := 6) rfl).1 (de_var (pv 1))) (da_cons (de_exc (T.er.ix (i := 3) rfl).2.1 T.er.G0 (T.er.ix (i := 3) rfl).2.2.2 (T.er.ix (i := 3) rfl).1 (de_var (pv 1))) (da_cons (de_exc (T.er.ix (i := 5) rfl).2.1 T.er.G0 (T.er.ix (i := 5) rfl).2.2.2 (T.er.ix (i := 5) rfl).1 (de_var (pv 1))) da_nil)))))))))
      (ds_cons (ds_set (i := 4) sc_law.nd rfl (Or.inl rfl) (de_frz (de_op (op_addA K) ok_add (de_var (pv 4)) (de_lst (da_cons (de_exc (T.er.ix (i := 0) rfl).2.1 T.er.G0 (T.er.ix (i := 0) rfl).2.2.2 (T.er.ix (i := 0) rfl).1 (de_var (pv 1))) (da_cons (de_exc (T.er.ix (i := 2) rfl).2.1 T.er.G0 (T.er.ix (i := 2) rfl).2.2.2 (T.er.ix (i := 2) rfl).1 (de_var (pv 1))) (da_cons (de_exc (T.er.ix (i := 8) rfl).2.1 T.er.G0 (T.er.ix (i := 8) rfl).2.2.2 (T.er.ix (i := 8) rfl).1 (de_var (pv 1))) (da_cons (de_exc (T.er.ix (i := 1) rfl).2.1 T.er.G0 (T.er.ix (i := 1) rfl).2.2.2 (T.er.ix (i := 1) rfl).1 (de_var (pv 1))) (da_cons (de_exc (T.er.ix (i := 4) rfl).2.1 T.er.G0 (T.er.ix (i := 4) rfl).2.2.2 (T.er.ix (i := 4) rfl).1 (de_var (pv 1))) (da_cons (de_var (pv 3)) da_nil))))))))))
      (ds_cons (ds_range1 PassesOwn.never T.b_range (da_cons (de_c (d := .int 12) pe_int) da_nil) (pg_name (i := 5) sc_law.nd rfl (Or.inl rfl)) tg_name
      (ds_cons (ds_if (PW.pt (dw_or (dt_not (dt_tru (de_isiX T.er.wB T.b_isinstance (de_ix (ix_A K (by exact hu41)) ok_ix (de_var (pv 4)) (de_var (pv 5))) (pe_glob (v := .ref 24) (by rfl) T.er.mg0 rfl) (fun _ r => r)))) (dw_or1 (dt_not (dt_tru (de_isiX T.er.wV T.b_isinstance (de_ix (ix_A K (by exact hu41)) ok_ix (de_var (pv 4)) (de_var (pv 5))) (pe_bltn (v := .ty "ValueError") (by rfl) T.b_ValueError bt_VE rfl) (fun _ r => r)))))))
      (ds_one (ds_ret (de_c (d := .bl false) pe_bl)))
      ds_nil)
      (ds_cons (ds_set (i := 6) sc_law.nd rfl (Or.inl rfl) (de_frz (de_call T.F_l_kinds G_l_kinds (by exact hr.mono (by decide)) (da_cons (de_ix (ix_A K (by exact hu41)) ok_ix (de_var (pv 4)) (de_var (pv 5))) da_nil) (ga_len_cons ga_len_nil))))
      (ds_one (ds_range1 PassesOwn.never T.b_range (da_cons (de_c (d := .int 12) pe_int) da_nil) (pg_name (i := 7) sc_law.nd rfl (Or.inl rfl)) tg_name
      (ds_one (ds_if (dt_cmp (op_neA K (by exact hu40)) ok_neA (de_ix (ix_A K (by exact hu41)) ok_ix (de_var (pv 6)) (de_var (pv 7))) (de_cmp (op_eqA K (by exact hu40)) ok_eq (de_var (pv 7)) (de_var (pv 5))))
      (ds_one (ds_ret (de_c (d := .bl false) pe_bl)))
      ds_nil)))))))
      (ds_one (ds_ret (de_and (de_callB (call_isiK K) ok_isi T.b_isinstance bt_isi (da_cons (de_line T.er.ln (de_var (pv 3))) (da_cons (de_c (d := .ty "int") (pe_ty (by rfl) T.b_int bt_int)) da_nil))) (de_and (de_not (de_callB (call_isiK K) ok_isi T.b_isinstance bt_isi (da_cons (de_line T.er.ln (de_var (pv 3))) (da_cons (de_c (d := .ty "bool") (pe_ty (by rfl) T.b_bool bt_bool)) da_nil)))) (de_one (de_cmp (op_eqA K (by exact hu40)) ok_eq (de_line T.er.ln (de_var (pv 3))) (de_var (pv 2)))))))))))))), rfl⟩)
end
end Carry
set_option Elab.async false
set_option linter.all false
set_option maxRecDepth 100000
set_option maxHeartbeats 4000000
namespace Carry
open PySem L2
theorem cell_some (ns : List Int) (k v : Int) (h1 : (k < (ns.length : Int)) = True) (h2 : atI (ns.map D.int) k = some (.int v)) : M_l_cell_at [.frz (.scr ns), .frz (.int k)] = some (.frz (.int v), [none, none]) := by
  unfold M_l_cell_at m_l_cell_at
  simp only [ev_run, List.map_cons, List.map_nil, List.length_cons, List.length_nil, Nat.zero_add, Nat.reduceAdd, Nat.reduceSub, List.replicate_zero, List.cons_append, List.nil_append, ev_cons, ev_ifS, ev_T, ev_op, ev_aCons, ev_var, List.getElem?_cons_succ, List.getElem?_cons_zero, ↓evBind, ev_aNil, ev_see1, ev_seeO, ev_see0, ev_len, ev_d1, ev_len3, ↓evMap, ev_int, h1, decide_true, if_true, ev_ret, ev_ix, ev_ixC, h2, ev_nil, ev_vr, List.take_succ_cons, List.take_zero, ev_kf, ev_kn]
theorem cell_none (ns : List Int) (k : Int) (h1 : (k < (ns.length : Int)) = False) : M_l_cell_at [.frz (.scr ns), .frz (.int k)] = some (.frz (.int 0), [none, none]) := by
  unfold M_l_cell_at m_l_cell_at
  simp only [ev_run, List.map_cons, List.map_nil, List.length_cons, List.length_nil, Nat.zero_add, Nat.reduceAdd, Nat.reduceSub, List.replicate_zero, List.cons_append, List.nil_append, ev_cons, ev_ifS, ev_T, ev_op, ev_aCons, ev_var, List.getElem?_cons_succ, List.getElem?_cons_zero, ↓evBind, ev_aNil, ev_see1, ev_seeO, ev_see0, ev_len, ev_d1, ev_len3, ↓evMap, ev_int, h1, decide_false, if_true, Bool.false_eq_true, ev_ret, ev_ix, ev_ixC, ev_nil, if_false, ev_c, ev_vr, List.take_succ_cons, List.take_zero, ev_kf, ev_kn]
theorem x_cell_at (ns : List Int) (k : Nat) : ∃ v, M_l_cell_at [.frz (.scr ns), .frz (.int k)] = some (.frz (.int v), [none, none]) := by
  by_cases h : k < ns.length
  · exact ⟨_, cell_some ns k _ (eq_true (by omega)) (atI_nat (by rw [List.getElem?_map, List.getElem?_eq_getElem h]; rfl))⟩
  · exact ⟨_, cell_none ns k (eq_false (by omega))⟩
end Carry
set_option Elab.async false
set_option linter.all false
set_option maxRecDepth 100000
set_option maxHeartbeats 4000000
namespace Carry
open PySem L2
def l1 : GS := (gsSet 1 (gFrz (gSlice (gC (.str "abcd")) goNone (goSome (gBin oMod (gCallF M_l_cell_at (gaCons (gVar 0) (gaCons (gC (.int 0)) gaNil))) (gC (.int 5)))))))
def l2 : GS := (gsSet 2 (gBin oSub (gBin oMod (gCallF M_l_cell_at (gaCons (gVar 0) (gaCons (gC (.int 1)) gaNil))) (gBin oAdd (gBin oMulA (gC (.int 2)) (gBin oPow (gC (.int 10)) (gC (.int 60)))) (gC (.int 1)))) (gBin oPow (gC (.int 10)) (gC (.int 60)))))
def l3 : GS := (gsSet 3 (gExcL 176 (gVar 2)))
def l4 : GS := (gsSet 4 (gFrz (gSeq .lst (gaCons (gExc 145 (gVar 1)) (gaCons (gExc 121 (gVar 1)) (gaCons (gExc 157 (gVar 1)) (gaCons (gExc 109 (gVar 1)) (gaCons (gExc 73 (gVar 1)) (gaCons (gExc 97 (gVar 1)) gaNil)))))))))
def l5 : GS := (gsSet 4 (gFrz (gBin oAdd (gVar 4) (gSeq .lst (gaCons (gExc 37 (gVar 1)) (gaCons (gExc 61 (gVar 1)) (gaCons (gExc 133 (gVar 1)) (gaCons (gExc 49 (gVar 1)) (gaCons (gExc 85 (gVar 1)) (gaCons (gVar 3) gaNil))))))))))
def lp : GS := (gsRange1 (gaCons (gC (.int 12)) gaNil) (ggName 5)
    (gsCons (gsIf (gOrT (gNotT (gTru (gUn (oIsiX (wT errCs)) (gBin oIx (gVar 4) (gVar 5))))) (gNotT (gTru (gUn (oIsiX (wT errCs)) (gBin oIx (gVar 4) (gVar 5))))))
    (gsRet (gC (.bl false)))
    gsNil)
  (gsCons (gsSet 6 (gFrz (gCall M_l_kinds (gaCons (gBin oIx (gVar 4) (gVar 5)) gaNil))))
  (gsRange1 (gaCons (gC (.int 12)) gaNil) (ggName 7)
    (gsIf (gT (gBin oNeA (gBin oIx (gVar 6) (gVar 7)) (gBin oEq (gVar 7) (gVar 5))))
    (gsRet (gC (.bl false)))
    gsNil)))))
def lr : GS := (gsRet (gAndV (gOp oIsi (gaCons (gUn (oLine [176]) (gVar 3)) (gaCons (gC (.ty "int")) gaNil))) (gAndV (gNotV (gOp oIsi (gaCons (gUn (oLine [176]) (gVar 3)) (gaCons (gC (.ty "bool")) gaNil)))) (gBin oEq (gUn (oLine [176]) (gVar 3)) (gVar 2)))))
theorem m_law_eq : m_law = gsCons l1 (gsCons l2 (gsCons l3 (gsCons l4 (gsCons l5 (gsCons lp lr))))) := rfl
def xs6 : List D := [.exc 145 none, .exc 121 none, .exc 157 none, .exc 109 none, .exc 73 none, .exc 97 none]
def xs12 (n : Int) : List D := xs6 ++ [.exc 37 none, .exc 61 none, .exc 133 none, .exc 49 none, .exc 85 none, .exc 176 (some n)]
def kinds (k : Nat) : List D := (List.range 12).map fun j => .bl (j == k)
theorem x_l4 (ns : List Int) (w : Str) (n : Int) : l4 [some (.frz (.scr ns)), some (.frz (.str w)), some (.frz (.int n)), some (.frz (.exc 176 (some n))), none, none, none, none] = some (.nx, [some (.frz (.scr ns)), some (.frz (.str w)), some (.frz (.int n)), some (.frz (.exc 176 (some n))), some (.frz (.lst xs6)), none, none, none]) := by kernel_rfl
theorem x_l5 (ns : List Int) (w : Str) (n : Int) : l5 [some (.frz (.scr ns)), some (.frz (.str w)), some (.frz (.int n)), some (.frz (.exc 176 (some n))), some (.frz (.lst xs6)), none, none, none] = some (.nx, [some (.frz (.scr ns)), some (.frz (.str w)), some (.frz (.int n)), some (.frz (.exc 176 (some n))), some (.frz (.lst (xs12 n))), none, none, none]) := by kernel_rfl
theorem x_lp (ns : List Int) (w : Str) (n : Int) : lp [some (.frz (.scr ns)), some (.frz (.str w)), some (.frz (.int n)), some (.frz (.exc 176 (some n))), some (.frz (.lst (xs12 n))), none, none, none] = some (.nx, [some (.frz (.scr ns)), some (.frz (.str w)), some (.frz (.int n)), some (.frz (.exc 176 (some n))), some (.frz (.lst (xs12 n))), some (.frz (.int 11)), some (.frz (.lst (kinds 11))), some (.frz (.int 11))]) := by kernel_rfl
end Carry
set_option Elab.async false
set_option linter.all false
set_option maxRecDepth 100000
set_option maxHeartbeats 4000000
namespace Carry
open PySem L2
theorem x_lr (ns : List Int) (w : Str) (n : Int) : lr [some (.frz (.scr ns)), some (.frz (.str w)), some (.frz (.int n)), some (.frz (.exc 176 (some n))), some (.frz (.lst (xs12 n))), some (.frz (.int 11)), some (.frz (.lst (kinds 11))), some (.frz (.int 11))] = some (.rt (.frz (.bl (n == n))), [some (.frz (.scr ns)), some (.frz (.str w)), some (.frz (.int n)), some (.frz (.exc 176 (some n))), some (.frz (.lst (xs12 n))), some (.frz (.int 11)), some (.frz (.lst (kinds 11))), some (.frz (.int 11))]) := by kernel_rfl
theorem x_l3 (ns : List Int) (w : Str) (n : Int) : l3 [some (.frz (.scr ns)), some (.frz (.str w)), some (.frz (.int n)), none, none, none, none, none] = some (.nx, [some (.frz (.scr ns)), some (.frz (.str w)), some (.frz (.int n)), some (.frz (.exc 176 (some n))), none, none, none, none]) := by kernel_rfl
theorem x_l2 (ns : List Int) (w : Str) (v : Int) (h : M_l_cell_at [.frz (.scr ns), .frz (.int 1)] = some (.frz (.int v), [none, none])) : ∃ n, l2 [some (.frz (.scr ns)), some (.frz (.str w)), none, none, none, none, none, none] = some (.nx, [some (.frz (.scr ns)), some (.frz (.str w)), some (.frz (.int n)), none, none, none, none, none]) := by
  have p1 : powC 10 60 = true := by decide +kernel
  have m1 : ∀ x : Int, (((-(2 ^ 64) : Int) < 2 ∧ (2 : Int) < 2 ^ 64 ∨ -(2 ^ 64) < x ∧ x < 2 ^ 64) = True) := fun x => eq_true (.inl ⟨by decide, by decide⟩)
  have c2 : (0 < 2 * (10 : Int) ^ Int.toNat 60 + 1) = True := eq_true (by decide +kernel)
  refine ⟨v % (2 * 10 ^ Int.toNat 60 + 1) - 10 ^ Int.toNat 60, ?_⟩
  unfold l2
  simp only [ev_set, ev_op, ev_aCons, ev_callF, ev_var, List.getElem?_cons_zero, ↓evBind, ev_c, ev_aNil, ev_see1, ev_seeO, ev_see0, ev_dl1, ev_d1, ev_dl0, List.map_cons, List.map_nil, h, ev_fo_i, ev_int, p1, if_true, ev_mulI, m1, ev_addI, c2, decide_true, List.length_cons, List.length_nil, Nat.zero_add, Nat.reduceAdd, Nat.reduceLT, List.set_cons_succ, List.set_cons_zero]
theorem x_l1 (ns : List Int) (v : Int) (h : M_l_cell_at [.frz (.scr ns), .frz (.int 0)] = some (.frz (.int v), [none, none])) : ∃ w, l1 [some (.frz (.scr ns)), none, none, none, none, none, none, none] = some (.nx, [some (.frz (.scr ns)), some (.frz (.str w)), none, none, none, none, none, none]) := by
  have c1 : ((Str.ofString "abcd").length ≤ 1000000) = True := eq_true (by decide +kernel)
  refine ⟨Txt.slice (Str.ofString "abcd") none (some (v % 5)), ?_⟩
  unfold l1
  simp only [ev_set, ev_frz, ev_slice, ev_c, ↓evBind, ev_none, ev_some, ev_op, ev_aCons, ev_callF, ev_var, List.getElem?_cons_zero, ev_aNil, ev_see1, ev_seeO, ev_see0, ev_dl1, ev_d1, ev_dl0, List.map_cons, List.map_nil, h, ev_fo_i, ev_int, Int.reduceLT, decide_true, if_true, ev_intR, ↓evMap, ev_sl_str, c1, List.length_cons, List.length_nil, Nat.zero_add, Nat.reduceAdd, Nat.reduceLT, List.set_cons_succ, List.set_cons_zero]
theorem x_law (ns : List Int) (h : ns.length ≤ 63) : ∃ fin, M_law [.frz (.scr ns)] = some (.frz (.bl true), fin) := by
  obtain ⟨v0, h0⟩ := x_cell_at ns 0
  obtain ⟨v1, h1⟩ := x_cell_at ns 1
  obtain ⟨w, e1⟩ := x_l1 ns v0 h0
  obtain ⟨n, e2⟩ := x_l2 ns w v1 h1
  have er := x_lr ns w n
  rw [beq_self_eq_true] at er
  refine ⟨[none], ?_⟩
  unfold M_law
  rw [m_law_eq]
  simp only [ev_run, List.map_cons, List.map_nil, List.length_cons, List.length_nil, Nat.zero_add, Nat.reduceSub, List.replicate_succ, List.replicate_zero, List.cons_append, List.nil_append, ev_cons, e1, ↓evBind, e2, x_l3, x_l4, x_l5, x_lp, er, ev_vr, Nat.reduceAdd, List.take_succ_cons, List.take_zero, ev_kf, ev_kn, if_true]
end Carry
namespace Carry
open PySem L2

def spLaw (K : PySem.W.Frag) : L2.Sp := fun vs H Q _ => ∃ (a : Addr) (ns : List Int), vs = [.ref a] ∧ SqL K H a (ns.map V.int) ∧ ns.length ≤ 63 ∧ ∀ H', Q (.bl true) H'
theorem ok_fin {P : Program} {w : World} {K : PySem.W.Frag} {mg : Str → Option Value} {base : Heap} {t : Adr} (T : Txt K mg t) : FnOk P w K mg base CX0 3 t.f_law t.d_law ["_law_script"] (spLaw K) := by
  have z_l_cell_at := ok_l_cell_at (P := P) (w := w) (base := base) T
  have z_l_kinds := ok_l_kinds (P := P) (w := w) (base := base) T
  exact law_mir (ok_law T z_l_cell_at z_l_kinds) x_law
theorem us_1 {us : List Value} (h : us.length = 1) : ∃ a0, us = [a0] := by
  obtain _ | ⟨a0, us⟩ := us
  · cases h
  obtain _ | ⟨z, us⟩ := us
  · exact ⟨a0, rfl⟩
  · simp at h
theorem us_2 {us : List Value} (h : us.length = 2) : ∃ a0 a1, us = [a0, a1] := by
  obtain _ | ⟨a0, us⟩ := us
  · cases h
  obtain _ | ⟨a1, us⟩ := us
  · cases h
  obtain _ | ⟨z, us⟩ := us
  · exact ⟨a0, a1, rfl⟩
  · simp at h
open PyProof.Rows in
theorem errs_mk {K : PySem.W.Frag} {h : Heap} {mg : Str → Option Value} (X : K.In h) (G : h.Ns mainGlobals mg) (vs : PySem.W.specialIn K (.builtin "object.__class__") "__get__" = some (some (.builtin "getset_descriptor.__get__"))) (vt : PySem.W.takesIn K (.builtin "object.__class__") = some true)
    {nm0 q0 : Str} {N0 : Addr} {bs0 sub0 : List Value} {sn0 : List Str} {ab0 : Bool} {col0 : Option Bool} {dd0 : Option Addr} {x00 x10 x20 x30 x50 : Option Value} {on0 : Value} {odn0 : Option Addr} {es0 : Array DictEntry} {ep0 : Nat} {sl0 : Array (Option Value)}
    (va0 : PySem.W.nsIn K mainGlobals "NoName" = some (some (.ref 37))) (vl0 : K.lookup 37 = some (excClassObj nm0 q0 37 N0 bs0 (.ref 24 :: bmV) true sn0 sub0 ab0 col0 dd0 x00 x10 x20 x30 x50 "ValueError.__new__")) (vd0 : K.lookup N0 = some ⟨on0, odn0, .dict es0 ep0, sl0⟩) (ve0 : es0.toList.all isStrK = true) (vi0 : nsFind es0 "__init__" = none) (vg0 : PySem.W.findIn K (.ref 37) "__getattribute__" = some (some (.builtin "BaseException.__getattribute__"))) (vn0 : PySem.W.findIn K (.ref 37) "__getattr__" = some none) (vc0 : PySem.W.findIn K (.ref 37) "__class__" = some (some (.builtin "object.__class__"))) (vk0 : PySem.W.keepIn K (.ref 37) = true)
    {nm1 q1 : Str} {N1 : Addr} {bs1 sub1 : List Value} {sn1 : List Str} {ab1 : Bool} {col1 : Option Bool} {dd1 : Option Addr} {x01 x11 x21 x31 x51 : Option Value} {on1 : Value} {odn1 : Option Addr} {es1 : Array DictEntry} {ep1 : Nat} {sl1 : Array (Option Value)}
    (va1 : PySem.W.nsIn K mainGlobals "NoSize" = some (some (.ref 49))) (vl1 : K.lookup 49 = some (excClassObj nm1 q1 49 N1 bs1 (.ref 24 :: bmV) true sn1 sub1 ab1 col1 dd1 x01 x11 x21 x31 x51 "ValueError.__new__")) (vd1 : K.lookup N1 = some ⟨on1, odn1, .dict es1 ep1, sl1⟩) (ve1 : es1.toList.all isStrK = true) (vi1 : nsFind es1 "__init__" = none) (vg1 : PySem.W.findIn K (.ref 49) "__getattribute__" = some (some (.builtin "BaseException.__getattribute__"))) (vn1 : PySem.W.findIn K (.ref 49) "__getattr__" = some none) (vc1 : PySem.W.findIn K (.ref 49) "__class__" = some (some (.builtin "object.__class__"))) (vk1 : PySem.W.keepIn K (.ref 49) = true)
    {nm2 q2 : Str} {N2 : Addr} {bs2 sub2 : List Value} {sn2 : List Str} {ab2 : Bool} {col2 : Option Bool} {dd2 : Option Addr} {x02 x12 x22 x32 x52 : Option Value} {on2 : Value} {odn2 : Option Addr} {es2 : Array DictEntry} {ep2 : Nat} {sl2 : Array (Option Value)}
    (va2 : PySem.W.nsIn K mainGlobals "NoOut" = some (some (.ref 61))) (vl2 : K.lookup 61 = some (excClassObj nm2 q2 61 N2 bs2 (.ref 24 :: bmV) true sn2 sub2 ab2 col2 dd2 x02 x12 x22 x32 x52 "ValueError.__new__")) (vd2 : K.lookup N2 = some ⟨on2, odn2, .dict es2 ep2, sl2⟩) (ve2 : es2.toList.all isStrK = true) (vi2 : nsFind es2 "__init__" = none) (vg2 : PySem.W.findIn K (.ref 61) "__getattribute__" = some (some (.builtin "BaseException.__getattribute__"))) (vn2 : PySem.W.findIn K (.ref 61) "__getattr__" = some none) (vc2 : PySem.W.findIn K (.ref 61) "__class__" = some (some (.builtin "object.__class__"))) (vk2 : PySem.W.keepIn K (.ref 61) = true)
    {nm3 q3 : Str} {N3 : Addr} {bs3 sub3 : List Value} {sn3 : List Str} {ab3 : Bool} {col3 : Option Bool} {dd3 : Option Addr} {x03 x13 x23 x33 x53 : Option Value} {on3 : Value} {odn3 : Option Addr} {es3 : Array DictEntry} {ep3 : Nat} {sl3 : Array (Option Value)}
    (va3 : PySem.W.nsIn K mainGlobals "NoHand" = some (some (.ref 73))) (vl3 : K.lookup 73 = some (excClassObj nm3 q3 73 N3 bs3 (.ref 24 :: bmV) true sn3 sub3 ab3 col3 dd3 x03 x13 x23 x33 x53 "ValueError.__new__")) (vd3 : K.lookup N3 = some ⟨on3, odn3, .dict es3 ep3, sl3⟩) (ve3 : es3.toList.all isStrK = true) (vi3 : nsFind es3 "__init__" = none) (vg3 : PySem.W.findIn K (.ref 73) "__getattribute__" = some (some (.builtin "BaseException.__getattribute__"))) (vn3 : PySem.W.findIn K (.ref 73) "__getattr__" = some none) (vc3 : PySem.W.findIn K (.ref 73) "__class__" = some (some (.builtin "object.__class__"))) (vk3 : PySem.W.keepIn K (.ref 73) = true)
    {nm4 q4 : Str} {N4 : Addr} {bs4 sub4 : List Value} {sn4 : List Str} {ab4 : Bool} {col4 : Option Bool} {dd4 : Option Addr} {x04 x14 x24 x34 x54 : Option Value} {on4 : Value} {odn4 : Option Addr} {es4 : Array DictEntry} {ep4 : Nat} {sl4 : Array (Option Value)}
    (va4 : PySem.W.nsIn K mainGlobals "NoWay" = some (some (.ref 85))) (vl4 : K.lookup 85 = some (excClassObj nm4 q4 85 N4 bs4 (.ref 24 :: bmV) true sn4 sub4 ab4 col4 dd4 x04 x14 x24 x34 x54 "ValueError.__new__")) (vd4 : K.lookup N4 = some ⟨on4, odn4, .dict es4 ep4, sl4⟩) (ve4 : es4.toList.all isStrK = true) (vi4 : nsFind es4 "__init__" = none) (vg4 : PySem.W.findIn K (.ref 85) "__getattribute__" = some (some (.builtin "BaseException.__getattribute__"))) (vn4 : PySem.W.findIn K (.ref 85) "__getattr__" = some none) (vc4 : PySem.W.findIn K (.ref 85) "__class__" = some (some (.builtin "object.__class__"))) (vk4 : PySem.W.keepIn K (.ref 85) = true)
    {nm5 q5 : Str} {N5 : Addr} {bs5 sub5 : List Value} {sn5 : List Str} {ab5 : Bool} {col5 : Option Bool} {dd5 : Option Addr} {x05 x15 x25 x35 x55 : Option Value} {on5 : Value} {odn5 : Option Addr} {es5 : Array DictEntry} {ep5 : Nat} {sl5 : Array (Option Value)}
    (va5 : PySem.W.nsIn K mainGlobals "NoMoment" = some (some (.ref 97))) (vl5 : K.lookup 97 = some (excClassObj nm5 q5 97 N5 bs5 (.ref 24 :: bmV) true sn5 sub5 ab5 col5 dd5 x05 x15 x25 x35 x55 "ValueError.__new__")) (vd5 : K.lookup N5 = some ⟨on5, odn5, .dict es5 ep5, sl5⟩) (ve5 : es5.toList.all isStrK = true) (vi5 : nsFind es5 "__init__" = none) (vg5 : PySem.W.findIn K (.ref 97) "__getattribute__" = some (some (.builtin "BaseException.__getattribute__"))) (vn5 : PySem.W.findIn K (.ref 97) "__getattr__" = some none) (vc5 : PySem.W.findIn K (.ref 97) "__class__" = some (some (.builtin "object.__class__"))) (vk5 : PySem.W.keepIn K (.ref 97) = true)
    {nm6 q6 : Str} {N6 : Addr} {bs6 sub6 : List Value} {sn6 : List Str} {ab6 : Bool} {col6 : Option Bool} {dd6 : Option Addr} {x06 x16 x26 x36 x56 : Option Value} {on6 : Value} {odn6 : Option Addr} {es6 : Array DictEntry} {ep6 : Nat} {sl6 : Array (Option Value)}
    (va6 : PySem.W.nsIn K mainGlobals "NoFlight" = some (some (.ref 109))) (vl6 : K.lookup 109 = some (excClassObj nm6 q6 109 N6 bs6 (.ref 24 :: bmV) true sn6 sub6 ab6 col6 dd6 x06 x16 x26 x36 x56 "ValueError.__new__")) (vd6 : K.lookup N6 = some ⟨on6, odn6, .dict es6 ep6, sl6⟩) (ve6 : es6.toList.all isStrK = true) (vi6 : nsFind es6 "__init__" = none) (vg6 : PySem.W.findIn K (.ref 109) "__getattribute__" = some (some (.builtin "BaseException.__getattribute__"))) (vn6 : PySem.W.findIn K (.ref 109) "__getattr__" = some none) (vc6 : PySem.W.findIn K (.ref 109) "__class__" = some (some (.builtin "object.__class__"))) (vk6 : PySem.W.keepIn K (.ref 109) = true)
    {nm7 q7 : Str} {N7 : Addr} {bs7 sub7 : List Value} {sn7 : List Str} {ab7 : Bool} {col7 : Option Bool} {dd7 : Option Addr} {x07 x17 x27 x37 x57 : Option Value} {on7 : Value} {odn7 : Option Addr} {es7 : Array DictEntry} {ep7 : Nat} {sl7 : Array (Option Value)}
    (va7 : PySem.W.nsIn K mainGlobals "NoBelt" = some (some (.ref 121))) (vl7 : K.lookup 121 = some (excClassObj nm7 q7 121 N7 bs7 (.ref 24 :: bmV) true sn7 sub7 ab7 col7 dd7 x07 x17 x27 x37 x57 "ValueError.__new__")) (vd7 : K.lookup N7 = some ⟨on7, odn7, .dict es7 ep7, sl7⟩) (ve7 : es7.toList.all isStrK = true) (vi7 : nsFind es7 "__init__" = none) (vg7 : PySem.W.findIn K (.ref 121) "__getattribute__" = some (some (.builtin "BaseException.__getattribute__"))) (vn7 : PySem.W.findIn K (.ref 121) "__getattr__" = some none) (vc7 : PySem.W.findIn K (.ref 121) "__class__" = some (some (.builtin "object.__class__"))) (vk7 : PySem.W.keepIn K (.ref 121) = true)
    {nm8 q8 : Str} {N8 : Addr} {bs8 sub8 : List Value} {sn8 : List Str} {ab8 : Bool} {col8 : Option Bool} {dd8 : Option Addr} {x08 x18 x28 x38 x58 : Option Value} {on8 : Value} {odn8 : Option Addr} {es8 : Array DictEntry} {ep8 : Nat} {sl8 : Array (Option Value)}
    (va8 : PySem.W.nsIn K mainGlobals "NoRoom" = some (some (.ref 133))) (vl8 : K.lookup 133 = some (excClassObj nm8 q8 133 N8 bs8 (.ref 24 :: bmV) true sn8 sub8 ab8 col8 dd8 x08 x18 x28 x38 x58 "ValueError.__new__")) (vd8 : K.lookup N8 = some ⟨on8, odn8, .dict es8 ep8, sl8⟩) (ve8 : es8.toList.all isStrK = true) (vi8 : nsFind es8 "__init__" = none) (vg8 : PySem.W.findIn K (.ref 133) "__getattribute__" = some (some (.builtin "BaseException.__getattribute__"))) (vn8 : PySem.W.findIn K (.ref 133) "__getattr__" = some none) (vc8 : PySem.W.findIn K (.ref 133) "__class__" = some (some (.builtin "object.__class__"))) (vk8 : PySem.W.keepIn K (.ref 133) = true)
    {nm9 q9 : Str} {N9 : Addr} {bs9 sub9 : List Value} {sn9 : List Str} {ab9 : Bool} {col9 : Option Bool} {dd9 : Option Addr} {x09 x19 x29 x39 x59 : Option Value} {on9 : Value} {odn9 : Option Addr} {es9 : Array DictEntry} {ep9 : Nat} {sl9 : Array (Option Value)}
    (va9 : PySem.W.nsIn K mainGlobals "NoBag" = some (some (.ref 145))) (vl9 : K.lookup 145 = some (excClassObj nm9 q9 145 N9 bs9 (.ref 24 :: bmV) true sn9 sub9 ab9 col9 dd9 x09 x19 x29 x39 x59 "ValueError.__new__")) (vd9 : K.lookup N9 = some ⟨on9, odn9, .dict es9 ep9, sl9⟩) (ve9 : es9.toList.all isStrK = true) (vi9 : nsFind es9 "__init__" = none) (vg9 : PySem.W.findIn K (.ref 145) "__getattribute__" = some (some (.builtin "BaseException.__getattribute__"))) (vn9 : PySem.W.findIn K (.ref 145) "__getattr__" = some none) (vc9 : PySem.W.findIn K (.ref 145) "__class__" = some (some (.builtin "object.__class__"))) (vk9 : PySem.W.keepIn K (.ref 145) = true)
    {nm10 q10 : Str} {N10 : Addr} {bs10 sub10 : List Value} {sn10 : List Str} {ab10 : Bool} {col10 : Option Bool} {dd10 : Option Addr} {x010 x110 x210 x310 x510 : Option Value} {on10 : Value} {odn10 : Option Addr} {es10 : Array DictEntry} {ep10 : Nat} {sl10 : Array (Option Value)}
    (va10 : PySem.W.nsIn K mainGlobals "NoDeed" = some (some (.ref 157))) (vl10 : K.lookup 157 = some (excClassObj nm10 q10 157 N10 bs10 (.ref 24 :: bmV) true sn10 sub10 ab10 col10 dd10 x010 x110 x210 x310 x510 "ValueError.__new__")) (vd10 : K.lookup N10 = some ⟨on10, odn10, .dict es10 ep10, sl10⟩) (ve10 : es10.toList.all isStrK = true) (vi10 : nsFind es10 "__init__" = none) (vg10 : PySem.W.findIn K (.ref 157) "__getattribute__" = some (some (.builtin "BaseException.__getattribute__"))) (vn10 : PySem.W.findIn K (.ref 157) "__getattr__" = some none) (vc10 : PySem.W.findIn K (.ref 157) "__class__" = some (some (.builtin "object.__class__"))) (vk10 : PySem.W.keepIn K (.ref 157) = true)
    {nm11 q11 : Str} {N11 : Addr} {bs11 sub11 : List Value} {sn11 : List Str} {ab11 : Bool} {col11 : Option Bool} {dd11 : Option Addr} {x011 x111 x211 x311 x511 : Option Value} {on11 : Value} {odn11 : Option Addr} {es11 : Array DictEntry} {ep11 : Nat} {sl11 : Array (Option Value)}
    (va11 : PySem.W.nsIn K mainGlobals "NoLine" = some (some (.ref 176))) (vl11 : K.lookup 176 = some (excClassObj nm11 q11 176 N11 bs11 (.ref 24 :: bmV) true sn11 sub11 ab11 col11 dd11 x011 x111 x211 x311 x511 "ValueError.__new__")) (vd11 : K.lookup N11 = some ⟨on11, odn11, .dict es11 ep11, sl11⟩) (ve11 : es11.toList.all isStrK = true) (vi11 : nsFind es11 "__init__" = (some (.ref 173))) (vg11 : PySem.W.findIn K (.ref 176) "__getattribute__" = some (some (.builtin "BaseException.__getattribute__"))) (vn11 : PySem.W.findIn K (.ref 176) "__getattr__" = some none) (vc11 : PySem.W.findIn K (.ref 176) "__class__" = some (some (.builtin "object.__class__"))) (vk11 : PySem.W.keepIn K (.ref 176) = true)
    {nm12 q12 : Str} {N12 : Addr} {bs12 sub12 : List Value} {sn12 : List Str} {ab12 : Bool} {col12 : Option Bool} {dd12 : Option Addr} {x012 x112 x212 x312 x512 : Option Value} {on12 : Value} {odn12 : Option Addr} {es12 : Array DictEntry} {ep12 : Nat} {sl12 : Array (Option Value)}
    (va12 : PySem.W.nsIn K mainGlobals "CarryError" = some (some (.ref 24))) (vl12 : K.lookup 24 = some (excClassObj nm12 q12 24 N12 bs12 bmV true sn12 sub12 ab12 col12 dd12 x012 x112 x212 x312 x512 "ValueError.__new__")) (vd12 : K.lookup N12 = some ⟨on12, odn12, .dict es12 ep12, sl12⟩) (ve12 : es12.toList.all isStrK = true) (vi12 : nsFind es12 "__init__" = none)
    (us : PySem.W.findIn K (.ref 176) "__setattr__" = some (some (.builtin "object.__setattr__"))) (ul : PySem.W.findIn K (.ref 176) "line" = some none) (uf : PySem.W.isFn K (.ref 173) = true) (ug : PySem.W.specialIn K (.ref 24) "__getattribute__" = some (some (.builtin "type.__getattribute__"))) (ur : PySem.W.readsIn K 24 (.type "type") = true) (uc : PySem.W.findCls K (.ref 24) (.type "type") "__init__" = some (.val (.builtin "ValueError.__init__"))) : Errs K mg errTab 176 24 173 := by
  refine ⟨fun p hp => ?_, PySem.W.mg_of X G va11, errC_mk vl11 vd11 ve11 vi11, ⟨vg11, vn11, vc11, vs, vt⟩, vk11, us, ul, uf, PySem.W.mg_of X G va12, errC_mk vl12 vd12 ve12 vi12, ⟨ug, ur, uc⟩⟩
  simp only [errTab, List.mem_cons, List.not_mem_nil, or_false] at hp
  rcases hp with rfl | rfl | rfl | rfl | rfl | rfl | rfl | rfl | rfl | rfl | rfl
  · exact errOne X G va0 (errC_mk vl0 vd0 ve0 vi0) ⟨vg0, vn0, vc0, vs, vt⟩ vk0
  · exact errOne X G va1 (errC_mk vl1 vd1 ve1 vi1) ⟨vg1, vn1, vc1, vs, vt⟩ vk1
  · exact errOne X G va2 (errC_mk vl2 vd2 ve2 vi2) ⟨vg2, vn2, vc2, vs, vt⟩ vk2
  · exact errOne X G va3 (errC_mk vl3 vd3 ve3 vi3) ⟨vg3, vn3, vc3, vs, vt⟩ vk3
  · exact errOne X G va4 (errC_mk vl4 vd4 ve4 vi4) ⟨vg4, vn4, vc4, vs, vt⟩ vk4
  · exact errOne X G va5 (errC_mk vl5 vd5 ve5 vi5) ⟨vg5, vn5, vc5, vs, vt⟩ vk5
  · exact errOne X G va6 (errC_mk vl6 vd6 ve6 vi6) ⟨vg6, vn6, vc6, vs, vt⟩ vk6
  · exact errOne X G va7 (errC_mk vl7 vd7 ve7 vi7) ⟨vg7, vn7, vc7, vs, vt⟩ vk7
  · exact errOne X G va8 (errC_mk vl8 vd8 ve8 vi8) ⟨vg8, vn8, vc8, vs, vt⟩ vk8
  · exact errOne X G va9 (errC_mk vl9 vd9 ve9 vi9) ⟨vg9, vn9, vc9, vs, vt⟩ vk9
  · exact errOne X G va10 (errC_mk vl10 vd10 ve10 vi10) ⟨vg10, vn10, vc10, vs, vt⟩ vk10
theorem all_mk {l : PySem.W.OpenLaw} {w : World} {K : PySem.W.Frag} {h : Heap} {mg : Str → Option Value} {fa f_l_cell_at f_l_kinds f_law : Addr} (X : K.In h) (G : h.Ns mainGlobals mg) (hfa : mg "law" = some (.ref fa))
    {od0 an0 : Option Addr} {sl0 : Array (Option Value)} {oc0 kV0 dc0 pm0 cd0 ct0 : Value}
    (a0 : PySem.W.nsIn K mainGlobals "_law_cell_at" = some (some (.ref f_l_cell_at))) (l0 : K.lookup f_l_cell_at = some ⟨oc0, od0, .func (PySem.W.fnOf "_law_cell_at" "_law_cell_at" (defArgs s_l_cell_at) (defBody s_l_cell_at) (defScope s_l_cell_at) .none kV0 dc0 pm0 an0 cd0 ct0), sl0⟩) (c0 : PySem.W.codeIn K cd0 "_law_cell_at" = true) (k0 : PySem.W.keepIn K (.ref f_l_cell_at) = true)
    {od1 an1 : Option Addr} {sl1 : Array (Option Value)} {oc1 kV1 dc1 pm1 cd1 ct1 : Value}
    (a1 : PySem.W.nsIn K mainGlobals "_law_kinds" = some (some (.ref f_l_kinds))) (l1 : K.lookup f_l_kinds = some ⟨oc1, od1, .func (PySem.W.fnOf "_law_kinds" "_law_kinds" (defArgs s_l_kinds) (defBody s_l_kinds) (defScope s_l_kinds) .none kV1 dc1 pm1 an1 cd1 ct1), sl1⟩) (c1 : PySem.W.codeIn K cd1 "_law_kinds" = true) (k1 : PySem.W.keepIn K (.ref f_l_kinds) = true)
    {od2 an2 : Option Addr} {sl2 : Array (Option Value)} {oc2 kV2 dc2 pm2 cd2 ct2 : Value}
    (a2 : PySem.W.nsIn K mainGlobals "law" = some (some (.ref f_law))) (l2 : K.lookup f_law = some ⟨oc2, od2, .func (PySem.W.fnOf "law" "law" (defArgs s_law) (defBody s_law) (defScope s_law) .none kV2 dc2 pm2 an2 cd2 ct2), sl2⟩) (c2 : PySem.W.codeIn K cd2 "law" = true) (k2 : PySem.W.keepIn K (.ref f_law) = true)
    (z_len : PySem.W.nsIn K mainGlobals "len" = some none)
    (z_isinstance : PySem.W.nsIn K mainGlobals "isinstance" = some none)
    (z_int : PySem.W.nsIn K mainGlobals "int" = some none)
    (z_bool : PySem.W.nsIn K mainGlobals "bool" = some none)
    (z_range : PySem.W.nsIn K mainGlobals "range" = some none)
    (z_ValueError : PySem.W.nsIn K mainGlobals "ValueError" = some none)
    (er : Errs K mg errTab 176 24 173) {odI anI : Option Addr} {slI : Array (Option Value)} {ocI kVI dcI pmI cdI ctI : Value} (lI : K.lookup 173 = some ⟨ocI, odI, .func (PySem.W.fnOf "__init__" "NoLine.__init__" (defArgs s_init) (defBody s_init) (defScope s_init) .none kVI dcI pmI anI cdI ctI), slI⟩) (cI : PySem.W.codeIn K cdI "NoLine.__init__" = true) (kI : PySem.W.keepIn K (.ref 173) = true)
    : ∃ fd : FuncData, (∀ (s : Shared) (v : Value), BindsTo s fd ⟨[v], []⟩ [("_law_script", v)]) ∧ ∀ base : Heap, K.In base → base.Ns mainGlobals mg → FnOk l.prog w K mg base CX0 3 fa fd ["_law_script"] (spLaw K) := by
  have e := hfa.symm.trans (PySem.W.mg_of X G a2)
  cases e
  have F0 := fun_mk (st := s_l_cell_at) l0 c0 k0
  have D0 : DefAt K mg "_law_cell_at" s_l_cell_at f_l_cell_at _ ["_law_script", "_law_k"] := ⟨F0, PySem.W.mg_of X G a0, F0.binds fun _ _ _ _ _ _ us hl => by obtain ⟨_, _, rfl⟩ := us_2 hl; rfl⟩
  have F1 := fun_mk (st := s_l_kinds) l1 c1 k1
  have D1 : DefAt K mg "_law_kinds" s_l_kinds f_l_kinds _ ["_law_e"] := ⟨F1, PySem.W.mg_of X G a1, F1.binds fun _ _ _ _ _ _ us hl => by obtain ⟨_, rfl⟩ := us_1 hl; rfl⟩
  have F2 := fun_mk (st := s_law) l2 c2 k2
  have D2 : DefAt K mg "law" s_law fa _ ["_law_script"] := ⟨F2, PySem.W.mg_of X G a2, F2.binds fun _ _ _ _ _ _ us hl => by obtain ⟨_, rfl⟩ := us_1 hl; rfl⟩
  have FI := fun_mk (st := s_init) lI cI kI
  have T : Txt K mg ⟨_, f_l_cell_at, _, f_l_kinds, _, fa, _⟩ := ⟨D0, D1, D2, PySem.W.mg_none_of X G z_len, PySem.W.mg_none_of X G z_isinstance, PySem.W.mg_none_of X G z_int, PySem.W.mg_none_of X G z_bool, PySem.W.mg_none_of X G z_range, PySem.W.mg_none_of X G z_ValueError, er, FI, FI.binds fun _ _ _ _ _ _ us hl => by obtain ⟨_, _, rfl⟩ := us_2 hl; rfl⟩
  exact ⟨PySem.W.fnOf "law" "law" (defArgs s_law) (defBody s_law) (defScope s_law) .none kV2 dc2 pm2 an2 cd2 ct2, fun s v => .of_eq rfl, fun base _ _ => ok_fin T⟩
theorem walk {l : PySem.W.OpenLaw} {q : Program} {loose : List Str} {XP : (Str → Option Value) → Heap → Prop} {YP : World → Heap → Prop} {d : DefRec} {K : Params → PySem.W.Frag} (hn : l.most = some 63) (hdf : d.params.defaults = [])
    (hY : ∀ (w : World) (h : Heap), YP w h → (K w.params).In h)
    (F : ∀ (w : World) (mg : Str → Option Value) (fa : Addr) (h : Heap), (K w.params).In h → h.Ns mainGlobals mg → mg d.name = some (.ref fa) →
      ∃ fd : FuncData, (∀ (s : Shared) (u : Value), BindsTo s fd ⟨[u], []⟩ [("_law_script", u)]) ∧ ∀ base : Heap, (K w.params).In base → base.Ns mainGlobals mg → FnOk l.prog w (K w.params) mg base CX0 3 fa fd ["_law_script"] (spLaw (K w.params))) :
    PySem.W.WalkO q loose XP YP l.row.toRowW d [] (fun f vs => PySem.call f vs) :=
  L2.walk_of (n := 63) (k := 3) (x := "_law_script") (CX := fun _ => CX0) (sp := fun w => spLaw (K w.params)) hn (by decide) hdf ⟨rfl, by decide, by decide⟩ hY F (fun _ _ a ns hl _ hS => ⟨a, ns, rfl, hS, hl, fun _ => rfl⟩) fun _ _ _ _ _ z => z
end Carry
open PySem PySem.W PyProof.Rows
set_option maxRecDepth 100000 in
set_option maxHeartbeats 0 in
theorem PySem.Challenge.cw_carry_k10_refusals_apart_holds : PySem.Challenge.rw_carry_k10_refusals_apart.Holds := by
  w_on; o_law; k_head; (case hw => w_witness2)
  k_fill
  refine Carry.walk (l := PySem.Challenge.rw_carry_k10_refusals_apart) rfl rfl (fun w h Y => PySem.W.kIn_of Y) ?F
  case F =>
    intro w mg fa h KX G hmg
    refine' Carry.all_mk KX G hmg ?a0 ?l0 ?c0 ?k0 ?a1 ?l1 ?c1 ?k1 ?a2 ?l2 ?c2 ?k2 ?z_len ?z_isinstance ?z_int ?z_bool ?z_range ?z_ValueError ?er ?lI ?cI ?kI
    (case a0 => k_is)
    (case l0 => k_is)
    (case c0 => k_is)
    (case k0 => k_is)
    (case a1 => k_is)
    (case l1 => k_is)
    (case c1 => k_is)
    (case k1 => k_is)
    (case a2 => k_is)
    (case l2 => k_is)
    (case c2 => k_is)
    (case k2 => k_is)
    (case z_len => k_is)
    (case z_isinstance => k_is)
    (case z_int => k_is)
    (case z_bool => k_is)
    (case z_range => k_is)
    (case z_ValueError => k_is)
    (case er =>
      refine' Carry.errs_mk KX G ?vs ?vt ?va0 ?vl0 ?vd0 ?ve0 ?vi0 ?vg0 ?vn0 ?vc0 ?vk0 ?va1 ?vl1 ?vd1 ?ve1 ?vi1 ?vg1 ?vn1 ?vc1 ?vk1 ?va2 ?vl2 ?vd2 ?ve2 ?vi2 ?vg2 ?vn2 ?vc2 ?vk2 ?va3 ?vl3 ?vd3 ?ve3 ?vi3 ?vg3 ?vn3 ?vc3 ?vk3 ?va4 ?vl4 ?vd4 ?ve4 ?vi4 ?vg4 ?vn4 ?vc4 ?vk4 ?va5 ?vl5 ?vd5 ?ve5 ?vi5 ?vg5 ?vn5 ?vc5 ?vk5 ?va6 ?vl6 ?vd6 ?ve6 ?vi6 ?vg6 ?vn6 ?vc6 ?vk6 ?va7 ?vl7 ?vd7 ?ve7 ?vi7 ?vg7 ?vn7 ?vc7 ?vk7 ?va8 ?vl8 ?vd8 ?ve8 ?vi8 ?vg8 ?vn8 ?vc8 ?vk8 ?va9 ?vl9 ?vd9 ?ve9 ?vi9 ?vg9 ?vn9 ?vc9 ?vk9 ?va10 ?vl10 ?vd10 ?ve10 ?vi10 ?vg10 ?vn10 ?vc10 ?vk10 ?va11 ?vl11 ?vd11 ?ve11 ?vi11 ?vg11 ?vn11 ?vc11 ?vk11 ?va12 ?vl12 ?vd12 ?ve12 ?vi12 ?us ?ul ?uf ?ug ?ur ?uc
      (case vs => k_is)
      (case vt => k_is)
      (case va0 => k_is)
      (case vl0 => k_is)
      (case vd0 => k_is)
      (case ve0 => kernel_rfl)
      (case vi0 => kernel_rfl)
      (case vg0 => k_is)
      (case vn0 => k_is)
      (case vc0 => k_is)
      (case vk0 => k_is)
      (case va1 => k_is)
      (case vl1 => k_is)
      (case vd1 => k_is)
      (case ve1 => kernel_rfl)
      (case vi1 => kernel_rfl)
      (case vg1 => k_is)
      (case vn1 => k_is)
      (case vc1 => k_is)
      (case vk1 => k_is)
      (case va2 => k_is)
      (case vl2 => k_is)
      (case vd2 => k_is)
      (case ve2 => kernel_rfl)
      (case vi2 => kernel_rfl)
      (case vg2 => k_is)
      (case vn2 => k_is)
      (case vc2 => k_is)
      (case vk2 => k_is)
      (case va3 => k_is)
      (case vl3 => k_is)
      (case vd3 => k_is)
      (case ve3 => kernel_rfl)
      (case vi3 => kernel_rfl)
      (case vg3 => k_is)
      (case vn3 => k_is)
      (case vc3 => k_is)
      (case vk3 => k_is)
      (case va4 => k_is)
      (case vl4 => k_is)
      (case vd4 => k_is)
      (case ve4 => kernel_rfl)
      (case vi4 => kernel_rfl)
      (case vg4 => k_is)
      (case vn4 => k_is)
      (case vc4 => k_is)
      (case vk4 => k_is)
      (case va5 => k_is)
      (case vl5 => k_is)
      (case vd5 => k_is)
      (case ve5 => kernel_rfl)
      (case vi5 => kernel_rfl)
      (case vg5 => k_is)
      (case vn5 => k_is)
      (case vc5 => k_is)
      (case vk5 => k_is)
      (case va6 => k_is)
      (case vl6 => k_is)
      (case vd6 => k_is)
      (case ve6 => kernel_rfl)
      (case vi6 => kernel_rfl)
      (case vg6 => k_is)
      (case vn6 => k_is)
      (case vc6 => k_is)
      (case vk6 => k_is)
      (case va7 => k_is)
      (case vl7 => k_is)
      (case vd7 => k_is)
      (case ve7 => kernel_rfl)
      (case vi7 => kernel_rfl)
      (case vg7 => k_is)
      (case vn7 => k_is)
      (case vc7 => k_is)
      (case vk7 => k_is)
      (case va8 => k_is)
      (case vl8 => k_is)
      (case vd8 => k_is)
      (case ve8 => kernel_rfl)
      (case vi8 => kernel_rfl)
      (case vg8 => k_is)
      (case vn8 => k_is)
      (case vc8 => k_is)
      (case vk8 => k_is)
      (case va9 => k_is)
      (case vl9 => k_is)
      (case vd9 => k_is)
      (case ve9 => kernel_rfl)
      (case vi9 => kernel_rfl)
      (case vg9 => k_is)
      (case vn9 => k_is)
      (case vc9 => k_is)
      (case vk9 => k_is)
      (case va10 => k_is)
      (case vl10 => k_is)
      (case vd10 => k_is)
      (case ve10 => kernel_rfl)
      (case vi10 => kernel_rfl)
      (case vg10 => k_is)
      (case vn10 => k_is)
      (case vc10 => k_is)
      (case vk10 => k_is)
      (case va11 => k_is)
      (case vl11 => k_is)
      (case vd11 => k_is)
      (case ve11 => kernel_rfl)
      (case vi11 => kernel_rfl)
      (case vg11 => k_is)
      (case vn11 => k_is)
      (case vc11 => k_is)
      (case vk11 => k_is)
      (case va12 => k_is)
      (case vl12 => k_is)
      (case vd12 => k_is)
      (case ve12 => kernel_rfl)
      (case vi12 => kernel_rfl)
      (case us => k_is)
      (case ul => k_is)
      (case uf => k_is)
      (case ug => k_is)
      (case ur => k_is)
      (case uc => k_is))
    (case lI => k_is)
    (case cI => k_is)
    (case kI => k_is)
