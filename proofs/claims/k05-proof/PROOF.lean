import PyProof.Rows.All
import Wide.All
import OpenK.AllK
import Wide.FinOn
import Lean
import PyProof.EqAt
import PyProof.EqKinds
import PyProof.NeKinds
import PyProof.TupleCall
import KE.KRevIter
import PyProof.SeqI3
import PyProof.ZipIter
import PyProof.EnumIter
import PyProof.EnumStmt
import PyProof.EnumMake
import PyProof.WalksEnum
import PySem.Challenge.RW_carry_k05_far
set_option Elab.async false
set_option linter.all false
set_option maxRecDepth 100000
namespace L2
open PySem PySem.Spec PyProof.Rows
abbrev Key := Sum Int Str
def keyIs : Key → Value → Bool
  | .inl k, v => Value.isInt k v
  | .inr x, v => Value.isStrOf x v
def keyH (w : World) : Key → Int
  | .inl k => hashInt k
  | .inr x => hashStr w x
theorem keyIs_shape : ∀ {k : Key} {v : Value}, keyIs k v = true → (∃ i t, k = Sum.inl i ∧ v = Value.int i t) ∨ (∃ x t, k = Sum.inr x ∧ v = Value.str x t)
  | .inl i, v, h => by
    obtain ⟨t, e⟩ := Value.isInt_shape (k := i) (v := v) h
    exact .inl ⟨i, t, rfl, e⟩
  | .inr x, v, h => by
    obtain ⟨t, e⟩ := Value.isStrOf_shape (x := x) (v := v) h
    exact .inr ⟨x, t, rfl, e⟩
theorem key_ll (a b : Int) : decide ((Sum.inl a : Key) = Sum.inl b) = (a == b) := by
  by_cases e : a = b
  · subst e; simp
  · have h : ¬ (Sum.inl a : Key) = Sum.inl b := fun q => e (Sum.inl.inj q)
    rw [decide_eq_false h]
    exact (beq_eq_false_iff_ne.mpr e).symm
theorem key_rr (a b : Str) : decide ((Sum.inr a : Key) = Sum.inr b) = decide (a = b) := by
  by_cases e : a = b
  · subst e; simp
  · have h : ¬ (Sum.inr a : Key) = Sum.inr b := fun q => e (Sum.inr.inj q)
    rw [decide_eq_false h, decide_eq_false e]
theorem key_lr (a : Int) (b : Str) : decide ((Sum.inl a : Key) = Sum.inr b) = false := decide_eq_false (fun q => nomatch q)
theorem key_rl (a : Str) (b : Int) : decide ((Sum.inr a : Key) = Sum.inl b) = false := decide_eq_false (fun q => nomatch q)
def mixKind (prog : Program) (w : World) : PySem.KeyKind prog w Key where
  is := keyIs
  hash := keyH w
  inj := fun v a b ha hb => by
    rcases keyIs_shape ha with ⟨i, t, rfl, rfl⟩ | ⟨x, t, rfl, rfl⟩
    · rcases keyIs_shape hb with ⟨j, u, rfl, e⟩ | ⟨y, u, rfl, e⟩
      · injection e with e1 _; rw [e1]
      · exact nomatch e
    · rcases keyIs_shape hb with ⟨j, u, rfl, e⟩ | ⟨y, u, rfl, e⟩
      · exact nomatch e
      · injection e with e1 _; rw [e1]
  byValue := fun k v h => by
    rcases keyIs_shape h with ⟨i, t, rfl, rfl⟩ | ⟨x, t, rfl, rfl⟩ <;> rfl
  pyHash := fun hv h => by
    rcases keyIs_shape hv with ⟨i, t, rfl, rfl⟩ | ⟨x, t, rfl, rfl⟩
    · exact wpAny_pyHash_int h
    · exact wpAny_pyHash_str h
  eqBool := fun hu hv h => by
    rcases keyIs_shape hu with ⟨i, t, rfl, rfl⟩ | ⟨x, t, rfl, rfl⟩
    · rcases keyIs_shape hv with ⟨j, u, rfl, rfl⟩ | ⟨y, u, rfl, rfl⟩
      · rw [key_ll] at h; exact wpAny_eqBool_int h
      · rw [key_lr] at h; exact SeqAt.EqAt.int_str i t y u _ _ _ _ h
    · rcases keyIs_shape hv with ⟨j, u, rfl, rfl⟩ | ⟨y, u, rfl, rfl⟩
      · rw [key_rl] at h; exact SeqAt.EqAt.str_int x t j u _ _ _ _ h
      · rw [key_rr] at h; exact wpAny_eqBool_str h
  «strs» := fun k x t v h => by
    rcases keyIs_shape h with ⟨i, u, rfl, e⟩ | ⟨y, u, rfl, e⟩
    · exact nomatch e
    · injection e with e1 _
      subst e1
      cases v <;> rfl
end L2
namespace L2
open PySem PySem.Spec PyProof.Rows
inductive V where
  | non | bl (b : Bool) | int (i : Int) | str (x : Str) | byt (b : Array UInt8) | flt (b : UInt64) | ref (a : Addr) | ty (n : String)
  deriving DecidableEq
def RelV : V → Value → Prop
  | .non, u => u = Value.none
  | .bl b, u => u = Value.bool b
  | .int i, u => ∃ t, u = Value.int i t
  | .str x, u => ∃ t, u = Value.str x t
  | .byt b, u => ∃ t, u = Value.bytes b t
  | .flt b, u => ∃ t, u = Value.float b t
  | .ref a, u => u = Value.ref a
  | .ty n, u => u = Value.type n
abbrev Vals : List V → List Value → Prop := Paired RelV
theorem Vals.length {xs : List V} {us : List Value} (r : Vals xs us) : xs.length = us.length := Paired.length r
theorem Vals.get : ∀ {xs : List V} {us : List Value} {i : Nat} {x : V}, Vals xs us → xs[i]? = some x → ∃ u, us[i]? = some u ∧ RelV x u
  | _, _, _, _, .nil, e => by simp at e
  | _, _, 0, _, .cons r _, e => by simp at e; subst e; exact ⟨_, rfl, r⟩
  | _, _, i + 1, x, .cons _ t, e => by
    obtain ⟨u, h1, h2⟩ := Vals.get (i := i) (x := x) t (by simpa using e)
    exact ⟨u, by simpa using h1, h2⟩
theorem Vals.set {x : V} {u : Value} (r : RelV x u) : ∀ {xs : List V} {us : List Value} (i : Nat), Vals xs us → Vals (xs.set i x) (us.set i u)
  | _, _, _, .nil => .nil
  | _, _, 0, .cons _ t => .cons r t
  | _, _, i + 1, .cons q t => .cons q (Vals.set r i t)
theorem Vals.append : ∀ {xs ys : List V} {us ws : List Value}, Vals xs us → Vals ys ws → Vals (xs ++ ys) (us ++ ws)
  | _, _, _, _, .nil, s => s
  | _, _, _, _, .cons r t, s => .cons r (Vals.append t s)
theorem Vals.take : ∀ {xs : List V} {us : List Value} (n : Nat), Vals xs us → Vals (xs.take n) (us.take n)
  | _, _, 0, _ => .nil
  | _, _, _ + 1, .nil => .nil
  | _, _, n + 1, .cons r t => .cons r (Vals.take n t)
theorem Vals.drop : ∀ {xs : List V} {us : List Value} (n : Nat), Vals xs us → Vals (xs.drop n) (us.drop n)
  | _, _, 0, r => r
  | _, _, _ + 1, .nil => .nil
  | _, _, n + 1, .cons _ t => Vals.drop n t
def RelO : Option V → Option Value → Prop
  | some v, some u => RelV v u
  | none, none => True
  | _, _ => False
def KV {κ : Type} : List (κ × V) → List (κ × Value) → Prop := Paired fun (p : κ × V) (q : κ × Value) => p.1 = q.1 ∧ RelV p.2 q.2
def kV : Key → V
  | .inl i => .int i
  | .inr x => .str x
inductive TK where
  | inl (i : Int) | inr (x : Str) | tp (l : List TK)
mutual
def TK.beq : TK → TK → Bool
  | .inl a, .inl b => decide (a = b)
  | .inr a, .inr b => decide (a = b)
  | .tp l, .tp m => TK.beqL l m
  | _, _ => false
def TK.beqL : List TK → List TK → Bool
  | [], [] => true
  | a :: l, b :: m => TK.beq a b && TK.beqL l m
  | _, _ => false
end
mutual
theorem TK.beq_iff : ∀ a b : TK, TK.beq a b = true ↔ a = b
  | .inl a, .inl b => by unfold TK.beq; rw [decide_eq_true_eq]; exact ⟨fun e => by rw [e], fun e => by cases e; rfl⟩
  | .inr a, .inr b => by unfold TK.beq; rw [decide_eq_true_eq]; exact ⟨fun e => by rw [e], fun e => by cases e; rfl⟩
  | .tp l, .tp m => by unfold TK.beq; rw [TK.beqL_iff l m]; exact ⟨fun e => by rw [e], fun e => by cases e; rfl⟩
  | .inl _, .inr _ => by unfold TK.beq; exact ⟨fun e => (nomatch e), fun e => (nomatch e)⟩
  | .inl _, .tp _ => by unfold TK.beq; exact ⟨fun e => (nomatch e), fun e => (nomatch e)⟩
  | .inr _, .inl _ => by unfold TK.beq; exact ⟨fun e => (nomatch e), fun e => (nomatch e)⟩
  | .inr _, .tp _ => by unfold TK.beq; exact ⟨fun e => (nomatch e), fun e => (nomatch e)⟩
  | .tp _, .inl _ => by unfold TK.beq; exact ⟨fun e => (nomatch e), fun e => (nomatch e)⟩
  | .tp _, .inr _ => by unfold TK.beq; exact ⟨fun e => (nomatch e), fun e => (nomatch e)⟩
theorem TK.beqL_iff : ∀ l m : List TK, TK.beqL l m = true ↔ l = m
  | [], [] => by unfold TK.beqL; exact ⟨fun _ => rfl, fun _ => rfl⟩
  | a :: l, b :: m => by unfold TK.beqL; rw [Bool.and_eq_true, TK.beq_iff a b, TK.beqL_iff l m]; exact ⟨fun e => by rw [e.1, e.2], fun e => by cases e; exact ⟨rfl, rfl⟩⟩
  | [], _ :: _ => by unfold TK.beqL; exact ⟨fun e => (nomatch e), fun e => (nomatch e)⟩
  | _ :: _, [] => by unfold TK.beqL; exact ⟨fun e => (nomatch e), fun e => (nomatch e)⟩
end
instance : DecidableEq TK := fun a b => decidable_of_iff _ (TK.beq_iff a b)
mutual
def TK.hash (w : World) : TK → Int
  | .inl i => hashInt i
  | .inr x => hashStr w x
  | .tp l => reduceHash (Builtin.Tuple.tupleHashOf (TK.hashL w l))
def TK.hashL (w : World) : List TK → List Int
  | [] => []
  | a :: l => TK.hash w a :: TK.hashL w l
end
def TK.ok : Nat → TK → Bool
  | n + 1, .tp l => l.all (TK.ok n)
  | 0, .tp _ => false
  | _, _ => true
def EntG (w : World) (e : TK × V × V) (x : DictEntry) : Prop := x.hash = e.1.hash w ∧ RelV e.2.1 x.key ∧ RelV e.2.2 x.val ∧ e.1.ok 8 = true
inductive HO where
  /-- a list -/
  | lst (xs : List V)
  /-- a tuple (never changes) -/
  | tup (xs : List V)
  /-- a dict whose keys are ints and texts; one whose keys are tuples of ints and texts (the empty one is both) -/
  | dK (kvs : List (Key × V)) | dT (kvs : List (List Key × V))
  /-- a dict of any keys: the key, its value, what it holds -/
  | dG (es : List (TK × V × V))
  /-- a set of ints: its members, its size -/
  | set (S : Int → Bool) (n : Nat)
  /-- an instance of the class at C, its dict at dx, its attributes -/
  | ins (C dx : Addr) (fs : List (Str × V))
  /-- the dict of the instance at x -/
  | own (x : Addr)
  /-- the dict of an exception -/
  | xd (fs : List (Str × V))
  /-- a bound method, f of x -/
  | met (f x : Addr)
  /-- a range object lo, lo + 1, .. below hi -/
  | rng (lo hi : Int)
  /-- a thing that is known to the object (the script; a dict while a loop walks it): read, never written while it is so -/
  | frz (o : Obj) (u : HO)
  /-- a code object's table -/
  | tbl (ps : Array Value)
  /-- any other thing, by what is true of its one object (a def of one's own: SetO a S n := HO.ext fun h => ..) -/
  | ext (φ : Heap → Prop)
abbrev Hp := Addr → Option HO
def upd (H : Hp) (a : Addr) (o : HO) : Hp := fun b => if b = a then some o else H b
theorem upd_same {H : Hp} {a : Addr} {o : HO} : upd H a o a = some o := by unfold upd; rw [if_pos rfl]
theorem upd_ne {H : Hp} {a b : Addr} {o : HO} (h : b ≠ a) : upd H a o b = H b := by unfold upd; rw [if_neg h]
theorem ne_of {H : Hp} {a b : Addr} {o u : HO} (h : H a = some o) (h' : H b = some u) (d : o ≠ u) : a ≠ b := by
  intro e; subst e; rw [h] at h'; exact d (Option.some.inj h')
theorem ne_of_none {H : Hp} {a b : Addr} {o : HO} (h : H a = some o) (h' : H b = none) : a ≠ b := by
  intro e; subst e; rw [h] at h'; cases h'
section
variable (P : Program) (w : World)
def ObjOk (H : Hp) (h : Heap) (a : Addr) : HO → Prop
  | .lst xs => xs.length ≤ sizeLine ∧ ∃ (its : List Value) (n : Nat), Vals xs its ∧ h.get? a = some { cls := .type "list", data := .seq its.toArray n }
  | .tup xs => xs.length ≤ sizeLine ∧ ∃ its : List Value, Vals xs its ∧ IsTup h a its.toArray
  | .dK kvs => kvs.length ≤ sizeLine ∧ (a == sysModules) = false ∧ ∃ vs, KV kvs vs ∧ h.DictOf (mixKind P w) a vs
  | .dT kvs => kvs.length ≤ sizeLine ∧ (a == sysModules) = false ∧ ∃ xs : List (List Key × Addr × Value),
      Paired (fun (p : List Key × V) (q : List Key × Addr × Value) => p.1 = q.1 ∧ H q.2.1 = some (.tup (p.1.map kV)) ∧ RelV p.2 q.2.2) kvs xs ∧
      ∃ o es ep, h.get? a = some o ∧ o.ExactDict ∧ o.data = .dict es ep ∧ es.toList = xs.map (entryOfKey (tupleKind (mixKind P w))) ∧ (xs.map (·.1)).Nodup
  | .dG es => es.length ≤ sizeLine ∧ (a == sysModules) = false ∧ ∃ o xs ep, h.get? a = some o ∧ o.ExactDict ∧ o.data = .dict xs ep ∧ Paired (EntG w) es xs.toList ∧ (es.map (·.1)).Nodup
  | .set S n => h.SetOf (intKind P w) a S n
  | .ins C dx fs => H dx = some (.own a) ∧ fs.length ≤ 1000 ∧ dx ≠ a ∧ h.get? a = some (PySem.W.instObj C dx) ∧
      ∃ mA, h.Ns1 dx mA ∧ (∀ f, RelO (fs.lookup f) (mA f)) ∧ PySem.Within mA (fs.map (·.1))
  | .own _ => ∃ o, h.get? a = some o
  | .xd fs => ∃ mA, h.Ns1 a mA ∧ ∀ f, RelO (fs.lookup f) (mA f)
  | .rng lo hi => ∃ t u v, h.get? a = some { cls := .type "range", data := .fields #[.int lo t, .int hi u, .int 1 v] }
  | .frz o u => h.get? a = some o ∧ ObjOk H h a u
  | .tbl ps => h.get? a = some { cls := .none, data := .fields ps }
  | .met f x => h.get? a = some (PySem.W.methodObj (.ref f) (.ref x))
  | .ext φ => φ h ∧ (∃ o, h.get? a = some o) ∧ ∀ h1 h2 : Heap, φ h1 → (∀ o, h1.get? a = some o → h2.get? a = some o) → φ h2
def HOk (H : Hp) (h : Heap) : Prop := ∀ a o, H a = some o → ObjOk P w H h a o
end
section
variable {P : Program} {w : World} {H H' : Hp} {h h' : Heap} {a : Addr} {o : HO}
theorem ObjOk.lt (x : ObjOk P w H h a o) : a < h.objs.size := by
  cases o with
  | lst xs => obtain ⟨_, _, _, _, e⟩ := x; exact Heap.lt_size e
  | tup xs => obtain ⟨_, _, _, p⟩ := x; exact p.lt
  | dK kvs => obtain ⟨_, _, _, _, o, _, _, e, _⟩ := x; exact Heap.lt_size e
  | dT kvs => obtain ⟨_, _, _, _, o, _, _, e, _⟩ := x; exact Heap.lt_size e
  | dG es => obtain ⟨_, _, o, _, _, e, _⟩ := x; exact Heap.lt_size e
  | set S n => obtain ⟨o, _, _, _, e, _⟩ := x; exact Heap.lt_size e
  | ins C dx fs => obtain ⟨_, _, _, e, _⟩ := x; exact Heap.lt_size e
  | own y => obtain ⟨_, e⟩ := x; exact Heap.lt_size e
  | xd fs => obtain ⟨_, ⟨_, _, _, e, _⟩, _⟩ := x; exact Heap.lt_size e
  | rng lo hi => obtain ⟨_, _, _, e⟩ := x; exact Heap.lt_size e
  | frz ob u => obtain ⟨e, _⟩ := x; exact Heap.lt_size e
  | tbl ps => exact Heap.lt_size (show h.get? a = some _ from x)
  | met f y => exact Heap.lt_size (show h.get? a = some _ from x)
  | ext φ => obtain ⟨_, ⟨_, e⟩, _⟩ := x; exact Heap.lt_size e
theorem Paired.mapP {α β : Type} {F G : α → β → Prop} : ∀ {l₁ : List α} {l₂ : List β}, Paired F l₁ l₂ → (∀ a b, F a b → G a b) → Paired G l₁ l₂
  | _, _, .nil, _ => .nil
  | _, _, .cons r t, f => .cons (f _ _ r) (Paired.mapP t f)
theorem ObjOk.stay (x : ObjOk P w H h a o) (k : ∀ b u, (b = a ∨ H b = some (.own a)) → h.get? b = some u → h'.get? b = some u)
    (ho : ∀ b, H b = some (.own a) → H' b = some (.own a)) (ht : ∀ b xs, H b = some (.tup xs) → H' b = some (.tup xs)) : ObjOk P w H' h' a o := by
  induction o with
  | lst xs => obtain ⟨z, its, n, r, e⟩ := x; exact ⟨z, its, n, r, k _ _ (.inl rfl) e⟩
  | tup xs => obtain ⟨z, its, r, ob, e, c⟩ := x; exact ⟨z, its, r, ob, k _ _ (.inl rfl) e, c⟩
  | dK kvs => obtain ⟨z, y, vs, r, ob, es, ep, e, c⟩ := x; exact ⟨z, y, vs, r, ob, es, ep, k _ _ (.inl rfl) e, c⟩
  | dT kvs =>
    obtain ⟨z, y, xs, r, ob, es, ep, e, c⟩ := x
    exact ⟨z, y, xs, Paired.mapP r fun p q z => ⟨z.1, ht _ _ z.2.1, z.2.2⟩, ob, es, ep, k _ _ (.inl rfl) e, c⟩
  | dG es => obtain ⟨z, y, ob, xs, ep, e, c⟩ := x; exact ⟨z, y, ob, xs, ep, k _ _ (.inl rfl) e, c⟩
  | set S n => obtain ⟨ob, es, ep, t, e, c⟩ := x; exact ⟨ob, es, ep, t, k _ _ (.inl rfl) e, c⟩
  | ins C dx fs =>
    obtain ⟨d, z, ne, e, mA, ⟨od, es, ep, e2, c⟩, r⟩ := x
    exact ⟨ho _ d, z, ne, k _ _ (.inl rfl) e, mA, ⟨od, es, ep, k _ _ (.inr d) e2, c⟩, r⟩
  | own y => obtain ⟨ob, e⟩ := x; exact ⟨ob, k _ _ (.inl rfl) e⟩
  | xd fs => obtain ⟨mA, ⟨od, es, ep, e, c⟩, r⟩ := x; exact ⟨mA, ⟨od, es, ep, k _ _ (.inl rfl) e, c⟩, r⟩
  | rng lo hi => obtain ⟨t, u, v, e⟩ := x; exact ⟨t, u, v, k _ _ (.inl rfl) e⟩
  | frz ob u ih => obtain ⟨e, q⟩ := x; exact ⟨k _ _ (.inl rfl) e, ih q⟩
  | tbl ps =>
    have e : h.get? a = some { cls := .none, data := .fields ps } := x
    show h'.get? a = some { cls := .none, data := .fields ps }
    exact k a _ (.inl rfl) e
  | met f y =>
    have e : h.get? a = some (PySem.W.methodObj (.ref f) (.ref y)) := x
    show h'.get? a = some (PySem.W.methodObj (.ref f) (.ref y))
    exact k a _ (.inl rfl) e
  | ext φ => obtain ⟨p, ⟨o, e⟩, st⟩ := x; exact ⟨st _ _ p fun o q => k _ _ (.inl rfl) q, ⟨o, k _ _ (.inl rfl) e⟩, st⟩
theorem HOk.lt (x : HOk P w H h) (e : H a = some o) : a < h.objs.size := (x a o e).lt
theorem HOk.fresh (x : HOk P w H h) (e : h.objs.size ≤ a) : H a = none := by
  cases q : H a with
  | none => rfl
  | some u => exact absurd (Nat.lt_of_lt_of_le (x.lt q) e) (Nat.lt_irrefl _)
theorem HOk.kept (x : HOk P w H h) (k : ∀ b u, h.get? b = some u → h'.get? b = some u) : HOk P w H h' := fun a o e =>
  (x a o e).stay (fun b u _ q => k b u q) (fun _ q => q) fun _ _ q => q
theorem HOk.laid (x : HOk P w H h) (k : ∀ b u, h.get? b = some u → h'.get? b = some u) (hp : h.objs.size ≤ a) (new : ObjOk P w (upd H a o) h' a o) : HOk P w (upd H a o) h' := fun b u e => by
  have hn := x.fresh hp
  by_cases hb : b = a
  · subst hb; rw [upd_same] at e; cases e; exact new
  · rw [upd_ne hb] at e
    exact (x b u e).stay (fun c v _ q => k c v q) (fun c q => by rw [upd_ne (ne_of_none q hn)]; exact q) fun c xs q => by rw [upd_ne (ne_of_none q hn)]; exact q
end
def Rd (H : Hp) (a : Addr) (u : HO) : Prop := H a = some u ∨ ∃ o, H a = some (.frz o u)
theorem Rd.of {H : Hp} {a : Addr} {u : HO} (h : H a = some u) : Rd H a u := .inl h
theorem Rd.ok {P : Program} {w : World} {H : Hp} {h : Heap} {a : Addr} {u : HO} (r : Rd H a u) (x : HOk P w H h) : ObjOk P w H h a u := by
  rcases r with r | ⟨o, r⟩
  · exact x a u r
  · obtain ⟨_, q⟩ := x a _ r
    exact q
def Mut : Option HO → Prop
  | some (.lst _) => True
  | some (.dK _) => True
  | some (.dT _) => True
  | some (.dG _) => True
  | some (.set _ _) => True
  | some (.ins _ _ _) => True
  | some (.ext _) => True
  | _ => False
section
variable {P : Program} {w : World} {H : Hp} {h h' : Heap} {x e : Addr} {o' : HO}
theorem HOk.write (ok : HOk P w H h) (mu : Mut (H x)) (he : e = x ∨ H e = some (.own x)) (k : ∀ b u, b ≠ e → h.get? b = some u → h'.get? b = some u) (heo : ∃ u, h'.get? e = some u)
    (new : ObjOk P w (upd H x o') h' x o') : HOk P w (upd H x o') h' := fun b u q => by
  have nown : ∀ c y, H c = some (.own y) → c ≠ x := fun c y r z => by subst z; rw [r] at mu; exact mu
  have ntup : ∀ c xs, H c = some (.tup xs) → c ≠ x := fun c xs r z => by subst z; rw [r] at mu; exact mu
  by_cases hb : b = x
  · subst hb; rw [upd_same] at q; cases q; exact new
  · rw [upd_ne hb] at q
    by_cases hbe : b = e
    · have q' : H b = some (.own x) := by
        rcases he with z | z
        · exact absurd (hbe.trans z) hb
        · rw [hbe]; exact z
      rw [q] at q'; cases q'
      obtain ⟨v, hv⟩ := heo
      exact ⟨v, by rw [hbe]; exact hv⟩
    · refine (ok b u q).stay (fun c v hc r => k c v ?_ r) (fun c r => by rw [upd_ne (nown c b r)]; exact r) fun c xs r => by rw [upd_ne (ntup c xs r)]; exact r
      rcases hc with rfl | hc
      · exact hbe
      · rintro rfl
        rcases he with z | z
        · exact nown c b hc z
        · rw [hc] at z; cases z; exact hb rfl
end
structure Un (fs ex : List Addr) (H H' : Hp) (h h' : Heap) : Prop where
  keep : ∀ b o, h.get? b = some o → H b = none → b ∉ fs → b ∉ ex → h'.get? b = some o
  slot : ∀ b o, h.get? b = some o → H b = none → b ∈ fs → b ∉ ex → ∃ sl, h'.get? b = some { o with slots := sl }
  free : ∀ b o, h.get? b = some o → H b = none → b ∉ ex → H' b = none
  there : ∀ b o, h.get? b = some o → b ∉ ex → ∃ o', h'.get? b = some o'
  tups : ∀ b xs, H b = some (.tup xs) → H' b = some (.tup xs)
  frzs : ∀ b o u, H b = some (.frz o u) → H' b = some (.frz o u)
  tbls : ∀ b ps, H b = some (.tbl ps) → ∃ more, H' b = some (.tbl (ps ++ more))
section
variable {fs fs' ex ex' : List Addr} {H H1 H2 : Hp} {h h1 h2 h' : Heap} {a x e : Addr} {o : HO}
theorem Un.any (u : Un fs ex H H1 h h1) {b : Addr} {ob : Obj} (q : h.get? b = some ob) (n : H b = none) (hx : b ∉ ex) : ∃ sl, h1.get? b = some { ob with slots := sl } := by
  by_cases hb : b ∈ fs
  · exact u.slot b ob q n hb hx
  · exact ⟨ob.slots, u.keep b ob q n hb hx⟩
theorem Un.trans (a : Un fs ex H H1 h h1) (b : Un fs ex H1 H2 h1 h2) : Un fs ex H H2 h h2 where
  keep := fun c ob q n hc hx => b.keep c ob (a.keep c ob q n hc hx) (a.free c ob q n hx) hc hx
  slot := fun c ob q n hc hx => by
    obtain ⟨sl, e1⟩ := a.slot c ob q n hc hx
    obtain ⟨sl', e2⟩ := b.slot c _ e1 (a.free c ob q n hx) hc hx
    exact ⟨sl', e2⟩
  free := fun c ob q n hx => by
    obtain ⟨o', e1⟩ := a.there c ob q hx
    exact b.free c o' e1 (a.free c ob q n hx) hx
  there := fun c ob q hx => by
    obtain ⟨o', e1⟩ := a.there c ob q hx
    exact b.there c o' e1 hx
  tups := fun c xs q => b.tups c xs (a.tups c xs q)
  frzs := fun c ob xs q => b.frzs c ob xs (a.frzs c ob xs q)
  tbls := fun c ps q => by
    obtain ⟨m1, e1⟩ := a.tbls c ps q
    obtain ⟨m2, e2⟩ := b.tbls c _ e1
    exact ⟨m1 ++ m2, by rw [e2, Array.append_assoc]⟩
theorem Un.kept (k : ∀ b u, h.get? b = some u → h'.get? b = some u) : Un fs ex H H h h' :=
  ⟨fun b ob q _ _ _ => k b ob q, fun b ob q _ _ _ => ⟨ob.slots, k b ob q⟩, fun _ _ _ n _ => n, fun b ob q _ => ⟨ob, k b ob q⟩, fun _ _ q => q, fun _ _ _ q => q, fun _ ps q => ⟨#[], by rw [q]; simp⟩⟩
theorem Un.refl : Un fs ex H H h h := Un.kept fun _ _ q => q
theorem Un.laid (k : ∀ b u, h.get? b = some u → h'.get? b = some u) (hp : h.objs.size ≤ a) (hn : H a = none) : Un fs ex H (upd H a o) h h' where
  keep := fun b u q _ _ _ => k b u q
  slot := fun b u q _ _ _ => ⟨u.slots, k b u q⟩
  free := fun b u q n _ => by rw [upd_ne (Nat.ne_of_lt (Nat.lt_of_lt_of_le (Heap.lt_size q) hp))]; exact n
  there := fun b u q _ => ⟨u, k b u q⟩
  tups := fun b xs q => by rw [upd_ne (ne_of_none q hn)]; exact q
  frzs := fun b u xs q => by rw [upd_ne (ne_of_none q hn)]; exact q
  tbls := fun b ps q => ⟨#[], by rw [upd_ne (ne_of_none q hn), q]; simp⟩
theorem Un.write (mu : Mut (H x)) (he : e = x ∨ H e = some (.own x)) (k : ∀ b u, b ≠ e → h.get? b = some u → h'.get? b = some u) (heo : ∃ u, h'.get? e = some u) : Un fs ex H (upd H x o) h h' := by
  have hx : ∀ b, H b = none → b ≠ x := fun b n z => by subst z; rw [n] at mu; exact mu
  have hb : ∀ b, H b = none → b ≠ e := fun b n z => by
    subst z
    rcases he with r | r
    · exact hx b n r
    · rw [n] at r; cases r
  have hm : ∀ b u, H b = some u → ¬ Mut (some u) → b ≠ x := fun b u q nm z => by subst z; rw [q] at mu; exact nm mu
  refine ⟨fun b u q n _ _ => k b u (hb b n) q, fun b u q n _ _ => ⟨u.slots, k b u (hb b n) q⟩, fun b u q n _ => by rw [upd_ne (hx b n)]; exact n, fun b u q _ => ?_,
    fun b xs q => by rw [upd_ne (hm b _ q fun z => z)]; exact q, fun b u xs q => by rw [upd_ne (hm b _ q fun z => z)]; exact q, fun b ps q => ⟨#[], by rw [upd_ne (hm b _ q fun z => z), q]; simp⟩⟩
  by_cases hbe : b = e
  · subst hbe; exact heo
  · exact ⟨u, k b u hbe q⟩
theorem Un.mono (u : Un fs ex H H1 h h1) (hs : ∀ b ∈ fs, b ∈ fs') (hx : ∀ b ∈ ex, b ∈ ex') : Un fs' ex' H H1 h h1 :=
  ⟨fun b ob q n hb he => u.keep b ob q n (fun z => hb (hs b z)) fun z => he (hx b z), fun _ _ q n _ he => u.any q n fun z => he (hx _ z), fun b ob q n he => u.free b ob q n fun z => he (hx b z), fun b ob q he => u.there b ob q fun z => he (hx b z), u.tups, u.frzs, u.tbls⟩
end
def trk (h : Heap) (H : Hp) : List Addr := (List.range h.objs.size).filter fun a => (H a).isSome
def hidT (h : Heap) (H : Hp) : Heap := PySem.W.hideAll h (trk h H)
theorem hidT_size (h : Heap) (H : Hp) : (hidT h H).objs.size = h.objs.size := PySem.W.hideAll_size _ _
theorem hidT_get {h : Heap} {H : Hp} {b : Addr} {o : Obj} (e : h.get? b = some o) (n : H b = none) : (hidT h H).get? b = some o :=
  PySem.W.hideAll_get _ e fun hm => by
    have q : (H b).isSome = true := (List.mem_filter.mp hm).2
    rw [n] at q; simp at q
theorem of_hidT {h : Heap} {H : Hp} {b : Addr} {o : Obj} (e : (hidT h H).get? b = some o) : h.get? b = some o ∧ H b = none := by
  have e' : h.get? b = some o := PySem.W.of_hideAll (trk h H) e
  refine ⟨e', ?_⟩
  cases q : H b with
  | none => rfl
  | some x =>
    have hm : b ∈ trk h H := List.mem_filter.mpr ⟨List.mem_range.mpr (Heap.lt_size e'), by simp [q]⟩
    have z : (hidT h H).get? b = none := PySem.W.hideAll_none (trk h H) hm
    rw [z] at e; cases e
def allNews (g h : Heap) (L : Addr) : List (Addr × Obj) := (List.range h.objs.size).filterMap fun a => if a = L ∨ (g.get? a).isSome = true then none else (h.get? a).map fun o => (a, o)
def rest (g h : Heap) (L d : Addr) : List (Addr × Obj) := (allNews g h L).filter fun p => decide (p.1 ≠ d)
end L2
namespace L2
open PySem PySem.Spec PyProof.Rows
structure Mod (K : PySem.W.Frag) (mg : Str → Option Value) (base : Heap) : Prop where
  kin : K.In base
  glob : base.Ns mainGlobals mg
  blt : ∃ mb, base.Ns builtinsNs mb ∧ ∀ x : Str, x ≠ "__name__" → mb x = bootBuiltins x
  nolimit : base.NoLimit
structure Cx where
  prog : Program
  w : World
  K : PySem.W.Frag
  mg : Str → Option Value
  base : Heap
  A : Around
  N : List Str
  s₀ : Shared
  H₀ : Hp
  env : Env
  outer : List Env
  stack : List Env
  ex : List Addr
  fn : Str → Bool
  calm : Bool
  pn : List (Addr × Obj)
  xe : Value → Shared → Prop
def frs (l : List Env) : List Addr := l.filterMap (·.frame)
abbrev Cx.fs (X : Cx) : List Addr := frs X.outer
def Vis (sc : Scope) (x : Str) : Prop := sc.names.lookup x = some .local ∨ sc.names.lookup x = some .cell ∨ sc.names.lookup x = some .free
def Loc (sc : Scope) (x : Str) : Prop := sc.names.lookup x = some .local ∨ sc.names.lookup x = some .cell
def Look (env : Env) (h : Heap) (m : Str → Option Value) (x : Str) (u : Value) : Prop :=
  (env.kindOf x = some .local ∧ m x = some u) ∨ ((env.kindOf x = some .cell ∨ env.kindOf x = some .free) ∧ ∃ c, env.cells.lookup x = some c ∧ h.IsCell c (some u))
structure Cx.Ok (X : Cx) : Prop where
  mod : Mod X.K X.mg X.base
  kind : X.env.scope.kind = .function
  glob : X.env.globals = mainGlobals
  blt : X.env.builtins = builtinsNs
  above : X.s₀.heap.objs.size ≤ X.env.locals
  inj : ∀ x y c, X.env.cells.lookup x = some c → X.env.cells.lookup y = some c → x = y
  has : ∀ x, (X.env.kindOf x = some .cell ∨ X.env.kindOf x = some .free) → ∃ c, X.env.cells.lookup x = some c
  cab : ∀ x c, X.fn x = true → X.env.cells.lookup x = some c → X.s₀.heap.objs.size ≤ c
  hd : X.calm = true → X.A.handled = none
  frames : X.A.frames = some X.stack
  stk : X.stack = X.outer ∨ (X.stack = X.env :: X.outer ∧ X.env.frame = some X.env.locals)
  exf : ∀ b ∈ X.ex, b ≠ X.env.locals ∧ ∀ x c, X.env.cells.lookup x = some c → c ≠ b
  bs : ∀ b o, X.base.get? b = some o → X.s₀.heap.get? b = some o ∧ X.H₀ b = none
  bsz : X.base.objs.size ≤ X.s₀.heap.objs.size
  noex : ∀ b o, X.base.get? b = some o → b ∉ X.ex
  exfs : ∀ b ∈ X.ex, b ∉ X.fs
  funs : X.s₀.heap.FunFrames X.base X.outer
  frf : ∀ b ∈ X.fs, X.H₀ b = none
structure Inv (X : Cx) (pins : List (Addr × Obj)) (σ : List (Option V)) (H : Hp) (s : Shared) : Prop where
  ok : X.Ok
  os : s.os = X.s₀.os
  bare : AllBare s.gens
  base : Un X.fs X.ex X.H₀ H X.s₀.heap s.heap
  loc : ∃ m, s.heap.Ns X.env.locals m ∧ ∀ (i : Nat) (x : Str) (v : V), X.N[i]? = some x → σ[i]? = some (some v) → Vis X.env.scope x → ∃ u, RelV v u ∧ Look X.env s.heap m x u
  cell : ∀ x c, X.env.cells.lookup x = some c → ∃ v, s.heap.IsCell c v
  free : H X.env.locals = none
  freeC : ∀ x c, X.env.cells.lookup x = some c → H c = none
  pin : ∀ p ∈ X.pn ++ pins, s.heap.get? p.1 = some p.2 ∧ H p.1 = none ∧ p.1 ≠ X.env.locals ∧ p.1 ∉ X.fs ∧ ∀ v, p.2.data ≠ .cell v
  hok : HOk X.prog X.w H s.heap
  len : σ.length = X.N.length
section
variable {X : Cx} {pins : List (Addr × Obj)} {σ : List (Option V)} {H H' : Hp} {s : Shared} {h' : Heap}
theorem Cx.Ok.nofr (ok : X.Ok) {b : Addr} {o : Obj} (e : X.base.get? b = some o) : b ∉ X.fs := fun hb => by
  have := (ok.funs.mem hb).1
  rw [e] at this; cases this
theorem Inv.bs (I : Inv X pins σ H s) : ∀ b o, X.base.get? b = some o → s.heap.get? b = some o ∧ H b = none := fun b o e =>
  ⟨I.base.keep b o (I.ok.bs b o e).1 (I.ok.bs b o e).2 (I.ok.nofr e) (I.ok.noex b o e), I.base.free b o (I.ok.bs b o e).1 (I.ok.bs b o e).2 (I.ok.noex b o e)⟩
theorem Inv.bk (I : Inv X pins σ H s) : ∀ b o, X.base.get? b = some o → s.heap.get? b = some o := fun b o e => (I.bs b o e).1
theorem Inv.mod (I : Inv X pins σ H s) : Mod X.K X.mg X.base := I.ok.mod
theorem Inv.kIn (I : Inv X pins σ H s) : X.K.In s.heap := I.ok.mod.kin.keeps I.bk
theorem Inv.nolimit (I : Inv X pins σ H s) : s.heap.NoLimit := I.ok.mod.nolimit.keeps I.bk
theorem Inv.fr (I : Inv X pins σ H s) : ∃ m, Fr X.base X.env.locals s.heap m :=
  let ⟨m, hn, _⟩ := I.loc
  ⟨m, hn, I.bk, Nat.le_trans I.ok.bsz I.ok.above⟩
theorem Inv.lt (I : Inv X pins σ H s) : X.env.locals < s.heap.objs.size := let ⟨_, hn, _⟩ := I.loc; hn.lt
theorem Inv.sz (I : Inv X pins σ H s) : X.s₀.heap.objs.size ≤ s.heap.objs.size := Nat.le_trans I.ok.above (Nat.le_of_lt I.lt)
theorem Inv.nofs (I : Inv X pins σ H s) {a : Addr} (h : s.heap.objs.size ≤ a) : a ∉ X.fs := fun hb => by
  obtain ⟨_, o, ho, _⟩ := I.ok.funs.mem hb
  exact absurd (Nat.lt_of_lt_of_le (Heap.lt_size ho) (Nat.le_trans I.sz h)) (Nat.lt_irrefl _)
theorem Inv.cne (I : Inv X pins σ H s) : ∀ x c, X.env.cells.lookup x = some c → c ≠ X.env.locals := fun x c e z => by
  obtain ⟨v, o, ho, hd⟩ := I.cell x c e
  obtain ⟨m, ⟨o', es, ep, ho', hd', _⟩, _⟩ := I.loc
  rw [z, ho'] at ho; cases ho; rw [hd'] at hd; cases hd
theorem Inv.funs (I : Inv X pins σ H s) : s.heap.FunFrames X.base X.outer := by
  have all : ∀ (l : List Env), (∀ b ∈ frs l, b ∈ X.fs) → X.s₀.heap.FunFrames X.base l → s.heap.FunFrames X.base l := by
    intro l
    induction l with
    | nil => intro _ _; trivial
    | cons env r ih =>
      intro hs hl
      obtain ⟨hk, ⟨L, o, hf, hn, ho, hd⟩, hr⟩ := hl
      have hL : L ∈ X.fs := hs L (by unfold frs; rw [List.filterMap_cons, hf]; exact List.mem_cons_self)
      obtain ⟨sl, e⟩ := I.base.slot L o ho (I.ok.frf L hL) hL fun z => I.ok.exfs L z hL
      exact ⟨hk, ⟨L, _, hf, hn, e, hd⟩, ih (fun b hb => hs b (by unfold frs; rw [List.filterMap_cons, hf]; exact List.mem_cons_of_mem _ hb)) hr⟩
  exact all X.outer (fun _ hb => hb) I.ok.funs
theorem Inv.stack (I : Inv X pins σ H s) : s.heap.FunFrames X.base X.stack := by
  rcases I.ok.stk with e | ⟨e, hf⟩
  · rw [e]; exact I.funs
  · rw [e]
    obtain ⟨m, hn, _⟩ := I.loc
    refine .cons (by rw [I.ok.kind]; decide) hf hn ?_ I.funs
    exact Heap.get?_none_of_le (Nat.le_trans I.ok.bsz I.ok.above)
theorem Inv.stkSub (I : Inv X pins σ H s) : ∀ b ∈ frs X.stack, b ∈ X.env.locals :: X.fs := fun b hb => by
  rcases I.ok.stk with e | ⟨e, hf⟩
  · rw [e] at hb; exact List.mem_cons_of_mem _ hb
  · rw [e] at hb
    unfold frs at hb
    rw [List.filterMap_cons, hf] at hb
    exact hb
theorem Inv.stkFree (I : Inv X pins σ H s) : ∀ b ∈ frs X.stack, H b = none := fun b hb => by
  rcases List.mem_cons.mp (I.stkSub b hb) with e | hb
  · rw [e]; exact I.free
  · obtain ⟨_, o, ho, _⟩ := I.ok.funs.mem hb
    exact I.base.free b o ho (I.ok.frf b hb) fun z => I.ok.exfs b z hb
theorem Inv.step {g' : Array GenState} {t' : Nat} {d' : Drawn} {ch : List Addr} (I : Inv X pins σ H s)
    (hch : ∀ b ∈ ch, (b ∈ X.ex ∨ X.s₀.heap.objs.size ≤ b) ∧ b ≠ X.env.locals ∧ (∀ x c, X.env.cells.lookup x = some c → c ≠ b) ∧ ∀ p ∈ X.pn ++ pins, p.1 ≠ b)
    (keep : ∀ b o, b ≠ X.env.locals → b ∉ X.fs → b ∉ ch → s.heap.get? b = some o → H b = none → h'.get? b = some o)
    (slot : ∀ b o, b ≠ X.env.locals → b ∈ X.fs → b ∉ ch → s.heap.get? b = some o → H b = none → ∃ sl, h'.get? b = some { o with slots := sl }) (free : ∀ b o, b ∉ ch → s.heap.get? b = some o → H b = none → H' b = none)
    (there : ∀ b o, b ∉ ch → s.heap.get? b = some o → ∃ o', h'.get? b = some o')
    (tups : ∀ b xs, H b = some (.tup xs) → H' b = some (.tup xs)) (frzs : ∀ b o u, H b = some (.frz o u) → H' b = some (.frz o u)) (tbls : ∀ b ps, H b = some (.tbl ps) → ∃ more, H' b = some (.tbl (ps ++ more)))
    (ns : ∀ m, s.heap.Ns X.env.locals m → h'.Ns X.env.locals m) (hok : HOk X.prog X.w H' h') (hg : AllBare g') :
    Inv X pins σ H' { s with heap := h', gens := g', drawn := d', toks := t' } := by
  have neL : ∀ b o, X.s₀.heap.get? b = some o → b ≠ X.env.locals := fun b o e => Nat.ne_of_lt (Nat.lt_of_lt_of_le (Heap.lt_size e) I.ok.above)
  have neC : ∀ b o, X.s₀.heap.get? b = some o → b ∉ X.ex → b ∉ ch := fun b o e hx hb => by
    rcases (hch b hb).1 with z | z
    · exact hx z
    · exact absurd (Nat.lt_of_lt_of_le (Heap.lt_size e) z) (Nat.lt_irrefl _)
  have cellK : ∀ x c, X.env.cells.lookup x = some c → ∀ v, s.heap.IsCell c v → h'.IsCell c v := fun x c e v ⟨o, ho, hd⟩ => by
    have nch : c ∉ ch := fun z => (hch c z).2.2.1 x c e rfl
    by_cases hc : c ∈ X.fs
    · obtain ⟨sl, q⟩ := slot c o (I.cne x c e) hc nch ho (I.freeC x c e)
      exact ⟨_, q, hd⟩
    · exact ⟨o, keep c o (I.cne x c e) hc nch ho (I.freeC x c e), hd⟩
  refine ⟨I.ok, I.os, hg, ⟨fun b o e n hb hx => ?_, fun b o e n hb hx => ?_, fun b o e n hx => ?_, fun b o e hx => ?_, fun b xs e => tups b xs (I.base.tups b xs e), fun b o xs e => frzs b o xs (I.base.frzs b o xs e), fun b ps e => ?_⟩, ?_, fun x c e => ?_, ?_, fun x c e => ?_, fun p hp => ?_, hok, I.len⟩
  · exact keep b o (neL b o e) hb (neC b o e hx) (I.base.keep b o e n hb hx) (I.base.free b o e n hx)
  · obtain ⟨sl, e1⟩ := I.base.slot b o e n hb hx
    obtain ⟨sl', e2⟩ := slot b _ (neL b o e) hb (neC b o e hx) e1 (I.base.free b o e n hx)
    exact ⟨sl', e2⟩
  · obtain ⟨o', e1⟩ := I.base.there b o e hx
    exact free b o' (neC b o e hx) e1 (I.base.free b o e n hx)
  · obtain ⟨o', e1⟩ := I.base.there b o e hx
    exact there b o' (neC b o e hx) e1
  · obtain ⟨m1, e1⟩ := I.base.tbls b ps e
    obtain ⟨m2, e2⟩ := tbls b _ e1
    exact ⟨m1 ++ m2, by rw [e2, Array.append_assoc]⟩
  · obtain ⟨m, hn, hl⟩ := I.loc
    refine ⟨m, ns m hn, fun i x v e1 e2 e3 => ?_⟩
    obtain ⟨u, r, l⟩ := hl i x v e1 e2 e3
    refine ⟨u, r, ?_⟩
    rcases l with l | ⟨k, c, e, z⟩
    · exact .inl l
    · exact .inr ⟨k, c, e, cellK x c e _ z⟩
  · obtain ⟨v, z⟩ := I.cell x c e
    exact ⟨v, cellK x c e v z⟩
  · obtain ⟨m, ⟨o, _, _, ho, _⟩, _⟩ := I.loc
    exact free _ o (fun z => (hch _ z).2.1 rfl) ho I.free
  · obtain ⟨v, o, ho, hd⟩ := I.cell x c e
    exact free c o (fun z => (hch c z).2.2.1 x c e rfl) ho (I.freeC x c e)
  · obtain ⟨e, n, ne, nf, d⟩ := I.pin p hp
    have nch : p.1 ∉ ch := fun z => (hch p.1 z).2.2.2 p hp rfl
    exact ⟨keep p.1 p.2 ne nf nch e n, free p.1 p.2 nch e n, ne, nf, d⟩
theorem Inv.un {t' : Nat} (I : Inv X pins σ H s) (u : Un X.fs [] H H' s.heap h') (hok : HOk X.prog X.w H' h') : Inv X pins σ H' { s with heap := h', toks := t' } := by
  obtain ⟨m, ⟨o, es, ep, ho, r⟩, _⟩ := id I.loc
  obtain ⟨sl, hL⟩ := u.any ho I.free (by simp)
  exact I.step (g' := s.gens) (d' := s.drawn) (ch := []) (fun _ z => nomatch z) (fun b o _ hb _ e n => u.keep b o e n hb (by simp)) (fun b o _ hb _ e n => u.slot b o e n hb (by simp)) (fun b o _ e n => u.free b o e n (by simp)) (fun b o _ e => u.there b o e (by simp)) u.tups u.frzs u.tbls (fun m' hm => by
    obtain ⟨o', es', ep', ho', r'⟩ := hm
    rw [ho] at ho'; cases ho'
    exact ⟨_, es', ep', hL, r'⟩) hok I.bare
theorem Inv.call {g' : Array GenState} {t' : Nat} {d' : Drawn} {ch : List Addr} (I : Inv X pins σ H s) (u : Un (frs X.stack) ch H H' s.heap h') (hok : HOk X.prog X.w H' h') (hg : AllBare g')
    (hch : ∀ b ∈ ch, (b ∈ X.ex ∨ X.s₀.heap.objs.size ≤ b) ∧ b ≠ X.env.locals ∧ (∀ x c, X.env.cells.lookup x = some c → c ≠ b) ∧ ∀ p ∈ X.pn ++ pins, p.1 ≠ b) :
    Inv X pins σ H' { s with heap := h', gens := g', drawn := d', toks := t' } := by
  obtain ⟨m, ⟨o, es, ep, ho, r⟩, _⟩ := id I.loc
  obtain ⟨sl, hL⟩ := u.any ho I.free fun z => (hch _ z).2.1 rfl
  exact I.step (ch := ch) hch (fun b o hL hb hc e n => u.keep b o e n (fun z => (List.mem_cons.mp (I.stkSub b z)).elim hL hb) hc) (fun b o _ _ hc e n => u.any e n hc) (fun b o hc e n => u.free b o e n hc) (fun b o hc e => u.there b o e hc) u.tups u.frzs u.tbls (fun m' hm => by
    obtain ⟨o', es', ep', ho', r'⟩ := hm
    rw [ho] at ho'; cases ho'
    exact ⟨_, es', ep', hL, r'⟩) hok hg
theorem Inv.turned {t' : Nat} {it : Addr} (I : Inv X pins σ H s) (k : ∀ b o, b ≠ it → s.heap.get? b = some o → h'.get? b = some o) (hn : H it = none) (hL : it ≠ X.env.locals)
    (h1 : it ∈ X.ex ∨ X.s₀.heap.objs.size ≤ it) (h2 : ∀ x c, X.env.cells.lookup x = some c → c ≠ it) (h3 : ∀ p ∈ X.pn ++ pins, p.1 ≠ it) : Inv X pins σ H { s with heap := h', toks := t' } := by
  have nit : ∀ b u, H b = some u → b ≠ it := fun b u e z => by rw [z, hn] at e; cases e
  refine I.step (g' := s.gens) (d' := s.drawn) (ch := [it]) (fun b hb => ?_) (fun b o _ _ hc e _ => k b o (fun z => hc (by simp [z])) e) (fun b o _ _ hc e _ => ⟨o.slots, k b o (fun z => hc (by simp [z])) e⟩) (fun _ _ _ _ n => n)
    (fun b o hc e => ⟨o, k b o (fun z => hc (by simp [z])) e⟩) (fun _ _ e => e) (fun _ _ _ e => e) (fun b ps e => ⟨#[], by rw [e]; simp⟩) (fun m hm => ?_) (fun b u e => ?_) I.bare
  · have e : b = it := by simpa using hb
    subst e
    exact ⟨h1, hL, h2, h3⟩
  · obtain ⟨o, es, ep, ho, r⟩ := hm
    exact ⟨o, es, ep, k _ o (Ne.symm hL) ho, r⟩
  · refine (I.hok b u e).stay (fun c v hc q => k c v ?_ q) (fun _ q => q) fun _ _ q => q
    rcases hc with z | z
    · rw [z]; exact nit b u e
    · exact nit c _ z
theorem Inv.tok (I : Inv X pins σ H s) (t : Nat) : Inv X pins σ H { s with toks := t } := I.un (h' := s.heap) (t' := t) Un.refl I.hok
theorem Inv.kept {t' : Nat} (I : Inv X pins σ H s) (k : ∀ b u, s.heap.get? b = some u → h'.get? b = some u) : Inv X pins σ H { s with heap := h', toks := t' } := I.un (Un.kept k) (I.hok.kept k)
theorem Inv.laid {a : Addr} {o : HO} {t' : Nat} (I : Inv X pins σ H s) (k : ∀ b u, s.heap.get? b = some u → h'.get? b = some u) (hp : s.heap.objs.size ≤ a) (new : ObjOk X.prog X.w (upd H a o) h' a o) :
    Inv X pins σ (upd H a o) { s with heap := h', toks := t' } := I.un (Un.laid k hp (I.hok.fresh hp)) (I.hok.laid k hp new)
theorem Inv.write {x e : Addr} {o : HO} {t' : Nat} (I : Inv X pins σ H s) (mu : Mut (H x)) (he : e = x ∨ H e = some (.own x)) (k : ∀ b u, b ≠ e → s.heap.get? b = some u → h'.get? b = some u) (heo : ∃ u, h'.get? e = some u)
    (new : ObjOk X.prog X.w (upd H x o) h' x o) : Inv X pins σ (upd H x o) { s with heap := h', toks := t' } := I.un (Un.write mu he k heo) (I.hok.write mu he k heo new)
theorem Inv.pins_of {pins' : List (Addr × Obj)} (I : Inv X pins σ H s) (h : ∀ p ∈ pins', s.heap.get? p.1 = some p.2 ∧ H p.1 = none ∧ p.1 ≠ X.env.locals ∧ p.1 ∉ X.fs ∧ ∀ v, p.2.data ≠ .cell v) : Inv X pins' σ H s :=
  ⟨I.ok, I.os, I.bare, I.base, I.loc, I.cell, I.free, I.freeC, fun p hp => (List.mem_append.mp hp).elim (fun z => I.pin p (List.mem_append_left _ z)) (h p), I.hok, I.len⟩
theorem nodup_ix {N : List Str} (hN : N.Nodup) {i j : Nat} {x : Str} (a : N[i]? = some x) (b : N[j]? = some x) : i = j := by
  obtain ⟨h1, e1⟩ := List.getElem?_eq_some_iff.mp a
  obtain ⟨h2, e2⟩ := List.getElem?_eq_some_iff.mp b
  exact (List.getElem_inj hN).mp (e1.trans e2.symm)
theorem store_ok2 {M : Model} {A : Around} {E : Value → Shared → Prop} {i : Nat} {x : Str} {v : V} {u : Value} {Q : Unit → Shared → Prop} (I : Inv X pins σ H s) (hN : X.N.Nodup) (hi : X.N[i]? = some x) (hx : Loc X.env.scope x) (r : RelV v u)
    (h : ∀ s', Inv X pins (σ.set i (some v)) H s' → (∃ a, Heap.SameBut a s.heap s'.heap ∧ (a = X.env.locals ∨ X.env.cells.lookup x = some a)) → Q () s') (hf : X.fn x = true ∨ X.env.scope.names.lookup x = some .local := by first | exact .inl rfl | exact .inr rfl | assumption) : wpAny M A (storeName X.env x u) Q E s := by
  obtain ⟨m, hn, hl⟩ := id I.loc
  have hcls : (X.env.scope.kind == .class || (X.env.scope.kind == .module && X.env.locals != X.env.globals)) = false := by rw [I.ok.kind]; rfl
  have hiσ : i < σ.length := by rw [I.len]; exact (List.getElem?_eq_some_iff.mp hi).1
  have cne := I.cne
  have tracked : ∀ {a : Addr} {h' : Heap}, (∃ o, s.heap.get? a = some o ∧ H a = none) → Heap.SameBut a s.heap h' → HOk X.prog X.w H h' := fun {a h'} ha hs b ob e => by
    obtain ⟨_, _, hfree⟩ := ha
    refine (I.hok b ob e).stay (fun c w' hc q => (hs.2 c ?_).trans q) (fun _ q => q) fun _ _ q => q
    rintro rfl
    rcases hc with rfl | hc
    · rw [hfree] at e; cases e
    · rw [hfree] at hc; cases hc
  rcases hx with hk | hk
  · refine wpAny_storeName_local hk hn (fun h' hn' hs => ?_) hcls
    obtain ⟨oL, _, _, hoL, _⟩ := id hn
    refine h _ ⟨I.ok, I.os, I.bare, ⟨fun b o e n hb hx => ?_, fun b o e n hb hx => ?_, I.base.free, fun b o e hx => ?_, I.base.tups, I.base.frzs, I.base.tbls⟩, ⟨_, hn', fun j y v' e1 e2 e3 => ?_⟩, fun y c e => ?_, I.free, I.freeC, fun p hp => ?_, tracked ⟨oL, hoL, I.free⟩ hs, by simpa using I.len⟩ ⟨_, hs, .inl rfl⟩
    · exact (hs.2 b (Nat.ne_of_lt (Nat.lt_of_lt_of_le (Heap.lt_size e) I.ok.above))).trans (I.base.keep b o e n hb hx)
    · obtain ⟨sl, e1⟩ := I.base.slot b o e n hb hx
      exact ⟨sl, (hs.2 b (Nat.ne_of_lt (Nat.lt_of_lt_of_le (Heap.lt_size e) I.ok.above))).trans e1⟩
    · obtain ⟨o', e1⟩ := I.base.there b o e hx
      exact ⟨o', (hs.2 b (Nat.ne_of_lt (Nat.lt_of_lt_of_le (Heap.lt_size e) I.ok.above))).trans e1⟩
    · by_cases hj : j = i
      · subst hj
        rw [hi] at e1; cases e1
        rw [List.getElem?_set_self hiσ] at e2
        cases e2
        exact ⟨u, r, .inl ⟨hk, by simp⟩⟩
      · rw [List.getElem?_set_ne (Ne.symm hj)] at e2
        obtain ⟨u', r', q⟩ := hl j y v' e1 e2 e3
        refine ⟨u', r', ?_⟩
        rcases q with ⟨k, e⟩ | ⟨k, c, e, z⟩
        · refine .inl ⟨k, ?_⟩
          have : y ≠ x := fun e => hj (nodup_ix hN e1 (e ▸ hi))
          simp [this, e]
        · exact .inr ⟨k, c, e, z.sameBut hs (cne y c e)⟩
    · obtain ⟨w', z⟩ := I.cell y c e
      exact ⟨w', z.sameBut hs (cne y c e)⟩
    · obtain ⟨e, n, ne, nf, d⟩ := I.pin p hp
      exact ⟨(hs.2 p.1 ne).trans e, n, ne, nf, d⟩
  · have hfn : X.fn x = true := by
      rcases hf with z | z
      · exact z
      · rw [z] at hk; cases hk
    obtain ⟨c, hc⟩ := I.ok.has x (.inl hk)
    obtain ⟨w', z⟩ := I.cell x c hc
    refine wpAny_storeName_cell I.ok.kind hk hc z (fun h' hc' hs => ?_)
    obtain ⟨oc, hoc, hocd⟩ := id z
    refine h { s with heap := h' } ⟨I.ok, I.os, I.bare, ⟨fun b o e n hb hx => ?_, fun b o e n hb hx => ?_, I.base.free, fun b o e hx => ?_, I.base.tups, I.base.frzs, I.base.tbls⟩, ⟨m, hn.sameBut hs (Ne.symm (cne x c hc)), fun j y v' e1 e2 e3 => ?_⟩, fun y c' e => ?_, I.free, I.freeC, fun p hp => ?_, tracked ⟨oc, hoc, I.freeC x c hc⟩ hs, by simpa using I.len⟩ ⟨c, hs, .inr hc⟩
    · exact (hs.2 b (Nat.ne_of_lt (Nat.lt_of_lt_of_le (Heap.lt_size e) (I.ok.cab x c hfn hc)))).trans (I.base.keep b o e n hb hx)
    · obtain ⟨sl, e1⟩ := I.base.slot b o e n hb hx
      exact ⟨sl, (hs.2 b (Nat.ne_of_lt (Nat.lt_of_lt_of_le (Heap.lt_size e) (I.ok.cab x c hfn hc)))).trans e1⟩
    · obtain ⟨o', e1⟩ := I.base.there b o e hx
      exact ⟨o', (hs.2 b (Nat.ne_of_lt (Nat.lt_of_lt_of_le (Heap.lt_size e) (I.ok.cab x c hfn hc)))).trans e1⟩
    · by_cases hj : j = i
      · subst hj
        rw [hi] at e1; cases e1
        rw [List.getElem?_set_self hiσ] at e2
        cases e2
        exact ⟨u, r, .inr ⟨.inl hk, c, hc, hc'⟩⟩
      · rw [List.getElem?_set_ne (Ne.symm hj)] at e2
        obtain ⟨u', r', q⟩ := hl j y v' e1 e2 e3
        refine ⟨u', r', ?_⟩
        rcases q with q | ⟨k, c', e, z'⟩
        · exact .inl q
        · refine .inr ⟨k, c', e, z'.sameBut hs ?_⟩
          rintro rfl
          exact hj (nodup_ix hN e1 (I.ok.inj _ _ _ e hc ▸ hi))
    · by_cases hcc : c' = c
      · subst hcc; exact ⟨_, hc'⟩
      · obtain ⟨w2, z2⟩ := I.cell y c' e
        exact ⟨w2, z2.sameBut hs hcc⟩
    · obtain ⟨e, n, ne, nf, d⟩ := I.pin p hp
      refine ⟨(hs.2 p.1 ?_).trans e, n, ne, nf, d⟩
      intro q
      rw [q, hoc] at e
      have q' : oc = p.2 := Option.some.inj e
      exact d w' (by rw [← q']; exact hocd)
theorem store_ok {M : Model} {A : Around} {E : Value → Shared → Prop} {i : Nat} {x : Str} {v : V} {u : Value} {Q : Unit → Shared → Prop} (I : Inv X pins σ H s) (hN : X.N.Nodup) (hi : X.N[i]? = some x) (hx : Loc X.env.scope x) (r : RelV v u)
    (h : ∀ s', Inv X pins (σ.set i (some v)) H s' → Q () s') (hf : X.fn x = true ∨ X.env.scope.names.lookup x = some .local := by first | exact .inl rfl | exact .inr rfl | assumption) : wpAny M A (storeName X.env x u) Q E s :=
  store_ok2 I hN hi hx r (fun s' I' _ => h s' I') hf
theorem Inv.call' {s' : Shared} {ch : List Addr} (I : Inv X pins σ H s) (ho : s'.os = s.os) (u : Un (frs X.stack) ch H H' s.heap s'.heap) (hok : HOk X.prog X.w H' s'.heap) (hg : AllBare s'.gens)
    (hch : ∀ b ∈ ch, (b ∈ X.ex ∨ X.s₀.heap.objs.size ≤ b) ∧ b ≠ X.env.locals ∧ (∀ x c, X.env.cells.lookup x = some c → c ≠ b) ∧ ∀ p ∈ X.pn ++ pins, p.1 ≠ b) : Inv X pins σ H' s' := by
  obtain ⟨h', g', d', t', o'⟩ := s'
  have e : o' = s.os := ho
  subst e
  exact I.call (g' := g') (t' := t') (d' := d') u hok hg hch
end
abbrev XK := Value → Option Addr → Hp → Prop
abbrev St := List (Option V)
abbrev VK := V → Hp → Prop
abbrev TE := St → Hp → VK → Prop
abbrev TT := St → Hp → (Bool → Hp → Prop) → Prop
abbrev TA := St → Hp → (List V → Hp → Prop) → Prop
structure Ends where
  nx : St → Hp → Prop
  rt : VK
  bk : St → Hp → Prop := fun _ _ => False
  ct : St → Hp → Prop := fun _ _ => False
abbrev TS := Ends → St → Hp → Prop
def EP (X : Cx) (pins : List (Addr × Obj)) (σ : St) (Q : VK) (u : Value) (s' : Shared) : Prop := ∃ v H', Inv X pins σ H' s' ∧ RelV v u ∧ Q v H'
def TP (X : Cx) (pins : List (Addr × Obj)) (σ : St) (Q : Bool → Hp → Prop) (b : Bool) (s' : Shared) : Prop := ∃ H', Inv X pins σ H' s' ∧ Q b H'
def AP (X : Cx) (pins : List (Addr × Obj)) (σ : St) (Q : List V → Hp → Prop) (us : List Value) (s' : Shared) : Prop := ∃ vs H', Inv X pins σ H' s' ∧ Vals vs us ∧ Q vs H'
def SP (X : Cx) (pins : List (Addr × Obj)) (D : Ends) (f : Flow) (s' : Shared) : Prop :=
  match f with
  | .next => ∃ σ' H', Inv X pins σ' H' s' ∧ D.nx σ' H'
  | .brk => ∃ σ' H', Inv X pins σ' H' s' ∧ D.bk σ' H'
  | .cont => ∃ σ' H', Inv X pins σ' H' s' ∧ D.ct σ' H'
  | .ret u => ∃ v σ' H', Inv X pins σ' H' s' ∧ RelV v u ∧ D.rt v H'
def PE (X : Cx) (e : Expr) (t : TE) : Prop :=
  ∀ (pins : List (Addr × Obj)) (s : Shared) (σ : St) (H : Hp) (Q : VK), Inv X pins σ H s → t σ H Q → wpAny (model X.prog X.w) X.A (eval e X.env) (EP X pins σ Q) X.xe s
def PT (X : Cx) (e : Expr) (t : TT) : Prop :=
  ∀ (pins : List (Addr × Obj)) (s : Shared) (σ : St) (H : Hp) (Q : Bool → Hp → Prop), Inv X pins σ H s → t σ H Q → wpAny (model X.prog X.w) X.A (isTrue e X.env (eval e X.env)) (TP X pins σ Q) X.xe s
def PW (X : Cx) (e : Expr) (t : TT) : Prop :=
  ∀ (whole : Sem Value) (pins : List (Addr × Obj)) (s : Shared) (σ : St) (H : Hp) (Q : Bool → Hp → Prop), Inv X pins σ H s → t σ H Q → wpAny (model X.prog X.w) X.A (isTrue e X.env whole) (TP X pins σ Q) X.xe s
theorem PW.pt {X : Cx} {e : Expr} {t : TT} (h : PW X e t) : PT X e t := h _
def PA (X : Cx) (es : List Expr) (t : TA) : Prop :=
  ∀ (pos : Pos) (pins : List (Addr × Obj)) (s : Shared) (σ : St) (H : Hp) (Q : List V → Hp → Prop), Inv X pins σ H s → t σ H Q → wpAny (model X.prog X.w) X.A (spliced (backTo pos (starEach es X.env))) (AP X pins σ Q) X.xe s
def PS (X : Cx) (st : Stmt) (t : TS) : Prop :=
  ∀ (pins : List (Addr × Obj)) (s : Shared) (σ : St) (H : Hp) (D : Ends), Inv X pins σ H s → t D σ H → wpAny (model X.prog X.w) X.A (exec st X.env) (SP X pins D) X.xe s
def PSs (X : Cx) (st : List Stmt) (t : TS) : Prop :=
  ∀ (pins : List (Addr × Obj)) (s : Shared) (σ : St) (H : Hp) (D : Ends), Inv X pins σ H s → t D σ H → wpAny (model X.prog X.w) X.A (execs st X.env) (SP X pins D) X.xe s
theorem thn {α : Type} {t : Sem α} {Q Q' : α → Shared → Prop} {M : Model} {A : Around} {E : Value → Shared → Prop} {s : Shared} (h : wpAny M A t Q E s) (hQ : ∀ a s, Q a s → Q' a s) : wpAny M A t Q' E s := wpAny_mono h hQ fun _ _ x => x
end L2
namespace L2
open PySem PySem.Spec PyProof.Rows
section
variable {X : Cx}
theorem bin {a b : Expr} {ta tb : TE} (ha : PE X a ta) (hb : PE X b tb) {pins : List (Addr × Obj)} {s : Shared} {σ : St} {H : Hp} {R : V → V → Hp → Prop} (I : Inv X pins σ H s) (h : ta σ H fun x H1 => tb σ H1 fun y H2 => R x y H2)
    {α : Type} {Q : α → Shared → Prop} {f : Value → Value → Sem α}
    (hf : ∀ v u s2 x y H2, Inv X pins σ H2 s2 → RelV x v → RelV y u → R x y H2 → wpAny (model X.prog X.w) X.A (f v u) Q X.xe s2) :
    wpAny (model X.prog X.w) X.A (eval a X.env) (fun v s₁ => wpAny (model X.prog X.w) X.A (eval b X.env) (fun u s₂ => wpAny (model X.prog X.w) X.A (f v u) Q X.xe s₂) X.xe s₁) X.xe s := by
  refine thn (ha pins s σ H _ I h) fun v s1 ⟨x, H1, I1, r1, q1⟩ => ?_
  refine thn (hb pins s1 σ H1 _ I1 q1) fun u s2 ⟨y, H2, I2, r2, q2⟩ => ?_
  exact hf v u s2 x y H2 I2 r1 r2 q2
def tVar (i : Nat) : TE := fun σ H Q => ∃ v, σ[i]? = some (some v) ∧ Q v H
def tC (v : V) : TE := fun _ H Q => Q v H
theorem pe_var {i : Nat} {x : Str} {pos : Pos} (hN : X.N[i]? = some x) (hv : Vis X.env.scope x) (hd : (x == ("__debug__" : Str)) = false := by decide) (hcd : (x == ("__classdict__" : Str)) = false := by decide) : PE X (.Name x pos) (tVar i) := by
  intro pins s σ H Q I h
  obtain ⟨v, e, h⟩ := h
  obtain ⟨m, hn, hl⟩ := I.loc
  obtain ⟨u, r, l⟩ := hl i x v hN e hv
  have fin : EP X pins σ Q u s := ⟨v, H, I, r, h⟩
  rcases l with ⟨hk, hm⟩ | ⟨hk, c, hc, hcell⟩
  · exact wpAny_Name (wpAny_loadName_local I.ok.kind hk hn hm fin) hd
  · rcases hk with hk | hk
    · exact wpAny_Name (wpAny_loadName_cell I.ok.kind hk hc hcell fin) hd
    · exact wpAny_Name (wpAny_loadName_free I.ok.kind hk hc hcell fin hcd) hd
theorem pe_int {i j pos} : PE X (.Constant (.int i) j pos) (tC (.int i)) := fun _ _ _ H _ I h => wpAny_Constant_int ⟨.int i, H, I.tok _, ⟨_, rfl⟩, h⟩
theorem pe_bl {b j pos} : PE X (.Constant (.bool b) j pos) (tC (.bl b)) := fun _ _ _ H _ I h => Constant_bool ⟨.bl b, H, I, rfl, h⟩
theorem pe_non {j pos} : PE X (.Constant .none j pos) (tC .non) := fun _ _ _ H _ I h => Constant_none ⟨.non, H, I, rfl, h⟩
theorem pe_str {x j pos} : PE X (.Constant (.str x) j pos) (tC (.str x)) := fun _ _ _ H _ I h => Calls.Constant_str ⟨.str x, H, I.tok _, ⟨_, rfl⟩, h⟩
def Gl (X : Cx) (x : Str) : Prop := X.env.kindOf x = some .globalImplicit
theorem ld_glob {E : Value → Shared → Prop} {pins : List (Addr × Obj)} {s : Shared} {σ : St} {H : Hp} {x : Str} {u : Value} {pos : Pos} {Q : Value → Shared → Prop} (I : Inv X pins σ H s) (hg : Gl X x) (hm : X.mg x = some u) (h : Q u s)
    (hd : (x == ("__debug__" : Str)) = false := by decide) : wpAny (model X.prog X.w) X.A (eval (.Name x pos) X.env) Q E s :=
  Calls.Name_function_global I.ok.kind hg (Calls.loadGlobal_global (by rw [I.ok.glob]; exact I.mod.glob.keeps I.bk) hm h) hd
theorem ld_blt {E : Value → Shared → Prop} {pins : List (Addr × Obj)} {s : Shared} {σ : St} {H : Hp} {x : Str} {u : Value} {pos : Pos} {Q : Value → Shared → Prop} (I : Inv X pins σ H s) (hg : Gl X x) (hm : X.mg x = none) (hv : bootBuiltins x = some u) (h : Q u s)
    (hn : x ≠ "__name__" := by decide) (hd : (x == ("__debug__" : Str)) = false := by decide) : wpAny (model X.prog X.w) X.A (eval (.Name x pos) X.env) Q E s := by
  obtain ⟨mb, h1, h2⟩ := I.mod.blt
  exact Calls.Name_function_global I.ok.kind hg (Calls.loadGlobal_builtin (by rw [I.ok.glob]; exact I.mod.glob.keeps I.bk) hm (by rw [I.ok.blt]; exact h1.keeps I.bk) ((h2 x hn).trans hv) h) hd
theorem pe_bltn {x : Str} {v : V} {u : Value} {pos : Pos} (hg : Gl X x) (hm : X.mg x = none) (hv : bootBuiltins x = some u) (r : RelV v u) (hn : x ≠ "__name__" := by decide) (hd : (x == ("__debug__" : Str)) = false := by decide) : PE X (.Name x pos) (tC v) :=
  fun _ _ _ H _ I h => ld_blt I hg hm hv ⟨v, H, I, r, h⟩ hn hd
variable {a b : Expr} {ta tb : TE} {pos : Pos}
def tB (t : TE) : TT := fun σ H Q => t σ H fun x H1 => ∃ c, x = .bl c ∧ Q c H1
variable {tA tB' : TT} {rest : List Expr}
def tAnd (t u : TT) : TT := fun σ H Q => t σ H fun c H1 => if c = true then u σ H1 Q else Q false H1
def tNot (t : TT) : TT := fun σ H Q => t σ H fun c H1 => Q (!c) H1
theorem pw_and1 (ha : PT X a tA) : PW X (.BoolOp .And [a] pos) tA := by
  intro wh pins s σ H Q I h
  refine isTrue_and (thn (ha pins s σ H Q I h) fun c s1 e => ?_)
  cases c with
  | true => exact isTrue_and_nil e
  | false => exact e
theorem pw_and (ha : PT X a tA) (hb : PW X (.BoolOp .And (b :: rest) pos) tB') : PW X (.BoolOp .And (a :: b :: rest) pos) (tAnd tA tB') := by
  intro wh pins s σ H Q I h
  refine isTrue_and (thn (ha pins s σ H _ I h) fun c s1 ⟨H1, I1, q1⟩ => ?_)
  cases c with
  | true => exact hb wh pins s1 σ H1 Q I1 q1
  | false => exact ⟨H1, I1, q1⟩
theorem pt_not (ha : PT X a tA) : PT X (.UnaryOp .Not a pos) (tNot tA) := by
  intro pins s σ H Q I h
  exact isTrue_not (ha pins s σ H (fun c H1 => Q (!c) H1) I h)
def tAndV (ta tb : TE) : TE := fun σ H Q => ta σ H fun x H1 => ∃ c, x = .bl c ∧ if c = true then tb σ H1 Q else Q (.bl false) H1
def tNotV (ta : TE) : TE := fun σ H Q => ta σ H fun x H1 => ∃ c, x = .bl c ∧ Q (.bl (!c)) H1
theorem pe_one {op} {t : TE} (h : PE X a t) : PE X (.BoolOp op [a] pos) t := fun pins s σ H Q I hw => BoolOp_one (h pins s σ H Q I hw)
theorem pe_and (ha : PE X a ta) (hb : PE X (.BoolOp .And (b :: rest) pos) tb) : PE X (.BoolOp .And (a :: b :: rest) pos) (tAndV ta tb) := by
  intro pins s σ H Q I h
  refine BoolOp_and (thn (ha pins s σ H _ I h) fun v s1 ⟨x, H1, I1, r1, q1⟩ => ?_)
  obtain ⟨c, rfl, q1⟩ := q1
  cases r1
  refine wpAny_truthy_bool ?_
  cases c with
  | true => exact hb pins s1 σ H1 Q I1 q1
  | false => exact ⟨.bl false, H1, I1, rfl, q1⟩
theorem pe_not (ha : PE X a ta) : PE X (.UnaryOp .Not a pos) (tNotV ta) := by
  intro pins s σ H Q I h
  refine UnaryOp_ (thn (ha pins s σ H _ I h) fun v s1 ⟨x, H1, I1, r1, q1⟩ => ?_)
  obtain ⟨c, rfl, q1⟩ := q1
  cases r1
  exact not_of (wpAny_truthy_bool ⟨.bl (!c), H1, I1, rfl, q1⟩)
end
end L2
namespace L2
open PySem PySem.Spec PyProof.Rows
def SqL (K : PySem.W.Frag) (H : Hp) (a : Addr) (xs : List V) : Prop :=
  Rd H a (.lst xs) ∨
    ∃ (o : Obj) (its : Array Value) (n : Nat), K.lookup a = some o ∧ o.cls = .type "list" ∧ o.dict = none ∧ o.data = .seq its n ∧ its.size ≤ sizeLine ∧ Vals xs its.toList
def SqT (K : PySem.W.Frag) (H : Hp) (a : Addr) (xs : List V) : Prop :=
  Rd H a (.tup xs) ∨
    ∃ (o : Obj) (its : Array Value) (n : Nat), K.lookup a = some o ∧ o.cls = .type "tuple" ∧ o.data = .seq its n ∧ its.size ≤ sizeLine ∧ Vals xs its.toList
def absV : Value → Option V
  | .none => some .non
  | .bool b => some (.bl b)
  | .int i _ => some (.int i)
  | .str x _ => some (.str x)
  | .bytes b _ => some (.byt b)
  | .float b _ => some (.flt b)
  | .ref a => some (.ref a)
  | .type n => some (.ty n)
  | _ => none
theorem RelV.abs {x : V} {u : Value} (r : RelV x u) : absV u = some x := by
  cases x with
  | non => cases r; rfl
  | bl _ => cases r; rfl
  | int _ => obtain ⟨t, rfl⟩ := r; rfl
  | str _ => obtain ⟨t, rfl⟩ := r; rfl
  | byt _ => obtain ⟨t, rfl⟩ := r; rfl
  | flt _ => obtain ⟨t, rfl⟩ := r; rfl
  | ref _ => cases r; rfl
  | ty _ => cases r; rfl
theorem RelV.inj {x y : V} {u : Value} (r : RelV x u) (q : RelV y u) : x = y := Option.some.inj (r.abs.symm.trans q.abs)
theorem Vals.inj : ∀ {xs ys : List V} {us : List Value}, Vals xs us → Vals ys us → xs = ys
  | _, _, _, .nil, .nil => rfl
  | _, _, _, .cons r t, .cons r' t' => by rw [r.inj r', Vals.inj t t']
section
variable {X : Cx} {pins : List (Addr × Obj)} {σ : St} {H : Hp} {s : Shared} {a : Addr} {xs ys : List V}
theorem SqL.of {K : PySem.W.Frag} (h : H a = some (.lst xs)) : SqL K H a xs := .inl (.inl h)
theorem SqT.of {K : PySem.W.Frag} (h : H a = some (.tup xs)) : SqT K H a xs := .inl (.inl h)
theorem Inv.list (I : Inv X pins σ H s) (h : SqL X.K H a xs) : ∃ its : List Value, Vals xs its ∧ PlainL s.heap a its.toArray ∧ xs.length ≤ sizeLine := by
  rcases h with h | ⟨o, its, n, hk, hc, hd, hs, hz, r⟩
  · obtain ⟨z, its, n, r, e⟩ := h.ok I.hok
    exact ⟨its, r, ⟨_, n, e, rfl, rfl, rfl⟩, z⟩
  · refine ⟨its.toList, r, ⟨o, n, I.kIn a o hk, hc, hd, by simpa using hs⟩, ?_⟩
    have e := r.length
    simp only [Array.length_toList] at e
    omega
theorem Inv.tuple (I : Inv X pins σ H s) (h : SqT X.K H a xs) : ∃ its : List Value, Vals xs its ∧ IsTup s.heap a its.toArray ∧ xs.length ≤ sizeLine := by
  rcases h with h | ⟨o, its, n, hk, hc, hs, hz, r⟩
  · obtain ⟨z, its, r, p⟩ := h.ok I.hok
    exact ⟨its, r, p, z⟩
  · refine ⟨its.toList, r, ⟨o, I.kIn a o hk, hc, n, by simpa using hs⟩, ?_⟩
    have e := r.length
    simp only [Array.length_toList] at e
    omega
theorem Inv.list_inj (I : Inv X pins σ H s) (h : SqL X.K H a xs) (h' : SqL X.K H a ys) : xs = ys := by
  obtain ⟨its, r, ⟨o, n, e, _, _, d⟩, _⟩ := I.list h
  obtain ⟨its', r', ⟨o', n', e', _, _, d'⟩, _⟩ := I.list h'
  rw [e] at e'; cases e'
  rw [d] at d'
  injection d' with d1 _
  have : its = its' := by simpa using congrArg Array.toList d1
  subst this
  exact r.inj r'
theorem Inv.tuple_inj (I : Inv X pins σ H s) (h : SqT X.K H a xs) (h' : SqT X.K H a ys) : xs = ys := by
  obtain ⟨its, r, ⟨o, e, _, n, d⟩, _⟩ := I.tuple h
  obtain ⟨its', r', ⟨o', e', _, n', d'⟩, _⟩ := I.tuple h'
  rw [e] at e'; cases e'
  rw [d] at d'
  injection d' with d1 _
  have : its = its' := by simpa using congrArg Array.toList d1
  subst this
  exact r.inj r'
end
abbrev Cx.wish (X : Cx) (E : Value → Shared → Prop) : Cx := { X with xe := E }
abbrev Cx.nox (X : Cx) : Cx := X.wish fun _ _ => False
theorem Cx.Ok.wish {X : Cx} (ok : X.Ok) (E : Value → Shared → Prop) : (X.wish E).Ok :=
  ⟨ok.mod, ok.kind, ok.glob, ok.blt, ok.above, ok.inj, ok.has, ok.cab, ok.hd, ok.frames, ok.stk, ok.exf, ok.bs, ok.bsz, ok.noex, ok.exfs, ok.funs, ok.frf⟩
theorem Cx.Ok.unwish {X : Cx} {E : Value → Shared → Prop} (ok : (X.wish E).Ok) : X.Ok :=
  ⟨ok.mod, ok.kind, ok.glob, ok.blt, ok.above, ok.inj, ok.has, ok.cab, ok.hd, ok.frames, ok.stk, ok.exf, ok.bs, ok.bsz, ok.noex, ok.exfs, ok.funs, ok.frf⟩
section
variable {X : Cx} {pins : List (Addr × Obj)} {σ : St} {H : Hp} {s : Shared} {E : Value → Shared → Prop}
theorem Inv.wish (I : Inv X pins σ H s) (E : Value → Shared → Prop) : Inv (X.wish E) pins σ H s := ⟨I.ok.wish E, I.os, I.bare, I.base, I.loc, I.cell, I.free, I.freeC, I.pin, I.hok, I.len⟩
theorem Inv.unwish (I : Inv (X.wish E) pins σ H s) : Inv X pins σ H s := ⟨I.ok.unwish, I.os, I.bare, I.base, I.loc, I.cell, I.free, I.freeC, I.pin, I.hok, I.len⟩
theorem SP.unwish {D : Ends} {f : Flow} {s' : Shared} (h : SP (X.wish E) pins D f s') : SP X pins D f s' := by
  cases f with
  | next => obtain ⟨σ', H', I, q⟩ := h; exact ⟨σ', H', I.unwish, q⟩
  | brk => obtain ⟨σ', H', I, q⟩ := h; exact ⟨σ', H', I.unwish, q⟩
  | cont => obtain ⟨σ', H', I, q⟩ := h; exact ⟨σ', H', I.unwish, q⟩
  | ret u => obtain ⟨v, σ', H', I, r, q⟩ := h; exact ⟨v, σ', H', I.unwish, r, q⟩
theorem PE.nox {e : Expr} {t : TE} (h : PE X.nox e t) : PE X e t := fun pins s σ H Q I hw =>
  wpAny_mono (h pins s σ H Q (I.wish _) hw) (fun _ _ ⟨v, H', I', r, q⟩ => ⟨v, H', I'.unwish, r, q⟩) fun _ _ z => False.elim z
theorem PT.nox {e : Expr} {t : TT} (h : PT X.nox e t) : PT X e t := fun pins s σ H Q I hw =>
  wpAny_mono (h pins s σ H Q (I.wish _) hw) (fun _ _ ⟨H', I', q⟩ => ⟨H', I'.unwish, q⟩) fun _ _ z => False.elim z
theorem PSs.nox {st : List Stmt} {t : TS} (h : PSs X.nox st t) : PSs X st t := fun pins s σ H D I hw =>
  wpAny_mono (h pins s σ H D (I.wish _) hw) (fun _ _ q => q.unwish) fun _ _ z => False.elim z
end
section
variable {X : Cx} {st : Stmt} {rest : List Stmt} {t u : TS} {e : Expr} {te : TE} {pos : Pos}
def tNext : TS := fun D σ H => D.nx σ H
def tSeq (t u : TS) : TS := fun D σ H => t { D with nx := u D } σ H
theorem pss_nil : PSs X [] tNext := fun _ _ σ H _ I h => wpAny_execs_nil ⟨σ, H, I, h⟩
theorem pss_cons (h1 : PS X st t) (h2 : PSs X rest u) : PSs X (st :: rest) (tSeq t u) := by
  intro pins s σ H D I h
  refine wpAny_execs_cons (thn (h1 pins s σ H { D with nx := u D } I h) fun f s1 q => ?_)
  cases f with
  | next =>
    obtain ⟨σ', H', I', q⟩ := q
    exact h2 pins s1 σ' H' D I' q
  | ret v => exact q
  | brk => exact q
  | cont => exact q
theorem pss_one (h1 : PS X st t) : PSs X [st] t := by
  intro pins s σ H D I h
  refine wpAny_execs_cons (thn (h1 pins s σ H D I h) fun f s1 q => ?_)
  cases f with
  | next => exact wpAny_execs_nil q
  | ret v => exact q
  | brk => exact q
  | cont => exact q
theorem Inv.quiet {pins : List (Addr × Obj)} {σ : St} {H : Hp} {s : Shared} (I : Inv X pins σ H s) : interactive X.env = false := by simp [interactive, I.ok.kind]
def tDrop (te : TE) : TS := fun D σ H => te σ H fun _ H1 => D.nx σ H1
theorem ps_expr (he : PE X e te) (hs : swapsWith e none pos.line X.env = pure false := by rfl) : PS X (.Expr e pos) (tDrop te) := by
  intro pins s σ H D I h
  exact wpAny_Expr_any (thn (he pins s σ H _ I h) fun v s1 ⟨x, H1, I1, r1, q1⟩ => ⟨σ, H1, I1, q1⟩) I.quiet hs
def tRet (te : TE) : TS := fun D σ H => te σ H D.rt
theorem ps_ret (he : PE X e te) : PS X (.Return (some e) pos) (tRet te) := by
  intro pins s σ H D I h
  exact wpAny_Return_some (thn (he pins s σ H _ I h) fun v s1 ⟨x, H1, I1, r1, q1⟩ => ⟨x, σ, H1, I1, r1, q1⟩)
def tIfS (c : TT) (t u : TS) : TS := fun D σ H => c σ H fun b H1 => if b = true then t D σ H1 else u D σ H1
theorem ps_if {c : Expr} {a b : List Stmt} {tc : TT} (hc : PT X c tc) (ha : PSs X a t) (hb : PSs X b u) : PS X (.If c a b pos) (tIfS tc t u) := by
  intro pins s σ H D I h
  refine wpAny_If (thn (hc pins s σ H _ I h) fun d s1 ⟨H1, I1, q1⟩ => ?_)
  cases d with
  | true => exact ha pins s1 σ H1 D I1 q1
  | false => exact hb pins s1 σ H1 D I1 q1
end
abbrev TG := V → St → Hp → (St → Hp → Prop) → Prop
abbrev TGs := List V → St → Hp → (St → Hp → Prop) → Prop
def PG (X : Cx) (target : Expr) (t : TG) : Prop :=
  ∀ (pins : List (Addr × Obj)) (s : Shared) (σ : St) (H : Hp) (v : V) (u : Value) (Q : St → Hp → Prop), Inv X pins σ H s → RelV v u → t v σ H Q →
    wpAny (model X.prog X.w) X.A (assign target X.env u) (fun _ s' => ∃ σ' H', Inv X pins σ' H' s' ∧ Q σ' H') X.xe s
def PGs (X : Cx) (ts : List Expr) (t : TGs) : Prop :=
  ∀ (pins : List (Addr × Obj)) (s : Shared) (σ : St) (H : Hp) (vs : List V) (us : List Value) (Q : St → Hp → Prop), Inv X pins σ H s → Vals vs us → t vs σ H Q →
    wpAny (model X.prog X.w) X.A (assignInOrder ((assignEach ts X.env).map (·.2)) us) (fun _ s' => ∃ σ' H', Inv X pins σ' H' s' ∧ Q σ' H') X.xe s
abbrev TSet := V → V → V → Hp → (Hp → Prop) → Prop
def PSet (X : Cx) (t : TSet) : Prop :=
  ∀ (pins : List (Addr × Obj)) (s : Shared) (σ : St) (H : Hp) (o i v : V) (ov iv u : Value) (Q : Hp → Prop), Inv X pins σ H s → RelV o ov → RelV i iv → RelV v u → t o i v H Q →
    wpAny (model X.prog X.w) X.A (setItem ov iv u) (fun _ s' => ∃ H', Inv X pins σ H' s' ∧ Q H') X.xe s
section
variable {X : Cx} {pos : Pos}
def gName (i : Nat) : TG := fun v σ H Q => Q (σ.set i (some v)) H
theorem pg_name {i : Nat} {x : Str} (hN : X.N.Nodup) (hi : X.N[i]? = some x) (hx : Loc X.env.scope x) (hf : X.fn x = true ∨ X.env.scope.names.lookup x = some .local := by first | exact .inl rfl | exact .inr rfl | assumption) : PG X (.Name x pos) (gName i) := by
  intro pins s σ H v u Q I r h
  exact wpAny_assign_Name (store_ok I hN hi hx r (fun s' I' => ⟨_, H, I', h⟩) hf)
def gNil : TGs := fun vs σ H Q => vs = [] ∧ Q σ H
def gCons (t : TG) (u : TGs) : TGs := fun vs σ H Q => ∃ v r, vs = v :: r ∧ t v σ H fun σ' H' => u r σ' H' Q
theorem pgs_nil : PGs X [] gNil := by
  intro pins s σ H vs us Q I r h
  obtain ⟨e, h⟩ := h
  subst e
  cases r
  exact assignInOrder_nil ⟨σ, H, I, h⟩
theorem pgs_cons {e : Expr} {es : List Expr} {t : TG} {u : TGs} (h1 : PG X e t) (h2 : PGs X es u)
    (hs : (assignEach (e :: es) X.env).map (·.2) = assign e X.env :: (assignEach es X.env).map (·.2) := by rfl) : PGs X (e :: es) (gCons t u) := by
  intro pins s σ H vs us Q I r h
  obtain ⟨v, vr, e1, h⟩ := h
  subst e1
  cases r with
  | cons r rr =>
    rw [hs]
    refine assignInOrder_cons (thn (h1 pins s σ H _ _ _ I r h) fun _ s1 ⟨σ1, H1, I1, q1⟩ => ?_)
    exact h2 pins s1 σ1 H1 _ _ Q I1 rr q1
def gTup (K : PySem.W.Frag) (n : Nat) (t : TGs) : TG := fun v σ H Q => ∃ a xs, v = .ref a ∧ SqT K H a xs ∧ xs.length = n ∧ t xs σ H Q
theorem pg_tup {es : List Expr} {k : Nat} {t : TGs} {n : Nat} (hc : X.calm = true) (h : PGs X es t)
    (hn : (assignEach es X.env).length = n := by rfl) (hst : (assignEach es X.env).findIdx? (·.1) = none := by rfl) : PG X (.Tuple es k pos) (gTup X.K n t) := by
  intro pins s σ H v u Q I r hw
  obtain ⟨a, xs, e1, hq, hl, hw⟩ := hw
  subst e1
  cases r
  obtain ⟨its, rv, ht, hz⟩ := I.tuple hq
  refine assign_Tuple_tuple (I.ok.hd hc) ht (by simp [hn, ← hl, rv.length]) hst fun h' hx => ?_
  have I1 : Inv X pins σ H { s with heap := h' } := I.kept (t' := s.toks) fun b o e => hx b o (Nat.ne_of_lt (Heap.lt_size e)) e
  exact h pins _ σ H xs _ Q I1 (by simpa using rv) hw
def gSub (to ti : TE) (t : TSet) : TG := fun v σ H Q => to σ H fun o H1 => ti σ H1 fun i H2 => t o i v H2 fun H3 => Q σ H3
theorem pg_sub {o i : Expr} {to ti : TE} {t : TSet} (ho : PE X o to) (hi : PE X i ti) (hs : PSet X t)
    (ha : ∀ v, assign (.Subscript o i pos) X.env v = (do
      let ov ← holding [v] (eval o X.env)
      let iv ← holding [v, ov] (eval i X.env)
      standAt pos
      holding [v, ov, iv] (setItem ov iv v)
      release [v, ov, iv] []) := by intro _; rfl) : PG X (.Subscript o i pos) (gSub to ti t) := by
  intro pins s σ H v u Q I r h
  rw [ha]
  refine wpAny_bind (wpAny_holding (thn (ho pins s σ H _ I h) fun ov s1 ⟨x, H1, I1, r1, q1⟩ => ?_))
  refine wpAny_bind (wpAny_holding (thn (hi pins s1 σ H1 _ I1 q1) fun iv s2 ⟨y, H2, I2, r2, q2⟩ => ?_))
  refine wpAny_bind (wpAny_standAt (wpAny_bind (wpAny_holding (thn (hs pins s2 σ H2 x y v ov iv u _ I2 r1 r2 r q2) fun _ s3 ⟨H3, I3, q3⟩ => ?_))))
  exact wpAny_release ⟨σ, H3, I3, q3⟩
def tAsg (te : TE) (g : TG) : TS := fun D σ H => te σ H fun x H1 => g x σ H1 D.nx
theorem ps_asg {tg e : Expr} {te : TE} {g : TG} (he : PE X e te) (hg : PG X tg g) (hs : swapsWithSole [tg] e pos.line X.env = pure false := by rfl) (hw : swappedStores [tg] e X.env = pure none := by rfl)
    (h1 : (assignEach [tg] X.env).map (·.2) = [assign tg X.env] := by rfl) : PS X (.Assign [tg] e pos) (tAsg te g) := by
  intro pins s σ H D I h
  refine wpAny_Assign_stores (thn (he pins s σ H _ I h) fun v s1 ⟨x, H1, I1, r1, q1⟩ => ?_) hs hw
  rw [h1]
  exact thn (hg pins s1 σ H1 x v _ I1 r1 q1) fun _ s2 q => q
theorem ps_set {i : Nat} {x : Str} {e : Expr} {te : TE} {pos' : Pos} (hN : X.N.Nodup) (hi : X.N[i]? = some x) (hx : Loc X.env.scope x) (he : PE X e te) (hs : swapsWith e (some (.Name x pos')) pos.line X.env = pure false := by rfl) (hf : X.fn x = true ∨ X.env.scope.names.lookup x = some .local := by first | exact .inl rfl | exact .inr rfl | assumption) :
    PS X (.Assign [.Name x pos'] e pos) (tAsg te (gName i)) := by
  intro pins s σ H D I h
  refine wpAny_Assign_Name (thn (he pins s σ H _ I h) fun v s1 ⟨y, H1, I1, r1, q1⟩ => ?_) hs
  exact store_ok I1 hN hi hx r1 (fun s2 I2 => ⟨_, H1, I2, q1⟩) hf
end
section
variable {X : Cx} {pos : Pos}
def tWhile (c : TT) (tb : TS) : TS := fun D σ H => ∃ W : Nat → St → Hp → Prop, (∃ m, W m σ H) ∧ ∀ m σ H, W m σ H →
  c σ H fun b H1 => if b = true then ∃ N : St → Hp → Prop, (∀ σ' H', N σ' H' → ∃ m', m' < m ∧ W m' σ' H') ∧ tb { D with nx := N, ct := N, bk := D.nx } σ H1 else D.nx σ H1
theorem ps_while {c : Expr} {body : List Stmt} {tc : TT} {tb : TS} (hp : PassesOwn (model X.prog X.w) X.A X.env X.xe) (hc : PT X c tc) (hb : PSs X body tb) : PS X (.While c body [] pos) (tWhile tc tb) := by
  intro pins s σ H D I h
  obtain ⟨W, ⟨m0, w0⟩, turn⟩ := h
  refine wpAny_While (codeAny_whileLoop (fun n s' => ∃ σ' H', Inv X pins σ' H' s' ∧ W n σ' H') ?_ m0 ⟨σ, H, I, w0⟩)
  rintro n s1 ⟨σ1, H1, I1, w1⟩
  refine wpAny_passesOwn hp (thn (hc pins s1 σ1 H1 _ I1 (turn n σ1 H1 w1)) fun b s2 ⟨H2, I2, q2⟩ => ?_)
  cases b with
  | true =>
    obtain ⟨N, hN, q2⟩ := q2
    rw [if_pos rfl]
    refine wpAny_passesOwn hp (thn (hb pins s2 σ1 H2 _ I2 q2) fun f s3 q3 => ?_)
    cases f with
    | next =>
      obtain ⟨σ3, H3, I3, n3⟩ := q3
      obtain ⟨m', hm, w3⟩ := hN σ3 H3 n3
      exact ⟨m', hm, σ3, H3, I3, w3⟩
    | cont =>
      obtain ⟨σ3, H3, I3, n3⟩ := q3
      obtain ⟨m', hm, w3⟩ := hN σ3 H3 n3
      exact ⟨m', hm, σ3, H3, I3, w3⟩
    | brk => exact q3
    | ret v => exact q3
  | false =>
    rw [if_neg Bool.false_ne_true]
    exact wpAny_execs_nil ⟨σ1, H2, I2, q2⟩
end
structure It where
  go : Nat → Hp → Prop
  yld : Nat → Hp → V → Hp → Prop
  stop : Nat → Hp → Prop
def FpOk (X : Cx) (pins : List (Addr × Obj)) (H : Hp) (b : Addr) : Prop :=
  H b = none ∧ b ≠ X.env.locals ∧ b ∉ X.fs ∧ (b ∈ X.ex ∨ X.s₀.heap.objs.size ≤ b) ∧ (∀ x c, X.env.cells.lookup x = some c → c ≠ b) ∧ ∀ p ∈ X.pn ++ pins, p.1 ≠ b
theorem Inv.fpOk {X : Cx} {pins : List (Addr × Obj)} {σ : St} {H H' : Hp} {s : Shared} {b : Addr} (I : Inv X pins σ H s) (hb : s.heap.objs.size ≤ b) (hn : H' b = none) : FpOk X pins H' b := by
  refine ⟨hn, Nat.ne_of_gt (Nat.lt_of_lt_of_le I.lt hb), I.nofs hb, .inr (Nat.le_trans I.sz hb), fun x c e z => ?_, fun p hp z => ?_⟩
  · obtain ⟨v, q⟩ := I.cell x c e
    exact absurd (Nat.lt_of_lt_of_le q.lt (by rw [z]; exact hb)) (Nat.lt_irrefl _)
  · exact absurd (Nat.lt_of_lt_of_le (Heap.lt_size (I.pin p hp).1) (by rw [z]; exact hb)) (Nat.lt_irrefl _)
structure Turn (P : Program) (w : World) (K : PySem.W.Frag) (tg : Expr) (J : It) (fp : List Addr) (it : Addr) (tn : Nat → Heap → Prop) : Prop where
  mem : it ∈ fp
  obj : ∀ i h, tn i h → ∀ b ∈ fp, ∃ o, h.get? b = some o ∧ ∀ v, o.data ≠ .cell v
  keep : ∀ i h h', tn i h → (∀ b ∈ fp, ∀ o, h.get? b = some o → h'.get? b = some o) → tn i h'
  item : ∀ (X : Cx), X.prog = P → X.w = w → X.K = K → X.calm = true → ∀ (i : Nat) (pins : List (Addr × Obj)) (s : Shared) (σ : St) (H : Hp) (E : Value → Shared → Prop), Inv X pins σ H s → (∀ b ∈ fp, FpOk X pins H b) → tn i s.heap → J.go i H →
    wpAny (model P w) X.A (pyNext (.ref it)) (fun r s1 => ∃ u, r = some u ∧
      wpAny (model P w) X.A (letOwnedTupleGo tg (.ref it) u) (fun _ s2 => ∃ x H', Inv X pins σ H' s2 ∧ RelV x u ∧ J.yld i H x H' ∧ tn (i + 1) s2.heap ∧ ∀ b ∈ fp, H' b = none) E s1) E s
  done : ∀ (X : Cx), X.prog = P → X.w = w → X.K = K → X.calm = true → ∀ (i : Nat) (pins : List (Addr × Obj)) (s : Shared) (σ : St) (H : Hp) (E : Value → Shared → Prop), Inv X pins σ H s → (∀ b ∈ fp, FpOk X pins H b) → tn i s.heap → J.stop i H →
    wpAny (model P w) X.A (pyNext (.ref it)) (fun r s1 => r = none ∧ Inv X pins σ H s1) E s
  self : ∀ (A : Around) (i : Nat) (s : Shared) (Q : Value → Shared → Prop) (E : Value → Shared → Prop), tn i s.heap → Q (.ref it) s → wpAny (model P w) A (pyIter (.ref it)) Q E s
abbrev TI := St → Hp → (It → Hp → Prop) → Prop
def PIE (X : Cx) (pins : List (Addr × Obj)) (σ : St) (tg : Expr) (R : It → Hp → Prop) (itv : Value) (s2 : Shared) : Prop :=
  ∃ (it : Addr) (fp : List Addr) (tn : Nat → Heap → Prop) (J : It) (H' : Hp), itv = .ref it ∧ Inv X pins σ H' s2 ∧ Turn X.prog X.w X.K tg J fp it tn ∧ tn 0 s2.heap ∧ (∀ b ∈ fp, FpOk X pins H' b) ∧ R J H'
def PI (X : Cx) (tg iter : Expr) (wi : TI) : Prop :=
  ∀ (pins : List (Addr × Obj)) (s : Shared) (σ : St) (H : Hp) (R : It → Hp → Prop), Inv X pins σ H s → wi σ H R →
    wpAny (model X.prog X.w) X.A (eval iter X.env) (fun v s1 => wpAny (model X.prog X.w) X.A (pyIter v) (PIE X pins σ tg R) X.xe s1) X.xe s
theorem go_of {M : Model} {A : Around} {E : Value → Shared → Prop} {s : Shared} {tg : Expr} {it : Addr} {u : Value} {o : Obj} {n : String} {vs : Array Value} {Q : Unit → Shared → Prop} (ho : s.heap.get? it = some o) (hc : o.cls = .type n) (hd : o.data = .fields vs)
    (hn : ["enumerate", "zip", "dict_itemiterator", "dict_reverseitemiterator", "odict_iterator", "itertools.zip_longest", "itertools.pairwise"].contains n = false) (hQ : Q () s) : wpAny M A (letOwnedTupleGo tg (.ref it) u) Q E s := by
  unfold letOwnedTupleGo
  cases tg <;> first
    | exact wpAny_pure hQ
    | (cases u <;> first
        | exact wpAny_pure hQ
        | (refine wpAny_bind (wpAny_load ho ?_)
           rw [hc, hd]
           show wpAny M A (if (["enumerate", "zip", "dict_itemiterator", "dict_reverseitemiterator", "odict_iterator", "itertools.zip_longest", "itertools.pairwise"].contains n && vs[0]? == some (rawInt _)) = true then _ else _) Q E s
           rw [if_neg (by intro h; rw [hn, Bool.false_and] at h; cases h)]
           exact wpAny_pure hQ))
def Itl (K : PySem.W.Frag) (a : Addr) : It :=
  ⟨fun i H => ∃ xs x, SqL K H a xs ∧ xs[i]? = some x, fun i H x H' => H' = H ∧ ∀ xs, SqL K H a xs → xs[i]? = some x, fun i H => ∃ xs, SqL K H a xs ∧ xs.length ≤ i⟩
def Itr (lo : Int) (n : Nat) : It := ⟨fun i _ => i < n, fun i H x H' => H' = H ∧ x = .int (lo + i), fun i _ => n ≤ i⟩
theorem turn_list {P : Program} {w : World} {K : PySem.W.Frag} {tg : Expr} (a it : Addr) : Turn P w K tg (Itl K a) [it] it (fun i h => h.IsListIter it a i) where
  mem := by simp
  obj := fun i h st b hb => by
    have e : b = it := by simpa using hb
    subst e
    obtain ⟨o, e, c, d⟩ := st
    exact ⟨o, e, fun v z => by rw [d] at z; cases z⟩
  keep := fun i h h' st k => st.at fun o e => k it (by simp) o e
  item := by
    intro X hP hw hK hc i pins s σ H E I hf st hg
    subst hP hw hK
    obtain ⟨xs, x, hq, hx⟩ := hg
    obtain ⟨its, rv, p, hz⟩ := I.list hq
    obtain ⟨u, hu, ru⟩ := rv.get hx
    obtain ⟨f0, f1, f2, f3, f4, f5⟩ := hf it (by simp)
    refine wpAny_pyNext_list_item st p.isList (x := u) (by simpa using hu) fun h' st' sb => ?_
    have I1 : Inv X pins σ H { s with heap := h' } := I.turned (t' := s.toks) (fun b o hb e => (sb.2 b hb).trans e) f0 f1 f3 f4 f5
    obtain ⟨o, e, c, d⟩ := id st'
    exact ⟨u, rfl, go_of (s := { s with heap := h' }) e c d (by decide) ⟨x, H, I1, ru, ⟨rfl, fun ys hy => by rw [I.list_inj hy hq]; exact hx⟩, st', fun b hb => (hf b hb).1⟩⟩
  done := by
    intro X hP hw hK hc i pins s σ H E I hf st hg
    subst hP hw hK
    obtain ⟨xs, hq, hx⟩ := hg
    obtain ⟨its, rv, p, hz⟩ := I.list hq
    obtain ⟨f0, f1, f2, f3, f4, f5⟩ := hf it (by simp)
    have hl := rv.length
    exact wpAny_pyNext_list_end (I.ok.hd hc) st p.isList (by simp; omega) fun h' eb => ⟨rfl, I.turned (t' := s.toks) (fun b o hb e => eb b o hb e) f0 f1 f3 f4 f5⟩
  self := fun _ _ _ _ _ st h => wpAny_pyIter_listiter st h
theorem turn_range {P : Program} {w : World} {K : PySem.W.Frag} {tg : Expr} (it : Addr) (lo : Int) (n : Nat) : Turn P w K tg (Itr lo n) [it] it (fun i h => IsRangeIter h it (lo + (i : Nat) * 1) ((n : Int) - (i : Nat)) 1) where
  mem := by simp
  obj := fun i h st b hb => by
    have e : b = it := by simpa using hb
    subst e
    exact ⟨_, st, fun v z => by
      have z' : Data.fields _ = Data.cell v := z
      cases z'⟩
  keep := fun i h h' st k => k it (by simp) _ st
  item := by
    intro X hP hw hK hc i pins s σ H E I hf st hg
    subst hP hw hK
    obtain ⟨f0, f1, f2, f3, f4, f5⟩ := hf it (by simp)
    have W := Walks.range (prog := X.prog) (w := X.w) (I.ok.hd hc) it lo 1 n
    refine W.item i s _ _ hg st fun v h' tk hv st' kk => ?_
    obtain ⟨t, rfl⟩ := hv
    have I1 : Inv X pins σ H { s with heap := h', toks := tk } := I.turned (fun b o hb e => kk b o (by simpa using hb) e) f0 f1 f3 f4 f5
    refine ⟨_, rfl, go_of (s := { s with heap := h', toks := tk }) (n := "range_iterator") st' rfl rfl (by decide) ⟨.int (lo + i), H, I1, ⟨t, ?_⟩, ⟨rfl, rfl⟩, st', fun b hb => (hf b hb).1⟩⟩
    rw [Int.mul_one]
  done := by
    intro X hP hw hK hc i pins s σ H E I hf st hg
    subst hP hw hK
    obtain ⟨f0, f1, f2, f3, f4, f5⟩ := hf it (by simp)
    exact wpAny_pyNext_range_end (I.ok.hd hc) st (by have : n ≤ i := hg; omega) fun h' eb => ⟨rfl, I.turned (t' := s.toks) (fun b o hb e => eb b o hb e) f0 f1 f3 f4 f5⟩
  self := fun _ _ _ _ _ st h => wpAny_pyIter_rangeiter st h
end L2
namespace L2
open PySem PySem.Spec PyProof.Rows
section
variable {X : Cx} {tg : Expr}
def iList (K : PySem.W.Frag) (tl : TE) : TI := fun σ H R => tl σ H fun x H1 => ∃ a, x = .ref a ∧ (∃ xs, SqL K H1 a xs) ∧ R (Itl K a) H1
theorem pi_list {l : Expr} {tl : TE} (hl : PE X l tl) : PI X tg l (iList X.K tl) := by
  intro pins s σ H R I h
  refine thn (hl pins s σ H _ I h) fun v s1 ⟨x, H1, I1, r1, q1⟩ => ?_
  obtain ⟨a, e, ⟨xs, hq⟩, q⟩ := q1
  subst e
  cases r1
  obtain ⟨its, rv, p, hz⟩ := I1.list hq
  refine wpAny_pyIter_list p.isList ?_
  refine ⟨s1.heap.objs.size, [s1.heap.objs.size], _, _, H1, rfl, I1.kept (t' := s1.toks) fun b o e => Heap.get?_push_of_some _ e, turn_list a _, ⟨_, Heap.get?_push_size _ rfl, rfl, rfl⟩, fun b hb => ?_, q⟩
  have e : b = s1.heap.objs.size := by simpa using hb
  subst e
  exact I1.fpOk (Nat.le_refl _) (I1.hok.fresh (Nat.le_refl _))
theorem range_it {pins : List (Addr × Obj)} {σ : St} {H : Hp} {s : Shared} {R : It → Hp → Prop} {E : Value → Shared → Prop} {lo hi : Int} {t u v : Tok} {tk : Nat} (I : Inv X pins σ H s) (h1 : -(2 ^ 62) ≤ lo) (h2 : lo < 2 ^ 62) (h3 : -(2 ^ 62) ≤ hi) (h4 : hi < 2 ^ 62)
    (q : R (Itr lo (hi - lo).toNat) H) : wpAny (model X.prog X.w) X.A (pyIter (.ref s.heap.objs.size)) (PIE X pins σ tg R) E { s with heap := s.heap.push { cls := .type "range", data := .fields #[.int lo t, .int hi u, .int 1 v] }, toks := tk } := by
  refine wpAny_pyIter_range (IsRange.new ..) (small_one h1 h2 h3 h4) ?_
  have I1 : Inv X pins σ H { s with heap := s.heap.push { cls := .type "range", data := .fields #[.int lo t, .int hi u, .int 1 v] }, toks := tk } := I.kept fun b o e => Heap.get?_push_of_some _ e
  refine ⟨(s.heap.push { cls := .type "range", data := .fields #[.int lo t, .int hi u, .int 1 v] }).objs.size, [(s.heap.push { cls := .type "range", data := .fields #[.int lo t, .int hi u, .int 1 v] }).objs.size], _, _, H, rfl,
    I1.kept (t' := tk) fun b o e => Heap.get?_push_of_some _ e, turn_range _ lo (hi - lo).toNat, ?_, fun b hb => ?_, q⟩
  · have e1 : lo + ((0 : Nat) : Int) * 1 = lo := by simp
    have e2 : (((hi - lo).toNat : Nat) : Int) - ((0 : Nat) : Int) = Builtin.Range.rangeSize lo hi 1 := by rw [rangeSize_one]; split <;> omega
    show IsRangeIter _ _ (lo + ((0 : Nat) : Int) * 1) ((((hi - lo).toNat : Nat) : Int) - ((0 : Nat) : Int)) 1
    rw [e1, e2]
    exact Heap.get?_push_size _ rfl
  · have e : b = (s.heap.push { cls := .type "range", data := .fields #[.int lo t, .int hi u, .int 1 v] }).objs.size := by simpa using hb
    subst e
    exact I1.fpOk (Nat.le_refl _) (I1.hok.fresh (Nat.le_refl _))
def iRng1 (ta : TA) : TI := fun σ H R => ta σ H fun vs H1 => ∃ j : Int, vs = [.int j] ∧ -(2 ^ 62) ≤ j ∧ j < 2 ^ 62 ∧ R (Itr 0 j.toNat) H1
theorem pi_range1 {a : Expr} {ta : TA} {p pos : Pos} (hg : Gl X "range") (hm : X.mg "range" = none) (ha : PA X [a] ta) (hs : starEach [a] X.env = [(false, eval a X.env)] := by rfl) : PI X tg (.Call (.Name "range" p) [a] [] pos) (iRng1 ta) := by
  intro pins s σ H R I h
  refine Call_ (ld_blt I hg hm boot_range (PyProof.Rows.callWith_type1 (thn (ha pos pins s σ H _ I h) fun us s1 ⟨vs, H1, I1, r1, q1⟩ => ?_) hs rfl))
  obtain ⟨j, e, q1, q2, q⟩ := q1
  subst e
  cases r1 with
  | cons r rr =>
    cases rr
    obtain ⟨t, rfl⟩ := r
    exact call_range_1 (range_it I1 (by omega) (by omega) q1 q2 (by simpa using q))
def tFor (wi : TI) (g : TG) (tb : TS) : TS := fun D σ H => wi σ H fun J H1 => ∃ W : Nat → Nat → St → Hp → Prop, (∃ m, W 0 m σ H1) ∧ ∀ i m σ H, W i m σ H →
  (J.stop i H ∧ D.nx σ H) ∨ (J.go i H ∧ ∃ N : St → Hp → Prop, (∀ σ' H', N σ' H' → ∃ m', m' < m ∧ W (i + 1) m' σ' H') ∧ ∀ x H', J.yld i H x H' → g x σ H' fun σ2 H2 => tb { D with nx := N, ct := N, bk := D.nx } σ2 H2)
def pinsAt (fp : List Addr) (h : Heap) : List (Addr × Obj) := fp.filterMap fun b => (h.get? b).map fun o => (b, o)
theorem mem_pinsAt {fp : List Addr} {h : Heap} {b : Addr} {o : Obj} (hb : b ∈ fp) (e : h.get? b = some o) : (b, o) ∈ pinsAt fp h := List.mem_filterMap.mpr ⟨b, hb, by rw [e]; rfl⟩
theorem of_pinsAt {fp : List Addr} {h : Heap} {p : Addr × Obj} (hp : p ∈ pinsAt fp h) : p.1 ∈ fp ∧ h.get? p.1 = some p.2 := by
  obtain ⟨b, hb, e⟩ := List.mem_filterMap.mp hp
  cases q : h.get? b with
  | none => rw [q] at e; cases e
  | some o =>
    rw [q] at e
    have e' : (b, o) = p := Option.some.inj e
    subst e'
    exact ⟨hb, q⟩
theorem Inv.pinned {pins : List (Addr × Obj)} {σ : St} {H : Hp} {s : Shared} {fp : List Addr} (I : Inv X pins σ H s) (hf : ∀ b ∈ fp, FpOk X pins H b) (ho : ∀ b ∈ fp, ∃ o, s.heap.get? b = some o ∧ ∀ v, o.data ≠ .cell v) : Inv X (pins ++ pinsAt fp s.heap) σ H s :=
  I.pins_of fun p hp => (List.mem_append.mp hp).elim (fun z => I.pin p (List.mem_append_right _ z)) fun z => by
    obtain ⟨hb, e⟩ := of_pinsAt z
    obtain ⟨f0, f1, f2, _⟩ := hf p.1 hb
    obtain ⟨o, e', d⟩ := ho p.1 hb
    rw [e] at e'; cases e'
    exact ⟨e, f0, f1, f2, d⟩
theorem Inv.unpinned {pins pl : List (Addr × Obj)} {σ : St} {H : Hp} {s : Shared} (I : Inv X (pins ++ pl) σ H s) : Inv X pins σ H s := I.pins_of fun p hp => I.pin p (List.mem_append_right _ (List.mem_append_left _ hp))
theorem ps_for {iter : Expr} {body : List Stmt} {wi : TI} {g : TG} {tb : TS} {pos : Pos} (hp : PassesOwn (model X.prog X.w) X.A X.env X.xe) (hc : X.calm = true) (hi : PI X tg iter wi) (hg : PG X tg g) (hb : PSs X body tb)
    (hs : ∀ x, foldedSetIterable iter X.env x = pure x := by intro _; rfl) : PS X (.For tg iter body [] pos) (tFor wi g tb) := by
  intro pins s σ H D I h
  refine wpAny_For (thn (hi pins s σ H _ I h) fun v s1 h1 => thn h1 fun itv s2 h2 => ?_) hs
  obtain ⟨it, fp, tn, J, H2, e, I2, T, st2, f2, W, ⟨m0, w0⟩, turn⟩ := h2
  subst e
  have stat : ∀ {H' : Hp}, (∀ b ∈ fp, H' b = none) → ∀ b ∈ fp, FpOk X pins H' b := fun hn b hb => ⟨hn b hb, (f2 b hb).2⟩
  refine codeAny_forLoop_any (fun n s' => ∃ i σ' H', Inv X pins σ' H' s' ∧ tn i s'.heap ∧ (∀ b ∈ fp, H' b = none) ∧ W i n σ' H') ?_ m0 ⟨0, σ, H2, I2, st2, fun b hb => (f2 b hb).1, w0⟩
  rintro n s3 ⟨i, σ3, H3, I3, st3, fr3, w3⟩
  rcases turn i n σ3 H3 w3 with ⟨stop, qn⟩ | ⟨go, N, hN, step⟩
  · refine wpAny_passesOwn hp (thn (T.done X rfl rfl rfl hc i pins s3 σ3 H3 X.xe I3 (stat fr3) st3 stop) fun r s4 ⟨hr, I4⟩ => ?_)
    subst hr
    exact wpAny_execs_nil ⟨σ3, H3, I4, qn⟩
  · refine wpAny_passesOwn hp (thn (T.item X rfl rfl rfl hc i pins s3 σ3 H3 X.xe I3 (stat fr3) st3 go) fun r s4 ⟨u, hr, h4⟩ => ?_)
    subst hr
    refine wpAny_passesOwn hp (thn h4 fun _ s5 ⟨x, H5, I5, r5, y5, st5, fr5⟩ => ?_)
    have I5' := I5.pinned (stat fr5) (T.obj _ _ st5)
    refine wpAny_passesOwn hp (thn (hg _ s5 σ3 H5 x u _ I5' r5 (step x H5 y5)) fun _ s6 ⟨σ6, H6, I6, q6⟩ => ?_)
    refine wpAny_passesOwn hp (thn (hb _ s6 σ6 H6 _ I6 q6) fun f s7 q7 => ?_)
    have again : ∀ {σ7 : St} {H7 : Hp}, Inv X (pins ++ pinsAt fp s5.heap) σ7 H7 s7 → N σ7 H7 → ∃ m, m < n ∧ ∃ i σ' H', Inv X pins σ' H' s7 ∧ tn i s7.heap ∧ (∀ b ∈ fp, H' b = none) ∧ W i m σ' H' := fun {σ7 H7} I7 n7 => by
      obtain ⟨m', hm, w7⟩ := hN σ7 H7 n7
      refine ⟨m', hm, i + 1, σ7, H7, I7.unpinned, T.keep _ _ _ st5 fun b hb o e => (I7.pin (b, o) (List.mem_append_right _ (List.mem_append_right _ (mem_pinsAt hb e)))).1, fun b hb => ?_, w7⟩
      obtain ⟨o, e, d⟩ := T.obj _ _ st5 b hb
      exact (I7.pin (b, o) (List.mem_append_right _ (List.mem_append_right _ (mem_pinsAt hb e)))).2.1
    cases f with
    | next => obtain ⟨σ7, H7, I7, n7⟩ := q7; exact again I7 n7
    | cont => obtain ⟨σ7, H7, I7, n7⟩ := q7; exact again I7 n7
    | brk => obtain ⟨σ7, H7, I7, q7⟩ := q7; exact ⟨σ7, H7, I7.unpinned, q7⟩
    | ret v => obtain ⟨x7, σ7, H7, I7, r7, q7⟩ := q7; exact ⟨x7, σ7, H7, I7.unpinned, r7, q7⟩
end
theorem for_list {K : PySem.W.Frag} {a : Addr} {xs : List V} {g : TG} {tb : TS} {D : Ends} {σ : St} {H : Hp} (Pv : Nat → St → Hp → Prop) (h0 : Pv 0 σ H) (hl : ∀ i σ H, i ≤ xs.length → Pv i σ H → SqL K H a xs)
    (hs : ∀ i x σ H, xs[i]? = some x → Pv i σ H → g x σ H fun σ2 H2 => tb { D with nx := Pv (i + 1), ct := Pv (i + 1), bk := D.nx } σ2 H2) (hd : ∀ σ H, Pv xs.length σ H → D.nx σ H) :
    ∃ W : Nat → Nat → St → Hp → Prop, (∃ m, W 0 m σ H) ∧ ∀ i m σ H, W i m σ H →
      ((Itl K a).stop i H ∧ D.nx σ H) ∨ ((Itl K a).go i H ∧ ∃ N : St → Hp → Prop, (∀ σ' H', N σ' H' → ∃ m', m' < m ∧ W (i + 1) m' σ' H') ∧ ∀ x H', (Itl K a).yld i H x H' → g x σ H' fun σ2 H2 => tb { D with nx := N, ct := N, bk := D.nx } σ2 H2) := by
  refine ⟨fun i m σ H => m = xs.length - i ∧ i ≤ xs.length ∧ Pv i σ H, ⟨xs.length, by simp, Nat.zero_le _, h0⟩, ?_⟩
  rintro i m σ H ⟨rfl, hi, p⟩
  have q := hl i σ H hi p
  by_cases hlt : i < xs.length
  · refine .inr ⟨⟨xs, xs[i], q, by simp [hlt]⟩, Pv (i + 1), fun σ' H' p' => ⟨xs.length - (i + 1), by omega, rfl, hlt, p'⟩, fun x H' y => ?_⟩
    obtain ⟨e, y⟩ := y
    subst e
    exact hs i x σ _ (y xs q) p
  · have e : i = xs.length := by omega
    subst e
    exact .inl ⟨⟨xs, q, Nat.le_refl _⟩, hd σ H p⟩
theorem for_range {lo : Int} {n : Nat} {g : TG} {tb : TS} {D : Ends} {σ : St} {H : Hp} (Pv : Nat → St → Hp → Prop) (h0 : Pv 0 σ H)
    (hs : ∀ i σ H, i < n → Pv i σ H → g (.int (lo + i)) σ H fun σ2 H2 => tb { D with nx := Pv (i + 1), ct := Pv (i + 1), bk := D.nx } σ2 H2) (hd : ∀ σ H, Pv n σ H → D.nx σ H) :
    ∃ W : Nat → Nat → St → Hp → Prop, (∃ m, W 0 m σ H) ∧ ∀ i m σ H, W i m σ H →
      ((Itr lo n).stop i H ∧ D.nx σ H) ∨ ((Itr lo n).go i H ∧ ∃ N : St → Hp → Prop, (∀ σ' H', N σ' H' → ∃ m', m' < m ∧ W (i + 1) m' σ' H') ∧ ∀ x H', (Itr lo n).yld i H x H' → g x σ H' fun σ2 H2 => tb { D with nx := N, ct := N, bk := D.nx } σ2 H2) := by
  refine ⟨fun i m σ H => m = n - i ∧ i ≤ n ∧ Pv i σ H, ⟨n, by simp, Nat.zero_le _, h0⟩, ?_⟩
  rintro i m σ H ⟨rfl, hi, p⟩
  by_cases hlt : i < n
  · refine .inr ⟨hlt, Pv (i + 1), fun σ' H' p' => ⟨n - (i + 1), by omega, rfl, hlt, p'⟩, fun x H' y => ?_⟩
    obtain ⟨e, y⟩ := y
    subst e y
    exact hs i σ _ hlt p
  · have e : i = n := by omega
    subst e
    exact .inl ⟨Nat.le_refl _, hd σ H p⟩
end L2
namespace L2
open PySem PySem.Spec PyProof.Rows
abbrev R2 := V → V → Hp → VK → Prop
def OpR (X : Cx) (f : Value → Value → Sem Value) (r : R2) : Prop :=
  ∀ (pins : List (Addr × Obj)) (s : Shared) (σ : St) (H : Hp) (x y : V) (v u : Value) (Q : VK), Inv X pins σ H s → RelV x v → RelV y u → r x y H Q →
    wpAny (model X.prog X.w) X.A (f v u) (EP X pins σ Q) X.xe s
def UnR (X : Cx) (f : Value → Sem Value) (r : V → Hp → VK → Prop) : Prop :=
  ∀ (pins : List (Addr × Obj)) (s : Shared) (σ : St) (H : Hp) (x : V) (v : Value) (Q : VK), Inv X pins σ H s → RelV x v → r x H Q →
    wpAny (model X.prog X.w) X.A (f v) (EP X pins σ Q) X.xe s
def CallR (X : Cx) (f : Value) (r : List V → Hp → VK → Prop) : Prop :=
  ∀ (pins : List (Addr × Obj)) (s : Shared) (σ : St) (H : Hp) (xs : List V) (us : List Value) (Q : VK), Inv X pins σ H s → Vals xs us → r xs H Q →
    wpAny (model X.prog X.w) X.A (call f us) (EP X pins σ Q) X.xe s
def TruR (X : Cx) (r : V → Hp → (Bool → Hp → Prop) → Prop) : Prop :=
  ∀ (pins : List (Addr × Obj)) (s : Shared) (σ : St) (H : Hp) (x : V) (v : Value) (Q : Bool → Hp → Prop), Inv X pins σ H s → RelV x v → r x H Q →
    wpAny (model X.prog X.w) X.A (truthy v) (TP X pins σ Q) X.xe s
def tOp (r : R2) (ta tb : TE) : TE := fun σ H Q => ta σ H fun x H1 => tb σ H1 fun y H2 => r x y H2 Q
def tUn (r : V → Hp → VK → Prop) (ta : TE) : TE := fun σ H Q => ta σ H fun x H1 => r x H1 Q
def rI (C : Int → Int → Prop) (g : Int → Int → V) : R2 := fun x y H Q => ∃ i j, x = .int i ∧ y = .int j ∧ C i j ∧ Q (g i j) H
def rI0 (g : Int → Int → V) : R2 := fun x y H Q => ∃ i j, x = .int i ∧ y = .int j ∧ Q (g i j) H
def rU (g : Int → V) : V → Hp → VK → Prop := fun x H Q => ∃ i, x = .int i ∧ Q (g i) H
section
variable {X : Cx} {a b c : Expr} {ta tb tc : TE} {pos : Pos}
theorem binT (ha : PE X a ta) (hb : PE X b tb) {pins : List (Addr × Obj)} {s : Shared} {σ : St} {H : Hp} {R : V → V → Hp → Prop} (I : Inv X pins σ H s)
    (h : ta σ H fun x H1 => tb σ H1 fun y H2 => R x y H2) {Q : Value → Shared → Prop} {f : Value → Value → Sem Value}
    (hf : ∀ v u s2 x y H2, Inv X pins σ H2 s2 → RelV x v → RelV y u → R x y H2 → wpAny (model X.prog X.w) X.A (f v u) Q X.xe s2) :
    wpAny (model X.prog X.w) X.A (eval a X.env) (fun v s₁ => wpAny (model X.prog X.w) X.A (eval b X.env) (fun u s₂ => wpAny (model X.prog X.w) X.A (f v u) Q X.xe s₂) X.xe s₁) X.xe s := by
  refine thn (ha pins s σ H _ I h) fun v s1 ⟨x, H1, I1, r1, q1⟩ => ?_
  refine thn (hb pins s1 σ H1 _ I1 q1) fun u s2 ⟨y, H2, I2, r2, q2⟩ => ?_
  exact hf v u s2 x y H2 I2 r1 r2 q2
theorem pe_op {op : Operator} {r : R2} (ho : OpR X (binaryOp op) r) (ha : PE X a ta) (hb : PE X b tb) : PE X (.BinOp a op b pos) (tOp r ta tb) := by
  intro pins s σ H Q I h
  exact wpAny_BinOp (binT ha hb I h fun v u s2 x y H2 I2 rx ry q => ho pins s2 σ H2 x y v u Q I2 rx ry q)
theorem pe_un {op : UnaryOp} {r : V → Hp → VK → Prop} (ho : UnR X (unaryOp op) r) (ha : PE X a ta) : PE X (.UnaryOp op a pos) (tUn r ta) := by
  intro pins s σ H Q I h
  exact UnaryOp_ (thn (ha pins s σ H _ I h) fun v s1 ⟨x, H1, I1, r1, q1⟩ => ho pins s1 σ H1 x v Q I1 r1 q1)
theorem opI {f : Value → Value → Sem Value} {C : Int → Int → Prop} {g : Int → Int → Int}
    (rule : ∀ (i j : Int) (t u : Tok) (s : Shared) (Q : Value → Shared → Prop) (E : Value → Shared → Prop), C i j → Q (.int (g i j) s.toks) { s with toks := s.toks + 1 } → wpAny (model X.prog X.w) X.A (f (.int i t) (.int j u)) Q E s) :
    OpR X f (rI C fun i j => .int (g i j)) := by
  intro pins s σ H x y v u Q I rx ry h
  obtain ⟨i, j, rfl, rfl, hc, q⟩ := h
  obtain ⟨t, rfl⟩ := rx
  obtain ⟨t', rfl⟩ := ry
  exact rule i j t t' s _ _ hc ⟨.int (g i j), H, I.tok _, ⟨_, rfl⟩, q⟩
theorem opI0 {f : Value → Value → Sem Value} {g : Int → Int → Int}
    (rule : ∀ (i j : Int) (t u : Tok) (s : Shared) (Q : Value → Shared → Prop) (E : Value → Shared → Prop), Q (.int (g i j) s.toks) { s with toks := s.toks + 1 } → wpAny (model X.prog X.w) X.A (f (.int i t) (.int j u)) Q E s) :
    OpR X f (rI0 fun i j => .int (g i j)) := by
  intro pins s σ H x y v u Q I rx ry h
  obtain ⟨i, j, rfl, rfl, q⟩ := h
  obtain ⟨t, rfl⟩ := rx
  obtain ⟨t', rfl⟩ := ry
  exact rule i j t t' s _ _ ⟨.int (g i j), H, I.tok _, ⟨_, rfl⟩, q⟩
theorem opB0 {f : Value → Value → Sem Value} {g : Int → Int → Bool}
    (rule : ∀ (i j : Int) (t u : Tok) (s : Shared) (Q : Value → Shared → Prop) (E : Value → Shared → Prop), Q (.bool (g i j)) s → wpAny (model X.prog X.w) X.A (f (.int i t) (.int j u)) Q E s) :
    OpR X f (rI0 fun i j => .bl (g i j)) := by
  intro pins s σ H x y v u Q I rx ry h
  obtain ⟨i, j, rfl, rfl, q⟩ := h
  obtain ⟨t, rfl⟩ := rx
  obtain ⟨t', rfl⟩ := ry
  exact rule i j t t' s _ _ ⟨.bl (g i j), H, I, rfl, q⟩
def CDiv (i j : Int) : Prop := 0 < j ∧ j < 1073741824
def CMul (i j : Int) : Prop := (-(2 ^ 64) < i ∧ i < 2 ^ 64) ∨ (-(2 ^ 64) < j ∧ j < 2 ^ 64)
theorem CMul.ok {i j : Int} (h : CMul i j) : IntMulOk i j := by
  rcases h with ⟨h1, h2⟩ | ⟨h1, h2⟩
  · exact .of_left (intBits_le_64 h1 h2)
  · exact .of_right (intBits_le_64 h1 h2)
theorem op_add : OpR X (binaryOp .Add) (rI0 fun i j => .int (i + j)) := opI0 fun _ _ _ _ _ _ _ q => add_int q
theorem op_sub : OpR X (binaryOp .Sub) (rI0 fun i j => .int (i - j)) := opI0 fun _ _ _ _ _ _ _ q => sub_int q
theorem op_mul : OpR X (binaryOp .Mult) (rI CMul fun i j => .int (i * j)) := opI fun _ _ _ _ _ _ _ hc q => mul_int q hc.ok
theorem op_fdiv : OpR X (binaryOp .FloorDiv) (rI CDiv fun i j => .int (i / j)) := opI fun i j _ _ _ _ _ hc q => by
  have h1 : (0 : Int) < j := hc.1
  have h2 : j < 1073741824 := hc.2
  exact floordiv_int (by omega) (by rw [Int.fdiv_eq_ediv_of_nonneg i (by omega)]; exact q) (.inl (PyProof.noPylong_small (by omega)))
theorem op_mod : OpR X (binaryOp .Mod) (rI (fun _ j => 0 < j) fun i j => .int (i % j)) := opI fun i j _ _ _ _ _ hc q => by
  have h1 : (0 : Int) < j := hc
  exact mod_int' (by omega) (by rw [Int.fmod_eq_emod_of_nonneg i (by omega)]; exact q)
theorem unI {f : Value → Sem Value} {g : Int → Int}
    (rule : ∀ (i : Int) (t : Tok) (s : Shared) (Q : Value → Shared → Prop) (E : Value → Shared → Prop), Q (.int (g i) s.toks) { s with toks := s.toks + 1 } → wpAny (model X.prog X.w) X.A (f (.int i t)) Q E s) :
    UnR X f (rU fun i => .int (g i)) := by
  intro pins s σ H x v Q I rx h
  obtain ⟨i, rfl, q⟩ := h
  obtain ⟨t, rfl⟩ := rx
  exact rule i t s _ _ ⟨.int (g i), H, I.tok _, ⟨_, rfl⟩, q⟩
theorem un_neg : UnR X (unaryOp .USub) (rU fun i => .int (-i)) := unI fun _ _ _ _ _ q => neg_int q
end
theorem dec_int {i j : Int} : decide (V.int i = V.int j) = (i == j) := by
  rw [Bool.eq_iff_iff]
  simp
section
variable {X : Cx} {a b c : Expr} {ta tb tc : TE} {pos : Pos}
theorem fin_bl {pins : List (Addr × Obj)} {σ : St} {H : Hp} {s : Shared} {Q : VK} {k k' : Bool} (I : Inv X pins σ H s) (q : Q (.bl k) H) (e : k = k') : EP X pins σ Q (.bool k') s := by
  subst e
  exact ⟨.bl k, H, I, rfl, q⟩
theorem op_lt : OpR X (compareOp .Lt) (rI0 fun i j => .bl (decide (i < j))) := opB0 fun _ _ _ _ _ _ _ q => lt_int q
theorem op_gt : OpR X (compareOp .Gt) (rI0 fun i j => .bl (decide (j < i))) := opB0 fun _ _ _ _ _ _ _ q => gt_int q
theorem op_in_str : OpR X (compareOp .In) (fun x y H Q => ∃ i j, x = .str i ∧ y = .str j ∧ Q (.bl (!(Builtin.Str.occurrences j i 0 j.length 1).isEmpty)) H) := by
  intro pins s σ H x y v u Q I rx ry h
  obtain ⟨i, j, rfl, rfl, q⟩ := h
  obtain ⟨t, rfl⟩ := rx
  obtain ⟨t', rfl⟩ := ry
  exact in_str (fin_bl I q rfl)
theorem op_isN : OpR X (compareOp .Is) (fun x y H Q => y = .non ∧ Q (.bl (decide (x = .non))) H) := by
  intro pins s σ H x y v u Q I rx ry h
  obtain ⟨rfl, q⟩ := h
  cases ry
  refine is_none_gen (fin_bl I q ?_)
  cases x <;> first
    | (cases rx; rfl)
    | (obtain ⟨t, rfl⟩ := rx; rfl)
theorem op_notin_str : OpR X (compareOp .NotIn) (fun x y H Q => ∃ i j, x = .str i ∧ y = .str j ∧ Q (.bl (!(!(Builtin.Str.occurrences j i 0 j.length 1).isEmpty))) H) := by
  intro pins s σ H x y v u Q I rx ry h
  obtain ⟨i, j, rfl, rfl, q⟩ := h
  obtain ⟨t, rfl⟩ := rx
  obtain ⟨t', rfl⟩ := ry
  exact notIn_str (fin_bl I q rfl)
theorem OpR.or {f : Value → Value → Sem Value} {r r' : R2} (h : OpR X f r) (h' : OpR X f r') : OpR X f (fun x y H Q => r x y H Q ∨ r' x y H Q) := by
  intro pins s σ H x y v u Q I rx ry q
  rcases q with q | q
  · exact h pins s σ H x y v u Q I rx ry q
  · exact h' pins s σ H x y v u Q I rx ry q
theorem nomark (b : Expr) {op : CmpOp} (h : op ≠ .In := by decide) (h2 : op ≠ .NotIn := by decide) : behindInMarks op b = false := by
  have e1 : (op == CmpOp.In) = false := by cases op <;> first | rfl | exact absurd rfl h
  have e2 : (op == CmpOp.NotIn) = false := by cases op <;> first | rfl | exact absurd rfl h2
  cases b <;> simp [behindInMarks, e1, e2]
theorem pe_cmpR {op : CmpOp} {r : R2} (ho : OpR X (compareOp op) r) (ha : PE X a ta) (hb : PE X b tb) (hm : behindInMarks op b = false) : PE X (.Compare a [op] [b] pos) (tOp r ta tb) := by
  intro pins s σ H Q I h
  exact wpAny_Compare1 (binT ha hb I h fun v u s2 x y H2 I2 rx ry q => ho pins s2 σ H2 x y v u Q I2 rx ry q) hm
def tTest (t : TE) : TT := fun σ H Q => t σ H fun x H' => ∃ k, x = .bl k ∧ Q k H'
theorem pt_cmpR {op : CmpOp} {r : R2} (ho : OpR X (compareOp op) r) (ha : PE X a ta) (hb : PE X b tb) (hm : behindInMarks op b = false) : PT X (.Compare a [op] [b] pos) (tTest (tOp r ta tb)) := by
  intro pins s σ H Q I h
  refine wpAny_isTrue_Compare1 (thn (ha pins s σ H _ I h) fun v s1 ⟨x, H1, I1, r1, q1⟩ => thn (hb pins s1 σ H1 _ I1 q1) fun u s2 ⟨y, H2, I2, r2, q2⟩ =>
    thn (ho pins s2 σ H2 x y v u _ I2 r1 r2 q2) fun c s3 ⟨z, H3, I3, r3, k, e, q3⟩ => ?_) hm
  subst e
  cases r3
  exact wpAny_truthy_bool ⟨H3, I3, q3⟩
def TruV (K : PySem.W.Frag) (x : V) (H : Hp) (k : Bool) : Prop :=
  match x with
  | .non => k = false
  | .bl b => k = b
  | .int i => k = (i != 0)
  | .str y => y.length ≤ sizeLine ∧ k = ((y.length : Int) != 0)
  | .byt y => y.size ≤ sizeLine ∧ k = ((y.size : Int) != 0)
  | .ref p => (∃ xs, SqL K H p xs ∧ k = !xs.isEmpty) ∨ (∃ xs, SqT K H p xs ∧ k = !xs.isEmpty) ∨ ∃ kvs, H p = some (.dK kvs) ∧ k = !kvs.isEmpty
  | _ => False
theorem isEmpty_kv {κ : Type} {kvs : List (κ × V)} {vs : List (κ × Value)} (r : KV kvs vs) : (!vs.isEmpty) = !kvs.isEmpty := by
  cases r <;> rfl
theorem isEmpty_of {xs : List V} {its : List Value} (r : Vals xs its) : (!its.toArray.isEmpty) = !xs.isEmpty := by
  cases r <;> simp
theorem line63 : (sizeLine : Nat) < 2 ^ 63 := by rw [sizeLine_eq]; decide
theorem tru_ok : TruR X (fun x H Q => ∃ k, TruV X.K x H k ∧ Q k H) := by
  intro pins s σ H x v Q I rx h
  obtain ⟨k, e, q⟩ := h
  have hl := line63
  have hs : sizeLine = 16777216 := sizeLine_eq
  cases x with
  | non =>
    cases rx
    have e' : k = false := e
    subst e'
    exact truthy_none ⟨H, I, q⟩
  | bl b =>
    cases rx
    have e' : k = b := e
    subst e'
    exact wpAny_truthy_bool ⟨H, I, q⟩
  | int i =>
    obtain ⟨t, rfl⟩ := rx
    have e' : k = (i != 0) := e
    subst e'
    exact PySem.P.truthy_int ⟨H, I, q⟩
  | str y =>
    obtain ⟨t, rfl⟩ := rx
    obtain ⟨hy, e'⟩ : y.length ≤ sizeLine ∧ k = ((y.length : Int) != 0) := e
    subst e'
    exact PySem.P.truthy_str (by omega) ⟨H, I.tok _, q⟩
  | byt y =>
    obtain ⟨t, rfl⟩ := rx
    obtain ⟨hy, e'⟩ : y.size ≤ sizeLine ∧ k = ((y.size : Int) != 0) := e
    subst e'
    exact PySem.W.truthy_bytes (by omega) ⟨H, I.tok _, q⟩
  | ref p =>
    cases rx
    have e' : (∃ xs, SqL X.K H p xs ∧ k = !xs.isEmpty) ∨ (∃ xs, SqT X.K H p xs ∧ k = !xs.isEmpty) ∨ ∃ kvs, H p = some (.dK kvs) ∧ k = !kvs.isEmpty := e
    rcases e' with ⟨xs, hx, e'⟩ | ⟨xs, hx, e'⟩ | ⟨kvs, hx, e'⟩
    · subst e'
      obtain ⟨its, r, pl, hz⟩ := I.list hx
      have hlen := r.length
      exact wpAny_truthy_list pl.isList (by simp only [List.size_toArray]; omega) ⟨H, I.tok _, by rw [isEmpty_of r]; exact q⟩
    · subst e'
      obtain ⟨its, r, pl, hz⟩ := I.tuple hx
      have hlen := r.length
      exact truthy_tuple pl (by simp only [List.size_toArray]; omega) ⟨H, I.tok _, by rw [isEmpty_of r]; exact q⟩
    · subst e'
      obtain ⟨hz, hS, vs, r, m⟩ : kvs.length ≤ sizeLine ∧ (p == sysModules) = false ∧ ∃ vs, KV kvs vs ∧ s.heap.DictOf (mixKind X.prog X.w) p vs := I.hok p _ hx
      have hlen : kvs.length = vs.length := Paired.length r
      exact wpAny_truthy_dict hS m (by omega) ⟨H, I.tok _, by rw [isEmpty_kv r]; exact q⟩
  | _ => exact (show False from e).elim
theorem pt_truth (ha : PE X a ta) (he : ∀ whole, isTrue a X.env whole = (do let v ← whole; standAt a.pos; holding [v] (truthy v))) :
    PT X a (fun σ H Q => ta σ H fun x H' => ∃ k, TruV X.K x H' k ∧ Q k H') := by
  intro pins s σ H Q I h
  exact isTrue_plain (thn (ha pins s σ H _ I h) fun v s1 ⟨x, H1, I1, r1, q1⟩ => tru_ok pins s1 σ H1 x v Q I1 r1 q1) (he _)
theorem op_add_str : OpR X (binaryOp .Add) (fun x y H Q => ∃ i j, x = .str i ∧ y = .str j ∧ i.length + j.length ≤ sizeLine ∧ Q (.str (i ++ j)) H) := by
  intro pins s σ H x y v u Q I rx ry h
  obtain ⟨i, j, rfl, rfl, hz, q⟩ := h
  obtain ⟨t, rfl⟩ := rx
  obtain ⟨t', rfl⟩ := ry
  exact add_str (fun t' tk => ⟨.str (i ++ j), H, I.tok _, ⟨_, rfl⟩, q⟩) hz
theorem vals1 {x : V} {us : List Value} (r : Vals [x] us) : ∃ u, us = [u] ∧ RelV x u := by
  cases r with
  | cons r1 r2 => cases r2; exact ⟨_, rfl, r1⟩
theorem vals2 {x y : V} {us : List Value} (r : Vals [x, y] us) : ∃ u w', us = [u, w'] ∧ RelV x u ∧ RelV y w' := by
  cases r with
  | cons r1 r2 =>
    cases r2 with
    | cons r3 r4 => cases r4; exact ⟨_, _, rfl, r1, r3⟩
theorem call_int1 : CallR X (.type "int") (fun xs H Q => (∃ i, xs = [.int i] ∧ Q (.int i) H) ∨ ∃ k, xs = [.bl k] ∧ Q (.int (if k then 1 else 0)) H) := by
  intro pins s σ H xs us Q I r h
  rcases h with ⟨i, rfl, q⟩ | ⟨k, rfl, q⟩
  · obtain ⟨u, rfl, t, rfl⟩ := vals1 r
    exact call_int_int ⟨.int i, H, I, ⟨_, rfl⟩, q⟩
  · obtain ⟨u, rfl, r1⟩ := vals1 r
    cases r1
    exact call_int_bool ⟨.int (if k then 1 else 0), H, I.tok _, ⟨_, rfl⟩, q⟩
end
end L2
namespace L2
open PySem PySem.Spec PyProof.Rows
structure ObjM (h : Heap) (x dx C : Addr) (mA : Str → Option Value) : Prop where
  obj : h.get? x = some (PySem.W.instObj C dx)
  ns : h.Ns1 dx mA
  ne : dx ≠ x
section
variable {prog : Program} {w : World} {A : Around} {E : Value → Shared → Prop} {s : Shared} {K : PySem.W.Frag} {x dx C f : Addr} {mA : Str → Option Value} {name : Str} {v : Value}
end
theorem RelO.some_of {v : V} {o : Option Value} (r : RelO (some v) o) : ∃ u, o = some u ∧ RelV v u := by
  cases o with
  | none => exact (show False from r).elim
  | some u => exact ⟨u, rfl, r⟩
section
variable {P : Program} {w : World} {H H' : Hp} {h h' : Heap} {a C dx : Addr} {fs fs' : List (Str × V)}
end
structure Cls (K : PySem.W.Frag) (C : Addr) : Prop where
  pg : PySem.W.plainGet K C Str.empty = true
  hd : PySem.W.hasDictIn K C = true
  po : PySem.W.plainOver K C = true
  sa : PySem.W.findIn K (.ref C) "__setattr__" = some (some (.builtin "object.__setattr__"))
theorem Cls.get {K : PySem.W.Frag} {C : Addr} (c : Cls K C) (f : Str) : PySem.W.plainGet K C f = true := c.pg
structure Con (K : PySem.W.Frag) (C : Addr) (f : Str) (v : V) (u : Value) : Prop where
  at_ : PySem.W.findIn K (.ref C) f = some (some u)
  rel : RelV v u
  get : PySem.W.specialIn K u "__get__" = some none
  cp : PySem.W.copiedNames.contains f = false
structure Meth (K : PySem.W.Frag) (C : Addr) (m : Str) (f : Addr) : Prop where
  at_ : PySem.W.findIn K (.ref C) m = some (some (.ref f))
  fn : PySem.W.isFn K (.ref f) = true
  kp : PySem.W.keepIn K (.ref f) = true
section
variable {X : Cx} {pins : List (Addr × Obj)} {σ : St} {H : Hp} {s : Shared} {a C dx : Addr} {fs : List (Str × V)} {f : Str} {v : V} {A : Around} {E : Value → Shared → Prop}
theorem Inv.made (I : Inv X pins σ H s) : Inv X pins σ (upd (upd H s.heap.objs.size (.own (s.heap.objs.size + 1))) (s.heap.objs.size + 1) (.ins C s.heap.objs.size []))
    { s with heap := (s.heap.push PySem.W.emptyDict).push (PySem.W.instObj C s.heap.objs.size) } := by
  have e1 : (s.heap.push PySem.W.emptyDict).get? s.heap.objs.size = some PySem.W.emptyDict := Heap.get?_push_size s.heap rfl
  have e2 : ((s.heap.push PySem.W.emptyDict).push (PySem.W.instObj C s.heap.objs.size)).get? (s.heap.objs.size + 1) = some (PySem.W.instObj C s.heap.objs.size) := by
    have := Heap.get?_push_size (s.heap.push PySem.W.emptyDict) (o := PySem.W.instObj C s.heap.objs.size) rfl
    rwa [Heap.size_push] at this
  have e3 : (s.heap.push PySem.W.emptyDict).Ns s.heap.objs.size (fun _ => none) := ⟨PySem.W.emptyDict, #[], _, e1, rfl, (fun e he => absurd he (by simp)), fun _ => rfl⟩
  have I1 := I.laid (a := s.heap.objs.size) (o := .own (s.heap.objs.size + 1)) (h' := s.heap.push PySem.W.emptyDict) (t' := s.toks) (fun b u q => Heap.get?_push_of_some _ q) (Nat.le_refl _) ⟨_, e1⟩
  refine I1.laid (a := s.heap.objs.size + 1) (o := .ins C s.heap.objs.size []) (t' := s.toks) (fun b u q => Heap.get?_push_of_some _ q) (Nat.le_of_eq (Heap.size_push _ _)) ?_
  have ne : s.heap.objs.size ≠ s.heap.objs.size + 1 := Nat.ne_of_lt (Nat.lt_succ_self _)
  refine ⟨by rw [upd_ne ne, upd_same], Nat.zero_le _, ne, e2, fun _ => none, (Heap.Ns1.of_empty e3).at fun o q => Heap.get?_push_of_some _ q, fun _ => True.intro, fun y hy => absurd rfl hy⟩
end
section
variable {X : Cx} {o e value : Expr} {f : Str} {pos pos' tpos : Pos} {ta tv : TE}
end
section
variable {X : Cx} {pins : List (Addr × Obj)} {σ : St} {H : Hp} {s : Shared} {A : Around} {E : Value → Shared → Prop} {Q : Value → Shared → Prop} {c : Value} {b : Bool}
inductive TyOf (K : PySem.W.Frag) (H : Hp) : V → Value → Prop where
  | non : TyOf K H .non (.type "NoneType")
  | bl (x : Bool) : TyOf K H (.bl x) (.type "bool")
  | int (i : Int) : TyOf K H (.int i) (.type "int")
  | str (x : Str) : TyOf K H (.str x) (.type "str")
  | flt (x : UInt64) : TyOf K H (.flt x) (.type "float")
  | lst {a : Addr} {xs : List V} (e : H a = some (.lst xs)) : TyOf K H (.ref a) (.type "list")
  | frz {a : Addr} {o : Obj} {xs : List V} (e : H a = some (.frz o (.lst xs))) : TyOf K H (.ref a) (.type "list")
  | tup {a : Addr} {xs : List V} (e : H a = some (.tup xs)) : TyOf K H (.ref a) (.type "tuple")
  | dK {a : Addr} {kvs : List (Key × V)} (e : H a = some (.dK kvs)) : TyOf K H (.ref a) (.type "dict")
  | dT {a : Addr} {kvs : List (List Key × V)} (e : H a = some (.dT kvs)) : TyOf K H (.ref a) (.type "dict")
  | ins {a C dx : Addr} {fs : List (Str × V)} (e : H a = some (.ins C dx fs)) (cl : Cls K C) (ha : PySem.W.findIn K (.ref C) "__class__" = some (some (.builtin "object.__class__")))
      (hn : PySem.W.specialIn K (.builtin "object.__class__") "__get__" = some (some (.builtin "getset_descriptor.__get__"))) (htk : PySem.W.takesIn K (.builtin "object.__class__") = some true)
      (hm : PySem.W.mroIn K C (.type "object") = some true) : TyOf K H (.ref a) (.ref C)
end
end L2
namespace L2
open PySem PySem.Spec PyProof.Rows
structure Room (k : Nat) (A : Around) : Prop where
  hd : A.handled = none
  dp : A.depth + 3 * k + 5 < recursionLimit
  un : A.units + 16 * k + 200 < cLine
theorem Room.mono {j k : Nat} {A : Around} (r : Room k A) (h : j ≤ k) : Room j A := ⟨r.hd, by have := r.dp; omega, by have := r.un; omega⟩
theorem Room.deeper {k : Nat} {A : Around} (r : Room (k + 1) A) (env : Env) : Room k (A.deeper env) :=
  ⟨r.hd, by have := r.dp; show A.depth + 1 + 3 * k + 5 < _; omega, by have := r.un; show A.units + 3 + 16 * k + 200 < _; omega⟩
theorem Room.in1 {k : Nat} {A : Around} (r : Room (k + 1) A) : Room k A.in1 :=
  ⟨r.hd, by have := r.dp; show A.depth + 3 * k + 5 < _; omega, by have := r.un; show A.units + 1 + 16 * k + 200 < _; omega⟩
theorem Room.depth {k : Nat} {A : Around} (r : Room k A) : A.depth < recursionLimit := by have := r.dp; omega
theorem Room.units {k : Nat} {A : Around} (r : Room k A) : A.units + 64 < cLine := by have := r.un; omega
def tNil : TA := fun _ H Q => Q [] H
def tCons (ta : TE) (tr : TA) : TA := fun σ H Q => ta σ H fun x H1 => tr σ H1 fun xs H2 => Q (x :: xs) H2
section
variable {X : Cx} {e : Expr} {es : List Expr} {te : TE} {t : TA} {pos : Pos}
theorem pa_nil : PA X [] tNil := fun _ _ _ _ H Q I h => Calls.spliced_nil ⟨[], H, I, .nil, h⟩
theorem pa_cons (ha : PE X e te) (hr : PA X es t) (hs : starEach (e :: es) X.env = (false, eval e X.env) :: starEach es X.env := by rfl) : PA X (e :: es) (tCons te t) := by
  intro pos pins s σ H Q I h
  rw [hs]
  show wpAny _ _ (spliced ((false, eval e X.env) :: backTo pos (starEach es X.env))) _ _ s
  refine Calls.spliced_cons (thn (ha pins s σ H _ I h) fun u s1 ⟨x, H1, I1, r1, q1⟩ => ?_)
  exact thn (hr pos pins s1 σ H1 _ I1 q1) fun us s2 ⟨xs, H2, I2, r2, q2⟩ => ⟨x :: xs, H2, I2, .cons r1 r2, q2⟩
def tTup (t : TA) : TE := fun σ H Q => t σ H fun xs H1 => xs.length ≤ sizeLine ∧ ∀ p, H1 p = none → Q (.ref p) (upd H1 p (.tup xs))
def tLst (t : TA) : TE := fun σ H Q => t σ H fun xs H1 => xs.length ≤ sizeLine ∧ ∀ p, H1 p = none → Q (.ref p) (upd H1 p (.lst xs))
theorem pe_tup {x1} (h : PA X es t) : PE X (.Tuple es x1 pos) (tTup t) := by
  intro pins s σ H Q I hq
  refine wpAny_Tuple_spliced (thn (h pos pins s σ H _ I hq) fun us s1 ⟨xs, H1, I1, r, z, q⟩ => ⟨by rw [← r.length]; exact z, ?_⟩)
  have hf : H1 s1.heap.objs.size = none := I1.hok.fresh (Nat.le_refl _)
  refine ⟨.ref s1.heap.objs.size, upd H1 s1.heap.objs.size (.tup xs), I1.laid (t' := s1.toks) (fun b u e => Heap.get?_push_of_some _ e) (Nat.le_refl _) ?_, rfl, q _ hf⟩
  exact ⟨z, us, r, ⟨_, Heap.get?_push_size _ rfl, rfl, _, rfl⟩⟩
theorem pe_lst (h : PA X es t) : PE X (.List es pos) (tLst t) := by
  intro pins s σ H Q I hq
  refine wpAny_List_spliced (thn (h pos pins s σ H _ I hq) fun us s1 ⟨xs, H1, I1, r, z, q⟩ => ⟨by rw [← r.length]; exact z, ?_⟩)
  have hf : H1 s1.heap.objs.size = none := I1.hok.fresh (Nat.le_refl _)
  refine ⟨.ref s1.heap.objs.size, upd H1 s1.heap.objs.size (.lst xs), I1.laid (t' := s1.toks) (fun b u e => Heap.get?_push_of_some _ e) (Nat.le_refl _) ?_, rfl, q _ hf⟩
  exact ⟨z, us, 0, r, Heap.get?_push_size _ rfl⟩
end
abbrev Sp := List V → Hp → VK → XK → Prop
abbrev CXT := List Env → Hp → Shared → XK → Value → Shared → Prop
structure Env0 (P : Program) (w : World) (K : PySem.W.Frag) (mg : Str → Option Value) (base : Heap) (A : Around) (outer : List Env) (s : Shared) (H : Hp) : Prop where
  frames : A.frames = some outer
  mod : Mod K mg base
  bs : ∀ b o, base.get? b = some o → s.heap.get? b = some o ∧ H b = none
  bsz : base.objs.size ≤ s.heap.objs.size
  funs : s.heap.FunFrames base outer
  frf : ∀ b ∈ frs outer, H b = none
  hok : HOk P w H s.heap
  bare : AllBare s.gens
def CE (outer : List Env) (P : Program) (w : World) (H : Hp) (s : Shared) (Q : VK) (u : Value) (s' : Shared) : Prop :=
  ∃ v H', s'.os = s.os ∧ AllBare s'.gens ∧ Un (frs outer) [] H H' s.heap s'.heap ∧ HOk P w H' s'.heap ∧ RelV v u ∧ Q v H'
def CR (CX : CXT) (outer : List Env) (P : Program) (w : World) (H : Hp) (s : Shared) (Q : VK) (E : XK) (r : Result) (s' : Shared) : Prop :=
  match r with
  | .ok (.ret u) => CE outer P w H s Q u s'
  | .ok _ => False
  | .error e => CX outer H s E e s'
structure FnOk (P : Program) (w : World) (K : PySem.W.Frag) (mg : Str → Option Value) (base : Heap) (CX : CXT) (k : Nat) (f : Addr) (fd : FuncData) (ps : List Str) (sp : Sp) : Prop where
  len : ∀ vs H Q E, sp vs H Q E → vs.length = ps.length
  run : ∀ (A : Around) (outer : List Env) (s : Shared) (H : Hp) (args : Args) (us : List Value) (vs : List V) (Q : VK) (E : XK), Room k A → Env0 P w K mg base A outer s H → BindsTo s fd args (ps.zip us) → Vals vs us → sp vs H Q E →
    codeAny (model P w) A (.call (.ref f) args) (CR CX outer P w H s Q E) s
theorem FnOk.mono {P : Program} {w : World} {K : PySem.W.Frag} {mg : Str → Option Value} {base : Heap} {CX : CXT} {j k : Nat} {f : Addr} {fd : FuncData} {ps : List Str} {sp : Sp} (F : FnOk P w K mg base CX j f fd ps sp) (h : j ≤ k) :
    FnOk P w K mg base CX k f fd ps sp := ⟨F.len, fun A outer s H args us vs Q E hr => F.run A outer s H args us vs Q E (hr.mono h)⟩
theorem FnOk.imp {P : Program} {w : World} {K : PySem.W.Frag} {mg : Str → Option Value} {base : Heap} {CX : CXT} {k : Nat} {f : Addr} {fd : FuncData} {ps : List Str} {sp sp' : Sp} (F : FnOk P w K mg base CX k f fd ps sp)
    (h : ∀ vs H Q E, sp' vs H Q E → sp vs H Q E) : FnOk P w K mg base CX k f fd ps sp' :=
  ⟨fun vs H Q E q => F.len vs H Q E (h _ _ _ _ q), fun A outer s H args us vs Q E hr he hb hv hs => F.run A outer s H args us vs Q E hr he hb hv (h _ _ _ _ hs)⟩
theorem Env0.in1 {P : Program} {w : World} {K : PySem.W.Frag} {mg : Str → Option Value} {base : Heap} {A : Around} {outer : List Env} {s : Shared} {H : Hp} (e : Env0 P w K mg base A outer s H) :
    Env0 P w K mg base A.in1 outer s H := ⟨e.frames, e.mod, e.bs, e.bsz, e.funs, e.frf, e.hok, e.bare⟩
section
variable {X : Cx} {pins : List (Addr × Obj)} {σ : St} {H : Hp} {s s' : Shared}
theorem Inv.env0 (I : Inv X pins σ H s) : Env0 X.prog X.w X.K X.mg X.base X.A X.stack s H :=
  ⟨I.ok.frames, I.ok.mod, I.bs, Nat.le_trans I.ok.bsz I.sz, I.stack, I.stkFree, I.hok, I.bare⟩
theorem Inv.after {Q : VK} {u : Value} (I : Inv X pins σ H s) (h : CE X.stack X.prog X.w H s Q u s') : EP X pins σ Q u s' := by
  obtain ⟨v, H', os, bare, un, hok, r, q⟩ := h
  obtain ⟨hh, g, d, t, os'⟩ := s'
  obtain rfl : os' = s.os := os
  exact ⟨v, H', I.call (h' := hh) (g' := g) (d' := d) (t' := t) (ch := []) un hok bare (fun b z => absurd z (by simp)), r, q⟩
end
def tCall (sp : Sp) (dvs : List V) (E : XK) (t : TA) : TE := fun σ H Q => t σ H fun vs H1 => sp (vs ++ dvs) H1 Q E
def Binds (K : PySem.W.Frag) (fd : FuncData) (ps : List Str) (ds : List Value) : Prop :=
  ∀ (s : Shared) (us : List Value), K.In s.heap → (us ++ ds).length = ps.length → BindsTo s fd ⟨us, []⟩ (ps.zip (us ++ ds))
theorem Binds.all {K : PySem.W.Frag} {fd : FuncData} {ps : List Str} (h : ∀ us : List Value, us.length = ps.length → bindArgs fd ⟨us, []⟩ = pure (ps.zip us)) : Binds K fd ps [] := fun s us _ hl => by
  rw [List.append_nil] at hl ⊢
  exact .of_eq (h us hl)
def Passes (CX : CXT) (X : Cx) (E : XK) : Prop := ∀ (pins : List (Addr × Obj)) (σ : St) (H : Hp) (s : Shared) (e : Value) (s' : Shared), Inv X pins σ H s → CX X.stack H s E e s' → X.xe e s'
section
variable {X : Cx} {CX : CXT} {k : Nat} {f C : Addr} {fd : FuncData} {ps : List Str} {sp : Sp} {dvs : List V} {ds : List Value} {E : XK} {x m : Str} {p pos apos : Pos} {e o : Expr} {es : List Expr} {ta : TE} {t : TA}
theorem run_fn {pins : List (Addr × Obj)} {σ : St} {H : Hp} {s : Shared} {Q : VK} {us : List Value} {vs : List V} (F : FnOk X.prog X.w X.K X.mg X.base CX k f fd ps sp) (hr : Room k X.A) (hb : Binds X.K fd ps ds) (hd : Vals dvs ds) (hx : Passes CX X E)
    (I : Inv X pins σ H s) (r : Vals vs us) (h : sp (vs ++ dvs) H Q E) : wpAny (model X.prog X.w) X.A (call (.ref f) us) (EP X pins σ Q) X.xe s := by
  have r2 : Vals (vs ++ dvs) (us ++ ds) := r.append hd
  have hl : (us ++ ds).length = ps.length := by rw [← r2.length]; exact F.len _ _ _ _ h
  refine wpAny_call (codeAny_mono (F.run X.A X.stack s H ⟨us, []⟩ (us ++ ds) (vs ++ dvs) Q E hr I.env0 (hb s us I.kIn hl) r2 h) fun r s' hq => ?_)
  cases r with
  | error e => exact hx pins σ H s e s' I hq
  | ok fl =>
    cases fl with
    | ret u => exact I.after hq
    | next => exact False.elim hq
    | brk => exact False.elim hq
    | cont => exact False.elim hq
theorem pe_call (F : FnOk X.prog X.w X.K X.mg X.base CX k f fd ps sp) (hr : Room k X.A) (hg : Gl X x) (hm : X.mg x = some (.ref f)) (hk : PySem.W.keepIn X.K (.ref f) = true) (hb : Binds X.K fd ps ds) (hd : Vals dvs ds) (hx : Passes CX X E)
    (ha : PA X (e :: es) t) (hdb : (x == ("__debug__" : Str)) = false := by decide) (he : starEach (e :: es) X.env = (false, eval e X.env) :: starEach es X.env := by rfl) (hpl : (backTo pos (starEach es X.env)).any (·.1) = false := by rfl) :
    PE X (.Call (.Name x p) (e :: es) [] pos) (tCall sp dvs E t) := by
  intro pins s σ H Q I h
  refine wpAny_Call_Name_kw (ld_glob I hg hm ?_ hdb)
  refine PySem.W.callWith_K (h₀ := X.base) I.ok.mod.kin hk (thn (ha pos pins s σ H _ I h) fun us s1 ⟨vs, H1, I1, r, q⟩ => ⟨I1.kIn, ?_⟩) he hpl
  exact run_fn F hr hb hd hx I1 r q
structure Mk (K : PySem.W.Frag) (C f : Addr) : Prop where
  makes : PySem.W.makesIn K C = true
  init : PySem.W.findIn K (.ref C) "__init__" = some (some (.ref f))
  fn : PySem.W.isFn K (.ref f) = true
  kp : PySem.W.keepIn K (.ref C) = true
end
section
variable {X : Cx} {CX : CXT} {k : Nat} {f C : Addr} {fd : FuncData} {ps ks : List Str} {sp : Sp} {E : XK} {x m : Str} {p pos apos kpos : Pos} {e o : Expr} {es : List Expr} {kws : List Keyword} {te ta : TE} {t tk : TA} {nm : Option Str}
structure KBinds (K : PySem.W.Frag) (fd : FuncData) (ps ks : List Str) (g : List Value → List Value → List Value) (gV : List V → List V → List V) : Prop where
  to : ∀ (s : Shared) (us ws : List Value), K.In s.heap → (g us ws).length = ps.length → BindsTo s fd ⟨us, ks.zip ws⟩ (ps.zip (g us ws))
  rel : ∀ {vs : List V} {us : List Value} {zs : List V} {ws : List Value}, Vals vs us → Vals zs ws → Vals (gV vs zs) (g us ws)
variable {g : List Value → List Value → List Value} {gV : List V → List V → List V}
end
structure FnScope (N P : List Str) (sc : Scope) : Prop where
  kind : sc.kind = .function
  co : sc.isCoroutine = false
  gen : sc.isGenerator = false
  nd : N.Nodup
  pre : N.take P.length = P
  par : ∀ x ∈ P, sc.names.lookup x = some .local ∨ sc.names.lookup x = some .cell
  nofree : ∀ y ∈ sc.names, y.2 ≠ .free
theorem bindL_out {kindOf : Str → Option NameKind} {x : Str} : ∀ {binds : List (Str × Value)} {m : Str → Option Value}, (∀ v, (x, v) ∉ binds) → bindL kindOf binds m x = m x
  | [], _, _ => rfl
  | (n, v) :: r, m, h => by
    unfold bindL
    rw [bindL_out fun w hw => h w (List.mem_cons_of_mem _ hw)]
    split
    · have : x ≠ n := by rintro rfl; exact h v List.mem_cons_self
      simp [this]
    · rfl
theorem bindC_out {kindOf : Str → Option NameKind} {x : Str} : ∀ {binds : List (Str × Value)} {m : Str → Option Value}, (∀ v, (x, v) ∉ binds) → bindC kindOf binds m x = m x
  | [], _, _ => rfl
  | (n, v) :: r, m, h => by
    unfold bindC
    rw [bindC_out fun w hw => h w (List.mem_cons_of_mem _ hw)]
    split
    · rfl
    · have : x ≠ n := by rintro rfl; exact h v List.mem_cons_self
      simp [this]
theorem bindL_get {kindOf : Str → Option NameKind} {x : Str} {v : Value} : ∀ {P : List Str} {vs : List Value} {i : Nat} {m : Str → Option Value}, P.Nodup → P[i]? = some x → vs[i]? = some v → kindOf x = some .local →
    bindL kindOf (P.zip vs) m x = some v
  | [], _, _, _, _, h, _, _ => by simp at h
  | _ :: _, [], _, _, _, _, h, _ => by simp at h
  | p :: P, w :: vs, 0, m, nd, h1, h2, hk => by
    simp at h1 h2; subst h1; subst h2
    show bindL kindOf ((p, w) :: P.zip vs) m p = _
    unfold bindL
    rw [bindL_out fun v hv => (List.nodup_cons.mp nd).1 (List.of_mem_zip hv).1, if_pos hk]
    simp
  | p :: P, w :: vs, i + 1, m, nd, h1, h2, hk => by
    show bindL kindOf ((p, w) :: P.zip vs) m x = _
    unfold bindL
    exact bindL_get (i := i) (List.nodup_cons.mp nd).2 (by simpa using h1) (by simpa using h2) hk
theorem bindC_get {kindOf : Str → Option NameKind} {x : Str} {v : Value} : ∀ {P : List Str} {vs : List Value} {i : Nat} {m : Str → Option Value}, P.Nodup → P[i]? = some x → vs[i]? = some v → kindOf x ≠ some .local →
    bindC kindOf (P.zip vs) m x = some v
  | [], _, _, _, _, h, _, _ => by simp at h
  | _ :: _, [], _, _, _, _, h, _ => by simp at h
  | p :: P, w :: vs, 0, m, nd, h1, h2, hk => by
    simp at h1 h2; subst h1; subst h2
    show bindC kindOf ((p, w) :: P.zip vs) m p = _
    unfold bindC
    rw [bindC_out fun v hv => (List.nodup_cons.mp nd).1 (List.of_mem_zip hv).1, if_neg hk]
    simp
  | p :: P, w :: vs, i + 1, m, nd, h1, h2, hk => by
    show bindC kindOf ((p, w) :: P.zip vs) m x = _
    unfold bindC
    exact bindC_get (i := i) (List.nodup_cons.mp nd).2 (by simpa using h1) (by simpa using h2) hk
def start (N : List Str) (vs : List V) : St := vs.map some ++ List.replicate (N.length - vs.length) none
def cxOf (CX : CXT) (P : Program) (w : World) (K : PySem.W.Frag) (mg : Str → Option Value) (base : Heap) (N : List Str) (qual : Str) (scope : Scope) (f : Addr) (cd : Value) (A : Around) (outer : List Env) (s : Shared) (H : Hp) (E : XK) : Cx where
  prog := P
  w := w
  K := K
  mg := mg
  base := base
  A := A.deeper (envOfC qual scope s.heap.objs.size f cd)
  N := N
  s₀ := s
  H₀ := H
  env := envOfC qual scope s.heap.objs.size f cd
  outer := outer
  stack := envOfC qual scope s.heap.objs.size f cd :: outer
  ex := []
  calm := true
  fn := fun _ => true
  pn := []
  xe := fun e s' => wpAny (model P w) (A.deeper (envOfC qual scope s.heap.objs.size f cd)) (leaving (envOfC qual scope s.heap.objs.size f cd) e) (fun _ s'' => CX outer H s E e s'') (fun e' s'' => CX outer H s E e' s'') s'
theorem cell_has {sc : Scope} {n : Nat} {x : Str} (h : sc.names.lookup x = some .cell) : ∃ c, (cellsFrom n sc.names []).lookup x = some c := by
  have q := PySem.W.cellsFrom_some sc.names n [] (.inl h)
  exact Option.isSome_iff_exists.mp q
theorem inv_start {CX : CXT} {P : Program} {w : World} {K : PySem.W.Frag} {mg : Str → Option Value} {base : Heap} {N ps : List Str} {qual : Str} {scope : Scope} {f : Addr} {cd : Value} {A : Around} {outer : List Env} {s s1 : Shared} {H : Hp} {E : XK} {us : List Value} {vs : List V}
    (S : FnScope N ps scope) (hd : A.handled = none) (e0 : Env0 P w K mg base A outer s H) (hl : vs.length = ps.length) (r : Vals vs us)
    (x : InCallC s s.heap.objs.size (bindL (envOfC qual scope s.heap.objs.size f cd).kindOf (ps.zip us) fun _ => none) (cellsFrom (s.heap.objs.size + 1) scope.names []) (bindC (envOfC qual scope s.heap.objs.size f cd).kindOf (ps.zip us) fun _ => none) s1) :
    Inv (cxOf CX P w K mg base N qual scope f cd A outer s H E) [] (start N vs) H s1 := by
  have hpl : ps.length ≤ N.length := by have := congrArg List.length S.pre; rw [List.length_take] at this; omega
  obtain ⟨h1, tk, rfl, hk⟩ := x.done
  have noA : ∀ b : Addr, b ∉ (cxOf CX P w K mg base N qual scope f cd A outer s H E).ex := fun b z => absurd (show b ∈ ([] : List Addr) from z) (by simp)
  refine ⟨⟨e0.mod, S.kind, rfl, rfl, Nat.le_refl _, fun y z c h1 h2 => ?_, fun y hy => ?_, fun y c _ h => ?_, fun _ => hd, Around.frames_deeper e0.frames, .inr ⟨rfl, rfl⟩, fun b z => absurd z (noA b), e0.bs, e0.bsz, fun b _ _ => noA b, fun b z => absurd z (noA b), e0.funs, e0.frf⟩,
    rfl, e0.bare, Un.kept hk, ⟨_, x.toInCall.ns, fun i y v h1 h2 h3 => ?_⟩, fun y c h => ⟨_, x.cell y c h⟩, e0.hok.fresh (Nat.le_refl _), fun y c h => ?_, fun p hp => absurd (show p ∈ ([] : List (Addr × Obj)) from hp) (by simp), e0.hok.kept hk, ?_⟩
  · exact name_of_addr x.apart (PySem.mem_of_lookup h1) (PySem.mem_of_lookup h2)
  · have hy : scope.names.lookup y = some .cell ∨ scope.names.lookup y = some .free := hy
    rcases hy with hy | hy
    · exact cell_has hy
    · exact absurd rfl (S.nofree _ (PySem.mem_of_lookup hy))
  · exact Nat.le_of_lt (x.above y c (PySem.mem_of_lookup h))
  · have hi : i < vs.length := by
      unfold start at h2
      by_cases hi : i < vs.length
      · exact hi
      · rw [List.getElem?_append_right (by simpa using hi)] at h2
        rw [List.getElem?_replicate] at h2
        split at h2 <;> cases h2
    have ha : vs[i]? = some v := by
      unfold start at h2
      rw [List.getElem?_append_left (by simpa using hi), List.getElem?_map] at h2
      cases e : vs[i]? with
      | none => rw [e] at h2; cases h2
      | some a => rw [e] at h2; cases h2; rfl
    obtain ⟨u, hu, rv⟩ := r.get ha
    have hp : ps[i]? = some y := by
      rw [← S.pre, List.getElem?_take_of_lt (by omega)]; exact h1
    have ndP : ps.Nodup := by rw [← S.pre]; exact S.nd.sublist (List.take_sublist _ _)
    refine ⟨u, rv, ?_⟩
    rcases S.par y (List.mem_of_getElem? hp) with k | k
    · exact .inl ⟨k, bindL_get ndP hp hu k⟩
    · obtain ⟨c, e⟩ := cell_has (n := s.heap.objs.size + 1) k
      refine .inr ⟨.inl k, c, e, ?_⟩
      have q := x.cell y c e
      rw [bindC_get ndP hp hu (by show scope.names.lookup y ≠ _; rw [k]; decide)] at q
      exact q
  · exact e0.hok.fresh (Nat.le_of_lt (x.above y c (PySem.mem_of_lookup h)))
  · unfold start
    show _ = N.length
    rw [List.length_append, List.length_map, List.length_replicate]
    omega
theorem fn_of {CX : CXT} {P : Program} {w : World} {K : PySem.W.Frag} {mg : Str → Option Value} {base : Heap} {k : Nat} {f : Addr} {name qual : Str} {params : Arguments} {body : List Stmt} {scope : Scope} {dV kV doc pm cdv ct oc : Value} {an od : Option Addr}
    {osl : Array (Option Value)} {N ps : List Str} {sp : Sp} (lk : K.lookup f = some ⟨oc, od, .func (PySem.W.fnOf name qual params body scope dV kV doc pm an cdv ct), osl⟩) (hcd : PySem.W.codeIn K cdv qual = true) (S : FnScope N ps scope)
    (len : ∀ vs H Q E, sp vs H Q E → vs.length = ps.length)
    (hbody : ∀ (A : Around) (outer : List Env) (s : Shared) (H : Hp) (vs : List V) (Q : VK) (E : XK), Room k (A.deeper (envOfC qual scope s.heap.objs.size f cdv)) → sp vs H Q E →
      ∃ t, PSs (cxOf CX P w K mg base N qual scope f cdv A outer s H E) body t ∧ t { nx := fun _ H' => Q .non H', rt := Q } (start N vs) H) :
    FnOk P w K mg base CX (k + 1) f (PySem.W.fnOf name qual params body scope dV kV doc pm an cdv ct) ps sp := by
  refine ⟨len, fun A outer s H args us vs Q E hr e0 hb r hsp => ?_⟩
  have hl := len _ _ _ _ hsp
  have KX : K.In s.heap := e0.mod.kin.keeps fun b o e => (e0.bs b o e).1
  have lim : s.heap.NoLimit := e0.mod.nolimit.keeps fun b o e => (e0.bs b o e).1
  have hkind : ∀ y ∈ ps.zip us, scope.names.lookup y.1 = some .local ∨ (scope.names.lookup y.1 = some .cell ∧ ((cellsFrom (s.heap.objs.size + 1) scope.names []).lookup y.1).isSome = true) := fun ⟨n, v⟩ hy => by
    rcases S.par n (List.of_mem_zip hy).1 with q | q
    · exact .inl q
    · exact .inr ⟨q, PySem.W.cellsFrom_some _ _ _ (.inl q)⟩
  refine codeAny_call_function hr.depth (KX _ _ lk) rfl S.co S.gen rfl (PySem.W.codeRec_of KX hcd) (hb _ _ _ _ ?_)
  refine wpAny_newFunctionEnv_cells S.kind hkind fun env he s1 x => ?_
  subst he
  refine ⟨lim.keeps x.toInCall.keep, codeAny_func ?_⟩
  obtain ⟨t, ht, hq⟩ := hbody A outer s H vs Q E (hr.deeper _) hsp
  have I : Inv (cxOf CX P w K mg base N qual scope f cdv A outer s H E) [] (start N vs) H s1 := inv_start S hr.hd e0 hl r x
  refine wpAny_mono (ht [] s1 (start N vs) H _ I hq) (fun fl s' hs => ?_) fun e s' hs => hs
  have fin : ∀ {σ' : St} {H' : Hp} {v : V} {u : Value}, Inv (cxOf CX P w K mg base N qual scope f cdv A outer s H E) [] σ' H' s' → RelV v u → Q v H' → CE outer P w H s Q u s' :=
    fun {σ' H' v u} J rv q => ⟨v, H', J.os, J.bare, J.base, J.hok, rv, q⟩
  cases fl with
  | ret u =>
    obtain ⟨v, σ', H', J, rv, q⟩ := hs
    exact fin J rv q
  | next =>
    obtain ⟨σ', H', J, q⟩ := hs
    exact fin (v := V.non) (u := Value.none) J rfl q
  | brk =>
    obtain ⟨_, _, _, q⟩ := hs
    exact False.elim q
  | cont =>
    obtain ⟨_, _, _, q⟩ := hs
    exact False.elim q
end L2
namespace L2
open PySem PySem.Spec PyProof.Rows
section
variable {X : Cx} {x : Str} {p pos : Pos} {e : Expr} {es : List Expr} {t : TA} {id T : String} {r : List V → Hp → VK → Prop}
def tCB (r : List V → Hp → VK → Prop) (t : TA) : TE := fun σ H Q => t σ H fun vs H1 => r vs H1 Q
theorem pe_callB (hc : CallR X (.builtin id) r) (hg : Gl X x) (hm : X.mg x = none) (hv : bootBuiltins x = some (.builtin id)) (ha : PA X (e :: es) t) (hn : x ≠ "__name__" := by decide) (hdb : (x == ("__debug__" : Str)) = false := by decide)
    (he : starEach (e :: es) X.env = (false, eval e X.env) :: starEach es X.env := by rfl) (hpl : (backTo pos (starEach es X.env)).any (·.1) = false := by rfl) : PE X (.Call (.Name x p) (e :: es) [] pos) (tCB r t) := by
  intro pins s σ H Q I h
  refine wpAny_Call_Name_kw (ld_blt I hg hm hv ?_ hn hdb)
  exact PyProof.Rows.callWith_builtin1 (thn (ha pos pins s σ H _ I h) fun us s1 ⟨vs, H1, I1, r1, q1⟩ => hc pins s1 σ H1 vs us Q I1 r1 q1) he hpl
theorem pe_callTy (hc : CallR X (.type T) r) (hg : Gl X x) (hm : X.mg x = none) (hv : bootBuiltins x = some (.type T)) (ha : PA X (e :: es) t) (hn : x ≠ "__name__" := by decide) (hdb : (x == ("__debug__" : Str)) = false := by decide)
    (he : starEach (e :: es) X.env = (false, eval e X.env) :: starEach es X.env := by rfl) (hpl : (backTo pos (starEach es X.env)).any (·.1) = false := by rfl) : PE X (.Call (.Name x p) (e :: es) [] pos) (tCB r t) := by
  intro pins s σ H Q I h
  refine wpAny_Call_Name_kw (ld_blt I hg hm hv ?_ hn hdb)
  exact PyProof.Rows.callWith_type1 (thn (ha pos pins s σ H _ I h) fun us s1 ⟨vs, H1, I1, r1, q1⟩ => hc pins s1 σ H1 vs us Q I1 r1 q1) he hpl
end
end L2
namespace HT
open PySem PyProof.Rows
section
open PySem.SeqAt
open PySem.AutoSeq1 (wpAny_loadPart')
open PySem.MeetsSeq PySem.MeetsSeq2 PySem.MeetsSeq3
end
section
variable {prog : Program} {w : World} {A : Around} {E : Value → Shared → Prop} {s : Shared}
def sIx (n d : Nat) : Option Int → Nat
  | none => d
  | some v => if v < 0 then (v + (n : Int)).toNat else min v.toNat n
theorem sIx_le (n d : Nat) (hd : d ≤ n) (o : Option Int) : sIx n d o ≤ n := by
  cases o with
  | none => exact hd
  | some v =>
    show (if v < 0 then (v + (n : Int)).toNat else min v.toNat n) ≤ n
    by_cases hv : v < 0
    · rw [if_pos hv]; omega
    · rw [if_neg hv]; exact Nat.min_le_right _ _
theorem clip_eq (v : Int) (n d : Nat) : (if v < 0 then max (v + (n : Int)) 0 else min v (n : Int)) = ((sIx n d (some v) : Nat) : Int) := by
  show (if v < 0 then max (v + (n : Int)) 0 else min v (n : Int)) = (((if v < 0 then (v + (n : Int)).toNat else min v.toNat n) : Nat) : Int)
  by_cases hv : v < 0
  · simp only [if_pos hv]; omega
  · simp only [if_neg hv]; omega
theorem adjust_gen (lo hi : Option Int) (n : Nat) : Builtin.Slice.sliceAdjust lo hi 1 (n : Int) = (((sIx n 0 lo : Nat) : Int), ((sIx n n hi : Nat) : Int)) := by
  have h1 : ¬ ((1 : Int) < 0) := by omega
  unfold Builtin.Slice.sliceAdjust
  simp only [h1, if_false]
  refine Prod.ext ?_ ?_
  · cases lo with
    | none => rfl
    | some v => exact clip_eq v n 0
  · cases hi with
    | none => rfl
    | some v => exact clip_eq v n n
theorem places_gen (i j : Nat) : Builtin.Slice.slicePlaces (i : Int) (j : Int) 1 = j - i := by
  unfold Builtin.Slice.slicePlaces
  have h1 : (1 : Int) > 0 := by omega
  simp only [h1, if_true, Int.ediv_one]
  split <;> omega
theorem slicePart_ {v : Value} {o : Option Int} {Q : Option Int → Shared → Prop} (p : IsPart v o) (h : Q o s) : wpAny (model prog w) A (Builtin.Slice.slicePartIndex v) Q E s := by
  cases p with
  | none => exact slicePart_none h
  | int i t => exact slicePart_int h
theorem sliceApplied_gen {sl : Addr} {vl vu : Value} {lo hi : Option Int} {n : Nat} {Q : Int × Int × Nat → Shared → Prop} (hs : s.heap.IsSliceOf sl vl vu .none) (pl : IsPart vl lo) (pu : IsPart vu hi)
    (h : Q (((sIx n 0 lo : Nat) : Int), 1, sIx n n hi - sIx n 0 lo) s) : wpAny (model prog w) A (Builtin.Slice.sliceApplied (.ref sl) (pure (n : Int))) Q E s := by
  obtain ⟨os, hos, hcs, hds⟩ := id hs
  unfold Builtin.Slice.sliceApplied Builtin.Slice.sliceFields
  refine wpAny_bind (wpAny_bind (wpAny_field hos hds (x := vl) rfl (wpAny_bind (wpAny_field hos hds (x := vu) rfl (wpAny_bind (wpAny_field hos hds (x := .none) rfl (wpAny_pure ?_)))))))
  refine wpAny_bind (slicePart_none ?_)
  show wpAny _ _ (if ((1 : Int) == 0) = true then _ else _) _ _ s
  rw [if_neg (by decide)]
  refine wpAny_bind (slicePart_ pl (wpAny_bind (slicePart_ pu (wpAny_bind (wpAny_pure ?_)))))
  show wpAny _ _ (match Builtin.Slice.sliceAdjust lo hi 1 (n : Int) with | (lo, hi) => pure (lo, (1 : Int), Builtin.Slice.slicePlaces lo hi 1)) _ _ s
  rw [adjust_gen lo hi n]
  show wpAny _ _ (pure (((sIx n 0 lo : Nat) : Int), (1 : Int), Builtin.Slice.slicePlaces ((sIx n 0 lo : Nat) : Int) ((sIx n n hi : Nat) : Int) 1)) _ _ s
  rw [places_gen]
  exact wpAny_pure h
theorem pick_gen (xs : Array Value) (i k : Nat) : ((List.range k).filterMap fun (m : Nat) => xs[((i : Int) + (m : Int) * 1).toNat]?).toArray = ((xs.toList.drop i).take k).toArray := by
  have e : (fun (m : Nat) => xs[((i : Int) + (m : Int) * 1).toNat]?) = fun m => xs[i + m]? := by
    funext m
    have : ((i : Int) + (m : Int) * 1).toNat = i + m := by omega
    rw [this]
  rw [e]
  have := pick_run xs i k
  rw [List.filterMap_map] at this
  have e2 : ((fun x => xs[x]?) ∘ fun x => i + x) = fun m => xs[i + m]? := rfl
  rw [e2] at this
  rw [this]
theorem getItem_tuple_cut {t sl : Addr} {items : Array Value} {vl vu : Value} {lo hi : Option Int} {Q : Value → Shared → Prop} (ht : IsTup s.heap t items) (hs : s.heap.IsSliceOf sl vl vu .none) (pl : IsPart vl lo) (pu : IsPart vu hi)
    (hw : ¬ (sIx items.size 0 lo = 0 ∧ sIx items.size items.size hi = items.size))
    (h : Q (.ref s.heap.objs.size) { s with heap := s.heap.push { cls := .type "tuple", data := .seq ((items.toList.drop (sIx items.size 0 lo)).take (sIx items.size items.size hi - sIx items.size 0 lo)).toArray } })
    (hsz : items.size ≤ sizeLine) : wpAny (model prog w) A (getItem (.ref t) (.ref sl)) Q E s := by
  have htake : sizeOk (.seq ((items.toList.drop (sIx items.size 0 lo)).take (sIx items.size items.size hi - sIx items.size 0 lo)).toArray) := by
    show ((items.toList.drop (sIx items.size 0 lo)).take (sIx items.size items.size hi - sIx items.size 0 lo)).toArray.size ≤ sizeLine
    rw [List.size_toArray, List.length_take, List.length_drop, Array.length_toList]
    omega
  have hj : sIx items.size items.size hi ≤ items.size := sIx_le _ _ (Nat.le_refl _) hi
  obtain ⟨os, hos, hcs, hds⟩ := id hs
  have hTs : s.TypeIs (.ref sl) "slice" := ⟨os, hos, hcs⟩
  unfold getItem
  try with_reducible refine wpAny_holding ?_
  first | refine wpAny_bind (wpAny_pure ?_) | skip
  refine wpAny_bind (wpAny_sequenceKey ht.typeIs (by decide) ?_)
  refine wpAny_bind (wpAny_callSpecial?_slot (name := Str.ofString "__getitem__") ht.typeIs PyProof.Rows.slot_tuple_getitem
    (wpAny_call_entry PyProof.Rows.slot_tuple_getitem ht.typeIs entry_tuple_getitem ?_ (args_tuple_getitem _ _)))
  show wpAny _ _ (Builtin.Tuple.tupleItemsOf (.ref t) >>= _) _ _ s
  refine wpAny_bind (tupleItemsOf_ ht ?_)
  refine wpAny_bind (wpAny_typeOf hTs ?_)
  rw [if_pos (by decide)]
  refine wpAny_bind (sliceApplied_gen hs pl pu ?_)
  have hno : ¬ ((((sIx items.size 0 lo : Nat) : Int) == 0 && (1 : Int) == 1 && (sIx items.size items.size hi - sIx items.size 0 lo) == items.size) = true) := by
    intro q
    rw [Bool.and_eq_true, Bool.and_eq_true] at q
    have q1 : ((sIx items.size 0 lo : Nat) : Int) = 0 := eq_of_beq q.1.1
    have q2 : sIx items.size items.size hi - sIx items.size 0 lo = items.size := eq_of_beq q.2
    exact hw ⟨by omega, by omega⟩
  show wpAny _ _ (if (((sIx items.size 0 lo : Nat) : Int) == 0 && (1 : Int) == 1 && (sIx items.size items.size hi - sIx items.size 0 lo) == items.size) = true then _ else _) _ _ s
  rw [if_neg hno, pick_gen]
  first
    | exact wpAny_bind (m := Builtin.Tuple.tupleExact _) (wpAny_newObj_type (wpAny_pure ⟨_, rfl, wpAny_pure h⟩) htake)
    | exact wpAny_bind (m := Builtin.Tuple.tupleExact _) (wpAny_newObj_type (wpAny_bind (wpAny_pure (wpAny_pure ⟨_, rfl, wpAny_pure h⟩))) htake)
    | exact wpAny_bind (wpAny_bind (m := Builtin.Tuple.tupleExact _) (wpAny_newObj_type (wpAny_pure (wpAny_pure ⟨_, rfl, wpAny_pure h⟩)) htake))
    | exact wpAny_bind (wpAny_bind (m := Builtin.Tuple.tupleExact _) (wpAny_newObj_type (wpAny_pure ⟨_, rfl, wpAny_pure h⟩) htake))
end
end HT
namespace L2
open PySem PySem.Spec PyProof.Rows
abbrev TO := St → Hp → (Option Int → Hp → Prop) → Prop
def PO (X : Cx) (e : Option Expr) (t : TO) : Prop :=
  ∀ (pins : List (Addr × Obj)) (s : Shared) (σ : St) (H : Hp) (Q : Option Int → Hp → Prop), Inv X pins σ H s → t σ H Q →
    wpAny (model X.prog X.w) X.A (evalPart e X.env) (fun u s' => ∃ o H', Inv X pins σ H' s' ∧ IsPart u o ∧ Q o H') X.xe s
def tNoPart : TO := fun _ H Q => Q none H
def tPart (t : TE) : TO := fun σ H Q => t σ H fun x H1 => ∃ i, x = .int i ∧ Q (some i) H1
section
variable {X : Cx} {e : Expr} {te : TE} {lo hi : Option Expr} {tl th : TO} {pos p2 : Pos}
theorem po_none : PO X none tNoPart := by
  intro pins s σ H Q I h
  rw [evalPart_none]
  exact wpAny_pure ⟨none, H, I, .none, h⟩
theorem po_some (h : PE X e te) : PO X (some e) (tPart te) := by
  intro pins s σ H Q I hw
  rw [evalPart_some]
  refine thn (h pins s σ H _ I hw) fun u s1 ⟨x, H1, I1, r1, q1⟩ => ?_
  obtain ⟨i, rfl, q⟩ := q1
  obtain ⟨t, rfl⟩ := r1
  exact ⟨some i, H1, I1, .int i t, q⟩
def SlR (X : Cx) (r : V → Option Int → Option Int → Hp → VK → Prop) : Prop :=
  ∀ (pins : List (Addr × Obj)) (s : Shared) (σ : St) (H : Hp) (x : V) (v vl vu : Value) (lo hi : Option Int) (sl : Addr) (Q : VK), Inv X pins σ H s → RelV x v → s.heap.IsSliceOf sl vl vu .none → IsPart vl lo → IsPart vu hi → r x lo hi H Q →
    ∃ T id, typeLookup (.type T) "__getitem__" = pure (some (.builtin id)) ∧ s.TypeIs v T ∧ wpAny (model X.prog X.w) X.A (getItem v (.ref sl)) (EP X pins σ Q) X.xe s
theorem SlR.or {r r' : V → Option Int → Option Int → Hp → VK → Prop} (h : SlR X r) (h' : SlR X r') : SlR X (fun x lo hi H Q => r x lo hi H Q ∨ r' x lo hi H Q) := by
  intro pins s σ H x v vl vu lo hi sl Q I rx hs pl pu q
  rcases q with q | q
  · exact h pins s σ H x v vl vu lo hi sl Q I rx hs pl pu q
  · exact h' pins s σ H x v vl vu lo hi sl Q I rx hs pl pu q
def tSl (r : V → Option Int → Option Int → Hp → VK → Prop) (te : TE) (tl th : TO) : TE := fun σ H Q => te σ H fun x H1 => tl σ H1 fun l H2 => th σ H2 fun u H3 => r x l u H3 Q
theorem pe_slice {r : V → Option Int → Option Int → Hp → VK → Prop} (hr : SlR X r) (he : PE X e te) (hl : PO X lo tl) (hu : PO X hi th) : PE X (.Subscript e (.Slice lo hi none p2) pos) (tSl r te tl th) := by
  intro pins s σ H Q I h
  refine Subscript_ (thn (he pins s σ H _ I h) fun v s1 ⟨x, H1, I1, r1, q1⟩ => ?_)
  refine wpAny_Slice (thn (hl pins s1 σ H1 _ I1 q1) fun vl s2 ⟨l, H2, I2, pl, q2⟩ => thn (hu pins s2 σ H2 _ I2 q2) fun vu s3 ⟨u, H3, I3, pu, q3⟩ => ?_)
  rw [evalPart_none]
  refine wpAny_pure ?_
  have I4 : Inv X pins σ H3 { s3 with heap := s3.heap.push { cls := .type "slice", data := .fields #[vl, vu, .none] } } := I3.kept (t' := s3.toks) fun b ob q => Heap.get?_push_of_some _ q
  obtain ⟨T, id, hT, ht, hg⟩ := hr pins { s3 with heap := s3.heap.push { cls := .type "slice", data := .fields #[vl, vu, .none] } } σ H3 x v vl vu l u s3.heap.objs.size Q I4 r1 (Heap.IsSliceOf.new ..) pl pu q3
  show wpAny (model X.prog X.w) X.A (subscriptTail e (.Slice lo hi none p2) v (.ref s3.heap.objs.size)) (EP X pins σ Q) X.xe { s3 with heap := s3.heap.push { cls := .type "slice", data := .fields #[vl, vu, .none] } }
  exact tail_any (ops := [.ref s3.heap.objs.size, v]) ht hT hg (by with_unfolding_all rfl)
def cutV (xs : List V) (lo hi : Option Int) : List V := (xs.drop (HT.sIx xs.length 0 lo)).take (HT.sIx xs.length xs.length hi - HT.sIx xs.length 0 lo)
theorem cutV_length (xs : List V) (lo hi : Option Int) : (cutV xs lo hi).length ≤ xs.length := by
  unfold cutV
  rw [List.length_take, List.length_drop]
  omega
def rSlT (K : PySem.W.Frag) : V → Option Int → Option Int → Hp → VK → Prop := fun x lo hi H Q => ∃ a xs, x = .ref a ∧ SqT K H a xs ∧
  ¬ (HT.sIx xs.length 0 lo = 0 ∧ HT.sIx xs.length xs.length hi = xs.length) ∧ ∀ p, H p = none → Q (.ref p) (upd H p (.tup (cutV xs lo hi)))
theorem sl_tup : SlR X (rSlT X.K) := by
  intro pins s σ H x v vl vu lo hi sl Q I rx hs pl pu h
  obtain ⟨a, xs, rfl, hx, hw, q⟩ := h
  cases rx
  obtain ⟨its, r, ht, hz⟩ := I.tuple hx
  have hlen : its.toArray.size = xs.length := by rw [List.size_toArray]; exact r.length.symm
  refine ⟨"tuple", _, PyProof.Rows.slot_tuple_getitem.lookup, ht.typeIs, ?_⟩
  refine HT.getItem_tuple_cut ht hs pl pu (by rw [hlen]; exact hw) ?_ (by rw [hlen]; exact hz)
  rw [hlen]
  refine ⟨.ref s.heap.objs.size, _, I.laid (t' := s.toks) (o := .tup (cutV xs lo hi)) (fun b ob q => Heap.get?_push_of_some _ q) (Nat.le_refl _) ?_, rfl, q _ (I.hok.fresh (Nat.le_refl _))⟩
  exact ⟨Nat.le_trans (cutV_length xs lo hi) hz, _, (r.drop (HT.sIx xs.length 0 lo)).take (HT.sIx xs.length xs.length hi - HT.sIx xs.length 0 lo), IsTup.new _ _⟩
end
end L2
namespace L2
open PySem PySem.Spec PyProof.Rows
def ixN (n : Nat) (i : Int) : Option Nat := if 0 ≤ i then (if i < n then some i.toNat else none) else if -(n : Int) ≤ i then some (i + n).toNat else none
def atI {α : Type} (xs : List α) (i : Int) : Option α := (ixN xs.length i).bind fun j => xs[j]?
theorem ixN_seq {n : Nat} {i : Int} {j : Nat} (h : ixN n i = some j) : seqIndex? i n = some j ∧ j < n ∧ -(n : Int) ≤ i ∧ i < n := by
  unfold ixN at h
  by_cases h0 : 0 ≤ i
  · rw [if_pos h0] at h
    by_cases h1 : i < n
    · rw [if_pos h1] at h
      have e : i.toNat = j := Option.some.inj h
      exact ⟨by rw [seqIndex_of h0 h1, e], by omega, by omega, h1⟩
    · rw [if_neg h1] at h; cases h
  · rw [if_neg h0] at h
    by_cases h1 : -(n : Int) ≤ i
    · rw [if_pos h1] at h
      have e : (i + n).toNat = j := Option.some.inj h
      exact ⟨by rw [seqIndex_neg (by omega) h1, e], by omega, h1, by omega⟩
    · rw [if_neg h1] at h; cases h
theorem atI_get {α : Type} {xs : List α} {i : Int} {v : α} (h : atI xs i = some v) : ∃ j, seqIndex? i xs.length = some j ∧ xs[j]? = some v ∧ j < xs.length ∧ -(xs.length : Int) ≤ i ∧ i < xs.length := by
  unfold atI at h
  cases e : ixN xs.length i with
  | none => rw [e] at h; cases h
  | some j =>
    rw [e] at h
    obtain ⟨h1, h2, h3, h4⟩ := ixN_seq e
    exact ⟨j, h1, h, h2, h3, h4⟩
theorem atI_nat {α : Type} {xs : List α} {j : Nat} {v : α} (h : xs[j]? = some v) : atI xs (j : Int) = some v := by
  have hj : j < xs.length := (List.getElem?_eq_some_iff.mp h).1
  have e : ixN xs.length (j : Int) = some j := by
    unfold ixN
    rw [if_pos (by omega), if_pos (by omega)]; simp
  unfold atI; rw [e]; exact h
def PlainIx (b : Expr) : Prop := ∀ o i, subscripted b false o i = operate [o, i] (getItem o i)
def IxR (X : Cx) (r : R2) : Prop :=
  ∀ (value slice : Expr) (pins : List (Addr × Obj)) (s : Shared) (σ : St) (H : Hp) (x y : V) (v u : Value) (Q : VK), Inv X pins σ H s → RelV x v → RelV y u → r x y H Q →
    subscripted slice false v u = operate [v, u] (getItem v u) → wpAny (model X.prog X.w) X.A (subscriptTail value slice v u) (EP X pins σ Q) X.xe s
def MtR (X : Cx) (id : String) (r : V → List V → Hp → VK → Prop) : Prop :=
  ∀ (pins : List (Addr × Obj)) (s : Shared) (σ : St) (H : Hp) (x : V) (xs : List V) (v : Value) (us : List Value) (Q : VK), Inv X pins σ H s → RelV x v → Vals xs us → r x xs H Q →
    wpAny (model X.prog X.w) X.A (call (.builtin id) (v :: us)) (EP X pins σ Q) X.xe s
section
variable {X : Cx} {a b : Expr} {ta tb : TE} {pos : Pos}
theorem IxR.or {r r' : R2} (h : IxR X r) (h' : IxR X r') : IxR X (fun x y H Q => r x y H Q ∨ r' x y H Q) := by
  intro value slice pins s σ H x y v u Q I rx ry q hs
  rcases q with q | q
  · exact h value slice pins s σ H x y v u Q I rx ry q hs
  · exact h' value slice pins s σ H x y v u Q I rx ry q hs
theorem MtR.or {id : String} {r r' : V → List V → Hp → VK → Prop} (h : MtR X id r) (h' : MtR X id r') : MtR X id (fun x xs H Q => r x xs H Q ∨ r' x xs H Q) := by
  intro pins s σ H x xs v us Q I rx rs q
  rcases q with q | q
  · exact h pins s σ H x xs v us Q I rx rs q
  · exact h' pins s σ H x xs v us Q I rx rs q
theorem pe_ix {r : R2} (hr : IxR X r) (ha : PE X a ta) (hb : PE X b tb) (hs : PlainIx b) : PE X (.Subscript a b pos) (tOp r ta tb) := by
  intro pins s σ H Q I h
  exact Subscript_ (binT ha hb I h fun v u s2 x y H2 I2 rx ry q => hr a b pins s2 σ H2 x y v u Q I2 rx ry q (hs _ _))
def rIxL (K : PySem.W.Frag) : R2 := fun x y H Q => ∃ p xs i v, x = .ref p ∧ y = .int i ∧ SqL K H p xs ∧ atI xs i = some v ∧ Q v H
def rIxT (K : PySem.W.Frag) : R2 := fun x y H Q => ∃ p xs i v, x = .ref p ∧ y = .int i ∧ SqT K H p xs ∧ atI xs i = some v ∧ Q v H
def rIxS : R2 := fun x y H Q => ∃ z i c, x = .str z ∧ y = .int i ∧ z.length ≤ sizeLine ∧ atI z.cps.toList i = some c ∧ Q (.str ⟨#[c]⟩) H
theorem ix_list : IxR X (rIxL X.K) := by
  intro value slice pins s σ H x y v u Q I rx ry h hs
  obtain ⟨p, xs, i, z, rfl, rfl, hq, he, q⟩ := h
  cases rx
  obtain ⟨t, rfl⟩ := ry
  obtain ⟨its, r, pl, hz⟩ := I.list hq
  obtain ⟨j, h1, h2, h3, h4, h5⟩ := atI_get he
  obtain ⟨w, ew, rw'⟩ := r.get h2
  have hl := r.length
  have hn := line63
  have fin : EP X pins σ Q w s := ⟨z, H, I, rw', q⟩
  by_cases h0 : 0 ≤ i
  · have hj : i.toNat = j := by
      rw [seqIndex_of h0 h5] at h1
      exact Option.some.inj h1
    exact item_listR pl.isList h0 (by omega) (by rw [hj]; simpa using ew) fin hs
  · have hj : (i + (its.toArray.size : Int)).toNat = j := by
      rw [seqIndex_neg (by omega) h4] at h1
      rw [List.size_toArray, ← hl]
      exact Option.some.inj h1
    exact subscriptTail_builtinR (x := w) pl.isList.typeIs slot_list_getitem.lookup
      (wpAny_getItem_list_neg (Q := fun r s' => r = w ∧ EP X pins σ Q r s') pl.isList (by omega) (by rw [List.size_toArray] <;> omega) (by omega) (by rw [hj]; simpa using ew) ⟨rfl, fin⟩) hs
theorem ix_tup : IxR X (rIxT X.K) := by
  intro value slice pins s σ H x y v u Q I rx ry h hs
  obtain ⟨p, xs, i, z, rfl, rfl, hq, he, q⟩ := h
  cases rx
  obtain ⟨t, rfl⟩ := ry
  obtain ⟨its, r, pl, hz⟩ := I.tuple hq
  obtain ⟨j, h1, h2, h3, h4, h5⟩ := atI_get he
  obtain ⟨w, ew, rw'⟩ := r.get h2
  have hl := r.length
  have hn := line63
  have fin : EP X pins σ Q w s := ⟨z, H, I, rw', q⟩
  exact subscriptTail_builtinR (x := w) pl.typeIs slot_tuple_getitem.lookup
    (getItem_tuple (j := j) (Q := fun r s' => r = w ∧ EP X pins σ Q r s') pl (by omega) (by omega) (by rw [List.size_toArray, ← hl]; exact h1) (by simpa using ew) ⟨rfl, fin⟩) hs
theorem ix_str : IxR X rIxS := by
  intro value slice pins s σ H x y v u Q I rx ry h hs
  obtain ⟨z, i, c, rfl, rfl, hz, he, q⟩ := h
  obtain ⟨t, rfl⟩ := rx
  obtain ⟨t', rfl⟩ := ry
  obtain ⟨j, h1, h2, h3, h4, h5⟩ := atI_get he
  have hl : z.cps.toList.length = z.length := by simp [Str.length]
  rw [hl] at h1 h4 h5
  have hn := line63
  exact tail_any (typeIs_str s z t) slot_str_getitem.lookup (getItem_str (c := c) (by
    have e1 : decide (i < -(2 ^ 63 : Int)) = false := decide_eq_false (by omega)
    have e2 : decide (i ≥ 2 ^ 63) = false := decide_eq_false (by omega)
    rw [e1, e2, Bool.or_false]) (by rw [h1]; simpa using h2) ⟨.str ⟨#[c]⟩, H, I.tok _, ⟨_, rfl⟩, q⟩) hs
theorem mapSeq_set (its : List Value) (n j : Nat) (u : Value) : Obj.mapSeq (·.setIfInBounds j u) { cls := .type "list", data := .seq its.toArray n } = { cls := .type "list", data := .seq (its.set j u).toArray n } := by
  simp [Obj.mapSeq]
theorem Inv.lst {pins : List (Addr × Obj)} {σ : St} {H : Hp} {s : Shared} {p : Addr} {xs : List V} (I : Inv X pins σ H s) (h : H p = some (.lst xs)) :
    ∃ (its : List Value) (n : Nat), Vals xs its ∧ s.heap.get? p = some { cls := .type "list", data := .seq its.toArray n } ∧ xs.length ≤ sizeLine := by
  obtain ⟨z, its, n, r, e⟩ := I.hok p _ h
  exact ⟨its, n, r, e, z⟩
theorem Inv.lstUpd {pins : List (Addr × Obj)} {σ : St} {H : Hp} {s : Shared} {p : Addr} {xs ys : List V} {its its' : List Value} {n n' : Nat} {f : Obj → Obj} (I : Inv X pins σ H s) (h : H p = some (.lst xs))
    (ho : s.heap.get? p = some { cls := .type "list", data := .seq its.toArray n }) (hf : f { cls := .type "list", data := .seq its.toArray n } = { cls := .type "list", data := .seq its'.toArray n' }) (r : Vals ys its') (hz : ys.length ≤ sizeLine) (t : Nat) :
    Inv X pins σ (upd H p (.lst ys)) { s with heap := s.heap.update p f, toks := t } := by
  have e : (s.heap.update p f).get? p = some { cls := .type "list", data := .seq its'.toArray n' } := by
    rw [Heap.get?_update_self f ho (by rw [hf] <;> rfl), hf]
  refine I.write (x := p) (e := p) (by rw [h]; trivial) (.inl rfl) (fun b u hb q => (Heap.get?_update_other _ _ (Ne.symm hb)).trans q) ⟨_, e⟩ ?_
  exact ⟨hz, its', n', r, e⟩
def rSetL : V → V → V → Hp → (Hp → Prop) → Prop := fun o i v H Q => ∃ p xs k j, o = .ref p ∧ i = .int k ∧ H p = some (.lst xs) ∧ ixN xs.length k = some j ∧ Q (upd H p (.lst (xs.set j v)))
theorem set_list : PSet X rSetL := by
  intro pins s σ H o i v ov iv u Q I ro ri rv h
  obtain ⟨p, xs, k, j, rfl, rfl, hp, hj, q⟩ := h
  cases ro
  obtain ⟨t, rfl⟩ := ri
  obtain ⟨its, n, r, ho, hz⟩ := I.lst hp
  obtain ⟨h1, h2, h3, h4⟩ := ixN_seq hj
  have hl := r.length
  have hn := line63
  have I' : Inv X pins σ (upd H p (.lst (xs.set j v))) { s with heap := s.heap.update p (Obj.mapSeq (·.setIfInBounds j u)) } :=
    I.lstUpd hp ho (mapSeq_set its n j u) (r.set rv j) (by rw [List.length_set]; exact hz) s.toks
  by_cases h0 : 0 ≤ k
  · have hk : k.toNat = j := by
      rw [seqIndex_of h0 h4] at h1
      exact Option.some.inj h1
    exact PySem.W.ki_setAt ho h0 (by omega) (by rw [List.size_toArray, ← hl]; exact h4) (by rw [hk]; exact ⟨_, I', q⟩)
  · have hk : (k + (its.toArray.size : Int)).toNat = j := by
      rw [seqIndex_neg (by omega) h3] at h1
      rw [List.size_toArray, ← hl]
      exact Option.some.inj h1
    exact PySem.W.ki_setBack ho (by omega) (by rw [List.size_toArray, ← hl]; exact h3) (by omega) (by rw [hk]; exact ⟨_, I', q⟩)
theorem slice_bounds (lo hi : Option Int) (n : Nat) : (sliceBounds lo hi none n).1 = ((HT.sIx n 0 lo : Nat) : Int) ∧ (sliceBounds lo hi none n).2.1 = ((HT.sIx n n hi : Nat) : Int) ∧ (sliceBounds lo hi none n).2.2 = 1 := by
  refine ⟨?_, ?_, rfl⟩
  · cases lo with
    | none => simp [sliceBounds, HT.sIx]
    | some i =>
      simp only [sliceBounds, HT.sIx, Option.getD_none, show (1 : Int) > 0 by decide, if_true]
      by_cases h : i < 0
      · simp only [h, if_true] <;> omega
      · simp only [h, if_false] <;> omega
  · cases hi with
    | none => simp [sliceBounds, HT.sIx]
    | some i =>
      simp only [sliceBounds, HT.sIx, Option.getD_none, show (1 : Int) > 0 by decide, if_true]
      by_cases h : i < 0
      · simp only [h, if_true] <;> omega
      · simp only [h, if_false] <;> omega
theorem slicePick_cut (its : List Value) (lo hi : Option Int) : slicePick its.toArray lo hi none = ((its.drop (HT.sIx its.length 0 lo)).take (HT.sIx its.length its.length hi - HT.sIx its.length 0 lo)).toArray := by
  obtain ⟨h1, h2, h3⟩ := slice_bounds lo hi its.toArray.size
  unfold slicePick
  rw [h1, h2, h3]
  simp only [sliceRange_one, pick_run, List.size_toArray] <;> rfl
def rSlL (K : PySem.W.Frag) : V → Option Int → Option Int → Hp → VK → Prop := fun x lo hi H Q => ∃ a xs, x = .ref a ∧ SqL K H a xs ∧ ∀ p, H p = none → Q (.ref p) (upd H p (.lst (cutV xs lo hi)))
theorem sl_list : SlR X (rSlL X.K) := by
  intro pins s σ H x v vl vu lo hi sl Q I rx hs pl pu h
  obtain ⟨a, xs, rfl, hx, q⟩ := h
  cases rx
  obtain ⟨its, r, ht, hz⟩ := I.list hx
  have hlen := r.length
  refine ⟨"list", _, slot_list_getitem.lookup, ht.isList.typeIs, ?_⟩
  refine wpAny_getItem_list_slice ht.isList hs pl pu .none (by simp) ?_ (by rw [List.size_toArray] <;> omega)
  rw [slicePick_cut, ← hlen]
  refine ⟨.ref s.heap.objs.size, _, I.laid (t' := s.toks) (o := .lst (cutV xs lo hi)) (fun b ob q => Heap.get?_push_of_some _ q) (Nat.le_refl _) ?_, rfl, q _ (I.hok.fresh (Nat.le_refl _))⟩
  exact ⟨Nat.le_trans (cutV_length xs lo hi) hz, _, 0, (r.drop (HT.sIx xs.length 0 lo)).take (HT.sIx xs.length xs.length hi - HT.sIx xs.length 0 lo), Heap.get?_push_size _ rfl⟩
def flatV : V → Bool
  | .non => true
  | .bl _ => true
  | .int _ => true
  | .str _ => true
  | _ => false
def eqV : V → V → Bool
  | .non, .non => true
  | .bl a, .bl b => a == b
  | .bl a, .int b => (if a then 1 else 0) == b
  | .int a, .bl b => a == (if b then 1 else 0)
  | .int a, .int b => a == b
  | .str a, .str b => a == b
  | _, _ => false
theorem eqAt_V {A : Around} {s : Shared} {y x : V} {u v : Value} (ry : RelV y u) (rx : RelV x v) (fy : flatV y = true) (fx : flatV x = true) : SeqAt.EqAt A s u v (eqV y x) := by
  cases y with
  | non =>
    cases ry
    cases x with
    | non => cases rx; exact SeqAt.EqAt.same _
    | bl b => cases rx; exact SeqAt.EqAt.none_bool b
    | int b => obtain ⟨t, rfl⟩ := rx; exact SeqAt.EqAt.none_int b t
    | str b => obtain ⟨t, rfl⟩ := rx; exact SeqAt.EqAt.none_str b t
    | _ => exact absurd (show false = true from fx) Bool.false_ne_true
  | bl a =>
    cases ry
    cases x with
    | non => cases rx; exact SeqAt.EqAt.bool_none a
    | bl b => cases rx; exact SeqAt.EqAt.bool_bool a b
    | int b => obtain ⟨t, rfl⟩ := rx; exact SeqAt.EqAt.bool_int a b t
    | str b => obtain ⟨t, rfl⟩ := rx; exact SeqAt.EqAt.bool_str a b t
    | _ => exact absurd (show false = true from fx) Bool.false_ne_true
  | int a =>
    obtain ⟨t', rfl⟩ := ry
    cases x with
    | non => cases rx; exact SeqAt.EqAt.int_none a t'
    | bl b => cases rx; exact SeqAt.EqAt.int_bool a t' b
    | int b => obtain ⟨t, rfl⟩ := rx; exact SeqAt.EqAt.int_int a t' b t
    | str b => obtain ⟨t, rfl⟩ := rx; exact SeqAt.EqAt.int_str a t' b t
    | _ => exact absurd (show false = true from fx) Bool.false_ne_true
  | str a =>
    obtain ⟨t', rfl⟩ := ry
    cases x with
    | non => cases rx; exact SeqAt.EqAt.str_none a t'
    | bl b => cases rx; exact SeqAt.EqAt.str_bool a t' b
    | int b => obtain ⟨t, rfl⟩ := rx; exact SeqAt.EqAt.str_int a t' b t
    | str b => obtain ⟨t, rfl⟩ := rx; exact SeqAt.EqAt.str_str a t' b t
    | _ => exact absurd (show false = true from fx) Bool.false_ne_true
  | _ => exact absurd (show false = true from fy) Bool.false_ne_true
theorem call_len_seq : CallR X (.builtin "len") (fun xs H Q => ∃ p ys, xs = [.ref p] ∧ (SqL X.K H p ys ∨ SqT X.K H p ys) ∧ Q (.int ys.length) H) := by
  intro pins s σ H xs us Q I r h
  obtain ⟨p, ys, rfl, hq, q⟩ := h
  obtain ⟨u, rfl, rx⟩ := vals1 r
  cases rx
  have hn := line63
  rcases hq with hq | hq
  · obtain ⟨its, r', pl, hz⟩ := I.list hq
    have hlen := r'.length
    exact Calls.call_len_list pl.isList (by simp only [List.size_toArray] <;> omega) ⟨.int ys.length, H, I.tok _, ⟨s.toks + 1, by rw [List.size_toArray, hlen]⟩, q⟩
  · obtain ⟨its, r', pl, hz⟩ := I.tuple hq
    have hlen := r'.length
    exact len_tuple pl (by simp only [List.size_toArray] <;> omega) ⟨.int ys.length, H, I.tok _, ⟨s.toks + 1, by rw [List.size_toArray, hlen]⟩, q⟩
theorem call_len_str : CallR X (.builtin "len") (fun xs H Q => ∃ z, xs = [.str z] ∧ z.length ≤ sizeLine ∧ Q (.int z.length) H) := by
  intro pins s σ H xs us Q I r h
  obtain ⟨z, rfl, hz, q⟩ := h
  obtain ⟨u, rfl, t, rfl⟩ := vals1 r
  have hn := line63
  exact len_str (by omega) ⟨.int z.length, H, I.tok _, ⟨_, rfl⟩, q⟩
theorem CallR.or {f : Value} {r r' : List V → Hp → VK → Prop} (h : CallR X f r) (h' : CallR X f r') : CallR X f (fun xs H Q => r xs H Q ∨ r' xs H Q) := by
  intro pins s σ H xs us Q I rs q
  rcases q with q | q
  · exact h pins s σ H xs us Q I rs q
  · exact h' pins s σ H xs us Q I rs q
def tyV (K : PySem.W.Frag) (T : String) (x : V) (H : Hp) : Prop := match x with
  | .str _ => T = "str"
  | .int _ => T = "int"
  | .ref p => (T = "list" ∧ ∃ xs, SqL K H p xs) ∨ (T = "tuple" ∧ ∃ o, K.lookup p = some o ∧ o.cls = .type "tuple" ∧ o.dict = none) ∨
      (T = "dict" ∧ ((∃ kvs, H p = some (.dK kvs)) ∨ (∃ kvs, H p = some (.dT kvs)) ∨ ∃ es, H p = some (.dG es))) ∨ (T = "set" ∧ ∃ S n, H p = some (.set S n))
  | _ => False
theorem tyV_is {pins : List (Addr × Obj)} {σ : St} {H : Hp} {s : Shared} {T : String} {x : V} {v : Value} (I : Inv X pins σ H s) (r : RelV x v) (ty : tyV X.K T x H) :
    s.TypeIs v T ∧ ∀ a, v = .ref a → ∃ ob, s.heap.get? a = some ob ∧ ob.dict = none := by
  cases x with
  | str z =>
    obtain ⟨t, rfl⟩ := r
    cases (show T = "str" from ty)
    exact ⟨typeIs_str s z t, fun _ e => nomatch e⟩
  | int i =>
    obtain ⟨t, rfl⟩ := r
    cases (show T = "int" from ty)
    exact ⟨typeIs_int s i t, fun _ e => nomatch e⟩
  | ref p =>
    cases r
    rcases ty with ⟨rfl, xs, hq⟩ | ⟨rfl, o, hk, hc, hd⟩ | ⟨rfl, hk⟩ | ⟨rfl, S, n, hk⟩
    · obtain ⟨its, _, pl, _⟩ := I.list hq
      refine ⟨pl.isList.typeIs, fun a e => ?_⟩
      cases e
      obtain ⟨o, n, e, c, hd, _⟩ := pl
      exact ⟨o, e, hd⟩
    · refine ⟨⟨o, I.kIn p o hk, hc⟩, fun a e => ?_⟩
      cases e
      exact ⟨o, I.kIn _ o hk, hd⟩
    · have z : ∃ o, s.heap.get? p = some o ∧ o.ExactDict := by
        rcases hk with ⟨kvs, hk⟩ | ⟨kvs, hk⟩ | ⟨es, hk⟩
        · obtain ⟨_, _, _, _, o, _, _, e, ex, _⟩ := I.hok p _ hk
          exact ⟨o, e, ex⟩
        · obtain ⟨_, _, _, _, o, _, _, e, ex, _⟩ := I.hok p _ hk
          exact ⟨o, e, ex⟩
        · obtain ⟨_, _, o, _, _, e, ex, _⟩ := I.hok p _ hk
          exact ⟨o, e, ex⟩
      obtain ⟨o, e, ex⟩ := z
      refine ⟨⟨o, e, ex.1⟩, fun a e2 => ?_⟩
      cases e2
      exact ⟨o, e, ex.2.1⟩
    · obtain ⟨o, _, _, _, e, ex, _⟩ := I.hok p _ hk
      refine ⟨⟨o, e, ex.1⟩, fun a e2 => ?_⟩
      cases e2
      exact ⟨o, e, ex.2.1⟩
  | _ => exact False.elim ty
def tBM (K : PySem.W.Frag) (T : String) (r : V → List V → Hp → VK → Prop) (to : TE) (t : TA) : TE := fun σ H Q => to σ H fun x H1 => tyV K T x H1 ∧ t σ H1 fun xs H2 => r x xs H2 Q
variable {o e : Expr} {es : List Expr} {to : TE} {t : TA} {name : Str} {apos cpos : Pos} {T id : String} {r : V → List V → Hp → VK → Prop}
theorem pe_bm (pa : PlainAttrs T) (slot : Slot T name id) (hty : typeOf (.builtin id) = pure (.type "method_descriptor")) (hm : MtR X id r) (ho : PE X o to) (ha : PA X (e :: es) t)
    (hbase : attributeBase o name X.env (eval o X.env) = eval o X.env := by rfl)
    (hfew : ((backTo cpos (starEach (e :: es) X.env)).all (fun x => !x.1) && (backToKw cpos (keywordEach [] X.env)).all (fun x => x.1.isSome)
      && decide ((e :: es).length + ([] : List Keyword).length + (if ([] : List Keyword).isEmpty then 0 else 1) < 30)) = true := by rfl)
    (hline : (apos.endLine == cpos.line) = true := by rfl) (hs : starEach (e :: es) X.env = (false, eval e X.env) :: starEach es X.env := by rfl) (hplain : (backTo cpos (starEach es X.env)).any (·.1) = false := by rfl) :
    PE X (.Call (.Attribute o name apos) (e :: es) [] cpos) (tBM X.K T r to t) := by
  intro pins s σ H Q I h
  refine wpAny_Call_method_late hbase hfew hline rfl (thn (ho pins s σ H _ I h) fun v s1 ⟨x, H1, I1, r1, ty, q1⟩ => ?_)
  obtain ⟨h1, h2⟩ := tyV_is I1 r1 ty
  refine ⟨T, id, pa, slot, hty, h1, h2, ?_⟩
  have hA := ha cpos pins s1 σ H1 _ I1 q1
  rw [hs] at hA ⊢
  refine Calls.callWith_builtin (by show (false || (backTo cpos (starEach es X.env)).any (·.1)) = false; rw [hplain] <;> rfl) (Calls.evalArgs_plain ?_)
  exact thn hA fun us s2 ⟨vs, H2, I2, r2, q2⟩ => hm pins s2 σ H2 x vs v us Q I2 r1 r2 q2
end
end L2
namespace L2
open PySem PySem.Spec PyProof.Rows
def MtM (X : Cx) (id : String) (r : V → List V → Hp → VK → Prop) : Prop :=
  ∀ (pins : List (Addr × Obj)) (s : Shared) (σ : St) (H : Hp) (x : V) (xs : List V) (v : Value) (us : List Value) (Q : VK), Inv X pins σ H s → RelV x v → Vals xs us → r x xs H Q →
    wpAny (model X.prog X.w) X.A (call (.builtin id) (v :: us)) (EP X pins σ Q) X.xe s
theorem Vals.one : ∀ {x : V} {us : List Value}, Vals [x] us → ∃ u, us = [u] ∧ RelV x u
  | _, _, .cons r .nil => ⟨_, rfl, r⟩
theorem Vals.two : ∀ {x y : V} {us : List Value}, Vals [x, y] us → ∃ u v, us = [u, v] ∧ RelV x u ∧ RelV y v
  | _, _, _, .cons r (.cons q .nil) => ⟨_, _, rfl, r, q⟩
theorem Vals.zero : ∀ {us : List Value}, Vals [] us → us = []
  | _, .nil => rfl
theorem Vals.reverse {xs : List V} {us : List Value} (h : Vals xs us) : Vals xs.reverse us.reverse := by
  induction h with
  | nil => exact .nil
  | cons r t ih => rw [List.reverse_cons, List.reverse_cons]; exact Vals.append ih (.cons r .nil)
theorem Vals.rep {xs : List V} {us : List Value} (h : Vals xs us) : ∀ k : Nat, Vals (List.replicate k xs).flatten (List.replicate k us).flatten
  | 0 => .nil
  | k + 1 => by
    rw [List.replicate_succ, List.replicate_succ, List.flatten_cons, List.flatten_cons]
    exact Vals.append h (Vals.rep h k)
section
variable {X : Cx} {pins : List (Addr × Obj)} {σ : St} {H : Hp} {s : Shared} {l b : Addr} {xs ys zs : List V}
theorem Inv.lset {its its' : List Value} {n : Nat} {f : Array Value → Array Value} {t' : Nat} (I : Inv X pins σ H s) (hH : H l = some (.lst xs))
    (e : s.heap.get? l = some { cls := .type "list", data := .seq its.toArray n }) (hf : f its.toArray = its'.toArray) (hv : Vals ys its') (hz : ys.length ≤ sizeLine) :
    Inv X pins σ (upd H l (.lst ys)) { s with heap := s.heap.update l (Obj.mapSeq f), toks := t' } := by
  have q := PySem.IsL.update e f
  rw [hf] at q
  refine I.write (x := l) (e := l) (by rw [hH]; exact trivial) (.inl rfl) (fun b' u hb hu => (Heap.get?_update_other s.heap (Obj.mapSeq f) (Ne.symm hb)).trans hu) ⟨_, q⟩ ?_
  exact ⟨hz, its', _, hv, q⟩
theorem Inv.lnew {its : List Value} {t' : Nat} (I : Inv X pins σ H s) (hv : Vals ys its) (hz : ys.length ≤ sizeLine) :
    Inv X pins σ (upd H s.heap.objs.size (.lst ys)) { s with heap := s.heap.push { cls := .type "list", data := .seq its.toArray }, toks := t' } :=
  I.laid (fun _ _ q => Heap.get?_push_of_some _ q) (Nat.le_refl _) ⟨hz, its, 0, hv, Heap.get?_push_size _ rfl⟩
theorem Inv.fresh (I : Inv X pins σ H s) : H s.heap.objs.size = none := I.hok.fresh (Nat.le_refl _)
theorem Inv.lstM (I : Inv X pins σ H s) (hH : H l = some (.lst xs)) : xs.length ≤ sizeLine ∧ ∃ (its : List Value) (n : Nat), Vals xs its ∧ xs.length = its.length ∧ s.heap.get? l = some { cls := .type "list", data := .seq its.toArray n } := by
  obtain ⟨z, its, n, r, e⟩ := I.hok l _ hH
  exact ⟨z, its, n, r, r.length, e⟩
end
section
variable {X : Cx}
def rAppend : V → List V → Hp → VK → Prop := fun x vs H Q => ∃ l xs y, x = .ref l ∧ vs = [y] ∧ H l = some (.lst xs) ∧ xs.length < sizeLine ∧ Q .non (upd H l (.lst (xs ++ [y])))
theorem mt_append : MtM X "list.append" rAppend := by
  intro pins s σ H x vs v us Q I rx rv h
  obtain ⟨l, xs, y, rfl, rfl, hH, hz, q⟩ := h
  cases rx
  obtain ⟨u, rfl, ru⟩ := rv.one
  obtain ⟨z, its, n, r, hl, e⟩ := I.lstM hH
  refine call_meets F.slot_list_append ⟨_, e, rfl⟩ F.entry_list_append (F.args_list_append_2 _ _) (PySem.list_append l its.toArray n u (by rw [List.size_toArray]; omega)) ⟨e, ?_⟩
  refine ⟨.non, _, I.lset (its' := its ++ [u]) hH e (by simp) (r.append (.cons ru .nil)) ?_, rfl, q⟩
  rw [List.length_append, List.length_singleton]
  omega
end
section
variable {prog : Program} {w : World} {A : Around} {E : Value → Shared → Prop} {s : Shared}
end
section
variable {X : Cx}
end
end L2
namespace L2
open PySem PySem.Spec PyProof.Rows
section
variable {κ : Type} [DecidableEq κ]
def valV (kvs : List (κ × V)) (k : κ) : Option V := (kvs.find? fun kv => decide (kv.1 = k)).map (·.2)
def putK (kvs : List (κ × V)) (k : κ) (v : V) : List (κ × V) :=
  if (kvs.any fun kv => decide (kv.1 = k)) = true then kvs.map (fun kv => if kv.1 = k then (kv.1, v) else kv) else kvs ++ [(k, v)]
def dropK (kvs : List (κ × V)) (k : κ) : List (κ × V) := kvs.filter fun kv => decide (kv.1 ≠ k)
theorem valV_pos {p : κ × V} {r : List (κ × V)} {k : κ} (e : p.1 = k) : valV (p :: r) k = some p.2 := by simp [valV, List.find?_cons, e]
theorem valV_neg {p : κ × V} {r : List (κ × V)} {k : κ} (e : ¬ p.1 = k) : valV (p :: r) k = valV r k := by simp [valV, List.find?_cons, e]
theorem valV_any (k : κ) : ∀ kvs : List (κ × V), (kvs.any fun kv => decide (kv.1 = k)) = (valV kvs k).isSome
  | [] => rfl
  | p :: r => by
    rw [List.any_cons]
    by_cases e : p.1 = k
    · simp only [valV_pos e, decide_eq_true e, Bool.true_or, Option.isSome_some]
    · rw [valV_neg e, decide_eq_false e, Bool.false_or]; exact valV_any k r
theorem RelO.isSome_eq {o : Option V} {u : Option Value} (r : RelO o u) : o.isSome = u.isSome := by
  cases o with
  | none => cases u with
    | none => rfl
    | some _ => exact (show False from r).elim
  | some _ => cases u with
    | none => exact (show False from r).elim
    | some _ => rfl
theorem RelO.getD {o : Option V} {u : Option Value} {d : V} {d' : Value} (r : RelO o u) (rd : RelV d d') : RelV (o.getD d) (u.getD d') := by
  cases o with
  | none => cases u with
    | none => exact rd
    | some _ => exact (show False from r).elim
  | some _ => cases u with
    | none => exact (show False from r).elim
    | some _ => exact r
theorem KV.val {kvs : List (κ × V)} {vs : List (κ × Value)} (r : KV kvs vs) (k : κ) : RelO (valV kvs k) (valueAt vs k) := by
  unfold KV at r
  induction r with
  | nil => exact True.intro
  | @cons p q ps qs h t ih =>
    obtain ⟨h1, h2⟩ := h
    by_cases e : p.1 = k
    · have e' : q.1 = k := h1.symm.trans e
      have b : valueAt (q :: qs) k = some q.2 := by simp [valueAt, List.find?_cons, e']
      rw [valV_pos e, b]; exact h2
    · have e' : ¬ q.1 = k := fun z => e (h1.trans z)
      have b : valueAt (q :: qs) k = valueAt qs k := by simp [valueAt, List.find?_cons, e']
      rw [valV_neg e, b]; exact ih
theorem KV.any {kvs : List (κ × V)} {vs : List (κ × Value)} (r : KV kvs vs) (k : κ) : (kvs.any fun kv => decide (kv.1 = k)) = vs.any fun kv => decide (kv.1 = k) := by
  unfold KV at r
  induction r with
  | nil => rfl
  | cons h t ih => rw [List.any_cons, List.any_cons, ih, h.1]
theorem KV.repl {kvs : List (κ × V)} {vs : List (κ × Value)} (r : KV kvs vs) (k : κ) {y : V} {u : Value} (ry : RelV y u) :
    KV (kvs.map fun kv => if kv.1 = k then (kv.1, y) else kv) (vs.map fun kv => if kv.1 = k then (kv.1, u) else kv) := by
  unfold KV at r ⊢
  induction r with
  | nil => exact .nil
  | @cons p q ps qs h t ih =>
    rw [List.map_cons, List.map_cons]
    refine .cons ?_ ih
    obtain ⟨h1, h2⟩ := h
    by_cases e : p.1 = k
    · rw [if_pos e, if_pos (h1.symm.trans e)]; exact ⟨h1, ry⟩
    · rw [if_neg e, if_neg (fun z => e (h1.trans z))]; exact ⟨h1, h2⟩
theorem KV.put {kvs : List (κ × V)} {vs : List (κ × Value)} (r : KV kvs vs) (k : κ) {y : V} {u : Value} (ry : RelV y u) : KV (putK kvs k y) (stored vs k u) := by
  unfold putK stored
  rw [r.any k]
  by_cases e : (vs.any fun kv => decide (kv.1 = k)) = true
  · rw [if_pos e, if_pos e]; exact r.repl k ry
  · rw [if_neg e, if_neg e]; exact Paired.snoc r ⟨rfl, ry⟩
theorem KV.drop {kvs : List (κ × V)} {vs : List (κ × Value)} (r : KV kvs vs) (k : κ) : KV (dropK kvs k) (without vs k) := by
  unfold KV at r ⊢
  unfold dropK without
  induction r with
  | nil => exact .nil
  | @cons p q ps qs h t ih =>
    obtain ⟨h1, h2⟩ := h
    rw [List.filter_cons, List.filter_cons]
    by_cases e : p.1 = k
    · have a : ¬ decide (p.1 ≠ k) = true := by simp [e]
      have b : ¬ decide (q.1 ≠ k) = true := by simp [h1.symm.trans e]
      rw [if_neg a, if_neg b]; exact ih
    · have e' : ¬ q.1 = k := fun z => e (h1.trans z)
      have a : decide (p.1 ≠ k) = true := by simp [e]
      have b : decide (q.1 ≠ k) = true := by simp [e']
      rw [if_pos a, if_pos b]; exact .cons ⟨h1, h2⟩ ih
theorem KV.keys {kvs : List (κ × V)} {vs : List (κ × Value)} (r : KV kvs vs) : kvs.map (·.1) = vs.map (·.1) := by
  unfold KV at r
  induction r with
  | nil => rfl
  | cons h t ih => rw [List.map_cons, List.map_cons, ih, h.1]
theorem KV.length {kvs : List (κ × V)} {vs : List (κ × Value)} (r : KV kvs vs) : kvs.length = vs.length := Paired.length r
end
abbrev KT (H : Hp) : List (List Key × V) → List (List Key × Addr × Value) → Prop := Paired fun p q => p.1 = q.1 ∧ H q.2.1 = some (.tup (p.1.map kV)) ∧ RelV p.2 q.2.2
theorem KT.val {H : Hp} {kvs : List (List Key × V)} {xs : List (List Key × Addr × Value)} (r : KT H kvs xs) (k : List Key) : RelO (valV kvs k) ((atKey xs k).map (·.2)) := by
  induction r with
  | nil => exact True.intro
  | @cons p q ps qs h t ih =>
    obtain ⟨h1, _, h2⟩ := h
    by_cases e : p.1 = k
    · have e' : q.1 = k := h1.symm.trans e
      have b : atKey (q :: qs) k = some q.2 := by simp [atKey, List.find?_cons, e']
      rw [valV_pos e, b]; exact h2
    · have e' : ¬ q.1 = k := fun z => e (h1.trans z)
      have b : atKey (q :: qs) k = atKey qs k := by simp [atKey, List.find?_cons, e']
      rw [valV_neg e, b]; exact ih
theorem KT.repl {H : Hp} {kvs : List (List Key × V)} {xs : List (List Key × Addr × Value)} (r : KT H kvs xs) (k : List Key) {y : V} {u : Value} (ry : RelV y u) :
    KT H (kvs.map fun kv => if kv.1 = k then (kv.1, y) else kv) (xs.map (putAt k u)) := by
  induction r with
  | nil => exact .nil
  | @cons p q ps qs h t ih =>
    rw [List.map_cons, List.map_cons]
    refine .cons ?_ ih
    obtain ⟨h1, h2, h3⟩ := h
    unfold putAt
    by_cases e : p.1 = k
    · rw [if_pos e, if_pos (h1.symm.trans e)]; exact ⟨h1, h2, ry⟩
    · rw [if_neg e, if_neg (fun z => e (h1.trans z))]; exact ⟨h1, h2, h3⟩
theorem KT.put {H : Hp} {kvs : List (List Key × V)} {xs : List (List Key × Addr × Value)} (r : KT H kvs xs) (k : List Key) {b : Addr} {y : V} {u : Value} (hb : H b = some (.tup (k.map kV))) (ry : RelV y u) :
    KT H (putK kvs k y) (storedH xs k b u) := by
  have e : (kvs.any fun kv => decide (kv.1 = k)) = (atKey xs k).isSome := by
    rw [valV_any, (r.val k).isSome_eq, Option.isSome_map]
  unfold putK storedH
  rw [e]
  by_cases q : (atKey xs k).isSome = true
  · rw [if_pos q, if_pos q]; exact r.repl k ry
  · rw [if_neg q, if_neg q]; exact Paired.snoc r ⟨rfl, hb, ry⟩
theorem KT.keeps {H H' : Hp} {kvs : List (List Key × V)} {xs : List (List Key × Addr × Value)} (r : KT H kvs xs) (ht : ∀ b ys, H b = some (.tup ys) → H' b = some (.tup ys)) : KT H' kvs xs :=
  Paired.mapP r fun _ _ z => ⟨z.1, ht _ _ z.2.1, z.2.2⟩
section
variable {P : Program} {w : World} {H : Hp} {h : Heap} {a : Addr}
end
def DGet (H : Hp) (a : Addr) (y : V) (r : Option V) : Prop :=
  (∃ kvs k, Rd H a (.dK kvs) ∧ y = kV k ∧ r = valV kvs k) ∨ ∃ kvs k b, Rd H a (.dT kvs) ∧ y = .ref b ∧ H b = some (.tup (k.map kV)) ∧ r = valV kvs k
def DPut (H : Hp) (a : Addr) (y v : V) (H' : Hp) : Prop :=
  (∃ kvs k, H a = some (.dK kvs) ∧ y = kV k ∧ kvs.length < sizeLine ∧ H' = upd H a (.dK (putK kvs k v))) ∨
  ∃ kvs k b, H a = some (.dT kvs) ∧ y = .ref b ∧ H b = some (.tup (k.map kV)) ∧ kvs.length < sizeLine ∧ H' = upd H a (.dT (putK kvs k v))
theorem DGet.k {H : Hp} {a : Addr} {kvs : List (Key × V)} {k : Key} (e : H a = some (.dK kvs)) : DGet H a (kV k) (valV kvs k) := .inl ⟨kvs, k, .inl e, rfl, rfl⟩
theorem DGet.t {H : Hp} {a b : Addr} {kvs : List (List Key × V)} {k : List Key} (e : H a = some (.dT kvs)) (eb : H b = some (.tup (k.map kV))) : DGet H a (.ref b) (valV kvs k) := .inr ⟨kvs, k, b, .inl e, rfl, eb, rfl⟩
theorem DPut.k {H : Hp} {a : Addr} {kvs : List (Key × V)} {k : Key} {v : V} (e : H a = some (.dK kvs)) (hl : kvs.length < sizeLine) : DPut H a (kV k) v (upd H a (.dK (putK kvs k v))) := .inl ⟨kvs, k, e, rfl, hl, rfl⟩
theorem DPut.t {H : Hp} {a b : Addr} {kvs : List (List Key × V)} {k : List Key} {v : V} (e : H a = some (.dT kvs)) (eb : H b = some (.tup (k.map kV))) (hl : kvs.length < sizeLine) :
    DPut H a (.ref b) v (upd H a (.dT (putK kvs k v))) := .inr ⟨kvs, k, b, e, rfl, eb, hl, rfl⟩
section
variable {X : Cx} {pins : List (Addr × Obj)} {σ : St} {H : Hp} {s : Shared} {a : Addr} {y v : V} {u r : Value} {o : Option V} {A : Around} {E : Value → Shared → Prop}
theorem Inv.big (I : Inv X pins σ H s) : sysModules < s.heap.objs.size := by
  have h : mainGlobals < s.heap.objs.size := (I.mod.glob.keeps I.bk).lt
  exact Nat.lt_trans (by decide) h
theorem d_write {h' : Heap} {t' : Nat} {ob : HO} (I : Inv X pins σ H s) (mu : Mut (H a)) (hs : Heap.SameBut a s.heap h') (he : ∃ q, h'.get? a = some q) (new : ObjOk X.prog X.w (upd H a ob) h' a ob) :
    Inv X pins σ (upd H a ob) { s with heap := h', toks := t' } :=
  I.write (x := a) (e := a) mu (.inl rfl) (fun b q hb z => (hs.2 b hb).trans z) he new
end
section
variable {X : Cx} {pins : List (Addr × Obj)} {σ : St} {H : Hp} {s : Shared} {a : Addr} {kvs : List (Key × V)} {k : Key} {u : Value} {A : Around} {E : Value → Shared → Prop}
end
section
variable {X : Cx} {o i e value : Expr} {pos pos' tpos : Pos} {td ty tv : TE}
end
section
variable {X : Cx} {pos : Pos}
end
structure M1 (X : Cx) (o : Expr) (m : Str) (apos : Pos) (e : Expr) (cpos : Pos) : Prop where
  base : attributeBase o m X.env (eval o X.env) = eval o X.env
  few : ((backTo cpos (starEach [e] X.env)).all (fun x => !x.1) && (backToKw cpos (keywordEach [] X.env)).all (fun x => x.1.isSome)
    && decide (([e] : List Expr).length + ([] : List Keyword).length + (if ([] : List Keyword).isEmpty then 0 else 1) < 30)) = true
  line : (apos.endLine == cpos.line) = true
  trees : backTo cpos (starEach [e] X.env) = [(false, eval e X.env)]
structure M2 (X : Cx) (o : Expr) (m : Str) (apos : Pos) (e f : Expr) (cpos : Pos) : Prop where
  base : attributeBase o m X.env (eval o X.env) = eval o X.env
  few : ((backTo cpos (starEach [e, f] X.env)).all (fun x => !x.1) && (backToKw cpos (keywordEach [] X.env)).all (fun x => x.1.isSome)
    && decide (([e, f] : List Expr).length + ([] : List Keyword).length + (if ([] : List Keyword).isEmpty then 0 else 1) < 30)) = true
  line : (apos.endLine == cpos.line) = true
  trees : backTo cpos (starEach [e, f] X.env) = [(false, eval e X.env), (false, eval f X.env)]
section
variable {X : Cx} {pins : List (Addr × Obj)} {σ : St} {H : Hp} {s : Shared} {a : Addr} {y d : V} {u r : Value} {o : Option V} {A : Around} {E : Value → Shared → Prop}
end
section
variable {X : Cx} {o e f : Expr} {apos cpos : Pos} {td ty tx : TE}
end
section
variable {X : Cx} {pins : List (Addr × Obj)} {σ : St} {H : Hp} {s : Shared} {a : Addr} {kvs : List (Key × V)} {A : Around} {E : Value → Shared → Prop}
end
section
variable {X : Cx} {pins : List (Addr × Obj)} {σ : St} {H : Hp} {s : Shared} {a : Addr} {y : V} {u : Value} {A : Around} {E : Value → Shared → Prop}
end
end L2
namespace Att
open PySem PySem.W PySem.Calls PyProof.Rows
theorem ints_of_wellAll {P : Params} {h : Heap} : ∀ (ns : List Int) (vs : List Value), WellAll P h vs (ns.map WData.int) → IntsAre vs ns := by
  intro ns
  induction ns with
  | nil =>
    intro vs w
    rw [List.map_nil] at w
    cases w
    exact .nil
  | cons n ns ih =>
    intro vs w
    rw [List.map_cons] at w
    cases w with
    | cons a b =>
      cases a
      exact .cons _ _ (ih _ b)
theorem script_of {l : OpenLaw} {n : Nat} (hn : l.most = some n) {P : Params} {h : Heap} {args : List WData} {vals : List Value}
    (hpre : l.row.toRowW.claim.pre args = true) (hwl : WellAll P h vals args) :
    ∃ a vs ns, vals = [Value.ref a] ∧ args = [WData.list (ns.map WData.int)] ∧ h.get? a = some { cls := .type "list", data := .seq vs.toArray } ∧ IntsAre vs ns ∧ ns.length ≤ n := by
  have hsh : WShape.hasAll [] args [.list .int] = true := (pre_splitW hpre).1
  have hc : l.pre.holds [] { args := args } = true := (pre_splitW hpre).2
  obtain ⟨d, r, rfl, h1, h2⟩ := hasAllW_cons hsh
  obtain rfl := hasAllW_nil h2
  obtain ⟨xs, rfl, h3⟩ := hasW_list h1
  obtain ⟨ns, rfl⟩ := items_int h3
  have hlen : ns.length ≤ n := by
    unfold OpenLaw.pre at hc
    have h4 : (WTm.not (.lt (.lit (.int (n : Int))) (.len (.arg 0)))).holds [] { args := [.list (ns.map .int)] } = true := by
      have h4 := (holds_andW hc).1
      rw [hn] at h4
      exact h4
    have h5 := condW_of h4 (w_not (w_lt w_lit (w_len_list (w_arg rfl))))
    rw [List.length_map] at h5
    refine Nat.le_of_not_lt fun q => ?_
    have q' : (n : Int) < ((ns.length : Nat) : Int) := by omega
    first
      | (rw [decide_eq_true q'] at h5; exact absurd h5 (by decide))
      | (simp at h5; omega)
  cases hwl with
  | cons w1 w2 =>
    cases w2
    cases w1 with
    | list ho hall => exact ⟨_, _, ns, rfl, rfl, ho, ints_of_wellAll ns _ hall, hlen⟩
theorem post_true (l : OpenLaw) (args : List WData) : l.row.toRowW.claim.post args (.bool true) args = true :=
  postW_of (r := l.row.toRowW) (X := (true == true))
    (show WShape.has [] (.bool true) .bool = true by first | rfl | decide | simp [WShape.has, WShape.arms, WShape.armsAll])
    (show (WTm.eq .res (.lit (.bool true))).value [] { args := args, res := some (.bool true), after := args } = some (.bool (true == true)) from w_eq_bool (w_res rfl) w_lit) rfl
theorem attach_call {l : OpenLaw} {n : Nat} {q : Program} {loose : List Str} {XP : (Str → Option Value) → Heap → Prop} {YP : World → Heap → Prop} {d : DefRec}
    (hn : l.most = some n) (hdf : d.params.defaults = [])
    (call : ∀ (w : World) (s₀ s₁ : Shared) (mg mb : Str → Option Value) (fa : Addr) (o : Obj) (pm cd doc : Value) (a : Addr) (vs : List Value) (ns : List Int),
      Ground q loose [] XP w s₀ mg mb s₁.heap → YP w s₁.heap →
      s₁.heap.get? fa = some o → o.data = .func (docDef d.name d.params d.body d.scope pm cd doc) → s₁.heap.CodeRec cd d.name → mg d.name = some (.ref fa) →
      s₁.heap.get? a = some { cls := .type "list", data := .seq vs.toArray } → IntsAre vs ns → ns.length ≤ n → s₁.gens = #[] →
      codeAny (model l.prog w) callerA (.call (.ref fa) ⟨[.ref a], []⟩) (fun r s' => r = .ok (.ret (.bool true)) ∧ OldK s₁.heap s'.heap ∧ s'.os = s₁.os ∧ AllBare s'.gens) s₁) :
    WalkO q loose XP YP l.row.toRowW d [] (fun f vs => PySem.call f vs) := by
  intro w s₀ s₁ mg mb G Y fa o pm cd doc dV kV ho hd hcd hD hmg hg args vals as hpre hlay hrd hwl hlo
  obtain rfl : dV = .none := Dflts.none hD hdf
  obtain rfl : kV = .none := Dflts.noKw hD
  obtain ⟨a, vs, ns, rfl, rfl, hobj, hints, hlen⟩ := script_of hn hpre hwl
  refine enter_call (codeAny_mono (call w s₀ s₁ mg mb fa o pm cd doc a vs ns G Y ho (fd_plain hd) hcd hmg hobj hints hlen hg) fun r s' hq => ?_)
  obtain ⟨rfl, h2, h3, h4⟩ := hq
  exact ⟨.inl ⟨.bool true, .bool true, [], rfl, fun _ => rfl, .bool true, post_true l _, fun _ => ⟨List.Pairwise.nil, fun _ hm => (nomatch hm)⟩⟩, h2, h3, h4⟩
section
variable {prog : Program} {w : World} {A : Around} {E : Value → Shared → Prop} {s : Shared} {K : Frag}
end
end Att
namespace L2
open PySem PySem.Spec PyProof.Rows
theorem vals_ints : ∀ {vs : List Value} {ns : List Int}, IntsAre vs ns → Vals (ns.map V.int) vs
  | _, _, .nil => .nil
  | _, _, .cons n t h => .cons ⟨t, rfl⟩ (vals_ints h)
def Only (H : Hp) : Prop := ∀ b, H b = none ∨ ∃ o xs, H b = some (.frz o (.lst xs))
theorem law_call {P : Program} {w : World} {K : PySem.W.Frag} {mg mb : Str → Option Value} {CX : CXT} {k : Nat} {fa a : Addr} {fd : FuncData} {x : Str} {sp : Sp} {s₁ : Shared} {vs : List Value} {ns : List Int}
    (KX : K.In s₁.heap) (hns : s₁.heap.Ns mainGlobals mg) (hb : s₁.heap.Ns builtinsNs mb) (hbb : ∀ x : Str, x ≠ "__name__" → mb x = bootBuiltins x) (hlim : s₁.heap.NoLimit) (hg : s₁.gens = #[])
    (ha : s₁.heap.get? a = some { cls := .type "list", data := .seq vs.toArray }) (hi : IntsAre vs ns) (hl : ns.length ≤ sizeLine) (hr : Room k callerA)
    (F : ∀ base : Heap, K.In base → base.Ns mainGlobals mg → FnOk P w K mg base CX k fa fd [x] sp) (hbind : ∀ (s : Shared) (u : Value), BindsTo s fd ⟨[u], []⟩ [(x, u)])
    (hsp : ∀ H : Hp, Only H → SqL K H a (ns.map V.int) → sp [.ref a] H (fun v _ => v = .bl true) fun _ _ _ => False)
    (hCX : ∀ H e s', CX [] H s₁ (fun _ _ _ => False) e s' → False) :
    codeAny (model P w) callerA (.call (.ref fa) ⟨[.ref a], []⟩) (fun r s' => r = .ok (.ret (.bool true)) ∧ OldK s₁.heap s'.heap ∧ s'.os = s₁.os ∧ AllBare s'.gens) s₁ := by
  have rv := vals_ints hi
  have lenV := hi.length
  have core : ∀ H : Hp, Only H → SqL K H a (ns.map V.int) → HOk P w H s₁.heap → (∀ b, H b ≠ none → b = a) → (H a ≠ none → K.lookup a = none) →
      codeAny (model P w) callerA (.call (.ref fa) ⟨[.ref a], []⟩) (fun r s' => r = .ok (.ret (.bool true)) ∧ OldK s₁.heap s'.heap ∧ s'.os = s₁.os ∧ AllBare s'.gens) s₁ := by
    intro H hO hS hok hA hK
    have base_of : ∀ {b : Addr} {o : Obj}, s₁.heap.get? b = some o → H b = none → (hidT s₁.heap H).get? b = some o := fun e n => hidT_get e n
    have noA : ∀ {b : Addr} {o : Obj} {es : Array DictEntry} {ep : Nat}, s₁.heap.get? b = some o → o.data = .dict es ep → H b = none := fun {b o es ep} e d => by
      cases q : H b with
      | none => rfl
      | some u =>
        have e' : b = a := hA b (by rw [q]; simp)
        subst e'
        rw [ha] at e; cases e
        have d' : Data.seq vs.toArray _ = Data.dict es ep := d
        cases d'
    have nsK : ∀ {b : Addr} {m : Str → Option Value}, s₁.heap.Ns b m → (hidT s₁.heap H).Ns b m := fun {b m} ⟨o, es, ep, e, d, r⟩ => ⟨o, es, ep, base_of e (noA e d), d, r⟩
    have hKb : K.In (hidT s₁.heap H) := fun b o e => base_of (KX b o e) (by
      cases q : H b with
      | none => rfl
      | some u =>
        have e' : b = a := hA b (by rw [q]; simp)
        subst e'
        rw [hK (by rw [q]; simp)] at e; cases e)
    have hM : Mod K mg (hidT s₁.heap H) := ⟨hKb, nsK hns, ⟨mb, nsK hb, hbb⟩, let ⟨mc, h1, h2⟩ := hlim; ⟨mc, nsK h1, h2⟩⟩
    have e0 : Env0 P w K mg (hidT s₁.heap H) callerA [] s₁ H := ⟨rfl, hM, fun b o e => of_hidT e, Nat.le_of_eq (hidT_size _ _), trivial, fun b hb => absurd (show b ∈ ([] : List Addr) from hb) (by simp), hok, .of_eq hg⟩
    refine codeAny_mono ((F _ hKb (nsK hns)).run callerA [] s₁ H ⟨[.ref a], []⟩ [.ref a] [.ref a] _ _ hr e0 (hbind s₁ (.ref a)) (.cons rfl .nil) (hsp H hO hS)) fun r s' h => ?_
    cases r with
    | error e => exact (hCX H e s' h).elim
    | ok fl =>
      cases fl with
      | next => exact False.elim h
      | brk => exact False.elim h
      | cont => exact False.elim h
      | ret u =>
        obtain ⟨v, H', os, bare, un, hok', r', q⟩ := h
        have q' : v = .bl true := q
        subst q'
        obtain rfl : u = Value.bool true := r'
        refine ⟨rfl, OldK.of_keep fun b o e => ?_, os, bare⟩
        cases q : H b with
        | none => exact un.keep b o e q (by intro z; exact absurd (show b ∈ ([] : List Addr) from z) (by simp)) (by simp)
        | some u =>
          rcases hO b with z | ⟨ob, xs, z⟩
          · rw [q] at z; cases z
          · have z2 := un.frzs b ob _ z
            obtain ⟨e1, _⟩ := hok b _ z
            obtain ⟨e2, _⟩ := hok' b _ z2
            rw [e] at e1; cases e1
            exact e2
  cases hk : K.lookup a with
  | some o =>
    have e := KX a o hk
    rw [ha] at e
    cases e
    refine core (fun _ => none) (fun _ => .inl rfl) (.inr ⟨_, vs.toArray, _, hk, rfl, rfl, rfl, by rw [List.size_toArray, lenV]; exact hl, by simpa using rv⟩) (fun b u z => by have z' : (none : Option HO) = some u := z; cases z') (fun b z => absurd rfl z) fun z => absurd rfl z
  | none =>
    refine core (fun b => if b = a then some (.frz { cls := .type "list", data := .seq vs.toArray } (.lst (ns.map V.int))) else none) (fun b => ?_) (.inl (.inr ⟨{ cls := .type "list", data := .seq vs.toArray }, if_pos rfl⟩)) (fun b u z => ?_) (fun b z => ?_) fun _ => hk
    · by_cases hb : b = a
      · exact .inr ⟨_, _, if_pos hb⟩
      · exact .inl (if_neg hb)
    · by_cases hb : b = a
      · have z' := (if_pos hb).symm.trans z
        cases z'
        subst hb
        exact ⟨ha, by rw [List.length_map]; exact hl, vs, _, rv, ha⟩
      · have z' := (if_neg hb).symm.trans z
        cases z'
    · by_cases hb : b = a
      · exact hb
      · exact absurd (if_neg hb) z
end L2
namespace L2
open PySem PySem.Spec PyProof.Rows
theorem walk_of {l : PySem.W.OpenLaw} {n k : Nat} {q : Program} {loose : List Str} {XP : (Str → Option Value) → Heap → Prop} {YP : World → Heap → Prop} {d : DefRec} {K : Params → PySem.W.Frag} {CX : World → CXT} {sp : World → Sp} {x : Str}
    (hn : l.most = some n) (hn2 : n ≤ sizeLine) (hdf : d.params.defaults = []) (hr : Room k callerA)
    (hY : ∀ (w : World) (h : Heap), YP w h → (K w.params).In h)
    (F : ∀ (w : World) (mg : Str → Option Value) (fa : Addr) (h : Heap), (K w.params).In h → h.Ns mainGlobals mg → mg d.name = some (.ref fa) →
      ∃ fd : FuncData, (∀ (s : Shared) (u : Value), BindsTo s fd ⟨[u], []⟩ [(x, u)]) ∧
        ∀ base : Heap, (K w.params).In base → base.Ns mainGlobals mg → FnOk l.prog w (K w.params) mg base (CX w) k fa fd [x] (sp w))
    (hsp : ∀ (w : World) (H : Hp) (a : Addr) (ns : List Int), ns.length ≤ n → Only H → SqL (K w.params) H a (ns.map V.int) → sp w [.ref a] H (fun v _ => v = .bl true) fun _ _ _ => False)
    (hCX : ∀ (w : World) (H : Hp) (s : Shared) (e : Value) (s' : Shared), CX w [] H s (fun _ _ _ => False) e s' → False) :
    PySem.W.WalkO q loose XP YP l.row.toRowW d [] (fun f vs => PySem.call f vs) := by
  refine Att.attach_call hn hdf fun w s₀ s₁ mg mb fa o pm cd doc a vs ns G Y ho hd hcd hmg hobj hints hlen hg => ?_
  have KX := hY w _ Y
  obtain ⟨fd, hb, hF⟩ := F w mg fa _ KX G.T.g hmg
  exact law_call KX G.T.g G.T.b G.T.builtins G.T.nolimit hg hobj hints (Nat.le_trans hlen hn2) hr hF hb (fun H hO hS => hsp w H a ns hlen hO hS) fun H e s' => hCX w H s₁ e s'
end L2
namespace L2
open PySem PySem.Spec PyProof.Rows
def defArgs (s : Stmt) : Arguments := match s with
  | .FunctionDef _ a _ _ _ _ _ _ _ _ => a
  | _ => { posonlyargs := [], args := [], vararg := none, kwonlyargs := [], kw_defaults := [], kwarg := none, defaults := [] }
def defBody (s : Stmt) : List Stmt := match s with
  | .FunctionDef _ _ b _ _ _ _ _ _ _ => b
  | _ => []
def defScope (s : Stmt) : Scope := match s with
  | .FunctionDef _ _ _ _ _ _ sc _ _ _ => sc
  | _ => { kind := .function, names := [], isGenerator := false, isCoroutine := false }
abbrev CX0 : CXT := fun _ _ _ _ _ _ => False
abbrev E0 : XK := fun _ _ _ => False
theorem pass0 {X : Cx} : Passes CX0 X E0 := fun _ _ _ _ _ _ _ h => h.elim
structure Fun (K : PySem.W.Frag) (x qual : Str) (st : Stmt) (f : Addr) (fd : FuncData) : Prop where
  ex : ∃ (oc : Value) (od : Option Addr) (kV doc pm : Value) (an : Option Addr) (cdv ct : Value) (osl : Array (Option Value)),
    fd = PySem.W.fnOf x qual (defArgs st) (defBody st) (defScope st) .none kV doc pm an cdv ct ∧ K.lookup f = some ⟨oc, od, .func fd, osl⟩ ∧ PySem.W.codeIn K cdv qual = true
  kp : PySem.W.keepIn K (.ref f) = true
section
variable {P : Program} {w : World} {K : PySem.W.Frag} {mg : Str → Option Value} {base : Heap}
theorem Fun.ok {x qual : Str} {st : Stmt} {f : Addr} {fd : FuncData} {N ps : List Str} {k : Nat} {sp : Sp} (F : Fun K x qual st f fd) (S : FnScope N ps (defScope st)) (len : ∀ vs H Q E, sp vs H Q E → vs.length = ps.length)
    (hbody : ∀ (cdv : Value) (A : Around) (outer : List Env) (s : Shared) (H : Hp) (vs : List V) (Q : VK) (E : XK), Room k (A.deeper (envOfC qual (defScope st) s.heap.objs.size f cdv)) → sp vs H Q E →
      ∃ t, PSs (cxOf CX0 P w K mg base N qual (defScope st) f cdv A outer s H E).nox (defBody st) t ∧ t { nx := fun _ H' => Q .non H', rt := Q } (start N vs) H) : FnOk P w K mg base CX0 (k + 1) f fd ps sp := by
  obtain ⟨oc, od, kV, doc, pm, an, cdv, ct, osl, rfl, lk, hcd⟩ := F.ex
  refine fn_of lk hcd S len fun A outer s H vs Q E hr hsp => ?_
  obtain ⟨t, h, q⟩ := hbody cdv A outer s H vs Q E hr hsp
  exact ⟨t, h.nox, q⟩
theorem Fun.binds {x qual : Str} {st : Stmt} {f : Addr} {fd : FuncData} {ps : List Str} (F : Fun K x qual st f fd)
    (h : ∀ (kV doc pm : Value) (an : Option Addr) (cdv ct : Value) (us : List Value), us.length = ps.length → bindArgs (PySem.W.fnOf x qual (defArgs st) (defBody st) (defScope st) .none kV doc pm an cdv ct) ⟨us, []⟩ = pure (ps.zip us)) : Binds K fd ps [] := by
  obtain ⟨oc, od, kV, doc, pm, an, cdv, ct, osl, rfl, lk, hcd⟩ := F.ex
  exact .all (h kV doc pm an cdv ct)
theorem fun_mk {x qual : Str} {st : Stmt} {f : Addr} {oc : Value} {od an : Option Addr} {osl : Array (Option Value)} {kV doc pm cdv ct : Value} (l : K.lookup f = some ⟨oc, od, .func (PySem.W.fnOf x qual (defArgs st) (defBody st) (defScope st) .none kV doc pm an cdv ct), osl⟩)
    (c : PySem.W.codeIn K cdv qual = true) (k : PySem.W.keepIn K (.ref f) = true) : Fun K x qual st f (PySem.W.fnOf x qual (defArgs st) (defBody st) (defScope st) .none kV doc pm an cdv ct) := ⟨⟨oc, od, kV, doc, pm, an, cdv, ct, osl, rfl, l, c⟩, k⟩
end
theorem hu_of {A : Around} {k : Nat} (hr : Room k A) : A.units + 1 < cLine := Nat.lt_of_le_of_lt (Nat.add_le_add_left (by decide : 1 ≤ 64) _) hr.units
section
variable {X : Cx}
theorem pv (i : Nat) {x : Str} {pos : Pos} (hN : X.N[i]? = some x := by rfl) (hv : Vis X.env.scope x := by first | exact Or.inl rfl | exact Or.inr (Or.inl rfl) | exact Or.inr (Or.inr rfl)) (hd : (x == ("__debug__" : Str)) = false := by decide)
    (hcd : (x == ("__classdict__" : Str)) = false := by decide) : PE X (.Name x pos) (tVar i) := pe_var hN hv hd hcd
end
theorem iteF {A B : Prop} (h : B) : if false = true then A else B := by
  rw [if_neg Bool.false_ne_true]
  exact h
theorem iteT {A B : Prop} (h : A) : if true = true then A else B := by
  rw [if_pos rfl]
  exact h
def Same (H H' : Hp) : Prop := ∀ b o, H b = some o → H' b = some o
theorem Same.refl (H : Hp) : Same H H := fun _ _ h => h
theorem Same.trans {H H1 H2 : Hp} (a : Same H H1) (b : Same H1 H2) : Same H H2 := fun c o h => b c o (a c o h)
theorem Same.free {H H' : Hp} (e : Same H H') {l : Addr} (h : H' l = Option.none) : H l = Option.none := by
  cases q : H l with
  | none => rfl
  | some o =>
    rw [e l o q] at h
    cases h
theorem Same.seq {K : PySem.W.Frag} {H H' : Hp} {a : Addr} {xs : List V} (e : Same H H') (h : SqL K H a xs) : SqL K H' a xs := by
  rcases h with (h | ⟨o, h⟩) | h
  · exact .inl (.inl (e _ _ h))
  · exact .inl (.inr ⟨o, e _ _ h⟩)
  · exact .inr h
section
variable {κ : Type} [DecidableEq κ]
end
end L2
set_option Elab.async false
set_option linter.all false
set_option maxRecDepth 100000
set_option maxHeartbeats 4000000
namespace L2
open PySem PySem.Spec PyProof.Rows
def clOf (env : Env) (names : List (Str × NameKind)) : List (Str × Addr) := ((names.filter fun y => y.2 == .free).reverse).map fun y => (y.1, (env.cells.lookup y.1).getD 0)
theorem lookup_mapf {g : Str → Addr} {x : Str} : ∀ {l : List (Str × NameKind)}, (∃ k, (x, k) ∈ l) → (l.map fun y => (y.1, g y.1)).lookup x = some (g x)
  | [], h => by obtain ⟨k, h⟩ := h; cases h
  | (n, k) :: r, h => by
    show List.lookup x ((n, g n) :: _) = _
    cases hx : x == n with
    | true =>
      have e : x = n := by simpa using hx
      subst e
      simp [List.lookup_cons]
    | false =>
      simp only [List.lookup_cons, hx]
      refine lookup_mapf (l := r) ?_
      obtain ⟨k', h⟩ := h
      rcases List.mem_cons.mp h with e | e
      · cases e; simp at hx
      · exact ⟨k', e⟩
theorem of_lookup_mapf {g : Str → Addr} {x : Str} {c : Addr} : ∀ {l : List (Str × NameKind)}, (l.map fun y => (y.1, g y.1)).lookup x = some c → c = g x ∧ ∃ k, (x, k) ∈ l
  | [], h => by cases h
  | (n, k) :: r, h => by
    have h : List.lookup x ((n, g n) :: (r.map fun y => (y.1, g y.1))) = some c := h
    cases hx : x == n with
    | true =>
      have e : x = n := by simpa using hx
      subst e
      simp only [List.lookup_cons, hx] at h
      exact ⟨(Option.some.inj h).symm, k, List.mem_cons_self⟩
    | false =>
      simp only [List.lookup_cons, hx] at h
      obtain ⟨e, k', hk⟩ := of_lookup_mapf h
      exact ⟨e, k', List.mem_cons_of_mem _ hk⟩
theorem clOf_has {env : Env} {names : List (Str × NameKind)} {x : Str} (h : (x, NameKind.free) ∈ names) {c : Addr} (hc : env.cells.lookup x = some c) : (clOf env names).lookup x = some c := by
  have := lookup_mapf (g := fun n => (env.cells.lookup n).getD 0) (x := x) (l := (names.filter fun y => y.2 == .free).reverse) ⟨.free, by simp [h]⟩
  unfold clOf
  rw [this, hc]
  rfl
theorem of_clOf {env : Env} {names : List (Str × NameKind)} (hf : ∀ y ∈ names, y.2 = .free → ∃ c, env.cells.lookup y.1 = some c) {x : Str} {c : Addr} (h : (clOf env names).lookup x = some c) : env.cells.lookup x = some c := by
  obtain ⟨e, k, hk⟩ := of_lookup_mapf (g := fun n => (env.cells.lookup n).getD 0) h
  have hk' := List.mem_filter.mp (List.mem_reverse.mp hk)
  obtain ⟨c', hc'⟩ := hf _ hk'.1 (by simpa using hk'.2)
  have hc'' : env.cells.lookup x = some c' := hc'
  rw [e, hc'']
  rfl
theorem closure_go {env : Env} : ∀ (names : List (Str × NameKind)) (cs : List (Str × Addr)), (∀ y ∈ names, y.2 = .free → ∃ c, env.cells.lookup y.1 = some c) →
    (forIn names cs (fun (x : Str × NameKind) (r : List (Str × Addr)) => if (x.2 == NameKind.free) = true then (do let a ← cellOf env x.1; pure (ForInStep.yield ((x.1, a) :: r))) else (pure (ForInStep.yield r) : Sem (ForInStep (List (Str × Addr)))))) =
      pure (clOf env names ++ cs)
  | [], cs, _ => by rw [List.forIn_nil]; rfl
  | (n, k) :: r, cs, h => by
    rw [List.forIn_cons]
    cases hk : k == NameKind.free with
    | true =>
      obtain ⟨c, hc⟩ := h (n, k) List.mem_cons_self (by simpa using hk)
      have hc' : env.cells.lookup n = some c := hc
      have e : cellOf env n = pure c := by unfold cellOf; rw [hc']
      simp only [hk, if_true, e, pure_bind]
      rw [closure_go r _ fun y hy => h y (List.mem_cons_of_mem _ hy)]
      congr 1
      unfold clOf
      rw [List.filter_cons]
      simp [hk, hc']
    | false =>
      simp only [hk, Bool.false_eq_true, if_false, pure_bind]
      rw [closure_go r _ fun y hy => h y (List.mem_cons_of_mem _ hy)]
      congr 1
      unfold clOf
      rw [List.filter_cons]
      simp [hk]
theorem closureFor_clOf {scope : Scope} {env : Env} (h : ∀ y ∈ scope.names, y.2 = .free → ∃ c, env.cells.lookup y.1 = some c) : closureFor scope env = pure (clOf env scope.names) := by
  have := closure_go (env := env) scope.names [] h
  rw [List.append_nil] at this
  unfold closureFor
  show (forIn scope.names [] _ >>= fun r => pure r) = _
  rw [bind_pure]
  exact this
theorem relabel_free {env : Env} : ∀ {names : List (Str × NameKind)} {x : Str}, names.lookup x = some .free →
    (names.map fun (n, k) => if (k == NameKind.free && env.scope.kind == .function && env.kindOf n == some .cell) then (n, NameKind.cell) else (n, k)).lookup x = some .cell ∨
    (names.map fun (n, k) => if (k == NameKind.free && env.scope.kind == .function && env.kindOf n == some .cell) then (n, NameKind.cell) else (n, k)).lookup x = some .free
  | [], _, h => by simp at h
  | (n, k) :: r, x, h => by
    have ih := @relabel_free env r x
    show List.lookup x ((if (k == NameKind.free && env.scope.kind == .function && env.kindOf n == some .cell) = true then (n, NameKind.cell) else (n, k)) :: _) = _ ∨ List.lookup x ((if (k == NameKind.free && env.scope.kind == .function && env.kindOf n == some .cell) = true then (n, NameKind.cell) else (n, k)) :: _) = _
    cases hx : x == n with
    | true =>
      simp only [List.lookup_cons, hx] at h
      cases h
      by_cases hc : (NameKind.free == NameKind.free && env.scope.kind == .function && env.kindOf n == some .cell) = true
      · rw [if_pos hc]; simp [List.lookup_cons, hx]
      · rw [if_neg hc]; simp [List.lookup_cons, hx]
    | false =>
      simp only [List.lookup_cons, hx] at h
      by_cases hc : (k == NameKind.free && env.scope.kind == .function && env.kindOf n == some .cell) = true
      · rw [if_pos hc]; simp only [List.lookup_cons, hx]; exact ih h
      · rw [if_neg hc]; simp only [List.lookup_cons, hx]; exact ih h
theorem of_relabel {env : Env} : ∀ {names : List (Str × NameKind)} {x : Str} {q : NameKind}, (q = .cell ∨ q = .free) → (∀ y ∈ names, y.2 ≠ .cell) →
    (names.map fun (n, k) => if (k == NameKind.free && env.scope.kind == .function && env.kindOf n == some .cell) then (n, NameKind.cell) else (n, k)).lookup x = some q → (x, NameKind.free) ∈ names
  | [], _, _, _, _, h => by simp at h
  | (n, k) :: r, x, q, hq, hn, h => by
    have ih := @of_relabel env r x q hq fun y hy => hn y (List.mem_cons_of_mem _ hy)
    have hk : k ≠ .cell := hn (n, k) List.mem_cons_self
    have h : List.lookup x ((if (k == NameKind.free && env.scope.kind == .function && env.kindOf n == some .cell) = true then (n, NameKind.cell) else (n, k)) :: _) = some q := h
    cases hx : x == n with
    | true =>
      have e : x = n := by simpa using hx
      subst e
      by_cases hc : (k == NameKind.free && env.scope.kind == .function && env.kindOf x == some .cell) = true
      · have hf : k = .free := by
          simp only [Bool.and_eq_true, beq_iff_eq] at hc
          exact hc.1.1
        subst hf
        exact List.mem_cons_self
      · rw [if_neg hc] at h
        simp only [List.lookup_cons, hx] at h
        have e : k = q := Option.some.inj h
        rcases hq with rfl | rfl
        · exact absurd e hk
        · rw [e]; exact List.mem_cons_self
    | false =>
      by_cases hc : (k == NameKind.free && env.scope.kind == .function && env.kindOf n == some .cell) = true
      · rw [if_pos hc] at h; simp only [List.lookup_cons, hx] at h; exact List.mem_cons_of_mem _ (ih h)
      · rw [if_neg hc] at h; simp only [List.lookup_cons, hx] at h; exact List.mem_cons_of_mem _ (ih h)
def compCx (X : Cx) (scope : Scope) (M : List Str) (C : Addr) (s : Shared) (H : Hp) (fp : List Addr) : Cx :=
  { X with N := M, s₀ := s, H₀ := H, env := compEnvC scope (clOf X.env scope.names) C X.env, outer := X.stack, ex := fp, fn := fun _ => false, pn := [], xe := fun _ _ => False }
def capS (k : Nat) (cap : List Nat) (σ : St) : St := List.replicate k none ++ cap.map fun i => (σ[i]?).join
def PTs (X : Cx) (ifs : List Expr) (t : TT) : Prop :=
  ∀ (pins : List (Addr × Obj)) (s : Shared) (σ : St) (H : Hp) (Q : Bool → Hp → Prop), Inv X pins σ H s → t σ H Q →
    wpAny (model X.prog X.w) X.A (forIn ifs true fun c r => if r = true then do let ok ← isTrue c X.env (eval c X.env); pure (ForInStep.yield ok) else pure (ForInStep.yield r)) (TP X pins σ Q) X.xe s
def tYes : TT := fun _ H Q => Q true H
theorem pts_nil {X : Cx} : PTs X [] tYes := fun _ _ σ H _ I h => wpAny_tests_nil ⟨H, I, h⟩
theorem pts_one {X : Cx} {c : Expr} {t : TT} (hc : PT X c t) : PTs X [c] t := fun pins s σ H Q I h => wpAny_tests_one (hc pins s σ H Q I h)
theorem codeAny_compLoop_go {prog : Program} {w : World} {A : Around} {R : Result → Shared → Prop} {s : Shared} {elt target iter : Expr} {ifs : List Expr} {scope : Scope} {pos : Pos} {it acc : Value} {env : Env} (I : Nat → Shared → Prop)
    (turn : ∀ n s, I n s → wpAny (model prog w) A (pyNext it) (fun r s₁ => match r with
      | none => R (.ok .next) s₁
      | some v => wpAny (model prog w) A (letOwnedTupleGo target it v) (fun _ s₀ => wpAny (model prog w) A (assign target env v) (fun _ s₂ =>
          wpAny (model prog w) A (forIn ifs true fun c r => if r = true then do let ok ← isTrue c env (eval c env); pure (ForInStep.yield ok) else pure (ForInStep.yield r)) (fun ok s₃ =>
            if ok = true then wpAny (model prog w) A (eval elt env) (fun x s₄ =>
              wpAny (model prog w) A (call (.builtin "list.append") [acc, x]) (fun _ s₅ => ∃ m, m < n ∧ I m s₅) (fun _ _ => False) s₄) (fun _ _ => False) s₃
            else ∃ m, m < n ∧ I m s₃) (fun _ _ => False) s₂) (fun _ _ => False) s₀) (fun _ _ => False) s₁) (fun _ _ => False) s)
    (n : Nat) (h : I n s) :
    codeAny (model prog w) A (.compLoop (.ListComp elt [⟨target, iter, ifs, 0⟩] scope pos) 0 it acc env) R s := by
  refine codeAny_loop rfl I (fun n s hI => ?_) n h
  show wpAny _ A ((compTurn (.ListComp elt [⟨target, iter, ifs, 0⟩] scope pos) 0 it acc env).onRaise (fun x => do noteFrame x env; theTreesLotGoes x)) _ _ s
  refine wpAny_noted ?_
  rw [compTurn_list]
  refine wpAny_bind (wpAny_standAt (wpAny_bind (wpAny_mono (turn n s hI) (fun r s₁ h₁ => ?_) fun _ _ h' => h'.elim)))
  cases r with
  | none => exact wpAny_pure h₁
  | some v =>
    refine wpAny_bind (wpAny_mono h₁ (fun _ s₀ h₀ => ?_) fun _ _ h' => h'.elim)
    refine wpAny_bind (wpAny_mono h₀ (fun _ s₂ h₂ => wpAny_bind (wpAny_mono h₂ (fun ok s₃ h₃ => ?_) fun _ _ h' => h'.elim)) fun _ _ h' => h'.elim)
    cases ok with
    | false => exact wpAny_pure ⟨rfl, h₃⟩
    | true =>
      exact wpAny_bind (wpAny_bind (wpAny_mono h₃ (fun x s₄ h₄ => wpAny_bind (wpAny_mono h₄ (fun _ s₅ h₅ => wpAny_pure (wpAny_pure ⟨rfl, h₅⟩)) fun _ _ h' => h'.elim)) fun _ _ h' => h'.elim))
end L2
set_option Elab.async false
set_option linter.all false
set_option maxRecDepth 100000
set_option maxHeartbeats 4000000
namespace L2
open PySem PySem.Spec PyProof.Rows
theorem Inv.track {X : Cx} {pins : List (Addr × Obj)} {σ : St} {H : Hp} {s : Shared} {a : Addr} {o : HO} (I : Inv X pins σ H s) (hn : H a = none) (hy : X.s₀.heap.objs.size ≤ a) (hL : a ≠ X.env.locals) (hC : ∀ x c, X.env.cells.lookup x = some c → c ≠ a)
    (hP : ∀ p ∈ X.pn ++ pins, p.1 ≠ a) (new : ObjOk X.prog X.w (upd H a o) s.heap a o) : Inv X pins σ (upd H a o) s := by
  refine ⟨I.ok, I.os, I.bare, ⟨I.base.keep, I.base.slot, fun b ob e n hx => ?_, I.base.there, fun b xs e => ?_, fun b ob u e => ?_, fun b ps e => ?_⟩, I.loc, I.cell, ?_, fun x c e => ?_, fun p hp => ?_, fun b u e => ?_, I.len⟩
  · rw [upd_ne (Nat.ne_of_lt (Nat.lt_of_lt_of_le (Heap.lt_size e) hy))]
    exact I.base.free b ob e n hx
  · have z := I.base.tups b xs e
    rw [upd_ne (ne_of_none z hn)]; exact z
  · have z := I.base.frzs b ob u e
    rw [upd_ne (ne_of_none z hn)]; exact z
  · obtain ⟨m, z⟩ := I.base.tbls b ps e
    exact ⟨m, by rw [upd_ne (ne_of_none z hn)]; exact z⟩
  · rw [upd_ne (Ne.symm hL)]; exact I.free
  · rw [upd_ne (hC x c e)]; exact I.freeC x c e
  · obtain ⟨e, n, r⟩ := I.pin p hp
    exact ⟨e, by rw [upd_ne (hP p hp)]; exact n, r⟩
  · by_cases hb : b = a
    · subst hb; rw [upd_same] at e; cases e; exact new
    · rw [upd_ne hb] at e
      exact (I.hok b u e).stay (fun c v _ q => q) (fun c q => by rw [upd_ne (ne_of_none q hn)]; exact q) fun c xs q => by rw [upd_ne (ne_of_none q hn)]; exact q
def CompW (J : It) (g : TG) (tt : TT) (te : TE) (τ₀ : St) (H1 : Hp) (Fin : List V → Hp → Prop) : Prop :=
  ∃ (n : Nat) (W : Nat → St → List V → Hp → Prop), W 0 τ₀ [] H1 ∧ ∀ i τ acc H, i ≤ n → W i τ acc H →
    (J.stop i H ∧ Fin acc H) ∨ (i < n ∧ J.go i H ∧ ∀ x H', J.yld i H x H' → g x τ H' fun τ2 H2 => tt τ2 H2 fun b H3 => if b = true then te τ2 H3 fun v H4 => acc.length < sizeLine ∧ W (i + 1) τ2 (acc ++ [v]) H4 else W (i + 1) τ2 acc H3)
structure CompOk (X : Cx) (scope : Scope) (M : List Str) (k : Nat) (cap : List Nat) : Prop where
  kind : scope.kind = .function
  cell : ∀ y ∈ scope.names, y.2 ≠ .cell
  free : ∀ y ∈ scope.names, y.2 = .free → X.env.kindOf y.1 = some .cell ∨ X.env.kindOf y.1 = some .free
  names : ∀ y ∈ scope.names, y.2 = .local → scope.names.lookup y.1 = some .local
  len : M.length = k + cap.length
  caps : ∀ (j i : Nat) (x : Str), cap[j]? = some i → M[k + j]? = some x → X.N[i]? = some x ∧ scope.names.lookup x = some .free
section
variable {X : Cx} {pins : List (Addr × Obj)} {σ : St} {tg elt iter : Expr} {ifs : List Expr} {scope : Scope} {pos : Pos} {M : List Str} {k : Nat} {cap : List Nat} {g : TG} {tt : TT} {te : TE}
theorem Inv.hasFree {H : Hp} {s : Shared} (I : Inv X pins σ H s) (ok : CompOk X scope M k cap) : ∀ y ∈ scope.names, y.2 = .free → ∃ c, X.env.cells.lookup y.1 = some c := fun y hy e => I.ok.has y.1 (ok.free y hy e)
theorem Inv.block {H : Hp} {s s4 : Shared} {fp : List Addr} {C D : Addr} {oD : Obj} {m : Str → Option Value} (I : Inv X pins σ H s) (ok : CompOk X scope M k cap) (f2 : ∀ b ∈ fp, FpOk X pins H b) (hfo : ∀ b ∈ fp, ∃ o, s.heap.get? b = some o ∧ ∀ v, o.data ≠ .cell v)
    (hC : s.heap.objs.size ≤ C) (hDC : D ≠ C) (hD : s.heap.objs.size ≤ D) (old : ∀ b o, s.heap.get? b = some o → s4.heap.get? b = some o) (os : s4.os = s.os) (gens : s4.gens = s.gens)
    (ns : s4.heap.Ns C m) (hoD : s4.heap.get? D = some oD) (hdD : ∀ v, oD.data ≠ .cell v) : Inv (compCx X scope M C s H fp) [(D, oD)] (capS k cap σ) H s4 := by
  have hf := I.hasFree ok
  have fr : ∀ a, s.heap.objs.size ≤ a → H a = none := fun a ha => I.hok.fresh ha
  have nfs : ∀ b ∈ frs X.stack, b < s.heap.objs.size := fun b hb => by
    rcases List.mem_cons.mp (I.stkSub b hb) with e | e
    · rw [e]; exact I.lt
    · exact Nat.lt_of_not_le fun z => I.nofs z e
  have cl : ∀ x c, (clOf X.env scope.names).lookup x = some c → X.env.cells.lookup x = some c := fun x c e => of_clOf hf e
  refine ⟨⟨I.ok.mod, ok.kind, I.ok.glob, I.ok.blt, hC, fun x y c e1 e2 => I.ok.inj x y c (cl x c e1) (cl y c e2), fun x hx => ?_, fun x c e _ => ?_, I.ok.hd, I.ok.frames, .inl rfl, fun b hb => ?_, I.bs, Nat.le_trans I.ok.bsz I.sz, fun b o e hb => ?_, fun b hb z => ?_, I.stack, I.stkFree⟩,
    os, by rw [gens]; exact I.bare, Un.kept old, ⟨m, ns, fun i x v h1 h2 h3 => ?_⟩, fun x c e => ?_, fr C hC, fun x c e => I.freeC x c (cl x c e), fun p hp => ?_, I.hok.kept old, ?_⟩
  · have hx : (relabel scope X.env).names.lookup x = some .cell ∨ (relabel scope X.env).names.lookup x = some .free := hx
    have hm : (x, NameKind.free) ∈ scope.names := by
      rcases hx with h | h
      · exact of_relabel (env := X.env) (.inl rfl) ok.cell h
      · exact of_relabel (env := X.env) (.inr rfl) ok.cell h
    obtain ⟨c, hc⟩ := hf _ hm rfl
    exact ⟨c, clOf_has hm hc⟩
  · cases e
  · obtain ⟨f0, f1, f2, f3, f4, f5⟩ := f2 b hb
    obtain ⟨ob, eb, _⟩ := hfo b hb
    exact ⟨Nat.ne_of_lt (Nat.lt_of_lt_of_le (Heap.lt_size eb) hC), fun x c e => f4 x c (cl x c e)⟩
  · obtain ⟨f0, f1, f2, f3, f4, f5⟩ := f2 b hb
    rcases f3 with q | q
    · exact I.ok.noex b o e q
    · exact absurd (Nat.lt_of_lt_of_le (Heap.lt_size e) (Nat.le_trans I.ok.bsz q)) (Nat.lt_irrefl _)
  · obtain ⟨f0, f1, f2, f3, f4, f5⟩ := f2 b hb
    rcases List.mem_cons.mp (I.stkSub b z) with q | q
    · exact f1 q
    · exact f2 q
  · unfold capS at h2
    have hk : ¬ i < k := fun q => by
      rw [List.getElem?_append_left (by simpa using q), List.getElem?_replicate] at h2
      split at h2 <;> cases h2
    rw [List.getElem?_append_right (by simpa using hk), List.length_replicate, List.getElem?_map] at h2
    cases e : cap[i - k]? with
    | none => rw [e] at h2; cases h2
    | some j =>
      rw [e] at h2
      have h2' : (σ[j]?).join = some v := Option.some.inj h2
      have hj : σ[j]? = some (some v) := by
        cases q : σ[j]? with
        | none => rw [q] at h2'; cases h2'
        | some z => rw [q] at h2'; simp at h2'; rw [h2']
      have hix : k + (i - k) = i := by omega
      obtain ⟨hN, hfr⟩ := ok.caps (i - k) j x e (by rw [hix]; exact h1)
      have hm : (x, NameKind.free) ∈ scope.names := PySem.mem_of_lookup hfr
      have hkx := ok.free _ hm rfl
      obtain ⟨mX, hnX, hlX⟩ := I.loc
      obtain ⟨u, ru, lk⟩ := hlX j x v hN hj (by rcases hkx with q | q; exact .inr (.inl q); exact .inr (.inr q))
      refine ⟨u, ru, .inr ⟨relabel_free (env := X.env) hfr, ?_⟩⟩
      rcases lk with ⟨q, _⟩ | ⟨_, c, hc, hcell⟩
      · rcases hkx with z | z
        · rw [show X.env.kindOf x = some .cell from z] at q; cases q
        · rw [show X.env.kindOf x = some .free from z] at q; cases q
      · exact ⟨c, clOf_has hm hc, hcell.keeps old⟩
  · obtain ⟨v, z⟩ := I.cell x c (cl x c e)
    exact ⟨v, z.keeps old⟩
  · have e : p = (D, oD) := by simpa [compCx] using hp
    subst e
    exact ⟨hoD, fr D hD, hDC, fun z => absurd (Nat.lt_of_lt_of_le (nfs D z) hD) (Nat.lt_irrefl _), hdD⟩
  · unfold capS
    rw [List.length_append, List.length_replicate, List.length_map]
    exact ok.len.symm
theorem comp_core {H2 : Hp} {s2 : Shared} {J : It} {fp : List Addr} {it : Addr} {tn : Nat → Heap → Prop} {RR : Value → Addr → Result → Shared → Prop} {E : Value → Shared → Prop} {Fin : List V → Hp → Prop} (I2 : Inv X pins σ H2 s2) (hc : X.calm = true) (ok : CompOk X scope M k cap)
    (T : Turn X.prog X.w X.K tg J fp it tn) (st2 : tn 0 s2.heap) (f2 : ∀ b ∈ fp, FpOk X pins H2 b)
    (hg : ∀ C s H fp, PG (compCx X scope M C s H fp) tg g) (ht : ∀ C s H fp, PTs (compCx X scope M C s H fp) ifs tt) (he : ∀ C s H fp, PE (compCx X scope M C s H fp) elt te)
    (hW : CompW J g tt te (capS k cap σ) H2 Fin)
    (hRR : ∀ D C s' H' acc, Inv X pins σ (upd H' D (.lst acc)) s' → FpOk X pins (upd H' D (.lst acc)) C → (∃ m, s'.heap.Ns C m) → H' D = none → Fin acc H' → RR (.ref D) C (.ok .next) s') :
    wpAny (model X.prog X.w) X.A (newList []) (fun acc s₃ => wpAny (model X.prog X.w) X.A (newFunctionEnv scope X.env.globals (clOf X.env scope.names) [] X.env.qual none .none (some X.env)) (fun cenv s₄ =>
      codeAny (model X.prog X.w) X.A (.compStart (.ListComp elt [⟨tg, iter, ifs, 0⟩] scope pos) 0 (.ref it) acc { cenv with scope := relabel scope X.env }) (RR acc cenv.locals) s₄) E s₃) E s2 := by
  refine wpAny_newObj_type (wpAny_newFunctionEnv ok.cell (by intro y hy; simp at hy) (fun h₁ hns₁ hsb₁ => ?_) ok.kind)
  dsimp only at hns₁ hsb₁ ⊢
  generalize hH2 : s2.heap.push { cls := .type "list", dict := none, data := .seq ([] : List Value).toArray } = H3 at hns₁ hsb₁ ⊢
  have hCs : H3.objs.size = s2.heap.objs.size + 1 := by rw [← hH2, Heap.size_push]
  have hDC : s2.heap.objs.size ≠ H3.objs.size := by rw [hCs]; exact Nat.ne_of_lt (Nat.lt_succ_self _)
  have below : ∀ b, b < s2.heap.objs.size → b ≠ H3.objs.size ∧ b ≠ s2.heap.objs.size := fun b hb => ⟨by rw [hCs]; exact Nat.ne_of_lt (Nat.lt_succ_of_lt hb), Nat.ne_of_lt hb⟩
  have old : ∀ b o, s2.heap.get? b = some o → h₁.get? b = some o := fun b o e => hsb₁.extBut b o (below b (Heap.lt_size e)).1 (Heap.get?_push_of_some _ (hH2 ▸ Heap.get?_push_of_some _ e))
  have hacc : h₁.get? s2.heap.objs.size = some { cls := .type "list", data := .seq ([] : List Value).toArray 0 } := hsb₁.extBut _ _ hDC (Heap.get?_push_of_some _ (hH2 ▸ Heap.get?_push_size _ rfl))
  have hfo := T.obj 0 _ st2
  have hCle : s2.heap.objs.size ≤ H3.objs.size := by rw [hCs]; exact Nat.le_succ _
  obtain ⟨N, W, w0, turn⟩ := hW
  have st1 : tn 0 h₁ := T.keep _ _ _ st2 fun b _ o e => old b o e
  have loop : ∀ s₃ : Shared, s₃ = { s2 with heap := h₁, toks := s2.toks + ([] : List (Str × Value)).length } →
      codeAny (model X.prog X.w) X.A (.compLoop (.ListComp elt [⟨tg, iter, ifs, 0⟩] scope pos) 0 (.ref it) (.ref s2.heap.objs.size) (compEnvC scope (clOf X.env scope.names) H3.objs.size X.env))
        (RR (.ref s2.heap.objs.size) H3.objs.size) s₃ := by
    rintro s₃ rfl
    have I3 : Inv (compCx X scope M H3.objs.size s2 H2 fp) [(s2.heap.objs.size, { cls := .type "list", data := .seq ([] : List Value).toArray 0 })] (capS k cap σ) H2 { s2 with heap := h₁, toks := s2.toks + ([] : List (Str × Value)).length } :=
      I2.block ok f2 hfo hCle hDC (Nat.le_refl _) old rfl rfl hns₁ hacc (fun v z => by cases z)
    have fpS : ∀ b ∈ fp, b ≠ H3.objs.size ∧ b ≠ s2.heap.objs.size := fun b hb => let ⟨o, e, _⟩ := hfo b hb; below b (Heap.lt_size e)
    have stat : ∀ {H' : Hp} {oD : Obj}, (∀ b ∈ fp, H' b = none) → ∀ b ∈ fp, FpOk (compCx X scope M H3.objs.size s2 H2 fp) [(s2.heap.objs.size, oD)] H' b := fun {H' oD} hn b hb => by
      obtain ⟨f0, f1, f2, f3, f4, f5⟩ := f2 b hb
      refine ⟨hn b hb, (fpS b hb).1, fun z => ?_, .inl hb, fun x c e => f4 x c (of_clOf (I2.hasFree ok) e), fun p hp z => ?_⟩
      · rcases List.mem_cons.mp (I2.stkSub b z) with q | q
        · exact f1 q
        · exact f2 q
      · have e : p = (s2.heap.objs.size, oD) := by simpa [compCx] using hp
        subst e
        exact (fpS b hb).2 z.symm
    refine codeAny_compLoop_go (fun n s' => ∃ (i : Nat) (τ : St) (acc : List V) (us : List Value) (c : Nat) (H' : Hp), Vals acc us ∧ acc.length ≤ sizeLine ∧
      Inv (compCx X scope M H3.objs.size s2 H2 fp) [(s2.heap.objs.size, { cls := .type "list", data := .seq us.toArray c })] τ H' s' ∧ tn i s'.heap ∧ (∀ b ∈ fp, H' b = none) ∧ n = N - i ∧ i ≤ N ∧ W i τ acc H') ?_ N
      ⟨0, capS k cap σ, [], [], 0, H2, .nil, Nat.zero_le _, I3, st1, fun b hb => (f2 b hb).1, rfl, Nat.zero_le _, w0⟩
    rintro n s3 ⟨i, τ, acc, us, c, H', rv, hlen, I, st, fr, rfl, hiN, w⟩
    have pinD := (I.pin (s2.heap.objs.size, { cls := .type "list", data := .seq us.toArray c }) (by simp [compCx]))
    rcases turn i τ acc H' hiN w with ⟨stop, qn⟩ | ⟨hlt, go, step⟩
    · refine thn (T.done (compCx X scope M H3.objs.size s2 H2 fp) rfl rfl rfl hc i _ s3 τ H' (fun _ _ => False) I (stat fr) st stop) fun r s4 ⟨hr, I4⟩ => ?_
      subst hr
      have pinD4 := (I4.pin (s2.heap.objs.size, { cls := .type "list", data := .seq us.toArray c }) (by simp [compCx]))
      have hch : ∀ b ∈ fp, (b ∈ X.ex ∨ X.s₀.heap.objs.size ≤ b) ∧ b ≠ X.env.locals ∧ (∀ x c, X.env.cells.lookup x = some c → c ≠ b) ∧ ∀ p ∈ X.pn ++ pins, p.1 ≠ b := fun b hb => by
        obtain ⟨f0, f1, f2, f3, f4, f5⟩ := f2 b hb
        exact ⟨f3, f1, f4, f5⟩
      have J1 : Inv X pins σ H' s4 := I2.call' (ch := fp) I4.os I4.base I4.hok I4.bare hch
      have young : X.s₀.heap.objs.size ≤ s2.heap.objs.size := I2.sz
      have apart : ∀ a, s2.heap.objs.size ≤ a → a ≠ X.env.locals ∧ (∀ x c, X.env.cells.lookup x = some c → c ≠ a) ∧ ∀ p ∈ X.pn ++ pins, p.1 ≠ a := fun a ha =>
        ⟨Nat.ne_of_gt (Nat.lt_of_lt_of_le I2.lt ha), fun x c e z => by
          obtain ⟨v, q⟩ := I2.cell x c e
          exact absurd (Nat.lt_of_lt_of_le q.lt (by rw [z]; exact ha)) (Nat.lt_irrefl _), fun p hp z => absurd (Nat.lt_of_lt_of_le (Heap.lt_size (I2.pin p hp).1) (by rw [z]; exact ha)) (Nat.lt_irrefl _)⟩
      have aD := apart _ (Nat.le_refl _)
      have aC := apart _ hCle
      have J2 : Inv X pins σ (upd H' s2.heap.objs.size (.lst acc)) s4 := J1.track pinD4.2.1 young aD.1 aD.2.1 aD.2.2 ⟨hlen, us, c, rv, pinD4.1⟩
      obtain ⟨m, hn, _⟩ := I4.loc
      have hCn : H' H3.objs.size = none := I4.free
      refine hRR _ _ s4 H' acc J2 ⟨?_, aC.1, I2.nofs hCle, .inr (Nat.le_trans young hCle), aC.2.1, aC.2.2⟩ ⟨m, hn⟩ pinD4.2.1 qn
      rw [upd_ne (Ne.symm hDC)]; exact hCn
    · refine thn (T.item (compCx X scope M H3.objs.size s2 H2 fp) rfl rfl rfl hc i _ s3 τ H' (fun _ _ => False) I (stat fr) st go) fun r s4 ⟨u, hr, h4⟩ => ?_
      subst hr
      refine thn h4 fun _ s5 ⟨x, H5, I5, r5, y5, st5, fr5⟩ => ?_
      have I5' := I5.pinned (stat fr5) (T.obj _ _ st5)
      refine thn (hg _ _ _ _ _ s5 τ H5 x u _ I5' r5 (step x H5 y5)) fun _ s6 ⟨τ6, H6, I6, q6⟩ => ?_
      refine thn (ht _ _ _ _ _ s6 τ6 H6 _ I6 q6) fun b s7 ⟨H7, I7, q7⟩ => ?_
      have keepit : ∀ {s' : Shared} {τ' : St} {Hn : Hp}, Inv (compCx X scope M H3.objs.size s2 H2 fp) ([(s2.heap.objs.size, { cls := .type "list", data := .seq us.toArray c })] ++ pinsAt fp s5.heap) τ' Hn s' → tn (i + 1) s'.heap ∧ ∀ b ∈ fp, Hn b = none := fun {s' τ' Hn} I' => by
        refine ⟨T.keep _ _ _ st5 fun b hb o e => (I'.pin (b, o) (List.mem_append_right _ (List.mem_append_right _ (mem_pinsAt hb e)))).1, fun b hb => ?_⟩
        obtain ⟨o, e, d⟩ := T.obj _ _ st5 b hb
        exact (I'.pin (b, o) (List.mem_append_right _ (List.mem_append_right _ (mem_pinsAt hb e)))).2.1
      cases b with
      | false =>
        rw [if_neg Bool.false_ne_true] at q7
        show ∃ m, m < N - i ∧ _
        obtain ⟨st7, fr7⟩ := keepit I7
        exact ⟨N - (i + 1), by omega, i + 1, τ6, acc, us, c, H7, rv, hlen, I7.unpinned, st7, fr7, rfl, hlt, q7⟩
      | true =>
        rw [if_pos rfl] at q7
        show wpAny _ _ (eval elt _) _ _ s7
        refine thn (he _ _ _ _ _ s7 τ6 H7 _ I7 q7) fun v s8 ⟨y, H8, I8, r8, hl8, w8⟩ => ?_
        obtain ⟨st8, fr8⟩ := keepit I8
        have pinD8 := (I8.pin (s2.heap.objs.size, { cls := .type "list", data := .seq us.toArray c }) (by simp [compCx]))
        have hul := rv.length
        refine append_at (hsz := by show us.toArray.size ≤ sizeLine; rw [List.size_toArray, ← hul]; exact hlen) pinD8.1 fun h9 sb9 e9 => ?_
        have e9' : h9.get? s2.heap.objs.size = some { cls := .type "list", data := .seq (us ++ [v]).toArray (c + 1) } := by rw [e9, List.push_toArray]
        have I8u := I8.unpinned
        have hLoc : s2.heap.objs.size ≠ (compCx X scope M H3.objs.size s2 H2 fp).env.locals := pinD8.2.2.1
        have nx : ∀ (b : Addr), H8 b ≠ none → b ≠ s2.heap.objs.size := fun b hb z => hb (by rw [z]; exact pinD8.2.1)
        refine ⟨N - (i + 1), by omega, i + 1, τ6, acc ++ [y], us ++ [v], c + 1, H8, rv.append (.cons r8 .nil), by rw [List.length_append, List.length_singleton]; exact hl8, ?_, ?_, fr8, rfl, hlt, w8⟩
        · have I9 : Inv (compCx X scope M H3.objs.size s2 H2 fp) [] τ6 H8 s8 := I8u.pins_of (fun p hp => absurd hp (by simp))
          have I10 : Inv (compCx X scope M H3.objs.size s2 H2 fp) [] τ6 H8 { s8 with heap := h9 } := I9.turned (t' := s8.toks) (fun b o hb e => (sb9.2 b hb).trans e) pinD8.2.1 hLoc (.inr (Nat.le_refl _))
            (fun x cc e z => by
              obtain ⟨v', q⟩ := I2.cell x cc (of_clOf (I2.hasFree ok) e)
              exact absurd (Nat.lt_of_lt_of_le q.lt (by rw [z]; exact Nat.le_refl _)) (Nat.lt_irrefl _)) (fun p hp => absurd hp (by simp [compCx]))
          refine I10.pins_of fun p hp => ?_
          have e : p = (s2.heap.objs.size, { cls := .type "list", data := .seq (us ++ [v]).toArray (c + 1) }) := by simpa using hp
          subst e
          exact ⟨e9', pinD8.2.1, hLoc, pinD8.2.2.2.1, fun v' z => by cases z⟩
        · exact T.keep _ _ _ st8 fun b hb o e => sb9.extBut b o (fpS b hb).2 e
  exact codeAny_compStart_list (loop _ rfl) (T.self _ 0 _ _ _ st1 (loop _ rfl))
def tComp (wi : TI) (g : TG) (tt : TT) (te : TE) (k : Nat) (cap : List Nat) : TE := fun σ H Q => wi σ H fun J H1 => CompW J g tt te (capS k cap σ) H1 fun acc H' => ∀ l, H' l = none → Q (.ref l) (upd H' l (.lst acc))
theorem pe_comp {wi : TI} (hc : X.calm = true) (ok : CompOk X scope M k cap) (hi : PI X tg iter wi)
    (hg : ∀ C s H fp, PG (compCx X scope M C s H fp) tg g) (ht : ∀ C s H fp, PTs (compCx X scope M C s H fp) ifs tt) (he : ∀ C s H fp, PE (compCx X scope M C s H fp) elt te)
    (hs : ∀ x, foldedSetIterable iter X.env x = pure x := by intro _; rfl) : PE X (.ListComp elt [⟨tg, iter, ifs, 0⟩] scope pos) (tComp wi g tt te k cap) := by
  intro pins s σ H Q I h
  rw [eval_ListComp]
  refine wpAny_comprehension_free (use := none) rfl hs (closureFor_clOf (I.hasFree ok)) ok.kind ok.names (thn (hi pins s σ H _ I h) fun v s1 h1 => thn h1 fun itv s2 h2 => ?_)
  obtain ⟨it, fp, tn, J, H2, e, I2, T, st2, f2, hW⟩ := h2
  subst e
  refine comp_core (RR := fun acc C => compPost (model X.prog X.w) X.A X.xe none (EP X pins σ Q) acc C) I2 hc ok T st2 f2 hg ht he hW ?_
  intro D C s' H' acc I' fC ⟨m, hn⟩ hD hq
  refine ⟨m, hn, fun h' sb => ?_⟩
  obtain ⟨f0, f1, f2, f3, f4, f5⟩ := fC
  exact ⟨.ref D, _, I'.turned (t' := s'.toks) (fun b o hb e => (sb.2 b hb).trans e) f0 f1 f3 f4 f5, rfl, hq D hD⟩
def sComp (wi : TI) (g : TG) (tt : TT) (te : TE) (k : Nat) (cap : List Nat) (i : Nat) : TS := fun D σ H => tComp wi g tt te k cap σ H fun v H' => D.nx (σ.set i (some v)) H'
theorem ps_comp {wi : TI} {i : Nat} {x : Str} {px spos : Pos} (hc : X.calm = true) (ok : CompOk X scope M k cap) (hN : X.N.Nodup) (hix : X.N[i]? = some x) (hx : Loc X.env.scope x) (hi : PI X tg iter wi)
    (hg : ∀ C s H fp, PG (compCx X scope M C s H fp) tg g) (ht : ∀ C s H fp, PTs (compCx X scope M C s H fp) ifs tt) (he : ∀ C s H fp, PE (compCx X scope M C s H fp) elt te)
    (hsw : swapsWith (.ListComp elt [⟨tg, iter, ifs, 0⟩] scope pos) (some (.Name x px)) spos.line X.env = pure true)
    (hs : ∀ x, foldedSetIterable iter X.env x = pure x := by intro _; rfl) (hf : X.fn x = true ∨ X.env.scope.names.lookup x = some .local := by first | exact .inl rfl | exact .inr rfl | assumption) :
    PS X (.Assign [.Name x px] (.ListComp elt [⟨tg, iter, ifs, 0⟩] scope pos) spos) (sComp wi g tt te k cap i) := by
  intro pins s σ H D I h
  rw [exec_Assign_Name_used _ _ _ _ hsw]
  refine wpAny_bind (wpAny_standAt (wpAny_bind ?_))
  show wpAny _ X.A (do let _ ← comprehension (.ListComp elt [⟨tg, iter, ifs, 0⟩] scope pos) scope X.env _ (newList []) false (eval iter X.env) (some (assign (.Name x px) X.env))) _ _ s
  refine wpAny_bind (wpAny_mono (wpAny_comprehension_free (use := some (assign (.Name x px) X.env)) (Q := fun _ s' => SP X pins D .next s') rfl hs (closureFor_clOf (I.hasFree ok)) ok.kind ok.names
    (thn (hi pins s σ H _ I h) fun v s1 h1 => thn h1 fun itv s2 h2 => ?_)) (fun _ s' hq => wpAny_pure (wpAny_pure hq)) fun _ _ e => e)
  obtain ⟨it, fp, tn, J, H2, e, I2, T, st2, f2, hW⟩ := h2
  subst e
  refine comp_core (RR := fun acc C => compPost (model X.prog X.w) X.A X.xe (some (assign (.Name x px) X.env)) (fun _ s' => SP X pins D .next s') acc C) I2 hc ok T st2 f2 hg ht he hW ?_
  intro D' C s' H' acc I' fC ⟨m, hn⟩ hD hq
  obtain ⟨f0, f1, f2, f3, f4, f5⟩ := fC
  show wpAny _ X.A (assign (.Name x px) X.env (.ref D')) _ _ _
  refine wpAny_assign_Name (store_ok2 I' hN hix hx (v := .ref D') rfl (fun s'' I'' ⟨a, sb, ha⟩ => ?_) hf)
  have hCa : C ≠ a := by
    rcases ha with e | e
    · rw [e]; exact f1
    · exact fun z => f4 _ _ e z.symm
  refine ⟨m, hn.sameBut sb hCa, fun h' sb' => ⟨_, _, I''.turned (t' := s''.toks) (fun b o hb e => (sb'.2 b hb).trans e) f0 f1 f3 f4 f5, hq D' hD⟩⟩
end
end L2
set_option Elab.async false
set_option linter.all false
set_option maxRecDepth 100000
set_option maxHeartbeats 4000000
namespace L2
open PySem PySem.Spec PyProof.Rows
def chr1 (c : Nat) : Str := ⟨#[c]⟩
theorem comp_list {K : PySem.W.Frag} {a : Addr} {xs : List V} {g : TG} {tt : TT} {te : TE} {τ : St} {H : Hp} {Fin : List V → Hp → Prop} (Pv : Nat → St → List V → Hp → Prop) (h0 : Pv 0 τ [] H) (hl : ∀ i τ acc H, i ≤ xs.length → Pv i τ acc H → SqL K H a xs)
    (hs : ∀ i x τ acc H, xs[i]? = some x → Pv i τ acc H → g x τ H fun τ2 H2 => tt τ2 H2 fun b H3 => if b = true then te τ2 H3 fun v H4 => acc.length < sizeLine ∧ Pv (i + 1) τ2 (acc ++ [v]) H4 else Pv (i + 1) τ2 acc H3)
    (hd : ∀ τ acc H, Pv xs.length τ acc H → Fin acc H) : CompW (Itl K a) g tt te τ H Fin := by
  refine ⟨xs.length, Pv, h0, fun i τ acc H hi p => ?_⟩
  have q := hl i τ acc H hi p
  by_cases hlt : i < xs.length
  · refine .inr ⟨hlt, ⟨xs, xs[i], q, by simp [hlt]⟩, fun x H' y => ?_⟩
    obtain ⟨e, y⟩ := y
    subst e
    exact hs i x τ acc _ (y xs q) p
  · have e : i = xs.length := by omega
    subst e
    exact .inl ⟨⟨xs, q, Nat.le_refl _⟩, hd τ acc H p⟩
theorem comp_range {lo : Int} {n : Nat} {g : TG} {tt : TT} {te : TE} {τ : St} {H : Hp} {Fin : List V → Hp → Prop} (Pv : Nat → St → List V → Hp → Prop) (h0 : Pv 0 τ [] H)
    (hs : ∀ i τ acc H, i < n → Pv i τ acc H → g (.int (lo + i)) τ H fun τ2 H2 => tt τ2 H2 fun b H3 => if b = true then te τ2 H3 fun v H4 => acc.length < sizeLine ∧ Pv (i + 1) τ2 (acc ++ [v]) H4 else Pv (i + 1) τ2 acc H3)
    (hd : ∀ τ acc H, Pv n τ acc H → Fin acc H) : CompW (Itr lo n) g tt te τ H Fin := by
  refine ⟨n, Pv, h0, fun i τ acc H hi p => ?_⟩
  by_cases hlt : i < n
  · refine .inr ⟨hlt, hlt, fun x H' y => ?_⟩
    obtain ⟨e, y⟩ := y
    subst e y
    exact hs i τ acc _ hlt p
  · have e : i = n := by omega
    subst e
    exact .inl ⟨Nat.le_refl _, hd τ acc H p⟩
def compOkB (names outer : List (Str × NameKind)) (N M : List Str) (k : Nat) (cap : List Nat) : Bool :=
  names.all (fun y => y.2 != .cell) && (names.all (fun y => y.2 != .free || (outer.lookup y.1 == some .cell || outer.lookup y.1 == some .free)) && (names.all (fun y => y.2 != .local || names.lookup y.1 == some .local) &&
    (M.length == k + cap.length && (List.range cap.length).all (fun j => match cap[j]?, M[k + j]? with | some i, some x => N[i]? == some x && names.lookup x == some .free | _, _ => true))))
theorem CompOk.of {X : Cx} {scope : Scope} {M : List Str} {k : Nat} {cap : List Nat} (outer : List (Str × NameKind)) (N : List Str) (h : compOkB scope.names outer N M k cap = true) (ho : X.env.scope.names = outer := by rfl) (hN : X.N = N := by rfl) (hk : scope.kind = .function := by rfl) : CompOk X scope M k cap := by
  unfold compOkB at h
  simp only [Bool.and_eq_true, List.all_eq_true, Bool.or_eq_true, bne_iff_ne, ne_eq, beq_iff_eq] at h
  obtain ⟨h1, h2, h3, h4, h5⟩ := h
  refine ⟨hk, h1, fun y hy e => ?_, fun y hy e => ?_, h4, fun j i x e1 e2 => ?_⟩
  · rcases h2 y hy with z | z
    · exact absurd e z
    · show X.env.scope.names.lookup y.1 = _ ∨ X.env.scope.names.lookup y.1 = _
      rw [ho]; exact z
  · rcases h3 y hy with z | z
    · exact absurd e z
    · exact z
  · have hj : j < cap.length := (List.getElem?_eq_some_iff.mp e1).1
    have := h5 j (List.mem_range.mpr hj)
    rw [e1, e2] at this
    simp only [Bool.and_eq_true, beq_iff_eq] at this
    rw [hN]; exact this
section
variable {X : Cx}
theorem op_isB : OpR X (compareOp .Is) (fun x y H Q => ∃ a b, x = .bl a ∧ y = .bl b ∧ Q (.bl (a == b)) H) := by
  intro pins s σ H x y v u Q I rx ry h
  obtain ⟨a, b, rfl, rfl, q⟩ := h
  cases rx; cases ry
  exact is_bool (fin_bl I q rfl)
def KindIs (K : PySem.W.Frag) (H : Hp) : V → String → Prop
  | .non, n => n = "NoneType"
  | .bl _, n => n = "bool"
  | .int _, n => n = "int"
  | .str _, n => n = "str"
  | .ref a, n => (n = "list" ∧ ∃ xs, SqL K H a xs) ∨ (n = "tuple" ∧ ∃ xs, SqT K H a xs)
  | _, _ => False
def isiB (k T : String) : Bool := k == T || (k == "bool" && T == "int")
theorem call_isi : CallR X (.builtin "isinstance") (fun xs H Q => ∃ x k T, xs = [x, .ty T] ∧ KindIs X.K H x k ∧ (T = "int" ∨ T = "str" ∨ T = "bool" ∨ T = "list" ∨ T = "tuple") ∧ Q (.bl (isiB k T)) H) := by
  intro pins s σ H xs us Q I r h
  obtain ⟨x, k, T, rfl, hk, hT, q⟩ := h
  obtain ⟨u, w', rfl, rx, ry⟩ := vals2 r
  cases ry
  have fin : ∀ b, b = isiB k T → EP X pins σ Q (.bool b) s := fun b e => fin_bl I q e.symm
  have fin' : ∀ b, b = isiB k T → EP X pins σ Q (.bool b) { s with toks := s.toks + 1 } := fun b e => fin_bl (I.tok _) q e.symm
  cases x with
  | non =>
    cases rx
    have hk : k = "NoneType" := hk
    subst hk
    rcases hT with rfl | rfl | rfl | rfl | rfl
    · exact IsiPair.NoneType_int (fin' _ (by decide))
    · exact IsiPair.NoneType_str (fin' _ (by decide))
    · exact IsiPair.NoneType_bool (fin' _ (by decide))
    · exact IsiPair.NoneType_list (fin' _ (by decide))
    · exact IsiPair.NoneType_tuple (fin' _ (by decide))
  | bl b =>
    cases rx
    have hk : k = "bool" := hk
    subst hk
    rcases hT with rfl | rfl | rfl | rfl | rfl
    · exact IsiPair.bool_int (fin _ (by decide))
    · exact IsiPair.bool_str (fin' _ (by decide))
    · exact IsiPair.bool_bool (fin _ (by decide))
    · exact IsiPair.bool_list (fin' _ (by decide))
    · exact IsiPair.bool_tuple (fin' _ (by decide))
  | int i =>
    obtain ⟨t, rfl⟩ := rx
    have hk : k = "int" := hk
    subst hk
    rcases hT with rfl | rfl | rfl | rfl | rfl
    · exact IsiPair.int_int (fin _ (by decide))
    · exact IsiPair.int_str (fin' _ (by decide))
    · exact IsiPair.int_bool (fin' _ (by decide))
    · exact IsiPair.int_list (fin' _ (by decide))
    · exact IsiPair.int_tuple (fin' _ (by decide))
  | str z =>
    obtain ⟨t, rfl⟩ := rx
    have hk : k = "str" := hk
    subst hk
    rcases hT with rfl | rfl | rfl | rfl | rfl
    · exact IsiPair.str_int (fin' _ (by decide))
    · exact IsiPair.str_str (fin _ (by decide))
    · exact IsiPair.str_bool (fin' _ (by decide))
    · exact IsiPair.str_list (fin' _ (by decide))
    · exact IsiPair.str_tuple (fin' _ (by decide))
  | ref a =>
    cases rx
    rcases hk with ⟨hk, ys, hs⟩ | ⟨hk, ys, hs⟩
    · subst hk
      obtain ⟨its, _, ⟨o, n, e, hc, _⟩, _⟩ := I.list hs
      rcases hT with rfl | rfl | rfl | rfl | rfl
      · exact IsiPair.list_int e hc (fin' _ (by decide))
      · exact IsiPair.list_str e hc (fin' _ (by decide))
      · exact IsiPair.list_bool e hc (fin' _ (by decide))
      · exact IsiPair.list_list e hc (fin _ (by decide))
      · exact IsiPair.list_tuple e hc (fin' _ (by decide))
    · subst hk
      obtain ⟨its, _, ⟨o, e, hc, _⟩, _⟩ := I.tuple hs
      rcases hT with rfl | rfl | rfl | rfl | rfl
      · exact IsiPair.tuple_int e hc (fin' _ (by decide))
      · exact IsiPair.tuple_str e hc (fin' _ (by decide))
      · exact IsiPair.tuple_bool e hc (fin' _ (by decide))
      · exact IsiPair.tuple_list e hc (fin' _ (by decide))
      · exact IsiPair.tuple_tuple e hc (fin _ (by decide))
  | byt _ => exact False.elim hk
  | flt _ => exact False.elim hk
  | ty _ => exact False.elim hk
theorem pe_ty {x : Str} {n : String} {pos : Pos} (hg : Gl X x) (hm : X.mg x = none) (hv : bootBuiltins x = some (.type n)) (hn : x ≠ "__name__" := by decide) (hd : (x == ("__debug__" : Str)) = false := by decide) : PE X (.Name x pos) (tC (.ty n)) :=
  pe_bltn hg hm hv rfl hn hd
theorem truth_bools {prog : Program} {w : World} {A : Around} (its : List Value) (bs : List Bool) (hv : Vals (bs.map V.bl) its) : TruthOf prog w A (fun i v => its.toArray[i]? = some v) (fun i => bs.getD i false) := by
  intro i v s Q E hP hQ
  have hP' : its[i]? = some v := by simpa using hP
  have hl := hv.length
  rw [List.length_map] at hl
  have hi : i < its.length := (List.getElem?_eq_some_iff.mp hP').1
  have hb : (bs.map V.bl)[i]? = some (.bl bs[i]) := by simp [show i < bs.length by omega]
  obtain ⟨u, hu, ru⟩ := hv.get hb
  rw [hP'] at hu; cases hu
  cases ru
  have e : bs.getD i false = bs[i] := by simp [show i < bs.length by omega]
  have hQ' : Q (bs.getD i false) s := hQ
  rw [e] at hQ'
  exact wpAny_truthy_bool hQ'
theorem range_all (bs : List Bool) : (List.range bs.length).all (fun i => bs.getD i false) = bs.all id := by
  rw [Bool.eq_iff_iff, List.all_eq_true, List.all_eq_true]
  constructor
  · intro h b hb
    obtain ⟨i, hi, e⟩ := List.mem_iff_getElem.mp hb
    have := h i (List.mem_range.mpr hi)
    simp [hi] at this
    rw [← e]; exact this
  · intro h i hi
    have hi := List.mem_range.mp hi
    have := h bs[i] (List.getElem_mem hi)
    simp [hi]; exact this
theorem range_any (bs : List Bool) : (List.range bs.length).any (fun i => bs.getD i false) = bs.any id := by
  rw [Bool.eq_iff_iff, List.any_eq_true, List.any_eq_true]
  constructor
  · rintro ⟨i, hi, h⟩
    have hi := List.mem_range.mp hi
    simp [hi] at h
    exact ⟨bs[i], List.getElem_mem hi, h⟩
  · rintro ⟨b, hb, h⟩
    obtain ⟨i, hi, e⟩ := List.mem_iff_getElem.mp hb
    refine ⟨i, List.mem_range.mpr hi, ?_⟩
    simp [hi]; rw [e]; exact h
theorem call_all1 (hc : X.calm = true) : CallR X (.builtin "all") (fun xs H Q => ∃ (a : Addr) (bs : List Bool), xs = [.ref a] ∧ SqL X.K H a (bs.map V.bl) ∧ Q (.bl (bs.all id)) H) := by
  intro pins s σ H xs us Q I r h
  obtain ⟨a, bs, rfl, hs, q⟩ := h
  obtain ⟨u, rfl, ru⟩ := vals1 r
  cases ru
  obtain ⟨its, rv, p, hz⟩ := I.list hs
  have hl := rv.length
  rw [List.length_map] at hl
  refine call_all_walk (wpAny_pyIter_list p.isList ?_)
  have hne : a ≠ s.heap.objs.size := by obtain ⟨o, n, e, _⟩ := p; exact Nat.ne_of_lt (Heap.lt_size e)
  refine ⟨s.heap.objs.size, _, _, its.toArray.size, _, _, fun i => bs.getD i false, rfl, Walks.list (A := X.A.in1) (show X.A.in1.handled = none from I.ok.hd hc) _ a hne its.toArray, ⟨⟨_, Heap.get?_push_size _ rfl, rfl, rfl⟩, ?_⟩, truth_bools its bs rv, fun h' tk hk => ?_⟩
  · exact p.isList.at fun o e => Heap.get?_push_of_some _ e
  · have e1 : its.toArray.size = bs.length := by rw [List.size_toArray, ← hl]
    refine ⟨.bl (bs.all id), H, I.kept (h' := h') (t' := tk) (fun b o e => hk b o (fun z => absurd (Nat.lt_of_lt_of_le (Heap.lt_size e) (Nat.le_of_eq (List.mem_singleton.mp z).symm)) (Nat.lt_irrefl _)) (Heap.get?_push_of_some _ e)), ?_, q⟩
    show Value.bool _ = Value.bool _
    rw [e1, range_all]
theorem call_any1 (hc : X.calm = true) : CallR X (.builtin "any") (fun xs H Q => ∃ (a : Addr) (bs : List Bool), xs = [.ref a] ∧ SqL X.K H a (bs.map V.bl) ∧ Q (.bl (bs.any id)) H) := by
  intro pins s σ H xs us Q I r h
  obtain ⟨a, bs, rfl, hs, q⟩ := h
  obtain ⟨u, rfl, ru⟩ := vals1 r
  cases ru
  obtain ⟨its, rv, p, hz⟩ := I.list hs
  have hl := rv.length
  rw [List.length_map] at hl
  refine call_any_walk (wpAny_pyIter_list p.isList ?_)
  have hne : a ≠ s.heap.objs.size := by obtain ⟨o, n, e, _⟩ := p; exact Nat.ne_of_lt (Heap.lt_size e)
  refine ⟨s.heap.objs.size, _, _, its.toArray.size, _, _, fun i => bs.getD i false, rfl, Walks.list (A := X.A.in1) (show X.A.in1.handled = none from I.ok.hd hc) _ a hne its.toArray, ⟨⟨_, Heap.get?_push_size _ rfl, rfl, rfl⟩, ?_⟩, truth_bools its bs rv, fun h' tk hk => ?_⟩
  · exact p.isList.at fun o e => Heap.get?_push_of_some _ e
  · have e1 : its.toArray.size = bs.length := by rw [List.size_toArray, ← hl]
    refine ⟨.bl (bs.any id), H, I.kept (h' := h') (t' := tk) (fun b o e => hk b o (fun z => absurd (Nat.lt_of_lt_of_le (Heap.lt_size e) (Nat.le_of_eq (List.mem_singleton.mp z).symm)) (Nat.lt_irrefl _)) (Heap.get?_push_of_some _ e)), ?_, q⟩
    show Value.bool _ = Value.bool _
    rw [e1, range_any]
end
end L2
set_option Elab.async false
set_option linter.all false
set_option maxRecDepth 100000
namespace L2
open PySem PySem.Spec PyProof.Rows
structure DefAt (K : PySem.W.Frag) (mg : Str → Option Value) (x : Str) (st : Stmt) (f : Addr) (fd : FuncData) (ps : List Str) : Prop where
  fn : Fun K x x st f fd
  mg : mg x = some (.ref f)
  bd : Binds K fd ps []
section
variable {X : Cx} {k : Nat} {f : Addr} {fd : FuncData} {ps : List Str} {sp : Sp} {x : Str} {p pos : Pos} {e : Expr} {es : List Expr} {t : TA} {st : Stmt}
theorem pcall (D : DefAt X.K X.mg x st f fd ps) (F : FnOk X.prog X.w X.K X.mg X.base CX0 k f fd ps sp) (hr : Room k X.A) (ha : PA X (e :: es) t) (hg : Gl X x := by rfl) (hdb : (x == ("__debug__" : Str)) = false := by decide)
    (he : starEach (e :: es) X.env = (false, eval e X.env) :: starEach es X.env := by rfl) (hpl : (backTo pos (starEach es X.env)).any (·.1) = false := by rfl) :
    PE X (.Call (.Name x p) (e :: es) [] pos) (tCall sp [] E0 t) := pe_call F hr hg D.mg D.fn.kp D.bd .nil pass0 ha hdb he hpl
end
section
variable {X : Cx} {a b : Expr} {rest : List Expr} {pos : Pos} {ta tb : TE} {tA tB : TT}
end
theorem Same.put {H H' : Hp} {a : Addr} {o : HO} (s : Same H H') (h : H' a = none) : Same H (upd H' a o) := fun b u e => by
  have z := s b u e
  rw [upd_ne (ne_of_none z h)]; exact z
theorem same_upd {H : Hp} {a : Addr} {o : HO} (h : H a = none) : Same H (upd H a o) := (Same.refl H).put h
theorem atI_map {α : Type} {g : α → V} {xs : List α} {k : Int} (d : α) (h0 : 0 ≤ k) (hk : k < xs.length) : atI (xs.map g) k = some (g (xs.getD k.toNat d)) := by
  have hk' : k.toNat < xs.length := by omega
  have e : (xs.map g)[k.toNat]? = some (g (xs.getD k.toNat d)) := by simp [hk']
  have z := atI_nat e
  rwa [show ((k.toNat : Nat) : Int) = k by omega] at z
theorem atI_getD {α : Type} {xs : List α} {k : Int} (d : α) (h0 : 0 ≤ k) (hk : k < xs.length) : atI xs k = some (xs.getD k.toNat d) := by
  have hk' : k.toNat < xs.length := by omega
  have e : xs[k.toNat]? = some (xs.getD k.toNat d) := by simp [hk']
  have z := atI_nat e
  rwa [show ((k.toNat : Nat) : Int) = k by omega] at z
theorem bt_int : bootBuiltins "int" = some (.type "int") := by decide +kernel
theorem bt_bool : bootBuiltins "bool" = some (.type "bool") := by decide +kernel
theorem bt_list : bootBuiltins "list" = some (.type "list") := by decide +kernel
theorem bt_isi : bootBuiltins "isinstance" = some (.builtin "isinstance") := by decide +kernel
theorem bt_len : bootBuiltins "len" = some (.builtin "len") := by decide +kernel
theorem sl1000 {n : Nat} (h : n ≤ 1000) : n ≤ sizeLine := Nat.le_trans h (by decide)
end L2
set_option Elab.async false
set_option linter.all false
set_option maxRecDepth 100000
set_option maxHeartbeats 4000000
namespace L2
open PySem PySem.Spec PyProof.Rows
section
variable {X : Cx}
def insV (xs : List V) (k : Nat) (y : V) : List V := xs.take k ++ y :: xs.drop k
theorem insV_length (xs : List V) (k : Nat) (y : V) : (insV xs k y).length = xs.length + 1 := by
  unfold insV
  rw [List.length_append, List.length_cons, List.length_take, List.length_drop]
  omega
def rInsert : V → List V → Hp → VK → Prop := fun x vs H Q => ∃ l xs i y, x = .ref l ∧ vs = [.int i, y] ∧ H l = some (.lst xs) ∧ 0 ≤ i ∧ i < 2 ^ 62 ∧ xs.length < sizeLine ∧ Q .non (upd H l (.lst (insV xs i.toNat y)))
theorem mt_insert : MtM X "list.insert" rInsert := by
  intro pins s σ H x vs v us Q I rx rv h
  obtain ⟨l, xs, i, y, rfl, rfl, hH, h0, hi, hz, q⟩ := h
  cases rx
  obtain ⟨u, u', rfl, ⟨t, rfl⟩, ru⟩ := rv.two
  obtain ⟨z, its, n, r, hl, e⟩ := I.lstM hH
  have hfit : ¬ (!Builtin.List.listFitsIndex i) = true := by
    unfold Builtin.List.listFitsIndex
    simp
    omega
  refine call_meets F.slot_list_insert ⟨_, e, rfl⟩ F.entry_list_insert (F.args_list_insert_3 _ _ _) (PySem.AutoSeq1.list_insert_list_int_val_1 l its.toArray n i t u' hfit (by rw [List.size_toArray]; omega)) ⟨e, ?_⟩
  refine ⟨.non, _, I.lset (its' := its.take i.toNat ++ u' :: its.drop i.toNat) hH e ?_ ((r.take i.toNat).append (.cons ru (r.drop i.toNat))) ?_, rfl, q⟩
  · have h1 : ¬ i < 0 := by omega
    simp only [h1, if_false]
    apply Array.ext'
    simp only [Array.toList_append, Array.toList_push, Array.toList_extract, List.size_toArray]
    rw [List.extract_eq_drop_take, List.extract_eq_drop_take]
    have e1 : min i.toNat its.length - 0 = min i.toNat its.length := by omega
    rw [e1]
    simp only [List.drop_zero]
    have e2 : its.take (min i.toNat its.length) = its.take i.toNat := by rw [List.take_eq_take_iff]; omega
    rw [e2]
    by_cases hc : i.toNat ≤ its.length
    · rw [Nat.min_eq_left hc, List.take_of_length_le (l := List.drop i.toNat its) (by rw [List.length_drop]; omega)]
      simp
    · have hc : its.length ≤ i.toNat := by omega
      rw [Nat.min_eq_right hc, List.drop_of_length_le (Nat.le_refl _), List.drop_of_length_le hc]
      simp
  · show (insV xs i.toNat y).length ≤ sizeLine
    rw [insV_length]
    omega
def Itc (a c : Int) (n : Nat) : It := ⟨fun i _ => i < n, fun i H x H' => H' = H ∧ x = .int (a + i * c), fun i _ => n ≤ i⟩
theorem turn_rangeC {P : Program} {w : World} {K : PySem.W.Frag} {tg : Expr} (it : Addr) (a c : Int) (n : Nat) : Turn P w K tg (Itc a c n) [it] it (fun i h => IsRangeIter h it (a + (i : Nat) * c) ((n : Int) - (i : Nat)) c) where
  mem := by simp
  obj := fun i h st b hb => by
    have e : b = it := by simpa using hb
    subst e
    exact ⟨_, st, fun v z => by
      have z' : Data.fields _ = Data.cell v := z
      cases z'⟩
  keep := fun i h h' st k => k it (by simp) _ st
  item := by
    intro X hP hw hK hc i pins s σ H E I hf st hg
    subst hP hw hK
    obtain ⟨f0, f1, f2, f3, f4, f5⟩ := hf it (by simp)
    have W := Walks.range (prog := X.prog) (w := X.w) (I.ok.hd hc) it a c n
    refine W.item i s _ _ hg st fun v h' tk hv st' kk => ?_
    obtain ⟨t, rfl⟩ := hv
    have I1 : Inv X pins σ H { s with heap := h', toks := tk } := I.turned (fun b o hb e => kk b o (by simpa using hb) e) f0 f1 f3 f4 f5
    exact ⟨_, rfl, go_of (s := { s with heap := h', toks := tk }) (n := "range_iterator") st' rfl rfl (by decide) ⟨.int (a + i * c), H, I1, ⟨t, rfl⟩, ⟨rfl, rfl⟩, st', fun b hb => (hf b hb).1⟩⟩
  done := by
    intro X hP hw hK hc i pins s σ H E I hf st hg
    subst hP hw hK
    obtain ⟨f0, f1, f2, f3, f4, f5⟩ := hf it (by simp)
    exact wpAny_pyNext_range_end (I.ok.hd hc) st (by have : n ≤ i := hg; omega) fun h' eb => ⟨rfl, I.turned (t' := s.toks) (fun b o hb e => eb b o hb e) f0 f1 f3 f4 f5⟩
  self := fun _ _ _ _ _ st h => wpAny_pyIter_rangeiter st h
def iRngD (ta : TA) : TI := fun σ H R => ta σ H fun vs H1 => ∃ i j : Int, vs = [.int i, .int j, .int (-1)] ∧ (-(2 ^ 20) ≤ i ∧ i < 2 ^ 20 ∧ -(2 ^ 20) ≤ j ∧ j < 2 ^ 20) ∧ R (Itc i (-1) (i - j).toNat) H1
theorem pi_rangeD {tg a b c : Expr} {ta : TA} {p pos : Pos} (hg : Gl X "range") (hm : X.mg "range" = none) (ha : PA X [a, b, c] ta) (hs : starEach [a, b, c] X.env = [(false, eval a X.env), (false, eval b X.env), (false, eval c X.env)] := by rfl)
    (hs2 : starEach [b, c] X.env = [(false, eval b X.env), (false, eval c X.env)] := by rfl) : PI X tg (.Call (.Name "range" p) [a, b, c] [] pos) (iRngD ta) := by
  intro pins s σ H R I h
  refine Call_ (ld_blt I hg hm boot_range (PyProof.Rows.callWith_type1 (thn (ha pos pins s σ H _ I h) fun us s1 ⟨vs, H1, I1, r1, q1⟩ => ?_) (by rw [hs, hs2]) (by rw [hs2]; rfl)))
  obtain ⟨i, j, e, ⟨q1, q2, q3, q4⟩, q⟩ := q1
  subst e
  cases r1 with
  | cons r rr =>
    cases rr with
    | cons r' rr =>
      cases rr with
      | cons r'' rr =>
        cases rr
        obtain ⟨t, rfl⟩ := r
        obtain ⟨t', rfl⟩ := r'
        obtain ⟨t'', rfl⟩ := r''
        refine call_range_3 (by decide) ?_ (Or.inl (PyProof.noPylong_small (by omega)))
        refine wpAny_pyIter_range (IsRange.new ..) (PySem.W.small_down (by omega) (by omega) (by omega) (by omega)) ?_
        have I2 : Inv X pins σ H1 { s1 with heap := s1.heap.push { cls := .type "range", data := .fields #[.int i t, .int j t', .int (-1) t''] } } := I1.kept (t' := s1.toks) fun b o e => Heap.get?_push_of_some _ e
        refine ⟨(s1.heap.push { cls := .type "range", data := .fields #[.int i t, .int j t', .int (-1) t''] }).objs.size, [(s1.heap.push { cls := .type "range", data := .fields #[.int i t, .int j t', .int (-1) t''] }).objs.size], _, _, H1, rfl,
          I2.kept (t' := s1.toks) fun b o e => Heap.get?_push_of_some _ e, turn_rangeC _ i (-1) (i - j).toNat, ?_, fun b hb => ?_, q⟩
        · have e1 : i + ((0 : Nat) : Int) * (-1) = i := by simp
          have e2 : (((i - j).toNat : Nat) : Int) - ((0 : Nat) : Int) = Builtin.Range.rangeSize i j (-1) := by rw [PySem.W.rangeSize_downNat]; omega
          show IsRangeIter _ _ (i + ((0 : Nat) : Int) * (-1)) ((((i - j).toNat : Nat) : Int) - ((0 : Nat) : Int)) (-1)
          rw [e1, e2]
          exact Heap.get?_push_size _ rfl
        · have e : b = (s1.heap.push { cls := .type "range", data := .fields #[.int i t, .int j t', .int (-1) t''] }).objs.size := by simpa using hb
          subst e
          exact I2.fpOk (Nat.le_refl _) (I2.hok.fresh (Nat.le_refl _))
theorem for_rangeC {a c : Int} {n : Nat} {g : TG} {tb : TS} {D : Ends} {σ : St} {H : Hp} (Pv : Nat → St → Hp → Prop) (h0 : Pv 0 σ H)
    (hs : ∀ i σ H, i < n → Pv i σ H → g (.int (a + i * c)) σ H fun σ2 H2 => tb { D with nx := Pv (i + 1), ct := Pv (i + 1), bk := D.nx } σ2 H2) (hd : ∀ σ H, Pv n σ H → D.nx σ H) :
    ∃ W : Nat → Nat → St → Hp → Prop, (∃ m, W 0 m σ H) ∧ ∀ i m σ H, W i m σ H →
      ((Itc a c n).stop i H ∧ D.nx σ H) ∨ ((Itc a c n).go i H ∧ ∃ N : St → Hp → Prop, (∀ σ' H', N σ' H' → ∃ m', m' < m ∧ W (i + 1) m' σ' H') ∧ ∀ x H', (Itc a c n).yld i H x H' → g x σ H' fun σ2 H2 => tb { D with nx := N, ct := N, bk := D.nx } σ2 H2) := by
  refine ⟨fun i m σ H => m = n - i ∧ i ≤ n ∧ Pv i σ H, ⟨n, by simp, Nat.zero_le _, h0⟩, ?_⟩
  rintro i m σ H ⟨rfl, hi, p⟩
  by_cases hlt : i < n
  · refine .inr ⟨hlt, Pv (i + 1), fun σ' H' p' => ⟨n - (i + 1), by omega, rfl, hlt, p'⟩, fun x H' y => ?_⟩
    obtain ⟨e, y⟩ := y
    subst e y
    exact hs i σ _ hlt p
  · have e : i = n := by omega
    subst e
    exact .inl ⟨Nat.le_refl _, hd σ H p⟩
def rSlS : V → Option Int → Option Int → Hp → VK → Prop := fun x lo hi H Q => ∃ z, x = .str z ∧ z.length ≤ sizeLine ∧ Q (.str (Txt.slice z lo hi)) H
theorem sl_str : SlR X rSlS := by
  intro pins s σ H x v vl vu lo hi sl Q I rx hs pl pu h
  obtain ⟨z, rfl, hz, q⟩ := h
  obtain ⟨t, rfl⟩ := rx
  refine ⟨"str", _, F.slot_str_getitem.lookup, typeIs_str _ _ _, ?_⟩
  have fin : ∀ t' k, EP X pins σ Q (.str (Txt.slice z lo hi) t') { s with toks := k } := fun t' k => ⟨.str _, H, I.tok _, ⟨_, rfl⟩, q⟩
  cases pl with
  | none =>
    cases pu with
    | none => exact wpAny_getItem_str_slice (l := none) (u := none) (st := none) hs rfl (post_val_or_str ⟨Nat.le_trans (Txt.slice_le z _ _) hz, fin⟩)
    | int j tj => exact wpAny_getItem_str_slice (l := none) (u := some (j, tj)) (st := none) hs rfl (post_val_or_str ⟨Nat.le_trans (Txt.slice_le z _ _) hz, fin⟩)
  | int i ti =>
    cases pu with
    | none => exact wpAny_getItem_str_slice (l := some (i, ti)) (u := none) (st := none) hs rfl (post_val_or_str ⟨Nat.le_trans (Txt.slice_le z _ _) hz, fin⟩)
    | int j tj => exact wpAny_getItem_str_slice (l := some (i, ti)) (u := some (j, tj)) (st := none) hs rfl (post_val_or_str ⟨Nat.le_trans (Txt.slice_le z _ _) hz, fin⟩)
theorem op_mul_str : OpR X (binaryOp .Mult) (fun x y H Q => ∃ z n, x = .str z ∧ y = .int n ∧ MulOk z n ∧ Q (.str (Txt.mul z n)) H) := by
  intro pins s σ H x y v u Q I rx ry h
  obtain ⟨z, n, rfl, rfl, hm, q⟩ := h
  obtain ⟨t, rfl⟩ := rx
  obtain ⟨t', rfl⟩ := ry
  exact SB.mul hm fun t' k => ⟨.str _, H, I.tok _, ⟨_, rfl⟩, q⟩
end
inductive EqD (K : PySem.W.Frag) (H : Hp) : Nat → V → V → Bool → Prop
  | flat {d : Nat} {x y : V} : flatV x = true → flatV y = true → EqD K H d x y (eqV x y)
  | same {d : Nat} {a : Addr} : EqD K H d (.ref a) (.ref a) true
  | lst {d : Nat} {a b : Addr} {xs ys : List V} {e : Nat → Bool} : a ≠ b → SqL K H a xs → SqL K H b ys → xs.length = ys.length → (∀ (i : Nat) x y, xs[i]? = some x → ys[i]? = some y → EqD K H d x y (e i)) → EqD K H (d + 1) (.ref a) (.ref b) ((List.range xs.length).all e)
  | lstN {d : Nat} {a b : Addr} {xs ys : List V} : a ≠ b → SqL K H a xs → SqL K H b ys → xs.length ≠ ys.length → EqD K H (d + 1) (.ref a) (.ref b) false
  | tup {d : Nat} {a b : Addr} {xs ys : List V} {e : Nat → Bool} : a ≠ b → SqT K H a xs → SqT K H b ys → (∀ (i : Nat) x y, xs[i]? = some x → ys[i]? = some y → EqD K H d x y (e i)) → EqD K H (d + 1) (.ref a) (.ref b) ((List.range (min xs.length ys.length)).all e && xs.length == ys.length)
section
variable {X : Cx} {pins : List (Addr × Obj)} {σ : St} {H : Hp} {s : Shared}
theorem Vals.at {xs : List V} {us : List Value} (r : Vals xs us) {j : Nat} (h : j < us.toArray.size) : ∃ x, xs[j]? = some x ∧ RelV x us.toArray[j] := by
  have hl := r.length
  have h' : j < us.length := by simpa using h
  have hx : xs[j]? = some xs[j] := by simp [show j < xs.length by omega]
  obtain ⟨u, hu, ru⟩ := r.get hx
  have : us[j]? = some us[j] := by simp [h']
  rw [this] at hu
  cases hu
  exact ⟨xs[j], hx, by simpa using ru⟩
theorem EqD.at (I : Inv X pins σ H s) {d : Nat} {x y : V} {c : Bool} (h : EqD X.K H d x y c) : ∀ {A : Around} {u v : Value}, RelV x u → RelV y v → A.units + d < cLine → SeqAt.EqAt A s u v c := by
  induction h with
  | flat hx hy => intro A u v rx ry _; exact eqAt_V rx ry hx hy
  | same => intro A u v rx ry _; cases rx; cases ry; exact SeqAt.EqAt.same _
  | @lst d a b xs ys e ne ha hb hl he ih =>
    intro A u v rx ry hu
    cases rx; cases ry
    obtain ⟨ia, ra, pa, za⟩ := I.list ha
    obtain ⟨ib, rb, pb, zb⟩ := I.list hb
    have la := ra.length
    have lb := rb.length
    have es : ia.toArray.size = xs.length := by rw [List.size_toArray, ← la]
    rw [← es]
    refine SeqAt.EqAt.of_refs ne (SeqAt.RcAt.lists pa.isList pb.isList (by simp only [List.size_toArray]; omega) (by omega) fun j h1 h2 => ?_)
    obtain ⟨x, hx, rx⟩ := ra.at h1
    obtain ⟨y, hy, ry⟩ := rb.at h2
    exact ih j x y hx hy rx ry (by show A.units + 1 + _ < cLine; omega)
  | @lstN d a b xs ys ne ha hb hl =>
    intro A u v rx ry hu
    cases rx; cases ry
    obtain ⟨ia, ra, pa, za⟩ := I.list ha
    obtain ⟨ib, rb, pb, zb⟩ := I.list hb
    have la := ra.length
    have lb := rb.length
    exact SeqAt.EqAt.of_refs ne (SeqAt.RcAt.lists_lengths pa.isList pb.isList (by simp only [List.size_toArray, bne_iff_ne, ne_eq]; omega) (by omega))
  | @tup d a b xs ys e ne ha hb he ih =>
    intro A u v rx ry hu
    cases rx; cases ry
    obtain ⟨ia, ra, pa, za⟩ := I.tuple ha
    obtain ⟨ib, rb, pb, zb⟩ := I.tuple hb
    have es : ia.toArray.size = xs.length := by rw [List.size_toArray, ← ra.length]
    have es' : ib.toArray.size = ys.length := by rw [List.size_toArray, ← rb.length]
    rw [← es, ← es']
    refine SeqAt.EqAt.of_refs ne (SeqAt.RcAt.tuples pa pb (by omega) fun j h1 h2 => ?_)
    obtain ⟨x, hx, rx⟩ := ra.at h1
    obtain ⟨y, hy, ry⟩ := rb.at h2
    exact ih j x y hx hy rx ry (by show A.units + 1 + _ < cLine; omega)
end
section
variable {X : Cx}
theorem ix_listK (K : PySem.W.Frag) (hK : X.K = K := by rfl) : IxR X (rIxL K) := hK ▸ ix_list
theorem ix_tupK (K : PySem.W.Frag) (hK : X.K = K := by rfl) : IxR X (rIxT K) := hK ▸ ix_tup
theorem call_len_seqK (K : PySem.W.Frag) (hK : X.K = K := by rfl) : CallR X (.builtin "len") (fun xs H Q => ∃ p ys, xs = [.ref p] ∧ (SqL K H p ys ∨ SqT K H p ys) ∧ Q (.int ys.length) H) := hK ▸ call_len_seq
theorem sl_listK (K : PySem.W.Frag) (hK : X.K = K := by rfl) : SlR X (rSlL K) := hK ▸ sl_list
theorem sl_tupK (K : PySem.W.Frag) (hK : X.K = K := by rfl) : SlR X (rSlT K) := hK ▸ sl_tup
theorem call_isiK (K : PySem.W.Frag) (hK : X.K = K := by rfl) : CallR X (.builtin "isinstance") (fun xs H Q => ∃ x k T, xs = [x, .ty T] ∧ KindIs K H x k ∧ (T = "int" ∨ T = "str" ∨ T = "bool" ∨ T = "list" ∨ T = "tuple") ∧ Q (.bl (isiB k T)) H) := hK ▸ call_isi
theorem pt_truthK (K : PySem.W.Frag) {a : Expr} {ta : TE} (ha : PE X a ta) (he : ∀ whole, isTrue a X.env whole = (do let v ← whole; standAt a.pos; holding [v] (truthy v))) (hK : X.K = K := by rfl) :
    PT X a (fun σ H Q => ta σ H fun x H' => ∃ k, TruV K x H' k ∧ Q k H') := hK ▸ pt_truth ha he
theorem pi_listK (K : PySem.W.Frag) {tg l : Expr} {tl : TE} (hl : PE X l tl) (hK : X.K = K := by rfl) : PI X tg l (iList K tl) := hK ▸ pi_list hl
end
theorem hu40_of {A : Around} {k : Nat} (hr : Room k A) : A.units + 40 < cLine := Nat.lt_of_le_of_lt (Nat.add_le_add_left (by decide : 40 ≤ 64) _) hr.units
end L2
set_option Elab.async false
set_option linter.all false
set_option maxRecDepth 100000
set_option maxHeartbeats 4000000
namespace Carry
open PySem L2
def SB (f : Addr) (H H' : Hp) : Prop := ∀ b o, H b = some o → b ≠ f → H' b = some o
theorem SB.refl {f : Addr} (H : Hp) : SB f H H := fun _ _ e _ => e
theorem SB.trans {f : Addr} {H H1 H2 : Hp} (a : SB f H H1) (b : SB f H1 H2) : SB f H H2 := fun c o e n => b c o (a c o e n) n
theorem SB.of {f : Addr} {H H' : Hp} (s : Same H H') : SB f H H' := fun b o e _ => s b o e
theorem SB.write {f : Addr} {H : Hp} {o : HO} : SB f H (upd H f o) := fun b u e n => by rw [upd_ne n]; exact e
theorem SB.put {f a : Addr} {H H' : Hp} {o : HO} (s : SB f H H') (h : H' a = none) : SB f H (upd H' a o) := fun b u e n => by
  have z := s b u e n
  rw [upd_ne (ne_of_none z h)]; exact z
theorem SB.free {f a : Addr} {H H' : Hp} (s : SB f H H') (hf : H' f ≠ none) (h : H' a = none) : H a = none := by
  cases e : H a with
  | none => rfl
  | some o =>
    by_cases n : a = f
    · subst n; exact absurd h hf
    · rw [s a o e n] at h; cases h
structure Feed where
  ns : List Int
  pl : Int
  style : Int
  mode : Int
  num : Int
def feedO (sl : Addr) (F : Feed) : HO := .lst [.ref sl, .int F.pl, .int F.style, .int F.mode, .int F.num]
structure FeedAt (H : Hp) (f sl : Addr) (F : Feed) : Prop where
  fo : H f = some (feedO sl F)
  so : H sl = some (.lst (F.ns.map V.int))
  pos : 0 ≤ F.pl
  len : F.ns.length ≤ 63
theorem FeedAt.ne {H : Hp} {f sl : Addr} {F : Feed} (h : FeedAt H f sl F) : sl ≠ f := by
  refine ne_of h.so h.fo fun z => ?_
  have z' : F.ns.map V.int = [.ref sl, .int F.pl, .int F.style, .int F.mode, .int F.num] := HO.lst.inj z
  cases e : F.ns with
  | nil => rw [e] at z'; cases z'
  | cons a r => rw [e] at z'; cases z'
theorem FeedAt.there {H : Hp} {f sl : Addr} {F : Feed} (h : FeedAt H f sl F) : H f ≠ none := by rw [h.fo]; exact fun z => by cases z
theorem FeedAt.same {H H' : Hp} {f sl : Addr} {F : Feed} (h : FeedAt H f sl F) (s : Same H H') : FeedAt H' f sl F := ⟨s _ _ h.fo, s _ _ h.so, h.pos, h.len⟩
theorem FeedAt.write {H : Hp} {f sl : Addr} {F G : Feed} (h : FeedAt H f sl F) (e : G.ns = F.ns) (p : 0 ≤ G.pl) : FeedAt (upd H f (feedO sl G)) f sl G :=
  ⟨upd_same, by rw [upd_ne h.ne, e]; exact h.so, p, by rw [e]; exact h.len⟩
def cellOf (F : Feed) : Int := if 0 < F.ns.length then F.ns.getD (F.pl % F.ns.length).toNat 0 + F.pl / F.ns.length * 31 else F.pl
def drawV (F : Feed) (m : Int) : Int := if F.mode = 1 then F.num % m else (cellOf F * 48271 + 31 * F.pl) % 1000003 * 69621 % 999983 % m
def drawF (F : Feed) (m : Int) : Feed := if F.mode = 1 then { F with num := F.num / m } else { F with pl := F.pl + 1 }
theorem drawV_nonneg (F : Feed) {m : Int} (h : 0 < m) : 0 ≤ drawV F m := by
  unfold drawV
  split
  · exact Int.emod_nonneg _ (by omega)
  · exact Int.emod_nonneg _ (by omega)
theorem drawV_lt (F : Feed) {m : Int} (h : 0 < m) : drawV F m < m := by
  unfold drawV
  split
  · exact Int.emod_lt_of_pos _ h
  · exact Int.emod_lt_of_pos _ h
theorem drawF_ns (F : Feed) (m : Int) : (drawF F m).ns = F.ns := by unfold drawF; split <;> rfl
theorem drawF_style (F : Feed) (m : Int) : (drawF F m).style = F.style := by unfold drawF; split <;> rfl
theorem drawF_pl (F : Feed) (m : Int) (h : 0 ≤ F.pl) : 0 ≤ (drawF F m).pl := by
  unfold drawF; split
  · exact h
  · show 0 ≤ F.pl + 1
    omega
theorem FeedAt.draw {H : Hp} {f sl : Addr} {F : Feed} (h : FeedAt H f sl F) (m : Int) : FeedAt (upd H f (feedO sl (drawF F m))) f sl (drawF F m) := h.write (drawF_ns F m) (drawF_pl F m h.pos)
def nameOf (st k : Int) : Str :=
  if st % 4 = 3 then (if 7 < k then Txt.mul "y" (k - 7) else Txt.slice "zbdgkafe" none (some (k + 1)))
  else (([""  , "ab", "zzz"] : List Str).getD (st % 4).toNat "" ++ chr1 (("dbgkafelcjhi" : Str).cps.toList.getD k.toNat 0)) ++ (["", "ba", "zz"] : List Str).getD (st / 4 % 3).toNat ""
theorem nameOf_inj_nat : ∀ st : Nat, st < 12 → ∀ i : Nat, i < 12 → ∀ j : Nat, j < 12 → nameOf st i = nameOf st j → i = j := by decide +kernel
theorem nat_of {x : Int} {n : Nat} (h0 : 0 ≤ x) (h1 : x < n) : ∃ k : Nat, x = k ∧ k < n := ⟨x.toNat, by omega, by omega⟩
theorem nameOf_inj {st i j : Int} (hs : 0 ≤ st) (hs' : st < 12) (hi : 0 ≤ i) (hi' : i < 12) (hj : 0 ≤ j) (hj' : j < 12) (e : nameOf st i = nameOf st j) : i = j := by
  obtain ⟨s, rfl, s1⟩ := nat_of (n := 12) hs hs'
  obtain ⟨a, rfl, a1⟩ := nat_of (n := 12) hi hi'
  obtain ⟨b, rfl, b1⟩ := nat_of (n := 12) hj hj'
  rw [nameOf_inj_nat s s1 a a1 b b1 e]
structure Belt where
  name : Str
  long : Int
  ring : Bool
  outs : List Str
structure House where
  belts : List Belt
  carts : List Str
def strs' (xs : List Str) : List V := xs.map V.str
def BeltAt (H : Hp) (v : V) (b : Belt) : Prop := ∃ p o, v = .ref p ∧ H p = some (.tup [.str b.name, .int b.long, .bl b.ring, .ref o]) ∧ H o = some (.lst (strs' b.outs))
structure HouseAt (H : Hp) (p pb pc : Addr) (refs : List V) (h : House) : Prop where
  top : H p = some (.tup [.ref pb, .ref pc])
  bl : H pb = some (.lst refs)
  ct : H pc = some (.lst (strs' h.carts))
  each : Paired (BeltAt H) refs h.belts
theorem BeltAt.keep {H H' : Hp} {v : V} {b : Belt} (h : BeltAt H v b) (s : Same H H') : BeltAt H' v b := by
  obtain ⟨p, o, e, h1, h2⟩ := h
  exact ⟨p, o, e, s _ _ h1, s _ _ h2⟩
theorem HouseAt.keep {H H' : Hp} {p pb pc : Addr} {refs : List V} {h : House} (x : HouseAt H p pb pc refs h) (s : Same H H') : HouseAt H' p pb pc refs h :=
  ⟨s _ _ x.top, s _ _ x.bl, s _ _ x.ct, Paired.mapP x.each fun _ _ z => z.keep s⟩
def insS (xs : List Str) (k : Nat) (y : Str) : List Str := xs.take k ++ y :: xs.drop k
theorem insS_len (xs : List Str) (k : Nat) (y : Str) : (insS xs k y).length = xs.length + 1 := by
  unfold insS
  rw [List.length_append, List.length_cons, List.length_take, List.length_drop]
  omega
theorem mem_insS {xs : List Str} {k : Nat} {y z : Str} : z ∈ insS xs k y ↔ z = y ∨ z ∈ xs := by
  unfold insS
  rw [List.mem_append, List.mem_cons]
  constructor
  · rintro (h | h | h)
    · exact .inr (List.mem_of_mem_take h)
    · exact .inl h
    · exact .inr (List.mem_of_mem_drop h)
  · rintro (h | h)
    · exact .inr (.inl h)
    · rw [← List.take_append_drop k xs, List.mem_append] at h
      rcases h with h | h
      · exact .inl h
      · exact .inr (.inr h)
def outTurn (later carts : List Str) (p : Feed × List Str) : Feed × List Str :=
  let m : Int := later.length + carts.length
  let out := (later ++ carts).getD (drawV p.1 m).toNat ""
  if p.2.contains out = true then (drawF p.1 m, p.2)
  else (drawF (drawF p.1 m) (p.2.length + 1), insS p.2 (drawV (drawF p.1 m) (p.2.length + 1)).toNat out)
def outIter (later carts : List Str) : Nat → Feed × List Str → Feed × List Str
  | 0, p => p
  | n + 1, p => outTurn later carts (outIter later carts n p)
def outsM (F : Feed) (later carts : List Str) : Feed × List Str :=
  let p := outIter later carts (1 + drawV F 3).toNat (drawF F 3, [])
  let hand := carts.getD 0 ""
  if (!p.2.contains hand && decide (((p.2.filter fun o => later.contains o).length : Int) = 0)) = true then (drawF p.1 (p.2.length + 1), insS p.2 (drawV p.1 (p.2.length + 1)).toNat hand) else p
def cartsM (st : Int) (n : Nat) : List Str := (List.range n).map fun (k : Nat) => nameOf st (11 - (0 + (k : Int)))
def b01 (b : Bool) : Int := if b = true then 1 else 0
def beltTurn (many wide : Int) (carts : List Str) (i : Nat) (p : Feed × List Belt) : Feed × List Belt :=
  let k : Int := many - 1 + (i : Int) * (-1)
  let ring : Bool := decide (V.int (drawV p.1 3) = V.int 0)
  let F1 := drawF p.1 3
  let long := 1 + b01 ring + drawV F1 4 + wide * b01 (decide (V.int k = V.int 0))
  let o := outsM (drawF F1 4) (p.2.map Belt.name) carts
  (o.1, ⟨nameOf o.1.style k, long, ring, o.2⟩ :: p.2)
def beltIter (many wide : Int) (carts : List Str) : Nat → Feed × List Belt → Feed × List Belt
  | 0, p => p
  | n + 1, p => beltTurn many wide carts n (beltIter many wide carts n p)
def wideM (many : Int) (F : Feed) : Feed × Int := if many < 3 then (drawF (drawF F 2) 20, drawV F 2 * drawV (drawF F 2) 20) else (F, 0)
def houseM (c : Int) (F : Feed) : Feed × House :=
  let many := drawV F 7
  let F1 := drawF F 7
  let carts := cartsM F.style (1 + drawV F1 c).toNat
  let w := wideM many (drawF F1 c)
  let r := beltIter many w.2 carts many.toNat (w.1, [])
  (r.1, ⟨r.2, carts⟩)
theorem outTurn_style (later carts : List Str) (p : Feed × List Str) : (outTurn later carts p).1.style = p.1.style := by
  unfold outTurn; dsimp only; split <;> simp only [drawF_style]
theorem outIter_style (later carts : List Str) (p : Feed × List Str) : ∀ n, (outIter later carts n p).1.style = p.1.style
  | 0 => rfl
  | n + 1 => (outTurn_style later carts _).trans (outIter_style later carts p n)
theorem outsM_style (F : Feed) (later carts : List Str) : (outsM F later carts).1.style = F.style := by
  unfold outsM; dsimp only; split
  · simp only [drawF_style, outIter_style]
  · simp only [drawF_style, outIter_style]
theorem beltIter_style (many wide : Int) (carts : List Str) (p : Feed × List Belt) : ∀ n, (beltIter many wide carts n p).1.style = p.1.style
  | 0 => rfl
  | n + 1 => by
    show (outsM _ _ _).1.style = _
    simp only [outsM_style, drawF_style]
    exact beltIter_style many wide carts p n
theorem beltIter_len (many wide : Int) (carts : List Str) (p : Feed × List Belt) : ∀ n, (beltIter many wide carts n p).2.length = p.2.length + n
  | 0 => rfl
  | n + 1 => by
    show (_ :: (beltIter many wide carts n p).2).length = _
    rw [List.length_cons, beltIter_len many wide carts p n]
    omega
theorem wideM_style (many : Int) (F : Feed) : (wideM many F).1.style = F.style := by
  unfold wideM; split <;> simp only [drawF_style]
theorem cartsM_len (st : Int) (n : Nat) : (cartsM st n).length = n := by unfold cartsM; rw [List.length_map, List.length_range]
theorem BeltAt.sb {H H' : Hp} {f sl : Addr} {F : Feed} {v : V} {b : Belt} (h : BeltAt H v b) (hF : FeedAt H f sl F) (s : SB f H H') : BeltAt H' v b := by
  obtain ⟨p, o, e, h1, h2⟩ := h
  refine ⟨p, o, e, s _ _ h1 (ne_of h1 hF.fo fun z => by cases z), s _ _ h2 (ne_of h2 hF.fo fun z => ?_)⟩
  have z' := HO.lst.inj z
  cases e : b.outs with
  | nil => rw [e] at z'; cases z'
  | cons a r => rw [e] at z'; cases z'
theorem BeltAt.lb {H : Hp} {lb : Addr} {refs : List V} {v : V} {b : Belt} {o : HO} (h : BeltAt H v b) (hl : H lb = some (.lst refs)) (hv : v ∈ refs) : BeltAt (upd H lb o) v b := by
  obtain ⟨p, ol, e, h1, h2⟩ := h
  have n2 : ol ≠ lb := ne_of h2 hl fun z => by
    have z' := HO.lst.inj z
    rw [← z'] at hv
    obtain ⟨x, _, rfl⟩ := List.mem_map.mp hv
    cases e
  exact ⟨p, ol, e, by rw [upd_ne (ne_of h1 hl fun z => by cases z)]; exact h1, by rw [upd_ne n2]; exact h2⟩
end Carry
set_option Elab.async false
set_option linter.all false
set_option maxRecDepth 100000
set_option maxHeartbeats 4000000
namespace L2
open PySem PySem.Spec PyProof.Rows
inductive D where
  | non | bl (b : Bool) | int (i : Int) | str (x : Str) | ty (n : String)
  | lst (xs : List D) | tup (xs : List D) | dct (kvs : List (TK × D)) | scr (ns : List Int)
mutual
def TK.d : TK → D
  | .inl i => .int i
  | .inr x => .str x
  | .tp l => .tup (TK.dl l)
def TK.dl : List TK → List D
  | [] => []
  | k :: l => TK.d k :: TK.dl l
end
def flatOf : D → Option V
  | .non => some .non
  | .bl b => some (.bl b)
  | .int i => some (.int i)
  | .str x => some (.str x)
  | .ty n => some (.ty n)
  | _ => none
inductive RepL (K : PySem.W.Frag) (F : Hp) : List V → List D → Prop
  | nil : RepL K F [] []
  | flat {v : V} {d : D} {vs : List V} {ds : List D} : flatOf d = some v → RepL K F vs ds → RepL K F (v :: vs) (d :: ds)
  | lst {a : Addr} {ws vs : List V} {es ds : List D} : Rd F a (.lst ws) → RepL K F ws es → RepL K F vs ds → RepL K F (.ref a :: vs) (.lst es :: ds)
  | tup {a : Addr} {ws vs : List V} {es ds : List D} : SqT K F a ws → RepL K F ws es → RepL K F vs ds → RepL K F (.ref a :: vs) (.tup es :: ds)
  | dct {a : Addr} {kvs : List (TK × V × V)} {es : List (TK × D)} {vs : List V} {ds : List D} : F a = some (.dG kvs) → kvs.map (·.1) = es.map (·.1) → RepL K F (kvs.map (·.2.1)) (es.map (·.1.d)) → RepL K F (kvs.map (·.2.2)) (es.map (·.2)) → RepL K F vs ds → RepL K F (.ref a :: vs) (.dct es :: ds)
  | scr {a : Addr} {ns : List Int} {vs : List V} {ds : List D} : SqL K F a (ns.map V.int) → RepL K F vs ds → RepL K F (.ref a :: vs) (.scr ns :: ds)
theorem Same.rd {H H' : Hp} {a : Addr} {u : HO} (e : Same H H') (h : Rd H a u) : Rd H' a u := by
  rcases h with h | ⟨o, h⟩
  · exact .inl (e _ _ h)
  · exact .inr ⟨o, e _ _ h⟩
theorem Same.seqT {K : PySem.W.Frag} {H H' : Hp} {a : Addr} {xs : List V} (e : Same H H') (h : SqT K H a xs) : SqT K H' a xs := by
  rcases h with (h | ⟨o, h⟩) | h
  · exact .inl (.inl (e _ _ h))
  · exact .inl (.inr ⟨o, e _ _ h⟩)
  · exact .inr h
section
variable {K : PySem.W.Frag} {F F' : Hp}
theorem RepL.mono (s : Same F F') {vs : List V} {ds : List D} (h : RepL K F vs ds) : RepL K F' vs ds := by
  induction h with
  | nil => exact .nil
  | flat e _ ih => exact .flat e ih
  | lst e _ _ i1 i2 => exact .lst (s.rd e) i1 i2
  | tup e _ _ i1 i2 => exact .tup (s.seqT e) i1 i2
  | dct e k _ _ _ i0 i1 i2 => exact .dct (s _ _ e) k i0 i1 i2
  | scr e _ i => exact .scr (s.seq e) i
theorem RepL.length {vs : List V} {ds : List D} (h : RepL K F vs ds) : vs.length = ds.length := by
  induction h with
  | nil => rfl
  | flat _ _ ih => simp [ih]
  | lst _ _ _ _ ih => simp [ih]
  | tup _ _ _ _ ih => simp [ih]
  | dct _ _ _ _ _ _ _ ih => simp [ih]
  | scr _ _ ih => simp [ih]
theorem RepL.inv {v : V} {vs : List V} {d : D} {ds : List D} (h : RepL K F (v :: vs) (d :: ds)) : RepL K F [v] [d] ∧ RepL K F vs ds := by
  cases h with
  | flat e t => exact ⟨.flat e .nil, t⟩
  | lst e i t => exact ⟨.lst e i .nil, t⟩
  | tup e i t => exact ⟨.tup e i .nil, t⟩
  | dct e k j i t => exact ⟨.dct e k j i .nil, t⟩
  | scr e t => exact ⟨.scr e .nil, t⟩
theorem RepL.cons {v : V} {vs : List V} {d : D} {ds : List D} (h : RepL K F [v] [d]) (t : RepL K F vs ds) : RepL K F (v :: vs) (d :: ds) := by
  cases h with
  | flat e _ => exact .flat e t
  | lst e i _ => exact .lst e i t
  | tup e i _ => exact .tup e i t
  | dct e k j i _ => exact .dct e k j i t
  | scr e _ => exact .scr e t
theorem RepL.get : ∀ {vs : List V} {ds : List D} {i : Nat} {d : D}, RepL K F vs ds → ds[i]? = some d → ∃ v, vs[i]? = some v ∧ RepL K F [v] [d]
  | [], [], i, d, _, e => by simp at e
  | v :: vs, d' :: ds, 0, d, h, e => by simp at e; subst e; exact ⟨v, rfl, h.inv.1⟩
  | v :: vs, d' :: ds, i + 1, d, h, e => by
    obtain ⟨u, h1, h2⟩ := RepL.get (i := i) h.inv.2 (by simpa using e)
    exact ⟨u, by simpa using h1, h2⟩
  | [], _ :: _, _, _, h, _ => by have := h.length; simp at this
  | _ :: _, [], _, _, h, _ => by have := h.length; simp at this
theorem RepL.append : ∀ {vs : List V} {ds : List D} {ws : List V} {es : List D}, RepL K F vs ds → RepL K F ws es → RepL K F (vs ++ ws) (ds ++ es)
  | [], [], _, _, _, h => h
  | v :: vs, d :: ds, _, _, h, t => .cons h.inv.1 (RepL.append h.inv.2 t)
  | [], _ :: _, _, _, h, _ => by have := h.length; simp at this
  | _ :: _, [], _, _, h, _ => by have := h.length; simp at this
theorem RepL.take : ∀ {vs : List V} {ds : List D} (n : Nat), RepL K F vs ds → RepL K F (vs.take n) (ds.take n)
  | [], [], _, _ => by simp; exact .nil
  | v :: vs, d :: ds, 0, _ => .nil
  | v :: vs, d :: ds, n + 1, h => .cons h.inv.1 (RepL.take n h.inv.2)
  | [], _ :: _, _, h => by have := h.length; simp at this
  | _ :: _, [], _, h => by have := h.length; simp at this
theorem RepL.drop : ∀ {vs : List V} {ds : List D} (n : Nat), RepL K F vs ds → RepL K F (vs.drop n) (ds.drop n)
  | [], [], _, _ => by simp; exact .nil
  | v :: vs, d :: ds, 0, h => h
  | v :: vs, d :: ds, n + 1, h => by simpa using RepL.drop n h.inv.2
  | [], _ :: _, _, h => by have := h.length; simp at this
  | _ :: _, [], _, h => by have := h.length; simp at this
end
inductive O where
  | frz (d : D) | lst (xs : List O) | tup (xs : List O) | dct (kvs : List (TK × O))
abbrev Gm := List (Option O)
inductive OwnL (K : PySem.W.Frag) (F H : Hp) : St → Gm → List Addr → Prop
  | nil : OwnL K F H [] [] []
  | skip {x : Option V} {σ : St} {Γ : Gm} {B : List Addr} : OwnL K F H σ Γ B → OwnL K F H (x :: σ) (none :: Γ) B
  | frz {v : V} {d : D} {σ : St} {Γ : Gm} {B : List Addr} : RepL K F [v] [d] → OwnL K F H σ Γ B → OwnL K F H (some v :: σ) (some (.frz d) :: Γ) B
  | lst {a : Addr} {ws : List V} {ps : List O} {A B : List Addr} {σ : St} {Γ : Gm} : H a = some (.lst ws) → OwnL K F H (ws.map some) (ps.map some) A → OwnL K F H σ Γ B → OwnL K F H (some (.ref a) :: σ) (some (.lst ps) :: Γ) (a :: A ++ B)
  | tup {a : Addr} {ws : List V} {ps : List O} {A B : List Addr} {σ : St} {Γ : Gm} : H a = some (.tup ws) → OwnL K F H (ws.map some) (ps.map some) A → OwnL K F H σ Γ B → OwnL K F H (some (.ref a) :: σ) (some (.tup ps) :: Γ) (a :: A ++ B)
  | dct {a : Addr} {kvs : List (TK × V × V)} {ps : List (TK × O)} {A B : List Addr} {σ : St} {Γ : Gm} : H a = some (.dG kvs) → kvs.map (·.1) = ps.map (·.1) → RepL K F (kvs.map (·.2.1)) (ps.map (·.1.d)) → OwnL K F H (kvs.map fun p => some p.2.2) (ps.map fun p => some p.2) A → OwnL K F H σ Γ B →
      OwnL K F H (some (.ref a) :: σ) (some (.dct ps) :: Γ) (a :: A ++ B)
section
variable {K : PySem.W.Frag} {F F' H H' : Hp} {σ τ : St} {Γ Θ : Gm} {A B : List Addr}
theorem OwnL.keep (h : OwnL K F H σ Γ A) (s : Same F F') (k : ∀ a ∈ A, ∀ o, H a = some o → H' a = some o) : OwnL K F' H' σ Γ A := by
  induction h with
  | nil => exact .nil
  | skip _ ih => exact .skip (ih k)
  | frz r _ ih => exact .frz (r.mono s) (ih k)
  | lst e _ _ i1 i2 => exact .lst (k _ (by simp) _ e) (i1 fun a ha => k a (by simp [ha])) (i2 fun a ha => k a (by simp [ha]))
  | tup e _ _ i1 i2 => exact .tup (k _ (by simp) _ e) (i1 fun a ha => k a (by simp [ha])) (i2 fun a ha => k a (by simp [ha]))
  | dct e q r _ _ i1 i2 => exact .dct (k _ (by simp) _ e) q (r.mono s) (i1 fun a ha => k a (by simp [ha])) (i2 fun a ha => k a (by simp [ha]))
theorem OwnL.there (h : OwnL K F H σ Γ A) : ∀ a ∈ A, H a ≠ none := by
  induction h with
  | nil => intro a ha; cases ha
  | skip _ ih => exact ih
  | frz _ _ ih => exact ih
  | lst e _ _ i1 i2 =>
    intro a ha
    rcases List.mem_cons.mp ha with rfl | ha
    · rw [e]; exact fun z => by cases z
    · rcases List.mem_append.mp ha with ha | ha
      · exact i1 a ha
      · exact i2 a ha
  | tup e _ _ i1 i2 =>
    intro a ha
    rcases List.mem_cons.mp ha with rfl | ha
    · rw [e]; exact fun z => by cases z
    · rcases List.mem_append.mp ha with ha | ha
      · exact i1 a ha
      · exact i2 a ha
  | dct e _ _ _ _ i1 i2 =>
    intro a ha
    rcases List.mem_cons.mp ha with rfl | ha
    · rw [e]; exact fun z => by cases z
    · rcases List.mem_append.mp ha with ha | ha
      · exact i1 a ha
      · exact i2 a ha
theorem OwnL.length (h : OwnL K F H σ Γ A) : σ.length = Γ.length := by
  induction h <;> simp_all
theorem OwnL.app (h : OwnL K F H τ Θ B) (t : OwnL K F H σ Γ A) : OwnL K F H (τ ++ σ) (Θ ++ Γ) (B ++ A) := by
  induction h with
  | nil => exact t
  | skip _ ih => exact .skip ih
  | frz r _ ih => exact .frz r ih
  | lst e i _ _ ih => simp only [List.cons_append, List.append_assoc]; exact .lst e i ih
  | tup e i _ _ ih => simp only [List.cons_append, List.append_assoc]; exact .tup e i ih
  | dct e q r i _ _ ih => simp only [List.cons_append, List.append_assoc]; exact .dct e q r i ih
theorem OwnL.split : ∀ {τ : St} {Θ : Gm} {A : List Addr}, τ.length = Θ.length → OwnL K F H (τ ++ σ) (Θ ++ Γ) A → ∃ B C, OwnL K F H τ Θ B ∧ OwnL K F H σ Γ C ∧ A = B ++ C
  | [], [], A, _, h => ⟨[], A, .nil, h, rfl⟩
  | [], _ :: _, _, e, _ => by simp at e
  | _ :: _, [], _, e, _ => by simp at e
  | x :: τ, y :: Θ, A, e, h => by
    have e' : τ.length = Θ.length := by simpa using e
    cases h with
    | skip t => obtain ⟨B, C, h1, h2, h3⟩ := OwnL.split e' t; exact ⟨B, C, .skip h1, h2, h3⟩
    | frz r t => obtain ⟨B, C, h1, h2, h3⟩ := OwnL.split e' t; exact ⟨B, C, .frz r h1, h2, h3⟩
    | lst q i t => obtain ⟨B, C, h1, h2, h3⟩ := OwnL.split e' t; subst h3; exact ⟨_, C, .lst q i h1, h2, by simp⟩
    | tup q i t => obtain ⟨B, C, h1, h2, h3⟩ := OwnL.split e' t; subst h3; exact ⟨_, C, .tup q i h1, h2, by simp⟩
    | dct q z r i t => obtain ⟨B, C, h1, h2, h3⟩ := OwnL.split e' t; subst h3; exact ⟨_, C, .dct q z r i h1, h2, by simp⟩
theorem OwnL.one {x : Option V} {y : Option O} (h : OwnL K F H (x :: σ) (y :: Γ) A) : ∃ B C, OwnL K F H [x] [y] B ∧ OwnL K F H σ Γ C ∧ A = B ++ C := OwnL.split (τ := [x]) (Θ := [y]) rfl h
theorem OwnL.take : ∀ {σ : St} {Γ : Gm} {A : List Addr} {i : Nat} {o : O}, OwnL K F H σ Γ A → Γ[i]? = some (some o) → ∃ v Ai B, σ[i]? = some (some v) ∧ OwnL K F H [some v] [some o] Ai ∧ OwnL K F H σ (Γ.set i none) B ∧ A.Perm (Ai ++ B)
  | _, [], _, _, _, _, e => by simp at e
  | [], _ :: _, _, _, _, h, _ => by have := h.length; simp at this
  | x :: σ, y :: Γ, A, 0, o, h, e => by
    have e : y = some o := by simpa using e
    subst e
    obtain ⟨B, C, h1, h2, h3⟩ := h.one
    cases x with
    | none => cases h1
    | some v => exact ⟨v, B, C, rfl, h1, .skip h2, by rw [h3]⟩
  | x :: σ, y :: Γ, A, i + 1, o, h, e => by
    obtain ⟨B, C, h1, h2, h3⟩ := h.one
    obtain ⟨v, Ai, B', g1, g2, g3, g4⟩ := OwnL.take (i := i) h2 (by simpa using e)
    refine ⟨v, Ai, B ++ B', by simpa using g1, g2, h1.app g3, ?_⟩
    subst h3
    exact (List.Perm.append_left B g4).trans (by rw [← List.append_assoc, ← List.append_assoc]; exact (List.perm_append_comm).append_right _)
theorem OwnL.forget : ∀ {σ : St} {Γ : Gm} {A : List Addr} (i : Nat), OwnL K F H σ Γ A → ∃ B, OwnL K F H σ (Γ.set i none) B ∧ B.Sublist A
  | σ, [], A, i, h => ⟨A, by simpa using h, List.Sublist.refl _⟩
  | [], _ :: _, _, _, h => by have := h.length; simp at this
  | x :: σ, y :: Γ, A, 0, h => by
    obtain ⟨B, C, h1, h2, h3⟩ := h.one
    subst h3
    exact ⟨C, .skip h2, List.sublist_append_right _ _⟩
  | x :: σ, y :: Γ, A, i + 1, h => by
    obtain ⟨B, C, h1, h2, h3⟩ := h.one
    obtain ⟨B', g1, g2⟩ := OwnL.forget i h2
    subst h3
    exact ⟨B ++ B', h1.app g1, g2.append_left _⟩
theorem OwnL.put {v : V} {o : O} {Ai : List Addr} (q : OwnL K F H [some v] [some o] Ai) : ∀ {σ : St} {Γ : Gm} {A : List Addr} (i : Nat), OwnL K F H σ Γ A → i < Γ.length → ∃ B, OwnL K F H (σ.set i (some v)) (Γ.set i (some o)) B ∧ ∃ C, B.Perm (Ai ++ C) ∧ C.Sublist A
  | _, [], _, _, _, hi => by simp at hi
  | [], _ :: _, _, _, h, _ => by have := h.length; simp at this
  | x :: σ, y :: Γ, A, 0, h, hi => by
    obtain ⟨B, C, h1, h2, h3⟩ := h.one
    subst h3
    exact ⟨Ai ++ C, q.app h2, C, .refl _, List.sublist_append_right _ _⟩
  | x :: σ, y :: Γ, A, i + 1, h, hi => by
    obtain ⟨B, C, h1, h2, h3⟩ := h.one
    obtain ⟨B', g1, C', g2, g3⟩ := OwnL.put q i h2 (by simpa using hi)
    subst h3
    refine ⟨B ++ B', h1.app g1, B ++ C', ?_, g3.append_left _⟩
    exact (List.Perm.append_left B g2).trans (by rw [← List.append_assoc, ← List.append_assoc]; exact (List.perm_append_comm).append_right _)
theorem OwnL.loose {v : Option V} : ∀ {σ : St} {Γ : Gm} {A : List Addr} {i : Nat}, OwnL K F H σ Γ A → Γ[i]? = some none → OwnL K F H (σ.set i v) Γ A
  | _, [], _, _, _, e => by simp at e
  | [], _ :: _, _, _, h, _ => by have := h.length; simp at this
  | x :: σ, y :: Γ, A, 0, h, e => by
    have e : y = none := by simpa using e
    subst e
    cases h with
    | skip t => exact .skip t
  | x :: σ, y :: Γ, A, i + 1, h, e => by
    obtain ⟨B, C, h1, h2, h3⟩ := h.one
    subst h3
    exact h1.app (OwnL.loose (i := i) h2 (by simpa using e))
end
structure OK (K : PySem.W.Frag) (F H : Hp) (σ : St) (Γ : Gm) (A : List Addr) : Prop where
  le : Same F H
  os : OwnL K F H σ Γ A
  nd : A.Nodup
  fr : ∀ a ∈ A, F a = none
structure Ext (F H : Hp) (A : List Addr) (F' H' : Hp) (A' : List Addr) : Prop where
  ff : Same F F'
  keep : ∀ a o, H a = some o → a ∉ A → H' a = some o
  dom : ∀ a, H a ≠ none → H' a ≠ none
  new : ∀ a, F' a ≠ none → F a ≠ none ∨ a ∈ A ∨ H a = none
  own : ∀ a ∈ A', a ∈ A ∨ H a = none
section
variable {K : PySem.W.Frag} {F F' F1 F2 H H' H1 H2 : Hp} {σ σ' τ : St} {Γ Γ' Θ : Gm} {A A' A1 A2 B C : List Addr}
theorem Ext.refl : Ext F H A F H A := ⟨Same.refl _, fun _ _ e _ => e, fun _ h => h, fun _ h => .inl h, fun _ h => .inl h⟩
theorem Ext.trans (x : Ext F H A F1 H1 A1) (y : Ext F1 H1 A1 F2 H2 A2) : Ext F H A F2 H2 A2 where
  ff := x.ff.trans y.ff
  keep := fun a o e n => y.keep a o (x.keep a o e n) fun m => by
    rcases x.own a m with z | z
    · exact n z
    · rw [e] at z; cases z
  dom := fun a h => y.dom a (x.dom a h)
  new := fun a h => by
    rcases y.new a h with z | z | z
    · exact x.new a z
    · exact .inr (x.own a z)
    · exact .inr (.inr (Classical.byContradiction fun q => x.dom a q z))
  own := fun a h => by
    rcases y.own a h with z | z
    · exact x.own a z
    · exact .inr (Classical.byContradiction fun q => x.dom a q z)
theorem Ext.own' (x : Ext F H A F' H' A') (h : ∀ a ∈ B, a ∈ A') : Ext F H A F' H' B := ⟨x.ff, x.keep, x.dom, x.new, fun a m => x.own a (h a m)⟩
theorem OK.perm (k : OwnL K F H σ Γ A) (le : Same F H) (nd : B.Nodup) (fr : ∀ a ∈ B, F a = none) (p : A.Perm B) : OK K F H σ Γ A := ⟨le, k, p.nodup_iff.mpr nd, fun a m => fr a (p.mem_iff.mp m)⟩
theorem OK.frameAt (k : OK K F H (τ ++ σ) (Θ ++ Γ) (B ++ C)) (h1 : OwnL K F H τ Θ B) (h2 : OwnL K F H σ Γ C) : OK K F H σ Γ C ∧ ∀ F' H' σ' Γ' A', Ext F H C F' H' A' → OK K F' H' σ' Γ' A' → ∃ A'', Ext F H (B ++ C) F' H' A'' ∧ OK K F' H' (τ ++ σ') (Θ ++ Γ') A'' := by
  obtain ⟨n1, n2, n3⟩ := List.nodup_append.mp k.nd
  have nB : ∀ a ∈ B, a ∉ C := fun a h1 h2 => n3 a h1 a h2 rfl
  refine ⟨⟨k.le, h2, n2, fun a m => k.fr a (List.mem_append_right _ m)⟩, fun F' H' σ' Γ' A' x k' => ?_⟩
  have hB : ∀ a ∈ B, F' a = none := fun a m => by
    cases e : F' a with
    | none => rfl
    | some o =>
      rcases x.new a (by rw [e]; exact fun z => by cases z) with z | z | z
      · exact absurd (k.fr a (List.mem_append_left _ m)) z
      · exact absurd z (nB a m)
      · exact absurd z (h1.there a m)
  refine ⟨B ++ A', ⟨x.ff, fun a o e n => x.keep a o e fun m => n (List.mem_append_right _ m), x.dom, fun a h => ?_, fun a m => ?_⟩, k'.le, (h1.keep x.ff fun a m o e => x.keep a o e (nB a m)).app k'.os, ?_, ?_⟩
  · rcases x.new a h with z | z | z
    · exact .inl z
    · exact .inr (.inl (List.mem_append_right _ z))
    · exact .inr (.inr z)
  · rcases List.mem_append.mp m with m | m
    · exact .inl (List.mem_append_left _ m)
    · rcases x.own a m with z | z
      · exact .inl (List.mem_append_right _ z)
      · exact .inr z
  · refine List.nodup_append.mpr ⟨n1, k'.nd, fun a m b m' e => ?_⟩
    subst e
    rcases x.own a m' with z | z
    · exact nB a m z
    · exact h1.there a m z
  · intro a m
    rcases List.mem_append.mp m with m | m
    · exact hB a m
    · exact k'.fr a m
theorem OK.frame (k : OK K F H (τ ++ σ) (Θ ++ Γ) A) (hl : τ.length = Θ.length) : ∃ C, OK K F H σ Γ C ∧ ∀ F' H' σ' Γ' A', Ext F H C F' H' A' → OK K F' H' σ' Γ' A' → ∃ A'', Ext F H A F' H' A'' ∧ OK K F' H' (τ ++ σ') (Θ ++ Γ') A'' := by
  obtain ⟨B, C, h1, h2, h3⟩ := OwnL.split hl k.os
  subst h3
  exact ⟨C, k.frameAt h1 h2⟩
theorem OK.swap (k : OK K F H (τ ++ σ) (Θ ++ Γ) A) (hl : τ.length = Θ.length) : ∃ B, B.Perm A ∧ OK K F H (σ ++ τ) (Γ ++ Θ) B := by
  obtain ⟨B, C, h1, h2, h3⟩ := OwnL.split hl k.os
  subst h3
  exact ⟨C ++ B, List.perm_append_comm, .perm (h2.app h1) k.le k.nd k.fr List.perm_append_comm⟩
theorem OK.part (k : OK K F H (τ ++ σ) (Θ ++ Γ) A) (hl : τ.length = Θ.length) : ∃ B, OK K F H σ Γ B ∧ ∀ a ∈ B, a ∈ A := by
  obtain ⟨B, C, h1, h2, h3⟩ := OwnL.split hl k.os
  subst h3
  exact ⟨C, ⟨k.le, h2, (List.nodup_append.mp k.nd).2.1, fun a m => k.fr a (List.mem_append_right _ m)⟩, fun a m => List.mem_append_right _ m⟩
theorem OK.push {v : V} {o : O} {Av : List Addr} (k : OK K F H σ Γ A) (s : Same H H') (q : OwnL K F H' [some v] [some o] Av) (nd : Av.Nodup) (fresh : ∀ a ∈ Av, H a = none) :
    OK K F H' (some v :: σ) (some o :: Γ) (Av ++ A) ∧ Ext F H A F H' (Av ++ A) := by
  have ne : ∀ a ∈ Av, a ∉ A := fun a m z => k.os.there a z (fresh a m)
  refine ⟨⟨k.le.trans s, q.app (k.os.keep (Same.refl _) fun a _ o e => s a o e), List.nodup_append.mpr ⟨nd, k.nd, fun a m b m' e => ?_⟩, fun a m => ?_⟩, Same.refl _, fun a o e _ => s a o e, fun a h z => ?_, fun a h => .inl h, fun a m => ?_⟩
  · subst e; exact ne a m m'
  · rcases List.mem_append.mp m with m | m
    · exact k.le.free (fresh a m)
    · exact k.fr a m
  · exact h (s.free z)
  · rcases List.mem_append.mp m with m | m
    · exact .inr (fresh a m)
    · exact .inl m
end
end L2
set_option Elab.async false
set_option linter.all false
set_option maxRecDepth 100000
set_option maxHeartbeats 4000000
namespace L2
open PySem PySem.Spec PyProof.Rows
inductive R where
  | own (o : O) | var (i : Nat)
def R.o : R → Option O
  | .own o => some o
  | .var _ => none
abbrev GE := Gm → Option (R × Gm)
abbrev GA := Gm → Option (List R × Gm)
abbrev GT := Gm → Option (Bool × Gm)
def Held (σ : St) : List R → List V → Prop
  | [], [] => True
  | .own _ :: rs, _ :: vs => Held σ rs vs
  | .var i :: rs, v :: vs => σ[i]? = some (some v) ∧ Held σ rs vs
  | _, _ => False
def Post (K : PySem.W.Frag) (F H : Hp) (A : List Addr) (σ : St) (Γ' : Gm) (rs : List R) (vs : List V) (H' : Hp) : Prop :=
  ∃ F' A', Ext F H A F' H' A' ∧ OK K F' H' (vs.map some ++ σ) (rs.map R.o ++ Γ') A' ∧ Held σ rs vs
def tG (K : PySem.W.Frag) (f : GE) : TE := fun σ H Q => ∃ F A Γ r Γ', OK K F H σ Γ A ∧ f Γ = some (r, Γ') ∧ ∀ v H', Post K F H A σ Γ' [r] [v] H' → Q v H'
def tGA (K : PySem.W.Frag) (f : GA) : TA := fun σ H Q => ∃ F A Γ rs Γ', OK K F H σ Γ A ∧ f Γ = some (rs, Γ') ∧ ∀ vs H', Post K F H A σ Γ' rs vs H' → Q vs H'
def tGT (K : PySem.W.Frag) (f : GT) : TT := fun σ H Q => ∃ F A Γ b Γ', OK K F H σ Γ A ∧ f Γ = some (b, Γ') ∧ ∀ H', Post K F H A σ Γ' [] [] H' → Q b H'
theorem Held.length : ∀ {σ : St} {rs : List R} {vs : List V}, Held σ rs vs → rs.length = vs.length
  | _, [], [], _ => rfl
  | _, .own _ :: rs, _ :: vs, h => by simp [Held.length (σ := _) (rs := rs) (vs := vs) h]
  | _, .var _ :: rs, _ :: vs, h => by simp [Held.length (σ := _) (rs := rs) (vs := vs) h.2]
  | _, [], _ :: _, h => h.elim
  | _, .own _ :: _, [], h => h.elim
  | _, .var _ :: _, [], h => h.elim
theorem Held.one {σ : St} {r : R} {vs : List V} {rs : List R} {v : V} (h : Held σ [r] [v]) (t : Held σ rs vs) : Held σ (r :: rs) (v :: vs) := by
  cases r with
  | own o => exact t
  | var i => exact ⟨h.1, t⟩
theorem PE.mono {X : Cx} {e : Expr} {t t' : TE} (h : PE X e t) (m : ∀ σ H Q, t' σ H Q → t σ H Q) : PE X e t' := fun pins s σ H Q I q => h pins s σ H Q I (m _ _ _ q)
theorem PT.mono {X : Cx} {e : Expr} {t t' : TT} (h : PT X e t) (m : ∀ σ H Q, t' σ H Q → t σ H Q) : PT X e t' := fun pins s σ H Q I q => h pins s σ H Q I (m _ _ _ q)
theorem PW.mono {X : Cx} {e : Expr} {t t' : TT} (h : PW X e t) (m : ∀ σ H Q, t' σ H Q → t σ H Q) : PW X e t' := fun wh pins s σ H Q I q => h wh pins s σ H Q I (m _ _ _ q)
theorem PA.mono {X : Cx} {e : List Expr} {t t' : TA} (h : PA X e t) (m : ∀ σ H Q, t' σ H Q → t σ H Q) : PA X e t' := fun pos pins s σ H Q I q => h pos pins s σ H Q I (m _ _ _ q)
theorem PS.mono {X : Cx} {e : Stmt} {t t' : TS} (h : PS X e t) (m : ∀ D σ H, t' D σ H → t D σ H) : PS X e t' := fun pins s σ H D I q => h pins s σ H D I (m _ _ _ q)
theorem PSs.mono {X : Cx} {e : List Stmt} {t t' : TS} (h : PSs X e t) (m : ∀ D σ H, t' D σ H → t D σ H) : PSs X e t' := fun pins s σ H D I q => h pins s σ H D I (m _ _ _ q)
section
variable {K : PySem.W.Frag} {F H : Hp} {A : List Addr} {σ : St} {Γ Γ' : Gm}
theorem Post.then {F' H' H'' : Hp} {A' : List Addr} {r : R} {v : V} {rs : List R} {vs : List V} {Γ1 Γ2 : Gm} (h : Post K F H A σ Γ1 [r] [v] H')
    (go : ∀ F1 A1, OK K F1 H' σ Γ1 A1 → Post K F1 H' A1 σ Γ2 rs vs H'') : Post K F H A σ Γ2 (r :: rs) (v :: vs) H'' := by
  obtain ⟨F1, A1, x, k, hh⟩ := h
  have k : OK K F1 H' ([some v] ++ σ) ([r.o] ++ Γ1) A1 := k
  obtain ⟨C, kC, fr⟩ := k.frame rfl
  obtain ⟨F2, A2, x2, k2, h2⟩ := go F1 C kC
  obtain ⟨A3, x3, k3⟩ := fr _ _ _ _ _ x2 k2
  exact ⟨F2, A3, x.trans x3, k3, Held.one hh h2⟩
def seeR (Γ : Gm) : R → Option O
  | .own o => some o
  | .var i => (Γ[i]?).join
def seeL (Γ : Gm) : List R → Option (List O)
  | [] => some []
  | r :: rs => (seeR Γ r).bind fun o => (seeL Γ rs).bind fun os => some (o :: os)
def Sees (K : PySem.W.Frag) (F H : Hp) : List V → List O → Prop := Paired fun v o => ∃ B, OwnL K F H [some v] [some o] B
theorem see_all : ∀ {rs : List R} {vs : List V} {os : List O} {B : List Addr}, OwnL K F H σ Γ A → OwnL K F H (vs.map some) (rs.map R.o) B → Held σ rs vs → seeL Γ rs = some os → Sees K F H vs os
  | [], [], os, _, _, _, _, e => by cases e; exact .nil
  | r :: rs, v :: vs, os, B, k, h, hh, e => by
    obtain ⟨B1, C1, h1, h2, _⟩ := OwnL.one h
    unfold seeL at e
    cases e1 : seeR Γ r with
    | none => rw [e1] at e; cases e
    | some o =>
      rw [e1] at e
      cases e2 : seeL Γ rs with
      | none => rw [e2] at e; cases e
      | some os' =>
        rw [e2] at e
        cases e
        cases r with
        | own o' => cases e1; exact .cons ⟨_, h1⟩ (see_all k h2 hh e2)
        | var i =>
          have e3 : Γ[i]? = some (some o) := by
            have : (Γ[i]?).join = some o := e1
            cases q : Γ[i]? with
            | none => rw [q] at this; cases this
            | some z => rw [q] at this; exact congrArg some this
          obtain ⟨v', Ai, B', g1, g2, _⟩ := k.take e3
          have := hh.1
          rw [g1] at this
          cases this
          exact .cons ⟨_, g2⟩ (see_all k h2 hh.2 e2)
  | [], _ :: _, _, _, _, _, h, _ => h.elim
  | .own _ :: _, [], _, _, _, _, h, _ => h.elim
  | .var _ :: _, [], _, _, _, _, h, _ => h.elim
def Res (K : PySem.W.Frag) (F H : Hp) (o : O) (Q : VK) : Prop := ∀ v H' Av, Same H H' → OwnL K F H' [some v] [some o] Av → Av.Nodup → (∀ a ∈ Av, H a = none) → Q v H'
theorem Post.res {rs : List R} {vs : List V} {H1 : Hp} {os : List O} {o : O} {Q : VK} (h : Post K F H A σ Γ' rs vs H1) (e : seeL Γ' rs = some os) (q : ∀ v H', Post K F H A σ Γ' [.own o] [v] H' → Q v H') :
    ∃ F1, Same F1 H1 ∧ Sees K F1 H1 vs os ∧ Res K F1 H1 o Q := by
  obtain ⟨F1, A1, x, k, hh⟩ := h
  have hl : (vs.map some).length = (rs.map R.o).length := by rw [List.length_map, List.length_map, hh.length]
  obtain ⟨B, C, h1, h2, h3⟩ := OwnL.split hl k.os
  refine ⟨F1, k.le, see_all h2 h1 hh e, fun v H' Av s w nd fresh => q v H' ?_⟩
  obtain ⟨B', kB, sub⟩ := k.part hl
  obtain ⟨k2, x2⟩ := kB.push s w nd fresh
  exact ⟨F1, Av ++ B', x.trans ((Ext.own' Ext.refl sub).trans x2), k2, True.intro⟩
theorem Res.flat {d : D} {v : V} {Q : VK} (h : Res K F H (.frz d) Q) (e : flatOf d = some v) : Q v H := h v H [] (Same.refl _) (.frz (.flat e .nil) .nil) .nil (fun _ m => by cases m)
theorem Res.frz {d : D} {v : V} {Q : VK} (h : Res K F H (.frz d) Q) (e : RepL K F [v] [d]) : Q v H := h v H [] (Same.refl _) (.frz e .nil) .nil (fun _ m => by cases m)
end
def gC (d : D) : GE := fun Γ => some (.own (.frz d), Γ)
def gVar (i : Nat) : GE := fun Γ => match Γ[i]? with
  | some (some (.frz d)) => some (.own (.frz d), Γ)
  | some (some _) => some (.var i, Γ)
  | _ => none
section
variable {X : Cx} {K : PySem.W.Frag} {e a b : Expr} {es : List Expr} {fa fb : GE} {fs : GA} {pos : Pos}
theorem de_c {v : V} {d : D} (h : PE X e (tC v)) (q : flatOf d = some v := by rfl) : PE X e (tG K (gC d)) := h.mono fun σ H Q t => by
  obtain ⟨F, A, Γ, r, Γ', k, e, w⟩ := t
  cases e
  obtain ⟨k2, x⟩ := k.push (v := v) (o := .frz d) (Av := []) (Same.refl _) (.frz (.flat q .nil) .nil) .nil (fun _ m => by cases m)
  exact w v H ⟨F, _, x, k2, True.intro⟩
theorem de_var {i : Nat} (h : PE X e (tVar i)) : PE X e (tG K (gVar i)) := h.mono fun σ H Q t => by
  obtain ⟨F, A, Γ, r, Γ', k, e, w⟩ := t
  unfold gVar at e
  cases q : Γ[i]? with
  | none => rw [q] at e; cases e
  | some z =>
    cases z with
    | none => rw [q] at e; cases e
    | some o =>
      rw [q] at e
      obtain ⟨v, Ai, B, g1, g2, g3, g4⟩ := k.os.take q
      refine ⟨v, g1, w v H ?_⟩
      cases o with
      | frz d =>
        cases e
        cases g2 with
        | frz rp _ =>
          obtain ⟨k2, x⟩ := k.push (v := v) (o := .frz d) (Av := []) (Same.refl _) (.frz rp .nil) .nil (fun _ m => by cases m)
          exact ⟨F, _, x, k2, True.intro⟩
      | _ =>
        cases e
        exact ⟨F, A, Ext.refl, ⟨k.le, .skip k.os, k.nd, k.fr⟩, g1, True.intro⟩
def gaNil : GA := fun Γ => some ([], Γ)
def gaCons (f : GE) (g : GA) : GA := fun Γ => (f Γ).bind fun p => (g p.2).bind fun q => some (p.1 :: q.1, q.2)
theorem gaCons_inv {f : GE} {g : GA} {Γ Γ' : Gm} {rs : List R} (e : gaCons f g Γ = some (rs, Γ')) : ∃ r Γ1 rs', f Γ = some (r, Γ1) ∧ g Γ1 = some (rs', Γ') ∧ rs = r :: rs' := by
  unfold gaCons at e
  cases e1 : f Γ with
  | none => rw [e1] at e; cases e
  | some p =>
    rw [e1] at e
    dsimp only [Option.bind] at e
    cases e2 : g p.2 with
    | none => rw [e2] at e; cases e
    | some q => rw [e2] at e; cases e; exact ⟨p.1, p.2, q.1, rfl, e2, rfl⟩
theorem da_nil : PA X [] (tGA K gaNil) := pa_nil.mono fun σ H Q t => by
  obtain ⟨F, A, Γ, r, Γ', k, e, w⟩ := t
  cases e
  exact w [] H ⟨F, A, Ext.refl, k, True.intro⟩
theorem tGA_cons {σ : St} {H : Hp} {Q : List V → Hp → Prop} (t : tGA K (gaCons fa fs) σ H Q) : tCons (tG K fa) (tGA K fs) σ H Q := by
  obtain ⟨F, A, Γ, r, Γ', k, e, w⟩ := t
  obtain ⟨r1, Γ1, rs, e1, e2, rfl⟩ := gaCons_inv e
  refine ⟨F, A, Γ, r1, Γ1, k, e1, fun v H1 p => ?_⟩
  obtain ⟨F1, A1, x, k1, hh⟩ := id p
  obtain ⟨C, kC, fr⟩ := OK.frame (τ := [some v]) (Θ := [r1.o]) k1 rfl
  refine ⟨F1, C, Γ1, rs, Γ', kC, e2, fun vs H2 p2 => w (v :: vs) H2 ?_⟩
  obtain ⟨F2, A2, x2, k2, h2⟩ := p2
  obtain ⟨A3, x3, k3⟩ := fr _ _ _ _ _ x2 k2
  exact ⟨F2, A3, x.trans x3, k3, Held.one hh h2⟩
theorem da_cons (ha : PE X e (tG K fa)) (hs : PA X es (tGA K fs)) (hp : starEach (e :: es) X.env = (false, eval e X.env) :: starEach es X.env := by rfl) : PA X (e :: es) (tGA K (gaCons fa fs)) :=
  (pa_cons ha hs hp).mono fun σ H Q t => tGA_cons t
def gOp (g : List O → Option O) (fs : GA) : GE := fun Γ => (fs Γ).bind fun p => (seeL p.2 p.1).bind fun os => (g os).bind fun o => some (.own o, p.2)
abbrev gBin (g : List O → Option O) (fa fb : GE) : GE := gOp g (gaCons fa (gaCons fb gaNil))
abbrev gUn (g : List O → Option O) (fa : GE) : GE := gOp g (gaCons fa gaNil)
theorem gOp_inv {g : List O → Option O} {Γ Γ' : Gm} {r : R} (e : gOp g fs Γ = some (r, Γ')) : ∃ rs os o, fs Γ = some (rs, Γ') ∧ seeL Γ' rs = some os ∧ g os = some o ∧ r = .own o := by
  unfold gOp at e
  cases e1 : fs Γ with
  | none => rw [e1] at e; cases e
  | some p =>
    rw [e1] at e
    dsimp only [Option.bind] at e
    cases e2 : seeL p.2 p.1 with
    | none => rw [e2] at e; cases e
    | some os =>
      rw [e2] at e
      dsimp only at e
      cases e3 : g os with
      | none => rw [e3] at e; cases e
      | some o => rw [e3] at e; cases e; exact ⟨p.1, os, o, rfl, e2, e3, rfl⟩
def OpOk (K : PySem.W.Frag) (r : List V → Hp → VK → Prop) (g : List O → Option O) : Prop :=
  ∀ (F H : Hp) (vs : List V) (os : List O) (o : O) (Q : VK), Same F H → Sees K F H vs os → g os = some o → Res K F H o Q → r vs H Q
theorem tG_op {r : List V → Hp → VK → Prop} {g : List O → Option O} (ok : OpOk K r g) {σ : St} {H : Hp} {Q : VK} (t : tG K (gOp g fs) σ H Q) : tGA K fs σ H fun vs H1 => r vs H1 Q := by
  obtain ⟨F, A, Γ, rr, Γ', k, e, w⟩ := t
  obtain ⟨rs, os, o, e1, e2, e3, rfl⟩ := gOp_inv e
  refine ⟨F, A, Γ, rs, Γ', k, e1, fun vs H1 p => ?_⟩
  obtain ⟨F1, le, see, res⟩ := p.res e2 w
  exact ok F1 H1 vs os o Q le see e3 res
def r2L (r : R2) : List V → Hp → VK → Prop := fun vs H Q => ∃ x y, vs = [x, y] ∧ r x y H Q
def r1L (r : V → Hp → VK → Prop) : List V → Hp → VK → Prop := fun vs H Q => ∃ x, vs = [x] ∧ r x H Q
theorem tG.mono {f : GE} {Q1 Q2 : VK} {σ : St} {H : Hp} (t : tG K f σ H Q1) (q : ∀ v H', Q1 v H' → Q2 v H') : tG K f σ H Q2 := by
  obtain ⟨F, A, Γ, rr, Γ', k, e, w⟩ := t
  exact ⟨F, A, Γ, rr, Γ', k, e, fun v H' p => q _ _ (w v H' p)⟩
theorem tG_bin {r : R2} {g : List O → Option O} (ok : OpOk K (r2L r) g) {σ : St} {H : Hp} {Q : VK} (t : tG K (gBin g fa fb) σ H Q) : tOp r (tG K fa) (tG K fb) σ H Q := by
  show tG K fa σ H fun x H1 => tG K fb σ H1 fun y H2 => r x y H2 Q
  refine tG.mono (tGA_cons (tG_op ok t)) fun x H1 h => tG.mono (tGA_cons h) fun y H2 h2 => ?_
  obtain ⟨F, A, Γ, rs, Γ', k, e, w⟩ := h2
  cases e
  obtain ⟨x', y', e1, h3⟩ := w [] H2 ⟨F, A, Ext.refl, k, True.intro⟩
  cases e1
  exact h3
theorem tG_un {r : V → Hp → VK → Prop} {g : List O → Option O} (ok : OpOk K (r1L r) g) {σ : St} {H : Hp} {Q : VK} (t : tG K (gUn g fa) σ H Q) : tG K fa σ H fun x H1 => r x H1 Q := by
  refine tG.mono (tGA_cons (tG_op ok t)) fun x H1 h => ?_
  obtain ⟨F, A, Γ, rs, Γ', k, e, w⟩ := h
  cases e
  obtain ⟨x', e1, h3⟩ := w [] H1 ⟨F, A, Ext.refl, k, True.intro⟩
  cases e1
  exact h3
theorem de_op {op : Operator} {r : R2} {g : List O → Option O} (ho : OpR X (binaryOp op) r) (ok : OpOk K (r2L r) g) (ha : PE X a (tG K fa)) (hb : PE X b (tG K fb)) : PE X (.BinOp a op b pos) (tG K (gBin g fa fb)) :=
  (pe_op ho ha hb).mono fun _ _ _ t => tG_bin ok t
theorem de_cmp {op : CmpOp} {r : R2} {g : List O → Option O} (ho : OpR X (compareOp op) r) (ok : OpOk K (r2L r) g) (ha : PE X a (tG K fa)) (hb : PE X b (tG K fb)) (hm : behindInMarks op b = false := by first | rfl | exact nomark _) : PE X (.Compare a [op] [b] pos) (tG K (gBin g fa fb)) :=
  (pe_cmpR ho ha hb hm).mono fun _ _ _ t => tG_bin ok t
theorem de_ix {r : R2} {g : List O → Option O} (hr : IxR X r) (ok : OpOk K (r2L r) g) (ha : PE X a (tG K fa)) (hb : PE X b (tG K fb)) (hs : PlainIx b := by exact fun _ _ => rfl) : PE X (.Subscript a b pos) (tG K (gBin g fa fb)) :=
  (pe_ix hr ha hb hs).mono fun _ _ _ t => tG_bin ok t
theorem de_un {op : UnaryOp} {r : V → Hp → VK → Prop} {g : List O → Option O} (ho : UnR X (unaryOp op) r) (ok : OpOk K (r1L r) g) (ha : PE X a (tG K fa)) : PE X (.UnaryOp op a pos) (tG K (gUn g fa)) :=
  (pe_un ho ha).mono fun _ _ _ t => tG_un ok t
variable {x : Str} {p : Pos} {id T : String} {r : List V → Hp → VK → Prop} {g : List O → Option O}
theorem de_callB (hc : CallR X (.builtin id) r) (ok : OpOk K r g) (hm : X.mg x = none) (hv : bootBuiltins x = some (.builtin id)) (ha : PA X (e :: es) (tGA K fs)) (hg : Gl X x := by rfl) (hn : x ≠ "__name__" := by decide) (hdb : (x == ("__debug__" : Str)) = false := by decide)
    (he : starEach (e :: es) X.env = (false, eval e X.env) :: starEach es X.env := by rfl) (hpl : (backTo pos (starEach es X.env)).any (·.1) = false := by rfl) : PE X (.Call (.Name x p) (e :: es) [] pos) (tG K (gOp g fs)) :=
  (pe_callB hc hg hm hv ha hn hdb he hpl).mono fun _ _ _ t => tG_op ok t
theorem de_callTy (hc : CallR X (.type T) r) (ok : OpOk K r g) (hm : X.mg x = none) (hv : bootBuiltins x = some (.type T)) (ha : PA X (e :: es) (tGA K fs)) (hg : Gl X x := by rfl) (hn : x ≠ "__name__" := by decide) (hdb : (x == ("__debug__" : Str)) = false := by decide)
    (he : starEach (e :: es) X.env = (false, eval e X.env) :: starEach es X.env := by rfl) (hpl : (backTo pos (starEach es X.env)).any (·.1) = false := by rfl) : PE X (.Call (.Name x p) (e :: es) [] pos) (tG K (gOp g fs)) :=
  (pe_callTy hc hg hm hv ha hn hdb he hpl).mono fun _ _ _ t => tG_op ok t
mutual
def O.d : O → D
  | .frz d => d
  | .lst xs => .lst (O.dl xs)
  | .tup xs => .tup (O.dl xs)
  | .dct kvs => .dct (O.dk kvs)
def O.dl : List O → List D
  | [] => []
  | x :: xs => x.d :: O.dl xs
def O.dk : List (TK × O) → List (TK × D)
  | [] => []
  | (k, x) :: xs => (k, x.d) :: O.dk xs
end
end
theorem OwnL.rep {K : PySem.W.Frag} {F F' H : Hp} {σ : St} {Γ : Gm} {A : List Addr} (h : OwnL K F H σ Γ A) (s : Same F F') (k : ∀ a ∈ A, ∀ o, H a = some o → F' a = some o) :
    ∀ (vs : List V) (os : List O), σ = vs.map some → Γ = os.map some → RepL K F' vs (O.dl os) := by
  induction h with
  | nil =>
    intro vs os e1 e2
    cases vs with
    | nil => cases os with
      | nil => exact .nil
      | cons _ _ => cases e2
    | cons _ _ => cases e1
  | skip _ _ =>
    intro vs os e1 e2
    cases os with
    | nil => cases e2
    | cons _ _ => injection e2 with e3 _; cases e3
  | frz r _ ih =>
    intro vs os e1 e2
    cases vs with
    | nil => cases e1
    | cons v vs => cases os with
      | nil => cases e2
      | cons o os =>
        injection e1 with e3 e4
        injection e2 with e5 e6
        cases e3; cases e5
        exact .cons (r.mono s) (ih k vs os e4 e6)
  | lst e _ _ i1 i2 =>
    intro vs os e1 e2
    cases vs with
    | nil => cases e1
    | cons v vs => cases os with
      | nil => cases e2
      | cons o os =>
        injection e1 with e3 e4
        injection e2 with e5 e6
        cases e3; cases e5
        exact .lst (.inl (k _ (by simp) _ e)) (i1 (fun a m => k a (by simp [m])) _ _ rfl rfl) (i2 (fun a m => k a (by simp [m])) vs os e4 e6)
  | tup e _ _ i1 i2 =>
    intro vs os e1 e2
    cases vs with
    | nil => cases e1
    | cons v vs => cases os with
      | nil => cases e2
      | cons o os =>
        injection e1 with e3 e4
        injection e2 with e5 e6
        cases e3; cases e5
        exact .tup (SqT.of (k _ (by simp) _ e)) (i1 (fun a m => k a (by simp [m])) _ _ rfl rfl) (i2 (fun a m => k a (by simp [m])) vs os e4 e6)
  | @dct a kvs ps A B σ Γ e q r _ _ i1 i2 =>
    intro vs os e1 e2
    cases vs with
    | nil => cases e1
    | cons v vs => cases os with
      | nil => cases e2
      | cons o os =>
        injection e1 with e3 e4
        injection e2 with e5 e6
        cases e3; cases e5
        have hk : ∀ ps : List (TK × O), (O.dk ps).map (·.1) = ps.map (·.1) ∧ (O.dk ps).map (·.2) = O.dl (ps.map (·.2)) ∧ (O.dk ps).map (·.1.d) = ps.map (·.1.d) := by
          intro ps
          induction ps with
          | nil => exact ⟨rfl, rfl, rfl⟩
          | cons p ps ih => obtain ⟨a, b⟩ := p; exact ⟨by simp [O.dk, ih.1], by simp [O.dk, O.dl, ih.2.1], by simp [O.dk, ih.2.2]⟩
        refine .dct (k _ (by simp) _ e) (q.trans (hk ps).1.symm) (by rw [(hk ps).2.2]; exact r.mono s) ?_ (i2 (fun a m => k a (by simp [m])) vs os e4 e6)
        rw [(hk ps).2.1]
        exact i1 (fun a m => k a (by simp [m])) _ _ (by simp) (by simp)
section
variable {K : PySem.W.Frag} {F H : Hp} {A : List Addr} {σ : St} {Γ : Gm}
theorem OK.freeze {v : V} {o : O} (k : OK K F H (some v :: σ) (some o :: Γ) A) : ∃ F' A', OK K F' H (some v :: σ) (some (.frz o.d) :: Γ) A' ∧ Ext F H A F' H A' := by
  obtain ⟨B, C, h1, h2, h3⟩ := k.os.one
  subst h3
  obtain ⟨n1, n2, n3⟩ := List.nodup_append.mp k.nd
  let F' : Hp := fun a => if a ∈ B then H a else F a
  have in' : ∀ a, a ∈ B → F' a = H a := fun a m => if_pos m
  have out' : ∀ a, a ∉ B → F' a = F a := fun a m => if_neg m
  have s : Same F F' := fun a u e => by
    rw [out' a fun m => by rw [k.fr a (List.mem_append_left _ m)] at e; cases e]
    exact e
  have le : Same F' H := fun a u e => by
    by_cases m : a ∈ B
    · rw [in' a m] at e; exact e
    · rw [out' a m] at e; exact k.le a u e
  have rp : RepL K F' [v] [o.d] := h1.rep s (fun a m u e => by rw [in' a m]; exact e) [v] [o] rfl rfl
  refine ⟨F', C, ⟨le, .frz rp (h2.keep s fun a _ u e => e), n2, fun a m => ?_⟩, s, fun a u e _ => e, fun a h => h, fun a h => ?_, fun a m => .inl (List.mem_append_right _ m)⟩
  · rw [out' a fun z => n3 a z a m rfl]
    exact k.fr a (List.mem_append_right _ m)
  · by_cases m : a ∈ B
    · exact .inr (.inl (List.mem_append_left _ m))
    · rw [out' a m] at h; exact .inl h
theorem OK.grab {v : V} {o : O} {i : Nat} {A : List Addr} (k : OK K F H (some v :: σ) (none :: Γ) A) (hv : σ[i]? = some (some v)) (ho : Γ[i]? = some (some o)) : ∃ A', OK K F H (some v :: σ) (some o :: Γ.set i none) A' ∧ Ext F H A F H A' := by
  obtain ⟨B, C, h1, h2, h3⟩ := k.os.one
  subst h3
  have eB : B = [] := by cases h1 with | skip t => cases t; rfl
  subst eB
  obtain ⟨v', Ai, B', g1, g2, g3, g4⟩ := h2.take ho
  rw [hv] at g1
  cases g1
  have nd := k.nd
  have fr := k.fr
  rw [List.nil_append] at nd fr
  exact ⟨Ai ++ B', .perm (g2.app g3) k.le nd fr g4.symm, Ext.own' Ext.refl fun a m => g4.mem_iff.mpr m⟩
end
def gFrz (f : GE) : GE := fun Γ => (f Γ).bind fun p => match p.1 with
  | .own o => some (.own (.frz o.d), p.2)
  | .var i => match p.2[i]? with
    | some (some o) => some (.own (.frz o.d), p.2.set i (some (.frz o.d)))
    | _ => none
def gMove (f : GE) : GE := fun Γ => (f Γ).bind fun p => match p.1 with
  | .own o => some (.own o, p.2)
  | .var i => match p.2[i]? with
    | some (some o) => some (.own o, p.2.set i none)
    | _ => none
section
variable {X : Cx} {K : PySem.W.Frag} {e a b : Expr} {es : List Expr} {fa fb : GE} {fs : GA} {pos : Pos}
theorem set_same {α : Type} : ∀ {l : List α} {i : Nat} {x : α}, l[i]? = some x → l.set i x = l
  | [], _, _, e => by simp at e
  | y :: l, 0, x, e => by simp at e; subst e; rfl
  | y :: l, i + 1, x, e => by rw [List.set_cons_succ, set_same (by simpa using e)]
theorem Post.frz {F H : Hp} {A : List Addr} {σ : St} {Γ Γ1 Γ' : Gm} {r r' : R} {v : V} {H' : Hp} {f : GE} (e : f Γ = some (r, Γ1)) (e' : gFrz f Γ = some (r', Γ')) (h : Post K F H A σ Γ1 [r] [v] H') : Post K F H A σ Γ' [r'] [v] H' := by
  obtain ⟨F1, A1, x, k, hh⟩ := h
  unfold gFrz at e'
  rw [e] at e'
  cases r with
  | own o =>
    cases e'
    obtain ⟨F2, A2, k2, x2⟩ := OK.freeze (σ := σ) (Γ := Γ1) k
    exact ⟨F2, A2, x.trans x2, k2, True.intro⟩
  | var i =>
    dsimp only [Option.bind] at e'
    cases q : Γ1[i]? with
    | none => rw [q] at e'; cases e'
    | some z =>
      cases z with
      | none => rw [q] at e'; cases e'
      | some o =>
        rw [q] at e'
        cases e'
        have hv : σ[i]? = some (some v) := hh.1
        obtain ⟨A2, k2, x2⟩ := OK.grab (σ := σ) (Γ := Γ1) k hv q
        obtain ⟨F3, A3, k3, x3⟩ := OK.freeze k2
        obtain ⟨B, C, h1, h2, h3⟩ := k3.os.one
        have hi : i < (Γ1.set i none).length := by
          rw [List.length_set]
          exact (List.getElem?_eq_some_iff.mp q).1
        have rp : RepL K F3 [v] [o.d] := by cases h1 with | frz r _ => exact r
        have eB : B = [] := by cases h1 with | frz _ t => cases t; rfl
        subst eB
        obtain ⟨B2, g1, C2, g2, g3⟩ := OwnL.put (.frz rp .nil) i h2 hi
        rw [set_same hv, List.set_set] at g1
        rw [List.nil_append] at g2 h3
        subst h3
        have nd2 : B2.Nodup := g2.nodup_iff.mpr (k3.nd.sublist g3)
        have sub : ∀ a ∈ B2, a ∈ A3 := fun a m => g3.subset (g2.mem_iff.mp m)
        exact ⟨F3, B2, (x.trans (x2.trans x3)).own' sub, ⟨k3.le, .frz rp g1, nd2, fun a m => k3.fr a (sub a m)⟩, True.intro⟩
theorem gFrz_inv {f : GE} {Γ Γ' : Gm} {r : R} (e : gFrz f Γ = some (r, Γ')) : ∃ r1 Γ1, f Γ = some (r1, Γ1) := by
  unfold gFrz at e
  cases q : f Γ with
  | none => rw [q] at e; cases e
  | some p => exact ⟨p.1, p.2, rfl⟩
theorem tG_frz {σ : St} {H : Hp} {Q : VK} (t : tG K (gFrz fa) σ H Q) : tG K fa σ H Q := by
  obtain ⟨F, A, Γ, rr, Γ', k, e, w⟩ := t
  obtain ⟨r1, Γ1, e1⟩ := gFrz_inv e
  exact ⟨F, A, Γ, r1, Γ1, k, e1, fun v H' p => w v H' (p.frz e1 e)⟩
theorem de_frz (h : PE X e (tG K fa)) : PE X e (tG K (gFrz fa)) := h.mono fun _ _ _ t => tG_frz t
theorem tG_move {σ : St} {H : Hp} {Q : VK} (t : tG K (gMove fa) σ H Q) : tG K fa σ H Q := by
  obtain ⟨F, A, Γ, rr, Γ', k, e, w⟩ := t
  unfold gMove at e
  cases q : fa Γ with
  | none => rw [q] at e; cases e
  | some p =>
    rw [q] at e
    refine ⟨F, A, Γ, p.1, p.2, k, q, fun v H' pp => w v H' ?_⟩
    obtain ⟨r, Γ1⟩ := p
    cases r with
    | own o => cases e; exact pp
    | var i =>
      dsimp only [Option.bind] at e
      cases q : Γ1[i]? with
      | none => rw [q] at e; cases e
      | some z =>
        cases z with
        | none => rw [q] at e; cases e
        | some o =>
          rw [q] at e
          cases e
          obtain ⟨F1, A1, x, k, hh⟩ := pp
          obtain ⟨A2, k2, x2⟩ := OK.grab (σ := σ) (Γ := Γ1) k hh.1 q
          exact ⟨F1, A2, x.trans x2, k2, True.intro⟩
theorem de_move (h : PE X e (tG K fa)) : PE X e (tG K (gMove fa)) := h.mono fun _ _ _ t => tG_move t
def ownL : List R → Option (List O)
  | [] => some []
  | .own o :: rs => (ownL rs).bind fun os => some (o :: os)
  | .var _ :: _ => none
theorem ownL_map : ∀ {rs : List R} {os : List O}, ownL rs = some os → rs.map R.o = os.map some
  | [], os, e => by cases e; rfl
  | .own o :: rs, os, e => by
    unfold ownL at e
    cases q : ownL rs with
    | none => rw [q] at e; cases e
    | some os' => rw [q] at e; cases e; simp [ownL_map q, R.o]
  | .var _ :: _, _, e => by cases e
def gSeq (c : List O → O) (fs : GA) : GE := fun Γ => (fs Γ).bind fun p => if p.1.length ≤ 1000 then (ownL p.1).bind fun os => some (.own (c os), p.2) else none
theorem gSeq_inv {c : List O → O} {Γ Γ' : Gm} {r : R} (e : gSeq c fs Γ = some (r, Γ')) : ∃ rs os, fs Γ = some (rs, Γ') ∧ rs.length ≤ 1000 ∧ ownL rs = some os ∧ r = .own (c os) := by
  unfold gSeq at e
  cases e1 : fs Γ with
  | none => rw [e1] at e; cases e
  | some p =>
    rw [e1] at e
    dsimp only [Option.bind] at e
    split at e
    · cases e2 : ownL p.1 with
      | none => rw [e2] at e; cases e
      | some os => rw [e2] at e; cases e; exact ⟨p.1, os, rfl, by assumption, e2, rfl⟩
    · cases e
theorem de_lst (h : PA X es (tGA K fs)) : PE X (.List es pos) (tG K (gSeq .lst fs)) := (pe_lst h).mono fun σ H Q t => by
  obtain ⟨F, A, Γ, rr, Γ', k, e, w⟩ := t
  obtain ⟨rs, os, e1, e2, e3, rfl⟩ := gSeq_inv e
  refine ⟨F, A, Γ, rs, Γ', k, e1, fun vs H1 p => ?_⟩
  obtain ⟨F1, A1, x, k1, hh⟩ := p
  rw [ownL_map e3] at k1
  have hl := hh.length
  have ho : os.length = rs.length := by have := congrArg List.length (ownL_map e3); simpa using this.symm
  refine ⟨sl1000 (by omega), fun l hn => w (.ref l) _ ?_⟩
  obtain ⟨B, C, h1, h2, h3⟩ := OwnL.split (by simp only [List.length_map]; omega) k1.os
  have nl : ∀ a ∈ A1, a ≠ l := fun a m z => k1.os.there a m (by rw [z]; exact hn)
  have kp : ∀ a ∈ A1, ∀ o, H1 a = some o → upd H1 l (.lst vs) a = some o := fun a m o e => by rw [upd_ne (nl a m)]; exact e
  subst h3
  refine ⟨F1, l :: B ++ C, x.trans ⟨Same.refl _, fun a o e _ => ?_, fun a h => ?_, fun a h => .inl h, fun a m => ?_⟩, ⟨fun a o e => ?_, ?_, ?_, ?_⟩, True.intro⟩
  · rw [upd_ne (ne_of_none e hn)]; exact e
  · by_cases z : a = l
    · rw [z, upd_same]; exact fun z => by cases z
    · rw [upd_ne z]; exact h
  · rcases List.mem_cons.mp m with rfl | m
    · exact .inr hn
    · exact .inl m
  · have := k1.le a o e
    rw [upd_ne (ne_of_none this hn)]; exact this
  · exact .lst upd_same (h1.keep (Same.refl _) fun a m => kp a (List.mem_append_left _ m)) (h2.keep (Same.refl _) fun a m => kp a (List.mem_append_right _ m))
  · exact List.nodup_cons.mpr ⟨fun m => nl l m rfl, k1.nd⟩
  · intro a m
    rcases List.mem_cons.mp m with rfl | m
    · exact k1.le.free hn
    · exact k1.fr a m
theorem de_tup {x1} (h : PA X es (tGA K fs)) : PE X (.Tuple es x1 pos) (tG K (gSeq .tup fs)) := (pe_tup h).mono fun σ H Q t => by
  obtain ⟨F, A, Γ, rr, Γ', k, e, w⟩ := t
  obtain ⟨rs, os, e1, e2, e3, rfl⟩ := gSeq_inv e
  refine ⟨F, A, Γ, rs, Γ', k, e1, fun vs H1 p => ?_⟩
  obtain ⟨F1, A1, x, k1, hh⟩ := p
  rw [ownL_map e3] at k1
  have hl := hh.length
  have ho : os.length = rs.length := by have := congrArg List.length (ownL_map e3); simpa using this.symm
  refine ⟨sl1000 (by omega), fun l hn => w (.ref l) _ ?_⟩
  obtain ⟨B, C, h1, h2, h3⟩ := OwnL.split (by simp only [List.length_map]; omega) k1.os
  have nl : ∀ a ∈ A1, a ≠ l := fun a m z => k1.os.there a m (by rw [z]; exact hn)
  have kp : ∀ a ∈ A1, ∀ o, H1 a = some o → upd H1 l (.tup vs) a = some o := fun a m o e => by rw [upd_ne (nl a m)]; exact e
  subst h3
  refine ⟨F1, l :: B ++ C, x.trans ⟨Same.refl _, fun a o e _ => ?_, fun a h => ?_, fun a h => .inl h, fun a m => ?_⟩, ⟨fun a o e => ?_, ?_, ?_, ?_⟩, True.intro⟩
  · rw [upd_ne (ne_of_none e hn)]; exact e
  · by_cases z : a = l
    · rw [z, upd_same]; exact fun z => by cases z
    · rw [upd_ne z]; exact h
  · rcases List.mem_cons.mp m with rfl | m
    · exact .inr hn
    · exact .inl m
  · have := k1.le a o e
    rw [upd_ne (ne_of_none this hn)]; exact this
  · exact .tup upd_same (h1.keep (Same.refl _) fun a m => kp a (List.mem_append_left _ m)) (h2.keep (Same.refl _) fun a m => kp a (List.mem_append_right _ m))
  · exact List.nodup_cons.mpr ⟨fun m => nl l m rfl, k1.nd⟩
  · intro a m
    rcases List.mem_cons.mp m with rfl | m
    · exact k1.le.free hn
    · exact k1.fr a m
def gDict0 : GE := fun Γ => some (.own (.dct []), Γ)
theorem dg_empty {P : Program} {w : World} {H : Hp} (h : Heap) (hb : sysModules < h.objs.size) : ObjOk P w H (h.push { cls := .type "dict", data := .dict #[] }) h.objs.size (.dG []) :=
  ⟨Nat.zero_le _, beq_eq_false_iff_ne.mpr (Ne.symm (Nat.ne_of_lt hb)), _, #[], 0, Heap.get?_push_size _ rfl, ⟨rfl, rfl, rfl⟩, rfl, .nil, List.nodup_nil⟩
def gT (f : GE) : GT := fun Γ => (f Γ).bind fun p => match p.1 with
  | .own (.frz (.bl b)) => some (b, p.2)
  | _ => none
theorem Post.drop {F H : Hp} {A : List Addr} {σ : St} {Γ' : Gm} {rs : List R} {vs : List V} {H' : Hp} (h : Post K F H A σ Γ' rs vs H') : Post K F H A σ Γ' [] [] H' := by
  obtain ⟨F1, A1, x, k, hh⟩ := h
  obtain ⟨B, kB, sub⟩ := k.part (by rw [List.length_map, List.length_map, hh.length])
  exact ⟨F1, B, x.own' sub, kB, True.intro⟩
theorem Post.flat {F H : Hp} {A : List Addr} {σ : St} {Γ' : Gm} {d : D} {v w : V} {H' : Hp} (h : Post K F H A σ Γ' [.own (.frz d)] [v] H') (e : flatOf d = some w) : v = w := by
  obtain ⟨F1, A1, x, k, hh⟩ := h
  obtain ⟨B, C, h1, _⟩ := OwnL.one (σ := σ) (Γ := Γ') k.os
  cases h1 with
  | frz r _ =>
    cases r with
    | flat e' _ => rw [e] at e'; exact (Option.some.inj e').symm
    | lst _ _ _ => cases e
    | tup _ _ _ => cases e
    | dct _ _ _ _ _ => cases e
    | scr _ _ => cases e
theorem tG_test {f : GE} {σ : St} {H : Hp} {Q : Bool → Hp → Prop} (t : tGT K (gT f) σ H Q) : tG K f σ H fun x H' => ∃ k, x = .bl k ∧ Q k H' := by
  obtain ⟨F, A, Γ, b, Γ', k, e, w⟩ := t
  unfold gT at e
  cases q : f Γ with
  | none => rw [q] at e; cases e
  | some p =>
    obtain ⟨r, Γ1⟩ := p
    rw [q] at e
    dsimp only [Option.bind] at e
    cases r with
    | var i => cases e
    | own o =>
      cases o with
      | frz d =>
        cases d with
        | bl b' =>
          cases e
          exact ⟨F, A, Γ, _, _, k, q, fun v H' pp => ⟨_, pp.flat rfl, w H' pp.drop⟩⟩
        | _ => cases e
      | _ => cases e
theorem dt_cmp {op : CmpOp} {r : R2} {g : List O → Option O} (ho : OpR X (compareOp op) r) (ok : OpOk K (r2L r) g) (ha : PE X a (tG K fa)) (hb : PE X b (tG K fb)) (hm : behindInMarks op b = false := by first | rfl | exact nomark _) : PT X (.Compare a [op] [b] pos) (tGT K (gT (gBin g fa fb))) :=
  (pt_cmpR ho ha hb hm).mono fun _ _ _ t => tG_bin ok (tG_test t)
def truO : O → Option Bool
  | .frz .non => some false
  | .frz (.bl b) => some b
  | .frz (.int i) => some (i != 0)
  | .frz (.str x) => if x.length ≤ 1000000 then some ((x.length : Int) != 0) else none
  | .frz (.lst xs) => some (!xs.isEmpty)
  | .frz (.tup xs) => some (!xs.isEmpty)
  | .lst xs => some (!xs.isEmpty)
  | .tup xs => some (!xs.isEmpty)
  | _ => none
def gTru (f : GE) : GT := fun Γ => (f Γ).bind fun p => (seeR p.2 p.1).bind fun o => (truO o).bind fun b => some (b, p.2)
theorem isEmpty_len {α β : Type} {xs : List α} {ys : List β} (h : xs.length = ys.length) : (!xs.isEmpty) = !ys.isEmpty := by
  cases xs <;> cases ys <;> simp_all
theorem truO_ok {F H : Hp} {v : V} {o : O} {b : Bool} {B : List Addr} (le : Same F H) (h : OwnL K F H [some v] [some o] B) (e : truO o = some b) : TruV K v H b := by
  cases h with
  | lst q i _ => cases e; exact .inl ⟨_, SqL.of q, isEmpty_len (by have := i.length; simpa using this.symm)⟩
  | tup q i _ => cases e; exact .inr (.inl ⟨_, SqT.of q, isEmpty_len (by have := i.length; simpa using this.symm)⟩)
  | dct q z r i _ => cases e
  | @frz v d σ Γ B r _ =>
    cases r with
    | lst q i _ => cases e; exact .inl ⟨_, .inl (le.rd q), isEmpty_len i.length.symm⟩
    | tup q i _ => cases e; exact .inr (.inl ⟨_, le.seqT q, isEmpty_len i.length.symm⟩)
    | dct q z r i _ => cases e
    | scr _ _ => cases e
    | flat q _ =>
      cases d with
      | non => cases q; cases e; rfl
      | bl b' => cases q; cases e; rfl
      | int i => cases q; cases e; rfl
      | str x =>
        cases q
        unfold truO at e
        dsimp only at e
        split at e
        · cases e
          exact ⟨Nat.le_trans (by assumption) (by decide), rfl⟩
        · cases e
      | ty n => cases e
      | lst _ => cases q
      | tup _ => cases q
      | dct _ => cases q
      | scr _ => cases q
theorem dt_tru {X : Cx} {a : Expr} {fa : GE} (ha : PE X a (tG K fa)) (he : ∀ whole, isTrue a X.env whole = (do let v ← whole; standAt a.pos; holding [v] (truthy v)) := by exact fun _ => rfl) (hK : X.K = K := by rfl) : PT X a (tGT K (gTru fa)) :=
  (pt_truthK K ha he hK).mono fun σ H Q t => by
    obtain ⟨F, A, Γ, b, Γ', k, e, w⟩ := t
    unfold gTru at e
    cases q : fa Γ with
    | none => rw [q] at e; cases e
    | some p =>
      obtain ⟨r, Γ1⟩ := p
      rw [q] at e
      dsimp only [Option.bind] at e
      cases q2 : seeR Γ1 r with
      | none => rw [q2] at e; cases e
      | some o =>
        rw [q2] at e
        dsimp only at e
        cases q3 : truO o with
        | none => rw [q3] at e; cases e
        | some b' =>
          rw [q3] at e
          cases e
          refine ⟨F, A, Γ, r, _, k, q, fun v H' pp => ⟨_, ?_, w H' pp.drop⟩⟩
          obtain ⟨F1, le, see, _⟩ := Post.res (Q := fun _ _ => True) (o := .frz .non) pp (os := [o]) (by unfold seeL; rw [q2]; rfl) (fun _ _ _ => True.intro)
          cases see with
          | cons hs _ => obtain ⟨B, hB⟩ := hs; exact truO_ok le hB q3
def gNotT (f : GT) : GT := fun Γ => (f Γ).bind fun p => some (!p.1, p.2)
def gAndT (f g : GT) : GT := fun Γ => (f Γ).bind fun p => if p.1 = true then g p.2 else some (false, p.2)
def gOrT (f g : GT) : GT := fun Γ => (f Γ).bind fun p => if p.1 = true then some (true, p.2) else g p.2
theorem tGT_bind {f : GT} {h : GT} {φ : Bool → GT} (eh : ∀ Γ, h Γ = (f Γ).bind fun p => φ p.1 p.2) {σ : St} {H : Hp} {Q : Bool → Hp → Prop} (t : tGT K h σ H Q) : tGT K f σ H fun c H1 => tGT K (φ c) σ H1 Q := by
  obtain ⟨F, A, Γ, b, Γ', k, e, w⟩ := t
  rw [eh] at e
  cases q : f Γ with
  | none => rw [q] at e; cases e
  | some p =>
    obtain ⟨c, Γ1⟩ := p
    rw [q] at e
    refine ⟨F, A, Γ, c, Γ1, k, q, fun H1 pp => ?_⟩
    obtain ⟨F1, A1, x, k1, _⟩ := pp
    exact ⟨F1, A1, Γ1, b, Γ', k1, e, fun H2 p2 => w H2 (by obtain ⟨F2, A2, x2, k2, h2⟩ := p2; exact ⟨F2, A2, x.trans x2, k2, h2⟩)⟩
theorem tGT_pure {b : Bool} {σ : St} {H : Hp} {Q : Bool → Hp → Prop} (t : tGT K (fun Γ => some (b, Γ)) σ H Q) : Q b H := by
  obtain ⟨F, A, Γ, b', Γ', k, e, w⟩ := t
  cases e
  exact w H ⟨F, A, Ext.refl, k, True.intro⟩
theorem tGT.mono {f : GT} {Q1 Q2 : Bool → Hp → Prop} {σ : St} {H : Hp} (t : tGT K f σ H Q1) (q : ∀ v H', Q1 v H' → Q2 v H') : tGT K f σ H Q2 := by
  obtain ⟨F, A, Γ, rr, Γ', k, e, w⟩ := t
  exact ⟨F, A, Γ, rr, Γ', k, e, fun H' p => q _ _ (w H' p)⟩
variable {ft gt : GT} {rest : List Expr}
theorem dt_not (h : PT X a (tGT K ft)) : PT X (.UnaryOp .Not a pos) (tGT K (gNotT ft)) := (pt_not h).mono fun σ H Q t =>
  (tGT_bind (φ := fun c Γ => some (!c, Γ)) (fun _ => rfl) t).mono fun c H1 h => tGT_pure h
theorem dw_and1 (h : PT X a (tGT K ft)) : PW X (.BoolOp .And [a] pos) (tGT K ft) := pw_and1 h
theorem dw_and (ha : PT X a (tGT K ft)) (hb : PW X (.BoolOp .And (b :: rest) pos) (tGT K gt)) : PW X (.BoolOp .And (a :: b :: rest) pos) (tGT K (gAndT ft gt)) := (pw_and ha hb).mono fun σ H Q t =>
  (tGT_bind (φ := fun c Γ => if c = true then gt Γ else some (false, Γ)) (fun _ => rfl) t).mono fun c H1 h => by
    cases c with
    | true => exact iteT (by simpa using h)
    | false => exact iteF (tGT_pure (by simpa using h))
def gIf (c : GT) (f g : GE) : GE := fun Γ => (c Γ).bind fun p => if p.1 = true then f p.2 else g p.2
def gAndV (f g : GE) : GE := fun Γ => (gT f Γ).bind fun p => if p.1 = true then g p.2 else gC (.bl false) p.2
def gOrV (f g : GE) : GE := fun Γ => (gT f Γ).bind fun p => if p.1 = true then gC (.bl true) p.2 else g p.2
def gNotV (f : GE) : GE := fun Γ => (gT f Γ).bind fun p => gC (.bl (!p.1)) p.2
theorem tG_ofT {f : GT} {h : GE} {φ : Bool → GE} (eh : ∀ Γ, h Γ = (f Γ).bind fun p => φ p.1 p.2) {σ : St} {H : Hp} {Q : VK} (t : tG K h σ H Q) : tGT K f σ H fun c H1 => tG K (φ c) σ H1 Q := by
  obtain ⟨F, A, Γ, b, Γ', k, e, w⟩ := t
  rw [eh] at e
  cases q : f Γ with
  | none => rw [q] at e; cases e
  | some p =>
    obtain ⟨c, Γ1⟩ := p
    rw [q] at e
    refine ⟨F, A, Γ, c, Γ1, k, q, fun H1 pp => ?_⟩
    obtain ⟨F1, A1, x, k1, _⟩ := pp
    exact ⟨F1, A1, Γ1, b, Γ', k1, e, fun v H2 p2 => w v H2 (by obtain ⟨F2, A2, x2, k2, h2⟩ := p2; exact ⟨F2, A2, x.trans x2, k2, h2⟩)⟩
theorem tG_c {d : D} {v : V} {σ : St} {H : Hp} {Q : VK} (t : tG K (gC d) σ H Q) (q : flatOf d = some v) : Q v H := by
  obtain ⟨F, A, Γ, r, Γ', k, e, w⟩ := t
  cases e
  obtain ⟨k2, x⟩ := k.push (v := v) (o := .frz d) (Av := []) (Same.refl _) (.frz (.flat q .nil) .nil) .nil (fun _ m => by cases m)
  exact w v H ⟨F, _, x, k2, True.intro⟩
theorem de_one {op} (h : PE X a (tG K fa)) : PE X (.BoolOp op [a] pos) (tG K fa) := pe_one h
theorem de_and (ha : PE X a (tG K fa)) (hb : PE X (.BoolOp .And (b :: rest) pos) (tG K fb)) : PE X (.BoolOp .And (a :: b :: rest) pos) (tG K (gAndV fa fb)) := (pe_and ha hb).mono fun σ H Q t =>
  tG.mono (tG_test (tG_ofT (φ := fun c Γ => if c = true then fb Γ else gC (.bl false) Γ) (fun _ => rfl) t)) fun v H1 ⟨c, e, h⟩ => ⟨c, e, by
    cases c with
    | true => exact iteT (by simpa using h)
    | false => exact iteF (tG_c (d := .bl false) (by simpa using h) rfl)⟩
theorem de_not (ha : PE X a (tG K fa)) : PE X (.UnaryOp .Not a pos) (tG K (gNotV fa)) := (pe_not ha).mono fun σ H Q t =>
  tG.mono (tG_test (tG_ofT (φ := fun c => gC (.bl (!c))) (fun _ => rfl) t)) fun v H1 ⟨c, e, h⟩ => ⟨c, e, tG_c h rfl⟩
end
end L2
set_option Elab.async false
set_option linter.all false
set_option maxRecDepth 100000
set_option maxHeartbeats 4000000
namespace L2
open PySem PySem.Spec PyProof.Rows
def SubP (A B : List Addr) : Prop := ∃ L, A.Perm L ∧ L.Sublist B
theorem SubP.refl (A : List Addr) : SubP A A := ⟨A, .refl _, List.Sublist.refl _⟩
theorem SubP.of_perm {A B : List Addr} (p : A.Perm B) : SubP A B := ⟨B, p, List.Sublist.refl _⟩
theorem SubP.of_sub {A B : List Addr} (p : A.Sublist B) : SubP A B := ⟨A, .refl _, p⟩
theorem SubP.trans {A B C : List Addr} (x : SubP A B) (y : SubP B C) : SubP A C := by
  obtain ⟨L, p, s⟩ := x
  obtain ⟨M, q, t⟩ := y
  obtain ⟨N, n1, n2⟩ := List.exists_perm_sublist s q
  exact ⟨N, p.trans n1.symm, n2.trans t⟩
theorem SubP.mem {A B : List Addr} (x : SubP A B) : ∀ a ∈ A, a ∈ B := fun a m => let ⟨_, p, s⟩ := x; s.subset (p.mem_iff.mp m)
theorem SubP.nodup {A B : List Addr} (x : SubP A B) (n : B.Nodup) : A.Nodup := let ⟨_, p, s⟩ := x; p.nodup_iff.mpr (n.sublist s)
theorem SubP.app {A B C D : List Addr} (x : SubP A B) (y : SubP C D) : SubP (A ++ C) (B ++ D) := let ⟨_, p, s⟩ := x; let ⟨_, q, t⟩ := y; ⟨_, p.append q, s.append t⟩
theorem SubP.comm {A B C : List Addr} (x : SubP (A ++ B) C) : SubP (B ++ A) C := let ⟨_, p, s⟩ := x; ⟨_, List.perm_append_comm.trans p, s⟩
theorem OK.sub {K : PySem.W.Frag} {F H : Hp} {σ σ' : St} {Γ Γ' : Gm} {A B : List Addr} (k : OK K F H σ Γ A) (h : OwnL K F H σ' Γ' B) (s : SubP B A) : OK K F H σ' Γ' B ∧ Ext F H A F H B :=
  ⟨⟨k.le, h, s.nodup k.nd, fun a m => k.fr a (s.mem a m)⟩, Ext.own' Ext.refl s.mem⟩
inductive Fl where
  | nx | bk | ct | rt (o : O)
abbrev GS := Gm → Option (Fl × Gm)
def Kept (m : List Bool) (σ σ' : St) : Prop := ∀ j : Nat, m[j]? = some true → σ'[j]? = σ[j]?
theorem Kept.refl {m : List Bool} {σ : St} : Kept m σ σ := fun _ _ => rfl
theorem Kept.trans {m : List Bool} {σ σ1 σ2 : St} (a : Kept m σ σ1) (b : Kept m σ1 σ2) : Kept m σ σ2 := fun j h => (b j h).trans (a j h)
theorem Kept.set {m : List Bool} {σ : St} {i : Nat} {v : Option V} (h : (m[i]? == some true) = false) : Kept m σ (σ.set i v) := fun j hj => by
  by_cases e : i = j
  · subst e; rw [hj] at h; simp at h
  · rw [List.getElem?_set_ne e]
def PostS (K : PySem.W.Frag) (F H : Hp) (A : List Addr) (m : List Bool) (σ : St) (Γ' : Gm) (σ' : St) (H' : Hp) : Prop := ∃ F' A', Ext F H A F' H' A' ∧ OK K F' H' σ' Γ' A' ∧ Kept m σ σ'
def PostV (K : PySem.W.Frag) (F H : Hp) (A : List Addr) (m : List Bool) (σ : St) (Γ' : Gm) (o : O) (v : V) (σ' : St) (H' : Hp) : Prop := ∃ F' A', Ext F H A F' H' A' ∧ OK K F' H' (some v :: σ') (some o :: Γ') A' ∧ Kept m σ σ'
def Done (K : PySem.W.Frag) (m : List Bool) (D : Ends) (F H : Hp) (A : List Addr) (σ : St) : Fl → Gm → Prop
  | .nx, Γ' => ∀ σ' H', PostS K F H A m σ Γ' σ' H' → D.nx σ' H'
  | .bk, Γ' => ∀ σ' H', PostS K F H A m σ Γ' σ' H' → D.bk σ' H'
  | .ct, Γ' => ∀ σ' H', PostS K F H A m σ Γ' σ' H' → D.ct σ' H'
  | .rt o, Γ' => ∀ v σ' H', PostV K F H A m σ Γ' o v σ' H' → D.rt v H'
def tS (K : PySem.W.Frag) (m : List Bool) (f : GS) : TS := fun D σ H => ∃ F A Γ fl Γ', OK K F H σ Γ A ∧ f Γ = some (fl, Γ') ∧ Done K m D F H A σ fl Γ'
theorem Done.step {K : PySem.W.Frag} {m : List Bool} {D : Ends} {F H F1 H1 : Hp} {A A1 : List Addr} {σ σ1 : St} {fl : Fl} {Γ' : Gm} (d : Done K m D F H A σ fl Γ') (x : Ext F H A F1 H1 A1) (kp : Kept m σ σ1) : Done K m D F1 H1 A1 σ1 fl Γ' := by
  cases fl with
  | nx => exact fun σ' H' ⟨F', A', x', k, q⟩ => d σ' H' ⟨F', A', x.trans x', k, kp.trans q⟩
  | bk => exact fun σ' H' ⟨F', A', x', k, q⟩ => d σ' H' ⟨F', A', x.trans x', k, kp.trans q⟩
  | ct => exact fun σ' H' ⟨F', A', x', k, q⟩ => d σ' H' ⟨F', A', x.trans x', k, kp.trans q⟩
  | rt o => exact fun v σ' H' ⟨F', A', x', k, q⟩ => d v σ' H' ⟨F', A', x.trans x', k, kp.trans q⟩
section
variable {X : Cx} {K : PySem.W.Frag} {m : List Bool} {st : Stmt} {rest sa sb : List Stmt} {e : Expr} {f g : GS} {fa : GE} {ft : GT} {pos : Pos}
def gsNil : GS := fun Γ => some (.nx, Γ)
def gsCons (f g : GS) : GS := fun Γ => (f Γ).bind fun p => match p.1 with
  | .nx => g p.2
  | .bk => some (.bk, p.2)
  | .ct => some (.ct, p.2)
  | .rt o => some (.rt o, p.2)
theorem ds_nil : PSs X [] (tS K m gsNil) := pss_nil.mono fun D σ H t => by
  obtain ⟨F, A, Γ, fl, Γ', k, e, w⟩ := t
  cases e
  exact w σ H ⟨F, A, Ext.refl, k, Kept.refl⟩
theorem ds_cons (h1 : PS X st (tS K m f)) (h2 : PSs X rest (tS K m g)) : PSs X (st :: rest) (tS K m (gsCons f g)) := (pss_cons h1 h2).mono fun D σ H t => by
  obtain ⟨F, A, Γ, fl, Γ', k, e, w⟩ := t
  unfold gsCons at e
  cases q : f Γ with
  | none => rw [q] at e; cases e
  | some p =>
    obtain ⟨fl1, Γ1⟩ := p
    rw [q] at e
    dsimp only [Option.bind] at e
    refine ⟨F, A, Γ, fl1, Γ1, k, q, ?_⟩
    cases fl1 with
    | nx =>
      intro σ' H' ⟨F1, A1, x, k1, kp⟩
      exact ⟨F1, A1, Γ1, fl, Γ', k1, e, w.step x kp⟩
    | bk => cases e; exact w
    | ct => cases e; exact w
    | rt o => cases e; exact w
theorem ds_one (h1 : PS X st (tS K m f)) : PSs X [st] (tS K m f) := pss_one h1
def gsBreak : GS := fun Γ => some (.bk, Γ)
def gsCont : GS := fun Γ => some (.ct, Γ)
def gsRet (f : GE) : GS := fun Γ => (f Γ).bind fun p => match p.1 with
  | .own o => some (.rt o, p.2)
  | .var _ => none
def gsRetN : GS := fun Γ => some (.rt (.frz .non), Γ)
theorem ds_ret (h : PE X e (tG K fa)) : PS X (.Return (some e) pos) (tS K m (gsRet fa)) := (ps_ret h).mono fun D σ H t => by
  obtain ⟨F, A, Γ, fl, Γ', k, e, w⟩ := t
  unfold gsRet at e
  cases q : fa Γ with
  | none => rw [q] at e; cases e
  | some p =>
    obtain ⟨r, Γ1⟩ := p
    rw [q] at e
    cases r with
    | var i => cases e
    | own o =>
      cases e
      exact ⟨F, A, Γ, _, _, k, q, fun v H' ⟨F1, A1, x, k1, _⟩ => w v σ H' ⟨F1, A1, x, k1, Kept.refl⟩⟩
def gsIf (c : GT) (f g : GS) : GS := fun Γ => (c Γ).bind fun p => if p.1 = true then f p.2 else g p.2
theorem ds_if {c : Expr} (hc : PT X c (tGT K ft)) (ha : PSs X sa (tS K m f)) (hb : PSs X sb (tS K m g)) : PS X (.If c sa sb pos) (tS K m (gsIf ft f g)) := (ps_if hc ha hb).mono fun D σ H t => by
  obtain ⟨F, A, Γ, fl, Γ', k, e, w⟩ := t
  unfold gsIf at e
  cases q : ft Γ with
  | none => rw [q] at e; cases e
  | some p =>
    obtain ⟨b, Γ1⟩ := p
    rw [q] at e
    refine ⟨F, A, Γ, b, Γ1, k, q, fun H1 ⟨F1, A1, x, k1, _⟩ => ?_⟩
    cases b with
    | true => exact iteT ⟨F1, A1, Γ1, fl, Γ', k1, e, w.step x Kept.refl⟩
    | false => exact iteF ⟨F1, A1, Γ1, fl, Γ', k1, e, w.step x Kept.refl⟩
def gsDrop (f : GE) : GS := fun Γ => (f Γ).bind fun p => some (.nx, p.2)
theorem ds_expr (he : PE X e (tG K fa)) (hs : swapsWith e none pos.line X.env = pure false := by rfl) : PS X (.Expr e pos) (tS K m (gsDrop fa)) := (ps_expr he hs).mono fun D σ H t => by
  obtain ⟨F, A, Γ, fl, Γ', k, e, w⟩ := t
  unfold gsDrop at e
  cases q : fa Γ with
  | none => rw [q] at e; cases e
  | some p =>
    rw [q] at e
    cases e
    exact ⟨F, A, Γ, p.1, p.2, k, q, fun v H' pp => by obtain ⟨F1, A1, x, k1, _⟩ := pp.drop; exact w σ H' ⟨F1, A1, x, k1, Kept.refl⟩⟩
def gsSet (i : Nat) (f : GE) : GS := fun Γ => (f Γ).bind fun p => match p.1 with
  | .own o => if i < p.2.length then some (.nx, p.2.set i (some o)) else none
  | .var _ => none
theorem OK.store {F H : Hp} {A : List Addr} {σ : St} {Γ : Gm} {v : V} {o : O} {i : Nat} (k : OK K F H (some v :: σ) (some o :: Γ) A) (hi : i < Γ.length) : ∃ B, OK K F H (σ.set i (some v)) (Γ.set i (some o)) B ∧ Ext F H A F H B := by
  obtain ⟨B, C, h1, h2, h3⟩ := k.os.one
  obtain ⟨B2, g1, C2, g2, g3⟩ := OwnL.put h1 i h2 hi
  subst h3
  exact ⟨B2, k.sub g1 ((SubP.of_perm g2).trans ((SubP.refl B).app (.of_sub g3)))⟩
theorem ds_set {i : Nat} {x : Str} {pos' : Pos} (hN : X.N.Nodup) (hi : X.N[i]? = some x) (hx : Loc X.env.scope x) (he : PE X e (tG K fa)) (hm : (m[i]? == some true) = false := by rfl) (hs : swapsWith e (some (.Name x pos')) pos.line X.env = pure false := by rfl) (hf : X.fn x = true ∨ X.env.scope.names.lookup x = some .local := by first | exact .inl rfl | exact .inr rfl) :
    PS X (.Assign [.Name x pos'] e pos) (tS K m (gsSet i fa)) := (ps_set hN hi hx he hs hf).mono fun D σ H t => by
  obtain ⟨F, A, Γ, fl, Γ', k, e, w⟩ := t
  unfold gsSet at e
  cases q : fa Γ with
  | none => rw [q] at e; cases e
  | some p =>
    obtain ⟨r, Γ1⟩ := p
    rw [q] at e
    cases r with
    | var i => cases e
    | own o =>
      dsimp only [Option.bind] at e
      split at e
      · cases e
        refine ⟨F, A, Γ, _, Γ1, k, q, fun v H' ⟨F1, A1, x, k1, _⟩ => ?_⟩
        obtain ⟨B, k2, x2⟩ := OK.store (σ := σ) (Γ := Γ1) k1 (by assumption)
        exact w _ H' ⟨F1, B, x.trans x2, k2, Kept.set hm⟩
      · cases e
def gsWhile (c : GT) (f : GS) : Nat → GS
  | 0 => fun _ => none
  | n + 1 => fun Γ => (c Γ).bind fun p => if p.1 = true then (f p.2).bind fun q => match q.1 with
      | .nx => gsWhile c f n q.2
      | .ct => gsWhile c f n q.2
      | .bk => some (.nx, q.2)
      | .rt o => some (.rt o, q.2)
    else some (.nx, p.2)
theorem ds_while (n : Nat) {c : Expr} (hp : PassesOwn (model X.prog X.w) X.A X.env X.xe) (hc : PT X c (tGT K ft)) (hb : PSs X sa (tS K m f)) : PS X (.While c sa [] pos) (tS K m (gsWhile ft f n)) := (ps_while hp hc hb).mono fun D σ H t => by
  obtain ⟨F, A, Γ, fl, Γ', k, e, w⟩ := t
  refine ⟨fun n σ H => ∃ F A Γ, OK K F H σ Γ A ∧ gsWhile ft f n Γ = some (fl, Γ') ∧ Done K m D F H A σ fl Γ', ⟨n, F, A, Γ, k, e, w⟩, ?_⟩
  rintro n σ H ⟨F, A, Γ, k, e, w⟩
  cases n with
  | zero => cases e
  | succ n =>
    unfold gsWhile at e
    cases q : ft Γ with
    | none => rw [q] at e; cases e
    | some p =>
      obtain ⟨b, Γ1⟩ := p
      rw [q] at e
      refine ⟨F, A, Γ, b, Γ1, k, q, fun H1 ⟨F1, A1, x, k1, _⟩ => ?_⟩
      have k1 : OK K F1 H1 σ Γ1 A1 := k1
      have w1 := w.step x (Kept.refl (m := m) (σ := σ))
      cases b with
      | false =>
        cases e
        exact iteF (w1 σ H1 ⟨F1, A1, Ext.refl, k1, Kept.refl⟩)
      | true =>
        refine iteT ⟨fun σ' H' => ∃ F A Γ, OK K F H' σ' Γ A ∧ gsWhile ft f n Γ = some (fl, Γ') ∧ Done K m D F H' A σ' fl Γ', fun σ' H' h => ⟨n, Nat.lt_succ_self _, h⟩, ?_⟩
        have e : ((f Γ1).bind fun q => match q.1 with
            | .nx => gsWhile ft f n q.2
            | .ct => gsWhile ft f n q.2
            | .bk => some (.nx, q.2)
            | .rt o => some (.rt o, q.2)) = some (fl, Γ') := e
        cases q2 : f Γ1 with
        | none => rw [q2] at e; cases e
        | some p2 =>
          obtain ⟨fl2, Γ2⟩ := p2
          rw [q2] at e
          dsimp only [Option.bind] at e
          refine ⟨F1, A1, Γ1, fl2, Γ2, k1, q2, ?_⟩
          cases fl2 with
          | nx => exact fun σ' H' ⟨F2, A2, x2, k2, kp⟩ => ⟨F2, A2, Γ2, k2, e, w1.step x2 kp⟩
          | ct => exact fun σ' H' ⟨F2, A2, x2, k2, kp⟩ => ⟨F2, A2, Γ2, k2, e, w1.step x2 kp⟩
          | bk => cases e; exact w1
          | rt o => cases e; exact w1
abbrev GG := D → Gm → Option Gm
def TgOk (K : PySem.W.Frag) (m : List Bool) (t : TG) (g : GG) : Prop :=
  ∀ (F H : Hp) (σ : St) (Γ Γ1 : Gm) (A : List Addr) (x : V) (d : D) (Q : St → Hp → Prop), OK K F H σ Γ A → RepL K F [x] [d] → g d Γ = some Γ1 → (∀ σ' A', OK K F H σ' Γ1 A' → Ext F H A F H A' → Kept m σ σ' → Q σ' H) → t x σ H Q
def ggName (i : Nat) : GG := fun d Γ => if i < Γ.length then some (Γ.set i (some (.frz d))) else none
theorem tg_name {i : Nat} (hm : (m[i]? == some true) = false := by rfl) : TgOk K m (gName i) (ggName i) := by
  intro F H σ Γ Γ1 A x d Q k r e w
  unfold ggName at e
  split at e
  · cases e
    obtain ⟨k1, x1⟩ := k.push (v := x) (o := .frz d) (Av := []) (Same.refl _) (.frz r .nil) .nil (fun _ m => by cases m)
    obtain ⟨B, k2, x2⟩ := OK.store k1 (by assumption)
    exact w _ _ k2 (x1.trans x2) (Kept.set hm)
  · cases e
def ggAll : List GG → List D → Gm → Option Gm
  | [], [], Γ => some Γ
  | g :: gs, d :: ds, Γ => (g d Γ).bind fun Γ1 => ggAll gs ds Γ1
  | _, _, _ => none
def TgsOk (K : PySem.W.Frag) (m : List Bool) (t : TGs) (g : List GG) : Prop :=
  ∀ (F H : Hp) (σ : St) (Γ Γ1 : Gm) (A : List Addr) (xs : List V) (ds : List D) (Q : St → Hp → Prop), OK K F H σ Γ A → RepL K F xs ds → ggAll g ds Γ = some Γ1 → (∀ σ' A', OK K F H σ' Γ1 A' → Ext F H A F H A' → Kept m σ σ' → Q σ' H) → t xs σ H Q
theorem tgs_nil : TgsOk K m gNil [] := by
  intro F H σ Γ Γ1 A xs ds Q k r e w
  cases ds with
  | nil =>
    cases e
    cases xs with
    | nil => exact ⟨rfl, w σ A k Ext.refl Kept.refl⟩
    | cons _ _ => have := r.length; simp at this
  | cons _ _ => cases e
theorem tgs_cons {t : TG} {ts : TGs} {g : GG} {gs : List GG} (h1 : TgOk K m t g) (h2 : TgsOk K m ts gs) : TgsOk K m (L2.gCons t ts) (g :: gs) := by
  intro F H σ Γ Γ1 A xs ds Q k r e w
  cases ds with
  | nil => cases e
  | cons d ds =>
    cases xs with
    | nil => have := r.length; simp at this
    | cons x xs =>
      unfold ggAll at e
      cases q : g d Γ with
      | none => rw [q] at e; cases e
      | some Γ2 =>
        rw [q] at e
        refine ⟨x, xs, rfl, h1 F H σ Γ Γ2 A x d _ k r.inv.1 q fun σ1 A1 k1 x1 kp1 => ?_⟩
        exact h2 F H σ1 Γ2 Γ1 A1 xs ds _ k1 r.inv.2 e fun σ2 A2 k2 x2 kp2 => w σ2 A2 k2 (x1.trans x2) (kp1.trans kp2)
def ggTup (gs : List GG) : GG := fun d Γ => match d with
  | .tup ds => ggAll gs ds Γ
  | _ => none
theorem ggAll_len : ∀ {gs : List GG} {ds : List D} {Γ Γ1 : Gm}, ggAll gs ds Γ = some Γ1 → ds.length = gs.length
  | [], [], _, _, _ => rfl
  | g :: gs, d :: ds, Γ, Γ1, e => by
    unfold ggAll at e
    cases q : g d Γ with
    | none => rw [q] at e; cases e
    | some Γ2 => rw [q] at e; simp [ggAll_len (gs := gs) (ds := ds) e]
  | [], _ :: _, _, _, e => by cases e
  | _ :: _, [], _, _, e => by cases e
theorem tg_tup {ts : TGs} {gs : List GG} {n : Nat} (h : TgsOk K m ts gs) (hn : n = gs.length := by rfl) : TgOk K m (gTup K n ts) (ggTup gs) := by
  intro F H σ Γ Γ1 A x d Q k r e w
  cases d with
  | tup ds =>
    have e : ggAll gs ds Γ = some Γ1 := e
    cases r with
    | flat z _ => cases z
    | tup q i _ => exact ⟨_, _, rfl, k.le.seqT q, by rw [hn, i.length, ggAll_len e], h F H σ Γ Γ1 A _ ds Q k i e w⟩
  | _ => cases e
def gsLoop (g : GG) (f : GS) : List D → GS
  | [] => fun Γ => some (.nx, Γ)
  | d :: ds => fun Γ => (g d Γ).bind fun Γ1 => (f Γ1).bind fun q => match q.1 with
      | .nx => gsLoop g f ds q.2
      | .ct => gsLoop g f ds q.2
      | .bk => some (.nx, q.2)
      | .rt o => some (.rt o, q.2)
theorem loop_turn {t : TG} {g : GG} (tg : TgOk K m t g) {F H : Hp} {σ : St} {Γ Γ' : Gm} {A : List Addr} {x : V} {d : D} {ds : List D} {fl : Fl} {E : Ends} {Pv : St → Hp → Prop} (k : OK K F H σ Γ A) (r : RepL K F [x] [d])
    (e : gsLoop g f (d :: ds) Γ = some (fl, Γ')) (w : Done K m E F H A σ fl Γ')
    (nxt : ∀ F1 H1 σ1 Γ1 A1, Ext F H A F1 H1 A1 → OK K F1 H1 σ1 Γ1 A1 → gsLoop g f ds Γ1 = some (fl, Γ') → Done K m E F1 H1 A1 σ1 fl Γ' → Pv σ1 H1) : t x σ H fun σ2 H2 => tS K m f { E with nx := Pv, ct := Pv, bk := E.nx } σ2 H2 := by
  unfold gsLoop at e
  cases q : g d Γ with
  | none => rw [q] at e; cases e
  | some Γ1 =>
    rw [q] at e
    dsimp only [Option.bind] at e
    cases q2 : f Γ1 with
    | none => rw [q2] at e; cases e
    | some p =>
      obtain ⟨fl1, Γ2⟩ := p
      rw [q2] at e
      dsimp only at e
      refine tg F H σ Γ Γ1 A x d _ k r q fun σ1 A1 k1 x1 kp => ⟨F, A1, Γ1, fl1, Γ2, k1, q2, ?_⟩
      have w1 := w.step x1 kp
      cases fl1 with
      | nx => exact fun σ' H' ⟨F2, A2, x2, k2, kp2⟩ => nxt F2 H' σ' Γ2 A2 (x1.trans x2) k2 e (w1.step x2 kp2)
      | ct => exact fun σ' H' ⟨F2, A2, x2, k2, kp2⟩ => nxt F2 H' σ' Γ2 A2 (x1.trans x2) k2 e (w1.step x2 kp2)
      | bk => cases e; exact w1
      | rt o => cases e; exact w1
theorem loop_end {g : GG} {F H : Hp} {σ : St} {Γ Γ' : Gm} {A : List Addr} {fl : Fl} {E : Ends} (k : OK K F H σ Γ A) (e : gsLoop g f [] Γ = some (fl, Γ')) (w : Done K m E F H A σ fl Γ') : E.nx σ H := by
  cases e
  exact w σ H ⟨F, A, Ext.refl, k, Kept.refl⟩
def gsFor (it : GE) (g : GG) (f : GS) : GS := fun Γ => (gFrz it Γ).bind fun p => match p.1 with
  | .own (.frz (.lst ds)) => gsLoop g f ds p.2
  | _ => none
variable {tg iter : Expr} {t : TG} {gg : GG} {body : List Stmt}
theorem ds_for (hp : PassesOwn (model X.prog X.w) X.A X.env X.xe) (hi : PE X iter (tG K fa)) (hg : PG X tg t) (ht : TgOk K m t gg) (hb : PSs X body (tS K m f)) (hc : X.calm = true := by rfl) (hK : X.K = K := by rfl) (hs : ∀ x, foldedSetIterable iter X.env x = pure x := by intro _; rfl) : PS X (.For tg iter body [] pos) (tS K m (gsFor fa gg f)) := by
  subst hK
  refine (ps_for hp hc (pi_list (de_frz hi)) hg hb hs).mono fun D σ H tt => ?_
  obtain ⟨F, A, Γ, fl, Γ', k, e, w⟩ := tt
  unfold gsFor at e
  cases q : gFrz fa Γ with
  | none => rw [q] at e; cases e
  | some p =>
    obtain ⟨r, Γ1⟩ := p
    rw [q] at e
    dsimp only [Option.bind] at e
    cases r with
    | var i => cases e
    | own o =>
      cases o with
      | frz d =>
        cases d with
        | lst ds =>
          refine ⟨F, A, Γ, _, Γ1, k, q, fun v H1 pp => ?_⟩
          obtain ⟨F1, A1, x, k1, _⟩ := pp
          obtain ⟨B, C, h1, h2, h3⟩ := OwnL.one (σ := σ) (Γ := Γ1) k1.os
          cases h1 with
          | frz rp tl =>
            cases rp with
            | flat z _ => cases z
            | @lst a ws vs es ds' sq ri _ =>
              refine ⟨a, rfl, ⟨ws, .inl (k1.le.rd sq)⟩, ?_⟩
              refine for_list (xs := ws) (fun i σ' H' => ∃ F' A' Γc, OK X.K F' H' σ' Γc A' ∧ gsLoop gg f (ds.drop i) Γc = some (fl, Γ') ∧ Done X.K m D F' H' A' σ' fl Γ' ∧ Same F1 F') ?_ ?_ ?_ ?_
              · subst h3
                exact ⟨F1, _, Γ1, (k1.sub h2 (.of_sub (List.sublist_append_right _ _))).1, e, w.step (x.own' fun a m => List.mem_append_right _ m) Kept.refl, Same.refl _⟩
              · rintro i σ' H' hi ⟨F', A', Γc, k', e', w', s'⟩
                exact .inl ((s'.trans k'.le).rd sq)
              · rintro i x' σ' H' hx ⟨F', A', Γc, k', e', w', s'⟩
                have hl := ri.length
                have hi : i < ds.length := by
                  have := (List.getElem?_eq_some_iff.mp hx).1
                  omega
                have ed : ds.drop i = ds[i] :: ds.drop (i + 1) := List.drop_eq_getElem_cons hi
                obtain ⟨x2, hx2, rx⟩ := ri.get (i := i) (d := ds[i]) (by simp [hi])
                rw [hx] at hx2
                cases hx2
                rw [ed] at e'
                exact loop_turn ht k' (rx.mono s') e' w' fun F2 H2 σ2 Γ2 A2 x2 k2 e2 w2 => ⟨F2, A2, Γ2, k2, e2, w2, s'.trans x2.ff⟩
              · rintro σ' H' ⟨F', A', Γc, k', e', w', s'⟩
                rw [List.drop_of_length_le (by rw [ri.length]; exact Nat.le_refl _)] at e'
                exact loop_end k' e' w'
        | _ => cases e
      | _ => cases e
end
end L2
set_option Elab.async false
set_option linter.all false
set_option maxRecDepth 100000
set_option maxHeartbeats 4000000
namespace L2
open PySem PySem.Spec PyProof.Rows
def rngD (lo : Int) (n : Nat) : List D := (List.range n).map fun (k : Nat) => D.int (lo + (k : Int))
def rngC (lo c : Int) (n : Nat) : List D := (List.range n).map fun (k : Nat) => D.int (lo + (k : Int) * c)
theorem drop_map_range {α : Type} (h : Nat → α) {i n : Nat} (hi : i < n) : ((List.range n).map h).drop i = h i :: ((List.range n).map h).drop (i + 1) := by
  have e : i < ((List.range n).map h).length := by simpa using hi
  rw [List.drop_eq_getElem_cons e]
  simp
def int1 : List R → Option Int
  | [.own (.frz (.int j))] => if Nat.ble j.natAbs 1000000000000 = true then some j else none
  | _ => none
def int2 : List R → Option (Int × Int)
  | [.own (.frz (.int i)), .own (.frz (.int j))] => if Nat.ble i.natAbs 1000000000000 = true ∧ Nat.ble j.natAbs 1000000000000 = true then some (i, j) else none
  | _ => none
def int3 : List R → Option (Int × Int)
  | [.own (.frz (.int i)), .own (.frz (.int j)), .own (.frz (.int k))] => if k = -1 ∧ Nat.ble i.natAbs 1000000 = true ∧ Nat.ble j.natAbs 1000000 = true then some (i, j) else none
  | _ => none
theorem int1_inv {rs : List R} {j : Int} (e : int1 rs = some j) : rs = [.own (.frz (.int j))] ∧ -(2 ^ 62) ≤ j ∧ j < 2 ^ 62 := by
  unfold int1 at e
  split at e
  · split at e
    · rename_i h
      have h := Nat.le_of_ble_eq_true h
      cases e; exact ⟨rfl, by omega, by omega⟩
    · cases e
  · cases e
theorem int3_inv {rs : List R} {p : Int × Int} (e : int3 rs = some p) : rs = [.own (.frz (.int p.1)), .own (.frz (.int p.2)), .own (.frz (.int (-1)))] ∧ -(2 ^ 20) ≤ p.1 ∧ p.1 < 2 ^ 20 ∧ -(2 ^ 20) ≤ p.2 ∧ p.2 < 2 ^ 20 := by
  unfold int3 at e
  split at e
  · split at e
    · rename_i h
      obtain ⟨rfl, h1, h2⟩ := h
      have h1 := Nat.le_of_ble_eq_true h1
      have h2 := Nat.le_of_ble_eq_true h2
      cases e; exact ⟨rfl, by omega, by omega, by omega, by omega⟩
    · cases e
  · cases e
theorem int1_of {j : Int} (h : j.natAbs ≤ 1000000) : int1 [.own (.frz (.int j))] = some j := by
  unfold int1
  dsimp only
  rw [if_pos (Nat.ble_eq_true_of_le (by omega))]
theorem int3_of {i j : Int} (h : i.natAbs ≤ 1000000) (h' : j.natAbs ≤ 1000000) : int3 [.own (.frz (.int i)), .own (.frz (.int j)), .own (.frz (.int (-1)))] = some (i, j) := by
  unfold int3
  dsimp only
  rw [if_pos ⟨rfl, Nat.ble_eq_true_of_le h, Nat.ble_eq_true_of_le h'⟩]
def gsRange1 (fs : GA) (g : GG) (f : GS) : GS := fun Γ => (fs Γ).bind fun p => (int1 p.1).bind fun j => gsLoop g f (rngD 0 j.toNat) p.2
def gsRange2 (fs : GA) (g : GG) (f : GS) : GS := fun Γ => (fs Γ).bind fun p => (int2 p.1).bind fun j => gsLoop g f (rngD j.1 (j.2 - j.1).toNat) p.2
def gsRangeD (fs : GA) (g : GG) (f : GS) : GS := fun Γ => (fs Γ).bind fun p => (int3 p.1).bind fun j => gsLoop g f (rngC j.1 (-1) (j.1 - j.2).toNat) p.2
section
variable {X : Cx} {K : PySem.W.Frag} {m : List Bool} {f : GS} {fa : GE} {fs : GA} {pos p : Pos} {tg a b c : Expr} {t : TG} {gg : GG} {body : List Stmt}
theorem own_int {F H : Hp} {σ : St} {Γ : Gm} {A : List Addr} {v : V} {i : Int} (h : OwnL K F H (some v :: σ) (some (.frz (.int i)) :: Γ) A) : v = .int i ∧ OwnL K F H σ Γ A := by
  cases h with
  | frz r t =>
    cases r with
    | flat e _ => cases e; exact ⟨rfl, t⟩
theorem ds_range1 (hp : PassesOwn (model X.prog X.w) X.A X.env X.xe) (hm : X.mg "range" = none) (ha : PA X [a] (tGA K fs)) (hg : PG X tg t) (ht : TgOk K m t gg) (hb : PSs X body (tS K m f)) (hc : X.calm = true := by rfl) (hgl : Gl X "range" := by rfl)
    (hs : starEach [a] X.env = [(false, eval a X.env)] := by rfl) (hf : ∀ x, foldedSetIterable (.Call (.Name "range" p) [a] [] pos) X.env x = pure x := by intro _; rfl) {fp : Pos} : PS X (.For tg (.Call (.Name "range" p) [a] [] pos) body [] fp) (tS K m (gsRange1 fs gg f)) := by
  refine (ps_for hp hc (pi_range1 hgl hm ha hs) hg hb hf).mono fun D σ H tt => ?_
  obtain ⟨F, A, Γ, fl, Γ', k, e, w⟩ := tt
  unfold gsRange1 at e
  cases q : fs Γ with
  | none => rw [q] at e; cases e
  | some pr =>
    obtain ⟨rs, Γ1⟩ := pr
    rw [q] at e
    dsimp only [Option.bind] at e
    cases q2 : int1 rs with
    | none => rw [q2] at e; cases e
    | some j =>
        rw [q2] at e
        dsimp only at e
        obtain ⟨hj, hb⟩ := int1_inv q2
        subst hj
        refine ⟨F, A, Γ, _, Γ1, k, q, fun vs H1 pp => ?_⟩
        obtain ⟨F1, A1, x, k1, hh⟩ := pp
        match vs, hh with
        | [v], _ =>
          obtain ⟨rfl, h2⟩ := own_int (σ := σ) (Γ := Γ1) k1.os
          obtain ⟨k2, x2⟩ := k1.sub h2 (SubP.refl _)
          refine ⟨j, rfl, hb.1, hb.2, for_range (fun i σ' H' => ∃ F' A' Γc, OK K F' H' σ' Γc A' ∧ gsLoop gg f ((rngD 0 j.toNat).drop i) Γc = some (fl, Γ') ∧ Done K m D F' H' A' σ' fl Γ') ?_ ?_ ?_⟩
          · exact ⟨F1, A1, Γ1, k2, e, w.step x Kept.refl⟩
          · rintro i σ' H' hi ⟨F', A', Γc, k', e', w'⟩
            unfold rngD at e'
            rw [drop_map_range _ hi] at e'
            exact loop_turn ht k' (.flat rfl .nil) e' w' fun F2 H2 σ2 Γ2 A2 x2 k2 e2 w2 => ⟨F2, A2, Γ2, k2, e2, w2⟩
          · rintro σ' H' ⟨F', A', Γc, k', e', w'⟩
            rw [List.drop_of_length_le (by simp [rngD])] at e'
            exact loop_end k' e' w'
theorem ds_rangeD (hp : PassesOwn (model X.prog X.w) X.A X.env X.xe) (hm : X.mg "range" = none) (ha : PA X [a, b, c] (tGA K fs)) (hg : PG X tg t) (ht : TgOk K m t gg) (hb : PSs X body (tS K m f)) (hc : X.calm = true := by rfl) (hgl : Gl X "range" := by rfl)
    (hs : starEach [a, b, c] X.env = [(false, eval a X.env), (false, eval b X.env), (false, eval c X.env)] := by rfl) (hs2 : starEach [b, c] X.env = [(false, eval b X.env), (false, eval c X.env)] := by rfl)
    (hf : ∀ x, foldedSetIterable (.Call (.Name "range" p) [a, b, c] [] pos) X.env x = pure x := by intro _; rfl) {fp : Pos} :
    PS X (.For tg (.Call (.Name "range" p) [a, b, c] [] pos) body [] fp) (tS K m (gsRangeD fs gg f)) := by
  refine (ps_for hp hc (pi_rangeD hgl hm ha hs hs2) hg hb hf).mono fun D σ H tt => ?_
  obtain ⟨F, A, Γ, fl, Γ', k, e, w⟩ := tt
  unfold gsRangeD at e
  cases q : fs Γ with
  | none => rw [q] at e; cases e
  | some pr =>
    obtain ⟨rs, Γ1⟩ := pr
    rw [q] at e
    dsimp only [Option.bind] at e
    cases q2 : int3 rs with
    | none => rw [q2] at e; cases e
    | some jj =>
        rw [q2] at e
        dsimp only at e
        obtain ⟨hj, hb⟩ := int3_inv q2
        subst hj
        obtain ⟨i0, j⟩ := jj
        refine ⟨F, A, Γ, _, Γ1, k, q, fun vs H1 pp => ?_⟩
        obtain ⟨F1, A1, x, k1, hh⟩ := pp
        match vs, hh with
        | [v, v', v''], _ =>
          obtain ⟨rfl, h0⟩ := own_int (σ := some v' :: some v'' :: σ) (Γ := some (.frz (.int j)) :: some (.frz (.int (-1))) :: Γ1) k1.os
          obtain ⟨rfl, h1⟩ := own_int (σ := some v'' :: σ) (Γ := some (.frz (.int (-1))) :: Γ1) h0
          obtain ⟨rfl, h2⟩ := own_int (σ := σ) (Γ := Γ1) h1
          obtain ⟨k2, x2⟩ := k1.sub h2 (SubP.refl _)
          refine ⟨i0, j, rfl, hb, for_rangeC (fun i σ' H' => ∃ F' A' Γc, OK K F' H' σ' Γc A' ∧ gsLoop gg f ((rngC i0 (-1) (i0 - j).toNat).drop i) Γc = some (fl, Γ') ∧ Done K m D F' H' A' σ' fl Γ') ?_ ?_ ?_⟩
          · exact ⟨F1, A1, Γ1, k2, e, w.step x Kept.refl⟩
          · rintro i σ' H' hi ⟨F', A', Γc, k', e', w'⟩
            unfold rngC at e'
            rw [drop_map_range _ hi] at e'
            exact loop_turn ht k' (.flat rfl .nil) e' w' fun F2 H2 σ2 Γ2 A2 x2 k2 e2 w2 => ⟨F2, A2, Γ2, k2, e2, w2⟩
          · rintro σ' H' ⟨F', A', Γc, k', e', w'⟩
            rw [List.drop_of_length_le (by simp [rngC])] at e'
            exact loop_end k' e' w'
end
abbrev GM := List O → Option (O × Gm)
def PostC (K : PySem.W.Frag) (F H : Hp) (A : List Addr) (vs : List V) (fin : Gm) (o : O) (v : V) (H' : Hp) : Prop := ∃ F' A', Ext F H A F' H' A' ∧ OK K F' H' (some v :: vs.map some) (some o :: fin) A'
def SpM (K : PySem.W.Frag) (n : Nat) (M : GM) : Sp := fun vs H Q _ => vs.length = n ∧ ∃ F A os o fin, OK K F H (vs.map some) (os.map some) A ∧ M os = some (o, fin) ∧ ∀ v H', PostC K F H A vs fin o v H' → Q v H'
def keepM : List Bool → Gm → Gm
  | true :: m, x :: Γ => x :: keepM m Γ
  | false :: m, _ :: Γ => none :: keepM m Γ
  | [], _ :: Γ => none :: keepM [] Γ
  | _, [] => []
def Fl.val : Fl → Option O
  | .rt o => some o
  | .nx => some (.frz .non)
  | _ => none
def runM (n : Nat) (m : List Bool) (f : GS) : GM := fun os => (f (os.map some ++ List.replicate (n - os.length) none)).bind fun p => p.1.val.bind fun o => if p.2.length = n then some (o, keepM m (p.2.take os.length)) else none
section
variable {K : PySem.W.Frag} {F H : Hp} {σ : St} {Γ : Gm} {A : List Addr}
theorem own_nones : ∀ n : Nat, OwnL K F H (List.replicate n none) (List.replicate n none) []
  | 0 => .nil
  | n + 1 => .skip (own_nones n)
theorem own_keep : ∀ {m : List Bool} {vs : List V} {σ' : St} {Γ : Gm} {B : List Addr}, OwnL K F H σ' Γ B → σ'.length = vs.length → (∀ j : Nat, m[j]? = some true → σ'[j]? = (vs.map some)[j]?) → ∃ C, OwnL K F H (vs.map some) (keepM m Γ) C ∧ C.Sublist B
  | m, [], [], [], B, h, _, _ => by
    cases m with
    | nil => exact ⟨B, h, List.Sublist.refl _⟩
    | cons b m => cases b <;> exact ⟨B, h, List.Sublist.refl _⟩
  | m, v :: vs, x :: σ', y :: Γ, B, h, hl, hk => by
    obtain ⟨B1, B2, h1, h2, h3⟩ := h.one
    subst h3
    have hl' : σ'.length = vs.length := by simpa using hl
    cases m with
    | nil =>
      obtain ⟨C, g1, g2⟩ := own_keep (m := []) h2 hl' (fun j hj => by simp at hj)
      exact ⟨C, .skip g1, g2.trans (List.sublist_append_right _ _)⟩
    | cons b m =>
      obtain ⟨C, g1, g2⟩ := own_keep (m := m) h2 hl' (fun j hj => by simpa using hk (j + 1) (by simpa using hj))
      cases b with
      | false => exact ⟨C, .skip g1, g2.trans (List.sublist_append_right _ _)⟩
      | true =>
        have hx : x = some v := by simpa using hk 0 rfl
        subst hx
        exact ⟨B1 ++ C, h1.app g1, g2.append_left _⟩
  | _, [], _ :: _, _, _, _, hl, _ => by simp at hl
  | _, _ :: _, [], _, _, _, hl, _ => by simp at hl
  | _, [], [], _ :: _, _, h, _, _ => by have := h.length; simp at this
  | _, _ :: _, _ :: _, [], _, h, _, _ => by have := h.length; simp at this
theorem OK.params {m : List Bool} {vs : List V} {σ' : St} {Γ' : Gm} {v : V} {o : O} {rest : St} (k : OK K F H (some v :: σ') (some o :: Γ') A) (hl : vs.length ≤ σ'.length) (kp : Kept m (vs.map some ++ rest) σ') (hm : m.length ≤ vs.length) :
    ∃ B, OK K F H (some v :: vs.map some) (some o :: keepM m (Γ'.take vs.length)) B ∧ Ext F H A F H B := by
  obtain ⟨B, C, h1, h2, h3⟩ := k.os.one
  subst h3
  have hΓ := h2.length
  have e1 : σ' = σ'.take vs.length ++ σ'.drop vs.length := (List.take_append_drop _ _).symm
  have e2 : Γ' = Γ'.take vs.length ++ Γ'.drop vs.length := (List.take_append_drop _ _).symm
  have h2' : OwnL K F H (σ'.take vs.length ++ σ'.drop vs.length) (Γ'.take vs.length ++ Γ'.drop vs.length) C := by rw [← e1, ← e2]; exact h2
  obtain ⟨C1, C2, g1, g2, g3⟩ := OwnL.split (by rw [List.length_take, List.length_take]; omega) h2'
  subst g3
  obtain ⟨C3, j1, j2⟩ := own_keep (m := m) (vs := vs) g1 (by rw [List.length_take]; omega) (fun j hj => by
    have hlt : j < vs.length := by
      have := (List.getElem?_eq_some_iff.mp hj).1
      omega
    rw [List.getElem?_take_of_lt hlt, kp j hj, List.getElem?_append_left (by simpa using hlt)])
  exact ⟨B ++ C3, k.sub (h1.app j1) ((SubP.refl B).app (.of_sub (j2.trans (List.sublist_append_left _ _))))⟩
end
section
variable {P : Program} {w : World} {K : PySem.W.Frag} {mg : Str → Option Value} {base : Heap}
theorem Done.imp {m : List Bool} {D D' : Ends} {F H : Hp} {A : List Addr} {σ : St} {fl : Fl} {Γ' : Gm} (d : Done K m D F H A σ fl Γ') (h1 : ∀ σ H, D.nx σ H → D'.nx σ H) (h2 : ∀ v H, D.rt v H → D'.rt v H) (h3 : ∀ σ H, D.bk σ H → D'.bk σ H) (h4 : ∀ σ H, D.ct σ H → D'.ct σ H) : Done K m D' F H A σ fl Γ' := by
  cases fl with
  | nx => exact fun σ' H' q => h1 _ _ (d σ' H' q)
  | bk => exact fun σ' H' q => h3 _ _ (d σ' H' q)
  | ct => exact fun σ' H' q => h4 _ _ (d σ' H' q)
  | rt o => exact fun v σ' H' q => h2 _ _ (d v σ' H' q)
theorem fn_mirror {x qual : Str} {st : Stmt} {fa : Addr} {fd : FuncData} {N ps : List Str} {k : Nat} (m : List Bool) (f : GS) (Fn : Fun K x qual st fa fd) (S : FnScope N ps (defScope st)) (hm : m.length ≤ ps.length)
    (hbody : ∀ (cdv : Value) (A : Around) (outer : List Env) (s : Shared) (H : Hp) (E : XK), Room k (A.deeper (envOfC qual (defScope st) s.heap.objs.size fa cdv)) →
      PSs (cxOf CX0 P w K mg base N qual (defScope st) fa cdv A outer s H E).nox (defBody st) (tS K m f)) : FnOk P w K mg base CX0 (k + 1) fa fd ps (SpM K ps.length (runM N.length m f)) := by
  refine Fn.ok S (fun vs H Q E h => h.1) fun cdv A outer s H vs Q E hr h => ⟨_, hbody cdv A outer s H E hr, ?_⟩
  obtain ⟨hl, F, A0, os, o, fin, k0, e, q⟩ := h
  have hlo : vs.length = os.length := by have := k0.os.length; simpa using this
  have hN : ps.length ≤ N.length := by have := congrArg List.length S.pre; rw [List.length_take] at this; omega
  unfold runM at e
  cases q1 : f (os.map some ++ List.replicate (N.length - os.length) none) with
  | none => rw [q1] at e; cases e
  | some p =>
    obtain ⟨fl, Γ'⟩ := p
    rw [q1] at e
    dsimp only [Option.bind] at e
    have k1 : OK K F H (start N vs) (os.map some ++ List.replicate (N.length - os.length) none) A0 := by
      unfold start
      rw [hlo]
      have z := k0.os.app (own_nones (K := K) (F := F) (H := H) (N.length - os.length))
      rw [List.append_nil] at z
      exact ⟨k0.le, z, k0.nd, k0.fr⟩
    cases q2 : fl.val with
    | none => rw [q2] at e; cases e
    | some o' =>
      rw [q2] at e
      dsimp only at e
      split at e
      · rename_i hlen
        cases e
        refine ⟨F, A0, _, fl, Γ', k1, q1, ?_⟩
        have fin' : ∀ {F' H' : Hp} {A' : List Addr} {v : V} {σ' : St}, Ext F H A0 F' H' A' → OK K F' H' (some v :: σ') (some o :: Γ') A' → Kept m (start N vs) σ' → Q v H' := by
          intro F' H' A' v σ' x k' kp
          unfold start at kp
          have hs : σ'.length = Γ'.length := by have := k'.os.length; simpa using this
          obtain ⟨B, k2, x2⟩ := OK.params (m := m) (vs := vs) k' (by omega) kp (by omega)
          rw [hlo] at k2
          exact q v H' ⟨F', B, x.trans x2, k2⟩
        cases fl with
        | nx =>
          cases q2
          intro σ' H' ⟨F', A', x, k', kp⟩
          obtain ⟨k2, x2⟩ := k'.push (v := .non) (o := .frz .non) (Av := []) (Same.refl _) (.frz (.flat rfl .nil) .nil) .nil (fun _ m => by cases m)
          exact fin' (x.trans x2) k2 kp
        | rt o1 =>
          cases q2
          intro v σ' H' ⟨F', A', x, k', kp⟩
          exact fin' x k' kp
        | bk => cases q2
        | ct => cases q2
      · cases e
theorem fn_mir {x qual : Str} {st : Stmt} {fa : Addr} {fd : FuncData} {N ps : List Str} {k : Nat} (m : List Bool) (f : GS) (Fn : Fun K x qual st fa fd) (S : FnScope N ps (defScope st)) {n pn : Nat} (hn : N.length = n) (hp : ps.length = pn) (hm : m.length ≤ ps.length)
    (hbody : ∀ (cdv : Value) (A : Around) (outer : List Env) (s : Shared) (H : Hp) (E : XK), Room k (A.deeper (envOfC qual (defScope st) s.heap.objs.size fa cdv)) →
      ∃ f', PSs (cxOf CX0 P w K mg base N qual (defScope st) fa cdv A outer s H E).nox (defBody st) (tS K m f') ∧ f' = f) : FnOk P w K mg base CX0 (k + 1) fa fd ps (SpM K pn (runM n m f)) := by
  subst hn hp
  exact fn_mirror m f Fn S hm fun cdv A outer s H E hr => by
    obtain ⟨f', h, e⟩ := hbody cdv A outer s H E hr
    rw [← e]
    exact h
end
def takeArgs : List R → Gm → Option (List O × Gm)
  | [], Γ => some ([], Γ)
  | .own o :: rs, Γ => (takeArgs rs Γ).bind fun p => some (o :: p.1, p.2)
  | .var i :: rs, Γ => match Γ[i]? with
    | some (some o) => (takeArgs rs (Γ.set i none)).bind fun p => some (o :: p.1, p.2)
    | _ => none
def putBack : List R → Gm → Gm → Gm
  | .own _ :: rs, _ :: fin, Γ => putBack rs fin Γ
  | .var i :: rs, f :: fin, Γ => (putBack rs fin Γ).set i f
  | _, _, Γ => Γ
def gCall (M : GM) (fs : GA) : GE := fun Γ => (fs Γ).bind fun p => (takeArgs p.1 p.2).bind fun q => (M q.1).bind fun r => some (.own r.1, putBack p.1 r.2 q.2)
section
variable {K : PySem.W.Frag} {F H : Hp} {σ : St}
theorem take_args : ∀ {rs : List R} {vs : List V} {Γ Γ2 : Gm} {os : List O} {B C : List Addr}, OwnL K F H (vs.map some) (rs.map R.o) B → OwnL K F H σ Γ C → Held σ rs vs → takeArgs rs Γ = some (os, Γ2) →
    ∃ B' C', OwnL K F H (vs.map some) (os.map some) B' ∧ OwnL K F H σ Γ2 C' ∧ (B' ++ C').Perm (B ++ C)
  | [], [], Γ, Γ2, os, B, C, h1, h2, _, e => by cases e; exact ⟨B, C, h1, h2, .refl _⟩
  | .own o :: rs, v :: vs, Γ, Γ2, os, B, C, h1, h2, hh, e => by
    obtain ⟨B1, B2, g1, g2, rfl⟩ := OwnL.one h1
    unfold takeArgs at e
    cases q : takeArgs rs Γ with
    | none => rw [q] at e; cases e
    | some p =>
      rw [q] at e
      cases e
      obtain ⟨B', C', j1, j2, j3⟩ := take_args g2 h2 hh q
      exact ⟨B1 ++ B', C', g1.app j1, j2, by rw [List.append_assoc, List.append_assoc]; exact .append_left _ j3⟩
  | .var i :: rs, v :: vs, Γ, Γ2, os, B, C, h1, h2, hh, e => by
    obtain ⟨B1, B2, g1, g2, rfl⟩ := OwnL.one h1
    have eB : B1 = [] := by cases g1 with | skip t => cases t; rfl
    subst eB
    unfold takeArgs at e
    cases q0 : Γ[i]? with
    | none => rw [q0] at e; cases e
    | some z =>
      cases z with
      | none => rw [q0] at e; cases e
      | some o =>
        rw [q0] at e
        dsimp only at e
        cases q : takeArgs rs (Γ.set i none) with
        | none => rw [q] at e; cases e
        | some p =>
          rw [q] at e
          cases e
          obtain ⟨v', Ai, C1, k1, k2, k3, k4⟩ := h2.take q0
          rw [hh.1] at k1
          cases k1
          obtain ⟨B', C', j1, j2, j3⟩ := take_args g2 k3 hh.2 q
          refine ⟨Ai ++ B', C', k2.app j1, j2, ?_⟩
          rw [List.append_assoc, List.nil_append]
          refine (List.Perm.append_left Ai j3).trans ?_
          rw [← List.append_assoc]
          refine (List.Perm.append_right C1 List.perm_append_comm).trans ?_
          rw [List.append_assoc]
          exact .append_left _ k4.symm
  | [], _ :: _, _, _, _, _, _, _, _, h, _ => h.elim
  | .own _ :: _, [], _, _, _, _, _, _, _, h, _ => h.elim
  | .var _ :: _, [], _, _, _, _, _, _, _, h, _ => h.elim
theorem put_back : ∀ {rs : List R} {vs : List V} {fin Γ : Gm} {B C : List Addr}, OwnL K F H (vs.map some) fin B → OwnL K F H σ Γ C → Held σ rs vs → ∃ D, OwnL K F H σ (putBack rs fin Γ) D ∧ SubP D (B ++ C)
  | [], [], fin, Γ, B, C, h1, h2, _ => by
    cases h1
    exact ⟨C, h2, .of_sub (List.sublist_append_right _ _)⟩
  | .own o :: rs, v :: vs, [], Γ, B, C, h1, h2, hh => by have := h1.length; simp at this
  | .var i :: rs, v :: vs, [], Γ, B, C, h1, h2, hh => by have := h1.length; simp at this
  | .own o :: rs, v :: vs, f :: fin, Γ, B, C, h1, h2, hh => by
    obtain ⟨B1, B2, g1, g2, rfl⟩ := OwnL.one h1
    obtain ⟨D, j1, j2⟩ := put_back g2 h2 hh
    exact ⟨D, j1, j2.trans (by rw [List.append_assoc]; exact .of_sub (List.sublist_append_right _ _))⟩
  | .var i :: rs, v :: vs, f :: fin, Γ, B, C, h1, h2, hh => by
    obtain ⟨B1, B2, g1, g2, rfl⟩ := OwnL.one h1
    obtain ⟨D, j1, j2⟩ := put_back g2 h2 hh.2
    cases f with
    | none =>
      obtain ⟨D', k1, k2⟩ := OwnL.forget i j1
      exact ⟨D', k1, (SubP.of_sub k2).trans (j2.trans (by rw [List.append_assoc]; exact .of_sub (List.sublist_append_right _ _)))⟩
    | some o =>
      have hi : i < (putBack rs fin Γ).length := by
        rw [← j1.length]
        exact (List.getElem?_eq_some_iff.mp hh.1).1
      obtain ⟨D', k1, C', k2, k3⟩ := OwnL.put g1 i j1 hi
      rw [set_same hh.1] at k1
      refine ⟨D', k1, (SubP.of_perm k2).trans ?_⟩
      rw [List.append_assoc]
      exact (SubP.refl B1).app ((SubP.of_sub k3).trans j2)
  | [], _ :: _, _, _, _, _, _, _, h => h.elim
  | .own _ :: _, [], _, _, _, _, _, _, h => h.elim
  | .var _ :: _, [], _, _, _, _, _, _, h => h.elim
end
section
variable {X : Cx} {K : PySem.W.Frag} {k n : Nat} {f : Addr} {fd : FuncData} {ps : List Str} {x : Str} {p pos : Pos} {e : Expr} {es : List Expr} {fs : GA} {st : Stmt} {M : GM}
theorem tG_call {σ : St} {H : Hp} {Q : VK} (t : tG K (gCall M fs) σ H Q) (hn : ∀ rs Γ Γ', fs Γ = some (rs, Γ') → rs.length = n) : tCall (SpM K n M) [] E0 (tGA K fs) σ H Q := by
  obtain ⟨F, A, Γ, rr, Γ', k, e, w⟩ := t
  unfold gCall at e
  cases q : fs Γ with
  | none => rw [q] at e; cases e
  | some pr =>
    obtain ⟨rs, Γ1⟩ := pr
    rw [q] at e
    dsimp only [Option.bind] at e
    cases q2 : takeArgs rs Γ1 with
    | none => rw [q2] at e; cases e
    | some pr2 =>
      obtain ⟨os, Γ2⟩ := pr2
      rw [q2] at e
      dsimp only at e
      cases q3 : M os with
      | none => rw [q3] at e; cases e
      | some pr3 =>
        obtain ⟨o, fin⟩ := pr3
        rw [q3] at e
        cases e
        refine ⟨F, A, Γ, rs, Γ1, k, q, fun vs H1 pp => ?_⟩
        show SpM K n M (vs ++ []) H1 Q E0
        rw [List.append_nil]
        obtain ⟨F1, A1, x, k1, hh⟩ := pp
        have hl : (vs.map some).length = (rs.map R.o).length := by rw [List.length_map, List.length_map, hh.length]
        obtain ⟨B, C, h1, h2, h3⟩ := OwnL.split hl k1.os
        subst h3
        obtain ⟨B', C', j1, j2, j3⟩ := take_args h1 h2 hh q2
        have k2 : OK K F1 H1 (vs.map some ++ σ) (os.map some ++ Γ2) (B' ++ C') := .perm (j1.app j2) k1.le k1.nd k1.fr j3
        obtain ⟨A3, p3, k3⟩ := k2.swap j1.length
        obtain ⟨A4, k4, fr⟩ := k3.frame j2.length
        refine ⟨by rw [← hh.length]; exact hn rs Γ Γ1 q, F1, A4, os, o, fin, k4, q3, fun v H' pc => w v H' ?_⟩
        obtain ⟨F5, A5, x5, k5⟩ := pc
        obtain ⟨A6, x6, k6⟩ := fr _ _ _ _ _ x5 k5
        obtain ⟨D1, D2, g1, g2, g3⟩ := OwnL.split j2.length k6.os
        subst g3
        obtain ⟨D3, D4, g4, g5, g6⟩ := g2.one
        subst g6
        obtain ⟨D5, g7, g8⟩ := put_back g5 g1 hh
        have s1 : SubP (D3 ++ D5) (D1 ++ (D3 ++ D4)) := by
          refine ((SubP.refl D3).app g8).trans (.of_perm ?_)
          rw [← List.append_assoc]
          exact List.perm_append_comm
        obtain ⟨k7, x7⟩ := k6.sub (σ' := some v :: σ) (Γ' := some o :: putBack rs fin Γ2) (g4.app g7) s1
        have x3 : Ext F1 H1 (B ++ C) F1 H1 A3 := Ext.own' Ext.refl fun a m => j3.mem_iff.mp (p3.mem_iff.mp m)
        exact ⟨F5, D3 ++ D5, ((x.trans x3).trans x6).trans x7, k7, True.intro⟩
theorem ga_len_nil : ∀ rs Γ Γ', gaNil Γ = some (rs, Γ') → rs.length = 0 := fun rs Γ Γ' e => by cases e; rfl
theorem ga_len_cons {f : GE} {g : GA} {n : Nat} (h : ∀ rs Γ Γ', g Γ = some (rs, Γ') → rs.length = n) : ∀ rs Γ Γ', gaCons f g Γ = some (rs, Γ') → rs.length = n + 1 := fun rs Γ Γ' e => by
  obtain ⟨r, Γ1, rs', _, e2, rfl⟩ := gaCons_inv e
  simp [h _ _ _ e2]
theorem de_call (D : DefAt X.K X.mg x st f fd ps) (Fn : FnOk X.prog X.w X.K X.mg X.base CX0 k f fd ps (SpM K n M)) (hr : Room k X.A) (ha : PA X (e :: es) (tGA K fs)) (hn : ∀ rs Γ Γ', fs Γ = some (rs, Γ') → rs.length = n) (hg : Gl X x := by rfl) (hdb : (x == ("__debug__" : Str)) = false := by decide)
    (he : starEach (e :: es) X.env = (false, eval e X.env) :: starEach es X.env := by rfl) (hpl : (backTo pos (starEach es X.env)).any (·.1) = false := by rfl) :
    PE X (.Call (.Name x p) (e :: es) [] pos) (tG K (gCall M fs)) := (pcall D Fn hr ha hg hdb he hpl).mono fun _ _ _ t => tG_call t hn
end
end L2
set_option Elab.async false
set_option linter.all false
set_option maxRecDepth 100000
set_option maxHeartbeats 4000000
namespace L2
open PySem PySem.Spec PyProof.Rows
def frzL : List O → Option (List D)
  | [] => some []
  | .frz d :: os => (frzL os).bind fun ds => some (d :: ds)
  | _ :: _ => none
def listD : O → Option (List D)
  | .frz (.lst ds) => some ds
  | .frz (.scr ns) => some (ns.map .int)
  | .lst os => frzL os
  | _ => none
def tupD : O → Option (List D)
  | .frz (.tup ds) => some ds
  | .tup os => frzL os
  | _ => none
theorem frzL_frz : ∀ ds : List D, frzL (ds.map .frz) = some ds
  | [] => rfl
  | d :: ds => by rw [List.map_cons, frzL, frzL_frz ds]; rfl
theorem dl_frz : ∀ ds : List D, O.dl (ds.map .frz) = ds
  | [] => rfl
  | d :: ds => by rw [List.map_cons, O.dl, dl_frz ds]; rfl
section
variable {K : PySem.W.Frag} {F H : Hp} {x y v : V} {o : O} {B : List Addr} {ds : List D} {d : D} {ws : List V}
theorem own_frzL : ∀ {ws : List V} {os : List O} {ds : List D} {B : List Addr}, OwnL K F H (ws.map some) (os.map some) B → frzL os = some ds → RepL K F ws ds
  | [], [], _, _, _, e => by cases e; exact .nil
  | w :: ws, o :: os, ds, B, h, e => by
    obtain ⟨B1, B2, h1, h2, _⟩ := OwnL.one h
    cases o with
    | frz d =>
      unfold frzL at e
      cases q : frzL os with
      | none => rw [q] at e; cases e
      | some ds' =>
        rw [q] at e
        cases e
        cases h1 with
        | frz r _ => exact .cons r (own_frzL h2 q)
    | _ => cases e
  | [], _ :: _, _, _, h, _ => by have := h.length; simp at this
  | _ :: _, [], _, _, h, _ => by have := h.length; simp at this
theorem own_frzs : ∀ {ws : List V} {ds : List D}, RepL K F ws ds → OwnL K F H (ws.map some) ((ds.map .frz).map some) []
  | [], [], _ => .nil
  | w :: ws, d :: ds, h => .frz h.inv.1 (own_frzs h.inv.2)
  | [], _ :: _, h => by have := h.length; simp at this
  | _ :: _, [], h => by have := h.length; simp at this
theorem rep_ints : ∀ ns : List Int, RepL K F (ns.map V.int) (ns.map D.int)
  | [] => .nil
  | n :: ns => .flat rfl (rep_ints ns)
theorem own_list (le : Same F H) (h : OwnL K F H [some x] [some o] B) (e : listD o = some ds) : ∃ a ws, x = .ref a ∧ SqL K H a ws ∧ RepL K F ws ds := by
  cases h with
  | @frz _ d _ _ _ r _ =>
    cases r with
    | lst q i _ => cases e; exact ⟨_, _, rfl, .inl (le.rd q), i⟩
    | scr q _ => cases e; exact ⟨_, _, rfl, le.seq q, rep_ints _⟩
    | flat q _ => cases d <;> first | (cases q; done) | cases e
    | tup _ _ _ => cases e
    | dct _ _ _ _ _ => cases e
  | lst q i _ => exact ⟨_, _, rfl, SqL.of q, own_frzL i e⟩
  | tup _ _ _ => cases e
  | dct _ _ _ _ _ => cases e
theorem own_tup (le : Same F H) (h : OwnL K F H [some x] [some o] B) (e : tupD o = some ds) : ∃ a ws, x = .ref a ∧ SqT K H a ws ∧ RepL K F ws ds := by
  cases h with
  | @frz _ d _ _ _ r _ =>
    cases r with
    | tup q i _ => cases e; exact ⟨_, _, rfl, le.seqT q, i⟩
    | scr q _ => cases e
    | flat q _ => cases d <;> first | (cases q; done) | cases e
    | lst _ _ _ => cases e
    | dct _ _ _ _ _ => cases e
  | tup q i _ => exact ⟨_, _, rfl, SqT.of q, own_frzL i e⟩
  | lst _ _ _ => cases e
  | dct _ _ _ _ _ => cases e
theorem own_flat (h : OwnL K F H [some x] [some (.frz d)] B) (e : flatOf d = some v) : x = v := by
  cases h with
  | frz r _ =>
    cases r with
    | flat q _ => rw [e] at q; exact (Option.some.inj q).symm
    | lst _ _ _ => cases e
    | tup _ _ _ => cases e
    | dct _ _ _ _ _ => cases e
    | scr _ _ => cases e
theorem own_rep (le : Same F H) (h : OwnL K F H [some x] [some o] B) : RepL K H [x] [o.d] := h.rep le (fun _ _ _ e => e) [x] [o] rfl rfl
theorem Res.lst {Q : VK} (h : Res K F H (.lst (ds.map .frz)) Q) (r : RepL K F ws ds) {l : Addr} (hn : H l = none) : Q (.ref l) (upd H l (.lst ws)) :=
  h (.ref l) _ ([l] ++ [] ++ []) (same_upd hn) (.lst upd_same (own_frzs r) .nil) (by simp) (fun a m => by simp at m; rw [m]; exact hn)
theorem Res.tup {Q : VK} (h : Res K F H (.tup (ds.map .frz)) Q) (r : RepL K F ws ds) {l : Addr} (hn : H l = none) : Q (.ref l) (upd H l (.tup ws)) :=
  h (.ref l) _ ([l] ++ [] ++ []) (same_upd hn) (.tup upd_same (own_frzs r) .nil) (by simp) (fun a m => by simp at m; rw [m]; exact hn)
theorem Sees.one {o : O} {vs : List V} (h : Sees K F H vs [o]) : ∃ x B, vs = [x] ∧ OwnL K F H [some x] [some o] B := by
  cases h with
  | cons a t => cases t; obtain ⟨B, a⟩ := a; exact ⟨_, B, rfl, a⟩
theorem Sees.two {o o' : O} {vs : List V} (h : Sees K F H vs [o, o']) : ∃ x y B C, vs = [x, y] ∧ OwnL K F H [some x] [some o] B ∧ OwnL K F H [some y] [some o'] C := by
  cases h with
  | cons a t => cases t with
    | cons b t => cases t; obtain ⟨B, a⟩ := a; obtain ⟨C, b⟩ := b; exact ⟨_, _, B, C, rfl, a, b⟩
end
section
variable {X : Cx}
def rCatL (K : PySem.W.Frag) : R2 := fun x y H Q => ∃ l b xs zs, x = .ref l ∧ y = .ref b ∧ SqL K H l xs ∧ SqL K H b zs ∧ xs.length + zs.length ≤ sizeLine ∧ ∀ p, H p = none → Q (.ref p) (upd H p (.lst (xs ++ zs)))
theorem op_catL : OpR X (binaryOp .Add) (rCatL X.K) := by
  intro pins s σ H x y v u Q I rx ry h
  obtain ⟨l, b, xs, zs, rfl, rfl, hH, hB, hz, q⟩ := h
  cases rx
  cases ry
  obtain ⟨its, r, pl, _⟩ := I.list hH
  obtain ⟨its2, r2, pl2, _⟩ := I.list hB
  have hl := r.length
  have hl2 := r2.length
  obtain ⟨⟨cls, dd, data, sl⟩, ho, hc, n, hd⟩ := id pl.isList
  obtain ⟨⟨cls2, dd2, data2, sl2⟩, ho2, hc2, n2, hd2⟩ := id pl2.isList
  simp only at hc hd hc2 hd2
  subst hc hd hc2 hd2
  have ea : its.toArray ++ its2.toArray = (its ++ its2).toArray := by simp
  refine concat_meets ⟨_, ho, rfl⟩ ⟨_, ho2, rfl⟩ noFill_list_add seq_list_add PySem.F.slot_list_add PySem.F.entry_list_add (PySem.F.args_list_add_2 _ _) (list_addW l b its.toArray its2.toArray n n2 dd dd2 sl sl2 (by simp only [List.size_toArray]; omega)) ⟨ho, ho2, ?_⟩
  rw [ea]
  exact ⟨.ref _, _, I.lnew (t' := s.toks) (r.append r2) (by rw [List.length_append]; omega), rfl, q _ I.fresh⟩
theorem op_catLK (K : PySem.W.Frag) (hK : X.K = K := by rfl) : OpR X (binaryOp .Add) (rCatL K) := hK ▸ op_catL
def oAdd : List O → Option O
  | [.frz (.int i), .frz (.int j)] => some (.frz (.int (i + j)))
  | [.frz (.str x), .frz (.str y)] => if x.length + y.length ≤ 1000000 then some (.frz (.str (x ++ y))) else none
  | [a, b] => (listD a).bind fun xs => (listD b).bind fun ys => if xs.length + ys.length ≤ 1000000 then some (.lst ((xs ++ ys).map .frz)) else none
  | _ => none
def rAddA (K : PySem.W.Frag) : R2 := fun x y H Q => rI0 (fun i j => .int (i + j)) x y H Q ∨ (∃ i j, x = .str i ∧ y = .str j ∧ i.length + j.length ≤ sizeLine ∧ Q (.str (i ++ j)) H) ∨ rCatL K x y H Q
theorem op_addA (K : PySem.W.Frag) (hK : X.K = K := by rfl) : OpR X (binaryOp .Add) (rAddA K) := op_add.or (op_add_str.or (op_catLK K hK))
theorem ml {n : Nat} (h : n ≤ 1000000) : n ≤ sizeLine := Nat.le_trans h (by decide)
theorem ok_add {K : PySem.W.Frag} : OpOk K (r2L (rAddA K)) oAdd := by
  intro F H vs os o Q le see e res
  unfold oAdd at e
  split at e
  · cases e
    obtain ⟨x, y, B, C, rfl, h1, h2⟩ := see.two
    cases own_flat h1 rfl
    cases own_flat h2 rfl
    exact ⟨_, _, rfl, .inl ⟨_, _, rfl, rfl, res.flat rfl⟩⟩
  · split at e
    · cases e
      obtain ⟨x, y, B, C, rfl, h1, h2⟩ := see.two
      cases own_flat h1 rfl
      cases own_flat h2 rfl
      exact ⟨_, _, rfl, .inr (.inl ⟨_, _, rfl, rfl, ml (by assumption), res.flat rfl⟩)⟩
    · cases e
  · rename_i a b _ _
    obtain ⟨x, y, B, C, rfl, h1, h2⟩ := see.two
    cases q1 : listD a with
    | none => rw [q1] at e; cases e
    | some xs =>
      rw [q1] at e
      cases q2 : listD b with
      | none => rw [q2] at e; cases e
      | some ys =>
        rw [q2] at e
        dsimp only [Option.bind] at e
        split at e
        · cases e
          obtain ⟨a1, ws1, rfl, s1, r1⟩ := own_list le h1 q1
          obtain ⟨a2, ws2, rfl, s2, r2⟩ := own_list le h2 q2
          refine ⟨_, _, rfl, .inr (.inr ⟨a1, a2, ws1, ws2, rfl, rfl, s1, s2, ml (by rw [r1.length, r2.length]; assumption), fun p hp => res.lst (r1.append r2) hp⟩)⟩
        · cases e
  · cases e
def oInt (C : Int → Int → Bool) (f : Int → Int → D) : List O → Option O
  | [.frz (.int i), .frz (.int j)] => if C i j = true then some (.frz (f i j)) else none
  | _ => none
theorem ok_int {K : PySem.W.Frag} {r : R2} {C : Int → Int → Bool} {f : Int → Int → D} {g : Int → Int → V} (hf : ∀ i j, flatOf (f i j) = some (g i j)) (hr : ∀ i j H Q, C i j = true → Q (g i j) H → r (.int i) (.int j) H Q) : OpOk K (r2L r) (oInt C f) := by
  intro F H vs os o Q le see e res
  unfold oInt at e
  split at e
  · split at e
    · cases e
      obtain ⟨x, y, B, C, rfl, h1, h2⟩ := see.two
      cases own_flat h1 rfl
      cases own_flat h2 rfl
      exact ⟨_, _, rfl, hr _ _ _ _ (by assumption) (res.flat (hf _ _))⟩
    · cases e
  · cases e
abbrev oSub := oInt (fun _ _ => true) fun i j => .int (i - j)
abbrev oFdiv := oInt (fun _ j => decide (0 < j ∧ j < 1073741824)) fun i j => .int (i / j)
abbrev oMod := oInt (fun _ j => decide (0 < j)) fun i j => .int (i % j)
abbrev oLt := oInt (fun _ _ => true) fun i j => .bl (decide (i < j))
abbrev oGt := oInt (fun _ _ => true) fun i j => .bl (decide (j < i))
theorem ok_sub {K : PySem.W.Frag} : OpOk K (r2L (rI0 fun i j => .int (i - j))) oSub := ok_int (fun _ _ => rfl) fun _ _ _ _ _ q => ⟨_, _, rfl, rfl, q⟩
theorem ok_fdiv {K : PySem.W.Frag} : OpOk K (r2L (rI CDiv fun i j => .int (i / j))) oFdiv := ok_int (fun _ _ => rfl) fun i j _ _ c q => ⟨_, _, rfl, rfl, show CDiv i j from of_decide_eq_true (p := 0 < j ∧ j < 1073741824) c, q⟩
theorem ok_mod {K : PySem.W.Frag} : OpOk K (r2L (rI (fun _ j => 0 < j) fun i j => .int (i % j))) oMod := ok_int (fun _ _ => rfl) fun _ _ _ _ c q => ⟨_, _, rfl, rfl, of_decide_eq_true c, q⟩
theorem ok_lt {K : PySem.W.Frag} : OpOk K (r2L (rI0 fun i j => .bl (decide (i < j)))) oLt := ok_int (fun _ _ => rfl) fun _ _ _ _ _ q => ⟨_, _, rfl, rfl, q⟩
theorem ok_gt {K : PySem.W.Frag} : OpOk K (r2L (rI0 fun i j => .bl (decide (j < i)))) oGt := ok_int (fun _ _ => rfl) fun _ _ _ _ _ q => ⟨_, _, rfl, rfl, q⟩
end
end L2
set_option Elab.async false
set_option linter.all false
set_option maxRecDepth 100000
set_option maxHeartbeats 4000000
namespace L2
open PySem PySem.Spec PyProof.Rows
instance (z : Str) (n : Int) : Decidable (MulOk z n) := by unfold MulOk; infer_instance
section
variable {X : Cx}
def oMulA : List O → Option O
  | [.frz (.int i), .frz (.int j)] => if (-(2 ^ 64) < i ∧ i < 2 ^ 64) ∨ (-(2 ^ 64) < j ∧ j < 2 ^ 64) then some (.frz (.int (i * j))) else none
  | [.frz (.str z), .frz (.int n)] => if MulOk z n then some (.frz (.str (Txt.mul z n))) else none
  | _ => none
def rMulA : R2 := fun x y H Q => rI CMul (fun i j => .int (i * j)) x y H Q ∨ ∃ z n, x = .str z ∧ y = .int n ∧ MulOk z n ∧ Q (.str (Txt.mul z n)) H
theorem op_mulA : OpR X (binaryOp .Mult) rMulA := op_mul.or op_mul_str
theorem ok_mul {K : PySem.W.Frag} : OpOk K (r2L rMulA) oMulA := by
  intro F H vs os o Q le see e res
  unfold oMulA at e
  split at e
  · split at e
    · cases e
      obtain ⟨x, y, B, C, rfl, h1, h2⟩ := see.two
      cases own_flat h1 rfl
      cases own_flat h2 rfl
      exact ⟨_, _, rfl, .inl ⟨_, _, rfl, rfl, by assumption, res.flat rfl⟩⟩
    · cases e
  · split at e
    · cases e
      obtain ⟨x, y, B, C, rfl, h1, h2⟩ := see.two
      cases own_flat h1 rfl
      cases own_flat h2 rfl
      exact ⟨_, _, rfl, .inr ⟨_, _, rfl, rfl, by assumption, res.flat rfl⟩⟩
    · cases e
  · cases e
def oNeg : List O → Option O
  | [.frz (.int i)] => some (.frz (.int (-i)))
  | _ => none
theorem ok_neg {K : PySem.W.Frag} : OpOk K (r1L (rU fun i => .int (-i))) oNeg := by
  intro F H vs os o Q le see e res
  unfold oNeg at e
  split at e
  · cases e
    obtain ⟨x, B, rfl, h1⟩ := see.one
    cases own_flat h1 rfl
    exact ⟨_, rfl, _, rfl, res.flat rfl⟩
  · cases e
mutual
def eqD : D → D → Bool
  | .lst xs, .lst ys => eqDs xs ys
  | .tup xs, .tup ys => eqDs xs ys
  | .non, .non => true
  | .bl a, .bl b => a == b
  | .bl a, .int b => (if a then 1 else 0) == b
  | .int a, .bl b => a == (if b then 1 else 0)
  | .int a, .int b => a == b
  | .str a, .str b => a == b
  | _, _ => false
def eqDs : List D → List D → Bool
  | [], [] => true
  | x :: xs, y :: ys => eqD x y && eqDs xs ys
  | _, _ => false
end
def okD : Nat → D → Bool
  | n + 1, .lst xs => xs.all (okD n)
  | n + 1, .tup xs => xs.all (okD n)
  | _, .non => true
  | _, .bl _ => true
  | _, .int _ => true
  | _, .str _ => true
  | _, _ => false
theorem eqDs_len : ∀ {xs ys : List D}, xs.length ≠ ys.length → eqDs xs ys = false
  | [], [], h => absurd rfl h
  | [], _ :: _, _ => by unfold eqDs; rfl
  | _ :: _, [], _ => by unfold eqDs; rfl
  | x :: xs, y :: ys, h => by unfold eqDs; rw [eqDs_len (by simpa using h), Bool.and_false]
theorem eqDs_all : ∀ {xs ys : List D} (n : Nat), xs.length = n → ys.length = n → eqDs xs ys = (List.range n).all fun j => eqD (xs.getD j .non) (ys.getD j .non)
  | [], [], 0, _, _ => by unfold eqDs; rfl
  | x :: xs, y :: ys, n + 1, h1, h2 => by
    unfold eqDs
    rw [eqDs_all n (by simpa using h1) (by simpa using h2), List.range_succ_eq_map, List.all_cons, List.all_map]
    rfl
  | [], _, _ + 1, h, _ => by simp at h
  | _ :: _, [], _ + 1, _, h => by simp at h
  | _ :: _, _, 0, h, _ => by simp at h
  | [], _ :: _, 0, _, h => by simp at h
variable {pins : List (Addr × Obj)} {σ : St} {H : Hp} {s : Shared}
theorem rep_at {K : PySem.W.Frag} {F : Hp} {ws : List V} {es : List D} (r : RepL K F ws es) {its : List Value} (rv : Vals ws its) {j : Nat} (h : j < its.toArray.size) : ∃ x, RelV x its.toArray[j] ∧ RepL K F [x] [es.getD j .non] ∧ j < es.length := by
  obtain ⟨x, hx, rx⟩ := rv.at h
  have hl := r.length
  have hj : j < es.length := by
    have := (List.getElem?_eq_some_iff.mp hx).1
    omega
  obtain ⟨y, hy, ry⟩ := r.get (i := j) (d := es[j]) (by simp [hj])
  rw [hx] at hy
  cases hy
  refine ⟨x, rx, ?_, hj⟩
  rw [show es.getD j .non = es[j] by simp [hj]]
  exact ry
theorem all_getD {p : D → Bool} {es : List D} (h : es.all p = true) {j : Nat} (hj : j < es.length) : p (es.getD j .non) = true := by
  rw [show es.getD j .non = es[j] by simp [hj]]
  exact List.all_eq_true.mp h _ (List.getElem_mem hj)
inductive Shp (K : PySem.W.Frag) (H : Hp) (s : Shared) : Value → D → Prop
  | none : Shp K H s .none .non
  | bool (b : Bool) : Shp K H s (.bool b) (.bl b)
  | int (i : Int) (t : Tok) : Shp K H s (.int i t) (.int i)
  | str (x : Str) (t : Tok) : Shp K H s (.str x t) (.str x)
  | list {a : Addr} {its : List Value} {ws : List V} {es : List D} : s.heap.IsList a its.toArray → Vals ws its → RepL K H ws es → Shp K H s (.ref a) (.lst es)
  | tuple {a : Addr} {its : List Value} {ws : List V} {es : List D} : s.heap.IsTuple a its.toArray → Vals ws its → RepL K H ws es → Shp K H s (.ref a) (.tup es)
theorem shp_of (I : Inv X pins σ H s) {n : Nat} {x : V} {u : Value} {d : D} (r : RepL X.K H [x] [d]) (ru : RelV x u) (ok : okD n d = true) : Shp X.K H s u d := by
  cases r with
  | lst q i _ =>
    cases ru
    obtain ⟨its, rv, pl, _⟩ := I.list (.inl q)
    exact .list pl.isList rv i
  | tup q i _ =>
    cases ru
    obtain ⟨its, rv, pl, _⟩ := I.tuple q
    exact .tuple pl rv i
  | dct _ _ _ _ _ => cases n <;> cases ok
  | scr _ _ => cases n <;> cases ok
  | flat q _ =>
    cases d with
    | non => cases q; cases ru; exact .none
    | bl b => cases q; cases ru; exact .bool b
    | int i => cases q; obtain ⟨t, rfl⟩ := ru; exact .int i t
    | str z => cases q; obtain ⟨t, rfl⟩ := ru; exact .str z t
    | ty _ => cases n <;> cases ok
    | lst _ => cases q
    | tup _ => cases q
    | dct _ => cases q
    | scr _ => cases q
theorem okD_lst {n : Nat} {es : List D} (h : okD n (.lst es) = true) : ∃ m, n = m + 1 ∧ es.all (okD m) = true := by
  cases n with
  | zero => cases h
  | succ n => exact ⟨n, rfl, h⟩
theorem okD_tup {n : Nat} {es : List D} (h : okD n (.tup es) = true) : ∃ m, n = m + 1 ∧ es.all (okD m) = true := by
  cases n with
  | zero => cases h
  | succ n => exact ⟨n, rfl, h⟩
theorem eqDs_refl {es : List D} (h : ∀ d ∈ es, eqD d d = true) : eqDs es es = true := by
  induction es with
  | nil => unfold eqDs; rfl
  | cons d es ih => unfold eqDs; rw [h d (by simp), ih fun d m => h d (by simp [m])]; rfl
theorem eqD_refl : ∀ (n : Nat) {d : D}, okD n d = true → eqD d d = true := by
  intro n
  induction n with
  | zero => intro d h; cases d <;> first | (cases h; done) | simp [eqD]
  | succ n ih =>
    intro d h
    cases d with
    | lst es => simp only [eqD]; exact eqDs_refl fun d m => ih (List.all_eq_true.mp h d m)
    | tup es => simp only [eqD]; exact eqDs_refl fun d m => ih (List.all_eq_true.mp h d m)
    | dct _ => cases h
    | scr _ => cases h
    | ty _ => cases h
    | _ => simp [eqD]
theorem list_eq_getD {xs ys : List D} (hl : xs.length = ys.length) (h : ∀ j, j < xs.length → xs.getD j .non = ys.getD j .non) : xs = ys := by
  apply List.ext_getElem hl
  intro j h1 h2
  have := h j h1
  simpa [h1, h2] using this
theorem rep_inj (I : Inv X pins σ H s) : ∀ (n m : Nat) {x : V} {d e : D}, RepL X.K H [x] [d] → RepL X.K H [x] [e] → okD n d = true → okD m e = true → d = e := by
  intro n
  induction n using Nat.strongRecOn with
  | ind n ih =>
  intro m x d e rd re od oe
  have go : ∀ {ws : List V} {es es2 : List D} {n' m' : Nat}, n' < n → RepL X.K H ws es → RepL X.K H ws es2 → es.all (okD n') = true → es2.all (okD m') = true → es = es2 := by
    intro ws es es2 n' m' hn r1 r2 o1 o2
    have l1 := r1.length
    have l2 := r2.length
    refine list_eq_getD (by omega) fun j hj => ?_
    have hj2 : j < es2.length := by omega
    obtain ⟨v, g1, g2⟩ := r1.get (i := j) (d := es[j]) (by simp [hj])
    obtain ⟨v', p1, p2⟩ := r2.get (i := j) (d := es2[j]) (by simp [hj2])
    rw [g1] at p1
    cases p1
    rw [show es.getD j .non = es[j] by simp [hj], show es2.getD j .non = es2[j] by simp [hj2]]
    exact ih n' hn m' g2 p2 (List.all_eq_true.mp o1 _ (List.getElem_mem hj)) (List.all_eq_true.mp o2 _ (List.getElem_mem hj2))
  cases rd with
  | flat q _ =>
    cases re with
    | flat q' _ =>
      cases d <;> cases q <;> (cases e <;> cases q' <;> rfl)
    | lst _ _ _ => cases d <;> cases q
    | tup _ _ _ => cases d <;> cases q
    | dct _ _ _ _ _ => cases d <;> cases q
    | scr _ _ => cases d <;> cases q
  | lst q i _ =>
    obtain ⟨n', rfl, od'⟩ := okD_lst od
    cases re with
    | flat q' _ => cases e <;> cases q'
    | lst q' i' _ =>
      obtain ⟨m', rfl, oe'⟩ := okD_lst oe
      cases I.list_inj (.inl q) (.inl q')
      rw [go (Nat.lt_succ_self _) i i' od' oe']
    | tup q' i' _ =>
      obtain ⟨_, _, p1, _⟩ := I.list (.inl q)
      obtain ⟨_, _, p2, _⟩ := I.tuple q'
      exact absurd rfl (SeqAt.ne_of_list_tuple p1.isList p2)
    | dct _ _ _ _ _ => cases m <;> cases oe
    | scr _ _ => cases m <;> cases oe
  | tup q i _ =>
    obtain ⟨n', rfl, od'⟩ := okD_tup od
    cases re with
    | flat q' _ => cases e <;> cases q'
    | tup q' i' _ =>
      obtain ⟨m', rfl, oe'⟩ := okD_tup oe
      cases I.tuple_inj q q'
      rw [go (Nat.lt_succ_self _) i i' od' oe']
    | lst q' i' _ =>
      obtain ⟨_, _, p1, _⟩ := I.list (.inl q')
      obtain ⟨_, _, p2, _⟩ := I.tuple q
      exact absurd rfl (SeqAt.ne_of_list_tuple p1.isList p2)
    | dct _ _ _ _ _ => cases m <;> cases oe
    | scr _ _ => cases m <;> cases oe
  | dct _ _ _ _ _ => cases n <;> cases od
  | scr _ _ => cases n <;> cases od
theorem eq_rep (I : Inv X pins σ H s) : ∀ (n m : Nat) {A : Around} {x y : V} {u v : Value} {d e : D}, RepL X.K H [x] [d] → RepL X.K H [y] [e] → okD n d = true → okD m e = true → RelV x u → RelV y v → A.units + n < cLine →
    SeqAt.EqAt A s u v (eqD d e) ∧ SeqAt.RcAt A s u v (eqD d e) := by
  intro n
  induction n using Nat.strongRecOn with
  | ind n ih =>
  intro m A x y u v d e rd re od oe ru rv hu
  have hu0 : A.units < cLine := by omega
  have s1 := shp_of I rd ru od
  have s2 := shp_of I re rv oe
  cases s1 with
  | none =>
    cases s2 with
    | none =>
      exact ⟨SeqAt.EqAt.same _, SeqAt.RcAt.none_none⟩
    | bool a2 =>
      simp only [eqD]; exact ⟨SeqAt.EqAt.none_bool a2, SeqAt.RcAt.none_bool a2⟩
    | int a2 t2 =>
      simp only [eqD]; exact ⟨SeqAt.EqAt.none_int a2 t2, SeqAt.RcAt.none_int a2 t2⟩
    | str a2 t2 =>
      simp only [eqD]; exact ⟨SeqAt.EqAt.none_str a2 t2, SeqAt.RcAt.none_str a2 t2⟩
    | list l2 v2 r2 =>
      simp only [eqD]; exact ⟨SeqAt.EqAt.none_list l2 hu0, SeqAt.RcAt.none_list l2 hu0⟩
    | tuple l2 v2 r2 =>
      simp only [eqD]; exact ⟨SeqAt.EqAt.none_tuple l2 hu0, SeqAt.RcAt.none_tuple l2 hu0⟩
  | bool a1 =>
    cases s2 with
    | none =>
      simp only [eqD]; exact ⟨SeqAt.EqAt.bool_none a1, SeqAt.RcAt.bool_none a1⟩
    | bool a2 =>
      simp only [eqD]; exact ⟨SeqAt.EqAt.bool_bool a1 a2, SeqAt.RcAt.bool_bool a1 a2⟩
    | int a2 t2 =>
      simp only [eqD]; exact ⟨SeqAt.EqAt.bool_int a1 a2 t2, SeqAt.RcAt.bool_int a1 a2 t2⟩
    | str a2 t2 =>
      simp only [eqD]; exact ⟨SeqAt.EqAt.bool_str a1 a2 t2, SeqAt.RcAt.bool_str a1 a2 t2⟩
    | list l2 v2 r2 =>
      simp only [eqD]; exact ⟨SeqAt.EqAt.bool_list a1 l2 hu0, SeqAt.RcAt.bool_list a1 l2 hu0⟩
    | tuple l2 v2 r2 =>
      simp only [eqD]; exact ⟨SeqAt.EqAt.bool_tuple a1 l2 hu0, SeqAt.RcAt.bool_tuple a1 l2 hu0⟩
  | int a1 t1 =>
    cases s2 with
    | none =>
      simp only [eqD]; exact ⟨SeqAt.EqAt.int_none a1 t1, SeqAt.RcAt.int_none a1 t1⟩
    | bool a2 =>
      simp only [eqD]; exact ⟨SeqAt.EqAt.int_bool a1 t1 a2, SeqAt.RcAt.int_bool a1 t1 a2⟩
    | int a2 t2 =>
      simp only [eqD]; exact ⟨SeqAt.EqAt.int_int a1 t1 a2 t2, SeqAt.RcAt.int_int a1 t1 a2 t2⟩
    | str a2 t2 =>
      simp only [eqD]; exact ⟨SeqAt.EqAt.int_str a1 t1 a2 t2, SeqAt.RcAt.int_str a1 t1 a2 t2⟩
    | list l2 v2 r2 =>
      simp only [eqD]; exact ⟨SeqAt.EqAt.int_list a1 t1 l2 hu0, SeqAt.RcAt.int_list a1 t1 l2 hu0⟩
    | tuple l2 v2 r2 =>
      simp only [eqD]; exact ⟨SeqAt.EqAt.int_tuple a1 t1 l2 hu0, SeqAt.RcAt.int_tuple a1 t1 l2 hu0⟩
  | str a1 t1 =>
    cases s2 with
    | none =>
      simp only [eqD]; exact ⟨SeqAt.EqAt.str_none a1 t1, SeqAt.RcAt.str_none a1 t1⟩
    | bool a2 =>
      simp only [eqD]; exact ⟨SeqAt.EqAt.str_bool a1 t1 a2, SeqAt.RcAt.str_bool a1 t1 a2⟩
    | int a2 t2 =>
      simp only [eqD]; exact ⟨SeqAt.EqAt.str_int a1 t1 a2 t2, SeqAt.RcAt.str_int a1 t1 a2 t2⟩
    | str a2 t2 =>
      simp only [eqD]; exact ⟨SeqAt.EqAt.str_str a1 t1 a2 t2, SeqAt.RcAt.str_str a1 t1 a2 t2⟩
    | list l2 v2 r2 =>
      simp only [eqD]; exact ⟨SeqAt.EqAt.str_list a1 t1 l2 hu0, SeqAt.RcAt.str_list a1 t1 l2 hu0⟩
    | tuple l2 v2 r2 =>
      simp only [eqD]; exact ⟨SeqAt.EqAt.str_tuple a1 t1 l2 hu0, SeqAt.RcAt.str_tuple a1 t1 l2 hu0⟩
  | list l1 v1 r1 =>
    cases s2 with
    | none =>
      simp only [eqD]; exact ⟨SeqAt.EqAt.list_none l1 hu0, SeqAt.RcAt.list_none l1 hu0⟩
    | bool a2 =>
      simp only [eqD]; exact ⟨SeqAt.EqAt.list_bool a2 l1 hu0, SeqAt.RcAt.list_bool a2 l1 hu0⟩
    | int a2 t2 =>
      simp only [eqD]; exact ⟨SeqAt.EqAt.list_int a2 t2 l1 hu0, SeqAt.RcAt.list_int a2 t2 l1 hu0⟩
    | str a2 t2 =>
      simp only [eqD]; exact ⟨SeqAt.EqAt.list_str a2 t2 l1 hu0, SeqAt.RcAt.list_str a2 t2 l1 hu0⟩
    | list l2 v2 r2 =>
      rename_i a its ws es b its2 ws2 es2
      obtain ⟨n', rfl, od'⟩ := okD_lst od
      obtain ⟨m', rfl, oe'⟩ := okD_lst oe
      have la := v1.length
      have lb := v2.length
      have la' := r1.length
      have lb' := r2.length
      have rc : SeqAt.RcAt A s (.ref a) (.ref b) (eqD (.lst es) (.lst es2)) := by
        simp only [eqD]
        by_cases hl : es.length = es2.length
        · rw [eqDs_all its.toArray.size (by simp only [List.size_toArray]; omega) (by simp only [List.size_toArray]; omega)]
          refine SeqAt.RcAt.lists (A := A) l1 l2 (by simp only [List.size_toArray]; omega) hu0 fun j h1 h2 => ?_
          obtain ⟨x1, q1, q2, q3⟩ := rep_at r1 v1 h1
          obtain ⟨y1, p1, p2, p3⟩ := rep_at r2 v2 h2
          exact (ih n' (Nat.lt_succ_self _) m' q2 p2 (all_getD od' q3) (all_getD oe' p3) q1 p1 (by show A.units + 1 + n' < cLine; omega)).1
        · rw [eqDs_len hl]
          exact SeqAt.RcAt.lists_lengths (A := A) l1 l2 (by simp only [List.size_toArray, bne_iff_ne, ne_eq]; omega) hu0
      refine ⟨?_, rc⟩
      by_cases hab : a = b
      · subst hab
        have exy : x = y := RelV.inj ru rv
        subst exy
        have e2 := rep_inj I _ _ rd re od oe
        cases e2
        rw [eqD_refl _ od]
        exact SeqAt.EqAt.same _
      · exact SeqAt.EqAt.of_refs hab rc
    | tuple l2 v2 r2 =>
      simp only [eqD]; exact ⟨SeqAt.EqAt.list_tuple l1 l2 hu0, SeqAt.RcAt.list_tuple l1 l2 hu0⟩
  | tuple l1 v1 r1 =>
    cases s2 with
    | none =>
      simp only [eqD]; exact ⟨SeqAt.EqAt.tuple_none l1 hu0, SeqAt.RcAt.tuple_none l1 hu0⟩
    | bool a2 =>
      simp only [eqD]; exact ⟨SeqAt.EqAt.tuple_bool a2 l1 hu0, SeqAt.RcAt.tuple_bool a2 l1 hu0⟩
    | int a2 t2 =>
      simp only [eqD]; exact ⟨SeqAt.EqAt.tuple_int a2 t2 l1 hu0, SeqAt.RcAt.tuple_int a2 t2 l1 hu0⟩
    | str a2 t2 =>
      simp only [eqD]; exact ⟨SeqAt.EqAt.tuple_str a2 t2 l1 hu0, SeqAt.RcAt.tuple_str a2 t2 l1 hu0⟩
    | list l2 v2 r2 =>
      simp only [eqD]; exact ⟨SeqAt.EqAt.tuple_list l1 l2 hu0, SeqAt.RcAt.tuple_list l1 l2 hu0⟩
    | tuple l2 v2 r2 =>
      rename_i a its ws es b its2 ws2 es2
      obtain ⟨n', rfl, od'⟩ := okD_tup od
      obtain ⟨m', rfl, oe'⟩ := okD_tup oe
      have la := v1.length
      have lb := v2.length
      have la' := r1.length
      have lb' := r2.length
      have rc : SeqAt.RcAt A s (.ref a) (.ref b) (eqD (.tup es) (.tup es2)) := by
        have z := SeqAt.RcAt.tuples (A := A) (e := fun j => eqD (es.getD j .non) (es2.getD j .non)) l1 l2 hu0 fun j h1 h2 => by
          obtain ⟨x1, q1, q2, q3⟩ := rep_at r1 v1 h1
          obtain ⟨y1, p1, p2, p3⟩ := rep_at r2 v2 h2
          exact (ih n' (Nat.lt_succ_self _) m' q2 p2 (all_getD od' q3) (all_getD oe' p3) q1 p1 (by show A.units + 1 + n' < cLine; omega)).1
        simp only [eqD]
        by_cases hl : es.length = es2.length
        · rw [eqDs_all its.toArray.size (by simp only [List.size_toArray]; omega) (by simp only [List.size_toArray]; omega)]
          have e1 : its2.toArray.size = its.toArray.size := by simp only [List.size_toArray]; omega
          rw [e1, Nat.min_self, beq_self_eq_true, Bool.and_true] at z
          exact z
        · rw [eqDs_len hl]
          have e1 : (its.toArray.size == its2.toArray.size) = false := by rw [beq_eq_false_iff_ne]; simp only [List.size_toArray]; omega
          rw [e1, Bool.and_false] at z
          exact z
      refine ⟨?_, rc⟩
      by_cases hab : a = b
      · subst hab
        have exy : x = y := RelV.inj ru rv
        subst exy
        have e2 := rep_inj I _ _ rd re od oe
        cases e2
        rw [eqD_refl _ od]
        exact SeqAt.EqAt.same _
      · exact SeqAt.EqAt.of_refs hab rc
end
end L2
set_option Elab.async false
set_option linter.all false
set_option maxRecDepth 100000
set_option maxHeartbeats 4000000
namespace L2
open PySem PySem.Spec PyProof.Rows
mutual
theorem eqD_key : ∀ k j : TK, eqD k.d j.d = decide (k = j)
  | .inl a, .inl b => by simp only [TK.d, eqD]; rw [Bool.eq_iff_iff]; simp
  | .inr a, .inr b => by simp only [TK.d, eqD]; rw [Bool.eq_iff_iff]; simp
  | .tp l, .tp m => by simp only [TK.d, eqD]; rw [eqD_keys l m, Bool.eq_iff_iff]; simp
  | .inl _, .inr _ => by simp [TK.d, eqD]
  | .inl _, .tp _ => by simp [TK.d, eqD]
  | .inr _, .inl _ => by simp [TK.d, eqD]
  | .inr _, .tp _ => by simp [TK.d, eqD]
  | .tp _, .inl _ => by simp [TK.d, eqD]
  | .tp _, .inr _ => by simp [TK.d, eqD]
theorem eqD_keys : ∀ l m : List TK, eqDs (TK.dl l) (TK.dl m) = decide (l = m)
  | [], [] => by simp [TK.dl, eqDs]
  | a :: l, b :: m => by simp only [TK.dl, eqDs]; rw [eqD_key a b, eqD_keys l m, Bool.eq_iff_iff]; simp
  | [], _ :: _ => by simp [TK.dl, eqDs]
  | _ :: _, [] => by simp [TK.dl, eqDs]
end
theorem dl_map : ∀ l : List TK, TK.dl l = l.map TK.d
  | [] => by simp [TK.dl]
  | a :: l => by simp [TK.dl, dl_map l]
theorem okD_key : ∀ (n : Nat) {k : TK}, k.ok n = true → okD n k.d = true
  | n, .inl i, _ => by cases n <;> simp [TK.d, okD]
  | n, .inr i, _ => by cases n <;> simp [TK.d, okD]
  | 0, .tp l, h => by simp [TK.ok] at h
  | n + 1, .tp l, h => by
    simp only [TK.d, okD, dl_map, List.all_map]
    refine List.all_eq_true.mpr fun a m => ?_
    exact okD_key n (List.all_eq_true.mp (by simpa only [TK.ok] using h) a m)
theorem wp_either {α : Type} {M : Model} {A : Around} {E : Value → Shared → Prop} {s : Shared} {c : Prop} [Decidable c] {a b : Sem α} {Q : α → Shared → Prop} (h1 : wpAny M A a Q E s) (h2 : wpAny M A b Q E s) : wpAny M A (if c then a else b) Q E s := by
  split
  · exact h1
  · exact h2
theorem hashL_append (w : World) : ∀ l m : List TK, TK.hashL w (l ++ m) = TK.hashL w l ++ TK.hashL w m
  | [], m => by simp [TK.hashL]
  | a :: l, m => by simp [TK.hashL, hashL_append w l m]
theorem paired_at {α β : Type} {R : α → β → Prop} : ∀ {l : List α} {m : List β} (i : Nat) {b : β}, Paired R l m → m[i]? = some b → ∃ a, l[i]? = some a ∧ R a b
  | _, _, _, _, .nil, e => by simp at e
  | _, _, 0, _, .cons r _, e => by simp at e; subst e; exact ⟨_, rfl, r⟩
  | _, _, i + 1, _, .cons _ t, e => by
    obtain ⟨a, h1, h2⟩ := paired_at i t (by simpa using e)
    exact ⟨a, by simpa using h1, h2⟩
theorem paired_of {α β : Type} {R : α → β → Prop} : ∀ {l : List α} {m : List β} (i : Nat) {a : α}, Paired R l m → l[i]? = some a → ∃ b, m[i]? = some b ∧ R a b
  | _, _, _, _, .nil, e => by simp at e
  | _, _, 0, _, .cons r _, e => by simp at e; subst e; exact ⟨_, rfl, r⟩
  | _, _, i + 1, _, .cons _ t, e => by
    obtain ⟨a, h1, h2⟩ := paired_of i t (by simpa using e)
    exact ⟨a, by simpa using h1, h2⟩
section
variable {X : Cx} {pins : List (Addr × Obj)} {σ : St} {H : Hp}
theorem hash_key : ∀ (n : Nat) {A : Around} {E : Value → Shared → Prop} {s : Shared} {y : V} {u : Value} {k : TK} {Q : Int → Shared → Prop}, Inv X pins σ H s → RepL X.K H [y] [k.d] → k.ok n = true → RelV y u → A.units + n < cLine →
    (∀ t, Q (k.hash X.w) { s with toks := t }) → wpAny (model X.prog X.w) A (pyHash u) Q E s := by
  intro n
  induction n with
  | zero =>
    intro A E s y u k Q I r ok ru hu h
    cases k with
    | tp l => simp [TK.ok] at ok
    | inl i =>
      simp only [TK.d] at r
      cases r with
      | flat q _ => cases q; obtain ⟨t, rfl⟩ := ru; exact wpAny_pyHash_int (by simpa only [TK.hash] using h _)
    | inr x =>
      simp only [TK.d] at r
      cases r with
      | flat q _ => cases q; obtain ⟨t, rfl⟩ := ru; exact wpAny_pyHash_str (by simpa only [TK.hash] using h _)
  | succ n ih =>
    intro A E s y u k Q I r ok ru hu h
    cases k with
    | inl i =>
      simp only [TK.d] at r
      cases r with
      | flat q _ => cases q; obtain ⟨t, rfl⟩ := ru; exact wpAny_pyHash_int (by simpa only [TK.hash] using h _)
    | inr x =>
      simp only [TK.d] at r
      cases r with
      | flat q _ => cases q; obtain ⟨t, rfl⟩ := ru; exact wpAny_pyHash_str (by simpa only [TK.hash] using h _)
    | tp l =>
      simp only [TK.d] at r
      cases r with
      | flat q _ => cases q
      | @tup a ws _ _ _ q i _ =>
        cases ru
        obtain ⟨its, rv, pl, _⟩ := I.tuple q
        have hT : s.TypeIs (.ref a) "tuple" := pl.typeIs
        obtain ⟨o, g1, g2, nn, g3⟩ := pl
        have ok : l.all (TK.ok n) = true := by simpa only [TK.ok] using ok
        show wpAny _ _ (pyHashByItsType (.ref a)) Q E s
        unfold pyHashByItsType
        refine wpAny_bind (wpAny_cRoomFor_or (.inr (by omega)) (wpAny_bind (wpAny_specialOf hT F.slot_tuple_hash.lookup ?_)))
        dsimp only
        rw [if_neg (by rw [beq_builtin_none]; exact Bool.false_ne_true)]
        refine wpAny_bind (wpAny_specialOf hT F.slot_tuple_hash.lookup (wpAny_bind ?_))
        refine wpAny_callSpecialIfBoundUnlessNone?_slot hT F.slot_tuple_hash (wpAny_call_entry F.slot_tuple_hash hT F.entry_tuple_hash ?_ (F.args_tuple_hash_1 _))
        show wpAny _ _ (Builtin.Tuple.tupleItemsOf (.ref a) >>= fun z => _) _ _ s
        refine wpAny_bind (wpAny_tupleItemsOf g1 g3 (wpAny_bind ?_))
        rw [← Array.forIn_toList]
        refine wpAny_forIn_list _ (fun rest (b : Array Int) s' => ∃ done left wl t, l = done ++ left ∧ RepL X.K H wl (TK.dl left) ∧ Vals wl rest ∧ b.toList = TK.hashL X.w done ∧ s' = { s with toks := t }) _ ?_ ?_ _ _ ⟨[], l, ws, s.toks, rfl, i, rv, by simp [TK.hashL], rfl⟩
        · rintro x rest b s' ⟨done, left, wl, t, e, r', v', hb, rfl⟩
          cases v' with
          | @cons w1 _ wl _ rw1 v' =>
            cases left with
            | nil => have := r'.length; simp [TK.dl] at this
            | cons k1 left =>
              simp only [TK.dl] at r'
              have ok1 : k1.ok n = true := List.all_eq_true.mp ok k1 (by rw [e]; simp)
              have fin : ∀ t', ∃ done' left' wl' t'', l = done' ++ left' ∧ RepL X.K H wl' (TK.dl left') ∧ Vals wl' rest ∧ (b.push (k1.hash X.w)).toList = TK.hashL X.w done' ∧ ({ s with toks := t' } : Shared) = { s with toks := t'' } :=
                fun t' => ⟨done ++ [k1], left, wl, t', by simp [e], r'.inv.2, v', by rw [hashL_append, ← hb]; simp [TK.hashL], rfl⟩
              exact wpAny_bind (ih (I.tok t) r'.inv.1 ok1 rw1 (by show A.units + 1 + n < cLine; omega) fun t' => by
                first
                  | exact wpAny_pure (fin t')
                  | exact wpAny_bind (wpAny_pure (wpAny_pure (fin t'))))
        · rintro b s' ⟨done, left, wl, t, e, r', v', hb, rfl⟩
          cases v'
          have hl : left = [] := by
            cases left with
            | nil => rfl
            | cons _ _ => have := r'.length; simp [TK.dl] at this
          subst hl
          rw [List.append_nil] at e
          subst e
          show wpAny _ _ (retInt (Builtin.Tuple.tupleHashOf b.toList)) _ _ _
          rw [hb]
          refine wpAny_ret_mkInt ?_
          have h' : ∀ t, Q (reduceHash (Builtin.Tuple.tupleHashOf (TK.hashL X.w l))) { s with toks := t } := fun t => by simpa only [TK.hash] using h t
          unfold reduceHash at h'
          show wpAny _ _ (if (decide (-(2 : Int) ^ 63 ≤ Builtin.Tuple.tupleHashOf (TK.hashL X.w l)) && decide (Builtin.Tuple.tupleHashOf (TK.hashL X.w l) < 2 ^ 63)) = true then _ else _) Q E _
          split
          · rename_i hc
            rw [if_pos hc] at h'
            exact wpAny_pure (h' _)
          · rename_i hc
            rw [if_neg hc] at h'
            exact wpAny_bind (wpAny_rule (wpAny_pure (h' _)))
theorem quiet_key : ∀ (n : Nat) {A : Around} {E : Value → Shared → Prop} {s : Shared} {y : V} {u : Value} {k : TK} {Q : Bool → Shared → Prop}, Inv X pins σ H s → RepL X.K H [y] [k.d] → k.ok n = true → RelV y u → Q true s →
    wpAny (model X.prog X.w) A (eqIsQuiet n u) Q E s := by
  intro n
  induction n with
  | zero =>
    intro A E s y u k Q I r ok ru h
    cases k with
    | tp l => simp [TK.ok] at ok
    | inl i => simp only [TK.d] at r; cases r with | flat q _ => cases q; obtain ⟨t, rfl⟩ := ru; rw [eqIsQuiet_byValue 0 rfl]; exact wpAny_pure h
    | inr i => simp only [TK.d] at r; cases r with | flat q _ => cases q; obtain ⟨t, rfl⟩ := ru; rw [eqIsQuiet_byValue 0 rfl]; exact wpAny_pure h
  | succ n ih =>
    intro A E s y u k Q I r ok ru h
    cases k with
    | inl i => simp only [TK.d] at r; cases r with | flat q _ => cases q; obtain ⟨t, rfl⟩ := ru; rw [eqIsQuiet_byValue (n + 1) rfl]; exact wpAny_pure h
    | inr i => simp only [TK.d] at r; cases r with | flat q _ => cases q; obtain ⟨t, rfl⟩ := ru; rw [eqIsQuiet_byValue (n + 1) rfl]; exact wpAny_pure h
    | tp l =>
      simp only [TK.d] at r
      cases r with
      | flat q _ => cases q
      | @tup a ws _ _ _ q i _ =>
        cases ru
        obtain ⟨its, rv, pl, _⟩ := I.tuple q
        have hT : s.TypeIs (.ref a) "tuple" := pl.typeIs
        obtain ⟨o, g1, g2, nn, g3⟩ := pl
        have ok : l.all (TK.ok n) = true := by simpa only [TK.ok] using ok
        unfold eqIsQuiet
        refine wpAny_bind (wpAny_specialOf hT F.slot_tuple_eq.lookup (wpAny_bind (wpAny_isInstance hT isSubtype_tuple_tuple ?_)))
        simp only [Bool.not_true, Bool.false_eq_true, if_false]
        refine wpAny_bind (wpAny_seqItems g1 g3 (wpAny_bind ?_))
        show wpAny _ _ (forIn its.toArray _ _) _ _ s
        rw [← Array.forIn_toList]
        refine wpAny_forIn_list _ (fun rest r s' => r.1 = none ∧ s' = s ∧ ∃ left wl, RepL X.K H wl (TK.dl left) ∧ Vals wl rest ∧ ∀ x ∈ left, x.ok n = true) _ ?_ ?_ _ _ ⟨rfl, rfl, l, ws, i, rv, fun x m => List.all_eq_true.mp ok x m⟩
        · rintro v rest r s' ⟨hr, rfl, left, wl, r', v', hk⟩
          cases v' with
          | @cons w1 _ wl _ rw1 v' =>
            cases left with
            | nil => have := r'.length; simp [TK.dl] at this
            | cons k1 left =>
              simp only [TK.dl] at r'
              refine wpAny_bind (ih I r'.inv.1 (hk k1 (by simp)) rw1 ?_)
              simp only [Bool.not_true, Bool.false_eq_true, if_false]
              exact wpAny_pure ⟨rfl, rfl, left, wl, r'.inv.2, v', fun x m => hk x (by simp [m])⟩
        · rintro ⟨r1, r2⟩ s' ⟨hr, rfl, _⟩
          cases (show r1 = none from hr)
          exact wpAny_pure h
structure DAt (X : Cx) (A : Around) (E : Value → Shared → Prop) (s : Shared) (xs : Array DictEntry) (es : List (TK × V × V)) (k : TK) (u : Value) : Prop where
  ent : ∀ (j : Nat) (x : DictEntry), xs[j]? = some x → ∃ e, es[j]? = some e ∧ EntG X.w e x ∧ (∀ (R : Bool → Shared → Prop), R (decide (e.1 = k)) s → wpAny (model X.prog X.w) A (eqBool x.key u) R E s) ∧
    ∀ (R : Bool → Shared → Prop), R true s → wpAny (model X.prog X.w) A (eqIsQuiet 8 x.key) R E s
  ents : ∀ (j : Nat) (e : TK × V × V), es[j]? = some e → ∃ x : DictEntry, xs[j]? = some x ∧ EntG X.w e x
  uniq : ∀ (i j : Nat) (e f : TK × V × V), es[i]? = some e → es[j]? = some f → e.1 = k → f.1 = k → i = j
theorem dat_of {A : Around} {E : Value → Shared → Prop} {s : Shared} {xs : Array DictEntry} {es : List (TK × V × V)} {k : TK} {y : V} {u : Value} (I : Inv X pins σ H s) (g3 : Paired (EntG X.w) es xs.toList) (g4 : (es.map (·.1)).Nodup)
    (rk : RepL X.K H (es.map (·.2.1)) (es.map (·.1.d))) (ry : RepL X.K H [y] [k.d]) (ok : k.ok 8 = true) (ru : RelV y u) (hu : A.units + 8 < cLine) : DAt X A E s xs es k u where
  ent := fun j x hx => by
    obtain ⟨e, e1, e2⟩ := paired_at j g3 (by rw [Array.getElem?_toList]; exact hx)
    obtain ⟨v, v1, v2⟩ := rk.get (i := j) (d := e.1.d) (by rw [List.getElem?_map, e1]; rfl)
    rw [List.getElem?_map, e1] at v1
    cases v1
    refine ⟨e, e1, e2, fun R hR => ?_, fun R hR => quiet_key 8 I v2 e2.2.2.2 e2.2.1 hR⟩
    refine (eq_rep I 8 8 v2 ry (okD_key 8 e2.2.2.2) (okD_key 8 ok) e2.2.1 ru hu).1 X.prog X.w E R ?_
    rw [eqD_key]
    exact hR
  ents := fun j e he => by
    obtain ⟨x, x1, x2⟩ := paired_of j g3 he
    exact ⟨x, by rw [← Array.getElem?_toList]; exact x1, x2⟩
  uniq := fun i j e f he hf ek fk => by
    have hi : (es.map (·.1))[i]? = some k := by rw [List.getElem?_map, he, ← ek]; rfl
    have hj : (es.map (·.1))[j]? = some k := by rw [List.getElem?_map, hf, ← fk]; rfl
    exact (List.getElem?_inj (List.getElem?_eq_some_iff.mp hi).1 g4).mp (hi.trans hj.symm)
section
variable {A : Around} {E : Value → Shared → Prop} {s : Shared} {d : Addr} {o : Obj} {xs : Array DictEntry} {ep : Nat} {es : List (TK × V × V)} {k : TK} {u : Value} {Q : Option Nat → Shared → Prop}
abbrev plc (xs : Array DictEntry) (h : Int) : List Nat := placesWithHash xs.size (fun i => xs[i]?.map (·.hash)) h
theorem plc_mem {h : Int} {i : Nat} : i ∈ plc xs h ↔ ∃ x, xs[i]? = some x ∧ x.hash = h := by
  unfold plc placesWithHash
  rw [List.mem_filter, List.mem_range]
  constructor
  · rintro ⟨h1, h2⟩
    refine ⟨xs[i], Array.getElem?_eq_getElem h1, ?_⟩
    dsimp only at h2
    rw [Array.getElem?_eq_getElem h1] at h2
    simpa using h2
  · rintro ⟨x, h1, h2⟩
    refine ⟨(Array.getElem?_eq_some_iff.mp h1).1, ?_⟩
    dsimp only
    rw [h1, Option.map_some, h2]
    simp
theorem plc_nodup {h : Int} : (plc xs h).Nodup := List.Nodup.sublist List.filter_sublist List.nodup_range
theorem DAt.plc (D : DAt X A E s xs es k u) {j : Nat} {e : TK × V × V} (he : es[j]? = some e) (ek : e.1 = k) : j ∈ plc xs (k.hash X.w) := by
  obtain ⟨x, x1, x2⟩ := D.ents j e he
  exact plc_mem.mpr ⟨x, x1, by rw [x2.1, ek]⟩
theorem find_walk (D : DAt X A E s xs es k u) (g1 : s.heap.get? d = some o) (g2 : o.data = .dict xs ep)
    (q0 : (∀ (j : Nat) (e : TK × V × V), es[j]? = some e → e.1 ≠ k) → Q none s) (q1 : ∀ (j : Nat) (e : TK × V × V), es[j]? = some e → e.1 = k → Q (some j) s) :
    wpAny (model X.prog X.w) A (dictWalkPlain d u (k.hash X.w) xs (plc xs (k.hash X.w))) Q E s := by
  unfold dictWalkPlain
  refine wpAny_bind (wpAny_forIn_list _ (fun rest b s' => s' = s ∧ b = (none, ()) ∧ ∃ done, plc xs (k.hash X.w) = done ++ rest ∧ ∀ j e, j ∈ done → es[j]? = some e → e.1 ≠ k) _ ?_ ?_ _ _ ⟨rfl, rfl, [], rfl, fun _ _ m => by cases m⟩)
  · rintro i rest b s' ⟨rfl, rfl, done, hd, hno⟩
    obtain ⟨x, x1, x2⟩ := plc_mem.mp (show i ∈ plc xs (k.hash X.w) by rw [hd]; simp)
    obtain ⟨e, e1, e2, eq, _⟩ := D.ent i x x1
    simp only [x1]
    rw [if_pos (by rw [x2]; simp)]
    refine wpAny_bind (wpAny_dictEpoch g1 g2 (wpAny_bind (eq _ (wpAny_bind (wpAny_dictEpoch g1 g2 ?_)))))
    rw [if_neg (by simp)]
    by_cases ek : e.1 = k
    · rw [decide_eq_true ek]
      exact wpAny_bind (wpAny_rule (wpAny_pure (wpAny_pure (q1 i e e1 ek))))
    · rw [decide_eq_false ek]
      refine wpAny_bind (wpAny_rule (wpAny_pure ⟨rfl, rfl, done ++ [i], by simp [hd], fun j f m hf => ?_⟩))
      rcases List.mem_append.mp m with m | m
      · exact hno j f m hf
      · simp at m
        subst m
        rw [e1] at hf
        cases hf
        exact ek
  · rintro b s' ⟨rfl, rfl, done, hd, hno⟩
    refine wpAny_pure (q0 fun j e he ek => hno j e ?_ he ek)
    have := D.plc he ek
    rw [hd] at this
    simpa using this
theorem find_key (D : DAt X A E s xs es k u) (g1 : s.heap.get? d = some o) (g2 : o.data = .dict xs ep) (hq : ∀ (R : Bool → Shared → Prop), R true s → wpAny (model X.prog X.w) A (eqIsQuiet 8 u) R E s)
    (hs : ∀ z t, u = .str z t → k = .inr z) (hst : ∀ (j : Nat) (x : DictEntry) (e : TK × V × V) z t, xs[j]? = some x → es[j]? = some e → x.key = .str z t → e.1 = .inr z) (hh : ∀ a (j : Nat) (x : DictEntry) (e : TK × V × V), u = .ref a → xs[j]? = some x → es[j]? = some e → x.key = u → e.1 = k)
    (q0 : (∀ (j : Nat) (e : TK × V × V), es[j]? = some e → e.1 ≠ k) → Q none s) (q1 : ∀ (j : Nat) (e : TK × V × V), es[j]? = some e → e.1 = k → Q (some j) s) :
    wpAny (model X.prog X.w) A (dictFind d u (k.hash X.w)) Q E s := by
  have walk := find_walk D g1 g2 q0 q1
  have stored : ∀ v ∈ (plc xs (k.hash X.w)).filterMap (fun i => xs[i]?.map (·.key)), ∀ (R : Bool → Shared → Prop), R true s → wpAny (model X.prog X.w) A (eqIsQuiet 8 v) R E s := by
    intro v hv R hR
    obtain ⟨i, _, hi⟩ := List.mem_filterMap.mp hv
    cases hx : xs[i]? with
    | none => rw [hx] at hi; cases hi
    | some x =>
      rw [hx] at hi
      obtain rfl : x.key = v := by simpa using hi
      obtain ⟨e, _, _, _, h⟩ := D.ent i x hx
      exact h R hR
  have tell : ∀ (R : Bool → Shared → Prop), R false s → wpAny (model X.prog X.w) A (tableMayTell u ((plc xs (k.hash X.w)).filterMap fun i => xs[i]?.map (·.key))) R E s := by
    intro R hR
    unfold tableMayTell
    split
    · exact wpAny_pure hR
    · refine wpAny_bind (hq _ ?_)
      simp only [Bool.not_true, Bool.false_eq_true, if_false]
      refine wpAny_bind (wpAny_forIn_list _ (fun rest r s' => s' = s ∧ r = (none, ()) ∧ ∀ v ∈ rest, ∀ (R : Bool → Shared → Prop), R true s → wpAny (model X.prog X.w) A (eqIsQuiet 8 v) R E s) _ ?_ ?_ _ _ ⟨rfl, rfl, stored⟩)
      · rintro x rest r s' ⟨rfl, rfl, hr⟩
        refine wpAny_bind (hr x (by simp) _ ?_)
        simp only [Bool.not_true, Bool.false_eq_true, if_false]
        exact wpAny_pure ⟨rfl, rfl, fun v hv => hr v (by simp [hv])⟩
      · rintro r s' ⟨rfl, rfl, _⟩
        exact wpAny_pure hR
  have tell2 : ∀ (R : Bool → Shared → Prop), R false s → wpAny (model X.prog X.w) A (if ((plc xs (k.hash X.w)).filterMap (fun i => xs[i]?.map (·.key)) == [u]) = true then pure false else tableMayTell u ((plc xs (k.hash X.w)).filterMap fun i => xs[i]?.map (·.key))) R E s := by
    intro R hR
    split
    · exact wpAny_pure hR
    · exact tell R hR
  have fin : ∀ (i : Nat) (x : DictEntry) (e : TK × V × V), xs[i]? = some x → es[i]? = some e → EntG X.w e x → (x.hash == k.hash X.w) = false → e.1 ≠ k := fun i x e _ _ he hf ek => by
    rw [he.1, ek] at hf
    simp at hf
  unfold dictFind
  (try with_reducible refine wpAny_holding ?_); refine wpAny_bind (wpAny_dictEntries g1 g2 ?_)
  dsimp only
  by_cases hall : ((u :: (plc xs (k.hash X.w)).filterMap fun i => xs[i]?.map (·.key)).all carriedByValue) = true
  · rw [if_pos hall]
    split
    next z t =>
      split
      next hstr =>
        unfold foundByValue
        cases hf : xs.findIdx? (fun e => e.key.isStr z) with
        | none =>
          refine wpAny_pure (q0 fun j e he ek => ?_)
          obtain ⟨x, x1, x2⟩ := D.ents j e he
          have n1 := Array.findIdx?_eq_none_iff.mp hf x (Array.mem_of_getElem? x1)
          have e2 := x2.2.1
          have n2 : isExactStrKey x.key = true := by
            have h := Array.all_eq_true.mp hstr j (Array.getElem?_eq_some_iff.mp x1).1
            rw [(Array.getElem?_eq_some_iff.mp x1).2] at h
            exact h
          cases hk : x.key with
          | str z2 t2 =>
            have e3 := hst j x e z2 t2 x1 he hk
            rw [ek, hs z t rfl] at e3
            cases e3
            rw [hk] at n1
            simp [Value.isStr] at n1
          | _ => rw [hk] at n2; cases n2
        | some i =>
          obtain ⟨hlt, hi, _⟩ := Array.findIdx?_eq_some_iff_getElem.mp hf
          obtain ⟨e, e1, e2, eq, _⟩ := D.ent i xs[i] (Array.getElem?_eq_getElem hlt)
          have ek : e.1 = k := by
            cases hk : xs[i].key with
            | str z2 t2 =>
              rw [hk] at hi
              have : z2 = z := by simpa [Value.isStr] using hi
              subst this
              rw [hst i _ e z2 t2 (Array.getElem?_eq_getElem hlt) e1 hk, hs z2 t rfl]
            | _ => rw [hk] at hi; simp [Value.isStr] at hi
          simp only [Array.getElem?_eq_getElem hlt]
          refine wpAny_bind (wpAny_dictEpoch g1 g2 (wpAny_bind (eq _ (wpAny_bind (wpAny_dictEpoch g1 g2 ?_)))))
          rw [if_neg (by simp), decide_eq_true ek]
          exact wpAny_bind (wpAny_rule (wpAny_pure (q1 i e e1 ek)))
      next => exact walk
    next => exact walk
  · rw [if_neg hall]
    have nostr : ∀ z t, u = .str z t → ¬ (xs.all fun e => isExactStrKey e.key) = true := by
      intro z t hu hx
      refine hall (List.all_eq_true.mpr fun v hv => ?_)
      rcases List.mem_cons.mp hv with rfl | hv
      · rw [hu]; rfl
      · obtain ⟨i, _, hi⟩ := List.mem_filterMap.mp hv
        cases hx1 : xs[i]? with
        | none => rw [hx1] at hi; cases hi
        | some x =>
          rw [hx1] at hi
          obtain rfl : x.key = v := by simpa using hi
          have h := Array.all_eq_true.mp hx i (Array.getElem?_eq_some_iff.mp hx1).1
          rw [(Array.getElem?_eq_some_iff.mp hx1).2] at h
          cases hk : x.key with
          | str _ _ => rfl
          | _ => rw [hk] at h; cases h
    have noany : ∀ a, u = .ref a → ¬ (xs.any fun e => e.key == u && e.hash != k.hash X.w) = true := by
      intro a hu hx
      rw [Array.any_eq_true] at hx
      obtain ⟨i, hi, hc⟩ := hx
      rw [Bool.and_eq_true, beq_iff_eq, bne_iff_ne] at hc
      obtain ⟨e, e1, e2, _⟩ := D.ent i xs[i] (Array.getElem?_eq_getElem hi)
      have := hh a i _ e hu (Array.getElem?_eq_getElem hi) e1 hc.1
      exact hc.2 (by rw [e2.1, this])
    split
    case' h_1 => (rename_i z t; rw [if_neg (nostr z t rfl)]; dsimp only)
    case' h_2 => split
    all_goals (try rw [if_neg (noany _ rfl)])
    all_goals refine wp_either ?_ ?_
    all_goals (first | refine wpAny_bind (wpAny_pure ?_) | refine wpAny_bind (tell _ ?_))
    all_goals (
      show wpAny _ _ (if (false && _) = true then _ else _) _ _ _
      rw [if_neg (by rw [Bool.false_and]; exact Bool.false_ne_true)]
      refine wpAny_bind (wpAny_forIn_list _ (fun rest b s' => s' = s ∧ ∃ hit done, b = (none, hit) ∧ plc xs (k.hash X.w) = done ++ rest ∧ ((hit = none ∧ ∀ (j : Nat) (e : TK × V × V), j ∈ done → es[j]? = some e → e.1 ≠ k) ∨ ∃ (j : Nat) (e : TK × V × V), hit = some j ∧ j ∈ done ∧ es[j]? = some e ∧ e.1 = k)) _ ?_ ?_ _ _
        ⟨rfl, none, [], rfl, rfl, .inl ⟨rfl, fun _ _ m => by cases m⟩⟩)
      · rintro i rest b s' ⟨rfl, hit, done, rfl, hd, hH⟩
        obtain ⟨x, x1, x2⟩ := plc_mem.mp (show i ∈ plc xs (k.hash X.w) by rw [hd]; simp)
        obtain ⟨e, e1, e2, eq, _⟩ := D.ent i x x1
        have hni : i ∉ done := fun m => by
          have := plc_nodup (xs := xs) (h := k.hash X.w)
          rw [hd] at this
          exact (List.nodup_append.mp this).2.2 i m i (by simp) rfl
        simp only [x1]
        rw [if_pos (by rw [x2]; simp)]
        refine wpAny_bind (wpAny_dictEpoch g1 g2 (wpAny_bind (eq _ (wpAny_bind (wpAny_dictEpoch g1 g2 ?_)))))
        rw [if_neg (by simp)]
        by_cases ek : e.1 = k
        · rw [decide_eq_true ek]
          rcases hH with ⟨rfl, hno⟩ | ⟨j, f, rfl, jd, jf, fk⟩
          · first | rw [if_pos rfl] | skip
            simp only [Option.isSome_none, Bool.false_eq_true, if_false]
            first | refine wpAny_bind (wpAny_pure ?_) | skip
            refine wpAny_bind (wpAny_rule ?_)
            split
            · exact wpAny_pure (wpAny_pure (q1 i e e1 ek))
            · exact wpAny_pure ⟨rfl, some i, done ++ [i], rfl, by simp [hd], .inr ⟨i, e, rfl, by simp, e1, ek⟩⟩
          · exact absurd (D.uniq i j e f e1 jf ek fk) fun z => hni (by rw [z]; exact jd)
        · rw [decide_eq_false ek]
          have nx : (hit = none ∧ ∀ (j : Nat) (e : TK × V × V), j ∈ done ++ [i] → es[j]? = some e → e.1 ≠ k) ∨ ∃ (j : Nat) (e : TK × V × V), hit = some j ∧ j ∈ done ++ [i] ∧ es[j]? = some e ∧ e.1 = k := by
            rcases hH with ⟨h0, hno⟩ | ⟨j, f, h0, jd, jf, fk⟩
            · refine .inl ⟨h0, fun j f m hf => ?_⟩
              rcases List.mem_append.mp m with m | m
              · exact hno j f m hf
              · simp at m
                subst m
                rw [e1] at hf
                cases hf
                exact ek
            · exact .inr ⟨j, f, h0, by simp [jd], jf, fk⟩
          simp only [Bool.false_eq_true, if_false]
          refine wpAny_bind (wpAny_rule ?_)
          first | rw [if_neg (by simp)] | skip
          first
            | exact wpAny_pure ⟨rfl, hit, done ++ [i], rfl, by simp [hd], nx⟩
            | exact wpAny_bind (wpAny_pure (wpAny_pure ⟨rfl, hit, done ++ [i], rfl, by simp [hd], nx⟩))
      · rintro b s' ⟨rfl, hit, done, rfl, hd, hH⟩
        rcases hH with ⟨rfl, hno⟩ | ⟨j, f, rfl, jd, jf, fk⟩
        · refine wpAny_pure (q0 fun j e he ek => hno j e ?_ he ek)
          have := D.plc he ek
          rw [hd] at this
          simpa using this
        · exact wpAny_pure (q1 j f jf fk))
end
end
end L2
set_option Elab.async false
set_option linter.all false
set_option maxRecDepth 100000
set_option maxHeartbeats 4000000
namespace L2
open PySem PySem.Spec PyProof.Rows
def valX (es : List (TK × V × V)) (k : TK) : Option V := (es.find? fun e => decide (e.1 = k)).map (·.2.2)
def putX : List (TK × V × V) → TK → V → V → List (TK × V × V)
  | [], k, y, v => [(k, y, v)]
  | e :: es, k, y, v => if e.1 = k then (e.1, e.2.1, v) :: es else e :: putX es k y v
def XGet (K : PySem.W.Frag) (H : Hp) (a : Addr) (y : V) (r : Option V) : Prop := ∃ es k, H a = some (.dG es) ∧ RepL K H (es.map (·.2.1)) (es.map (·.1.d)) ∧ RepL K H [y] [k.d] ∧ k.ok 8 = true ∧ r = valX es k
def XPut (K : PySem.W.Frag) (H : Hp) (a : Addr) (y v : V) (H' : Hp) : Prop := ∃ es k, H a = some (.dG es) ∧ RepL K H (es.map (·.2.1)) (es.map (·.1.d)) ∧ RepL K H [y] [k.d] ∧ k.ok 8 = true ∧ es.length < sizeLine ∧ H' = upd H a (.dG (putX es k y v))
theorem key_inj {k j : TK} (e : k.d = j.d) (h : k.ok 8 = true) : k = j := by
  have h1 := eqD_key k j
  rw [← e, eqD_refl 8 (okD_key 8 h)] at h1
  exact of_decide_eq_true h1.symm
section
variable {X : Cx} {pins : List (Addr × Obj)} {σ : St} {H : Hp}
theorem key_str {y : V} {z : Str} {t : Tok} {k : TK} (r : RepL X.K H [y] [k.d]) (ru : RelV y (.str z t)) : k = .inr z := by
  cases k with
  | inl i => simp only [TK.d] at r; cases r with | flat q _ => cases q; obtain ⟨t, e⟩ := ru; cases e
  | inr i => simp only [TK.d] at r; cases r with | flat q _ => cases q; obtain ⟨t, e⟩ := ru; cases e; rfl
  | tp l => simp only [TK.d] at r; cases r with | flat q _ => cases q | tup q _ _ => cases ru
theorem rel_ref {y : V} {a : Addr} (ru : RelV y (.ref a)) : y = .ref a := by
  cases y with
  | ref b => cases ru; rfl
  | non => cases ru
  | bl _ => cases ru
  | ty _ => cases ru
  | _ => obtain ⟨t, e⟩ := ru; cases e
section
variable {A : Around} {E : Value → Shared → Prop} {s : Shared} {d : Addr} {es : List (TK × V × V)} {k : TK} {y v : V} {u r : Value}
theorem find_x {o : Obj} {xs : Array DictEntry} {ep : Nat} {Q : Option Nat → Shared → Prop} (I : Inv X pins σ H s) (g1 : s.heap.get? d = some o) (g2 : o.data = .dict xs ep) (g3 : Paired (EntG X.w) es xs.toList) (g4 : (es.map (·.1)).Nodup)
    (rk : RepL X.K H (es.map (·.2.1)) (es.map (·.1.d))) (ry : RepL X.K H [y] [k.d]) (ok : k.ok 8 = true) (ru : RelV y u) (hu : A.units + 8 < cLine)
    (q0 : (∀ (j : Nat) (e : TK × V × V), es[j]? = some e → e.1 ≠ k) → Q none s) (q1 : ∀ (j : Nat) (e : TK × V × V), es[j]? = some e → e.1 = k → Q (some j) s) : wpAny (model X.prog X.w) A (dictFind d u (k.hash X.w)) Q E s := by
  have at' : ∀ (j : Nat) (x : DictEntry) (e : TK × V × V), xs[j]? = some x → es[j]? = some e → EntG X.w e x ∧ RepL X.K H [e.2.1] [e.1.d] := by
    intro j x e hx he
    obtain ⟨e', e1, e2⟩ := paired_at j g3 (by rw [Array.getElem?_toList]; exact hx)
    rw [he] at e1
    cases e1
    obtain ⟨v, v1, v2⟩ := rk.get (i := j) (d := e.1.d) (by rw [List.getElem?_map, he]; rfl)
    rw [List.getElem?_map, he] at v1
    cases v1
    exact ⟨e2, v2⟩
  refine find_key (dat_of I g3 g4 rk ry ok ru hu) g1 g2 (fun R hR => quiet_key 8 I ry ok ru hR) (fun z t e => key_str ry (by rw [← e]; exact ru)) (fun j x e z t hx he hk => ?_) (fun a j x e hu' hx he hk => ?_) q0 q1
  · obtain ⟨g, r'⟩ := at' j x e hx he
    exact key_str r' (by rw [← hk]; exact g.2.1)
  · obtain ⟨g, r'⟩ := at' j x e hx he
    have h1 := g.2.1
    rw [hk, hu'] at h1
    rw [hu'] at ru
    rw [rel_ref h1] at r'
    rw [rel_ref ru] at ry
    exact key_inj (rep_inj I 8 8 r' ry (okD_key 8 g.2.2.2) (okD_key 8 ok)) g.2.2.2
theorem valX_none (h : ∀ (j : Nat) (e : TK × V × V), es[j]? = some e → e.1 ≠ k) : valX es k = none := by
  unfold valX
  rw [List.find?_eq_none.mpr fun e m z => ?_, Option.map_none]
  obtain ⟨j, hj⟩ := List.mem_iff_getElem?.mp m
  exact h j e hj (of_decide_eq_true z)
theorem valX_some (hn : (es.map (·.1)).Nodup) {j : Nat} {e : TK × V × V} (he : es[j]? = some e) (ek : e.1 = k) : valX es k = some e.2.2 := by
  induction es generalizing j with
  | nil => simp at he
  | cons x es ih =>
    rw [List.map_cons, List.nodup_cons] at hn
    unfold valX
    rw [List.find?_cons]
    cases j with
    | zero =>
      simp only [List.getElem?_cons_zero, Option.some.injEq] at he
      subst he
      rw [decide_eq_true ek]
      rfl
    | succ j =>
      simp only [List.getElem?_cons_succ] at he
      have ne : ¬ x.1 = k := fun z => hn.1 (by rw [z, ← ek]; exact List.mem_map.mpr ⟨e, List.mem_of_getElem? he, rfl⟩)
      rw [decide_eq_false ne]
      exact ih hn.2 he
theorem x_dictGet {o : Option V} {Q : Option Value → Shared → Prop} (hu : A.units + 8 < cLine) (I : Inv X pins σ H s) (g : XGet X.K H d y o) (ru : RelV y u) (h : ∀ w t, RelO o w → Q w { s with toks := t }) :
    wpAny (model X.prog X.w) A (dictGet d u) Q E s := by
  obtain ⟨es, k, hd, rk, ry, ok, rfl⟩ := g
  obtain ⟨_, _, ob, xs, ep, g1, _, g2, g3, g4⟩ := (show ObjOk X.prog X.w H s.heap d (.dG es) from I.hok d _ hd)
  unfold dictGet
  (try with_reducible refine wpAny_holding ?_); refine wpAny_bind (hash_key 8 I ry ok ru hu fun t => wpAny_bind (find_x (I.tok t) g1 g2 g3 g4 rk ry ok ru hu (fun q0 => ?_) (fun j e he ek => ?_)))
  · exact wpAny_pure (h none t (by rw [valX_none q0]; exact True.intro))
  · obtain ⟨x, x1, x2⟩ := paired_of j g3 he
    refine wpAny_bind (wpAny_dictEntries (s := { s with toks := t }) g1 g2 (wpAny_pure ?_))
    rw [← Array.getElem?_toList, x1]
    exact h (some x.val) t (by rw [valX_some g4 he ek]; exact x2.2.2.1)
theorem XGet.ty {o : Option V} (I : Inv X pins σ H s) (g : XGet X.K H d y o) : s.TypeIs (.ref d) "dict" ∧ (d == sysModules) = false := by
  obtain ⟨es, k, hd, _⟩ := g
  obtain ⟨_, z, ob, xs, ep, g1, g5, _⟩ := (show ObjOk X.prog X.w H s.heap d (.dG es) from I.hok d _ hd)
  exact ⟨⟨ob, g1, g5.1⟩, z⟩
theorem x_getItem {Q : Value → Shared → Prop} (hu : A.units + 9 < cLine) (I : Inv X pins σ H s) (g : XGet X.K H d y (some v)) (ru : RelV y u) (h : ∀ w' s', Inv X pins σ H s' → RelV v w' → Q w' s') : wpAny (model X.prog X.w) A (getItem (.ref d) u) Q E s := by
  have hT := (g.ty I).1
  unfold getItem
  (try with_reducible refine wpAny_holding ?_); refine wpAny_bind (wpAny_sequenceKey hT (by decide) (wpAny_bind (wpAny_callSpecial?_slot (name := Str.ofString "__getitem__") hT slot_dict_getitem (wpAny_call_entry slot_dict_getitem hT entry_dict_getitem ?_ (args_dict_getitem _ _)))))
  show wpAny _ _ (dictGet d u >>= _) _ _ s
  refine wpAny_bind (x_dictGet (by show A.units + 1 + 8 < cLine; omega) I g ru fun w t rw' => ?_)
  obtain ⟨w', rfl, r'⟩ := RelO.some_of rw'
  exact wpAny_pure ⟨w', rfl, wpAny_pure (h w' _ (I.tok t) r')⟩
theorem x_contains {o : Option V} {Q : Bool → Shared → Prop} (hu : A.units + 9 < cLine) (I : Inv X pins σ H s) (g : XGet X.K H d y o) (ru : RelV y u) (h : ∀ s', Inv X pins σ H s' → Q o.isSome s') : wpAny (model X.prog X.w) A (contains (.ref d) u) Q E s := by
  obtain ⟨hT, hd⟩ := g.ty I
  unfold contains
  (try with_reducible refine wpAny_holding ?_); refine wpAny_bind (wpAny_specialOf hT slot_dict_contains.lookup ?_)
  dsimp only
  rw [if_neg (by rw [beq_builtin_none]; exact Bool.false_ne_true)]
  refine wpAny_bind (wpAny_callSpecialUnlessNone?_slot (name := Str.ofString "__contains__") hT slot_dict_contains (wpAny_call_entry slot_dict_contains hT entry_dict_contains ?_ (args_dict_contains _ _)))
  show wpAny _ _ (dictGet d u >>= _) _ _ s
  refine wpAny_bind (x_dictGet (by show A.units + 1 + 8 < cLine; omega) I g ru fun w t rw' => ?_)
  have e := rw'.isSome_eq
  cases w with
  | some w =>
    show wpAny _ _ (ret (.bool true)) _ _ _
    refine wpAny_pure ⟨_, rfl, wpAny_truthy_bool ?_⟩
    have := h _ (I.tok t)
    rw [e] at this
    exact this
  | none =>
    show wpAny _ _ (Builtin.Dict.pendingKey? d u >>= _) _ _ _
    refine wpAny_bind (wpAny_pendingKey_other hd (wpAny_pure ⟨_, rfl, wpAny_truthy_bool ?_⟩))
    have := h _ (I.tok t)
    rw [e] at this
    exact this
theorem x_in {o : Option V} {Q : Value → Shared → Prop} (hu : A.units + 9 < cLine) (I : Inv X pins σ H s) (g : XGet X.K H d y o) (ru : RelV y u) (h : ∀ s', Inv X pins σ H s' → Q (.bool o.isSome) s') : wpAny (model X.prog X.w) A (compareOp .In u (.ref d)) Q E s :=
  wpAny_bind (x_contains hu I g ru fun s' I' => wpAny_pure (h s' I'))
theorem x_notIn {o : Option V} {Q : Value → Shared → Prop} (hu : A.units + 9 < cLine) (I : Inv X pins σ H s) (g : XGet X.K H d y o) (ru : RelV y u) (h : ∀ s', Inv X pins σ H s' → Q (.bool (!o.isSome)) s') : wpAny (model X.prog X.w) A (compareOp .NotIn u (.ref d)) Q E s :=
  wpAny_bind (x_contains hu I g ru fun s' I' => wpAny_pure (h s' I'))
theorem length_putX (k : TK) (y v : V) : ∀ es : List (TK × V × V), (putX es k y v).length ≤ es.length + 1
  | [] => by simp [putX]
  | e :: es => by
    unfold putX
    have := length_putX k y v es
    split <;> simp <;> omega
theorem putX_new : ∀ {es : List (TK × V × V)}, (∀ (j : Nat) (e : TK × V × V), es[j]? = some e → e.1 ≠ k) → putX es k y v = es ++ [(k, y, v)]
  | [], _ => rfl
  | e :: es, h => by
    unfold putX
    rw [if_neg (h 0 e rfl), putX_new fun j x hx => h (j + 1) x (by simpa using hx)]
    rfl
theorem ent_put {w : World} {xs : List DictEntry} (g3 : Paired (EntG w) es xs) (ry : RelV y u) (rv : RelV v r) (ok : k.ok 8 = true) : Paired (EntG w) (es ++ [(k, y, v)]) (xs ++ [⟨k.hash w, u, r⟩]) := by
  induction g3 with
  | nil => exact .cons ⟨rfl, ry, rv, ok⟩ .nil
  | cons a _ ih => exact .cons a ih
theorem ent_mod {w : World} : ∀ {es : List (TK × V × V)} {xs : List DictEntry} {j : Nat} {e : TK × V × V}, Paired (EntG w) es xs → (es.map (·.1)).Nodup → es[j]? = some e → e.1 = k → RelV v r →
    Paired (EntG w) (putX es k y v) (xs.modify j fun x => { x with val := r }) ∧ (putX es k y v).map (·.1) = es.map (·.1)
  | _, _, _, _, .nil, _, he, _, _ => by simp at he
  | _ :: es, _ :: xs, 0, e, .cons a t, hn, he, ek, rv => by
    simp only [List.getElem?_cons_zero, Option.some.injEq] at he
    subst he
    unfold putX
    rw [if_pos ek]
    exact ⟨.cons ⟨a.1, a.2.1, rv, a.2.2.2⟩ t, rfl⟩
  | x :: es, _ :: xs, j + 1, e, .cons a t, hn, he, ek, rv => by
    simp only [List.getElem?_cons_succ] at he
    rw [List.map_cons, List.nodup_cons] at hn
    have ne : ¬ x.1 = k := fun z => hn.1 (by rw [z, ← ek]; exact List.mem_map.mpr ⟨e, List.mem_of_getElem? he, rfl⟩)
    unfold putX
    rw [if_neg ne]
    have ih := ent_mod t hn.2 he ek rv
    exact ⟨.cons a ih.1, by rw [List.map_cons, List.map_cons, ih.2]⟩
theorem x_dictSet {H' : Hp} {Q : Unit → Shared → Prop} (hu : A.units + 8 < cLine) (I : Inv X pins σ H s) (g : XPut X.K H d y v H') (ru : RelV y u) (rv : RelV v r) (h : ∀ s', Inv X pins σ H' s' → Q () s') :
    wpAny (model X.prog X.w) A (dictSet d u r) Q E s := by
  obtain ⟨es, k, hd, rk, ry, ok, hl, rfl⟩ := g
  obtain ⟨_, z, ob, xs, ep, g1, g5, g2, g3, g4⟩ := (show ObjOk X.prog X.w H s.heap d (.dG es) from I.hok d _ hd)
  have hz : xs.size ≤ sizeLine := by have := Paired.length g3; simp at this; omega
  have hl2 : (putX es k y v).length ≤ sizeLine := by have := length_putX k y v es; omega
  unfold dictSet
  (try with_reducible refine wpAny_holding ?_); refine wpAny_bind (hash_key 8 I ry ok ru hu fun t => ?_)
  unfold dictSetHashed
  (try with_reducible refine wpAny_holding ?_); refine wpAny_bind (find_x (I.tok t) g1 g2 g3 g4 rk ry ok ru hu (fun q0 => ?_) (fun j e he ek => ?_))
  · have ep2 : putX es k y v = es ++ [(k, y, v)] := putX_new q0
    refine wpAny_bind (wpAny_rule (wpAny_updateDictKeys (hz := hz) (s := { s with toks := t }) g1 g2 (h _ ?_)))
    refine d_write (I.tok t) (by rw [hd]; exact True.intro) (Heap.SameBut.update ..) ⟨_, Heap.get?_update_self _ g1 (Obj.isFreed_of_dict (Obj.data_mapDictKeys g2 _))⟩ ⟨hl2, z, _, _, ep + 1, Heap.get?_update_self _ g1 (Obj.isFreed_of_dict (Obj.data_mapDictKeys g2 _)), g5.mapDictKeys _, Obj.data_mapDictKeys g2 _, ?_, ?_⟩
    · rw [ep2, Array.toList_push]
      exact ent_put g3 ru rv ok
    · rw [ep2, List.map_append, List.nodup_append]
      refine ⟨g4, by simp, fun a m b m' e => ?_⟩
      simp at m'
      subst m'
      obtain ⟨x, mx, rfl⟩ := List.mem_map.mp m
      obtain ⟨j, hj⟩ := List.mem_iff_getElem?.mp mx
      exact q0 j x hj e
  · have em := ent_mod (y := y) g3 g4 he ek rv
    refine wpAny_bind (wpAny_rule (wpAny_bind (wpAny_updateDict (s := { s with toks := t }) g1 g2 (wpAny_point (h _ ?_)))))
    refine d_write (I.tok t) (by rw [hd]; exact True.intro) (Heap.SameBut.update ..) ⟨_, Heap.get?_update_self _ g1 (Obj.isFreed_of_dict (Obj.data_mapDict g2 _))⟩ ⟨hl2, z, _, _, ep, Heap.get?_update_self _ g1 (Obj.isFreed_of_dict (Obj.data_mapDict g2 _)), g5.mapDict _, Obj.data_mapDict g2 _, ?_, ?_⟩
    · obtain ⟨l⟩ := xs
      simpa using em.1
    · rw [em.2]
      exact g4
theorem x_setItem {H' : Hp} {Q : Unit → Shared → Prop} (hu : A.units + 9 < cLine) (I : Inv X pins σ H s) (g : XPut X.K H d y v H') (ru : RelV y u) (rv : RelV v r) (h : ∀ s', Inv X pins σ H' s' → Q () s') :
    wpAny (model X.prog X.w) A (setItem (.ref d) u r) Q E s := by
  have hT : s.TypeIs (.ref d) "dict" := by
    obtain ⟨es, k, hd, rk, ry, ok, _⟩ := g
    exact (XGet.ty I ⟨es, k, hd, rk, ry, ok, rfl⟩).1
  unfold setItem
  (try with_reducible refine wpAny_holding ?_); refine wpAny_bind (wpAny_sequenceKey hT (by decide) (wpAny_bind (wpAny_callSpecial?_slot (name := Str.ofString "__setitem__") hT slot_dict_setitem (wpAny_call_entry slot_dict_setitem hT entry_dict_setitem ?_ (args_dict_setitem _ _ _)))))
  show wpAny _ _ (Builtin.Dict.notOrdered "__setitem__" ⟨[.ref d, u, r], []⟩ >>= _) _ _ s
  refine wpAny_bind (wpAny_notOrdered_dict hT ?_)
  show wpAny _ _ (dictSet d u r >>= fun z => _) _ _ s
  exact wpAny_bind (x_dictSet (by show A.units + 1 + 8 < cLine; omega) I g ru rv fun s' I' => wpAny_pure ⟨.none, rfl, wpAny_pure (h s' I')⟩)
theorem x_get1 {o : Option V} {Q : Value → Shared → Prop} (hu : A.units + 9 < cLine) (I : Inv X pins σ H s) (g : XGet X.K H d y o) (ru : RelV y u) (h : ∀ w' s', Inv X pins σ H s' → RelV (o.getD .non) w' → Q w' s') :
    wpAny (model X.prog X.w) A (call (.builtin "dict.get") [.ref d, u]) Q E s := by
  obtain ⟨hT, hd⟩ := g.ty I
  refine wpAny_call_entry PySem.F.slot_dict_get hT PySem.F.entry_dict_get ?_ (PySem.F.args_dict_get_2 _ _)
  show wpAny _ _ (dictGet d u >>= _) _ _ s
  refine wpAny_bind (x_dictGet (by show A.units + 1 + 8 < cLine; omega) I g ru fun w t rw' => ?_)
  cases o with
  | none =>
    cases w with
    | none =>
      show wpAny _ _ (Builtin.Dict.missed d u >>= _) _ _ _
      exact wpAny_bind (wpAny_missed_other hd (wpAny_pure ⟨.none, rfl, h .none _ (I.tok t) rfl⟩))
    | some w => exact rw'.elim
  | some v' =>
    cases w with
    | none => exact rw'.elim
    | some w => exact wpAny_pure ⟨w, rfl, h w _ (I.tok t) rw'⟩
end
end
end L2
set_option Elab.async false
set_option linter.all false
set_option maxRecDepth 100000
set_option maxHeartbeats 4000000
namespace L2
open PySem PySem.Spec PyProof.Rows
section
variable {X : Cx} {K : PySem.W.Frag}
def rEqA (K : PySem.W.Frag) : R2 := fun x y H Q => ∃ d e, RepL K H [x] [d] ∧ RepL K H [y] [e] ∧ okD 40 d = true ∧ okD 40 e = true ∧ Q (.bl (eqD d e)) H
theorem op_eqA (K : PySem.W.Frag) (hu : X.A.units + 40 < cLine) (hK : X.K = K := by rfl) : OpR X (compareOp .Eq) (rEqA K) := by
  subst hK
  intro pins s σ H x y v u Q I rx ry h
  obtain ⟨d, e, r1, r2, o1, o2, q⟩ := h
  exact (eq_rep I 40 40 r1 r2 o1 o2 rx ry hu).2 X.prog X.w _ _ ⟨.bl _, H, I, rfl, q⟩
open Classical in
noncomputable def inE (K : PySem.W.Frag) (H : Hp) (dx : D) (u : Value) : Bool := decide (∃ x d, RelV x u ∧ RepL K H [x] [d] ∧ okD 40 d = true ∧ eqD d dx = true)
open Classical in
theorem inE_of {pins : List (Addr × Obj)} {s : Shared} {σ : St} {H : Hp} (I : Inv X pins σ H s) {dx d : D} {x : V} {u : Value} (rx : RelV x u) (r : RepL X.K H [x] [d]) (ok : okD 40 d = true) : inE X.K H dx u = eqD d dx := by
  unfold inE
  rw [Bool.eq_iff_iff, decide_eq_true_iff]
  constructor
  · rintro ⟨x', d', rx', r', ok', e⟩
    have := RelV.inj rx rx'
    subst this
    rw [rep_inj I 40 40 r r' ok ok']
    exact e
  · exact fun e => ⟨x, d, rx, r, ok, e⟩
theorem in_any {pins : List (Addr × Obj)} {s : Shared} {σ : St} {H : Hp} (I : Inv X pins σ H s) {dx : D} : ∀ {ws : List V} {its : List Value} {ds : List D}, Vals ws its → RepL X.K H ws ds → ds.all (okD 40) = true → its.any (inE X.K H dx) = ds.any fun d => eqD d dx
  | [], [], [], _, _, _ => rfl
  | w :: ws, u :: its, d :: ds, .cons r t, rp, ok => by
    rw [List.all_cons, Bool.and_eq_true] at ok
    rw [List.any_cons, List.any_cons, inE_of I r rp.inv.1 ok.1, in_any I t rp.inv.2 ok.2]
  | [], [], _ :: _, _, h, _ => by have := h.length; simp at this
  | _ :: _, _ :: _, [], _, h, _ => by have := h.length; simp at this
theorem in_mem {pins : List (Addr × Obj)} {s : Shared} {σ : St} {H : Hp} (I : Inv X pins σ H s) {dx : D} {y : V} {v : Value} {A : Around} (rv : RelV y v) (ry : RepL X.K H [y] [dx]) (oy : okD 40 dx = true) (hu : A.units + 40 < cLine) :
    ∀ {ws : List V} {its : List Value} {ds : List D}, Vals ws its → RepL X.K H ws ds → ds.all (okD 40) = true → ∀ u ∈ its, SeqAt.EqAt A s u v (inE X.K H dx u)
  | [], [], [], _, _, _ => fun u m => by cases m
  | w :: ws, u :: its, d :: ds, .cons r t, rp, ok => fun u' m => by
    rw [List.all_cons, Bool.and_eq_true] at ok
    rcases List.mem_cons.mp m with rfl | m
    · rw [inE_of I r rp.inv.1 ok.1]
      exact (eq_rep I 40 40 rp.inv.1 ry ok.1 oy r rv hu).1
    · exact in_mem I rv ry oy hu t rp.inv.2 ok.2 u' m
  | [], [], _ :: _, _, h, _ => by have := h.length; simp at this
  | _ :: _, _ :: _, [], _, h, _ => by have := h.length; simp at this
def seqO : D → Option (List D)
  | .lst ds => some ds
  | .tup ds => some ds
  | _ => none
def rInA (K : PySem.W.Frag) (neg : Bool) : R2 := fun x y H Q =>
  (∃ d e ds, RepL K H [x] [d] ∧ RepL K H [y] [e] ∧ seqO e = some ds ∧ okD 40 d = true ∧ ds.all (okD 40) = true ∧ Q (.bl (if neg then !ds.any fun z => eqD z d else ds.any fun z => eqD z d)) H) ∨
  (∃ i j, x = .str i ∧ y = .str j ∧ Q (.bl (if neg then !(!(Builtin.Str.occurrences j i 0 j.length 1).isEmpty) else !(Builtin.Str.occurrences j i 0 j.length 1).isEmpty)) H) ∨
  ∃ a o, y = .ref a ∧ XGet K H a x o ∧ Q (.bl (if neg then !o.isSome else o.isSome)) H
theorem op_inA (K : PySem.W.Frag) (hu : X.A.units + 41 < cLine) (hK : X.K = K := by rfl) : OpR X (compareOp .In) (rInA K false) := by
  subst hK
  intro pins s σ H x y v u Q I rx ry h
  rcases h with ⟨d, e, ds, r1, r2, es, o1, o2, q⟩ | ⟨i, j, rfl, rfl, q⟩ | ⟨a, o, rfl, g, q⟩
  · have hu' : X.A.in1.units + 40 < cLine := by show X.A.units + 1 + 40 < cLine; omega
    cases r2 with
    | flat z _ => cases e <;> first | (cases z; done) | cases es
    | lst sq i _ =>
      cases es
      cases ry
      obtain ⟨its, r, pl, hz⟩ := I.list (.inl sq)
      refine SeqAt.in_listAt (inE X.K H d) pl.isList (fun w hw => in_mem I rx r1 o1 hu' r i o2 w (by simpa using hw)) ⟨.bl _, H, I, rfl, ?_⟩
      rw [show its.toArray.any (inE X.K H d) = its.any (inE X.K H d) by simp, in_any I r i o2]
      exact q
    | tup sq i _ =>
      cases es
      cases ry
      obtain ⟨its, r, pl, hz⟩ := I.tuple sq
      refine SeqAt.in_tupleAt (inE X.K H d) pl (fun w hw => in_mem I rx r1 o1 hu' r i o2 w (by simpa using hw)) ⟨.bl _, H, I, rfl, ?_⟩
      rw [show its.toArray.any (inE X.K H d) = its.any (inE X.K H d) by simp, in_any I r i o2]
      exact q
    | dct _ _ _ _ _ => cases es
    | scr _ _ => cases es
  · exact op_in_str pins s σ H _ _ v u Q I rx ry ⟨i, j, rfl, rfl, q⟩
  · cases ry
    exact x_in (by omega) I g rx fun s3 I3 => ⟨.bl o.isSome, H, I3, rfl, q⟩
theorem op_notInA (K : PySem.W.Frag) (hu : X.A.units + 41 < cLine) (hK : X.K = K := by rfl) : OpR X (compareOp .NotIn) (rInA K true) := by
  subst hK
  intro pins s σ H x y v u Q I rx ry h
  rcases h with ⟨d, e, ds, r1, r2, es, o1, o2, q⟩ | ⟨i, j, rfl, rfl, q⟩ | ⟨a, o, rfl, g, q⟩
  · have hu' : X.A.in1.units + 40 < cLine := by show X.A.units + 1 + 40 < cLine; omega
    cases r2 with
    | flat z _ => cases e <;> first | (cases z; done) | cases es
    | lst sq i _ =>
      cases es
      cases ry
      obtain ⟨its, r, pl, hz⟩ := I.list (.inl sq)
      refine SeqAt.notIn_listAt (inE X.K H d) pl.isList (fun w hw => in_mem I rx r1 o1 hu' r i o2 w (by simpa using hw)) ⟨.bl _, H, I, rfl, ?_⟩
      rw [show its.toArray.any (inE X.K H d) = its.any (inE X.K H d) by simp, in_any I r i o2]
      exact q
    | tup sq i _ =>
      cases es
      cases ry
      obtain ⟨its, r, pl, hz⟩ := I.tuple sq
      refine SeqAt.notIn_tupleAt (inE X.K H d) pl (fun w hw => in_mem I rx r1 o1 hu' r i o2 w (by simpa using hw)) ⟨.bl _, H, I, rfl, ?_⟩
      rw [show its.toArray.any (inE X.K H d) = its.any (inE X.K H d) by simp, in_any I r i o2]
      exact q
    | dct _ _ _ _ _ => cases es
    | scr _ _ => cases es
  · exact op_notin_str pins s σ H _ _ v u Q I rx ry ⟨i, j, rfl, rfl, q⟩
  · cases ry
    exact x_notIn (by omega) I g rx fun s3 I3 => ⟨.bl (!o.isSome), H, I3, rfl, q⟩
def oEq : List O → Option O
  | [a, b] => if okD 40 a.d = true ∧ okD 40 b.d = true then some (.frz (.bl (eqD a.d b.d))) else none
  | _ => none
theorem ok_eq : OpOk K (r2L (rEqA K)) oEq := by
  intro F H vs os o Q le see e res
  unfold oEq at e
  split at e
  · split at e
    · cases e
      obtain ⟨x, y, B, C, rfl, h1, h2⟩ := see.two
      rename_i hh
      exact ⟨_, _, rfl, _, _, own_rep le h1, own_rep le h2, hh.1, hh.2, res.flat rfl⟩
    · cases e
  · cases e
def neOk : D → D → Bool
  | .non, .non => true | .non, .int _ => true | .int _, .non => true | .non, .bl _ => true | .bl _, .non => true | .non, .str _ => true | .str _, .non => true
  | .int _, .int _ => true | .bl _, .bl _ => true | .str _, .str _ => true
  | .int _, .str _ => true | .str _, .int _ => true | .bl _, .str _ => true | .str _, .bl _ => true
  | _, _ => false
def oNe : List O → Option O
  | [.frz a, .frz b] => if neOk a b = true then some (.frz (.bl (!eqD a b))) else none
  | _ => none
mutual
def tkD : D → Option TK
  | .int i => some (.inl i)
  | .str x => some (.inr x)
  | .tup l => (tkDs l).map .tp
  | _ => none
def tkDs : List D → Option (List TK)
  | [] => some []
  | d :: l => (tkD d).bind fun k => (tkDs l).map fun ks => k :: ks
end
def keyD : D → Option TK
  | .int i => some (.inl i)
  | .str x => some (.inr x)
  | .tup l => (tkDs l).bind fun ks => if TK.ok 8 (.tp ks) = true then some (.tp ks) else none
  | _ => none
mutual
theorem tkD_d : ∀ {d : D} {k : TK}, tkD d = some k → k.d = d
  | .int i, k, e => by simp only [tkD] at e; cases e; simp [TK.d]
  | .str i, k, e => by simp only [tkD] at e; cases e; simp [TK.d]
  | .tup l, k, e => by
    simp only [tkD] at e
    obtain ⟨ks, h1, rfl⟩ := Option.map_eq_some_iff.mp e
    simp only [TK.d]
    rw [tkDs_d h1]
  | .non, k, e => by simp [tkD] at e
  | .bl _, k, e => by simp [tkD] at e
  | .ty _, k, e => by simp [tkD] at e
  | .lst _, k, e => by simp [tkD] at e
  | .dct _, k, e => by simp [tkD] at e
  | .scr _, k, e => by simp [tkD] at e
theorem tkDs_d : ∀ {l : List D} {ks : List TK}, tkDs l = some ks → TK.dl ks = l
  | [], ks, e => by simp only [tkDs] at e; cases e; simp [TK.dl]
  | d :: l, ks, e => by
    simp only [tkDs] at e
    obtain ⟨k, h1, e⟩ := Option.bind_eq_some_iff.mp e
    obtain ⟨ks', h2, rfl⟩ := Option.map_eq_some_iff.mp e
    simp only [TK.dl]
    rw [tkD_d h1, tkDs_d h2]
end
theorem keyD_ok {d : D} {k : TK} (e : keyD d = some k) : k.d = d ∧ k.ok 8 = true := by
  cases d with
  | int i => cases e; exact ⟨by simp [TK.d], rfl⟩
  | str i => cases e; exact ⟨by simp [TK.d], rfl⟩
  | tup l =>
    simp only [keyD] at e
    obtain ⟨ks, h1, e⟩ := Option.bind_eq_some_iff.mp e
    split at e
    · rename_i h
      cases e
      exact ⟨by simp only [TK.d]; rw [tkDs_d h1], h⟩
    · cases e
  | _ => cases e
def dictO : O → Option (List (TK × D))
  | .frz (.dct kvs) => some kvs
  | .dct kvs => some (O.dk kvs)
  | _ => none
theorem keys_d {α β : Type} : ∀ {ws : List (TK × α)} {kvs : List (TK × β)}, ws.map (·.1) = kvs.map (·.1) → ws.map (·.1.d) = kvs.map (·.1.d) := fun {ws kvs} h => by
  have := congrArg (List.map TK.d) h
  rw [List.map_map, List.map_map] at this
  exact this
theorem own_dict {F H : Hp} {x : V} {o : O} {B : List Addr} {kvs : List (TK × D)} (le : Same F H) (h : OwnL K F H [some x] [some o] B) (e : dictO o = some kvs) : ∃ a ws, x = .ref a ∧ H a = some (.dG ws) ∧ ws.map (·.1) = kvs.map (·.1) ∧ RepL K H (ws.map (·.2.1)) (ws.map (·.1.d)) ∧ RepL K H (ws.map (·.2.2)) (kvs.map (·.2)) := by
  have r := own_rep le h
  have ed : o.d = .dct kvs := by
    cases o with
    | frz d => cases d <;> cases e; rfl
    | dct _ => cases e; rfl
    | _ => cases e
  rw [ed] at r
  cases r with
  | flat z _ => cases z
  | dct q k r i _ => exact ⟨_, _, rfl, q, k, by rw [keys_d k]; exact r, i⟩
def valD (kvs : List (TK × D)) (k : TK) : Option D := (kvs.find? fun kv => decide (kv.1 = k)).map (·.2)
theorem val_rep {F : Hp} {k : TK} : ∀ {ws : List (TK × V × V)} {kvs : List (TK × D)}, ws.map (·.1) = kvs.map (·.1) → RepL K F (ws.map (·.2.2)) (kvs.map (·.2)) → (valX ws k = none ∧ valD kvs k = none) ∨ ∃ v d, valX ws k = some v ∧ valD kvs k = some d ∧ RepL K F [v] [d]
  | [], [], _, _ => .inl ⟨rfl, rfl⟩
  | w :: ws, p :: kvs, h, r => by
    rw [List.map_cons, List.map_cons] at h
    injection h with h1 h2
    unfold valX valD
    rw [List.find?_cons, List.find?_cons, h1]
    by_cases e : p.1 = k
    · rw [decide_eq_true e]
      exact .inr ⟨w.2.2, p.2, rfl, rfl, r.inv.1⟩
    · rw [decide_eq_false e]
      exact val_rep h2 r.inv.2
  | [], _ :: _, h, _ => by simp at h
  | _ :: _, [], h, _ => by simp at h
theorem val_isSome {F : Hp} {k : TK} {ws : List (TK × V × V)} {kvs : List (TK × D)} (h : ws.map (·.1) = kvs.map (·.1)) (r : RepL K F (ws.map (·.2.2)) (kvs.map (·.2))) : (valX ws k).isSome = (valD kvs k).isSome := by
  rcases val_rep (k := k) h r with ⟨e1, e2⟩ | ⟨v, d, e1, e2, _⟩ <;> rw [e1, e2] <;> rfl
def oInG (neg : Bool) : List O → Option O
  | [a, b] => match dictO b with
    | some kvs => (match a with
      | .frz d => (keyD d).bind fun k => some (.frz (.bl (if neg then !(valD kvs k).isSome else (valD kvs k).isSome)))
      | _ => none)
    | none => (match a, b with
      | .frz (.str i), .frz (.str j) => some (.frz (.bl (if neg then !(!(Builtin.Str.occurrences j i 0 j.length 1).isEmpty) else !(Builtin.Str.occurrences j i 0 j.length 1).isEmpty)))
      | a, b => (seqO b.d).bind fun ds => if okD 40 a.d = true ∧ ds.all (okD 40) = true then some (.frz (.bl (if neg then !ds.any fun z => eqD z a.d else ds.any fun z => eqD z a.d))) else none)
  | _ => none
theorem ok_in (neg : Bool) : OpOk K (r2L (rInA K neg)) (oInG neg) := by
  intro F H vs os o Q le see e res
  unfold oInG at e
  split at e
  · rename_i a b
    obtain ⟨x, y, B, C, rfl, h1, h2⟩ := see.two
    cases q : dictO b with
    | some kvs =>
      rw [q] at e
      dsimp only at e
      cases a with
      | frz d =>
        dsimp only at e
        cases q2 : keyD d with
        | none => rw [q2] at e; cases e
        | some k =>
          rw [q2] at e
          cases e
          obtain ⟨p, ws, rfl, hp, hk, rk, hr⟩ := own_dict le h2 q
          refine ⟨_, _, rfl, .inr (.inr ⟨p, valX ws k, rfl, ⟨ws, k, hp, rk, by rw [(keyD_ok q2).1]; exact own_rep le h1, (keyD_ok q2).2, rfl⟩, ?_⟩)⟩
          rw [val_isSome hk hr]
          exact res.flat rfl
      | _ => cases e
    | none =>
      rw [q] at e
      dsimp only at e
      split at e
      · cases e
        cases own_flat h1 rfl
        cases own_flat h2 rfl
        exact ⟨_, _, rfl, .inr (.inl ⟨_, _, rfl, rfl, res.flat rfl⟩)⟩
      · cases q3 : seqO b.d with
        | none => rw [q3] at e; cases e
        | some ds =>
          rw [q3] at e
          dsimp only [Option.bind] at e
          split at e
          · rename_i hh
            cases e
            exact ⟨_, _, rfl, .inl ⟨_, _, ds, own_rep le h1, own_rep le h2, q3, hh.1, hh.2, res.flat rfl⟩⟩
          · cases e
  · cases e
def rIsA (neg : Bool) : R2 := fun x y H Q => (y = .non ∧ Q (.bl (if neg then !decide (x = .non) else decide (x = .non))) H) ∨ ∃ a b, x = .bl a ∧ y = .bl b ∧ Q (.bl (if neg then a != b else a == b)) H
theorem op_isA : OpR X (compareOp .Is) (rIsA false) := op_isN.or op_isB
def noneO : O → Bool
  | .frz .non => true
  | _ => false
def oIsG (neg : Bool) : List O → Option O
  | [a, .frz .non] => some (.frz (.bl (if neg then !noneO a else noneO a)))
  | [.frz (.bl a), .frz (.bl b)] => some (.frz (.bl (if neg then a != b else a == b)))
  | _ => none
theorem none_own {F H : Hp} {x : V} {o : O} {B : List Addr} (h : OwnL K F H [some x] [some o] B) : decide (x = .non) = noneO o := by
  cases h with
  | @frz _ d _ _ _ r _ =>
    cases r with
    | flat q _ => cases d <;> cases q <;> rfl
    | lst _ _ _ => rfl
    | tup _ _ _ => rfl
    | dct _ _ _ _ _ => rfl
    | scr _ _ => rfl
  | lst _ _ _ => rfl
  | tup _ _ _ => rfl
  | dct _ _ _ _ _ => rfl
theorem ok_is (neg : Bool) : OpOk K (r2L (rIsA neg)) (oIsG neg) := by
  intro F H vs os o Q le see e res
  unfold oIsG at e
  split at e
  · cases e
    obtain ⟨x, y, B, C, rfl, h1, h2⟩ := see.two
    cases own_flat h2 rfl
    refine ⟨_, _, rfl, .inl ⟨rfl, ?_⟩⟩
    rw [none_own h1]
    exact res.flat rfl
  · cases e
    obtain ⟨x, y, B, C, rfl, h1, h2⟩ := see.two
    cases own_flat h1 rfl
    cases own_flat h2 rfl
    exact ⟨_, _, rfl, .inr ⟨_, _, rfl, rfl, res.flat rfl⟩⟩
  · cases e
def rIxA (K : PySem.W.Frag) : R2 := fun x y H Q => rIxL K x y H Q ∨ rIxT K x y H Q ∨ rIxS x y H Q ∨ ∃ a v, x = .ref a ∧ XGet K H a y (some v) ∧ Q v H
theorem ix_dict (hu : X.A.units + 9 < cLine) : IxR X (fun x y H Q => ∃ a v, x = .ref a ∧ XGet X.K H a y (some v) ∧ Q v H) := by
  intro value slice pins s σ H x y v u Q I rx ry h hs
  obtain ⟨a, w, rfl, g, q⟩ := h
  cases rx
  exact tail_any (g.ty I).1 PySem.F.slot_dict_getitem.lookup (x_getItem hu I g ry fun w' s3 I3 rw' => ⟨w, H, I3, rw', q⟩) hs
theorem ix_A (K : PySem.W.Frag) (hu : X.A.units + 41 < cLine) (hK : X.K = K := by rfl) : IxR X (rIxA K) := by
  subst hK
  exact (ix_listK X.K rfl).or ((ix_tupK X.K rfl).or (ix_str.or (ix_dict (by omega))))
def unfrz : O → Option O
  | .frz d => some (.frz d)
  | _ => none
def valO (kvs : List (TK × O)) (k : TK) : Option O := (kvs.find? fun kv => decide (kv.1 = k)).map (·.2)
def oIx1 : O → D → Option O
  | .frz (.lst ds), .int k => (atI ds k).map .frz
  | .frz (.tup ds), .int k => (atI ds k).map .frz
  | .frz (.scr ns), .int k => (atI (ns.map D.int) k).map .frz
  | .frz (.str z), .int k => if z.length ≤ 1000000 then (atI z.cps.toList k).map fun c => .frz (.str ⟨#[c]⟩) else none
  | .frz (.dct kvs), i => (keyD i).bind fun k => (valD kvs k).map .frz
  | .lst os, .int k => (atI os k).bind unfrz
  | .tup os, .int k => (atI os k).bind unfrz
  | .dct kvs, i => (keyD i).bind fun k => (valO kvs k).bind unfrz
  | _, _ => none
def oIx : List O → Option O
  | [a, .frz i] => oIx1 a i
  | _ => none
theorem atI_rep {F : Hp} {ws : List V} {ds : List D} {i : Int} {d : D} (r : RepL K F ws ds) (e : atI ds i = some d) : ∃ v, atI ws i = some v ∧ RepL K F [v] [d] := by
  unfold atI at e ⊢
  rw [r.length]
  cases q : ixN ds.length i with
  | none => rw [q] at e; cases e
  | some j =>
    rw [q] at e
    exact r.get e
theorem own_get {F H : Hp} : ∀ {ws : List V} {os : List O} {B : List Addr} {j : Nat} {d : D}, OwnL K F H (ws.map some) (os.map some) B → os[j]? = some (.frz d) → ∃ v, ws[j]? = some v ∧ RepL K F [v] [d]
  | w :: ws, o :: os, B, 0, d, h, e => by
    obtain ⟨B1, B2, h1, h2, _⟩ := OwnL.one h
    simp at e
    subst e
    cases h1 with
    | frz r _ => exact ⟨w, rfl, r⟩
  | w :: ws, o :: os, B, j + 1, d, h, e => by
    obtain ⟨B1, B2, h1, h2, _⟩ := OwnL.one h
    obtain ⟨v, g1, g2⟩ := own_get (j := j) h2 (by simpa using e)
    exact ⟨v, by simpa using g1, g2⟩
  | [], [], _, _, _, _, e => by simp at e
  | [], _ :: _, _, _, _, h, _ => by have := h.length; simp at this
  | _ :: _, [], _, _, _, h, _ => by have := h.length; simp at this
theorem atI_own {F H : Hp} {ws : List V} {os : List O} {B : List Addr} {i : Int} {o : O} (r : OwnL K F H (ws.map some) (os.map some) B) (e : (atI os i).bind unfrz = some o) : ∃ v d, atI ws i = some v ∧ RepL K F [v] [d] ∧ o = .frz d := by
  have hl : ws.length = os.length := by have := r.length; simpa using this
  unfold atI at e ⊢
  rw [hl]
  cases q : ixN os.length i with
  | none => rw [q] at e; cases e
  | some j =>
    rw [q] at e
    dsimp only [Option.bind] at e
    cases q2 : os[j]? with
    | none => rw [q2] at e; cases e
    | some o' =>
      rw [q2] at e
      dsimp only at e
      cases o' with
      | frz d => cases e; obtain ⟨v, g1, g2⟩ := own_get r q2; exact ⟨v, d, g1, g2, rfl⟩
      | _ => cases e
theorem own_rep1 {F H : Hp} {v : V} {d : D} {B : List Addr} (h : OwnL K F H [some v] [some (.frz d)] B) : RepL K F [v] [d] := by
  cases h with
  | frz r _ => exact r
theorem val_own {F H : Hp} {k : TK} {d : D} : ∀ {ws : List (TK × V × V)} {kvs : List (TK × O)} {B : List Addr}, ws.map (·.1) = kvs.map (·.1) → OwnL K F H (ws.map fun p => some p.2.2) (kvs.map fun p => some p.2) B → valO kvs k = some (.frz d) → ∃ v, valX ws k = some v ∧ RepL K F [v] [d]
  | [], [], _, _, _, e => by cases e
  | w :: ws, p :: kvs, B, h, r, e => by
    rw [List.map_cons, List.map_cons] at h
    injection h with h1 h2
    obtain ⟨B1, B2, g1, g2, _⟩ := OwnL.one r
    unfold valO at e
    unfold valX
    rw [List.find?_cons] at e ⊢
    rw [h1]
    by_cases q : p.1 = k
    · rw [decide_eq_true q] at e ⊢
      have e : some p.2 = some (.frz d) := e
      injection e with e
      have g1 : OwnL K F H [some w.2.2] [some p.2] B1 := g1
      rw [e] at g1
      exact ⟨w.2.2, rfl, own_rep1 g1⟩
    · rw [decide_eq_false q] at e ⊢
      exact val_own h2 g2 e
  | [], _ :: _, _, h, _, _ => by simp at h
  | _ :: _, [], _, h, _, _ => by simp at h
theorem ok_ix : OpOk K (r2L (rIxA K)) oIx := by
  intro F H vs os o Q le see e res
  unfold oIx at e
  split at e
  · rename_i a i
    obtain ⟨x, y, B, C, rfl, h1, h2⟩ := see.two
    refine ⟨_, _, rfl, ?_⟩
    cases h1 with
    | @frz _ da _ _ _ r _ =>
      cases r with
      | lst sq ri _ =>
        cases i with
        | int k =>
          have e : (atI _ k).map O.frz = some o := e
          cases own_flat h2 rfl
          obtain ⟨d, q1, q2⟩ := Option.map_eq_some_iff.mp e
          subst q2
          obtain ⟨v, g1, g2⟩ := atI_rep ri q1
          exact .inl ⟨_, _, _, v, rfl, rfl, .inl (le.rd sq), g1, res.frz g2⟩
        | _ => cases e
      | @scr _ ns _ _ sq _ =>
        cases i with
        | int k =>
          have e : (atI (ns.map D.int) k).map O.frz = some o := e
          cases own_flat h2 rfl
          obtain ⟨d, q1, q2⟩ := Option.map_eq_some_iff.mp e
          subst q2
          obtain ⟨v, g1, g2⟩ := atI_rep (rep_ints (K := K) (F := F) ns) q1
          exact .inl ⟨_, _, _, v, rfl, rfl, le.seq sq, g1, res.frz g2⟩
        | _ => cases e
      | tup sq ri _ =>
        cases i with
        | int k =>
          have e : (atI _ k).map O.frz = some o := e
          cases own_flat h2 rfl
          obtain ⟨d, q1, q2⟩ := Option.map_eq_some_iff.mp e
          subst q2
          obtain ⟨v, g1, g2⟩ := atI_rep ri q1
          exact .inr (.inl ⟨_, _, _, v, rfl, rfl, le.seqT sq, g1, res.frz g2⟩)
        | _ => cases e
      | @dct _ ws es _ _ hd hk rk ri _ =>
        have e : (keyD i).bind (fun k => (valD es k).map O.frz) = some o := by cases i <;> exact e
        cases q : keyD i with
        | none => rw [q] at e; cases e
        | some k =>
          rw [q] at e
          have e : (valD es k).map O.frz = some o := e
          obtain ⟨d, q1, q2⟩ := Option.map_eq_some_iff.mp e
          subst q2
          rcases val_rep (k := k) hk ri with ⟨_, z⟩ | ⟨v, d', g1, g2, g3⟩
          · rw [q1] at z; cases z
          · rw [q1] at g2
            cases g2
            exact .inr (.inr (.inr ⟨_, v, rfl, ⟨ws, k, le _ _ hd, by rw [keys_d hk]; exact rk.mono le, by rw [(keyD_ok q).1]; exact own_rep le h2, (keyD_ok q).2, g1.symm⟩, res.frz g3⟩))
      | flat z _ =>
        cases da with
        | str zz =>
          cases i with
          | int k =>
            unfold oIx1 at e
            dsimp only at e
            split at e
            · obtain ⟨c, q1, q2⟩ := Option.map_eq_some_iff.mp e
              subst q2
              cases z
              cases own_flat h2 rfl
              exact .inr (.inr (.inl ⟨_, _, c, rfl, rfl, ml (by assumption), q1, res.flat rfl⟩))
            · cases e
          | _ => cases e
        | non => cases i <;> cases e
        | bl _ => cases i <;> cases e
        | int _ => cases i <;> cases e
        | ty _ => cases i <;> cases e
        | _ => cases z
    | lst sq ri _ =>
      cases i with
      | int k =>
        cases own_flat h2 rfl
        obtain ⟨v, d, g1, g2, rfl⟩ := atI_own ri e
        exact .inl ⟨_, _, _, v, rfl, rfl, SqL.of sq, g1, res.frz g2⟩
      | _ => cases e
    | tup sq ri _ =>
      cases i with
      | int k =>
        cases own_flat h2 rfl
        obtain ⟨v, d, g1, g2, rfl⟩ := atI_own ri e
        exact .inr (.inl ⟨_, _, _, v, rfl, rfl, SqT.of sq, g1, res.frz g2⟩)
      | _ => cases e
    | @dct _ ws es _ _ _ _ hd hk rk ri _ =>
      have e : (keyD i).bind (fun k => (valO es k).bind unfrz) = some o := by cases i <;> exact e
      cases q : keyD i with
      | none => rw [q] at e; cases e
      | some k =>
        rw [q] at e
        have e : (valO es k).bind unfrz = some o := e
        cases q2 : valO es k with
        | none => rw [q2] at e; cases e
        | some o' =>
          rw [q2] at e
          cases o' with
          | frz d =>
            cases e
            obtain ⟨v, g1, g2⟩ := val_own hk ri q2
            exact .inr (.inr (.inr ⟨_, v, rfl, ⟨ws, k, hd, by rw [keys_d hk]; exact rk.mono le, by rw [(keyD_ok q).1]; exact own_rep le h2, (keyD_ok q).2, g1.symm⟩, res.frz g2⟩))
          | _ => cases e
  · cases e
def rLenA (K : PySem.W.Frag) : List V → Hp → VK → Prop := fun xs H Q => (∃ p ys, xs = [.ref p] ∧ (SqL K H p ys ∨ SqT K H p ys) ∧ Q (.int ys.length) H) ∨ (∃ z, xs = [.str z] ∧ z.length ≤ sizeLine ∧ Q (.int z.length) H)
theorem call_lenA (K : PySem.W.Frag) (hK : X.K = K := by rfl) : CallR X (.builtin "len") (rLenA K) := (call_len_seqK K hK).or call_len_str
def lenD : D → Option Int
  | .lst ds => some ds.length
  | .tup ds => some ds.length
  | .str z => if z.length ≤ 1000000 then some z.length else none
  | .scr ns => some ns.length
  | _ => none
def oLen : List O → Option O
  | [a] => (lenD a.d).map fun n => .frz (.int n)
  | _ => none
theorem ok_len : OpOk K (rLenA K) oLen := by
  intro F H vs os o Q le see e res
  unfold oLen at e
  split at e
  · rename_i a
    obtain ⟨x, B, rfl, h1⟩ := see.one
    obtain ⟨n, q1, q2⟩ := Option.map_eq_some_iff.mp e
    subst q2
    have r := own_rep le h1
    cases hd : a.d with
    | lst ds =>
      rw [hd] at q1 r
      cases q1
      cases r with
      | flat z _ => cases z
      | lst sq ri _ => exact .inl ⟨_, _, rfl, .inl (.inl sq), by rw [ri.length]; exact res.flat rfl⟩
    | tup ds =>
      rw [hd] at q1 r
      cases q1
      cases r with
      | flat z _ => cases z
      | tup sq ri _ => exact .inl ⟨_, _, rfl, .inr sq, by rw [ri.length]; exact res.flat rfl⟩
    | str z =>
      rw [hd] at q1 r
      unfold lenD at q1
      dsimp only at q1
      split at q1
      · cases q1
        cases r with
        | flat z _ => cases z; exact .inr ⟨_, rfl, ml (by assumption), res.flat rfl⟩
      · cases q1
    | scr ns =>
      rw [hd] at q1 r
      cases q1
      cases r with
      | flat z _ => cases z
      | scr sq _ => exact .inl ⟨_, _, rfl, .inl sq, by rw [List.length_map]; exact res.flat rfl⟩
    | _ => rw [hd] at q1; cases q1
  · cases e
def kindD : D → Option String
  | .non => some "NoneType"
  | .bl _ => some "bool"
  | .int _ => some "int"
  | .str _ => some "str"
  | .lst _ => some "list"
  | .tup _ => some "tuple"
  | _ => none
def oIsi : List O → Option O
  | [a, .frz (.ty T)] => if T = "int" ∨ T = "str" ∨ T = "bool" ∨ T = "list" ∨ T = "tuple" then (kindD a.d).map fun k => .frz (.bl (isiB k T)) else none
  | _ => none
theorem kind_rep {H : Hp} {x : V} {d : D} {k : String} (r : RepL K H [x] [d]) (e : kindD d = some k) : KindIs K H x k := by
  cases r with
  | flat q _ => cases d <;> cases e <;> cases q <;> rfl
  | lst sq _ _ => cases e; exact .inl ⟨rfl, _, .inl sq⟩
  | tup sq _ _ => cases e; exact .inr ⟨rfl, _, sq⟩
  | dct _ _ _ _ _ => cases e
  | scr _ _ => cases e
theorem ok_isi : OpOk K (fun xs H Q => ∃ x k T, xs = [x, .ty T] ∧ KindIs K H x k ∧ (T = "int" ∨ T = "str" ∨ T = "bool" ∨ T = "list" ∨ T = "tuple") ∧ Q (.bl (isiB k T)) H) oIsi := by
  intro F H vs os o Q le see e res
  unfold oIsi at e
  split at e
  · split at e
    · obtain ⟨x, y, B, C, rfl, h1, h2⟩ := see.two
      obtain ⟨k, q1, q2⟩ := Option.map_eq_some_iff.mp e
      subst q2
      cases own_flat h2 rfl
      exact ⟨x, k, _, rfl, kind_rep (own_rep le h1) q1, by assumption, res.flat rfl⟩
    · cases e
  · cases e
def oInt1 : List O → Option O
  | [.frz (.int i)] => some (.frz (.int i))
  | [.frz (.bl b)] => some (.frz (.int (if b then 1 else 0)))
  | _ => none
theorem ok_int1 : OpOk K (fun xs H Q => (∃ i, xs = [.int i] ∧ Q (.int i) H) ∨ ∃ k, xs = [.bl k] ∧ Q (.int (if k then 1 else 0)) H) oInt1 := by
  intro F H vs os o Q le see e res
  unfold oInt1 at e
  split at e
  · cases e
    obtain ⟨x, B, rfl, h1⟩ := see.one
    cases own_flat h1 rfl
    exact .inl ⟨_, rfl, res.flat rfl⟩
  · cases e
    obtain ⟨x, B, rfl, h1⟩ := see.one
    cases own_flat h1 rfl
    exact .inr ⟨_, rfl, res.flat rfl⟩
  · cases e
end
end L2
set_option Elab.async false
set_option linter.all false
set_option maxRecDepth 100000
set_option maxHeartbeats 4000000
namespace L2
open PySem PySem.Spec PyProof.Rows
def MutOk (K : PySem.W.Frag) (r : V → List V → Hp → VK → Prop) (g : O → List O → Option (O × O)) : Prop :=
  ∀ (F H : Hp) (x : V) (vs : List V) (o : O) (os : List O) (o' res : O) (Ai Aτ : List Addr) (Q : VK), Same F H → OwnL K F H [some x] [some o] Ai → OwnL K F H (vs.map some) (os.map some) Aτ → (Ai ++ Aτ).Nodup → (∀ a ∈ Ai ++ Aτ, F a = none) →
    g o os = some (o', res) →
    (∀ v H' A' Ar, (∀ a u, a ∉ Ai → H a = some u → H' a = some u) → (∀ a, H a ≠ none → H' a ≠ none) → OwnL K F H' [some x] [some o'] A' → OwnL K F H' [some v] [some res] Ar → SubP (Ar ++ A') (Ai ++ Aτ) → Q v H') → r x vs H Q
def gMut (g : O → List O → Option (O × O)) (fo : GE) (fs : GA) : GE := fun Γ => (fo Γ).bind fun p => match p.1 with
  | .var i => match p.2[i]? with
    | some (some (.lst _)) => (fs p.2).bind fun q => (ownL q.1).bind fun os => match q.2[i]? with
      | some (some o) => (g o os).bind fun z => some (.own z.2, q.2.set i (some z.1))
      | _ => none
    | _ => none
  | _ => none
section
variable {K : PySem.W.Frag} {F H : Hp} {A : List Addr} {σ : St} {Γ : Gm}
theorem gMut_inv {g : O → List O → Option (O × O)} {fo : GE} {fs : GA} {Γ Γ' : Gm} {r : R} (e : gMut g fo fs Γ = some (r, Γ')) :
    ∃ i Γ1 ps rs Γ2 os o z, fo Γ = some (.var i, Γ1) ∧ Γ1[i]? = some (some (.lst ps)) ∧ fs Γ1 = some (rs, Γ2) ∧ ownL rs = some os ∧ Γ2[i]? = some (some o) ∧ g o os = some z ∧ r = .own z.2 ∧ Γ' = Γ2.set i (some z.1) := by
  unfold gMut at e
  cases q : fo Γ with
  | none => rw [q] at e; cases e
  | some p =>
    obtain ⟨r1, Γ1⟩ := p
    rw [q] at e
    dsimp only [Option.bind] at e
    cases r1 with
    | own _ => cases e
    | var i =>
      dsimp only at e
      split at e
      · rename_i ps h1
        cases q2 : fs Γ1 with
        | none => rw [q2] at e; cases e
        | some p2 =>
          obtain ⟨rs, Γ2⟩ := p2
          rw [q2] at e
          dsimp only at e
          cases q3 : ownL rs with
          | none => rw [q3] at e; cases e
          | some os =>
            rw [q3] at e
            dsimp only at e
            split at e
            · rename_i o h2
              cases q4 : g o os with
              | none => rw [q4] at e; cases e
              | some z => rw [q4] at e; cases e; exact ⟨i, Γ1, ps, rs, Γ2, os, o, z, rfl, h1, q2, q3, h2, q4, rfl, rfl⟩
            · cases e
      · cases e
theorem OK.mutate {vs : List V} {os : List O} {i : Nat} {x : V} {o o' res : O} {g : O → List O → Option (O × O)} {r : V → List V → Hp → VK → Prop} {Q : VK} (ok : MutOk K r g) (k : OK K F H (vs.map some ++ σ) (os.map some ++ Γ) A) (hx : σ[i]? = some (some x)) (ho : Γ[i]? = some (some o))
    (hl : vs.length = os.length) (e : g o os = some (o', res)) (q : ∀ v H' A', Ext F H A F H' A' → OK K F H' (some v :: σ) (some res :: Γ.set i (some o')) A' → Q v H') : r x vs H Q := by
  obtain ⟨B, C, h1, h2, h3⟩ := OwnL.split (by simpa using hl) k.os
  subst h3
  obtain ⟨x', Ai, C', g1, g2, g3, g4⟩ := h2.take ho
  rw [hx] at g1
  cases g1
  have p1 : (B ++ C).Perm ((Ai ++ B) ++ C') := by
    refine (List.Perm.append_left B g4).trans ?_
    rw [← List.append_assoc]
    exact List.perm_append_comm.append_right _
  have nd : ((Ai ++ B) ++ C').Nodup := p1.nodup_iff.mp k.nd
  have fr : ∀ a ∈ (Ai ++ B) ++ C', F a = none := fun a m => k.fr a (p1.mem_iff.mpr m)
  obtain ⟨n1, n2, n3⟩ := List.nodup_append.mp nd
  have nC : ∀ a ∈ C', a ∉ Ai := fun a m z => n3 a (List.mem_append_left _ z) a m rfl
  refine ok F H x vs o os o' res Ai B Q k.le g2 h1 n1 (fun a m => fr a (List.mem_append_left _ m)) e fun v H' A' Ar kp dm w1 w2 sp => ?_
  have s2 : SubP ((Ar ++ A') ++ C') ((Ai ++ B) ++ C') := sp.app (SubP.refl C')
  have hi : i < Γ.length := (List.getElem?_eq_some_iff.mp ho).1
  have g3' : OwnL K F H' σ (Γ.set i none) C' := g3.keep (Same.refl _) fun a m u e => kp a u (nC a m) e
  obtain ⟨D, j1, C2, j2, j3⟩ := OwnL.put w1 i g3' (by rw [List.length_set]; exact hi)
  rw [set_same hx, List.set_set] at j1
  have s3 : SubP (Ar ++ D) (B ++ C) := by
    have a1 : SubP (Ar ++ D) (Ar ++ (A' ++ C')) := (SubP.refl Ar).app ((SubP.of_perm j2).trans ((SubP.refl A').app (.of_sub j3)))
    rw [← List.append_assoc] at a1
    exact a1.trans (s2.trans (.of_perm p1.symm))
  refine q v H' (Ar ++ D) ⟨Same.refl _, fun a u e n => kp a u (fun m => n (p1.mem_iff.mpr (by simp [m]))) e, dm, fun a h => .inl h, fun a m => .inl (s3.mem a m)⟩ ⟨fun a u e => ?_, w2.app j1, s3.nodup k.nd, fun a m => k.fr a (s3.mem a m)⟩
  refine kp a u (fun m => ?_) (k.le a u e)
  rw [fr a (by simp [m])] at e
  cases e
end
section
variable {X : Cx} {K : PySem.W.Frag} {o e : Expr} {es : List Expr} {fo : GE} {fs : GA} {name : Str} {apos cpos : Pos} {id : String} {r : V → List V → Hp → VK → Prop} {g : O → List O → Option (O × O)}
theorem tG_mut (ok : MutOk K r g) {σ : St} {H : Hp} {Q : VK} (t : tG K (gMut g fo fs) σ H Q) : tBM K "list" r (tG K fo) (tGA K fs) σ H Q := by
  obtain ⟨F, A, Γ, rr, Γ', k, e, w⟩ := t
  obtain ⟨i, Γ1, ps, rs, Γ2, os, o, z, e1, e2, e3, e4, e5, e6, rfl, rfl⟩ := gMut_inv e
  refine ⟨F, A, Γ, _, Γ1, k, e1, fun x H1 p => ?_⟩
  obtain ⟨F1, A1, x1, k1, hh⟩ := p
  have hx : σ[i]? = some (some x) := hh.1
  obtain ⟨k2, x2⟩ := k1.sub (σ' := σ) (Γ' := Γ1) (by cases k1.os with | skip t => exact t) (SubP.refl _)
  refine ⟨?_, F1, A1, Γ1, rs, Γ2, k2, e3, fun vs H2 p2 => ?_⟩
  · obtain ⟨v, Ai, B, g1, g2, _⟩ := k2.os.take e2
    rw [hx] at g1
    cases g1
    cases g2 with
    | lst hq _ _ => exact .inl ⟨rfl, _, SqL.of hq⟩
  · obtain ⟨F3, A3, x3, k3, h3⟩ := p2
    rw [ownL_map e4] at k3
    have hl : vs.length = os.length := by
      have := h3.length
      have h4 := congrArg List.length (ownL_map e4)
      simp at h4
      omega
    exact OK.mutate ok k3 hx e5 hl e6 fun v H' A' x4 k4 => w v H' ⟨F3, A', (x1.trans (x2.trans (x3.trans x4))), k4, True.intro⟩
theorem de_mut (slot : Slot "list" name id) (hty : typeOf (.builtin id) = pure (.type "method_descriptor")) (hm : MtM X id r) (ok : MutOk K r g) (ho : PE X o (tG K fo)) (ha : PA X (e :: es) (tGA K fs))
    (hbase : attributeBase o name X.env (eval o X.env) = eval o X.env := by rfl)
    (hfew : ((backTo cpos (starEach (e :: es) X.env)).all (fun x => !x.1) && (backToKw cpos (keywordEach [] X.env)).all (fun x => x.1.isSome)
      && decide ((e :: es).length + ([] : List Keyword).length + (if ([] : List Keyword).isEmpty then 0 else 1) < 30)) = true := by rfl)
    (hline : (apos.endLine == cpos.line) = true := by rfl) (hs : starEach (e :: es) X.env = (false, eval e X.env) :: starEach es X.env := by rfl) (hplain : (backTo cpos (starEach es X.env)).any (·.1) = false := by rfl) (hK : X.K = K := by rfl) :
    PE X (.Call (.Attribute o name apos) (e :: es) [] cpos) (tG K (gMut g fo fs)) := by
  subst hK
  exact (pe_bm PySem.F.plainAttrs_list slot hty hm ho ha hbase hfew hline hs hplain).mono fun _ _ _ t => tG_mut ok t
end
section
variable {K : PySem.W.Frag} {F H : Hp} {l : Addr} {ws ws' : List V} {ps ps' : List O} {Ap A' : List Addr}
theorem list_write (hn : l ∉ A') (h : OwnL K F H (ws'.map some) (ps'.map some) A') : OwnL K F (upd H l (.lst ws')) [some (.ref l)] [some (.lst ps')] (l :: A' ++ []) :=
  .lst upd_same (h.keep (Same.refl _) fun a m u e => by rw [upd_ne (fun z => hn (by rw [← z]; exact m) : a ≠ l)]; exact e) .nil
theorem upd_keep {o : HO} {Ai : List Addr} (hm : l ∈ Ai) : ∀ a u, a ∉ Ai → H a = some u → upd H l o a = some u := fun a u n e => by
  rw [upd_ne (fun z => n (by rw [z]; exact hm) : a ≠ l)]; exact e
theorem upd_dom {o : HO} : ∀ a, H a ≠ none → upd H l o a ≠ none := fun a h => by
  by_cases z : a = l
  · rw [z, upd_same]; exact fun z => by cases z
  · rw [upd_ne z]; exact h
theorem mut_list {x : V} {Ai Aτ : List Addr} {Q : VK} {o : O} (h : OwnL K F H [some x] [some o] Ai) (hps : o = .lst ps) (nd : (Ai ++ Aτ).Nodup) {o' res : O}
    (q : ∀ v H' A' Ar, (∀ a u, a ∉ Ai → H a = some u → H' a = some u) → (∀ a, H a ≠ none → H' a ≠ none) → OwnL K F H' [some x] [some o'] A' → OwnL K F H' [some v] [some res] Ar → SubP (Ar ++ A') (Ai ++ Aτ) → Q v H') :
    ∃ l ws Ap, x = .ref l ∧ H l = some (.lst ws) ∧ OwnL K F H (ws.map some) (ps.map some) Ap ∧ (Ap ++ Aτ).Nodup ∧ ∀ ws' ps' A' v Ar, o' = .lst ps' → OwnL K F H (ws'.map some) (ps'.map some) A' → OwnL K F H [some v] [some res] Ar → SubP (Ar ++ A') (Ap ++ Aτ) → Q v (upd H l (.lst ws')) := by
  subst hps
  cases h with
  | @lst l ws _ Ap B _ _ hl i t =>
    have eB : B = [] := by cases t; rfl
    subst eB
    rw [List.append_nil] at nd q
    obtain ⟨nl, nd'⟩ := List.nodup_cons.mp (by simpa using nd : (l :: (Ap ++ Aτ)).Nodup)
    refine ⟨l, ws, Ap, rfl, hl, i, nd', fun ws' ps' A' v Ar eo w1 w2 sp => ?_⟩
    subst eo
    have nA : l ∉ A' := fun m => nl (sp.mem l (List.mem_append_right _ m))
    have nR : l ∉ Ar := fun m => nl (sp.mem l (List.mem_append_left _ m))
    refine q v _ _ Ar (upd_keep (by simp)) upd_dom (list_write nA w1) (w2.keep (Same.refl _) fun a m u e => by rw [upd_ne (fun z => nR (by rw [← z]; exact m) : a ≠ l)]; exact e) ?_
    rw [List.append_nil]
    have s1 : SubP (Ar ++ l :: A') (l :: (Ar ++ A')) := .of_perm (by simpa using List.perm_middle)
    refine s1.trans ?_
    obtain ⟨L, p1, p2⟩ := sp
    exact ⟨l :: L, p1.cons l, by rw [List.cons_append]; exact p2.cons_cons l⟩
theorem own_non : OwnL K F H [some .non] [some (.frz .non)] [] := .frz (.flat rfl .nil) .nil
def mAppend : O → List O → Option (O × O)
  | .lst ps, [y] => if ps.length < 1000000 then some (.lst (ps ++ [y]), .frz .non) else none
  | _, _ => none
theorem ok_append : MutOk K rAppend mAppend := by
  intro F H x vs o os o' res Ai Aτ Q le h1 h2 nd fr e q
  unfold mAppend at e
  split at e
  · rename_i ps y
    split at e
    · rename_i hz
      cases e
      obtain ⟨l, ws, Ap, rfl, hl, i, nd', go⟩ := mut_list h1 rfl nd q
      match vs, h2 with
      | [v], h2 =>
        have hlen : ws.length = ps.length := by have := i.length; simpa using this
        refine ⟨l, ws, v, rfl, rfl, hl, Nat.lt_of_lt_of_le (by omega : ws.length < 1000000) (by decide), ?_⟩
        refine go (ws ++ [v]) (ps ++ [y]) (Ap ++ Aτ) .non [] rfl ?_ own_non (SubP.refl _)
        rw [List.map_append, List.map_append]
        exact i.app h2
      | [], h2 => have := h2.length; simp at this
      | _ :: _ :: _, h2 => have := h2.length; simp at this
    · cases e
  · cases e
def mInsert : O → List O → Option (O × O)
  | .lst ps, [.frz (.int i), y] => if 0 ≤ i ∧ i < 1000000 ∧ ps.length < 1000000 then some (.lst (ps.take i.toNat ++ y :: ps.drop i.toNat), .frz .non) else none
  | _, _ => none
theorem ok_insert : MutOk K rInsert mInsert := by
  intro F H x vs o os o' res Ai Aτ Q le h1 h2 nd fr e q
  unfold mInsert at e
  split at e
  · rename_i ps k y
    split at e
    · rename_i hz
      cases e
      obtain ⟨l, ws, Ap, rfl, hl, i, nd', go⟩ := mut_list h1 rfl nd q
      match vs, h2 with
      | [v, v'], h2 =>
        have hlen : ws.length = ps.length := by have := i.length; simpa using this
        obtain ⟨rfl, h3⟩ := own_int h2
        refine ⟨l, ws, k, v', rfl, rfl, hl, hz.1, by omega, Nat.lt_of_lt_of_le (by omega : ws.length < 1000000) (by decide), ?_⟩
        have es : OwnL K F H ((ws.take k.toNat).map some ++ (ws.drop k.toNat).map some) ((ps.take k.toNat).map some ++ (ps.drop k.toNat).map some) Ap := by
          rw [← List.map_append, ← List.map_append, List.take_append_drop, List.take_append_drop]; exact i
        obtain ⟨B, C, g1, g2, g3⟩ := OwnL.split (by simp [hlen]) es
        subst g3
        refine go (insV ws k.toNat v') (ps.take k.toNat ++ y :: ps.drop k.toNat) (B ++ (Aτ ++ C)) .non [] rfl ?_ own_non ?_
        · unfold insV
          rw [List.map_append, List.map_append, List.map_cons, List.map_cons]
          exact g1.app (h3.app g2)
        · rw [List.nil_append, List.append_assoc]
          exact (SubP.refl B).app (.of_perm List.perm_append_comm)
      | [], h2 => have := h2.length; simp at this
      | [_], h2 => have := h2.length; simp at this
      | _ :: _ :: _ :: _, h2 => have := h2.length; simp at this
    · cases e
  · cases e
def mClear : O → List O → Option (O × O)
  | .lst _, [] => some (.lst [], .frz .non)
  | _, _ => none
end
end L2
set_option Elab.async false
set_option linter.all false
set_option maxRecDepth 100000
set_option maxHeartbeats 4000000
namespace L2
open PySem PySem.Spec PyProof.Rows
def rSetA (K : PySem.W.Frag) : TSet := fun o i v H Q => rSetL o i v H Q ∨ ∃ a H4, o = .ref a ∧ XPut K H a i v H4 ∧ Q H4
theorem set_A {X : Cx} (hu : X.A.units + 41 < cLine) : PSet X (rSetA X.K) := by
  intro pins s σ H o i v ov iv u Q I ro ri rv h
  rcases h with h | ⟨a, H4, rfl, g, q⟩
  · exact set_list pins s σ H o i v ov iv u Q I ro ri rv h
  · cases ro
    exact x_setItem (by omega) I g ri rv fun s4 I4 => ⟨H4, I4, q⟩
def putG {α : Type} : List (TK × α) → TK → α → List (TK × α)
  | [], k, v => [(k, v)]
  | e :: es, k, v => if e.1 = k then (e.1, v) :: es else e :: putG es k v
def mSet : O → List O → Option (O × O)
  | .lst ps, [v, .frz (.int k)] => (ixN ps.length k).map fun j => (.lst (ps.set j v), .frz .non)
  | .dct kvs, [v, .frz i] => (keyD i).bind fun k => if kvs.length < 1000000 then some (.dct (putG kvs k v), .frz .non) else none
  | _, _ => none
def rSetM (K : PySem.W.Frag) : V → List V → Hp → VK → Prop := fun x vs H Q => ∃ v i, vs = [v, i] ∧ rSetA K x i v H fun H' => Q .non H'
section
variable {K : PySem.W.Frag} {F H : Hp}
theorem own_putG {k : TK} {y v : V} {o : O} {Bv : List Addr} (q : OwnL K F H [some v] [some o] Bv) (ry : RepL K F [y] [k.d]) : ∀ {ws : List (TK × V × V)} {kvs : List (TK × O)} {B : List Addr}, ws.map (·.1) = kvs.map (·.1) → RepL K F (ws.map (·.2.1)) (kvs.map (·.1.d)) →
    OwnL K F H (ws.map fun p => some p.2.2) (kvs.map fun p => some p.2) B → ∃ C, OwnL K F H ((putX ws k y v).map fun p => some p.2.2) ((putG kvs k o).map fun p => some p.2) C ∧ SubP C (Bv ++ B) ∧ (putX ws k y v).map (·.1) = (putG kvs k o).map (·.1) ∧
      RepL K F ((putX ws k y v).map (·.2.1)) ((putG kvs k o).map (·.1.d))
  | [], [], B, _, _, h => ⟨Bv, q, .of_sub (List.sublist_append_left _ _), rfl, ry⟩
  | w :: ws, p :: kvs, B, hk, rk, h => by
    rw [List.map_cons, List.map_cons] at hk
    injection hk with h1 h2
    obtain ⟨B1, B2, g1, g2, rfl⟩ := OwnL.one h
    unfold putX putG
    rw [h1]
    by_cases e : p.1 = k
    · rw [if_pos e, if_pos e]
      refine ⟨Bv ++ B2, OwnL.app (τ := [some v]) (Θ := [some o]) q g2, .of_sub ((List.Sublist.refl _).append (List.sublist_append_right _ _)), ?_, ?_⟩
      · simp only [List.map_cons, h2]
      · simp only [List.map_cons]
        exact rk
    · rw [if_neg e, if_neg e]
      obtain ⟨C, j1, j2, j3, j4⟩ := own_putG q ry h2 rk.inv.2 g2
      refine ⟨B1 ++ C, OwnL.app (τ := [some w.2.2]) (Θ := [some p.2]) g1 j1, ?_, ?_, ?_⟩
      · refine ((SubP.refl B1).app j2).trans (.of_perm ?_)
        rw [← List.append_assoc, ← List.append_assoc]
        exact List.perm_append_comm.append_right _
      · simp only [List.map_cons, h1, j3]
      · exact .cons rk.inv.1 j4
  | [], _ :: _, _, h, _, _ => by simp at h
  | _ :: _, [], _, h, _, _ => by simp at h
theorem ok_set : MutOk K (rSetM K) mSet := by
  intro F H x vs o os o' res Ai Aτ Q le h1 h2 nd fr e q
  unfold mSet at e
  split at e
  · rename_i ps ov k
    obtain ⟨j, e1, e2⟩ := Option.map_eq_some_iff.mp e
    cases e2
    obtain ⟨l, ws, Ap, rfl, hl, i, nd', go⟩ := mut_list h1 rfl nd q
    match vs, h2 with
    | [v, v'], h2 =>
      have hlen : ws.length = ps.length := by have := i.length; simpa using this
      obtain ⟨B1, B2, g1, g2, rfl⟩ := OwnL.one h2
      obtain ⟨rfl, g3⟩ := own_int g2
      cases g3
      have hj : j < ps.length := (ixN_seq e1).2.1
      refine ⟨v, .int k, rfl, .inl ⟨l, ws, k, j, rfl, rfl, hl, by rw [hlen]; exact e1, ?_⟩⟩
      obtain ⟨D, j1, C2, j2, j3⟩ := OwnL.put g1 j i (by simpa using hj)
      refine go (ws.set j v) (ps.set j ov) D .non [] rfl (by rw [List.map_set, List.map_set]; exact j1) own_non ?_
      rw [List.nil_append, List.append_nil]
      exact ((SubP.of_perm j2).trans ((SubP.refl B1).app (.of_sub j3))).trans (.of_perm List.perm_append_comm)
    | [], h2 => have := h2.length; simp at this
    | [_], h2 => have := h2.length; simp at this
    | _ :: _ :: _ :: _, h2 => have := h2.length; simp at this
  · rename_i kvs ov i
    cases q1 : keyD i with
    | none => rw [q1] at e; cases e
    | some k =>
      rw [q1] at e
      dsimp only [Option.bind] at e
      split at e
      · rename_i hz
        cases e
        match vs, h2 with
        | [v, v'], h2 =>
          obtain ⟨B1, B2, g1, g2, rfl⟩ := OwnL.one h2
          have ry : RepL K F [v'] [k.d] := by rw [(keyD_ok q1).1]; exact own_rep1 g2
          cases h1 with
          | @dct l ws _ Ap B _ _ hl hk rk ch t =>
            have eB : B = [] := by cases t; rfl
            subst eB
            obtain ⟨C, j1, j2, j3, j4⟩ := own_putG (k := k) g1 ry hk rk ch
            have hlen : ws.length = kvs.length := by have := congrArg List.length hk; simpa using this
            have nd1 : (l :: (Ap ++ (B1 ++ B2))).Nodup := by simpa using nd
            have nC : l ∉ C := fun m => (List.nodup_cons.mp nd1).1 (by
              rcases List.mem_append.mp (j2.mem l m) with z | z
              · simp [z]
              · simp [z])
            refine ⟨v, v', rfl, .inr ⟨l, _, rfl, ⟨ws, k, hl, by rw [keys_d hk]; exact rk.mono le, ry.mono le, (keyD_ok q1).2, Nat.lt_of_lt_of_le (by omega : ws.length < 1000000) (by decide), rfl⟩, ?_⟩⟩
            refine q .non _ (l :: C ++ []) [] (upd_keep (by simp)) upd_dom (.dct upd_same j3 j4 (j1.keep (Same.refl _) fun a m u e => by rw [upd_ne (fun z => nC (by rw [← z]; exact m) : a ≠ l)]; exact e) .nil) own_non ?_
            rw [List.nil_append, List.append_nil, List.append_nil]
            refine ((SubP.refl [l]).app j2).trans ⟨l :: (Ap ++ B1), ?_, ?_⟩
            · show (l :: (B1 ++ Ap)).Perm _
              exact List.perm_append_comm.cons l
            · exact ((List.Sublist.refl Ap).append (List.sublist_append_left B1 B2)).cons_cons l
        | [], h2 => have := h2.length; simp at this
        | [_], h2 => have := h2.length; simp at this
        | _ :: _ :: _ :: _, h2 => have := h2.length; simp at this
      · cases e
  · cases e
end
def gsPut (fv fo fi : GE) : GS := fun Γ => (fv Γ).bind fun p => (fo p.2).bind fun q => (fi q.2).bind fun r => match p.1, q.1, r.1 with
  | .own v, .var i, .own y => match r.2[i]? with
    | some (some o) => (mSet o [v, y]).bind fun z => some (.nx, r.2.set i (some z.1))
    | _ => none
  | _, _, _ => none
section
variable {X : Cx} {K : PySem.W.Frag} {m : List Bool} {e o i : Expr} {fv fo fi : GE} {pos pos' : Pos}
theorem gsPut_inv {Γ Γ' : Gm} {fl : Fl} (e : gsPut fv fo fi Γ = some (fl, Γ')) : ∃ v Γ1 j Γ2 y Γ3 o z, fv Γ = some (.own v, Γ1) ∧ fo Γ1 = some (.var j, Γ2) ∧ fi Γ2 = some (.own y, Γ3) ∧ Γ3[j]? = some (some o) ∧ mSet o [v, y] = some z ∧ fl = .nx ∧ Γ' = Γ3.set j (some z.1) := by
  unfold gsPut at e
  cases q1 : fv Γ with
  | none => rw [q1] at e; cases e
  | some p =>
    obtain ⟨r1, Γ1⟩ := p
    rw [q1] at e
    dsimp only [Option.bind] at e
    cases q2 : fo Γ1 with
    | none => rw [q2] at e; cases e
    | some p =>
      obtain ⟨r2, Γ2⟩ := p
      rw [q2] at e
      dsimp only at e
      cases q3 : fi Γ2 with
      | none => rw [q3] at e; cases e
      | some p =>
        obtain ⟨r3, Γ3⟩ := p
        rw [q3] at e
        dsimp only at e
        cases r1 with
        | var _ => cases e
        | own v =>
          cases r2 with
          | own _ => cases e
          | var j =>
            cases r3 with
            | var _ => cases e
            | own y =>
              dsimp only at e
              split at e
              · rename_i oo h
                cases q4 : mSet oo [v, y] with
                | none => rw [q4] at e; cases e
                | some z => rw [q4] at e; cases e; exact ⟨v, Γ1, j, Γ2, y, Γ3, oo, z, rfl, q2, q3, h, q4, rfl, rfl⟩
              · cases e
theorem ds_put (he : PE X e (tG K fv)) (ho : PE X o (tG K fo)) (hi : PE X i (tG K fi)) (hu : X.A.units + 41 < cLine)
    (ha : ∀ v, assign (.Subscript o i pos') X.env v = (do
      let ov ← holding [v] (eval o X.env)
      let iv ← holding [v, ov] (eval i X.env)
      standAt pos'
      holding [v, ov, iv] (setItem ov iv v)
      release [v, ov, iv] []) := by intro _; rfl)
    (hs : swapsWithSole [.Subscript o i pos'] e pos.line X.env = pure false := by rfl) (hw : swappedStores [.Subscript o i pos'] e X.env = pure none := by rfl)
    (h1 : (assignEach [.Subscript o i pos'] X.env).map (·.2) = [assign (.Subscript o i pos') X.env] := by rfl) (hK : X.K = K := by rfl) : PS X (.Assign [.Subscript o i pos'] e pos) (tS K m (gsPut fv fo fi)) := by
  subst hK
  refine (ps_asg he (pg_sub ho hi (set_A hu) ha) hs hw h1).mono fun D σ H t => ?_
  obtain ⟨F, A, Γ, fl, Γ', k, e, w⟩ := t
  obtain ⟨v, Γ1, j, Γ2, y, Γ3, oo, z, e1, e2, e3, e4, e5, rfl, rfl⟩ := gsPut_inv e
  have t : tGA X.K (gaCons fv (gaCons fo (gaCons fi gaNil))) σ H fun vs H' => ∃ a b c, vs = [a, b, c] ∧ rSetA X.K b c a H' fun H4 => D.nx σ H4 := by
    refine ⟨F, A, Γ, [.own v, .var j, .own y], Γ3, k, ?_, fun vs H1 p => ?_⟩
    · unfold gaCons
      simp only [e1, e2, e3, Option.bind, gaNil]
    · obtain ⟨F1, A1, x, k1, hh⟩ := p
      match vs, hh with
      | [a, b, c], hh =>
        refine ⟨a, b, c, rfl, ?_⟩
        have hx : σ[j]? = some (some b) := hh.1
        have k2 : OK X.K F1 H1 ([a, c].map some ++ σ) ([v, y].map some ++ Γ3) A1 := by
          obtain ⟨B1, C1, g1, g2, g3⟩ := OwnL.one (σ := some b :: some c :: σ) (Γ := none :: some y :: Γ3) k1.os
          cases g2 with
          | skip g2 => subst g3; exact ⟨k1.le, g1.app g2, k1.nd, k1.fr⟩
        have z' := OK.mutate (r := rSetM X.K) (g := mSet) (Q := fun _ H4 => D.nx σ H4) (o' := z.1) (res := z.2) ok_set k2 hx e4 rfl e5 fun v' H' A' x4 k4 => by
          obtain ⟨B2, k5, sub⟩ := OK.part (τ := [some v']) (Θ := [some z.2]) k4 rfl
          exact w σ H' ⟨F1, B2, (x.trans x4).own' sub, k5, Kept.refl⟩
        obtain ⟨v', i', ee, q⟩ := z'
        cases ee
        exact q
  have t1 := tGA_cons t
  refine tG.mono t1 fun a H1 h => tG.mono (tGA_cons h) fun b H2 h2 => tG.mono (tGA_cons h2) fun c H3 h3 => ?_
  obtain ⟨F, A, Γ, rs, Γ', k, e, w⟩ := h3
  cases e
  obtain ⟨a', b', c', ee, q⟩ := w [] H3 ⟨F, A, Ext.refl, k, True.intro⟩
  cases ee
  exact q
end
abbrev GO := Gm → Option (Option Int × Gm)
def tGO (K : PySem.W.Frag) (f : GO) : TO := fun σ H Q => ∃ F A Γ b Γ', OK K F H σ Γ A ∧ f Γ = some (b, Γ') ∧ ∀ H', Post K F H A σ Γ' [] [] H' → Q b H'
def goNone : GO := fun Γ => some (none, Γ)
def intR : R → Option Int
  | .own (.frz (.int i)) => some i
  | _ => none
def goSome (f : GE) : GO := fun Γ => (f Γ).bind fun p => (intR p.1).map fun i => (some i, p.2)
section
variable {X : Cx} {K : PySem.W.Frag} {e : Expr} {fa : GE} {lo hi : Option Expr} {fl fh : GO} {pos p2 : Pos}
theorem do_none : PO X none (tGO K goNone) := by
  intro pins s σ H Q I t
  refine po_none pins s σ H Q I ?_
  obtain ⟨F, A, Γ, b, Γ', k, e, w⟩ := t
  cases e
  exact w H ⟨F, A, Ext.refl, k, True.intro⟩
theorem do_some (h : PE X e (tG K fa)) : PO X (some e) (tGO K (goSome fa)) := by
  intro pins s σ H Q I t
  refine po_some h pins s σ H Q I ?_
  obtain ⟨F, A, Γ, b, Γ', k, e, w⟩ := t
  unfold goSome at e
  cases q : fa Γ with
  | none => rw [q] at e; cases e
  | some p =>
    obtain ⟨r, Γ1⟩ := p
    rw [q] at e
    obtain ⟨i, e1, e2⟩ := Option.map_eq_some_iff.mp e
    cases e2
    have er : r = .own (.frz (.int i)) := by
      unfold intR at e1
      split at e1
      · rename_i hh; cases e1; exact hh
      · cases e1
    subst er
    exact ⟨F, A, Γ, _, _, k, q, fun v H' pp => ⟨i, pp.flat rfl, w H' pp.drop⟩⟩
def cutD (ds : List D) (lo hi : Option Int) : List D := (ds.drop (HT.sIx ds.length 0 lo)).take (HT.sIx ds.length ds.length hi - HT.sIx ds.length 0 lo)
def slO (o : O) (lo hi : Option Int) : Option O := match o, listD o, tupD o with
  | .frz (.str z), _, _ => if z.length ≤ 1000000 then some (.frz (.str (Txt.slice z lo hi))) else none
  | _, some ds, _ => some (.lst ((cutD ds lo hi).map .frz))
  | _, none, some ds => if HT.sIx ds.length 0 lo = 0 ∧ HT.sIx ds.length ds.length hi = ds.length then none else some (.tup ((cutD ds lo hi).map .frz))
  | _, _, _ => none
def rSlA (K : PySem.W.Frag) : V → Option Int → Option Int → Hp → VK → Prop := fun x lo hi H Q => rSlS x lo hi H Q ∨ rSlL K x lo hi H Q ∨ rSlT K x lo hi H Q
theorem sl_A (K : PySem.W.Frag) (hK : X.K = K := by rfl) : SlR X (rSlA K) := sl_str.or ((sl_listK K hK).or (sl_tupK K hK))
theorem ok_sl {F H : Hp} {x : V} {o o' : O} {B : List Addr} {Q : VK} {lo hi : Option Int} (le : Same F H) (h : OwnL K F H [some x] [some o] B) (e : slO o lo hi = some o') (res : Res K F H o' Q) : rSlA K x lo hi H Q := by
  unfold slO at e
  split at e
  · split at e
    · cases e
      cases own_flat h rfl
      exact .inl ⟨_, rfl, ml (by assumption), res.flat rfl⟩
    · cases e
  · rename_i ds _ _ q1 _
    cases e
    obtain ⟨a, ws, rfl, sq, r⟩ := own_list le h (by assumption)
    refine .inr (.inl ⟨a, ws, rfl, sq, fun p hp => res.lst ?_ hp⟩)
    unfold cutV cutD
    rw [r.length]
    exact (r.drop _).take _
  · split at e
    · cases e
    · rename_i hne
      cases e
      obtain ⟨a, ws, rfl, sq, r⟩ := own_tup le h (by assumption)
      refine .inr (.inr ⟨a, ws, rfl, sq, by rw [r.length]; exact hne, fun p hp => res.tup ?_ hp⟩)
      unfold cutV cutD
      rw [r.length]
      exact (r.drop _).take _
  · cases e
def gSlice (f : GE) (lo hi : GO) : GE := fun Γ => (f Γ).bind fun p => (lo p.2).bind fun q => (hi q.2).bind fun r => (seeR r.2 p.1).bind fun o => (slO o q.1 r.1).bind fun o' => some (.own o', r.2)
theorem gSlice_inv {Γ Γ' : Gm} {r : R} (e : gSlice fa fl fh Γ = some (r, Γ')) : ∃ r1 Γ1 l Γ2 u o o', fa Γ = some (r1, Γ1) ∧ fl Γ1 = some (l, Γ2) ∧ fh Γ2 = some (u, Γ') ∧ seeR Γ' r1 = some o ∧ slO o l u = some o' ∧ r = .own o' := by
  unfold gSlice at e
  cases q1 : fa Γ with
  | none => rw [q1] at e; cases e
  | some p =>
    rw [q1] at e
    dsimp only [Option.bind] at e
    cases q2 : fl p.2 with
    | none => rw [q2] at e; cases e
    | some q =>
      rw [q2] at e
      dsimp only at e
      cases q3 : fh q.2 with
      | none => rw [q3] at e; cases e
      | some w =>
        rw [q3] at e
        dsimp only at e
        cases q4 : seeR w.2 p.1 with
        | none => rw [q4] at e; cases e
        | some o =>
          rw [q4] at e
          dsimp only at e
          cases q5 : slO o q.1 w.1 with
          | none => rw [q5] at e; cases e
          | some o' => rw [q5] at e; cases e; exact ⟨p.1, p.2, q.1, q.2, w.1, o, o', rfl, q2, q3, q4, q5, rfl⟩
theorem de_slice (he : PE X e (tG K fa)) (hl : PO X lo (tGO K fl)) (hu : PO X hi (tGO K fh)) (hK : X.K = K := by rfl) : PE X (.Subscript e (.Slice lo hi none p2) pos) (tG K (gSlice fa fl fh)) := by
  refine (pe_slice (sl_A K hK) he hl hu).mono fun σ H Q t => ?_
  obtain ⟨F, A, Γ, rr, Γ', k, e, w⟩ := t
  obtain ⟨r1, Γ1, l, Γ2, u, o, o', e1, e2, e3, e4, e5, rfl⟩ := gSlice_inv e
  refine ⟨F, A, Γ, r1, Γ1, k, e1, fun v H1 p => ?_⟩
  obtain ⟨F1, A1, x1, k1, hh⟩ := p
  obtain ⟨C, kC, fr⟩ := OK.frame (τ := [some v]) (Θ := [r1.o]) k1 rfl
  refine ⟨F1, C, Γ1, l, Γ2, kC, e2, fun H2 p2 => ?_⟩
  obtain ⟨F2, A2, x2, k2, _⟩ := p2
  obtain ⟨A3, x3, k3⟩ := fr _ _ _ _ _ x2 k2
  obtain ⟨C2, kC2, fr2⟩ := OK.frame (τ := [some v]) (Θ := [r1.o]) k3 rfl
  refine ⟨F2, C2, Γ2, u, Γ', kC2, e3, fun H3 p3 => ?_⟩
  obtain ⟨F4, A4, x4, k4, _⟩ := p3
  obtain ⟨A5, x5, k5⟩ := fr2 _ _ _ _ _ x4 k4
  have pp : Post K F H A σ Γ' [r1] [v] H3 := ⟨F4, A5, x1.trans (x3.trans x5), k5, hh⟩
  obtain ⟨F6, le, see, res⟩ := pp.res (os := [o]) (o := o') (by unfold seeL; rw [e4]; rfl) w
  obtain ⟨x, B, ev, h1⟩ := see.one
  cases ev
  exact ok_sl le h1 e5 res
end
end L2
set_option Elab.async false
set_option linter.all false
set_option maxRecDepth 100000
set_option maxHeartbeats 4000000
namespace L2
open PySem PySem.Spec PyProof.Rows
def capIn : List Nat → Gm → Gm × Gm
  | [], Γ => ([], Γ)
  | i :: cap, Γ => let p := capIn cap (Γ.set i none); ((Γ[i]?).join :: p.1, p.2)
def capOut : List Nat → Gm → Gm → Gm
  | i :: cap, x :: Γi, Γ => (capOut cap Γi Γ).set i x
  | _, _, Γ => Γ
def compLoop (g : GG) (ct : GT) (ce : GE) : List D → Gm → List O → Option (List O × Gm)
  | [], Γ, acc => some (acc, Γ)
  | d :: ds, Γ, acc => (g d Γ).bind fun Γ1 => (ct Γ1).bind fun p => if p.1 = true then
      (ce p.2).bind fun q => (ownL [q.1]).bind fun os => if acc.length < 1000000 then compLoop g ct ce ds q.2 (acc ++ os) else none
    else compLoop g ct ce ds p.2 acc
section
variable {K : PySem.W.Frag} {F H : Hp} {σ : St}
theorem cap_in : ∀ {cap : List Nat} {Γ : Gm} {C : List Addr}, OwnL K F H σ Γ C → ∃ B C', OwnL K F H (cap.map fun i => (σ[i]?).join) (capIn cap Γ).1 B ∧ OwnL K F H σ (capIn cap Γ).2 C' ∧ SubP (B ++ C') C
  | [], Γ, C, h => ⟨[], C, .nil, h, SubP.refl _⟩
  | i :: cap, Γ, C, h => by
    cases q : Γ[i]? with
    | none =>
      obtain ⟨C1, g1, g2⟩ := OwnL.forget i h
      obtain ⟨B, C', j1, j2, j3⟩ := cap_in (cap := cap) g1
      refine ⟨B, C', ?_, j2, j3.trans (.of_sub g2)⟩
      unfold capIn
      simp only [q, List.map_cons]
      exact .skip j1
    | some z =>
      cases z with
      | none =>
        obtain ⟨C1, g1, g2⟩ := OwnL.forget i h
        obtain ⟨B, C', j1, j2, j3⟩ := cap_in (cap := cap) g1
        refine ⟨B, C', ?_, j2, j3.trans (.of_sub g2)⟩
        unfold capIn
        simp only [q, List.map_cons]
        exact .skip j1
      | some o =>
        obtain ⟨v, Ai, C1, g1, g2, g3, g4⟩ := h.take q
        obtain ⟨B, C', j1, j2, j3⟩ := cap_in (cap := cap) g3
        refine ⟨Ai ++ B, C', ?_, j2, ?_⟩
        · unfold capIn
          simp only [q, List.map_cons, g1]
          exact g2.app j1
        · rw [List.append_assoc]
          exact ((SubP.refl Ai).app j3).trans (.of_perm g4.symm)
theorem cap_out : ∀ {cap : List Nat} {τ : St} {Γi Γ : Gm} {B C : List Addr}, OwnL K F H τ Γi B → OwnL K F H σ Γ C → τ = (cap.map fun i => (σ[i]?).join) → ∃ D, OwnL K F H σ (capOut cap Γi Γ) D ∧ SubP D (B ++ C)
  | [], _, Γi, Γ, B, C, h1, h2, e => by
    subst e
    cases h1
    exact ⟨C, h2, .of_sub (List.sublist_append_right _ _)⟩
  | i :: cap, τ, [], Γ, B, C, h1, h2, e => by subst e; have := h1.length; simp at this
  | i :: cap, τ, x :: Γi, Γ, B, C, h1, h2, e => by
    subst e
    obtain ⟨B1, B2, g1, g2, rfl⟩ := OwnL.one h1
    obtain ⟨D, j1, j2⟩ := cap_out (cap := cap) g2 h2 rfl
    have s1 : SubP D ((B1 ++ B2) ++ C) := j2.trans (by rw [List.append_assoc]; exact .of_sub (List.sublist_append_right _ _))
    cases x with
    | none =>
      obtain ⟨D', k1, k2⟩ := OwnL.forget i j1
      exact ⟨D', k1, (SubP.of_sub k2).trans s1⟩
    | some o =>
      have g1 : OwnL K F H [(σ[i]?).join] [some o] B1 := g1
      cases q : σ[i]? with
      | none => rw [q] at g1; cases g1
      | some z =>
        cases z with
        | none => rw [q] at g1; cases g1
        | some v =>
          rw [q] at g1
          have hi : i < (capOut cap Γi Γ).length := by rw [← j1.length]; exact (List.getElem?_eq_some_iff.mp q).1
          obtain ⟨D', k1, C', k2, k3⟩ := OwnL.put (show OwnL K F H [some v] [some o] B1 from g1) i j1 hi
          rw [set_same q] at k1
          refine ⟨D', k1, (SubP.of_perm k2).trans ?_⟩
          rw [List.append_assoc]
          exact (SubP.refl B1).app ((SubP.of_sub k3).trans j2)
end
def capM (k : Nat) (cap : List Nat) : List Bool := List.replicate k false ++ List.replicate cap.length true
def gCompG (src : Gm → Option (List D × Gm)) (g : GG) (ct : GT) (ce : GE) (k : Nat) (cap : List Nat) : GE := fun Γ => (src Γ).bind fun p =>
  (compLoop g ct ce p.1 (List.replicate k none ++ (capIn cap p.2).1) []).bind fun q => if q.2.length = k + cap.length then some (.own (.lst q.1), capOut cap (q.2.drop k) (capIn cap p.2).2) else none
section
variable {K : PySem.W.Frag}
structure CPv (K : PySem.W.Frag) (m : List Bool) (g : GG) (ct : GT) (ce : GE) (ds : List D) (fin : List O × Gm) (F1 H1 : Hp) (C : List Addr) (τ₀ : St) (i : Nat) (τ : St) (acc : List V) (H : Hp) : Prop where
  ex : ∃ F A Γc accs, OK K F H (acc.map some ++ τ) (accs.map some ++ Γc) A ∧ Ext F1 H1 C F H A ∧ compLoop g ct ce (ds.drop i) Γc accs = some fin ∧ acc.length = accs.length ∧ Kept m τ₀ τ
theorem comp_turn {m : List Bool} {t : TG} {g : GG} {ct : GT} {ce : GE} (tg : TgOk K m t g) {ds : List D} {fin : List O × Gm} {F1 H1 : Hp} {C : List Addr} {τ₀ : St} {i : Nat} {τ : St} {acc : List V} {H : Hp} {x : V} {d : D} (p : CPv K m g ct ce ds fin F1 H1 C τ₀ i τ acc H)
    (ed : ds.drop i = d :: ds.drop (i + 1)) (rx : ∀ F, Same F1 F → RepL K F [x] [d]) :
    t x τ H fun τ2 H2 => tGT K ct τ2 H2 fun b H3 => if b = true then tG K ce τ2 H3 fun v H4 => acc.length < sizeLine ∧ CPv K m g ct ce ds fin F1 H1 C τ₀ (i + 1) τ2 (acc ++ [v]) H4 else CPv K m g ct ce ds fin F1 H1 C τ₀ (i + 1) τ2 acc H3 := by
  obtain ⟨F, A, Γc, accs, k, x0, e, hl, kp⟩ := p.ex
  rw [ed] at e
  unfold compLoop at e
  cases q1 : g d Γc with
  | none => rw [q1] at e; cases e
  | some Γ1 =>
    rw [q1] at e
    dsimp only [Option.bind] at e
    cases q2 : ct Γ1 with
    | none => rw [q2] at e; cases e
    | some pb =>
      obtain ⟨b, Γ2⟩ := pb
      rw [q2] at e
      dsimp only at e
      have hle : (acc.map some).length = (accs.map some).length := by simp [hl]
      obtain ⟨C1, k1, fr1⟩ := k.frame hle
      refine tg F H τ Γc Γ1 C1 x d _ k1 (rx F x0.ff) q1 fun τ2 A2 k2 x2 kp2 => ?_
      obtain ⟨A3, x3, k3⟩ := fr1 _ _ _ _ _ x2 k2
      obtain ⟨C4, k4, fr4⟩ := k3.frame hle
      refine ⟨F, C4, Γ1, b, Γ2, k4, q2, fun H3 pp => ?_⟩
      obtain ⟨F5, A5, x5, k5, _⟩ := pp
      obtain ⟨A6, x6, k6⟩ := fr4 _ _ _ _ _ x5 k5
      cases b with
      | false => exact iteF ⟨F5, A6, Γ2, accs, k6, x0.trans (x3.trans x6), e, hl, kp.trans kp2⟩
      | true =>
        have e : ((ce Γ2).bind fun q => (ownL [q.1]).bind fun os => if accs.length < 1000000 then compLoop g ct ce (ds.drop (i + 1)) q.2 (accs ++ os) else none) = some fin := e
        cases q3 : ce Γ2 with
        | none => rw [q3] at e; cases e
        | some pr =>
          obtain ⟨r, Γ3⟩ := pr
          rw [q3] at e
          dsimp only [Option.bind] at e
          cases q4 : ownL [r] with
          | none => rw [q4] at e; cases e
          | some os =>
            rw [q4] at e
            dsimp only at e
            split at e
            · rename_i hz
              obtain ⟨C7, k7, fr7⟩ := k6.frame hle
              refine iteT ⟨F5, C7, Γ2, r, Γ3, k7, q3, fun v H4 pp => ⟨Nat.lt_of_lt_of_le (by omega : acc.length < 1000000) (by decide), ?_⟩⟩
              obtain ⟨F8, A8, x8, k8, _⟩ := pp
              rw [ownL_map q4] at k8
              obtain ⟨A9, x9, k9⟩ := fr7 _ _ _ _ _ x8 k8
              refine ⟨F8, A9, Γ3, accs ++ os, ?_, x0.trans (x3.trans (x6.trans x9)), e, ?_, kp.trans kp2⟩
              · rw [List.map_append, List.map_append, List.append_assoc, List.append_assoc]
                exact k9
              · have := congrArg List.length (ownL_map q4)
                simp at this
                simp [hl, this]
            · cases e
theorem comp_fin {m : List Bool} {g : GG} {ct : GT} {ce : GE} {ds : List D} {fin : List O × Gm} {F1 H1 : Hp} {C : List Addr} {τ₀ : St} {τ : St} {acc : List V} {H : Hp} (p : CPv K m g ct ce ds fin F1 H1 C τ₀ ds.length τ acc H) :
    ∃ F A, OK K F H (acc.map some ++ τ) (fin.1.map some ++ fin.2) A ∧ Ext F1 H1 C F H A ∧ acc.length = fin.1.length ∧ Kept m τ₀ τ := by
  obtain ⟨F, A, Γc, accs, k, x0, e, hl, kp⟩ := p.ex
  rw [List.drop_of_length_le (Nat.le_refl _)] at e
  cases e
  exact ⟨F, A, k, x0, hl, kp⟩
theorem capIn_get : ∀ {cap : List Nat} {Γ : Gm} {j : Nat}, j ∉ cap → (capIn cap Γ).2[j]? = Γ[j]?
  | [], Γ, j, _ => rfl
  | i :: cap, Γ, j, h => by
    unfold capIn
    dsimp only
    rw [capIn_get (fun z => h (List.mem_cons_of_mem _ z)), List.getElem?_set_ne (fun z => h (by rw [z]; exact List.mem_cons_self))]
theorem own_root {F H : Hp} {σ : St} {Γ : Gm} {A : List Addr} {j : Nat} {ps : List O} {a : Addr} (h : OwnL K F H σ Γ A) (hΓ : Γ[j]? = some (some (.lst ps))) (hσ : σ[j]? = some (some (.ref a))) : a ∈ A := by
  obtain ⟨v, Ai, B, g1, g2, _, g4⟩ := h.take hΓ
  rw [hσ] at g1
  cases g1
  cases g2 with
  | lst _ _ _ => exact g4.mem_iff.mpr (by simp)
theorem comp_frame {k : Nat} {cap : List Nat} {F H : Hp} {σ : St} {Γ : Gm} {A : List Addr} (ok : OK K F H σ Γ A) : ∃ C, OK K F H (capS k cap σ) (List.replicate k none ++ (capIn cap Γ).1) C ∧
    (∀ j ps a, j ∉ cap → Γ[j]? = some (some (.lst ps)) → σ[j]? = some (some (.ref a)) → a ∉ C) ∧
    ∀ F' H' τ' accs acc Γi A', Ext F H C F' H' A' → OK K F' H' (acc.map some ++ τ') (accs.map some ++ Γi) A' → acc.length = accs.length → Kept (capM k cap) (capS k cap σ) τ' → Γi.length = k + cap.length → ∀ l, H' l = none →
      ∃ A'', Ext F H A F' (upd H' l (.lst acc)) A'' ∧ OK K F' (upd H' l (.lst acc)) (some (.ref l) :: σ) (some (.lst accs) :: capOut cap (Γi.drop k) (capIn cap Γ).2) A'' := by
  obtain ⟨B, C', h1, h2, h3⟩ := cap_in (cap := cap) ok.os
  have k0 : OwnL K F H (capS k cap σ ++ σ) ((List.replicate k none ++ (capIn cap Γ).1) ++ (capIn cap Γ).2) (B ++ C') := by
    have := (own_nones (K := K) (F := F) (H := H) k).app h1
    exact this.app h2
  obtain ⟨k1, x1⟩ := ok.sub k0 h3
  have hl0 : (capS k cap σ).length = (List.replicate k (none : Option O) ++ (capIn cap Γ).1).length := by
    have := h1.length
    unfold capS
    simp at this ⊢
    omega
  obtain ⟨A1, p1, k2⟩ := k1.swap hl0
  have k2' := k2
  obtain ⟨D0, C, hd0, hd1, hd2⟩ := OwnL.split h2.length k2.os
  have nn : ∀ a ∈ D0, a ∉ C := fun a m z => (List.nodup_append.mp (hd2 ▸ k2.nd)).2.2 a m a z rfl
  obtain ⟨k3, fr⟩ : OK K F H (capS k cap σ) (List.replicate k none ++ (capIn cap Γ).1) C ∧ ∀ F' H' σ' Γ' A', Ext F H C F' H' A' → OK K F' H' σ' Γ' A' → ∃ A'', Ext F H A1 F' H' A'' ∧ OK K F' H' (σ ++ σ') ((capIn cap Γ).2 ++ Γ') A'' := by
    subst hd2
    exact k2.frameAt hd0 hd1
  refine ⟨C, k3, fun j ps a hj hΓj hσj => nn a (own_root hd0 (by rw [capIn_get hj]; exact hΓj) hσj), fun F' H' τ' accs acc Γi A' x k' hl kp hΓ l hn => ?_⟩
  have hΓl := k'.os.length
  have k5 : ∃ A5, OK K F' (upd H' l (.lst acc)) (some (.ref l) :: τ') (some (.lst accs) :: Γi) A5 ∧ Ext F' H' A' F' (upd H' l (.lst acc)) A5 := by
    obtain ⟨B1, C1, g1, g2, g3⟩ := OwnL.split (by simp [hl]) k'.os
    have nl : ∀ a ∈ A', a ≠ l := fun a m z => k'.os.there a m (by rw [z]; exact hn)
    have kpp : ∀ a ∈ A', ∀ o, H' a = some o → upd H' l (.lst acc) a = some o := fun a m o e => by rw [upd_ne (nl a m)]; exact e
    subst g3
    refine ⟨l :: B1 ++ C1, ⟨fun a o e => ?_, .lst upd_same (g1.keep (Same.refl _) fun a m => kpp a (List.mem_append_left _ m)) (g2.keep (Same.refl _) fun a m => kpp a (List.mem_append_right _ m)), List.nodup_cons.mpr ⟨fun m => nl l m rfl, k'.nd⟩, fun a m => ?_⟩,
      Same.refl _, fun a o e _ => ?_, upd_dom, fun a h => .inl h, fun a m => ?_⟩
    · have := k'.le a o e
      rw [upd_ne (ne_of_none this hn)]; exact this
    · rcases List.mem_cons.mp m with rfl | m
      · exact k'.le.free hn
      · exact k'.fr a m
    · rw [upd_ne (ne_of_none e hn)]; exact e
    · rcases List.mem_cons.mp m with rfl | m
      · exact .inr hn
      · exact .inl m
  obtain ⟨A5, k5, x5⟩ := k5
  obtain ⟨A6, x6, k6⟩ := fr _ _ _ _ _ (x.trans x5) k5
  obtain ⟨D1, D2, g1, g2, g3⟩ := OwnL.split h2.length k6.os
  subst g3
  obtain ⟨D3, D4, g4, g5, g6⟩ := g2.one
  subst g6
  have hτ : τ'.length = k + cap.length := by
    have := g5.length
    omega
  have e1 : τ' = τ'.take k ++ τ'.drop k := (List.take_append_drop _ _).symm
  have e2 : Γi = Γi.take k ++ Γi.drop k := (List.take_append_drop _ _).symm
  have g5' : OwnL K F' (upd H' l (.lst acc)) (τ'.take k ++ τ'.drop k) (Γi.take k ++ Γi.drop k) D4 := by rw [← e1, ← e2]; exact g5
  obtain ⟨D5, D6, g7, g8, g9⟩ := OwnL.split (by rw [List.length_take, List.length_take]; omega) g5'
  subst g9
  have eτ : τ'.drop k = cap.map fun i => (σ[i]?).join := by
    apply List.ext_getElem?
    intro j
    by_cases hj : j < cap.length
    · have hm : (capM k cap)[k + j]? = some true := by
        unfold capM
        rw [List.getElem?_append_right (by simp)]
        simp [hj]
      have := kp (k + j) hm
      rw [List.getElem?_drop, this]
      unfold capS
      rw [List.getElem?_append_right (by simp)]
      simp
    · rw [List.getElem?_eq_none (by rw [List.length_drop]; omega), List.getElem?_eq_none (by rw [List.length_map]; omega)]
  obtain ⟨D7, g10, g11⟩ := cap_out g8 g1 eτ
  have s1 : SubP (D3 ++ D7) (D1 ++ (D3 ++ (D5 ++ D6))) := by
    refine ((SubP.refl D3).app g11).trans ?_
    refine SubP.trans (B := D3 ++ (D5 ++ D6) ++ D1) ?_ (.of_perm List.perm_append_comm)
    rw [List.append_assoc]
    refine (SubP.refl D3).app ?_
    rw [List.append_assoc]
    exact .of_sub (List.sublist_append_right _ _)
  obtain ⟨k7, x7⟩ := k6.sub (σ' := some (.ref l) :: σ) (Γ' := some (.lst accs) :: capOut cap (Γi.drop k) (capIn cap Γ).2) (g4.app g10) s1
  exact ⟨D3 ++ D7, (x1.trans (Ext.own' Ext.refl fun a m => p1.mem_iff.mp m)).trans (x6.trans x7), k7⟩
end
def srcL (it : GE) : Gm → Option (List D × Gm) := fun Γ => (gFrz it Γ).bind fun p => match p.1 with
  | .own (.frz (.lst ds)) => some (ds, p.2)
  | _ => none
def srcS (it : GE) : Gm → Option (List D × Gm) := fun Γ => (it Γ).bind fun p => match p.1 with
  | .own (.frz (.str z)) => some (z.cps.toList.map fun c => .str (chr1 c), p.2)
  | _ => none
def srcR1 (fs : GA) : Gm → Option (List D × Gm) := fun Γ => (fs Γ).bind fun p => (int1 p.1).map fun j => (rngD 0 j.toNat, p.2)
def srcR2 (fs : GA) : Gm → Option (List D × Gm) := fun Γ => (fs Γ).bind fun p => (int2 p.1).map fun j => (rngD j.1 (j.2 - j.1).toNat, p.2)
def srcV (i : Nat) (cap : List Nat) : Gm → Option (List D × Gm) := fun Γ => if i ∈ cap then none else match Γ[i]? with
  | some (some (.lst os)) => (frzL os).map fun ds => (ds, Γ)
  | _ => none
def SrcOk (K : PySem.W.Frag) (cap : List Nat) (wi : TI) (src : Gm → Option (List D × Gm)) : Prop :=
  ∀ (σ : St) (F H : Hp) (A : List Addr) (Γ Γ1 : Gm) (ds : List D) (R : It → Hp → Prop), OK K F H σ Γ A → src Γ = some (ds, Γ1) →
    (∀ J H1 F1 A1, Ext F H A F1 H1 A1 → OK K F1 H1 σ Γ1 A1 →
      (∀ (g : TG) (tt : TT) (te : TE) (τ : St) (Fin : List V → Hp → Prop) (Pv : Nat → St → List V → Hp → Prop), Pv 0 τ [] H1 → (∀ i τ acc H, Pv i τ acc H → (∃ F, Same F1 F ∧ Same F H) ∧ ∀ (j : Nat) ps a o, j ∉ cap → Γ1[j]? = some (some (.lst ps)) → σ[j]? = some (some (.ref a)) → H1 a = some o → H a = some o) →
        (∀ i d x τ acc H, ds.drop i = d :: ds.drop (i + 1) → (∀ F, Same F1 F → RepL K F [x] [d]) → Pv i τ acc H → g x τ H fun τ2 H2 => tt τ2 H2 fun b H3 => if b = true then te τ2 H3 fun v H4 => acc.length < sizeLine ∧ Pv (i + 1) τ2 (acc ++ [v]) H4 else Pv (i + 1) τ2 acc H3) →
        (∀ τ acc H, Pv ds.length τ acc H → Fin acc H) → CompW J g tt te τ H1 Fin) → R J H1) → wi σ H R
section
variable {X : Cx} {K : PySem.W.Frag} {fa : GE} {fs : GA}
theorem drop_of {α : Type} {l : List α} {i : Nat} {x : α} (h : l[i]? = some x) : l.drop i = x :: l.drop (i + 1) := by
  obtain ⟨hi, e⟩ := List.getElem?_eq_some_iff.mp h
  rw [List.drop_eq_getElem_cons hi, e]
theorem src_list {cap : List Nat} : SrcOk K cap (iList K (tG K (gFrz fa))) (srcL fa) := by
  intro σ F H A Γ Γ1 ds R k e w
  unfold srcL at e
  cases q : gFrz fa Γ with
  | none => rw [q] at e; cases e
  | some p =>
    obtain ⟨r, Γ2⟩ := p
    rw [q] at e
    dsimp only [Option.bind] at e
    cases r with
    | var i => cases e
    | own o =>
      cases o with
      | frz d =>
        cases d with
        | lst es =>
          cases e
          refine ⟨F, A, Γ, _, _, k, q, fun v H1 pp => ?_⟩
          obtain ⟨F1, A1, x, k1, _⟩ := pp
          obtain ⟨B, C, h1, h2, h3⟩ := OwnL.one (σ := σ) k1.os
          have rp := own_rep1 h1
          subst h3
          obtain ⟨k2, x2⟩ := k1.sub h2 (.of_sub (List.sublist_append_right _ _))
          cases rp with
          | flat z _ => cases z
          | @lst a ws _ _ _ sq ri _ =>
            refine ⟨a, rfl, ⟨ws, .inl (k1.le.rd sq)⟩, w (Itl K a) H1 F1 C (x.trans x2) k2 fun g tt te τ Fin Pv h0 hF hs hd => ?_⟩
            have hl := ri.length
            refine comp_list (xs := ws) Pv h0 (fun i τ acc H hi p => ?_) (fun i x τ acc H hx p => ?_) (fun τ acc H p => hd τ acc H (by rw [← hl]; exact p))
            · obtain ⟨⟨F', s1, s2⟩, _⟩ := hF i τ acc H p
              exact .inl ((s1.trans s2).rd sq)
            · have hi : i < ds.length := by
                have := (List.getElem?_eq_some_iff.mp hx).1
                omega
              obtain ⟨x2, hx2, rx⟩ := ri.get (i := i) (d := ds[i]) (by simp [hi])
              rw [hx] at hx2
              cases hx2
              exact hs i ds[i] x τ acc H (drop_of (by simp [hi])) (fun F' s => rx.mono s) p
        | _ => cases e
      | _ => cases e
theorem src_var {i : Nat} {cap : List Nat} : SrcOk K cap (iList K (tVar i)) (srcV i cap) := by
  intro σ F H A Γ Γ1 ds R k e w
  unfold srcV at e
  split at e
  · cases e
  · rename_i hi
    split at e
    · rename_i os hΓ
      obtain ⟨ds', e1, e2⟩ := Option.map_eq_some_iff.mp e
      cases e2
      obtain ⟨v, Ai, B, g1, g2, _⟩ := k.os.take hΓ
      refine ⟨v, g1, ?_⟩
      cases g2 with
      | @lst a ws _ _ _ _ _ hl ch _ =>
        have ri := own_frzL ch e1
        refine ⟨a, rfl, ⟨ws, SqL.of hl⟩, w (Itl K a) H F A Ext.refl k fun g tt te τ Fin Pv h0 hF hs hd => ?_⟩
        have hln := ri.length
        refine comp_list (xs := ws) Pv h0 (fun j τ acc H' hj p => ?_) (fun j x τ acc H' hx p => ?_) (fun τ acc H' p => hd τ acc H' (by rw [← hln]; exact p))
        · exact SqL.of ((hF j τ acc H' p).2 i os a _ hi hΓ g1 hl)
        · have hj : j < ds.length := by
            have := (List.getElem?_eq_some_iff.mp hx).1
            omega
          obtain ⟨x2, hx2, rx⟩ := ri.get (i := j) (d := ds[j]) (by simp [hj])
          rw [hx] at hx2
          cases hx2
          exact hs j ds[j] x τ acc H' (drop_of (by simp [hj])) (fun F' s => rx.mono s) p
    · cases e
theorem src_r1 {cap : List Nat} : SrcOk K cap (iRng1 (tGA K fs)) (srcR1 fs) := by
  intro σ F H A Γ Γ1 ds R k e w
  unfold srcR1 at e
  cases q : fs Γ with
  | none => rw [q] at e; cases e
  | some p =>
    obtain ⟨rs, Γ2⟩ := p
    rw [q] at e
    obtain ⟨j, e1, e2⟩ := Option.map_eq_some_iff.mp e
    cases e2
    obtain ⟨hj, hb⟩ := int1_inv e1
    have hj : rs = _ := hj
    subst hj
    refine ⟨F, A, Γ, _, _, k, q, fun vs H1 pp => ?_⟩
    obtain ⟨F1, A1, x, k1, hh⟩ := pp
    match vs, hh with
    | [v], _ =>
      obtain ⟨rfl, h2⟩ := own_int (σ := σ) k1.os
      obtain ⟨k2, x2⟩ := k1.sub h2 (SubP.refl _)
      refine ⟨j, rfl, hb.1, hb.2, w (Itr 0 j.toNat) H1 F1 A1 x k2 fun g tt te τ Fin Pv h0 hF hs hd => ?_⟩
      refine comp_range Pv h0 (fun i τ acc H hi p => ?_) (fun τ acc H p => hd τ acc H (by simpa [rngD] using p))
      exact hs i (.int (0 + (i : Int))) _ τ acc H (by unfold rngD; exact drop_map_range _ hi) (fun F' s => .flat rfl .nil) p
theorem PTs.mono {ifs : List Expr} {t t' : TT} (h : PTs X ifs t) (m : ∀ σ H Q, t' σ H Q → t σ H Q) : PTs X ifs t' := fun pins s σ H Q I q => h pins s σ H Q I (m _ _ _ q)
def gYes : GT := fun Γ => some (true, Γ)
theorem dts_nil : PTs X [] (tGT K gYes) := pts_nil.mono fun σ H Q t => tGT_pure t
theorem dts_one {c : Expr} {ft : GT} (h : PT X c (tGT K ft)) : PTs X [c] (tGT K ft) := pts_one h
variable {tg elt iter : Expr} {ifs : List Expr} {scope : Scope} {pos : Pos} {M : List Str} {k : Nat} {cap : List Nat} {t : TG} {gg : GG} {ct : GT} {ce : GE} {wi : TI} {src : Gm → Option (List D × Gm)}
theorem tG_comp (so : SrcOk K cap wi src) (tg' : TgOk K (capM k cap) t gg) {σ : St} {H : Hp} {Q : VK} (tt : tG K (gCompG src gg ct ce k cap) σ H Q) : tComp wi t (tGT K ct) (tG K ce) k cap σ H Q := by
  obtain ⟨F, A, Γ, rr, Γ', ok, e, w⟩ := tt
  unfold gCompG at e
  cases q1 : src Γ with
  | none => rw [q1] at e; cases e
  | some p =>
    obtain ⟨ds, Γ1⟩ := p
    rw [q1] at e
    dsimp only [Option.bind] at e
    cases q2 : compLoop gg ct ce ds (List.replicate k none ++ (capIn cap Γ1).1) [] with
    | none => rw [q2] at e; cases e
    | some fin =>
      rw [q2] at e
      dsimp only at e
      split at e
      · rename_i hlen
        cases e
        refine so σ F H A Γ Γ1 ds _ ok q1 fun J H1 F1 A1 x1 k1 mk => ?_
        obtain ⟨C, kC, nC, back⟩ := comp_frame (k := k) (cap := cap) k1
        refine mk t (tGT K ct) (tG K ce) (capS k cap σ) _ (CPv K (capM k cap) gg ct ce ds fin F1 H1 C (capS k cap σ)) ?_ ?_ ?_ ?_
        · exact ⟨F1, C, _, [], kC, Ext.refl, q2, rfl, Kept.refl⟩
        · rintro i τ acc H ⟨F', A', Γc, accs, k', x', _⟩
          exact ⟨⟨F', x'.ff, k'.le⟩, fun j ps a o hj h1 h2 h3 => x'.keep a o h3 (nC j ps a hj h1 h2)⟩
        · intro i d x τ acc H ed rx p
          exact comp_turn tg' p ed rx
        · intro τ acc H p l hn
          obtain ⟨F', A', k', x', hl, kp⟩ := comp_fin p
          obtain ⟨A'', x'', k''⟩ := back F' H τ fin.1 acc fin.2 A' x' k' hl kp hlen l hn
          exact w _ _ ⟨F', A'', x1.trans x'', k'', True.intro⟩
      · cases e
theorem de_comp (so : SrcOk K cap wi src) (tg' : TgOk K (capM k cap) t gg) (ok : CompOk X scope M k cap) (hi : PI X tg iter wi)
    (hg : ∀ C s H fp, PG (compCx X scope M C s H fp) tg t) (ht : ∀ C s H fp, PTs (compCx X scope M C s H fp) ifs (tGT K ct)) (he : ∀ C s H fp, PE (compCx X scope M C s H fp) elt (tG K ce)) (hc : X.calm = true := by rfl)
    (hs : ∀ x, foldedSetIterable iter X.env x = pure x := by intro _; rfl) : PE X (.ListComp elt [⟨tg, iter, ifs, 0⟩] scope pos) (tG K (gCompG src gg ct ce k cap)) :=
  (pe_comp hc ok hi hg ht he hs).mono fun _ _ _ t => tG_comp so tg' t
variable {m : List Bool}
theorem ds_comp {i : Nat} {x : Str} {px spos : Pos} (so : SrcOk K cap wi src) (tg' : TgOk K (capM k cap) t gg) (ok : CompOk X scope M k cap) (hN : X.N.Nodup) (hix : X.N[i]? = some x) (hx : Loc X.env.scope x) (hi : PI X tg iter wi)
    (hg : ∀ C s H fp, PG (compCx X scope M C s H fp) tg t) (ht : ∀ C s H fp, PTs (compCx X scope M C s H fp) ifs (tGT K ct)) (he : ∀ C s H fp, PE (compCx X scope M C s H fp) elt (tG K ce)) (hc : X.calm = true := by rfl) (hm : (m[i]? == some true) = false := by rfl)
    (hsw : swapsWith (.ListComp elt [⟨tg, iter, ifs, 0⟩] scope pos) (some (.Name x px)) spos.line X.env = pure true := by rfl)
    (hs : ∀ x, foldedSetIterable iter X.env x = pure x := by intro _; rfl) (hf : X.fn x = true ∨ X.env.scope.names.lookup x = some .local := by first | exact .inl rfl | exact .inr rfl) :
    PS X (.Assign [.Name x px] (.ListComp elt [⟨tg, iter, ifs, 0⟩] scope pos) spos) (tS K m (gsSet i (gCompG src gg ct ce k cap))) := (ps_comp hc ok hN hix hx hi hg ht he hsw hs hf).mono fun D σ H tt => by
  obtain ⟨F, A, Γ, fl, Γ', k, e, w⟩ := tt
  unfold gsSet at e
  cases q : gCompG src gg ct ce _ cap Γ with
  | none => rw [q] at e; cases e
  | some p =>
    obtain ⟨r, Γ1⟩ := p
    rw [q] at e
    cases r with
    | var i => cases e
    | own o =>
      dsimp only [Option.bind] at e
      split at e
      · cases e
        refine tG_comp so tg' ⟨F, A, Γ, _, Γ1, k, q, fun v H' ⟨F1, A1, x, k1, _⟩ => ?_⟩
        obtain ⟨B, k2, x2⟩ := OK.store (σ := σ) (Γ := Γ1) k1 (by assumption)
        exact w _ H' ⟨F1, B, x.trans x2, k2, Kept.set hm⟩
      · cases e
theorem ds_compF {i : Nat} {x : Str} {px spos : Pos} (so : SrcOk K cap wi src) (tg' : TgOk K (capM k cap) t gg) (ok : CompOk X scope M k cap) (hN : X.N.Nodup) (hix : X.N[i]? = some x) (hx : Loc X.env.scope x) (hi : PI X tg iter wi)
    (hg : ∀ C s H fp, PG (compCx X scope M C s H fp) tg t) (ht : ∀ C s H fp, PTs (compCx X scope M C s H fp) ifs (tGT K ct)) (he : ∀ C s H fp, PE (compCx X scope M C s H fp) elt (tG K ce)) (hc : X.calm = true := by rfl) (hm : (m[i]? == some true) = false := by rfl)
    (hsw : swapsWith (.ListComp elt [⟨tg, iter, ifs, 0⟩] scope pos) (some (.Name x px)) spos.line X.env = pure true := by rfl)
    (hs : ∀ x, foldedSetIterable iter X.env x = pure x := by intro _; rfl) (hf : X.fn x = true ∨ X.env.scope.names.lookup x = some .local := by first | exact .inl rfl | exact .inr rfl) :
    PS X (.Assign [.Name x px] (.ListComp elt [⟨tg, iter, ifs, 0⟩] scope pos) spos) (tS K m (gsSet i (gFrz (gCompG src gg ct ce k cap)))) := (ps_comp hc ok hN hix hx hi hg ht he hsw hs hf).mono fun D σ H tt => by
  obtain ⟨F, A, Γ, fl, Γ', k, e, w⟩ := tt
  unfold gsSet at e
  cases q : gFrz (gCompG src gg ct ce _ cap) Γ with
  | none => rw [q] at e; cases e
  | some p =>
    obtain ⟨r, Γ1⟩ := p
    rw [q] at e
    cases r with
    | var i => cases e
    | own o =>
      dsimp only [Option.bind] at e
      split at e
      · cases e
        refine tG_comp so tg' (tG_frz ⟨F, A, Γ, _, Γ1, k, q, fun v H' ⟨F1, A1, x, k1, _⟩ => ?_⟩)
        obtain ⟨B, k2, x2⟩ := OK.store (σ := σ) (Γ := Γ1) k1 (by assumption)
        exact w _ H' ⟨F1, B, x.trans x2, k2, Kept.set hm⟩
      · cases e
end
end L2
set_option Elab.async false
set_option linter.all false
set_option maxRecDepth 100000
set_option maxHeartbeats 4000000
namespace L2
open PySem PySem.Spec PyProof.Rows
inductive Wk (K : PySem.W.Frag) (H : Hp) : V → List Nat → V → Prop
  | nil {x : V} : Wk K H x [] x
  | cons {p : Addr} {ws : List V} {j : Nat} {y v : V} {π : List Nat} : (SqL K H p ws ∨ SqT K H p ws) → ws[j]? = some y → Wk K H y π v → Wk K H (.ref p) (j :: π) v
theorem Wk.snoc {K : PySem.W.Frag} {H : Hp} {x v : V} {π : List Nat} {j : Nat} (h : Wk K H x (π ++ [j]) v) : ∃ p ws, Wk K H x π (.ref p) ∧ (SqL K H p ws ∨ SqT K H p ws) ∧ ws[j]? = some v := by
  induction π generalizing x with
  | nil =>
    cases h with
    | cons s e t => cases t; exact ⟨_, _, .nil, s, e⟩
  | cons i π ih =>
    cases h with
    | cons s e t =>
      obtain ⟨p, ws, h1, h2, h3⟩ := ih t
      exact ⟨p, ws, .cons s e h1, h2, h3⟩
section
variable {X : Cx} {K : PySem.W.Frag} {e : Expr} {i j : Nat} {π : List Nat} {pos p1 p2 : Pos} {n : Nat}
end
def setP (f : O → Option (O × O)) : O → List Nat → Option (O × O)
  | .lst ps, [] => f (.lst ps)
  | .tup os, j :: π => (os[j]?).bind fun c => (setP f c π).bind fun z => some (.tup (os.set j z.1), z.2)
  | .lst os, j :: π => (os[j]?).bind fun c => (setP f c π).bind fun z => some (.lst (os.set j z.1), z.2)
  | _, _ => none
section
variable {K : PySem.W.Frag} {F H : Hp}
end
def gMutC (g : O → List O → Option (O × O)) (i : Nat) (π : List Nat) (ds : List D) : GE := fun Γ => match Γ[i]? with
  | some (some o) => (setP (fun c => g c (ds.map .frz)) o π).bind fun z => some (.own z.2, Γ.set i (some z.1))
  | _ => none
section
variable {X : Cx} {K : PySem.W.Frag} {o e : Expr} {es : List Expr} {i : Nat} {π : List Nat} {t : TA} {name : Str} {apos cpos : Pos} {id : String} {r : V → List V → Hp → VK → Prop} {g : O → List O → Option (O × O)} {ds : List D} {vs : List V}
end
end L2
set_option Elab.async false
set_option linter.all false
set_option maxRecDepth 100000
set_option maxHeartbeats 4000000
namespace L2
open PySem PySem.Spec PyProof.Rows
def gCallF (M : GM) (fs : GA) : GE := fun Γ => (fs Γ).bind fun p => (seeL p.2 p.1).bind fun os => (M ((O.dl os).map .frz)).bind fun r => match r.1 with
  | .frz d => (flatOf d).bind fun _ => some (.own (.frz d), p.2)
  | _ => none
section
variable {K : PySem.W.Frag}
theorem sees_rep {F H : Hp} (le : Same F H) : ∀ {vs : List V} {os : List O}, Sees K F H vs os → RepL K H vs (O.dl os)
  | [], [], _ => .nil
  | v :: vs, o :: os, .cons ⟨B, h⟩ t => .cons (own_rep le h) (sees_rep le t)
theorem gCallF_inv {M : GM} {fs : GA} {Γ Γ' : Gm} {r : R} (e : gCallF M fs Γ = some (r, Γ')) : ∃ rs os d fin v, fs Γ = some (rs, Γ') ∧ seeL Γ' rs = some os ∧ M ((O.dl os).map .frz) = some (.frz d, fin) ∧ flatOf d = some v ∧ r = .own (.frz d) := by
  unfold gCallF at e
  cases q1 : fs Γ with
  | none => rw [q1] at e; cases e
  | some p =>
    rw [q1] at e
    dsimp only [Option.bind] at e
    cases q2 : seeL p.2 p.1 with
    | none => rw [q2] at e; cases e
    | some os =>
      rw [q2] at e
      dsimp only at e
      cases q3 : M ((O.dl os).map .frz) with
      | none => rw [q3] at e; cases e
      | some z =>
        obtain ⟨o, fin⟩ := z
        rw [q3] at e
        dsimp only at e
        cases o with
        | frz d =>
          dsimp only at e
          cases q4 : flatOf d with
          | none => rw [q4] at e; cases e
          | some v => rw [q4] at e; cases e; exact ⟨p.1, os, d, fin, v, rfl, q2, q3, q4, rfl⟩
        | _ => cases e
variable {X : Cx} {k n : Nat} {f : Addr} {fd : FuncData} {ps : List Str} {x : Str} {p pos : Pos} {e : Expr} {es : List Expr} {fs : GA} {st : Stmt} {M : GM}
theorem tG_callF {σ : St} {H : Hp} {Q : VK} (t : tG K (gCallF M fs) σ H Q) (hn : ∀ rs Γ Γ', fs Γ = some (rs, Γ') → rs.length = n) : tCall (SpM K n M) [] E0 (tGA K fs) σ H Q := by
  obtain ⟨F, A, Γ, rr, Γ', k, e, w⟩ := t
  obtain ⟨rs, os, d, fin, v0, e1, e2, e3, e4, rfl⟩ := gCallF_inv e
  refine ⟨F, A, Γ, rs, Γ', k, e1, fun vs H1 pp => ?_⟩
  show SpM K n M (vs ++ []) H1 Q E0
  rw [List.append_nil]
  obtain ⟨F1, le, see, res⟩ := pp.res e2 w
  obtain ⟨_, _, _, _, hh⟩ := pp
  refine ⟨by rw [← hh.length]; exact hn rs Γ Γ' e1, H1, [], (O.dl os).map .frz, .frz d, fin, ⟨Same.refl _, own_frzs (sees_rep le see), .nil, fun _ m => by cases m⟩, e3, fun v H' pc => ?_⟩
  obtain ⟨F5, A5, x5, k5⟩ := pc
  have s : Same H1 H' := fun a o e => x5.keep a o e (by simp)
  have ev : v = v0 := by
    obtain ⟨B, C, h1, _⟩ := k5.os.one
    exact own_flat h1 e4
  subst ev
  exact res v H' [] s (.frz (.flat e4 .nil) .nil) .nil (fun _ m => by cases m)
theorem de_callF (D : DefAt X.K X.mg x st f fd ps) (Fn : FnOk X.prog X.w X.K X.mg X.base CX0 k f fd ps (SpM K n M)) (hr : Room k X.A) (ha : PA X (e :: es) (tGA K fs)) (hn : ∀ rs Γ Γ', fs Γ = some (rs, Γ') → rs.length = n) (hg : Gl X x := by rfl) (hdb : (x == ("__debug__" : Str)) = false := by decide)
    (he : starEach (e :: es) X.env = (false, eval e X.env) :: starEach es X.env := by rfl) (hpl : (backTo pos (starEach es X.env)).any (·.1) = false := by rfl) :
    PE X (.Call (.Name x p) (e :: es) [] pos) (tG K (gCallF M fs)) := (pcall D Fn hr ha hg hdb he hpl).mono fun _ _ _ t => tG_callF t hn
theorem law_mir {P : Program} {w : World} {mg : Str → Option Value} {base : Heap} {k : Nat} {f : Addr} {fd : FuncData} {ps : List Str} {M : GM} (F : FnOk P w K mg base CX0 k f fd ps (SpM K 1 M)) (h : ∀ ns : List Int, ns.length ≤ 63 → ∃ fin, M [.frz (.scr ns)] = some (.frz (.bl true), fin)) :
    FnOk P w K mg base CX0 k f fd ps (fun vs H Q _ => ∃ (a : Addr) (ns : List Int), vs = [.ref a] ∧ SqL K H a (ns.map V.int) ∧ ns.length ≤ 63 ∧ ∀ H', Q (.bl true) H') := F.imp fun vs H Q E q => by
  obtain ⟨a, ns, rfl, hS, hl, q⟩ := q
  obtain ⟨fin, e⟩ := h ns hl
  refine ⟨rfl, H, [], [.frz (.scr ns)], _, fin, ⟨Same.refl _, .frz (.scr hS .nil) .nil, .nil, fun _ m => by cases m⟩, e, fun v H' pc => ?_⟩
  obtain ⟨F5, A5, x5, k5⟩ := pc
  obtain ⟨B, C, h1, _⟩ := k5.os.one
  cases own_flat h1 rfl
  exact q H'
end
end L2
set_option Elab.async false
set_option linter.all false
/-! how the functions over trees are reckoned: one row a form, at a state -/
namespace L2
open PySem
open Lean Meta in
simproc_decl evBind (Option.bind _ _) := fun e => do
  let a := e.getAppArgs
  unless a.size == 4 do return .continue
  let r0 ← Simp.simp a[2]!
  let r := { r0 with expr := (← instantiateMVars r0.expr).cleanupAnnotations.headBeta }
  let pr ← match r.proof? with
    | none => pure none
    | some p => pure (some (← mkCongrArg (.lam `z (← inferType a[2]!) (mkApp4 e.getAppFn a[0]! a[1]! (.bvar 0) a[3]!) .default) p))
  if r.expr.isAppOfArity ``Option.some 2 then
    return .visit { expr := (mkApp a[3]! r.expr.appArg!).headBeta, proof? := pr }
  if r.expr.isAppOfArity ``Option.none 1 then
    return .done { expr := mkApp (.const ``Option.none (e.getAppFn.constLevels!.drop 1)) a[1]!, proof? := pr }
  return .done { expr := mkApp4 e.getAppFn a[0]! a[1]! r.expr a[3]!, proof? := pr }
open Lean Meta in
simproc_decl evMap (Option.map _ _) := fun e => do
  let a := e.getAppArgs
  unless a.size == 4 do return .continue
  let r0 ← Simp.simp a[3]!
  let r := { r0 with expr := (← instantiateMVars r0.expr).cleanupAnnotations.headBeta }
  let pr ← match r.proof? with
    | none => pure none
    | some p => pure (some (← mkCongrArg (.lam `z (← inferType a[3]!) (mkApp4 e.getAppFn a[0]! a[1]! a[2]! (.bvar 0)) .default) p))
  if r.expr.isAppOfArity ``Option.some 2 then
    return .visit { expr := mkApp2 (.const ``Option.some (e.getAppFn.constLevels!.drop 1)) a[1]! (mkApp a[2]! r.expr.appArg!).headBeta, proof? := pr }
  if r.expr.isAppOfArity ``Option.none 1 then
    return .done { expr := mkApp (.const ``Option.none (e.getAppFn.constLevels!.drop 1)) a[1]!, proof? := pr }
  return .done { expr := mkApp4 e.getAppFn a[0]! a[1]! a[2]! r.expr, proof? := pr }
section
variable (f g h : GS) (fa fb fc : GE) (fs : GA) (ft gt : GT) (lo hi : GO) (Γ : Gm) (i n : Nat) (o : O) (d : D) (ds : List D) (os : List O) (gg : GG) (M : GM) (op : List O → Option O) (mu : O → List O → Option (O × O)) (c : List O → O)
theorem ev_cons : gsCons f g Γ = (f Γ).bind fun p => match p.1 with
  | .nx => g p.2
  | .bk => some (.bk, p.2)
  | .ct => some (.ct, p.2)
  | .rt o => some (.rt o, p.2) := rfl
theorem ev_nil : gsNil Γ = some (.nx, Γ) := rfl
theorem ev_set : gsSet i fa Γ = (fa Γ).bind fun p => match p.1 with
  | .own o => if i < p.2.length then some (.nx, p.2.set i (some o)) else none
  | .var _ => none := rfl
theorem ev_ret : gsRet fa Γ = (fa Γ).bind fun p => match p.1 with
  | .own o => some (.rt o, p.2)
  | .var _ => none := rfl
theorem ev_drop : gsDrop fa Γ = (fa Γ).bind fun p => some (.nx, p.2) := rfl
theorem ev_ifS : gsIf ft f g Γ = (ft Γ).bind fun p => if p.1 = true then f p.2 else g p.2 := rfl
theorem ev_put : gsPut fa fb fc Γ = (fa Γ).bind fun p => (fb p.2).bind fun q => (fc q.2).bind fun r => match p.1, q.1, r.1 with
  | .own v, .var i, .own y => match r.2[i]? with
    | some (some o) => (mSet o [v, y]).bind fun z => some (.nx, r.2.set i (some z.1))
    | _ => none
  | _, _, _ => none := rfl
theorem ev_for : gsFor fa gg f Γ = (gFrz fa Γ).bind fun p => match p.1 with
  | .own (.frz (.lst ds)) => gsLoop gg f ds p.2
  | _ => none := rfl
theorem ev_r1 : gsRange1 fs gg f Γ = (fs Γ).bind fun p => (int1 p.1).bind fun j => gsLoop gg f (rngD 0 j.toNat) p.2 := rfl
theorem ev_rD : gsRangeD fs gg f Γ = (fs Γ).bind fun p => (int3 p.1).bind fun j => gsLoop gg f (rngC j.1 (-1) (j.1 - j.2).toNat) p.2 := rfl
theorem ev_c : gC d Γ = some (.own (.frz d), Γ) := rfl
theorem ev_var : gVar i Γ = match Γ[i]? with
  | some (some (.frz d)) => some (.own (.frz d), Γ)
  | some (some _) => some (.var i, Γ)
  | _ => none := rfl
theorem ev_frz : gFrz fa Γ = (fa Γ).bind fun p => match p.1 with
  | .own o => some (.own (.frz o.d), p.2)
  | .var i => match p.2[i]? with
    | some (some o) => some (.own (.frz o.d), p.2.set i (some (.frz o.d)))
    | _ => none := rfl
theorem ev_move : gMove fa Γ = (fa Γ).bind fun p => match p.1 with
  | .own o => some (.own o, p.2)
  | .var i => match p.2[i]? with
    | some (some o) => some (.own o, p.2.set i none)
    | _ => none := rfl
theorem ev_aNil : gaNil Γ = some ([], Γ) := rfl
theorem ev_aCons : gaCons fa fs Γ = (fa Γ).bind fun p => (fs p.2).bind fun q => some (p.1 :: q.1, q.2) := rfl
theorem ev_op : gOp op fs Γ = (fs Γ).bind fun p => (seeL p.2 p.1).bind fun os => (op os).bind fun o => some (.own o, p.2) := rfl
theorem ev_seq : gSeq c fs Γ = (fs Γ).bind fun p => if p.1.length ≤ 1000 then (ownL p.1).bind fun os => some (.own (c os), p.2) else none := rfl
theorem ev_T : gT fa Γ = (fa Γ).bind fun p => match p.1 with
  | .own (.frz (.bl b)) => some (b, p.2)
  | _ => none := rfl
theorem ev_tru : gTru fa Γ = (fa Γ).bind fun p => (seeR p.2 p.1).bind fun o => (truO o).bind fun b => some (b, p.2) := rfl
theorem ev_notT : gNotT ft Γ = (ft Γ).bind fun p => some (!p.1, p.2) := rfl
theorem ev_andT : gAndT ft gt Γ = (ft Γ).bind fun p => if p.1 = true then gt p.2 else some (false, p.2) := rfl
theorem ev_andV : gAndV fa fb Γ = (gT fa Γ).bind fun p => if p.1 = true then fb p.2 else gC (.bl false) p.2 := rfl
theorem ev_notV : gNotV fa Γ = (gT fa Γ).bind fun p => gC (.bl (!p.1)) p.2 := rfl
theorem ev_call : gCall M fs Γ = (fs Γ).bind fun p => (takeArgs p.1 p.2).bind fun q => (M q.1).bind fun r => some (.own r.1, putBack p.1 r.2 q.2) := rfl
theorem ev_mut : gMut mu fa fs Γ = (fa Γ).bind fun p => match p.1 with
  | .var i => match p.2[i]? with
    | some (some (.lst _)) => (fs p.2).bind fun q => (ownL q.1).bind fun os => match q.2[i]? with
      | some (some o) => (mu o os).bind fun z => some (.own z.2, q.2.set i (some z.1))
      | _ => none
    | _ => none
  | _ => none := rfl
theorem ev_none : goNone Γ = some (none, Γ) := rfl
theorem ev_some : goSome fa Γ = (fa Γ).bind fun p => (intR p.1).map fun i => (some i, p.2) := rfl
theorem ev_slice : gSlice fa lo hi Γ = (fa Γ).bind fun p => (lo p.2).bind fun q => (hi q.2).bind fun r => (seeR r.2 p.1).bind fun o => (slO o q.1 r.1).bind fun o' => some (.own o', r.2) := rfl
theorem ev_comp (src : Gm → Option (List D × Gm)) (k : Nat) (cap : List Nat) : gCompG src gg ft fa k cap Γ = (src Γ).bind fun p =>
  (compLoop gg ft fa p.1 (List.replicate k none ++ (capIn cap p.2).1) []).bind fun q => if q.2.length = k + cap.length then some (.own (.lst q.1), capOut cap (q.2.drop k) (capIn cap p.2).2) else none := rfl
theorem ev_srcL : srcL fa Γ = (gFrz fa Γ).bind fun p => match p.1 with
  | .own (.frz (.lst ds)) => some (ds, p.2)
  | _ => none := rfl
theorem ev_srcR1 : srcR1 fs Γ = (fs Γ).bind fun p => (int1 p.1).map fun j => (rngD 0 j.toNat, p.2) := rfl
theorem ev_yes : gYes Γ = some (true, Γ) := rfl
theorem ev_name : ggName i d Γ = if i < Γ.length then some (Γ.set i (some (.frz d))) else none := rfl
theorem ev_gtup (gs : List GG) : ggTup gs (.tup ds) Γ = ggAll gs ds Γ := rfl
theorem ev_gall0 : ggAll [] [] Γ = some Γ := rfl
theorem ev_gall1 (gs : List GG) : ggAll (gg :: gs) (d :: ds) Γ = (gg d Γ).bind fun Γ1 => ggAll gs ds Γ1 := rfl
theorem ev_run (m : List Bool) : runM n m f os = (f (os.map some ++ List.replicate (n - os.length) none)).bind fun p => p.1.val.bind fun o => if p.2.length = n then some (o, keepM m (p.2.take os.length)) else none := rfl
theorem ev_loop1 : gsLoop gg f (d :: ds) Γ = (gg d Γ).bind fun Γ1 => (f Γ1).bind fun q => match q.1 with
  | .nx => gsLoop gg f ds q.2
  | .ct => gsLoop gg f ds q.2
  | .bk => some (.nx, q.2)
  | .rt o => some (.rt o, q.2) := rfl
theorem ev_cl0 : compLoop gg ft fa [] Γ os = some (os, Γ) := rfl
theorem ev_cl1 : compLoop gg ft fa (d :: ds) Γ os = (gg d Γ).bind fun Γ1 => (ft Γ1).bind fun p => if p.1 = true then
      (fa p.2).bind fun q => (ownL [q.1]).bind fun os' => if os.length < 1000000 then compLoop gg ft fa ds q.2 (os ++ os') else none
    else compLoop gg ft fa ds p.2 os := rfl
/-! operations -/
theorem ev_sl_str (z : Str) : slO (.frz (.str z)) l u = if z.length ≤ 1000000 then some (.frz (.str (Txt.slice z l u))) else none := rfl
theorem ev_ld1 : listD (.frz (.lst ds)) = some ds := rfl
theorem ev_ld2 : listD (.lst (ds.map .frz)) = some ds := frzL_frz ds
theorem ev_ld3 : listD (.lst os) = frzL os := rfl
theorem ev_fl0 : frzL [] = some [] := rfl
theorem ev_fl1 : frzL (.frz d :: os) = (frzL os).bind fun ds => some (d :: ds) := rfl
theorem ev_addI (a b : Int) : oAdd [.frz (.int a), .frz (.int b)] = some (.frz (.int (a + b))) := rfl
theorem ev_addS (a b : Str) : oAdd [.frz (.str a), .frz (.str b)] = if a.length + b.length ≤ 1000000 then some (.frz (.str (a ++ b))) else none := rfl
theorem ev_addL (a b : List O) : oAdd [.lst a, .lst b] = (listD (.lst a)).bind fun xs => (listD (.lst b)).bind fun ys => if xs.length + ys.length ≤ 1000000 then some (.lst ((xs ++ ys).map .frz)) else none := rfl
theorem ev_addF (a b : List D) : oAdd [.frz (.lst a), .frz (.lst b)] = if a.length + b.length ≤ 1000000 then some (.lst ((a ++ b).map .frz)) else none := rfl
theorem ev_int (C : Int → Int → Bool) (q : Int → Int → D) (a b : Int) : oInt C q [.frz (.int a), .frz (.int b)] = if C a b = true then some (.frz (q a b)) else none := rfl
theorem ev_mulI (a b : Int) : oMulA [.frz (.int a), .frz (.int b)] = if (-(2 ^ 64) < a ∧ a < 2 ^ 64) ∨ (-(2 ^ 64) < b ∧ b < 2 ^ 64) then some (.frz (.int (a * b))) else none := rfl
theorem ev_mulS (a : Str) (b : Int) : oMulA [.frz (.str a), .frz (.int b)] = if MulOk a b then some (.frz (.str (Txt.mul a b))) else none := rfl
theorem ev_neg (a : Int) : oNeg [.frz (.int a)] = some (.frz (.int (-a))) := rfl
theorem ev_ix (a : O) : oIx [a, .frz d] = oIx1 a d := rfl
theorem ev_ixL (k : Int) : oIx1 (.frz (.lst ds)) (.int k) = (atI ds k).map .frz := rfl
theorem ev_ixT (k : Int) : oIx1 (.frz (.tup ds)) (.int k) = (atI ds k).map .frz := rfl
theorem ev_ixO (k : Int) : oIx1 (.lst os) (.int k) = (atI os k).bind unfrz := rfl
theorem ev_ixS (z : Str) (k : Int) : oIx1 (.frz (.str z)) (.int k) = if z.length ≤ 1000000 then (atI z.cps.toList k).map fun c => .frz (.str ⟨#[c]⟩) else none := rfl
theorem ev_unfrz : unfrz (.frz d) = some (.frz d) := rfl
theorem ev_len (a : O) : oLen [a] = (lenD a.d).map fun n => .frz (.int n) := rfl
theorem ev_len1 : lenD (.lst ds) = some (ds.length : Int) := rfl
theorem ev_eq (a b : O) : oEq [a, b] = if okD 40 a.d = true ∧ okD 40 b.d = true then some (.frz (.bl (eqD a.d b.d))) else none := rfl
theorem ev_i1b (a : Bool) : oInt1 [.frz (.bl a)] = some (.frz (.int (if a then 1 else 0))) := rfl
theorem ev_setL (ps : List O) (v : O) (k : Int) : mSet (.lst ps) [v, .frz (.int k)] = (ixN ps.length k).map fun j => (.lst (ps.set j v), .frz .non) := rfl
theorem ev_take0 : takeArgs [] Γ = some ([], Γ) := rfl
theorem ev_take1 (rs : List R) : takeArgs (.own o :: rs) Γ = (takeArgs rs Γ).bind fun p => some (o :: p.1, p.2) := rfl
theorem ev_take2 (rs : List R) : takeArgs (.var i :: rs) Γ = match Γ[i]? with
    | some (some o) => (takeArgs rs (Γ.set i none)).bind fun p => some (o :: p.1, p.2)
    | _ => none := rfl
theorem ev_pb0 (fin : Gm) : putBack [] fin Γ = Γ := by cases fin <;> rfl
theorem ev_pb1 (rs : List R) (x : Option O) (fin : Gm) : putBack (.own o :: rs) (x :: fin) Γ = putBack rs fin Γ := rfl
theorem ev_pb2 (rs : List R) (x : Option O) (fin : Gm) : putBack (.var i :: rs) (x :: fin) Γ = (putBack rs fin Γ).set i x := rfl
theorem ev_see0 : seeL Γ [] = some [] := rfl
theorem ev_see1 (r : R) (rs : List R) : seeL Γ (r :: rs) = (seeR Γ r).bind fun o => (seeL Γ rs).bind fun os => some (o :: os) := rfl
theorem ev_seeO : seeR Γ (.own o) = some o := rfl
theorem ev_seeV : seeR Γ (.var i) = (Γ[i]?).join := rfl
theorem ev_own0 : ownL [] = some [] := rfl
theorem ev_own1 (rs : List R) : ownL (.own o :: rs) = (ownL rs).bind fun os => some (o :: os) := rfl
theorem ev_intR (k : Int) : intR (.own (.frz (.int k))) = some k := rfl
theorem ev_kt (m : List Bool) (x : Option O) : keepM (true :: m) (x :: Γ) = x :: keepM m Γ := rfl
theorem ev_kf (m : List Bool) (x : Option O) : keepM (false :: m) (x :: Γ) = none :: keepM m Γ := rfl
theorem ev_kn (m : List Bool) : keepM m [] = [] := by
  cases m with
  | nil => rfl
  | cons b m => cases b <;> rfl
theorem ev_vr : (Fl.rt o).val = some o := rfl
theorem ev_truB (b : Bool) : truO (.frz (.bl b)) = some b := rfl
theorem ev_truL : truO (.frz (.lst ds)) = some (!ds.isEmpty) := rfl
theorem ev_d1 : (O.frz d).d = d := rfl
theorem ev_d2 : (O.lst os).d = .lst (O.dl os) := rfl
theorem ev_d3 : (O.tup os).d = .tup (O.dl os) := rfl
theorem ev_dl0 : O.dl [] = [] := rfl
theorem ev_dl1 : O.dl (o :: os) = o.d :: O.dl os := rfl
theorem ev_dl2 : O.dl (ds.map .frz) = ds := dl_frz ds
end
theorem atI_lit0 {α : Type} (a : α) (l : List α) : atI (a :: l) 0 = some a := atI_nat (j := 0) rfl
theorem atI_lit1 {α : Type} (a b : α) (l : List α) : atI (a :: b :: l) 1 = some b := atI_nat (j := 1) rfl
theorem atI_lit2 {α : Type} (a b c : α) (l : List α) : atI (a :: b :: c :: l) 2 = some c := atI_nat (j := 2) rfl
theorem atI_lit3 {α : Type} (a b c d : α) (l : List α) : atI (a :: b :: c :: d :: l) 3 = some d := atI_nat (j := 3) rfl
theorem atI_lit4 {α : Type} (a b c d e : α) (l : List α) : atI (a :: b :: c :: d :: e :: l) 4 = some e := atI_nat (j := 4) rfl
theorem ev_sl_scr (ns : List Int) (l u : Option Int) : slO (.frz (.scr ns)) l u = some (.lst ((cutD (ns.map D.int) l u).map .frz)) := rfl
theorem ev_srcV (i : Nat) (cap : List Nat) (Γ : Gm) : srcV i cap Γ = if i ∈ cap then none else match Γ[i]? with
  | some (some (.lst os)) => (frzL os).map fun ds => (ds, Γ)
  | _ => none := rfl
theorem ev_capI0 (Γ : Gm) : capIn [] Γ = ([], Γ) := rfl
theorem ev_capI1 (i : Nat) (cap : List Nat) (Γ : Gm) : capIn (i :: cap) Γ = ((Γ[i]?).join :: (capIn cap (Γ.set i none)).1, (capIn cap (Γ.set i none)).2) := rfl
theorem ev_capO0 (x Γ : Gm) : capOut [] x Γ = Γ := by cases x <;> rfl
theorem ev_capO1 (i : Nat) (cap : List Nat) (x : Option O) (Γi Γ : Gm) : capOut (i :: cap) (x :: Γi) Γ = (capOut cap Γi Γ).set i x := rfl
theorem ev_callF (M : GM) (fs : GA) (Γ : Gm) : gCallF M fs Γ = (fs Γ).bind fun p => (seeL p.2 p.1).bind fun os => (M ((O.dl os).map .frz)).bind fun r => match r.1 with
  | .frz d => (flatOf d).bind fun _ => some (.own (.frz d), p.2)
  | _ => none := rfl
theorem ev_fo_s (a : Str) : flatOf (.str a) = some (.str a) := rfl
theorem ev_fo_b (a : Bool) : flatOf (.bl a) = some (.bl a) := rfl
theorem ev_ok_i (n : Nat) (a : Int) : okD n (.int a) = true := by cases n <;> rfl
theorem ev_ok_s (n : Nat) (a : Str) : okD n (.str a) = true := by cases n <;> rfl
theorem ev_ok_b (n : Nat) (a : Bool) : okD n (.bl a) = true := by cases n <;> rfl
theorem ev_q_i (a b : Int) : eqD (.int a) (.int b) = (a == b) := by unfold eqD; rfl
theorem ev_q_s (a b : Str) : eqD (.str a) (.str b) = (a == b) := by unfold eqD; rfl
end L2
set_option Elab.async false
set_option linter.all false
set_option maxRecDepth 100000
set_option maxHeartbeats 4000000
namespace L2
open PySem PySem.Spec PyProof.Rows
section
variable {X : Cx} {pins : List (Addr × Obj)} {s : Shared} {σ : St} {H : Hp}
end
section
variable {X : Cx} {K : PySem.W.Frag}
end
end L2
set_option Elab.async false
set_option linter.all false
set_option maxRecDepth 100000
set_option maxHeartbeats 4000000
namespace L2
open PySem
def compStep (g : GG) (ct : GT) (ce : GE) (d : D) (Γ : Gm) : Option (Option R × Gm) := (g d Γ).bind fun Γ1 => (ct Γ1).bind fun p => if p.1 = true then (ce p.2).bind fun q => some (some q.1, q.2) else some (none, p.2)
theorem comp_step {g : GG} {ct : GT} {ce : GE} {d : D} {ds : List D} {Γ Γ' : Gm} {os : List O} {r : Option R} (h : compStep g ct ce d Γ = some (r, Γ')) :
    compLoop g ct ce (d :: ds) Γ os = match r with
      | some r => (ownL [r]).bind fun os' => if os.length < 1000000 then compLoop g ct ce ds Γ' (os ++ os') else none
      | none => compLoop g ct ce ds Γ' os := by
  rw [ev_cl1]
  unfold compStep at h
  cases e1 : g d Γ with
  | none => rw [e1] at h; cases h
  | some Γ1 =>
    rw [e1] at h
    rw [Option.bind_some] at h ⊢
    cases e2 : ct Γ1 with
    | none => rw [e2] at h; cases h
    | some p =>
      rw [e2] at h
      rw [Option.bind_some] at h ⊢
      by_cases hp : p.1 = true
      · rw [if_pos hp] at h ⊢
        cases e3 : ce p.2 with
        | none => rw [e3] at h; cases h
        | some q => rw [e3] at h; cases h; rfl
      · rw [if_neg hp] at h ⊢
        cases h
        rfl
theorem comp_gen {α : Type} {g : GG} {ct : GT} {ce : GE} (St : Gm → Prop) (enc : α → D) (p : α → Bool) (val : α → D) : ∀ (xs : List α) (acc : List D) (Γ : Gm), St Γ → acc.length + xs.length < 1000000 →
    (∀ x ∈ xs, ∀ Γ, St Γ → ∃ Γ', compStep g ct ce (enc x) Γ = some (if p x = true then some (.own (.frz (val x))) else none, Γ') ∧ St Γ') →
    ∃ Γ', St Γ' ∧ compLoop g ct ce (xs.map enc) Γ (acc.map .frz) = some ((acc ++ (xs.filter p).map val).map .frz, Γ')
  | [], acc, Γ, hS, _, _ => ⟨Γ, hS, by rw [List.map_nil, ev_cl0, List.filter_nil, List.map_nil, List.append_nil]⟩
  | x :: xs, acc, Γ, hS, hl, h => by
    rw [List.length_cons] at hl
    obtain ⟨Γ1, e1, s1⟩ := h x (.head _) Γ hS
    by_cases hp : p x = true
    · rw [if_pos hp] at e1
      rw [List.map_cons, comp_step e1]
      obtain ⟨Γ2, s2, e2⟩ := comp_gen St enc p val xs (acc ++ [val x]) Γ1 s1 (by rw [List.length_append, List.length_singleton]; omega) fun y hy => h y (.tail _ hy)
      refine ⟨Γ2, s2, ?_⟩
      show (if (acc.map O.frz).length < 1000000 then compLoop g ct ce (xs.map enc) Γ1 (acc.map O.frz ++ [O.frz (val x)]) else none) = _
      rw [if_pos (by rw [List.length_map]; omega), List.filter_cons_of_pos hp, List.map_cons, show acc ++ val x :: (xs.filter p).map val = acc ++ [val x] ++ (xs.filter p).map val by simp, ← e2, List.map_append]
      rfl
    · rw [if_neg hp] at e1
      rw [List.map_cons, comp_step e1]
      obtain ⟨Γ2, s2, e2⟩ := comp_gen St enc p val xs acc Γ1 s1 (by omega) fun y hy => h y (.tail _ hy)
      refine ⟨Γ2, s2, ?_⟩
      rw [List.filter_cons_of_neg hp]
      exact e2
theorem ev_cstep (g : GG) (ct : GT) (ce : GE) (d : D) (Γ : Gm) : compStep g ct ce d Γ = (g d Γ).bind fun Γ1 => (ct Γ1).bind fun p => if p.1 = true then (ce p.2).bind fun q => some (some q.1, q.2) else some (none, p.2) := rfl
theorem ev_app (ds : List D) (d : D) : mAppend (.lst (ds.map .frz)) [.frz d] = if ds.length < 1000000 then some (.lst ((ds ++ [d]).map .frz), .frz .non) else none := by
  show (if (ds.map O.frz).length < 1000000 then _ else _) = _
  rw [List.length_map, List.map_append]
  rfl
theorem loop_gen {α : Type} {g : GG} {f : GS} (enc : α → D) (P : List α → Gm → Prop) : ∀ (xs pre : List α) (Γ : Gm), P pre Γ →
    (∀ q x post Γ, xs = q ++ x :: post → P (pre ++ q) Γ → ∃ Γ2, (g (enc x) Γ).bind f = some (.nx, Γ2) ∧ P (pre ++ q ++ [x]) Γ2) → ∃ Γ', gsLoop g f (xs.map enc) Γ = some (.nx, Γ') ∧ P (pre ++ xs) Γ'
  | [], pre, Γ, h, _ => ⟨Γ, rfl, by rw [List.append_nil]; exact h⟩
  | x :: xs, pre, Γ, h, st => by
    obtain ⟨Γ2, h2, h3⟩ := st [] x xs Γ rfl (by rw [List.append_nil]; exact h)
    rw [List.append_nil] at h3
    obtain ⟨Γ', h4, h5⟩ := loop_gen enc P xs (pre ++ [x]) Γ2 h3 fun q y post Γ e p => by
      obtain ⟨Γ2, b, c⟩ := st (x :: q) y post Γ (by rw [e]; rfl) (by rw [show pre ++ x :: q = pre ++ [x] ++ q by simp]; exact p)
      exact ⟨Γ2, b, by rw [show pre ++ [x] ++ q ++ [y] = pre ++ x :: q ++ [y] by simp]; exact c⟩
    refine ⟨Γ', ?_, by rw [show pre ++ x :: xs = pre ++ [x] ++ xs by simp]; exact h5⟩
    rw [List.map_cons, ev_loop1]
    cases q : g (enc x) Γ with
    | none => rw [q] at h2; cases h2
    | some Γ1 =>
      rw [q] at h2
      have h2 : f Γ1 = some (.nx, Γ2) := h2
      show (f Γ1).bind _ = _
      rw [h2]
      exact h4
theorem loop_inv {α : Type} {g : GG} {f : GS} (enc : α → D) (P : Gm → Prop) (xs : List α) (Γ : Gm) (h : P Γ) (st : ∀ x ∈ xs, ∀ Γ, P Γ → ∃ Γ2, (g (enc x) Γ).bind f = some (.nx, Γ2) ∧ P Γ2) : ∃ Γ', gsLoop g f (xs.map enc) Γ = some (.nx, Γ') ∧ P Γ' :=
  loop_gen enc (fun _ Γ => P Γ) xs [] Γ h fun q x post Γ e p => st x (by rw [e]; simp) Γ p
end L2
set_option Elab.async false
set_option linter.all false
set_option maxRecDepth 100000
set_option maxHeartbeats 4000000
namespace L2
open PySem PySem.Spec PyProof.Rows
def Itrev (K : PySem.W.Frag) (a : Addr) (n : Nat) : It :=
  ⟨fun i H => i < n ∧ ∃ xs, SqL K H a xs ∧ xs.length = n, fun i H x H' => H' = H ∧ ∀ xs, SqL K H a xs → xs[n - 1 - i]? = some x, fun i H => n ≤ i⟩
theorem turn_rev {P : Program} {w : World} {K : PySem.W.Frag} {tg : Expr} (a it : Addr) (n : Nat) : Turn P w K tg (Itrev K a n) [it] it (fun i h => i ≤ n ∧ h.IsRevIter it a ((n : Int) - 1 - i)) where
  mem := by simp
  obj := fun i h st b hb => by
    have e : b = it := by simpa using hb
    subst e
    obtain ⟨_, o, e, c, d⟩ := st
    exact ⟨o, e, fun v z => by rw [d] at z; cases z⟩
  keep := fun i h h' st k => ⟨st.1, st.2.at fun o e => k it (by simp) o e⟩
  item := by
    intro X hP hw hK hc i pins s σ H E I hf st hg
    subst hP hw hK
    obtain ⟨hi, xs, hq, hx⟩ := hg
    obtain ⟨its, rv, p, hz⟩ := I.list hq
    have hx' : xs[n - 1 - i]? = some xs[n - 1 - i] := List.getElem?_eq_getElem (by omega)
    obtain ⟨u, hu, ru⟩ := rv.get hx'
    obtain ⟨f0, f1, f2, f3, f4, f5⟩ := hf it (by simp)
    have st2 : s.heap.IsRevIter it a (((n - 1 - i : Nat) : Int)) := by
      have := st.2
      rwa [show ((n : Int) - 1 - i) = ((n - 1 - i : Nat) : Int) by omega] at this
    refine wpAny_pyNext_rev_item st2 p.isList (x := u) (by simpa using hu) fun h' st' sb => ?_
    have I1 : Inv X pins σ H { s with heap := h' } := I.turned (t' := s.toks) (fun b o hb e => (sb.2 b hb).trans e) f0 f1 f3 f4 f5
    obtain ⟨o, e, c, d⟩ := id st'
    refine ⟨u, rfl, go_of (s := { s with heap := h' }) e c d (by decide) ⟨_, H, I1, ru, ⟨rfl, fun ys hy => by rw [I.list_inj hy hq]; exact hx'⟩, ⟨by omega, ?_⟩, fun b hb => (hf b hb).1⟩⟩
    rw [show ((n : Int) - 1 - ((i + 1 : Nat) : Int)) = ((n - 1 - i : Nat) : Int) - 1 by omega]
    exact st'
  done := by
    intro X hP hw hK hc i pins s σ H E I hf st hg
    subst hP hw hK
    obtain ⟨f0, f1, f2, f3, f4, f5⟩ := hf it (by simp)
    have hg : n ≤ i := hg
    have st2 : s.heap.IsRevIter it a (-1) := by
      have := st.2
      rwa [show ((n : Int) - 1 - i) = -1 by have := st.1; omega] at this
    exact wpAny_pyNext_rev_end (I.ok.hd hc) st2 fun h' eb => ⟨rfl, I.turned (t' := s.toks) (fun b o hb e => eb b o hb e) f0 f1 f3 f4 f5⟩
  self := fun _ _ _ _ _ st h => wpAny_pyIter_revIter st.2 h
def iRev (K : PySem.W.Frag) (ta : TA) : TI := fun σ H R => ta σ H fun vs H1 => ∃ a xs, vs = [.ref a] ∧ SqL K H1 a xs ∧ R (Itrev K a xs.length) H1
theorem pi_rev {X : Cx} {tg l : Expr} {ta : TA} {p pos : Pos} (hg : Gl X "reversed") (hm : X.mg "reversed" = none) (ha : PA X [l] ta) (hs : starEach [l] X.env = [(false, eval l X.env)] := by rfl) : PI X tg (.Call (.Name "reversed" p) [l] [] pos) (iRev X.K ta) := by
  intro pins s σ H R I h
  refine Call_ (ld_blt I hg hm boot_reversed (PyProof.Rows.callWith_type1 (thn (ha pos pins s σ H _ I h) fun us s1 ⟨vs, H1, I1, r1, q1⟩ => ?_) hs rfl))
  obtain ⟨a, xs, e, hq, q⟩ := q1
  subst e
  cases r1 with
  | cons r rr =>
    cases rr
    cases r
    obtain ⟨its, rv, pl, hz⟩ := I1.list hq
    have hl := rv.length
    refine call_reversed_list pl.isList ?_
    have st : (s1.heap.push (revObj a ((its.toArray.size : Int) - 1))).IsRevIter s1.heap.objs.size a ((its.toArray.size : Int) - 1) := ⟨_, Heap.get?_push_size _ rfl, rfl, rfl⟩
    refine wpAny_pyIter_revIter st ?_
    refine ⟨s1.heap.objs.size, [s1.heap.objs.size], _, _, H1, rfl, I1.kept (t' := s1.toks) fun b o e => Heap.get?_push_of_some _ e, turn_rev a _ xs.length, ⟨Nat.zero_le _, ?_⟩, fun b hb => ?_, q⟩
    · rw [show ((xs.length : Int) - 1 - ((0 : Nat) : Int)) = (its.toArray.size : Int) - 1 by rw [List.size_toArray, hl]; simp]
      exact st
    · have e : b = s1.heap.objs.size := by simpa using hb
      subst e
      exact I1.fpOk (Nat.le_refl _) (I1.hok.fresh (Nat.le_refl _))
theorem for_rev {K : PySem.W.Frag} {a : Addr} {xs : List V} {g : TG} {tb : TS} {D : Ends} {σ : St} {H : Hp} (Pv : Nat → St → Hp → Prop) (h0 : Pv 0 σ H) (hl : ∀ i σ H, i ≤ xs.length → Pv i σ H → SqL K H a xs)
    (hs : ∀ i x σ H, i < xs.length → xs[xs.length - 1 - i]? = some x → Pv i σ H → g x σ H fun σ2 H2 => tb { D with nx := Pv (i + 1), ct := Pv (i + 1), bk := D.nx } σ2 H2) (hd : ∀ σ H, Pv xs.length σ H → D.nx σ H) :
    ∃ W : Nat → Nat → St → Hp → Prop, (∃ m, W 0 m σ H) ∧ ∀ i m σ H, W i m σ H →
      ((Itrev K a xs.length).stop i H ∧ D.nx σ H) ∨ ((Itrev K a xs.length).go i H ∧ ∃ N : St → Hp → Prop, (∀ σ' H', N σ' H' → ∃ m', m' < m ∧ W (i + 1) m' σ' H') ∧ ∀ x H', (Itrev K a xs.length).yld i H x H' → g x σ H' fun σ2 H2 => tb { D with nx := N, ct := N, bk := D.nx } σ2 H2) := by
  refine ⟨fun i m σ H => m = xs.length - i ∧ i ≤ xs.length ∧ Pv i σ H, ⟨xs.length, by simp, Nat.zero_le _, h0⟩, ?_⟩
  rintro i m σ H ⟨rfl, hi, p⟩
  have q := hl i σ H hi p
  by_cases hlt : i < xs.length
  · refine .inr ⟨⟨hlt, xs, q, rfl⟩, Pv (i + 1), fun σ' H' p' => ⟨xs.length - (i + 1), by omega, rfl, hlt, p'⟩, fun x H' y => ?_⟩
    obtain ⟨e, y⟩ := y
    subst e
    exact hs i x σ _ hlt (y xs q) p
  · exact .inl ⟨by show xs.length ≤ i; omega, hd σ H (by rw [show xs.length = i by omega]; exact p)⟩
section
variable {X : Cx} {K : PySem.W.Frag} {fa fk fv : GE} {f : GS} {m : List Bool} {tg l : Expr} {t : TG} {gg : GG} {body : List Stmt} {p0 p1 pos : Pos}
def gsForR (fa : GE) (gg : GG) (f : GS) : GS := fun Γ => (gFrz fa Γ).bind fun p => match p.1 with
  | .own (.frz (.lst ds)) => gsLoop gg f ds.reverse p.2
  | _ => none
theorem ds_forR (hp : PassesOwn (model X.prog X.w) X.A X.env X.xe) (hm : X.mg "reversed" = none) (hi : PE X l (tG K fa)) (hg : PG X tg t) (ht : TgOk K m t gg) (hb : PSs X body (tS K m f)) (hc : X.calm = true := by rfl) (hgl : Gl X "reversed" := by rfl) (hst : starEach [l] X.env = (false, eval l X.env) :: starEach [] X.env := by rfl) (hst2 : starEach [l] X.env = [(false, eval l X.env)] := by rfl) (hK : X.K = K := by rfl) (hs : ∀ x, foldedSetIterable (.Call (.Name "reversed" p0) [l] [] p1) X.env x = pure x := by intro _; rfl) : PS X (.For tg (.Call (.Name "reversed" p0) [l] [] p1) body [] pos) (tS K m (gsForR fa gg f)) := by
  subst hK
  refine (ps_for hp hc (pi_rev hgl hm (da_cons (de_frz hi) da_nil hst) hst2) hg hb hs).mono fun D σ H tt => ?_
  obtain ⟨F, A, Γ, fl, Γ', k, e, w⟩ := tt
  unfold gsForR at e
  cases q : gFrz fa Γ with
  | none => rw [q] at e; cases e
  | some p =>
    obtain ⟨r, Γ1⟩ := p
    rw [q] at e
    dsimp only [Option.bind] at e
    cases r with
    | var i => cases e
    | own o =>
      cases o with
      | frz d =>
        cases d with
        | lst ds =>
          refine ⟨F, A, Γ, [.own (.frz (.lst ds))], Γ1, k, by rw [ev_aCons, q]; rfl, fun vs H1 pp => ?_⟩
          obtain ⟨F1, A1, x, k1, hh⟩ := pp
          have hlv := hh.length
          obtain ⟨v, rfl⟩ : ∃ v, vs = [v] := by
            match vs, hlv with
            | [v], _ => exact ⟨v, rfl⟩
          obtain ⟨B, C, h1, h2, h3⟩ := OwnL.one (σ := σ) (Γ := Γ1) k1.os
          cases h1 with
          | frz rp tl =>
            cases rp with
            | flat z _ => cases z
            | @lst a ws vs es ds' sq ri _ =>
              refine ⟨a, ws, rfl, .inl (k1.le.rd sq), ?_⟩
              have hl := ri.length
              refine for_rev (xs := ws) (fun i σ' H' => ∃ F' A' Γc, OK X.K F' H' σ' Γc A' ∧ gsLoop gg f (ds.reverse.drop i) Γc = some (fl, Γ') ∧ Done X.K m D F' H' A' σ' fl Γ' ∧ Same F1 F') ?_ ?_ ?_ ?_
              · subst h3
                exact ⟨F1, _, Γ1, (k1.sub h2 (.of_sub (List.sublist_append_right _ _))).1, e, w.step (x.own' fun a m => List.mem_append_right _ m) Kept.refl, Same.refl _⟩
              · rintro i σ' H' hi ⟨F', A', Γc, k', e', w', s'⟩
                exact .inl ((s'.trans k'.le).rd sq)
              · rintro i x' σ' H' hlt hx ⟨F', A', Γc, k', e', w', s'⟩
                have hi : i < ds.reverse.length := by rw [List.length_reverse]; omega
                have ed : ds.reverse.drop i = ds.reverse[i] :: ds.reverse.drop (i + 1) := List.drop_eq_getElem_cons hi
                have er : ds.reverse[i] = ds[ds.length - 1 - i]'(by rw [List.length_reverse] at hi; omega) := List.getElem_reverse ..
                obtain ⟨x2, hx2, rx⟩ := ri.get (i := ws.length - 1 - i) (d := ds.reverse[i]) (by rw [er, hl]; exact List.getElem?_eq_getElem _)
                rw [hx] at hx2
                cases hx2
                rw [ed] at e'
                exact loop_turn ht k' (rx.mono s') e' w' fun F2 H2 σ2 Γ2 A2 x2 k2 e2 w2 => ⟨F2, A2, Γ2, k2, e2, w2, s'.trans x2.ff⟩
              · rintro σ' H' ⟨F', A', Γc, k', e', w', s'⟩
                rw [List.drop_of_length_le (by rw [List.length_reverse, ri.length]; exact Nat.le_refl _)] at e'
                exact loop_end k' e' w'
        | _ => cases e
      | _ => cases e
theorem ev_forR (fa : GE) (gg : GG) (f : GS) (Γ : Gm) : gsForR fa gg f Γ = (gFrz fa Γ).bind fun p => match p.1 with
  | .own (.frz (.lst ds)) => gsLoop gg f ds.reverse p.2
  | _ => none := rfl
def minL : List Int → Int
  | [] => 0
  | x :: xs => xs.foldl (fun a b => if b < a then b else a) x
theorem minL_fold (xs : List Int) : ∀ x : Int, (xs.foldl (fun a b => if b < a then b else a) x ≤ x ∧ ∀ y ∈ xs, xs.foldl (fun a b => if b < a then b else a) x ≤ y) ∧ (xs.foldl (fun a b => if b < a then b else a) x = x ∨ xs.foldl (fun a b => if b < a then b else a) x ∈ xs) := by
  induction xs with
  | nil => intro x; exact ⟨⟨Int.le_refl _, fun y m => by cases m⟩, .inl rfl⟩
  | cons z xs ih =>
    intro x
    obtain ⟨⟨h1, h2⟩, h3⟩ := ih (if z < x then z else x)
    rw [List.foldl_cons]
    have hle : (if z < x then z else x) ≤ x ∧ (if z < x then z else x) ≤ z := by split <;> omega
    refine ⟨⟨by omega, fun y m => ?_⟩, ?_⟩
    · rcases List.mem_cons.mp m with rfl | m
      · omega
      · exact h2 y m
    · rcases h3 with h3 | h3
      · rw [h3]
        by_cases hz : z < x
        · rw [if_pos hz]; exact .inr (.head _)
        · rw [if_neg hz]; exact .inl rfl
      · exact .inr (.tail _ h3)
theorem minL_spec {xs : List Int} (h : xs ≠ []) : minL xs ∈ xs ∧ ∀ y ∈ xs, minL xs ≤ y := by
  cases xs with
  | nil => exact absurd rfl h
  | cons x xs =>
    obtain ⟨⟨h1, h2⟩, h3⟩ := minL_fold xs x
    refine ⟨?_, fun y m => ?_⟩
    · rcases h3 with h3 | h3
      · show List.foldl _ x xs ∈ _
        rw [h3]; exact .head _
      · exact .tail _ h3
    · rcases List.mem_cons.mp m with rfl | m
      · exact h1
      · exact h2 y m
theorem vals_intsT : ∀ {is : List Int} {its : List Value}, Vals (is.map V.int) its → ∃ ps : List (Int × Tok), its = ps.map (fun p => Value.int p.1 p.2) ∧ ps.map (·.1) = is
  | [], its, h => by
    rw [List.map_nil] at h
    cases h
    exact ⟨[], rfl, rfl⟩
  | i :: is, its, h => by
    rw [List.map_cons] at h
    cases h with
    | cons r t =>
      obtain ⟨ps, e1, e2⟩ := vals_intsT t
      obtain ⟨tk, rfl⟩ := r
      exact ⟨(i, tk) :: ps, by rw [e1]; rfl, by rw [List.map_cons, e2]⟩
theorem call_min (K : PySem.W.Frag) (hc : X.calm = true := by rfl) (hK : X.K = K := by rfl) : CallR X (.builtin "min") (fun xs H Q => ∃ (a : Addr) (is : List Int), xs = [.ref a] ∧ SqL K H a (is.map V.int) ∧ is ≠ [] ∧ Q (.int (minL is)) H) := by
  subst hK
  intro pins s σ H xs us Q I r h
  obtain ⟨a, is, rfl, hs, hne, q⟩ := h
  obtain ⟨u, rfl, ru⟩ := vals1 r
  cases ru
  obtain ⟨its, rv, p, hz⟩ := I.list hs
  obtain ⟨ps, e1, e2⟩ := vals_intsT rv
  subst e1
  have hl : 0 < ps.length := by
    cases ps with
    | nil => exact absurd e2.symm hne
    | cons _ _ => simp
  have el : (ps.map fun p => Value.int p.1 p.2).toArray = intItems ps.toArray := by unfold intItems; simp
  have pl := p.isList
  rw [el] at pl
  refine min_intList (I.ok.hd hc) pl (by simpa using hl) fun v h' tk hv hk => ?_
  obtain ⟨b1, b2⟩ := argBest_lt (numAt ps.toArray) (ps.toArray.size - 1)
  generalize argBest (fun i j => decide (numAt ps.toArray i < numAt ps.toArray j)) (ps.toArray.size - 1) = n at *
  have hn : n < ps.length := by simp at b1; omega
  have hnum : ∀ j (hj : j < ps.length), numAt ps.toArray j = (ps[j]).1 := fun j hj => by unfold numAt; simp [hj]
  have hv' : v = Value.int (ps[n]).1 (ps[n]).2 := by
    unfold intItems at hv
    simp [hn] at hv
    exact hv.symm
  have hm : minL is = (ps[n]).1 := by
    obtain ⟨m1, m2⟩ := minL_spec hne
    have i1 : (ps[n]).1 ∈ is := by rw [← e2]; exact List.mem_map_of_mem (f := (·.1)) (List.getElem_mem hn)
    have c1 := m2 _ i1
    rw [← e2] at m1
    obtain ⟨pp, hp1, hp2⟩ := List.mem_map.mp m1
    obtain ⟨j, hj, ej⟩ := List.mem_iff_getElem.mp hp1
    have c2 := b2 j (by simp; omega)
    rw [hnum n hn, hnum j hj, ej] at c2
    rw [e2] at hp2
    omega
  rw [hv']
  exact ⟨.int (minL is), H, I.kept (h' := h') (t' := tk) fun b o e => hk b o e, ⟨(ps[n]).2, by rw [hm]⟩, q⟩
def intsD : List D → Option (List Int)
  | [] => some []
  | .int i :: ds => (intsD ds).map fun is => i :: is
  | _ => none
theorem intsD_map : ∀ is : List Int, intsD (is.map .int) = some is
  | [] => rfl
  | i :: is => by rw [List.map_cons]; show (intsD (is.map .int)).map _ = _; rw [intsD_map is]; rfl
theorem intsD_inv : ∀ {ds : List D} {is : List Int}, intsD ds = some is → ds = is.map .int
  | [], is, e => by cases e; rfl
  | d :: ds, is, e => by
    cases d with
    | int i =>
      obtain ⟨js, e1, e2⟩ := Option.map_eq_some_iff.mp (show (intsD ds).map _ = some is from e)
      rw [← e2, intsD_inv e1]
      rfl
    | _ => cases e
theorem rep_int_inv {F : Hp} : ∀ {ws : List V} {is : List Int}, RepL K F ws (is.map .int) → ws = is.map .int
  | [], [], _ => rfl
  | [], _ :: _, h => by have := h.length; simp at this
  | _ :: _, [], h => by have := h.length; simp at this
  | w :: ws, i :: is, h => by
    rw [List.map_cons] at h
    have h1 := h.inv.1
    have h2 := rep_int_inv h.inv.2
    rw [h2, List.map_cons]
    cases h1 with
    | flat e _ => cases e; rfl
def oMin : List O → Option O
  | [o] => (listD o).bind fun ds => (intsD ds).bind fun is => if is = [] then none else some (.frz (.int (minL is)))
  | _ => none
theorem ok_min : OpOk K (fun xs H Q => ∃ (a : Addr) (is : List Int), xs = [.ref a] ∧ SqL K H a (is.map V.int) ∧ is ≠ [] ∧ Q (.int (minL is)) H) oMin := by
  intro F H vs os o Q le see e res
  unfold oMin at e
  split at e
  · rename_i o'
    obtain ⟨ds, e1, e2⟩ := Option.bind_eq_some_iff.mp e
    obtain ⟨is, e3, e4⟩ := Option.bind_eq_some_iff.mp e2
    split at e4
    · cases e4
    · rename_i hne
      cases e4
      obtain ⟨x, B, rfl, h1⟩ := see.one
      obtain ⟨a, ws, rfl, sq, ri⟩ := own_list le h1 e1
      rw [intsD_inv e3] at ri
      have := rep_int_inv ri
      subst this
      exact ⟨a, is, rfl, sq, hne, res.flat rfl⟩
  · cases e
theorem ev_min (is : List Int) (h : is ≠ []) : oMin [.frz (.lst (is.map .int))] = some (.frz (.int (minL is))) := by
  show ((listD (.frz (.lst (is.map .int)))).bind fun ds => (intsD ds).bind fun is => if is = [] then none else some (O.frz (.int (minL is)))) = _
  rw [ev_ld1, Option.bind_some, intsD_map, Option.bind_some, if_neg h]
def gDict1 (fk fv : GE) : GE := fun Γ => (fk Γ).bind fun p => (fv p.2).bind fun q => match p.1, q.1 with
  | .own (.frz dk), .own (.frz dv) => (keyD dk).map fun k => (.own (.dct [(k, .frz dv)]), q.2)
  | _, _ => none
theorem ev_dict1 (fk fv : GE) (Γ : Gm) : gDict1 fk fv Γ = (fk Γ).bind fun p => (fv p.2).bind fun q => match p.1, q.1 with
  | .own (.frz dk), .own (.frz dv) => (keyD dk).map fun k => (.own (.dct [(k, .frz dv)]), q.2)
  | _, _ => none := rfl
def tDispG (K : PySem.W.Frag) (tk tv : TE) : TE := fun σ H Q => ∀ p, H p = none → tk σ (upd H p (.dG [])) fun x H1 => tv σ H1 fun y H2 => ∃ k : TK, H2 p = some (.dG []) ∧ RepL K H2 [x] [k.d] ∧ k.ok 8 = true ∧ Q (.ref p) (upd H2 p (.dG [(k, x, y)]))
theorem pe_dispG {ek ev : Expr} {tk tv : TE} (hu : X.A.units + 41 < cLine) (hk : PE X ek tk) (hv : PE X ev tv) : PE X (.Dict [some ek] [ev] pos) (tDispG X.K tk tv) := by
  intro pins s σ H Q I q
  have hn := I.hok.fresh (Nat.le_refl s.heap.objs.size)
  have I1 := I.laid (a := s.heap.objs.size) (o := .dG []) (h' := s.heap.push { cls := .type "dict", data := .dict #[] }) (t' := s.toks) (fun _ _ q => Heap.get?_push_of_some _ q) (Nat.le_refl _) (dg_empty s.heap I.big)
  rw [arm_eval_Dict, zip_pairTrees [some ek] [ev] X.env pos rfl rfl, dictDisplay_pairs _ (by simp [pairTrees]) (by show 1 < 17; decide)]
  refine wpAny_bind (wpAny_standAt (wpAny_bind ?_))
  unfold subDict
  refine wpAny_bind (wpAny_alloc (wpAny_bind (wpAny_holding ?_)))
  rw [if_pos (by show 1 ≤ 15; decide)]
  refine wpAny_bind (pairTrees_cons_walk (thn (hk pins _ σ _ _ I1 (q _ hn)) fun u s1 ⟨x, H1, I1', rx, q1⟩ => thn (hv pins s1 σ H1 _ I1' q1) fun w2 s2 ⟨y, H2, I2, ry, k, e, rk, ok, q2⟩ => pairTrees_nil_walk ?_))
  refine wpAny_holding (wpAny_bind ?_)
  rw [List.forIn_cons]
  refine wpAny_bind (wpAny_bind (x_dictSet (by omega) I2 ⟨[], k, e, .nil, rk, ok, by rw [sizeLine_eq]; decide, rfl⟩ rx ry fun s' I' => wpAny_pure ?_))
  dsimp only
  rw [List.forIn_nil]
  exact wpAny_pure (wpAny_pure (wpAny_pure (wpAny_pure ⟨.ref _, _, I', rfl, q2⟩)))
theorem de_dict1 {ek ev : Expr} (hu : X.A.units + 41 < cLine) (hk : PE X ek (tG K fk)) (hv : PE X ev (tG K fv)) (hK : X.K = K := by rfl) : PE X (.Dict [some ek] [ev] pos) (tG K (gDict1 fk fv)) := (pe_dispG hu hk hv).mono fun σ H Q t => by
  subst hK
  obtain ⟨F, A, Γ, rr, Γ', k, e, w⟩ := t
  unfold gDict1 at e
  obtain ⟨⟨r1, Γ1⟩, e1, e'⟩ := Option.bind_eq_some_iff.mp e
  clear e
  obtain ⟨⟨r2, Γ2⟩, e2, e⟩ := Option.bind_eq_some_iff.mp e'
  clear e'
  dsimp only at e2 e
  split at e
  · rename_i dk dv
    obtain ⟨key, ek, e⟩ := Option.map_eq_some_iff.mp e
    cases e
    intro p hn
    have nA : p ∉ A := fun m => k.os.there p m hn
    have s : Same H (upd H p (.dG [])) := same_upd hn
    have k0 : OK X.K F (upd H p (.dG [])) σ Γ A := ⟨k.le.trans s, k.os.keep (Same.refl _) fun a _ o e => s a o e, k.nd, k.fr⟩
    refine ⟨F, A, Γ, _, Γ1, k0, e1, fun x H1 pp => ?_⟩
    obtain ⟨F1, A1, x1, k1, hh1⟩ := pp
    have k1 : OK X.K F1 H1 ([some x] ++ σ) ([some (.frz dk)] ++ Γ1) A1 := k1
    obtain ⟨C, kC, fr⟩ := k1.frame rfl
    refine ⟨F1, C, Γ1, _, Γ', kC, e2, fun y H2 pp => ?_⟩
    obtain ⟨F2, A2, x2, k2, hh2⟩ := pp
    obtain ⟨A3, x3, k3⟩ := fr _ _ _ _ _ x2 k2
    have k3 : OK X.K F2 H2 (some x :: some y :: σ) (some (.frz dk) :: some (.frz dv) :: Γ') A3 := k3
    have x13 := x1.trans x3
    have hp2 : H2 p = some (.dG []) := x13.keep p _ upd_same nA
    obtain ⟨B1, C1, o1, o2, q1⟩ := OwnL.one k3.os
    obtain ⟨B2, C2, o3, o4, q2⟩ := OwnL.one o2
    have rx : RepL X.K F2 [x] [key.d] := by rw [(keyD_ok ek).1]; exact own_rep1 o1
    have rv := own_rep1 o3
    refine ⟨key, hp2, rx.mono k3.le, (keyD_ok ek).2, w (.ref p) _ ?_⟩
    have np : ∀ a ∈ A3, a ≠ p := fun a m z => by
      subst z
      rcases x13.own a m with z | z
      · exact nA z
      · rw [upd_same] at z; cases z
    have kp : ∀ a ∈ A3, ∀ o, H2 a = some o → upd H2 p (.dG [(key, x, y)]) a = some o := fun a m o e => by rw [upd_ne (np a m)]; exact e
    subst q2 q1
    have hsub : ∀ a ∈ C2, a ∈ B1 ++ (B2 ++ C2) := fun a m => List.mem_append_right _ (List.mem_append_right _ m)
    have F2p : F2 p = none := by
      cases eF : F2 p with
      | none => rfl
      | some o =>
        rcases x13.new p (by rw [eF]; exact fun z => by cases z) with z | z | z
        · exact absurd (k.le.free hn) z
        · exact absurd z nA
        · rw [upd_same] at z; cases z
    have nd3 := k3.nd
    rw [List.nodup_append] at nd3
    have nd4 := nd3.2.1
    rw [List.nodup_append] at nd4
    refine ⟨F2, p :: [] ++ C2, ⟨x13.ff, fun a o e n => ?_, fun a h => ?_, fun a h => ?_, fun a m => ?_⟩, ⟨fun a o e => ?_, ?_, ?_, ?_⟩, True.intro⟩
    · have := x13.keep a o (s a o e) n
      rw [upd_ne (ne_of_none e hn)]; exact this
    · by_cases z : a = p
      · rw [z, upd_same]; exact fun z => by cases z
      · rw [upd_ne z]; exact x13.dom a (fun z' => h (s.free z'))
    · rcases x13.new a h with z | z | z
      · exact .inl z
      · exact .inr (.inl z)
      · exact .inr (.inr (s.free z))
    · rcases List.mem_cons.mp m with rfl | m
      · exact .inr hn
      · rcases x13.own a (hsub a m) with z | z
        · exact .inl z
        · exact .inr (s.free z)
    · have h1 := k3.le a o e
      rw [upd_ne (fun z => by rw [z, F2p] at e; cases e)]; exact h1
    · exact .dct (A := []) (B := C2) upd_same rfl rx (.frz rv .nil) (o4.keep (Same.refl _) fun a m => kp a (hsub a m))
    · exact List.nodup_cons.mpr ⟨fun m => np p (hsub p m) rfl, nd4.2.1⟩
    · intro a m
      rcases List.mem_cons.mp m with rfl | m
      · exact F2p
      · exact k3.fr a (hsub a m)
  · cases e
end
end L2
set_option Elab.async false
set_option linter.all false
set_option maxRecDepth 100000
set_option maxHeartbeats 4000000
namespace L2
open PySem PySem.Spec PyProof.Rows
section
variable {X : Cx} {K : PySem.W.Frag} {fo f : GE} {fs : GA} {g : List O → Option O} {r : V → List V → Hp → VK → Prop} {o e : Expr} {es : List Expr} {name : Str} {id : String} {apos cpos pos : Pos}
def rMeth (r : V → List V → Hp → VK → Prop) : List V → Hp → VK → Prop := fun vs H Q => ∃ x xs, vs = x :: xs ∧ r x xs H Q
end
end L2
set_option Elab.async false
set_option linter.all false
set_option maxRecDepth 100000
set_option maxHeartbeats 4000000
namespace L2
open PySem PySem.Spec PyProof.Rows
section
variable {X : Cx} {pins : List (Addr × Obj)} {σ : List (Option V)} {H : Hp} {s : Shared} {h' : Heap}
end
section
variable {X : Cx} {K : PySem.W.Frag} {fa fb : GE} {f : GS} {m : List Bool} {l l' : Expr} {elts : List Expr} {x1 : Nat} {tpos : Pos} {t : TG} {gg : GG} {body : List Stmt} {p0 p1 pos : Pos}
end
end L2
set_option Elab.async false
set_option linter.all false
set_option maxRecDepth 100000
set_option maxHeartbeats 4000000
namespace L2
open PySem PySem.Spec PyProof.Rows
section
variable {X : Cx} {K : PySem.W.Frag} {fa fo : GE} {fs : GA} {f : GS} {m : List Bool} {e o : Expr} {es : List Expr} {tg : Expr} {t : TG} {gg : GG} {pos apos cpos : Pos} {name : Str} {idn : String} {g : List O → Option O} {r : V → List V → Hp → VK → Prop}
end
end L2
set_option Elab.async false
set_option linter.all false
set_option maxRecDepth 100000
set_option maxHeartbeats 4000000
namespace L2
open PySem PySem.Spec PyProof.Rows
section
variable {X : Cx} {K : PySem.W.Frag} {fo f : GE} {fs : GA} {g : List O → Option O} {r : V → List V → Hp → VK → Prop} {o e : Expr} {es : List Expr} {name : Str} {idn : String} {apos cpos pos : Pos}
def gMethD (g : List O → Option O) (fo : GE) (fs : GA) : GE := fun Γ => (fo Γ).bind fun p => match p.1 with
  | .own (.frz (.dct ds)) => (fs p.2).bind fun q => (seeL q.2 q.1).bind fun os => (g (.frz (.dct ds) :: os)).bind fun o => some (.own o, q.2)
  | _ => none
theorem ev_methD (g : List O → Option O) (fo : GE) (fs : GA) (Γ : Gm) : gMethD g fo fs Γ = (fo Γ).bind fun p => match p.1 with
  | .own (.frz (.dct ds)) => (fs p.2).bind fun q => (seeL q.2 q.1).bind fun os => (g (.frz (.dct ds) :: os)).bind fun o => some (.own o, q.2)
  | _ => none := rfl
theorem tG_methD (ok : OpOk K (rMeth r) g) {σ : St} {H : Hp} {Q : VK} (t : tG K (gMethD g fo fs) σ H Q) : tBM K "dict" r (tG K fo) (tGA K fs) σ H Q := by
  obtain ⟨F, A, Γ, rr, Γ', k, e, w⟩ := t
  unfold gMethD at e
  obtain ⟨⟨r1, Γ1⟩, e1, e'⟩ := Option.bind_eq_some_iff.mp e
  clear e
  dsimp only at e'
  split at e'
  · rename_i ds
    obtain ⟨⟨rs, Γ2⟩, e2, e3⟩ := Option.bind_eq_some_iff.mp e'
    obtain ⟨os, e4, e5⟩ := Option.bind_eq_some_iff.mp e3
    obtain ⟨ob, e6, e7⟩ := Option.bind_eq_some_iff.mp e5
    cases e7
    refine ⟨F, A, Γ, _, Γ1, k, e1, fun v H1 pp => ?_⟩
    obtain ⟨F1, A1, x1, k1, hh⟩ := pp
    obtain ⟨B, C, h1, h2, h3⟩ := OwnL.one (σ := σ) (Γ := Γ1) k1.os
    have rp := own_rep1 h1
    subst h3
    obtain ⟨k2, x2⟩ := k1.sub h2 (.of_sub (List.sublist_append_right _ _))
    have hty : tyV K "dict" v H1 := by
      cases rp with
      | flat z _ => cases z
      | dct q _ _ _ _ => exact .inr (.inr (.inl ⟨rfl, .inr (.inr ⟨_, k1.le _ _ q⟩)⟩))
    refine ⟨hty, F1, C, Γ1, rs, _, k2, e2, fun vs H2 p2 => ?_⟩
    obtain ⟨F2, A2, x3, k3, hh3⟩ := p2
    have p3 : Post K F1 H1 C σ Γ2 rs vs H2 := ⟨F2, A2, x3, k3, hh3⟩
    have hl : (vs.map some).length = (rs.map R.o).length := by rw [List.length_map, List.length_map, hh3.length]
    obtain ⟨B3, C3, o1, o2, o3⟩ := OwnL.split hl k3.os
    have see := see_all o2 o1 hh3 e4
    have res : Res K F2 H2 ob Q := fun v' H' Av s' w' nd fresh => by
      obtain ⟨B', kB, sub⟩ := k3.part hl
      obtain ⟨k4, x4⟩ := kB.push s' w' nd fresh
      exact w v' H' ⟨F2, Av ++ B', (x1.trans x2).trans (x3.trans ((Ext.own' Ext.refl sub).trans x4)), k4, True.intro⟩
    obtain ⟨y, ys, exs, rr'⟩ := ok F2 H2 (v :: vs) (.frz (.dct ds) :: os) ob Q k3.le (.cons ⟨[], .frz (rp.mono x3.ff) .nil⟩ see) e6 res
    cases exs
    exact rr'
  · cases e'
theorem de_methD (slot : Slot "dict" name idn) (hty : typeOf (.builtin idn) = pure (.type "method_descriptor")) (hm : MtM X idn r) (ok : OpOk K (rMeth r) g) (ho : PE X o (tG K fo)) (ha : PA X (e :: es) (tGA K fs))
    (hbase : attributeBase o name X.env (eval o X.env) = eval o X.env := by rfl)
    (hfew : ((backTo cpos (starEach (e :: es) X.env)).all (fun x => !x.1) && (backToKw cpos (keywordEach [] X.env)).all (fun x => x.1.isSome)
      && decide ((e :: es).length + ([] : List Keyword).length + (if ([] : List Keyword).isEmpty then 0 else 1) < 30)) = true := by rfl)
    (hline : (apos.endLine == cpos.line) = true := by rfl) (hs : starEach (e :: es) X.env = (false, eval e X.env) :: starEach es X.env := by rfl) (hplain : (backTo cpos (starEach es X.env)).any (·.1) = false := by rfl) (hK : X.K = K := by rfl) :
    PE X (.Call (.Attribute o name apos) (e :: es) [] cpos) (tG K (gMethD g fo fs)) := by
  subst hK
  exact (pe_bm PySem.F.plainAttrs_dict slot hty hm ho ha hbase hfew hline hs hplain).mono fun _ _ _ t => tG_methD ok t
def rGet1 (K : PySem.W.Frag) : V → List V → Hp → VK → Prop := fun x xs H Q => ∃ a y o, x = .ref a ∧ xs = [y] ∧ XGet K H a y o ∧ Q (o.getD .non) H
theorem mt_get1 (K : PySem.W.Frag) (hu : X.A.units + 41 < cLine) (hK : X.K = K := by rfl) : MtM X "dict.get" (rGet1 K) := by
  subst hK
  intro pins s σ H x xs v us Q I r rs h
  obtain ⟨a, y, o, rfl, rfl, g, q⟩ := h
  obtain ⟨u, rfl, ru⟩ := Vals.one rs
  cases r
  exact x_get1 (by omega) I g ru fun w' s' I' rw' => ⟨o.getD .non, H, I', rw', q⟩
def oGet1 : List O → Option O
  | [.frz (.dct kvs), .frz i] => (keyD i).map fun k => .frz ((valD kvs k).getD .non)
  | _ => none
theorem ev_get1 (kvs : List (TK × D)) (i : D) : oGet1 [.frz (.dct kvs), .frz i] = (keyD i).map fun k => .frz ((valD kvs k).getD .non) := rfl
theorem ok_get1 : OpOk K (rMeth (rGet1 K)) oGet1 := by
  intro F H vs os o Q le see e res
  unfold oGet1 at e
  split at e
  · rename_i kvs i
    obtain ⟨x, y, B, C, rfl, h1, h2⟩ := see.two
    obtain ⟨k, q1, q2⟩ := Option.map_eq_some_iff.mp e
    subst q2
    obtain ⟨p, ws, rfl, hp, hk, rk, hr⟩ := own_dict le h1 rfl
    refine ⟨_, _, rfl, p, y, valX ws k, rfl, rfl, ⟨ws, k, hp, rk, by rw [(keyD_ok q1).1]; exact own_rep le h2, (keyD_ok q1).2, rfl⟩, ?_⟩
    have r1 := own_rep1 h1
    cases r1 with
    | flat z _ => cases z
    | @dct _ ws2 _ _ _ hq hk2 _ ri _ =>
      have e2 := le _ _ hq
      rw [hp] at e2
      cases e2
      rcases val_rep (k := k) hk2 ri with ⟨g1, g2⟩ | ⟨v, d', g1, g2, g3⟩
      · rw [g1]; rw [g2] at res; exact res.flat rfl
      · rw [g1]; rw [g2] at res; exact res.frz g3
  · cases e
end
end L2
set_option Elab.async false
set_option linter.all false
set_option maxRecDepth 100000
set_option maxHeartbeats 4000000
namespace L2
open PySem PySem.Spec PyProof.Rows
theorem lri_no_len : typeLookup (.type "list_reverseiterator") "__len__" = pure none := by rw [typeLookup_type, builtinLookup_eq_fast]; kernel_rfl
theorem lri_hint : typeLookup (.type "list_reverseiterator") "__length_hint__" = pure (some (.builtin "list_reverseiterator.__length_hint__")) := by rw [typeLookup_type, builtinLookup_eq_fast]; kernel_rfl
theorem lri_split : splitId "list_reverseiterator.__length_hint__" = some ("list_reverseiterator", "__length_hint__") := by decide +kernel
theorem lri_sub : isSubtype (.type "list_reverseiterator") (.type "list_reverseiterator") = pure true := by rw [isSubtype_type]; kernel_rfl
section
variable {P : Program} {w : World} {A : Around} {E : Value → Shared → Prop} {s : Shared}
theorem hint_rev {I l : Addr} {i : Int} {Q : Bool → Shared → Prop} (hit : s.heap.IsRevIter I l i) (h : Q false s) : wpAny (model P w) A (Builtin.List.listLengthHint (.ref I)) Q E s := by
  unfold Builtin.List.listLengthHint
  refine wpAny_bind (wpAny_specialOf hit.typeIs lri_no_len ?_)
  dsimp only
  refine wpAny_bind (wpAny_specialOf hit.typeIs lri_hint ?_)
  dsimp only
  rw [lri_split]
  dsimp only
  refine wpAny_bind (wpAny_isInstance hit.typeIs lri_sub ?_)
  rw [if_neg (by decide)]
  split
  · rw [if_neg (by decide +kernel)]
    exact wpAny_pure h
  · rename_i hn
    exact absurd (by decide +kernel) hn
theorem wpAny_extend_rev {S I l : Addr} {items : Array Value} {R : Result → Shared → Prop} (hh : A.handled = none) (hl : s.heap.IsList l items) (hit : s.heap.IsRevIter I l ((items.size : Int) - 1)) (hIl : l ≠ I) (hSI : S ≠ I) (hSl : S ≠ l) (res : Value) (c₀ : Nat)
    (hS : s.heap.get? S = some { cls := .type "list", data := .seq #[] c₀ }) (hn : items.size ≤ sizeLine)
    (hR : ∀ s' acc' c', Moved (S :: [I]) (fun a b => b = a) s s' → s'.heap.get? S = some { cls := .type "list", dict := none, data := .seq acc' c', slots := #[] } → ItemsOf (fun i v => items[items.size - 1 - i]? = some v) acc' items.size → R (.ok (.ret res)) s') :
    wpAny (model P w) A.in1 (Builtin.List.listExtendWith (.ref S) (.ref I) res)
      (fun fin s' => match fin with | .done f => R (.ok f) s' | .again c' => c'.quiet = true ∧ codeAny (model P w) A c' R s') (fun e s' => R (.error e) s') s := by
  have W := (Walks.listRev (prog := P) (w := w) (A := A.in1) hh I l hIl items).toS
  have hSf : S ∉ [I, l] := fun m => by
    simp at m
    rcases m with m | m
    · exact hSI m
    · exact hSl m
  unfold Builtin.List.listExtendWith
  refine wpAny_bind (wpAny_typeOf hit.typeIs ?_)
  have k1 : Builtin.List.listSameRef (.ref S) (.ref I) = false := by simp [Builtin.List.listSameRef, hSI]
  have k2 : (Value.type "list_reverseiterator" == Value.type "list") = false := by decide
  have k3 : (Value.type "list_reverseiterator" == Value.type "tuple") = false := by decide
  simp only [k1, k2, k3, Bool.or_false, Bool.false_eq_true, if_false]
  refine wpAny_bind (wpAny_pyIter_revIter hit (wpAny_bind (wpAny_holding (hint_rev hit ?_))))
  rw [if_neg (by decide +kernel)]
  refine wpAny_pure ⟨plainId_quiet F.plain_extend_loop _, codeAny_extend_loopS W hn _ hSf _ items.size 0 _ _ _ rfl (Nat.zero_le _) ⟨Nat.zero_le _, by simpa using hit, hl⟩ hS (ItemsOf.nil _) fun s' acc' c' hm hS' hacc => hR s' acc' c' hm hS' hacc⟩
theorem call_list_rev {I l : Addr} {items : Array Value} {Q : Value → Shared → Prop} (hh : A.handled = none) (hl : s.heap.IsList l items) (hit : s.heap.IsRevIter I l ((items.size : Int) - 1)) (hIl : l ≠ I) (hn : items.size ≤ sizeLine)
    (hQ : ∀ s' acc' c', Moved (s.heap.objs.size :: [I]) (fun a b => b = a) { s with heap := s.heap.push { cls := .type "list", data := .seq #[] } } s' →
      s'.heap.get? s.heap.objs.size = some { cls := .type "list", dict := none, data := .seq acc' c', slots := #[] } → ItemsOf (fun i v => items[items.size - 1 - i]? = some v) acc' items.size → Q (.ref s.heap.objs.size) s') :
    wpAny (model P w) A (call (.type "list") [.ref I]) Q E s := by
  have lI : I < s.heap.objs.size := let ⟨_, h, _⟩ := hit; Heap.lt_size h
  have ll : l < s.heap.objs.size := let ⟨_, h, _⟩ := hl; Heap.lt_size h
  have ne : s.heap.objs.size ≠ I := fun e => Nat.lt_irrefl _ (e ▸ lI)
  have ne2 : s.heap.objs.size ≠ l := fun e => Nat.lt_irrefl _ (e ▸ ll)
  refine callType_codes (Q₁ := fun obj s₁ => obj = .ref s.heap.objs.size ∧ s₁ = { s with heap := s.heap.push { cls := .type "list", data := .seq #[] } }) F.called_list (F.typeCall_list_1 _) F.entry_list_init (code_list_new _ ⟨rfl, rfl⟩) fun obj s₁ q₁ => ?_
  obtain ⟨rfl, rfl⟩ := q₁
  have gS : (s.heap.push { cls := .type "list", data := .seq #[] }).get? s.heap.objs.size = some { cls := .type "list", data := .seq #[] } := Heap.get?_push_size _ rfl
  refine ⟨⟨_, gS, rfl⟩, F.args_list_init_2 _ _, ?_⟩
  show wpAny _ _ (do let old ← Builtin.List.listItems (.ref s.heap.objs.size); Builtin.List.listUpdate (.ref s.heap.objs.size) (fun _ => #[]); letGo old.toList.reverse; Builtin.List.listExtendWith (.ref s.heap.objs.size) (.ref I) .none) _ _ _
  refine wpAny_bind ?_
  unfold Builtin.List.listItems
  refine wpAny_bind (wpAny_seqItems gS rfl (wpAny_pure ?_))
  show wpAny _ _ (updateSeq s.heap.objs.size (fun _ => #[]) >>= fun _ => letGo (#[] : Array Value).toList.reverse >>= fun _ => Builtin.List.listExtendWith (.ref s.heap.objs.size) (.ref I) .none) _ _ _
  refine wpAny_bind (wpAny_updateSeq gS rfl ?_)
  have gT := Heap.get?_update_self (Obj.mapSeq (fun _ => (#[] : Array Value))) gS rfl
  have oth : ∀ b o, b ≠ s.heap.objs.size → (s.heap.push { cls := .type "list", data := .seq #[] }).get? b = some o → ((s.heap.push { cls := .type "list", data := .seq #[] }).update s.heap.objs.size (Obj.mapSeq (fun _ => (#[] : Array Value)))).get? b = some o :=
    fun b o hb e => (Heap.get?_update_other _ _ (Ne.symm hb)).trans e
  refine wpAny_bind (wpAny_letGo (wpAny_extend_rev (A := A.in1) hh ?_ ?_ hIl ne ne2 .none _ gT hn fun s' acc' c' hm hS' hacc => ?_))
  · obtain ⟨o, e, r⟩ := hl
    exact ⟨o, oth _ _ (Ne.symm ne2) (Heap.get?_push_of_some _ e), r⟩
  · obtain ⟨o, e, r⟩ := hit
    exact ⟨o, oth _ _ (Ne.symm ne) (Heap.get?_push_of_some _ e), r⟩
  · exact ⟨rfl, hQ s' acc' c' ⟨fun b o hb e => hm.heap b o hb (oth b o (fun h => hb (by rw [h]; simp)) e), hm.gens, hm.drawn, hm.os, hm.toks⟩ hS' hacc⟩
end
theorem Vals.rev : ∀ {xs : List V} {us : List Value}, Vals xs us → Vals xs.reverse us.reverse
  | _, _, .nil => .nil
  | _, _, .cons r t => by
    rw [List.reverse_cons, List.reverse_cons]
    exact (Vals.rev t).append (.cons r .nil)
theorem rev_items {its : List Value} {acc : Array Value} (h : ItemsOf (fun i v => its.toArray[its.toArray.size - 1 - i]? = some v) acc its.toArray.size) : acc = its.reverse.toArray := by
  have h1 : acc.size = its.length := by simpa using h.1
  have h2 := h.2
  apply Array.ext
  · rw [h1]; simp
  · intro j g1 g2
    have h3 : its.toArray[its.toArray.size - 1 - j]? = some acc[j] := h2 j acc[j] (Array.getElem?_eq_getElem g1)
    rw [List.getElem?_toArray, List.size_toArray] at h3
    simp only [List.getElem_toArray]
    rw [List.getElem_reverse]
    have := (List.getElem?_eq_some_iff.mp h3).2
    exact this.symm
section
variable {X : Cx} {K : PySem.W.Frag}
def tListRev (K : PySem.W.Frag) (ta : TA) : TE := fun σ H Q => ta σ H fun vs H1 => ∃ a xs, vs = [.ref a] ∧ SqL K H1 a xs ∧ ∀ q, H1 q = none → Q (.ref q) (upd H1 q (.lst xs.reverse))
theorem pe_listRev {l : Expr} {ta : TA} {p p1 pos pos1 : Pos} (hgl : Gl X "list") (hml : X.mg "list" = none) (hg : Gl X "reversed") (hm : X.mg "reversed" = none) (ha : PA X [l] ta) (hc : X.calm = true) (hs : starEach [l] X.env = [(false, eval l X.env)] := by rfl)
    (hs2 : starEach [.Call (.Name "reversed" p1) [l] [] pos1] X.env = [(false, eval (.Call (.Name "reversed" p1) [l] [] pos1) X.env)] := by rfl) : PE X (.Call (.Name "list" p) [.Call (.Name "reversed" p1) [l] [] pos1] [] pos) (tListRev X.K ta) := by
  intro pins s σ H Q I h
  refine Call_ (ld_blt I hgl hml bt_list (PyProof.Rows.callWith_type1 ?_ hs2 rfl))
  rw [hs2]
  show wpAny _ _ (spliced ((false, eval (.Call (.Name "reversed" p1) [l] [] pos1) X.env) :: [])) _ _ s
  refine Calls.spliced_cons (Call_ (ld_blt I hg hm boot_reversed (PyProof.Rows.callWith_type1 (thn (ha pos1 pins s σ H _ I h) fun us s1 ⟨vs, H1, I1, r1, q1⟩ => ?_) hs rfl)))
  obtain ⟨a, xs, e, hq, q⟩ := q1
  subst e
  cases r1 with
  | cons r rr =>
    cases rr
    cases r
    obtain ⟨its, rv, pl, hz⟩ := I1.list hq
    have hlen := rv.length
    refine call_reversed_list pl.isList (Calls.spliced_nil ?_)
    have hit : (s1.heap.push (revObj a ((its.toArray.size : Int) - 1))).IsRevIter s1.heap.objs.size a ((its.toArray.size : Int) - 1) := ⟨_, Heap.get?_push_size _ rfl, rfl, rfl⟩
    have hl' : (s1.heap.push (revObj a ((its.toArray.size : Int) - 1))).IsList a its.toArray := let ⟨o, e, r⟩ := pl.isList; ⟨o, Heap.get?_push_of_some _ e, r⟩
    have la : a < s1.heap.objs.size := let ⟨_, e, _⟩ := pl.isList; Heap.lt_size e
    refine call_list_rev (I1.ok.hd hc) hl' hit (Nat.ne_of_lt la) (by simpa using (by omega : its.length ≤ sizeLine)) fun s' acc' c' hm hS' hacc => ?_
    have ea := rev_items hacc
    subst ea
    obtain ⟨m1, m2, m3, m4, m5⟩ := hm
    have sz : (s1.heap.push (revObj a ((its.toArray.size : Int) - 1))).objs.size = s1.heap.objs.size + 1 := by simp [Heap.push]
    rw [show ({ s1 with heap := s1.heap.push (revObj a ((its.toArray.size : Int) - 1)) } : Shared).heap.objs.size = s1.heap.objs.size + 1 from sz] at hS' m1 ⊢
    have keep : ∀ b u, s1.heap.get? b = some u → s'.heap.get? b = some u := fun b u e => by
      have lb := Heap.lt_size e
      exact m1 b u (fun z => by
        rcases List.mem_cons.mp z with z | z
        · rw [z] at lb; exact absurd lb (Nat.not_lt.mpr (Nat.le_succ _))
        · rw [List.mem_singleton] at z; rw [z] at lb; exact absurd lb (Nat.lt_irrefl _)) (Heap.get?_push_of_some _ (Heap.get?_push_of_some _ e))
    have es : s' = { s1 with heap := s'.heap, toks := s'.toks } := by
      cases s'
      cases m2
      cases m3
      cases m4
      rfl
    rw [es]
    exact ⟨.ref (s1.heap.objs.size + 1), _, I1.laid keep (Nat.le_succ _) (show ObjOk X.prog X.w _ s'.heap _ (.lst xs.reverse) from ⟨by simpa using hz, its.reverse, c', rv.rev, hS'⟩), rfl, q _ (I1.hok.fresh (Nat.le_succ _))⟩
def oListRev : List O → Option O
  | [a] => (listD a).map fun ds => .lst (ds.reverse.map .frz)
  | _ => none
theorem ev_listRev (ds : List D) : oListRev [.lst (ds.map .frz)] = some (.lst (ds.reverse.map .frz)) := by
  show (listD (.lst (ds.map .frz))).map _ = _
  rw [ev_ld2]; rfl
theorem rep_reverse {F : Hp} : ∀ {vs : List V} {ds : List D}, RepL K F vs ds → RepL K F vs.reverse ds.reverse
  | [], [], _ => .nil
  | v :: vs, d :: ds, h => by
    rw [List.reverse_cons, List.reverse_cons]
    exact (rep_reverse h.inv.2).append h.inv.1
  | [], _ :: _, h => by have := h.length; simp at this
  | _ :: _, [], h => by have := h.length; simp at this
theorem ok_listRev : OpOk K (fun xs H Q => ∃ a ys, xs = [.ref a] ∧ SqL K H a ys ∧ ∀ l, H l = none → Q (.ref l) (upd H l (.lst ys.reverse))) oListRev := by
  intro F H vs os o Q le see e res
  unfold oListRev at e
  split at e
  · rename_i a
    obtain ⟨x, B, rfl, h1⟩ := see.one
    obtain ⟨ds, q1, q2⟩ := Option.map_eq_some_iff.mp e
    subst q2
    obtain ⟨p, ws, rfl, sq, r⟩ := own_list le h1 q1
    exact ⟨p, ws, rfl, sq, fun l hl => res.lst (rep_reverse r) hl⟩
  · cases e
theorem de_listRev {l : Expr} {fs : GA} {p p1 pos pos1 : Pos} (hml : X.mg "list" = none) (hm : X.mg "reversed" = none) (ha : PA X [l] (tGA K fs)) (hc : X.calm = true := by rfl) (hgl : Gl X "list" := by rfl) (hg : Gl X "reversed" := by rfl) (hs : starEach [l] X.env = [(false, eval l X.env)] := by rfl)
    (hs2 : starEach [.Call (.Name "reversed" p1) [l] [] pos1] X.env = [(false, eval (.Call (.Name "reversed" p1) [l] [] pos1) X.env)] := by rfl) (hK : X.K = K := by rfl) : PE X (.Call (.Name "list" p) [.Call (.Name "reversed" p1) [l] [] pos1] [] pos) (tG K (gOp oListRev fs)) := by
  subst hK
  exact (pe_listRev hgl hml hg hm ha hc hs hs2).mono fun _ _ _ t => tG_op ok_listRev t
end
end L2
set_option Elab.async false
set_option linter.all false
set_option maxRecDepth 100000
set_option maxHeartbeats 4000000
namespace L2
theorem hu41_of {A : PySem.Around} {k : Nat} (hr : Room k A) : A.units + 41 < PySem.cLine := Nat.lt_of_le_of_lt (Nat.add_le_add_left (by decide : 41 ≤ 64) _) hr.units
end L2
namespace Carry
open PySem L2
/-! the text by places -/
def top (i : Nat) : Stmt := PySem.Challenge.pw_carry_k05_far.main.body.getD i (.Pass ⟨0, 0, 0, 0⟩)
abbrev s_far : Stmt := top 1
abbrev s_begins : Stmt := top 2
abbrev s_l_feed : Stmt := top 4
abbrev s_l_draw : Stmt := top 5
abbrev s_l_name : Stmt := top 6
abbrev s_l_outs : Stmt := top 7
abbrev s_l_house : Stmt := top 8
abbrev s_l_after : Stmt := top 9
abbrev s_l_first_turns : Stmt := top 10
abbrev s_l_is : Stmt := top 11
abbrev s_law : Stmt := top 12
/-- what the top has made: each def, the names of Python's own that are free, the constants -/
structure Adr where
  f_far : Addr
  d_far : FuncData
  f_begins : Addr
  d_begins : FuncData
  f_l_feed : Addr
  d_l_feed : FuncData
  f_l_draw : Addr
  d_l_draw : FuncData
  f_l_name : Addr
  d_l_name : FuncData
  f_l_outs : Addr
  d_l_outs : FuncData
  f_l_house : Addr
  d_l_house : FuncData
  f_l_after : Addr
  d_l_after : FuncData
  f_l_first_turns : Addr
  d_l_first_turns : FuncData
  f_l_is : Addr
  d_l_is : FuncData
  f_law : Addr
  d_law : FuncData
structure Txt (K : PySem.W.Frag) (mg : Str → Option Value) (t : Adr) : Prop where
  F_far : DefAt K mg "far" s_far t.f_far t.d_far ["house", "place", "cart"]
  F_begins : DefAt K mg "begins" s_begins t.f_begins t.d_begins ["house", "cart"]
  F_l_feed : DefAt K mg "_law_feed" s_l_feed t.f_l_feed t.d_l_feed ["_law_script"]
  F_l_draw : DefAt K mg "_law_draw" s_l_draw t.f_l_draw t.d_l_draw ["_law_feed_here", "_law_many"]
  F_l_name : DefAt K mg "_law_name" s_l_name t.f_l_name t.d_l_name ["_law_feed_here", "_law_k"]
  F_l_outs : DefAt K mg "_law_outs" s_l_outs t.f_l_outs t.d_l_outs ["_law_feed_here", "_law_later", "_law_carts"]
  F_l_house : DefAt K mg "_law_house" s_l_house t.f_l_house t.d_l_house ["_law_feed_here"]
  F_l_after : DefAt K mg "_law_after" s_l_after t.f_l_after t.d_l_after ["_law_house_here", "_law_spot"]
  F_l_first_turns : DefAt K mg "_law_first_turns" s_l_first_turns t.f_l_first_turns t.d_l_first_turns ["_law_house_here", "_law_place"]
  F_l_is : DefAt K mg "_law_is" s_l_is t.f_l_is t.d_l_is ["_law_found", "_law_due"]
  F_law : DefAt K mg "law" s_law t.f_law t.d_law ["_law_script"]
  b_len : mg "len" = none
  b_isinstance : mg "isinstance" = none
  b_int : mg "int" = none
  b_bool : mg "bool" = none
  b_str : mg "str" = none
  b_list : mg "list" = none
  b_tuple : mg "tuple" = none
  b_range : mg "range" = none
  b_reversed : mg "reversed" = none
  b_min : mg "min" = none
end Carry
set_option Elab.async false
set_option linter.all false
set_option maxRecDepth 100000
set_option maxHeartbeats 4000000
namespace Carry
open PySem L2
section
variable {P : Program} {w : World} {K : PySem.W.Frag} {mg : Str → Option Value} {base : Heap} {t : Adr}
theorem sc_begins : FnScope ["house", "cart", "known", "name", "long", "ring", "outs", "behind"] ["house", "cart"] (defScope s_begins) := ⟨rfl, rfl, rfl, by decide +kernel, rfl, by decide +kernel, by decide +kernel⟩
def m_begins : GS := (gsCons (gsSet 2 (gDict1 (gVar 1) (gC (.int 0))))
  (gsCons (gsForR (gBin oIx (gVar 0) (gC (.int 0))) (ggTup [(ggName 3), (ggName 4), (ggName 5), (ggName 6)])
    (gsCons (gsSet 7 (gFrz (gCompG (srcL (gVar 6)) (ggName 0) (gT (gBin (oInG false) (gVar 0) (gVar 1))) (gBin oIx (gVar 1) (gVar 0)) 1 [2])))
  (gsIf (gTru (gVar 7))
    (gsPut (gFrz (gBin oAdd (gVar 4) (gOp oMin (gaCons (gVar 7) gaNil)))) (gVar 2) (gVar 3))
    gsNil)))
  (gsRet (gMove (gVar 2)))))
def M_begins : GM := runM 8 [false, false] m_begins
theorem ok_begins (T : Txt K mg t) : FnOk P w K mg base CX0 1 t.f_begins t.d_begins ["house", "cart"] (SpM K 2 M_begins) :=
  fn_mir (k := 0) [false, false] m_begins T.F_begins.fn sc_begins rfl rfl (by decide) fun cdv A outer s H E hr => (by
    have hu := hu_of hr
    have hu40 := hu40_of hr
    have hu41 := hu41_of hr
    exact ⟨_, (ds_cons (ds_set (i := 2) sc_begins.nd rfl (Or.inr rfl) (de_dict1 (by exact hu41) (de_var (pv 1)) (de_c (d := .int 0) pe_int)))
      (ds_cons (ds_forR PassesOwn.never T.b_reversed (de_ix (ix_A K (by exact hu41)) ok_ix (de_var (pv 0)) (de_c (d := .int 0) pe_int)) (pg_tup rfl (pgs_cons (pg_name (i := 3) sc_begins.nd rfl (Or.inl rfl)) (pgs_cons (pg_name (i := 4) sc_begins.nd rfl (Or.inl rfl)) (pgs_cons (pg_name (i := 5) sc_begins.nd rfl (Or.inl rfl)) (pgs_cons (pg_name (i := 6) sc_begins.nd rfl (Or.inl rfl)) pgs_nil))))) (tg_tup (tgs_cons tg_name (tgs_cons tg_name (tgs_cons tg_name (tgs_cons tg_name tgs_nil)))))
      (ds_cons (ds_compF (i := 7) src_list (k := 1) (cap := [2]) tg_name (M := ["out", "known"]) (CompOk.of (defScope s_begins).names ["house", "cart", "known", "name", "long", "ring", "outs", "behind"] (by decide +kernel)) sc_begins.nd rfl (Or.inl rfl) (pi_listK K (de_frz (de_var (pv 6))))
        (fun _ _ _ _ => (pg_name (i := 0) (show List.Nodup (["out", "known"] : List Str) by decide +kernel) rfl (Or.inl rfl))) (fun _ _ _ _ => (dts_one (dt_cmp (op_inA K (by exact hu41)) (ok_in false) (de_var (pv 0)) (de_var (pv 1))))) (fun _ _ _ _ => (de_ix (ix_A K (by exact hu41)) ok_ix (de_var (pv 1)) (de_var (pv 0)))))
      (ds_one (ds_if (dt_tru (de_var (pv 7)))
      (ds_one (ds_put (de_frz (de_op (op_addA K) ok_add (de_var (pv 4)) (de_callB (call_min K) ok_min T.b_min PyProof.Rows.Boot.min (da_cons (de_var (pv 7)) da_nil)))) (de_var (pv 2)) (de_var (pv 3)) (by exact hu41)))
      ds_nil))))
      (ds_one (ds_ret (de_move (de_var (pv 2))))))), rfl⟩)
end
end Carry
set_option Elab.async false
set_option linter.all false
set_option maxRecDepth 100000
set_option maxHeartbeats 4000000
namespace Carry
open PySem L2
section
variable {P : Program} {w : World} {K : PySem.W.Frag} {mg : Str → Option Value} {base : Heap} {t : Adr}
theorem sc_l_feed : FnScope ["_law_script", "_law_cells"] ["_law_script"] (defScope s_l_feed) := ⟨rfl, rfl, rfl, by decide +kernel, rfl, by decide +kernel, by decide +kernel⟩
def m_l_feed : GS := (gsCons (gsSet 1 (gFrz (gBin oAdd (gSlice (gVar 0) goNone (goSome (gC (.int 2)))) (gSeq .lst (gaCons (gC (.int 0)) (gaCons (gC (.int 0)) gaNil))))))
  (gsRet (gSeq .lst (gaCons (gFrz (gSlice (gVar 0) goNone (goSome (gC (.int 120))))) (gaCons (gC (.int 0)) (gaCons (gC (.int 0)) (gaCons (gBin oMod (gBin oIx (gVar 1) (gC (.int 0))) (gC (.int 2))) (gaCons (gBin oIx (gVar 1) (gC (.int 1))) gaNil))))))))
def M_l_feed : GM := runM 2 [false] m_l_feed
theorem ok_l_feed (T : Txt K mg t) : FnOk P w K mg base CX0 1 t.f_l_feed t.d_l_feed ["_law_script"] (SpM K 1 M_l_feed) :=
  fn_mir (k := 0) [false] m_l_feed T.F_l_feed.fn sc_l_feed rfl rfl (by decide) fun cdv A outer s H E hr => (by
    have hu := hu_of hr
    have hu40 := hu40_of hr
    have hu41 := hu41_of hr
    exact ⟨_, (ds_cons (ds_set (i := 1) sc_l_feed.nd rfl (Or.inl rfl) (de_frz (de_op (op_addA K) ok_add (de_slice (de_var (pv 0)) do_none (do_some (de_c (d := .int 2) pe_int))) (de_lst (da_cons (de_c (d := .int 0) pe_int) (da_cons (de_c (d := .int 0) pe_int) da_nil))))))
      (ds_one (ds_ret (de_lst (da_cons (de_frz (de_slice (de_var (pv 0)) do_none (do_some (de_c (d := .int 120) pe_int)))) (da_cons (de_c (d := .int 0) pe_int) (da_cons (de_c (d := .int 0) pe_int) (da_cons (de_op op_mod ok_mod (de_ix (ix_A K (by exact hu41)) ok_ix (de_var (pv 1)) (de_c (d := .int 0) pe_int)) (de_c (d := .int 2) pe_int)) (da_cons (de_ix (ix_A K (by exact hu41)) ok_ix (de_var (pv 1)) (de_c (d := .int 1) pe_int)) da_nil))))))))), rfl⟩)
end
end Carry
set_option Elab.async false
set_option linter.all false
set_option maxRecDepth 100000
set_option maxHeartbeats 4000000
namespace Carry
open PySem L2
section
variable {P : Program} {w : World} {K : PySem.W.Frag} {mg : Str → Option Value} {base : Heap} {t : Adr}
theorem sc_l_draw : FnScope ["_law_feed_here", "_law_many", "_law_found", "_law_at", "_law_cell"] ["_law_feed_here", "_law_many"] (defScope s_l_draw) := ⟨rfl, rfl, rfl, by decide +kernel, rfl, by decide +kernel, by decide +kernel⟩
def m_l_draw : GS := (gsCons (gsIf (gT (gBin oEq (gBin oIx (gVar 0) (gC (.int 3))) (gC (.int 1))))
    (gsCons (gsSet 2 (gBin oMod (gBin oIx (gVar 0) (gC (.int 4))) (gVar 1)))
  (gsCons (gsPut (gBin oFdiv (gBin oIx (gVar 0) (gC (.int 4))) (gVar 1)) (gVar 0) (gC (.int 4)))
  (gsRet (gVar 2))))
    gsNil)
  (gsCons (gsSet 3 (gBin oIx (gVar 0) (gC (.int 1))))
  (gsCons (gsPut (gFrz (gBin oAdd (gVar 3) (gC (.int 1)))) (gVar 0) (gC (.int 1)))
  (gsCons (gsSet 4 (gVar 3))
  (gsCons (gsIf (gT (gBin oGt (gOp oLen (gaCons (gBin oIx (gVar 0) (gC (.int 0))) gaNil)) (gC (.int 0))))
    (gsSet 4 (gFrz (gBin oAdd (gBin oIx (gBin oIx (gVar 0) (gC (.int 0))) (gBin oMod (gVar 3) (gOp oLen (gaCons (gBin oIx (gVar 0) (gC (.int 0))) gaNil)))) (gBin oMulA (gBin oFdiv (gVar 3) (gOp oLen (gaCons (gBin oIx (gVar 0) (gC (.int 0))) gaNil))) (gC (.int 31))))))
    gsNil)
  (gsRet (gBin oMod (gBin oMod (gBin oMulA (gBin oMod (gBin oAdd (gBin oMulA (gVar 4) (gC (.int 48271))) (gBin oMulA (gC (.int 31)) (gVar 3))) (gC (.int 1000003))) (gC (.int 69621))) (gC (.int 999983))) (gVar 1))))))))
def M_l_draw : GM := runM 5 [true, false] m_l_draw
theorem ok_l_draw (T : Txt K mg t) : FnOk P w K mg base CX0 1 t.f_l_draw t.d_l_draw ["_law_feed_here", "_law_many"] (SpM K 2 M_l_draw) :=
  fn_mir (k := 0) [true, false] m_l_draw T.F_l_draw.fn sc_l_draw rfl rfl (by decide) fun cdv A outer s H E hr => (by
    have hu := hu_of hr
    have hu40 := hu40_of hr
    have hu41 := hu41_of hr
    exact ⟨_, (ds_cons (ds_if (dt_cmp (op_eqA K (by exact hu40)) ok_eq (de_ix (ix_A K (by exact hu41)) ok_ix (de_var (pv 0)) (de_c (d := .int 3) pe_int)) (de_c (d := .int 1) pe_int))
      (ds_cons (ds_set (i := 2) sc_l_draw.nd rfl (Or.inl rfl) (de_op op_mod ok_mod (de_ix (ix_A K (by exact hu41)) ok_ix (de_var (pv 0)) (de_c (d := .int 4) pe_int)) (de_var (pv 1))))
      (ds_cons (ds_put (de_op op_fdiv ok_fdiv (de_ix (ix_A K (by exact hu41)) ok_ix (de_var (pv 0)) (de_c (d := .int 4) pe_int)) (de_var (pv 1))) (de_var (pv 0)) (de_c (d := .int 4) pe_int) (by exact hu41))
      (ds_one (ds_ret (de_var (pv 2))))))
      ds_nil)
      (ds_cons (ds_set (i := 3) sc_l_draw.nd rfl (Or.inl rfl) (de_ix (ix_A K (by exact hu41)) ok_ix (de_var (pv 0)) (de_c (d := .int 1) pe_int)))
      (ds_cons (ds_put (de_frz (de_op (op_addA K) ok_add (de_var (pv 3)) (de_c (d := .int 1) pe_int))) (de_var (pv 0)) (de_c (d := .int 1) pe_int) (by exact hu41))
      (ds_cons (ds_set (i := 4) sc_l_draw.nd rfl (Or.inl rfl) (de_var (pv 3)))
      (ds_cons (ds_if (dt_cmp op_gt ok_gt (de_callB (call_lenA K) ok_len T.b_len bt_len (da_cons (de_ix (ix_A K (by exact hu41)) ok_ix (de_var (pv 0)) (de_c (d := .int 0) pe_int)) da_nil)) (de_c (d := .int 0) pe_int))
      (ds_one (ds_set (i := 4) sc_l_draw.nd rfl (Or.inl rfl) (de_frz (de_op (op_addA K) ok_add (de_ix (ix_A K (by exact hu41)) ok_ix (de_ix (ix_A K (by exact hu41)) ok_ix (de_var (pv 0)) (de_c (d := .int 0) pe_int)) (de_op op_mod ok_mod (de_var (pv 3)) (de_callB (call_lenA K) ok_len T.b_len bt_len (da_cons (de_ix (ix_A K (by exact hu41)) ok_ix (de_var (pv 0)) (de_c (d := .int 0) pe_int)) da_nil)))) (de_op op_mulA ok_mul (de_op op_fdiv ok_fdiv (de_var (pv 3)) (de_callB (call_lenA K) ok_len T.b_len bt_len (da_cons (de_ix (ix_A K (by exact hu41)) ok_ix (de_var (pv 0)) (de_c (d := .int 0) pe_int)) da_nil))) (de_c (d := .int 31) pe_int))))))
      ds_nil)
      (ds_one (ds_ret (de_op op_mod ok_mod (de_op op_mod ok_mod (de_op op_mulA ok_mul (de_op op_mod ok_mod (de_op (op_addA K) ok_add (de_op op_mulA ok_mul (de_var (pv 4)) (de_c (d := .int 48271) pe_int)) (de_op op_mulA ok_mul (de_c (d := .int 31) pe_int) (de_var (pv 3)))) (de_c (d := .int 1000003) pe_int)) (de_c (d := .int 69621) pe_int)) (de_c (d := .int 999983) pe_int)) (de_var (pv 1)))))))))), rfl⟩)
end
end Carry
set_option Elab.async false
set_option linter.all false
set_option maxRecDepth 100000
set_option maxHeartbeats 4000000
namespace Carry
open PySem L2
section
variable {P : Program} {w : World} {K : PySem.W.Frag} {mg : Str → Option Value} {base : Heap} {t : Adr}
theorem sc_l_name : FnScope ["_law_feed_here", "_law_k"] ["_law_feed_here", "_law_k"] (defScope s_l_name) := ⟨rfl, rfl, rfl, by decide +kernel, rfl, by decide +kernel, by decide +kernel⟩
def m_l_name : GS := (gsCons (gsIf (gT (gBin oEq (gBin oMod (gBin oIx (gVar 0) (gC (.int 2))) (gC (.int 4))) (gC (.int 3))))
    (gsRet (gBin oIx (gSeq .lst (gaCons (gFrz (gSlice (gC (.str "zbdgkafe")) goNone (goSome (gBin oAdd (gVar 1) (gC (.int 1)))))) (gaCons (gBin oMulA (gC (.str "y")) (gBin oSub (gVar 1) (gC (.int 7)))) gaNil))) (gOp oInt1 (gaCons (gBin oGt (gVar 1) (gC (.int 7))) gaNil))))
    gsNil)
  (gsRet (gBin oAdd (gBin oAdd (gBin oIx (gSeq .lst (gaCons (gC (.str "")) (gaCons (gC (.str "ab")) (gaCons (gC (.str "zzz")) gaNil)))) (gBin oMod (gBin oIx (gVar 0) (gC (.int 2))) (gC (.int 4)))) (gBin oIx (gC (.str "dbgkafelcjhi")) (gVar 1))) (gBin oIx (gSeq .lst (gaCons (gC (.str "")) (gaCons (gC (.str "ba")) (gaCons (gC (.str "zz")) gaNil)))) (gBin oMod (gBin oFdiv (gBin oIx (gVar 0) (gC (.int 2))) (gC (.int 4))) (gC (.int 3)))))))
def M_l_name : GM := runM 2 [false, false] m_l_name
theorem ok_l_name (T : Txt K mg t) : FnOk P w K mg base CX0 1 t.f_l_name t.d_l_name ["_law_feed_here", "_law_k"] (SpM K 2 M_l_name) :=
  fn_mir (k := 0) [false, false] m_l_name T.F_l_name.fn sc_l_name rfl rfl (by decide) fun cdv A outer s H E hr => (by
    have hu := hu_of hr
    have hu40 := hu40_of hr
    have hu41 := hu41_of hr
    exact ⟨_, (ds_cons (ds_if (dt_cmp (op_eqA K (by exact hu40)) ok_eq (de_op op_mod ok_mod (de_ix (ix_A K (by exact hu41)) ok_ix (de_var (pv 0)) (de_c (d := .int 2) pe_int)) (de_c (d := .int 4) pe_int)) (de_c (d := .int 3) pe_int))
      (ds_one (ds_ret (de_ix (ix_A K (by exact hu41)) ok_ix (de_lst (da_cons (de_frz (de_slice (de_c (d := .str "zbdgkafe") pe_str) do_none (do_some (de_op (op_addA K) ok_add (de_var (pv 1)) (de_c (d := .int 1) pe_int))))) (da_cons (de_op op_mulA ok_mul (de_c (d := .str "y") pe_str) (de_op op_sub ok_sub (de_var (pv 1)) (de_c (d := .int 7) pe_int))) da_nil))) (de_callTy call_int1 ok_int1 T.b_int bt_int (da_cons (de_cmp op_gt ok_gt (de_var (pv 1)) (de_c (d := .int 7) pe_int)) da_nil)))))
      ds_nil)
      (ds_one (ds_ret (de_op (op_addA K) ok_add (de_op (op_addA K) ok_add (de_ix (ix_A K (by exact hu41)) ok_ix (de_lst (da_cons (de_c (d := .str "") pe_str) (da_cons (de_c (d := .str "ab") pe_str) (da_cons (de_c (d := .str "zzz") pe_str) da_nil)))) (de_op op_mod ok_mod (de_ix (ix_A K (by exact hu41)) ok_ix (de_var (pv 0)) (de_c (d := .int 2) pe_int)) (de_c (d := .int 4) pe_int))) (de_ix (ix_A K (by exact hu41)) ok_ix (de_c (d := .str "dbgkafelcjhi") pe_str) (de_var (pv 1)))) (de_ix (ix_A K (by exact hu41)) ok_ix (de_lst (da_cons (de_c (d := .str "") pe_str) (da_cons (de_c (d := .str "ba") pe_str) (da_cons (de_c (d := .str "zz") pe_str) da_nil)))) (de_op op_mod ok_mod (de_op op_fdiv ok_fdiv (de_ix (ix_A K (by exact hu41)) ok_ix (de_var (pv 0)) (de_c (d := .int 2) pe_int)) (de_c (d := .int 4) pe_int)) (de_c (d := .int 3) pe_int))))))), rfl⟩)
end
end Carry
set_option Elab.async false
set_option linter.all false
set_option maxRecDepth 100000
set_option maxHeartbeats 4000000
namespace Carry
open PySem L2
section
variable {P : Program} {w : World} {K : PySem.W.Frag} {mg : Str → Option Value} {base : Heap} {t : Adr}
theorem sc_l_after : FnScope ["_law_house_here", "_law_spot", "_law_told", "_law_belt", "_law_out"] ["_law_house_here", "_law_spot"] (defScope s_l_after) := ⟨rfl, rfl, rfl, by decide +kernel, rfl, by decide +kernel, by decide +kernel⟩
def m_l_after : GS := (gsCons (gsSet 2 (gSeq .lst gaNil))
  (gsCons (gsFor (gBin oIx (gVar 0) (gC (.int 0))) (ggName 3)
    (gsIf (gAndT (gT (gBin oEq (gBin oIx (gVar 3) (gC (.int 0))) (gBin oIx (gVar 1) (gC (.int 0))))) (gT (gBin oLt (gBin oAdd (gBin oIx (gVar 1) (gC (.int 1))) (gC (.int 1))) (gBin oIx (gVar 3) (gC (.int 1))))))
    (gsDrop (gMut mAppend (gVar 2) (gaCons (gFrz (gSeq .tup (gaCons (gBin oIx (gVar 3) (gC (.int 0))) (gaCons (gFrz (gBin oAdd (gBin oIx (gVar 1) (gC (.int 1))) (gC (.int 1)))) gaNil)))) gaNil)))
    (gsIf (gT (gBin oEq (gBin oIx (gVar 3) (gC (.int 0))) (gBin oIx (gVar 1) (gC (.int 0)))))
    (gsCons (gsFor (gBin oIx (gVar 3) (gC (.int 3))) (ggName 4)
    (gsDrop (gMut mAppend (gVar 2) (gaCons (gFrz (gSeq .tup (gaCons (gVar 4) (gaCons (gC (.int 0)) gaNil)))) gaNil))))
  (gsIf (gTru (gBin oIx (gVar 3) (gC (.int 2))))
    (gsDrop (gMut mAppend (gVar 2) (gaCons (gFrz (gSeq .tup (gaCons (gBin oIx (gVar 3) (gC (.int 0))) (gaCons (gC (.int 0)) gaNil)))) gaNil)))
    gsNil))
    gsNil)))
  (gsRet (gMove (gVar 2)))))
def M_l_after : GM := runM 5 [false, false] m_l_after
theorem ok_l_after (T : Txt K mg t) : FnOk P w K mg base CX0 1 t.f_l_after t.d_l_after ["_law_house_here", "_law_spot"] (SpM K 2 M_l_after) :=
  fn_mir (k := 0) [false, false] m_l_after T.F_l_after.fn sc_l_after rfl rfl (by decide) fun cdv A outer s H E hr => (by
    have hu := hu_of hr
    have hu40 := hu40_of hr
    have hu41 := hu41_of hr
    exact ⟨_, (ds_cons (ds_set (i := 2) sc_l_after.nd rfl (Or.inl rfl) (de_lst da_nil))
      (ds_cons (ds_for PassesOwn.never (de_ix (ix_A K (by exact hu41)) ok_ix (de_var (pv 0)) (de_c (d := .int 0) pe_int)) (pg_name (i := 3) sc_l_after.nd rfl (Or.inl rfl)) tg_name
      (ds_one (ds_if (PW.pt (dw_and (dt_cmp (op_eqA K (by exact hu40)) ok_eq (de_ix (ix_A K (by exact hu41)) ok_ix (de_var (pv 3)) (de_c (d := .int 0) pe_int)) (de_ix (ix_A K (by exact hu41)) ok_ix (de_var (pv 1)) (de_c (d := .int 0) pe_int))) (dw_and1 (dt_cmp op_lt ok_lt (de_op (op_addA K) ok_add (de_ix (ix_A K (by exact hu41)) ok_ix (de_var (pv 1)) (de_c (d := .int 1) pe_int)) (de_c (d := .int 1) pe_int)) (de_ix (ix_A K (by exact hu41)) ok_ix (de_var (pv 3)) (de_c (d := .int 1) pe_int))))))
      (ds_one (ds_expr (de_mut PySem.F.slot_list_append PySem.F.type_list_append mt_append ok_append (de_var (pv 2)) (da_cons (de_frz (de_tup (da_cons (de_ix (ix_A K (by exact hu41)) ok_ix (de_var (pv 3)) (de_c (d := .int 0) pe_int)) (da_cons (de_frz (de_op (op_addA K) ok_add (de_ix (ix_A K (by exact hu41)) ok_ix (de_var (pv 1)) (de_c (d := .int 1) pe_int)) (de_c (d := .int 1) pe_int))) da_nil)))) da_nil))))
      (ds_one (ds_if (dt_cmp (op_eqA K (by exact hu40)) ok_eq (de_ix (ix_A K (by exact hu41)) ok_ix (de_var (pv 3)) (de_c (d := .int 0) pe_int)) (de_ix (ix_A K (by exact hu41)) ok_ix (de_var (pv 1)) (de_c (d := .int 0) pe_int)))
      (ds_cons (ds_for PassesOwn.never (de_ix (ix_A K (by exact hu41)) ok_ix (de_var (pv 3)) (de_c (d := .int 3) pe_int)) (pg_name (i := 4) sc_l_after.nd rfl (Or.inl rfl)) tg_name
      (ds_one (ds_expr (de_mut PySem.F.slot_list_append PySem.F.type_list_append mt_append ok_append (de_var (pv 2)) (da_cons (de_frz (de_tup (da_cons (de_var (pv 4)) (da_cons (de_c (d := .int 0) pe_int) da_nil)))) da_nil)))))
      (ds_one (ds_if (dt_tru (de_ix (ix_A K (by exact hu41)) ok_ix (de_var (pv 3)) (de_c (d := .int 2) pe_int)))
      (ds_one (ds_expr (de_mut PySem.F.slot_list_append PySem.F.type_list_append mt_append ok_append (de_var (pv 2)) (da_cons (de_frz (de_tup (da_cons (de_ix (ix_A K (by exact hu41)) ok_ix (de_var (pv 3)) (de_c (d := .int 0) pe_int)) (da_cons (de_c (d := .int 0) pe_int) da_nil)))) da_nil))))
      ds_nil)))
      ds_nil)))))
      (ds_one (ds_ret (de_move (de_var (pv 2))))))), rfl⟩)
end
end Carry
set_option Elab.async false
set_option linter.all false
set_option maxRecDepth 100000
set_option maxHeartbeats 4000000
namespace Carry
open PySem L2
section
variable {P : Program} {w : World} {K : PySem.W.Frag} {mg : Str → Option Value} {base : Heap} {t : Adr}
theorem sc_l_is : FnScope ["_law_found", "_law_due"] ["_law_found", "_law_due"] (defScope s_l_is) := ⟨rfl, rfl, rfl, by decide +kernel, rfl, by decide +kernel, by decide +kernel⟩
def m_l_is : GS := (gsCons (gsIf (gT (gBin (oIsG false) (gVar 1) (gC .non)))
    (gsRet (gBin (oIsG false) (gVar 0) (gC .non)))
    gsNil)
  (gsRet (gAndV (gOp oIsi (gaCons (gVar 0) (gaCons (gC (.ty "int")) gaNil))) (gAndV (gNotV (gOp oIsi (gaCons (gVar 0) (gaCons (gC (.ty "bool")) gaNil)))) (gBin oEq (gVar 0) (gVar 1))))))
def M_l_is : GM := runM 2 [false, false] m_l_is
theorem ok_l_is (T : Txt K mg t) : FnOk P w K mg base CX0 1 t.f_l_is t.d_l_is ["_law_found", "_law_due"] (SpM K 2 M_l_is) :=
  fn_mir (k := 0) [false, false] m_l_is T.F_l_is.fn sc_l_is rfl rfl (by decide) fun cdv A outer s H E hr => (by
    have hu := hu_of hr
    have hu40 := hu40_of hr
    have hu41 := hu41_of hr
    exact ⟨_, (ds_cons (ds_if (dt_cmp op_isA (ok_is false) (de_var (pv 1)) (de_c (d := .non) pe_non))
      (ds_one (ds_ret (de_cmp op_isA (ok_is false) (de_var (pv 0)) (de_c (d := .non) pe_non))))
      ds_nil)
      (ds_one (ds_ret (de_and (de_callB (call_isiK K) ok_isi T.b_isinstance bt_isi (da_cons (de_var (pv 0)) (da_cons (de_c (d := .ty "int") (pe_ty (by rfl) T.b_int bt_int)) da_nil))) (de_and (de_not (de_callB (call_isiK K) ok_isi T.b_isinstance bt_isi (da_cons (de_var (pv 0)) (da_cons (de_c (d := .ty "bool") (pe_ty (by rfl) T.b_bool bt_bool)) da_nil)))) (de_one (de_cmp (op_eqA K (by exact hu40)) ok_eq (de_var (pv 0)) (de_var (pv 1))))))))), rfl⟩)
end
end Carry
set_option Elab.async false
set_option linter.all false
set_option maxRecDepth 100000
set_option maxHeartbeats 4000000
namespace Carry
open PySem L2
section
variable {P : Program} {w : World} {K : PySem.W.Frag} {mg : Str → Option Value} {base : Heap} {t : Adr}
theorem sc_far : FnScope ["house", "place", "cart", "known"] ["house", "place", "cart"] (defScope s_far) := ⟨rfl, rfl, rfl, by decide +kernel, rfl, by decide +kernel, by decide +kernel⟩
def m_far : GS := (gsCons (gsSet 3 (gFrz (gCall M_begins (gaCons (gVar 0) (gaCons (gVar 2) gaNil)))))
  (gsCons (gsIf (gT (gBin (oInG true) (gBin oIx (gVar 1) (gC (.int 0))) (gVar 3)))
    (gsRet (gC .non))
    gsNil)
  (gsRet (gBin oSub (gBin oIx (gVar 3) (gBin oIx (gVar 1) (gC (.int 0)))) (gBin oIx (gVar 1) (gC (.int 1)))))))
def M_far : GM := runM 4 [false, false, false] m_far
theorem ok_far (T : Txt K mg t) (G_begins : FnOk P w K mg base CX0 1 t.f_begins t.d_begins ["house", "cart"] (SpM K 2 M_begins)) : FnOk P w K mg base CX0 2 t.f_far t.d_far ["house", "place", "cart"] (SpM K 3 M_far) :=
  fn_mir (k := 1) [false, false, false] m_far T.F_far.fn sc_far rfl rfl (by decide) fun cdv A outer s H E hr => (by
    have hu := hu_of hr
    have hu40 := hu40_of hr
    have hu41 := hu41_of hr
    exact ⟨_, (ds_cons (ds_set (i := 3) sc_far.nd rfl (Or.inl rfl) (de_frz (de_call T.F_begins G_begins (by exact hr.mono (by decide)) (da_cons (de_var (pv 0)) (da_cons (de_var (pv 2)) da_nil)) (ga_len_cons (ga_len_cons ga_len_nil)))))
      (ds_cons (ds_if (dt_cmp (op_notInA K (by exact hu41)) (ok_in true) (de_ix (ix_A K (by exact hu41)) ok_ix (de_var (pv 1)) (de_c (d := .int 0) pe_int)) (de_var (pv 3)))
      (ds_one (ds_ret (de_c (d := .non) pe_non)))
      ds_nil)
      (ds_one (ds_ret (de_op op_sub ok_sub (de_ix (ix_A K (by exact hu41)) ok_ix (de_var (pv 3)) (de_ix (ix_A K (by exact hu41)) ok_ix (de_var (pv 1)) (de_c (d := .int 0) pe_int))) (de_ix (ix_A K (by exact hu41)) ok_ix (de_var (pv 1)) (de_c (d := .int 1) pe_int))))))), rfl⟩)
end
end Carry
set_option Elab.async false
set_option linter.all false
set_option maxRecDepth 100000
set_option maxHeartbeats 4000000
namespace Carry
open PySem L2
section
variable {P : Program} {w : World} {K : PySem.W.Frag} {mg : Str → Option Value} {base : Heap} {t : Adr}
theorem sc_l_outs : FnScope ["_law_feed_here", "_law_later", "_law_carts", "_law_outs_here", "_law_t", "_law_out"] ["_law_feed_here", "_law_later", "_law_carts"] (defScope s_l_outs) := ⟨rfl, rfl, rfl, by decide +kernel, rfl, by decide +kernel, by decide +kernel⟩
def m_l_outs : GS := (gsCons (gsSet 3 (gSeq .lst gaNil))
  (gsCons (gsRange1 (gaCons (gBin oAdd (gC (.int 1)) (gCall M_l_draw (gaCons (gVar 0) (gaCons (gC (.int 3)) gaNil)))) gaNil) (ggName 4)
    (gsCons (gsSet 5 (gBin oIx (gBin oAdd (gVar 1) (gVar 2)) (gCall M_l_draw (gaCons (gVar 0) (gaCons (gFrz (gBin oAdd (gOp oLen (gaCons (gVar 1) gaNil)) (gOp oLen (gaCons (gVar 2) gaNil)))) gaNil)))))
  (gsIf (gT (gBin (oInG true) (gVar 5) (gVar 3)))
    (gsDrop (gMut mInsert (gVar 3) (gaCons (gFrz (gCall M_l_draw (gaCons (gVar 0) (gaCons (gFrz (gBin oAdd (gOp oLen (gaCons (gVar 3) gaNil)) (gC (.int 1)))) gaNil)))) (gaCons (gVar 5) gaNil))))
    gsNil)))
  (gsCons (gsIf (gAndT (gT (gBin (oInG true) (gBin oIx (gVar 2) (gC (.int 0))) (gVar 3))) (gT (gBin oEq (gOp oLen (gaCons (gCompG (srcV 3 [1]) (ggName 0) (gT (gBin (oInG false) (gVar 0) (gVar 1))) (gVar 0) 1 [1]) gaNil)) (gC (.int 0)))))
    (gsDrop (gMut mInsert (gVar 3) (gaCons (gFrz (gCall M_l_draw (gaCons (gVar 0) (gaCons (gFrz (gBin oAdd (gOp oLen (gaCons (gVar 3) gaNil)) (gC (.int 1)))) gaNil)))) (gaCons (gBin oIx (gVar 2) (gC (.int 0))) gaNil))))
    gsNil)
  (gsRet (gMove (gVar 3))))))
def M_l_outs : GM := runM 6 [true, false, false] m_l_outs
theorem ok_l_outs (T : Txt K mg t) (G_l_draw : FnOk P w K mg base CX0 1 t.f_l_draw t.d_l_draw ["_law_feed_here", "_law_many"] (SpM K 2 M_l_draw)) : FnOk P w K mg base CX0 2 t.f_l_outs t.d_l_outs ["_law_feed_here", "_law_later", "_law_carts"] (SpM K 3 M_l_outs) :=
  fn_mir (k := 1) [true, false, false] m_l_outs T.F_l_outs.fn sc_l_outs rfl rfl (by decide) fun cdv A outer s H E hr => (by
    have hu := hu_of hr
    have hu40 := hu40_of hr
    have hu41 := hu41_of hr
    exact ⟨_, (ds_cons (ds_set (i := 3) sc_l_outs.nd rfl (Or.inl rfl) (de_lst da_nil))
      (ds_cons (ds_range1 PassesOwn.never T.b_range (da_cons (de_op (op_addA K) ok_add (de_c (d := .int 1) pe_int) (de_call T.F_l_draw G_l_draw (by exact hr.mono (by decide)) (da_cons (de_var (pv 0)) (da_cons (de_c (d := .int 3) pe_int) da_nil)) (ga_len_cons (ga_len_cons ga_len_nil)))) da_nil) (pg_name (i := 4) sc_l_outs.nd rfl (Or.inl rfl)) tg_name
      (ds_cons (ds_set (i := 5) sc_l_outs.nd rfl (Or.inl rfl) (de_ix (ix_A K (by exact hu41)) ok_ix (de_op (op_addA K) ok_add (de_var (pv 1)) (de_var (pv 2))) (de_call T.F_l_draw G_l_draw (by exact hr.mono (by decide)) (da_cons (de_var (pv 0)) (da_cons (de_frz (de_op (op_addA K) ok_add (de_callB (call_lenA K) ok_len T.b_len bt_len (da_cons (de_var (pv 1)) da_nil)) (de_callB (call_lenA K) ok_len T.b_len bt_len (da_cons (de_var (pv 2)) da_nil)))) da_nil)) (ga_len_cons (ga_len_cons ga_len_nil)))))
      (ds_one (ds_if (dt_cmp (op_notInA K (by exact hu41)) (ok_in true) (de_var (pv 5)) (de_var (pv 3)))
      (ds_one (ds_expr (de_mut PySem.F.slot_list_insert PySem.F.type_list_insert mt_insert ok_insert (de_var (pv 3)) (da_cons (de_frz (de_call T.F_l_draw G_l_draw (by exact hr.mono (by decide)) (da_cons (de_var (pv 0)) (da_cons (de_frz (de_op (op_addA K) ok_add (de_callB (call_lenA K) ok_len T.b_len bt_len (da_cons (de_var (pv 3)) da_nil)) (de_c (d := .int 1) pe_int))) da_nil)) (ga_len_cons (ga_len_cons ga_len_nil)))) (da_cons (de_var (pv 5)) da_nil)))))
      ds_nil))))
      (ds_cons (ds_if (PW.pt (dw_and (dt_cmp (op_notInA K (by exact hu41)) (ok_in true) (de_ix (ix_A K (by exact hu41)) ok_ix (de_var (pv 2)) (de_c (d := .int 0) pe_int)) (de_var (pv 3))) (dw_and1 (dt_cmp (op_eqA K (by exact hu40)) ok_eq (de_callB (call_lenA K) ok_len T.b_len bt_len (da_cons (de_comp src_var (k := 1) (cap := [1]) tg_name (M := ["_law_out", "_law_later"]) (CompOk.of (defScope s_l_outs).names ["_law_feed_here", "_law_later", "_law_carts", "_law_outs_here", "_law_t", "_law_out"] (by decide +kernel)) (pi_listK K (pv 3))
        (fun _ _ _ _ => (pg_name (i := 0) (show List.Nodup (["_law_out", "_law_later"] : List Str) by decide +kernel) rfl (Or.inl rfl))) (fun _ _ _ _ => (dts_one (dt_cmp (op_inA K (by exact hu41)) (ok_in false) (de_var (pv 0)) (de_var (pv 1))))) (fun _ _ _ _ => (de_var (pv 0)))) da_nil)) (de_c (d := .int 0) pe_int)))))
      (ds_one (ds_expr (de_mut PySem.F.slot_list_insert PySem.F.type_list_insert mt_insert ok_insert (de_var (pv 3)) (da_cons (de_frz (de_call T.F_l_draw G_l_draw (by exact hr.mono (by decide)) (da_cons (de_var (pv 0)) (da_cons (de_frz (de_op (op_addA K) ok_add (de_callB (call_lenA K) ok_len T.b_len bt_len (da_cons (de_var (pv 3)) da_nil)) (de_c (d := .int 1) pe_int))) da_nil)) (ga_len_cons (ga_len_cons ga_len_nil)))) (da_cons (de_ix (ix_A K (by exact hu41)) ok_ix (de_var (pv 2)) (de_c (d := .int 0) pe_int)) da_nil)))))
      ds_nil)
      (ds_one (ds_ret (de_move (de_var (pv 3)))))))), rfl⟩)
end
end Carry
set_option Elab.async false
set_option linter.all false
set_option maxRecDepth 100000
set_option maxHeartbeats 4000000
namespace Carry
open PySem L2
section
variable {P : Program} {w : World} {K : PySem.W.Frag} {mg : Str → Option Value} {base : Heap} {t : Adr}
theorem sc_l_first_turns : FnScope ["_law_house_here", "_law_place", "_law_known", "_law_fresh", "_law_now", "_law_later", "_law_spot", "_law_other"] ["_law_house_here", "_law_place"] (defScope s_l_first_turns) := ⟨rfl, rfl, rfl, by decide +kernel, rfl, by decide +kernel, by decide +kernel⟩
def m_l_first_turns : GS := (gsCons (gsSet 2 (gDict1 (gVar 1) (gC (.int 0))))
  (gsCons (gsSet 3 (gFrz (gSeq .lst (gaCons (gVar 1) gaNil))))
  (gsCons (gsSet 4 (gC (.int 0)))
  (gsCons (gsWhile (gTru (gVar 3)) (gsCons (gsSet 4 (gFrz (gBin oAdd (gVar 4) (gC (.int 1)))))
  (gsCons (gsSet 5 (gSeq .lst gaNil))
  (gsCons (gsFor (gVar 3) (ggName 6)
    (gsFor (gCall M_l_after (gaCons (gVar 0) (gaCons (gVar 6) gaNil))) (ggName 7)
    (gsIf (gT (gBin (oInG true) (gVar 7) (gVar 2)))
    (gsCons (gsPut (gVar 4) (gVar 2) (gVar 7))
  (gsDrop (gMut mAppend (gVar 5) (gaCons (gVar 7) gaNil))))
    gsNil)))
  (gsSet 3 (gFrz (gVar 5)))))) 1000)
  (gsRet (gMove (gVar 2)))))))
def M_l_first_turns : GM := runM 8 [false, false] m_l_first_turns
theorem ok_l_first_turns (T : Txt K mg t) (G_l_after : FnOk P w K mg base CX0 1 t.f_l_after t.d_l_after ["_law_house_here", "_law_spot"] (SpM K 2 M_l_after)) : FnOk P w K mg base CX0 2 t.f_l_first_turns t.d_l_first_turns ["_law_house_here", "_law_place"] (SpM K 2 M_l_first_turns) :=
  fn_mir (k := 1) [false, false] m_l_first_turns T.F_l_first_turns.fn sc_l_first_turns rfl rfl (by decide) fun cdv A outer s H E hr => (by
    have hu := hu_of hr
    have hu40 := hu40_of hr
    have hu41 := hu41_of hr
    exact ⟨_, (ds_cons (ds_set (i := 2) sc_l_first_turns.nd rfl (Or.inl rfl) (de_dict1 (by exact hu41) (de_var (pv 1)) (de_c (d := .int 0) pe_int)))
      (ds_cons (ds_set (i := 3) sc_l_first_turns.nd rfl (Or.inl rfl) (de_frz (de_lst (da_cons (de_var (pv 1)) da_nil))))
      (ds_cons (ds_set (i := 4) sc_l_first_turns.nd rfl (Or.inl rfl) (de_c (d := .int 0) pe_int))
      (ds_cons (ds_while 1000 PassesOwn.never (dt_tru (de_var (pv 3)))
      (ds_cons (ds_set (i := 4) sc_l_first_turns.nd rfl (Or.inl rfl) (de_frz (de_op (op_addA K) ok_add (de_var (pv 4)) (de_c (d := .int 1) pe_int))))
      (ds_cons (ds_set (i := 5) sc_l_first_turns.nd rfl (Or.inl rfl) (de_lst da_nil))
      (ds_cons (ds_for PassesOwn.never (de_var (pv 3)) (pg_name (i := 6) sc_l_first_turns.nd rfl (Or.inl rfl)) tg_name
      (ds_one (ds_for PassesOwn.never (de_call T.F_l_after G_l_after (by exact hr.mono (by decide)) (da_cons (de_var (pv 0)) (da_cons (de_var (pv 6)) da_nil)) (ga_len_cons (ga_len_cons ga_len_nil))) (pg_name (i := 7) sc_l_first_turns.nd rfl (Or.inl rfl)) tg_name
      (ds_one (ds_if (dt_cmp (op_notInA K (by exact hu41)) (ok_in true) (de_var (pv 7)) (de_var (pv 2)))
      (ds_cons (ds_put (de_var (pv 4)) (de_var (pv 2)) (de_var (pv 7)) (by exact hu41))
      (ds_one (ds_expr (de_mut PySem.F.slot_list_append PySem.F.type_list_append mt_append ok_append (de_var (pv 5)) (da_cons (de_var (pv 7)) da_nil)))))
      ds_nil)))))
      (ds_one (ds_set (i := 3) sc_l_first_turns.nd rfl (Or.inl rfl) (de_frz (de_var (pv 5)))))))))
      (ds_one (ds_ret (de_move (de_var (pv 2))))))))), rfl⟩)
end
end Carry
set_option Elab.async false
set_option linter.all false
set_option maxRecDepth 100000
set_option maxHeartbeats 4000000
namespace Carry
open PySem L2
section
variable {P : Program} {w : World} {K : PySem.W.Frag} {mg : Str → Option Value} {base : Heap} {t : Adr}
theorem sc_l_house : FnScope ["_law_feed_here", "_law_many", "_law_carts", "_law_belts", "_law_wide", "_law_k", "_law_ring", "_law_long", "_law_outs_here"] ["_law_feed_here"] (defScope s_l_house) := ⟨rfl, rfl, rfl, by decide +kernel, rfl, by decide +kernel, by decide +kernel⟩
def m_l_house : GS := (gsCons (gsSet 1 (gFrz (gCall M_l_draw (gaCons (gVar 0) (gaCons (gC (.int 7)) gaNil)))))
  (gsCons (gsSet 2 (gFrz (gCompG (srcR1 (gaCons (gBin oAdd (gC (.int 1)) (gCall M_l_draw (gaCons (gVar 0) (gaCons (gC (.int 5)) gaNil)))) gaNil)) (ggName 0) gYes (gCallF M_l_name (gaCons (gVar 1) (gaCons (gBin oSub (gC (.int 11)) (gVar 0)) gaNil))) 1 [0])))
  (gsCons (gsSet 3 (gSeq .lst gaNil))
  (gsCons (gsSet 4 (gC (.int 0)))
  (gsCons (gsIf (gT (gBin oLt (gVar 1) (gC (.int 3))))
    (gsSet 4 (gBin oMulA (gCall M_l_draw (gaCons (gVar 0) (gaCons (gC (.int 2)) gaNil))) (gCall M_l_draw (gaCons (gVar 0) (gaCons (gC (.int 20)) gaNil)))))
    gsNil)
  (gsCons (gsRangeD (gaCons (gBin oSub (gVar 1) (gC (.int 1))) (gaCons (gUn oNeg (gC (.int 1))) (gaCons (gUn oNeg (gC (.int 1))) gaNil))) (ggName 5)
    (gsCons (gsSet 6 (gBin oEq (gCall M_l_draw (gaCons (gVar 0) (gaCons (gC (.int 3)) gaNil))) (gC (.int 0))))
  (gsCons (gsSet 7 (gFrz (gBin oAdd (gBin oAdd (gBin oAdd (gC (.int 1)) (gOp oInt1 (gaCons (gVar 6) gaNil))) (gCall M_l_draw (gaCons (gVar 0) (gaCons (gC (.int 4)) gaNil)))) (gBin oMulA (gVar 4) (gOp oInt1 (gaCons (gBin oEq (gVar 5) (gC (.int 0))) gaNil))))))
  (gsCons (gsSet 8 (gFrz (gCall M_l_outs (gaCons (gVar 0) (gaCons (gFrz (gCompG (srcV 3 []) (ggName 0) gYes (gBin oIx (gVar 0) (gC (.int 0))) 1 [])) (gaCons (gVar 2) gaNil))))))
  (gsDrop (gMut mInsert (gVar 3) (gaCons (gC (.int 0)) (gaCons (gFrz (gSeq .tup (gaCons (gCallF M_l_name (gaCons (gVar 0) (gaCons (gVar 5) gaNil))) (gaCons (gVar 7) (gaCons (gVar 6) (gaCons (gVar 8) gaNil)))))) gaNil))))))))
  (gsRet (gSeq .tup (gaCons (gMove (gVar 3)) (gaCons (gVar 2) gaNil))))))))))
def M_l_house : GM := runM 9 [true] m_l_house
theorem ok_l_house (T : Txt K mg t) (G_l_draw : FnOk P w K mg base CX0 1 t.f_l_draw t.d_l_draw ["_law_feed_here", "_law_many"] (SpM K 2 M_l_draw)) (G_l_name : FnOk P w K mg base CX0 1 t.f_l_name t.d_l_name ["_law_feed_here", "_law_k"] (SpM K 2 M_l_name)) (G_l_outs : FnOk P w K mg base CX0 2 t.f_l_outs t.d_l_outs ["_law_feed_here", "_law_later", "_law_carts"] (SpM K 3 M_l_outs)) : FnOk P w K mg base CX0 3 t.f_l_house t.d_l_house ["_law_feed_here"] (SpM K 1 M_l_house) :=
  fn_mir (k := 2) [true] m_l_house T.F_l_house.fn sc_l_house rfl rfl (by decide) fun cdv A outer s H E hr => (by
    have hu := hu_of hr
    have hu40 := hu40_of hr
    have hu41 := hu41_of hr
    exact ⟨_, (ds_cons (ds_set (i := 1) sc_l_house.nd rfl (Or.inl rfl) (de_frz (de_call T.F_l_draw G_l_draw (by exact hr.mono (by decide)) (da_cons (de_var (pv 0)) (da_cons (de_c (d := .int 7) pe_int) da_nil)) (ga_len_cons (ga_len_cons ga_len_nil)))))
      (ds_cons (ds_compF (i := 2) src_r1 (k := 1) (cap := [0]) tg_name (M := ["_law_k", "_law_feed_here"]) (CompOk.of (defScope s_l_house).names ["_law_feed_here", "_law_many", "_law_carts", "_law_belts", "_law_wide", "_law_k", "_law_ring", "_law_long", "_law_outs_here"] (by decide +kernel)) sc_l_house.nd rfl (Or.inl rfl) (pi_range1 (by rfl) T.b_range (da_cons (de_op (op_addA K) ok_add (de_c (d := .int 1) pe_int) (de_call T.F_l_draw G_l_draw (by exact hr.mono (by decide)) (da_cons (de_var (pv 0)) (da_cons (de_c (d := .int 5) pe_int) da_nil)) (ga_len_cons (ga_len_cons ga_len_nil)))) da_nil))
        (fun _ _ _ _ => (pg_name (i := 0) (show List.Nodup (["_law_k", "_law_feed_here"] : List Str) by decide +kernel) rfl (Or.inl rfl))) (fun _ _ _ _ => dts_nil) (fun _ _ _ _ => (de_callF T.F_l_name G_l_name (by exact hr.mono (by decide)) (da_cons (de_var (pv 1)) (da_cons (de_op op_sub ok_sub (de_c (d := .int 11) pe_int) (de_var (pv 0))) da_nil)) (ga_len_cons (ga_len_cons ga_len_nil)))))
      (ds_cons (ds_set (i := 3) sc_l_house.nd rfl (Or.inl rfl) (de_lst da_nil))
      (ds_cons (ds_set (i := 4) sc_l_house.nd rfl (Or.inl rfl) (de_c (d := .int 0) pe_int))
      (ds_cons (ds_if (dt_cmp op_lt ok_lt (de_var (pv 1)) (de_c (d := .int 3) pe_int))
      (ds_one (ds_set (i := 4) sc_l_house.nd rfl (Or.inl rfl) (de_op op_mulA ok_mul (de_call T.F_l_draw G_l_draw (by exact hr.mono (by decide)) (da_cons (de_var (pv 0)) (da_cons (de_c (d := .int 2) pe_int) da_nil)) (ga_len_cons (ga_len_cons ga_len_nil))) (de_call T.F_l_draw G_l_draw (by exact hr.mono (by decide)) (da_cons (de_var (pv 0)) (da_cons (de_c (d := .int 20) pe_int) da_nil)) (ga_len_cons (ga_len_cons ga_len_nil))))))
      ds_nil)
      (ds_cons (ds_rangeD PassesOwn.never T.b_range (da_cons (de_op op_sub ok_sub (de_var (pv 1)) (de_c (d := .int 1) pe_int)) (da_cons (de_un un_neg ok_neg (de_c (d := .int 1) pe_int)) (da_cons (de_un un_neg ok_neg (de_c (d := .int 1) pe_int)) da_nil))) (pg_name (i := 5) sc_l_house.nd rfl (Or.inl rfl)) tg_name
      (ds_cons (ds_set (i := 6) sc_l_house.nd rfl (Or.inl rfl) (de_cmp (op_eqA K (by exact hu40)) ok_eq (de_call T.F_l_draw G_l_draw (by exact hr.mono (by decide)) (da_cons (de_var (pv 0)) (da_cons (de_c (d := .int 3) pe_int) da_nil)) (ga_len_cons (ga_len_cons ga_len_nil))) (de_c (d := .int 0) pe_int)))
      (ds_cons (ds_set (i := 7) sc_l_house.nd rfl (Or.inl rfl) (de_frz (de_op (op_addA K) ok_add (de_op (op_addA K) ok_add (de_op (op_addA K) ok_add (de_c (d := .int 1) pe_int) (de_callTy call_int1 ok_int1 T.b_int bt_int (da_cons (de_var (pv 6)) da_nil))) (de_call T.F_l_draw G_l_draw (by exact hr.mono (by decide)) (da_cons (de_var (pv 0)) (da_cons (de_c (d := .int 4) pe_int) da_nil)) (ga_len_cons (ga_len_cons ga_len_nil)))) (de_op op_mulA ok_mul (de_var (pv 4)) (de_callTy call_int1 ok_int1 T.b_int bt_int (da_cons (de_cmp (op_eqA K (by exact hu40)) ok_eq (de_var (pv 5)) (de_c (d := .int 0) pe_int)) da_nil))))))
      (ds_cons (ds_set (i := 8) sc_l_house.nd rfl (Or.inl rfl) (de_frz (de_call T.F_l_outs G_l_outs (by exact hr.mono (by decide)) (da_cons (de_var (pv 0)) (da_cons (de_frz (de_comp src_var (k := 1) (cap := []) tg_name (M := ["_law_belt"]) (CompOk.of (defScope s_l_house).names ["_law_feed_here", "_law_many", "_law_carts", "_law_belts", "_law_wide", "_law_k", "_law_ring", "_law_long", "_law_outs_here"] (by decide +kernel)) (pi_listK K (pv 3))
        (fun _ _ _ _ => (pg_name (i := 0) (show List.Nodup (["_law_belt"] : List Str) by decide +kernel) rfl (Or.inl rfl))) (fun _ _ _ _ => dts_nil) (fun _ _ _ _ => (de_ix (ix_A K (by exact hu41)) ok_ix (de_var (pv 0)) (de_c (d := .int 0) pe_int))))) (da_cons (de_var (pv 2)) da_nil))) (ga_len_cons (ga_len_cons (ga_len_cons ga_len_nil))))))
      (ds_one (ds_expr (de_mut PySem.F.slot_list_insert PySem.F.type_list_insert mt_insert ok_insert (de_var (pv 3)) (da_cons (de_c (d := .int 0) pe_int) (da_cons (de_frz (de_tup (da_cons (de_callF T.F_l_name G_l_name (by exact hr.mono (by decide)) (da_cons (de_var (pv 0)) (da_cons (de_var (pv 5)) da_nil)) (ga_len_cons (ga_len_cons ga_len_nil))) (da_cons (de_var (pv 7)) (da_cons (de_var (pv 6)) (da_cons (de_var (pv 8)) da_nil)))))) da_nil)))))))))
      (ds_one (ds_ret (de_tup (da_cons (de_move (de_var (pv 3))) (da_cons (de_var (pv 2)) da_nil))))))))))), rfl⟩)
end
end Carry
set_option Elab.async false
set_option linter.all false
set_option maxRecDepth 100000
set_option maxHeartbeats 4000000
namespace Carry
open PySem L2
section
variable {P : Program} {w : World} {K : PySem.W.Frag} {mg : Str → Option Value} {base : Heap} {t : Adr}
theorem sc_law : FnScope ["_law_script", "_law_feed_here", "_law_house_here", "_law_again", "_law_kept", "_law_asked", "_law_belt", "_law_cell", "_law_known", "_law_cart", "_law_one"] ["_law_script"] (defScope s_law) := ⟨rfl, rfl, rfl, by decide +kernel, rfl, by decide +kernel, by decide +kernel⟩
def m_law : GS := (gsCons (gsSet 1 (gCall M_l_feed (gaCons (gVar 0) gaNil)))
  (gsCons (gsPut (gFrz (gCall M_l_draw (gaCons (gVar 1) (gaCons (gC (.int 12)) gaNil)))) (gVar 1) (gC (.int 2)))
  (gsCons (gsSet 2 (gFrz (gCall M_l_house (gaCons (gVar 1) gaNil))))
  (gsCons (gsSet 3 (gCall M_l_feed (gaCons (gVar 0) gaNil)))
  (gsCons (gsPut (gFrz (gCall M_l_draw (gaCons (gVar 3) (gaCons (gC (.int 12)) gaNil)))) (gVar 3) (gC (.int 2)))
  (gsCons (gsSet 4 (gFrz (gCall M_l_house (gaCons (gVar 3) gaNil))))
  (gsCons (gsSet 5 (gSeq .lst gaNil))
  (gsCons (gsFor (gBin oIx (gVar 4) (gC (.int 0))) (ggName 6)
    (gsRange1 (gaCons (gBin oIx (gVar 6) (gC (.int 1))) gaNil) (ggName 7)
    (gsCons (gsSet 8 (gFrz (gCall M_l_first_turns (gaCons (gVar 4) (gaCons (gFrz (gSeq .tup (gaCons (gBin oIx (gVar 6) (gC (.int 0))) (gaCons (gVar 7) gaNil)))) gaNil)))))
  (gsFor (gBin oIx (gVar 4) (gC (.int 1))) (ggName 9)
    (gsDrop (gMut mAppend (gVar 5) (gaCons (gFrz (gSeq .tup (gaCons (gFrz (gSeq .tup (gaCons (gBin oIx (gVar 6) (gC (.int 0))) (gaCons (gVar 7) gaNil)))) (gaCons (gVar 9) (gaCons (gMethD oGet1 (gVar 8) (gaCons (gFrz (gSeq .tup (gaCons (gVar 9) (gaCons (gC (.int 0)) gaNil)))) gaNil)) gaNil))))) gaNil)))))))
  (gsCons (gsFor (gBin oAdd (gVar 5) (gOp oListRev (gaCons (gVar 5) gaNil))) (ggName 10)
    (gsIf (gNotT (gTru (gCallF M_l_is (gaCons (gCallF M_far (gaCons (gVar 2) (gaCons (gBin oIx (gVar 10) (gC (.int 0))) (gaCons (gBin oIx (gVar 10) (gC (.int 1))) gaNil)))) (gaCons (gBin oIx (gVar 10) (gC (.int 2))) gaNil)))))
    (gsRet (gC (.bl false)))
    gsNil))
  (gsRet (gBin oEq (gVar 2) (gVar 4))))))))))))
def M_law : GM := runM 11 [false] m_law
theorem ok_law (T : Txt K mg t) (G_l_draw : FnOk P w K mg base CX0 1 t.f_l_draw t.d_l_draw ["_law_feed_here", "_law_many"] (SpM K 2 M_l_draw)) (G_l_feed : FnOk P w K mg base CX0 1 t.f_l_feed t.d_l_feed ["_law_script"] (SpM K 1 M_l_feed)) (G_l_first_turns : FnOk P w K mg base CX0 2 t.f_l_first_turns t.d_l_first_turns ["_law_house_here", "_law_place"] (SpM K 2 M_l_first_turns)) (G_l_house : FnOk P w K mg base CX0 3 t.f_l_house t.d_l_house ["_law_feed_here"] (SpM K 1 M_l_house)) (G_l_is : FnOk P w K mg base CX0 1 t.f_l_is t.d_l_is ["_law_found", "_law_due"] (SpM K 2 M_l_is)) (G_far : FnOk P w K mg base CX0 2 t.f_far t.d_far ["house", "place", "cart"] (SpM K 3 M_far)) : FnOk P w K mg base CX0 4 t.f_law t.d_law ["_law_script"] (SpM K 1 M_law) :=
  fn_mir (k := 3) [false] m_law T.F_law.fn sc_law rfl rfl (by decide) fun cdv A outer s H E hr => (by
    have hu := hu_of hr
    have hu40 := hu40_of hr
    have hu41 := hu41_of hr
    exact ⟨_, (ds_cons (ds_set (i := 1) sc_law.nd rfl (Or.inl rfl) (de_call T.F_l_feed G_l_feed (by exact hr.mono (by decide)) (da_cons (de_var (pv 0)) da_nil) (ga_len_cons ga_len_nil)))
      (ds_cons (ds_put (de_frz (de_call T.F_l_draw G_l_draw (by exact hr.mono (by decide)) (da_cons (de_var (pv 1)) (da_cons (de_c (d := .int 12) pe_int) da_nil)) (ga_len_cons (ga_len_cons ga_len_nil)))) (de_var (pv 1)) (de_c (d := .int 2) pe_int) (by exact hu41))
      (ds_cons (ds_set (i := 2) sc_law.nd rfl (Or.inl rfl) (de_frz (de_call T.F_l_house G_l_house (by exact hr.mono (by decide)) (da_cons (de_var (pv 1)) da_nil) (ga_len_cons ga_len_nil))))
      (ds_cons (ds_set (i := 3) sc_law.nd rfl (Or.inl rfl) (de_call T.F_l_feed G_l_feed (by exact hr.mono (by decide)) (da_cons (de_var (pv 0)) da_nil) (ga_len_cons ga_len_nil)))
      (ds_cons (ds_put (de_frz (de_call T.F_l_draw G_l_draw (by exact hr.mono (by decide)) (da_cons (de_var (pv 3)) (da_cons (de_c (d := .int 12) pe_int) da_nil)) (ga_len_cons (ga_len_cons ga_len_nil)))) (de_var (pv 3)) (de_c (d := .int 2) pe_int) (by exact hu41))
      (ds_cons (ds_set (i := 4) sc_law.nd rfl (Or.inl rfl) (de_frz (de_call T.F_l_house G_l_house (by exact hr.mono (by decide)) (da_cons (de_var (pv 3)) da_nil) (ga_len_cons ga_len_nil))))
      (ds_cons (ds_set (i := 5) sc_law.nd rfl (Or.inl rfl) (de_lst da_nil))
      (ds_cons (ds_for PassesOwn.never (de_ix (ix_A K (by exact hu41)) ok_ix (de_var (pv 4)) (de_c (d := .int 0) pe_int)) (pg_name (i := 6) sc_law.nd rfl (Or.inl rfl)) tg_name
      (ds_one (ds_range1 PassesOwn.never T.b_range (da_cons (de_ix (ix_A K (by exact hu41)) ok_ix (de_var (pv 6)) (de_c (d := .int 1) pe_int)) da_nil) (pg_name (i := 7) sc_law.nd rfl (Or.inl rfl)) tg_name
      (ds_cons (ds_set (i := 8) sc_law.nd rfl (Or.inl rfl) (de_frz (de_call T.F_l_first_turns G_l_first_turns (by exact hr.mono (by decide)) (da_cons (de_var (pv 4)) (da_cons (de_frz (de_tup (da_cons (de_ix (ix_A K (by exact hu41)) ok_ix (de_var (pv 6)) (de_c (d := .int 0) pe_int)) (da_cons (de_var (pv 7)) da_nil)))) da_nil)) (ga_len_cons (ga_len_cons ga_len_nil)))))
      (ds_one (ds_for PassesOwn.never (de_ix (ix_A K (by exact hu41)) ok_ix (de_var (pv 4)) (de_c (d := .int 1) pe_int)) (pg_name (i := 9) sc_law.nd rfl (Or.inl rfl)) tg_name
      (ds_one (ds_expr (de_mut PySem.F.slot_list_append PySem.F.type_list_append mt_append ok_append (de_var (pv 5)) (da_cons (de_frz (de_tup (da_cons (de_frz (de_tup (da_cons (de_ix (ix_A K (by exact hu41)) ok_ix (de_var (pv 6)) (de_c (d := .int 0) pe_int)) (da_cons (de_var (pv 7)) da_nil)))) (da_cons (de_var (pv 9)) (da_cons (de_methD PySem.F.slot_dict_get PySem.F.type_dict_get (mt_get1 K (by exact hu41)) ok_get1 (de_var (pv 8)) (da_cons (de_frz (de_tup (da_cons (de_var (pv 9)) (da_cons (de_c (d := .int 0) pe_int) da_nil)))) da_nil)) da_nil))))) da_nil))))))))))
      (ds_cons (ds_for PassesOwn.never (de_op (op_addA K) ok_add (de_var (pv 5)) (de_listRev T.b_list T.b_reversed (da_cons (de_var (pv 5)) da_nil))) (pg_name (i := 10) sc_law.nd rfl (Or.inl rfl)) tg_name
      (ds_one (ds_if (dt_not (dt_tru (de_callF T.F_l_is G_l_is (by exact hr.mono (by decide)) (da_cons (de_callF T.F_far G_far (by exact hr.mono (by decide)) (da_cons (de_var (pv 2)) (da_cons (de_ix (ix_A K (by exact hu41)) ok_ix (de_var (pv 10)) (de_c (d := .int 0) pe_int)) (da_cons (de_ix (ix_A K (by exact hu41)) ok_ix (de_var (pv 10)) (de_c (d := .int 1) pe_int)) da_nil))) (ga_len_cons (ga_len_cons (ga_len_cons ga_len_nil)))) (da_cons (de_ix (ix_A K (by exact hu41)) ok_ix (de_var (pv 10)) (de_c (d := .int 2) pe_int)) da_nil)) (ga_len_cons (ga_len_cons ga_len_nil)))))
      (ds_one (ds_ret (de_c (d := .bl false) pe_bl)))
      ds_nil)))
      (ds_one (ds_ret (de_cmp (op_eqA K (by exact hu40)) ok_eq (de_var (pv 2)) (de_var (pv 4)))))))))))))), rfl⟩)
end
end Carry
set_option Elab.async false
set_option linter.all false
set_option maxRecDepth 100000
set_option maxHeartbeats 400000
namespace Carry
open PySem L2
def feedL (F : Feed) : List O := [.frz (.lst (F.ns.map .int)), .frz (.int F.pl), .frz (.int F.style), .frz (.int F.mode), .frz (.int F.num)]
abbrev feedT (F : Feed) : O := .lst (feedL F)
def feed0 (ns : List Int) : Feed := ⟨ns, 0, 0, ns.getD 0 0 % 2, ns.getD 1 0⟩
theorem cut_tk (ds : List D) (n : Nat) : cutD ds none (some (n : Int)) = ds.take n := by
  unfold cutD
  have e1 : HT.sIx ds.length 0 none = 0 := rfl
  have e2 : HT.sIx ds.length ds.length (some (n : Int)) = min n ds.length := by
    unfold HT.sIx
    simp
    try omega
  rw [e1, e2]
  simp only [List.drop_zero, Nat.sub_zero]
  rw [List.take_eq_take_iff]
  omega
theorem cut2 (ds : List D) : cutD ds none (some 2) = ds.take 2 := cut_tk ds 2
theorem cut120 (ds : List D) : cutD ds none (some 120) = ds.take 120 := cut_tk ds 120
theorem ix54 : ixN 5 4 = some 4 := by decide
theorem ix51 : ixN 5 1 = some 1 := by decide
theorem ix52 : ixN 5 2 = some 2 := by decide
theorem at0 (ns : List Int) : atI ((ns.map D.int).take 2 ++ [D.int 0, D.int 0]) 0 = some (.int (ns.getD 0 0)) := by
  refine atI_nat (j := 0) ?_
  match ns with
  | [] => rfl
  | [x] => rfl
  | x :: y :: r => rfl
theorem at1 (ns : List Int) : atI ((ns.map D.int).take 2 ++ [D.int 0, D.int 0]) 1 = some (.int (ns.getD 1 0)) := by
  refine atI_nat (j := 1) ?_
  match ns with
  | [] => rfl
  | [x] => rfl
  | x :: y :: r => rfl
theorem x_feed (ns : List Int) (h : ns.length ≤ 63) : M_l_feed [.frz (.scr ns)] = some (feedT (feed0 ns), [none]) := by
  have c1 : (min 2 ns.length ≤ 999998) = True := eq_true (by omega)
  have c2 : (ns.map D.int).take 120 = ns.map D.int := List.take_of_length_le (by rw [List.length_map]; omega)
  unfold M_l_feed m_l_feed
  simp only [ev_run, List.map_cons, List.map_nil, List.length_cons, List.length_nil, Nat.zero_add, Nat.reduceSub, List.replicate_succ, List.replicate_zero, List.cons_append, List.nil_append, ev_cons, ev_set, ev_frz, ev_op, ev_aCons, ev_slice, ev_var, List.getElem?_cons_zero, ↓evBind, ev_none, ev_some, ev_c, ev_intR, ↓evMap, ev_seeO, ev_sl_scr, cut2, ev_seq, ev_aNil, Nat.reduceAdd, Nat.reduceLeDiff, ev_own1, ev_own0, if_true, ev_see1, ev_see0, ev_addL, ev_ld3, frzL_frz, ev_fl1, ev_fl0, List.length_take, List.length_map, c1, ev_d2, ev_dl2, Nat.reduceLT, List.set_cons_succ, List.set_cons_zero, ev_ret, cut120, c2, List.getElem?_cons_succ, ev_ix, ev_ixL, at0, ev_int, Int.reduceLT, decide_true, at1, ev_vr, List.take_succ_cons, List.take_zero, ev_kf, ev_kn]
  rfl
theorem x_draw (F : Feed) (m : Int) (h0 : 0 < m) (h1 : m < 1073741824) (hp : 0 ≤ F.pl) (hl : F.ns.length ≤ 63) : M_l_draw [feedT F, .frz (.int m)] = some (.frz (.int (drawV F m)), [some (feedT (drawF F m)), none]) := by
  unfold M_l_draw m_l_draw feedT feedL
  by_cases hm : F.mode = 1
  · have e1 : drawV F m = F.num % m := by unfold drawV; rw [if_pos hm]
    have e2 : drawF F m = { F with num := F.num / m } := by unfold drawF; rw [if_pos hm]
    rw [e1, e2]
    simp only [hm, ev_run, List.map_cons, List.map_nil, List.length_cons, List.length_nil, Nat.zero_add, Nat.reduceAdd, Nat.reduceSub, List.replicate_succ, List.replicate_zero, List.cons_append, List.nil_append, ev_cons, ev_ifS, ev_T, ev_op, ev_aCons, ev_var, List.getElem?_cons_zero, ↓evBind, ev_c, ev_aNil, ev_see1, ev_seeV, Option.join_some, ev_seeO, ev_see0, ev_ix, ev_ixO, atI_lit3, ev_unfrz, ev_eq, ev_d1, ev_ok_i, and_self, ev_q_i, beq_self_eq_true, if_true, ev_set, atI_lit4, List.getElem?_cons_succ, ev_int, h0, decide_true, Nat.reduceLT, List.set_cons_succ, List.set_cons_zero, ev_put, h1, ev_setL, ix54, ↓evMap, ev_ret, ev_nil, ev_vr, List.take_succ_cons, List.take_zero, ev_kt, ev_kf, ev_kn]
  · have hm' : (F.mode == 1) = false := by simpa using hm
    have e1 : drawV F m = (cellOf F * 48271 + 31 * F.pl) % 1000003 * 69621 % 999983 % m := by unfold drawV; rw [if_neg hm]
    have e2 : drawF F m = { F with pl := F.pl + 1 } := by unfold drawF; rw [if_neg hm]
    rw [e1, e2]
    have m1 : ∀ x : Int, ((-(2 ^ 64) < x ∧ x < 2 ^ 64 ∨ (-(2 ^ 64) : Int) < 31 ∧ (31 : Int) < 2 ^ 64) = True) := fun x => eq_true (.inr ⟨by decide, by decide⟩)
    have m2 : ∀ x : Int, ((-(2 ^ 64) < x ∧ x < 2 ^ 64 ∨ (-(2 ^ 64) : Int) < 48271 ∧ (48271 : Int) < 2 ^ 64) = True) := fun x => eq_true (.inr ⟨by decide, by decide⟩)
    have m3 : ∀ x : Int, ((-(2 ^ 64) < x ∧ x < 2 ^ 64 ∨ (-(2 ^ 64) : Int) < 69621 ∧ (69621 : Int) < 2 ^ 64) = True) := fun x => eq_true (.inr ⟨by decide, by decide⟩)
    have m4 : ∀ x : Int, (((-(2 ^ 64) : Int) < 31 ∧ (31 : Int) < 2 ^ 64 ∨ -(2 ^ 64) < x ∧ x < 2 ^ 64) = True) := fun x => eq_true (.inl ⟨by decide, by decide⟩)
    by_cases hc : (0 : Int) < F.ns.length
    · have hs : (F.ns.length : Int) < 1073741824 := by omega
      have hmod : 0 ≤ F.pl % (F.ns.length : Int) ∧ F.pl % (F.ns.length : Int) < F.ns.length := ⟨Int.emod_nonneg _ (by omega), Int.emod_lt_of_pos _ hc⟩
      have hat : atI (F.ns.map D.int) (F.pl % (F.ns.length : Int)) = some (.int (F.ns.getD (F.pl % F.ns.length).toNat 0)) := by
        have hk' : (F.pl % (F.ns.length : Int)).toNat < F.ns.length := by omega
        have e : (F.ns.map D.int)[(F.pl % (F.ns.length : Int)).toNat]? = some (.int (F.ns.getD (F.pl % F.ns.length).toNat 0)) := by simp [hk']
        have z := atI_nat e
        rwa [show (((F.pl % (F.ns.length : Int)).toNat : Nat) : Int) = F.pl % (F.ns.length : Int) by omega] at z
      have ec : cellOf F = F.ns.getD (F.pl % F.ns.length).toNat 0 + F.pl / F.ns.length * 31 := by unfold cellOf; rw [if_pos (by omega)]
      rw [ec]
      simp only [ev_run, List.map_cons, List.map_nil, List.length_cons, List.length_nil, Nat.zero_add, Nat.reduceAdd, Nat.reduceSub, List.replicate_succ, List.replicate_zero, List.cons_append, List.nil_append, ev_cons, ev_ifS, ev_T, ev_op, ev_aCons, ev_var, List.getElem?_cons_zero, ↓evBind, ev_c, ev_aNil, ev_see1, ev_seeV, Option.join_some, ev_seeO, ev_see0, ev_ix, ev_ixO, atI_lit3, ev_unfrz, ev_eq, ev_d1, ev_ok_i, and_self, ev_q_i, hm', if_true, Bool.false_eq_true, ev_set, atI_lit4, List.getElem?_cons_succ, ev_int, h0, decide_true, Nat.reduceLT, List.set_cons_succ, List.set_cons_zero, ev_put, h1, ev_setL, ↓evMap, ev_nil, if_false, atI_lit1, ev_frz, ev_addI, ix51, atI_lit0, ev_len, ev_len1, List.length_map, hc, ev_ixL, hat, hs, ev_mulI, m1, ev_ret, m2, m4, Int.reduceLT, m3, ev_vr, List.take_succ_cons, List.take_zero, ev_kt, ev_kf, ev_kn]
    · have ec : cellOf F = F.pl := by unfold cellOf; rw [if_neg (by omega)]
      rw [ec]
      simp only [ev_run, List.map_cons, List.map_nil, List.length_cons, List.length_nil, Nat.zero_add, Nat.reduceAdd, Nat.reduceSub, List.replicate_succ, List.replicate_zero, List.cons_append, List.nil_append, ev_cons, ev_ifS, ev_T, ev_op, ev_aCons, ev_var, List.getElem?_cons_zero, ↓evBind, ev_c, ev_aNil, ev_see1, ev_seeV, Option.join_some, ev_seeO, ev_see0, ev_ix, ev_ixO, atI_lit3, ev_unfrz, ev_eq, ev_d1, ev_ok_i, and_self, ev_q_i, hm', if_true, Bool.false_eq_true, ev_set, atI_lit4, List.getElem?_cons_succ, ev_int, h0, decide_true, Nat.reduceLT, List.set_cons_succ, List.set_cons_zero, ev_put, h1, ev_setL, ↓evMap, ev_nil, if_false, atI_lit1, ev_frz, ev_addI, ix51, atI_lit0, ev_len, ev_len1, List.length_map, hc, decide_false, ev_ret, ev_mulI, m2, m4, Int.reduceLT, m3, ev_vr, List.take_succ_cons, List.take_zero, ev_kt, ev_kf, ev_kn]
end Carry
set_option Elab.async false
set_option linter.all false
set_option maxRecDepth 100000
set_option maxHeartbeats 1000000
namespace L2
theorem loop_rel {g : GG} {f : GS} (P : Nat → Gm → Prop) : ∀ (ds : List D) (i : Nat) (Γ : Gm), P i Γ → (∀ j Γ d, ds[j]? = some d → P (i + j) Γ → ∃ Γ2, (g d Γ).bind f = some (.nx, Γ2) ∧ P (i + j + 1) Γ2) → ∃ Γ', gsLoop g f ds Γ = some (.nx, Γ') ∧ P (i + ds.length) Γ'
  | [], i, Γ, h, _ => ⟨Γ, rfl, h⟩
  | d :: ds, i, Γ, h, st => by
    obtain ⟨Γ2, h2, h3⟩ := st 0 Γ d rfl h
    obtain ⟨Γ', h4, h5⟩ := loop_rel P ds (i + 1) Γ2 h3 fun j Γ d' e p => by
      obtain ⟨Γ2, b, c⟩ := st (j + 1) Γ d' (by simpa using e) (by rw [show i + (j + 1) = i + 1 + j by omega]; exact p)
      exact ⟨Γ2, b, by rw [show i + 1 + j + 1 = i + (j + 1) + 1 by omega]; exact c⟩
    refine ⟨Γ', ?_, by rw [List.length_cons, show i + (ds.length + 1) = i + 1 + ds.length by omega]; exact h5⟩
    rw [ev_loop1]
    cases q : g d Γ with
    | none => rw [q] at h2; cases h2
    | some Γ1 =>
      rw [q] at h2
      have h2 : f Γ1 = some (.nx, Γ2) := h2
      show (f Γ1).bind _ = _
      rw [h2]
      exact h4
end L2
namespace Carry
open PySem L2
theorem mulok_nat : ∀ k : Nat, k < 12 → MulOk "y" ((k : Int) - 7) := by unfold MulOk; decide +kernel
theorem pre_len : ∀ n : Nat, n < 3 → ((["", "ab", "zzz"] : List Str).getD n "").length ≤ 3 := by decide +kernel
theorem suf_len : ∀ n : Nat, n < 3 → ((["", "ba", "zz"] : List Str).getD n "").length ≤ 3 := by decide +kernel
theorem at_str {xs : List Str} {k : Int} (h : 0 ≤ k ∧ k < xs.length) : atI (xs.map fun x => O.frz (.str x)) k = some (.frz (.str (xs.getD k.toNat ""))) := by
  have hk' : k.toNat < xs.length := by omega
  have e : (xs.map fun x => O.frz (.str x))[k.toNat]? = some (.frz (.str (xs.getD k.toNat ""))) := by simp [hk']
  have z := atI_nat e
  rwa [show ((k.toNat : Nat) : Int) = k by omega] at z
theorem x_name (F : Feed) (k : Int) (s0 : 0 ≤ F.style) (s1 : F.style < 12) (k0 : 0 ≤ k) (k1 : k < 12) : M_l_name [.frz (feedT F).d, .frz (.int k)] = some (.frz (.str (nameOf F.style k)), [none, none]) := by
  unfold M_l_name m_l_name feedT feedL
  have l8 : (("zbdgkafe" : Str).length ≤ 1000000) = True := eq_true (by decide +kernel)
  have l12 : (("dbgkafelcjhi" : Str).length ≤ 1000000) = True := eq_true (by decide +kernel)
  by_cases hm : F.style % 4 = 3
  · obtain ⟨kn, rfl, kl⟩ := nat_of (n := 12) k0 k1
    have hmk : MulOk "y" ((kn : Int) - 7) = True := eq_true (mulok_nat kn kl)
    by_cases hk : (7 : Int) < kn
    · have e : nameOf F.style kn = Txt.mul "y" (kn - 7) := by unfold nameOf; rw [if_pos hm, if_pos hk]
      rw [e]
      simp only [ev_d2, ev_dl1, ev_d1, ev_dl0, ev_run, List.map_cons, List.map_nil, List.length_cons, List.length_nil, Nat.zero_add, Nat.reduceAdd, Nat.reduceSub, List.replicate_zero, List.cons_append, List.nil_append, ev_cons, ev_ifS, ev_T, ev_op, ev_aCons, ev_var, List.getElem?_cons_zero, ↓evBind, ev_c, ev_aNil, ev_see1, ev_seeO, ev_see0, ev_ix, ev_ixL, atI_lit2, ↓evMap, ev_int, Int.reduceLT, decide_true, hm, if_true, ev_eq, ev_ok_i, and_self, ev_q_i, beq_self_eq_true, ev_ret, ev_seq, ev_frz, ev_slice, ev_none, ev_some, List.getElem?_cons_succ, ev_addI, ev_intR, ev_sl_str, l8, ev_mulS, hmk, Nat.reduceLeDiff, ev_own1, ev_own0, hk, ev_i1b, ev_ixO, atI_lit1, ev_unfrz, ev_nil, ev_vr, List.take_succ_cons, List.take_zero, ev_kf, ev_kn]
    · have e : nameOf F.style kn = Txt.slice "zbdgkafe" none (some (kn + 1)) := by unfold nameOf; rw [if_pos hm, if_neg hk]
      rw [e]
      simp only [ev_d2, ev_dl1, ev_d1, ev_dl0, ev_run, List.map_cons, List.map_nil, List.length_cons, List.length_nil, Nat.zero_add, Nat.reduceAdd, Nat.reduceSub, List.replicate_zero, List.cons_append, List.nil_append, ev_cons, ev_ifS, ev_T, ev_op, ev_aCons, ev_var, List.getElem?_cons_zero, ↓evBind, ev_c, ev_aNil, ev_see1, ev_seeO, ev_see0, ev_ix, ev_ixL, atI_lit2, ↓evMap, ev_int, Int.reduceLT, decide_true, hm, if_true, ev_eq, ev_ok_i, and_self, ev_q_i, beq_self_eq_true, ev_ret, ev_seq, ev_frz, ev_slice, ev_none, ev_some, List.getElem?_cons_succ, ev_addI, ev_intR, ev_sl_str, l8, ev_mulS, hmk, Nat.reduceLeDiff, ev_own1, ev_own0, hk, decide_false, ev_i1b, Bool.false_eq_true, if_false, ev_ixO, atI_lit0, ev_unfrz, ev_nil, ev_vr, List.take_succ_cons, List.take_zero, ev_kf, ev_kn]
  · have m4 : 0 ≤ F.style % 4 ∧ F.style % 4 < 3 := by omega
    have m3 : 0 ≤ F.style / 4 % 3 ∧ F.style / 4 % 3 < 3 := by omega
    have a1 := at_str (xs := ["", "ab", "zzz"]) m4
    have a2 := at_str (xs := ["", "ba", "zz"]) m3
    simp only [List.map_cons, List.map_nil] at a1 a2
    have l1 := pre_len (F.style % 4).toNat (by omega)
    have l2 := suf_len (F.style / 4 % 3).toNat (by omega)
    have hm' : (F.style % 4 == 3) = false := by simpa using hm
    have c4 : decide ((0 : Int) < 4 ∧ (4 : Int) < 1073741824) = true := by decide
    have e : nameOf F.style k = ((["", "ab", "zzz"] : List Str).getD (F.style % 4).toNat "" ++ chr1 (("dbgkafelcjhi" : Str).cps.toList.getD k.toNat 0)) ++ (["", "ba", "zz"] : List Str).getD (F.style / 4 % 3).toNat "" := by
      unfold nameOf; rw [if_neg hm]
    have a3 : atI ("dbgkafelcjhi" : Str).cps.toList k = some (("dbgkafelcjhi" : Str).cps.toList.getD k.toNat 0) := atI_getD 0 k0 (by show k < (12 : Nat); omega)
    have q1 : ((["", "ab", "zzz"] : List Str).getD (F.style % 4).toNat "").length + (⟨#[("dbgkafelcjhi" : Str).cps.toList.getD k.toNat 0]⟩ : Str).length ≤ 1000000 := by show _ + 1 ≤ _; omega
    have q2 : ((["", "ab", "zzz"] : List Str).getD (F.style % 4).toNat "" ++ (⟨#[("dbgkafelcjhi" : Str).cps.toList.getD k.toNat 0]⟩ : Str)).length + ((["", "ba", "zz"] : List Str).getD (F.style / 4 % 3).toNat "").length ≤ 1000000 := by
      rw [Str.length_append]
      show _ + 1 + _ ≤ _
      omega
    rw [e]
    simp only [ev_d2, ev_dl1, ev_d1, ev_dl0, ev_run, List.map_cons, List.map_nil, List.length_cons, List.length_nil, Nat.zero_add, Nat.reduceAdd, Nat.reduceSub, List.replicate_zero, List.cons_append, List.nil_append, ev_cons, ev_ifS, ev_T, ev_op, ev_aCons, ev_var, List.getElem?_cons_zero, ↓evBind, ev_c, ev_aNil, ev_see1, ev_seeO, ev_see0, ev_ix, ev_ixL, atI_lit2, ↓evMap, ev_int, Int.reduceLT, decide_true, if_true, ev_eq, ev_ok_i, and_self, ev_q_i, hm', Bool.false_eq_true, ev_ret, ev_seq, ev_frz, ev_slice, ev_none, ev_some, List.getElem?_cons_succ, ev_addI, ev_intR, ev_sl_str, ev_nil, if_false, Nat.reduceLeDiff, ev_own1, ev_own0, ev_ixO, a1, ev_unfrz, ev_ixS, l12, a3, ev_addS, q1, a2, q2, ev_vr, List.take_succ_cons, List.take_zero, ev_kf, ev_kn]
    rfl
end Carry
set_option Elab.async false
set_option linter.all false
set_option maxRecDepth 100000
set_option maxHeartbeats 2000000
namespace Carry
open PySem L2
abbrev fS (x : Str) : O := .frz (.str x)
theorem fS_map (xs : List Str) : xs.map fS = (xs.map D.str).map .frz := by rw [List.map_map]; rfl
theorem dl_fS (xs : List Str) : O.dl (xs.map fS) = xs.map D.str := by rw [fS_map, dl_frz]
theorem fl_fS (xs : List Str) : frzL (xs.map fS) = some (xs.map D.str) := by rw [fS_map, frzL_frz]
theorem any_str (x : Str) : ∀ xs : List Str, ((xs.map D.str).any fun z => eqD z (.str x)) = xs.contains x
  | [] => rfl
  | y :: r => by
    rw [List.map_cons, List.any_cons, any_str x r, List.contains_cons, ev_q_s]
    congr 1
    exact BEq.comm
theorem ok_strs (n : Nat) (xs : List Str) : (xs.map D.str).all (okD n) = true := by
  rw [List.all_eq_true]
  intro d hd
  obtain ⟨y, _, rfl⟩ := List.mem_map.mp hd
  exact ev_ok_s n y
theorem in_own (neg : Bool) (x : Str) (xs : List Str) : oInG neg [.frz (.str x), .lst (xs.map fS)] = some (.frz (.bl (if neg then !xs.contains x else xs.contains x))) := by
  unfold oInG
  have e : seqO (O.lst (xs.map fS)).d = some (xs.map D.str) := by rw [fS_map]; show some (O.dl _) = _; rw [dl_frz]
  simp only [dictO, e, Option.bind_some, ev_d1, ev_ok_s, ok_strs, and_self, if_true, any_str]
theorem in_frz (neg : Bool) (x : Str) (xs : List Str) : oInG neg [.frz (.str x), .frz (.lst (xs.map D.str))] = some (.frz (.bl (if neg then !xs.contains x else xs.contains x))) := by
  unfold oInG
  have e : seqO (.lst (xs.map D.str)) = some (xs.map D.str) := rfl
  simp only [dictO, e, Option.bind_some, ev_d1, ev_ok_s, ok_strs, and_self, if_true, any_str]
theorem ins_own (xs : List Str) (i : Int) (y : Str) (h0 : 0 ≤ i) (h1 : i < 1000000) (hl : xs.length < 1000000) : mInsert (.lst (xs.map fS)) [.frz (.int i), .frz (.str y)] = some (.lst ((insS xs i.toNat y).map fS), .frz .non) := by
  unfold mInsert
  dsimp only
  rw [if_pos ⟨h0, h1, by rw [List.length_map]; exact hl⟩]
  unfold insS
  rw [List.map_append, List.map_cons, List.map_take, List.map_drop]
theorem at_strs {xs : List Str} {k : Int} (h0 : 0 ≤ k) (h1 : k < xs.length) : atI ((xs.map D.str).map O.frz) k = some (.frz (.str (xs.getD k.toNat ""))) := by
  have z := at_str ⟨h0, h1⟩
  rw [List.map_map]
  exact z
theorem comp_in (later : List Str) : ∀ (xs acc : List Str) (a : Option O), acc.length + xs.length < 1000000 → ∃ a', compLoop (ggName 0) (gT (gBin (oInG false) (gVar 0) (gVar 1))) (gVar 0) (xs.map D.str) [a, some (.frz (.lst (later.map D.str)))] (acc.map fS) =
    some ((acc ++ xs.filter fun o => later.contains o).map fS, [a', some (.frz (.lst (later.map D.str)))])
  | [], acc, a, _ => ⟨a, by rw [List.map_nil, ev_cl0, List.filter_nil, List.append_nil]⟩
  | x :: xs, acc, a, h => by
    rw [List.length_cons] at h
    have hl : (acc.map fS).length < 1000000 := by rw [List.length_map]; omega
    cases hc : later.contains x with
    | true =>
      obtain ⟨a', e⟩ := comp_in later xs (acc ++ [x]) (some (fS x)) (by rw [List.length_append, List.length_singleton]; omega)
      refine ⟨a', ?_⟩
      rw [List.filter_cons, if_pos hc, show acc ++ x :: (xs.filter fun o => later.contains o) = acc ++ [x] ++ (xs.filter fun o => later.contains o) by simp]
      rw [← e, List.map_append]
      simp only [List.map_cons, ev_cl1, ev_name, List.length_cons, List.length_nil, Nat.zero_add, Nat.reduceAdd, Nat.reduceLT, List.set_cons_zero, if_true, ↓evBind, ev_T, ev_op, ev_aCons, ev_var, List.getElem?_cons_zero, List.getElem?_cons_succ, ev_aNil, ev_see1, ev_seeO, ev_see0, in_frz, Bool.false_eq_true, hc, if_false, ev_own1, ev_own0, hl, List.map_nil]
    | false =>
      obtain ⟨a', e⟩ := comp_in later xs acc (some (fS x)) (by omega)
      refine ⟨a', ?_⟩
      rw [List.filter_cons, if_neg (by rw [hc]; exact Bool.false_ne_true)]
      rw [← e]
      simp only [List.map_cons, ev_cl1, ev_name, List.length_cons, List.length_nil, Nat.zero_add, Nat.reduceAdd, Nat.reduceLT, List.set_cons_zero, if_true, ↓evBind, ev_T, ev_op, ev_aCons, ev_var, List.getElem?_cons_zero, List.getElem?_cons_succ, ev_aNil, ev_see1, ev_seeO, ev_see0, in_frz, Bool.false_eq_true, hc, if_false, ev_own1, ev_own0, hl]
structure GoodF (F : Feed) : Prop where
  pos : 0 ≤ F.pl
  len : F.ns.length ≤ 63
theorem GoodF.draw {F : Feed} (h : GoodF F) (m : Int) : GoodF (drawF F m) := ⟨drawF_pl F m h.pos, by rw [drawF_ns]; exact h.len⟩
theorem xd {F : Feed} (h : GoodF F) {m : Int} (h0 : 0 < m) (h1 : m < 1073741824) : M_l_draw [feedT F, .frz (.int m)] = some (.frz (.int (drawV F m)), [some (feedT (drawF F m)), none]) := x_draw F m h0 h1 h.pos h.len
theorem outIter_good {later carts : List Str} {F : Feed} {xs : List Str} (h : GoodF F) : ∀ n, GoodF (outIter later carts n (F, xs)).1 ∧ (outIter later carts n (F, xs)).2.length ≤ xs.length + n
  | 0 => ⟨h, Nat.le_refl _⟩
  | n + 1 => by
    obtain ⟨g1, g2⟩ := outIter_good (later := later) (carts := carts) (xs := xs) h n
    show GoodF (outTurn later carts _).1 ∧ _
    unfold outTurn
    dsimp only
    split
    · refine ⟨g1.draw _, ?_⟩
      show (outTurn later carts _).2.length ≤ _
      unfold outTurn
      dsimp only
      rw [if_pos (by assumption)]
      dsimp only
      omega
    · refine ⟨(g1.draw _).draw _, ?_⟩
      show (outTurn later carts _).2.length ≤ _
      unfold outTurn
      dsimp only
      rw [if_neg (by assumption)]
      dsimp only
      rw [insS_len]
      omega
theorem x_outs (F : Feed) (later carts : List Str) (h : GoodF F) (hl : later.length ≤ 100) (hc0 : 0 < carts.length) (hc : carts.length ≤ 100) :
    M_l_outs [feedT F, .frz (.lst (later.map .str)), .frz (.lst (carts.map .str))] = some (.lst ((outsM F later carts).2.map fS), [some (feedT (outsM F later carts).1), none, none]) := by
  have hd := xd h (m := 3) (by decide) (by decide)
  have d0 := drawV_nonneg F (m := 3) (by decide)
  have d1 := drawV_lt F (m := 3) (by decide)
  have i1 : int1 [.own (.frz (.int (1 + drawV F 3)))] = some (1 + drawV F 3) := int1_of (by omega)
  obtain ⟨Γ', eL, a, b, rfl⟩ := loop_rel (g := ggName 4) (f := gsCons (gsSet 5 (gBin oIx (gBin oAdd (gVar 1) (gVar 2)) (gCall M_l_draw (gaCons (gVar 0) (gaCons (gFrz (gBin oAdd (gOp oLen (gaCons (gVar 1) gaNil)) (gOp oLen (gaCons (gVar 2) gaNil)))) gaNil)))))
      (gsIf (gT (gBin (oInG true) (gVar 5) (gVar 3)))
        (gsDrop (gMut mInsert (gVar 3) (gaCons (gFrz (gCall M_l_draw (gaCons (gVar 0) (gaCons (gFrz (gBin oAdd (gOp oLen (gaCons (gVar 3) gaNil)) (gC (.int 1)))) gaNil)))) (gaCons (gVar 5) gaNil))))
        gsNil))
    (fun i Γ => ∃ a b, Γ = [some (feedT (outIter later carts i (drawF F 3, [])).1), some (.frz (.lst (later.map .str))), some (.frz (.lst (carts.map .str))), some (.lst ((outIter later carts i (drawF F 3, [])).2.map fS)), a, b])
    (rngD 0 (1 + drawV F 3).toNat) 0 [some (feedT (drawF F 3)), some (.frz (.lst (later.map .str))), some (.frz (.lst (carts.map .str))), some (.lst []), none, none] ⟨none, none, rfl⟩ (by
      rintro j Γ d hd ⟨a, b, rfl⟩
      rw [Nat.zero_add] at *
      have hj : j < (1 + drawV F 3).toNat := by
        have := (List.getElem?_eq_some_iff.mp hd).1
        simpa [rngD] using this
      obtain ⟨g1, g2⟩ := outIter_good (later := later) (carts := carts) (xs := []) (h.draw 3) j
      rw [List.length_nil, Nat.zero_add] at g2
      show ∃ Γ2, _ ∧ ∃ a b, Γ2 = [some (feedT (outTurn later carts (outIter later carts j (drawF F 3, []))).1), _, _, some (.lst ((outTurn later carts (outIter later carts j (drawF F 3, []))).2.map fS)), a, b]
      generalize outIter later carts j (drawF F 3, []) = p at *
      obtain ⟨G, outs⟩ := p
      dsimp only at g1 g2 ⊢
      have hm0 : (0 : Int) < (later.length : Int) + carts.length := by omega
      have hm1 : (later.length : Int) + carts.length < 1073741824 := by omega
      have e1 := xd g1 hm0 hm1
      have v0 := drawV_nonneg G hm0
      have v1 := drawV_lt G hm0
      have hat : atI (((later ++ carts).map D.str).map O.frz) (drawV G (later.length + carts.length)) = some (.frz (.str ((later ++ carts).getD (drawV G (later.length + carts.length)).toNat ""))) := at_strs v0 (by rw [List.length_append]; omega)
      have c1 : (later.length + carts.length ≤ 1000000) = True := eq_true (by omega)
      cases hc : outs.contains ((later ++ carts).getD (drawV G (later.length + carts.length)).toNat "") with
      | true =>
        refine ⟨_, by simp only [ev_name, List.length_cons, List.length_nil, Nat.zero_add, Nat.reduceAdd, Nat.reduceLT, List.set_cons_succ, List.set_cons_zero, if_true, ↓evBind, ev_cons, ev_set, ev_op, ev_aCons, ev_var, List.getElem?_cons_succ, List.getElem?_cons_zero, ev_aNil, ev_see1, ev_seeO, ev_see0, ev_addF, List.length_map, c1, ← List.map_append, ev_call, ev_frz, ev_len, ev_d1, ev_len1, ↓evMap, ev_addI, ev_take2, ev_take1, ev_take0, e1, ev_pb2, ev_pb1, ev_pb0, ev_ix, ev_ixO, hat, ev_unfrz, ev_ifS, ev_T, ev_seeV, Option.join_some, in_own, hc, Bool.not_true, Bool.false_eq_true, ev_drop, ev_mut, ev_d2, ev_c, ev_nil, if_false]; rfl, ?_⟩
        unfold outTurn
        dsimp only
        rw [if_pos hc]
        exact ⟨_, _, rfl⟩
      | false =>
        have hm2 : (0 : Int) < (outs.length : Int) + 1 := by omega
        have hm3 : (outs.length : Int) + 1 < 1073741824 := by omega
        have e2 := xd (g1.draw (later.length + carts.length)) hm2 hm3
        have e3 := ins_own outs (drawV (drawF G (later.length + carts.length)) (outs.length + 1)) ((later ++ carts).getD (drawV G (later.length + carts.length)).toNat "") (drawV_nonneg _ hm2) (by have := drawV_lt (drawF G (later.length + carts.length)) hm2; omega) (by omega)
        refine ⟨_, by simp only [ev_name, List.length_cons, List.length_nil, Nat.zero_add, Nat.reduceAdd, Nat.reduceLT, List.set_cons_succ, List.set_cons_zero, if_true, ↓evBind, ev_cons, ev_set, ev_op, ev_aCons, ev_var, List.getElem?_cons_succ, List.getElem?_cons_zero, ev_aNil, ev_see1, ev_seeO, ev_see0, ev_addF, List.length_map, c1, ← List.map_append, ev_call, ev_frz, ev_len, ev_d1, ev_len1, ↓evMap, ev_addI, ev_take2, ev_take1, ev_take0, e1, ev_pb2, ev_pb1, ev_pb0, ev_ix, ev_ixO, hat, ev_unfrz, ev_ifS, ev_T, ev_seeV, Option.join_some, in_own, hc, Bool.not_false, ev_drop, ev_mut, ev_d2, dl_fS, ev_c, e2, ev_own1, ev_own0, e3, ev_nil]; rfl, ?_⟩
        unfold outTurn
        dsimp only
        rw [if_neg (by rw [hc]; exact Bool.false_ne_true)]
        exact ⟨_, _, rfl⟩)
  have hlen : (rngD 0 (1 + drawV F 3).toNat).length = (1 + drawV F 3).toNat := by simp [rngD]
  rw [hlen, Nat.zero_add] at eL
  obtain ⟨g1, g2⟩ := outIter_good (later := later) (carts := carts) (xs := []) (h.draw 3) (1 + drawV F 3).toNat
  rw [List.length_nil, Nat.zero_add] at g2
  have eO : outsM F later carts = (let p := outIter later carts (1 + drawV F 3).toNat (drawF F 3, [])
    if (!p.2.contains (carts.getD 0 "") && decide (((p.2.filter fun o => later.contains o).length : Int) = 0)) = true then (drawF p.1 (p.2.length + 1), insS p.2 (drawV p.1 (p.2.length + 1)).toNat (carts.getD 0 "")) else p) := rfl
  rw [eO]
  unfold M_l_outs m_l_outs
  generalize outIter later carts (1 + drawV F 3).toNat (drawF F 3, []) = p at *
  obtain ⟨G, outs⟩ := p
  dsimp only at eL g1 g2 ⊢
  have hat : atI (carts.map D.str) 0 = some (.str (carts.getD 0 "")) := by
    refine atI_nat (j := 0) ?_
    cases carts with
    | nil => simp at hc0
    | cons c r => rfl
  obtain ⟨a', eC⟩ := comp_in later outs [] none (by rw [List.length_nil]; omega)
  rw [List.map_nil, List.nil_append] at eC
  have hm2 : (0 : Int) < (outs.length : Int) + 1 := by omega
  have hm3 : (outs.length : Int) + 1 < 1073741824 := by omega
  have e2 := xd g1 hm2 hm3
  have e3 := ins_own outs (drawV G (outs.length + 1)) (carts.getD 0 "") (drawV_nonneg _ hm2) (by have := drawV_lt G hm2; omega) (by omega)
  cases hc : outs.contains (carts.getD 0 "") with
  | true =>
    simp only [ev_run, List.map_cons, List.map_nil, List.length_cons, List.length_nil, Nat.zero_add, Nat.reduceAdd, Nat.reduceSub, List.replicate_succ, List.replicate_zero, List.cons_append, List.nil_append, ev_cons, ev_set, ev_seq, ev_aNil, ↓evBind, Nat.reduceLeDiff, ev_own0, if_true, Nat.reduceLT, List.set_cons_succ, List.set_cons_zero, ev_r1, ev_aCons, ev_op, ev_c, ev_call, ev_var, List.getElem?_cons_zero, ev_take2, ev_take1, ev_take0, hd, ev_pb2, ev_pb1, ev_pb0, ev_see1, ev_seeO, ev_see0, ev_addI, i1, eL, ev_ifS, ev_andT, ev_T, List.getElem?_cons_succ, ev_ix, ev_ixL, hat, ↓evMap, ev_seeV, Option.join_some, in_own, hc, Bool.not_true, Bool.false_eq_true, ev_comp, ev_srcV, List.mem_cons, Nat.reduceEqDiff, List.not_mem_nil, or_false, if_false, ev_drop, ev_mut, ev_frz, ev_len, ev_d2, ev_len1, ev_d1, ev_nil, ev_ret, ev_move, ev_vr, List.take_succ_cons, List.take_zero, ev_kt, ev_kf, ev_kn, Bool.false_and]
  | false =>
    cases hz : decide (((outs.filter fun o => later.contains o).length : Int) = 0) with
    | true =>
      have hz' : (((outs.filter fun o => later.contains o).length : Int) == 0) = true := by rw [← hz]; exact Bool.beq_eq_decide_eq _ _
      simp only [ev_run, List.map_cons, List.map_nil, List.length_cons, List.length_nil, Nat.zero_add, Nat.reduceAdd, Nat.reduceSub, List.replicate_succ, List.replicate_zero, List.cons_append, List.nil_append, ev_cons, ev_set, ev_seq, ev_aNil, ↓evBind, Nat.reduceLeDiff, ev_own0, if_true, Nat.reduceLT, List.set_cons_succ, List.set_cons_zero, ev_r1, ev_aCons, ev_op, ev_c, ev_call, ev_var, List.getElem?_cons_zero, ev_take2, ev_take1, ev_take0, hd, ev_pb2, ev_pb1, ev_pb0, ev_see1, ev_seeO, ev_see0, ev_addI, i1, eL, ev_ifS, ev_andT, ev_T, List.getElem?_cons_succ, ev_ix, ev_ixL, hat, ↓evMap, ev_seeV, Option.join_some, in_own, hc, Bool.not_false, ev_comp, ev_srcV, List.mem_cons, Nat.reduceEqDiff, List.not_mem_nil, or_false, fl_fS, if_false, ev_capI1, ev_capI0, eC, List.drop_succ_cons, List.drop_zero, ev_capO1, ev_capO0, ev_len, ev_d2, dl_fS, ev_len1, List.length_map, ev_eq, ev_d1, ev_ok_i, and_self, ev_q_i, hz', ev_drop, ev_mut, ev_frz, e2, ev_own1, e3, ev_nil, ev_ret, ev_move, ev_vr, List.take_succ_cons, List.take_zero, ev_kt, ev_kf, ev_kn, Bool.true_and]
    | false =>
      have hz' : (((outs.filter fun o => later.contains o).length : Int) == 0) = false := by rw [← hz]; exact Bool.beq_eq_decide_eq _ _
      simp only [ev_run, List.map_cons, List.map_nil, List.length_cons, List.length_nil, Nat.zero_add, Nat.reduceAdd, Nat.reduceSub, List.replicate_succ, List.replicate_zero, List.cons_append, List.nil_append, ev_cons, ev_set, ev_seq, ev_aNil, ↓evBind, Nat.reduceLeDiff, ev_own0, if_true, Nat.reduceLT, List.set_cons_succ, List.set_cons_zero, ev_r1, ev_aCons, ev_op, ev_c, ev_call, ev_var, List.getElem?_cons_zero, ev_take2, ev_take1, ev_take0, hd, ev_pb2, ev_pb1, ev_pb0, ev_see1, ev_seeO, ev_see0, ev_addI, i1, eL, ev_ifS, ev_andT, ev_T, List.getElem?_cons_succ, ev_ix, ev_ixL, hat, ↓evMap, ev_seeV, Option.join_some, in_own, hc, Bool.not_false, ev_comp, ev_srcV, List.mem_cons, Nat.reduceEqDiff, List.not_mem_nil, or_false, fl_fS, if_false, ev_capI1, ev_capI0, eC, List.drop_succ_cons, List.drop_zero, ev_capO1, ev_capO0, ev_len, ev_d2, dl_fS, ev_len1, List.length_map, ev_eq, ev_d1, ev_ok_i, and_self, ev_q_i, hz', Bool.false_eq_true, ev_drop, ev_mut, ev_frz, e2, ev_own1, e3, ev_nil, ev_ret, ev_move, ev_vr, List.take_succ_cons, List.take_zero, ev_kt, ev_kf, ev_kn, Bool.true_and]
end Carry
set_option Elab.async false
set_option linter.all false
set_option maxRecDepth 100000
set_option maxHeartbeats 4000000
namespace Carry
open PySem L2
def beltD (b : Belt) : D := .tup [.str b.name, .int b.long, .bl b.ring, .lst (b.outs.map .str)]
def houseD (h : House) : D := .tup [.lst (h.belts.map beltD), .lst (h.carts.map .str)]
abbrev fB (b : Belt) : O := .frz (beltD b)
theorem fl_fB (xs : List Belt) : frzL (xs.map fB) = some (xs.map beltD) := by rw [show xs.map fB = (xs.map beltD).map .frz by rw [List.map_map]; rfl, frzL_frz]
theorem dl_fB (xs : List Belt) : O.dl (xs.map fB) = xs.map beltD := by rw [show xs.map fB = (xs.map beltD).map .frz by rw [List.map_map]; rfl, dl_frz]
theorem comp_names : ∀ (xs : List Belt) (acc : List Str) (a : Option O), acc.length + xs.length < 1000000 → ∃ a', compLoop (ggName 0) gYes (gBin oIx (gVar 0) (gC (.int 0))) (xs.map beltD) [a] (acc.map fS) = some ((acc ++ xs.map Belt.name).map fS, [a'])
  | [], acc, a, _ => ⟨a, by rw [List.map_nil, ev_cl0, List.map_nil, List.append_nil]⟩
  | x :: xs, acc, a, h => by
    rw [List.length_cons] at h
    have hl : (acc.map fS).length < 1000000 := by rw [List.length_map]; omega
    obtain ⟨a', e⟩ := comp_names xs (acc ++ [x.name]) (some (fB x)) (by rw [List.length_append, List.length_singleton]; omega)
    refine ⟨a', ?_⟩
    rw [List.map_cons (f := Belt.name), show acc ++ x.name :: xs.map Belt.name = acc ++ [x.name] ++ xs.map Belt.name by simp]
    rw [← e, List.map_append]
    simp only [List.map_cons, beltD, ev_cl1, ev_name, List.length_cons, List.length_nil, Nat.zero_add, Nat.reduceLT, List.set_cons_zero, if_true, ↓evBind, ev_yes, ev_op, ev_aCons, ev_var, List.getElem?_cons_zero, ev_c, ev_aNil, ev_see1, ev_seeO, ev_see0, ev_ix, ev_ixT, atI_lit0, ↓evMap, ev_own1, ev_own0, hl, List.map_nil]
    rfl
theorem comp_carts (F : Feed) (s0 : 0 ≤ F.style) (s1 : F.style < 12) : ∀ (n j : Nat) (acc : List Str) (a : Option O), j + n ≤ 12 → acc.length + n < 1000000 → ∃ a', compLoop (ggName 0) gYes (gCallF M_l_name (gaCons (gVar 1) (gaCons (gBin oSub (gC (.int 11)) (gVar 0)) gaNil))) ((List.range' j n).map fun (k : Nat) => D.int (0 + (k : Int))) [a, some (feedT F)] (acc.map fS) =
    some ((acc ++ (List.range' j n).map fun (k : Nat) => nameOf F.style (11 - (0 + (k : Int)))).map fS, [a', some (feedT F)])
  | 0, j, acc, a, _, _ => ⟨a, by rw [List.range'_zero, List.map_nil, ev_cl0, List.map_nil, List.append_nil]⟩
  | n + 1, j, acc, a, h, h2 => by
    have hl : (acc.map fS).length < 1000000 := by rw [List.length_map]; omega
    obtain ⟨a', e⟩ := comp_carts F s0 s1 n (j + 1) (acc ++ [nameOf F.style (11 - (0 + (j : Int)))]) (some (.frz (.int (0 + (j : Int))))) (by omega) (by rw [List.length_append, List.length_singleton]; omega)
    refine ⟨a', ?_⟩
    have xn := x_name F (11 - (0 + (j : Int))) s0 s1 (by omega) (by omega)
    rw [List.range'_succ, List.map_cons, List.map_cons, show acc ++ nameOf F.style (11 - (0 + (j : Int))) :: (List.range' (j + 1) n).map (fun (k : Nat) => nameOf F.style (11 - (0 + (k : Int)))) = acc ++ [nameOf F.style (11 - (0 + (j : Int)))] ++ (List.range' (j + 1) n).map (fun (k : Nat) => nameOf F.style (11 - (0 + (k : Int)))) by simp]
    rw [← e, List.map_append]
    have xn' : M_l_name [.frz (.lst (O.dl (feedL F))), .frz (.int (11 - (0 + (j : Int))))] = _ := xn
    simp only [ev_cl1, ev_name, List.length_cons, List.length_nil, Nat.zero_add, Nat.reduceAdd, Nat.reduceLT, List.set_cons_zero, if_true, ↓evBind, ev_yes, ev_callF, ev_aCons, ev_var, List.getElem?_cons_succ, List.getElem?_cons_zero, ev_op, ev_c, ev_aNil, ev_see1, ev_seeO, ev_see0, ev_int, ev_seeV, Option.join_some, ev_dl1, ev_d2, ev_d1, ev_dl0, List.map_cons, List.map_nil, xn', ev_fo_s, ev_own1, ev_own0, hl]
theorem insB (xs : List Belt) (b : Belt) (hl : xs.length < 1000000) : mInsert (.lst (xs.map fB)) [.frz (.int 0), .frz (beltD b)] = some (.lst ((b :: xs).map fB), .frz .non) := by
  unfold mInsert
  dsimp only
  rw [if_pos ⟨by decide, by decide, by rw [List.length_map]; exact hl⟩]
  rfl
theorem outsM_good {F : Feed} (h : GoodF F) (later carts : List Str) : GoodF (outsM F later carts).1 := by
  obtain ⟨g1, _⟩ := outIter_good (later := later) (carts := carts) (xs := []) (h.draw 3) (1 + drawV F 3).toNat
  unfold outsM
  dsimp only
  split
  · exact g1.draw _
  · exact g1
theorem beltIter_good {many wide : Int} {carts : List Str} {p : Feed × List Belt} (h : GoodF p.1) : ∀ n, GoodF (beltIter many wide carts n p).1
  | 0 => h
  | n + 1 => by
    have := beltIter_good (many := many) (wide := wide) (carts := carts) h n
    exact outsM_good ((this.draw 3).draw 4) _ _
theorem house_body (many wide : Int) (G : Feed) (carts : List Str) (belts : List Belt) (k : Int) (g : GoodF G) (s0 : 0 ≤ G.style) (s1 : G.style < 12) (k0 : 0 ≤ k) (k1 : k < 12) (hb : belts.length ≤ 100) (hc0 : 0 < carts.length) (hc : carts.length ≤ 100) (a5 a6 a7 a8 : Option O) :
    ∃ b6 b7 b8, (ggName 5 (.int k) [some (feedT G), some (.frz (.int many)), some (.frz (.lst (carts.map .str))), some (.lst (belts.map fB)), some (.frz (.int wide)), a5, a6, a7, a8]).bind
      (gsCons (gsSet 6 (gBin oEq (gCall M_l_draw (gaCons (gVar 0) (gaCons (gC (.int 3)) gaNil))) (gC (.int 0))))
  (gsCons (gsSet 7 (gFrz (gBin oAdd (gBin oAdd (gBin oAdd (gC (.int 1)) (gOp oInt1 (gaCons (gVar 6) gaNil))) (gCall M_l_draw (gaCons (gVar 0) (gaCons (gC (.int 4)) gaNil)))) (gBin oMulA (gVar 4) (gOp oInt1 (gaCons (gBin oEq (gVar 5) (gC (.int 0))) gaNil))))))
  (gsCons (gsSet 8 (gFrz (gCall M_l_outs (gaCons (gVar 0) (gaCons (gFrz (gCompG (srcV 3 []) (ggName 0) gYes (gBin oIx (gVar 0) (gC (.int 0))) 1 [])) (gaCons (gVar 2) gaNil))))))
  (gsDrop (gMut mInsert (gVar 3) (gaCons (gC (.int 0)) (gaCons (gFrz (gSeq .tup (gaCons (gCallF M_l_name (gaCons (gVar 0) (gaCons (gVar 5) gaNil))) (gaCons (gVar 7) (gaCons (gVar 6) (gaCons (gVar 8) gaNil)))))) gaNil))))))) =
    some (.nx, [some (feedT (outsM (drawF (drawF G 3) 4) (belts.map Belt.name) carts).1), some (.frz (.int many)), some (.frz (.lst (carts.map .str))),
      some (.lst ((⟨nameOf (outsM (drawF (drawF G 3) 4) (belts.map Belt.name) carts).1.style k, 1 + (if (drawV G 3 == 0) then 1 else 0) + drawV (drawF G 3) 4 + wide * (if (k == 0) then 1 else 0), drawV G 3 == 0, (outsM (drawF (drawF G 3) 4) (belts.map Belt.name) carts).2⟩ :: belts).map fB)), some (.frz (.int wide)), some (.frz (.int k)), b6, b7, b8]) := by
  have e1 := xd g (m := 3) (by decide) (by decide)
  have e2 := xd (g.draw 3) (m := 4) (by decide) (by decide)
  obtain ⟨a', e3⟩ := comp_names belts [] none (by rw [List.length_nil]; omega)
  rw [List.map_nil, List.nil_append] at e3
  have e4 := x_outs (drawF (drawF G 3) 4) (belts.map Belt.name) carts ((g.draw 3).draw 4) (by rw [List.length_map]; exact hb) hc0 hc
  have hst : (outsM (drawF (drawF G 3) 4) (belts.map Belt.name) carts).1.style = G.style := by simp only [outsM_style, drawF_style]
  generalize outsM (drawF (drawF G 3) 4) (belts.map Belt.name) carts = q at *
  obtain ⟨G', outs⟩ := q
  dsimp only at hst e4 ⊢
  have e5 : M_l_name [.frz (.lst (O.dl (feedL G'))), .frz (.int k)] = _ := x_name G' k (by rw [hst]; exact s0) (by rw [hst]; exact s1) k0 k1
  have mm : ∀ b : Bool, ((-(2 ^ 64) < wide ∧ wide < 2 ^ 64 ∨ (-(2 ^ 64) : Int) < (if b = true then 1 else 0) ∧ (if b = true then (1 : Int) else 0) < 2 ^ 64) = True) := fun b => eq_true (.inr (by cases b <;> decide))
  have e6 := insB belts ⟨nameOf G'.style k, 1 + (if (drawV G 3 == 0) then 1 else 0) + drawV (drawF G 3) 4 + wide * (if (k == 0) then 1 else 0), drawV G 3 == 0, outs⟩ (by omega)
  unfold beltD at e6
  dsimp only at e6
  exact ⟨some (.frz (.bl (drawV G 3 == 0))), some (.frz (.int (1 + (if (drawV G 3 == 0) then 1 else 0) + drawV (drawF G 3) 4 + wide * (if (k == 0) then 1 else 0)))), some (.frz (.lst (outs.map .str))), by
    simp only [ev_name, List.length_cons, List.length_nil, Nat.zero_add, Nat.reduceAdd, Nat.reduceLT, List.set_cons_succ, List.set_cons_zero, if_true, ↓evBind, ev_cons, ev_set, ev_op, ev_aCons, ev_call, ev_var, List.getElem?_cons_zero, ev_c, ev_aNil, ev_take2, ev_take1, ev_take0, e1, ev_pb2, ev_pb1, ev_pb0, ev_see1, ev_seeO, ev_see0, ev_eq, ev_d1, ev_ok_i, and_self, ev_q_i, ev_frz, List.getElem?_cons_succ, ev_i1b, ev_addI, e2, ev_mulI, mm, ev_comp, ev_srcV, List.not_mem_nil, fl_fB, ↓evMap, if_false, List.replicate_succ, List.replicate_zero, ev_capI0, List.cons_append, List.nil_append, e3, List.drop_succ_cons, List.drop_zero, ev_capO0, ev_d2, dl_fS, e4, ev_drop, ev_mut, ev_seq, ev_callF, ev_seeV, Option.join_some, ev_dl1, ev_dl0, List.map_cons, List.map_nil, e5, ev_fo_s, Nat.reduceLeDiff, ev_own1, ev_own0, ev_d3, e6]⟩
theorem dec01 (a : Int) : decide (V.int a = V.int 0) = (a == 0) := dec_int
theorem b01_eq (b : Bool) : b01 b = if b = true then 1 else 0 := rfl
theorem cartsM_map (st : Int) (n : Nat) : cartsM st n = (List.range' 0 n).map fun (k : Nat) => nameOf st (11 - (0 + (k : Int))) := by unfold cartsM; rw [List.range_eq_range']
theorem x_house (F : Feed) (h : GoodF F) (s0 : 0 ≤ F.style) (s1 : F.style < 12) :
    M_l_house [feedT F] = some (.tup [.lst ((houseM 5 F).2.belts.map fB), .frz (.lst ((houseM 5 F).2.carts.map .str))], [some (feedT (houseM 5 F).1)]) := by
  have e1 := xd h (m := 7) (by decide) (by decide)
  have g1 := h.draw 7
  have e2 := xd g1 (m := 5) (by decide) (by decide)
  have g2 := g1.draw 5
  have m0 := drawV_nonneg F (m := 7) (by decide)
  have m1 := drawV_lt F (m := 7) (by decide)
  have n0 := drawV_nonneg (drawF F 7) (m := 5) (by decide)
  have n1 := drawV_lt (drawF F 7) (m := 5) (by decide)
  have i1 : int1 [.own (.frz (.int (1 + drawV (drawF F 7) 5)))] = some (1 + drawV (drawF F 7) 5) := int1_of (by omega)
  have st2 : (drawF (drawF F 7) 5).style = F.style := by simp only [drawF_style]
  obtain ⟨a', eC⟩ := comp_carts (drawF (drawF F 7) 5) (by rw [st2]; exact s0) (by rw [st2]; exact s1) (1 + drawV (drawF F 7) 5).toNat 0 [] none (by omega) (by rw [List.length_nil]; omega)
  rw [List.map_nil, List.nil_append, st2, ← cartsM_map, ← List.range_eq_range'] at eC
  have eC : compLoop (ggName 0) gYes (gCallF M_l_name (gaCons (gVar 1) (gaCons (gBin oSub (gC (.int 11)) (gVar 0)) gaNil))) (rngD 0 (1 + drawV (drawF F 7) 5).toNat) [none, some (feedT (drawF (drawF F 7) 5))] [] = _ := eC
  have hcl : (cartsM F.style (1 + drawV (drawF F 7) 5).toNat).length = (1 + drawV (drawF F 7) 5).toNat := cartsM_len _ _
  have eH : houseM 5 F = (let w := wideM (drawV F 7) (drawF (drawF F 7) 5); let r := beltIter (drawV F 7) w.2 (cartsM F.style (1 + drawV (drawF F 7) 5).toNat) (drawV F 7).toNat (w.1, []); (r.1, ⟨r.2, cartsM F.style (1 + drawV (drawF F 7) 5).toNat⟩)) := rfl
  rw [eH]
  generalize hcd : cartsM F.style (1 + drawV (drawF F 7) 5).toNat = carts at *
  have i3 : int3 [.own (.frz (.int (drawV F 7 - 1))), .own (.frz (.int (-1))), .own (.frz (.int (-1)))] = some (drawV F 7 - 1, -1) := int3_of (by omega) (by omega)
  have key : ∀ (G : Feed) (wide : Int), GoodF G → G.style = F.style → ∃ a5 a6 a7 a8, gsLoop (ggName 5) (gsCons (gsSet 6 (gBin oEq (gCall M_l_draw (gaCons (gVar 0) (gaCons (gC (.int 3)) gaNil))) (gC (.int 0))))
  (gsCons (gsSet 7 (gFrz (gBin oAdd (gBin oAdd (gBin oAdd (gC (.int 1)) (gOp oInt1 (gaCons (gVar 6) gaNil))) (gCall M_l_draw (gaCons (gVar 0) (gaCons (gC (.int 4)) gaNil)))) (gBin oMulA (gVar 4) (gOp oInt1 (gaCons (gBin oEq (gVar 5) (gC (.int 0))) gaNil))))))
  (gsCons (gsSet 8 (gFrz (gCall M_l_outs (gaCons (gVar 0) (gaCons (gFrz (gCompG (srcV 3 []) (ggName 0) gYes (gBin oIx (gVar 0) (gC (.int 0))) 1 [])) (gaCons (gVar 2) gaNil))))))
  (gsDrop (gMut mInsert (gVar 3) (gaCons (gC (.int 0)) (gaCons (gFrz (gSeq .tup (gaCons (gCallF M_l_name (gaCons (gVar 0) (gaCons (gVar 5) gaNil))) (gaCons (gVar 7) (gaCons (gVar 6) (gaCons (gVar 8) gaNil)))))) gaNil))))))) (rngC (drawV F 7 - 1) (-1) (drawV F 7 - 1 - -1).toNat)
      [some (feedT G), some (.frz (.int (drawV F 7))), some (.frz (.lst (carts.map .str))), some (.lst []), some (.frz (.int wide)), none, none, none, none] =
      some (.nx, [some (feedT (beltIter (drawV F 7) wide carts (drawV F 7).toNat (G, [])).1), some (.frz (.int (drawV F 7))), some (.frz (.lst (carts.map .str))), some (.lst ((beltIter (drawV F 7) wide carts (drawV F 7).toNat (G, [])).2.map fB)), some (.frz (.int wide)), a5, a6, a7, a8]) := by
    intro G wide gG sG
    have hln : (rngC (drawV F 7 - 1) (-1) (drawV F 7 - 1 - -1).toNat).length = (drawV F 7).toNat := by simp [rngC]
    obtain ⟨Γ', eL, a5, a6, a7, a8, rfl⟩ := loop_rel (g := ggName 5) (f := gsCons (gsSet 6 (gBin oEq (gCall M_l_draw (gaCons (gVar 0) (gaCons (gC (.int 3)) gaNil))) (gC (.int 0))))
  (gsCons (gsSet 7 (gFrz (gBin oAdd (gBin oAdd (gBin oAdd (gC (.int 1)) (gOp oInt1 (gaCons (gVar 6) gaNil))) (gCall M_l_draw (gaCons (gVar 0) (gaCons (gC (.int 4)) gaNil)))) (gBin oMulA (gVar 4) (gOp oInt1 (gaCons (gBin oEq (gVar 5) (gC (.int 0))) gaNil))))))
  (gsCons (gsSet 8 (gFrz (gCall M_l_outs (gaCons (gVar 0) (gaCons (gFrz (gCompG (srcV 3 []) (ggName 0) gYes (gBin oIx (gVar 0) (gC (.int 0))) 1 [])) (gaCons (gVar 2) gaNil))))))
  (gsDrop (gMut mInsert (gVar 3) (gaCons (gC (.int 0)) (gaCons (gFrz (gSeq .tup (gaCons (gCallF M_l_name (gaCons (gVar 0) (gaCons (gVar 5) gaNil))) (gaCons (gVar 7) (gaCons (gVar 6) (gaCons (gVar 8) gaNil)))))) gaNil)))))))
      (fun i Γ => ∃ a5 a6 a7 a8, Γ = [some (feedT (beltIter (drawV F 7) wide carts i (G, [])).1), some (.frz (.int (drawV F 7))), some (.frz (.lst (carts.map .str))), some (.lst ((beltIter (drawV F 7) wide carts i (G, [])).2.map fB)), some (.frz (.int wide)), a5, a6, a7, a8])
      (rngC (drawV F 7 - 1) (-1) (drawV F 7 - 1 - -1).toNat) 0 _ ⟨none, none, none, none, rfl⟩ (by
        rintro j Γ d hd ⟨a5, a6, a7, a8, rfl⟩
        have hj : j < (drawV F 7).toNat := by
          have := (List.getElem?_eq_some_iff.mp hd).1
          omega
        have ed : d = .int (drawV F 7 - 1 + (j : Int) * -1) := by
          unfold rngC at hd
          rw [List.getElem?_map, List.getElem?_range (by omega)] at hd
          exact (Option.some.inj hd).symm
        subst ed
        rw [Nat.zero_add]
        have sJ := beltIter_style (drawV F 7) wide carts (G, []) j
        obtain ⟨b6, b7, b8, eb⟩ := house_body (drawV F 7) wide (beltIter (drawV F 7) wide carts j (G, [])).1 carts (beltIter (drawV F 7) wide carts j (G, [])).2 (drawV F 7 - 1 + (j : Int) * -1) (beltIter_good gG j) (by rw [sJ]; show 0 ≤ G.style; omega) (by rw [sJ]; show G.style < 12; omega) (by omega) (by omega)
          (by rw [beltIter_len]; simp; omega) (by omega) (by omega) a5 a6 a7 a8
        exact ⟨_, eb, _, b6, b7, b8, by
          show _ = [some (feedT (beltTurn (drawV F 7) wide carts j (beltIter (drawV F 7) wide carts j (G, []))).1), _, _, some (.lst ((beltTurn (drawV F 7) wide carts j (beltIter (drawV F 7) wide carts j (G, []))).2.map fB)), _, _, _, _, _]
          unfold beltTurn
          dsimp only
          rw [dec01, dec01]
          rfl⟩)
    rw [hln, Nat.zero_add] at eL
    exact ⟨a5, a6, a7, a8, eL⟩
  unfold M_l_house m_l_house
  have hw : wideM (drawV F 7) (drawF (drawF F 7) 5) = if drawV F 7 < 3 then (drawF (drawF (drawF (drawF F 7) 5) 2) 20, drawV (drawF (drawF F 7) 5) 2 * drawV (drawF (drawF (drawF F 7) 5) 2) 20) else (drawF (drawF F 7) 5, 0) := rfl
  by_cases h3 : drawV F 7 < 3
  · rw [if_pos h3] at hw
    rw [hw]
    have e3 := xd g2 (m := 2) (by decide) (by decide)
    have e4 := xd (g2.draw 2) (m := 20) (by decide) (by decide)
    have p0 := drawV_nonneg (drawF (drawF F 7) 5) (m := 2) (by decide)
    have p1 := drawV_lt (drawF (drawF F 7) 5) (m := 2) (by decide)
    have mm : (-(2 ^ 64) < drawV (drawF (drawF F 7) 5) 2 ∧ drawV (drawF (drawF F 7) 5) 2 < 2 ^ 64 ∨ -(2 ^ 64) < drawV (drawF (drawF (drawF F 7) 5) 2) 20 ∧ drawV (drawF (drawF (drawF F 7) 5) 2) 20 < 2 ^ 64) = True := eq_true (.inl ⟨by omega, by omega⟩)
    obtain ⟨a5, a6, a7, a8, eL⟩ := key (drawF (drawF (drawF (drawF F 7) 5) 2) 20) (drawV (drawF (drawF F 7) 5) 2 * drawV (drawF (drawF (drawF F 7) 5) 2) 20) ((g2.draw 2).draw 20) (by simp only [drawF_style])
    dsimp only
    simp only [ev_run, List.map_cons, List.map_nil, List.length_cons, List.length_nil, Nat.zero_add, Nat.reduceSub, List.replicate_succ, List.replicate_zero, List.cons_append, List.nil_append, ev_cons, ev_set, ev_frz, ev_call, ev_aCons, ev_var, List.getElem?_cons_zero, ↓evBind, ev_c, ev_aNil, ev_take2, List.set_cons_zero, ev_take1, ev_take0, e1, ev_pb2, ev_pb1, ev_pb0, ev_d1, Nat.reduceAdd, Nat.reduceLT, List.set_cons_succ, if_true, ev_comp, ev_srcR1, ev_op, e2, ev_see1, ev_seeO, ev_see0, ev_addI, i1, ↓evMap, ev_capI1, Option.join_some, ev_capI0, eC, List.drop_succ_cons, List.drop_zero, ev_capO1, ev_capO0, ev_d2, dl_fS, ev_seq, Nat.reduceLeDiff, ev_own0, ev_ifS, ev_T, List.getElem?_cons_succ, ev_int, h3, decide_true, e3, e4, ev_mulI, mm, ev_nil, ev_rD, ev_neg, Int.reduceNeg, i3, eL, ev_ret, ev_move, ev_own1, ev_vr, List.take_succ_cons, List.take_zero, ev_kt, ev_kn]
  · rw [if_neg h3] at hw
    rw [hw]
    obtain ⟨a5, a6, a7, a8, eL⟩ := key (drawF (drawF F 7) 5) 0 g2 st2
    dsimp only
    simp only [ev_run, List.map_cons, List.map_nil, List.length_cons, List.length_nil, Nat.zero_add, Nat.reduceSub, List.replicate_succ, List.replicate_zero, List.cons_append, List.nil_append, ev_cons, ev_set, ev_frz, ev_call, ev_aCons, ev_var, List.getElem?_cons_zero, ↓evBind, ev_c, ev_aNil, ev_take2, List.set_cons_zero, ev_take1, ev_take0, e1, ev_pb2, ev_pb1, ev_pb0, ev_d1, Nat.reduceAdd, Nat.reduceLT, List.set_cons_succ, if_true, ev_comp, ev_srcR1, ev_op, e2, ev_see1, ev_seeO, ev_see0, ev_addI, i1, ↓evMap, ev_capI1, Option.join_some, ev_capI0, eC, List.drop_succ_cons, List.drop_zero, ev_capO1, ev_capO0, ev_d2, dl_fS, ev_seq, Nat.reduceLeDiff, ev_own0, ev_ifS, ev_T, List.getElem?_cons_succ, ev_int, h3, decide_false, Bool.false_eq_true, ev_nil, if_false, ev_rD, ev_neg, Int.reduceNeg, i3, eL, ev_ret, ev_move, ev_own1, ev_vr, List.take_succ_cons, List.take_zero, ev_kt, ev_kn]
end Carry
set_option Elab.async false
set_option linter.all false
set_option maxRecDepth 100000
set_option maxHeartbeats 4000000
namespace Carry
open PySem L2
def findB (bs : List Belt) (n : Str) : Option Belt := bs.find? fun b => b.name == n
structure SmallH (h : House) : Prop where
  bl : h.belts.length ≤ 100
  ct : h.carts.length ≤ 100
  ou : (h.belts.map fun x => x.outs.length).sum ≤ 900
/-- each belt's outs stand behind it or are carts; names differ -/
def Fwd (carts : List Str) : List Belt → Prop
  | [] => True
  | b :: bs => (∀ o ∈ b.outs, o ∈ bs.map Belt.name ∨ o ∈ carts) ∧ b.name ∉ bs.map Belt.name ∧ b.name ∉ carts ∧ Fwd carts bs
theorem fwd_uniq {carts : List Str} : ∀ {bs : List Belt}, Fwd carts bs → ∀ x ∈ bs, ∀ y ∈ bs, x.name = y.name → x = y
  | z :: bs, f, x, hx, y, hy, e => by
    rcases List.mem_cons.mp hx with hx1 | hx1
    · rcases List.mem_cons.mp hy with hy1 | hy1
      · rw [hx1, hy1]
      · exact absurd (List.mem_map_of_mem (f := Belt.name) hy1) (by rw [← e, hx1]; exact f.2.1)
    · rcases List.mem_cons.mp hy with hy1 | hy1
      · exact absurd (List.mem_map_of_mem (f := Belt.name) hx1) (by rw [e, hy1]; exact f.2.1)
      · exact fwd_uniq f.2.2.2 x hx1 y hy1 e
theorem outTurn_sub {later carts : List Str} {p : Feed × List Str} (hm : 0 < later.length + carts.length) (h : ∀ o ∈ p.2, o ∈ later ++ carts) : ∀ o ∈ (outTurn later carts p).2, o ∈ later ++ carts := by
  have hm0 : (0 : Int) < (later.length : Int) + carts.length := by omega
  have v0 := drawV_nonneg p.1 hm0
  have v1 := drawV_lt p.1 hm0
  have hx : (later ++ carts).getD (drawV p.1 (later.length + carts.length)).toNat "" ∈ later ++ carts := by
    rw [List.getD_eq_getElem?_getD, List.getElem?_eq_getElem (by rw [List.length_append]; omega)]
    exact List.getElem_mem _
  unfold outTurn
  dsimp only
  split
  · exact h
  · intro o ho
    rcases mem_insS.mp ho with z | z
    · rw [z]; exact hx
    · exact h o z
theorem outIter_sub {later carts : List Str} {F : Feed} (hm : 0 < later.length + carts.length) : ∀ n, ∀ o ∈ (outIter later carts n (F, [])).2, o ∈ later ++ carts
  | 0 => fun o m => by cases m
  | n + 1 => outTurn_sub hm (outIter_sub hm n)
theorem outsM_sub {F : Feed} {later carts : List Str} (hc : 0 < carts.length) : ∀ o ∈ (outsM F later carts).2, o ∈ later ++ carts := by
  have hh : carts.getD 0 "" ∈ later ++ carts := by
    cases carts with
    | nil => simp at hc
    | cons c r => simp
  have hi := outIter_sub (F := drawF F 3) (later := later) (carts := carts) (by omega) (1 + drawV F 3).toNat
  unfold outsM
  dsimp only
  split
  · intro o ho
    rcases mem_insS.mp ho with z | z
    · rw [z]; exact hh
    · exact hi o z
  · exact hi
theorem outsM_len {F : Feed} {later carts : List Str} (h : GoodF F) : (outsM F later carts).2.length ≤ 4 := by
  have d0 := drawV_nonneg F (m := 3) (by decide)
  have d1 := drawV_lt F (m := 3) (by decide)
  obtain ⟨_, g2⟩ := outIter_good (later := later) (carts := carts) (xs := []) (h.draw 3) (1 + drawV F 3).toNat
  rw [List.length_nil] at g2
  unfold outsM
  dsimp only
  split
  · dsimp only
    rw [insS_len]
    omega
  · omega
theorem outsM_hand {F : Feed} {later carts : List Str} : carts.getD 0 "" ∈ (outsM F later carts).2 ∨ ∃ o ∈ (outsM F later carts).2, o ∈ later := by
  unfold outsM
  dsimp only
  split
  · exact .inl (mem_insS.mpr (.inl rfl))
  · rename_i hq
    by_cases hc : carts.getD 0 "" ∈ (outIter later carts (1 + drawV F 3).toNat (drawF F 3, [])).2
    · exact .inl hc
    · right
      have hc' : (outIter later carts (1 + drawV F 3).toNat (drawF F 3, [])).2.contains (carts.getD 0 "") = false := by
        rw [← Bool.not_eq_true, List.contains_iff_mem]; exact hc
      have hq' := hq
      cases e : (outIter later carts (1 + drawV F 3).toNat (drawF F 3, [])).2.filter fun x => later.contains x with
      | nil =>
        exfalso
        apply hq
        rw [hc', e]
        rfl
      | cons o r =>
        have : o ∈ (outIter later carts (1 + drawV F 3).toNat (drawF F 3, [])).2.filter fun x => later.contains x := by rw [e]; exact .head _
        rw [List.mem_filter, List.contains_iff_mem] at this
        exact ⟨o, this.1, this.2⟩
structure HInv (st many : Int) (carts : List Str) (i : Nat) (bs : List Belt) : Prop where
  fwd : Fwd carts bs
  nm : ∀ b ∈ bs, ∃ k : Int, many - i ≤ k ∧ k < many ∧ b.name = nameOf st k
  ln : (bs.map fun x => x.outs.length).sum ≤ 4 * i
  lg : ∀ b ∈ bs, 1 ≤ b.long ∧ b.long ≤ 60
  hd : ∀ b ∈ bs, carts.getD 0 "" ∈ b.outs ∨ ∃ o ∈ b.outs, o ∈ bs.map Belt.name
theorem belt_inv {st many wide : Int} {carts : List Str} {F : Feed} (h : GoodF F) (hs : F.style = st) (s0 : 0 ≤ st) (s1 : st < 12) (m1 : many ≤ 6) (w0 : 0 ≤ wide) (w1 : wide ≤ 19) (hc0 : 0 < carts.length) (hc : ∀ c ∈ carts, ∃ k : Int, 7 ≤ k ∧ k < 12 ∧ c = nameOf st k) :
    ∀ i : Nat, (i : Int) ≤ many → HInv st many carts i (beltIter many wide carts i (F, [])).2
  | 0, _ => ⟨True.intro, fun b m => (by cases m), Nat.le_refl _, fun b m => (by cases m), fun b m => (by cases m)⟩
  | i + 1, hi => by
    have ih := belt_inv (wide := wide) h hs s0 s1 m1 w0 w1 hc0 hc i (by omega)
    have gd := beltIter_good (many := many) (wide := wide) (carts := carts) (p := (F, [])) h i
    have sJ := beltIter_style many wide carts (F, []) i
    show HInv st many carts (i + 1) (beltTurn many wide carts i (beltIter many wide carts i (F, []))).2
    unfold beltTurn
    dsimp only
    have so : ∀ later, (outsM (drawF (drawF (beltIter many wide carts i (F, [])).1 3) 4) later carts).1.style = st := fun later => by simp only [outsM_style, drawF_style]; rw [sJ]; exact hs
    rw [so]
    have ek : many - 1 + (i : Int) * (-1) = many - 1 - i := by omega
    rw [ek]
    refine ⟨⟨fun o ho => ?_, fun hn => ?_, fun hn => ?_, ih.fwd⟩, fun b hb => ?_, ?_, fun b hb => ?_, fun b hb => ?_⟩
    · rcases List.mem_append.mp (outsM_sub hc0 o ho) with z | z
      · exact .inl z
      · exact .inr z
    · obtain ⟨b, hb, e⟩ := List.mem_map.mp hn
      obtain ⟨k, k1, k2, k3⟩ := ih.nm b hb
      have e : b.name = nameOf st (many - 1 - i) := e
      rw [k3] at e
      have := nameOf_inj s0 s1 (by omega) (by omega) (by omega) (by omega) e
      omega
    · obtain ⟨k, k1, k2, k3⟩ := hc _ hn
      have := nameOf_inj s0 s1 (by omega) (by omega) (by omega) (by omega) k3
      omega
    · rcases List.mem_cons.mp hb with rfl | hb
      · exact ⟨many - 1 - i, by omega, by omega, rfl⟩
      · obtain ⟨k, k1, k2, k3⟩ := ih.nm b hb
        exact ⟨k, by omega, k2, k3⟩
    · rw [List.map_cons, List.sum_cons]
      have := outsM_len (later := ((beltIter many wide carts i (F, [])).2.map Belt.name)) (carts := carts) ((gd.draw 3).draw 4)
      have := ih.ln
      dsimp only
      omega
    · rcases List.mem_cons.mp hb with rfl | hb
      · have d0 := drawV_nonneg (drawF (beltIter many wide carts i (F, [])).1 3) (m := 4) (by decide)
        have d1 := drawV_lt (drawF (beltIter many wide carts i (F, [])).1 3) (m := 4) (by decide)
        dsimp only
        have b1 : ∀ x : Bool, 0 ≤ b01 x ∧ b01 x ≤ 1 := fun x => by cases x <;> decide
        have w2 : ∀ x : Bool, 0 ≤ wide * b01 x ∧ wide * b01 x ≤ 19 := fun x => by cases x <;> simp [b01] <;> omega
        have q1 := b1 (decide (V.int (drawV (beltIter many wide carts i (F, [])).1 3) = V.int 0))
        have q2 := w2 (decide (V.int (many - 1 - (i : Int)) = V.int 0))
        constructor <;> omega
      · exact ih.lg b hb
    · rcases List.mem_cons.mp hb with rfl | hb
      · rcases outsM_hand (F := drawF (drawF (beltIter many wide carts i (F, [])).1 3) 4) (later := (beltIter many wide carts i (F, [])).2.map Belt.name) (carts := carts) with z | ⟨o, z1, z2⟩
        · exact .inl z
        · exact .inr ⟨o, z1, .tail _ z2⟩
      · rcases ih.hd b hb with z | ⟨o, z1, z2⟩
        · exact .inl z
        · exact .inr ⟨o, z1, .tail _ z2⟩
structure GoodH (st : Int) (h : House) : Prop where
  fwd : Fwd h.carts h.belts
  sm : SmallH h
  nm : ∀ b ∈ h.belts, ∃ k : Int, 0 ≤ k ∧ k < 12 ∧ b.name = nameOf st k
  ol : ∀ b ∈ h.belts, b.outs.length ≤ 24
  lg : ∀ b ∈ h.belts, 1 ≤ b.long ∧ b.long ≤ 60
  hd : ∀ b ∈ h.belts, h.carts.getD 0 "" ∈ b.outs ∨ ∃ o ∈ b.outs, o ∈ h.belts.map Belt.name
  cn : h.carts.Nodup
  c0 : 0 < h.carts.length
  cm : ∀ c ∈ h.carts, ∃ k : Int, 7 ≤ k ∧ k < 12 ∧ c = nameOf st k
  b6 : h.belts.length ≤ 6
  c5 : h.carts.length ≤ 5
theorem sum_ge : ∀ {bs : List Belt} {b : Belt}, b ∈ bs → b.outs.length ≤ (bs.map fun x => x.outs.length).sum
  | x :: bs, b, h => by
    rw [List.map_cons, List.sum_cons]
    rcases List.mem_cons.mp h with rfl | h
    · omega
    · have := sum_ge h
      omega
theorem house_good (F : Feed) (h : GoodF F) (s0 : 0 ≤ F.style) (s1 : F.style < 12) : GoodH F.style (houseM 5 F).2 := by
  have m0 := drawV_nonneg F (m := 7) (by decide)
  have m1 := drawV_lt F (m := 7) (by decide)
  have n0 := drawV_nonneg (drawF F 7) (m := 5) (by decide)
  have n1 := drawV_lt (drawF F 7) (m := 5) (by decide)
  have hcl : (cartsM F.style (1 + drawV (drawF F 7) 5).toNat).length = (1 + drawV (drawF F 7) 5).toNat := cartsM_len _ _
  have hcm : ∀ c ∈ cartsM F.style (1 + drawV (drawF F 7) 5).toNat, ∃ k : Int, 7 ≤ k ∧ k < 12 ∧ c = nameOf F.style k := fun c m => by
    unfold cartsM at m
    obtain ⟨k, hk, e⟩ := List.mem_map.mp m
    rw [List.mem_range] at hk
    exact ⟨11 - (0 + (k : Int)), by omega, by omega, e.symm⟩
  have gw : GoodF (wideM (drawV F 7) (drawF (drawF F 7) 5)).1 := by
    unfold wideM
    split
    · exact (((h.draw 7).draw 5).draw 2).draw 20
    · exact (h.draw 7).draw 5
  have sw : (wideM (drawV F 7) (drawF (drawF F 7) 5)).1.style = F.style := by rw [wideM_style]; simp only [drawF_style]
  have ww : 0 ≤ (wideM (drawV F 7) (drawF (drawF F 7) 5)).2 ∧ (wideM (drawV F 7) (drawF (drawF F 7) 5)).2 ≤ 19 := by
    unfold wideM
    split
    · have p0 := drawV_nonneg (drawF (drawF F 7) 5) (m := 2) (by decide)
      have p1 := drawV_lt (drawF (drawF F 7) 5) (m := 2) (by decide)
      have r0 := drawV_nonneg (drawF (drawF (drawF F 7) 5) 2) (m := 20) (by decide)
      have r1 := drawV_lt (drawF (drawF (drawF F 7) 5) 2) (m := 20) (by decide)
      have : drawV (drawF (drawF F 7) 5) 2 = 0 ∨ drawV (drawF (drawF F 7) 5) 2 = 1 := by omega
      dsimp only
      rcases this with z | z <;> rw [z] <;> constructor <;> omega
    · exact ⟨Int.le_refl 0, by show (0 : Int) ≤ 19; decide⟩
  have bi := belt_inv (wide := (wideM (drawV F 7) (drawF (drawF F 7) 5)).2) gw sw s0 s1 (many := drawV F 7) (by omega) ww.1 ww.2 (by omega) hcm (drawV F 7).toNat (by omega)
  have bl := beltIter_len (drawV F 7) (wideM (drawV F 7) (drawF (drawF F 7) 5)).2 (cartsM F.style (1 + drawV (drawF F 7) 5).toNat) ((wideM (drawV F 7) (drawF (drawF F 7) 5)).1, []) (drawV F 7).toNat
  have ln := bi.ln
  refine ⟨bi.fwd, ⟨?_, ?_, ?_⟩, fun b hb => ?_, fun b hb => ?_, bi.lg, bi.hd, ?_, ?_, hcm, ?_, ?_⟩
  · show (beltIter _ _ _ _ _).2.length ≤ 100
    rw [bl]; simp; omega
  · show (cartsM _ _).length ≤ 100
    omega
  · exact Nat.le_trans ln (by omega)
  · obtain ⟨k, k1, k2, k3⟩ := bi.nm b hb
    exact ⟨k, by omega, by omega, k3⟩
  · exact Nat.le_trans (sum_ge hb) (Nat.le_trans ln (by omega))
  · show (cartsM _ _).Nodup
    unfold cartsM
    unfold List.Nodup
    rw [List.pairwise_map]
    refine List.Pairwise.imp_of_mem ?_ (List.nodup_range (n := (1 + drawV (drawF F 7) 5).toNat))
    intro i j hi hj hij e
    rw [List.mem_range] at hi hj
    have := nameOf_inj s0 s1 (by omega) (by omega) (by omega) (by omega) e
    exact hij (by omega)
  · show 0 < (cartsM _ _).length
    omega
  · show (beltIter _ _ _ _ _).2.length ≤ 6
    rw [bl]; simp; omega
  · show (cartsM _ _).length ≤ 5
    omega
theorem findB_none {bs : List Belt} {n : Str} (h : n ∉ bs.map Belt.name) : findB bs n = none := by
  unfold findB
  rw [List.find?_eq_none]
  intro b hb e
  exact h (by rw [← eq_of_beq e]; exact List.mem_map_of_mem (f := Belt.name) hb)
theorem fwd_carts {carts : List Str} : ∀ {bs : List Belt}, Fwd carts bs → ∀ c ∈ carts, c ∉ bs.map Belt.name
  | [], _, c, _, h => by cases h
  | b :: bs, f, c, hc, h => by
    rcases List.mem_cons.mp h with z | z
    · exact f.2.2.1 (by rw [← z]; exact hc)
    · exact fwd_carts f.2.2.2 c hc z
theorem findB_self {carts : List Str} : ∀ {bs : List Belt}, Fwd carts bs → ∀ b ∈ bs, findB bs b.name = some b
  | x :: bs, f, b, hb => by
    rcases List.mem_cons.mp hb with rfl | hb
    · unfold findB; rw [List.find?_cons, beq_self_eq_true]
    · have : (x.name == b.name) = false := by
        rw [beq_eq_false_iff_ne]
        exact fun e => f.2.1 (by rw [e]; exact List.mem_map_of_mem (f := Belt.name) hb)
      unfold findB
      rw [List.find?_cons, this]
      exact findB_self f.2.2.2 b hb
theorem fwd_suffix {carts : List Str} : ∀ {xs ys : List Belt}, Fwd carts (xs ++ ys) → Fwd carts ys
  | [], _, f => f
  | _ :: xs, ys, f => fwd_suffix (xs := xs) f.2.2.2
end Carry
set_option Elab.async false
set_option linter.all false
set_option maxRecDepth 100000
set_option maxHeartbeats 4000000
namespace Carry
open PySem L2
theorem isi_l (ds : List D) : oIsi [.frz (.lst ds), .frz (.ty "list")] = some (.frz (.bl true)) := by unfold oIsi; simp [kindD, isiB, O.d]
theorem isi_s (x : Str) : oIsi [.frz (.str x), .frz (.ty "str")] = some (.frz (.bl true)) := by unfold oIsi; simp [kindD, isiB, O.d]
theorem isi_t (ds : List D) : oIsi [.frz (.tup ds), .frz (.ty "tuple")] = some (.frz (.bl true)) := by unfold oIsi; simp [kindD, isiB, O.d]
theorem isi_b (x : Bool) : oIsi [.frz (.bl x), .frz (.ty "bool")] = some (.frz (.bl true)) := by unfold oIsi; simp [kindD, isiB, O.d]
theorem isi_i (x : Int) : oIsi [.frz (.int x), .frz (.ty "int")] = some (.frz (.bl true)) := by unfold oIsi; simp [kindD, isiB, O.d]
theorem isi_ib (x : Int) : oIsi [.frz (.int x), .frz (.ty "bool")] = some (.frz (.bl false)) := by unfold oIsi; simp [kindD, isiB, O.d]
theorem isi_ts (ds : List D) : oIsi [.frz (.tup ds), .frz (.ty "str")] = some (.frz (.bl false)) := by unfold oIsi; simp [kindD, isiB, O.d]
theorem isi_lo (os : List O) : oIsi [.lst os, .frz (.ty "list")] = some (.frz (.bl true)) := by unfold oIsi; simp [kindD, isiB, O.d]
theorem i1_len (n : Nat) (h : n ≤ 1000) : int1 [.own (.frz (.int (n : Int)))] = some (n : Int) := int1_of (by omega)
theorem xh0 (h : House) : oIx1 (.frz (houseD h)) (.int 0) = some (.frz (.lst (h.belts.map beltD))) := by unfold houseD; simp only [ev_ixT, atI_lit0, Option.map_some]
theorem xh1 (h : House) : oIx1 (.frz (houseD h)) (.int 1) = some (.frz (.lst (h.carts.map .str))) := by unfold houseD; simp only [ev_ixT, atI_lit1, Option.map_some]
theorem xb0 (b : Belt) : oIx1 (.frz (beltD b)) (.int 0) = some (.frz (.str b.name)) := by unfold beltD; simp only [ev_ixT, atI_lit0, Option.map_some]
theorem xb1 (b : Belt) : oIx1 (.frz (beltD b)) (.int 1) = some (.frz (.int b.long)) := by unfold beltD; simp only [ev_ixT, atI_lit1, Option.map_some]
theorem xb2 (b : Belt) : oIx1 (.frz (beltD b)) (.int 2) = some (.frz (.bl b.ring)) := by unfold beltD; simp only [ev_ixT, atI_lit2, Option.map_some]
theorem xb3 (b : Belt) : oIx1 (.frz (beltD b)) (.int 3) = some (.frz (.lst (b.outs.map .str))) := by unfold beltD; simp only [ev_ixT, atI_lit3, Option.map_some]
theorem okD_belt (b : Belt) : okD 3 (beltD b) = true := by
  unfold beltD
  show ([D.str b.name, .int b.long, .bl b.ring, .lst (b.outs.map .str)] : List D).all (okD 2) = true
  simp only [List.all_cons, List.all_nil, ev_ok_s, ev_ok_i, ev_ok_b, Bool.true_and, Bool.and_true]
  exact ok_strs 1 b.outs
theorem okD_mono : ∀ (n : Nat) (d : D), okD n d = true → okD (n + 1) d = true
  | 0, d, h => by cases d <;> first | (cases h; done) | rfl
  | n + 1, d, h => by
    cases d with
    | lst xs => exact List.all_eq_true.mpr fun x m => okD_mono n x (List.all_eq_true.mp h x m)
    | tup xs => exact List.all_eq_true.mpr fun x m => okD_mono n x (List.all_eq_true.mp h x m)
    | dct _ => cases h
    | scr _ => cases h
    | ty _ => cases h
    | _ => rfl
theorem okD_le {n : Nat} {d : D} (h : okD n d = true) : ∀ k, okD (n + k) d = true
  | 0 => h
  | k + 1 => okD_mono _ _ (okD_le h k)
theorem okD_house (h : House) : okD 40 (houseD h) = true := by
  have : okD 5 (houseD h) = true := by
    unfold houseD
    show ([D.lst (h.belts.map beltD), D.lst (h.carts.map .str)] : List D).all (okD 4) = true
    rw [List.all_cons, List.all_cons, List.all_nil, Bool.and_true, Bool.and_eq_true]
    constructor
    · show (h.belts.map beltD).all (okD 3) = true
      rw [List.all_eq_true]
      intro d hd
      obtain ⟨b, _, rfl⟩ := List.mem_map.mp hd
      exact okD_belt b
    · exact ok_strs 3 h.carts
  exact okD_le this 35
theorem eq_house (h : House) : oEq [.frz (houseD h), .frz (houseD h)] = some (.frz (.bl true)) := by
  rw [ev_eq, ev_d1, if_pos ⟨okD_house h, okD_house h⟩, eqD_refl 40 (okD_house h)]
theorem set_style (F : Feed) (v : Int) : mSet (feedT F) [.frz (.int v), .frz (.int 2)] = some (feedT { F with style := v }, .frz .non) := by
  unfold feedT mSet
  dsimp only
  rw [show (feedL F).length = 5 from rfl, ix52]
  rfl
def kvO (kn : List (Str × Int)) : List (TK × O) := kn.map fun p => (.inr p.1, .frz (.int p.2))
def kvD (kn : List (Str × Int)) : List (TK × D) := kn.map fun p => (.inr p.1, .int p.2)
def atS (kn : List (Str × Int)) (n : Str) : Option Int := (kn.find? fun p => p.1 == n).map (·.2)
theorem dk_kv : ∀ kn : List (Str × Int), O.dk (kvO kn) = kvD kn
  | [] => rfl
  | k :: ks => by
    show (_, _) :: O.dk (kvO ks) = _
    rw [dk_kv ks]; rfl
theorem key_dec (a b : Str) : decide ((TK.inr a : TK) = TK.inr b) = (a == b) := by
  by_cases e : a = b
  · rw [decide_eq_true (by rw [e]), e, beq_self_eq_true]
  · rw [decide_eq_false (fun z => e (TK.inr.inj z)), show (a == b) = false by rw [beq_eq_false_iff_ne]; exact e]
theorem atS_nil (x : Str) : atS [] x = none := rfl
theorem atS_cons (k : Str) (v : Int) (kn : List (Str × Int)) (x : Str) : atS ((k, v) :: kn) x = if k = x then some v else atS kn x := by
  unfold atS
  rw [List.find?_cons]
  by_cases e : k = x
  · rw [if_pos e, show (k == x) = true by rw [e, beq_self_eq_true]]; rfl
  · rw [if_neg e, show (k == x) = false by rw [beq_eq_false_iff_ne]; exact e]
theorem atS_snoc (k : Str) (v : Int) (x : Str) : ∀ kn : List (Str × Int), atS (kn ++ [(k, v)]) x = (atS kn x).or (if k = x then some v else none)
  | [] => by rw [List.nil_append, atS_cons, atS_nil, Option.none_or]
  | (k', v') :: kn => by
    rw [List.cons_append, atS_cons, atS_cons, atS_snoc k v x kn]
    split
    · rfl
    · rfl
theorem valD_kv (x : Str) : ∀ kn : List (Str × Int), valD (kvD kn) (.inr x) = (atS kn x).map .int
  | [] => rfl
  | (k, v) :: kn => by
    have ih := valD_kv x kn
    rw [atS_cons]
    unfold valD kvD at *
    rw [List.map_cons, List.find?_cons]
    dsimp only
    rw [key_dec]
    by_cases e : k = x
    · rw [if_pos e, show (k == x) = true by rw [e, beq_self_eq_true]]; rfl
    · rw [if_neg e, show (k == x) = false by rw [beq_eq_false_iff_ne]; exact e]; exact ih
theorem valO_kv (x : Str) : ∀ kn : List (Str × Int), valO (kvO kn) (.inr x) = (atS kn x).map fun v => .frz (.int v)
  | [] => rfl
  | (k, v) :: kn => by
    have ih := valO_kv x kn
    rw [atS_cons]
    unfold valO kvO at *
    rw [List.map_cons, List.find?_cons]
    dsimp only
    rw [key_dec]
    by_cases e : k = x
    · rw [if_pos e, show (k == x) = true by rw [e, beq_self_eq_true]]; rfl
    · rw [if_neg e, show (k == x) = false by rw [beq_eq_false_iff_ne]; exact e]; exact ih
theorem in_kv (neg : Bool) (x : Str) (kn : List (Str × Int)) : oInG neg [.frz (.str x), .dct (kvO kn)] = some (.frz (.bl (if neg then !(atS kn x).isSome else (atS kn x).isSome))) := by
  unfold oInG
  simp only [dictO, dk_kv, keyD, Option.bind_some, valD_kv, Option.isSome_map]
theorem in_kvF (neg : Bool) (x : Str) (kn : List (Str × Int)) : oInG neg [.frz (.str x), .frz (.dct (kvD kn))] = some (.frz (.bl (if neg then !(atS kn x).isSome else (atS kn x).isSome))) := by
  unfold oInG
  simp only [dictO, keyD, Option.bind_some, valD_kv, Option.isSome_map]
theorem ix_kv (kn : List (Str × Int)) (x : Str) {v : Int} (h : atS kn x = some v) : oIx1 (.dct (kvO kn)) (.str x) = some (.frz (.int v)) := by
  show ((keyD (.str x)).bind fun k => (valO (kvO kn) k).bind unfrz) = _
  rw [show keyD (.str x) = some (.inr x) from rfl, Option.bind_some, valO_kv, h]
  rfl
theorem ix_kvF (kn : List (Str × Int)) (x : Str) {v : Int} (h : atS kn x = some v) : oIx1 (.frz (.dct (kvD kn))) (.str x) = some (.frz (.int v)) := by
  show ((keyD (.str x)).bind fun k => (valD (kvD kn) k).map O.frz) = _
  rw [show keyD (.str x) = some (.inr x) from rfl, Option.bind_some, valD_kv, h]
  rfl
theorem putG_cons {α : Type} (e : TK × α) (es : List (TK × α)) (k : TK) (v : α) : putG (e :: es) k v = if e.1 = k then (e.1, v) :: es else e :: putG es k v := rfl
theorem putG_kv : ∀ (kn : List (Str × Int)) (k : Str) (v : Int), atS kn k = none → putG (kvO kn) (.inr k) (.frz (.int v)) = kvO (kn ++ [(k, v)])
  | [], _, _, _ => rfl
  | (k', v') :: kn, k, v, h => by
    rw [atS_cons] at h
    have e : ¬ k' = k := fun z => by rw [if_pos z] at h; cases h
    rw [if_neg e] at h
    show putG ((TK.inr k', O.frz (.int v')) :: kvO kn) (.inr k) (.frz (.int v)) = (TK.inr k', O.frz (.int v')) :: kvO (kn ++ [(k, v)])
    rw [← putG_kv kn k v h, putG_cons, if_neg (fun z => e (TK.inr.inj z))]
theorem put_kv (kn : List (Str × Int)) (k : Str) (v : Int) (h : atS kn k = none) (hl : kn.length < 1000000) : mSet (.dct (kvO kn)) [.frz (.int v), .frz (.str k)] = some (.dct (kvO (kn ++ [(k, v)])), .frz .non) := by
  unfold mSet
  simp only [keyD, Option.bind_some]
  rw [if_pos (by unfold kvO; rw [List.length_map]; exact hl)]
  rw [putG_kv kn k v h]
theorem d_kv (kn : List (Str × Int)) : (O.dct (kvO kn)).d = .dct (kvD kn) := by show D.dct (O.dk (kvO kn)) = _; rw [dk_kv]
/-- how far a cart is from the begin of each belt -/
def behL (kn : List (Str × Int)) (outs : List Str) : List Int := outs.filterMap (atS kn)
def begL (cart : Str) : List Belt → List (Str × Int)
  | [] => [(cart, 0)]
  | b :: bs => if behL (begL cart bs) b.outs = [] then begL cart bs else begL cart bs ++ [(b.name, b.long + minL (behL (begL cart bs) b.outs))]
theorem begL_len (cart : Str) : ∀ bs : List Belt, (begL cart bs).length ≤ bs.length + 1
  | [] => Nat.le_refl _
  | b :: bs => by
    have := begL_len cart bs
    unfold begL
    split
    · rw [List.length_cons]; omega
    · rw [List.length_append, List.length_singleton, List.length_cons]; omega
theorem begL_mem {cart : Str} : ∀ {bs : List Belt} {n : Str}, n ≠ cart → n ∉ bs.map Belt.name → atS (begL cart bs) n = none
  | [], n, h1, _ => by
    show atS [(cart, 0)] n = none
    rw [atS_cons, if_neg (fun z => h1 z.symm), atS_nil]
  | b :: bs, n, h1, h2 => by
    rw [List.map_cons] at h2
    have h3 : n ≠ b.name := fun z => h2 (by rw [z]; exact .head _)
    have ih := begL_mem (cart := cart) (bs := bs) h1 fun z => h2 (.tail _ z)
    unfold begL
    split
    · exact ih
    · rw [atS_snoc, ih, if_neg (fun z => h3 z.symm)]; rfl
theorem filter_map_get (kn : List (Str × Int)) : ∀ outs : List Str, (outs.filter fun o => (atS kn o).isSome).map (fun o => (atS kn o).getD 0) = behL kn outs
  | [] => rfl
  | o :: outs => by
    have ih := filter_map_get kn outs
    unfold behL at *
    cases e : atS kn o with
    | none => rw [List.filter_cons_of_neg (by rw [e]; exact Bool.false_ne_true), List.filterMap_cons_none e, ih]
    | some v => rw [List.filter_cons_of_pos (by rw [e]; rfl), List.map_cons, ih, List.filterMap_cons_some e, e]; rfl
theorem x_begins (h : House) (cart : Str) (f : Fwd h.carts h.belts) (hc : cart ∈ h.carts) (bl : h.belts.length ≤ 100) (ol : ∀ b ∈ h.belts, b.outs.length ≤ 24) : M_begins [.frz (houseD h), fS cart] = some (.dct (kvO (begL cart h.belts)), [none, none]) := by
  obtain ⟨Γ', e, a3, a4, a5, a6, a7, rfl⟩ := loop_gen (g := ggTup [(ggName 3), (ggName 4), (ggName 5), (ggName 6)]) (f := gsCons (gsSet 7 (gFrz (gCompG (srcL (gVar 6)) (ggName 0) (gT (gBin (oInG false) (gVar 0) (gVar 1))) (gBin oIx (gVar 1) (gVar 0)) 1 [2])))
  (gsIf (gTru (gVar 7))
    (gsPut (gFrz (gBin oAdd (gVar 4) (gOp oMin (gaCons (gVar 7) gaNil)))) (gVar 2) (gVar 3))
    gsNil)) beltD (fun pre Γ => ∃ a3 a4 a5 a6 a7, Γ = [some (.frz (houseD h)), some (fS cart), some (.dct (kvO (begL cart pre.reverse))), a3, a4, a5, a6, a7]) h.belts.reverse [] [some (.frz (houseD h)), some (fS cart), some (.dct (kvO (begL cart []))), none, none, none, none, none] ⟨_, _, _, _, _, rfl⟩ (by
      rintro q x post Γ eq ⟨a3, a4, a5, a6, a7, rfl⟩
      rw [List.nil_append]
      have eb : h.belts = post.reverse ++ x :: q.reverse := by
        have := congrArg List.reverse eq
        rw [List.reverse_reverse, List.reverse_append, List.reverse_cons, List.append_assoc] at this
        exact this
      have hx : x ∈ h.belts := by rw [eb]; simp
      have hq : q.reverse.length ≤ 100 := by have := congrArg List.length eb; simp at this; simp; omega
      have fx : Fwd h.carts (x :: q.reverse) := fwd_suffix (by rw [← eb]; exact f)
      have hl := begL_len cart q.reverse
      have hox := ol x hx
      obtain ⟨Γ2, ⟨a, rfl⟩, ec⟩ := comp_gen (g := ggName 0) (ct := gT (gBin (oInG false) (gVar 0) (gVar 1))) (ce := gBin oIx (gVar 1) (gVar 0)) (fun Γ => ∃ a, Γ = [a, some (.dct (kvO (begL cart q.reverse)))]) D.str (fun o => (atS (begL cart q.reverse) o).isSome) (fun o => .int ((atS (begL cart q.reverse) o).getD 0)) x.outs [] [none, some (.dct (kvO (begL cart q.reverse)))] ⟨_, rfl⟩ (by rw [List.length_nil]; omega) (by
        rintro o ho Γ ⟨a, rfl⟩
        refine ⟨[some (fS o), some (.dct (kvO (begL cart q.reverse)))], ?_, _, rfl⟩
        cases e : atS (begL cart q.reverse) o with
        | none =>
          rw [Option.isSome_none, if_neg Bool.false_ne_true]
          simp only [ev_cstep, ev_name, List.length_cons, List.length_nil, Nat.zero_add, Nat.reduceAdd, Nat.reduceLT, List.set_cons_zero, if_true, ↓evBind, ev_T, ev_op, ev_aCons, ev_var, List.getElem?_cons_zero, List.getElem?_cons_succ, ev_aNil, ev_see1, ev_seeO, ev_seeV, Option.join_some, ev_see0, in_kv, Bool.false_eq_true, e, Option.isSome_none, if_false, ev_ix]
        | some v =>
          have ei := ix_kv _ _ e
          rw [Option.isSome_some, if_pos rfl]
          simp only [ev_cstep, ev_name, List.length_cons, List.length_nil, Nat.zero_add, Nat.reduceAdd, Nat.reduceLT, List.set_cons_zero, if_true, ↓evBind, ev_T, ev_op, ev_aCons, ev_var, List.getElem?_cons_zero, List.getElem?_cons_succ, ev_aNil, ev_see1, ev_seeO, ev_seeV, Option.join_some, ev_see0, in_kv, Bool.false_eq_true, e, Option.isSome_some, if_false, ev_ix, ei, Option.getD_some])
      rw [List.map_nil, List.nil_append, show (x.outs.filter fun o => (atS (begL cart q.reverse) o).isSome).map (fun o => D.int ((atS (begL cart q.reverse) o).getD 0)) = (behL (begL cart q.reverse) x.outs).map .int by rw [← filter_map_get, List.map_map]; rfl] at ec
      rw [List.reverse_append, List.reverse_singleton, List.singleton_append]
      have ebg : begL cart (x :: q.reverse) = if behL (begL cart q.reverse) x.outs = [] then begL cart q.reverse else begL cart q.reverse ++ [(x.name, x.long + minL (behL (begL cart q.reverse) x.outs))] := by
        conv => lhs; unfold begL
      have hn : atS (begL cart q.reverse) x.name = none := begL_mem (fun z => fx.2.2.1 (by rw [z]; exact hc)) fx.2.1
      generalize begL cart q.reverse = kn at *
      rw [ebg]
      unfold beltD
      by_cases hb : behL kn x.outs = []
      · rw [if_pos hb]
        rw [hb] at ec
        refine ⟨_, ?_, some (.frz (.str x.name)), some (.frz (.int x.long)), some (.frz (.bl x.ring)), some (.frz (.lst (x.outs.map .str))), some (.frz (.lst [])), rfl⟩
        simp only [ev_gtup, ev_gall1, ev_name, List.length_cons, List.length_nil, Nat.zero_add, Nat.reduceAdd, Nat.reduceLT, List.set_cons_succ, List.set_cons_zero, if_true, ↓evBind, ev_gall0, ev_cons, ev_set, ev_frz, ev_comp, ev_srcL, ev_var, List.getElem?_cons_succ, List.getElem?_cons_zero, ev_d1, List.replicate_succ, List.replicate_zero, ev_capI1, Option.join_some, ev_capI0, List.cons_append, List.nil_append, ec, List.map_nil, List.drop_succ_cons, List.drop_zero, ev_capO1, ev_capO0, ev_d2, ev_dl0, ev_ifS, ev_tru, ev_seeO, ev_truL, List.isEmpty_nil, Bool.not_true, Bool.false_eq_true, ev_put, ev_op, ev_aCons, ev_aNil, ev_see1, ev_see0, ev_nil, if_false]
      · rw [if_neg hb]
        have em := ev_min _ hb
        have ep := put_kv kn x.name (x.long + minL (behL kn x.outs)) hn (by omega)
        have ee : (behL kn x.outs).isEmpty = false := by
          cases e : behL kn x.outs with
          | nil => exact absurd e hb
          | cons _ _ => rfl
        refine ⟨_, ?_, some (.frz (.str x.name)), some (.frz (.int x.long)), some (.frz (.bl x.ring)), some (.frz (.lst (x.outs.map .str))), some (.frz (.lst ((behL kn x.outs).map .int))), rfl⟩
        simp only [ev_gtup, ev_gall1, ev_name, List.length_cons, List.length_nil, Nat.zero_add, Nat.reduceAdd, Nat.reduceLT, List.set_cons_succ, List.set_cons_zero, if_true, ↓evBind, ev_gall0, ev_cons, ev_set, ev_frz, ev_comp, ev_srcL, ev_var, List.getElem?_cons_succ, List.getElem?_cons_zero, ev_d1, List.replicate_succ, List.replicate_zero, ev_capI1, Option.join_some, ev_capI0, List.cons_append, List.nil_append, ec, List.drop_succ_cons, List.drop_zero, ev_capO1, ev_capO0, ev_d2, ev_dl2, ev_ifS, ev_tru, ev_seeO, ev_truL, List.isEmpty_map, ee, Bool.not_false, ev_put, ev_op, ev_aCons, ev_aNil, ev_see1, ev_see0, em, ev_addI, ep, ev_nil])
  rw [List.nil_append, List.reverse_reverse, List.map_reverse] at e
  unfold M_begins m_begins
  have k1 : keyD (.str cart) = some (.inr cart) := rfl
  have k2 : O.dct [(TK.inr cart, O.frz (D.int 0))] = .dct (kvO (begL cart [])) := rfl
  simp only [ev_run, List.map_cons, List.map_nil, List.length_cons, List.length_nil, Nat.zero_add, Nat.reduceAdd, Nat.reduceSub, List.replicate_succ, List.replicate_zero, List.cons_append, List.nil_append, ev_cons, ev_set, ev_dict1, ev_var, List.getElem?_cons_succ, List.getElem?_cons_zero, ↓evBind, ev_c, k1, ↓evMap, k2, Nat.reduceLT, List.set_cons_succ, List.set_cons_zero, if_true, ev_forR, ev_frz, ev_op, ev_aCons, ev_aNil, ev_see1, ev_seeO, ev_see0, ev_ix, xh0, ev_d1, e, ev_ret, ev_move, ev_vr, List.take_succ_cons, List.take_zero, ev_kf, ev_kn]
end Carry
set_option Elab.async false
set_option linter.all false
set_option maxRecDepth 100000
set_option maxHeartbeats 4000000
namespace Carry
open PySem L2
theorem fwd_outs {carts : List Str} : ∀ {bs : List Belt}, Fwd carts bs → ∀ b ∈ bs, ∀ o ∈ b.outs, o ∈ bs.map Belt.name ∨ o ∈ carts
  | x :: bs, f, b, hb, o, ho => by
    rcases List.mem_cons.mp hb with rfl | hb
    · rcases f.1 o ho with z | z
      · exact .inl (.tail _ z)
      · exact .inr z
    · rcases fwd_outs f.2.2.2 b hb o ho with z | z
      · exact .inl (.tail _ z)
      · exact .inr z
theorem begL_stable {cart : Str} {x : Belt} {bs : List Belt} {n : Str} (h : n ≠ x.name) : atS (begL cart (x :: bs)) n = atS (begL cart bs) n := by
  conv => lhs; unfold begL
  split
  · rfl
  · rw [atS_snoc, if_neg (fun z => h z.symm), Option.or_none]
theorem behL_congr {kn kn' : List (Str × Int)} {outs : List Str} (h : ∀ o ∈ outs, atS kn o = atS kn' o) : behL kn outs = behL kn' outs := by
  unfold behL
  induction outs with
  | nil => rfl
  | cons o outs ih =>
    have := ih fun z hz => h z (.tail _ hz)
    rw [List.filterMap_cons, List.filterMap_cons, h o (.head _), this]
theorem bg_belt {carts : List Str} {cart : Str} (hc : cart ∈ carts) : ∀ {bs : List Belt}, Fwd carts bs → ∀ b ∈ bs, atS (begL cart bs) b.name = if behL (begL cart bs) b.outs = [] then none else some (b.long + minL (behL (begL cart bs) b.outs))
  | x :: bs, f, b, hb => by
    rcases List.mem_cons.mp hb with rfl | hb
    · have ho : ∀ o ∈ b.outs, o ≠ b.name := fun o ho z => by
        rcases f.1 o ho with y | y
        · exact f.2.1 (by rw [← z]; exact y)
        · exact f.2.2.1 (by rw [← z]; exact y)
      have e := behL_congr (kn := begL cart (b :: bs)) (kn' := begL cart bs) (outs := b.outs) fun o m => begL_stable (ho o m)
      rw [e]
      conv => lhs; unfold begL
      have hn : atS (begL cart bs) b.name = none := begL_mem (fun z => f.2.2.1 (by rw [z]; exact hc)) f.2.1
      split
      · exact hn
      · rw [atS_snoc, hn, if_pos rfl]; rfl
    · have hn : b.name ≠ x.name := fun z => f.2.1 (by rw [← z]; exact List.mem_map_of_mem (f := Belt.name) hb)
      have ho : ∀ o ∈ b.outs, o ≠ x.name := fun o ho z => by
        rcases fwd_outs f.2.2.2 b hb o ho with y | y
        · exact f.2.1 (by rw [← z]; exact y)
        · exact f.2.2.1 (by rw [← z]; exact y)
      have e := behL_congr (kn := begL cart (x :: bs)) (kn' := begL cart bs) (outs := b.outs) fun o m => begL_stable (ho o m)
      rw [e, begL_stable hn]
      exact bg_belt hc f.2.2.2 b hb
theorem bg_cart {carts : List Str} {cart : Str} (hc : cart ∈ carts) : ∀ {bs : List Belt}, Fwd carts bs → atS (begL cart bs) cart = some 0
  | [], _ => by show atS [(cart, 0)] cart = some 0; rw [atS_cons, if_pos rfl]
  | x :: bs, f => by rw [begL_stable (fun z => f.2.2.1 (by rw [← z]; exact hc))]; exact bg_cart hc f.2.2.2
theorem bg_other {carts : List Str} {cart c : Str} {bs : List Belt} (f : Fwd carts bs) (hc : c ∈ carts) (h : c ≠ cart) : atS (begL cart bs) c = none := begL_mem h (fwd_carts f c hc)
def farD (h : House) (cart n : Str) (c : Int) : D := match atS (begL cart h.belts) n with
  | none => .non
  | some v => .int (v - c)
theorem x_far {st : Int} (h : House) (g : GoodH st h) (cart n : Str) (c : Int) (hc : cart ∈ h.carts) : M_far [.frz (houseD h), .frz (.tup [.str n, .int c]), fS cart] = some (.frz (farD h cart n c), [none, none, none]) := by
  have e1 := x_begins h cart g.fwd hc g.sm.bl g.ol
  unfold M_far m_far farD
  cases e : atS (begL cart h.belts) n with
  | none => simp only [ev_run, List.map_cons, List.map_nil, List.length_cons, List.length_nil, Nat.zero_add, Nat.reduceAdd, Nat.reduceSub, List.replicate_succ, List.replicate_zero, List.cons_append, List.nil_append, ev_cons, ev_set, ev_frz, ev_call, ev_aCons, ev_var, List.getElem?_cons_zero, ↓evBind, List.getElem?_cons_succ, ev_aNil, ev_take1, ev_take0, e1, ev_pb1, ev_pb0, d_kv, Nat.reduceLT, List.set_cons_succ, List.set_cons_zero, if_true, ev_ifS, ev_T, ev_op, ev_c, ev_see1, ev_seeO, ev_see0, ev_ix, ev_ixT, atI_lit0, ↓evMap, in_kvF, e, Option.isSome_none, Bool.not_false, ev_ret, ev_nil, ev_vr, List.take_succ_cons, List.take_zero, ev_kf, ev_kn]
  | some v =>
    have ei := ix_kvF _ _ e
    simp only [ev_run, List.map_cons, List.map_nil, List.length_cons, List.length_nil, Nat.zero_add, Nat.reduceAdd, Nat.reduceSub, List.replicate_succ, List.replicate_zero, List.cons_append, List.nil_append, ev_cons, ev_set, ev_frz, ev_call, ev_aCons, ev_var, List.getElem?_cons_zero, ↓evBind, List.getElem?_cons_succ, ev_aNil, ev_take1, ev_take0, e1, ev_pb1, ev_pb0, d_kv, Nat.reduceLT, List.set_cons_succ, List.set_cons_zero, if_true, ev_ifS, ev_T, ev_op, ev_c, ev_see1, ev_seeO, ev_see0, ev_ix, ev_ixT, atI_lit0, ↓evMap, in_kvF, e, Option.isSome_some, Bool.not_true, Bool.false_eq_true, ev_ret, ev_nil, if_false, ei, atI_lit1, ev_int, ev_vr, List.take_succ_cons, List.take_zero, ev_kf, ev_kn]
def armStep (kn : List (Str × Int)) (best : Option Str) (o : Str) : Option Str := match atS kn o with
  | none => best
  | some v => match best with
    | none => some o
    | some p => if v < (atS kn p).getD 0 then some o else best
def armL (kn : List (Str × Int)) (outs : List Str) : Option Str := outs.foldl (armStep kn) none
def optS : Option Str → D
  | none => .non
  | some x => .str x
def bestOk (kn : List (Str × Int)) (best : Option Str) : Prop := ∀ p, best = some p → ∃ v, atS kn p = some v
theorem armStep_ok {kn : List (Str × Int)} {best : Option Str} (h : bestOk kn best) (o : Str) : bestOk kn (armStep kn best o) := by
  intro p e
  unfold armStep at e
  cases q : atS kn o with
  | none => rw [q] at e; exact h p e
  | some v =>
    rw [q] at e
    dsimp only at e
    cases best with
    | none => cases e; exact ⟨v, q⟩
    | some p' =>
      dsimp only at e
      split at e
      · cases e; exact ⟨v, q⟩
      · exact h p e
theorem armF_ok {kn : List (Str × Int)} : ∀ {outs : List Str} {best : Option Str}, bestOk kn best → bestOk kn (outs.foldl (armStep kn) best)
  | [], _, h => h
  | o :: outs, best, h => armF_ok (outs := outs) (armStep_ok h o)
theorem arm_spec {kn : List (Str × Int)} : ∀ {outs : List Str} {best : Option Str}, bestOk kn best →
    (outs.foldl (armStep kn) best = none ↔ best = none ∧ behL kn outs = []) ∧
    ∀ a, outs.foldl (armStep kn) best = some a → (best = some a ∨ a ∈ outs) ∧ ∃ v, atS kn a = some v ∧ (∀ o ∈ outs, ∀ w, atS kn o = some w → v ≤ w) ∧ ∀ p w, best = some p → atS kn p = some w → v ≤ w
  | [], best, h => by
    refine ⟨⟨fun e => ⟨e, rfl⟩, fun e => e.1⟩, fun a e => ?_⟩
    obtain ⟨v, hv⟩ := h a e
    refine ⟨.inl e, v, hv, fun o m => (by cases m), fun p w e1 e2 => ?_⟩
    have e : best = some a := e
    rw [e] at e1
    cases e1
    rw [hv] at e2
    cases e2
    exact Int.le_refl _
  | o :: outs, best, h => by
    obtain ⟨i1, i2⟩ := arm_spec (outs := outs) (armStep_ok h o)
    rw [List.foldl_cons]
    constructor
    · rw [i1]
      unfold armStep behL
      cases q : atS kn o with
      | none => rw [List.filterMap_cons_none q]
      | some v =>
        rw [List.filterMap_cons_some q]
        constructor
        · rintro ⟨e, _⟩
          exfalso
          cases best with
          | none => cases e
          | some p => dsimp only at e; split at e <;> cases e
        · rintro ⟨_, e⟩
          cases e
    · intro a e
      obtain ⟨j1, v, j2, j3, j4⟩ := i2 a e
      cases q : atS kn o with
      | none =>
        have es : armStep kn best o = best := by unfold armStep; rw [q]
        rw [es] at j1 j4
        refine ⟨?_, v, j2, fun o' m w e' => ?_, j4⟩
        · rcases j1 with z | z
          · exact .inl z
          · exact .inr (.tail _ z)
        · rcases List.mem_cons.mp m with rfl | m
          · rw [q] at e'; cases e'
          · exact j3 o' m w e'
      | some u =>
        cases best with
        | none =>
          have es : armStep kn none o = some o := by unfold armStep; rw [q]
          rw [es] at j1 j4
          refine ⟨.inr ?_, v, j2, fun o' m w e' => ?_, fun p w e' => (by cases e')⟩
          · rcases j1 with z | z
            · cases z; exact .head _
            · exact .tail _ z
          · rcases List.mem_cons.mp m with rfl | m
            · rw [q] at e'; cases e'; exact j4 o' u rfl q
            · exact j3 o' m w e'
        | some p =>
          obtain ⟨pv, hp⟩ := h p rfl
          by_cases hlt : u < pv
          · have es : armStep kn (some p) o = some o := by unfold armStep; rw [q]; dsimp only; rw [hp, Option.getD_some, if_pos hlt]
            rw [es] at j1 j4
            refine ⟨.inr ?_, v, j2, fun o' m w e' => ?_, fun p' w e1 e2 => ?_⟩
            · rcases j1 with z | z
              · cases z; exact .head _
              · exact .tail _ z
            · rcases List.mem_cons.mp m with rfl | m
              · rw [q] at e'; cases e'; exact j4 o' u rfl q
              · exact j3 o' m w e'
            · cases e1
              rw [hp] at e2
              cases e2
              have := j4 o u rfl q
              omega
          · have es : armStep kn (some p) o = some p := by unfold armStep; rw [q]; dsimp only; rw [hp, Option.getD_some, if_neg hlt]
            rw [es] at j1 j4
            refine ⟨?_, v, j2, fun o' m w e' => ?_, j4⟩
            · rcases j1 with z | z
              · exact .inl z
              · exact .inr (.tail _ z)
            · rcases List.mem_cons.mp m with rfl | m
              · rw [q] at e'
                cases e'
                have := j4 p pv rfl hp
                omega
              · exact j3 o' m w e'
theorem mem_behL {kn : List (Str × Int)} {outs : List Str} {v : Int} : v ∈ behL kn outs ↔ ∃ o ∈ outs, atS kn o = some v := List.mem_filterMap
theorem armL_none {kn : List (Str × Int)} {outs : List Str} : armL kn outs = none ↔ behL kn outs = [] := by
  have := (arm_spec (kn := kn) (outs := outs) (best := none) (fun p e => by cases e)).1
  unfold armL
  rw [this]
  exact ⟨fun z => z.2, fun z => ⟨rfl, z⟩⟩
theorem armL_some {kn : List (Str × Int)} {outs : List Str} {a : Str} (e : armL kn outs = some a) : a ∈ outs ∧ atS kn a = some (minL (behL kn outs)) := by
  obtain ⟨j1, v, j2, j3, _⟩ := (arm_spec (kn := kn) (outs := outs) (best := none) (fun p e => by cases e)).2 a e
  have ha : a ∈ outs := by
    rcases j1 with z | z
    · cases z
    · exact z
  have hne : behL kn outs ≠ [] := fun z => by rw [armL_none.mpr z] at e; cases e
  obtain ⟨m1, m2⟩ := minL_spec hne
  obtain ⟨o, ho, eo⟩ := mem_behL.mp m1
  have c1 := j3 o ho _ eo
  have c2 := m2 v (mem_behL.mpr ⟨a, ha, j2⟩)
  exact ⟨ha, by rw [j2, show v = minL (behL kn outs) by omega]⟩
def optI : Option Int → D
  | none => .non
  | some x => .int x
theorem farD_opt (h : House) (cart n : Str) (c : Int) : farD h cart n c = optI ((atS (begL cart h.belts) n).map fun v => v - c) := by
  unfold farD
  cases atS (begL cart h.belts) n <;> rfl
theorem flat_opt (p : Option Int) : ∃ v, flatOf (optI p) = some v := by cases p <;> exact ⟨_, rfl⟩
end Carry
set_option Elab.async false
set_option linter.all false
set_option maxRecDepth 100000
set_option maxHeartbeats 4000000
namespace Carry
open PySem L2
/-! spots: a belt and a cell, or a cart and 0 -/
abbrev Sp := Str × Int
def spD (s : Sp) : D := .tup [.str s.1, .int s.2]
def spK (s : Sp) : TK := .tp [.inr s.1, .inl s.2]
theorem key_sp (s : Sp) : keyD (spD s) = some (spK s) := by
  unfold spD spK
  simp [keyD, tkDs, tkD, TK.ok]
theorem spK_inj {a b : Sp} (e : spK a = spK b) : a = b := by
  unfold spK at e
  injection e with e
  injection e with e1 e2
  injection e1 with e1
  injection e2 with e2 _
  injection e2 with e2
  exact Prod.ext e1 e2
theorem spK_dec (a b : Sp) : decide (spK a = spK b) = (a == b) := by
  by_cases e : a = b
  · rw [decide_eq_true (by rw [e]), e, beq_self_eq_true]
  · rw [decide_eq_false (fun z => e (spK_inj z)), show (a == b) = false by rw [beq_eq_false_iff_ne]; exact e]
def kpO (kn : List (Sp × Int)) : List (TK × O) := kn.map fun p => (spK p.1, .frz (.int p.2))
def kpD (kn : List (Sp × Int)) : List (TK × D) := kn.map fun p => (spK p.1, .int p.2)
def atP (kn : List (Sp × Int)) (n : Sp) : Option Int := (kn.find? fun p => p.1 == n).map (·.2)
theorem dk_kp : ∀ kn : List (Sp × Int), O.dk (kpO kn) = kpD kn
  | [] => rfl
  | k :: ks => by
    show (_, _) :: O.dk (kpO ks) = _
    rw [dk_kp ks]; rfl
theorem atP_nil (x : Sp) : atP [] x = none := rfl
theorem atP_cons (k : Sp) (v : Int) (kn : List (Sp × Int)) (x : Sp) : atP ((k, v) :: kn) x = if k = x then some v else atP kn x := by
  unfold atP
  rw [List.find?_cons]
  by_cases e : k = x
  · rw [if_pos e, show (k == x) = true by rw [e, beq_self_eq_true]]; rfl
  · rw [if_neg e, show (k == x) = false by rw [beq_eq_false_iff_ne]; exact e]
theorem atP_snoc (k : Sp) (v : Int) (x : Sp) : ∀ kn : List (Sp × Int), atP (kn ++ [(k, v)]) x = (atP kn x).or (if k = x then some v else none)
  | [] => by rw [List.nil_append, atP_cons, atP_nil, Option.none_or]
  | (k', v') :: kn => by
    rw [List.cons_append, atP_cons, atP_cons, atP_snoc k v x kn]
    split
    · rfl
    · rfl
theorem valD_kp (x : Sp) : ∀ kn : List (Sp × Int), valD (kpD kn) (spK x) = (atP kn x).map .int
  | [] => rfl
  | (k, v) :: kn => by
    have ih := valD_kp x kn
    rw [atP_cons]
    unfold valD kpD at *
    rw [List.map_cons, List.find?_cons]
    dsimp only
    rw [spK_dec]
    by_cases e : k = x
    · rw [if_pos e, show (k == x) = true by rw [e, beq_self_eq_true]]; rfl
    · rw [if_neg e, show (k == x) = false by rw [beq_eq_false_iff_ne]; exact e]; exact ih
theorem in_kp (neg : Bool) (x : Sp) (kn : List (Sp × Int)) : oInG neg [.frz (spD x), .dct (kpO kn)] = some (.frz (.bl (if neg then !(atP kn x).isSome else (atP kn x).isSome))) := by
  unfold oInG
  simp only [dictO, dk_kp, key_sp, Option.bind_some, valD_kp, Option.isSome_map]
theorem get_kp (x : Sp) (kn : List (Sp × Int)) : oGet1 [.frz (.dct (kpD kn)), .frz (spD x)] = some (.frz (optI (atP kn x))) := by
  rw [ev_get1, key_sp, Option.map_some, valD_kp]
  cases atP kn x <;> rfl
theorem putG_kp : ∀ (kn : List (Sp × Int)) (k : Sp) (v : Int), atP kn k = none → putG (kpO kn) (spK k) (.frz (.int v)) = kpO (kn ++ [(k, v)])
  | [], _, _, _ => rfl
  | (k', v') :: kn, k, v, h => by
    rw [atP_cons] at h
    have e : ¬ k' = k := fun z => by rw [if_pos z] at h; cases h
    rw [if_neg e] at h
    show putG ((spK k', O.frz (.int v')) :: kpO kn) (spK k) (.frz (.int v)) = (spK k', O.frz (.int v')) :: kpO (kn ++ [(k, v)])
    rw [← putG_kp kn k v h, putG_cons, if_neg (fun z => e (spK_inj z))]
theorem put_kp (kn : List (Sp × Int)) (k : Sp) (v : Int) (h : atP kn k = none) (hl : kn.length < 1000000) : mSet (.dct (kpO kn)) [.frz (.int v), .frz (spD k)] = some (.dct (kpO (kn ++ [(k, v)])), .frz .non) := by
  show ((keyD (spD k)).bind fun k => if (kpO kn).length < 1000000 then some (O.dct (putG (kpO kn) k (.frz (.int v))), O.frz D.non) else none) = _
  rw [key_sp, Option.bind_some, if_pos (by unfold kpO; rw [List.length_map]; exact hl), putG_kp kn k v h]
theorem d_kp (kn : List (Sp × Int)) : (O.dct (kpO kn)).d = .dct (kpD kn) := by show D.dct (O.dk (kpO kn)) = _; rw [dk_kp]
/-! where one may go, by the law -/
def lastA (b : Belt) : List Sp := b.outs.map (fun o => (o, 0)) ++ if b.ring = true then [(b.name, 0)] else []
def aft1 (s : Sp) (b : Belt) : List Sp := if b.name = s.1 then (if s.2 + 1 < b.long then [(b.name, s.2 + 1)] else lastA b) else []
def afterM (bs : List Belt) (s : Sp) : List Sp := (bs.map (aft1 s)).flatten
theorem mem_after {bs : List Belt} {s x : Sp} : x ∈ afterM bs s ↔ ∃ b ∈ bs, x ∈ aft1 s b := by
  unfold afterM
  rw [List.mem_flatten]
  constructor
  · rintro ⟨l, h1, h2⟩
    obtain ⟨b, h3, rfl⟩ := List.mem_map.mp h1
    exact ⟨b, h3, h2⟩
  · rintro ⟨b, h1, h2⟩
    exact ⟨_, List.mem_map.mpr ⟨b, h1, rfl⟩, h2⟩
theorem spots_frz (as : List Sp) : (as.map spD).map O.frz = as.map fun a => .frz (spD a) := by rw [List.map_map]; rfl
abbrev spL (as : List Sp) : O := .lst ((as.map spD).map .frz)
theorem app_sp (as : List Sp) (a : Sp) (h : as.length < 1000000) : mAppend (spL as) [.frz (spD a)] = some (spL (as ++ [a]), .frz .non) := by
  show mAppend (.lst ((as.map spD).map .frz)) [.frz (spD a)] = _
  rw [ev_app, if_pos (by rw [List.length_map]; exact h)]
  unfold spL
  rw [show (as ++ [a]).map spD = as.map spD ++ [spD a] by simp]
def outA : GS := gsDrop (gMut mAppend (gVar 2) (gaCons (gFrz (gSeq .tup (gaCons (gVar 4) (gaCons (gC (.int 0)) gaNil)))) gaNil))
theorem out_step (s0 s1 s3 a4 : Option O) (as : List Sp) (o : Str) (h : as.length < 1000000) : (ggName 4 (.str o) [s0, s1, some (spL as), s3, a4]).bind outA = some (.nx, [s0, s1, some (spL (as ++ [(o, 0)])), s3, some (fS o)]) := by
  have e := app_sp as (o, 0) h
  unfold spD at e
  unfold outA
  simp only [ev_name, List.length_cons, List.length_nil, Nat.zero_add, Nat.reduceAdd, Nat.reduceLT, List.set_cons_succ, List.set_cons_zero, if_true, ↓evBind, ev_drop, ev_mut, ev_var, List.getElem?_cons_succ, List.getElem?_cons_zero, ev_aCons, ev_frz, ev_seq, ev_c, ev_aNil, Nat.reduceLeDiff, ev_own1, ev_own0, ev_d3, ev_dl1, ev_d1, ev_dl0, e]
def belA : GS := (gsIf (gAndT (gT (gBin oEq (gBin oIx (gVar 3) (gC (.int 0))) (gBin oIx (gVar 1) (gC (.int 0))))) (gT (gBin oLt (gBin oAdd (gBin oIx (gVar 1) (gC (.int 1))) (gC (.int 1))) (gBin oIx (gVar 3) (gC (.int 1))))))
    (gsDrop (gMut mAppend (gVar 2) (gaCons (gFrz (gSeq .tup (gaCons (gBin oIx (gVar 3) (gC (.int 0))) (gaCons (gFrz (gBin oAdd (gBin oIx (gVar 1) (gC (.int 1))) (gC (.int 1)))) gaNil)))) gaNil)))
    (gsIf (gT (gBin oEq (gBin oIx (gVar 3) (gC (.int 0))) (gBin oIx (gVar 1) (gC (.int 0)))))
    (gsCons (gsFor (gBin oIx (gVar 3) (gC (.int 3))) (ggName 4) outA)
  (gsIf (gTru (gBin oIx (gVar 3) (gC (.int 2))))
    (gsDrop (gMut mAppend (gVar 2) (gaCons (gFrz (gSeq .tup (gaCons (gBin oIx (gVar 3) (gC (.int 0))) (gaCons (gC (.int 0)) gaNil)))) gaNil)))
    gsNil))
    gsNil))
theorem xs0 (s : Sp) : oIx1 (.frz (spD s)) (.int 0) = some (.frz (.str s.1)) := by unfold spD; simp only [ev_ixT, atI_lit0, Option.map_some]
theorem xs1 (s : Sp) : oIx1 (.frz (spD s)) (.int 1) = some (.frz (.int s.2)) := by unfold spD; simp only [ev_ixT, atI_lit1, Option.map_some]
theorem bel_step (s0 a3 a4 : Option O) (as : List Sp) (s : Sp) (b : Belt) (ol : b.outs.length ≤ 24) (h : as.length + 30 < 1000000) : ∃ a4', (ggName 3 (beltD b) [s0, some (.frz (spD s)), some (spL as), a3, a4]).bind belA =
    some (.nx, [s0, some (.frz (spD s)), some (spL (as ++ aft1 s b)), some (fB b), a4']) := by
  unfold aft1
  by_cases e1 : b.name = s.1
  · have e1' : (b.name == s.1) = true := by rw [e1, beq_self_eq_true]
    rw [if_pos e1]
    by_cases e2 : s.2 + 1 < b.long
    · rw [if_pos e2]
      have e := app_sp as (b.name, s.2 + 1) (by omega)
      unfold spD at e
      refine ⟨a4, ?_⟩
      unfold belA
      have e2' : decide (s.2 + 1 < b.long) = true := decide_eq_true e2
      generalize hsd : spD s = sd at *
      have q0 : oIx1 (.frz sd) (.int 0) = some (.frz (.str s.1)) := by rw [← hsd]; exact xs0 s
      have q1 : oIx1 (.frz sd) (.int 1) = some (.frz (.int s.2)) := by rw [← hsd]; exact xs1 s
      simp only [ev_name, List.length_cons, List.length_nil, Nat.zero_add, Nat.reduceAdd, Nat.reduceLT, List.set_cons_succ, List.set_cons_zero, if_true, ↓evBind, ev_ifS, ev_andT, ev_T, ev_op, ev_aCons, ev_var, List.getElem?_cons_succ, List.getElem?_cons_zero, ev_c, ev_aNil, ev_see1, ev_seeO, ev_see0, ev_ix, xb0, q0, ev_eq, ev_d1, ev_ok_s, and_self, ev_q_s, e1', q1, ev_addI, xb1, ev_int, e2', ev_drop, ev_mut, ev_frz, ev_seq, Nat.reduceLeDiff, ev_own1, ev_own0, ev_d3, ev_dl1, ev_dl0, e, ev_cons, ev_for, ev_nil]
    · rw [if_neg e2]
      obtain ⟨Γ', el, a4', rfl⟩ := loop_gen (g := ggName 4) (f := outA) D.str (fun pre Γ => ∃ a4, Γ = [s0, some (.frz (spD s)), some (spL (as ++ pre.map fun o => (o, 0))), some (fB b), a4]) b.outs [] [s0, some (.frz (spD s)), some (spL as), some (fB b), a4] ⟨a4, by simp⟩ (by
        rintro q x post Γ ex ⟨a, rfl⟩
        have hq : q.length ≤ 24 := by have := congrArg List.length ex; simp at this; omega
        refine ⟨_, out_step _ _ _ _ _ x (by simp; omega), some (fS x), ?_⟩
        simp)
      unfold lastA
      rw [List.nil_append] at *
      refine ⟨a4', ?_⟩
      unfold belA
      have e2' : decide (s.2 + 1 < b.long) = false := decide_eq_false e2
      generalize hsd : spD s = sd at *
      have q0 : oIx1 (.frz sd) (.int 0) = some (.frz (.str s.1)) := by rw [← hsd]; exact xs0 s
      have q1 : oIx1 (.frz sd) (.int 1) = some (.frz (.int s.2)) := by rw [← hsd]; exact xs1 s
      by_cases hr : b.ring = true
      · rw [if_pos hr]
        have e := app_sp (as ++ b.outs.map fun o => (o, 0)) (b.name, 0) (by simp; omega)
        unfold spD at e
        rw [List.append_assoc] at e
        simp only [ev_name, List.length_cons, List.length_nil, Nat.zero_add, Nat.reduceAdd, Nat.reduceLT, List.set_cons_succ, List.set_cons_zero, if_true, ↓evBind, ev_ifS, ev_andT, ev_T, ev_op, ev_aCons, ev_var, List.getElem?_cons_succ, List.getElem?_cons_zero, ev_c, ev_aNil, ev_see1, ev_seeO, ev_see0, ev_ix, xb0, q0, ev_eq, ev_d1, ev_ok_s, and_self, ev_q_s, e1', q1, ev_addI, xb1, ev_int, e2', Bool.false_eq_true, ev_drop, ev_mut, ev_frz, ev_seq, Nat.reduceLeDiff, ev_own1, ev_own0, ev_d3, ev_dl1, ev_dl0, ev_app, ev_cons, ev_for, xb3, el, ev_tru, xb2, hr, ev_truB, e, ev_nil, if_false]
      · rw [if_neg hr, List.append_nil]
        rw [Bool.not_eq_true] at hr
        simp only [ev_name, List.length_cons, List.length_nil, Nat.zero_add, Nat.reduceAdd, Nat.reduceLT, List.set_cons_succ, List.set_cons_zero, if_true, ↓evBind, ev_ifS, ev_andT, ev_T, ev_op, ev_aCons, ev_var, List.getElem?_cons_succ, List.getElem?_cons_zero, ev_c, ev_aNil, ev_see1, ev_seeO, ev_see0, ev_ix, xb0, q0, ev_eq, ev_d1, ev_ok_s, and_self, ev_q_s, e1', q1, ev_addI, xb1, ev_int, e2', Bool.false_eq_true, ev_drop, ev_mut, ev_frz, ev_seq, Nat.reduceLeDiff, ev_own1, ev_own0, ev_d3, ev_dl1, ev_dl0, ev_app, ev_cons, ev_for, xb3, el, ev_tru, xb2, hr, ev_truB, ev_nil, if_false]
  · rw [if_neg e1, List.append_nil]
    have e1' : (b.name == s.1) = false := by rw [beq_eq_false_iff_ne]; exact e1
    refine ⟨a4, ?_⟩
    unfold belA
    generalize hsd : spD s = sd at *
    have q0 : oIx1 (.frz sd) (.int 0) = some (.frz (.str s.1)) := by rw [← hsd]; exact xs0 s
    simp only [ev_name, List.length_cons, List.length_nil, Nat.zero_add, Nat.reduceAdd, Nat.reduceLT, List.set_cons_succ, List.set_cons_zero, if_true, ↓evBind, ev_ifS, ev_andT, ev_T, ev_op, ev_aCons, ev_var, List.getElem?_cons_succ, List.getElem?_cons_zero, ev_c, ev_aNil, ev_see1, ev_seeO, ev_see0, ev_ix, xb0, q0, ev_eq, ev_d1, ev_ok_s, and_self, ev_q_s, e1', Bool.false_eq_true, if_false, ev_drop, ev_mut, ev_frz, ev_seq, ev_cons, ev_for, ev_nil]
theorem flat_len {s : Sp} : ∀ {bs : List Belt}, (∀ b ∈ bs, b.outs.length ≤ 24) → (afterM bs s).length ≤ 26 * bs.length
  | [], _ => by simp [afterM]
  | b :: bs, h => by
    have ih := flat_len (s := s) (bs := bs) fun x m => h x (.tail _ m)
    have hb := h b (.head _)
    have h1 : (aft1 s b).length ≤ 26 := by
      unfold aft1 lastA
      split
      · split
        · simp
        · split <;> simp <;> omega
      · simp
    unfold afterM at *
    rw [List.map_cons, List.flatten_cons, List.length_append, List.length_cons]
    omega
theorem x_after (h : House) (s : Sp) (bl : h.belts.length ≤ 100) (ol : ∀ b ∈ h.belts, b.outs.length ≤ 24) : M_l_after [.frz (houseD h), .frz (spD s)] = some (spL (afterM h.belts s), [none, none]) := by
  obtain ⟨Γ', el, a3, a4, rfl⟩ := loop_gen (g := ggName 3) (f := belA) beltD (fun pre Γ => ∃ a3 a4, Γ = [some (.frz (houseD h)), some (.frz (spD s)), some (spL (afterM pre s)), a3, a4]) h.belts [] [some (.frz (houseD h)), some (.frz (spD s)), some (spL []), none, none] ⟨_, _, rfl⟩ (by
    rintro q x post Γ ex ⟨a3, a4, rfl⟩
    have hq : ∀ b ∈ q, b.outs.length ≤ 24 := fun b m => ol b (by rw [ex]; simp [m])
    have lq : q.length ≤ 100 := by have := congrArg List.length ex; simp at this; omega
    have fl := flat_len (s := s) hq
    obtain ⟨a4', e⟩ := bel_step (some (.frz (houseD h))) a3 a4 (afterM q s) s x (ol x (by rw [ex]; simp)) (by omega)
    refine ⟨_, e, some (fB x), a4', ?_⟩
    unfold afterM
    simp)
  rw [List.nil_append] at *
  unfold M_l_after
  have eM : m_l_after = gsCons (gsSet 2 (gSeq .lst gaNil)) (gsCons (gsFor (gBin oIx (gVar 0) (gC (.int 0))) (ggName 3) belA) (gsRet (gMove (gVar 2)))) := rfl
  rw [eM]
  have e0 : (spL [] : O) = .lst [] := rfl
  rw [e0] at el
  generalize spD s = sd at *
  simp only [ev_run, List.map_cons, List.map_nil, List.length_cons, List.length_nil, Nat.zero_add, Nat.reduceAdd, Nat.reduceSub, List.replicate_succ, List.replicate_zero, List.cons_append, List.nil_append, ev_cons, ev_set, ev_seq, ev_aNil, ↓evBind, Nat.reduceLeDiff, ev_own0, if_true, Nat.reduceLT, List.set_cons_succ, List.set_cons_zero, ev_for, ev_frz, ev_op, ev_aCons, ev_var, List.getElem?_cons_zero, ev_c, ev_see1, ev_seeO, ev_see0, ev_ix, xh0, ev_d1, el, ev_ret, ev_move, List.getElem?_cons_succ, ev_vr, List.take_succ_cons, List.take_zero, ev_kf, ev_kn]
end Carry
set_option Elab.async false
set_option linter.all false
set_option maxRecDepth 100000
set_option maxHeartbeats 4000000
namespace Carry
open PySem L2
/-! walks, and the least number of turns -/
def Wk (bs : List Belt) : Nat → Sp → Sp → Prop
  | 0, x, z => x = z
  | n + 1, x, z => ∃ y, y ∈ afterM bs x ∧ Wk bs n y z
theorem wk_snoc {bs : List Belt} : ∀ {n : Nat} {x y z : Sp}, Wk bs n x y → z ∈ afterM bs y → Wk bs (n + 1) x z
  | 0, x, y, z, h, m => ⟨z, by rw [show x = y from h]; exact m, rfl⟩
  | n + 1, x, y, z, ⟨w, h1, h2⟩, m => ⟨w, h1, wk_snoc h2 m⟩
theorem wk_unsnoc {bs : List Belt} : ∀ {n : Nat} {x z : Sp}, Wk bs (n + 1) x z → ∃ y, Wk bs n x y ∧ z ∈ afterM bs y
  | 0, x, z, ⟨w, h1, h2⟩ => ⟨x, rfl, by rw [← show w = z from h2]; exact h1⟩
  | n + 1, x, z, ⟨w, h1, h2⟩ => by
    obtain ⟨y, h3, h4⟩ := wk_unsnoc h2
    exact ⟨y, ⟨w, h1, h3⟩, h4⟩
theorem wk_split {bs : List Belt} : ∀ {m n : Nat} {x z : Sp}, Wk bs (m + n) x z → ∃ y, Wk bs m x y ∧ Wk bs n y z
  | 0, n, x, z, h => ⟨x, rfl, by rw [Nat.zero_add] at h; exact h⟩
  | m + 1, n, x, z, h => by
    rw [show m + 1 + n = (m + n) + 1 by omega] at h
    obtain ⟨w, h1, h2⟩ := h
    obtain ⟨y, h3, h4⟩ := wk_split h2
    exact ⟨y, ⟨w, h1, h3⟩, h4⟩
theorem wk_join {bs : List Belt} : ∀ {m n : Nat} {x y z : Sp}, Wk bs m x y → Wk bs n y z → Wk bs (m + n) x z
  | 0, n, x, y, z, h, g => by rw [Nat.zero_add, show x = y from h]; exact g
  | m + 1, n, x, y, z, ⟨w, h1, h2⟩, g => by
    rw [show m + 1 + n = (m + n) + 1 by omega]
    exact ⟨w, h1, wk_join h2 g⟩
/-- a spot of the house -/
def Vs (h : House) (s : Sp) : Prop := (∃ b ∈ h.belts, b.name = s.1 ∧ 0 ≤ s.2 ∧ s.2 < b.long) ∨ (s.1 ∈ h.carts ∧ s.2 = 0)
theorem after_vs {st : Int} {h : House} (g : GoodH st h) {s x : Sp} (hs : Vs h s) (hx : x ∈ afterM h.belts s) : Vs h x := by
  obtain ⟨b, hb, hx⟩ := mem_after.mp hx
  unfold aft1 at hx
  split at hx
  · rename_i e
    split at hx
    · rename_i e2
      rw [List.mem_singleton] at hx
      subst hx
      rcases hs with ⟨b', hb', e', c0, c1⟩ | ⟨c, _⟩
      · exact .inl ⟨b, hb, rfl, by show 0 ≤ s.2 + 1; omega, e2⟩
      · exact absurd (List.mem_map.mpr ⟨b, hb, e⟩) (fwd_carts g.fwd _ c)
    · unfold lastA at hx
      rcases List.mem_append.mp hx with hx | hx
      · obtain ⟨o, ho, rfl⟩ := List.mem_map.mp hx
        rcases fwd_outs g.fwd b hb o ho with z | z
        · obtain ⟨b2, h2, e2⟩ := List.mem_map.mp z
          have := (g.lg b2 h2).1
          exact .inl ⟨b2, h2, e2, by show (0 : Int) ≤ 0; omega, by show (0 : Int) < b2.long; omega⟩
        · exact .inr ⟨z, rfl⟩
      · split at hx
        · rw [List.mem_singleton] at hx
          subst hx
          have := (g.lg b hb).1
          exact .inl ⟨b, hb, rfl, by show (0 : Int) ≤ 0; omega, by show (0 : Int) < b.long; omega⟩
        · cases hx
  · cases hx
/-- how far, by the begins -/
def farS (h : House) (cart : Str) (s : Sp) : Option Int := (atS (begL cart h.belts) s.1).map fun v => v - s.2
theorem minL_le {l : List Int} {v : Int} (h : v ∈ l) : minL l ≤ v := by
  exact (minL_spec (fun z => by rw [z] at h; cases h)).2 v h
theorem far_down {st : Int} {h : House} (g : GoodH st h) {cart : Str} (hc : cart ∈ h.carts) {s y : Sp} (hs : Vs h s) (hy : y ∈ afterM h.belts s) {v : Int} (e : farS h cart y = some v) : ∃ v', farS h cart s = some v' ∧ v' ≤ v + 1 := by
  obtain ⟨b, hb, hx⟩ := mem_after.mp hy
  unfold aft1 at hx
  split at hx
  · rename_i eb
    unfold farS at *
    split at hx
    · rw [List.mem_singleton] at hx
      subst hx
      dsimp only at e
      rw [← eb]
      obtain ⟨a, e1, e2⟩ := Option.map_eq_some_iff.mp e
      refine ⟨a - s.2, by rw [e1]; rfl, ?_⟩
      have e2 : a - (s.2 + 1) = v := e2
      omega
    · rename_i e2
      have hl : s.2 + 1 = b.long := by
        rcases hs with ⟨b', hb', e', c0, c1⟩ | ⟨c, _⟩
        · have := fwd_uniq g.fwd b hb b' hb' (by rw [eb, e'])
          subst this
          omega
        · exact absurd (List.mem_map.mpr ⟨b, hb, eb⟩) (fwd_carts g.fwd _ c)
      have bg := bg_belt hc g.fwd b hb
      rw [← eb]
      unfold lastA at hx
      rcases List.mem_append.mp hx with hx | hx
      · obtain ⟨o, ho, rfl⟩ := List.mem_map.mp hx
        dsimp only at e
        obtain ⟨a, e1, e3⟩ := Option.map_eq_some_iff.mp e
        have hm : a ∈ behL (begL cart h.belts) b.outs := mem_behL.mpr ⟨o, ho, e1⟩
        rw [if_neg (fun z => by rw [z] at hm; cases hm)] at bg
        rw [bg]
        refine ⟨_, rfl, ?_⟩
        have := minL_le hm
        have e3 : a - 0 = v := e3
        show b.long + minL (behL (begL cart h.belts) b.outs) - s.2 ≤ v + 1
        omega
      · split at hx
        · rw [List.mem_singleton] at hx
          subst hx
          dsimp only at e
          obtain ⟨a, e1, e3⟩ := Option.map_eq_some_iff.mp e
          have c0 : 0 ≤ s.2 := by
            rcases hs with ⟨b', hb', e', c0, c1⟩ | ⟨c, c2⟩
            · exact c0
            · omega
          refine ⟨a - s.2, by rw [e1]; rfl, ?_⟩
          have e3 : a - 0 = v := e3
          omega
        · cases hx
  · cases hx
theorem far_le {st : Int} {h : House} (g : GoodH st h) {cart : Str} (hc : cart ∈ h.carts) : ∀ {n : Nat} {s : Sp}, Vs h s → Wk h.belts n s (cart, 0) → ∃ v, farS h cart s = some v ∧ v ≤ n
  | 0, s, _, e => by
    have e : s = (cart, 0) := e
    subst e
    refine ⟨0, ?_, by omega⟩
    unfold farS
    dsimp only
    rw [bg_cart hc g.fwd]
    rfl
  | n + 1, s, hs, ⟨y, h1, h2⟩ => by
    obtain ⟨v, e1, e2⟩ := far_le g hc (after_vs g hs h1) h2
    obtain ⟨v', e3, e4⟩ := far_down g hc hs h1 e1
    exact ⟨v', e3, by omega⟩
theorem bg_nonneg {st : Int} {h : House} (g : GoodH st h) {cart : Str} (hc : cart ∈ h.carts) : ∀ {bs pre : List Belt}, h.belts = pre ++ bs → ∀ b ∈ bs, ∀ v, atS (begL cart h.belts) b.name = some v → b.long ≤ v
  | x :: bs, pre, eq, b, hb, v, hv => by
    have eq' : h.belts = (pre ++ [x]) ++ bs := by rw [eq]; simp
    rcases List.mem_cons.mp hb with rfl | hb
    · have hbm : b ∈ h.belts := by rw [eq]; simp
      have e := bg_belt hc g.fwd b hbm
      rw [hv] at e
      split at e
      · cases e
      · rename_i hne
        cases e
        cases ea : armL (begL cart h.belts) b.outs with
        | none => exact absurd (armL_none.mp ea) hne
        | some a =>
          obtain ⟨a1, a2⟩ := armL_some ea
          have fx : Fwd h.carts (b :: bs) := fwd_suffix (by rw [← eq]; exact g.fwd)
          rcases fx.1 a a1 with z | z
          · obtain ⟨y, hy, ey⟩ := List.mem_map.mp z
            rw [← ey] at a2
            have h1 := bg_nonneg g hc eq' y hy _ a2
            have h2 := (g.lg y (by rw [eq']; simp [hy])).1
            omega
          · by_cases hac : a = cart
            · subst hac
              have := bg_cart hc g.fwd
              rw [a2] at this
              have e0 : minL (behL (begL a h.belts) b.outs) = 0 := Option.some.inj this
              omega
            · rw [bg_other g.fwd z hac] at a2; cases a2
    · exact bg_nonneg g hc eq' b hb v hv
theorem far_walk {st : Int} {h : House} (g : GoodH st h) {cart : Str} (hc : cart ∈ h.carts) : ∀ (n : Nat) {s : Sp} {v : Int}, v.toNat ≤ n → Vs h s → farS h cart s = some v → 0 ≤ v ∧ Wk h.belts v.toNat s (cart, 0)
  | n, s, v, hn, hs, e => by
    rcases hs with ⟨b, hb, eb, c0, c1⟩ | ⟨hcs, c0⟩
    · have e' := e
      unfold farS at e
      obtain ⟨a, e1, e2⟩ := Option.map_eq_some_iff.mp e
      rw [← eb] at e1
      have hl := bg_nonneg g hc (pre := []) rfl b hb a e1
      have e2 : a - s.2 = v := e2
      have v1 : 1 ≤ v := by omega
      refine ⟨by omega, ?_⟩
      obtain ⟨m, hm⟩ : ∃ m : Nat, v.toNat = m + 1 := ⟨v.toNat - 1, by omega⟩
      have hmv : m = (v - 1).toNat := by omega
      rw [hm]
      have step : ∀ y, y ∈ afterM h.belts s → farS h cart y = some (v - 1) → Vs h y → Wk h.belts (m + 1) s (cart, 0) := fun y hy ey vy => by
        match n, hn with
        | 0, hn => omega
        | n + 1, hn =>
          have := far_walk g hc n (by omega) vy ey
          exact ⟨y, hy, by rw [hmv]; exact this.2⟩
      have vs : Vs h s := .inl ⟨b, hb, eb, c0, c1⟩
      by_cases hlast : s.2 + 1 < b.long
      · have hy : (b.name, s.2 + 1) ∈ afterM h.belts s := mem_after.mpr ⟨b, hb, by unfold aft1; rw [if_pos eb, if_pos hlast]; exact .head _⟩
        refine step _ hy ?_ (after_vs g vs hy)
        unfold farS
        dsimp only
        rw [e1, Option.map_some]
        exact congrArg some (by omega)
      · have bg := bg_belt hc g.fwd b hb
        rw [e1] at bg
        split at bg
        · cases bg
        · rename_i hne
          cases bg
          cases ea : armL (begL cart h.belts) b.outs with
          | none => exact absurd (armL_none.mp ea) hne
          | some o =>
            obtain ⟨a1, a2⟩ := armL_some ea
            have hy : (o, (0 : Int)) ∈ afterM h.belts s := mem_after.mpr ⟨b, hb, by
              unfold aft1 lastA
              rw [if_pos eb, if_neg hlast]
              exact List.mem_append_left _ (List.mem_map.mpr ⟨o, a1, rfl⟩)⟩
            refine step _ hy ?_ (after_vs g vs hy)
            unfold farS
            dsimp only
            rw [a2, Option.map_some]
            exact congrArg some (by omega)
    · unfold farS at e
      by_cases hs1 : s.1 = cart
      · rw [hs1, bg_cart hc g.fwd, c0] at e
        cases e
        exact ⟨by decide, by show s = (cart, 0); exact Prod.ext hs1 c0⟩
      · rw [bg_other g.fwd hcs hs1] at e; cases e
end Carry
set_option Elab.async false
set_option linter.all false
set_option maxRecDepth 100000
set_option maxHeartbeats 4000000
namespace Carry
open PySem L2
/-! the law's own search -/
theorem whl_succ (c : GT) (f : GS) (n : Nat) (Γ : Gm) : gsWhile c f (n + 1) Γ = (c Γ).bind fun p => if p.1 = true then (f p.2).bind fun q => match q.1 with
      | .nx => gsWhile c f n q.2
      | .ct => gsWhile c f n q.2
      | .bk => some (.nx, q.2)
      | .rt o => some (.rt o, q.2)
    else some (.nx, p.2) := rfl
def nxt (t : Int) (p : List (Sp × Int) × List Sp) (q : Sp) : List (Sp × Int) × List Sp := if (atP p.1 q).isSome = true then p else (p.1 ++ [(q, t)], p.2 ++ [q])
def nxts (t : Int) (p : List (Sp × Int) × List Sp) (qs : List Sp) : List (Sp × Int) × List Sp := qs.foldl (nxt t) p
theorem nxts_at (t : Int) : ∀ (qs : List Sp) (p : List (Sp × Int) × List Sp) (x : Sp), atP (nxts t p qs).1 x = (atP p.1 x).or (if x ∈ qs then some t else none)
  | [], p, x => by show atP p.1 x = _; rw [if_neg (by simp), Option.or_none]
  | q :: qs, p, x => by
    show atP (nxts t (nxt t p q) qs).1 x = _
    rw [nxts_at t qs]
    unfold nxt
    cases hq : atP p.1 q with
    | some v =>
      rw [if_pos (show (some v).isSome = true from rfl)]
      by_cases e : x = q
      · subst e; rw [hq]; rfl
      · by_cases m : x ∈ qs
        · rw [if_pos m, if_pos (.tail _ m)]
        · rw [if_neg m, if_neg (fun z => by rcases List.mem_cons.mp z with z | z; exact e z; exact m z)]
    | none =>
      rw [if_neg (by simp)]
      dsimp only
      rw [atP_snoc]
      by_cases e : q = x
      · subst e
        rw [hq, if_pos rfl, show (if q ∈ q :: qs then some t else none) = some t from if_pos (.head _)]
        rfl
      · rw [if_neg e, Option.or_none]
        by_cases m : x ∈ qs
        · rw [if_pos m, if_pos (.tail _ m)]
        · rw [if_neg m, if_neg (fun z => by rcases List.mem_cons.mp z with z | z; exact e z.symm; exact m z)]
theorem nxts_mem (t : Int) : ∀ (qs : List Sp) (p : List (Sp × Int) × List Sp) (x : Sp), x ∈ (nxts t p qs).2 ↔ x ∈ p.2 ∨ (x ∈ qs ∧ atP p.1 x = none)
  | [], p, x => by show x ∈ p.2 ↔ _; simp
  | q :: qs, p, x => by
    show x ∈ (nxts t (nxt t p q) qs).2 ↔ _
    rw [nxts_mem t qs]
    unfold nxt
    cases hq : atP p.1 q with
    | some v =>
      rw [if_pos (show (some v).isSome = true from rfl)]
      constructor
      · rintro (z | ⟨z1, z2⟩)
        · exact .inl z
        · exact .inr ⟨.tail _ z1, z2⟩
      · rintro (z | ⟨z1, z2⟩)
        · exact .inl z
        · rcases List.mem_cons.mp z1 with z | z
          · subst z; rw [hq] at z2; cases z2
          · exact .inr ⟨z, z2⟩
    | none =>
      rw [if_neg (by simp)]
      dsimp only
      rw [atP_snoc, List.mem_append, List.mem_singleton]
      constructor
      · rintro ((z | z) | ⟨z1, z2⟩)
        · exact .inl z
        · subst z; exact .inr ⟨.head _, hq⟩
        · refine .inr ⟨.tail _ z1, ?_⟩
          cases h : atP p.1 x with
          | none => rfl
          | some w => rw [h] at z2; cases z2
      · rintro (z | ⟨z1, z2⟩)
        · exact .inl (.inl z)
        · by_cases e : x = q
          · exact .inl (.inr e)
          · rcases List.mem_cons.mp z1 with z | z
            · exact absurd z e
            · refine .inr ⟨z, ?_⟩
              rw [z2, if_neg (fun w => e w.symm)]
              rfl
def keysP (kn : List (Sp × Int)) : List Sp := kn.map (·.1)
theorem atP_mem {kn : List (Sp × Int)} {x : Sp} : (atP kn x).isSome = true ↔ x ∈ keysP kn := by
  induction kn with
  | nil => unfold keysP; simp [atP_nil]
  | cons p kn ih =>
    obtain ⟨k, v⟩ := p
    rw [atP_cons]
    unfold keysP at *
    rw [List.map_cons, List.mem_cons]
    by_cases e : k = x
    · rw [if_pos e]; exact ⟨fun _ => .inl e.symm, fun _ => rfl⟩
    · rw [if_neg e, ih]
      exact ⟨fun z => .inr z, fun z => z.resolve_left fun w => e w.symm⟩
theorem nxts_nodup (t : Int) : ∀ (qs : List Sp) (p : List (Sp × Int) × List Sp), (keysP p.1).Nodup → (keysP (nxts t p qs).1).Nodup
  | [], p, h => h
  | q :: qs, p, h => by
    show (keysP (nxts t (nxt t p q) qs).1).Nodup
    refine nxts_nodup t qs _ ?_
    unfold nxt
    split
    · exact h
    · rename_i hq
      unfold keysP at *
      rw [List.map_append, List.nodup_append]
      refine ⟨h, by simp, fun a ha b hb e => ?_⟩
      simp at hb
      subst hb e
      exact hq (atP_mem.mpr ha)
theorem nxts_len (t : Int) : ∀ (qs : List Sp) (p : List (Sp × Int) × List Sp), (nxts t p qs).1.length = p.1.length + ((nxts t p qs).2.length - p.2.length) ∧ p.2.length ≤ (nxts t p qs).2.length
  | [], p => by show p.1.length = _ ∧ _; exact ⟨by simp [nxts], Nat.le_refl _⟩
  | q :: qs, p => by
    have ih := nxts_len t qs (nxt t p q)
    show (nxts t (nxt t p q) qs).1.length = _ ∧ p.2.length ≤ (nxts t (nxt t p q) qs).2.length
    have hn : ((nxt t p q).1.length = p.1.length ∧ (nxt t p q).2.length = p.2.length) ∨ ((nxt t p q).1.length = p.1.length + 1 ∧ (nxt t p q).2.length = p.2.length + 1) := by
      unfold nxt
      split
      · exact .inl ⟨rfl, rfl⟩
      · exact .inr ⟨by simp, by simp⟩
    have e2 : nxts t p (q :: qs) = nxts t (nxt t p q) qs := rfl
    rw [e2]
    rcases hn with ⟨h1, h2⟩ | ⟨h1, h2⟩ <;> omega
theorem nodup_len {α : Type} [DecidableEq α] : ∀ {l U : List α}, l.Nodup → (∀ x ∈ l, x ∈ U) → l.length ≤ U.length
  | [], U, _, _ => Nat.zero_le _
  | a :: l, U, hn, hs => by
    rw [List.nodup_cons] at hn
    have ha := hs a (.head _)
    have ih := nodup_len (l := l) (U := U.erase a) hn.2 fun x m => (List.mem_erase_of_ne (fun e => hn.1 (by rw [← e]; exact m))).mpr (hs x (.tail _ m))
    rw [List.length_erase_of_mem ha] at ih
    have : 0 < U.length := List.length_pos_of_mem ha
    rw [List.length_cons]
    omega
/-- all spots of a house -/
def allV (h : House) : List Sp := (h.belts.map fun b => (List.range b.long.toNat).map fun (k : Nat) => (b.name, (k : Int))).flatten ++ h.carts.map fun c => (c, 0)
theorem vs_all {h : House} {s : Sp} (v : Vs h s) : s ∈ allV h := by
  unfold allV
  rcases v with ⟨b, hb, e, c0, c1⟩ | ⟨c, e⟩
  · refine List.mem_append_left _ (List.mem_flatten.mpr ⟨_, List.mem_map.mpr ⟨b, hb, rfl⟩, List.mem_map.mpr ⟨s.2.toNat, List.mem_range.mpr (by omega), ?_⟩⟩)
    exact Prod.ext e (by show ((s.2.toNat : Nat) : Int) = s.2; omega)
  · exact List.mem_append_right _ (List.mem_map.mpr ⟨s.1, c, Prod.ext rfl e.symm⟩)
theorem all_len {h : House} (lg : ∀ b ∈ h.belts, b.long ≤ 60) : (allV h).length ≤ 60 * h.belts.length + h.carts.length := by
  unfold allV
  rw [List.length_append, List.length_map]
  have : ∀ bs : List Belt, (∀ b ∈ bs, b.long ≤ 60) → ((bs.map fun b => (List.range b.long.toNat).map fun (k : Nat) => (b.name, (k : Int))).flatten).length ≤ 60 * bs.length := by
    intro bs
    induction bs with
    | nil => intro _; simp
    | cons b bs ih =>
      intro hl
      have h1 := ih fun x m => hl x (.tail _ m)
      have h2 := hl b (.head _)
      rw [List.map_cons, List.flatten_cons, List.length_append, List.length_map, List.length_range, List.length_cons]
      omega
  have := this h.belts lg
  omega
structure BI (h : House) (s : Sp) (now : Nat) (kn : List (Sp × Int)) (fresh : List Sp) : Prop where
  a : ∀ x v, atP kn x = some v → ∃ m : Nat, v = (m : Int) ∧ m ≤ now ∧ Wk h.belts m s x ∧ ∀ j, j < m → ¬ Wk h.belts j s x
  b : ∀ x m, m ≤ now → Wk h.belts m s x → (atP kn x).isSome = true
  c : ∀ x, x ∈ fresh ↔ atP kn x = some (now : Int)
  d : (keysP kn).Nodup
theorem wk_vs {st : Int} {h : House} (g : GoodH st h) : ∀ {n : Nat} {x y : Sp}, Vs h x → Wk h.belts n x y → Vs h y
  | 0, x, y, v, e => by rw [← show x = y from e]; exact v
  | n + 1, x, y, v, ⟨w, h1, h2⟩ => wk_vs g (after_vs g v h1) h2
theorem BI.zero (h : House) (s : Sp) : BI h s 0 [(s, 0)] [s] where
  a := fun x v e => by
    rw [atP_cons, atP_nil] at e
    split at e
    · rename_i q
      cases e
      exact ⟨0, rfl, Nat.le_refl _, q, fun j hj => absurd hj (Nat.not_lt_zero _)⟩
    · cases e
  b := fun x m hm w => by
    have w0 : Wk h.belts 0 s x := by rw [show m = 0 by omega] at w; exact w
    rw [atP_cons, if_pos (show s = x from w0)]
    rfl
  c := fun x => by
    rw [List.mem_singleton, atP_cons, atP_nil]
    by_cases e : s = x
    · rw [if_pos e]; exact ⟨fun _ => rfl, fun _ => e.symm⟩
    · rw [if_neg e]; exact ⟨fun z => absurd z.symm e, fun z => by cases z⟩
  d := by unfold keysP; simp
def ysOf (h : House) (fresh : List Sp) : List Sp := (fresh.map (afterM h.belts)).flatten
theorem mem_ys {h : House} {fresh : List Sp} {x : Sp} : x ∈ ysOf h fresh ↔ ∃ y ∈ fresh, x ∈ afterM h.belts y := by
  unfold ysOf
  rw [List.mem_flatten]
  constructor
  · rintro ⟨l, h1, h2⟩
    obtain ⟨b, h3, rfl⟩ := List.mem_map.mp h1
    exact ⟨b, h3, h2⟩
  · rintro ⟨b, h1, h2⟩
    exact ⟨_, List.mem_map.mpr ⟨b, h1, rfl⟩, h2⟩
theorem BI.step {h : House} {s : Sp} {now : Nat} {kn : List (Sp × Int)} {fresh : List Sp} (I : BI h s now kn fresh) :
    BI h s (now + 1) (nxts ((now : Int) + 1) (kn, []) (ysOf h fresh)).1 (nxts ((now : Int) + 1) (kn, []) (ysOf h fresh)).2 where
  a := fun x v e => by
    rw [nxts_at] at e
    cases hk : atP kn x with
    | some w =>
      rw [hk] at e
      cases e
      obtain ⟨m, h1, h2, h3⟩ := I.a x _ hk
      exact ⟨m, h1, by omega, h3⟩
    | none =>
      rw [hk] at e
      split at e
      · rename_i hm
        cases e
        obtain ⟨y, hy, hx⟩ := mem_ys.mp hm
        obtain ⟨m, h1, h2, h3, _⟩ := I.a y _ ((I.c y).mp hy)
        have : m = now := by omega
        subst this
        refine ⟨m + 1, by omega, Nat.le_refl _, wk_snoc h3 hx, fun j hj w => ?_⟩
        have := I.b x j (by omega) w
        rw [hk] at this
        cases this
      · cases e
  b := fun x m hm w => by
    rw [nxts_at]
    cases hk : atP kn x with
    | some v => rfl
    | none =>
      have hm2 : m = now + 1 := by
        rcases Nat.lt_or_ge m (now + 1) with z | z
        · have := I.b x m (by omega) w
          rw [hk] at this
          cases this
        · omega
      subst hm2
      obtain ⟨y, h1, h2⟩ := wk_unsnoc w
      have hy := I.b y now (Nat.le_refl _) h1
      cases hv : atP kn y with
      | none => rw [hv] at hy; cases hy
      | some v =>
        obtain ⟨m, e1, e2, e3, _⟩ := I.a y v hv
        rcases Nat.lt_or_ge m now with z | z
        · have := I.b x (m + 1) (by omega) (wk_snoc e3 h2)
          rw [hk] at this
          cases this
        · have : m = now := by omega
          subst this
          rw [if_pos (mem_ys.mpr ⟨y, (I.c y).mpr (by rw [hv, e1]), h2⟩)]
          rfl
  c := fun x => by
    rw [nxts_mem, nxts_at]
    constructor
    · rintro (z | ⟨z1, z2⟩)
      · cases z
      · dsimp only at z2
        rw [z2, if_pos z1]
        exact congrArg some (by omega)
    · intro e
      cases hk : atP kn x with
      | some v =>
        rw [hk] at e
        obtain ⟨m, e1, e2, _⟩ := I.a x v hk
        have : v = ((now + 1 : Nat) : Int) := Option.some.inj e
        omega
      | none =>
        rw [hk] at e
        split at e
        · rename_i hm
          exact .inr ⟨hm, rfl⟩
        · cases e
  d := nxts_nodup _ _ _ I.d
theorem BI.end {h : House} {s : Sp} {now : Nat} {kn : List (Sp × Int)} (I : BI h s now kn []) : ∀ (n : Nat) {x : Sp}, Wk h.belts n s x → (atP kn x).isSome = true := by
  intro n
  induction n using Nat.strongRecOn with
  | ind n ih =>
    intro x w
    rcases Nat.lt_or_ge now n with z | z
    · obtain ⟨k, hk⟩ : ∃ k, n = now + k := ⟨n - now, by omega⟩
      rw [hk] at w
      obtain ⟨y, h1, h2⟩ := wk_split w
      have hy := I.b y now (Nat.le_refl _) h1
      cases hv : atP kn y with
      | none => rw [hv] at hy; cases hy
      | some v =>
        obtain ⟨m, e1, e2, e3, _⟩ := I.a y v hv
        have hne : m ≠ now := fun e => by
          have := (I.c y).mpr (by rw [hv, e1, e])
          cases this
        exact ih (m + k) (by omega) (wk_join e3 h2)
    · exact I.b x n z w
/-- what the search finds is how far it is -/
theorem bi_far {st : Int} {h : House} (g : GoodH st h) {cart : Str} (hc : cart ∈ h.carts) {s : Sp} (vs : Vs h s) {now : Nat} {kn : List (Sp × Int)} (I : BI h s now kn []) : atP kn (cart, 0) = farS h cart s := by
  cases hf : farS h cart s with
  | some v =>
    obtain ⟨v0, w⟩ := far_walk g hc v.toNat (Nat.le_refl _) vs hf
    have hs := I.end _ w
    cases hk : atP kn (cart, 0) with
    | none => rw [hk] at hs; cases hs
    | some u =>
      obtain ⟨m, e1, _, e3, e4⟩ := I.a _ u hk
      obtain ⟨v', e5, e6⟩ := far_le g hc vs e3
      rw [hf] at e5
      cases e5
      have : ¬ v.toNat < m := fun z => e4 _ z w
      exact congrArg some (by omega)
  | none =>
    cases hk : atP kn (cart, 0) with
    | none => rfl
    | some u =>
      obtain ⟨m, e1, _, e3, e4⟩ := I.a _ u hk
      obtain ⟨v', e5, e6⟩ := far_le g hc vs e3
      rw [hf] at e5
      cases e5
/-! its turns -/
def othA : GS := (gsIf (gT (gBin (oInG true) (gVar 7) (gVar 2)))
    (gsCons (gsPut (gVar 4) (gVar 2) (gVar 7))
  (gsDrop (gMut mAppend (gVar 5) (gaCons (gVar 7) gaNil))))
    gsNil)
def spoA : GS := (gsFor (gCall M_l_after (gaCons (gVar 0) (gaCons (gVar 6) gaNil))) (ggName 7) othA)
def whlA : GS := (gsCons (gsSet 4 (gFrz (gBin oAdd (gVar 4) (gC (.int 1)))))
  (gsCons (gsSet 5 (gSeq .lst gaNil))
  (gsCons (gsFor (gVar 3) (ggName 6) spoA)
  (gsSet 3 (gFrz (gVar 5))))))
theorem first_eq : m_l_first_turns = (gsCons (gsSet 2 (gDict1 (gVar 1) (gC (.int 0))))
  (gsCons (gsSet 3 (gFrz (gSeq .lst (gaCons (gVar 1) gaNil))))
  (gsCons (gsSet 4 (gC (.int 0)))
  (gsCons (gsWhile (gTru (gVar 3)) whlA 1000)
  (gsRet (gMove (gVar 2))))))) := rfl
abbrev spF (as : List Sp) : O := .frz (.lst (as.map spD))
theorem oth_step (s0 s1 s3 s6 a7 : Option O) (t : Int) (p : List (Sp × Int) × List Sp) (q : Sp) (l1 : p.1.length < 1000000) (l2 : p.2.length < 1000000) :
    (ggName 7 (spD q) [s0, s1, some (.dct (kpO p.1)), s3, some (.frz (.int t)), some (spL p.2), s6, a7]).bind othA = some (.nx, [s0, s1, some (.dct (kpO (nxt t p q).1)), s3, some (.frz (.int t)), some (spL (nxt t p q).2), s6, some (.frz (spD q))]) := by
  have e1 := in_kp true q p.1
  unfold nxt othA
  cases hq : atP p.1 q with
  | some v =>
    rw [hq] at e1
    rw [if_pos (show (some v).isSome = true from rfl)]
    generalize spD q = sd at *
    simp only [ev_name, List.length_cons, List.length_nil, Nat.zero_add, Nat.reduceAdd, Nat.reduceLT, List.set_cons_succ, List.set_cons_zero, if_true, ↓evBind, ev_ifS, ev_T, ev_op, ev_aCons, ev_var, List.getElem?_cons_succ, List.getElem?_cons_zero, ev_aNil, ev_see1, ev_seeO, ev_seeV, Option.join_some, ev_see0, e1, Option.isSome_some, Bool.not_true, Bool.false_eq_true, ev_cons, ev_put, ev_nil, if_false]
  | none =>
    rw [hq] at e1
    rw [if_neg (by simp)]
    have e2 := put_kp p.1 q t hq l1
    have e3 := app_sp p.2 q l2
    generalize spD q = sd at *
    dsimp only
    simp only [ev_name, List.length_cons, List.length_nil, Nat.zero_add, Nat.reduceAdd, Nat.reduceLT, List.set_cons_succ, List.set_cons_zero, if_true, ↓evBind, ev_ifS, ev_T, ev_op, ev_aCons, ev_var, List.getElem?_cons_succ, List.getElem?_cons_zero, ev_aNil, ev_see1, ev_seeO, ev_seeV, Option.join_some, ev_see0, e1, Option.isSome_none, Bool.not_false, ev_cons, ev_put, e2, ev_drop, ev_mut, ev_own1, ev_own0, e3, ev_nil]
theorem nxts_le (t : Int) : ∀ (qs : List Sp) (p : List (Sp × Int) × List Sp), (nxts t p qs).1.length ≤ p.1.length + qs.length ∧ (nxts t p qs).2.length ≤ p.2.length + qs.length
  | [], p => ⟨Nat.le_refl _, Nat.le_refl _⟩
  | q :: qs, p => by
    have ih := nxts_le t qs (nxt t p q)
    have hn : (nxt t p q).1.length ≤ p.1.length + 1 ∧ (nxt t p q).2.length ≤ p.2.length + 1 := by
      unfold nxt
      split
      · exact ⟨Nat.le_succ _, Nat.le_succ _⟩
      · exact ⟨by simp, by simp⟩
    have e2 : nxts t p (q :: qs) = nxts t (nxt t p q) qs := rfl
    rw [e2, List.length_cons]
    omega
theorem nxts_snoc (t : Int) (p : List (Sp × Int) × List Sp) (qs : List Sp) (q : Sp) : nxts t p (qs ++ [q]) = nxt t (nxts t p qs) q := by unfold nxts; rw [List.foldl_append]; rfl
theorem nxts_app (t : Int) (p : List (Sp × Int) × List Sp) (qs rs : List Sp) : nxts t p (qs ++ rs) = nxts t (nxts t p qs) rs := by unfold nxts; rw [List.foldl_append]
theorem spo_step {h : House} (bl : h.belts.length ≤ 6) (ol : ∀ b ∈ h.belts, b.outs.length ≤ 24) (s1 s3 a6 a7 : Option O) (t : Int) (p : List (Sp × Int) × List Sp) (y : Sp) (l1 : p.1.length < 900000) (l2 : p.2.length < 900000) :
    ∃ a7', (ggName 6 (spD y) [some (.frz (houseD h)), s1, some (.dct (kpO p.1)), s3, some (.frz (.int t)), some (spL p.2), a6, a7]).bind spoA =
      some (.nx, [some (.frz (houseD h)), s1, some (.dct (kpO (nxts t p (afterM h.belts y)).1)), s3, some (.frz (.int t)), some (spL (nxts t p (afterM h.belts y)).2), some (.frz (spD y)), a7']) := by
  have ea := x_after h y (by omega) ol
  have fl := flat_len (s := y) ol
  obtain ⟨Γ', el, a7', rfl⟩ := loop_gen (g := ggName 7) (f := othA) spD (fun pre Γ => ∃ a7, Γ = [some (.frz (houseD h)), s1, some (.dct (kpO (nxts t p pre).1)), s3, some (.frz (.int t)), some (spL (nxts t p pre).2), some (.frz (spD y)), a7]) (afterM h.belts y) []
    [some (.frz (houseD h)), s1, some (.dct (kpO p.1)), s3, some (.frz (.int t)), some (spL p.2), some (.frz (spD y)), a7] ⟨a7, rfl⟩ (by
      rintro q x post Γ ex ⟨a, rfl⟩
      rw [List.nil_append] at *
      have lq : q.length ≤ 26 * h.belts.length := by have := congrArg List.length ex; simp at this; omega
      have ln := nxts_le t q p
      refine ⟨_, oth_step _ _ _ _ _ t (nxts t p q) x (by omega) (by omega), some (.frz (spD x)), ?_⟩
      rw [nxts_snoc])
  rw [List.nil_append] at *
  refine ⟨a7', ?_⟩
  unfold spoA
  have dl : O.dl (((afterM h.belts y).map spD).map .frz) = (afterM h.belts y).map spD := dl_frz _
  generalize spD y = sd at *
  simp only [ev_name, List.length_cons, List.length_nil, Nat.zero_add, Nat.reduceAdd, Nat.reduceLT, List.set_cons_succ, List.set_cons_zero, if_true, ↓evBind, ev_for, ev_frz, ev_call, ev_aCons, ev_var, List.getElem?_cons_zero, List.getElem?_cons_succ, ev_aNil, ev_take1, ev_take0, ea, ev_pb1, ev_pb0, ev_d2, dl, el]
theorem whl_step {h : House} (bl : h.belts.length ≤ 6) (ol : ∀ b ∈ h.belts, b.outs.length ≤ 24) (s1 a5 a6 a7 : Option O) (now : Int) (kn : List (Sp × Int)) (fresh : List Sp) (l1 : kn.length < 400) (l2 : fresh.length < 400) :
    ∃ a6' a7', whlA [some (.frz (houseD h)), s1, some (.dct (kpO kn)), some (spF fresh), some (.frz (.int now)), a5, a6, a7] =
      some (.nx, [some (.frz (houseD h)), s1, some (.dct (kpO (nxts (now + 1) (kn, []) (ysOf h fresh)).1)), some (spF (nxts (now + 1) (kn, []) (ysOf h fresh)).2), some (.frz (.int (now + 1))), some (spF (nxts (now + 1) (kn, []) (ysOf h fresh)).2), a6', a7']) := by
  have ylen : ∀ q : List Sp, (ysOf h q).length ≤ 156 * q.length := by
    intro q
    induction q with
    | nil => simp [ysOf]
    | cons y q ih =>
      have fl := flat_len (s := y) ol
      unfold ysOf at *
      rw [List.map_cons, List.flatten_cons, List.length_append, List.length_cons]
      omega
  obtain ⟨Γ', el, a6', a7', rfl⟩ := loop_gen (g := ggName 6) (f := spoA) spD (fun pre Γ => ∃ a6 a7, Γ = [some (.frz (houseD h)), s1, some (.dct (kpO (nxts (now + 1) (kn, []) (ysOf h pre)).1)), some (spF fresh), some (.frz (.int (now + 1))), some (spL (nxts (now + 1) (kn, []) (ysOf h pre)).2), a6, a7]) fresh []
    [some (.frz (houseD h)), s1, some (.dct (kpO kn)), some (spF fresh), some (.frz (.int (now + 1))), some (spL []), a6, a7] ⟨a6, a7, rfl⟩ (by
      rintro q x post Γ ex ⟨a6, a7, rfl⟩
      rw [List.nil_append] at *
      have lq : q.length ≤ fresh.length := by have := congrArg List.length ex; simp at this; omega
      have ln := nxts_le (now + 1) (ysOf h q) (kn, [])
      have yl := ylen q
      have hz : ([] : List Sp).length = 0 := rfl
      dsimp only at ln
      obtain ⟨a7', e⟩ := spo_step bl ol s1 (some (spF fresh)) a6 a7 (now + 1) (nxts (now + 1) (kn, []) (ysOf h q)) x (by omega) (by omega)
      refine ⟨_, e, some (.frz (spD x)), a7', ?_⟩
      have ey : ysOf h (q ++ [x]) = ysOf h q ++ afterM h.belts x := by unfold ysOf; simp
      rw [ey, nxts_app])
  rw [List.nil_append] at *
  refine ⟨a6', a7', ?_⟩
  unfold whlA
  have e0 : (spL [] : O) = .lst [] := rfl
  rw [e0] at el
  have dl : O.dl (((nxts (now + 1) (kn, []) (ysOf h fresh)).2.map spD).map .frz) = (nxts (now + 1) (kn, []) (ysOf h fresh)).2.map spD := dl_frz _
  simp only [ev_cons, ev_set, ev_frz, ev_op, ev_aCons, ev_var, List.getElem?_cons_succ, List.getElem?_cons_zero, ↓evBind, ev_c, ev_aNil, ev_see1, ev_seeO, ev_see0, ev_addI, ev_d1, List.length_cons, List.length_nil, Nat.zero_add, Nat.reduceAdd, Nat.reduceLT, List.set_cons_succ, List.set_cons_zero, if_true, ev_seq, Nat.reduceLeDiff, ev_own0, ev_for, el, ev_d2, dl]
theorem whl_loop {st : Int} {h : House} (g : GoodH st h) {s : Sp} (vs : Vs h s) (s1 : Option O) : ∀ (fuel now : Nat) (kn : List (Sp × Int)) (fresh : List Sp) (a5 a6 a7 : Option O), BI h s now kn fresh → fresh.length ≤ kn.length → 2 * ((allV h).length - kn.length) + 2 ≤ fuel →
    ∃ now' kn' a3 a4 a5' a6' a7', BI h s now' kn' [] ∧ gsWhile (gTru (gVar 3)) whlA fuel [some (.frz (houseD h)), s1, some (.dct (kpO kn)), some (spF fresh), some (.frz (.int (now : Nat))), a5, a6, a7] =
      some (.nx, [some (.frz (houseD h)), s1, some (.dct (kpO kn')), a3, a4, a5', a6', a7'])
  | fuel, now, kn, fresh, a5, a6, a7, I, hl, hf => by
    have sub : ∀ {n : Nat} {k : List (Sp × Int)} {f : List Sp}, BI h s n k f → k.length ≤ (allV h).length := fun {n k f} J => by
      have := nodup_len J.d fun x m => by
        obtain ⟨v, hv⟩ := Option.isSome_iff_exists.mp (atP_mem.mpr m)
        obtain ⟨m, _, _, w, _⟩ := J.a x v hv
        exact vs_all (wk_vs g vs w)
      unfold keysP at this
      rwa [List.length_map] at this
    have al := all_len (h := h) fun b m => (g.lg b m).2
    have b6 := g.b6
    have c5 := g.c5
    have s0 := sub I
    match fuel, hf with
    | fuel + 1, hf =>
      cases fresh with
      | nil =>
        refine ⟨now, kn, some (spF []), some (.frz (.int (now : Nat))), a5, a6, a7, I, ?_⟩
        rw [whl_succ]
        have et : truO (spF []) = some false := rfl
        simp only [ev_tru, ev_var, List.getElem?_cons_succ, List.getElem?_cons_zero, List.map_nil, ↓evBind, ev_seeO, ev_truL, List.isEmpty_nil, Bool.not_true, Bool.false_eq_true, if_false]
      | cons f fs =>
        obtain ⟨a6', a7', e⟩ := whl_step b6 g.ol s1 a5 a6 a7 (now : Nat) kn (f :: fs) (by omega) (by omega)
        have J := I.step
        have ln := nxts_len ((now : Int) + 1) (ysOf h (f :: fs)) (kn, [])
        have s2 := sub J
        have ec : ((now : Nat) : Int) + 1 = ((now + 1 : Nat) : Int) := by omega
        rw [ec] at e J ln s2
        have hz : ([] : List Sp).length = 0 := rfl
        dsimp only at ln
        have et : truO (spF (f :: fs)) = some true := rfl
        have go : ∃ now' kn' a3 a4 a5' a6'' a7'', BI h s now' kn' [] ∧ gsWhile (gTru (gVar 3)) whlA fuel [some (.frz (houseD h)), s1, some (.dct (kpO (nxts ((now + 1 : Nat) : Int) (kn, []) (ysOf h (f :: fs))).1)), some (spF (nxts ((now + 1 : Nat) : Int) (kn, []) (ysOf h (f :: fs))).2), some (.frz (.int ((now + 1 : Nat) : Int))), some (spF (nxts ((now + 1 : Nat) : Int) (kn, []) (ysOf h (f :: fs))).2), a6', a7'] =
            some (.nx, [some (.frz (houseD h)), s1, some (.dct (kpO kn')), a3, a4, a5', a6'', a7'']) := by
          generalize nxts ((now + 1 : Nat) : Int) (kn, []) (ysOf h (f :: fs)) = N at *
          by_cases hN : N.2 = []
          · rw [hN] at J ⊢
            match fuel, hf with
            | fuel + 1, hf =>
              refine ⟨now + 1, N.1, some (spF []), some (.frz (.int ((now + 1 : Nat) : Int))), some (spF []), a6', a7', J, ?_⟩
              rw [whl_succ]
              have et : truO (spF []) = some false := rfl
              simp only [ev_tru, ev_var, List.getElem?_cons_succ, List.getElem?_cons_zero, List.map_nil, ↓evBind, ev_seeO, ev_truL, List.isEmpty_nil, Bool.not_true, Bool.false_eq_true, if_false]
            | 0, hf => omega
          · have : 0 < N.2.length := List.length_pos_iff.mpr hN
            exact whl_loop g vs s1 fuel (now + 1) N.1 N.2 _ _ _ J (by omega) (by omega)
        obtain ⟨now', kn', a3, a4, a5', a6'', a7'', J', e'⟩ := go
        refine ⟨now', kn', a3, a4, a5', a6'', a7'', J', ?_⟩
        rw [whl_succ]
        generalize hn1 : ((now + 1 : Nat) : Int) = n1 at *
        generalize hn0 : ((now : Nat) : Int) = n0 at *
        generalize whlA = wa at *
        simp only [ev_tru, ev_var, List.getElem?_cons_succ, List.getElem?_cons_zero, List.map_cons, ↓evBind, ev_seeO, ev_truL, List.isEmpty_cons, Bool.not_false, e, e', if_true]
    | 0, hf => omega
theorem x_first {st : Int} {h : House} (g : GoodH st h) {s : Sp} (vs : Vs h s) : ∃ kn, (∀ cart ∈ h.carts, atP kn (cart, 0) = farS h cart s) ∧ M_l_first_turns [.frz (houseD h), .frz (spD s)] = some (.dct (kpO kn), [none, none]) := by
  have al := all_len (h := h) fun b m => (g.lg b m).2
  have b6 := g.b6
  have c5 := g.c5
  obtain ⟨now', kn', a3, a4, a5', a6', a7', J, e⟩ := whl_loop g vs (some (.frz (spD s))) 1000 0 [(s, 0)] [s] none none none (BI.zero h s) (Nat.le_refl _) (by omega)
  refine ⟨kn', fun cart hc => bi_far g hc vs J, ?_⟩
  have k1 := key_sp s
  have k2 : O.dct [(spK s, O.frz (D.int 0))] = .dct (kpO [(s, 0)]) := rfl
  have e : gsWhile (gTru (gVar 3)) whlA 1000 [some (.frz (houseD h)), some (.frz (spD s)), some (.dct (kpO [(s, 0)])), some (spF [s]), some (.frz (.int 0)), none, none, none] = some (.nx, [some (.frz (houseD h)), some (.frz (spD s)), some (.dct (kpO kn')), a3, a4, a5', a6', a7']) := e
  have e1 : (spF [s] : O) = .frz (.lst [spD s]) := rfl
  rw [e1] at e
  unfold M_l_first_turns
  rw [first_eq]
  generalize gsWhile (gTru (gVar 3)) whlA 1000 = wl at *
  generalize spD s = sd at *
  simp only [ev_run, List.map_cons, List.map_nil, List.length_cons, List.length_nil, Nat.zero_add, Nat.reduceAdd, Nat.reduceSub, List.replicate_succ, List.replicate_zero, List.cons_append, List.nil_append, ev_cons, ev_set, ev_dict1, ev_var, List.getElem?_cons_succ, List.getElem?_cons_zero, ↓evBind, ev_c, k1, ↓evMap, k2, Nat.reduceLT, List.set_cons_succ, List.set_cons_zero, if_true, ev_frz, ev_seq, ev_aCons, ev_aNil, Nat.reduceLeDiff, ev_own1, ev_own0, ev_d2, ev_dl1, ev_d1, ev_dl0, e, ev_ret, ev_move, ev_vr, List.take_succ_cons, List.take_zero, ev_kf, ev_kn]
end Carry
set_option Elab.async false
set_option linter.all false
set_option maxRecDepth 100000
set_option maxHeartbeats 4000000
namespace Carry
open PySem L2
theorem x_is (o : Option Int) : M_l_is [.frz (optI o), .frz (optI o)] = some (.frz (.bl true), [none, none]) := by
  unfold M_l_is m_l_is
  cases o with
  | none =>
    have n1 : oIsG false [.frz .non, .frz .non] = some (.frz (.bl true)) := rfl
    unfold optI
    simp only [ev_run, List.map_cons, List.map_nil, List.length_cons, List.length_nil, Nat.zero_add, Nat.reduceAdd, Nat.reduceSub, List.replicate_zero, List.cons_append, List.nil_append, ev_cons, ev_ifS, ev_T, ev_op, ev_aCons, ev_var, List.getElem?_cons_succ, List.getElem?_cons_zero, ↓evBind, ev_c, ev_aNil, ev_see1, ev_seeO, ev_see0, n1, ev_ret, ev_nil, if_true, ev_vr, List.take_succ_cons, List.take_zero, ev_kf, ev_kn]
  | some v =>
    have n1 : oIsG false [.frz (.int v), .frz .non] = some (.frz (.bl false)) := rfl
    unfold optI
    simp only [ev_run, List.map_cons, List.map_nil, List.length_cons, List.length_nil, Nat.zero_add, Nat.reduceAdd, Nat.reduceSub, List.replicate_zero, List.cons_append, List.nil_append, ev_cons, ev_ifS, ev_T, ev_op, ev_aCons, ev_var, List.getElem?_cons_succ, List.getElem?_cons_zero, ↓evBind, ev_c, ev_aNil, ev_see1, ev_seeO, ev_see0, n1, Bool.false_eq_true, ev_ret, ev_nil, if_false, ev_andV, isi_i, ev_notV, isi_ib, Bool.not_false, ev_eq, ev_d1, ev_ok_i, and_self, ev_q_i, beq_self_eq_true, if_true, ev_vr, List.take_succ_cons, List.take_zero, ev_kf, ev_kn]
/-! what is asked: a place, a cart, what is due -/
abbrev Ask := Sp × Str × Option Int
def askD (a : Ask) : D := .tup [spD a.1, .str a.2.1, optI a.2.2]
abbrev askL (as : List Ask) : O := .lst ((as.map askD).map .frz)
def AskOk (h : House) (a : Ask) : Prop := a.2.1 ∈ h.carts ∧ a.2.2 = farS h a.2.1 a.1
theorem app_ask (as : List Ask) (a : Ask) (h : as.length < 1000000) : mAppend (askL as) [.frz (askD a)] = some (askL (as ++ [a]), .frz .non) := by
  show mAppend (.lst ((as.map askD).map .frz)) [.frz (askD a)] = _
  rw [ev_app, if_pos (by rw [List.length_map]; exact h)]
  unfold askL
  rw [show (as ++ [a]).map askD = as.map askD ++ [askD a] by simp]
def carA : GS := (gsDrop (gMut mAppend (gVar 5) (gaCons (gFrz (gSeq .tup (gaCons (gFrz (gSeq .tup (gaCons (gBin oIx (gVar 6) (gC (.int 0))) (gaCons (gVar 7) gaNil)))) (gaCons (gVar 9) (gaCons (gMethD oGet1 (gVar 8) (gaCons (gFrz (gSeq .tup (gaCons (gVar 9) (gaCons (gC (.int 0)) gaNil)))) gaNil)) gaNil))))) gaNil)))
def celA : GS := (gsCons (gsSet 8 (gFrz (gCall M_l_first_turns (gaCons (gVar 4) (gaCons (gFrz (gSeq .tup (gaCons (gBin oIx (gVar 6) (gC (.int 0))) (gaCons (gVar 7) gaNil)))) gaNil)))))
  (gsFor (gBin oIx (gVar 4) (gC (.int 1))) (ggName 9) carA))
def blsA : GS := (gsRange1 (gaCons (gBin oIx (gVar 6) (gC (.int 1))) gaNil) (ggName 7) celA)
def endA : GS := (gsIf (gNotT (gTru (gCallF M_l_is (gaCons (gCallF M_far (gaCons (gVar 2) (gaCons (gBin oIx (gVar 10) (gC (.int 0))) (gaCons (gBin oIx (gVar 10) (gC (.int 1))) gaNil)))) (gaCons (gBin oIx (gVar 10) (gC (.int 2))) gaNil)))))
    (gsRet (gC (.bl false)))
    gsNil)
theorem law_eq : m_law = (gsCons (gsSet 1 (gCall M_l_feed (gaCons (gVar 0) gaNil)))
  (gsCons (gsPut (gFrz (gCall M_l_draw (gaCons (gVar 1) (gaCons (gC (.int 12)) gaNil)))) (gVar 1) (gC (.int 2)))
  (gsCons (gsSet 2 (gFrz (gCall M_l_house (gaCons (gVar 1) gaNil))))
  (gsCons (gsSet 3 (gCall M_l_feed (gaCons (gVar 0) gaNil)))
  (gsCons (gsPut (gFrz (gCall M_l_draw (gaCons (gVar 3) (gaCons (gC (.int 12)) gaNil)))) (gVar 3) (gC (.int 2)))
  (gsCons (gsSet 4 (gFrz (gCall M_l_house (gaCons (gVar 3) gaNil))))
  (gsCons (gsSet 5 (gSeq .lst gaNil))
  (gsCons (gsFor (gBin oIx (gVar 4) (gC (.int 0))) (ggName 6) blsA)
  (gsCons (gsFor (gBin oAdd (gVar 5) (gOp oListRev (gaCons (gVar 5) gaNil))) (ggName 10) endA)
  (gsRet (gBin oEq (gVar 2) (gVar 4)))))))))))) := rfl
section
variable (s0 s1 s2 s3 : Option O) (h : House)
theorem car_step (as : List Ask) (b : Belt) (k : Int) (kn : List (Sp × Int)) (a9 a10 : Option O) (c : Str) (hl : as.length < 1000000) :
    (ggName 9 (.str c) [s0, s1, s2, s3, some (.frz (houseD h)), some (askL as), some (fB b), some (.frz (.int k)), some (.frz (.dct (kpD kn))), a9, a10]).bind carA =
      some (.nx, [s0, s1, s2, s3, some (.frz (houseD h)), some (askL (as ++ [((b.name, k), c, atP kn (c, 0))])), some (fB b), some (.frz (.int k)), some (.frz (.dct (kpD kn))), some (fS c), a10]) := by
  have e1 := app_ask as ((b.name, k), c, atP kn (c, 0)) hl
  have e2 := get_kp (c, 0) kn
  unfold askD at e1
  unfold spD at e1 e2
  dsimp only at e1 e2
  unfold carA
  generalize optI (atP kn (c, 0)) = ov at *
  simp only [ev_name, List.length_cons, List.length_nil, Nat.zero_add, Nat.reduceAdd, Nat.reduceLT, List.set_cons_succ, List.set_cons_zero, if_true, ↓evBind, ev_drop, ev_mut, ev_var, List.getElem?_cons_succ, List.getElem?_cons_zero, ev_aCons, ev_frz, ev_seq, ev_op, ev_c, ev_aNil, ev_see1, ev_seeO, ev_see0, ev_ix, xb0, Nat.reduceLeDiff, ev_own1, ev_own0, ev_d3, ev_dl1, ev_d1, ev_dl0, ev_methD, e2, e1]
theorem cel_step {st : Int} (g : GoodH st h) (as : List Ask) (b : Belt) (hb : b ∈ h.belts) (k : Int) (k0 : 0 ≤ k) (k1 : k < b.long) (a7 a8 a9 a10 : Option O) (hl : as.length < 900000) (ha : ∀ a ∈ as, AskOk h a) :
    ∃ as' a8' a9', as'.length ≤ as.length + 5 ∧ (∀ a ∈ as', AskOk h a) ∧ (ggName 7 (.int k) [s0, s1, s2, s3, some (.frz (houseD h)), some (askL as), some (fB b), a7, a8, a9, a10]).bind celA =
      some (.nx, [s0, s1, s2, s3, some (.frz (houseD h)), some (askL as'), some (fB b), some (.frz (.int k)), a8', a9', a10]) := by
  have vs : Vs h (b.name, k) := .inl ⟨b, hb, rfl, k0, k1⟩
  obtain ⟨kn, hk, ef⟩ := x_first g vs
  have c5 := g.c5
  obtain ⟨Γ', el, as', a9', e1, e2, rfl⟩ := loop_gen (g := ggName 9) (f := carA) D.str (fun pre Γ => ∃ as' a9, as'.length ≤ as.length + pre.length ∧ (∀ a ∈ as', AskOk h a) ∧ Γ = [s0, s1, s2, s3, some (.frz (houseD h)), some (askL as'), some (fB b), some (.frz (.int k)), some (.frz (.dct (kpD kn))), a9, a10]) h.carts []
    [s0, s1, s2, s3, some (.frz (houseD h)), some (askL as), some (fB b), some (.frz (.int k)), some (.frz (.dct (kpD kn))), a9, a10] ⟨as, a9, by simp, ha, rfl⟩ (by
      rintro q x post Γ ex ⟨as', a9, l1, l2, rfl⟩
      have lq : q.length + 1 ≤ 5 := by have := congrArg List.length ex; simp at this; omega
      rw [List.nil_append] at *
      refine ⟨_, car_step s0 s1 s2 s3 h as' b k kn a9 a10 x (by omega), _, _, ?_, ?_, rfl⟩
      · simp; omega
      · intro a ma
        rcases List.mem_append.mp ma with ma | ma
        · exact l2 a ma
        · rw [List.mem_singleton] at ma
          subst ma
          have hx : x ∈ h.carts := by rw [ex]; simp
          exact ⟨hx, hk x hx⟩)
  rw [List.nil_append] at *
  refine ⟨as', some (.frz (.dct (kpD kn))), a9', by omega, e2, ?_⟩
  unfold spD at ef
  dsimp only at ef
  unfold celA
  simp only [ev_name, List.length_cons, List.length_nil, Nat.zero_add, Nat.reduceAdd, Nat.reduceLT, List.set_cons_succ, List.set_cons_zero, if_true, ↓evBind, ev_cons, ev_set, ev_frz, ev_call, ev_aCons, ev_var, List.getElem?_cons_succ, List.getElem?_cons_zero, ev_seq, ev_op, ev_c, ev_aNil, ev_see1, ev_seeO, ev_see0, ev_ix, xb0, Nat.reduceLeDiff, ev_own1, ev_own0, ev_d3, ev_dl1, ev_d1, ev_dl0, ev_take1, ev_take0, ef, ev_pb1, ev_pb0, d_kp, ev_for, xh1, el]
theorem bls_step {st : Int} (g : GoodH st h) (as : List Ask) (b : Belt) (hb : b ∈ h.belts) (a6 a7 a8 a9 a10 : Option O) (hl : as.length < 800000) (ha : ∀ a ∈ as, AskOk h a) :
    ∃ as' a7' a8' a9', as'.length ≤ as.length + 300 ∧ (∀ a ∈ as', AskOk h a) ∧ (ggName 6 (beltD b) [s0, s1, s2, s3, some (.frz (houseD h)), some (askL as), a6, a7, a8, a9, a10]).bind blsA =
      some (.nx, [s0, s1, s2, s3, some (.frz (houseD h)), some (askL as'), some (fB b), a7', a8', a9', a10]) := by
  have lg := g.lg b hb
  obtain ⟨Γ', el, as', a7', a8', a9', e1, e2, rfl⟩ := loop_gen (g := ggName 7) (f := celA) (fun k : Nat => D.int (0 + (k : Int))) (fun pre Γ => ∃ as' a7 a8 a9, as'.length ≤ as.length + 5 * pre.length ∧ (∀ a ∈ as', AskOk h a) ∧ Γ = [s0, s1, s2, s3, some (.frz (houseD h)), some (askL as'), some (fB b), a7, a8, a9, a10]) (List.range b.long.toNat) []
    [s0, s1, s2, s3, some (.frz (houseD h)), some (askL as), some (fB b), a7, a8, a9, a10] ⟨as, a7, a8, a9, by simp, ha, rfl⟩ (by
      rintro q x post Γ ex ⟨as', a7, a8, a9, l1, l2, rfl⟩
      rw [List.nil_append] at *
      have lq : q.length + 1 ≤ b.long.toNat := by have := congrArg List.length ex; simp at this; omega
      have hx : x < b.long.toNat := List.mem_range.mp (by rw [ex]; simp)
      obtain ⟨as2, a8', a9', m1, m2, e⟩ := cel_step s0 s1 s2 s3 h g as' b hb (0 + (x : Int)) (by omega) (by omega) a7 a8 a9 a10 (by omega) l2
      refine ⟨_, e, as2, _, a8', a9', ?_, m2, rfl⟩
      simp; omega)
  rw [List.nil_append] at *
  rw [List.length_range] at e1
  refine ⟨as', a7', a8', a9', by omega, e2, ?_⟩
  have el : gsLoop (ggName 7) celA (rngD 0 b.long.toNat) [s0, s1, s2, s3, some (.frz (houseD h)), some (askL as), some (fB b), a7, a8, a9, a10] = some (.nx, [s0, s1, s2, s3, some (.frz (houseD h)), some (askL as'), some (fB b), a7', a8', a9', a10]) := el
  have i1 : int1 [.own (.frz (.int b.long))] = some b.long := int1_of (by omega)
  unfold blsA
  generalize celA = ca at *
  simp only [ev_name, List.length_cons, List.length_nil, Nat.zero_add, Nat.reduceAdd, Nat.reduceLT, List.set_cons_succ, List.set_cons_zero, if_true, ↓evBind, ev_r1, ev_aCons, ev_op, ev_var, List.getElem?_cons_succ, List.getElem?_cons_zero, ev_c, ev_aNil, ev_see1, ev_seeO, ev_see0, ev_ix, xb1, i1, el]
theorem ask0 (a : Ask) : oIx1 (.frz (askD a)) (.int 0) = some (.frz (spD a.1)) := by unfold askD; simp only [ev_ixT, atI_lit0, Option.map_some]
theorem ask1 (a : Ask) : oIx1 (.frz (askD a)) (.int 1) = some (.frz (.str a.2.1)) := by unfold askD; simp only [ev_ixT, atI_lit1, Option.map_some]
theorem ask2 (a : Ask) : oIx1 (.frz (askD a)) (.int 2) = some (.frz (optI a.2.2)) := by unfold askD; simp only [ev_ixT, atI_lit2, Option.map_some]
theorem end_step {st : Int} (g : GoodH st h) (a : Ask) (ha : AskOk h a) (s4 s5 a6 a7 a8 a9 a10 : Option O) :
    (ggName 10 (askD a) [s0, s1, some (.frz (houseD h)), s3, s4, s5, a6, a7, a8, a9, a10]).bind endA = some (.nx, [s0, s1, some (.frz (houseD h)), s3, s4, s5, a6, a7, a8, a9, some (.frz (askD a))]) := by
  have e1 := x_far h g a.2.1 a.1.1 a.1.2 ha.1
  have e2 := x_is a.2.2
  have e3 : farD h a.2.1 a.1.1 a.1.2 = optI a.2.2 := by rw [farD_opt, ha.2]; rfl
  rw [e3] at e1
  have e4 : spD a.1 = .tup [.str a.1.1, .int a.1.2] := rfl
  rw [← e4] at e1
  have q0 := ask0 a
  have q1 := ask1 a
  have q2 := ask2 a
  obtain ⟨fv, hfv⟩ := flat_opt a.2.2
  unfold endA
  generalize askD a = ad at *
  generalize spD a.1 = sd at *
  generalize optI a.2.2 = od at *
  simp only [ev_name, List.length_cons, List.length_nil, Nat.zero_add, Nat.reduceAdd, Nat.reduceLT, List.set_cons_succ, List.set_cons_zero, if_true, ↓evBind, ev_ifS, ev_notT, ev_tru, ev_callF, ev_aCons, ev_var, List.getElem?_cons_succ, List.getElem?_cons_zero, ev_op, ev_c, ev_aNil, ev_see1, ev_seeO, ev_see0, ev_ix, q0, q1, ev_dl1, ev_d1, ev_dl0, List.map_cons, List.map_nil, e1, hfv, q2, e2, ev_fo_b, ev_truB, Bool.not_true, Bool.false_eq_true, ev_ret, ev_nil, if_false]
end
theorem x_law (ns : List Int) (hn : ns.length ≤ 63) : ∃ fin, M_law [.frz (.scr ns)] = some (.frz (.bl true), fin) := by
  have e1 := x_feed ns hn
  have g0 : GoodF (feed0 ns) := ⟨Int.le_refl 0, hn⟩
  have e2 := xd g0 (m := 12) (by decide) (by decide)
  have v0 := drawV_nonneg (feed0 ns) (m := 12) (by decide)
  have v1 := drawV_lt (feed0 ns) (m := 12) (by decide)
  have e3 := set_style (drawF (feed0 ns) 12) (drawV (feed0 ns) 12)
  have g1 : GoodF { drawF (feed0 ns) 12 with style := drawV (feed0 ns) 12 } := ⟨(g0.draw 12).pos, (g0.draw 12).len⟩
  have e4 := x_house _ g1 v0 v1
  have gh := house_good _ g1 v0 v1
  generalize houseM 5 { drawF (feed0 ns) 12 with style := drawV (feed0 ns) 12 } = p at *
  obtain ⟨G, h⟩ := p
  dsimp only at e4 gh
  have hd : D.tup [.lst (O.dl (h.belts.map fB)), .lst (h.carts.map .str)] = houseD h := by rw [dl_fB]; rfl
  have b6 := gh.b6
  obtain ⟨Γ', eO, as, a6, a7, a8, a9, l1, l2, rfl⟩ := loop_gen (g := ggName 6) (f := blsA) beltD (fun pre Γ => ∃ as a6 a7 a8 a9, as.length ≤ 300 * pre.length ∧ (∀ a ∈ as, AskOk h a) ∧ Γ = [some (.frz (.scr ns)), some (feedT G), some (.frz (houseD h)), some (feedT G), some (.frz (houseD h)), some (askL as), a6, a7, a8, a9, none]) h.belts []
    [some (.frz (.scr ns)), some (feedT G), some (.frz (houseD h)), some (feedT G), some (.frz (houseD h)), some (askL []), none, none, none, none, none] ⟨[], _, _, _, _, by simp, (fun a m => by cases m), rfl⟩ (by
      rintro q x post Γ ex ⟨as, a6, a7, a8, a9, l1, l2, rfl⟩
      rw [List.nil_append] at *
      have lq : q.length + 1 ≤ 6 := by have := congrArg List.length ex; simp at this; omega
      obtain ⟨as', a7', a8', a9', m1, m2, e⟩ := bls_step (some (.frz (.scr ns))) (some (feedT G)) (some (.frz (houseD h))) (some (feedT G)) h gh as x (by rw [ex]; simp) a6 a7 a8 a9 none (by omega) l2
      refine ⟨_, e, as', _, a7', a8', a9', ?_, m2, rfl⟩
      simp; omega)
  rw [List.nil_append] at l1
  have ll : as.length ≤ 1800 := by omega
  obtain ⟨Γ2, eE, a10, rfl⟩ := loop_inv (g := ggName 10) (f := endA) askD (fun Γ => ∃ a10, Γ = [some (.frz (.scr ns)), some (feedT G), some (.frz (houseD h)), some (feedT G), some (.frz (houseD h)), some (askL as), a6, a7, a8, a9, a10]) (as ++ as.reverse) _ ⟨none, rfl⟩ (by
    rintro a ha Γ ⟨a10, rfl⟩
    have hok : AskOk h a := by
      rcases List.mem_append.mp ha with z | z
      · exact l2 a z
      · exact l2 a (List.mem_reverse.mp z)
    exact ⟨_, end_step _ _ _ h gh a hok _ _ _ _ _ _ a10, _, rfl⟩)
  have er : oListRev [askL as] = some (askL as.reverse) := by
    show oListRev [.lst ((as.map askD).map .frz)] = _
    rw [ev_listRev]
    unfold askL
    rw [show as.reverse.map askD = (as.map askD).reverse by simp]
  have ea : oAdd [askL as, askL as.reverse] = some (askL (as ++ as.reverse)) := by
    show oAdd [.lst ((as.map askD).map .frz), .lst ((as.reverse.map askD).map .frz)] = _
    rw [ev_addL, ev_ld2, Option.bind_some, ev_ld2, Option.bind_some, if_pos (by simp; omega), ← List.map_append]
  have dl : O.dl (((as ++ as.reverse).map askD).map .frz) = (as ++ as.reverse).map askD := dl_frz _
  have eh := eq_house h
  refine ⟨[none], ?_⟩
  have e0 : (askL [] : O) = .lst [] := rfl
  rw [e0] at eO
  unfold M_law
  rw [law_eq]
  generalize blsA = ba at *
  generalize endA = eA at *
  simp only [ev_run, List.map_cons, List.map_nil, List.length_cons, List.length_nil, Nat.zero_add, Nat.reduceSub, List.replicate_succ, List.replicate_zero, List.cons_append, List.nil_append, ev_cons, ev_set, ev_call, ev_aCons, ev_var, List.getElem?_cons_zero, ↓evBind, ev_aNil, ev_take1, ev_take0, e1, ev_pb1, ev_pb0, Nat.reduceAdd, Nat.reduceLT, List.set_cons_succ, List.set_cons_zero, if_true, ev_put, ev_frz, List.getElem?_cons_succ, ev_c, ev_take2, e2, ev_pb2, ev_d1, e3, e4, ev_d3, ev_dl1, ev_d2, ev_dl0, hd, ev_seq, Nat.reduceLeDiff, ev_own0, ev_for, ev_op, ev_see1, ev_seeO, ev_see0, ev_ix, xh0, eO, ev_seeV, Option.join_some, er, ea, dl, eE, ev_ret, eh, ev_vr, List.take_succ_cons, List.take_zero, ev_kf, ev_kn]
end Carry
namespace Carry
open PySem L2

def spLaw (K : PySem.W.Frag) : L2.Sp := fun vs H Q _ => ∃ (a : Addr) (ns : List Int), vs = [.ref a] ∧ SqL K H a (ns.map V.int) ∧ ns.length ≤ 63 ∧ ∀ H', Q (.bl true) H'
theorem ok_fin {P : Program} {w : World} {K : PySem.W.Frag} {mg : Str → Option Value} {base : Heap} {t : Adr} (T : Txt K mg t) : FnOk P w K mg base CX0 4 t.f_law t.d_law ["_law_script"] (spLaw K) := by
  have z_begins := ok_begins (P := P) (w := w) (base := base) T
  have z_l_feed := ok_l_feed (P := P) (w := w) (base := base) T
  have z_l_draw := ok_l_draw (P := P) (w := w) (base := base) T
  have z_l_name := ok_l_name (P := P) (w := w) (base := base) T
  have z_l_after := ok_l_after (P := P) (w := w) (base := base) T
  have z_l_is := ok_l_is (P := P) (w := w) (base := base) T
  have z_far := ok_far (P := P) (w := w) (base := base) T z_begins
  have z_l_outs := ok_l_outs (P := P) (w := w) (base := base) T z_l_draw
  have z_l_first_turns := ok_l_first_turns (P := P) (w := w) (base := base) T z_l_after
  have z_l_house := ok_l_house (P := P) (w := w) (base := base) T z_l_draw z_l_name z_l_outs
  exact law_mir (ok_law T z_l_draw z_l_feed z_l_first_turns z_l_house z_l_is z_far) x_law
theorem all_mk {l : PySem.W.OpenLaw} {w : World} {K : PySem.W.Frag} {h : Heap} {mg : Str → Option Value} {fa f_far f_begins f_l_feed f_l_draw f_l_name f_l_outs f_l_house f_l_after f_l_first_turns f_l_is f_law : Addr} (X : K.In h) (G : h.Ns mainGlobals mg) (hfa : mg "law" = some (.ref fa))
    {od0 an0 : Option Addr} {sl0 : Array (Option Value)} {oc0 kV0 dc0 pm0 cd0 ct0 : Value}
    (a0 : PySem.W.nsIn K mainGlobals "far" = some (some (.ref f_far))) (l0 : K.lookup f_far = some ⟨oc0, od0, .func (PySem.W.fnOf "far" "far" (defArgs s_far) (defBody s_far) (defScope s_far) .none kV0 dc0 pm0 an0 cd0 ct0), sl0⟩) (c0 : PySem.W.codeIn K cd0 "far" = true) (k0 : PySem.W.keepIn K (.ref f_far) = true)
    {od1 an1 : Option Addr} {sl1 : Array (Option Value)} {oc1 kV1 dc1 pm1 cd1 ct1 : Value}
    (a1 : PySem.W.nsIn K mainGlobals "begins" = some (some (.ref f_begins))) (l1 : K.lookup f_begins = some ⟨oc1, od1, .func (PySem.W.fnOf "begins" "begins" (defArgs s_begins) (defBody s_begins) (defScope s_begins) .none kV1 dc1 pm1 an1 cd1 ct1), sl1⟩) (c1 : PySem.W.codeIn K cd1 "begins" = true) (k1 : PySem.W.keepIn K (.ref f_begins) = true)
    {od2 an2 : Option Addr} {sl2 : Array (Option Value)} {oc2 kV2 dc2 pm2 cd2 ct2 : Value}
    (a2 : PySem.W.nsIn K mainGlobals "_law_feed" = some (some (.ref f_l_feed))) (l2 : K.lookup f_l_feed = some ⟨oc2, od2, .func (PySem.W.fnOf "_law_feed" "_law_feed" (defArgs s_l_feed) (defBody s_l_feed) (defScope s_l_feed) .none kV2 dc2 pm2 an2 cd2 ct2), sl2⟩) (c2 : PySem.W.codeIn K cd2 "_law_feed" = true) (k2 : PySem.W.keepIn K (.ref f_l_feed) = true)
    {od3 an3 : Option Addr} {sl3 : Array (Option Value)} {oc3 kV3 dc3 pm3 cd3 ct3 : Value}
    (a3 : PySem.W.nsIn K mainGlobals "_law_draw" = some (some (.ref f_l_draw))) (l3 : K.lookup f_l_draw = some ⟨oc3, od3, .func (PySem.W.fnOf "_law_draw" "_law_draw" (defArgs s_l_draw) (defBody s_l_draw) (defScope s_l_draw) .none kV3 dc3 pm3 an3 cd3 ct3), sl3⟩) (c3 : PySem.W.codeIn K cd3 "_law_draw" = true) (k3 : PySem.W.keepIn K (.ref f_l_draw) = true)
    {od4 an4 : Option Addr} {sl4 : Array (Option Value)} {oc4 kV4 dc4 pm4 cd4 ct4 : Value}
    (a4 : PySem.W.nsIn K mainGlobals "_law_name" = some (some (.ref f_l_name))) (l4 : K.lookup f_l_name = some ⟨oc4, od4, .func (PySem.W.fnOf "_law_name" "_law_name" (defArgs s_l_name) (defBody s_l_name) (defScope s_l_name) .none kV4 dc4 pm4 an4 cd4 ct4), sl4⟩) (c4 : PySem.W.codeIn K cd4 "_law_name" = true) (k4 : PySem.W.keepIn K (.ref f_l_name) = true)
    {od5 an5 : Option Addr} {sl5 : Array (Option Value)} {oc5 kV5 dc5 pm5 cd5 ct5 : Value}
    (a5 : PySem.W.nsIn K mainGlobals "_law_outs" = some (some (.ref f_l_outs))) (l5 : K.lookup f_l_outs = some ⟨oc5, od5, .func (PySem.W.fnOf "_law_outs" "_law_outs" (defArgs s_l_outs) (defBody s_l_outs) (defScope s_l_outs) .none kV5 dc5 pm5 an5 cd5 ct5), sl5⟩) (c5 : PySem.W.codeIn K cd5 "_law_outs" = true) (k5 : PySem.W.keepIn K (.ref f_l_outs) = true)
    {od6 an6 : Option Addr} {sl6 : Array (Option Value)} {oc6 kV6 dc6 pm6 cd6 ct6 : Value}
    (a6 : PySem.W.nsIn K mainGlobals "_law_house" = some (some (.ref f_l_house))) (l6 : K.lookup f_l_house = some ⟨oc6, od6, .func (PySem.W.fnOf "_law_house" "_law_house" (defArgs s_l_house) (defBody s_l_house) (defScope s_l_house) .none kV6 dc6 pm6 an6 cd6 ct6), sl6⟩) (c6 : PySem.W.codeIn K cd6 "_law_house" = true) (k6 : PySem.W.keepIn K (.ref f_l_house) = true)
    {od7 an7 : Option Addr} {sl7 : Array (Option Value)} {oc7 kV7 dc7 pm7 cd7 ct7 : Value}
    (a7 : PySem.W.nsIn K mainGlobals "_law_after" = some (some (.ref f_l_after))) (l7 : K.lookup f_l_after = some ⟨oc7, od7, .func (PySem.W.fnOf "_law_after" "_law_after" (defArgs s_l_after) (defBody s_l_after) (defScope s_l_after) .none kV7 dc7 pm7 an7 cd7 ct7), sl7⟩) (c7 : PySem.W.codeIn K cd7 "_law_after" = true) (k7 : PySem.W.keepIn K (.ref f_l_after) = true)
    {od8 an8 : Option Addr} {sl8 : Array (Option Value)} {oc8 kV8 dc8 pm8 cd8 ct8 : Value}
    (a8 : PySem.W.nsIn K mainGlobals "_law_first_turns" = some (some (.ref f_l_first_turns))) (l8 : K.lookup f_l_first_turns = some ⟨oc8, od8, .func (PySem.W.fnOf "_law_first_turns" "_law_first_turns" (defArgs s_l_first_turns) (defBody s_l_first_turns) (defScope s_l_first_turns) .none kV8 dc8 pm8 an8 cd8 ct8), sl8⟩) (c8 : PySem.W.codeIn K cd8 "_law_first_turns" = true) (k8 : PySem.W.keepIn K (.ref f_l_first_turns) = true)
    {od9 an9 : Option Addr} {sl9 : Array (Option Value)} {oc9 kV9 dc9 pm9 cd9 ct9 : Value}
    (a9 : PySem.W.nsIn K mainGlobals "_law_is" = some (some (.ref f_l_is))) (l9 : K.lookup f_l_is = some ⟨oc9, od9, .func (PySem.W.fnOf "_law_is" "_law_is" (defArgs s_l_is) (defBody s_l_is) (defScope s_l_is) .none kV9 dc9 pm9 an9 cd9 ct9), sl9⟩) (c9 : PySem.W.codeIn K cd9 "_law_is" = true) (k9 : PySem.W.keepIn K (.ref f_l_is) = true)
    {od10 an10 : Option Addr} {sl10 : Array (Option Value)} {oc10 kV10 dc10 pm10 cd10 ct10 : Value}
    (a10 : PySem.W.nsIn K mainGlobals "law" = some (some (.ref f_law))) (l10 : K.lookup f_law = some ⟨oc10, od10, .func (PySem.W.fnOf "law" "law" (defArgs s_law) (defBody s_law) (defScope s_law) .none kV10 dc10 pm10 an10 cd10 ct10), sl10⟩) (c10 : PySem.W.codeIn K cd10 "law" = true) (k10 : PySem.W.keepIn K (.ref f_law) = true)
    (z_len : PySem.W.nsIn K mainGlobals "len" = some none)
    (z_isinstance : PySem.W.nsIn K mainGlobals "isinstance" = some none)
    (z_int : PySem.W.nsIn K mainGlobals "int" = some none)
    (z_bool : PySem.W.nsIn K mainGlobals "bool" = some none)
    (z_str : PySem.W.nsIn K mainGlobals "str" = some none)
    (z_list : PySem.W.nsIn K mainGlobals "list" = some none)
    (z_tuple : PySem.W.nsIn K mainGlobals "tuple" = some none)
    (z_range : PySem.W.nsIn K mainGlobals "range" = some none)
    (z_reversed : PySem.W.nsIn K mainGlobals "reversed" = some none)
    (z_min : PySem.W.nsIn K mainGlobals "min" = some none)
    : ∃ fd : FuncData, (∀ (s : Shared) (v : Value), BindsTo s fd ⟨[v], []⟩ [("_law_script", v)]) ∧ ∀ base : Heap, K.In base → base.Ns mainGlobals mg → FnOk l.prog w K mg base CX0 4 fa fd ["_law_script"] (spLaw K) := by
  have e := hfa.symm.trans (PySem.W.mg_of X G a10)
  cases e
  have F0 := fun_mk (st := s_far) l0 c0 k0
  have D0 : DefAt K mg "far" s_far f_far _ ["house", "place", "cart"] := ⟨F0, PySem.W.mg_of X G a0, F0.binds fun _ _ _ _ _ _ us hl => match us, hl with | [_, _, _], _ => rfl⟩
  have F1 := fun_mk (st := s_begins) l1 c1 k1
  have D1 : DefAt K mg "begins" s_begins f_begins _ ["house", "cart"] := ⟨F1, PySem.W.mg_of X G a1, F1.binds fun _ _ _ _ _ _ us hl => match us, hl with | [_, _], _ => rfl⟩
  have F2 := fun_mk (st := s_l_feed) l2 c2 k2
  have D2 : DefAt K mg "_law_feed" s_l_feed f_l_feed _ ["_law_script"] := ⟨F2, PySem.W.mg_of X G a2, F2.binds fun _ _ _ _ _ _ us hl => match us, hl with | [_], _ => rfl⟩
  have F3 := fun_mk (st := s_l_draw) l3 c3 k3
  have D3 : DefAt K mg "_law_draw" s_l_draw f_l_draw _ ["_law_feed_here", "_law_many"] := ⟨F3, PySem.W.mg_of X G a3, F3.binds fun _ _ _ _ _ _ us hl => match us, hl with | [_, _], _ => rfl⟩
  have F4 := fun_mk (st := s_l_name) l4 c4 k4
  have D4 : DefAt K mg "_law_name" s_l_name f_l_name _ ["_law_feed_here", "_law_k"] := ⟨F4, PySem.W.mg_of X G a4, F4.binds fun _ _ _ _ _ _ us hl => match us, hl with | [_, _], _ => rfl⟩
  have F5 := fun_mk (st := s_l_outs) l5 c5 k5
  have D5 : DefAt K mg "_law_outs" s_l_outs f_l_outs _ ["_law_feed_here", "_law_later", "_law_carts"] := ⟨F5, PySem.W.mg_of X G a5, F5.binds fun _ _ _ _ _ _ us hl => match us, hl with | [_, _, _], _ => rfl⟩
  have F6 := fun_mk (st := s_l_house) l6 c6 k6
  have D6 : DefAt K mg "_law_house" s_l_house f_l_house _ ["_law_feed_here"] := ⟨F6, PySem.W.mg_of X G a6, F6.binds fun _ _ _ _ _ _ us hl => match us, hl with | [_], _ => rfl⟩
  have F7 := fun_mk (st := s_l_after) l7 c7 k7
  have D7 : DefAt K mg "_law_after" s_l_after f_l_after _ ["_law_house_here", "_law_spot"] := ⟨F7, PySem.W.mg_of X G a7, F7.binds fun _ _ _ _ _ _ us hl => match us, hl with | [_, _], _ => rfl⟩
  have F8 := fun_mk (st := s_l_first_turns) l8 c8 k8
  have D8 : DefAt K mg "_law_first_turns" s_l_first_turns f_l_first_turns _ ["_law_house_here", "_law_place"] := ⟨F8, PySem.W.mg_of X G a8, F8.binds fun _ _ _ _ _ _ us hl => match us, hl with | [_, _], _ => rfl⟩
  have F9 := fun_mk (st := s_l_is) l9 c9 k9
  have D9 : DefAt K mg "_law_is" s_l_is f_l_is _ ["_law_found", "_law_due"] := ⟨F9, PySem.W.mg_of X G a9, F9.binds fun _ _ _ _ _ _ us hl => match us, hl with | [_, _], _ => rfl⟩
  have F10 := fun_mk (st := s_law) l10 c10 k10
  have D10 : DefAt K mg "law" s_law fa _ ["_law_script"] := ⟨F10, PySem.W.mg_of X G a10, F10.binds fun _ _ _ _ _ _ us hl => match us, hl with | [_], _ => rfl⟩
  have T : Txt K mg ⟨f_far, _, f_begins, _, f_l_feed, _, f_l_draw, _, f_l_name, _, f_l_outs, _, f_l_house, _, f_l_after, _, f_l_first_turns, _, f_l_is, _, fa, _⟩ := ⟨D0, D1, D2, D3, D4, D5, D6, D7, D8, D9, D10, PySem.W.mg_none_of X G z_len, PySem.W.mg_none_of X G z_isinstance, PySem.W.mg_none_of X G z_int, PySem.W.mg_none_of X G z_bool, PySem.W.mg_none_of X G z_str, PySem.W.mg_none_of X G z_list, PySem.W.mg_none_of X G z_tuple, PySem.W.mg_none_of X G z_range, PySem.W.mg_none_of X G z_reversed, PySem.W.mg_none_of X G z_min⟩
  exact ⟨PySem.W.fnOf "law" "law" (defArgs s_law) (defBody s_law) (defScope s_law) .none kV10 dc10 pm10 an10 cd10 ct10, fun s v => .of_eq rfl, fun base _ _ => ok_fin T⟩
theorem walk {l : PySem.W.OpenLaw} {q : Program} {loose : List Str} {XP : (Str → Option Value) → Heap → Prop} {YP : World → Heap → Prop} {d : DefRec} {K : Params → PySem.W.Frag} (hn : l.most = some 63) (hdf : d.params.defaults = [])
    (hY : ∀ (w : World) (h : Heap), YP w h → (K w.params).In h)
    (F : ∀ (w : World) (mg : Str → Option Value) (fa : Addr) (h : Heap), (K w.params).In h → h.Ns mainGlobals mg → mg d.name = some (.ref fa) →
      ∃ fd : FuncData, (∀ (s : Shared) (u : Value), BindsTo s fd ⟨[u], []⟩ [("_law_script", u)]) ∧ ∀ base : Heap, (K w.params).In base → base.Ns mainGlobals mg → FnOk l.prog w (K w.params) mg base CX0 4 fa fd ["_law_script"] (spLaw (K w.params))) :
    PySem.W.WalkO q loose XP YP l.row.toRowW d [] (fun f vs => PySem.call f vs) :=
  L2.walk_of (n := 63) (k := 4) (x := "_law_script") (CX := fun _ => CX0) (sp := fun w => spLaw (K w.params)) hn (by decide) hdf ⟨rfl, by decide, by decide⟩ hY F (fun _ _ a ns hl _ hS => ⟨a, ns, rfl, hS, hl, fun _ => rfl⟩) fun _ _ _ _ _ z => z
end Carry
open PySem PySem.W PyProof.Rows
set_option maxRecDepth 100000 in
set_option maxHeartbeats 0 in
theorem PySem.Challenge.cw_carry_k05_far_holds : PySem.Challenge.rw_carry_k05_far.Holds := by
  w_on; o_law; k_head; (case hw => w_witness2)
  k_fill
  refine Carry.walk (l := PySem.Challenge.rw_carry_k05_far) rfl rfl (fun w h Y => PySem.W.kIn_of Y) ?F
  case F =>
    intro w mg fa h KX G hmg
    refine' Carry.all_mk KX G hmg ?a0 ?l0 ?c0 ?k0 ?a1 ?l1 ?c1 ?k1 ?a2 ?l2 ?c2 ?k2 ?a3 ?l3 ?c3 ?k3 ?a4 ?l4 ?c4 ?k4 ?a5 ?l5 ?c5 ?k5 ?a6 ?l6 ?c6 ?k6 ?a7 ?l7 ?c7 ?k7 ?a8 ?l8 ?c8 ?k8 ?a9 ?l9 ?c9 ?k9 ?a10 ?l10 ?c10 ?k10 ?z_len ?z_isinstance ?z_int ?z_bool ?z_str ?z_list ?z_tuple ?z_range ?z_reversed ?z_min
    (case a0 => k_is)
    (case l0 => k_is)
    (case c0 => k_is)
    (case k0 => k_is)
    (case a1 => k_is)
    (case l1 => k_is)
    (case c1 => k_is)
    (case k1 => k_is)
    (case a2 => k_is)
    (case l2 => k_is)
    (case c2 => k_is)
    (case k2 => k_is)
    (case a3 => k_is)
    (case l3 => k_is)
    (case c3 => k_is)
    (case k3 => k_is)
    (case a4 => k_is)
    (case l4 => k_is)
    (case c4 => k_is)
    (case k4 => k_is)
    (case a5 => k_is)
    (case l5 => k_is)
    (case c5 => k_is)
    (case k5 => k_is)
    (case a6 => k_is)
    (case l6 => k_is)
    (case c6 => k_is)
    (case k6 => k_is)
    (case a7 => k_is)
    (case l7 => k_is)
    (case c7 => k_is)
    (case k7 => k_is)
    (case a8 => k_is)
    (case l8 => k_is)
    (case c8 => k_is)
    (case k8 => k_is)
    (case a9 => k_is)
    (case l9 => k_is)
    (case c9 => k_is)
    (case k9 => k_is)
    (case a10 => k_is)
    (case l10 => k_is)
    (case c10 => k_is)
    (case k10 => k_is)
    (case z_len => k_is)
    (case z_isinstance => k_is)
    (case z_int => k_is)
    (case z_bool => k_is)
    (case z_str => k_is)
    (case z_list => k_is)
    (case z_tuple => k_is)
    (case z_range => k_is)
    (case z_reversed => k_is)
    (case z_min => k_is)
