import PyProof.Rows.All
import Wide.All
import OpenK.AllK
import Wide.FinOn
import PySem.Challenge.RW_keyorders_k02_whole_what_rows_tell
import PyProof.EqAt
import PyProof.EqKinds
import PyProof.TupleCall
import KE.BitLaws
set_option Elab.async false
set_option linter.all false
set_option maxRecDepth 100000
/-! THE HAND LAYER, for ints, bools, texts, own classes, lists, tuples, dicts, comprehensions, walks over dicts, enumerate, zip, reversed, texts, calls, loops. Paste it whole ahead of your own text; what your proof does not reach may be deleted. -/
namespace L2
open PySem PySem.Spec PyProof.Rows

/-- a key: an int or a str -/
abbrev Key := Sum Int Str
def keyIs : Key → Value → Bool
  | .inl k, v => Value.isInt k v
  | .inr x, v => Value.isStrOf x v
def keyH (w : World) : Key → Int
  | .inl k => hashInt k
  | .inr x => hashStr w x
theorem keyIs_shape : ∀ {k : Key} {v : Value}, keyIs k v = true → (∃ i t, k = Sum.inl i ∧ v = Value.int i t) ∨ (∃ x t, k = Sum.inr x ∧ v = Value.str x t)
  | .inl i, v, h => by
    obtain ⟨t, e⟩ := Value.isInt_shape (k := i) (v := v) h
    exact .inl ⟨i, t, rfl, e⟩
  | .inr x, v, h => by
    obtain ⟨t, e⟩ := Value.isStrOf_shape (x := x) (v := v) h
    exact .inr ⟨x, t, rfl, e⟩
theorem keyIs_int (i : Int) (t : Tok) : keyIs (.inl i) (.int i t) = true := by simp [keyIs, Value.isInt]
theorem keyIs_str (x : Str) (t : Tok) : keyIs (.inr x) (.str x t) = true := by simp [keyIs, Value.isStrOf]
theorem key_ll (a b : Int) : decide ((Sum.inl a : Key) = Sum.inl b) = (a == b) := by
  by_cases e : a = b
  · subst e; simp
  · have h : ¬ (Sum.inl a : Key) = Sum.inl b := fun q => e (Sum.inl.inj q)
    rw [decide_eq_false h]
    exact (beq_eq_false_iff_ne.mpr e).symm
theorem key_rr (a b : Str) : decide ((Sum.inr a : Key) = Sum.inr b) = decide (a = b) := by
  by_cases e : a = b
  · subst e; simp
  · have h : ¬ (Sum.inr a : Key) = Sum.inr b := fun q => e (Sum.inr.inj q)
    rw [decide_eq_false h, decide_eq_false e]
theorem key_lr (a : Int) (b : Str) : decide ((Sum.inl a : Key) = Sum.inr b) = false := decide_eq_false (fun q => nomatch q)
theorem key_rl (a : Str) (b : Int) : decide ((Sum.inr a : Key) = Sum.inl b) = false := decide_eq_false (fun q => nomatch q)

def mixKind (prog : Program) (w : World) : PySem.KeyKind prog w Key where
  is := keyIs
  hash := keyH w
  inj := fun v a b ha hb => by
    rcases keyIs_shape ha with ⟨i, t, rfl, rfl⟩ | ⟨x, t, rfl, rfl⟩
    · rcases keyIs_shape hb with ⟨j, u, rfl, e⟩ | ⟨y, u, rfl, e⟩
      · injection e with e1 _; rw [e1]
      · exact nomatch e
    · rcases keyIs_shape hb with ⟨j, u, rfl, e⟩ | ⟨y, u, rfl, e⟩
      · exact nomatch e
      · injection e with e1 _; rw [e1]
  byValue := fun k v h => by
    rcases keyIs_shape h with ⟨i, t, rfl, rfl⟩ | ⟨x, t, rfl, rfl⟩ <;> rfl
  pyHash := fun hv h => by
    rcases keyIs_shape hv with ⟨i, t, rfl, rfl⟩ | ⟨x, t, rfl, rfl⟩
    · exact wpAny_pyHash_int h
    · exact wpAny_pyHash_str h
  eqBool := fun hu hv h => by
    rcases keyIs_shape hu with ⟨i, t, rfl, rfl⟩ | ⟨x, t, rfl, rfl⟩
    · rcases keyIs_shape hv with ⟨j, u, rfl, rfl⟩ | ⟨y, u, rfl, rfl⟩
      · rw [key_ll] at h; exact wpAny_eqBool_int h
      · rw [key_lr] at h; exact SeqAt.EqAt.int_str i t y u _ _ _ _ h
    · rcases keyIs_shape hv with ⟨j, u, rfl, rfl⟩ | ⟨y, u, rfl, rfl⟩
      · rw [key_rl] at h; exact SeqAt.EqAt.str_int x t j u _ _ _ _ h
      · rw [key_rr] at h; exact wpAny_eqBool_str h
  «strs» := fun k x t v h => by
    rcases keyIs_shape h with ⟨i, u, rfl, e⟩ | ⟨y, u, rfl, e⟩
    · exact nomatch e
    · injection e with e1 _
      subst e1
      cases v <;> rfl

theorem mixKind_is (prog : Program) (w : World) (k : Key) (v : Value) : (mixKind prog w).is k v = keyIs k v := rfl
theorem mixKind_int (prog : Program) (w : World) (i : Int) (t : Tok) : (mixKind prog w).is (.inl i) (.int i t) = true := keyIs_int i t
theorem mixKind_str (prog : Program) (w : World) (x : Str) (t : Tok) : (mixKind prog w).is (.inr x) (.str x t) = true := keyIs_str x t
end L2

namespace L2
open PySem PySem.Spec PyProof.Rows

/-- a value, without the heap -/
inductive V where
  | non | bl (b : Bool) | int (i : Int) | str (x : Str) | byt (b : Array UInt8) | flt (b : UInt64) | ref (a : Addr) | ty (n : String)
  deriving DecidableEq

def RelV : V → Value → Prop
  | .non, u => u = Value.none
  | .bl b, u => u = Value.bool b
  | .int i, u => ∃ t, u = Value.int i t
  | .str x, u => ∃ t, u = Value.str x t
  | .byt b, u => ∃ t, u = Value.bytes b t
  | .flt b, u => ∃ t, u = Value.float b t
  | .ref a, u => u = Value.ref a
  | .ty n, u => u = Value.type n

abbrev Vals : List V → List Value → Prop := Paired RelV
theorem Vals.length {xs : List V} {us : List Value} (r : Vals xs us) : xs.length = us.length := Paired.length r
theorem Vals.get : ∀ {xs : List V} {us : List Value} {i : Nat} {x : V}, Vals xs us → xs[i]? = some x → ∃ u, us[i]? = some u ∧ RelV x u
  | _, _, _, _, .nil, e => by simp at e
  | _, _, 0, _, .cons r _, e => by simp at e; subst e; exact ⟨_, rfl, r⟩
  | _, _, i + 1, x, .cons _ t, e => by
    obtain ⟨u, h1, h2⟩ := Vals.get (i := i) (x := x) t (by simpa using e)
    exact ⟨u, by simpa using h1, h2⟩
theorem Vals.set {x : V} {u : Value} (r : RelV x u) : ∀ {xs : List V} {us : List Value} (i : Nat), Vals xs us → Vals (xs.set i x) (us.set i u)
  | _, _, _, .nil => .nil
  | _, _, 0, .cons _ t => .cons r t
  | _, _, i + 1, .cons q t => .cons q (Vals.set r i t)
theorem Vals.append : ∀ {xs ys : List V} {us ws : List Value}, Vals xs us → Vals ys ws → Vals (xs ++ ys) (us ++ ws)
  | _, _, _, _, .nil, s => s
  | _, _, _, _, .cons r t, s => .cons r (Vals.append t s)
theorem Vals.take : ∀ {xs : List V} {us : List Value} (n : Nat), Vals xs us → Vals (xs.take n) (us.take n)
  | _, _, 0, _ => .nil
  | _, _, _ + 1, .nil => .nil
  | _, _, n + 1, .cons r t => .cons r (Vals.take n t)
theorem Vals.drop : ∀ {xs : List V} {us : List Value} (n : Nat), Vals xs us → Vals (xs.drop n) (us.drop n)
  | _, _, 0, r => r
  | _, _, _ + 1, .nil => .nil
  | _, _, n + 1, .cons _ t => Vals.drop n t
theorem Vals.none_of : ∀ {xs : List V} {us : List Value} {i : Nat}, Vals xs us → xs[i]? = none → us[i]? = none := fun {xs us i} r e => by
  have h1 := r.length
  have h2 : xs.length ≤ i := List.getElem?_eq_none_iff.mp e
  exact List.getElem?_eq_none_iff.mpr (by omega)

def RelO : Option V → Option Value → Prop
  | some v, some u => RelV v u
  | none, none => True
  | _, _ => False
def KV {κ : Type} : List (κ × V) → List (κ × Value) → Prop := Paired fun (p : κ × V) (q : κ × Value) => p.1 = q.1 ∧ RelV p.2 q.2

/-- a key of a dict (00_mix): an int or a text -/
def kV : Key → V
  | .inl i => .int i
  | .inr x => .str x

/-- what stands at a tracked address -/
inductive HO where
  /-- a list -/
  | lst (xs : List V)
  /-- a tuple (never changes) -/
  | tup (xs : List V)
  /-- a dict whose keys are ints and texts; one whose keys are tuples of ints and texts (the empty one is both) -/
  | dK (kvs : List (Key × V)) | dT (kvs : List (List Key × V))
  /-- a set of ints: its members, its size -/
  | set (S : Int → Bool) (n : Nat)
  /-- an instance of the class at C, its dict at dx, its attributes -/
  | ins (C dx : Addr) (fs : List (Str × V))
  /-- the dict of the instance at x -/
  | own (x : Addr)
  /-- the dict of an exception -/
  | xd (fs : List (Str × V))
  /-- a bound method, f of x -/
  | met (f x : Addr)
  /-- a range object lo, lo + 1, .. below hi -/
  | rng (lo hi : Int)
  /-- a thing that is known to the object (the script; a dict while a loop walks it): read, never written while it is so -/
  | frz (o : Obj) (u : HO)
  /-- a code object's table -/
  | tbl (ps : Array Value)
  /-- any other thing, by what is true of its one object (a def of one's own: SetO a S n := HO.ext fun h => ..) -/
  | ext (φ : Heap → Prop)

abbrev Hp := Addr → Option HO
def upd (H : Hp) (a : Addr) (o : HO) : Hp := fun b => if b = a then some o else H b
theorem upd_same {H : Hp} {a : Addr} {o : HO} : upd H a o a = some o := by unfold upd; rw [if_pos rfl]
theorem upd_ne {H : Hp} {a b : Addr} {o : HO} (h : b ≠ a) : upd H a o b = H b := by unfold upd; rw [if_neg h]
theorem upd_upd {H : Hp} {a : Addr} {o u : HO} : upd (upd H a o) a u = upd H a u := by
  funext b; unfold upd; split <;> rfl
/-- two objects of different content stand apart -/
theorem ne_of {H : Hp} {a b : Addr} {o u : HO} (h : H a = some o) (h' : H b = some u) (d : o ≠ u) : a ≠ b := by
  intro e; subst e; rw [h] at h'; exact d (Option.some.inj h')
theorem ne_of_none {H : Hp} {a b : Addr} {o : HO} (h : H a = some o) (h' : H b = none) : a ≠ b := by
  intro e; subst e; rw [h] at h'; cases h'

def IsTupD (h : Heap) (a : Addr) (items : Array Value) : Prop := ∃ o, h.get? a = some o ∧ o.cls = .type "tuple" ∧ (∃ n, o.data = .seq items n) ∧ o.dict = none
theorem IsTupD.tup {h : Heap} {a : Addr} {items : Array Value} (x : IsTupD h a items) : IsTup h a items := let ⟨o, e, c, d, _⟩ := x; ⟨o, e, c, d⟩
theorem IsTupD.new (h : Heap) (items : Array Value) : IsTupD (h.push { cls := .type "tuple", data := .seq items }) h.objs.size items := ⟨_, Heap.get?_push_size _ rfl, rfl, ⟨_, rfl⟩, rfl⟩
section
variable (P : Program) (w : World)
def ObjOk (H : Hp) (h : Heap) (a : Addr) : HO → Prop
  | .lst xs => xs.length ≤ sizeLine ∧ ∃ (its : List Value) (n : Nat), Vals xs its ∧ h.get? a = some { cls := .type "list", data := .seq its.toArray n }
  | .tup xs => xs.length ≤ sizeLine ∧ ∃ its : List Value, Vals xs its ∧ IsTupD h a its.toArray
  | .dK kvs => kvs.length ≤ sizeLine ∧ (a == sysModules) = false ∧ ∃ vs, KV kvs vs ∧ h.DictOf (mixKind P w) a vs
  | .dT kvs => kvs.length ≤ sizeLine ∧ (a == sysModules) = false ∧ ∃ xs : List (List Key × Addr × Value),
      Paired (fun (p : List Key × V) (q : List Key × Addr × Value) => p.1 = q.1 ∧ H q.2.1 = some (.tup (p.1.map kV)) ∧ RelV p.2 q.2.2) kvs xs ∧
      ∃ o es ep, h.get? a = some o ∧ o.ExactDict ∧ o.data = .dict es ep ∧ es.toList = xs.map (entryOfKey (tupleKind (mixKind P w))) ∧ (xs.map (·.1)).Nodup
  | .set S n => h.SetOf (intKind P w) a S n
  | .ins C dx fs => H dx = some (.own a) ∧ fs.length ≤ 1000 ∧ dx ≠ a ∧ h.get? a = some (PySem.W.instObj C dx) ∧
      ∃ mA, h.Ns1 dx mA ∧ (∀ f, RelO (fs.lookup f) (mA f)) ∧ PySem.Within mA (fs.map (·.1))
  | .own _ => ∃ o, h.get? a = some o
  | .xd fs => ∃ mA, h.Ns1 a mA ∧ ∀ f, RelO (fs.lookup f) (mA f)
  | .rng lo hi => ∃ t u v, h.get? a = some { cls := .type "range", data := .fields #[.int lo t, .int hi u, .int 1 v] }
  | .frz o u => h.get? a = some o ∧ ObjOk H h a u
  | .tbl ps => h.get? a = some { cls := .none, data := .fields ps }
  | .met f x => h.get? a = some (PySem.W.methodObj (.ref f) (.ref x))
  | .ext φ => φ h ∧ (∃ o, h.get? a = some o) ∧ ∀ h1 h2 : Heap, φ h1 → (∀ o, h1.get? a = some o → h2.get? a = some o) → φ h2
/-- the abstract heap is held -/
def HOk (H : Hp) (h : Heap) : Prop := ∀ a o, H a = some o → ObjOk P w H h a o
end

section
variable {P : Program} {w : World} {H H' : Hp} {h h' : Heap} {a : Addr} {o : HO}
theorem ObjOk.lt (x : ObjOk P w H h a o) : a < h.objs.size := by
  cases o with
  | lst xs => obtain ⟨_, _, _, _, e⟩ := x; exact Heap.lt_size e
  | tup xs => obtain ⟨_, _, _, p⟩ := x; exact p.tup.lt
  | dK kvs => obtain ⟨_, _, _, _, o, _, _, e, _⟩ := x; exact Heap.lt_size e
  | dT kvs => obtain ⟨_, _, _, _, o, _, _, e, _⟩ := x; exact Heap.lt_size e
  | set S n => obtain ⟨o, _, _, _, e, _⟩ := x; exact Heap.lt_size e
  | ins C dx fs => obtain ⟨_, _, _, e, _⟩ := x; exact Heap.lt_size e
  | own y => obtain ⟨_, e⟩ := x; exact Heap.lt_size e
  | xd fs => obtain ⟨_, ⟨_, _, _, e, _⟩, _⟩ := x; exact Heap.lt_size e
  | rng lo hi => obtain ⟨_, _, _, e⟩ := x; exact Heap.lt_size e
  | frz ob u => obtain ⟨e, _⟩ := x; exact Heap.lt_size e
  | tbl ps => exact Heap.lt_size (show h.get? a = some _ from x)
  | met f y => exact Heap.lt_size (show h.get? a = some _ from x)
  | ext φ => obtain ⟨_, ⟨_, e⟩, _⟩ := x; exact Heap.lt_size e
theorem Paired.mapP {α β : Type} {F G : α → β → Prop} : ∀ {l₁ : List α} {l₂ : List β}, Paired F l₁ l₂ → (∀ a b, F a b → G a b) → Paired G l₁ l₂
  | _, _, .nil, _ => .nil
  | _, _, .cons r t, f => .cons (f _ _ r) (Paired.mapP t f)
theorem Paired.imp' {α β : Type} {F G : α → β → Prop} (f : ∀ a b, F a b → G a b) {l₁ : List α} {l₂ : List β} (r : Paired F l₁ l₂) : Paired G l₁ l₂ := Paired.mapP r f
/-- what an object's description leans on: its own object, its own dict, the tuples -/
theorem ObjOk.stay (x : ObjOk P w H h a o) (k : ∀ b u, (b = a ∨ H b = some (.own a)) → h.get? b = some u → h'.get? b = some u)
    (ho : ∀ b, H b = some (.own a) → H' b = some (.own a)) (ht : ∀ b xs, H b = some (.tup xs) → H' b = some (.tup xs)) : ObjOk P w H' h' a o := by
  induction o with
  | lst xs => obtain ⟨z, its, n, r, e⟩ := x; exact ⟨z, its, n, r, k _ _ (.inl rfl) e⟩
  | tup xs => obtain ⟨z, its, r, ob, e, c⟩ := x; exact ⟨z, its, r, ob, k _ _ (.inl rfl) e, c⟩
  | dK kvs => obtain ⟨z, y, vs, r, ob, es, ep, e, c⟩ := x; exact ⟨z, y, vs, r, ob, es, ep, k _ _ (.inl rfl) e, c⟩
  | dT kvs =>
    obtain ⟨z, y, xs, r, ob, es, ep, e, c⟩ := x
    exact ⟨z, y, xs, Paired.mapP r fun p q z => ⟨z.1, ht _ _ z.2.1, z.2.2⟩, ob, es, ep, k _ _ (.inl rfl) e, c⟩
  | set S n => obtain ⟨ob, es, ep, t, e, c⟩ := x; exact ⟨ob, es, ep, t, k _ _ (.inl rfl) e, c⟩
  | ins C dx fs =>
    obtain ⟨d, z, ne, e, mA, ⟨od, es, ep, e2, c⟩, r⟩ := x
    exact ⟨ho _ d, z, ne, k _ _ (.inl rfl) e, mA, ⟨od, es, ep, k _ _ (.inr d) e2, c⟩, r⟩
  | own y => obtain ⟨ob, e⟩ := x; exact ⟨ob, k _ _ (.inl rfl) e⟩
  | xd fs => obtain ⟨mA, ⟨od, es, ep, e, c⟩, r⟩ := x; exact ⟨mA, ⟨od, es, ep, k _ _ (.inl rfl) e, c⟩, r⟩
  | rng lo hi => obtain ⟨t, u, v, e⟩ := x; exact ⟨t, u, v, k _ _ (.inl rfl) e⟩
  | frz ob u ih => obtain ⟨e, q⟩ := x; exact ⟨k _ _ (.inl rfl) e, ih q⟩
  | tbl ps =>
    have e : h.get? a = some { cls := .none, data := .fields ps } := x
    show h'.get? a = some { cls := .none, data := .fields ps }
    exact k a _ (.inl rfl) e
  | met f y =>
    have e : h.get? a = some (PySem.W.methodObj (.ref f) (.ref y)) := x
    show h'.get? a = some (PySem.W.methodObj (.ref f) (.ref y))
    exact k a _ (.inl rfl) e
  | ext φ => obtain ⟨p, ⟨o, e⟩, st⟩ := x; exact ⟨st _ _ p fun o q => k _ _ (.inl rfl) q, ⟨o, k _ _ (.inl rfl) e⟩, st⟩
theorem HOk.lt (x : HOk P w H h) (e : H a = some o) : a < h.objs.size := (x a o e).lt
theorem HOk.fresh (x : HOk P w H h) (e : h.objs.size ≤ a) : H a = none := by
  cases q : H a with
  | none => rfl
  | some u => exact absurd (Nat.lt_of_lt_of_le (x.lt q) e) (Nat.lt_irrefl _)
/-- every object of the heap is kept -/
theorem HOk.kept (x : HOk P w H h) (k : ∀ b u, h.get? b = some u → h'.get? b = some u) : HOk P w H h' := fun a o e =>
  (x a o e).stay (fun b u _ q => k b u q) (fun _ q => q) fun _ _ q => q
/-- a new object is laid and tracked -/
theorem HOk.laid (x : HOk P w H h) (k : ∀ b u, h.get? b = some u → h'.get? b = some u) (hp : h.objs.size ≤ a) (new : ObjOk P w (upd H a o) h' a o) : HOk P w (upd H a o) h' := fun b u e => by
  have hn := x.fresh hp
  by_cases hb : b = a
  · subst hb; rw [upd_same] at e; cases e; exact new
  · rw [upd_ne hb] at e
    exact (x b u e).stay (fun c v _ q => k c v q) (fun c q => by rw [upd_ne (ne_of_none q hn)]; exact q) fun c xs q => by rw [upd_ne (ne_of_none q hn)]; exact q
end

/-- what may be read as u: it is u, or a known u -/
def Rd (H : Hp) (a : Addr) (u : HO) : Prop := H a = some u ∨ ∃ o, H a = some (.frz o u)
theorem Rd.of {H : Hp} {a : Addr} {u : HO} (h : H a = some u) : Rd H a u := .inl h
theorem Rd.ok {P : Program} {w : World} {H : Hp} {h : Heap} {a : Addr} {u : HO} (r : Rd H a u) (x : HOk P w H h) : ObjOk P w H h a u := by
  rcases r with r | ⟨o, r⟩
  · exact x a u r
  · obtain ⟨_, q⟩ := x a _ r
    exact q
/-- what may be written -/
def Mut : Option HO → Prop
  | some (.lst _) => True
  | some (.dK _) => True
  | some (.dT _) => True
  | some (.set _ _) => True
  | some (.ins _ _ _) => True
  | some (.ext _) => True
  | _ => False
section
variable {P : Program} {w : World} {H : Hp} {h h' : Heap} {x e : Addr} {o' : HO}
/-- the object at e is changed: x itself, or the dict of the instance x -/
theorem HOk.write (ok : HOk P w H h) (mu : Mut (H x)) (he : e = x ∨ H e = some (.own x)) (k : ∀ b u, b ≠ e → h.get? b = some u → h'.get? b = some u) (heo : ∃ u, h'.get? e = some u)
    (new : ObjOk P w (upd H x o') h' x o') : HOk P w (upd H x o') h' := fun b u q => by
  have nown : ∀ c y, H c = some (.own y) → c ≠ x := fun c y r z => by subst z; rw [r] at mu; exact mu
  have ntup : ∀ c xs, H c = some (.tup xs) → c ≠ x := fun c xs r z => by subst z; rw [r] at mu; exact mu
  by_cases hb : b = x
  · subst hb; rw [upd_same] at q; cases q; exact new
  · rw [upd_ne hb] at q
    by_cases hbe : b = e
    · have q' : H b = some (.own x) := by
        rcases he with z | z
        · exact absurd (hbe.trans z) hb
        · rw [hbe]; exact z
      rw [q] at q'; cases q'
      obtain ⟨v, hv⟩ := heo
      exact ⟨v, by rw [hbe]; exact hv⟩
    · refine (ok b u q).stay (fun c v hc r => k c v ?_ r) (fun c r => by rw [upd_ne (nown c b r)]; exact r) fun c xs r => by rw [upd_ne (ntup c xs r)]; exact r
      rcases hc with rfl | hc
      · exact hbe
      · rintro rfl
        rcases he with z | z
        · exact nown c b hc z
        · rw [hc] at z; cases z; exact hb rfl
end

/-! ### kept unless tracked; of the frames at fs (the callers') the slots may change (an exception that passes writes there); of the records at ex (iterators) nothing is said -/
structure Un (fs ex : List Addr) (H H' : Hp) (h h' : Heap) : Prop where
  keep : ∀ b o, h.get? b = some o → H b = none → b ∉ fs → b ∉ ex → h'.get? b = some o
  slot : ∀ b o, h.get? b = some o → H b = none → b ∈ fs → b ∉ ex → ∃ sl, h'.get? b = some { o with slots := sl }
  free : ∀ b o, h.get? b = some o → H b = none → b ∉ ex → H' b = none
  there : ∀ b o, h.get? b = some o → b ∉ ex → ∃ o', h'.get? b = some o'
  tups : ∀ b xs, H b = some (.tup xs) → H' b = some (.tup xs)
  frzs : ∀ b o u, H b = some (.frz o u) → H' b = some (.frz o u)
  tbls : ∀ b ps, H b = some (.tbl ps) → ∃ more, H' b = some (.tbl (ps ++ more))
section
variable {fs fs' ex ex' : List Addr} {H H1 H2 : Hp} {h h1 h2 h' : Heap} {a x e : Addr} {o : HO}
theorem Un.any (u : Un fs ex H H1 h h1) {b : Addr} {ob : Obj} (q : h.get? b = some ob) (n : H b = none) (hx : b ∉ ex) : ∃ sl, h1.get? b = some { ob with slots := sl } := by
  by_cases hb : b ∈ fs
  · exact u.slot b ob q n hb hx
  · exact ⟨ob.slots, u.keep b ob q n hb hx⟩
theorem Un.trans (a : Un fs ex H H1 h h1) (b : Un fs ex H1 H2 h1 h2) : Un fs ex H H2 h h2 where
  keep := fun c ob q n hc hx => b.keep c ob (a.keep c ob q n hc hx) (a.free c ob q n hx) hc hx
  slot := fun c ob q n hc hx => by
    obtain ⟨sl, e1⟩ := a.slot c ob q n hc hx
    obtain ⟨sl', e2⟩ := b.slot c _ e1 (a.free c ob q n hx) hc hx
    exact ⟨sl', e2⟩
  free := fun c ob q n hx => by
    obtain ⟨o', e1⟩ := a.there c ob q hx
    exact b.free c o' e1 (a.free c ob q n hx) hx
  there := fun c ob q hx => by
    obtain ⟨o', e1⟩ := a.there c ob q hx
    exact b.there c o' e1 hx
  tups := fun c xs q => b.tups c xs (a.tups c xs q)
  frzs := fun c ob xs q => b.frzs c ob xs (a.frzs c ob xs q)
  tbls := fun c ps q => by
    obtain ⟨m1, e1⟩ := a.tbls c ps q
    obtain ⟨m2, e2⟩ := b.tbls c _ e1
    exact ⟨m1 ++ m2, by rw [e2, Array.append_assoc]⟩
theorem Un.kept (k : ∀ b u, h.get? b = some u → h'.get? b = some u) : Un fs ex H H h h' :=
  ⟨fun b ob q _ _ _ => k b ob q, fun b ob q _ _ _ => ⟨ob.slots, k b ob q⟩, fun _ _ _ n _ => n, fun b ob q _ => ⟨ob, k b ob q⟩, fun _ _ q => q, fun _ _ _ q => q, fun _ ps q => ⟨#[], by rw [q]; simp⟩⟩
theorem Un.refl : Un fs ex H H h h := Un.kept fun _ _ q => q
theorem Un.laid (k : ∀ b u, h.get? b = some u → h'.get? b = some u) (hp : h.objs.size ≤ a) (hn : H a = none) : Un fs ex H (upd H a o) h h' where
  keep := fun b u q _ _ _ => k b u q
  slot := fun b u q _ _ _ => ⟨u.slots, k b u q⟩
  free := fun b u q n _ => by rw [upd_ne (Nat.ne_of_lt (Nat.lt_of_lt_of_le (Heap.lt_size q) hp))]; exact n
  there := fun b u q _ => ⟨u, k b u q⟩
  tups := fun b xs q => by rw [upd_ne (ne_of_none q hn)]; exact q
  frzs := fun b u xs q => by rw [upd_ne (ne_of_none q hn)]; exact q
  tbls := fun b ps q => ⟨#[], by rw [upd_ne (ne_of_none q hn), q]; simp⟩
theorem Un.write (mu : Mut (H x)) (he : e = x ∨ H e = some (.own x)) (k : ∀ b u, b ≠ e → h.get? b = some u → h'.get? b = some u) (heo : ∃ u, h'.get? e = some u) : Un fs ex H (upd H x o) h h' := by
  have hx : ∀ b, H b = none → b ≠ x := fun b n z => by subst z; rw [n] at mu; exact mu
  have hb : ∀ b, H b = none → b ≠ e := fun b n z => by
    subst z
    rcases he with r | r
    · exact hx b n r
    · rw [n] at r; cases r
  have hm : ∀ b u, H b = some u → ¬ Mut (some u) → b ≠ x := fun b u q nm z => by subst z; rw [q] at mu; exact nm mu
  refine ⟨fun b u q n _ _ => k b u (hb b n) q, fun b u q n _ _ => ⟨u.slots, k b u (hb b n) q⟩, fun b u q n _ => by rw [upd_ne (hx b n)]; exact n, fun b u q _ => ?_,
    fun b xs q => by rw [upd_ne (hm b _ q fun z => z)]; exact q, fun b u xs q => by rw [upd_ne (hm b _ q fun z => z)]; exact q, fun b ps q => ⟨#[], by rw [upd_ne (hm b _ q fun z => z), q]; simp⟩⟩
  by_cases hbe : b = e
  · subst hbe; exact heo
  · exact ⟨u, k b u hbe q⟩
theorem Un.mono (u : Un fs ex H H1 h h1) (hs : ∀ b ∈ fs, b ∈ fs') (hx : ∀ b ∈ ex, b ∈ ex') : Un fs' ex' H H1 h h1 :=
  ⟨fun b ob q n hb he => u.keep b ob q n (fun z => hb (hs b z)) fun z => he (hx b z), fun _ _ q n _ he => u.any q n fun z => he (hx _ z), fun b ob q n he => u.free b ob q n fun z => he (hx b z), fun b ob q he => u.there b ob q fun z => he (hx b z), u.tups, u.frzs, u.tbls⟩
end

/-! ### the heap without what is tracked -/
def trk (h : Heap) (H : Hp) : List Addr := (List.range h.objs.size).filter fun a => (H a).isSome
def hidT (h : Heap) (H : Hp) : Heap := PySem.W.hideAll h (trk h H)
theorem hidT_size (h : Heap) (H : Hp) : (hidT h H).objs.size = h.objs.size := PySem.W.hideAll_size _ _
theorem hidT_get {h : Heap} {H : Hp} {b : Addr} {o : Obj} (e : h.get? b = some o) (n : H b = none) : (hidT h H).get? b = some o :=
  PySem.W.hideAll_get _ e fun hm => by
    have q : (H b).isSome = true := (List.mem_filter.mp hm).2
    rw [n] at q; simp at q
theorem of_hidT {h : Heap} {H : Hp} {b : Addr} {o : Obj} (e : (hidT h H).get? b = some o) : h.get? b = some o ∧ H b = none := by
  have e' : h.get? b = some o := PySem.W.of_hideAll (trk h H) e
  refine ⟨e', ?_⟩
  cases q : H b with
  | none => rfl
  | some x =>
    have hm : b ∈ trk h H := List.mem_filter.mpr ⟨List.mem_range.mpr (Heap.lt_size e'), by simp [q]⟩
    have z : (hidT h H).get? b = none := PySem.W.hideAll_none (trk h H) hm
    rw [z] at e; cases e

/-! ### OpenK's ledger, filled with every new object but one -/
def allNews (g h : Heap) (L : Addr) : List (Addr × Obj) := (List.range h.objs.size).filterMap fun a => if a = L ∨ (g.get? a).isSome = true then none else (h.get? a).map fun o => (a, o)
theorem mem_allNews {g h : Heap} {L a : Addr} {o : Obj} (h1 : a ≠ L) (h2 : g.get? a = none) (h3 : h.get? a = some o) : (a, o) ∈ allNews g h L :=
  List.mem_filterMap.mpr ⟨a, List.mem_range.mpr (Heap.lt_size h3), by simp [h1, h2, h3]⟩
theorem of_mem_allNews {g h : Heap} {L : Addr} {p : Addr × Obj} (hp : p ∈ allNews g h L) : p.1 ≠ L ∧ g.get? p.1 = none ∧ h.get? p.1 = some p.2 := by
  obtain ⟨b, _, e⟩ := List.mem_filterMap.mp hp
  split at e
  · cases e
  · rename_i hn
    cases q : h.get? b with
    | none => rw [q] at e; simp at e
    | some u =>
      rw [q] at e
      simp only [Option.map_some, Option.some.injEq] at e
      subst e
      refine ⟨fun z => hn (.inl z), ?_, q⟩
      show g.get? b = none
      cases r : g.get? b with
      | none => rfl
      | some v => exact (hn (.inr (by simp [r]))).elim
def rest (g h : Heap) (L d : Addr) : List (Addr × Obj) := (allNews g h L).filter fun p => decide (p.1 ≠ d)
theorem rest_ne {g h : Heap} {L d : Addr} : ∀ p ∈ rest g h L d, p.1 ≠ d := fun p hp => of_decide_eq_true (List.mem_filter.mp hp).2
theorem mem_rest {g h : Heap} {L d a : Addr} {o : Obj} (h1 : a ≠ L) (h2 : g.get? a = none) (h3 : h.get? a = some o) (h4 : a ≠ d) : (a, o) ∈ rest g h L d :=
  List.mem_filter.mpr ⟨mem_allNews h1 h2 h3, decide_eq_true h4⟩
theorem news_all {g h : Heap} {L : Addr} : News g L h (allNews g h L) := fun p hp => let ⟨a, b, c⟩ := of_mem_allNews hp; ⟨c, a, b⟩
theorem news_at {g h : Heap} {L d : Addr} {o : Obj} (h1 : d ≠ L) (h2 : g.get? d = none) (h3 : h.get? d = some o) : News g L h ((d, o) :: rest g h L d) := fun p hp => by
  rcases List.mem_cons.mp hp with rfl | hp
  · exact ⟨h3, h1, h2⟩
  · exact news_all p (List.mem_filter.mp hp).1
/-- behind a rule that changed d alone: all else but the frame is kept -/
theorem kept_of_news {g h h' : Heap} {L d : Addr} {m : Str → Option Value} (k : ∀ b o, g.get? b = some o → h.get? b = some o) (F : Fr g L h' m) (N : News g L h' (rest g h L d)) :
    ∀ b o, b ≠ L → b ≠ d → h.get? b = some o → h'.get? b = some o := fun b o h1 h2 e => by
  cases q : g.get? b with
  | some u =>
    have := k b u q
    rw [e] at this; cases this
    exact F.keep b _ q
  | none => exact (N (b, o) (mem_rest h1 q e h2)).1
end L2

namespace L2
open PySem PySem.Spec PyProof.Rows

/-- the module's facts, over the base: the heap at the law's entry without what is tracked there -/
structure Mod (K : PySem.W.Frag) (mg : Str → Option Value) (base : Heap) : Prop where
  kin : K.In base
  glob : base.Ns mainGlobals mg
  blt : ∃ mb, base.Ns builtinsNs mb ∧ ∀ x : Str, x ≠ "__name__" → mb x = bootBuiltins x
  nolimit : base.NoLimit

/-- the context: a def's body (or a comprehension's block) running. base: fixed through the whole law; s₀, H₀: the entry; outer: the frames whose slots others may change (a def's callers); stack: all frames that run;
   ex: iterators that were made ahead of the entry and are walked here (a comprehension's); fn: the names whose cells were made at the entry (a def: all; a comprehension's block: its own); calm: not within an except suite; pn: pins that every state bears; xe: what is wanted of an exception that leaves the code -/
structure Cx where
  prog : Program
  w : World
  K : PySem.W.Frag
  mg : Str → Option Value
  base : Heap
  A : Around
  N : List Str
  s_0 : Shared
  H_0 : Hp
  env : Env
  outer : List Env
  stack : List Env
  ex : List Addr
  fn : Str → Bool
  calm : Bool
  pn : List (Addr × Obj)
  xe : Value → Shared → Prop
/-- the callers' frames -/
def frs (l : List Env) : List Addr := l.filterMap (·.frame)
abbrev Cx.fs (X : Cx) : List Addr := frs X.outer

def Vis (sc : Scope) (x : Str) : Prop := sc.names.lookup x = some .local ∨ sc.names.lookup x = some .cell ∨ sc.names.lookup x = some .free
def Loc (sc : Scope) (x : Str) : Prop := sc.names.lookup x = some .local ∨ sc.names.lookup x = some .cell
def Look (env : Env) (h : Heap) (m : Str → Option Value) (x : Str) (u : Value) : Prop :=
  (env.kindOf x = some .local ∧ m x = some u) ∨ ((env.kindOf x = some .cell ∨ env.kindOf x = some .free) ∧ ∃ c, env.cells.lookup x = some c ∧ h.IsCell c (some u))

structure Cx.Ok (X : Cx) : Prop where
  mod : Mod X.K X.mg X.base
  kind : X.env.scope.kind = .function
  glob : X.env.globals = mainGlobals
  blt : X.env.builtins = builtinsNs
  above : X.s_0.heap.objs.size ≤ X.env.locals
  inj : ∀ x y c, X.env.cells.lookup x = some c → X.env.cells.lookup y = some c → x = y
  has : ∀ x, (X.env.kindOf x = some .cell ∨ X.env.kindOf x = some .free) → ∃ c, X.env.cells.lookup x = some c
  cab : ∀ x c, X.fn x = true → X.env.cells.lookup x = some c → X.s_0.heap.objs.size ≤ c
  hd : X.calm = true → X.A.handled = none
  frames : X.A.frames = some X.stack
  stk : X.stack = X.outer ∨ (X.stack = X.env :: X.outer ∧ X.env.frame = some X.env.locals)
  exf : ∀ b ∈ X.ex, b ≠ X.env.locals ∧ ∀ x c, X.env.cells.lookup x = some c → c ≠ b
  bs : ∀ b o, X.base.get? b = some o → X.s_0.heap.get? b = some o ∧ X.H_0 b = none
  bsz : X.base.objs.size ≤ X.s_0.heap.objs.size
  noex : ∀ b o, X.base.get? b = some o → b ∉ X.ex
  exfs : ∀ b ∈ X.ex, b ∉ X.fs
  funs : X.s_0.heap.FunFrames X.base X.outer
  frf : ∀ b ∈ X.fs, X.H_0 b = none

structure Inv (X : Cx) (pins : List (Addr × Obj)) (σ : List (Option V)) (H : Hp) (s : Shared) : Prop where
  ok : X.Ok
  os : s.os = X.s_0.os
  bare : AllBare s.gens
  base : Un X.fs X.ex X.H_0 H X.s_0.heap s.heap
  loc : ∃ m, s.heap.Ns X.env.locals m ∧ ∀ (i : Nat) (x : Str) (v : V), X.N[i]? = some x → σ[i]? = some (some v) → Vis X.env.scope x → ∃ u, RelV v u ∧ Look X.env s.heap m x u
  cell : ∀ x c, X.env.cells.lookup x = some c → ∃ v, s.heap.IsCell c v
  free : H X.env.locals = none
  freeC : ∀ x c, X.env.cells.lookup x = some c → H c = none
  pin : ∀ p ∈ X.pn ++ pins, s.heap.get? p.1 = some p.2 ∧ H p.1 = none ∧ p.1 ≠ X.env.locals ∧ p.1 ∉ X.fs ∧ ∀ v, p.2.data ≠ .cell v
  hok : HOk X.prog X.w H s.heap
  len : σ.length = X.N.length

section
variable {X : Cx} {pins : List (Addr × Obj)} {σ : List (Option V)} {H H' : Hp} {s : Shared} {h' : Heap}

theorem Cx.Ok.nofr (ok : X.Ok) {b : Addr} {o : Obj} (e : X.base.get? b = some o) : b ∉ X.fs := fun hb => by
  have := (ok.funs.mem hb).1
  rw [e] at this; cases this
theorem Inv.bs (I : Inv X pins σ H s) : ∀ b o, X.base.get? b = some o → s.heap.get? b = some o ∧ H b = none := fun b o e =>
  ⟨I.base.keep b o (I.ok.bs b o e).1 (I.ok.bs b o e).2 (I.ok.nofr e) (I.ok.noex b o e), I.base.free b o (I.ok.bs b o e).1 (I.ok.bs b o e).2 (I.ok.noex b o e)⟩
theorem Inv.bk (I : Inv X pins σ H s) : ∀ b o, X.base.get? b = some o → s.heap.get? b = some o := fun b o e => (I.bs b o e).1
theorem Inv.mod (I : Inv X pins σ H s) : Mod X.K X.mg X.base := I.ok.mod
theorem Inv.kIn (I : Inv X pins σ H s) : X.K.In s.heap := I.ok.mod.kin.keeps I.bk
theorem Inv.nolimit (I : Inv X pins σ H s) : s.heap.NoLimit := I.ok.mod.nolimit.keeps I.bk
/-- the frame over the base: for OpenK's rules (K.In X.base is I.mod.kin) -/
theorem Inv.fr (I : Inv X pins σ H s) : ∃ m, Fr X.base X.env.locals s.heap m :=
  let ⟨m, hn, _⟩ := I.loc
  ⟨m, hn, I.bk, Nat.le_trans I.ok.bsz I.ok.above⟩
theorem Inv.lt (I : Inv X pins σ H s) : X.env.locals < s.heap.objs.size := let ⟨_, hn, _⟩ := I.loc; hn.lt
theorem Inv.sz (I : Inv X pins σ H s) : X.s_0.heap.objs.size ≤ s.heap.objs.size := Nat.le_trans I.ok.above (Nat.le_of_lt I.lt)
theorem Inv.nofs (I : Inv X pins σ H s) {a : Addr} (h : s.heap.objs.size ≤ a) : a ∉ X.fs := fun hb => by
  obtain ⟨_, o, ho, _⟩ := I.ok.funs.mem hb
  exact absurd (Nat.lt_of_lt_of_le (Heap.lt_size ho) (Nat.le_trans I.sz h)) (Nat.lt_irrefl _)
theorem Inv.cne (I : Inv X pins σ H s) : ∀ x c, X.env.cells.lookup x = some c → c ≠ X.env.locals := fun x c e z => by
  obtain ⟨v, o, ho, hd⟩ := I.cell x c e
  obtain ⟨m, ⟨o', es, ep, ho', hd', _⟩, _⟩ := I.loc
  rw [z, ho'] at ho; cases ho; rw [hd'] at hd; cases hd
theorem Inv.funs (I : Inv X pins σ H s) : s.heap.FunFrames X.base X.outer := by
  have all : ∀ (l : List Env), (∀ b ∈ frs l, b ∈ X.fs) → X.s_0.heap.FunFrames X.base l → s.heap.FunFrames X.base l := by
    intro l
    induction l with
    | nil => intro _ _; trivial
    | cons env r ih =>
      intro hs hl
      obtain ⟨hk, ⟨L, o, hf, hn, ho, hd⟩, hr⟩ := hl
      have hL : L ∈ X.fs := hs L (by unfold frs; rw [List.filterMap_cons, hf]; exact List.mem_cons_self)
      obtain ⟨sl, e⟩ := I.base.slot L o ho (I.ok.frf L hL) hL fun z => I.ok.exfs L z hL
      exact ⟨hk, ⟨L, _, hf, hn, e, hd⟩, ih (fun b hb => hs b (by unfold frs; rw [List.filterMap_cons, hf]; exact List.mem_cons_of_mem _ hb)) hr⟩
  exact all X.outer (fun _ hb => hb) I.ok.funs

/-- the frames that run, for a call -/
theorem Inv.stack (I : Inv X pins σ H s) : s.heap.FunFrames X.base X.stack := by
  rcases I.ok.stk with e | ⟨e, hf⟩
  · rw [e]; exact I.funs
  · rw [e]
    obtain ⟨m, hn, _⟩ := I.loc
    refine .cons (by rw [I.ok.kind]; decide) hf hn ?_ I.funs
    exact Heap.get?_none_of_le (Nat.le_trans I.ok.bsz I.ok.above)
theorem Inv.stkSub (I : Inv X pins σ H s) : ∀ b ∈ frs X.stack, b ∈ X.env.locals :: X.fs := fun b hb => by
  rcases I.ok.stk with e | ⟨e, hf⟩
  · rw [e] at hb; exact List.mem_cons_of_mem _ hb
  · rw [e] at hb
    unfold frs at hb
    rw [List.filterMap_cons, hf] at hb
    exact hb
theorem Inv.stkFree (I : Inv X pins σ H s) : ∀ b ∈ frs X.stack, H b = none := fun b hb => by
  rcases List.mem_cons.mp (I.stkSub b hb) with e | hb
  · rw [e]; exact I.free
  · obtain ⟨_, o, ho, _⟩ := I.ok.funs.mem hb
    exact I.base.free b o ho (I.ok.frf b hb) fun z => I.ok.exfs b z hb

/-- THE STEP: the untracked objects but the frame and the records at ch are kept (the callers' frames up to slots), the frame's map is kept, the new abstract heap is held -/
theorem Inv.step {g' : Array GenState} {t' : Nat} {d' : Drawn} {ch : List Addr} (I : Inv X pins σ H s)
    (hch : ∀ b ∈ ch, (b ∈ X.ex ∨ X.s_0.heap.objs.size ≤ b) ∧ b ≠ X.env.locals ∧ (∀ x c, X.env.cells.lookup x = some c → c ≠ b) ∧ ∀ p ∈ X.pn ++ pins, p.1 ≠ b)
    (keep : ∀ b o, b ≠ X.env.locals → b ∉ X.fs → b ∉ ch → s.heap.get? b = some o → H b = none → h'.get? b = some o)
    (slot : ∀ b o, b ≠ X.env.locals → b ∈ X.fs → b ∉ ch → s.heap.get? b = some o → H b = none → ∃ sl, h'.get? b = some { o with slots := sl }) (free : ∀ b o, b ∉ ch → s.heap.get? b = some o → H b = none → H' b = none)
    (there : ∀ b o, b ∉ ch → s.heap.get? b = some o → ∃ o', h'.get? b = some o')
    (tups : ∀ b xs, H b = some (.tup xs) → H' b = some (.tup xs)) (frzs : ∀ b o u, H b = some (.frz o u) → H' b = some (.frz o u)) (tbls : ∀ b ps, H b = some (.tbl ps) → ∃ more, H' b = some (.tbl (ps ++ more)))
    (ns : ∀ m, s.heap.Ns X.env.locals m → h'.Ns X.env.locals m) (hok : HOk X.prog X.w H' h') (hg : AllBare g') :
    Inv X pins σ H' { s with heap := h', gens := g', drawn := d', toks := t' } := by
  have neL : ∀ b o, X.s_0.heap.get? b = some o → b ≠ X.env.locals := fun b o e => Nat.ne_of_lt (Nat.lt_of_lt_of_le (Heap.lt_size e) I.ok.above)
  have neC : ∀ b o, X.s_0.heap.get? b = some o → b ∉ X.ex → b ∉ ch := fun b o e hx hb => by
    rcases (hch b hb).1 with z | z
    · exact hx z
    · exact absurd (Nat.lt_of_lt_of_le (Heap.lt_size e) z) (Nat.lt_irrefl _)
  have cellK : ∀ x c, X.env.cells.lookup x = some c → ∀ v, s.heap.IsCell c v → h'.IsCell c v := fun x c e v ⟨o, ho, hd⟩ => by
    have nch : c ∉ ch := fun z => (hch c z).2.2.1 x c e rfl
    by_cases hc : c ∈ X.fs
    · obtain ⟨sl, q⟩ := slot c o (I.cne x c e) hc nch ho (I.freeC x c e)
      exact ⟨_, q, hd⟩
    · exact ⟨o, keep c o (I.cne x c e) hc nch ho (I.freeC x c e), hd⟩
  refine ⟨I.ok, I.os, hg, ⟨fun b o e n hb hx => ?_, fun b o e n hb hx => ?_, fun b o e n hx => ?_, fun b o e hx => ?_, fun b xs e => tups b xs (I.base.tups b xs e), fun b o xs e => frzs b o xs (I.base.frzs b o xs e), fun b ps e => ?_⟩, ?_, fun x c e => ?_, ?_, fun x c e => ?_, fun p hp => ?_, hok, I.len⟩
  · exact keep b o (neL b o e) hb (neC b o e hx) (I.base.keep b o e n hb hx) (I.base.free b o e n hx)
  · obtain ⟨sl, e1⟩ := I.base.slot b o e n hb hx
    obtain ⟨sl', e2⟩ := slot b _ (neL b o e) hb (neC b o e hx) e1 (I.base.free b o e n hx)
    exact ⟨sl', e2⟩
  · obtain ⟨o', e1⟩ := I.base.there b o e hx
    exact free b o' (neC b o e hx) e1 (I.base.free b o e n hx)
  · obtain ⟨o', e1⟩ := I.base.there b o e hx
    exact there b o' (neC b o e hx) e1
  · obtain ⟨m1, e1⟩ := I.base.tbls b ps e
    obtain ⟨m2, e2⟩ := tbls b _ e1
    exact ⟨m1 ++ m2, by rw [e2, Array.append_assoc]⟩
  · obtain ⟨m, hn, hl⟩ := I.loc
    refine ⟨m, ns m hn, fun i x v e1 e2 e3 => ?_⟩
    obtain ⟨u, r, l⟩ := hl i x v e1 e2 e3
    refine ⟨u, r, ?_⟩
    rcases l with l | ⟨k, c, e, z⟩
    · exact .inl l
    · exact .inr ⟨k, c, e, cellK x c e _ z⟩
  · obtain ⟨v, z⟩ := I.cell x c e
    exact ⟨v, cellK x c e v z⟩
  · obtain ⟨m, ⟨o, _, _, ho, _⟩, _⟩ := I.loc
    exact free _ o (fun z => (hch _ z).2.1 rfl) ho I.free
  · obtain ⟨v, o, ho, hd⟩ := I.cell x c e
    exact free c o (fun z => (hch c z).2.2.1 x c e rfl) ho (I.freeC x c e)
  · obtain ⟨e, n, ne, nf, d⟩ := I.pin p hp
    have nch : p.1 ∉ ch := fun z => (hch p.1 z).2.2.2 p hp rfl
    exact ⟨keep p.1 p.2 ne nf nch e n, free p.1 p.2 nch e n, ne, nf, d⟩
/-- .. where the frame's own object is kept too -/
theorem Inv.un {t' : Nat} (I : Inv X pins σ H s) (u : Un X.fs [] H H' s.heap h') (hok : HOk X.prog X.w H' h') : Inv X pins σ H' { s with heap := h', toks := t' } := by
  obtain ⟨m, ⟨o, es, ep, ho, r⟩, _⟩ := id I.loc
  obtain ⟨sl, hL⟩ := u.any ho I.free (by simp)
  exact I.step (g' := s.gens) (d' := s.drawn) (ch := []) (fun _ z => nomatch z) (fun b o _ hb _ e n => u.keep b o e n hb (by simp)) (fun b o _ hb _ e n => u.slot b o e n hb (by simp)) (fun b o _ e n => u.free b o e n (by simp)) (fun b o _ e => u.there b o e (by simp)) u.tups u.frzs u.tbls (fun m' hm => by
    obtain ⟨o', es', ep', ho', r'⟩ := hm
    rw [ho] at ho'; cases ho'
    exact ⟨_, es', ep', hL, r'⟩) hok I.bare
/-- behind a call (or a comprehension's block): the slots of this frame may have changed too, the records at ch may have turned -/
theorem Inv.call {g' : Array GenState} {t' : Nat} {d' : Drawn} {ch : List Addr} (I : Inv X pins σ H s) (u : Un (frs X.stack) ch H H' s.heap h') (hok : HOk X.prog X.w H' h') (hg : AllBare g')
    (hch : ∀ b ∈ ch, (b ∈ X.ex ∨ X.s_0.heap.objs.size ≤ b) ∧ b ≠ X.env.locals ∧ (∀ x c, X.env.cells.lookup x = some c → c ≠ b) ∧ ∀ p ∈ X.pn ++ pins, p.1 ≠ b) :
    Inv X pins σ H' { s with heap := h', gens := g', drawn := d', toks := t' } := by
  obtain ⟨m, ⟨o, es, ep, ho, r⟩, _⟩ := id I.loc
  obtain ⟨sl, hL⟩ := u.any ho I.free fun z => (hch _ z).2.1 rfl
  exact I.step (ch := ch) hch (fun b o hL hb hc e n => u.keep b o e n (fun z => (List.mem_cons.mp (I.stkSub b z)).elim hL hb) hc) (fun b o _ _ hc e n => u.any e n hc) (fun b o hc e n => u.free b o e n hc) (fun b o hc e => u.there b o e hc) u.tups u.frzs u.tbls (fun m' hm => by
    obtain ⟨o', es', ep', ho', r'⟩ := hm
    rw [ho] at ho'; cases ho'
    exact ⟨_, es', ep', hL, r'⟩) hok hg
/-- an untracked record of ours (an iterator) has turned -/
theorem Inv.turned {t' : Nat} {it : Addr} (I : Inv X pins σ H s) (k : ∀ b o, b ≠ it → s.heap.get? b = some o → h'.get? b = some o) (hn : H it = none) (hL : it ≠ X.env.locals)
    (h1 : it ∈ X.ex ∨ X.s_0.heap.objs.size ≤ it) (h2 : ∀ x c, X.env.cells.lookup x = some c → c ≠ it) (h3 : ∀ p ∈ X.pn ++ pins, p.1 ≠ it) : Inv X pins σ H { s with heap := h', toks := t' } := by
  have nit : ∀ b u, H b = some u → b ≠ it := fun b u e z => by rw [z, hn] at e; cases e
  refine I.step (g' := s.gens) (d' := s.drawn) (ch := [it]) (fun b hb => ?_) (fun b o _ _ hc e _ => k b o (fun z => hc (by simp [z])) e) (fun b o _ _ hc e _ => ⟨o.slots, k b o (fun z => hc (by simp [z])) e⟩) (fun _ _ _ _ n => n)
    (fun b o hc e => ⟨o, k b o (fun z => hc (by simp [z])) e⟩) (fun _ _ e => e) (fun _ _ _ e => e) (fun b ps e => ⟨#[], by rw [e]; simp⟩) (fun m hm => ?_) (fun b u e => ?_) I.bare
  · have e : b = it := by simpa using hb
    subst e
    exact ⟨h1, hL, h2, h3⟩
  · obtain ⟨o, es, ep, ho, r⟩ := hm
    exact ⟨o, es, ep, k _ o (Ne.symm hL) ho, r⟩
  · refine (I.hok b u e).stay (fun c v hc q => k c v ?_ q) (fun _ q => q) fun _ _ q => q
    rcases hc with z | z
    · rw [z]; exact nit b u e
    · exact nit c _ z
theorem Inv.tok (I : Inv X pins σ H s) (t : Nat) : Inv X pins σ H { s with toks := t } := I.un (h' := s.heap) (t' := t) Un.refl I.hok
/-- all objects kept -/
theorem Inv.kept {t' : Nat} (I : Inv X pins σ H s) (k : ∀ b u, s.heap.get? b = some u → h'.get? b = some u) : Inv X pins σ H { s with heap := h', toks := t' } := I.un (Un.kept k) (I.hok.kept k)
/-- a new object laid and tracked -/
theorem Inv.laid {a : Addr} {o : HO} {t' : Nat} (I : Inv X pins σ H s) (k : ∀ b u, s.heap.get? b = some u → h'.get? b = some u) (hp : s.heap.objs.size ≤ a) (new : ObjOk X.prog X.w (upd H a o) h' a o) :
    Inv X pins σ (upd H a o) { s with heap := h', toks := t' } := I.un (Un.laid k hp (I.hok.fresh hp)) (I.hok.laid k hp new)
/-- an object written -/
theorem Inv.write {x e : Addr} {o : HO} {t' : Nat} (I : Inv X pins σ H s) (mu : Mut (H x)) (he : e = x ∨ H e = some (.own x)) (k : ∀ b u, b ≠ e → s.heap.get? b = some u → h'.get? b = some u) (heo : ∃ u, h'.get? e = some u)
    (new : ObjOk X.prog X.w (upd H x o) h' x o) : Inv X pins σ (upd H x o) { s with heap := h', toks := t' } := I.un (Un.write mu he k heo) (I.hok.write mu he k heo new)
/-- forgetting slots, pins -/
theorem Inv.weak {σ' : List (Option V)} (I : Inv X pins σ H s) (hl : σ'.length = σ.length) (w : ∀ (i : Nat) v, σ'[i]? = some (some v) → σ[i]? = some (some v)) : Inv X pins σ' H s :=
  ⟨I.ok, I.os, I.bare, I.base, let ⟨m, hn, hl'⟩ := I.loc; ⟨m, hn, fun i x v e1 e2 e3 => hl' i x v e1 (w i v e2) e3⟩, I.cell, I.free, I.freeC, I.pin, I.hok, hl.trans I.len⟩
theorem Inv.pins_of {pins' : List (Addr × Obj)} (I : Inv X pins σ H s) (h : ∀ p ∈ pins', s.heap.get? p.1 = some p.2 ∧ H p.1 = none ∧ p.1 ≠ X.env.locals ∧ p.1 ∉ X.fs ∧ ∀ v, p.2.data ≠ .cell v) : Inv X pins' σ H s :=
  ⟨I.ok, I.os, I.bare, I.base, I.loc, I.cell, I.free, I.freeC, fun p hp => (List.mem_append.mp hp).elim (fun z => I.pin p (List.mem_append_left _ z)) (h p), I.hok, I.len⟩

theorem nodup_ix {N : List Str} (hN : N.Nodup) {i j : Nat} {x : Str} (a : N[i]? = some x) (b : N[j]? = some x) : i = j := by
  obtain ⟨h1, e1⟩ := List.getElem?_eq_some_iff.mp a
  obtain ⟨h2, e2⟩ := List.getElem?_eq_some_iff.mp b
  exact (List.getElem_inj hN).mp (e1.trans e2.symm)

/-- a name is stored; what changed -/
theorem store_ok2 {M : Model} {A : Around} {E : Value → Shared → Prop} {i : Nat} {x : Str} {v : V} {u : Value} {Q : Unit → Shared → Prop} (I : Inv X pins σ H s) (hN : X.N.Nodup) (hi : X.N[i]? = some x) (hx : Loc X.env.scope x) (r : RelV v u)
    (h : ∀ s', Inv X pins (σ.set i (some v)) H s' → (∃ a, Heap.SameBut a s.heap s'.heap ∧ (a = X.env.locals ∨ X.env.cells.lookup x = some a)) → Q () s') (hf : X.fn x = true ∨ X.env.scope.names.lookup x = some .local := by first | exact .inl rfl | exact .inr rfl | assumption) : wpAny M A (storeName X.env x u) Q E s := by
  obtain ⟨m, hn, hl⟩ := id I.loc
  have hcls : (X.env.scope.kind == .class || (X.env.scope.kind == .module && X.env.locals != X.env.globals)) = false := by rw [I.ok.kind]; rfl
  have hiσ : i < σ.length := by rw [I.len]; exact (List.getElem?_eq_some_iff.mp hi).1
  have cne := I.cne
  have tracked : ∀ {a : Addr} {h' : Heap}, (∃ o, s.heap.get? a = some o ∧ H a = none) → Heap.SameBut a s.heap h' → HOk X.prog X.w H h' := fun {a h'} ha hs b ob e => by
    obtain ⟨_, _, hfree⟩ := ha
    refine (I.hok b ob e).stay (fun c w' hc q => (hs.2 c ?_).trans q) (fun _ q => q) fun _ _ q => q
    rintro rfl
    rcases hc with rfl | hc
    · rw [hfree] at e; cases e
    · rw [hfree] at hc; cases hc
  rcases hx with hk | hk
  · refine wpAny_storeName_local hk hn (fun h' hn' hs => ?_) hcls
    obtain ⟨oL, _, _, hoL, _⟩ := id hn
    refine h _ ⟨I.ok, I.os, I.bare, ⟨fun b o e n hb hx => ?_, fun b o e n hb hx => ?_, I.base.free, fun b o e hx => ?_, I.base.tups, I.base.frzs, I.base.tbls⟩, ⟨_, hn', fun j y v' e1 e2 e3 => ?_⟩, fun y c e => ?_, I.free, I.freeC, fun p hp => ?_, tracked ⟨oL, hoL, I.free⟩ hs, by simpa using I.len⟩ ⟨_, hs, .inl rfl⟩
    · exact (hs.2 b (Nat.ne_of_lt (Nat.lt_of_lt_of_le (Heap.lt_size e) I.ok.above))).trans (I.base.keep b o e n hb hx)
    · obtain ⟨sl, e1⟩ := I.base.slot b o e n hb hx
      exact ⟨sl, (hs.2 b (Nat.ne_of_lt (Nat.lt_of_lt_of_le (Heap.lt_size e) I.ok.above))).trans e1⟩
    · obtain ⟨o', e1⟩ := I.base.there b o e hx
      exact ⟨o', (hs.2 b (Nat.ne_of_lt (Nat.lt_of_lt_of_le (Heap.lt_size e) I.ok.above))).trans e1⟩
    · by_cases hj : j = i
      · subst hj
        rw [hi] at e1; cases e1
        rw [List.getElem?_set_self hiσ] at e2
        cases e2
        exact ⟨u, r, .inl ⟨hk, by simp⟩⟩
      · rw [List.getElem?_set_ne (Ne.symm hj)] at e2
        obtain ⟨u', r', q⟩ := hl j y v' e1 e2 e3
        refine ⟨u', r', ?_⟩
        rcases q with ⟨k, e⟩ | ⟨k, c, e, z⟩
        · refine .inl ⟨k, ?_⟩
          have : y ≠ x := fun e => hj (nodup_ix hN e1 (e ▸ hi))
          simp [this, e]
        · exact .inr ⟨k, c, e, z.sameBut hs (cne y c e)⟩
    · obtain ⟨w', z⟩ := I.cell y c e
      exact ⟨w', z.sameBut hs (cne y c e)⟩
    · obtain ⟨e, n, ne, nf, d⟩ := I.pin p hp
      exact ⟨(hs.2 p.1 ne).trans e, n, ne, nf, d⟩
  · have hfn : X.fn x = true := by
      rcases hf with z | z
      · exact z
      · rw [z] at hk; cases hk
    obtain ⟨c, hc⟩ := I.ok.has x (.inl hk)
    obtain ⟨w', z⟩ := I.cell x c hc
    refine wpAny_storeName_cell I.ok.kind hk hc z (fun h' hc' hs => ?_)
    obtain ⟨oc, hoc, hocd⟩ := id z
    refine h { s with heap := h' } ⟨I.ok, I.os, I.bare, ⟨fun b o e n hb hx => ?_, fun b o e n hb hx => ?_, I.base.free, fun b o e hx => ?_, I.base.tups, I.base.frzs, I.base.tbls⟩, ⟨m, hn.sameBut hs (Ne.symm (cne x c hc)), fun j y v' e1 e2 e3 => ?_⟩, fun y c' e => ?_, I.free, I.freeC, fun p hp => ?_, tracked ⟨oc, hoc, I.freeC x c hc⟩ hs, by simpa using I.len⟩ ⟨c, hs, .inr hc⟩
    · exact (hs.2 b (Nat.ne_of_lt (Nat.lt_of_lt_of_le (Heap.lt_size e) (I.ok.cab x c hfn hc)))).trans (I.base.keep b o e n hb hx)
    · obtain ⟨sl, e1⟩ := I.base.slot b o e n hb hx
      exact ⟨sl, (hs.2 b (Nat.ne_of_lt (Nat.lt_of_lt_of_le (Heap.lt_size e) (I.ok.cab x c hfn hc)))).trans e1⟩
    · obtain ⟨o', e1⟩ := I.base.there b o e hx
      exact ⟨o', (hs.2 b (Nat.ne_of_lt (Nat.lt_of_lt_of_le (Heap.lt_size e) (I.ok.cab x c hfn hc)))).trans e1⟩
    · by_cases hj : j = i
      · subst hj
        rw [hi] at e1; cases e1
        rw [List.getElem?_set_self hiσ] at e2
        cases e2
        exact ⟨u, r, .inr ⟨.inl hk, c, hc, hc'⟩⟩
      · rw [List.getElem?_set_ne (Ne.symm hj)] at e2
        obtain ⟨u', r', q⟩ := hl j y v' e1 e2 e3
        refine ⟨u', r', ?_⟩
        rcases q with q | ⟨k, c', e, z'⟩
        · exact .inl q
        · refine .inr ⟨k, c', e, z'.sameBut hs ?_⟩
          rintro rfl
          exact hj (nodup_ix hN e1 (I.ok.inj _ _ _ e hc ▸ hi))
    · by_cases hcc : c' = c
      · subst hcc; exact ⟨_, hc'⟩
      · obtain ⟨w2, z2⟩ := I.cell y c' e
        exact ⟨w2, z2.sameBut hs hcc⟩
    · obtain ⟨e, n, ne, nf, d⟩ := I.pin p hp
      refine ⟨(hs.2 p.1 ?_).trans e, n, ne, nf, d⟩
      intro q
      rw [q, hoc] at e
      have q' : oc = p.2 := Option.some.inj e
      exact d w' (by rw [← q']; exact hocd)
theorem store_ok {M : Model} {A : Around} {E : Value → Shared → Prop} {i : Nat} {x : Str} {v : V} {u : Value} {Q : Unit → Shared → Prop} (I : Inv X pins σ H s) (hN : X.N.Nodup) (hi : X.N[i]? = some x) (hx : Loc X.env.scope x) (r : RelV v u)
    (h : ∀ s', Inv X pins (σ.set i (some v)) H s' → Q () s') (hf : X.fn x = true ∨ X.env.scope.names.lookup x = some .local := by first | exact .inl rfl | exact .inr rfl | assumption) : wpAny M A (storeName X.env x u) Q E s :=
  store_ok2 I hN hi hx r (fun s' I' _ => h s' I') hf
/-- behind a call or a block, the state as it is -/
theorem Inv.call' {s' : Shared} {ch : List Addr} (I : Inv X pins σ H s) (ho : s'.os = s.os) (u : Un (frs X.stack) ch H H' s.heap s'.heap) (hok : HOk X.prog X.w H' s'.heap) (hg : AllBare s'.gens)
    (hch : ∀ b ∈ ch, (b ∈ X.ex ∨ X.s_0.heap.objs.size ≤ b) ∧ b ≠ X.env.locals ∧ (∀ x c, X.env.cells.lookup x = some c → c ≠ b) ∧ ∀ p ∈ X.pn ++ pins, p.1 ≠ b) : Inv X pins σ H' s' := by
  obtain ⟨h', g', d', t', o'⟩ := s'
  have e : o' = s.os := ho
  subst e
  exact I.call (g' := g') (t' := t') (d' := d') u hok hg hch
end

/-! ### the judgements -/
/-- an exception: its class, its own dict's address (where it has one), the abstract heap behind it -/
abbrev XK := Value → Option Addr → Hp → Prop
abbrev St := List (Option V)
abbrev VK := V → Hp → Prop
/-- an expression's reading; a test's; an argument list's -/
abbrev TE := St → Hp → VK → Prop
abbrev TT := St → Hp → (Bool → Hp → Prop) → Prop
abbrev TA := St → Hp → (List V → Hp → Prop) → Prop
/-- what is wanted behind a statement -/
structure Ends where
  nx : St → Hp → Prop
  rt : VK
  bk : St → Hp → Prop := fun _ _ => False
  ct : St → Hp → Prop := fun _ _ => False
abbrev TS := Ends → St → Hp → Prop

def EP (X : Cx) (pins : List (Addr × Obj)) (σ : St) (Q : VK) (u : Value) (s' : Shared) : Prop := ∃ v H', Inv X pins σ H' s' ∧ RelV v u ∧ Q v H'
def TP (X : Cx) (pins : List (Addr × Obj)) (σ : St) (Q : Bool → Hp → Prop) (b : Bool) (s' : Shared) : Prop := ∃ H', Inv X pins σ H' s' ∧ Q b H'
def AP (X : Cx) (pins : List (Addr × Obj)) (σ : St) (Q : List V → Hp → Prop) (us : List Value) (s' : Shared) : Prop := ∃ vs H', Inv X pins σ H' s' ∧ Vals vs us ∧ Q vs H'
def SP (X : Cx) (pins : List (Addr × Obj)) (D : Ends) (f : Flow) (s' : Shared) : Prop :=
  match f with
  | .next => ∃ σ' H', Inv X pins σ' H' s' ∧ D.nx σ' H'
  | .brk => ∃ σ' H', Inv X pins σ' H' s' ∧ D.bk σ' H'
  | .cont => ∃ σ' H', Inv X pins σ' H' s' ∧ D.ct σ' H'
  | .ret u => ∃ v σ' H', Inv X pins σ' H' s' ∧ RelV v u ∧ D.rt v H'

def PE (X : Cx) (e : Expr) (t : TE) : Prop :=
  ∀ (pins : List (Addr × Obj)) (s : Shared) (σ : St) (H : Hp) (Q : VK), Inv X pins σ H s → t σ H Q → wpAny (model X.prog X.w) X.A (eval e X.env) (EP X pins σ Q) X.xe s
def PT (X : Cx) (e : Expr) (t : TT) : Prop :=
  ∀ (pins : List (Addr × Obj)) (s : Shared) (σ : St) (H : Hp) (Q : Bool → Hp → Prop), Inv X pins σ H s → t σ H Q → wpAny (model X.prog X.w) X.A (isTrue e X.env (eval e X.env)) (TP X pins σ Q) X.xe s
/-- a test whatever its 'whole' is (and, or) -/
def PW (X : Cx) (e : Expr) (t : TT) : Prop :=
  ∀ (whole : Sem Value) (pins : List (Addr × Obj)) (s : Shared) (σ : St) (H : Hp) (Q : Bool → Hp → Prop), Inv X pins σ H s → t σ H Q → wpAny (model X.prog X.w) X.A (isTrue e X.env whole) (TP X pins σ Q) X.xe s
theorem PW.pt {X : Cx} {e : Expr} {t : TT} (h : PW X e t) : PT X e t := h _
/-- an argument list (no star), from the left -/
def PA (X : Cx) (es : List Expr) (t : TA) : Prop :=
  ∀ (pos : Pos) (pins : List (Addr × Obj)) (s : Shared) (σ : St) (H : Hp) (Q : List V → Hp → Prop), Inv X pins σ H s → t σ H Q → wpAny (model X.prog X.w) X.A (spliced (backTo pos (starEach es X.env))) (AP X pins σ Q) X.xe s
def PS (X : Cx) (st : Stmt) (t : TS) : Prop :=
  ∀ (pins : List (Addr × Obj)) (s : Shared) (σ : St) (H : Hp) (D : Ends), Inv X pins σ H s → t D σ H → wpAny (model X.prog X.w) X.A (exec st X.env) (SP X pins D) X.xe s
def PSs (X : Cx) (st : List Stmt) (t : TS) : Prop :=
  ∀ (pins : List (Addr × Obj)) (s : Shared) (σ : St) (H : Hp) (D : Ends), Inv X pins σ H s → t D σ H → wpAny (model X.prog X.w) X.A (execs st X.env) (SP X pins D) X.xe s
/-- weaken the end -/
theorem thn {α : Type} {t : Sem α} {Q Q' : α → Shared → Prop} {M : Model} {A : Around} {E : Value → Shared → Prop} {s : Shared} (h : wpAny M A t Q E s) (hQ : ∀ a s, Q a s → Q' a s) : wpAny M A t Q' E s := wpAny_mono h hQ fun _ _ x => x
end L2

namespace L2
open PySem PySem.Spec PyProof.Rows
section
variable {X : Cx}

/-- two expressions in a row -/
theorem bin {a b : Expr} {ta tb : TE} (ha : PE X a ta) (hb : PE X b tb) {pins : List (Addr × Obj)} {s : Shared} {σ : St} {H : Hp} {R : V → V → Hp → Prop} (I : Inv X pins σ H s) (h : ta σ H fun x H1 => tb σ H1 fun y H2 => R x y H2)
    {α : Type} {Q : α → Shared → Prop} {f : Value → Value → Sem α}
    (hf : ∀ v u s2 x y H2, Inv X pins σ H2 s2 → RelV x v → RelV y u → R x y H2 → wpAny (model X.prog X.w) X.A (f v u) Q X.xe s2) :
    wpAny (model X.prog X.w) X.A (eval a X.env) (fun v s₁ => wpAny (model X.prog X.w) X.A (eval b X.env) (fun u s₂ => wpAny (model X.prog X.w) X.A (f v u) Q X.xe s₂) X.xe s₁) X.xe s := by
  refine thn (ha pins s σ H _ I h) fun v s1 ⟨x, H1, I1, r1, q1⟩ => ?_
  refine thn (hb pins s1 σ H1 _ I1 q1) fun u s2 ⟨y, H2, I2, r2, q2⟩ => ?_
  exact hf v u s2 x y H2 I2 r1 r2 q2

/-! ### names and constants -/
def tVar (i : Nat) : TE := fun σ H Q => ∃ v, σ[i]? = some (some v) ∧ Q v H
def tC (v : V) : TE := fun _ H Q => Q v H
theorem pe_var {i : Nat} {x : Str} {pos : Pos} (hN : X.N[i]? = some x) (hv : Vis X.env.scope x) (hd : (x == ("__debug__" : Str)) = false := by decide) (hcd : (x == ("__classdict__" : Str)) = false := by decide) : PE X (.Name x pos) (tVar i) := by
  intro pins s σ H Q I h
  obtain ⟨v, e, h⟩ := h
  obtain ⟨m, hn, hl⟩ := I.loc
  obtain ⟨u, r, l⟩ := hl i x v hN e hv
  have fin : EP X pins σ Q u s := ⟨v, H, I, r, h⟩
  rcases l with ⟨hk, hm⟩ | ⟨hk, c, hc, hcell⟩
  · exact wpAny_Name (wpAny_loadName_local I.ok.kind hk hn hm fin) hd
  · rcases hk with hk | hk
    · exact wpAny_Name (wpAny_loadName_cell I.ok.kind hk hc hcell fin) hd
    · exact wpAny_Name (wpAny_loadName_free I.ok.kind hk hc hcell fin hcd) hd
theorem pe_int {i j pos} : PE X (.Constant (.int i) j pos) (tC (.int i)) := fun _ _ _ H _ I h => wpAny_Constant_int ⟨.int i, H, I.tok _, ⟨_, rfl⟩, h⟩
theorem pe_bl {b j pos} : PE X (.Constant (.bool b) j pos) (tC (.bl b)) := fun _ _ _ H _ I h => Constant_bool ⟨.bl b, H, I, rfl, h⟩
theorem pe_non {j pos} : PE X (.Constant .none j pos) (tC .non) := fun _ _ _ H _ I h => Constant_none ⟨.non, H, I, rfl, h⟩
theorem pe_str {x j pos} : PE X (.Constant (.str x) j pos) (tC (.str x)) := fun _ _ _ H _ I h => Calls.Constant_str ⟨.str x, H, I.tok _, ⟨_, rfl⟩, h⟩

/-- a global name of the def -/
def Gl (X : Cx) (x : Str) : Prop := X.env.kindOf x = some .globalImplicit
theorem ld_glob {E : Value → Shared → Prop} {pins : List (Addr × Obj)} {s : Shared} {σ : St} {H : Hp} {x : Str} {u : Value} {pos : Pos} {Q : Value → Shared → Prop} (I : Inv X pins σ H s) (hg : Gl X x) (hm : X.mg x = some u) (h : Q u s)
    (hd : (x == ("__debug__" : Str)) = false := by decide) : wpAny (model X.prog X.w) X.A (eval (.Name x pos) X.env) Q E s :=
  Calls.Name_function_global I.ok.kind hg (Calls.loadGlobal_global (by rw [I.ok.glob]; exact I.mod.glob.keeps I.bk) hm h) hd
theorem ld_blt {E : Value → Shared → Prop} {pins : List (Addr × Obj)} {s : Shared} {σ : St} {H : Hp} {x : Str} {u : Value} {pos : Pos} {Q : Value → Shared → Prop} (I : Inv X pins σ H s) (hg : Gl X x) (hm : X.mg x = none) (hv : bootBuiltins x = some u) (h : Q u s)
    (hn : x ≠ "__name__" := by decide) (hd : (x == ("__debug__" : Str)) = false := by decide) : wpAny (model X.prog X.w) X.A (eval (.Name x pos) X.env) Q E s := by
  obtain ⟨mb, h1, h2⟩ := I.mod.blt
  exact Calls.Name_function_global I.ok.kind hg (Calls.loadGlobal_builtin (by rw [I.ok.glob]; exact I.mod.glob.keeps I.bk) hm (by rw [I.ok.blt]; exact h1.keeps I.bk) ((h2 x hn).trans hv) h) hd
/-- a module's constant, a class, a function, as a value -/
theorem pe_glob {x : Str} {v : V} {u : Value} {pos : Pos} (hg : Gl X x) (hm : X.mg x = some u) (r : RelV v u) (hd : (x == ("__debug__" : Str)) = false := by decide) : PE X (.Name x pos) (tC v) :=
  fun _ _ _ H _ I h => ld_glob I hg hm ⟨v, H, I, r, h⟩ hd
theorem pe_bltn {x : Str} {v : V} {u : Value} {pos : Pos} (hg : Gl X x) (hm : X.mg x = none) (hv : bootBuiltins x = some u) (r : RelV v u) (hn : x ≠ "__name__" := by decide) (hd : (x == ("__debug__" : Str)) = false := by decide) : PE X (.Name x pos) (tC v) :=
  fun _ _ _ H _ I h => ld_blt I hg hm hv ⟨v, H, I, r, h⟩ hn hd

/-! ### arithmetic -/
/-- two ints -/
def t2I (ta tb : TE) (k : Int → Int → Hp → Prop) : St → Hp → Prop := fun σ H => ta σ H fun x H1 => tb σ H1 fun y H2 => ∃ i j, x = .int i ∧ y = .int j ∧ k i j H2
def tAdd (ta tb : TE) : TE := fun σ H Q => t2I ta tb (fun i j H2 => Q (.int (i + j)) H2) σ H
def tSub (ta tb : TE) : TE := fun σ H Q => t2I ta tb (fun i j H2 => Q (.int (i - j)) H2) σ H
/-- the left factor below 2^64 -/
def tMul (ta tb : TE) : TE := fun σ H Q => t2I ta tb (fun i j H2 => (-(2 ^ 64) < i ∧ i < 2 ^ 64) ∧ Q (.int (i * j)) H2) σ H
variable {a b : Expr} {ta tb : TE} {pos : Pos}
theorem pe_add (ha : PE X a ta) (hb : PE X b tb) : PE X (.BinOp a .Add b pos) (tAdd ta tb) := by
  intro pins s σ H Q I h
  refine wpAny_BinOp (bin ha hb I h fun v u s2 x y H2 I2 rx ry q => ?_)
  obtain ⟨i, j, rfl, rfl, q⟩ := q
  obtain ⟨t, rfl⟩ := rx
  obtain ⟨t', rfl⟩ := ry
  exact add_int ⟨.int _, H2, I2.tok _, ⟨_, rfl⟩, q⟩
theorem pe_sub (ha : PE X a ta) (hb : PE X b tb) : PE X (.BinOp a .Sub b pos) (tSub ta tb) := by
  intro pins s σ H Q I h
  refine wpAny_BinOp (bin ha hb I h fun v u s2 x y H2 I2 rx ry q => ?_)
  obtain ⟨i, j, rfl, rfl, q⟩ := q
  obtain ⟨t, rfl⟩ := rx
  obtain ⟨t', rfl⟩ := ry
  exact sub_int ⟨.int _, H2, I2.tok _, ⟨_, rfl⟩, q⟩
theorem pe_mul (ha : PE X a ta) (hb : PE X b tb) : PE X (.BinOp a .Mult b pos) (tMul ta tb) := by
  intro pins s σ H Q I h
  refine wpAny_BinOp (bin ha hb I h fun v u s2 x y H2 I2 rx ry q => ?_)
  obtain ⟨i, j, rfl, rfl, ⟨q1, q2⟩, q⟩ := q
  obtain ⟨t, rfl⟩ := rx
  obtain ⟨t', rfl⟩ := ry
  exact mul_int ⟨.int _, H2, I2.tok _, ⟨_, rfl⟩, q⟩ (.of_left (intBits_le_64 q1 q2))

/-! ### comparisons -/
def PC (X : Cx) (op : CmpOp) (a b : Expr) (t : TE) : Prop :=
  ∀ (pins : List (Addr × Obj)) (s : Shared) (σ : St) (H : Hp) (Q : VK), Inv X pins σ H s → t σ H Q →
    wpAny (model X.prog X.w) X.A (eval a X.env) (fun v s₁ => wpAny (model X.prog X.w) X.A (eval b X.env) (fun u s₂ => wpAny (model X.prog X.w) X.A (compareOp op v u) (EP X pins σ Q) X.xe s₂) X.xe s₁) X.xe s
theorem nobehind (b : Expr) {op : CmpOp} (h : op ≠ .In) (h2 : op ≠ .NotIn) : behindInMarks op b = false := by
  have e1 : (op == CmpOp.In) = false := by cases op <;> first | rfl | exact absurd rfl h
  have e2 : (op == CmpOp.NotIn) = false := by cases op <;> first | rfl | exact absurd rfl h2
  cases b <;> simp [behindInMarks, e1, e2]
def tCmp (p : Int → Int → Bool) (ta tb : TE) : TE := fun σ H Q => t2I ta tb (fun i j H2 => Q (.bl (p i j)) H2) σ H
abbrev tLt : TE → TE → TE := tCmp fun i j => decide (i < j)
abbrev tLe : TE → TE → TE := tCmp fun i j => decide (i ≤ j)
abbrev tGt : TE → TE → TE := tCmp fun i j => decide (j < i)
abbrev tGe : TE → TE → TE := tCmp fun i j => decide (j ≤ i)
abbrev tEqI : TE → TE → TE := tCmp fun i j => decide (i = j)
abbrev tNeI : TE → TE → TE := tCmp fun i j => !decide (i = j)
/-- a comparison of two ints, by its rule -/
theorem pc_int {op : CmpOp} {p : Int → Int → Bool} (ha : PE X a ta) (hb : PE X b tb)
    (rule : ∀ (i j : Int) (t u : Tok) (Q : Value → Shared → Prop) (s : Shared), Q (.bool (p i j)) s → wpAny (model X.prog X.w) X.A (compareOp op (.int i t) (.int j u)) Q X.xe s) : PC X op a b (tCmp p ta tb) := by
  intro pins s σ H Q I h
  refine bin ha hb I h fun v u s2 x y H2 I2 rx ry q => ?_
  obtain ⟨i, j, rfl, rfl, q⟩ := q
  obtain ⟨t, rfl⟩ := rx
  obtain ⟨t', rfl⟩ := ry
  exact rule i j t t' _ s2 ⟨.bl _, H2, I2, rfl, q⟩
theorem pc_lt (ha : PE X a ta) (hb : PE X b tb) : PC X .Lt a b (tLt ta tb) := pc_int ha hb fun _ _ _ _ _ _ h => lt_int h
theorem pc_le (ha : PE X a ta) (hb : PE X b tb) : PC X .LtE a b (tLe ta tb) := pc_int ha hb fun _ _ _ _ _ _ h => le_int h
theorem pc_gt (ha : PE X a ta) (hb : PE X b tb) : PC X .Gt a b (tGt ta tb) := pc_int ha hb fun _ _ _ _ _ _ h => gt_int h
theorem pc_ge (ha : PE X a ta) (hb : PE X b tb) : PC X .GtE a b (tGe ta tb) := pc_int ha hb fun _ _ _ _ _ _ h => ge_int h
theorem pc_eqI (ha : PE X a ta) (hb : PE X b tb) : PC X .Eq a b (tEqI ta tb) := pc_int ha hb fun _ _ _ _ _ _ h => eq_int (by rw [Bool.beq_eq_decide_eq]; exact h)
theorem pc_neI (ha : PE X a ta) (hb : PE X b tb) : PC X .NotEq a b (tNeI ta tb) := pc_int ha hb fun _ _ _ _ _ _ h => ne_int (by rw [bne, Bool.beq_eq_decide_eq]; exact h)
/-- is None -/
def tIsN (ta : TE) : TE := fun σ H Q => ta σ H fun x H1 => Q (.bl (decide (x = .non))) H1
def tNotN (ta : TE) : TE := fun σ H Q => ta σ H fun x H1 => Q (.bl (!decide (x = .non))) H1
theorem RelV.none_iff {x : V} {v : Value} (r : RelV x v) : (v == Value.none) = decide (x = .non) := by
  cases x with
  | non => cases r; rfl
  | bl _ => cases r; rfl
  | int _ => obtain ⟨t, rfl⟩ := r; rfl
  | str _ => obtain ⟨t, rfl⟩ := r; rfl
  | byt _ => obtain ⟨t, rfl⟩ := r; rfl
  | flt _ => obtain ⟨t, rfl⟩ := r; rfl
  | ref _ => cases r; rfl
  | ty _ => cases r; rfl
theorem pc_isN {j pos'} (ha : PE X a ta) : PC X .Is a (.Constant .none j pos') (tIsN ta) := by
  intro pins s σ H Q I h
  refine thn (ha pins s σ H _ I h) fun v s1 ⟨x, H1, I1, r1, q1⟩ => ?_
  exact Constant_none (is_none_gen ⟨.bl _, H1, I1, by rw [r1.none_iff]; rfl, q1⟩)
theorem pc_notN {j pos'} (ha : PE X a ta) : PC X .IsNot a (.Constant .none j pos') (tNotN ta) := by
  intro pins s σ H Q I h
  refine thn (ha pins s σ H _ I h) fun v s1 ⟨x, H1, I1, r1, q1⟩ => ?_
  exact Constant_none (isnot_none_gen ⟨.bl _, H1, I1, by rw [r1.none_iff]; rfl, q1⟩)
/-- a comparison as a value, as a test -/
def tB (t : TE) : TT := fun σ H Q => t σ H fun x H1 => ∃ c, x = .bl c ∧ Q c H1
theorem pe_cmp {op : CmpOp} {t : TE} (h : PC X op a b t) (h1 : behindInMarks op b = false := by first | exact nobehind _ (by decide) (by decide) | rfl) : PE X (.Compare a [op] [b] pos) t := fun pins s σ H Q I hw => wpAny_Compare1 (h pins s σ H Q I hw) h1
theorem pt_cmp {op : CmpOp} {t : TE} (h : PC X op a b t) (h1 : behindInMarks op b = false := by first | exact nobehind _ (by decide) (by decide) | rfl) : PT X (.Compare a [op] [b] pos) (tB t) := by
  intro pins s σ H Q I hw
  refine wpAny_isTrue_Compare1 (thn (h pins s σ H _ I hw) fun v s1 h1 => thn h1 fun u s2 h2 => thn h2 fun c s3 ⟨x, H1, I1, r1, q1⟩ => ?_) h1
  obtain ⟨d, rfl, q⟩ := q1
  cases r1
  exact wpAny_truthy_bool ⟨H1, I1, q⟩
/-- an expression whose value is a bool, as a test -/
theorem pt_val {e : Expr} {t : TE} (h : PE X e t) (he : ∀ whole, isTrue e X.env whole = (do let v ← whole; standAt e.pos; holding [v] (truthy v)) := by intro _; rfl) : PT X e (tB t) := by
  intro pins s σ H Q I hw
  refine isTrue_plain (thn (h pins s σ H _ I hw) fun v s1 ⟨x, H1, I1, r1, q1⟩ => ?_) (he _)
  obtain ⟨d, rfl, q⟩ := q1
  cases r1
  exact wpAny_truthy_bool ⟨H1, I1, q⟩

/-! ### and, or, not -/
variable {tA tB' : TT} {rest : List Expr}
def tAnd (t u : TT) : TT := fun σ H Q => t σ H fun c H1 => if c = true then u σ H1 Q else Q false H1
def tOr (t u : TT) : TT := fun σ H Q => t σ H fun c H1 => if c = true then Q true H1 else u σ H1 Q
def tNot (t : TT) : TT := fun σ H Q => t σ H fun c H1 => Q (!c) H1
theorem pw_and1 (ha : PT X a tA) : PW X (.BoolOp .And [a] pos) tA := by
  intro wh pins s σ H Q I h
  refine isTrue_and (thn (ha pins s σ H Q I h) fun c s1 e => ?_)
  cases c with
  | true => exact isTrue_and_nil e
  | false => exact e
theorem pw_or1 (ha : PT X a tA) : PW X (.BoolOp .Or [a] pos) tA := by
  intro wh pins s σ H Q I h
  refine isTrue_or (thn (ha pins s σ H Q I h) fun c s1 e => ?_)
  cases c with
  | false => exact isTrue_or_nil e
  | true => exact e
theorem pw_and (ha : PT X a tA) (hb : PW X (.BoolOp .And (b :: rest) pos) tB') : PW X (.BoolOp .And (a :: b :: rest) pos) (tAnd tA tB') := by
  intro wh pins s σ H Q I h
  refine isTrue_and (thn (ha pins s σ H _ I h) fun c s1 ⟨H1, I1, q1⟩ => ?_)
  cases c with
  | true => exact hb wh pins s1 σ H1 Q I1 q1
  | false => exact ⟨H1, I1, q1⟩
theorem pw_or (ha : PT X a tA) (hb : PW X (.BoolOp .Or (b :: rest) pos) tB') : PW X (.BoolOp .Or (a :: b :: rest) pos) (tOr tA tB') := by
  intro wh pins s σ H Q I h
  refine isTrue_or (thn (ha pins s σ H _ I h) fun c s1 ⟨H1, I1, q1⟩ => ?_)
  cases c with
  | true => exact ⟨H1, I1, q1⟩
  | false => exact hb wh pins s1 σ H1 Q I1 q1
theorem pt_not (ha : PT X a tA) : PT X (.UnaryOp .Not a pos) (tNot tA) := by
  intro pins s σ H Q I h
  exact isTrue_not (ha pins s σ H (fun c H1 => Q (!c) H1) I h)
/-- .. as values (bools) -/
def tAndV (ta tb : TE) : TE := fun σ H Q => ta σ H fun x H1 => ∃ c, x = .bl c ∧ if c = true then tb σ H1 Q else Q (.bl false) H1
def tOrV (ta tb : TE) : TE := fun σ H Q => ta σ H fun x H1 => ∃ c, x = .bl c ∧ if c = true then Q (.bl true) H1 else tb σ H1 Q
def tNotV (ta : TE) : TE := fun σ H Q => ta σ H fun x H1 => ∃ c, x = .bl c ∧ Q (.bl (!c)) H1
theorem pe_one {op} {t : TE} (h : PE X a t) : PE X (.BoolOp op [a] pos) t := fun pins s σ H Q I hw => BoolOp_one (h pins s σ H Q I hw)
theorem pe_and (ha : PE X a ta) (hb : PE X (.BoolOp .And (b :: rest) pos) tb) : PE X (.BoolOp .And (a :: b :: rest) pos) (tAndV ta tb) := by
  intro pins s σ H Q I h
  refine BoolOp_and (thn (ha pins s σ H _ I h) fun v s1 ⟨x, H1, I1, r1, q1⟩ => ?_)
  obtain ⟨c, rfl, q1⟩ := q1
  cases r1
  refine wpAny_truthy_bool ?_
  cases c with
  | true => exact hb pins s1 σ H1 Q I1 q1
  | false => exact ⟨.bl false, H1, I1, rfl, q1⟩
theorem pe_or (ha : PE X a ta) (hb : PE X (.BoolOp .Or (b :: rest) pos) tb) : PE X (.BoolOp .Or (a :: b :: rest) pos) (tOrV ta tb) := by
  intro pins s σ H Q I h
  refine BoolOp_or (thn (ha pins s σ H _ I h) fun v s1 ⟨x, H1, I1, r1, q1⟩ => ?_)
  obtain ⟨c, rfl, q1⟩ := q1
  cases r1
  refine wpAny_truthy_bool ?_
  cases c with
  | false => exact hb pins s1 σ H1 Q I1 q1
  | true => exact ⟨.bl true, H1, I1, rfl, q1⟩
theorem pe_not (ha : PE X a ta) : PE X (.UnaryOp .Not a pos) (tNotV ta) := by
  intro pins s σ H Q I h
  refine UnaryOp_ (thn (ha pins s σ H _ I h) fun v s1 ⟨x, H1, I1, r1, q1⟩ => ?_)
  obtain ⟨c, rfl, q1⟩ := q1
  cases r1
  exact not_of (wpAny_truthy_bool ⟨.bl (!c), H1, I1, rfl, q1⟩)
/-- a if t else b -/
def tIf (t : TT) (ta tb : TE) : TE := fun σ H Q => t σ H fun c H1 => if c = true then ta σ H1 Q else tb σ H1 Q
theorem pe_ifExp {c : Expr} (hc : PT X c tA) (ha : PE X a ta) (hb : PE X b tb) : PE X (.IfExp c a b pos) (tIf tA ta tb) := by
  intro pins s σ H Q I h
  refine wpAny_IfExp (thn (hc pins s σ H _ I h) fun d s1 ⟨H1, I1, q1⟩ => ?_)
  cases d with
  | true => exact ha pins s1 σ H1 Q I1 q1
  | false => exact hb pins s1 σ H1 Q I1 q1
end
end L2

namespace L2
open PySem PySem.Spec PyProof.Rows

/-! ### a list, a tuple that is read: tracked, frozen, or an object of the module -/
def SqL (K : PySem.W.Frag) (H : Hp) (a : Addr) (xs : List V) : Prop :=
  Rd H a (.lst xs) ∨
    ∃ (o : Obj) (its : Array Value) (n : Nat), K.lookup a = some o ∧ o.cls = .type "list" ∧ o.dict = none ∧ o.data = .seq its n ∧ its.size ≤ sizeLine ∧ Vals xs its.toList
def SqT (K : PySem.W.Frag) (H : Hp) (a : Addr) (xs : List V) : Prop :=
  Rd H a (.tup xs) ∨
    ∃ (o : Obj) (its : Array Value) (n : Nat), K.lookup a = some o ∧ o.cls = .type "tuple" ∧ o.data = .seq its n ∧ its.size ≤ sizeLine ∧ Vals xs its.toList ∧ o.dict = none
def absV : Value → Option V
  | .none => some .non
  | .bool b => some (.bl b)
  | .int i _ => some (.int i)
  | .str x _ => some (.str x)
  | .bytes b _ => some (.byt b)
  | .float b _ => some (.flt b)
  | .ref a => some (.ref a)
  | .type n => some (.ty n)
  | _ => none
theorem RelV.abs {x : V} {u : Value} (r : RelV x u) : absV u = some x := by
  cases x with
  | non => cases r; rfl
  | bl _ => cases r; rfl
  | int _ => obtain ⟨t, rfl⟩ := r; rfl
  | str _ => obtain ⟨t, rfl⟩ := r; rfl
  | byt _ => obtain ⟨t, rfl⟩ := r; rfl
  | flt _ => obtain ⟨t, rfl⟩ := r; rfl
  | ref _ => cases r; rfl
  | ty _ => cases r; rfl
theorem RelV.inj {x y : V} {u : Value} (r : RelV x u) (q : RelV y u) : x = y := Option.some.inj (r.abs.symm.trans q.abs)
theorem Vals.inj : ∀ {xs ys : List V} {us : List Value}, Vals xs us → Vals ys us → xs = ys
  | _, _, _, .nil, .nil => rfl
  | _, _, _, .cons r t, .cons r' t' => by rw [r.inj r', Vals.inj t t']
section
variable {X : Cx} {pins : List (Addr × Obj)} {σ : St} {H : Hp} {s : Shared} {a : Addr} {xs ys : List V}
theorem SqL.of {K : PySem.W.Frag} (h : H a = some (.lst xs)) : SqL K H a xs := .inl (.inl h)
theorem SqT.of {K : PySem.W.Frag} (h : H a = some (.tup xs)) : SqT K H a xs := .inl (.inl h)
theorem Inv.list (I : Inv X pins σ H s) (h : SqL X.K H a xs) : ∃ its : List Value, Vals xs its ∧ PlainL s.heap a its.toArray ∧ xs.length ≤ sizeLine := by
  rcases h with h | ⟨o, its, n, hk, hc, hd, hs, hz, r⟩
  · obtain ⟨z, its, n, r, e⟩ := h.ok I.hok
    exact ⟨its, r, ⟨_, n, e, rfl, rfl, rfl⟩, z⟩
  · refine ⟨its.toList, r, ⟨o, n, I.kIn a o hk, hc, hd, by simpa using hs⟩, ?_⟩
    have e := r.length
    simp only [Array.length_toList] at e
    omega
theorem Inv.tuple (I : Inv X pins σ H s) (h : SqT X.K H a xs) : ∃ its : List Value, Vals xs its ∧ IsTup s.heap a its.toArray ∧ xs.length ≤ sizeLine := by
  rcases h with h | ⟨o, its, n, hk, hc, hs, hz, r, _⟩
  · obtain ⟨z, its, r, p⟩ := h.ok I.hok
    exact ⟨its, r, p.tup, z⟩
  · refine ⟨its.toList, r, ⟨o, I.kIn a o hk, hc, n, by simpa using hs⟩, ?_⟩
    have e := r.length
    simp only [Array.length_toList] at e
    omega
theorem Inv.tupleD (I : Inv X pins σ H s) (h : SqT X.K H a xs) : ∃ its : List Value, Vals xs its ∧ IsTupD s.heap a its.toArray ∧ xs.length ≤ sizeLine := by
  rcases h with h | ⟨o, its, n, hk, hc, hs, hz, r, hd⟩
  · obtain ⟨z, its, r, p⟩ := h.ok I.hok
    exact ⟨its, r, p, z⟩
  · refine ⟨its.toList, r, ⟨o, I.kIn a o hk, hc, ⟨n, by simpa using hs⟩, hd⟩, ?_⟩
    have e := r.length
    simp only [Array.length_toList] at e
    omega
theorem Inv.list_inj (I : Inv X pins σ H s) (h : SqL X.K H a xs) (h' : SqL X.K H a ys) : xs = ys := by
  obtain ⟨its, r, ⟨o, n, e, _, _, d⟩, _⟩ := I.list h
  obtain ⟨its', r', ⟨o', n', e', _, _, d'⟩, _⟩ := I.list h'
  rw [e] at e'; cases e'
  rw [d] at d'
  injection d' with d1 _
  have : its = its' := by simpa using congrArg Array.toList d1
  subst this
  exact r.inj r'
theorem Inv.tuple_inj (I : Inv X pins σ H s) (h : SqT X.K H a xs) (h' : SqT X.K H a ys) : xs = ys := by
  obtain ⟨its, r, ⟨o, e, _, n, d⟩, _⟩ := I.tuple h
  obtain ⟨its', r', ⟨o', e', _, n', d'⟩, _⟩ := I.tuple h'
  rw [e] at e'; cases e'
  rw [d] at d'
  injection d' with d1 _
  have : its = its' := by simpa using congrArg Array.toList d1
  subst this
  exact r.inj r'
end

/-! ### another wish about exceptions -/
abbrev Cx.wish (X : Cx) (E : Value → Shared → Prop) : Cx := { X with xe := E }
/-- no exception leaves -/
abbrev Cx.nox (X : Cx) : Cx := X.wish fun _ _ => False
theorem Cx.Ok.wish {X : Cx} (ok : X.Ok) (E : Value → Shared → Prop) : (X.wish E).Ok :=
  ⟨ok.mod, ok.kind, ok.glob, ok.blt, ok.above, ok.inj, ok.has, ok.cab, ok.hd, ok.frames, ok.stk, ok.exf, ok.bs, ok.bsz, ok.noex, ok.exfs, ok.funs, ok.frf⟩
theorem Cx.Ok.unwish {X : Cx} {E : Value → Shared → Prop} (ok : (X.wish E).Ok) : X.Ok :=
  ⟨ok.mod, ok.kind, ok.glob, ok.blt, ok.above, ok.inj, ok.has, ok.cab, ok.hd, ok.frames, ok.stk, ok.exf, ok.bs, ok.bsz, ok.noex, ok.exfs, ok.funs, ok.frf⟩
section
variable {X : Cx} {pins : List (Addr × Obj)} {σ : St} {H : Hp} {s : Shared} {E : Value → Shared → Prop}
theorem Inv.wish (I : Inv X pins σ H s) (E : Value → Shared → Prop) : Inv (X.wish E) pins σ H s := ⟨I.ok.wish E, I.os, I.bare, I.base, I.loc, I.cell, I.free, I.freeC, I.pin, I.hok, I.len⟩
theorem Inv.unwish (I : Inv (X.wish E) pins σ H s) : Inv X pins σ H s := ⟨I.ok.unwish, I.os, I.bare, I.base, I.loc, I.cell, I.free, I.freeC, I.pin, I.hok, I.len⟩
theorem SP.unwish {D : Ends} {f : Flow} {s' : Shared} (h : SP (X.wish E) pins D f s') : SP X pins D f s' := by
  cases f with
  | next => obtain ⟨σ', H', I, q⟩ := h; exact ⟨σ', H', I.unwish, q⟩
  | brk => obtain ⟨σ', H', I, q⟩ := h; exact ⟨σ', H', I.unwish, q⟩
  | cont => obtain ⟨σ', H', I, q⟩ := h; exact ⟨σ', H', I.unwish, q⟩
  | ret u => obtain ⟨v, σ', H', I, r, q⟩ := h; exact ⟨v, σ', H', I.unwish, r, q⟩
theorem PE.nox {e : Expr} {t : TE} (h : PE X.nox e t) : PE X e t := fun pins s σ H Q I hw =>
  wpAny_mono (h pins s σ H Q (I.wish _) hw) (fun _ _ ⟨v, H', I', r, q⟩ => ⟨v, H', I'.unwish, r, q⟩) fun _ _ z => False.elim z
theorem PT.nox {e : Expr} {t : TT} (h : PT X.nox e t) : PT X e t := fun pins s σ H Q I hw =>
  wpAny_mono (h pins s σ H Q (I.wish _) hw) (fun _ _ ⟨H', I', q⟩ => ⟨H', I'.unwish, q⟩) fun _ _ z => False.elim z
theorem PSs.nox {st : List Stmt} {t : TS} (h : PSs X.nox st t) : PSs X st t := fun pins s σ H D I hw =>
  wpAny_mono (h pins s σ H D (I.wish _) hw) (fun _ _ q => q.unwish) fun _ _ z => False.elim z
end

/-! ### blocks and small statements -/
section
variable {X : Cx} {st : Stmt} {rest : List Stmt} {t u : TS} {e : Expr} {te : TE} {pos : Pos}
def tNext : TS := fun D σ H => D.nx σ H
def tSeq (t u : TS) : TS := fun D σ H => t { D with nx := u D } σ H
theorem pss_nil : PSs X [] tNext := fun _ _ σ H _ I h => wpAny_execs_nil ⟨σ, H, I, h⟩
theorem pss_cons (h1 : PS X st t) (h2 : PSs X rest u) : PSs X (st :: rest) (tSeq t u) := by
  intro pins s σ H D I h
  refine wpAny_execs_cons (thn (h1 pins s σ H { D with nx := u D } I h) fun f s1 q => ?_)
  cases f with
  | next =>
    obtain ⟨σ', H', I', q⟩ := q
    exact h2 pins s1 σ' H' D I' q
  | ret v => exact q
  | brk => exact q
  | cont => exact q
theorem pss_one (h1 : PS X st t) : PSs X [st] t := by
  intro pins s σ H D I h
  refine wpAny_execs_cons (thn (h1 pins s σ H D I h) fun f s1 q => ?_)
  cases f with
  | next => exact wpAny_execs_nil q
  | ret v => exact q
  | brk => exact q
  | cont => exact q
def tBreak : TS := fun D σ H => D.bk σ H
def tCont : TS := fun D σ H => D.ct σ H
theorem ps_pass : PS X (.Pass pos) tNext := fun _ _ σ H _ I h => wpAny_Pass ⟨σ, H, I, h⟩
theorem ps_break : PS X (.Break pos) tBreak := fun _ _ σ H _ I h => wpAny_Break ⟨σ, H, I, h⟩
theorem ps_continue : PS X (.Continue pos) tCont := fun _ _ σ H _ I h => wpAny_Continue ⟨σ, H, I, h⟩
/-- in a def's body nothing is shown -/
theorem Inv.quiet {pins : List (Addr × Obj)} {σ : St} {H : Hp} {s : Shared} (I : Inv X pins σ H s) : interactive X.env = false := by simp [interactive, I.ok.kind]
/-- a docstring -/
theorem ps_doc {x j pos pos'} : PS X (.Expr (.Constant (.str x) j pos) pos') tNext := fun _ s σ H _ I h => wpAny_Expr (Calls.Constant_str (show SP X _ _ .next { s with toks := s.toks + 1 } from ⟨σ, H, I.tok _, h⟩)) I.quiet
/-- an expression whose value is dropped -/
def tDrop (te : TE) : TS := fun D σ H => te σ H fun _ H1 => D.nx σ H1
theorem ps_expr (he : PE X e te) (hs : swapsWith e none pos.line X.env = pure false := by rfl) : PS X (.Expr e pos) (tDrop te) := by
  intro pins s σ H D I h
  exact wpAny_Expr_any (thn (he pins s σ H _ I h) fun v s1 ⟨x, H1, I1, r1, q1⟩ => ⟨σ, H1, I1, q1⟩) I.quiet hs
def tRet (te : TE) : TS := fun D σ H => te σ H D.rt
theorem ps_ret (he : PE X e te) : PS X (.Return (some e) pos) (tRet te) := by
  intro pins s σ H D I h
  exact wpAny_Return_some (thn (he pins s σ H _ I h) fun v s1 ⟨x, H1, I1, r1, q1⟩ => ⟨x, σ, H1, I1, r1, q1⟩)
def tRetN : TS := fun D _ H => D.rt .non H
theorem ps_retN : PS X (.Return none pos) tRetN := fun _ _ σ H _ I h => wpAny_Return_none ⟨.non, σ, H, I, rfl, h⟩
def tIfS (c : TT) (t u : TS) : TS := fun D σ H => c σ H fun b H1 => if b = true then t D σ H1 else u D σ H1
theorem ps_if {c : Expr} {a b : List Stmt} {tc : TT} (hc : PT X c tc) (ha : PSs X a t) (hb : PSs X b u) : PS X (.If c a b pos) (tIfS tc t u) := by
  intro pins s σ H D I h
  refine wpAny_If (thn (hc pins s σ H _ I h) fun d s1 ⟨H1, I1, q1⟩ => ?_)
  cases d with
  | true => exact ha pins s1 σ H1 D I1 q1
  | false => exact hb pins s1 σ H1 D I1 q1
/-- code that the proof never comes to -/
def tNever : TS := fun _ _ _ => False
theorem ps_never : PS X st tNever := fun _ _ _ _ _ _ h => h.elim
theorem pss_never {sts : List Stmt} : PSs X sts tNever := fun _ _ _ _ _ _ h => h.elim
end

/-! ### targets -/
abbrev TG := V → St → Hp → (St → Hp → Prop) → Prop
abbrev TGs := List V → St → Hp → (St → Hp → Prop) → Prop
def PG (X : Cx) (target : Expr) (t : TG) : Prop :=
  ∀ (pins : List (Addr × Obj)) (s : Shared) (σ : St) (H : Hp) (v : V) (u : Value) (Q : St → Hp → Prop), Inv X pins σ H s → RelV v u → t v σ H Q →
    wpAny (model X.prog X.w) X.A (assign target X.env u) (fun _ s' => ∃ σ' H', Inv X pins σ' H' s' ∧ Q σ' H') X.xe s
/-- several targets, one after another -/
def PGs (X : Cx) (ts : List Expr) (t : TGs) : Prop :=
  ∀ (pins : List (Addr × Obj)) (s : Shared) (σ : St) (H : Hp) (vs : List V) (us : List Value) (Q : St → Hp → Prop), Inv X pins σ H s → Vals vs us → t vs σ H Q →
    wpAny (model X.prog X.w) X.A (assignInOrder ((assignEach ts X.env).map (·.2)) us) (fun _ s' => ∃ σ' H', Inv X pins σ' H' s' ∧ Q σ' H') X.xe s
/-- o[i] = v, by values -/
abbrev TSet := V → V → V → Hp → (Hp → Prop) → Prop
def PSet (X : Cx) (t : TSet) : Prop :=
  ∀ (pins : List (Addr × Obj)) (s : Shared) (σ : St) (H : Hp) (o i v : V) (ov iv u : Value) (Q : Hp → Prop), Inv X pins σ H s → RelV o ov → RelV i iv → RelV v u → t o i v H Q →
    wpAny (model X.prog X.w) X.A (setItem ov iv u) (fun _ s' => ∃ H', Inv X pins σ H' s' ∧ Q H') X.xe s
/-- a op= b, by values -/
abbrev TIp := V → V → Hp → VK → Prop
def PIp (X : Cx) (op : Operator) (t : TIp) : Prop :=
  ∀ (pins : List (Addr × Obj)) (s : Shared) (σ : St) (H : Hp) (x y : V) (v u : Value) (Q : VK), Inv X pins σ H s → RelV x v → RelV y u → t x y H Q →
    wpAny (model X.prog X.w) X.A (inplaceOp op v u) (EP X pins σ Q) X.xe s
section
variable {X : Cx} {pos : Pos}
def gName (i : Nat) : TG := fun v σ H Q => Q (σ.set i (some v)) H
theorem pg_name {i : Nat} {x : Str} (hN : X.N.Nodup) (hi : X.N[i]? = some x) (hx : Loc X.env.scope x) (hf : X.fn x = true ∨ X.env.scope.names.lookup x = some .local := by first | exact .inl rfl | exact .inr rfl | assumption) : PG X (.Name x pos) (gName i) := by
  intro pins s σ H v u Q I r h
  exact wpAny_assign_Name (store_ok I hN hi hx r (fun s' I' => ⟨_, H, I', h⟩) hf)
def gNil : TGs := fun vs σ H Q => vs = [] ∧ Q σ H
def gCons (t : TG) (u : TGs) : TGs := fun vs σ H Q => ∃ v r, vs = v :: r ∧ t v σ H fun σ' H' => u r σ' H' Q
theorem pgs_nil : PGs X [] gNil := by
  intro pins s σ H vs us Q I r h
  obtain ⟨e, h⟩ := h
  subst e
  cases r
  exact assignInOrder_nil ⟨σ, H, I, h⟩
theorem pgs_cons {e : Expr} {es : List Expr} {t : TG} {u : TGs} (h1 : PG X e t) (h2 : PGs X es u)
    (hs : (assignEach (e :: es) X.env).map (·.2) = assign e X.env :: (assignEach es X.env).map (·.2) := by rfl) : PGs X (e :: es) (gCons t u) := by
  intro pins s σ H vs us Q I r h
  obtain ⟨v, vr, e1, h⟩ := h
  subst e1
  cases r with
  | cons r rr =>
    rw [hs]
    refine assignInOrder_cons (thn (h1 pins s σ H _ _ _ I r h) fun _ s1 ⟨σ1, H1, I1, q1⟩ => ?_)
    exact h2 pins s1 σ1 H1 _ _ Q I1 rr q1
/-- (a, b, ..) = a tuple of that length -/
def gTup (K : PySem.W.Frag) (n : Nat) (t : TGs) : TG := fun v σ H Q => ∃ a xs, v = .ref a ∧ SqT K H a xs ∧ xs.length = n ∧ t xs σ H Q
theorem pg_tup {es : List Expr} {k : Nat} {t : TGs} {n : Nat} (hc : X.calm = true) (h : PGs X es t)
    (hn : (assignEach es X.env).length = n := by rfl) (hst : (assignEach es X.env).findIdx? (·.1) = none := by rfl) : PG X (.Tuple es k pos) (gTup X.K n t) := by
  intro pins s σ H v u Q I r hw
  obtain ⟨a, xs, e1, hq, hl, hw⟩ := hw
  subst e1
  cases r
  obtain ⟨its, rv, ht, hz⟩ := I.tuple hq
  refine assign_Tuple_tuple (I.ok.hd hc) ht (by simp [hn, ← hl, rv.length]) hst fun h' hx => ?_
  have I1 : Inv X pins σ H { s with heap := h' } := I.kept (t' := s.toks) fun b o e => hx b o (Nat.ne_of_lt (Heap.lt_size e)) e
  exact h pins _ σ H xs _ Q I1 (by simpa using rv) hw
/-- o[i] = .. -/
def gSub (to ti : TE) (t : TSet) : TG := fun v σ H Q => to σ H fun o H1 => ti σ H1 fun i H2 => t o i v H2 fun H3 => Q σ H3
theorem pg_sub {o i : Expr} {to ti : TE} {t : TSet} (ho : PE X o to) (hi : PE X i ti) (hs : PSet X t)
    (ha : ∀ v, assign (.Subscript o i pos) X.env v = (do
      let ov ← holding [v] (eval o X.env)
      let iv ← holding [v, ov] (eval i X.env)
      standAt pos
      holding [v, ov, iv] (setItem ov iv v)
      release [v, ov, iv] []) := by intro _; rfl) : PG X (.Subscript o i pos) (gSub to ti t) := by
  intro pins s σ H v u Q I r h
  rw [ha]
  refine wpAny_bind (wpAny_holding (thn (ho pins s σ H _ I h) fun ov s1 ⟨x, H1, I1, r1, q1⟩ => ?_))
  refine wpAny_bind (wpAny_holding (thn (hi pins s1 σ H1 _ I1 q1) fun iv s2 ⟨y, H2, I2, r2, q2⟩ => ?_))
  refine wpAny_bind (wpAny_standAt (wpAny_bind (wpAny_holding (thn (hs pins s2 σ H2 x y v ov iv u _ I2 r1 r2 r q2) fun _ s3 ⟨H3, I3, q3⟩ => ?_))))
  exact wpAny_release ⟨σ, H3, I3, q3⟩
/-- target = value -/
def tAsg (te : TE) (g : TG) : TS := fun D σ H => te σ H fun x H1 => g x σ H1 D.nx
theorem ps_asg {tg e : Expr} {te : TE} {g : TG} (he : PE X e te) (hg : PG X tg g) (hs : swapsWithSole [tg] e pos.line X.env = pure false := by rfl) (hw : swappedStores [tg] e X.env = pure none := by rfl)
    (h1 : (assignEach [tg] X.env).map (·.2) = [assign tg X.env] := by rfl) : PS X (.Assign [tg] e pos) (tAsg te g) := by
  intro pins s σ H D I h
  refine wpAny_Assign_stores (thn (he pins s σ H _ I h) fun v s1 ⟨x, H1, I1, r1, q1⟩ => ?_) hs hw
  rw [h1]
  exact thn (hg pins s1 σ H1 x v _ I1 r1 q1) fun _ s2 q => q
/-- name = value -/
theorem ps_set {i : Nat} {x : Str} {e : Expr} {te : TE} {pos' : Pos} (hN : X.N.Nodup) (hi : X.N[i]? = some x) (hx : Loc X.env.scope x) (he : PE X e te) (hs : swapsWith e (some (.Name x pos')) pos.line X.env = pure false := by rfl) (hf : X.fn x = true ∨ X.env.scope.names.lookup x = some .local := by first | exact .inl rfl | exact .inr rfl | assumption) :
    PS X (.Assign [.Name x pos'] e pos) (tAsg te (gName i)) := by
  intro pins s σ H D I h
  refine wpAny_Assign_Name (thn (he pins s σ H _ I h) fun v s1 ⟨y, H1, I1, r1, q1⟩ => ?_) hs
  exact store_ok I1 hN hi hx r1 (fun s2 I2 => ⟨_, H1, I2, q1⟩) hf
/-- a, b = x, y with plain local names: stored from the right; the pair itself is not tracked (the opening rows as in PyProof/Rows/TupAssign.lean:23) -/
def tPar (i j : Nat) (ta : TA) : TS := fun D σ H => ta σ H fun vs H1 => ∃ v w, vs = [v, w] ∧ D.nx ((σ.set i (some v)).set j (some w)) H1
theorem ps_par {i j : Nat} {x y : Str} {a b : Expr} {ta : TA} {px py pt : Pos} {kt k2 pt2} (hc : X.calm = true) (hN : X.N.Nodup) (hi : X.N[i]? = some x) (hj : X.N[j]? = some y) (hij : i ≠ j)
    (hx : X.env.scope.names.lookup x = some .local) (hy : X.env.scope.names.lookup y = some .local) (ha : PA X [a, b] ta)
    (hw : swappedStores [.Tuple [.Name x px, .Name y py] kt pt] (.Tuple [a, b] k2 pt2) X.env = pure (some [x, y]))
    (hs : swapsWithSole [.Tuple [.Name x px, .Name y py] kt pt] (.Tuple [a, b] k2 pt2) pos.line X.env = pure false := by rfl) :
    PS X (.Assign [.Tuple [.Name x px, .Name y py] kt pt] (.Tuple [a, b] k2 pt2) pos) (tPar i j ta) := by
  intro pins s σ H D I h
  rw [exec_Assign_arm]
  refine wpAny_bind (wpAny_standAt ?_)
  rw [hs]
  refine wpAny_bind (wpAny_pure ?_)
  rw [if_neg (by decide)]
  refine wpAny_bind (Tuple_ (thn (ha _ pins s σ H _ I h) fun us s1 ⟨vs, H1, I1, r1, q1⟩ => ?_))
  obtain ⟨v, w, e1, q1⟩ := q1
  subst e1
  obtain ⟨u1, u2, rfl, rv, rw'⟩ : ∃ u1 u2, us = [u1, u2] ∧ RelV v u1 ∧ RelV w u2 := by
    cases r1 with
    | cons p q =>
      cases q with
      | cons p' q' =>
        cases q'
        exact ⟨_, _, rfl, p, p'⟩
  refine wpAny_newObj_type ?_ (by show 2 ≤ sizeLine; decide)
  have I2 : Inv X pins σ H1 { s1 with heap := s1.heap.push { cls := .type "tuple", data := .seq [u1, u2].toArray } } := I1.kept (t' := s1.toks) fun b o e => Heap.get?_push_of_some _ e
  rw [hw]
  refine wpAny_bind (wpAny_pure ?_)
  show wpAny (model X.prog X.w) X.A (do rule "assign.swapped-stores"; let items ← unpackItems (.ref s1.heap.objs.size) 2 none; assignInOrder [fun v => bindName X.env y v, fun v => bindName X.env x v] items.reverse; pure Flow.next) _ _ _
  refine wpAny_bind (wpAny_rule (wpAny_bind (unpackItems_tuple (items := #[u1, u2]) (I.ok.hd hc) (IsTup.new s1.heap _) fun h' hx' => ?_)))
  have I3 := I2.kept (h' := h') (t' := s1.toks) fun b o e => hx' b o (Nat.ne_of_lt (Heap.lt_size e)) e
  show wpAny _ _ (assignInOrder [fun v => bindName X.env y v, fun v => bindName X.env x v] [u2, u1] >>= fun _ => pure Flow.next) _ _ _
  refine wpAny_bind (assignInOrder_cons (wpAny_bindName (store_ok I3 hN hj (.inl hy) rw' (fun s2 I4 => ?_) (.inr hy))))
  refine assignInOrder_cons (wpAny_bindName (store_ok I4 hN hi (.inl hx) rv (fun s3 I5 => assignInOrder_nil (wpAny_pure ?_)) (.inr hx)))
  rw [List.set_comm _ _ (Ne.symm hij)] at I5
  exact ⟨_, H1, I5, q1⟩
/-- name op= e -/
def tAug (i : Nat) (te : TE) (ti : TIp) : TS := fun D σ H => ∃ x, σ[i]? = some (some x) ∧ te σ H fun y H1 => ti x y H1 fun z H2 => D.nx (σ.set i (some z)) H2
theorem ps_aug {i : Nat} {x : Str} {e : Expr} {te : TE} {op : Operator} {ti : TIp} {pos' : Pos} (hN : X.N.Nodup) (hi : X.N[i]? = some x) (hx : Loc X.env.scope x) (he : PE X e te) (ho : PIp X op ti) (hf : X.fn x = true ∨ X.env.scope.names.lookup x = some .local := by first | exact .inl rfl | exact .inr rfl | assumption) :
    PS X (.AugAssign (.Name x pos') op e pos) (tAug i te ti) := by
  intro pins s σ H D I h
  obtain ⟨v, e1, h⟩ := h
  obtain ⟨m, hn, hl⟩ := I.loc
  have vis : Vis X.env.scope x := by rcases hx with k | k; exact .inl k; exact .inr (.inl k)
  obtain ⟨u, r, l⟩ := hl i x v hi e1 vis
  refine wpAny_AugAssign_Name ?_
  have go : wpAny (model X.prog X.w) X.A (eval e X.env) (fun w s₂ => wpAny (model X.prog X.w) X.A (inplaceOp op u w) (fun r s₃ => wpAny (model X.prog X.w) X.A (storeName X.env x r) (fun _ => SP X pins D .next) X.xe s₃) X.xe s₂) X.xe s := by
    refine thn (he pins s σ H _ I h) fun w s1 ⟨y, H1, I1, r1, q1⟩ => ?_
    refine thn (ho pins s1 σ H1 v y u w _ I1 r r1 q1) fun z s2 ⟨zv, H2, I2, r2, q2⟩ => ?_
    exact store_ok I2 hN hi hx r2 (fun s3 I3 => ⟨_, H2, I3, q2⟩) hf
  rcases l with ⟨hk, hm⟩ | ⟨hk, c, hc, hcell⟩
  · exact wpAny_loadName_local I.ok.kind hk hn hm go
  · rcases hk with hk | hk
    · exact wpAny_loadName_cell I.ok.kind hk hc hcell go
    · rcases hx with k | k
      · have : X.env.scope.names.lookup x = some .free := hk
        rw [k] at this; cases this
      · have : X.env.scope.names.lookup x = some .free := hk
        rw [k] at this; cases this
/-- o[i] op= e -/
def tAugS (to ti te : TE) (tget : V → V → Hp → VK → Prop) (tip : TIp) (tset : TSet) : TS := fun D σ H => to σ H fun o H1 => ti σ H1 fun i H2 => tget o i H2 fun x H3 => te σ H3 fun y H4 => tip x y H4 fun z H5 => tset o i z H5 fun H6 => D.nx σ H6
/-- o[i], by values -/
def PGet (X : Cx) (t : V → V → Hp → VK → Prop) : Prop :=
  ∀ (pins : List (Addr × Obj)) (s : Shared) (σ : St) (H : Hp) (o i : V) (ov iv : Value) (Q : VK), Inv X pins σ H s → RelV o ov → RelV i iv → t o i H Q →
    wpAny (model X.prog X.w) X.A (getItem ov iv) (EP X pins σ Q) X.xe s
theorem ps_augS {o i e : Expr} {to ti te : TE} {tget : V → V → Hp → VK → Prop} {tip : TIp} {tset : TSet} {op : Operator} {tpos : Pos} (ho : PE X o to) (hi : PE X i ti) (hg : PGet X tget) (he : PE X e te) (hp : PIp X op tip) (hs : PSet X tset)
    (ha : ∀ ov iv new, augStore i ov iv new = (do holding [new, ov, iv] (setItem ov iv new); release [new, ov, iv] []; pure .next) := by intros; rfl) : PS X (.AugAssign (.Subscript o i tpos) op e pos) (tAugS to ti te tget tip tset) := by
  intro pins s σ H D I h
  refine wpAny_AugAssign_SubscriptAny (thn (ho pins s σ H _ I h) fun ov s1 ⟨x1, H1, I1, r1, q1⟩ => ?_) ha
  refine thn (hi pins s1 σ H1 _ I1 q1) fun iv s2 ⟨x2, H2, I2, r2, q2⟩ => ?_
  refine thn (hg pins s2 σ H2 x1 x2 ov iv _ I2 r1 r2 q2) fun old s3 ⟨x3, H3, I3, r3, q3⟩ => ?_
  refine thn (he pins s3 σ H3 _ I3 q3) fun v s4 ⟨x4, H4, I4, r4, q4⟩ => ?_
  refine thn (hp pins s4 σ H4 x3 x4 old v _ I4 r3 r4 q4) fun new s5 ⟨x5, H5, I5, r5, q5⟩ => ?_
  exact thn (hs pins s5 σ H5 x1 x2 x5 ov iv new _ I5 r1 r2 r5 q5) fun _ s6 ⟨H6, I6, q6⟩ => ⟨σ, H6, I6, q6⟩
/-- ints -/
def ipI (f : Int → Int → Int) : TIp := fun x y H Q => ∃ i j, x = .int i ∧ y = .int j ∧ Q (.int (f i j)) H
theorem ip_add : PIp X .Add (ipI fun i j => i + j) := by
  intro pins s σ H x y v u Q I r1 r2 h
  obtain ⟨i, j, e1, e2, q⟩ := h
  subst e1; subst e2
  obtain ⟨t, rfl⟩ := r1
  obtain ⟨t', rfl⟩ := r2
  exact iadd_int ⟨.int _, H, I.tok _, ⟨_, rfl⟩, q⟩
theorem ip_sub : PIp X .Sub (ipI fun i j => i - j) := by
  intro pins s σ H x y v u Q I r1 r2 h
  obtain ⟨i, j, e1, e2, q⟩ := h
  subst e1; subst e2
  obtain ⟨t, rfl⟩ := r1
  obtain ⟨t', rfl⟩ := r2
  exact isub_int ⟨.int _, H, I.tok _, ⟨_, rfl⟩, q⟩
end

/-! ### while -/
section
variable {X : Cx} {pos : Pos}
/-- the invariant W with its measure -/
def tWhile (c : TT) (tb : TS) : TS := fun D σ H => ∃ W : Nat → St → Hp → Prop, (∃ m, W m σ H) ∧ ∀ m σ H, W m σ H →
  c σ H fun b H1 => if b = true then ∃ N : St → Hp → Prop, (∀ σ' H', N σ' H' → ∃ m', m' < m ∧ W m' σ' H') ∧ tb { D with nx := N, ct := N, bk := D.nx } σ H1 else D.nx σ H1
theorem ps_while {c : Expr} {body : List Stmt} {tc : TT} {tb : TS} (hp : PassesOwn (model X.prog X.w) X.A X.env X.xe) (hc : PT X c tc) (hb : PSs X body tb) : PS X (.While c body [] pos) (tWhile tc tb) := by
  intro pins s σ H D I h
  obtain ⟨W, ⟨m0, w0⟩, turn⟩ := h
  refine wpAny_While (codeAny_whileLoop (fun n s' => ∃ σ' H', Inv X pins σ' H' s' ∧ W n σ' H') ?_ m0 ⟨σ, H, I, w0⟩)
  rintro n s1 ⟨σ1, H1, I1, w1⟩
  refine wpAny_passesOwn hp (thn (hc pins s1 σ1 H1 _ I1 (turn n σ1 H1 w1)) fun b s2 ⟨H2, I2, q2⟩ => ?_)
  cases b with
  | true =>
    obtain ⟨N, hN, q2⟩ := q2
    rw [if_pos rfl]
    refine wpAny_passesOwn hp (thn (hb pins s2 σ1 H2 _ I2 q2) fun f s3 q3 => ?_)
    cases f with
    | next =>
      obtain ⟨σ3, H3, I3, n3⟩ := q3
      obtain ⟨m', hm, w3⟩ := hN σ3 H3 n3
      exact ⟨m', hm, σ3, H3, I3, w3⟩
    | cont =>
      obtain ⟨σ3, H3, I3, n3⟩ := q3
      obtain ⟨m', hm, w3⟩ := hN σ3 H3 n3
      exact ⟨m', hm, σ3, H3, I3, w3⟩
    | brk => exact q3
    | ret v => exact q3
  | false =>
    rw [if_neg Bool.false_ne_true]
    exact wpAny_execs_nil ⟨σ1, H2, I2, q2⟩
end

/-! ### what a loop or a comprehension walks -/
/-- at turn i: it yields x (the heap may grow), or it stops -/
structure It where
  go : Nat → Hp → Prop
  yld : Nat → Hp → V → Hp → Prop
  stop : Nat → Hp → Prop
/-- the iterator's own objects may turn: they are not the frame's, not pinned, younger than the entry (or a comprehension's own) -/
def FpOk (X : Cx) (pins : List (Addr × Obj)) (H : Hp) (b : Addr) : Prop :=
  H b = none ∧ b ≠ X.env.locals ∧ b ∉ X.fs ∧ (b ∈ X.ex ∨ X.s_0.heap.objs.size ≤ b) ∧ (∀ x c, X.env.cells.lookup x = some c → c ≠ b) ∧ ∀ p ∈ X.pn ++ pins, p.1 ≠ b
theorem Inv.fpOk {X : Cx} {pins : List (Addr × Obj)} {σ : St} {H H' : Hp} {s : Shared} {b : Addr} (I : Inv X pins σ H s) (hb : s.heap.objs.size ≤ b) (hn : H' b = none) : FpOk X pins H' b := by
  refine ⟨hn, Nat.ne_of_gt (Nat.lt_of_lt_of_le I.lt hb), I.nofs hb, .inr (Nat.le_trans I.sz hb), fun x c e z => ?_, fun p hp z => ?_⟩
  · obtain ⟨v, q⟩ := I.cell x c e
    exact absurd (Nat.lt_of_lt_of_le q.lt (by rw [z]; exact hb)) (Nat.lt_irrefl _)
  · exact absurd (Nat.lt_of_lt_of_le (Heap.lt_size (I.pin p hp).1) (by rw [z]; exact hb)) (Nat.lt_irrefl _)
structure Turn (P : Program) (w : World) (K : PySem.W.Frag) (tg : Expr) (J : It) (fp : List Addr) (it : Addr) (tn : Nat → Heap → Prop) : Prop where
  mem : it ∈ fp
  obj : ∀ i h, tn i h → ∀ b ∈ fp, ∃ o, h.get? b = some o ∧ ∀ v, o.data ≠ .cell v
  keep : ∀ i h h', tn i h → (∀ b ∈ fp, ∀ o, h.get? b = some o → h'.get? b = some o) → tn i h'
  item : ∀ (X : Cx), X.prog = P → X.w = w → X.K = K → X.calm = true → ∀ (i : Nat) (pins : List (Addr × Obj)) (s : Shared) (σ : St) (H : Hp) (E : Value → Shared → Prop), Inv X pins σ H s → (∀ b ∈ fp, FpOk X pins H b) → tn i s.heap → J.go i H →
    wpAny (model P w) X.A (pyNext (.ref it)) (fun r s1 => ∃ u, r = some u ∧
      wpAny (model P w) X.A (letOwnedTupleGo tg (.ref it) u) (fun _ s2 => ∃ x H', Inv X pins σ H' s2 ∧ RelV x u ∧ J.yld i H x H' ∧ tn (i + 1) s2.heap ∧ ∀ b ∈ fp, H' b = none) E s1) E s
  done : ∀ (X : Cx), X.prog = P → X.w = w → X.K = K → X.calm = true → ∀ (i : Nat) (pins : List (Addr × Obj)) (s : Shared) (σ : St) (H : Hp) (E : Value → Shared → Prop), Inv X pins σ H s → (∀ b ∈ fp, FpOk X pins H b) → tn i s.heap → J.stop i H →
    wpAny (model P w) X.A (pyNext (.ref it)) (fun r s1 => r = none ∧ Inv X pins σ H s1) E s
  self : ∀ (A : Around) (i : Nat) (s : Shared) (Q : Value → Shared → Prop) (E : Value → Shared → Prop), tn i s.heap → Q (.ref it) s → wpAny (model P w) A (pyIter (.ref it)) Q E s
abbrev TI := St → Hp → (It → Hp → Prop) → Prop
/-- an iterator has come -/
def PIE (X : Cx) (pins : List (Addr × Obj)) (σ : St) (tg : Expr) (R : It → Hp → Prop) (itv : Value) (s2 : Shared) : Prop :=
  ∃ (it : Addr) (fp : List Addr) (tn : Nat → Heap → Prop) (J : It) (H' : Hp), itv = .ref it ∧ Inv X pins σ H' s2 ∧ Turn X.prog X.w X.K tg J fp it tn ∧ tn 0 s2.heap ∧ (∀ b ∈ fp, FpOk X pins H' b) ∧ R J H'
def PI (X : Cx) (tg iter : Expr) (wi : TI) : Prop :=
  ∀ (pins : List (Addr × Obj)) (s : Shared) (σ : St) (H : Hp) (R : It → Hp → Prop), Inv X pins σ H s → wi σ H R →
    wpAny (model X.prog X.w) X.A (eval iter X.env) (fun v s1 => wpAny (model X.prog X.w) X.A (pyIter v) (PIE X pins σ tg R) X.xe s1) X.xe s

/-- the step ahead of the store is nothing for an iterator that keeps no tuple -/
theorem go_of {M : Model} {A : Around} {E : Value → Shared → Prop} {s : Shared} {tg : Expr} {it : Addr} {u : Value} {o : Obj} {n : String} {vs : Array Value} {Q : Unit → Shared → Prop} (ho : s.heap.get? it = some o) (hc : o.cls = .type n) (hd : o.data = .fields vs)
    (hn : ["enumerate", "zip", "dict_itemiterator", "dict_reverseitemiterator", "odict_iterator", "itertools.zip_longest", "itertools.pairwise"].contains n = false) (hQ : Q () s) : wpAny M A (letOwnedTupleGo tg (.ref it) u) Q E s := by
  unfold letOwnedTupleGo
  cases tg <;> first
    | exact wpAny_pure hQ
    | (cases u <;> first
        | exact wpAny_pure hQ
        | (refine wpAny_bind (wpAny_load ho ?_)
           rw [hc, hd]
           show wpAny M A (if (["enumerate", "zip", "dict_itemiterator", "dict_reverseitemiterator", "odict_iterator", "itertools.zip_longest", "itertools.pairwise"].contains n && vs[0]? == some (rawInt _)) = true then _ else _) Q E s
           rw [if_neg (by intro h; rw [hn, Bool.false_and] at h; cases h)]
           exact wpAny_pure hQ))

/-- the list at a, as it stands at each turn (a loop may append to it) -/
def Itl (K : PySem.W.Frag) (a : Addr) : It :=
  ⟨fun i H => ∃ xs x, SqL K H a xs ∧ xs[i]? = some x, fun i H x H' => H' = H ∧ ∀ xs, SqL K H a xs → xs[i]? = some x, fun i H => ∃ xs, SqL K H a xs ∧ xs.length ≤ i⟩
def Itt (K : PySem.W.Frag) (a : Addr) : It :=
  ⟨fun i H => ∃ xs x, SqT K H a xs ∧ xs[i]? = some x, fun i H x H' => H' = H ∧ ∀ xs, SqT K H a xs → xs[i]? = some x, fun i H => ∃ xs, SqT K H a xs ∧ xs.length ≤ i⟩
/-- lo, lo + 1, .. (n of them) -/
def Itr (lo : Int) (n : Nat) : It := ⟨fun i _ => i < n, fun i H x H' => H' = H ∧ x = .int (lo + i), fun i _ => n ≤ i⟩
theorem turn_list {P : Program} {w : World} {K : PySem.W.Frag} {tg : Expr} (a it : Addr) : Turn P w K tg (Itl K a) [it] it (fun i h => h.IsListIter it a i) where
  mem := by simp
  obj := fun i h st b hb => by
    have e : b = it := by simpa using hb
    subst e
    obtain ⟨o, e, c, d⟩ := st
    exact ⟨o, e, fun v z => by rw [d] at z; cases z⟩
  keep := fun i h h' st k => st.at fun o e => k it (by simp) o e
  item := by
    intro X hP hw hK hc i pins s σ H E I hf st hg
    subst hP hw hK
    obtain ⟨xs, x, hq, hx⟩ := hg
    obtain ⟨its, rv, p, hz⟩ := I.list hq
    obtain ⟨u, hu, ru⟩ := rv.get hx
    obtain ⟨f0, f1, f2, f3, f4, f5⟩ := hf it (by simp)
    refine wpAny_pyNext_list_item st p.isList (x := u) (by simpa using hu) fun h' st' sb => ?_
    have I1 : Inv X pins σ H { s with heap := h' } := I.turned (t' := s.toks) (fun b o hb e => (sb.2 b hb).trans e) f0 f1 f3 f4 f5
    obtain ⟨o, e, c, d⟩ := id st'
    exact ⟨u, rfl, go_of (s := { s with heap := h' }) e c d (by decide) ⟨x, H, I1, ru, ⟨rfl, fun ys hy => by rw [I.list_inj hy hq]; exact hx⟩, st', fun b hb => (hf b hb).1⟩⟩
  done := by
    intro X hP hw hK hc i pins s σ H E I hf st hg
    subst hP hw hK
    obtain ⟨xs, hq, hx⟩ := hg
    obtain ⟨its, rv, p, hz⟩ := I.list hq
    obtain ⟨f0, f1, f2, f3, f4, f5⟩ := hf it (by simp)
    have hl := rv.length
    exact wpAny_pyNext_list_end (I.ok.hd hc) st p.isList (by simp; omega) fun h' eb => ⟨rfl, I.turned (t' := s.toks) (fun b o hb e => eb b o hb e) f0 f1 f3 f4 f5⟩
  self := fun _ _ _ _ _ st h => wpAny_pyIter_listiter st h
theorem turn_tuple {P : Program} {w : World} {K : PySem.W.Frag} {tg : Expr} (a it : Addr) : Turn P w K tg (Itt K a) [it] it (fun i h => h.IsTupleIter it a i) where
  mem := by simp
  obj := fun i h st b hb => by
    have e : b = it := by simpa using hb
    subst e
    obtain ⟨o, e, c, d⟩ := st
    exact ⟨o, e, fun v z => by rw [d] at z; cases z⟩
  keep := fun i h h' st k => st.at fun o e => k it (by simp) o e
  item := by
    intro X hP hw hK hc i pins s σ H E I hf st hg
    subst hP hw hK
    obtain ⟨xs, x, hq, hx⟩ := hg
    obtain ⟨its, rv, p, hz⟩ := I.tuple hq
    obtain ⟨u, hu, ru⟩ := rv.get hx
    obtain ⟨f0, f1, f2, f3, f4, f5⟩ := hf it (by simp)
    refine wpAny_pyNext_tuple_item st (show s.heap.IsTuple a its.toArray from p) (x := u) (by simpa using hu) fun h' st' sb => ?_
    have I1 : Inv X pins σ H { s with heap := h' } := I.turned (t' := s.toks) (fun b o hb e => (sb.2 b hb).trans e) f0 f1 f3 f4 f5
    obtain ⟨o, e, c, d⟩ := id st'
    exact ⟨u, rfl, go_of (s := { s with heap := h' }) e c d (by decide) ⟨x, H, I1, ru, ⟨rfl, fun ys hy => by rw [I.tuple_inj hy hq]; exact hx⟩, st', fun b hb => (hf b hb).1⟩⟩
  done := by
    intro X hP hw hK hc i pins s σ H E I hf st hg
    subst hP hw hK
    obtain ⟨xs, hq, hx⟩ := hg
    obtain ⟨its, rv, p, hz⟩ := I.tuple hq
    obtain ⟨f0, f1, f2, f3, f4, f5⟩ := hf it (by simp)
    have hl := rv.length
    exact wpAny_pyNext_tuple_end (I.ok.hd hc) st (show s.heap.IsTuple a its.toArray from p) (by simp; omega) fun h' eb => ⟨rfl, I.turned (t' := s.toks) (fun b o hb e => eb b o hb e) f0 f1 f3 f4 f5⟩
  self := fun _ _ _ _ _ st h => wpAny_pyIter_tupleiter st h
theorem turn_range {P : Program} {w : World} {K : PySem.W.Frag} {tg : Expr} (it : Addr) (lo : Int) (n : Nat) : Turn P w K tg (Itr lo n) [it] it (fun i h => IsRangeIter h it (lo + (i : Nat) * 1) ((n : Int) - (i : Nat)) 1) where
  mem := by simp
  obj := fun i h st b hb => by
    have e : b = it := by simpa using hb
    subst e
    exact ⟨_, st, fun v z => by
      have z' : Data.fields _ = Data.cell v := z
      cases z'⟩
  keep := fun i h h' st k => k it (by simp) _ st
  item := by
    intro X hP hw hK hc i pins s σ H E I hf st hg
    subst hP hw hK
    obtain ⟨f0, f1, f2, f3, f4, f5⟩ := hf it (by simp)
    have W := Walks.range (prog := X.prog) (w := X.w) (I.ok.hd hc) it lo 1 n
    refine W.item i s _ _ hg st fun v h' tk hv st' kk => ?_
    obtain ⟨t, rfl⟩ := hv
    have I1 : Inv X pins σ H { s with heap := h', toks := tk } := I.turned (fun b o hb e => kk b o (by simpa using hb) e) f0 f1 f3 f4 f5
    refine ⟨_, rfl, go_of (s := { s with heap := h', toks := tk }) (n := "range_iterator") st' rfl rfl (by decide) ⟨.int (lo + i), H, I1, ⟨t, ?_⟩, ⟨rfl, rfl⟩, st', fun b hb => (hf b hb).1⟩⟩
    rw [Int.mul_one]
  done := by
    intro X hP hw hK hc i pins s σ H E I hf st hg
    subst hP hw hK
    obtain ⟨f0, f1, f2, f3, f4, f5⟩ := hf it (by simp)
    exact wpAny_pyNext_range_end (I.ok.hd hc) st (by have : n ≤ i := hg; omega) fun h' eb => ⟨rfl, I.turned (t' := s.toks) (fun b o hb e => eb b o hb e) f0 f1 f3 f4 f5⟩
  self := fun _ _ _ _ _ st h => wpAny_pyIter_rangeiter st h
end L2

namespace L2
open PySem PySem.Spec PyProof.Rows
section
variable {X : Cx} {tg : Expr}
def iList (K : PySem.W.Frag) (tl : TE) : TI := fun σ H R => tl σ H fun x H1 => ∃ a, x = .ref a ∧ (∃ xs, SqL K H1 a xs) ∧ R (Itl K a) H1
def iTup (K : PySem.W.Frag) (tl : TE) : TI := fun σ H R => tl σ H fun x H1 => ∃ a, x = .ref a ∧ (∃ xs, SqT K H1 a xs) ∧ R (Itt K a) H1
theorem pi_list {l : Expr} {tl : TE} (hl : PE X l tl) : PI X tg l (iList X.K tl) := by
  intro pins s σ H R I h
  refine thn (hl pins s σ H _ I h) fun v s1 ⟨x, H1, I1, r1, q1⟩ => ?_
  obtain ⟨a, e, ⟨xs, hq⟩, q⟩ := q1
  subst e
  cases r1
  obtain ⟨its, rv, p, hz⟩ := I1.list hq
  refine wpAny_pyIter_list p.isList ?_
  refine ⟨s1.heap.objs.size, [s1.heap.objs.size], _, _, H1, rfl, I1.kept (t' := s1.toks) fun b o e => Heap.get?_push_of_some _ e, turn_list a _, ⟨_, Heap.get?_push_size _ rfl, rfl, rfl⟩, fun b hb => ?_, q⟩
  have e : b = s1.heap.objs.size := by simpa using hb
  subst e
  exact I1.fpOk (Nat.le_refl _) (I1.hok.fresh (Nat.le_refl _))
theorem pi_tup {l : Expr} {tl : TE} (hl : PE X l tl) : PI X tg l (iTup X.K tl) := by
  intro pins s σ H R I h
  refine thn (hl pins s σ H _ I h) fun v s1 ⟨x, H1, I1, r1, q1⟩ => ?_
  obtain ⟨a, e, ⟨xs, hq⟩, q⟩ := q1
  subst e
  cases r1
  obtain ⟨its, rv, p, hz⟩ := I1.tuple hq
  refine wpAny_pyIter_tuple (show s1.heap.IsTuple a its.toArray from p) ?_
  refine ⟨s1.heap.objs.size, [s1.heap.objs.size], _, _, H1, rfl, I1.kept (t' := s1.toks) fun b o e => Heap.get?_push_of_some _ e, turn_tuple a _, ⟨_, Heap.get?_push_size _ rfl, rfl, rfl⟩, fun b hb => ?_, q⟩
  have e : b = s1.heap.objs.size := by simpa using hb
  subst e
  exact I1.fpOk (Nat.le_refl _) (I1.hok.fresh (Nat.le_refl _))
/-- a range object just made, walked -/
theorem range_it {pins : List (Addr × Obj)} {σ : St} {H : Hp} {s : Shared} {R : It → Hp → Prop} {E : Value → Shared → Prop} {lo hi : Int} {t u v : Tok} {tk : Nat} (I : Inv X pins σ H s) (h1 : -(2 ^ 62) ≤ lo) (h2 : lo < 2 ^ 62) (h3 : -(2 ^ 62) ≤ hi) (h4 : hi < 2 ^ 62)
    (q : R (Itr lo (hi - lo).toNat) H) : wpAny (model X.prog X.w) X.A (pyIter (.ref s.heap.objs.size)) (PIE X pins σ tg R) E { s with heap := s.heap.push { cls := .type "range", data := .fields #[.int lo t, .int hi u, .int 1 v] }, toks := tk } := by
  refine wpAny_pyIter_range (IsRange.new ..) (small_one h1 h2 h3 h4) ?_
  have I1 : Inv X pins σ H { s with heap := s.heap.push { cls := .type "range", data := .fields #[.int lo t, .int hi u, .int 1 v] }, toks := tk } := I.kept fun b o e => Heap.get?_push_of_some _ e
  refine ⟨(s.heap.push { cls := .type "range", data := .fields #[.int lo t, .int hi u, .int 1 v] }).objs.size, [(s.heap.push { cls := .type "range", data := .fields #[.int lo t, .int hi u, .int 1 v] }).objs.size], _, _, H, rfl,
    I1.kept (t' := tk) fun b o e => Heap.get?_push_of_some _ e, turn_range _ lo (hi - lo).toNat, ?_, fun b hb => ?_, q⟩
  · have e1 : lo + ((0 : Nat) : Int) * 1 = lo := by simp
    have e2 : (((hi - lo).toNat : Nat) : Int) - ((0 : Nat) : Int) = Builtin.Range.rangeSize lo hi 1 := by rw [rangeSize_one]; split <;> omega
    show IsRangeIter _ _ (lo + ((0 : Nat) : Int) * 1) ((((hi - lo).toNat : Nat) : Int) - ((0 : Nat) : Int)) 1
    rw [e1, e2]
    exact Heap.get?_push_size _ rfl
  · have e : b = (s.heap.push { cls := .type "range", data := .fields #[.int lo t, .int hi u, .int 1 v] }).objs.size := by simpa using hb
    subst e
    exact I1.fpOk (Nat.le_refl _) (I1.hok.fresh (Nat.le_refl _))
def iRng1 (ta : TA) : TI := fun σ H R => ta σ H fun vs H1 => ∃ j : Int, vs = [.int j] ∧ -(2 ^ 62) ≤ j ∧ j < 2 ^ 62 ∧ R (Itr 0 j.toNat) H1
def iRng2 (ta : TA) : TI := fun σ H R => ta σ H fun vs H1 => ∃ i j : Int, vs = [.int i, .int j] ∧ (-(2 ^ 62) ≤ i ∧ i < 2 ^ 62 ∧ -(2 ^ 62) ≤ j ∧ j < 2 ^ 62) ∧ R (Itr i (j - i).toNat) H1
theorem pi_range1 {a : Expr} {ta : TA} {p pos : Pos} (hg : Gl X "range") (hm : X.mg "range" = none) (ha : PA X [a] ta) (hs : starEach [a] X.env = [(false, eval a X.env)] := by rfl) : PI X tg (.Call (.Name "range" p) [a] [] pos) (iRng1 ta) := by
  intro pins s σ H R I h
  refine Call_ (ld_blt I hg hm boot_range (PyProof.Rows.callWith_type1 (thn (ha pos pins s σ H _ I h) fun us s1 ⟨vs, H1, I1, r1, q1⟩ => ?_) hs rfl))
  obtain ⟨j, e, q1, q2, q⟩ := q1
  subst e
  cases r1 with
  | cons r rr =>
    cases rr
    obtain ⟨t, rfl⟩ := r
    exact call_range_1 (range_it I1 (by omega) (by omega) q1 q2 (by simpa using q))
theorem pi_range2 {a b : Expr} {ta : TA} {p pos : Pos} (hg : Gl X "range") (hm : X.mg "range" = none) (ha : PA X [a, b] ta) (hs : starEach [a, b] X.env = [(false, eval a X.env), (false, eval b X.env)] := by rfl) (hs2 : starEach [b] X.env = [(false, eval b X.env)] := by rfl) :
    PI X tg (.Call (.Name "range" p) [a, b] [] pos) (iRng2 ta) := by
  intro pins s σ H R I h
  refine Call_ (ld_blt I hg hm boot_range (PyProof.Rows.callWith_type1 (thn (ha pos pins s σ H _ I h) fun us s1 ⟨vs, H1, I1, r1, q1⟩ => ?_) (by rw [hs, hs2]) (by rw [hs2]; rfl)))
  obtain ⟨i, j, e, ⟨q1, q2, q3, q4⟩, q⟩ := q1
  subst e
  cases r1 with
  | cons r rr =>
    cases rr with
    | cons r' rr =>
      cases rr
      obtain ⟨t, rfl⟩ := r
      obtain ⟨t', rfl⟩ := r'
      exact call_range_2 (range_it I1 q1 q2 q3 q4 q)

/-! ### for -/
/-- W: the invariant by the turn and a measure; N: what the body is to reach -/
def tFor (wi : TI) (g : TG) (tb : TS) : TS := fun D σ H => wi σ H fun J H1 => ∃ W : Nat → Nat → St → Hp → Prop, (∃ m, W 0 m σ H1) ∧ ∀ i m σ H, W i m σ H →
  (J.stop i H ∧ D.nx σ H) ∨ (J.go i H ∧ ∃ N : St → Hp → Prop, (∀ σ' H', N σ' H' → ∃ m', m' < m ∧ W (i + 1) m' σ' H') ∧ ∀ x H', J.yld i H x H' → g x σ H' fun σ2 H2 => tb { D with nx := N, ct := N, bk := D.nx } σ2 H2)
/-- the records at fp as they stand -/
def pinsAt (fp : List Addr) (h : Heap) : List (Addr × Obj) := fp.filterMap fun b => (h.get? b).map fun o => (b, o)
theorem mem_pinsAt {fp : List Addr} {h : Heap} {b : Addr} {o : Obj} (hb : b ∈ fp) (e : h.get? b = some o) : (b, o) ∈ pinsAt fp h := List.mem_filterMap.mpr ⟨b, hb, by rw [e]; rfl⟩
theorem of_pinsAt {fp : List Addr} {h : Heap} {p : Addr × Obj} (hp : p ∈ pinsAt fp h) : p.1 ∈ fp ∧ h.get? p.1 = some p.2 := by
  obtain ⟨b, hb, e⟩ := List.mem_filterMap.mp hp
  cases q : h.get? b with
  | none => rw [q] at e; cases e
  | some o =>
    rw [q] at e
    have e' : (b, o) = p := Option.some.inj e
    subst e'
    exact ⟨hb, q⟩
theorem Inv.pinned {pins : List (Addr × Obj)} {σ : St} {H : Hp} {s : Shared} {fp : List Addr} (I : Inv X pins σ H s) (hf : ∀ b ∈ fp, FpOk X pins H b) (ho : ∀ b ∈ fp, ∃ o, s.heap.get? b = some o ∧ ∀ v, o.data ≠ .cell v) : Inv X (pins ++ pinsAt fp s.heap) σ H s :=
  I.pins_of fun p hp => (List.mem_append.mp hp).elim (fun z => I.pin p (List.mem_append_right _ z)) fun z => by
    obtain ⟨hb, e⟩ := of_pinsAt z
    obtain ⟨f0, f1, f2, _⟩ := hf p.1 hb
    obtain ⟨o, e', d⟩ := ho p.1 hb
    rw [e] at e'; cases e'
    exact ⟨e, f0, f1, f2, d⟩
theorem Inv.unpinned {pins pl : List (Addr × Obj)} {σ : St} {H : Hp} {s : Shared} (I : Inv X (pins ++ pl) σ H s) : Inv X pins σ H s := I.pins_of fun p hp => I.pin p (List.mem_append_right _ (List.mem_append_left _ hp))
theorem ps_for {iter : Expr} {body : List Stmt} {wi : TI} {g : TG} {tb : TS} {pos : Pos} (hp : PassesOwn (model X.prog X.w) X.A X.env X.xe) (hc : X.calm = true) (hi : PI X tg iter wi) (hg : PG X tg g) (hb : PSs X body tb)
    (hs : ∀ x, foldedSetIterable iter X.env x = pure x := by intro _; rfl) : PS X (.For tg iter body [] pos) (tFor wi g tb) := by
  intro pins s σ H D I h
  refine wpAny_For (thn (hi pins s σ H _ I h) fun v s1 h1 => thn h1 fun itv s2 h2 => ?_) hs
  obtain ⟨it, fp, tn, J, H2, e, I2, T, st2, f2, W, ⟨m0, w0⟩, turn⟩ := h2
  subst e
  -- what stays true of the iterator's objects through the loop
  have stat : ∀ {H' : Hp}, (∀ b ∈ fp, H' b = none) → ∀ b ∈ fp, FpOk X pins H' b := fun hn b hb => ⟨hn b hb, (f2 b hb).2⟩
  refine codeAny_forLoop_any (fun n s' => ∃ i σ' H', Inv X pins σ' H' s' ∧ tn i s'.heap ∧ (∀ b ∈ fp, H' b = none) ∧ W i n σ' H') ?_ m0 ⟨0, σ, H2, I2, st2, fun b hb => (f2 b hb).1, w0⟩
  rintro n s3 ⟨i, σ3, H3, I3, st3, fr3, w3⟩
  rcases turn i n σ3 H3 w3 with ⟨stop, qn⟩ | ⟨go, N, hN, step⟩
  · refine wpAny_passesOwn hp (thn (T.done X rfl rfl rfl hc i pins s3 σ3 H3 X.xe I3 (stat fr3) st3 stop) fun r s4 ⟨hr, I4⟩ => ?_)
    subst hr
    exact wpAny_execs_nil ⟨σ3, H3, I4, qn⟩
  · refine wpAny_passesOwn hp (thn (T.item X rfl rfl rfl hc i pins s3 σ3 H3 X.xe I3 (stat fr3) st3 go) fun r s4 ⟨u, hr, h4⟩ => ?_)
    subst hr
    refine wpAny_passesOwn hp (thn h4 fun _ s5 ⟨x, H5, I5, r5, y5, st5, fr5⟩ => ?_)
    have I5' := I5.pinned (stat fr5) (T.obj _ _ st5)
    refine wpAny_passesOwn hp (thn (hg _ s5 σ3 H5 x u _ I5' r5 (step x H5 y5)) fun _ s6 ⟨σ6, H6, I6, q6⟩ => ?_)
    refine wpAny_passesOwn hp (thn (hb _ s6 σ6 H6 _ I6 q6) fun f s7 q7 => ?_)
    have again : ∀ {σ7 : St} {H7 : Hp}, Inv X (pins ++ pinsAt fp s5.heap) σ7 H7 s7 → N σ7 H7 → ∃ m, m < n ∧ ∃ i σ' H', Inv X pins σ' H' s7 ∧ tn i s7.heap ∧ (∀ b ∈ fp, H' b = none) ∧ W i m σ' H' := fun {σ7 H7} I7 n7 => by
      obtain ⟨m', hm, w7⟩ := hN σ7 H7 n7
      refine ⟨m', hm, i + 1, σ7, H7, I7.unpinned, T.keep _ _ _ st5 fun b hb o e => (I7.pin (b, o) (List.mem_append_right _ (List.mem_append_right _ (mem_pinsAt hb e)))).1, fun b hb => ?_, w7⟩
      obtain ⟨o, e, d⟩ := T.obj _ _ st5 b hb
      exact (I7.pin (b, o) (List.mem_append_right _ (List.mem_append_right _ (mem_pinsAt hb e)))).2.1
    cases f with
    | next => obtain ⟨σ7, H7, I7, n7⟩ := q7; exact again I7 n7
    | cont => obtain ⟨σ7, H7, I7, n7⟩ := q7; exact again I7 n7
    | brk => obtain ⟨σ7, H7, I7, q7⟩ := q7; exact ⟨σ7, H7, I7.unpinned, q7⟩
    | ret v => obtain ⟨x7, σ7, H7, I7, r7, q7⟩ := q7; exact ⟨x7, σ7, H7, I7.unpinned, r7, q7⟩
end

/-! ### the forms one uses -/
/-- over a list that the body leaves as it is -/
theorem for_list {K : PySem.W.Frag} {a : Addr} {xs : List V} {g : TG} {tb : TS} {D : Ends} {σ : St} {H : Hp} (Pv : Nat → St → Hp → Prop) (h0 : Pv 0 σ H) (hl : ∀ i σ H, i ≤ xs.length → Pv i σ H → SqL K H a xs)
    (hs : ∀ i x σ H, xs[i]? = some x → Pv i σ H → g x σ H fun σ2 H2 => tb { D with nx := Pv (i + 1), ct := Pv (i + 1), bk := D.nx } σ2 H2) (hd : ∀ σ H, Pv xs.length σ H → D.nx σ H) :
    ∃ W : Nat → Nat → St → Hp → Prop, (∃ m, W 0 m σ H) ∧ ∀ i m σ H, W i m σ H →
      ((Itl K a).stop i H ∧ D.nx σ H) ∨ ((Itl K a).go i H ∧ ∃ N : St → Hp → Prop, (∀ σ' H', N σ' H' → ∃ m', m' < m ∧ W (i + 1) m' σ' H') ∧ ∀ x H', (Itl K a).yld i H x H' → g x σ H' fun σ2 H2 => tb { D with nx := N, ct := N, bk := D.nx } σ2 H2) := by
  refine ⟨fun i m σ H => m = xs.length - i ∧ i ≤ xs.length ∧ Pv i σ H, ⟨xs.length, by simp, Nat.zero_le _, h0⟩, ?_⟩
  rintro i m σ H ⟨rfl, hi, p⟩
  have q := hl i σ H hi p
  by_cases hlt : i < xs.length
  · refine .inr ⟨⟨xs, xs[i], q, by simp [hlt]⟩, Pv (i + 1), fun σ' H' p' => ⟨xs.length - (i + 1), by omega, rfl, hlt, p'⟩, fun x H' y => ?_⟩
    obtain ⟨e, y⟩ := y
    subst e
    exact hs i x σ _ (y xs q) p
  · have e : i = xs.length := by omega
    subst e
    exact .inl ⟨⟨xs, q, Nat.le_refl _⟩, hd σ H p⟩
theorem for_tup {K : PySem.W.Frag} {a : Addr} {xs : List V} {g : TG} {tb : TS} {D : Ends} {σ : St} {H : Hp} (Pv : Nat → St → Hp → Prop) (h0 : Pv 0 σ H) (hl : ∀ i σ H, i ≤ xs.length → Pv i σ H → SqT K H a xs)
    (hs : ∀ i x σ H, xs[i]? = some x → Pv i σ H → g x σ H fun σ2 H2 => tb { D with nx := Pv (i + 1), ct := Pv (i + 1), bk := D.nx } σ2 H2) (hd : ∀ σ H, Pv xs.length σ H → D.nx σ H) :
    ∃ W : Nat → Nat → St → Hp → Prop, (∃ m, W 0 m σ H) ∧ ∀ i m σ H, W i m σ H →
      ((Itt K a).stop i H ∧ D.nx σ H) ∨ ((Itt K a).go i H ∧ ∃ N : St → Hp → Prop, (∀ σ' H', N σ' H' → ∃ m', m' < m ∧ W (i + 1) m' σ' H') ∧ ∀ x H', (Itt K a).yld i H x H' → g x σ H' fun σ2 H2 => tb { D with nx := N, ct := N, bk := D.nx } σ2 H2) := by
  refine ⟨fun i m σ H => m = xs.length - i ∧ i ≤ xs.length ∧ Pv i σ H, ⟨xs.length, by simp, Nat.zero_le _, h0⟩, ?_⟩
  rintro i m σ H ⟨rfl, hi, p⟩
  have q := hl i σ H hi p
  by_cases hlt : i < xs.length
  · refine .inr ⟨⟨xs, xs[i], q, by simp [hlt]⟩, Pv (i + 1), fun σ' H' p' => ⟨xs.length - (i + 1), by omega, rfl, hlt, p'⟩, fun x H' y => ?_⟩
    obtain ⟨e, y⟩ := y
    subst e
    exact hs i x σ _ (y xs q) p
  · have e : i = xs.length := by omega
    subst e
    exact .inl ⟨⟨xs, q, Nat.le_refl _⟩, hd σ H p⟩
theorem for_range {lo : Int} {n : Nat} {g : TG} {tb : TS} {D : Ends} {σ : St} {H : Hp} (Pv : Nat → St → Hp → Prop) (h0 : Pv 0 σ H)
    (hs : ∀ i σ H, i < n → Pv i σ H → g (.int (lo + i)) σ H fun σ2 H2 => tb { D with nx := Pv (i + 1), ct := Pv (i + 1), bk := D.nx } σ2 H2) (hd : ∀ σ H, Pv n σ H → D.nx σ H) :
    ∃ W : Nat → Nat → St → Hp → Prop, (∃ m, W 0 m σ H) ∧ ∀ i m σ H, W i m σ H →
      ((Itr lo n).stop i H ∧ D.nx σ H) ∨ ((Itr lo n).go i H ∧ ∃ N : St → Hp → Prop, (∀ σ' H', N σ' H' → ∃ m', m' < m ∧ W (i + 1) m' σ' H') ∧ ∀ x H', (Itr lo n).yld i H x H' → g x σ H' fun σ2 H2 => tb { D with nx := N, ct := N, bk := D.nx } σ2 H2) := by
  refine ⟨fun i m σ H => m = n - i ∧ i ≤ n ∧ Pv i σ H, ⟨n, by simp, Nat.zero_le _, h0⟩, ?_⟩
  rintro i m σ H ⟨rfl, hi, p⟩
  by_cases hlt : i < n
  · refine .inr ⟨hlt, Pv (i + 1), fun σ' H' p' => ⟨n - (i + 1), by omega, rfl, hlt, p'⟩, fun x H' y => ?_⟩
    obtain ⟨e, y⟩ := y
    subst e y
    exact hs i σ _ hlt p
  · have e : i = n := by omega
    subst e
    exact .inl ⟨Nat.le_refl _, hd σ H p⟩
/-- while, by a word and a measure of the state -/
theorem while_by {c : TT} {tb : TS} {D : Ends} {σ : St} {H : Hp} (Pv : St → Hp → Prop) (μ : St → Hp → Nat) (h0 : Pv σ H)
    (hs : ∀ σ H, Pv σ H → c σ H fun b H1 => if b = true then tb { D with nx := fun σ' H' => Pv σ' H' ∧ μ σ' H' < μ σ H, ct := fun σ' H' => Pv σ' H' ∧ μ σ' H' < μ σ H, bk := D.nx } σ H1 else D.nx σ H1)
    (mono : ∀ σ H Q Q', (∀ b H1, Q b H1 → Q' b H1) → c σ H Q → c σ H Q') : tWhile c tb D σ H := by
  refine ⟨fun m σ H => m = μ σ H ∧ Pv σ H, ⟨_, rfl, h0⟩, ?_⟩
  rintro m σ H ⟨rfl, p⟩
  refine mono σ H _ _ (fun b H1 q => ?_) (hs σ H p)
  cases b with
  | true => exact ⟨_, fun σ' H' ⟨p', l⟩ => ⟨_, l, rfl, p'⟩, q⟩
  | false => exact q
end L2

namespace L2
open PySem PySem.Spec PyProof.Rows

abbrev R2 := V → V → Hp → VK → Prop
/-- a two-place operation on values: f is binaryOp op, inplaceOp op or compareOp op -/
def OpR (X : Cx) (f : Value → Value → Sem Value) (r : R2) : Prop :=
  ∀ (pins : List (Addr × Obj)) (s : Shared) (σ : St) (H : Hp) (x y : V) (v u : Value) (Q : VK), Inv X pins σ H s → RelV x v → RelV y u → r x y H Q →
    wpAny (model X.prog X.w) X.A (f v u) (EP X pins σ Q) X.xe s
/-- a one-place operation -/
def UnR (X : Cx) (f : Value → Sem Value) (r : V → Hp → VK → Prop) : Prop :=
  ∀ (pins : List (Addr × Obj)) (s : Shared) (σ : St) (H : Hp) (x : V) (v : Value) (Q : VK), Inv X pins σ H s → RelV x v → r x H Q →
    wpAny (model X.prog X.w) X.A (f v) (EP X pins σ Q) X.xe s
/-- a call of a value that is known (a builtin, a type) with values -/
def CallR (X : Cx) (f : Value) (r : List V → Hp → VK → Prop) : Prop :=
  ∀ (pins : List (Addr × Obj)) (s : Shared) (σ : St) (H : Hp) (xs : List V) (us : List Value) (Q : VK), Inv X pins σ H s → Vals xs us → r xs H Q →
    wpAny (model X.prog X.w) X.A (call f us) (EP X pins σ Q) X.xe s
/-- a value's truth -/
def TruR (X : Cx) (r : V → Hp → (Bool → Hp → Prop) → Prop) : Prop :=
  ∀ (pins : List (Addr × Obj)) (s : Shared) (σ : St) (H : Hp) (x : V) (v : Value) (Q : Bool → Hp → Prop), Inv X pins σ H s → RelV x v → r x H Q →
    wpAny (model X.prog X.w) X.A (truthy v) (TP X pins σ Q) X.xe s

def tOp (r : R2) (ta tb : TE) : TE := fun σ H Q => ta σ H fun x H1 => tb σ H1 fun y H2 => r x y H2 Q
def tUn (r : V → Hp → VK → Prop) (ta : TE) : TE := fun σ H Q => ta σ H fun x H1 => r x H1 Q
/-- ints in, under C, and a value out -/
def rI (C : Int → Int → Prop) (g : Int → Int → V) : R2 := fun x y H Q => ∃ i j, x = .int i ∧ y = .int j ∧ C i j ∧ Q (g i j) H
def rI0 (g : Int → Int → V) : R2 := fun x y H Q => ∃ i j, x = .int i ∧ y = .int j ∧ Q (g i j) H
def rU (g : Int → V) : V → Hp → VK → Prop := fun x H Q => ∃ i, x = .int i ∧ Q (g i) H

section
variable {X : Cx} {a b c : Expr} {ta tb tc : TE} {pos : Pos}

theorem binT (ha : PE X a ta) (hb : PE X b tb) {pins : List (Addr × Obj)} {s : Shared} {σ : St} {H : Hp} {R : V → V → Hp → Prop} (I : Inv X pins σ H s)
    (h : ta σ H fun x H1 => tb σ H1 fun y H2 => R x y H2) {Q : Value → Shared → Prop} {f : Value → Value → Sem Value}
    (hf : ∀ v u s2 x y H2, Inv X pins σ H2 s2 → RelV x v → RelV y u → R x y H2 → wpAny (model X.prog X.w) X.A (f v u) Q X.xe s2) :
    wpAny (model X.prog X.w) X.A (eval a X.env) (fun v s₁ => wpAny (model X.prog X.w) X.A (eval b X.env) (fun u s₂ => wpAny (model X.prog X.w) X.A (f v u) Q X.xe s₂) X.xe s₁) X.xe s := by
  refine thn (ha pins s σ H _ I h) fun v s1 ⟨x, H1, I1, r1, q1⟩ => ?_
  refine thn (hb pins s1 σ H1 _ I1 q1) fun u s2 ⟨y, H2, I2, r2, q2⟩ => ?_
  exact hf v u s2 x y H2 I2 r1 r2 q2

theorem pe_op {op : Operator} {r : R2} (ho : OpR X (binaryOp op) r) (ha : PE X a ta) (hb : PE X b tb) : PE X (.BinOp a op b pos) (tOp r ta tb) := by
  intro pins s σ H Q I h
  exact wpAny_BinOp (binT ha hb I h fun v u s2 x y H2 I2 rx ry q => ho pins s2 σ H2 x y v u Q I2 rx ry q)
theorem pe_un {op : UnaryOp} {r : V → Hp → VK → Prop} (ho : UnR X (unaryOp op) r) (ha : PE X a ta) : PE X (.UnaryOp op a pos) (tUn r ta) := by
  intro pins s σ H Q I h
  exact UnaryOp_ (thn (ha pins s σ H _ I h) fun v s1 ⟨x, H1, I1, r1, q1⟩ => ho pins s1 σ H1 x v Q I1 r1 q1)
/-- a op= e at a name: the name's slot i -/
theorem augR {op : Operator} {r : R2} (ho : OpR X (inplaceOp op) r) {pins : List (Addr × Obj)} {s : Shared} {σ : St} {H : Hp} {x y : V} {v u : Value} {Q : VK} (I : Inv X pins σ H s)
    (rx : RelV x v) (ry : RelV y u) (q : r x y H Q) : wpAny (model X.prog X.w) X.A (inplaceOp op v u) (EP X pins σ Q) X.xe s := ho pins s σ H x y v u Q I rx ry q

/-! ### ints -/
theorem opI {f : Value → Value → Sem Value} {C : Int → Int → Prop} {g : Int → Int → Int}
    (rule : ∀ (i j : Int) (t u : Tok) (s : Shared) (Q : Value → Shared → Prop) (E : Value → Shared → Prop), C i j → Q (.int (g i j) s.toks) { s with toks := s.toks + 1 } → wpAny (model X.prog X.w) X.A (f (.int i t) (.int j u)) Q E s) :
    OpR X f (rI C fun i j => .int (g i j)) := by
  intro pins s σ H x y v u Q I rx ry h
  obtain ⟨i, j, rfl, rfl, hc, q⟩ := h
  obtain ⟨t, rfl⟩ := rx
  obtain ⟨t', rfl⟩ := ry
  exact rule i j t t' s _ _ hc ⟨.int (g i j), H, I.tok _, ⟨_, rfl⟩, q⟩
theorem opI0 {f : Value → Value → Sem Value} {g : Int → Int → Int}
    (rule : ∀ (i j : Int) (t u : Tok) (s : Shared) (Q : Value → Shared → Prop) (E : Value → Shared → Prop), Q (.int (g i j) s.toks) { s with toks := s.toks + 1 } → wpAny (model X.prog X.w) X.A (f (.int i t) (.int j u)) Q E s) :
    OpR X f (rI0 fun i j => .int (g i j)) := by
  intro pins s σ H x y v u Q I rx ry h
  obtain ⟨i, j, rfl, rfl, q⟩ := h
  obtain ⟨t, rfl⟩ := rx
  obtain ⟨t', rfl⟩ := ry
  exact rule i j t t' s _ _ ⟨.int (g i j), H, I.tok _, ⟨_, rfl⟩, q⟩
theorem opB0 {f : Value → Value → Sem Value} {g : Int → Int → Bool}
    (rule : ∀ (i j : Int) (t u : Tok) (s : Shared) (Q : Value → Shared → Prop) (E : Value → Shared → Prop), Q (.bool (g i j)) s → wpAny (model X.prog X.w) X.A (f (.int i t) (.int j u)) Q E s) :
    OpR X f (rI0 fun i j => .bl (g i j)) := by
  intro pins s σ H x y v u Q I rx ry h
  obtain ⟨i, j, rfl, rfl, q⟩ := h
  obtain ⟨t, rfl⟩ := rx
  obtain ⟨t', rfl⟩ := ry
  exact rule i j t t' s _ _ ⟨.bl (g i j), H, I, rfl, q⟩

def CDiv (i j : Int) : Prop := 0 < j ∧ j < 1073741824
def CDivN (i j : Int) : Prop := j ≠ 0 ∧ j.natAbs < 1073741824
def CPow (i j : Int) : Prop := 0 ≤ j ∧ j ≤ 1000000 ∧ i.natAbs < 2 ^ 64
def CMul (i j : Int) : Prop := (-(2 ^ 64) < i ∧ i < 2 ^ 64) ∨ (-(2 ^ 64) < j ∧ j < 2 ^ 64)
theorem CMul.ok {i j : Int} (h : CMul i j) : IntMulOk i j := by
  rcases h with ⟨h1, h2⟩ | ⟨h1, h2⟩
  · exact .of_left (intBits_le_64 h1 h2)
  · exact .of_right (intBits_le_64 h1 h2)
theorem two_pow_nn (k : Nat) : (0 : Int) ≤ 2 ^ k := by
  rw [two_pow_cast]
  exact Int.natCast_nonneg _

theorem op_add : OpR X (binaryOp .Add) (rI0 fun i j => .int (i + j)) := opI0 fun _ _ _ _ _ _ _ q => add_int q
theorem op_sub : OpR X (binaryOp .Sub) (rI0 fun i j => .int (i - j)) := opI0 fun _ _ _ _ _ _ _ q => sub_int q
theorem op_mul : OpR X (binaryOp .Mult) (rI CMul fun i j => .int (i * j)) := opI fun _ _ _ _ _ _ _ hc q => mul_int q hc.ok
/-- // by a positive divisor -/
theorem op_fdiv : OpR X (binaryOp .FloorDiv) (rI CDiv fun i j => .int (i / j)) := opI fun i j _ _ _ _ _ hc q => by
  have h1 : (0 : Int) < j := hc.1
  have h2 : j < 1073741824 := hc.2
  exact floordiv_int (by omega) (by rw [Int.fdiv_eq_ediv_of_nonneg i (by omega)]; exact q) (.inl (PyProof.noPylong_small (by omega)))
theorem op_fdivN : OpR X (binaryOp .FloorDiv) (rI CDivN fun i j => .int (i.fdiv j)) := opI fun _ _ _ _ _ _ _ hc q => floordiv_int hc.1 q (.inl (PyProof.noPylong_small hc.2))
/-- % by a positive divisor of any size -/
theorem op_mod : OpR X (binaryOp .Mod) (rI (fun _ j => 0 < j) fun i j => .int (i % j)) := opI fun i j _ _ _ _ _ hc q => by
  have h1 : (0 : Int) < j := hc
  exact mod_int' (by omega) (by rw [Int.fmod_eq_emod_of_nonneg i (by omega)]; exact q)
theorem op_modN : OpR X (binaryOp .Mod) (rI (fun _ j => j ≠ 0) fun i j => .int (i.fmod j)) := opI fun _ _ _ _ _ _ _ hc q => mod_int' hc q
theorem op_pow : OpR X (binaryOp .Pow) (rI CPow fun i j => .int (i ^ j.toNat)) := opI fun _ _ _ _ _ _ _ hc q => pow_int_small hc.1 hc.2.1 hc.2.2 q
theorem op_shl : OpR X (binaryOp .LShift) (rI CPow fun i j => .int (i * 2 ^ j.toNat)) := opI fun _ _ _ _ _ _ _ hc q => lshift_int_small hc.1 hc.2.1 hc.2.2 q
theorem op_shr : OpR X (binaryOp .RShift) (rI (fun _ j => 0 ≤ j) fun i j => .int (i / 2 ^ j.toNat)) := opI fun i j _ _ _ _ _ hc q =>
  rshift_int hc (by rw [Int.fdiv_eq_ediv_of_nonneg i (two_pow_nn _)]; exact q)
theorem op_and : OpR X (binaryOp .BitAnd) (rI0 fun i j => .int (Builtin.bitAnd i j)) := opI0 fun _ _ _ _ _ _ _ q => and_int q
theorem op_or : OpR X (binaryOp .BitOr) (rI0 fun i j => .int (Builtin.bitOr i j)) := opI0 fun _ _ _ _ _ _ _ q => or_int q
theorem op_xor : OpR X (binaryOp .BitXor) (rI0 fun i j => .int (Builtin.bitXor i j)) := opI0 fun _ _ _ _ _ _ _ q => xor_int q

theorem iop_add : OpR X (inplaceOp .Add) (rI0 fun i j => .int (i + j)) := opI0 fun _ _ _ _ _ _ _ q => iadd_int q
theorem iop_sub : OpR X (inplaceOp .Sub) (rI0 fun i j => .int (i - j)) := opI0 fun _ _ _ _ _ _ _ q => isub_int q
theorem iop_mul : OpR X (inplaceOp .Mult) (rI CMul fun i j => .int (i * j)) := opI fun _ _ _ _ _ _ _ hc q => imul_int q hc.ok
theorem iop_fdiv : OpR X (inplaceOp .FloorDiv) (rI CDiv fun i j => .int (i / j)) := opI fun i j _ _ _ _ _ hc q => by
  have h1 : (0 : Int) < j := hc.1
  have h2 : j < 1073741824 := hc.2
  exact ifloordiv_int (by omega) (by rw [Int.fdiv_eq_ediv_of_nonneg i (by omega)]; exact q) (.inl (PyProof.noPylong_small (by omega)))
theorem iop_mod : OpR X (inplaceOp .Mod) (rI (fun _ j => 0 < j) fun i j => .int (i % j)) := opI fun i j _ _ _ _ _ hc q => by
  have h1 : (0 : Int) < j := hc
  exact imod_int (by omega) (by rw [Int.fmod_eq_emod_of_nonneg i (by omega)]; exact q)
theorem iop_shl : OpR X (inplaceOp .LShift) (rI CPow fun i j => .int (i * 2 ^ j.toNat)) := opI fun _ _ _ _ _ _ _ hc q => ilshift_int_small hc.1 hc.2.1 hc.2.2 q
theorem iop_shr : OpR X (inplaceOp .RShift) (rI (fun _ j => 0 ≤ j) fun i j => .int (i / 2 ^ j.toNat)) := opI fun i j _ _ _ _ _ hc q =>
  irshift_int hc (by rw [Int.fdiv_eq_ediv_of_nonneg i (two_pow_nn _)]; exact q)
theorem iop_and : OpR X (inplaceOp .BitAnd) (rI0 fun i j => .int (Builtin.bitAnd i j)) := opI0 fun _ _ _ _ _ _ _ q => iand_int q
theorem iop_or : OpR X (inplaceOp .BitOr) (rI0 fun i j => .int (Builtin.bitOr i j)) := opI0 fun _ _ _ _ _ _ _ q => ior_int q
theorem iop_xor : OpR X (inplaceOp .BitXor) (rI0 fun i j => .int (Builtin.bitXor i j)) := opI0 fun _ _ _ _ _ _ _ q => ixor_int q

theorem unI {f : Value → Sem Value} {g : Int → Int}
    (rule : ∀ (i : Int) (t : Tok) (s : Shared) (Q : Value → Shared → Prop) (E : Value → Shared → Prop), Q (.int (g i) s.toks) { s with toks := s.toks + 1 } → wpAny (model X.prog X.w) X.A (f (.int i t)) Q E s) :
    UnR X f (rU fun i => .int (g i)) := by
  intro pins s σ H x v Q I rx h
  obtain ⟨i, rfl, q⟩ := h
  obtain ⟨t, rfl⟩ := rx
  exact rule i t s _ _ ⟨.int (g i), H, I.tok _, ⟨_, rfl⟩, q⟩
theorem un_neg : UnR X (unaryOp .USub) (rU fun i => .int (-i)) := unI fun _ _ _ _ _ q => neg_int q
theorem un_inv : UnR X (unaryOp .Invert) (rU fun i => .int (Builtin.bitNot i)) := unI fun _ _ _ _ _ q => invert_int q

/-! ### bools among ints: n += (a < b) -/
theorem op_add_ib : OpR X (binaryOp .Add) (fun x y H Q => ∃ i k, x = .int i ∧ y = .bl k ∧ Q (.int (i + b2i k)) H) := by
  intro pins s σ H x y v u Q I rx ry h
  obtain ⟨i, k, rfl, rfl, q⟩ := h
  obtain ⟨t, rfl⟩ := rx
  cases ry
  exact add_int_bool ⟨.int (i + b2i k), H, I.tok _, ⟨_, rfl⟩, q⟩
end

/-! ### comparisons -/
/-- the scalars that == tells apart as data does -/
def scal : V → V → Bool
  | .non, .non => true | .non, .int _ => true | .int _, .non => true | .non, .bl _ => true | .bl _, .non => true | .non, .str _ => true | .str _, .non => true
  | .int _, .int _ => true | .bl _, .bl _ => true | .str _, .str _ => true | .byt _, .byt _ => true
  | .int _, .str _ => true | .str _, .int _ => true | .bl _, .str _ => true | .str _, .bl _ => true
  | _, _ => false
def rEq : R2 := fun x y H Q => scal x y = true ∧ Q (.bl (decide (x = y))) H
def rNe : R2 := fun x y H Q => scal x y = true ∧ Q (.bl (!decide (x = y))) H

theorem dec_int {i j : Int} : decide (V.int i = V.int j) = (i == j) := by
  rw [Bool.eq_iff_iff]
  simp
theorem dec_bl {i j : Bool} : decide (V.bl i = V.bl j) = (i == j) := by
  rw [Bool.eq_iff_iff]
  simp
theorem dec_str {i j : Str} : decide (V.str i = V.str j) = (i == j) := by
  rw [Bool.eq_iff_iff]
  simp
theorem dec_byt {i j : Array UInt8} : decide (V.byt i = V.byt j) = (i.toList == j.toList) := by
  rw [Bool.eq_iff_iff]
  cases i
  cases j
  simp

section
variable {X : Cx} {a b c : Expr} {ta tb tc : TE} {pos : Pos}
theorem fin_bl {pins : List (Addr × Obj)} {σ : St} {H : Hp} {s : Shared} {Q : VK} {k k' : Bool} (I : Inv X pins σ H s) (q : Q (.bl k) H) (e : k = k') : EP X pins σ Q (.bool k') s := by
  subst e
  exact ⟨.bl k, H, I, rfl, q⟩
theorem op_eq : OpR X (compareOp .Eq) rEq := by
  intro pins s σ H x y v u Q I rx ry h
  obtain ⟨hs, q⟩ := h
  cases x with
  | non =>
    cases rx
    cases y with
    | non => cases ry; exact PySem.EqNone.eq_none_none (fin_bl I q (by simp))
    | bl j => cases ry; exact PySem.EqNone.eq_none_bool (fin_bl I q (by simp))
    | int j => obtain ⟨t', rfl⟩ := ry; exact PySem.EqNone.eq_none_int (fin_bl I q (by simp))
    | str j => obtain ⟨t', rfl⟩ := ry; exact PySem.EqNone.eq_none_str (fin_bl I q (by simp))
    | _ => exact absurd (show false = true from hs) Bool.false_ne_true
  | bl i =>
    cases rx
    cases y with
    | non => cases ry; exact PySem.EqNone.eq_bool_none (fin_bl I q (by simp))
    | bl j => cases ry; exact eq_bool (fin_bl I q dec_bl)
    | str j => obtain ⟨t', rfl⟩ := ry; exact PySem.EqMixed.eq_bool_str (fin_bl I q (by simp))
    | _ => exact absurd (show false = true from hs) Bool.false_ne_true
  | int i =>
    obtain ⟨t, rfl⟩ := rx
    cases y with
    | non => cases ry; exact PySem.EqNone.eq_int_none (fin_bl I q (by simp))
    | int j => obtain ⟨t', rfl⟩ := ry; exact eq_int (fin_bl I q dec_int)
    | str j => obtain ⟨t', rfl⟩ := ry; exact PySem.EqMixed.eq_int_str (fin_bl I q (by simp))
    | _ => exact absurd (show false = true from hs) Bool.false_ne_true
  | str i =>
    obtain ⟨t, rfl⟩ := rx
    cases y with
    | non => cases ry; exact PySem.EqNone.eq_str_none (fin_bl I q (by simp))
    | bl j => cases ry; exact PySem.EqMixed.eq_str_bool (fin_bl I q (by simp))
    | int j => obtain ⟨t', rfl⟩ := ry; exact PySem.EqMixed.eq_str_int (fin_bl I q (by simp))
    | str j => obtain ⟨t', rfl⟩ := ry; exact eq_str (fin_bl I q dec_str)
    | _ => exact absurd (show false = true from hs) Bool.false_ne_true
  | byt i =>
    obtain ⟨t, rfl⟩ := rx
    cases y with
    | byt j => obtain ⟨t', rfl⟩ := ry; exact PySem.W.eq_bytes (fin_bl I q dec_byt)
    | _ => exact absurd (show false = true from hs) Bool.false_ne_true
  | _ => cases y <;> exact absurd (show false = true from hs) Bool.false_ne_true
theorem op_ne : OpR X (compareOp .NotEq) rNe := by
  intro pins s σ H x y v u Q I rx ry h
  obtain ⟨hs, q⟩ := h
  cases x with
  | non =>
    cases rx
    cases y with
    | non => cases ry; exact PySem.EqNone.ne_none_none (fin_bl I q (by simp))
    | bl j => cases ry; exact PySem.EqNone.ne_none_bool (fin_bl I q (by simp))
    | int j => obtain ⟨t', rfl⟩ := ry; exact PySem.EqNone.ne_none_int (fin_bl I q (by simp))
    | str j => obtain ⟨t', rfl⟩ := ry; exact PySem.EqNone.ne_none_str (fin_bl I q (by simp))
    | _ => exact absurd (show false = true from hs) Bool.false_ne_true
  | bl i =>
    cases rx
    cases y with
    | non => cases ry; exact PySem.EqNone.ne_bool_none (fin_bl I q (by simp))
    | bl j => cases ry; exact ne_bool (fin_bl I q (congrArg not dec_bl))
    | str j => obtain ⟨t', rfl⟩ := ry; exact PySem.EqMixed.ne_bool_str (fin_bl I q (by simp))
    | _ => exact absurd (show false = true from hs) Bool.false_ne_true
  | int i =>
    obtain ⟨t, rfl⟩ := rx
    cases y with
    | non => cases ry; exact PySem.EqNone.ne_int_none (fin_bl I q (by simp))
    | int j => obtain ⟨t', rfl⟩ := ry; exact ne_int (fin_bl I q (congrArg not dec_int))
    | str j => obtain ⟨t', rfl⟩ := ry; exact PySem.EqMixed.ne_int_str (fin_bl I q (by simp))
    | _ => exact absurd (show false = true from hs) Bool.false_ne_true
  | str i =>
    obtain ⟨t, rfl⟩ := rx
    cases y with
    | non => cases ry; exact PySem.EqNone.ne_str_none (fin_bl I q (by simp))
    | bl j => cases ry; exact PySem.EqMixed.ne_str_bool (fin_bl I q (by simp))
    | int j => obtain ⟨t', rfl⟩ := ry; exact PySem.EqMixed.ne_str_int (fin_bl I q (by simp))
    | str j => obtain ⟨t', rfl⟩ := ry; exact ne_str (fin_bl I q (congrArg not dec_str))
    | _ => exact absurd (show false = true from hs) Bool.false_ne_true
  | byt i =>
    obtain ⟨t, rfl⟩ := rx
    cases y with
    | byt j => obtain ⟨t', rfl⟩ := ry; exact PySem.W.ne_bytes (fin_bl I q (congrArg not dec_byt))
    | _ => exact absurd (show false = true from hs) Bool.false_ne_true
  | _ => cases y <;> exact absurd (show false = true from hs) Bool.false_ne_true

theorem op_lt : OpR X (compareOp .Lt) (rI0 fun i j => .bl (decide (i < j))) := opB0 fun _ _ _ _ _ _ _ q => lt_int q
theorem op_le : OpR X (compareOp .LtE) (rI0 fun i j => .bl (decide (i ≤ j))) := opB0 fun _ _ _ _ _ _ _ q => le_int q
theorem op_gt : OpR X (compareOp .Gt) (rI0 fun i j => .bl (decide (j < i))) := opB0 fun _ _ _ _ _ _ _ q => gt_int q
theorem op_ge : OpR X (compareOp .GtE) (rI0 fun i j => .bl (decide (j ≤ i))) := opB0 fun _ _ _ _ _ _ _ q => ge_int q
theorem op_lt_str : OpR X (compareOp .Lt) (fun x y H Q => ∃ i j, x = .str i ∧ y = .str j ∧ Q (.bl (decide (i.cps.toList < j.cps.toList))) H) := by
  intro pins s σ H x y v u Q I rx ry h
  obtain ⟨i, j, rfl, rfl, q⟩ := h
  obtain ⟨t, rfl⟩ := rx
  obtain ⟨t', rfl⟩ := ry
  exact lt_str (fin_bl I q rfl)
/-- the one string within the other -/
theorem op_in_str : OpR X (compareOp .In) (fun x y H Q => ∃ i j, x = .str i ∧ y = .str j ∧ Q (.bl (!(Builtin.Str.occurrences j i 0 j.length 1).isEmpty)) H) := by
  intro pins s σ H x y v u Q I rx ry h
  obtain ⟨i, j, rfl, rfl, q⟩ := h
  obtain ⟨t, rfl⟩ := rx
  obtain ⟨t', rfl⟩ := ry
  exact in_str (fin_bl I q rfl)

/-- is None, is not None: the right side a value none -/
theorem op_isN : OpR X (compareOp .Is) (fun x y H Q => y = .non ∧ Q (.bl (decide (x = .non))) H) := by
  intro pins s σ H x y v u Q I rx ry h
  obtain ⟨rfl, q⟩ := h
  cases ry
  refine is_none_gen (fin_bl I q ?_)
  cases x <;> first
    | (cases rx; rfl)
    | (obtain ⟨t, rfl⟩ := rx; rfl)
theorem op_notN : OpR X (compareOp .IsNot) (fun x y H Q => y = .non ∧ Q (.bl (!decide (x = .non))) H) := by
  intro pins s σ H x y v u Q I rx ry h
  obtain ⟨rfl, q⟩ := h
  cases ry
  refine isnot_none_gen (fin_bl I q ?_)
  cases x <;> first
    | (cases rx; rfl)
    | (obtain ⟨t, rfl⟩ := rx; rfl)

theorem op_notin_str : OpR X (compareOp .NotIn) (fun x y H Q => ∃ i j, x = .str i ∧ y = .str j ∧ Q (.bl (!(!(Builtin.Str.occurrences j i 0 j.length 1).isEmpty))) H) := by
  intro pins s σ H x y v u Q I rx ry h
  obtain ⟨i, j, rfl, rfl, q⟩ := h
  obtain ⟨t, rfl⟩ := rx
  obtain ⟨t', rfl⟩ := ry
  exact notIn_str (fin_bl I q rfl)
/-- is, is not of two objects that are tracked lists or instances -/
def isObj : HO → Bool
  | .lst _ => true
  | .ins _ _ _ => true
  | _ => false
theorem obj_there {pins : List (Addr × Obj)} {s : Shared} {σ : St} {H : Hp} {a : Addr} {o : HO} (I : Inv X pins σ H s) (h : H a = some o) (p : isObj o = true) : ∃ ob, s.heap.get? a = some ob ∧ ob.cls ≠ .type "tuple" := by
  cases o with
  | lst xs =>
    obtain ⟨_, its, n, _, e⟩ : xs.length ≤ sizeLine ∧ ∃ (its : List Value) (n : Nat), Vals xs its ∧ s.heap.get? a = some { cls := .type "list", data := .seq its.toArray n } := I.hok a _ h
    exact ⟨_, e, (by show Value.type "list" ≠ .type "tuple"; decide +kernel)⟩
  | ins C dx fs =>
    have x := I.hok a _ h
    obtain ⟨_, _, _, e, _⟩ := x
    exact ⟨_, e, (by show Value.ref C ≠ .type "tuple"; exact fun z => by cases z)⟩
  | _ => exact absurd (show false = true from p) Bool.false_ne_true
theorem op_is_ref : OpR X (compareOp .Is) (fun x y H Q => ∃ a b oa ob, x = .ref a ∧ y = .ref b ∧ H a = some oa ∧ isObj oa = true ∧ H b = some ob ∧ isObj ob = true ∧ Q (.bl (decide (a = b))) H) := by
  intro pins s σ H x y v u Q I rx ry h
  obtain ⟨a, b, oa, ob, rfl, rfl, ha, pa, hb, pb, q⟩ := h
  cases rx
  cases ry
  obtain ⟨o1, e1, n1⟩ := obj_there I ha pa
  obtain ⟨o2, e2, _⟩ := obj_there I hb pb
  by_cases z : a = b
  · subst z
    exact wpAny_is_ref_self (fin_bl I q (by simp))
  · exact wpAny_is_ref_other z e1 e2 n1 (fin_bl I q (by simp [z]))
theorem op_isnot_ref : OpR X (compareOp .IsNot) (fun x y H Q => ∃ a b oa ob, x = .ref a ∧ y = .ref b ∧ H a = some oa ∧ isObj oa = true ∧ H b = some ob ∧ isObj ob = true ∧ Q (.bl (!decide (a = b))) H) := by
  intro pins s σ H x y v u Q I rx ry h
  obtain ⟨a, b, oa, ob, rfl, rfl, ha, pa, hb, pb, q⟩ := h
  cases rx
  cases ry
  obtain ⟨o1, e1, n1⟩ := obj_there I ha pa
  obtain ⟨o2, e2, _⟩ := obj_there I hb pb
  by_cases z : a = b
  · subst z
    exact wpAny_isNot_ref_self (fin_bl I q (by simp))
  · exact wpAny_isNot_ref_other z e1 e2 n1 (fin_bl I q (by simp [z]))

/-- two rules for one operation: by cases -/
theorem OpR.or {f : Value → Value → Sem Value} {r r' : R2} (h : OpR X f r) (h' : OpR X f r') : OpR X f (fun x y H Q => r x y H Q ∨ r' x y H Q) := by
  intro pins s σ H x y v u Q I rx ry q
  rcases q with q | q
  · exact h pins s σ H x y v u Q I rx ry q
  · exact h' pins s σ H x y v u Q I rx ry q

theorem nomark (b : Expr) {op : CmpOp} (h : op ≠ .In := by decide) (h2 : op ≠ .NotIn := by decide) : behindInMarks op b = false := by
  have e1 : (op == CmpOp.In) = false := by cases op <;> first | rfl | exact absurd rfl h
  have e2 : (op == CmpOp.NotIn) = false := by cases op <;> first | rfl | exact absurd rfl h2
  cases b <;> simp [behindInMarks, e1, e2]
/-- a comparison as a value; hm: nomark b, or (for in, not in) by with_unfolding_all rfl -/
theorem pe_cmpR {op : CmpOp} {r : R2} (ho : OpR X (compareOp op) r) (ha : PE X a ta) (hb : PE X b tb) (hm : behindInMarks op b = false) : PE X (.Compare a [op] [b] pos) (tOp r ta tb) := by
  intro pins s σ H Q I h
  exact wpAny_Compare1 (binT ha hb I h fun v u s2 x y H2 I2 rx ry q => ho pins s2 σ H2 x y v u Q I2 rx ry q) hm
/-- a reading of a value as a test -/
def tTest (t : TE) : TT := fun σ H Q => t σ H fun x H' => ∃ k, x = .bl k ∧ Q k H'
theorem pt_cmpR {op : CmpOp} {r : R2} (ho : OpR X (compareOp op) r) (ha : PE X a ta) (hb : PE X b tb) (hm : behindInMarks op b = false) : PT X (.Compare a [op] [b] pos) (tTest (tOp r ta tb)) := by
  intro pins s σ H Q I h
  refine wpAny_isTrue_Compare1 (thn (ha pins s σ H _ I h) fun v s1 ⟨x, H1, I1, r1, q1⟩ => thn (hb pins s1 σ H1 _ I1 q1) fun u s2 ⟨y, H2, I2, r2, q2⟩ =>
    thn (ho pins s2 σ H2 x y v u _ I2 r1 r2 q2) fun c s3 ⟨z, H3, I3, r3, k, e, q3⟩ => ?_) hm
  subst e
  cases r3
  exact wpAny_truthy_bool ⟨H3, I3, q3⟩
/-- a op1 b op2 c -/
def tChain (r r' : R2) (ta tb tc : TE) : TE := fun σ H Q => ta σ H fun x H1 => tb σ H1 fun y H2 => r x y H2 fun z H3 => ∃ k, z = .bl k ∧
  (if k = true then tc σ H3 fun w' H4 => r' y w' H4 Q else Q (.bl false) H3)
theorem pe_chain {op op' : CmpOp} {r r' : R2} (ho : OpR X (compareOp op) r) (ho' : OpR X (compareOp op') r') (ha : PE X a ta) (hb : PE X b tb) (hc : PE X c tc)
    (hm : lastMarks [op, op'] [b, c] = false := by with_unfolding_all rfl) : PE X (.Compare a [op, op'] [b, c] pos) (tChain r r' ta tb tc) := by
  intro pins s σ H Q I h
  refine Compare_chain (thn (ha pins s σ H _ I h) fun v s1 ⟨x, H1, I1, r1, q1⟩ => chain_link (thn (hb pins s1 σ H1 _ I1 q1) fun u s2 ⟨y, H2, I2, r2, q2⟩ =>
    thn (ho pins s2 σ H2 x y v u _ I2 r1 r2 q2) fun d s3 ⟨z, H3, I3, r3, k, e, q3⟩ => ?_)) hm
  subst e
  cases r3
  refine wpAny_truthy_bool ?_
  cases k with
  | false => exact ite_ff ⟨.bl false, H3, I3, rfl, q3⟩
  | true => exact ite_tt (chain_last (thn (hc pins s3 σ H3 _ I3 q3) fun w' s4 ⟨z', H4, I4, r4, q4⟩ => ho' pins s4 σ H4 y z' u w' Q I4 r2 r4 q4))
theorem pt_chain {op op' : CmpOp} {r r' : R2} (ho : OpR X (compareOp op) r) (ho' : OpR X (compareOp op') r') (ha : PE X a ta) (hb : PE X b tb) (hc : PE X c tc)
    (hm : lastMarks [op, op'] [b, c] = false := by with_unfolding_all rfl) : PT X (.Compare a [op, op'] [b, c] pos) (tTest (tChain r r' ta tb tc)) := by
  intro pins s σ H Q I h
  refine isTrue_chain (thn (ha pins s σ H _ I h) fun v s1 ⟨x, H1, I1, r1, q1⟩ => test_link (thn (hb pins s1 σ H1 _ I1 q1) fun u s2 ⟨y, H2, I2, r2, q2⟩ =>
    thn (ho pins s2 σ H2 x y v u _ I2 r1 r2 q2) fun d s3 ⟨z, H3, I3, r3, k, e, q3⟩ => ?_)) hm
  subst e
  cases r3
  refine wpAny_truthy_bool ?_
  cases k with
  | false =>
    obtain ⟨k', e', q'⟩ := q3
    cases e'
    exact ite_ff ⟨H3, I3, q'⟩
  | true =>
    refine ite_tt (test_last (thn (hc pins s3 σ H3 _ I3 q3) fun w' s4 ⟨z', H4, I4, r4, q4⟩ => thn (ho' pins s4 σ H4 y z' u w' _ I4 r2 r4 q4) fun d' s5 ⟨z2, H5, I5, r5, k2, e2, q5⟩ => ?_))
    subst e2
    cases r5
    exact wpAny_truthy_bool ⟨H5, I5, q5⟩

/-! ### truth -/
/-- a value's truth by the abstract heap -/
def TruV (K : PySem.W.Frag) (x : V) (H : Hp) (k : Bool) : Prop :=
  match x with
  | .non => k = false
  | .bl b => k = b
  | .int i => k = (i != 0)
  | .str y => y.length ≤ sizeLine ∧ k = ((y.length : Int) != 0)
  | .byt y => y.size ≤ sizeLine ∧ k = ((y.size : Int) != 0)
  | .ref p => (∃ xs, SqL K H p xs ∧ k = !xs.isEmpty) ∨ (∃ xs, SqT K H p xs ∧ k = !xs.isEmpty) ∨ ∃ kvs, H p = some (.dK kvs) ∧ k = !kvs.isEmpty
  | _ => False
theorem isEmpty_kv {κ : Type} {kvs : List (κ × V)} {vs : List (κ × Value)} (r : KV kvs vs) : (!vs.isEmpty) = !kvs.isEmpty := by
  cases r <;> rfl
theorem isEmpty_of {xs : List V} {its : List Value} (r : Vals xs its) : (!its.toArray.isEmpty) = !xs.isEmpty := by
  cases r <;> simp
theorem line63 : (sizeLine : Nat) < 2 ^ 63 := by rw [sizeLine_eq]; decide
theorem tru_ok : TruR X (fun x H Q => ∃ k, TruV X.K x H k ∧ Q k H) := by
  intro pins s σ H x v Q I rx h
  obtain ⟨k, e, q⟩ := h
  have hl := line63
  have hs : sizeLine = 16777216 := sizeLine_eq
  cases x with
  | non =>
    cases rx
    have e' : k = false := e
    subst e'
    exact truthy_none ⟨H, I, q⟩
  | bl b =>
    cases rx
    have e' : k = b := e
    subst e'
    exact wpAny_truthy_bool ⟨H, I, q⟩
  | int i =>
    obtain ⟨t, rfl⟩ := rx
    have e' : k = (i != 0) := e
    subst e'
    exact PySem.P.truthy_int ⟨H, I, q⟩
  | str y =>
    obtain ⟨t, rfl⟩ := rx
    obtain ⟨hy, e'⟩ : y.length ≤ sizeLine ∧ k = ((y.length : Int) != 0) := e
    subst e'
    exact PySem.P.truthy_str (by omega) ⟨H, I.tok _, q⟩
  | byt y =>
    obtain ⟨t, rfl⟩ := rx
    obtain ⟨hy, e'⟩ : y.size ≤ sizeLine ∧ k = ((y.size : Int) != 0) := e
    subst e'
    exact PySem.W.truthy_bytes (by omega) ⟨H, I.tok _, q⟩
  | ref p =>
    cases rx
    have e' : (∃ xs, SqL X.K H p xs ∧ k = !xs.isEmpty) ∨ (∃ xs, SqT X.K H p xs ∧ k = !xs.isEmpty) ∨ ∃ kvs, H p = some (.dK kvs) ∧ k = !kvs.isEmpty := e
    rcases e' with ⟨xs, hx, e'⟩ | ⟨xs, hx, e'⟩ | ⟨kvs, hx, e'⟩
    · subst e'
      obtain ⟨its, r, pl, hz⟩ := I.list hx
      have hlen := r.length
      exact wpAny_truthy_list pl.isList (by simp only [List.size_toArray]; omega) ⟨H, I.tok _, by rw [isEmpty_of r]; exact q⟩
    · subst e'
      obtain ⟨its, r, pl, hz⟩ := I.tuple hx
      have hlen := r.length
      exact truthy_tuple pl (by simp only [List.size_toArray]; omega) ⟨H, I.tok _, by rw [isEmpty_of r]; exact q⟩
    · subst e'
      obtain ⟨hz, hS, vs, r, m⟩ : kvs.length ≤ sizeLine ∧ (p == sysModules) = false ∧ ∃ vs, KV kvs vs ∧ s.heap.DictOf (mixKind X.prog X.w) p vs := I.hok p _ hx
      have hlen : kvs.length = vs.length := Paired.length r
      exact wpAny_truthy_dict hS m (by omega) ⟨H, I.tok _, by rw [isEmpty_kv r]; exact q⟩
  | _ => exact (show False from e).elim
/-- any expression whose test is its value's truth (a name, a call, a subscript, a field ..: he by fun _ => rfl) -/
theorem pt_truth (ha : PE X a ta) (he : ∀ whole, isTrue a X.env whole = (do let v ← whole; standAt a.pos; holding [v] (truthy v))) :
    PT X a (fun σ H Q => ta σ H fun x H' => ∃ k, TruV X.K x H' k ∧ Q k H') := by
  intro pins s σ H Q I h
  exact isTrue_plain (thn (ha pins s σ H _ I h) fun v s1 ⟨x, H1, I1, r1, q1⟩ => tru_ok pins s1 σ H1 x v Q I1 r1 q1) (he _)

/-! ### strs and bytes -/
theorem pe_byt {x : List UInt8} {k : Nat} : PE X (.Constant (.bytes x) k pos) (fun _ H Q => Q (.byt x.toArray) H) := fun _ _ _ H _ I h => PySem.W.Constant_bytes ⟨.byt x.toArray, H, I.tok _, ⟨_, rfl⟩, h⟩
theorem op_add_str : OpR X (binaryOp .Add) (fun x y H Q => ∃ i j, x = .str i ∧ y = .str j ∧ i.length + j.length ≤ sizeLine ∧ Q (.str (i ++ j)) H) := by
  intro pins s σ H x y v u Q I rx ry h
  obtain ⟨i, j, rfl, rfl, hz, q⟩ := h
  obtain ⟨t, rfl⟩ := rx
  obtain ⟨t', rfl⟩ := ry
  exact add_str (fun t' tk => ⟨.str (i ++ j), H, I.tok _, ⟨_, rfl⟩, q⟩) hz
theorem iop_add_str : OpR X (inplaceOp .Add) (fun x y H Q => ∃ i j, x = .str i ∧ y = .str j ∧ i.length + j.length ≤ sizeLine ∧ Q (.str (i ++ j)) H) := by
  intro pins s σ H x y v u Q I rx ry h
  obtain ⟨i, j, rfl, rfl, hz, q⟩ := h
  obtain ⟨t, rfl⟩ := rx
  obtain ⟨t', rfl⟩ := ry
  exact iadd_str (fun t' tk => ⟨.str (i ++ j), H, I.tok _, ⟨_, rfl⟩, q⟩) hz
theorem op_add_byt : OpR X (binaryOp .Add) (fun x y H Q => ∃ i j, x = .byt i ∧ y = .byt j ∧ i.size + j.size ≤ 16777216 ∧ Q (.byt (i ++ j)) H) := by
  intro pins s σ H x y v u Q I rx ry h
  obtain ⟨i, j, rfl, rfl, hz, q⟩ := h
  obtain ⟨t, rfl⟩ := rx
  obtain ⟨t', rfl⟩ := ry
  exact PySem.W.KBy.add_bytes hz (fun t' tk => ⟨.byt (i ++ j), H, I.tok _, ⟨_, rfl⟩, q⟩)

def PlainIxT (b : Expr) : Prop := ∀ o i, subscripted b false o i = operate [o, i] (getItem o i)
/-- s[i], 0 ≤ i < len -/
theorem pe_item_str (ha : PE X a ta) (hb : PE X b tb) (hs : PlainIxT b) :
    PE X (.Subscript a b pos) (tOp (fun x y H Q => ∃ z i c, x = .str z ∧ y = .int i ∧ 0 ≤ i ∧ i < 2 ^ 63 ∧ i < z.length ∧ z.cps[i.toNat]? = some c ∧ Q (.str ⟨#[c]⟩) H) ta tb) := by
  intro pins s σ H Q I h
  refine Subscript_ (binT ha hb I h fun v u s2 x y H2 I2 rx ry q => ?_)
  obtain ⟨z, i, c, rfl, rfl, h0, h63, h1, hc, q⟩ := q
  obtain ⟨t, rfl⟩ := rx
  obtain ⟨t', rfl⟩ := ry
  have e : seqIndex? i z.length = some i.toNat := PySem.StrLaws.seqIndex_nonneg h0 h1
  exact tail_any (typeIs_str s2 z t) slot_str_getitem.lookup (getItem_str (c := c) (by
    have e1 : decide (i < -(2 ^ 63 : Int)) = false := decide_eq_false (by omega)
    have e2 : decide (i ≥ 2 ^ 63) = false := decide_eq_false (by omega)
    rw [e1, e2] <;> rfl) (by rw [e]; exact hc) ⟨.str ⟨#[c]⟩, H2, I2.tok _, ⟨_, rfl⟩, q⟩) (hs _ _)
/-- b[i], 0 ≤ i < len -/
theorem pe_item_byt (ha : PE X a ta) (hb : PE X b tb) (hs : PlainIxT b) :
    PE X (.Subscript a b pos) (tOp (fun x y H Q => ∃ (z : List UInt8) (i : Int), x = .byt z.toArray ∧ y = .int i ∧ z.length ≤ sizeLine ∧ 0 ≤ i ∧ i < z.length ∧ Q (.int ((z.getD i.toNat 0).toNat : Nat)) H) ta tb) := by
  intro pins s σ H Q I h
  refine Subscript_ (binT ha hb I h fun v u s2 x y H2 I2 rx ry q => ?_)
  obtain ⟨z, i, rfl, rfl, hz, h0, h1, q⟩ := q
  obtain ⟨t, rfl⟩ := rx
  obtain ⟨t', rfl⟩ := ry
  have hl : sizeLine = 16777216 := sizeLine_eq
  exact tail_any (PySem.W.typeIs_bytes s2 z.toArray t) PySem.W.FB.slot_bytes_getitem.lookup (PySem.W.getItem_bytes (by omega) h0 h1 ⟨.int ((z.getD i.toNat 0).toNat : Nat), H2, I2.tok _, ⟨_, rfl⟩, q⟩) (hs _ _)

/-! ### scalar builtins, by CallR -/
theorem vals1 {x : V} {us : List Value} (r : Vals [x] us) : ∃ u, us = [u] ∧ RelV x u := by
  cases r with
  | cons r1 r2 => cases r2; exact ⟨_, rfl, r1⟩
theorem vals2 {x y : V} {us : List Value} (r : Vals [x, y] us) : ∃ u w', us = [u, w'] ∧ RelV x u ∧ RelV y w' := by
  cases r with
  | cons r1 r2 =>
    cases r2 with
    | cons r3 r4 => cases r4; exact ⟨_, _, rfl, r1, r3⟩
theorem call_abs : CallR X (.builtin "abs") (fun xs H Q => ∃ i, xs = [.int i] ∧ Q (.int (if i < 0 then -i else i)) H) := by
  intro pins s σ H xs us Q I r h
  obtain ⟨i, rfl, q⟩ := h
  obtain ⟨u, rfl, t, rfl⟩ := vals1 r
  exact call_abs_int fun u tk => ⟨.int (if i < 0 then -i else i), H, I.tok _, ⟨_, rfl⟩, q⟩
theorem call_max2 (hc : X.calm = true) : CallR X (.builtin "max") (fun xs H Q => ∃ i j, xs = [.int i, .int j] ∧ Q (.int (if j > i then j else i)) H) := by
  intro pins s σ H xs us Q I r h
  obtain ⟨i, j, rfl, q⟩ := h
  obtain ⟨u, w', rfl, ⟨t, rfl⟩, ⟨t', rfl⟩⟩ := vals2 r
  refine max_two_ints (I.ok.hd hc) fun h' tk k => ⟨_, H, I.kept k, ?_, q⟩
  by_cases hj : j > i
  · rw [if_pos hj, if_pos hj]; exact ⟨_, rfl⟩
  · rw [if_neg hj, if_neg hj]; exact ⟨_, rfl⟩
theorem call_min2 (hc : X.calm = true) : CallR X (.builtin "min") (fun xs H Q => ∃ i j, xs = [.int i, .int j] ∧ Q (.int (if j < i then j else i)) H) := by
  intro pins s σ H xs us Q I r h
  obtain ⟨i, j, rfl, q⟩ := h
  obtain ⟨u, w', rfl, ⟨t, rfl⟩, ⟨t', rfl⟩⟩ := vals2 r
  refine min_two_ints (I.ok.hd hc) fun h' tk k => ⟨_, H, I.kept k, ?_, q⟩
  by_cases hj : j < i
  · rw [if_pos hj, if_pos hj]; exact ⟨_, rfl⟩
  · rw [if_neg hj, if_neg hj]; exact ⟨_, rfl⟩
theorem call_int1 : CallR X (.type "int") (fun xs H Q => (∃ i, xs = [.int i] ∧ Q (.int i) H) ∨ ∃ k, xs = [.bl k] ∧ Q (.int (if k then 1 else 0)) H) := by
  intro pins s σ H xs us Q I r h
  rcases h with ⟨i, rfl, q⟩ | ⟨k, rfl, q⟩
  · obtain ⟨u, rfl, t, rfl⟩ := vals1 r
    exact call_int_int ⟨.int i, H, I, ⟨_, rfl⟩, q⟩
  · obtain ⟨u, rfl, r1⟩ := vals1 r
    cases r1
    exact call_int_bool ⟨.int (if k then 1 else 0), H, I.tok _, ⟨_, rfl⟩, q⟩
theorem call_bool1 : CallR X (.type "bool") (fun xs H Q => (∃ i, xs = [.int i] ∧ Q (.bl (i != 0)) H) ∨ ∃ k, xs = [.bl k] ∧ Q (.bl k) H) := by
  intro pins s σ H xs us Q I r h
  rcases h with ⟨i, rfl, q⟩ | ⟨k, rfl, q⟩
  · obtain ⟨u, rfl, t, rfl⟩ := vals1 r
    exact call_bool_int ⟨.bl (i != 0), H, I, rfl, q⟩
  · obtain ⟨u, rfl, r1⟩ := vals1 r
    cases r1
    exact call_bool_bool ⟨.bl k, H, I, rfl, q⟩
theorem call_str_int : CallR X (.type "str") (fun xs H Q => ∃ i, xs = [.int i] ∧ i.natAbs.log2 < 1920 ∧ Q (.str (toString i)) H) := by
  intro pins s σ H xs us Q I r h
  obtain ⟨i, rfl, hz, q⟩ := h
  obtain ⟨u, rfl, t, rfl⟩ := vals1 r
  exact PySem.P.str_of_int hz ⟨.str _, H, I.tok _, ⟨_, rfl⟩, q⟩
theorem call_ord : CallR X (.builtin "ord") (fun xs H Q => ∃ x, xs = [.str x] ∧ x.length = 1 ∧ Q (.int (x.cps.getD 0 0 : Nat)) H) := by
  intro pins s σ H xs us Q I r h
  obtain ⟨x, rfl, hz, q⟩ := h
  obtain ⟨u, rfl, t, rfl⟩ := vals1 r
  exact ord_of_one hz ⟨.int _, H, I.tok _, ⟨_, rfl⟩, q⟩
theorem call_chr : CallR X (.builtin "chr") (fun xs H Q => ∃ i, xs = [.int i] ∧ 0 ≤ i ∧ i ≤ 1114111 ∧ Q (.str ⟨#[i.toNat]⟩) H) := by
  intro pins s σ H xs us Q I r h
  obtain ⟨i, rfl, h0, h1, q⟩ := h
  obtain ⟨u, rfl, t, rfl⟩ := vals1 r
  exact chr_of_range h0 h1 ⟨.str _, H, I.tok _, ⟨_, rfl⟩, q⟩
/-- len of a str, a bytes, a list, a tuple -/
def LenV (K : PySem.W.Frag) (x : V) (H : Hp) (n : Nat) : Prop :=
  match x with
  | .str y => y.length ≤ sizeLine ∧ n = y.length
  | .byt y => y.size ≤ sizeLine ∧ n = y.size
  | .ref p => (∃ xs, SqL K H p xs ∧ n = xs.length) ∨ ∃ xs, SqT K H p xs ∧ n = xs.length
  | _ => False
theorem call_len : CallR X (.builtin "len") (fun xs H Q => ∃ x n, xs = [x] ∧ LenV X.K x H n ∧ Q (.int n) H) := by
  intro pins s σ H xs us Q I r h
  obtain ⟨x, n, rfl, e, q⟩ := h
  obtain ⟨u, rfl, rx⟩ := vals1 r
  have hl := line63
  have hs : sizeLine = 16777216 := sizeLine_eq
  cases x with
  | str y =>
    obtain ⟨t, rfl⟩ := rx
    obtain ⟨hy, e'⟩ : y.length ≤ sizeLine ∧ n = y.length := e
    subst e'
    exact len_str (by omega) ⟨.int _, H, I.tok _, ⟨_, rfl⟩, q⟩
  | byt y =>
    obtain ⟨t, rfl⟩ := rx
    obtain ⟨hy, e'⟩ : y.size ≤ sizeLine ∧ n = y.size := e
    subst e'
    exact PySem.W.len_bytes (by omega) ⟨.int _, H, I.tok _, ⟨_, rfl⟩, q⟩
  | ref p =>
    cases rx
    have e' : (∃ xs, SqL X.K H p xs ∧ n = xs.length) ∨ ∃ xs, SqT X.K H p xs ∧ n = xs.length := e
    rcases e' with ⟨xs, hx, e'⟩ | ⟨xs, hx, e'⟩
    · subst e'
      obtain ⟨its, r', pl, hz⟩ := I.list hx
      have hlen := r'.length
      exact Calls.call_len_list pl.isList (by simp only [List.size_toArray]; omega) ⟨.int xs.length, H, I.tok _, ⟨_, by simp only [List.size_toArray]; rw [hlen]⟩, q⟩
    · subst e'
      obtain ⟨its, r', pl, hz⟩ := I.tuple hx
      have hlen := r'.length
      exact len_tuple pl (by simp only [List.size_toArray]; omega) ⟨.int xs.length, H, I.tok _, ⟨_, by simp only [List.size_toArray]; rw [hlen]⟩, q⟩
  | _ => exact (show False from e).elim
/-- divmod: a new tuple -/
theorem call_divmod : CallR X (.builtin "divmod") (fun xs H Q => ∃ i j, xs = [.int i, .int j] ∧ CDiv i j ∧ ∀ p, H p = none → Q (.ref p) (upd H p (.tup [.int (i / j), .int (i % j)]))) := by
  intro pins s σ H xs us Q I r h
  obtain ⟨i, j, rfl, ⟨h1, h2⟩, q⟩ := h
  obtain ⟨u, w', rfl, ⟨t, rfl⟩, ⟨t', rfl⟩⟩ := vals2 r
  refine divmod_int (by omega) ?_ (.inl (PyProof.noPylong_small (by omega)))
  rw [Int.fdiv_eq_ediv_of_nonneg i (by omega), Int.fmod_eq_emod_of_nonneg i (by omega)]
  have hn : H s.heap.objs.size = none := I.hok.fresh (Nat.le_refl _)
  refine ⟨.ref s.heap.objs.size, _, ?_, rfl, q _ hn⟩
  refine I.laid (fun b o e => Heap.get?_push_of_some _ e) (Nat.le_refl _) ⟨by simp only [List.length_cons, List.length_nil]; rw [sizeLine_eq]; decide, [.int (i / j) s.toks, .int (i % j) (s.toks + 1)], .cons ⟨_, rfl⟩ (.cons ⟨_, rfl⟩ .nil), ?_⟩
  exact ⟨_, Heap.get?_push_size s.heap rfl, rfl, ⟨0, rfl⟩, rfl⟩
end
end L2

namespace L2
open PySem PySem.Spec PyProof.Rows

/-! ### an instance, its attributes a map -/
structure ObjM (h : Heap) (x dx C : Addr) (mA : Str → Option Value) : Prop where
  obj : h.get? x = some (PySem.W.instObj C dx)
  ns : h.Ns1 dx mA
  ne : dx ≠ x

theorem lookIn_ns {h : Heap} {dx : Addr} {mA : Str → Option Value} (n : h.Ns1 dx mA) : ∃ od, h.get? dx = some od ∧ ∀ name, PySem.W.lookIn name od = some (mA name) := by
  obtain ⟨o, es, ep, ho, hd, hk, _, hm⟩ := n
  refine ⟨o, ho, fun name => ?_⟩
  have e := hm name
  unfold nsFind findBy at e
  rw [← Array.find?_toList] at e
  unfold PySem.W.lookIn
  rw [hd]
  dsimp only
  split
  · rename_i y q
    rw [q] at e
    exact congrArg some e
  · rename_i q
    rw [q] at e
    have a : es.toList.any (·.refKey) = false := by
      rw [List.any_eq_false]
      intro y hy
      obtain ⟨z, t, hkey⟩ := hk y (Array.mem_toList_iff.mp hy)
      simp [DictEntry.refKey, hkey]
    have a' : ¬ es.toList.any (·.refKey) = true := by rw [a]; exact Bool.false_ne_true
    rw [if_neg a']
    exact congrArg some e

theorem ObjM.look {h : Heap} {x dx C : Addr} {mA : Str → Option Value} (I : ObjM h x dx C mA) : ∃ od, PySem.W.InstAt h x (PySem.W.instObj C dx) C (some od) ∧ ∀ name, PySem.W.lookIn name od = some (mA name) :=
  let ⟨od, ho, hl⟩ := lookIn_ns I.ns
  ⟨od, ⟨I.obj, rfl, rfl, ho⟩, hl⟩

section
variable {prog : Program} {w : World} {A : Around} {E : Value → Shared → Prop} {s : Shared} {K : PySem.W.Frag} {x dx C f : Addr} {mA : Str → Option Value} {name : Str} {v : Value}

theorem get_map {expr : Bool} {Q : Value → Shared → Prop} (X : K.In s.heap) (I : ObjM s.heap x dx C mA) (hg : PySem.W.plainGet K C name = true) (hh : PySem.W.hasDictIn K C = true)
    (ha : PySem.W.findIn K (.ref C) name = some none) (hv : mA name = some v) (hv' : PySem.W.handedIn v = true) (h : Q v { s with toks := s.toks + 1 }) :
    wpAny (model prog w) A (getAttr (.ref x) name expr) Q E s := by
  obtain ⟨od, J, hl⟩ := I.look
  exact PySem.W.get_value X J (PySem.W.plainGet_of hg).1 (PySem.W.findObj_own hh ha rfl (by rw [hl, hv])) hv' h

theorem get_const {expr : Bool} {a : Value} {Q : Value → Shared → Prop} (X : K.In s.heap) (I : ObjM s.heap x dx C mA) (hg : PySem.W.plainGet K C name = true) (hh : PySem.W.hasDictIn K C = true)
    (ha : PySem.W.findIn K (.ref C) name = some (some a)) (hn : PySem.W.specialIn K a "__get__" = some none) (hc : PySem.W.copiedNames.contains name = false) (hv : mA name = none) (hv' : PySem.W.handedIn a = true)
    (h : Q a { s with toks := s.toks + 1 }) : wpAny (model prog w) A (getAttr (.ref x) name expr) Q E s := by
  obtain ⟨od, J, hl⟩ := I.look
  exact PySem.W.get_value X J (PySem.W.plainGet_of hg).1 (PySem.W.findObj_cls hh ha hn hv' hc (by rw [hl, hv])) hv' h

theorem get_meth {pl : Sem Bool} {Q : Value × List Value → Shared → Prop} (X : K.In s.heap) (I : ObjM s.heap x dx C mA) (hg : PySem.W.plainGet K C name = true)
    (hf : PySem.W.findIn K (.ref C) name = some (some (.ref f))) (ht : PySem.W.isFn K (.ref f) = true) (hv : mA name = none) (h : Q (.ref f, [.ref x]) s) :
    wpAny (model prog w) A (getMethod (.ref x) name pl) Q E s := by
  obtain ⟨od, J, hl⟩ := I.look
  exact PySem.W.method_fn X J (PySem.W.plainGet_of hg).1 (PySem.W.plainGet_of hg).2 hf (beq_iff_eq.mp ht) (by show (PySem.W.lookIn name od).map (·.isSome) = some false; rw [hl, hv]; rfl) h

theorem set_map {ns : List Str} {Q : Unit → Shared → Prop} (X : K.In s.heap) (I : ObjM s.heap x dx C mA)
    (hs : PySem.W.findIn K (.ref C) "__setattr__" = some (some (.builtin "object.__setattr__"))) (hp : PySem.W.plainOver K C = true) (ht : PySem.W.takerIn K C name = some none) (hh : PySem.W.hasDictIn K C = true)
    (hw : PySem.Within mA ns) (hsz : ns.length ≤ sizeLine)
    (h : ∀ h', ObjM h' x dx C (fun y => if y = name then some v else mA y) → Heap.SameBut dx s.heap h' → Q () { s with heap := h', toks := s.toks + 2 }) :
    wpAny (model prog w) A (setAttr (.ref x) name v) Q E s := by
  obtain ⟨od, J, hl⟩ := I.look
  refine PySem.W.set_plain X J hs (PySem.W.osa_open (s := { s with toks := s.toks + 1 }) (r := none) X J hp ht fun b => ?_)
  obtain ⟨cd, hc, hd'⟩ := PySem.W.any_some hh
  have hx : s.heap.get? x = some ⟨.ref C, some dx, .plain, #[]⟩ := I.obj
  refine wpAny_bind (wpAny_pure (wpAny_bind (wpAny_bind (wpAny_loadPart hx (wpAny_bind (PySem.W.Looks.here (s := { s with toks := s.toks + 1 }) (PySem.W.looks_clsIn X hc) ?_))))))
  rw [hd']
  refine wpAny_pure (a := some dx) (wpAny_bind (wpAny_pure (wpAny_bind ?_)))
  refine wpAny_nsSet1 (s := { s with toks := s.toks + 1 }) I.ns fun h' hn2 hs2 => ?_
  obtain ⟨oD, esD, epD, hoD, hdD, hcD⟩ := hn2.count (PySem.Within.cons name v hw)
  refine wpAny_bind (wpAny_lookBehind hoD (by rw [hdD]; exact pastItsLine_dict (Nat.le_trans hcD (by rw [List.length_cons]; omega))) ?_)
  exact wpAny_pure (h _ ⟨(hs2.2 _ (Ne.symm I.ne)).trans I.obj, hn2, I.ne⟩ hs2)

/-- C(..): the dict at the heap's end, the instance behind it; then its __init__ -/
theorem make_map {R : Result → Shared → Prop} {vs : List Value} {kw : List (Str × Value)} (X : K.In s.heap) (hm : PySem.W.makesIn K C = true)
    (hi : PySem.W.findIn K (.ref C) "__init__" = some (some (.ref f))) (hf : PySem.W.typeIn K (.ref f) = some (.type "function"))
    (h : codeAny (model prog w) (A.under (.builtin "type.__call__" ⟨.ref C :: vs, kw⟩)) (.call (.ref f) ⟨.ref (s.heap.objs.size + 1) :: vs, kw⟩) (PySem.W.InitBack (s.heap.objs.size + 1) R)
      { s with heap := (s.heap.push PySem.W.emptyDict).push (PySem.W.instObj C s.heap.objs.size) }) :
    codeAny (model prog w) A (.call (.ref C) ⟨vs, kw⟩) R s := by
  obtain ⟨hh, g, d, t, os⟩ := s
  exact PySem.W.make_core (PySem.W.makes_of X hm) (PySem.W.looks_findIn X hi) (fun self => PySem.W.bind_fn X self hf) (.inl rfl) h
/-- C() where there is no __init__ but object's -/
theorem make_map0 {R : Result → Shared → Prop} (X : K.In s.heap) (hm : PySem.W.makesIn K C = true)
    (hi : PySem.W.findIn K (.ref C) "__init__" = some (some (.builtin "object.__init__")))
    (hb : ∀ self, PySem.W.Looks (model prog w) s.heap (bindSpecial (.builtin "object.__init__") self) (.builtin "object.__init__", [self]))
    (h : codeAny (model prog w) (A.under (.builtin "type.__call__" ⟨[.ref C], []⟩)) (.call (.builtin "object.__init__") ⟨[.ref (s.heap.objs.size + 1)], []⟩) (PySem.W.InitBack (s.heap.objs.size + 1) R)
      { s with heap := (s.heap.push PySem.W.emptyDict).push (PySem.W.instObj C s.heap.objs.size) }) :
    codeAny (model prog w) A (.call (.ref C) ⟨[], []⟩) R s := by
  obtain ⟨hh, g, d, t, os⟩ := s
  exact PySem.W.make_core (PySem.W.makes_of X hm) (PySem.W.looks_findIn X hi) hb (.inr ⟨rfl, rfl⟩) h
end

/-! ### the attributes as a list of pairs -/
def putF (f : Str) (v : V) : List (Str × V) → List (Str × V)
  | [] => [(f, v)]
  | (g, x) :: r => if g = f then (g, v) :: r else (g, x) :: putF f v r
theorem lookup_putF (f g : Str) (v : V) : ∀ fs : List (Str × V), (putF f v fs).lookup g = if g = f then some v else fs.lookup g
  | [] => by
    show List.lookup g [(f, v)] = _
    by_cases h : g = f
    · have hb : (g == f) = true := beq_iff_eq.mpr h
      simp only [List.lookup, hb, if_pos h]
    · have hb : (g == f) = false := beq_eq_false_iff_ne.mpr h
      simp only [List.lookup, hb, if_neg h]
  | (k, x) :: r => by
    have ih := lookup_putF f g v r
    rw [show putF f v ((k, x) :: r) = (if k = f then (k, v) :: r else (k, x) :: putF f v r) from rfl]
    by_cases hk : k = f
    · rw [if_pos hk]
      by_cases h : g = k
      · have hb : (g == k) = true := beq_iff_eq.mpr h
        simp only [List.lookup, hb, if_pos (h.trans hk)]
      · have hb : (g == k) = false := beq_eq_false_iff_ne.mpr h
        simp only [List.lookup, hb, if_neg (fun e : g = f => h (e.trans hk.symm))]
    · rw [if_neg hk]
      by_cases h : g = k
      · have hb : (g == k) = true := beq_iff_eq.mpr h
        simp only [List.lookup, hb, if_neg (fun e : g = f => hk (h.symm.trans e))]
      · have hb : (g == k) = false := beq_eq_false_iff_ne.mpr h
        simp only [List.lookup, hb]
        exact ih
theorem keys_putF (f : Str) (v : V) : ∀ fs : List (Str × V), f ∈ (putF f v fs).map (·.1) ∧ ∀ g, g ∈ fs.map (·.1) → g ∈ (putF f v fs).map (·.1)
  | [] => ⟨by simp [putF], fun g h => by simp at h⟩
  | (k, x) :: r => by
    obtain ⟨i1, i2⟩ := keys_putF f v r
    rw [show putF f v ((k, x) :: r) = (if k = f then (k, v) :: r else (k, x) :: putF f v r) from rfl]
    by_cases hk : k = f
    · rw [if_pos hk]
      subst hk
      exact ⟨by simp, fun g h => by simpa using h⟩
    · rw [if_neg hk]
      refine ⟨?_, fun g h => ?_⟩
      · rw [List.map_cons]
        exact List.mem_cons_of_mem _ i1
      · rw [List.map_cons] at h ⊢
        rcases List.mem_cons.mp h with e | e
        · exact List.mem_cons.mpr (.inl e)
        · exact List.mem_cons_of_mem _ (i2 g e)
theorem length_putF (f : Str) (v : V) : ∀ fs : List (Str × V), (putF f v fs).length ≤ fs.length + 1
  | [] => by simp [putF]
  | (k, x) :: r => by
    have ih := length_putF f v r
    rw [show putF f v ((k, x) :: r) = (if k = f then (k, v) :: r else (k, x) :: putF f v r) from rfl]
    by_cases hk : k = f
    · rw [if_pos hk, List.length_cons, List.length_cons]; omega
    · rw [if_neg hk, List.length_cons, List.length_cons]; omega

theorem RelO.some_of {v : V} {o : Option Value} (r : RelO (some v) o) : ∃ u, o = some u ∧ RelV v u := by
  cases o with
  | none => exact (show False from r).elim
  | some u => exact ⟨u, rfl, r⟩
theorem RelO.none_of {o : Option Value} (r : RelO none o) : o = none := by
  cases o with
  | none => rfl
  | some u => exact (show False from r).elim
theorem handed_of {v : V} {u : Value} (r : RelV v u) : PySem.W.handedIn u = true := by
  cases v with
  | non => cases (show u = Value.none from r); rfl
  | bl b => cases (show u = Value.bool b from r); rfl
  | int i => obtain ⟨t, e⟩ := (show ∃ t, u = Value.int i t from r); cases e; rfl
  | str x => obtain ⟨t, e⟩ := (show ∃ t, u = Value.str x t from r); cases e; rfl
  | byt b => obtain ⟨t, e⟩ := (show ∃ t, u = Value.bytes b t from r); cases e; rfl
  | flt b => obtain ⟨t, e⟩ := (show ∃ t, u = Value.float b t from r); cases e; rfl
  | ref a => cases (show u = Value.ref a from r); rfl
  | ty n => cases (show u = Value.type n from r); rfl

section
variable {P : Program} {w : World} {H H' : Hp} {h h' : Heap} {a C dx : Addr} {fs fs' : List (Str × V)}
theorem ins_get (hok : HOk P w H h) (e : H a = some (.ins C dx fs)) : ∃ mA, ObjM h a dx C mA ∧ (∀ f, RelO (fs.lookup f) (mA f)) ∧ PySem.Within mA (fs.map (·.1)) ∧ fs.length ≤ 1000 ∧ H dx = some (.own a) := by
  obtain ⟨d, z, ne, ob, mA, n, r, q⟩ := (show ObjOk P w H h a (.ins C dx fs) from hok a _ e)
  exact ⟨mA, ⟨ob, n, ne⟩, r, q, z, d⟩
end

/-! ### what of the text a class must have -/
structure Cls (K : PySem.W.Frag) (C : Addr) : Prop where
  pg : PySem.W.plainGet K C Str.empty = true
  hd : PySem.W.hasDictIn K C = true
  po : PySem.W.plainOver K C = true
  sa : PySem.W.findIn K (.ref C) "__setattr__" = some (some (.builtin "object.__setattr__"))
theorem Cls.get {K : PySem.W.Frag} {C : Addr} (c : Cls K C) (f : Str) : PySem.W.plainGet K C f = true := c.pg
/-- no class of it has the name -/
def NoAttr (K : PySem.W.Frag) (C : Addr) (f : Str) : Prop := PySem.W.findIn K (.ref C) f = some none
theorem NoAttr.taker {K : PySem.W.Frag} {C : Addr} {f : Str} (n : NoAttr K C f) : PySem.W.takerIn K C f = some none := by
  unfold PySem.W.takerIn
  rw [show PySem.W.findIn K (.ref C) f = some none from n]
  rfl
/-- a constant of the class -/
structure Con (K : PySem.W.Frag) (C : Addr) (f : Str) (v : V) (u : Value) : Prop where
  at_ : PySem.W.findIn K (.ref C) f = some (some u)
  rel : RelV v u
  get : PySem.W.specialIn K u "__get__" = some none
  cp : PySem.W.copiedNames.contains f = false
/-- a method: a plain def of the class or of one above it -/
structure Meth (K : PySem.W.Frag) (C : Addr) (m : Str) (f : Addr) : Prop where
  at_ : PySem.W.findIn K (.ref C) m = some (some (.ref f))
  fn : PySem.W.isFn K (.ref f) = true
  kp : PySem.W.keepIn K (.ref f) = true

section
variable {X : Cx} {pins : List (Addr × Obj)} {σ : St} {H : Hp} {s : Shared} {a C dx : Addr} {fs : List (Str × V)} {f : Str} {v : V} {A : Around} {E : Value → Shared → Prop}

theorem getattr_ok {b : Bool} {Q : Value → Shared → Prop} (I : Inv X pins σ H s) (e : H a = some (.ins C dx fs)) (c : Cls X.K C) (n : NoAttr X.K C f) (l : fs.lookup f = some v)
    (h : ∀ u s', Inv X pins σ H s' → RelV v u → Q u s') : wpAny (model X.prog X.w) A (getAttr (.ref a) f b) Q E s := by
  obtain ⟨mA, O, r, _, _, _⟩ := ins_get I.hok e
  obtain ⟨u, hu, ru⟩ := RelO.some_of (v := v) (o := mA f) (by rw [← l]; exact r f)
  exact get_map I.kIn O (c.get f) c.hd n hu (handed_of ru) (h u _ (I.tok _) ru)

theorem getcon_ok {b : Bool} {u : Value} {Q : Value → Shared → Prop} (I : Inv X pins σ H s) (e : H a = some (.ins C dx fs)) (c : Cls X.K C) (k : Con X.K C f v u) (l : fs.lookup f = none)
    (h : ∀ s', Inv X pins σ H s' → Q u s') : wpAny (model X.prog X.w) A (getAttr (.ref a) f b) Q E s := by
  obtain ⟨mA, O, r, _, _, _⟩ := ins_get I.hok e
  have hn : mA f = none := RelO.none_of (by rw [← l]; exact r f)
  exact get_const I.kIn O (c.get f) c.hd k.at_ k.get k.cp hn (handed_of k.rel) (h _ (I.tok _))

theorem getmeth_ok {m : Str} {g : Addr} {pl : Sem Bool} {Q : Value × List Value → Shared → Prop} (I : Inv X pins σ H s) (e : H a = some (.ins C dx fs)) (c : Cls X.K C) (k : Meth X.K C m g) (l : fs.lookup m = none)
    (h : Q (.ref g, [.ref a]) s) : wpAny (model X.prog X.w) A (getMethod (.ref a) m pl) Q E s := by
  obtain ⟨mA, O, r, _, _, _⟩ := ins_get I.hok e
  have hn : mA m = none := RelO.none_of (by rw [← l]; exact r m)
  exact get_meth I.kIn O (c.get m) k.at_ k.fn hn h

theorem setattr_ok {y : V} {u : Value} {Q : Unit → Shared → Prop} (I : Inv X pins σ H s) (e : H a = some (.ins C dx fs)) (c : Cls X.K C) (n : NoAttr X.K C f) (hl : fs.length < 1000) (ry : RelV y u)
    (h : ∀ s', Inv X pins σ (upd H a (.ins C dx (putF f y fs))) s' → Q () s') : wpAny (model X.prog X.w) A (setAttr (.ref a) f u) Q E s := by
  obtain ⟨mA, O, r, wi, _, ho⟩ := ins_get I.hok e
  have hz : (fs.map (·.1)).length ≤ sizeLine := by rw [List.length_map, sizeLine_eq]; omega
  refine set_map I.kIn O c.sa c.po n.taker c.hd wi hz fun h' O' sb => h _ ?_
  have hd : ∃ o, h'.get? dx = some o := let ⟨o, _, _, e', _⟩ := O'.ns; ⟨o, e'⟩
  refine I.write (x := a) (e := dx) (by rw [e]; exact True.intro) (.inr ho) (fun b q hb z => (sb.2 b hb).trans z) hd ?_
  refine ⟨by rw [upd_ne O.ne]; exact ho, ?_, O.ne, O'.obj, _, O'.ns, fun g => ?_, fun g hg => ?_⟩
  · have := length_putF f y fs; omega
  · show RelO ((putF f y fs).lookup g) (if g = f then some u else mA g)
    rw [lookup_putF]
    by_cases q : g = f
    · rw [if_pos q, if_pos q]; exact ry
    · rw [if_neg q, if_neg q]; exact r g
  · by_cases q : g = f
    · rw [q]; exact (keys_putF f y fs).1
    · refine (keys_putF f y fs).2 g (wi g fun z => hg ?_)
      show (if g = f then some u else mA g) = none
      rw [if_neg q]; exact z

/-- a new instance, tracked, without attributes -/
theorem Inv.made (I : Inv X pins σ H s) : Inv X pins σ (upd (upd H s.heap.objs.size (.own (s.heap.objs.size + 1))) (s.heap.objs.size + 1) (.ins C s.heap.objs.size []))
    { s with heap := (s.heap.push PySem.W.emptyDict).push (PySem.W.instObj C s.heap.objs.size) } := by
  have e1 : (s.heap.push PySem.W.emptyDict).get? s.heap.objs.size = some PySem.W.emptyDict := Heap.get?_push_size s.heap rfl
  have e2 : ((s.heap.push PySem.W.emptyDict).push (PySem.W.instObj C s.heap.objs.size)).get? (s.heap.objs.size + 1) = some (PySem.W.instObj C s.heap.objs.size) := by
    have := Heap.get?_push_size (s.heap.push PySem.W.emptyDict) (o := PySem.W.instObj C s.heap.objs.size) rfl
    rwa [Heap.size_push] at this
  have e3 : (s.heap.push PySem.W.emptyDict).Ns s.heap.objs.size (fun _ => none) := ⟨PySem.W.emptyDict, #[], _, e1, rfl, (fun e he => absurd he (by simp)), fun _ => rfl⟩
  have I1 := I.laid (a := s.heap.objs.size) (o := .own (s.heap.objs.size + 1)) (h' := s.heap.push PySem.W.emptyDict) (t' := s.toks) (fun b u q => Heap.get?_push_of_some _ q) (Nat.le_refl _) ⟨_, e1⟩
  refine I1.laid (a := s.heap.objs.size + 1) (o := .ins C s.heap.objs.size []) (t' := s.toks) (fun b u q => Heap.get?_push_of_some _ q) (Nat.le_of_eq (Heap.size_push _ _)) ?_
  have ne : s.heap.objs.size ≠ s.heap.objs.size + 1 := Nat.ne_of_lt (Nat.lt_succ_self _)
  refine ⟨by rw [upd_ne ne, upd_same], Nat.zero_le _, ne, e2, fun _ => none, (Heap.Ns1.of_empty e3).at fun o q => Heap.get?_push_of_some _ q, fun _ => True.intro, fun y hy => absurd rfl hy⟩

/-- e.f where nothing but the object is asked: through attributeBase (super) and the last hold -/
theorem attr_of {prog : Program} {w : World} {env : Env} {e : Expr} {f : Str} {pos : Pos} {s : Shared} {Q : Value → Shared → Prop} (hb : attributeBase e f env (eval e env) = eval e env)
    (h : wpAny (model prog w) A (eval e env) (fun o s₁ => wpAny (model prog w) A (getAttr o f true) Q E s₁) E s) : wpAny (model prog w) A (eval (.Attribute e f pos) env) Q E s :=
  Attribute_any_ h (by rw [arm_eval_Attribute, hb])
end

/-! ### readings and rules -/
/-- e.f, an attribute of the instance -/
def tFld (K : PySem.W.Frag) (ta : TE) (f : Str) : TE := fun σ H Q => ta σ H fun x H1 => ∃ a C dx fs v, x = .ref a ∧ H1 a = some (.ins C dx fs) ∧ Cls K C ∧ NoAttr K C f ∧ fs.lookup f = some v ∧ Q v H1
/-- e.f, a constant of the class -/
def tCon (K : PySem.W.Frag) (ta : TE) (f : Str) : TE := fun σ H Q => ta σ H fun x H1 => ∃ a C dx fs v u, x = .ref a ∧ H1 a = some (.ins C dx fs) ∧ Cls K C ∧ Con K C f v u ∧ fs.lookup f = none ∧ Q v H1
/-- e.f = value -/
def sFld (K : PySem.W.Frag) (ta tv : TE) (f : Str) : TS := fun D σ H => tv σ H fun y H1 => ta σ H1 fun x H2 => ∃ a C dx fs, x = .ref a ∧ H2 a = some (.ins C dx fs) ∧ Cls K C ∧ NoAttr K C f ∧ fs.length < 1000 ∧
  D.nx σ (upd H2 a (.ins C dx (putF f y fs)))
/-- an augmented operator on two values -/
def InOp (X : Cx) (op : Operator) (rd : V → V → Hp → VK → Prop) : Prop :=
  ∀ (pins : List (Addr × Obj)) (s : Shared) (σ : St) (H : Hp) (x y : V) (u v : Value) (Q : VK), Inv X pins σ H s → RelV x u → RelV y v → rd x y H Q → wpAny (model X.prog X.w) X.A (inplaceOp op u v) (EP X pins σ Q) X.xe s
/-- e.f op= value -/
def sFldAug (K : PySem.W.Frag) (ta tv : TE) (rd : V → V → Hp → VK → Prop) (f : Str) : TS := fun D σ H => ta σ H fun x H1 => ∃ a C dx fs v, x = .ref a ∧ H1 a = some (.ins C dx fs) ∧ Cls K C ∧ NoAttr K C f ∧ fs.lookup f = some v ∧
  tv σ H1 fun y H2 => rd v y H2 fun z H3 => ∃ dx' fs', H3 a = some (.ins C dx' fs') ∧ fs'.length < 1000 ∧ D.nx σ (upd H3 a (.ins C dx' (putF f z fs')))

section
variable {X : Cx} {o e value : Expr} {f : Str} {pos pos' tpos : Pos} {ta tv : TE}
theorem pe_fld (he : PE X e ta) (hb : attributeBase e f X.env (eval e X.env) = eval e X.env) : PE X (.Attribute e f pos) (tFld X.K ta f) := by
  intro pins s σ H Q I h
  refine attr_of hb (thn (he pins s σ H _ I h) fun u s1 ⟨x, H1, I1, rx, a, C, dx, fs, v, ex, ea, c, n, l, q⟩ => ?_)
  subst ex
  obtain rfl : u = Value.ref a := rx
  exact getattr_ok I1 ea c n l fun u' s2 I2 ru => ⟨v, H1, I2, ru, q⟩
theorem pe_con (he : PE X e ta) (hb : attributeBase e f X.env (eval e X.env) = eval e X.env) : PE X (.Attribute e f pos) (tCon X.K ta f) := by
  intro pins s σ H Q I h
  refine attr_of hb (thn (he pins s σ H _ I h) fun u s1 ⟨x, H1, I1, rx, a, C, dx, fs, v, u0, ex, ea, c, k, l, q⟩ => ?_)
  subst ex
  obtain rfl : u = Value.ref a := rx
  exact getcon_ok I1 ea c k l fun s2 I2 => ⟨v, H1, I2, k.rel, q⟩
theorem ps_fld (ha : PE X o ta) (hv : PE X value tv) (hs : swapsWith value (some (.Attribute o f pos')) pos.line X.env = pure false) : PS X (.Assign [.Attribute o f pos'] value pos) (sFld X.K ta tv f) := by
  intro pins s σ H D I h
  refine plainObj_wpAny_Assign_Attribute (thn (hv pins s σ H _ I h) fun u s1 ⟨y, H1, I1, ry, q⟩ => thn (ha pins s1 σ H1 _ I1 q) fun ov s2 ⟨x, H2, I2, rx, a, C, dx, fs, ex, ea, c, n, l, q2⟩ => ?_) hs
  subst ex
  obtain rfl : ov = Value.ref a := rx
  exact setattr_ok I2 ea c n l ry fun s3 I3 => ⟨σ, _, I3, q2⟩
theorem ps_fldaug {op : Operator} {rd : V → V → Hp → VK → Prop} (ha : PE X o ta) (hv : PE X value tv) (hop : InOp X op rd) : PS X (.AugAssign (.Attribute o f tpos) op value pos) (sFldAug X.K ta tv rd f) := by
  intro pins s σ H D I h
  refine wpAny_AugAssign_AttributeAny (thn (ha pins s σ H _ I h) fun ov s1 ⟨x, H1, I1, rx, a, C, dx, fs, v, ex, ea, c, n, l, q⟩ => ?_)
  subst ex
  obtain rfl : ov = Value.ref a := rx
  refine getattr_ok I1 ea c n l fun u s2 I2 ru => thn (hv pins s2 σ H1 _ I2 q) fun w3 s3 ⟨y, H2, I3, ry, q3⟩ => thn (hop pins s3 σ H2 v y u w3 _ I3 ru ry q3) fun w4 s4 ⟨z, H3, I4, rz, dx', fs', ea', l', q4⟩ => ?_
  exact setattr_ok I4 ea' c n l' rz fun s5 I5 => ⟨σ, _, I5, q4⟩
def rAdd : V → V → Hp → VK → Prop := fun x y H Q => ∃ i j, x = .int i ∧ y = .int j ∧ Q (.int (i + j)) H
def rSub : V → V → Hp → VK → Prop := fun x y H Q => ∃ i j, x = .int i ∧ y = .int j ∧ Q (.int (i - j)) H
theorem in_add : InOp X .Add rAdd := by
  rintro pins s σ H x y u v Q I rx ry ⟨i, j, rfl, rfl, q⟩
  obtain ⟨t, rfl⟩ := (show ∃ t, u = Value.int i t from rx)
  obtain ⟨t', rfl⟩ := (show ∃ t', v = Value.int j t' from ry)
  exact PyProof.Rows.iadd_int ⟨.int (i + j), H, I.tok _, ⟨_, rfl⟩, q⟩
theorem in_sub : InOp X .Sub rSub := by
  rintro pins s σ H x y u v Q I rx ry ⟨i, j, rfl, rfl, q⟩
  obtain ⟨t, rfl⟩ := (show ∃ t, u = Value.int i t from rx)
  obtain ⟨t', rfl⟩ := (show ∃ t', v = Value.int j t' from ry)
  exact PyProof.Rows.isub_int ⟨.int (i - j), H, I.tok _, ⟨_, rfl⟩, q⟩

/-- what is between an instance and its method: the tree of a method call -/
theorem methcall_of {pl : Sem Bool} {m : Str} {apos : Pos} {args : List Expr} {pins : List (Addr × Obj)} {s : Shared} {σ : St} {H : Hp} {Q : Value → Shared → Prop} {te : TE} (he : PE X e te) (I : Inv X pins σ H s)
    (h : te σ H fun x H1 => ∃ a C dx fs g, x = .ref a ∧ H1 a = some (.ins C dx fs) ∧ Cls X.K C ∧ Meth X.K C m g ∧ fs.lookup m = none ∧
      ∀ s1, Inv X pins σ H1 s1 → wpAny (model X.prog X.w) X.A (callWith pos (.ref g) [.ref a] (backTo pos (starEach args X.env)) (backToKw pos (keywordEach [] X.env))) Q X.xe s1)
    (ht : eval (.Call (.Attribute e m apos) args [] pos) X.env = (do
      let ov ← eval e X.env
      standAt apos.atName
      let (f, first) ← holding [ov] (getMethod ov m pl)
      callWith pos f first (backTo pos (starEach args X.env)) (backToKw pos (keywordEach [] X.env)))) :
    wpAny (model X.prog X.w) X.A (eval (.Call (.Attribute e m apos) args [] pos) X.env) Q X.xe s := by
  refine PySem.W.methodCall_KW (pl := pl) (thn (he pins s σ H _ I h) fun u s1 ⟨x, H1, I1, rx, a, C, dx, fs, g, ex, ea, c, k, l, q⟩ => ?_) ht
  subst ex
  obtain rfl : u = Value.ref a := rx
  exact getmeth_ok I1 ea c k l (q s1 I1)
end

/-! ### isinstance -/
section
variable {X : Cx} {pins : List (Addr × Obj)} {σ : St} {H : Hp} {s : Shared} {A : Around} {E : Value → Shared → Prop} {Q : Value → Shared → Prop} {c : Value} {b : Bool}
/-- the type of a value, as the fragment's deciders take it; for an instance its class -/
inductive TyOf (K : PySem.W.Frag) (H : Hp) : V → Value → Prop where
  | non : TyOf K H .non (.type "NoneType")
  | bl (x : Bool) : TyOf K H (.bl x) (.type "bool")
  | int (i : Int) : TyOf K H (.int i) (.type "int")
  | str (x : Str) : TyOf K H (.str x) (.type "str")
  | flt (x : UInt64) : TyOf K H (.flt x) (.type "float")
  | lst {a : Addr} {xs : List V} (e : H a = some (.lst xs)) : TyOf K H (.ref a) (.type "list")
  | frz {a : Addr} {o : Obj} {xs : List V} (e : H a = some (.frz o (.lst xs))) : TyOf K H (.ref a) (.type "list")
  | tup {a : Addr} {xs : List V} (e : H a = some (.tup xs)) : TyOf K H (.ref a) (.type "tuple")
  | dK {a : Addr} {kvs : List (Key × V)} (e : H a = some (.dK kvs)) : TyOf K H (.ref a) (.type "dict")
  | dT {a : Addr} {kvs : List (List Key × V)} (e : H a = some (.dT kvs)) : TyOf K H (.ref a) (.type "dict")
  | ins {a C dx : Addr} {fs : List (Str × V)} (e : H a = some (.ins C dx fs)) (cl : Cls K C) (ha : PySem.W.findIn K (.ref C) "__class__" = some (some (.builtin "object.__class__")))
      (hn : PySem.W.specialIn K (.builtin "object.__class__") "__get__" = some (some (.builtin "getset_descriptor.__get__"))) (htk : PySem.W.takesIn K (.builtin "object.__class__") = some true)
      (hm : PySem.W.mroIn K C (.type "object") = some true) : TyOf K H (.ref a) (.ref C)
/-- isinstance(x, c) for one class c, a built-in or an own one: kitOne's answer -/
theorem isinst_ok {x : V} {u t : Value} (I : Inv X pins σ H s) (rx : RelV x u) (ty : TyOf X.K H x t) (e : PySem.W.kitOne X.K t c = some b) (h : ∀ tk, Q (.bool b) { s with toks := tk }) :
    wpAny (model X.prog X.w) A (call (.builtin "isinstance") [u, c]) Q E s := by
  cases ty with
  | non => cases (show u = Value.none from rx); exact PySem.W.kia_one PySem.W.kitx_none I.kIn True.intro e (fun z => nomatch z) h
  | bl y => cases (show u = Value.bool y from rx); exact PySem.W.kia_one PySem.W.kitx_bool I.kIn True.intro e (fun z => nomatch z) h
  | int i => obtain ⟨t, q⟩ := (show ∃ t, u = Value.int i t from rx); cases q; exact PySem.W.kia_one PySem.W.kitx_int I.kIn True.intro e (fun z => nomatch z) h
  | str y => obtain ⟨t, q⟩ := (show ∃ t, u = Value.str y t from rx); cases q; exact PySem.W.kia_one PySem.W.kitx_str I.kIn True.intro e (fun z => nomatch z) h
  | flt y => obtain ⟨t, q⟩ := (show ∃ t, u = Value.float y t from rx); cases q; exact PySem.W.kia_one PySem.W.kitx_float I.kIn True.intro e (fun z => nomatch z) h
  | @lst a xs ea =>
    cases (show u = Value.ref a from rx)
    obtain ⟨_, _, n, _, h1⟩ := (show ObjOk X.prog X.w H s.heap a (.lst xs) from I.hok a _ ea)
    exact PySem.W.kia_one PySem.W.kitx_list I.kIn ⟨_, h1, rfl⟩ e (fun z => nomatch z) h
  | @frz a ob xs ea =>
    cases (show u = Value.ref a from rx)
    obtain ⟨_, _, _, n, _, h1⟩ := (show ObjOk X.prog X.w H s.heap a (.frz ob (.lst xs)) from I.hok a _ ea)
    exact PySem.W.kia_one PySem.W.kitx_list I.kIn ⟨_, h1, rfl⟩ e (fun z => nomatch z) h
  | @tup a xs ea =>
    cases (show u = Value.ref a from rx)
    obtain ⟨_, _, _, p⟩ := (show ObjOk X.prog X.w H s.heap a (.tup xs) from I.hok a _ ea)
    obtain ⟨o, h1, h2, _⟩ := p
    exact PySem.W.kia_one PySem.W.kitx_tuple I.kIn ⟨o, h1, h2⟩ e (fun z => nomatch z) h
  | @dK a kvs ea =>
    cases (show u = Value.ref a from rx)
    obtain ⟨_, _, vs, _, p⟩ := (show ObjOk X.prog X.w H s.heap a (.dK kvs) from I.hok a _ ea)
    obtain ⟨o, es, ep, h1, h2, _⟩ := p
    exact PySem.W.kia_one PySem.W.kitx_dict I.kIn ⟨o, h1, h2.1⟩ e (fun z => nomatch z) h
  | @dT a kvs ea =>
    cases (show u = Value.ref a from rx)
    obtain ⟨_, _, xs, _, o, es, ep, h1, h2, _⟩ := (show ObjOk X.prog X.w H s.heap a (.dT kvs) from I.hok a _ ea)
    exact PySem.W.kia_one PySem.W.kitx_dict I.kIn ⟨o, h1, h2.1⟩ e (fun z => nomatch z) h
  | @ins a C dx fs ea cl ha hn htk hm =>
    cases (show u = Value.ref a from rx)
    obtain ⟨mA, O, _⟩ := ins_get I.hok ea
    obtain ⟨od, J, _⟩ := O.look
    exact PySem.W.kia_one (PySem.W.kitx_own (cl.get _) cl.hd ha hn htk hm) I.kIn J e (fun z => nomatch z) h
end
end L2

namespace L2
open PySem PySem.Spec PyProof.Rows

/-! ### room -/
structure Room (k : Nat) (A : Around) : Prop where
  hd : A.handled = none
  dp : A.depth + 3 * k + 5 < recursionLimit
  un : A.units + 16 * k + 200 < cLine
theorem Room.mono {j k : Nat} {A : Around} (r : Room k A) (h : j ≤ k) : Room j A := ⟨r.hd, by have := r.dp; omega, by have := r.un; omega⟩
theorem Room.deeper {k : Nat} {A : Around} (r : Room (k + 1) A) (env : Env) : Room k (A.deeper env) :=
  ⟨r.hd, by have := r.dp; show A.depth + 1 + 3 * k + 5 < _; omega, by have := r.un; show A.units + 3 + 16 * k + 200 < _; omega⟩
theorem Room.in1 {k : Nat} {A : Around} (r : Room (k + 1) A) : Room k A.in1 :=
  ⟨r.hd, by have := r.dp; show A.depth + 3 * k + 5 < _; omega, by have := r.un; show A.units + 1 + 16 * k + 200 < _; omega⟩
theorem make_depth {A : Around} {C : Addr} {us : List Value} {kw : List (Str × Value)} : (A.under (.builtin "type.__call__" ⟨.ref C :: us, kw⟩)).depth = A.depth + 1 := by
  first | rfl | simp [Around.under, Code.weight, Code.isCreation, Code.isGuard, Code.isCaller, Code.frames, Code.isFrame, guardIds]
theorem make_units {A : Around} {C : Addr} {us : List Value} {kw : List (Str × Value)} : (A.under (.builtin "type.__call__" ⟨.ref C :: us, kw⟩)).units = A.units + 1 := by
  first | rfl | simp [Around.under, Code.cUnits, Code.frames, Code.isFrame]
theorem Room.make {k : Nat} {A : Around} (r : Room (k + 1) A) (C : Addr) (us : List Value) (kw : List (Str × Value)) : Room k (A.under (.builtin "type.__call__" ⟨.ref C :: us, kw⟩)) :=
  ⟨r.hd, by have := r.dp; rw [make_depth]; omega, by have := r.un; rw [make_units]; omega⟩
theorem Room.depth {k : Nat} {A : Around} (r : Room k A) : A.depth < recursionLimit := by have := r.dp; omega
theorem Room.units {k : Nat} {A : Around} (r : Room k A) : A.units + 64 < cLine := by have := r.un; omega
theorem Room.units0 {k : Nat} {A : Around} (r : Room k A) : A.units < cLine := by have := r.un; omega

/-! ### argument lists and displays -/
def tNil : TA := fun _ H Q => Q [] H
def tCons (ta : TE) (tr : TA) : TA := fun σ H Q => ta σ H fun x H1 => tr σ H1 fun xs H2 => Q (x :: xs) H2
section
variable {X : Cx} {e : Expr} {es : List Expr} {te : TE} {t : TA} {pos : Pos}
theorem pa_nil : PA X [] tNil := fun _ _ _ _ H Q I h => Calls.spliced_nil ⟨[], H, I, .nil, h⟩
theorem pa_cons (ha : PE X e te) (hr : PA X es t) (hs : starEach (e :: es) X.env = (false, eval e X.env) :: starEach es X.env := by rfl) : PA X (e :: es) (tCons te t) := by
  intro pos pins s σ H Q I h
  rw [hs]
  show wpAny _ _ (spliced ((false, eval e X.env) :: backTo pos (starEach es X.env))) _ _ s
  refine Calls.spliced_cons (thn (ha pins s σ H _ I h) fun u s1 ⟨x, H1, I1, r1, q1⟩ => ?_)
  exact thn (hr pos pins s1 σ H1 _ I1 q1) fun us s2 ⟨xs, H2, I2, r2, q2⟩ => ⟨x :: xs, H2, I2, .cons r1 r2, q2⟩

/-- a tuple, a list of written items -/
def tTup (t : TA) : TE := fun σ H Q => t σ H fun xs H1 => xs.length ≤ sizeLine ∧ ∀ p, H1 p = none → Q (.ref p) (upd H1 p (.tup xs))
def tLst (t : TA) : TE := fun σ H Q => t σ H fun xs H1 => xs.length ≤ sizeLine ∧ ∀ p, H1 p = none → Q (.ref p) (upd H1 p (.lst xs))
theorem pe_tup {x1} (h : PA X es t) : PE X (.Tuple es x1 pos) (tTup t) := by
  intro pins s σ H Q I hq
  refine wpAny_Tuple_spliced (thn (h pos pins s σ H _ I hq) fun us s1 ⟨xs, H1, I1, r, z, q⟩ => ⟨by rw [← r.length]; exact z, ?_⟩)
  have hf : H1 s1.heap.objs.size = none := I1.hok.fresh (Nat.le_refl _)
  refine ⟨.ref s1.heap.objs.size, upd H1 s1.heap.objs.size (.tup xs), I1.laid (t' := s1.toks) (fun b u e => Heap.get?_push_of_some _ e) (Nat.le_refl _) ?_, rfl, q _ hf⟩
  exact ⟨z, us, r, ⟨_, Heap.get?_push_size _ rfl, rfl, ⟨_, rfl⟩, rfl⟩⟩
theorem pe_lst (h : PA X es t) : PE X (.List es pos) (tLst t) := by
  intro pins s σ H Q I hq
  refine wpAny_List_spliced (thn (h pos pins s σ H _ I hq) fun us s1 ⟨xs, H1, I1, r, z, q⟩ => ⟨by rw [← r.length]; exact z, ?_⟩)
  have hf : H1 s1.heap.objs.size = none := I1.hok.fresh (Nat.le_refl _)
  refine ⟨.ref s1.heap.objs.size, upd H1 s1.heap.objs.size (.lst xs), I1.laid (t' := s1.toks) (fun b u e => Heap.get?_push_of_some _ e) (Nat.le_refl _) ?_, rfl, q _ hf⟩
  exact ⟨z, us, 0, r, Heap.get?_push_size _ rfl⟩
end

/-! ### what a def promises -/
/-- a def's promise: the bound arguments in the parameters' order, the heap, the wanted end, the wanted exception -/
abbrev Sp := List V → Hp → VK → XK → Prop
/-- how an exception lies behind a call (file 08 gives it): the callers' frames, abstract heap and state ahead of the call, the wish, the exception, the state -/
abbrev CXT := List Env → Hp → Shared → XK → Value → Shared → Prop

/-- the state at a call -/
structure Env0 (P : Program) (w : World) (K : PySem.W.Frag) (mg : Str → Option Value) (base : Heap) (A : Around) (outer : List Env) (s : Shared) (H : Hp) : Prop where
  frames : A.frames = some outer
  mod : Mod K mg base
  bs : ∀ b o, base.get? b = some o → s.heap.get? b = some o ∧ H b = none
  bsz : base.objs.size ≤ s.heap.objs.size
  funs : s.heap.FunFrames base outer
  frf : ∀ b ∈ frs outer, H b = none
  hok : HOk P w H s.heap
  bare : AllBare s.gens
/-- a call's end -/
def CE (outer : List Env) (P : Program) (w : World) (H : Hp) (s : Shared) (Q : VK) (u : Value) (s' : Shared) : Prop :=
  ∃ v H', s'.os = s.os ∧ AllBare s'.gens ∧ Un (frs outer) [] H H' s.heap s'.heap ∧ HOk P w H' s'.heap ∧ RelV v u ∧ Q v H'
def CR (CX : CXT) (outer : List Env) (P : Program) (w : World) (H : Hp) (s : Shared) (Q : VK) (E : XK) (r : Result) (s' : Shared) : Prop :=
  match r with
  | .ok (.ret u) => CE outer P w H s Q u s'
  | .ok _ => False
  | .error e => CX outer H s E e s'
structure FnOk (P : Program) (w : World) (K : PySem.W.Frag) (mg : Str → Option Value) (base : Heap) (CX : CXT) (k : Nat) (f : Addr) (fd : FuncData) (ps : List Str) (sp : Sp) : Prop where
  len : ∀ vs H Q E, sp vs H Q E → vs.length = ps.length
  run : ∀ (A : Around) (outer : List Env) (s : Shared) (H : Hp) (args : Args) (us : List Value) (vs : List V) (Q : VK) (E : XK), Room k A → Env0 P w K mg base A outer s H → BindsTo s fd args (ps.zip us) → Vals vs us → sp vs H Q E →
    codeAny (model P w) A (.call (.ref f) args) (CR CX outer P w H s Q E) s
theorem FnOk.mono {P : Program} {w : World} {K : PySem.W.Frag} {mg : Str → Option Value} {base : Heap} {CX : CXT} {j k : Nat} {f : Addr} {fd : FuncData} {ps : List Str} {sp : Sp} (F : FnOk P w K mg base CX j f fd ps sp) (h : j ≤ k) :
    FnOk P w K mg base CX k f fd ps sp := ⟨F.len, fun A outer s H args us vs Q E hr => F.run A outer s H args us vs Q E (hr.mono h)⟩
/-- a weaker promise -/
theorem FnOk.imp {P : Program} {w : World} {K : PySem.W.Frag} {mg : Str → Option Value} {base : Heap} {CX : CXT} {k : Nat} {f : Addr} {fd : FuncData} {ps : List Str} {sp sp' : Sp} (F : FnOk P w K mg base CX k f fd ps sp)
    (h : ∀ vs H Q E, sp' vs H Q E → sp vs H Q E) : FnOk P w K mg base CX k f fd ps sp' :=
  ⟨fun vs H Q E q => F.len vs H Q E (h _ _ _ _ q), fun A outer s H args us vs Q E hr he hb hv hs => F.run A outer s H args us vs Q E hr he hb hv (h _ _ _ _ hs)⟩

theorem Env0.make {P : Program} {w : World} {K : PySem.W.Frag} {mg : Str → Option Value} {base : Heap} {A : Around} {outer : List Env} {s : Shared} {H : Hp} (e : Env0 P w K mg base A outer s H) (C : Addr) (us : List Value) (kw : List (Str × Value)) :
    Env0 P w K mg base (A.under (.builtin "type.__call__" ⟨.ref C :: us, kw⟩)) outer s H := ⟨by first | exact e.frames | (simpa [Around.under, Code.envs, Code.isFrame, pushEnvs] using e.frames), e.mod, e.bs, e.bsz, e.funs, e.frf, e.hok, e.bare⟩
theorem Env0.in1 {P : Program} {w : World} {K : PySem.W.Frag} {mg : Str → Option Value} {base : Heap} {A : Around} {outer : List Env} {s : Shared} {H : Hp} (e : Env0 P w K mg base A outer s H) :
    Env0 P w K mg base A.in1 outer s H := ⟨e.frames, e.mod, e.bs, e.bsz, e.funs, e.frf, e.hok, e.bare⟩

section
variable {X : Cx} {pins : List (Addr × Obj)} {σ : St} {H : Hp} {s s' : Shared}
/-- from a body: what a callee wants -/
theorem Inv.env0 (I : Inv X pins σ H s) : Env0 X.prog X.w X.K X.mg X.base X.A X.stack s H :=
  ⟨I.ok.frames, I.ok.mod, I.bs, Nat.le_trans I.ok.bsz I.sz, I.stack, I.stkFree, I.hok, I.bare⟩
/-- behind a call -/
theorem Inv.after {Q : VK} {u : Value} (I : Inv X pins σ H s) (h : CE X.stack X.prog X.w H s Q u s') : EP X pins σ Q u s' := by
  obtain ⟨v, H', os, bare, un, hok, r, q⟩ := h
  obtain ⟨hh, g, d, t, os'⟩ := s'
  obtain rfl : os' = s.os := os
  exact ⟨v, H', I.call (h' := hh) (g' := g) (d' := d) (t' := t) (ch := []) un hok bare (fun b z => absurd z (by simp)), r, q⟩
end

/-! ### calls -/
/-- f(..): the written arguments, then the defaults dvs; E: what is wanted of an exception -/
def tCall (sp : Sp) (dvs : List V) (E : XK) (t : TA) : TE := fun σ H Q => t σ H fun vs H1 => sp (vs ++ dvs) H1 Q E
/-- o.m(..) of an instance of the class at C -/
def tMeth (C : Addr) (m : Str) (sp : Sp) (dvs : List V) (E : XK) (ta : TE) (t : TA) : TE := fun σ H Q => ta σ H fun x H1 => ∃ a dx fs, x = .ref a ∧ H1 a = some (.ins C dx fs) ∧ fs.lookup m = none ∧
  t σ H1 fun vs H2 => sp (x :: (vs ++ dvs)) H2 Q E
/-- C(..): a new instance and its dict, then __init__ -/
def tMake (C : Addr) (sp : Sp) (dvs : List V) (E : XK) (t : TA) : TE := fun σ H Q => t σ H fun vs H1 => ∀ x dx, H1 x = none → H1 dx = none → dx ≠ x →
  sp (.ref x :: (vs ++ dvs)) (upd (upd H1 dx (.own x)) x (.ins C dx [])) (fun v H2 => v = .non ∧ Q (.ref x) H2) E

/-- how the parameters are bound: us the positional arguments, kw the keywords' values by name, ds the defaults that fill up -/
def Binds (K : PySem.W.Frag) (fd : FuncData) (ps : List Str) (ds : List Value) : Prop :=
  ∀ (s : Shared) (us : List Value), K.In s.heap → (us ++ ds).length = ps.length → BindsTo s fd ⟨us, []⟩ (ps.zip (us ++ ds))
/-- every parameter is given -/
theorem Binds.all {K : PySem.W.Frag} {fd : FuncData} {ps : List Str} (h : ∀ us : List Value, us.length = ps.length → bindArgs fd ⟨us, []⟩ = pure (ps.zip us)) : Binds K fd ps [] := fun s us _ hl => by
  rw [List.append_nil] at hl ⊢
  exact .of_eq (h us hl)

/-- an exception of a callee reaches what this body wants of exceptions -/
def Passes (CX : CXT) (X : Cx) (E : XK) : Prop := ∀ (pins : List (Addr × Obj)) (σ : St) (H : Hp) (s : Shared) (e : Value) (s' : Shared), Inv X pins σ H s → CX X.stack H s E e s' → X.xe e s'

section
variable {X : Cx} {CX : CXT} {k : Nat} {f C : Addr} {fd : FuncData} {ps : List Str} {sp : Sp} {dvs : List V} {ds : List Value} {E : XK} {x m : Str} {p pos apos : Pos} {e o : Expr} {es : List Expr} {ta : TE} {t : TA}

/-- the callee runs -/
theorem run_fn {pins : List (Addr × Obj)} {σ : St} {H : Hp} {s : Shared} {Q : VK} {us : List Value} {vs : List V} (F : FnOk X.prog X.w X.K X.mg X.base CX k f fd ps sp) (hr : Room k X.A) (hb : Binds X.K fd ps ds) (hd : Vals dvs ds) (hx : Passes CX X E)
    (I : Inv X pins σ H s) (r : Vals vs us) (h : sp (vs ++ dvs) H Q E) : wpAny (model X.prog X.w) X.A (call (.ref f) us) (EP X pins σ Q) X.xe s := by
  have r2 : Vals (vs ++ dvs) (us ++ ds) := r.append hd
  have hl : (us ++ ds).length = ps.length := by rw [← r2.length]; exact F.len _ _ _ _ h
  refine wpAny_call (codeAny_mono (F.run X.A X.stack s H ⟨us, []⟩ (us ++ ds) (vs ++ dvs) Q E hr I.env0 (hb s us I.kIn hl) r2 h) fun r s' hq => ?_)
  cases r with
  | error e => exact hx pins σ H s e s' I hq
  | ok fl =>
    cases fl with
    | ret u => exact I.after hq
    | next => exact False.elim hq
    | brk => exact False.elim hq
    | cont => exact False.elim hq

theorem pe_call (F : FnOk X.prog X.w X.K X.mg X.base CX k f fd ps sp) (hr : Room k X.A) (hg : Gl X x) (hm : X.mg x = some (.ref f)) (hk : PySem.W.keepIn X.K (.ref f) = true) (hb : Binds X.K fd ps ds) (hd : Vals dvs ds) (hx : Passes CX X E)
    (ha : PA X (e :: es) t) (hdb : (x == ("__debug__" : Str)) = false := by decide) (he : starEach (e :: es) X.env = (false, eval e X.env) :: starEach es X.env := by rfl) (hpl : (backTo pos (starEach es X.env)).any (·.1) = false := by rfl) :
    PE X (.Call (.Name x p) (e :: es) [] pos) (tCall sp dvs E t) := by
  intro pins s σ H Q I h
  refine wpAny_Call_Name_kw (ld_glob I hg hm ?_ hdb)
  refine PySem.W.callWith_K (h₀ := X.base) I.ok.mod.kin hk (thn (ha pos pins s σ H _ I h) fun us s1 ⟨vs, H1, I1, r, q⟩ => ⟨I1.kIn, ?_⟩) he hpl
  exact run_fn F hr hb hd hx I1 r q
theorem pe_call0 (F : FnOk X.prog X.w X.K X.mg X.base CX k f fd ps sp) (hr : Room k X.A) (hg : Gl X x) (hm : X.mg x = some (.ref f)) (hk : PySem.W.keepIn X.K (.ref f) = true) (hb : Binds X.K fd ps ds) (hd : Vals dvs ds) (hx : Passes CX X E)
    (hdb : (x == ("__debug__" : Str)) = false := by decide) : PE X (.Call (.Name x p) [] [] pos) (tCall sp dvs E tNil) := by
  intro pins s σ H Q I h
  refine wpAny_Call_Name_kw (ld_glob I hg hm ?_ hdb)
  exact PySem.W.callWith_K0 I.kIn hk (run_fn (us := []) F hr hb hd hx I .nil h)

/-- o.m(e, ..) -/
theorem pe_meth {pl : Sem Bool} (he : PE X o ta) (c : Cls X.K C) (hm : Meth X.K C m f) (F : FnOk X.prog X.w X.K X.mg X.base CX k f fd ps sp) (hr : Room k X.A) (hb : Binds X.K fd ps ds) (hd : Vals dvs ds) (hx : Passes CX X E) (ha : PA X (e :: es) t)
    (hst : starEach (e :: es) X.env = (false, eval e X.env) :: starEach es X.env := by rfl) (hpl : (backTo pos (starEach es X.env)).any (·.1) = false := by rfl)
    (ht : eval (.Call (.Attribute o m apos) (e :: es) [] pos) X.env = (do
      let ov ← eval o X.env
      standAt apos.atName
      let (f, first) ← holding [ov] (getMethod ov m pl)
      callWith pos f first (backTo pos (starEach (e :: es) X.env)) (backToKw pos (keywordEach [] X.env))) := by rfl) :
    PE X (.Call (.Attribute o m apos) (e :: es) [] pos) (tMeth C m sp dvs E ta t) := by
  intro pins s σ H Q I h
  refine PySem.W.methodCall_KW (pl := pl) (thn (he pins s σ H _ I h) fun u s1 ⟨x, H1, I1, rx, a, dx, fs, ex, ea, l, q⟩ => ?_) ht
  subst ex
  obtain rfl : u = Value.ref a := rx
  refine getmeth_ok I1 ea c hm l ?_
  refine PySem.W.callWith_K (first := [.ref a]) (h₀ := X.base) I.ok.mod.kin hm.kp (thn (ha pos pins s1 σ H1 _ I1 q) fun us s2 ⟨vs, H2, I2, r, q2⟩ => ⟨I2.kIn, ?_⟩) hst hpl
  exact run_fn (us := .ref a :: us) (vs := .ref a :: vs) F hr hb hd hx I2 (.cons rfl r) q2
/-- o.m() -/
theorem pe_meth0 {pl : Sem Bool} (he : PE X o ta) (c : Cls X.K C) (hm : Meth X.K C m f) (F : FnOk X.prog X.w X.K X.mg X.base CX k f fd ps sp) (hr : Room k X.A) (hb : Binds X.K fd ps ds) (hd : Vals dvs ds) (hx : Passes CX X E)
    (ht : eval (.Call (.Attribute o m apos) [] [] pos) X.env = (do
      let ov ← eval o X.env
      standAt apos.atName
      let (f, first) ← holding [ov] (getMethod ov m pl)
      callWith pos f first (backTo pos (starEach [] X.env)) (backToKw pos (keywordEach [] X.env))) := by rfl) :
    PE X (.Call (.Attribute o m apos) [] [] pos) (tMeth C m sp dvs E ta tNil) := by
  intro pins s σ H Q I h
  refine PySem.W.methodCall_KW (pl := pl) (thn (he pins s σ H _ I h) fun u s1 ⟨x, H1, I1, rx, a, dx, fs, ex, ea, l, q⟩ => ?_) ht
  subst ex
  obtain rfl : u = Value.ref a := rx
  refine getmeth_ok I1 ea c hm l ?_
  exact PySem.W.callWith_K0 (first := [.ref a]) I1.kIn hm.kp (run_fn (us := [.ref a]) (vs := [.ref a]) F hr hb hd hx I1 (.cons rfl .nil) q)

/-- what a class must have to be made -/
structure Mk (K : PySem.W.Frag) (C f : Addr) : Prop where
  makes : PySem.W.makesIn K C = true
  init : PySem.W.findIn K (.ref C) "__init__" = some (some (.ref f))
  fn : PySem.W.isFn K (.ref f) = true
  kp : PySem.W.keepIn K (.ref C) = true

theorem run_make {pins : List (Addr × Obj)} {σ : St} {H : Hp} {s : Shared} {Q : VK} {us : List Value} {vs : List V} (M : Mk X.K C f) (F : FnOk X.prog X.w X.K X.mg X.base CX k f fd ps sp) (hr : Room (k + 1) X.A) (hb : Binds X.K fd ps ds) (hd : Vals dvs ds)
    (hx : Passes CX X E) (I : Inv X pins σ H s) (r : Vals vs us)
    (h : ∀ x dx, H x = none → H dx = none → dx ≠ x → sp (.ref x :: (vs ++ dvs)) (upd (upd H dx (.own x)) x (.ins C dx [])) (fun v H2 => v = .non ∧ Q (.ref x) H2) E) :
    wpAny (model X.prog X.w) X.A (call (.ref C) us) (EP X pins σ Q) X.xe s := by
  have hq := h (s.heap.objs.size + 1) s.heap.objs.size (I.hok.fresh (Nat.le_succ _)) (I.hok.fresh (Nat.le_refl _)) (Nat.ne_of_lt (Nat.lt_succ_self _))
  have I2 := Inv.made (C := C) I
  have r2 : Vals (V.ref (s.heap.objs.size + 1) :: (vs ++ dvs)) (Value.ref (s.heap.objs.size + 1) :: (us ++ ds)) := .cons rfl (r.append hd)
  have hl : (Value.ref (s.heap.objs.size + 1) :: us ++ ds).length = ps.length := by
    have e := r2.length
    rw [F.len _ _ _ _ hq] at e
    exact e.symm
  refine wpAny_call (make_map (f := f) I.kIn M.makes M.init (beq_iff_eq.mp M.fn) (codeAny_mono (F.run _ X.stack _ _ ⟨Value.ref (s.heap.objs.size + 1) :: us, []⟩ (Value.ref (s.heap.objs.size + 1) :: (us ++ ds)) _ _ E (hr.make C us [])
    (I2.env0.make C us []) (hb _ (Value.ref (s.heap.objs.size + 1) :: us) I2.kIn hl) r2 hq) fun r s' hq' => ?_))
  cases r with
  | error e => exact hx pins σ _ _ e s' I2 hq'
  | ok fl =>
    cases fl with
    | ret u =>
      obtain ⟨v, H', I3, rv, ev, q3⟩ := I2.after hq'
      subst ev
      exact ⟨rv, ⟨V.ref (s.heap.objs.size + 1), H', I3, rfl, q3⟩⟩
    | next => exact False.elim hq'
    | brk => exact False.elim hq'
    | cont => exact False.elim hq'
theorem pe_make (M : Mk X.K C f) (F : FnOk X.prog X.w X.K X.mg X.base CX k f fd ps sp) (hr : Room (k + 1) X.A) (hg : Gl X x) (hm : X.mg x = some (.ref C)) (hb : Binds X.K fd ps ds) (hd : Vals dvs ds) (hx : Passes CX X E)
    (ha : PA X (e :: es) t) (hdb : (x == ("__debug__" : Str)) = false := by decide) (he : starEach (e :: es) X.env = (false, eval e X.env) :: starEach es X.env := by rfl) (hpl : (backTo pos (starEach es X.env)).any (·.1) = false := by rfl) :
    PE X (.Call (.Name x p) (e :: es) [] pos) (tMake C sp dvs E t) := by
  intro pins s σ H Q I h
  refine wpAny_Call_Name_kw (ld_glob I hg hm ?_ hdb)
  refine PySem.W.callWith_K (h₀ := X.base) I.ok.mod.kin M.kp (thn (ha pos pins s σ H _ I h) fun us s1 ⟨vs, H1, I1, r, q⟩ => ⟨I1.kIn, ?_⟩) he hpl
  exact run_make M F hr hb hd hx I1 r q
theorem pe_make0 (M : Mk X.K C f) (F : FnOk X.prog X.w X.K X.mg X.base CX k f fd ps sp) (hr : Room (k + 1) X.A) (hg : Gl X x) (hm : X.mg x = some (.ref C)) (hb : Binds X.K fd ps ds) (hd : Vals dvs ds) (hx : Passes CX X E)
    (hdb : (x == ("__debug__" : Str)) = false := by decide) : PE X (.Call (.Name x p) [] [] pos) (tMake C sp dvs E tNil) := by
  intro pins s σ H Q I h
  refine wpAny_Call_Name_kw (ld_glob I hg hm ?_ hdb)
  exact PySem.W.callWith_K0 I.kIn M.kp (run_make (us := []) M F hr hb hd hx I .nil h)
end

/-! ### keywords -/
/-- the values of the keywords, from the left -/
def PK (X : Cx) (kws : List Keyword) (t : TA) : Prop :=
  ∀ (pos : Pos) (pins : List (Addr × Obj)) (s : Shared) (σ : St) (H : Hp) (Q : List V → Hp → Prop), Inv X pins σ H s → t σ H Q → wpAny (model X.prog X.w) X.A (evalAll ((backToKw pos (keywordEach kws X.env)).map (·.2))) (AP X pins σ Q) X.xe s
section
variable {X : Cx} {CX : CXT} {k : Nat} {f C : Addr} {fd : FuncData} {ps ks : List Str} {sp : Sp} {E : XK} {x m : Str} {p pos apos kpos : Pos} {e o : Expr} {es : List Expr} {kws : List Keyword} {te ta : TE} {t tk : TA} {nm : Option Str}
theorem pk_nil : PK X [] tNil := fun _ _ _ _ H Q I h => wpAny_evalAll_nil ⟨[], H, I, .nil, h⟩
theorem pk_cons (ha : PE X e te) (hr : PK X kws t) : PK X (⟨nm, e, kpos⟩ :: kws) (tCons te t) := by
  intro pos pins s σ H Q I h
  show wpAny _ _ (evalAll ((do let v ← eval e X.env; standAt pos; pure v) :: (backToKw pos (keywordEach kws X.env)).map (·.2))) _ _ s
  refine wpAny_evalAll_cons (wpAny_bind (thn (ha pins s σ H _ I h) fun u s1 ⟨x, H1, I1, r1, q1⟩ => wpAny_bind (wpAny_standAt (wpAny_pure ?_))))
  exact thn (hr pos pins s1 σ H1 _ I1 q1) fun us s2 ⟨xs, H2, I2, r2, q2⟩ => ⟨x :: xs, H2, I2, .cons r1 r2, q2⟩

/-- how a call with keywords binds: g puts the positional values us and the keywords' values ws (names ks) in the parameters' order, defaults among them -/
structure KBinds (K : PySem.W.Frag) (fd : FuncData) (ps ks : List Str) (g : List Value → List Value → List Value) (gV : List V → List V → List V) : Prop where
  to : ∀ (s : Shared) (us ws : List Value), K.In s.heap → (g us ws).length = ps.length → BindsTo s fd ⟨us, ks.zip ws⟩ (ps.zip (g us ws))
  rel : ∀ {vs : List V} {us : List Value} {zs : List V} {ws : List Value}, Vals vs us → Vals zs ws → Vals (gV vs zs) (g us ws)
def tCallK (sp : Sp) (gV : List V → List V → List V) (E : XK) (t tk : TA) : TE := fun σ H Q => t σ H fun vs H1 => tk σ H1 fun zs H2 => sp (gV vs zs) H2 Q E
variable {g : List Value → List Value → List Value} {gV : List V → List V → List V}
theorem run_fnk {pins : List (Addr × Obj)} {σ : St} {H : Hp} {s : Shared} {Q : VK} {us ws : List Value} {vs zs : List V} (F : FnOk X.prog X.w X.K X.mg X.base CX k f fd ps sp) (hr : Room k X.A) (hb : KBinds X.K fd ps ks g gV) (hx : Passes CX X E)
    (I : Inv X pins σ H s) (r : Vals vs us) (rz : Vals zs ws) (h : sp (gV vs zs) H Q E) : wpAny (model X.prog X.w) X.A (call (.ref f) us (ks.zip ws)) (EP X pins σ Q) X.xe s := by
  have r2 := hb.rel r rz
  have hl : (g us ws).length = ps.length := by rw [← r2.length]; exact F.len _ _ _ _ h
  refine wpAny_call (codeAny_mono (F.run X.A X.stack s H ⟨us, ks.zip ws⟩ (g us ws) (gV vs zs) Q E hr I.env0 (hb.to s us ws I.kIn hl) r2 h) fun r s' hq => ?_)
  cases r with
  | error e => exact hx pins σ H s e s' I hq
  | ok fl =>
    cases fl with
    | ret u => exact I.after hq
    | next => exact False.elim hq
    | brk => exact False.elim hq
    | cont => exact False.elim hq
/-- f(e, .., k = v, ..) -/
theorem pe_callK (F : FnOk X.prog X.w X.K X.mg X.base CX k f fd ps sp) (hr : Room k X.A) (hg : Gl X x) (hm : X.mg x = some (.ref f)) (hk : PySem.W.keepIn X.K (.ref f) = true) (hb : KBinds X.K fd ps ks g gV) (hx : Passes CX X E)
    (ha : PA X (e :: es) t) (hkw : PK X kws tk) (hall : (backToKw pos (keywordEach kws X.env)).all (·.1.isSome) = true := by rfl) (hks : (backToKw pos (keywordEach kws X.env)).filterMap (·.1) = ks := by rfl)
    (hdb : (x == ("__debug__" : Str)) = false := by decide) (he : starEach (e :: es) X.env = (false, eval e X.env) :: starEach es X.env := by rfl)
    (hpl : ((backTo pos (starEach (e :: es) X.env)).any (·.1) || (backToKw pos (keywordEach kws X.env)).any (·.1.isNone)) = false := by rfl) :
    PE X (.Call (.Name x p) (e :: es) kws pos) (tCallK sp gV E t tk) := by
  intro pins s σ H Q I h
  refine wpAny_Call_Name_kw (ld_glob I hg hm ?_ hdb)
  refine PySem.W.callWith_KW (h₀ := X.base) I.ok.mod.kin hk hall (thn (ha pos pins s σ H _ I h) fun us s1 ⟨vs, H1, I1, r, q⟩ => ?_) hpl he
  refine thn (hkw pos pins s1 σ H1 _ I1 q) fun ws s2 ⟨zs, H2, I2, rz, q2⟩ => ⟨I2.kIn, ?_⟩
  rw [hks]
  exact run_fnk F hr hb hx I2 r rz q2
end

/-! ### a def's body keeps its promise -/
/-- names: the parameters first -/
structure FnScope (N P : List Str) (sc : Scope) : Prop where
  kind : sc.kind = .function
  co : sc.isCoroutine = false
  gen : sc.isGenerator = false
  nd : N.Nodup
  pre : N.take P.length = P
  par : ∀ x ∈ P, sc.names.lookup x = some .local ∨ sc.names.lookup x = some .cell
  nofree : ∀ y ∈ sc.names, y.2 ≠ .free

theorem bindL_out {kindOf : Str → Option NameKind} {x : Str} : ∀ {binds : List (Str × Value)} {m : Str → Option Value}, (∀ v, (x, v) ∉ binds) → bindL kindOf binds m x = m x
  | [], _, _ => rfl
  | (n, v) :: r, m, h => by
    unfold bindL
    rw [bindL_out fun w hw => h w (List.mem_cons_of_mem _ hw)]
    split
    · have : x ≠ n := by rintro rfl; exact h v List.mem_cons_self
      simp [this]
    · rfl
theorem bindC_out {kindOf : Str → Option NameKind} {x : Str} : ∀ {binds : List (Str × Value)} {m : Str → Option Value}, (∀ v, (x, v) ∉ binds) → bindC kindOf binds m x = m x
  | [], _, _ => rfl
  | (n, v) :: r, m, h => by
    unfold bindC
    rw [bindC_out fun w hw => h w (List.mem_cons_of_mem _ hw)]
    split
    · rfl
    · have : x ≠ n := by rintro rfl; exact h v List.mem_cons_self
      simp [this]
theorem bindL_get {kindOf : Str → Option NameKind} {x : Str} {v : Value} : ∀ {P : List Str} {vs : List Value} {i : Nat} {m : Str → Option Value}, P.Nodup → P[i]? = some x → vs[i]? = some v → kindOf x = some .local →
    bindL kindOf (P.zip vs) m x = some v
  | [], _, _, _, _, h, _, _ => by simp at h
  | _ :: _, [], _, _, _, _, h, _ => by simp at h
  | p :: P, w :: vs, 0, m, nd, h1, h2, hk => by
    simp at h1 h2; subst h1; subst h2
    show bindL kindOf ((p, w) :: P.zip vs) m p = _
    unfold bindL
    rw [bindL_out fun v hv => (List.nodup_cons.mp nd).1 (List.of_mem_zip hv).1, if_pos hk]
    simp
  | p :: P, w :: vs, i + 1, m, nd, h1, h2, hk => by
    show bindL kindOf ((p, w) :: P.zip vs) m x = _
    unfold bindL
    exact bindL_get (i := i) (List.nodup_cons.mp nd).2 (by simpa using h1) (by simpa using h2) hk
theorem bindC_get {kindOf : Str → Option NameKind} {x : Str} {v : Value} : ∀ {P : List Str} {vs : List Value} {i : Nat} {m : Str → Option Value}, P.Nodup → P[i]? = some x → vs[i]? = some v → kindOf x ≠ some .local →
    bindC kindOf (P.zip vs) m x = some v
  | [], _, _, _, _, h, _, _ => by simp at h
  | _ :: _, [], _, _, _, _, h, _ => by simp at h
  | p :: P, w :: vs, 0, m, nd, h1, h2, hk => by
    simp at h1 h2; subst h1; subst h2
    show bindC kindOf ((p, w) :: P.zip vs) m p = _
    unfold bindC
    rw [bindC_out fun v hv => (List.nodup_cons.mp nd).1 (List.of_mem_zip hv).1, if_neg hk]
    simp
  | p :: P, w :: vs, i + 1, m, nd, h1, h2, hk => by
    show bindC kindOf ((p, w) :: P.zip vs) m x = _
    unfold bindC
    exact bindC_get (i := i) (List.nodup_cons.mp nd).2 (by simpa using h1) (by simpa using h2) hk

/-- the names' values at the entry -/
def start (N : List Str) (vs : List V) : St := vs.map some ++ List.replicate (N.length - vs.length) none

/-- the context of a def's body, at its entry; an exception leaves the frame, then lies as CX says -/
def cxOf (CX : CXT) (P : Program) (w : World) (K : PySem.W.Frag) (mg : Str → Option Value) (base : Heap) (N : List Str) (qual : Str) (scope : Scope) (f : Addr) (cd : Value) (A : Around) (outer : List Env) (s : Shared) (H : Hp) (E : XK) : Cx where
  prog := P
  w := w
  K := K
  mg := mg
  base := base
  A := A.deeper (envOfC qual scope s.heap.objs.size f cd)
  N := N
  s_0 := s
  H_0 := H
  env := envOfC qual scope s.heap.objs.size f cd
  outer := outer
  stack := envOfC qual scope s.heap.objs.size f cd :: outer
  ex := []
  calm := true
  fn := fun _ => true
  pn := []
  xe := fun e s' => wpAny (model P w) (A.deeper (envOfC qual scope s.heap.objs.size f cd)) (leaving (envOfC qual scope s.heap.objs.size f cd) e) (fun _ s'' => CX outer H s E e s'') (fun e' s'' => CX outer H s E e' s'') s'

theorem cell_has {sc : Scope} {n : Nat} {x : Str} (h : sc.names.lookup x = some .cell) : ∃ c, (cellsFrom n sc.names []).lookup x = some c := by
  have q := PySem.W.cellsFrom_some sc.names n [] (.inl h)
  exact Option.isSome_iff_exists.mp q

theorem inv_start {CX : CXT} {P : Program} {w : World} {K : PySem.W.Frag} {mg : Str → Option Value} {base : Heap} {N ps : List Str} {qual : Str} {scope : Scope} {f : Addr} {cd : Value} {A : Around} {outer : List Env} {s s1 : Shared} {H : Hp} {E : XK} {us : List Value} {vs : List V}
    (S : FnScope N ps scope) (hd : A.handled = none) (e0 : Env0 P w K mg base A outer s H) (hl : vs.length = ps.length) (r : Vals vs us)
    (x : InCallC s s.heap.objs.size (bindL (envOfC qual scope s.heap.objs.size f cd).kindOf (ps.zip us) fun _ => none) (cellsFrom (s.heap.objs.size + 1) scope.names []) (bindC (envOfC qual scope s.heap.objs.size f cd).kindOf (ps.zip us) fun _ => none) s1) :
    Inv (cxOf CX P w K mg base N qual scope f cd A outer s H E) [] (start N vs) H s1 := by
  have hpl : ps.length ≤ N.length := by have := congrArg List.length S.pre; rw [List.length_take] at this; omega
  obtain ⟨h1, tk, rfl, hk⟩ := x.done
  have noA : ∀ b : Addr, b ∉ (cxOf CX P w K mg base N qual scope f cd A outer s H E).ex := fun b z => absurd (show b ∈ ([] : List Addr) from z) (by simp)
  refine ⟨⟨e0.mod, S.kind, rfl, rfl, Nat.le_refl _, fun y z c h1 h2 => ?_, fun y hy => ?_, fun y c _ h => ?_, fun _ => hd, Around.frames_deeper e0.frames, .inr ⟨rfl, rfl⟩, fun b z => absurd z (noA b), e0.bs, e0.bsz, fun b _ _ => noA b, fun b z => absurd z (noA b), e0.funs, e0.frf⟩,
    rfl, e0.bare, Un.kept hk, ⟨_, x.toInCall.ns, fun i y v h1 h2 h3 => ?_⟩, fun y c h => ⟨_, x.cell y c h⟩, e0.hok.fresh (Nat.le_refl _), fun y c h => ?_, fun p hp => absurd (show p ∈ ([] : List (Addr × Obj)) from hp) (by simp), e0.hok.kept hk, ?_⟩
  · exact name_of_addr x.apart (PySem.mem_of_lookup h1) (PySem.mem_of_lookup h2)
  · have hy : scope.names.lookup y = some .cell ∨ scope.names.lookup y = some .free := hy
    rcases hy with hy | hy
    · exact cell_has hy
    · exact absurd rfl (S.nofree _ (PySem.mem_of_lookup hy))
  · exact Nat.le_of_lt (x.above y c (PySem.mem_of_lookup h))
  · have hi : i < vs.length := by
      unfold start at h2
      by_cases hi : i < vs.length
      · exact hi
      · rw [List.getElem?_append_right (by simpa using hi)] at h2
        rw [List.getElem?_replicate] at h2
        split at h2 <;> cases h2
    have ha : vs[i]? = some v := by
      unfold start at h2
      rw [List.getElem?_append_left (by simpa using hi), List.getElem?_map] at h2
      cases e : vs[i]? with
      | none => rw [e] at h2; cases h2
      | some a => rw [e] at h2; cases h2; rfl
    obtain ⟨u, hu, rv⟩ := r.get ha
    have hp : ps[i]? = some y := by
      rw [← S.pre, List.getElem?_take_of_lt (by omega)]; exact h1
    have ndP : ps.Nodup := by rw [← S.pre]; exact S.nd.sublist (List.take_sublist _ _)
    refine ⟨u, rv, ?_⟩
    rcases S.par y (List.mem_of_getElem? hp) with k | k
    · exact .inl ⟨k, bindL_get ndP hp hu k⟩
    · obtain ⟨c, e⟩ := cell_has (n := s.heap.objs.size + 1) k
      refine .inr ⟨.inl k, c, e, ?_⟩
      have q := x.cell y c e
      rw [bindC_get ndP hp hu (by show scope.names.lookup y ≠ _; rw [k]; decide)] at q
      exact q
  · exact e0.hok.fresh (Nat.le_of_lt (x.above y c (PySem.mem_of_lookup h)))
  · unfold start
    show _ = N.length
    rw [List.length_append, List.length_map, List.length_replicate]
    omega

/-- THE RULE: a def (or a method) of the text, by its body. The body's reading t is chosen for each entry; it is run at the parameters' values -/
theorem fn_of {CX : CXT} {P : Program} {w : World} {K : PySem.W.Frag} {mg : Str → Option Value} {base : Heap} {k : Nat} {f : Addr} {name qual : Str} {params : Arguments} {body : List Stmt} {scope : Scope} {dV kV doc pm cdv ct oc : Value} {an od : Option Addr}
    {osl : Array (Option Value)} {N ps : List Str} {sp : Sp} (lk : K.lookup f = some ⟨oc, od, .func (PySem.W.fnOf name qual params body scope dV kV doc pm an cdv ct), osl⟩) (hcd : PySem.W.codeIn K cdv qual = true) (S : FnScope N ps scope)
    (len : ∀ vs H Q E, sp vs H Q E → vs.length = ps.length)
    (hbody : ∀ (A : Around) (outer : List Env) (s : Shared) (H : Hp) (vs : List V) (Q : VK) (E : XK), Room k (A.deeper (envOfC qual scope s.heap.objs.size f cdv)) → sp vs H Q E →
      ∃ t, PSs (cxOf CX P w K mg base N qual scope f cdv A outer s H E) body t ∧ t { nx := fun _ H' => Q .non H', rt := Q } (start N vs) H) :
    FnOk P w K mg base CX (k + 1) f (PySem.W.fnOf name qual params body scope dV kV doc pm an cdv ct) ps sp := by
  refine ⟨len, fun A outer s H args us vs Q E hr e0 hb r hsp => ?_⟩
  have hl := len _ _ _ _ hsp
  have KX : K.In s.heap := e0.mod.kin.keeps fun b o e => (e0.bs b o e).1
  have lim : s.heap.NoLimit := e0.mod.nolimit.keeps fun b o e => (e0.bs b o e).1
  have hkind : ∀ y ∈ ps.zip us, scope.names.lookup y.1 = some .local ∨ (scope.names.lookup y.1 = some .cell ∧ ((cellsFrom (s.heap.objs.size + 1) scope.names []).lookup y.1).isSome = true) := fun ⟨n, v⟩ hy => by
    rcases S.par n (List.of_mem_zip hy).1 with q | q
    · exact .inl q
    · exact .inr ⟨q, PySem.W.cellsFrom_some _ _ _ (.inl q)⟩
  refine codeAny_call_function hr.depth (KX _ _ lk) rfl S.co S.gen rfl (PySem.W.codeRec_of KX hcd) (hb _ _ _ _ ?_)
  refine wpAny_newFunctionEnv_cells S.kind hkind fun env he s1 x => ?_
  subst he
  refine ⟨lim.keeps x.toInCall.keep, codeAny_func ?_⟩
  obtain ⟨t, ht, hq⟩ := hbody A outer s H vs Q E (hr.deeper _) hsp
  have I : Inv (cxOf CX P w K mg base N qual scope f cdv A outer s H E) [] (start N vs) H s1 := inv_start S hr.hd e0 hl r x
  refine wpAny_mono (ht [] s1 (start N vs) H _ I hq) (fun fl s' hs => ?_) fun e s' hs => hs
  have fin : ∀ {σ' : St} {H' : Hp} {v : V} {u : Value}, Inv (cxOf CX P w K mg base N qual scope f cdv A outer s H E) [] σ' H' s' → RelV v u → Q v H' → CE outer P w H s Q u s' :=
    fun {σ' H' v u} J rv q => ⟨v, H', J.os, J.bare, J.base, J.hok, rv, q⟩
  cases fl with
  | ret u =>
    obtain ⟨v, σ', H', J, rv, q⟩ := hs
    exact fin J rv q
  | next =>
    obtain ⟨σ', H', J, q⟩ := hs
    exact fin (v := V.non) (u := Value.none) J rfl q
  | brk =>
    obtain ⟨_, _, _, q⟩ := hs
    exact False.elim q
  | cont =>
    obtain ⟨_, _, _, q⟩ := hs
    exact False.elim q
end L2

namespace L2
open PySem PySem.Spec PyProof.Rows
section
variable {X : Cx} {x : Str} {p pos : Pos} {e : Expr} {es : List Expr} {t : TA} {id T : String} {r : List V → Hp → VK → Prop}

def tCB (r : List V → Hp → VK → Prop) (t : TA) : TE := fun σ H Q => t σ H fun vs H1 => r vs H1 Q
/-- f(e, ..), f a built-in function -/
theorem pe_callB (hc : CallR X (.builtin id) r) (hg : Gl X x) (hm : X.mg x = none) (hv : bootBuiltins x = some (.builtin id)) (ha : PA X (e :: es) t) (hn : x ≠ "__name__" := by decide) (hdb : (x == ("__debug__" : Str)) = false := by decide)
    (he : starEach (e :: es) X.env = (false, eval e X.env) :: starEach es X.env := by rfl) (hpl : (backTo pos (starEach es X.env)).any (·.1) = false := by rfl) : PE X (.Call (.Name x p) (e :: es) [] pos) (tCB r t) := by
  intro pins s σ H Q I h
  refine wpAny_Call_Name_kw (ld_blt I hg hm hv ?_ hn hdb)
  exact PyProof.Rows.callWith_builtin1 (thn (ha pos pins s σ H _ I h) fun us s1 ⟨vs, H1, I1, r1, q1⟩ => hc pins s1 σ H1 vs us Q I1 r1 q1) he hpl
/-- T(e, ..), T a built-in type -/
theorem pe_callTy (hc : CallR X (.type T) r) (hg : Gl X x) (hm : X.mg x = none) (hv : bootBuiltins x = some (.type T)) (ha : PA X (e :: es) t) (hn : x ≠ "__name__" := by decide) (hdb : (x == ("__debug__" : Str)) = false := by decide)
    (he : starEach (e :: es) X.env = (false, eval e X.env) :: starEach es X.env := by rfl) (hpl : (backTo pos (starEach es X.env)).any (·.1) = false := by rfl) : PE X (.Call (.Name x p) (e :: es) [] pos) (tCB r t) := by
  intro pins s σ H Q I h
  refine wpAny_Call_Name_kw (ld_blt I hg hm hv ?_ hn hdb)
  exact PyProof.Rows.callWith_type1 (thn (ha pos pins s σ H _ I h) fun us s1 ⟨vs, H1, I1, r1, q1⟩ => hc pins s1 σ H1 vs us Q I1 r1 q1) he hpl
/-- T() -/
theorem pe_callTy0 (hc : CallR X (.type T) r) (hg : Gl X x) (hm : X.mg x = none) (hv : bootBuiltins x = some (.type T)) (hn : x ≠ "__name__" := by decide) (hdb : (x == ("__debug__" : Str)) = false := by decide) :
    PE X (.Call (.Name x p) [] [] pos) (tCB r tNil) := by
  intro pins s σ H Q I h
  refine wpAny_Call_Name_kw (ld_blt I hg hm hv ?_ hn hdb)
  exact PyProof.Rows.callWith_type0 (hc pins s σ H [] [] Q I .nil h)
end
end L2

namespace HT
open PySem PyProof.Rows

/-- t < u of tuples of ints -/
def lexLt : List Int → List Int → Bool
  | [], [] => false
  | [], _ :: _ => true
  | _ :: _, [] => false
  | x :: xs, y :: ys => if x = y then lexLt xs ys else decide (x < y)
theorem lexLt_cons (x y : Int) (xs ys : List Int) : lexLt (x :: xs) (y :: ys) = if x = y then lexLt xs ys else decide (x < y) := rfl
theorem lexLt_nil_nil : lexLt [] [] = false := rfl
theorem lexLt_nil_cons (y : Int) (ys : List Int) : lexLt [] (y :: ys) = true := rfl
theorem lexLt_cons_nil (x : Int) (xs : List Int) : lexLt (x :: xs) [] = false := rfl

theorem eqAt_int (A : Around) (s : Shared) (a : Int) (t : Tok) (c : Int) (u : Tok) : ∃ e, SeqAt.EqAt A s (.int a t) (.int c u) e ∧ (e = true ↔ a = c) :=
  ⟨(a == c), SeqAt.EqAt.int_int a t c u, by simp⟩
theorem rcLt_int (A : Around) (s : Shared) (a : Int) (t : Tok) (c : Int) (u : Tok) (prog : Program) (w : World) (E : Value → Shared → Prop) (Q : Value → Shared → Prop) (h : Q (.bool (decide (a < c))) s) :
    wpAny (model prog w) A (richCompare .Lt (.int a t) (.int c u)) Q E s :=
  (PyProof.Rows.lt_int h : wpAny (model prog w) A (compareOp .Lt (.int a t) (.int c u)) Q E s)

section
open PySem.SeqAt
open PySem.AutoSeq1 (wpAny_loadPart')
open PySem.MeetsSeq PySem.MeetsSeq2 PySem.MeetsSeq3

theorem tuple_lt_ints (l b : Addr) (items items2 : Array Value) (n n2 : Nat) (dd dd2 : Option Addr) (sl sl2 : Array (Option Value)) (ns ms : List Int) (hi : IntsAre items.toList ns) (hj : IntsAre items2.toList ms) :
    Meets (Builtin.«tuple.__lt__» ⟨[.ref l, .ref b], []⟩)
      (fun _ R s => s.heap.get? l = some { cls := .type "tuple", dict := dd, data := .seq items n, slots := sl } ∧ s.heap.get? b = some { cls := .type "tuple", dict := dd2, data := .seq items2 n2, slots := sl2 } ∧
        R (.ok (.ret (.bool (lexLt ns ms)))) s) :=
  .of_wp fun prog w A R s h => by
    obtain ⟨hp, g, d, tk, os⟩ := s; obtain ⟨hl, hb, h⟩ := h
    have f2 := AutoSeq1.sub_tuple_tuple
    have z1 : items.size = ns.length := by rw [← hi.length]; simp
    have z2 : items2.size = ms.length := by rw [← hj.length]; simp
    wp_walk using wpAny_loadPart' hl, wpAny_loadPart' hb, wpAny_forIn_list _ (fun rest b s' => b.1 = none ∧ s' = ⟨hp, g, d, tk, os⟩ ∧ ∃ (vs ws : List Value) (ns' ms' : List Int), rest = vs.zip ws ∧
      IntsAre vs ns' ∧ IntsAre ws ms' ∧ ns'.length + items2.size = ms'.length + items.size ∧ R (.ok (.ret (.bool (lexLt ns' ms')))) ⟨hp, g, d, tk, os⟩) _
    case turn =>
      rintro ⟨y, x⟩ rest b s' ⟨hb', rfl, vs, ws, ns', ms', hz, hvi, hwi, hlen, hR⟩
      cases hvi with
      | nil => rw [List.zip_nil_left] at hz; cases hz
      | cons a t hvi' =>
        cases hwi with
        | nil => rw [List.zip_nil_right] at hz; cases hz
        | cons c u hwi' =>
          rw [List.zip_cons_cons] at hz
          injection hz with hyx hrest
          injection hyx with hy hx
          subst hy hx
          rw [lexLt_cons] at hR
          simp only [List.length_cons] at hlen
          obtain ⟨e, he, hiff⟩ := eqAt_int A.in1 ⟨hp, g, d, tk, os⟩ a t c u
          refine wpAny_bind (he prog w _ _ ?_)
          cases e with
          | true =>
            rw [if_pos (hiff.mp rfl)] at hR
            wp_walk
            exact ⟨rfl, rfl, _, _, _, _, hrest, hvi', hwi', by omega, hR⟩
          | false =>
            rw [if_neg (fun q => absurd (hiff.mpr q) Bool.false_ne_true)] at hR
            have hri := rcLt_int A.in1 ⟨hp, g, d, tk, os⟩ a t c u prog w
            wp_walk using hri
            exact ⟨_, rfl, by simpa using hR⟩
    case fin =>
      rintro ⟨b1, b2⟩ s' ⟨hb', rfl, vs, ws, ns', ms', hz, hvi, hwi, hlen, hR⟩
      simp only at hb'
      subst hb'
      have hv : lexLt ns' ms' = decide (items.size < items2.size) := by
        cases hvi with
        | nil =>
          cases hwi with
          | nil =>
            simp only [List.length_nil] at hlen
            rw [lexLt_nil_nil]
            exact (decide_eq_false (by omega)).symm
          | cons c u hw =>
            simp only [List.length_nil, List.length_cons] at hlen
            rw [lexLt_nil_cons]
            exact (decide_eq_true (by omega)).symm
        | cons a t hv =>
          cases hwi with
          | nil =>
            simp only [List.length_nil, List.length_cons] at hlen
            rw [lexLt_cons_nil]
            exact (decide_eq_false (by omega)).symm
          | cons c u hw =>
            rw [List.zip_cons_cons] at hz
            cases hz
      rw [hv] at hR
      wp_walk
      exact ⟨_, rfl, by simpa [Builtin.Tuple.tupleCompareSizes] using hR⟩
    case h =>
      exact ⟨rfl, rfl, items.toList, items2.toList, ns, ms, rfl, hi, hj, by omega, h⟩
end

section
variable {prog : Program} {w : World} {A : Around} {E : Value → Shared → Prop} {s : Shared}

theorem lt_tupInts {l b : Addr} {items items2 : Array Value} {ns ms : List Int} {Q : Value → Shared → Prop} (hl : IsTup s.heap l items) (hb : IsTup s.heap b items2) (hi : IntsAre items.toList ns) (hj : IntsAre items2.toList ms)
    (hu : A.units < cLine) (h : Q (.bool (lexLt ns ms)) s) : wpAny (model prog w) A (compareOp .Lt (.ref l) (.ref b)) Q E s := by
  obtain ⟨⟨cls, dd, data, sl⟩, ho, hc, n, hd⟩ := id hl
  obtain ⟨⟨cls2, dd2, data2, sl2⟩, ho2, hc2, n2, hd2⟩ := id hb
  simp only at hc hd hc2 hd2
  subst hc hd hc2 hd2
  exact richCompare_meets_room (op := .Lt) ⟨_, ho, rfl⟩ ⟨_, ho2, rfl⟩ PySem.F.slot_tuple_lt PySem.F.entry_tuple_lt (PySem.F.args_tuple_lt_2 _ _) (tuple_lt_ints l b items items2 n n2 dd dd2 sl sl2 ns ms hi hj)
    ⟨ho, ho2, show Value.bool (lexLt ns ms) ≠ Value.notImplemented ∧ Q (.bool (lexLt ns ms)) s from ⟨(fun x => nomatch x), h⟩⟩ hu

/-- t + u, t not empty -/
theorem cat_tup {t b : Addr} {vs ws : List Value} {Q : Value → Shared → Prop} (ht : IsTup s.heap t vs.toArray) (hb : IsTup s.heap b ws.toArray) (hv : vs ≠ [])
    (h1 : ws = [] → Q (.ref t) s) (h2 : ws ≠ [] → Q (.ref s.heap.objs.size) { s with heap := s.heap.push { cls := .type "tuple", data := .seq (vs ++ ws).toArray } })
    (hsz : vs.length + ws.length ≤ sizeLine) : wpAny (model prog w) A (binaryOp .Add (.ref t) (.ref b)) Q E s := by
  obtain ⟨⟨cls, dd, data, sl⟩, ho, hc, n, hd⟩ := id ht
  obtain ⟨⟨cls2, dd2, data2, sl2⟩, ho2, hc2, n2, hd2⟩ := id hb
  simp only at hc hd hc2 hd2
  subst hc hd hc2 hd2
  have e : vs.toArray ++ ws.toArray = (vs ++ ws).toArray := by simp
  by_cases hw : ws = []
  · exact concat_meets ⟨_, ho, rfl⟩ ⟨_, ho2, rfl⟩ noFill_tuple_add seq_tuple_add PySem.F.slot_tuple_add PySem.F.entry_tuple_add (PySem.F.args_tuple_add_2 _ _)
      (tuple_addW1 t b vs.toArray ws.toArray n n2 dd dd2 sl sl2 (by simpa using hv) (by simp [hw])) ⟨ho, ho2, h1 hw⟩
  · refine concat_meets ⟨_, ho, rfl⟩ ⟨_, ho2, rfl⟩ noFill_tuple_add seq_tuple_add PySem.F.slot_tuple_add PySem.F.entry_tuple_add (PySem.F.args_tuple_add_2 _ _)
      (tuple_addW2 t b vs.toArray ws.toArray n n2 dd dd2 sl sl2 (by simpa using hv) (by simpa using hw) (by rw [List.size_toArray, List.size_toArray]; exact hsz)) ⟨ho, ho2, ?_⟩
    rw [e]
    exact h2 hw

/-! ### t[a:b], not the whole -/
/-- a slice's bound as a place among n (d where it is left out) -/
def sIx (n d : Nat) : Option Int → Nat
  | none => d
  | some v => if v < 0 then (v + (n : Int)).toNat else min v.toNat n
theorem sIx_none (n d : Nat) : sIx n d none = d := rfl
theorem sIx_nat (n d k : Nat) : sIx n d (some (k : Int)) = min k n := by
  show (if (k : Int) < 0 then ((k : Int) + (n : Int)).toNat else min (k : Int).toNat n) = min k n
  rw [if_neg (by omega), Int.toNat_natCast]
theorem sIx_le (n d : Nat) (hd : d ≤ n) (o : Option Int) : sIx n d o ≤ n := by
  cases o with
  | none => exact hd
  | some v =>
    show (if v < 0 then (v + (n : Int)).toNat else min v.toNat n) ≤ n
    by_cases hv : v < 0
    · rw [if_pos hv]; omega
    · rw [if_neg hv]; exact Nat.min_le_right _ _
theorem clip_eq (v : Int) (n d : Nat) : (if v < 0 then max (v + (n : Int)) 0 else min v (n : Int)) = ((sIx n d (some v) : Nat) : Int) := by
  show (if v < 0 then max (v + (n : Int)) 0 else min v (n : Int)) = (((if v < 0 then (v + (n : Int)).toNat else min v.toNat n) : Nat) : Int)
  by_cases hv : v < 0
  · simp only [if_pos hv]; omega
  · simp only [if_neg hv]; omega
theorem adjust_gen (lo hi : Option Int) (n : Nat) : Builtin.Slice.sliceAdjust lo hi 1 (n : Int) = (((sIx n 0 lo : Nat) : Int), ((sIx n n hi : Nat) : Int)) := by
  have h1 : ¬ ((1 : Int) < 0) := by omega
  unfold Builtin.Slice.sliceAdjust
  simp only [h1, if_false]
  refine Prod.ext ?_ ?_
  · cases lo with
    | none => rfl
    | some v => exact clip_eq v n 0
  · cases hi with
    | none => rfl
    | some v => exact clip_eq v n n
theorem places_gen (i j : Nat) : Builtin.Slice.slicePlaces (i : Int) (j : Int) 1 = j - i := by
  unfold Builtin.Slice.slicePlaces
  have h1 : (1 : Int) > 0 := by omega
  simp only [h1, if_true, Int.ediv_one]
  split <;> omega
theorem slicePart_ {v : Value} {o : Option Int} {Q : Option Int → Shared → Prop} (p : IsPart v o) (h : Q o s) : wpAny (model prog w) A (Builtin.Slice.slicePartIndex v) Q E s := by
  cases p with
  | none => exact slicePart_none h
  | int i t => exact slicePart_int h
theorem sliceApplied_gen {sl : Addr} {vl vu : Value} {lo hi : Option Int} {n : Nat} {Q : Int × Int × Nat → Shared → Prop} (hs : s.heap.IsSliceOf sl vl vu .none) (pl : IsPart vl lo) (pu : IsPart vu hi)
    (h : Q (((sIx n 0 lo : Nat) : Int), 1, sIx n n hi - sIx n 0 lo) s) : wpAny (model prog w) A (Builtin.Slice.sliceApplied (.ref sl) (pure (n : Int))) Q E s := by
  obtain ⟨os, hos, hcs, hds⟩ := id hs
  unfold Builtin.Slice.sliceApplied Builtin.Slice.sliceFields
  refine wpAny_bind (wpAny_bind (wpAny_field hos hds (x := vl) rfl (wpAny_bind (wpAny_field hos hds (x := vu) rfl (wpAny_bind (wpAny_field hos hds (x := .none) rfl (wpAny_pure ?_)))))))
  refine wpAny_bind (slicePart_none ?_)
  show wpAny _ _ (if ((1 : Int) == 0) = true then _ else _) _ _ s
  rw [if_neg (by decide)]
  refine wpAny_bind (slicePart_ pl (wpAny_bind (slicePart_ pu (wpAny_bind (wpAny_pure ?_)))))
  show wpAny _ _ (match Builtin.Slice.sliceAdjust lo hi 1 (n : Int) with | (lo, hi) => pure (lo, (1 : Int), Builtin.Slice.slicePlaces lo hi 1)) _ _ s
  rw [adjust_gen lo hi n]
  show wpAny _ _ (pure (((sIx n 0 lo : Nat) : Int), (1 : Int), Builtin.Slice.slicePlaces ((sIx n 0 lo : Nat) : Int) ((sIx n n hi : Nat) : Int) 1)) _ _ s
  rw [places_gen]
  exact wpAny_pure h
theorem pick_gen (xs : Array Value) (i k : Nat) : ((List.range k).filterMap fun (m : Nat) => xs[((i : Int) + (m : Int) * 1).toNat]?).toArray = ((xs.toList.drop i).take k).toArray := by
  have e : (fun (m : Nat) => xs[((i : Int) + (m : Int) * 1).toNat]?) = fun m => xs[i + m]? := by
    funext m
    have : ((i : Int) + (m : Int) * 1).toNat = i + m := by omega
    rw [this]
  rw [e]
  have := pick_run xs i k
  rw [List.filterMap_map] at this
  have e2 : ((fun x => xs[x]?) ∘ fun x => i + x) = fun m => xs[i + m]? := rfl
  rw [e2] at this
  rw [this]

theorem getItem_tuple_cut {t sl : Addr} {items : Array Value} {vl vu : Value} {lo hi : Option Int} {Q : Value → Shared → Prop} (ht : IsTup s.heap t items) (hs : s.heap.IsSliceOf sl vl vu .none) (pl : IsPart vl lo) (pu : IsPart vu hi)
    (hw : ¬ (sIx items.size 0 lo = 0 ∧ sIx items.size items.size hi = items.size))
    (h : Q (.ref s.heap.objs.size) { s with heap := s.heap.push { cls := .type "tuple", data := .seq ((items.toList.drop (sIx items.size 0 lo)).take (sIx items.size items.size hi - sIx items.size 0 lo)).toArray } })
    (hsz : items.size ≤ sizeLine) : wpAny (model prog w) A (getItem (.ref t) (.ref sl)) Q E s := by
  have htake : sizeOk (.seq ((items.toList.drop (sIx items.size 0 lo)).take (sIx items.size items.size hi - sIx items.size 0 lo)).toArray) := by
    show ((items.toList.drop (sIx items.size 0 lo)).take (sIx items.size items.size hi - sIx items.size 0 lo)).toArray.size ≤ sizeLine
    rw [List.size_toArray, List.length_take, List.length_drop, Array.length_toList]
    omega
  have hj : sIx items.size items.size hi ≤ items.size := sIx_le _ _ (Nat.le_refl _) hi
  obtain ⟨os, hos, hcs, hds⟩ := id hs
  have hTs : s.TypeIs (.ref sl) "slice" := ⟨os, hos, hcs⟩
  unfold getItem
  try with_reducible refine wpAny_holding ?_
  first | refine wpAny_bind (wpAny_pure ?_) | skip
  refine wpAny_bind (wpAny_sequenceKey ht.typeIs (by decide) ?_)
  refine wpAny_bind (wpAny_callSpecial?_slot (name := Str.ofString "__getitem__") ht.typeIs PyProof.Rows.slot_tuple_getitem
    (wpAny_call_entry PyProof.Rows.slot_tuple_getitem ht.typeIs entry_tuple_getitem ?_ (args_tuple_getitem _ _)))
  show wpAny _ _ (Builtin.Tuple.tupleItemsOf (.ref t) >>= _) _ _ s
  refine wpAny_bind (tupleItemsOf_ ht ?_)
  refine wpAny_bind (wpAny_typeOf hTs ?_)
  rw [if_pos (by decide)]
  refine wpAny_bind (sliceApplied_gen hs pl pu ?_)
  have hno : ¬ ((((sIx items.size 0 lo : Nat) : Int) == 0 && (1 : Int) == 1 && (sIx items.size items.size hi - sIx items.size 0 lo) == items.size) = true) := by
    intro q
    rw [Bool.and_eq_true, Bool.and_eq_true] at q
    have q1 : ((sIx items.size 0 lo : Nat) : Int) = 0 := eq_of_beq q.1.1
    have q2 : sIx items.size items.size hi - sIx items.size 0 lo = items.size := eq_of_beq q.2
    exact hw ⟨by omega, by omega⟩
  show wpAny _ _ (if (((sIx items.size 0 lo : Nat) : Int) == 0 && (1 : Int) == 1 && (sIx items.size items.size hi - sIx items.size 0 lo) == items.size) = true then _ else _) _ _ s
  rw [if_neg hno, pick_gen]
  first
    | exact wpAny_bind (m := Builtin.Tuple.tupleExact _) (wpAny_newObj_type (wpAny_pure ⟨_, rfl, wpAny_pure h⟩) htake)
    | exact wpAny_bind (m := Builtin.Tuple.tupleExact _) (wpAny_newObj_type (wpAny_bind (wpAny_pure (wpAny_pure ⟨_, rfl, wpAny_pure h⟩))) htake)
    | exact wpAny_bind (wpAny_bind (m := Builtin.Tuple.tupleExact _) (wpAny_newObj_type (wpAny_pure (wpAny_pure ⟨_, rfl, wpAny_pure h⟩)) htake))
    | exact wpAny_bind (wpAny_bind (m := Builtin.Tuple.tupleExact _) (wpAny_newObj_type (wpAny_pure ⟨_, rfl, wpAny_pure h⟩) htake))
end
end HT

namespace L2
open PySem PySem.Spec PyProof.Rows

/-! ### the parts of a slice -/
abbrev TO := St → Hp → (Option Int → Hp → Prop) → Prop
/-- a slice's part (left out, or an int) -/
def PO (X : Cx) (e : Option Expr) (t : TO) : Prop :=
  ∀ (pins : List (Addr × Obj)) (s : Shared) (σ : St) (H : Hp) (Q : Option Int → Hp → Prop), Inv X pins σ H s → t σ H Q →
    wpAny (model X.prog X.w) X.A (evalPart e X.env) (fun u s' => ∃ o H', Inv X pins σ H' s' ∧ IsPart u o ∧ Q o H') X.xe s
def tNoPart : TO := fun _ H Q => Q none H
def tPart (t : TE) : TO := fun σ H Q => t σ H fun x H1 => ∃ i, x = .int i ∧ Q (some i) H1

theorem intsAre_of {ns : List Int} : ∀ {us : List Value}, Vals (ns.map V.int) us → IntsAre us ns := by
  induction ns with
  | nil => intro us r; rw [List.map_nil] at r; cases r; exact .nil
  | cons n ns ih =>
    intro us r
    rw [List.map_cons] at r
    cases r with
    | cons r1 r2 =>
      obtain ⟨t, e⟩ := r1
      subst e
      exact .cons n t (ih r2)

section
variable {X : Cx} {e : Expr} {te : TE} {lo hi : Option Expr} {tl th : TO} {pos p2 : Pos}

theorem po_none : PO X none tNoPart := by
  intro pins s σ H Q I h
  rw [evalPart_none]
  exact wpAny_pure ⟨none, H, I, .none, h⟩
theorem po_some (h : PE X e te) : PO X (some e) (tPart te) := by
  intro pins s σ H Q I hw
  rw [evalPart_some]
  refine thn (h pins s σ H _ I hw) fun u s1 ⟨x, H1, I1, r1, q1⟩ => ?_
  obtain ⟨i, rfl, q⟩ := q1
  obtain ⟨t, rfl⟩ := r1
  exact ⟨some i, H1, I1, .int i t, q⟩

/-- what a slice of a value is, by values: the slice object stands at sl -/
def SlR (X : Cx) (r : V → Option Int → Option Int → Hp → VK → Prop) : Prop :=
  ∀ (pins : List (Addr × Obj)) (s : Shared) (σ : St) (H : Hp) (x : V) (v vl vu : Value) (lo hi : Option Int) (sl : Addr) (Q : VK), Inv X pins σ H s → RelV x v → s.heap.IsSliceOf sl vl vu .none → IsPart vl lo → IsPart vu hi → r x lo hi H Q →
    ∃ T id, typeLookup (.type T) "__getitem__" = pure (some (.builtin id)) ∧ s.TypeIs v T ∧ wpAny (model X.prog X.w) X.A (getItem v (.ref sl)) (EP X pins σ Q) X.xe s
theorem SlR.or {r r' : V → Option Int → Option Int → Hp → VK → Prop} (h : SlR X r) (h' : SlR X r') : SlR X (fun x lo hi H Q => r x lo hi H Q ∨ r' x lo hi H Q) := by
  intro pins s σ H x v vl vu lo hi sl Q I rx hs pl pu q
  rcases q with q | q
  · exact h pins s σ H x v vl vu lo hi sl Q I rx hs pl pu q
  · exact h' pins s σ H x v vl vu lo hi sl Q I rx hs pl pu q
def tSl (r : V → Option Int → Option Int → Hp → VK → Prop) (te : TE) (tl th : TO) : TE := fun σ H Q => te σ H fun x H1 => tl σ H1 fun l H2 => th σ H2 fun u H3 => r x l u H3 Q
/-- a[lo:hi], any a -/
theorem pe_slice {r : V → Option Int → Option Int → Hp → VK → Prop} (hr : SlR X r) (he : PE X e te) (hl : PO X lo tl) (hu : PO X hi th) : PE X (.Subscript e (.Slice lo hi none p2) pos) (tSl r te tl th) := by
  intro pins s σ H Q I h
  refine Subscript_ (thn (he pins s σ H _ I h) fun v s1 ⟨x, H1, I1, r1, q1⟩ => ?_)
  refine wpAny_Slice (thn (hl pins s1 σ H1 _ I1 q1) fun vl s2 ⟨l, H2, I2, pl, q2⟩ => thn (hu pins s2 σ H2 _ I2 q2) fun vu s3 ⟨u, H3, I3, pu, q3⟩ => ?_)
  rw [evalPart_none]
  refine wpAny_pure ?_
  have I4 : Inv X pins σ H3 { s3 with heap := s3.heap.push { cls := .type "slice", data := .fields #[vl, vu, .none] } } := I3.kept (t' := s3.toks) fun b ob q => Heap.get?_push_of_some _ q
  obtain ⟨T, id, hT, ht, hg⟩ := hr pins { s3 with heap := s3.heap.push { cls := .type "slice", data := .fields #[vl, vu, .none] } } σ H3 x v vl vu l u s3.heap.objs.size Q I4 r1 (Heap.IsSliceOf.new ..) pl pu q3
  show wpAny (model X.prog X.w) X.A (subscriptTail e (.Slice lo hi none p2) v (.ref s3.heap.objs.size)) (EP X pins σ Q) X.xe { s3 with heap := s3.heap.push { cls := .type "slice", data := .fields #[vl, vu, .none] } }
  exact tail_any (ops := [.ref s3.heap.objs.size, v]) ht hT hg (by with_unfolding_all rfl)

/-- the items of xs[lo:hi] -/
def cutV (xs : List V) (lo hi : Option Int) : List V := (xs.drop (HT.sIx xs.length 0 lo)).take (HT.sIx xs.length xs.length hi - HT.sIx xs.length 0 lo)
theorem cutV_length (xs : List V) (lo hi : Option Int) : (cutV xs lo hi).length ≤ xs.length := by
  unfold cutV
  rw [List.length_take, List.length_drop]
  omega
/-- t[lo:hi], not the whole of it (the whole would be t itself) -/
def rSlT (K : PySem.W.Frag) : V → Option Int → Option Int → Hp → VK → Prop := fun x lo hi H Q => ∃ a xs, x = .ref a ∧ SqT K H a xs ∧
  ¬ (HT.sIx xs.length 0 lo = 0 ∧ HT.sIx xs.length xs.length hi = xs.length) ∧ ∀ p, H p = none → Q (.ref p) (upd H p (.tup (cutV xs lo hi)))
theorem sl_tup : SlR X (rSlT X.K) := by
  intro pins s σ H x v vl vu lo hi sl Q I rx hs pl pu h
  obtain ⟨a, xs, rfl, hx, hw, q⟩ := h
  cases rx
  obtain ⟨its, r, ht, hz⟩ := I.tuple hx
  have hlen : its.toArray.size = xs.length := by rw [List.size_toArray]; exact r.length.symm
  refine ⟨"tuple", _, PyProof.Rows.slot_tuple_getitem.lookup, ht.typeIs, ?_⟩
  refine HT.getItem_tuple_cut ht hs pl pu (by rw [hlen]; exact hw) ?_ (by rw [hlen]; exact hz)
  rw [hlen]
  refine ⟨.ref s.heap.objs.size, _, I.laid (t' := s.toks) (o := .tup (cutV xs lo hi)) (fun b ob q => Heap.get?_push_of_some _ q) (Nat.le_refl _) ?_, rfl, q _ (I.hok.fresh (Nat.le_refl _))⟩
  exact ⟨Nat.le_trans (cutV_length xs lo hi) hz, _, (r.drop (HT.sIx xs.length 0 lo)).take (HT.sIx xs.length xs.length hi - HT.sIx xs.length 0 lo), IsTupD.new _ _⟩

/-! ### t < u, t + u -/
def rLtT (K : PySem.W.Frag) : R2 := fun x y H Q => ∃ a b ns ms, x = .ref a ∧ y = .ref b ∧ SqT K H a (ns.map V.int) ∧ SqT K H b (ms.map V.int) ∧ Q (.bl (HT.lexLt ns ms)) H
theorem op_ltT (hu : X.A.units < cLine) : OpR X (compareOp .Lt) (rLtT X.K) := by
  intro pins s σ H x y v u Q I rx ry h
  obtain ⟨a, b, ns, ms, rfl, rfl, ha, hb, q⟩ := h
  cases rx
  cases ry
  obtain ⟨its, r1, p1, _⟩ := I.tuple ha
  obtain ⟨its2, r2, p2, _⟩ := I.tuple hb
  have i1 : IntsAre its.toArray.toList ns := intsAre_of r1
  have i2 : IntsAre its2.toArray.toList ms := intsAre_of r2
  exact HT.lt_tupInts p1 p2 i1 i2 hu ⟨.bl (HT.lexLt ns ms), H, I, rfl, q⟩
/-- t + u, t not empty: u empty gives t itself -/
def rCatT (K : PySem.W.Frag) : R2 := fun x y H Q => ∃ a b xs ys, x = .ref a ∧ y = .ref b ∧ SqT K H a xs ∧ SqT K H b ys ∧ xs ≠ [] ∧ xs.length + ys.length ≤ sizeLine ∧
  (ys = [] → Q (.ref a) H) ∧ (ys ≠ [] → ∀ p, H p = none → Q (.ref p) (upd H p (.tup (xs ++ ys))))
theorem Vals.nil_iff {xs : List V} {us : List Value} (r : Vals xs us) : us = [] ↔ xs = [] := by
  cases r with
  | nil => simp
  | cons _ _ => simp
theorem op_catT : OpR X (binaryOp .Add) (rCatT X.K) := by
  intro pins s σ H x y v u Q I rx ry h
  obtain ⟨a, b, xs, ys, rfl, rfl, ha, hb, hx, hz, q1, q2⟩ := h
  cases rx
  cases ry
  obtain ⟨its, r1, p1, _⟩ := I.tuple ha
  obtain ⟨its2, r2, p2, _⟩ := I.tuple hb
  refine HT.cat_tup p1 p2 (fun z => hx (r1.nil_iff.mp z)) (fun z => ⟨.ref a, H, I, rfl, q1 (r2.nil_iff.mp z)⟩) (fun z => ?_) (by rw [← r1.length, ← r2.length]; exact hz)
  refine ⟨.ref s.heap.objs.size, _, I.laid (t' := s.toks) (o := .tup (xs ++ ys)) (fun b ob q => Heap.get?_push_of_some _ q) (Nat.le_refl _) ?_, rfl, q2 (fun w => z (r2.nil_iff.mpr w)) _ (I.hok.fresh (Nat.le_refl _))⟩
  exact ⟨by rw [List.length_append]; exact hz, _, r1.append r2, IsTupD.new _ _⟩
/-- tuple(t) -/
theorem call_tupleT : CallR X (.type "tuple") (fun xs H Q => ∃ a ys, xs = [.ref a] ∧ SqT X.K H a ys ∧ Q (.ref a) H) := by
  intro pins s σ H xs us Q I r h
  obtain ⟨a, ys, rfl, ha, q⟩ := h
  obtain ⟨u, rfl, ru⟩ := vals1 r
  cases ru
  obtain ⟨its, _, p1, _⟩ := I.tuple ha
  exact call_tuple_same (items := its.toArray) p1 ⟨.ref a, H, I, rfl, q⟩
end
end L2

namespace L2
open PySem PySem.Spec PyProof.Rows

/-! ### places -/
/-- the place that an index of any sign means -/
def ixN (n : Nat) (i : Int) : Option Nat := if 0 ≤ i then (if i < n then some i.toNat else none) else if -(n : Int) ≤ i then some (i + n).toNat else none
def atI {α : Type} (xs : List α) (i : Int) : Option α := (ixN xs.length i).bind fun j => xs[j]?
theorem ixN_seq {n : Nat} {i : Int} {j : Nat} (h : ixN n i = some j) : seqIndex? i n = some j ∧ j < n ∧ -(n : Int) ≤ i ∧ i < n := by
  unfold ixN at h
  by_cases h0 : 0 ≤ i
  · rw [if_pos h0] at h
    by_cases h1 : i < n
    · rw [if_pos h1] at h
      have e : i.toNat = j := Option.some.inj h
      exact ⟨by rw [seqIndex_of h0 h1, e], by omega, by omega, h1⟩
    · rw [if_neg h1] at h; cases h
  · rw [if_neg h0] at h
    by_cases h1 : -(n : Int) ≤ i
    · rw [if_pos h1] at h
      have e : (i + n).toNat = j := Option.some.inj h
      exact ⟨by rw [seqIndex_neg (by omega) h1, e], by omega, h1, by omega⟩
    · rw [if_neg h1] at h; cases h
theorem atI_get {α : Type} {xs : List α} {i : Int} {v : α} (h : atI xs i = some v) : ∃ j, seqIndex? i xs.length = some j ∧ xs[j]? = some v ∧ j < xs.length ∧ -(xs.length : Int) ≤ i ∧ i < xs.length := by
  unfold atI at h
  cases e : ixN xs.length i with
  | none => rw [e] at h; cases h
  | some j =>
    rw [e] at h
    obtain ⟨h1, h2, h3, h4⟩ := ixN_seq e
    exact ⟨j, h1, h, h2, h3, h4⟩
theorem atI_nat {α : Type} {xs : List α} {j : Nat} {v : α} (h : xs[j]? = some v) : atI xs (j : Int) = some v := by
  have hj : j < xs.length := (List.getElem?_eq_some_iff.mp h).1
  have e : ixN xs.length (j : Int) = some j := by
    unfold ixN
    rw [if_pos (by omega), if_pos (by omega)]; simp
  unfold atI; rw [e]; exact h
theorem atI_last {α : Type} (xs : List α) (v : α) : atI (xs ++ [v]) (-1) = some v := by
  have hl : (xs ++ [v]).length = xs.length + 1 := by simp
  have e : ixN (xs ++ [v]).length (-1) = some xs.length := by
    unfold ixN
    rw [hl, if_neg (by decide), if_pos (by omega)]
    congr 1
    omega
  unfold atI
  rw [e]
  show (xs ++ [v])[xs.length]? = some v
  simp

/-! ### what may be subscripted -/
/-- what stands as an index of a plain subscript -/
def PlainIx (b : Expr) : Prop := ∀ o i, subscripted b false o i = operate [o, i] (getItem o i)
/-- a subscript by values -/
def IxR (X : Cx) (r : R2) : Prop :=
  ∀ (value slice : Expr) (pins : List (Addr × Obj)) (s : Shared) (σ : St) (H : Hp) (x y : V) (v u : Value) (Q : VK), Inv X pins σ H s → RelV x v → RelV y u → r x y H Q →
    subscripted slice false v u = operate [v, u] (getItem v u) → wpAny (model X.prog X.w) X.A (subscriptTail value slice v u) (EP X pins σ Q) X.xe s
/-- a call of a builtin's method by values: the receiver, the arguments -/
def MtR (X : Cx) (id : String) (r : V → List V → Hp → VK → Prop) : Prop :=
  ∀ (pins : List (Addr × Obj)) (s : Shared) (σ : St) (H : Hp) (x : V) (xs : List V) (v : Value) (us : List Value) (Q : VK), Inv X pins σ H s → RelV x v → Vals xs us → r x xs H Q →
    wpAny (model X.prog X.w) X.A (call (.builtin id) (v :: us)) (EP X pins σ Q) X.xe s
section
variable {X : Cx} {a b : Expr} {ta tb : TE} {pos : Pos}
theorem IxR.or {r r' : R2} (h : IxR X r) (h' : IxR X r') : IxR X (fun x y H Q => r x y H Q ∨ r' x y H Q) := by
  intro value slice pins s σ H x y v u Q I rx ry q hs
  rcases q with q | q
  · exact h value slice pins s σ H x y v u Q I rx ry q hs
  · exact h' value slice pins s σ H x y v u Q I rx ry q hs
theorem MtR.or {id : String} {r r' : V → List V → Hp → VK → Prop} (h : MtR X id r) (h' : MtR X id r') : MtR X id (fun x xs H Q => r x xs H Q ∨ r' x xs H Q) := by
  intro pins s σ H x xs v us Q I rx rs q
  rcases q with q | q
  · exact h pins s σ H x xs v us Q I rx rs q
  · exact h' pins s σ H x xs v us Q I rx rs q
/-- a[b] -/
theorem pe_ix {r : R2} (hr : IxR X r) (ha : PE X a ta) (hb : PE X b tb) (hs : PlainIx b) : PE X (.Subscript a b pos) (tOp r ta tb) := by
  intro pins s σ H Q I h
  exact Subscript_ (binT ha hb I h fun v u s2 x y H2 I2 rx ry q => hr a b pins s2 σ H2 x y v u Q I2 rx ry q (hs _ _))

def rIxL (K : PySem.W.Frag) : R2 := fun x y H Q => ∃ p xs i v, x = .ref p ∧ y = .int i ∧ SqL K H p xs ∧ atI xs i = some v ∧ Q v H
def rIxT (K : PySem.W.Frag) : R2 := fun x y H Q => ∃ p xs i v, x = .ref p ∧ y = .int i ∧ SqT K H p xs ∧ atI xs i = some v ∧ Q v H
def rIxS : R2 := fun x y H Q => ∃ z i c, x = .str z ∧ y = .int i ∧ z.length ≤ sizeLine ∧ atI z.cps.toList i = some c ∧ Q (.str ⟨#[c]⟩) H
theorem ix_list : IxR X (rIxL X.K) := by
  intro value slice pins s σ H x y v u Q I rx ry h hs
  obtain ⟨p, xs, i, z, rfl, rfl, hq, he, q⟩ := h
  cases rx
  obtain ⟨t, rfl⟩ := ry
  obtain ⟨its, r, pl, hz⟩ := I.list hq
  obtain ⟨j, h1, h2, h3, h4, h5⟩ := atI_get he
  obtain ⟨w, ew, rw'⟩ := r.get h2
  have hl := r.length
  have hn := line63
  have fin : EP X pins σ Q w s := ⟨z, H, I, rw', q⟩
  by_cases h0 : 0 ≤ i
  · have hj : i.toNat = j := by
      rw [seqIndex_of h0 h5] at h1
      exact Option.some.inj h1
    exact item_listR pl.isList h0 (by omega) (by rw [hj]; simpa using ew) fin hs
  · have hj : (i + (its.toArray.size : Int)).toNat = j := by
      rw [seqIndex_neg (by omega) h4] at h1
      rw [List.size_toArray, ← hl]
      exact Option.some.inj h1
    exact subscriptTail_builtinR (x := w) pl.isList.typeIs slot_list_getitem.lookup
      (wpAny_getItem_list_neg (Q := fun r s' => r = w ∧ EP X pins σ Q r s') pl.isList (by omega) (by rw [List.size_toArray] <;> omega) (by omega) (by rw [hj]; simpa using ew) ⟨rfl, fin⟩) hs
theorem ix_tup : IxR X (rIxT X.K) := by
  intro value slice pins s σ H x y v u Q I rx ry h hs
  obtain ⟨p, xs, i, z, rfl, rfl, hq, he, q⟩ := h
  cases rx
  obtain ⟨t, rfl⟩ := ry
  obtain ⟨its, r, pl, hz⟩ := I.tuple hq
  obtain ⟨j, h1, h2, h3, h4, h5⟩ := atI_get he
  obtain ⟨w, ew, rw'⟩ := r.get h2
  have hl := r.length
  have hn := line63
  have fin : EP X pins σ Q w s := ⟨z, H, I, rw', q⟩
  exact subscriptTail_builtinR (x := w) pl.typeIs slot_tuple_getitem.lookup
    (getItem_tuple (j := j) (Q := fun r s' => r = w ∧ EP X pins σ Q r s') pl (by omega) (by omega) (by rw [List.size_toArray, ← hl]; exact h1) (by simpa using ew) ⟨rfl, fin⟩) hs
theorem ix_str : IxR X rIxS := by
  intro value slice pins s σ H x y v u Q I rx ry h hs
  obtain ⟨z, i, c, rfl, rfl, hz, he, q⟩ := h
  obtain ⟨t, rfl⟩ := rx
  obtain ⟨t', rfl⟩ := ry
  obtain ⟨j, h1, h2, h3, h4, h5⟩ := atI_get he
  have hl : z.cps.toList.length = z.length := by simp [Str.length]
  rw [hl] at h1 h4 h5
  have hn := line63
  exact tail_any (typeIs_str s z t) slot_str_getitem.lookup (getItem_str (c := c) (by
    have e1 : decide (i < -(2 ^ 63 : Int)) = false := decide_eq_false (by omega)
    have e2 : decide (i ≥ 2 ^ 63) = false := decide_eq_false (by omega)
    rw [e1, e2, Bool.or_false]) (by rw [h1]; simpa using h2) ⟨.str ⟨#[c]⟩, H, I.tok _, ⟨_, rfl⟩, q⟩) hs
/-- list, tuple or str -/
def rIx (K : PySem.W.Frag) : R2 := fun x y H Q => rIxL K x y H Q ∨ rIxT K x y H Q ∨ rIxS x y H Q
theorem ix_seq : IxR X (rIx X.K) := ix_list.or (ix_tup.or ix_str)

/-! ### xs[i] = v, any sign -/
/-- the list's object behind a store -/
theorem mapSeq_set (its : List Value) (n j : Nat) (u : Value) : Obj.mapSeq (·.setIfInBounds j u) { cls := .type "list", data := .seq its.toArray n } = { cls := .type "list", data := .seq (its.set j u).toArray n } := by
  simp [Obj.mapSeq]
theorem Inv.lst {pins : List (Addr × Obj)} {σ : St} {H : Hp} {s : Shared} {p : Addr} {xs : List V} (I : Inv X pins σ H s) (h : H p = some (.lst xs)) :
    ∃ (its : List Value) (n : Nat), Vals xs its ∧ s.heap.get? p = some { cls := .type "list", data := .seq its.toArray n } ∧ xs.length ≤ sizeLine := by
  obtain ⟨z, its, n, r, e⟩ := I.hok p _ h
  exact ⟨its, n, r, e, z⟩
/-- the list at p is written by an update of its object -/
theorem Inv.lstUpd {pins : List (Addr × Obj)} {σ : St} {H : Hp} {s : Shared} {p : Addr} {xs ys : List V} {its its' : List Value} {n n' : Nat} {f : Obj → Obj} (I : Inv X pins σ H s) (h : H p = some (.lst xs))
    (ho : s.heap.get? p = some { cls := .type "list", data := .seq its.toArray n }) (hf : f { cls := .type "list", data := .seq its.toArray n } = { cls := .type "list", data := .seq its'.toArray n' }) (r : Vals ys its') (hz : ys.length ≤ sizeLine) (t : Nat) :
    Inv X pins σ (upd H p (.lst ys)) { s with heap := s.heap.update p f, toks := t } := by
  have e : (s.heap.update p f).get? p = some { cls := .type "list", data := .seq its'.toArray n' } := by
    rw [Heap.get?_update_self f ho (by rw [hf] <;> rfl), hf]
  refine I.write (x := p) (e := p) (by rw [h]; trivial) (.inl rfl) (fun b u hb q => (Heap.get?_update_other _ _ (Ne.symm hb)).trans q) ⟨_, e⟩ ?_
  exact ⟨hz, its', n', r, e⟩
def rSetL : V → V → V → Hp → (Hp → Prop) → Prop := fun o i v H Q => ∃ p xs k j, o = .ref p ∧ i = .int k ∧ H p = some (.lst xs) ∧ ixN xs.length k = some j ∧ Q (upd H p (.lst (xs.set j v)))
theorem set_list : PSet X rSetL := by
  intro pins s σ H o i v ov iv u Q I ro ri rv h
  obtain ⟨p, xs, k, j, rfl, rfl, hp, hj, q⟩ := h
  cases ro
  obtain ⟨t, rfl⟩ := ri
  obtain ⟨its, n, r, ho, hz⟩ := I.lst hp
  obtain ⟨h1, h2, h3, h4⟩ := ixN_seq hj
  have hl := r.length
  have hn := line63
  have I' : Inv X pins σ (upd H p (.lst (xs.set j v))) { s with heap := s.heap.update p (Obj.mapSeq (·.setIfInBounds j u)) } :=
    I.lstUpd hp ho (mapSeq_set its n j u) (r.set rv j) (by rw [List.length_set]; exact hz) s.toks
  by_cases h0 : 0 ≤ k
  · have hk : k.toNat = j := by
      rw [seqIndex_of h0 h4] at h1
      exact Option.some.inj h1
    exact PySem.W.ki_setAt ho h0 (by omega) (by rw [List.size_toArray, ← hl]; exact h4) (by rw [hk]; exact ⟨_, I', q⟩)
  · have hk : (k + (its.toArray.size : Int)).toNat = j := by
      rw [seqIndex_neg (by omega) h3] at h1
      rw [List.size_toArray, ← hl]
      exact Option.some.inj h1
    exact PySem.W.ki_setBack ho (by omega) (by rw [List.size_toArray, ← hl]; exact h3) (by omega) (by rw [hk]; exact ⟨_, I', q⟩)

/-! ### slices -/
theorem slice_bounds (lo hi : Option Int) (n : Nat) : (sliceBounds lo hi none n).1 = ((HT.sIx n 0 lo : Nat) : Int) ∧ (sliceBounds lo hi none n).2.1 = ((HT.sIx n n hi : Nat) : Int) ∧ (sliceBounds lo hi none n).2.2 = 1 := by
  refine ⟨?_, ?_, rfl⟩
  · cases lo with
    | none => simp [sliceBounds, HT.sIx]
    | some i =>
      simp only [sliceBounds, HT.sIx, Option.getD_none, show (1 : Int) > 0 by decide, if_true]
      by_cases h : i < 0
      · simp only [h, if_true] <;> omega
      · simp only [h, if_false] <;> omega
  · cases hi with
    | none => simp [sliceBounds, HT.sIx]
    | some i =>
      simp only [sliceBounds, HT.sIx, Option.getD_none, show (1 : Int) > 0 by decide, if_true]
      by_cases h : i < 0
      · simp only [h, if_true] <;> omega
      · simp only [h, if_false] <;> omega
theorem slicePick_cut (its : List Value) (lo hi : Option Int) : slicePick its.toArray lo hi none = ((its.drop (HT.sIx its.length 0 lo)).take (HT.sIx its.length its.length hi - HT.sIx its.length 0 lo)).toArray := by
  obtain ⟨h1, h2, h3⟩ := slice_bounds lo hi its.toArray.size
  unfold slicePick
  rw [h1, h2, h3]
  simp only [sliceRange_one, pick_run, List.size_toArray] <;> rfl
/-- xs[lo:hi] of a list: a new list -/
def rSlL (K : PySem.W.Frag) : V → Option Int → Option Int → Hp → VK → Prop := fun x lo hi H Q => ∃ a xs, x = .ref a ∧ SqL K H a xs ∧ ∀ p, H p = none → Q (.ref p) (upd H p (.lst (cutV xs lo hi)))
theorem sl_list : SlR X (rSlL X.K) := by
  intro pins s σ H x v vl vu lo hi sl Q I rx hs pl pu h
  obtain ⟨a, xs, rfl, hx, q⟩ := h
  cases rx
  obtain ⟨its, r, ht, hz⟩ := I.list hx
  have hlen := r.length
  refine ⟨"list", _, slot_list_getitem.lookup, ht.isList.typeIs, ?_⟩
  refine wpAny_getItem_list_slice ht.isList hs pl pu .none (by simp) ?_ (by rw [List.size_toArray] <;> omega)
  rw [slicePick_cut, ← hlen]
  refine ⟨.ref s.heap.objs.size, _, I.laid (t' := s.toks) (o := .lst (cutV xs lo hi)) (fun b ob q => Heap.get?_push_of_some _ q) (Nat.le_refl _) ?_, rfl, q _ (I.hok.fresh (Nat.le_refl _))⟩
  exact ⟨Nat.le_trans (cutV_length xs lo hi) hz, _, 0, (r.drop (HT.sIx xs.length 0 lo)).take (HT.sIx xs.length xs.length hi - HT.sIx xs.length 0 lo), Heap.get?_push_size _ rfl⟩

/-! ### in, not in: flat items -/
def flatV : V → Bool
  | .non => true
  | .bl _ => true
  | .int _ => true
  | .str _ => true
  | _ => false
/-- == of flat values -/
def eqV : V → V → Bool
  | .non, .non => true
  | .bl a, .bl b => a == b
  | .bl a, .int b => (if a then 1 else 0) == b
  | .int a, .bl b => a == (if b then 1 else 0)
  | .int a, .int b => a == b
  | .str a, .str b => a == b
  | _, _ => false
theorem eqAt_V {A : Around} {s : Shared} {y x : V} {u v : Value} (ry : RelV y u) (rx : RelV x v) (fy : flatV y = true) (fx : flatV x = true) : SeqAt.EqAt A s u v (eqV y x) := by
  cases y with
  | non =>
    cases ry
    cases x with
    | non => cases rx; exact SeqAt.EqAt.same _
    | bl b => cases rx; exact SeqAt.EqAt.none_bool b
    | int b => obtain ⟨t, rfl⟩ := rx; exact SeqAt.EqAt.none_int b t
    | str b => obtain ⟨t, rfl⟩ := rx; exact SeqAt.EqAt.none_str b t
    | _ => exact absurd (show false = true from fx) Bool.false_ne_true
  | bl a =>
    cases ry
    cases x with
    | non => cases rx; exact SeqAt.EqAt.bool_none a
    | bl b => cases rx; exact SeqAt.EqAt.bool_bool a b
    | int b => obtain ⟨t, rfl⟩ := rx; exact SeqAt.EqAt.bool_int a b t
    | str b => obtain ⟨t, rfl⟩ := rx; exact SeqAt.EqAt.bool_str a b t
    | _ => exact absurd (show false = true from fx) Bool.false_ne_true
  | int a =>
    obtain ⟨t', rfl⟩ := ry
    cases x with
    | non => cases rx; exact SeqAt.EqAt.int_none a t'
    | bl b => cases rx; exact SeqAt.EqAt.int_bool a t' b
    | int b => obtain ⟨t, rfl⟩ := rx; exact SeqAt.EqAt.int_int a t' b t
    | str b => obtain ⟨t, rfl⟩ := rx; exact SeqAt.EqAt.int_str a t' b t
    | _ => exact absurd (show false = true from fx) Bool.false_ne_true
  | str a =>
    obtain ⟨t', rfl⟩ := ry
    cases x with
    | non => cases rx; exact SeqAt.EqAt.str_none a t'
    | bl b => cases rx; exact SeqAt.EqAt.str_bool a t' b
    | int b => obtain ⟨t, rfl⟩ := rx; exact SeqAt.EqAt.str_int a t' b t
    | str b => obtain ⟨t, rfl⟩ := rx; exact SeqAt.EqAt.str_str a t' b t
    | _ => exact absurd (show false = true from fx) Bool.false_ne_true
  | _ => exact absurd (show false = true from fy) Bool.false_ne_true
/-- the items' answers, read off the values (a value's own answer does not lean on its token) -/
def eqU (x : V) (u : Value) : Bool := match u with
  | .none => eqV .non x
  | .bool b => eqV (.bl b) x
  | .int i _ => eqV (.int i) x
  | .str z _ => eqV (.str z) x
  | _ => false
theorem eqU_of {x y : V} {u : Value} (r : RelV y u) (f : flatV y = true) : eqU x u = eqV y x := by
  cases y with
  | non => cases r; rfl
  | bl b => cases r; rfl
  | int i => obtain ⟨t, rfl⟩ := r; rfl
  | str z => obtain ⟨t, rfl⟩ := r; rfl
  | _ => exact absurd (show false = true from f) Bool.false_ne_true
theorem any_eqU {x : V} : ∀ {xs : List V} {us : List Value}, Vals xs us → xs.all flatV = true → us.any (eqU x) = xs.any fun y => eqV y x
  | _, _, .nil, _ => rfl
  | y :: xs, u :: us, .cons r t, f => by
    rw [List.all_cons, Bool.and_eq_true] at f
    rw [List.any_cons, List.any_cons, eqU_of r f.1, any_eqU t f.2]
theorem mem_eqAt {A : Around} {s : Shared} {x : V} {v : Value} (rx : RelV x v) (fx : flatV x = true) : ∀ {xs : List V} {us : List Value}, Vals xs us → xs.all flatV = true → ∀ u ∈ us, SeqAt.EqAt A s u v (eqU x u)
  | _, _, .nil, _ => fun u hu => by cases hu
  | y :: xs, u :: us, .cons r t, f => fun u' hu => by
    rw [List.all_cons, Bool.and_eq_true] at f
    rcases List.mem_cons.mp hu with rfl | hu
    · rw [eqU_of r f.1]; exact eqAt_V r rx f.1 fx
    · exact mem_eqAt rx fx t f.2 u' hu
def inV (x : V) (xs : List V) : Bool := xs.any fun y => eqV y x
/-- x in a list or tuple of flat items -/
def rIn (K : PySem.W.Frag) (neg : Bool) : R2 := fun x y H Q => ∃ p xs, y = .ref p ∧ (SqL K H p xs ∨ SqT K H p xs) ∧ flatV x = true ∧ xs.all flatV = true ∧ Q (.bl (if neg then !inV x xs else inV x xs)) H
theorem op_in_seq : OpR X (compareOp .In) (rIn X.K false) := by
  intro pins s σ H x y v u Q I rx ry h
  obtain ⟨p, xs, rfl, hq, fx, fs, q⟩ := h
  cases ry
  rcases hq with hq | hq
  · obtain ⟨its, r, pl, hz⟩ := I.list hq
    refine SeqAt.in_listAt (eqU x) pl.isList (fun w hw => mem_eqAt rx fx r fs w (by simpa using hw)) ⟨.bl _, H, I, rfl, ?_⟩
    rw [show its.toArray.any (eqU x) = its.any (eqU x) by simp, any_eqU r fs]
    exact q
  · obtain ⟨its, r, pl, hz⟩ := I.tuple hq
    refine SeqAt.in_tupleAt (eqU x) pl (fun w hw => mem_eqAt rx fx r fs w (by simpa using hw)) ⟨.bl _, H, I, rfl, ?_⟩
    rw [show its.toArray.any (eqU x) = its.any (eqU x) by simp, any_eqU r fs]
    exact q
theorem op_notIn_seq : OpR X (compareOp .NotIn) (rIn X.K true) := by
  intro pins s σ H x y v u Q I rx ry h
  obtain ⟨p, xs, rfl, hq, fx, fs, q⟩ := h
  cases ry
  rcases hq with hq | hq
  · obtain ⟨its, r, pl, hz⟩ := I.list hq
    refine SeqAt.notIn_listAt (eqU x) pl.isList (fun w hw => mem_eqAt rx fx r fs w (by simpa using hw)) ⟨.bl _, H, I, rfl, ?_⟩
    rw [show its.toArray.any (eqU x) = its.any (eqU x) by simp, any_eqU r fs]
    exact q
  · obtain ⟨its, r, pl, hz⟩ := I.tuple hq
    refine SeqAt.notIn_tupleAt (eqU x) pl (fun w hw => mem_eqAt rx fx r fs w (by simpa using hw)) ⟨.bl _, H, I, rfl, ?_⟩
    rw [show its.toArray.any (eqU x) = its.any (eqU x) by simp, any_eqU r fs]
    exact q
theorem op_notIn_str : OpR X (compareOp .NotIn) (fun x y H Q => ∃ i j, x = .str i ∧ y = .str j ∧ Q (.bl (!(!(Builtin.Str.occurrences j i 0 j.length 1).isEmpty))) H) := by
  intro pins s σ H x y v u Q I rx ry h
  obtain ⟨i, j, rfl, rfl, q⟩ := h
  obtain ⟨t, rfl⟩ := rx
  obtain ⟨t', rfl⟩ := ry
  exact notIn_str ⟨.bl _, H, I, rfl, q⟩

/-! ### len, list(x), tuple(x) of any list or tuple that is read -/
theorem call_len_seq : CallR X (.builtin "len") (fun xs H Q => ∃ p ys, xs = [.ref p] ∧ (SqL X.K H p ys ∨ SqT X.K H p ys) ∧ Q (.int ys.length) H) := by
  intro pins s σ H xs us Q I r h
  obtain ⟨p, ys, rfl, hq, q⟩ := h
  obtain ⟨u, rfl, rx⟩ := vals1 r
  cases rx
  have hn := line63
  rcases hq with hq | hq
  · obtain ⟨its, r', pl, hz⟩ := I.list hq
    have hlen := r'.length
    exact Calls.call_len_list pl.isList (by simp only [List.size_toArray] <;> omega) ⟨.int ys.length, H, I.tok _, ⟨s.toks + 1, by rw [List.size_toArray, hlen]⟩, q⟩
  · obtain ⟨its, r', pl, hz⟩ := I.tuple hq
    have hlen := r'.length
    exact len_tuple pl (by simp only [List.size_toArray] <;> omega) ⟨.int ys.length, H, I.tok _, ⟨s.toks + 1, by rw [List.size_toArray, hlen]⟩, q⟩
theorem call_len_str : CallR X (.builtin "len") (fun xs H Q => ∃ z, xs = [.str z] ∧ z.length ≤ sizeLine ∧ Q (.int z.length) H) := by
  intro pins s σ H xs us Q I r h
  obtain ⟨z, rfl, hz, q⟩ := h
  obtain ⟨u, rfl, t, rfl⟩ := vals1 r
  have hn := line63
  exact len_str (by omega) ⟨.int z.length, H, I.tok _, ⟨_, rfl⟩, q⟩
theorem CallR.or {f : Value} {r r' : List V → Hp → VK → Prop} (h : CallR X f r) (h' : CallR X f r') : CallR X f (fun xs H Q => r xs H Q ∨ r' xs H Q) := by
  intro pins s σ H xs us Q I rs q
  rcases q with q | q
  · exact h pins s σ H xs us Q I rs q
  · exact h' pins s σ H xs us Q I rs q
theorem call_list_of : CallR X (.type "list") (fun xs H Q => ∃ p ys, xs = [.ref p] ∧ (SqL X.K H p ys ∨ SqT X.K H p ys) ∧ ∀ l, H l = none → Q (.ref l) (upd H l (.lst ys))) := by
  intro pins s σ H xs us Q I r h
  obtain ⟨p, ys, rfl, hq, q⟩ := h
  obtain ⟨u, rfl, rx⟩ := vals1 r
  cases rx
  have fin : ∀ (its : List Value), Vals ys its → ys.length ≤ sizeLine → ∀ (h' : Heap) (c' : Nat), (∀ b o', s.heap.get? b = some o' → h'.get? b = some o') →
      h'.get? s.heap.objs.size = some { cls := .type "list", dict := none, data := .seq its.toArray c', slots := #[] } → EP X pins σ Q (.ref s.heap.objs.size) { s with heap := h' } := fun its r' hz h' c' kp e =>
    ⟨.ref s.heap.objs.size, _, I.laid (t' := s.toks) kp (Nat.le_refl _) (show ObjOk X.prog X.w _ h' _ (.lst ys) from ⟨hz, its, c', r', e⟩), rfl, q _ (I.hok.fresh (Nat.le_refl _))⟩
  rcases hq with hq | hq
  · obtain ⟨its, r', pl, hz⟩ := I.list hq
    have hlen := r'.length
    obtain ⟨o, ho, hc, n, hd⟩ := pl.isList
    exact call_list_seq p (.inl rfl) ho hc hd (fun h' c' kp e => fin its r' hz h' c' kp e) (by simp only [List.size_toArray] <;> omega)
  · obtain ⟨its, r', pl, hz⟩ := I.tuple hq
    have hlen := r'.length
    obtain ⟨o, ho, hc, n, hd⟩ := pl
    exact call_list_seq p (.inr rfl) ho hc hd (fun h' c' kp e => fin its r' hz h' c' kp e) (by simp only [List.size_toArray] <;> omega)
theorem call_tuple_of : CallR X (.type "tuple") (fun xs H Q => ∃ p ys, xs = [.ref p] ∧ ((SqL X.K H p ys ∧ ∀ l, H l = none → Q (.ref l) (upd H l (.tup ys))) ∨ (SqT X.K H p ys ∧ Q (.ref p) H))) := by
  intro pins s σ H xs us Q I r h
  obtain ⟨p, ys, rfl, h⟩ := h
  obtain ⟨u, rfl, rx⟩ := vals1 r
  cases rx
  rcases h with ⟨hq, q⟩ | ⟨hq, q⟩
  · obtain ⟨its, r', pl, hz⟩ := I.list hq
    have hlen := r'.length
    refine call_tuple_list pl.isList (fun h' kp => ?_) (by simp only [List.size_toArray] <;> omega)
    have I1 : Inv X pins σ H { s with heap := h' } := I.kept (t' := s.toks) kp
    have I2 : Inv X pins σ (upd H h'.objs.size (.tup ys)) { s with heap := h'.push { cls := .type "tuple", data := .seq its.toArray } } :=
      I1.laid (t' := s.toks) (fun b o e => Heap.get?_push_of_some _ e) (Nat.le_refl _) (show ObjOk X.prog X.w _ _ _ (.tup ys) from ⟨hz, its, r', IsTupD.new _ _⟩)
    exact ⟨.ref h'.objs.size, _, I2, rfl, q _ (I1.hok.fresh (Nat.le_refl _))⟩
  · obtain ⟨its, r', pl, hz⟩ := I.tuple hq
    exact call_tuple_same pl ⟨.ref p, H, I, rfl, q⟩

/-! ### the call of a builtin's method: o.m(..) -/
/-- the value is of that builtin type -/
def tyV (K : PySem.W.Frag) (T : String) (x : V) (H : Hp) : Prop := match x with
  | .str _ => T = "str"
  | .int _ => T = "int"
  | .ref p => (T = "list" ∧ ∃ xs, SqL K H p xs) ∨ (T = "tuple" ∧ ∃ o, K.lookup p = some o ∧ o.cls = .type "tuple" ∧ o.dict = none) ∨
      (T = "dict" ∧ ((∃ kvs, H p = some (.dK kvs)) ∨ ∃ kvs, H p = some (.dT kvs))) ∨ (T = "set" ∧ ∃ S n, H p = some (.set S n))
  | _ => False
theorem tyV_is {pins : List (Addr × Obj)} {σ : St} {H : Hp} {s : Shared} {T : String} {x : V} {v : Value} (I : Inv X pins σ H s) (r : RelV x v) (ty : tyV X.K T x H) :
    s.TypeIs v T ∧ ∀ a, v = .ref a → ∃ ob, s.heap.get? a = some ob ∧ ob.dict = none := by
  cases x with
  | str z =>
    obtain ⟨t, rfl⟩ := r
    cases (show T = "str" from ty)
    exact ⟨typeIs_str s z t, fun _ e => nomatch e⟩
  | int i =>
    obtain ⟨t, rfl⟩ := r
    cases (show T = "int" from ty)
    exact ⟨typeIs_int s i t, fun _ e => nomatch e⟩
  | ref p =>
    cases r
    rcases ty with ⟨rfl, xs, hq⟩ | ⟨rfl, o, hk, hc, hd⟩ | ⟨rfl, hk⟩ | ⟨rfl, S, n, hk⟩
    · obtain ⟨its, _, pl, _⟩ := I.list hq
      refine ⟨pl.isList.typeIs, fun a e => ?_⟩
      cases e
      obtain ⟨o, n, e, c, hd, _⟩ := pl
      exact ⟨o, e, hd⟩
    · refine ⟨⟨o, I.kIn p o hk, hc⟩, fun a e => ?_⟩
      cases e
      exact ⟨o, I.kIn _ o hk, hd⟩
    · have z : ∃ o, s.heap.get? p = some o ∧ o.ExactDict := by
        rcases hk with ⟨kvs, hk⟩ | ⟨kvs, hk⟩
        · obtain ⟨_, _, _, _, o, _, _, e, ex, _⟩ := I.hok p _ hk
          exact ⟨o, e, ex⟩
        · obtain ⟨_, _, _, _, o, _, _, e, ex, _⟩ := I.hok p _ hk
          exact ⟨o, e, ex⟩
      obtain ⟨o, e, ex⟩ := z
      refine ⟨⟨o, e, ex.1⟩, fun a e2 => ?_⟩
      cases e2
      exact ⟨o, e, ex.2.1⟩
    · obtain ⟨o, _, _, _, e, ex, _⟩ := I.hok p _ hk
      refine ⟨⟨o, e, ex.1⟩, fun a e2 => ?_⟩
      cases e2
      exact ⟨o, e, ex.2.1⟩
  | _ => exact False.elim ty
def tBM0 (K : PySem.W.Frag) (T : String) (r : V → List V → Hp → VK → Prop) (to : TE) : TE := fun σ H Q => to σ H fun x H1 => tyV K T x H1 ∧ r x [] H1 Q
def tBM (K : PySem.W.Frag) (T : String) (r : V → List V → Hp → VK → Prop) (to : TE) (t : TA) : TE := fun σ H Q => to σ H fun x H1 => tyV K T x H1 ∧ t σ H1 fun xs H2 => r x xs H2 Q
variable {o e : Expr} {es : List Expr} {to : TE} {t : TA} {name : Str} {apos cpos : Pos} {T id : String} {r : V → List V → Hp → VK → Prop}
theorem pe_bm0 (pa : PlainAttrs T) (slot : Slot T name id) (hty : typeOf (.builtin id) = pure (.type "method_descriptor")) (hm : MtR X id r) (ho : PE X o to)
    (hbase : attributeBase o name X.env (eval o X.env) = eval o X.env := by rfl) (hline : (apos.endLine == cpos.line) = true := by rfl) : PE X (.Call (.Attribute o name apos) [] [] cpos) (tBM0 X.K T r to) := by
  intro pins s σ H Q I h
  refine wpAny_Call_method0_late hbase hline (thn (ho pins s σ H _ I h) fun v s1 ⟨x, H1, I1, r1, ty, q1⟩ => ?_)
  obtain ⟨h1, h2⟩ := tyV_is I1 r1 ty
  exact ⟨T, id, pa, slot, hty, h1, h2, Calls.callWith_builtin rfl (PySem.evalArgs_none (hm pins s1 σ H1 x [] v [] Q I1 r1 .nil q1))⟩
theorem pe_bm (pa : PlainAttrs T) (slot : Slot T name id) (hty : typeOf (.builtin id) = pure (.type "method_descriptor")) (hm : MtR X id r) (ho : PE X o to) (ha : PA X (e :: es) t)
    (hbase : attributeBase o name X.env (eval o X.env) = eval o X.env := by rfl)
    (hfew : ((backTo cpos (starEach (e :: es) X.env)).all (fun x => !x.1) && (backToKw cpos (keywordEach [] X.env)).all (fun x => x.1.isSome)
      && decide ((e :: es).length + ([] : List Keyword).length + (if ([] : List Keyword).isEmpty then 0 else 1) < 30)) = true := by rfl)
    (hline : (apos.endLine == cpos.line) = true := by rfl) (hs : starEach (e :: es) X.env = (false, eval e X.env) :: starEach es X.env := by rfl) (hplain : (backTo cpos (starEach es X.env)).any (·.1) = false := by rfl) :
    PE X (.Call (.Attribute o name apos) (e :: es) [] cpos) (tBM X.K T r to t) := by
  intro pins s σ H Q I h
  refine wpAny_Call_method_late hbase hfew hline rfl (thn (ho pins s σ H _ I h) fun v s1 ⟨x, H1, I1, r1, ty, q1⟩ => ?_)
  obtain ⟨h1, h2⟩ := tyV_is I1 r1 ty
  refine ⟨T, id, pa, slot, hty, h1, h2, ?_⟩
  have hA := ha cpos pins s1 σ H1 _ I1 q1
  rw [hs] at hA ⊢
  refine Calls.callWith_builtin (by show (false || (backTo cpos (starEach es X.env)).any (·.1)) = false; rw [hplain] <;> rfl) (Calls.evalArgs_plain ?_)
  exact thn hA fun us s2 ⟨vs, H2, I2, r2, q2⟩ => hm pins s2 σ H2 x vs v us Q I2 r1 r2 q2
/- xs.append(e), list.index on a module's tuple .. are MtR facts of 06m -/
end
end L2

namespace L2
open PySem PySem.Spec PyProof.Rows

def MtM (X : Cx) (id : String) (r : V → List V → Hp → VK → Prop) : Prop :=
  ∀ (pins : List (Addr × Obj)) (s : Shared) (σ : St) (H : Hp) (x : V) (xs : List V) (v : Value) (us : List Value) (Q : VK), Inv X pins σ H s → RelV x v → Vals xs us → r x xs H Q →
    wpAny (model X.prog X.w) X.A (call (.builtin id) (v :: us)) (EP X pins σ Q) X.xe s

/-! ### lists of values -/
theorem Vals.one : ∀ {x : V} {us : List Value}, Vals [x] us → ∃ u, us = [u] ∧ RelV x u
  | _, _, .cons r .nil => ⟨_, rfl, r⟩
theorem Vals.two : ∀ {x y : V} {us : List Value}, Vals [x, y] us → ∃ u v, us = [u, v] ∧ RelV x u ∧ RelV y v
  | _, _, _, .cons r (.cons q .nil) => ⟨_, _, rfl, r, q⟩
theorem Vals.zero : ∀ {us : List Value}, Vals [] us → us = []
  | _, .nil => rfl
theorem Vals.dropLast {xs : List V} {us : List Value} (h : Vals xs us) : Vals xs.dropLast us.dropLast := by
  induction h with
  | nil => exact .nil
  | cons r t ih =>
    cases t with
    | nil => exact .nil
    | cons q t' => exact .cons r ih
theorem Vals.eraseIdx : ∀ {xs : List V} {us : List Value} (i : Nat), Vals xs us → Vals (xs.eraseIdx i) (us.eraseIdx i)
  | _, _, _, .nil => .nil
  | _, _, 0, .cons _ t => t
  | _, _, i + 1, .cons r t => .cons r (Vals.eraseIdx i t)
theorem Vals.reverse {xs : List V} {us : List Value} (h : Vals xs us) : Vals xs.reverse us.reverse := by
  induction h with
  | nil => exact .nil
  | cons r t ih => rw [List.reverse_cons, List.reverse_cons]; exact Vals.append ih (.cons r .nil)
theorem Vals.rep {xs : List V} {us : List Value} (h : Vals xs us) : ∀ k : Nat, Vals (List.replicate k xs).flatten (List.replicate k us).flatten
  | 0 => .nil
  | k + 1 => by
    rw [List.replicate_succ, List.replicate_succ, List.flatten_cons, List.flatten_cons]
    exact Vals.append h (Vals.rep h k)
theorem erase_last {α : Type} (l : List α) : l.eraseIdx (l.length - 1) = l.dropLast := by
  induction l with
  | nil => rfl
  | cons a r ih =>
    cases r with
    | nil => rfl
    | cons b r =>
      have e : (a :: b :: r).length - 1 = ((b :: r).length - 1) + 1 := by
        have h1 : (a :: b :: r).length = r.length + 2 := rfl
        have h2 : (b :: r).length = r.length + 1 := rfl
        omega
      rw [e, List.eraseIdx_cons_succ, ih]
      all_goals rfl
theorem len_erase {α : Type} : ∀ (l : List α) (i : Nat), (l.eraseIdx i).length ≤ l.length
  | [], _ => Nat.le_refl _
  | _ :: _, 0 => Nat.le_succ _
  | _ :: r, i + 1 => Nat.succ_le_succ (len_erase r i)
theorem foldl_rep (its : List Value) : ∀ (k : Nat) (acc : List Value),
    List.foldl (fun x1 x2 => x1 ++ x2) acc.toArray (List.replicate k its.toArray) = (acc ++ (List.replicate k its).flatten).toArray
  | 0, acc => by simp
  | k + 1, acc => by
    have e : acc.toArray ++ its.toArray = (acc ++ its).toArray := by simp
    have e2 : (acc ++ its) ++ (List.replicate k its).flatten = acc ++ (List.replicate (k + 1) its).flatten := by
      rw [List.replicate_succ, List.flatten_cons, List.append_assoc]
    rw [← e2, ← foldl_rep its k (acc ++ its), ← e, List.replicate_succ, List.foldl_cons]

section
variable {X : Cx} {pins : List (Addr × Obj)} {σ : St} {H : Hp} {s : Shared} {l b : Addr} {xs ys zs : List V}

/-! ### the two steps: a tracked list is rewritten, a new list is laid -/
theorem Inv.lset {its its' : List Value} {n : Nat} {f : Array Value → Array Value} {t' : Nat} (I : Inv X pins σ H s) (hH : H l = some (.lst xs))
    (e : s.heap.get? l = some { cls := .type "list", data := .seq its.toArray n }) (hf : f its.toArray = its'.toArray) (hv : Vals ys its') (hz : ys.length ≤ sizeLine) :
    Inv X pins σ (upd H l (.lst ys)) { s with heap := s.heap.update l (Obj.mapSeq f), toks := t' } := by
  have q := PySem.IsL.update e f
  rw [hf] at q
  refine I.write (x := l) (e := l) (by rw [hH]; exact trivial) (.inl rfl) (fun b' u hb hu => (Heap.get?_update_other s.heap (Obj.mapSeq f) (Ne.symm hb)).trans hu) ⟨_, q⟩ ?_
  exact ⟨hz, its', _, hv, q⟩
theorem Inv.lnew {its : List Value} {t' : Nat} (I : Inv X pins σ H s) (hv : Vals ys its) (hz : ys.length ≤ sizeLine) :
    Inv X pins σ (upd H s.heap.objs.size (.lst ys)) { s with heap := s.heap.push { cls := .type "list", data := .seq its.toArray }, toks := t' } :=
  I.laid (fun _ _ q => Heap.get?_push_of_some _ q) (Nat.le_refl _) ⟨hz, its, 0, hv, Heap.get?_push_size _ rfl⟩
theorem Inv.fresh (I : Inv X pins σ H s) : H s.heap.objs.size = none := I.hok.fresh (Nat.le_refl _)
theorem Inv.lstM (I : Inv X pins σ H s) (hH : H l = some (.lst xs)) : xs.length ≤ sizeLine ∧ ∃ (its : List Value) (n : Nat), Vals xs its ∧ xs.length = its.length ∧ s.heap.get? l = some { cls := .type "list", data := .seq its.toArray n } := by
  obtain ⟨z, its, n, r, e⟩ := I.hok l _ hH
  exact ⟨z, its, n, r, r.length, e⟩

theorem notLongL {n : Nat} (h : n ≤ sizeLine) : Builtin.List.listTooLong n = false := by
  unfold Builtin.List.listTooLong
  exact decide_eq_false (by omega)
end

section
variable {X : Cx}

/-! ### methods -/
def rAppend : V → List V → Hp → VK → Prop := fun x vs H Q => ∃ l xs y, x = .ref l ∧ vs = [y] ∧ H l = some (.lst xs) ∧ xs.length < sizeLine ∧ Q .non (upd H l (.lst (xs ++ [y])))
theorem mt_append : MtM X "list.append" rAppend := by
  intro pins s σ H x vs v us Q I rx rv h
  obtain ⟨l, xs, y, rfl, rfl, hH, hz, q⟩ := h
  cases rx
  obtain ⟨u, rfl, ru⟩ := rv.one
  obtain ⟨z, its, n, r, hl, e⟩ := I.lstM hH
  refine call_meets F.slot_list_append ⟨_, e, rfl⟩ F.entry_list_append (F.args_list_append_2 _ _) (PySem.list_append l its.toArray n u (by rw [List.size_toArray]; omega)) ⟨e, ?_⟩
  refine ⟨.non, _, I.lset (its' := its ++ [u]) hH e (by simp) (r.append (.cons ru .nil)) ?_, rfl, q⟩
  rw [List.length_append, List.length_singleton]
  omega

def rExtend : V → List V → Hp → VK → Prop := fun x vs H Q => ∃ l b xs zs, x = .ref l ∧ vs = [.ref b] ∧ H l = some (.lst xs) ∧ H b = some (.lst zs) ∧ xs.length + zs.length ≤ sizeLine ∧ Q .non (upd H l (.lst (xs ++ zs)))
theorem mt_extend : MtM X "list.extend" rExtend := by
  intro pins s σ H x vs v us Q I rx rv h
  obtain ⟨l, b, xs, zs, rfl, rfl, hH, hB, hz, q⟩ := h
  cases rx
  obtain ⟨u, rfl, ru⟩ := rv.one
  cases ru
  obtain ⟨z, its, n, r, hl, e⟩ := I.lstM hH
  obtain ⟨z2, its2, n2, r2, hl2, e2⟩ := I.lstM hB
  have hsz : its.toArray.size + its2.toArray.size ≤ sizeLine := by rw [List.size_toArray, List.size_toArray]; omega
  have hlong : ¬ (!its.toArray.isEmpty && Builtin.List.listTooLong (its.toArray.size + its2.toArray.size)) = true := by
    rw [notLongL hsz, Bool.and_false]
    exact Bool.false_ne_true
  refine call_meets F.slot_list_extend ⟨_, e, rfl⟩ F.entry_list_extend (F.args_list_extend_2 _ _)
    (AutoSeq1.list_extend_list_list_0 l its.toArray n b its2.toArray n2 hlong (by rw [List.size_toArray]; omega) (by omega)) ⟨e, e2, ?_⟩
  refine ⟨.non, _, I.lset (its' := its ++ its2) hH e (by simp) (r.append r2) ?_, rfl, q⟩
  rw [List.length_append]
  omega

def rPop : V → List V → Hp → VK → Prop := fun x vs H Q => ∃ l xs y, x = .ref l ∧ vs = [] ∧ H l = some (.lst xs) ∧ xs[xs.length - 1]? = some y ∧ Q y (upd H l (.lst xs.dropLast))
theorem mt_pop : MtM X "list.pop" rPop := by
  intro pins s σ H x vs v us Q I rx rv h
  obtain ⟨l, xs, y, rfl, rfl, hH, hy, q⟩ := h
  cases rx
  have hus := rv.zero
  subst hus
  obtain ⟨z, its, n, r, hl, e⟩ := I.lstM hH
  obtain ⟨u, hu, ru⟩ := r.get hy
  have hy' : its.toArray[its.toArray.size - 1]? = some u := by
    show its.toArray[its.length - 1]? = some u
    rw [← Array.getElem?_toList, ← hl]
    exact hu
  refine call_meets F.slot_list_pop ⟨_, e, rfl⟩ F.entry_list_pop (F.args_list_pop_1 _) (MeetsSeq.list_pop_last l its.toArray n u hy' (by rw [List.size_toArray]; omega)) ⟨e, ?_⟩
  refine ⟨y, _, I.lset (its' := its.dropLast) hH e ?_ r.dropLast ?_, ru, q⟩
  · show its.toArray.eraseIdxIfInBounds (its.toArray.size - 1) = its.dropLast.toArray
    rw [List.size_toArray, List.eraseIdxIfInBounds_toArray, erase_last]
  · rw [List.length_dropLast]
    omega

def rPopAt : V → List V → Hp → VK → Prop := fun x vs H Q => ∃ l xs i k y, x = .ref l ∧ vs = [.int i] ∧ H l = some (.lst xs) ∧ -(2 ^ 63) ≤ i ∧ i < 2 ^ 63 ∧ seqIndex? i xs.length = some k ∧ xs[k]? = some y ∧ Q y (upd H l (.lst (xs.eraseIdx k)))
theorem mt_popAt : MtM X "list.pop" rPopAt := by
  intro pins s σ H x vs v us Q I rx rv h
  obtain ⟨l, xs, i, k, y, rfl, rfl, hH, h1, h2, hk, hy, q⟩ := h
  cases rx
  obtain ⟨u, rfl, ru⟩ := rv.one
  obtain ⟨t, rfl⟩ := ru
  obtain ⟨z, its, n, r, hl, e⟩ := I.lstM hH
  obtain ⟨w, hw, rw'⟩ := r.get hy
  refine call_meets F.slot_list_pop ⟨_, e, rfl⟩ F.entry_list_pop (F.args_list_pop_2 _ _)
    (MeetsSeq.list_pop_at l its.toArray n i t k w (fitsIndex_both h1 h2) (by rw [List.size_toArray, ← hl]; exact hk) (by rw [← Array.getElem?_toList]; exact hw) (by rw [List.size_toArray]; omega)) ⟨e, ?_⟩
  refine ⟨y, _, I.lset (its' := its.eraseIdx k) hH e ?_ (r.eraseIdx k) ?_, rw', q⟩
  · show its.toArray.eraseIdxIfInBounds k = (its.eraseIdx k).toArray
    rw [List.eraseIdxIfInBounds_toArray]
  · have := len_erase xs k
    omega

def rReverse : V → List V → Hp → VK → Prop := fun x vs H Q => ∃ l xs, x = .ref l ∧ vs = [] ∧ H l = some (.lst xs) ∧ Q .non (upd H l (.lst xs.reverse))
theorem mt_reverse : MtM X "list.reverse" rReverse := by
  intro pins s σ H x vs v us Q I rx rv h
  obtain ⟨l, xs, rfl, rfl, hH, q⟩ := h
  cases rx
  have hus := rv.zero
  subst hus
  obtain ⟨z, its, n, r, hl, e⟩ := I.lstM hH
  refine call_meets F.slot_list_reverse ⟨_, e, rfl⟩ F.entry_list_reverse (F.args_list_reverse_1 _) (AutoSeq1.list_reverse_list_0 l its.toArray n (by rw [List.size_toArray]; omega)) ⟨e, ?_⟩
  refine ⟨.non, _, I.lset (its' := its.reverse) hH e (by simp) r.reverse ?_, rfl, q⟩
  rw [List.length_reverse]
  omega

def rClear : V → List V → Hp → VK → Prop := fun x vs H Q => ∃ l xs, x = .ref l ∧ vs = [] ∧ H l = some (.lst xs) ∧ Q .non (upd H l (.lst []))
theorem mt_clear : MtM X "list.clear" rClear := by
  intro pins s σ H x vs v us Q I rx rv h
  obtain ⟨l, xs, rfl, rfl, hH, q⟩ := h
  cases rx
  have hus := rv.zero
  subst hus
  obtain ⟨z, its, n, r, hl, e⟩ := I.lstM hH
  refine call_meets F.slot_list_clear ⟨_, e, rfl⟩ F.entry_list_clear (F.args_list_clear_1 _) (AutoSeq1.list_clear_list_0 l its.toArray n (by rw [List.size_toArray]; omega)) ⟨e, ?_⟩
  exact ⟨.non, _, I.lset (its' := []) (ys := []) hH e rfl .nil (Nat.zero_le _), rfl, q⟩

/-! ### list + list, list += list, list * int -/
def rCat : R2 := fun x y H Q => ∃ l b xs zs, x = .ref l ∧ y = .ref b ∧ H l = some (.lst xs) ∧ H b = some (.lst zs) ∧ xs.length + zs.length ≤ sizeLine ∧ ∀ p, H p = none → Q (.ref p) (upd H p (.lst (xs ++ zs)))
theorem op_cat : OpR X (binaryOp .Add) rCat := by
  intro pins s σ H x y v u Q I rx ry h
  obtain ⟨l, b, xs, zs, rfl, rfl, hH, hB, hz, q⟩ := h
  cases rx
  cases ry
  obtain ⟨z, its, n, r, hl, e⟩ := I.lstM hH
  obtain ⟨z2, its2, n2, r2, hl2, e2⟩ := I.lstM hB
  refine PySem.P.add_list e e2 ?_ (by rw [List.size_toArray, List.size_toArray]; omega)
  have ea : its.toArray ++ its2.toArray = (its ++ its2).toArray := by simp
  rw [ea]
  exact ⟨.ref _, _, I.lnew (t' := s.toks) (r.append r2) (by rw [List.length_append]; omega), rfl, q _ I.fresh⟩
/-- a list times an int (a negative one is nothing) -/
def rRep : R2 := fun x y H Q => ∃ l k xs, x = .ref l ∧ y = .int k ∧ H l = some (.lst xs) ∧ -(2 ^ 63) ≤ k ∧ k < 2 ^ 63 ∧ xs.length * k.toNat ≤ sizeLine ∧
  ∀ p, H p = none → Q (.ref p) (upd H p (.lst (List.replicate k.toNat xs).flatten))
theorem len_rep {α : Type} (xs : List α) (k : Nat) : (List.replicate k xs).flatten.length = k * xs.length := by
  induction k with
  | zero => simp
  | succ k ih => rw [List.replicate_succ, List.flatten_cons, List.length_append, ih, Nat.succ_mul, Nat.add_comm]
theorem op_rep : OpR X (binaryOp .Mult) rRep := by
  intro pins s σ H x y v u Q I rx ry h
  obtain ⟨l, k, xs, rfl, rfl, hH, h1, h2, hz, q⟩ := h
  cases rx
  obtain ⟨t, rfl⟩ := ry
  obtain ⟨z, its, n, r, hl, e⟩ := I.lstM hH
  have hlen : its.toArray.size * k.toNat ≤ sizeLine := by rw [List.size_toArray, ← hl]; exact hz
  have hcap : ¬ its.toArray.size * k.toNat > (2 ^ 63 - 1) / 8 := by
    have : (sizeLine : Nat) ≤ (2 ^ 63 - 1) / 8 := by decide
    omega
  have hfit : ¬ (!Builtin.List.listFitsIndex k) = true := by
    rw [fitsIndex_both h1 h2]
    exact Bool.false_ne_true
  have hlong : ¬ Builtin.List.listTooLong (its.toArray.size * k.toNat) = true := by
    rw [notLongL hlen]
    exact Bool.false_ne_true
  have hnew : List.foldl (fun x1 x2 => x1 ++ x2) #[] (List.replicate (if its.toArray.isEmpty = true then 0 else k.toNat) its.toArray) = (List.replicate k.toNat its).flatten.toArray := by
    have f0 : ∀ m : Nat, List.foldl (fun x1 x2 => x1 ++ x2) #[] (List.replicate m its.toArray) = (List.replicate m its).flatten.toArray := fun m => by
      have := foldl_rep its m []
      rw [List.nil_append] at this
      exact this
    rw [f0]
    cases its with
    | nil => simp
    | cons a r' => rw [if_neg (by simp)]
  refine wpAny_binaryOp_repeat_ref (T := "list") (U := "int") (by decide) ⟨_, e, rfl⟩ (fun s' => typeIs_int s' k t) noFill_list_mul F.fills_int_mul F.slot_int_rmul repeat_list F.slot_int_index.lookup
    (call_meets F.slot_int_rmul (typeIs_int s k t) F.entry_int_rmul (F.args_int_rmul_2 _ _) (int___rmul___int_list k t l its.toArray n)
      ⟨e, rfl, ⟨_, e, rfl⟩, call_meets F.slot_list_mul ⟨_, e, rfl⟩ F.entry_list_mul (F.args_list_mul_2 _ _) (AutoListH.list___mul___list_int_3 l its.toArray n k t hfit hcap hlong) ⟨e, ?_⟩⟩)
  rw [hnew]
  exact ⟨.ref _, _, I.lnew (t' := s.toks) (r.rep k.toNat) (by rw [len_rep, Nat.mul_comm]; exact hz), rfl, q _ I.fresh⟩

/-! ### del xs[i] -/
theorem del_list {pins : List (Addr × Obj)} {s : Shared} {σ : St} {H : Hp} {l : Addr} {xs : List V} {i : Int} {t : Tok} {k : Nat} {Q : Unit → Shared → Prop} (I : Inv X pins σ H s) (hH : H l = some (.lst xs))
    (h1 : -(2 ^ 63) ≤ i) (h2 : i < 2 ^ 63) (hk : seqIndex? i xs.length = some k) (h : ∀ s', Inv X pins σ (upd H l (.lst (xs.eraseIdx k))) s' → Q () s') :
    wpAny (model X.prog X.w) X.A (delItem (.ref l) (.int i t)) Q X.xe s := by
  obtain ⟨z, its, n, r, hl, e⟩ := I.lstM hH
  refine PySem.P.delItem_list (k := k) e (fitsIndex_both h1 h2) (by rw [List.size_toArray, ← hl]; exact hk) (h _ ?_) (by rw [List.size_toArray]; omega)
  refine I.lset (its' := its.eraseIdx k) (t' := s.toks) hH e ?_ (r.eraseIdx k) ?_
  · show its.toArray.eraseIdxIfInBounds k = (its.eraseIdx k).toArray
    rw [List.eraseIdxIfInBounds_toArray]
  · have := len_erase xs k
    omega
end

/-! ### xs[a:b] = ys -/
section
variable {prog : Program} {w : World} {A : Around} {E : Value → Shared → Prop} {s : Shared}
theorem splice_eq (its its2 : List Value) (a c : Nat) : its.toArray.extract 0 a ++ its2.toArray ++ its.toArray.extract c its.toArray.size = (its.take a ++ its2 ++ its.drop c).toArray := by
  apply Array.toList_inj.mp
  first
    | (simp
       exact List.take_of_length_le (by simp))
    | simp [List.take_of_length_le]
    | simp
theorem bounds_run {a c n : Nat} (hac : a ≤ c) (hc : c ≤ n) : sliceBounds (some (a : Int)) (some (c : Int)) none n = ((a : Int), (c : Int), 1) := by
  simp only [sliceBounds, Option.getD_none]
  have h1 : ¬ ((a : Int) < 0) := by omega
  have h2 : ¬ ((c : Int) < 0) := by omega
  simp only [h1, h2, if_false, show (1 : Int) > 0 by decide, if_true]
  congr 1
  · omega
  · congr 1; omega
/-- list.__setitem__ with a slice of step one and another list -/
theorem setItem_slice {l b sl : Addr} {items new : Array Value} {n n2 : Nat} {vl vu : Value} {a c : Nat} {Q : Unit → Shared → Prop}
    (e : s.heap.get? l = some { cls := .type "list", data := .seq items n }) (e2 : s.heap.get? b = some { cls := .type "list", data := .seq new n2 }) (hne : l ≠ b)
    (hs : s.heap.IsSliceOf sl vl vu .none) (pl : IsPart vl (some (a : Int))) (pu : IsPart vu (some (c : Int))) (hac : a ≤ c) (hc : c ≤ items.size)
    (hsz : items.size + new.size ≤ sizeLine) (h : Q () { s with heap := s.heap.update l (Obj.mapSeq fun xs => xs.extract 0 a ++ new ++ xs.extract c xs.size) }) :
    wpAny (model prog w) A (setItem (.ref l) (.ref sl) (.ref b)) Q E s := by
  have hl : s.heap.IsList l items := PySem.IsL.isList e
  have hb : s.heap.IsList b new := PySem.IsL.isList e2
  obtain ⟨os, hos, hcs, hds⟩ := id hs
  have hTs : s.TypeIs (.ref sl) "slice" := ⟨os, hos, hcs⟩
  have hstep : ¬ ((rawPart none == rawInt 0) = true) := Bool.false_ne_true
  have hsame : Builtin.List.listSameRef (.ref l) (.ref b) = false := by
    unfold Builtin.List.listSameRef
    exact beq_eq_false_iff_ne.mpr hne
  have hmax : (max (a : Int) (c : Int)).toNat = c := by omega
  have hz' : ((fun xs : Array Value => xs.extract 0 a ++ new ++ xs.extract c xs.size) items).size ≤ sizeLine + 1 := by
    simp only [Array.size_append, Array.size_extract]
    omega
  unfold setItem
  try with_reducible refine wpAny_holding ?_
  first | refine wpAny_bind (wpAny_pure ?_) | skip
  refine wpAny_bind (wpAny_sequenceKey hl.typeIs (by decide) ?_)
  refine wpAny_bind (wpAny_callSpecial?_slot (name := Str.ofString "__setitem__") hl.typeIs slot_list_setitem
    (wpAny_call_entry slot_list_setitem hl.typeIs entry_list_setitem ?_ (args_list_setitem _ _ _)))
  show wpAny _ _ (Builtin.List.listSubscript? (.ref sl) >>= _) _ _ s
  refine wpAny_bind ?_
  unfold Builtin.List.listSubscript?
  refine wpAny_bind (wpAny_specialOf hTs slice_no_index ?_)
  simp only [Option.isNone_none, if_true]
  refine wpAny_pure ?_
  show wpAny _ _ (typeOf (.ref sl) >>= _) _ _ s
  refine wpAny_bind (wpAny_typeOf hTs ?_)
  first
    | rw [if_neg (by decide)]
    | refine PySem.W.KFB.if_not (by decide) ?_
  rw [listSliceParts_eq]
  refine wpAny_bind (wpAny_bind (wpAny_field hos hds (x := .none) rfl (wpAny_bind (wpAny_listPart .none ?_))))
  rw [if_neg hstep]
  refine wpAny_bind (wpAny_field hos hds (x := vl) rfl (wpAny_bind (wpAny_listPart pl ?_)))
  refine wpAny_bind (wpAny_field hos hds (x := vu) rfl (wpAny_bind (wpAny_listPart pu (wpAny_pure ?_))))
  first
    | simp only [hsame, Bool.false_eq_true, if_false]
    | refine PySem.W.KFB.if_not hsame ?_
    | (dsimp only
       rw [if_neg (by rw [hsame]; exact Bool.false_ne_true)])
  refine wpAny_bind (m := Builtin.List.listAllItems (.ref b) "must assign iterable to extended slice") ?_
  unfold Builtin.List.listAllItems
  refine wpAny_bind (wpAny_typeOf hb.typeIs ?_)
  first
    | refine PySem.W.KFB.if_so (by decide) ?_
    | rw [if_pos (by decide)]
    | simp only [beq_self_eq_true, Bool.true_or, if_true]
  unfold Builtin.List.listItems
  refine wpAny_bind (wpAny_seqItems e2 rfl (wpAny_pure ?_))
  refine wpAny_bind (wpAny_bind (wpAny_seqItems e rfl (wpAny_pure ?_)))
  refine wpAny_bind (wpAny_of_eq ((sliceIndices_raw (some (a : Int)) (some (c : Int)) none items.size (by simp)).trans (congrArg (pure : Int × Int × Int → Sem (Int × Int × Int)) (bounds_run hac hc))) ?_)
  show wpAny _ _ (if ((1 : Int) == 1) = true then _ else _) _ _ s
  rw [if_pos (by decide)]
  refine wpAny_bind (wpAny_rule ?_)
  first
    | simp only [notLongL hsz, Bool.false_eq_true, if_false]
    | refine PySem.W.KFB.if_not (notLongL hsz) ?_
  first | refine wpAny_bind (wpAny_pure ?_) | skip
  show wpAny _ _ (updateSeq l (fun xs => xs.extract 0 ((a : Int)).toNat ++ new ++ xs.extract (max (a : Int) (c : Int)).toNat xs.size) >>= _) _ _ s
  rw [hmax, Int.toNat_natCast]
  refine wpAny_bind (wpAny_updateSeq (hz := Nat.le_trans (Nat.le_add_right _ _) hsz) (_hz' := hz') e rfl ?_)
  refine wpAny_bind (wpAny_letGo ?_)
  first
    | exact wpAny_bind (wpAny_pure (wpAny_pure ⟨.none, rfl, wpAny_pure h⟩))
    | exact wpAny_pure ⟨.none, rfl, wpAny_pure h⟩
end

section
variable {X : Cx}
/-- xs[a:c] = ys of another list, at the value level: sl is the slice object that was just made -/
theorem set_slice {pins : List (Addr × Obj)} {s : Shared} {σ : St} {H : Hp} {l b sl : Addr} {xs ys : List V} {a c : Int} {vl vu : Value} {Q : Unit → Shared → Prop} (I : Inv X pins σ H s)
    (hH : H l = some (.lst xs)) (hB : H b = some (.lst ys)) (hne : l ≠ b) (hs : s.heap.IsSliceOf sl vl vu .none) (ra : RelV (.int a) vl) (rc : RelV (.int c) vu) (h0 : 0 ≤ a) (hac : a ≤ c) (hc : c ≤ xs.length)
    (hz : xs.length + ys.length ≤ sizeLine) (h : ∀ s', Inv X pins σ (upd H l (.lst (xs.take a.toNat ++ ys ++ xs.drop c.toNat))) s' → Q () s') :
    wpAny (model X.prog X.w) X.A (setItem (.ref l) (.ref sl) (.ref b)) Q X.xe s := by
  obtain ⟨ta, rfl⟩ := ra
  obtain ⟨tc, rfl⟩ := rc
  obtain ⟨z, its, n, r, hl, e⟩ := I.lstM hH
  obtain ⟨z2, its2, n2, r2, hl2, e2⟩ := I.lstM hB
  obtain ⟨a', rfl⟩ := Int.eq_ofNat_of_zero_le h0
  obtain ⟨c', rfl⟩ := Int.eq_ofNat_of_zero_le (Int.le_trans h0 hac)
  simp only [Int.toNat_natCast] at h
  refine setItem_slice (a := a') (c := c') e e2 hne hs (.int _ _) (.int _ _) (by omega) (by rw [List.size_toArray]; omega) (by rw [List.size_toArray, List.size_toArray]; omega) (h _ ?_)
  refine I.lset (its' := its.take a' ++ its2 ++ its.drop c') (t' := s.toks) hH e ?_ (Vals.append (Vals.append (r.take _) r2) (r.drop _)) ?_
  · exact splice_eq its its2 a' c'
  · rw [List.length_append, List.length_append, List.length_take, List.length_drop]
    omega
end
end L2

namespace L2
open PySem PySem.Spec PyProof.Rows

theorem Vals.ints : ∀ {ns : List Int} {us : List Value}, Vals (ns.map V.int) us → IntsAre us ns
  | [], us, h => by
    rw [List.map_nil] at h
    cases h
    exact IntsAre.nil
  | n :: ns, us, h => by
    rw [List.map_cons] at h
    cases h with
    | cons r t =>
      obtain ⟨k, rfl⟩ := r
      exact IntsAre.cons n k (Vals.ints t)
theorem vals_of_ints : ∀ {us : List Value} {ns : List Int}, IntsAre us ns → Vals (ns.map V.int) us
  | _, _, .nil => by rw [List.map_nil]; exact Paired.nil
  | _, _, .cons n t h => by rw [List.map_cons]; exact Paired.cons (show RelV (V.int n) (Value.int n t) from ⟨t, rfl⟩) (vals_of_ints h)
theorem Vals.strs : ∀ {xs : List Str} {us : List Value}, Vals (xs.map V.str) us → StrsAre us xs
  | [], us, h => by
    rw [List.map_nil] at h
    cases h
    exact StrsAre.nil
  | x :: xs, us, h => by
    rw [List.map_cons] at h
    cases h with
    | cons r t =>
      obtain ⟨k, rfl⟩ := r
      exact StrsAre.cons x k (Vals.strs t)
theorem vals_of_strs : ∀ {us : List Value} {xs : List Str}, StrsAre us xs → Vals (xs.map V.str) us
  | _, _, .nil => by rw [List.map_nil]; exact Paired.nil
  | _, _, .cons x t h => by rw [List.map_cons]; exact Paired.cons (show RelV (V.str x) (Value.str x t) from ⟨t, rfl⟩) (vals_of_strs h)
theorem Vals.bls : ∀ {bs : List Bool} {us : List Value}, Vals (bs.map V.bl) us → us = bs.map Value.bool
  | [], us, h => by
    rw [List.map_nil] at h
    cases h
    rfl
  | b :: bs, us, h => by
    rw [List.map_cons] at h
    cases h with
    | cons r t =>
      cases r
      rw [Vals.bls t, List.map_cons]
theorem Vals.ref1 {a : Addr} {us : List Value} (r : Vals [V.ref a] us) : us = [Value.ref a] := by
  cases r with
  | cons r t =>
    cases t
    cases r
    rfl
theorem Vals.int2 {i j : Int} {us : List Value} (r : Vals [V.int i, V.int j] us) : ∃ t u, us = [Value.int i t, Value.int j u] := by
  cases r with
  | cons r t =>
    cases t with
    | cons r2 t2 =>
      cases t2
      obtain ⟨t, rfl⟩ := r
      obtain ⟨u, rfl⟩ := r2
      exact ⟨t, u, rfl⟩

/-! ### the library's walks over a list of ints, kept objects alone -/
section
variable {prog : Program} {w : World} {A : Around} {E : Value → Shared → Prop} {s : Shared} {l : Addr} {its : List Value} {ns : List Int} {Q : Value → Shared → Prop}
theorem sum_raw (hh : A.handled = none) (hl : s.heap.IsList l its.toArray) (hi : IntsAre its ns)
    (h : ∀ h' tk t', (∀ b o, s.heap.get? b = some o → h'.get? b = some o) → Q (.int ns.sum t') { s with heap := h', toks := tk }) : wpAny (model prog w) A (call (.builtin "sum") [.ref l]) Q E s := by
  obtain ⟨xs, e⟩ := hi.allInts.items
  have hn : numsOf (intItems xs).toList = ns := by rw [← e]; exact hi.numsOf
  rw [nums_intItems] at hn
  rw [e] at hl
  refine PySem.sum_intListG hh hl fun h' tk t' hk => ?_
  have := h h' tk t' hk
  rw [preSum_eq, List.take_of_length_le (by simp), hn]; exact this
theorem max_raw (hh : A.handled = none) (hl : s.heap.IsList l its.toArray) (hi : IntsAre its ns) (hne : 0 < ns.length)
    (h : ∀ h' tk M t', (∀ b o, s.heap.get? b = some o → h'.get? b = some o) → M ∈ ns → (∀ a, a ∈ ns → a ≤ M) → Q (.int M t') { s with heap := h', toks := tk }) : wpAny (model prog w) A (call (.builtin "max") [.ref l]) Q E s := by
  obtain ⟨xs, e⟩ := hi.allInts.items
  have hn : numsOf (intItems xs).toList = ns := by rw [← e]; exact hi.numsOf
  rw [nums_intItems] at hn
  subst hn
  rw [e] at hl
  have hsz : 0 < xs.size := by simpa using hne
  refine PySem.max_intList hh hl hsz fun v h' tk hv hk => ?_
  obtain ⟨t, rfl⟩ := intItems_at hv
  obtain ⟨h1, h2⟩ := argBest_gt (numAt xs) (xs.size - 1)
  refine h h' tk _ t hk ?_ fun a ha => ?_
  · rw [numAt_eq]; exact PySem.getD_mem (by rw [List.length_map, Array.length_toList]; omega)
  · obtain ⟨j, hj, rfl⟩ := mem_getD ha
    rw [List.length_map, Array.length_toList] at hj
    rw [← numAt_eq]; exact h2 j (by omega)
theorem min_raw (hh : A.handled = none) (hl : s.heap.IsList l its.toArray) (hi : IntsAre its ns) (hne : 0 < ns.length)
    (h : ∀ h' tk M t', (∀ b o, s.heap.get? b = some o → h'.get? b = some o) → M ∈ ns → (∀ a, a ∈ ns → M ≤ a) → Q (.int M t') { s with heap := h', toks := tk }) : wpAny (model prog w) A (call (.builtin "min") [.ref l]) Q E s := by
  obtain ⟨xs, e⟩ := hi.allInts.items
  have hn : numsOf (intItems xs).toList = ns := by rw [← e]; exact hi.numsOf
  rw [nums_intItems] at hn
  subst hn
  rw [e] at hl
  have hsz : 0 < xs.size := by simpa using hne
  refine PySem.min_intList hh hl hsz fun v h' tk hv hk => ?_
  obtain ⟨t, rfl⟩ := intItems_at hv
  obtain ⟨h1, h2⟩ := argBest_lt (numAt xs) (xs.size - 1)
  refine h h' tk _ t hk ?_ fun a ha => ?_
  · rw [numAt_eq]; exact PySem.getD_mem (by rw [List.length_map, Array.length_toList]; omega)
  · obtain ⟨j, hj, rfl⟩ := mem_getD ha
    rw [List.length_map, Array.length_toList] at hj
    rw [← numAt_eq]; exact h2 j (by omega)
end

/-! ### the calls, by values (CallR of 03t; MtR of 06l) -/
section
variable {X : Cx}
/-- sum(xs) of a list of ints -/
def rSum (K : PySem.W.Frag) : List V → Hp → VK → Prop := fun vs H Q => ∃ (a : Addr) (ns : List Int), vs = [V.ref a] ∧ SqL K H a (ns.map V.int) ∧ Q (.int ns.sum) H
/-- max(xs), min(xs) of a list of ints -/
def rMax (K : PySem.W.Frag) : List V → Hp → VK → Prop := fun vs H Q => ∃ (a : Addr) (ns : List Int), vs = [V.ref a] ∧ SqL K H a (ns.map V.int) ∧ 0 < ns.length ∧ ∀ m, m ∈ ns → (∀ y, y ∈ ns → y ≤ m) → Q (.int m) H
def rMin (K : PySem.W.Frag) : List V → Hp → VK → Prop := fun vs H Q => ∃ (a : Addr) (ns : List Int), vs = [V.ref a] ∧ SqL K H a (ns.map V.int) ∧ 0 < ns.length ∧ ∀ m, m ∈ ns → (∀ y, y ∈ ns → m ≤ y) → Q (.int m) H
theorem cr_sum (hc : X.calm = true) : CallR X (.builtin "sum") (rSum X.K) := by
  intro pins s σ H vs us Q I r h
  obtain ⟨a, ns, rfl, hs, q⟩ := h
  obtain ⟨its, rv, hl, _⟩ := I.list hs
  rw [Vals.ref1 r]
  exact sum_raw (I.ok.hd hc) hl.isList rv.ints fun h' tk t' hk => ⟨.int _, H, I.kept hk, ⟨_, rfl⟩, q⟩
theorem cr_max (hc : X.calm = true) : CallR X (.builtin "max") (rMax X.K) := by
  intro pins s σ H vs us Q I r h
  obtain ⟨a, ns, rfl, hs, hne, q⟩ := h
  obtain ⟨its, rv, hl, _⟩ := I.list hs
  rw [Vals.ref1 r]
  exact max_raw (I.ok.hd hc) hl.isList rv.ints hne fun h' tk m t' hk h1 h2 => ⟨.int _, H, I.kept hk, ⟨_, rfl⟩, q m h1 h2⟩
theorem cr_min (hc : X.calm = true) : CallR X (.builtin "min") (rMin X.K) := by
  intro pins s σ H vs us Q I r h
  obtain ⟨a, ns, rfl, hs, hne, q⟩ := h
  obtain ⟨its, rv, hl, _⟩ := I.list hs
  rw [Vals.ref1 r]
  exact min_raw (I.ok.hd hc) hl.isList rv.ints hne fun h' tk m t' hk h1 h2 => ⟨.int _, H, I.kept hk, ⟨_, rfl⟩, q m h1 h2⟩

/-! sorted, sort (fewer than 64 items: the library's own bound) -/
def rSorted (K : PySem.W.Frag) : List V → Hp → VK → Prop := fun vs H Q => ∃ (a : Addr) (ns : List Int), vs = [V.ref a] ∧ SqL K H a (ns.map V.int) ∧ ns.length < 64 ∧
  ∀ (ns' : List Int) (p : Addr), ns'.Perm ns → ns'.Pairwise (· ≤ ·) → H p = none → Q (.ref p) (upd H p (.lst (ns'.map V.int)))
def rSortedS (K : PySem.W.Frag) : List V → Hp → VK → Prop := fun vs H Q => ∃ (a : Addr) (xs : List Str), vs = [V.ref a] ∧ SqL K H a (xs.map V.str) ∧ xs.length < 64 ∧
  ∀ (ys : List Str) (p : Addr), ys.Perm xs → sortedS ys = true → H p = none → Q (.ref p) (upd H p (.lst (ys.map V.str)))
theorem small64 {n : Nat} (h : n < 64) : n ≤ sizeLine := by rw [sizeLine_eq]; omega
theorem cr_sorted : CallR X (.builtin "sorted") (rSorted X.K) := by
  intro pins s σ H vs us Q I r h
  obtain ⟨a, ns, rfl, hs, h64, q⟩ := h
  obtain ⟨its, rv, hl, _⟩ := I.list hs
  rw [Vals.ref1 r]
  have hi := rv.ints
  refine PyProof.Rows.sorted_ints hl.isList hi (by rw [hi.length]; exact h64) fun out ns' h1 h2 h3 => ?_
  obtain ⟨ep, he'⟩ := PyProof.Rows.sortedAll_at s.heap its out
  have hlen : (ns'.map V.int).length ≤ sizeLine := by rw [List.length_map, h2.length_eq]; exact small64 h64
  exact ⟨.ref _, upd H (s.heap.objs.size + 1) (.lst (ns'.map V.int)), I.laid (t' := s.toks) (fun _ _ => PyProof.Rows.sortedAll_old) (Nat.le_succ _) ⟨hlen, out.toList, ep, vals_of_ints h1, he'⟩, rfl, q ns' _ h2 h3 (I.hok.fresh (Nat.le_succ _))⟩
theorem cr_sortedS : CallR X (.builtin "sorted") (rSortedS X.K) := by
  intro pins s σ H vs us Q I r h
  obtain ⟨a, xs, rfl, hs, h64, q⟩ := h
  obtain ⟨its, rv, hl, _⟩ := I.list hs
  rw [Vals.ref1 r]
  have hlen0 := rv.length
  rw [List.length_map] at hlen0
  refine PyProof.Rows.sorted_strs hl.isList rv.strs (by rw [← hlen0]; exact h64) fun out ys h1 h2 h3 => ?_
  obtain ⟨ep, he'⟩ := PyProof.Rows.sortedAll_at s.heap its out
  have hlen : (ys.map V.str).length ≤ sizeLine := by rw [List.length_map, h2.length_eq]; exact small64 h64
  exact ⟨.ref _, upd H (s.heap.objs.size + 1) (.lst (ys.map V.str)), I.laid (t' := s.toks) (fun _ _ => PyProof.Rows.sortedAll_old) (Nat.le_succ _) ⟨hlen, out.toList, ep, vals_of_strs h1, he'⟩, rfl, q ys _ h2 h3 (I.hok.fresh (Nat.le_succ _))⟩
/-- xs.sort(), ints -/
def rSort : V → List V → Hp → VK → Prop := fun x xs H Q => ∃ (a : Addr) (ns : List Int), x = V.ref a ∧ xs = [] ∧ H a = some (.lst (ns.map V.int)) ∧ ns.length < 64 ∧
  ∀ ns' : List Int, ns'.Perm ns → ns'.Pairwise (· ≤ ·) → Q .non (upd H a (.lst (ns'.map V.int)))
theorem mt_sort : MtR X "list.sort" rSort := by
  intro pins s σ H x xs v us Q I rx rxs h
  obtain ⟨a, ns, rfl, rfl, ha, h64, q⟩ := h
  cases rx
  cases rxs
  obtain ⟨hz, its, n, rv, hob⟩ := I.hok a _ ha
  have hi := rv.ints
  refine wpAny_call_entry PyProof.Rows.slot_list_sort ⟨_, hob, rfl⟩ PyProof.Rows.entry_list_sort
    (PyProof.Rows.list_sort_tree hob hi (by rw [hi.length]; exact h64) fun out ns' h1 h2 h3 => ⟨.none, rfl, ?_⟩) (PyProof.Rows.args_list_sort _)
  obtain ⟨ep, he'⟩ := PyProof.Rows.sortedHeap_at (vs := its) (out := out) hob
  have hlen : (ns'.map V.int).length ≤ sizeLine := by rw [List.length_map, h2.length_eq]; exact small64 h64
  refine ⟨.non, upd H a (.lst (ns'.map V.int)), I.write (e := a) (t' := s.toks) (by rw [ha]; trivial) (.inl rfl) (fun b u hb hu => ?_) ⟨_, he'⟩ ⟨hlen, out.toList, ep, vals_of_ints h1, he'⟩, rfl, q ns' h2 h3⟩
  rw [PyProof.Rows.sortedHeap_old hb (Heap.lt_size hu)]; exact hu
end

/-! ### list.index, flat items -/
section
variable {X : Cx}
def rIndex (K : PySem.W.Frag) : V → List V → Hp → VK → Prop := fun x xs H Q => ∃ (a : Addr) (ys : List V) (y : V) (j : Nat) (z : V), x = V.ref a ∧ xs = [y] ∧ SqL K H a ys ∧ flatV y = true ∧ ys.all flatV = true ∧ ys[j]? = some z ∧ eqV z y = true ∧
  (∀ (m : Nat) (z' : V), m < j → ys[m]? = some z' → eqV z' y = false) ∧ Q (.int (j : Nat)) H
theorem flat_at {ys : List V} (f : ys.all flatV = true) {j : Nat} {z : V} (h : ys[j]? = some z) : flatV z = true := List.all_eq_true.mp f z (List.mem_of_getElem? h)
theorem mt_index : MtR X "list.index" (rIndex X.K) := by
  intro pins s σ H x xs v us Q I rx rxs h
  obtain ⟨a, ys, y, j, z, rfl, rfl, hs, fy, fys, hz, hzj, hno, q⟩ := h
  cases rx
  cases rxs with
  | cons ry rt =>
    rename_i uy ut
    cases rt
    obtain ⟨its, rv, ⟨⟨cls, dd, data, sl⟩, n, ho, hc, hdn, hd⟩, hlen⟩ := I.list hs
    simp only at hc hd
    subst hc hd
    obtain ⟨u, hu, ru⟩ := rv.get hz
    obtain ⟨hjl, hje⟩ := List.getElem?_eq_some_iff.mp hu
    have hvl := rv.length
    have hj : j < its.toArray.size := by simpa using hjl
    have hsl := sizeLine_eq
    refine call_meets PySem.F.slot_list_index ⟨_, ho, rfl⟩ PySem.F.entry_list_index (PySem.F.args_list_index_2 _ _)
      (SeqAt.list_indexAt a its.toArray n dd sl uy (eqU y) j hj (by omega) ?_ ?_) ⟨ho, fun u' hu' => mem_eqAt ry fy rv fys u' (by simpa using hu'), ?_⟩
    · have e1 : its.toArray[j] = u := by simpa using hje
      rw [e1, eqU_of ru (flat_at fys hz)]
      exact hzj
    · intro m hm hmj
      have hml : m < its.length := by simpa using hm
      have hmy : m < ys.length := by omega
      have hy' : ys[m]? = some ys[m] := List.getElem?_eq_getElem hmy
      obtain ⟨u2, hu2, ru2⟩ := rv.get hy'
      obtain ⟨_, hme⟩ := List.getElem?_eq_some_iff.mp hu2
      have e1 : its.toArray[m] = u2 := by simpa using hme
      rw [e1, eqU_of ru2 (flat_at fys hy')]
      exact hno m _ hmj hy'
    · exact ⟨.int (j : Nat), H, I.tok _, ⟨_, rfl⟩, q⟩
end

/-! ### type(x) of an own instance; is, is not of a module's class -/
section
variable {X : Cx}
theorem cr_type : CallR X (.type "type") (fun xs H Q => ∃ a C dx fs, xs = [V.ref a] ∧ H a = some (.ins C dx fs) ∧ Q (.ref C) H) := by
  intro pins s σ H xs us Q I r h
  obtain ⟨a, C, dx, fs, rfl, ha, q⟩ := h
  rw [Vals.ref1 r]
  obtain ⟨mA, O, _⟩ := ins_get I.hok ha
  obtain ⟨od, J, _⟩ := O.look
  exact PySem.W.kto_own J ⟨.ref C, H, I, rfl, q⟩
/-- an object of the module whose class is no tuple: a class of the text (makesIn says that its type is a type's heir) -/
theorem cls_there {K : PySem.W.Frag} {C : Addr} (h : PySem.W.makesIn K C = true) : ∃ o, K.lookup C = some o ∧ o.cls ≠ .type "tuple" := by
  unfold PySem.W.makesIn at h
  split at h
  · rename_i oc od cd sl ho
    refine ⟨_, ho, fun e => ?_⟩
    rw [Bool.and_eq_true] at h
    have h2 : PySem.W.instIn K (.ref C) (.type "type") = some true := beq_iff_eq.mp h.2
    have e2 : oc = .type "tuple" := e
    have h3 : PySem.W.instIn K (.ref C) (.type "type") = PySem.W.subIn K oc (.type "type") := by
      show ((K.lookup C).map (fun o => o.cls)).bind (fun t => PySem.W.subIn K t (.type "type")) = _
      rw [ho]
      all_goals rfl
    rw [h3, e2] at h2
    have h4 : PySem.W.subIn K (.type "tuple") (.type "type") = some false := by
      show (fastBuiltinMro "tuple").map (·.contains (.type "type")) = some false
      decide +kernel
    rw [h4] at h2
    cases h2
  · cases h
theorem op_is_cls : OpR X (compareOp .Is) (fun x y H Q => ∃ a b, x = V.ref a ∧ y = V.ref b ∧ (a = b ∨ (PySem.W.makesIn X.K a = true ∧ PySem.W.makesIn X.K b = true)) ∧ Q (.bl (decide (a = b))) H) := by
  intro pins s σ H x y v u Q I rx ry h
  obtain ⟨a, b, rfl, rfl, hab, q⟩ := h
  cases rx
  cases ry
  by_cases z : a = b
  · subst z
    exact wpAny_is_ref_self ⟨.bl _, H, I, by simp [RelV], q⟩
  · rcases hab with e | ⟨h1, h2⟩
    · exact absurd e z
    · obtain ⟨o1, e1, n1⟩ := cls_there h1
      obtain ⟨o2, e2, _⟩ := cls_there h2
      exact wpAny_is_ref_other z (I.kIn _ _ e1) (I.kIn _ _ e2) n1 ⟨.bl _, H, I, by simp [RelV, z], q⟩
theorem op_isnot_cls : OpR X (compareOp .IsNot) (fun x y H Q => ∃ a b, x = V.ref a ∧ y = V.ref b ∧ (a = b ∨ (PySem.W.makesIn X.K a = true ∧ PySem.W.makesIn X.K b = true)) ∧ Q (.bl (!decide (a = b))) H) := by
  intro pins s σ H x y v u Q I rx ry h
  obtain ⟨a, b, rfl, rfl, hab, q⟩ := h
  cases rx
  cases ry
  by_cases z : a = b
  · subst z
    exact wpAny_isNot_ref_self ⟨.bl _, H, I, by simp [RelV], q⟩
  · rcases hab with e | ⟨h1, h2⟩
    · exact absurd e z
    · obtain ⟨o1, e1, n1⟩ := cls_there h1
      obtain ⟨o2, e2, _⟩ := cls_there h2
      exact wpAny_isNot_ref_other z (I.kIn _ _ e1) (I.kIn _ _ e2) n1 ⟨.bl _, H, I, by simp [RelV, z], q⟩
end

/-! ### any(xs), all(xs) of a list of bools -/
theorem iter_any {prog : Program} {w : World} {A : Around} {E : Value → Shared → Prop} {s : Shared} {l : Addr} {items : Array Value} {Q : Value → Shared → Prop} (hl : s.heap.IsList l items)
    (h : ∀ s₂ : Shared, s₂ = { s with heap := s.heap.push { cls := .type "list_iterator", data := .fields #[.ref l, .int 0 0] } } →
      (s₂.heap.IsListIter s.heap.objs.size l 0 ∧ s₂.heap.IsList l items) → l ≠ s.heap.objs.size → Q (.ref s.heap.objs.size) s₂) : wpAny (model prog w) A (pyIter (.ref l)) Q E s := by
  have hlt : l < s.heap.objs.size := by obtain ⟨_, e, _⟩ := hl; exact Heap.lt_size e
  exact wpAny_pyIter_list hl (h _ rfl ⟨⟨_, Heap.get?_push_size _ rfl, rfl, rfl⟩, hl.push _⟩ (Nat.ne_of_lt hlt))
theorem truth_bools {prog : Program} {w : World} {A : Around} {bs : List Bool} {its : List Value} (e : its = bs.map Value.bool) :
    TruthOf prog w A (fun i v => its.toArray[i]? = some v) (fun i => bs.getD i false) := fun i v s Q E hv hq => by
  have hv' : its[i]? = some v := by simpa using hv
  rw [e, List.getElem?_map] at hv'
  obtain ⟨b, hb, rfl⟩ := Option.map_eq_some_iff.mp hv'
  have hg : bs.getD i false = b := by rw [List.getD_eq_getElem?_getD, hb] <;> rfl
  have hq' : Q (bs.getD i false) s := hq
  rw [hg] at hq'
  exact wpAny_truthy_bool hq'
theorem any_range : ∀ bs : List Bool, (List.range bs.length).any (fun i => bs.getD i false) = bs.any id
  | [] => rfl
  | b :: bs => by
    rw [List.length_cons, List.range_succ_eq_map, List.any_cons, List.any_map, List.any_cons, ← any_range bs]
    all_goals rfl
theorem all_range : ∀ bs : List Bool, (List.range bs.length).all (fun i => bs.getD i false) = bs.all id
  | [] => rfl
  | b :: bs => by
    rw [List.length_cons, List.range_succ_eq_map, List.all_cons, List.all_map, List.all_cons, ← all_range bs]
    all_goals rfl
section
variable {X : Cx}
def rAny (K : PySem.W.Frag) : List V → Hp → VK → Prop := fun vs H Q => ∃ (a : Addr) (bs : List Bool), vs = [V.ref a] ∧ SqL K H a (bs.map V.bl) ∧ Q (.bl (bs.any id)) H
def rAll (K : PySem.W.Frag) : List V → Hp → VK → Prop := fun vs H Q => ∃ (a : Addr) (bs : List Bool), vs = [V.ref a] ∧ SqL K H a (bs.map V.bl) ∧ Q (.bl (bs.all id)) H
theorem cr_any (hc : X.calm = true) : CallR X (.builtin "any") (rAny X.K) := by
  intro pins s σ H vs us Q I r h
  obtain ⟨a, bs, rfl, hs, q⟩ := h
  obtain ⟨its, rv, hl, _⟩ := I.list hs
  rw [Vals.ref1 r]
  have hb := rv.bls
  refine call_any_walk (iter_any hl.isList fun s₂ e2 st hne => ?_)
  subst e2
  refine ⟨_, _, _, _, _, _, _, rfl, Walks.list (A := X.A.in1) (I.ok.hd hc) _ a hne its.toArray, st, truth_bools hb, fun h' tk hk => ?_⟩
  refine ⟨.bl _, H, I.kept fun b o eo => hk b o (fun hmem => ?_) (Heap.get?_push_of_some _ eo), ?_, q⟩
  · rcases List.mem_cons.mp hmem with e1 | hmem
    · exact absurd (e1 ▸ Heap.lt_size eo) (Nat.lt_irrefl _)
    · cases hmem
  · show Value.bool _ = Value.bool _
    rw [← any_range, hb, List.size_toArray, List.length_map]
theorem cr_all (hc : X.calm = true) : CallR X (.builtin "all") (rAll X.K) := by
  intro pins s σ H vs us Q I r h
  obtain ⟨a, bs, rfl, hs, q⟩ := h
  obtain ⟨its, rv, hl, _⟩ := I.list hs
  rw [Vals.ref1 r]
  have hb := rv.bls
  refine call_all_walk (iter_any hl.isList fun s₂ e2 st hne => ?_)
  subst e2
  refine ⟨_, _, _, _, _, _, _, rfl, Walks.list (A := X.A.in1) (I.ok.hd hc) _ a hne its.toArray, st, truth_bools hb, fun h' tk hk => ?_⟩
  refine ⟨.bl _, H, I.kept fun b o eo => hk b o (fun hmem => ?_) (Heap.get?_push_of_some _ eo), ?_, q⟩
  · rcases List.mem_cons.mp hmem with e1 | hmem
    · exact absurd (e1 ▸ Heap.lt_size eo) (Nat.lt_irrefl _)
    · cases hmem
  · show Value.bool _ = Value.bool _
    rw [← all_range, hb, List.size_toArray, List.length_map]
end

/-! ### == and != of data at any depth: none, bools, ints, texts, lists, tuples -/
mutual
inductive Dp (K : PySem.W.Frag) (H : Hp) : V → PyData → Prop
  | non : Dp K H .non .none
  | bl (b : Bool) : Dp K H (.bl b) (.bool b)
  | int (i : Int) : Dp K H (.int i) (.int i)
  | str (x : Str) : Dp K H (.str x) (.str x)
  | lst {a : Addr} {xs : List V} {ds : List PyData} : SqL K H a xs → DpAll K H xs ds → Dp K H (.ref a) (.list ds)
  | tup {a : Addr} {xs : List V} {ds : List PyData} : SqT K H a xs → DpAll K H xs ds → Dp K H (.ref a) (.tuple ds)
inductive DpAll (K : PySem.W.Frag) (H : Hp) : List V → List PyData → Prop
  | nil : DpAll K H [] []
  | cons {v : V} {vs : List V} {d : PyData} {ds : List PyData} : Dp K H v d → DpAll K H vs ds → DpAll K H (v :: vs) (d :: ds)
end
section
variable {X : Cx} {pins : List (Addr × Obj)} {σ : St} {H : Hp} {s : Shared}
mutual
theorem Dp.reads (I : Inv X pins σ H s) : ∀ (d : PyData) (v : V) (u : Value), Dp X.K H v d → RelV v u → ∃ as, Reads s.heap u d as
  | .none, _, _, h, r => by
    cases h
    cases r
    exact ⟨_, Reads.none⟩
  | .bool b, _, _, h, r => by
    cases h
    cases r
    exact ⟨_, Reads.bool b⟩
  | .int i, _, _, h, r => by
    cases h
    obtain ⟨t, rfl⟩ := r
    exact ⟨_, Reads.int i t⟩
  | .str x, _, _, h, r => by
    cases h
    obtain ⟨t, rfl⟩ := r
    exact ⟨_, Reads.str x t⟩
  | .list ds, _, _, h, r => by
    cases h with
    | lst hs ha =>
      cases r
      obtain ⟨its, rv, ⟨o, n, ho, hc, _, hd⟩, _⟩ := I.list hs
      obtain ⟨as, hr⟩ := Dp.readsAll I ds _ its ha rv
      exact ⟨_, Reads.list ho hc hd hr⟩
  | .tuple ds, _, _, h, r => by
    cases h with
    | tup hs ha =>
      cases r
      obtain ⟨its, rv, ⟨o, ho, hc, n, hd⟩, _⟩ := I.tuple hs
      obtain ⟨as, hr⟩ := Dp.readsAll I ds _ its ha rv
      exact ⟨_, Reads.tuple ho hc hd hr⟩
  | .dict _, _, _, h, _ => by cases h
theorem Dp.readsAll (I : Inv X pins σ H s) : ∀ (ds : List PyData) (vs : List V) (us : List Value), DpAll X.K H vs ds → Vals vs us → ∃ as, ReadsAll s.heap us ds as
  | [], _, _, h, r => by
    cases h
    cases r
    exact ⟨_, ReadsAll.nil⟩
  | d :: ds, _, _, h, r => by
    cases h with
    | cons h1 h2 =>
      cases r with
      | cons r1 r2 =>
        obtain ⟨as, q1⟩ := Dp.reads I d _ _ h1 r1
        obtain ⟨bs, q2⟩ := Dp.readsAll I ds _ _ h2 r2
        exact ⟨_, ReadsAll.cons q1 q2⟩
end
end
section
variable {X : Cx}
def rEqD (K : PySem.W.Frag) : R2 := fun x y H Q => ∃ d e, Dp K H x d ∧ Dp K H y e ∧ SeqAt.shaped d = true ∧ SeqAt.shaped e = true ∧ Q (.bl (PyData.eqv d e)) H
def rNeD (K : PySem.W.Frag) : R2 := fun x y H Q => ∃ d e, Dp K H x d ∧ Dp K H y e ∧ SeqAt.shaped d = true ∧ SeqAt.shaped e = true ∧ Q (.bl (!PyData.eqv d e)) H
theorem op_eqD (hu : X.A.units + 64 < cLine) : OpR X (compareOp .Eq) (rEqD X.K) := by
  intro pins s σ H x y v u Q I rx ry h
  obtain ⟨d, e, hd, he, sd, se, q⟩ := h
  obtain ⟨as, r1⟩ := Dp.reads I d x v hd rx
  obtain ⟨bs, r2⟩ := Dp.reads I e y u he ry
  exact SeqAt.compareEq_shaped r1 r2 sd se hu ⟨.bl _, H, I, rfl, q⟩
theorem op_neD (hu : X.A.units + 64 < cLine) : OpR X (compareOp .NotEq) (rNeD X.K) := by
  intro pins s σ H x y v u Q I rx ry h
  obtain ⟨d, e, hd, he, sd, se, q⟩ := h
  obtain ⟨as, r1⟩ := Dp.reads I d x v hd rx
  obtain ⟨bs, r2⟩ := Dp.reads I e y u he ry
  exact SeqAt.compareNe_shaped r1 r2 sd se hu ⟨.bl _, H, I, rfl, q⟩
end
end L2

namespace L2
open PySem PySem.Spec PyProof.Rows
abbrev CellAt (h : Heap) (c : Addr) (v : Option Value) : Prop := h.IsCell c v
def relS (scope sc : Scope) : Scope :=
  { scope with names := scope.names.map fun (n, k) => if (k == .free && sc.kind == .function && sc.names.lookup n == some .cell) then (n, .cell) else (n, k) }

def cloFrom (cells : List (Str × Addr)) : List (Str × NameKind) → List (Str × Addr) → List (Str × Addr)
  | [], acc => acc
  | (n, k) :: r, acc => if k == .free then cloFrom cells r ((n, (cells.lookup n).getD 0) :: acc) else cloFrom cells r acc

theorem closure_loop (env : Env) (f : Str × NameKind → List (Str × Addr) → Sem (ForInStep (List (Str × Addr))))
    (hf : ∀ n k c, f (n, k) c = if k == .free then (do let a ← cellOf env n; pure (.yield ((n, a) :: c))) else pure (.yield c)) :
    ∀ (names : List (Str × NameKind)) (acc : List (Str × Addr)), (∀ y ∈ names, y.2 = .free → ∃ c, env.cells.lookup y.1 = some c) → forIn names acc f = pure (cloFrom env.cells names acc)
  | [], acc, _ => by rw [List.forIn_nil]; rfl
  | (n, k) :: r, acc, h => by
    rw [List.forIn_cons, hf]
    have ih := fun acc => closure_loop env f hf r acc fun y hy => h y (List.mem_cons_of_mem _ hy)
    unfold cloFrom
    by_cases hk : (k == NameKind.free) = true
    · rw [if_pos hk, if_pos hk]
      obtain ⟨c, hc⟩ := h (n, k) List.mem_cons_self (by simpa using hk)
      have e : cellOf env n = pure c := by unfold cellOf; rw [hc]
      rw [e]
      have e2 : (env.cells.lookup n).getD 0 = c := by rw [hc]; rfl
      rw [e2]
      exact ih _
    · rw [if_neg hk, if_neg hk]
      exact ih _
theorem closure_ok {scope : Scope} {env : Env} (h : ∀ y ∈ scope.names, y.2 = .free → ∃ c, env.cells.lookup y.1 = some c) : closureFor scope env = pure (cloFrom env.cells scope.names []) := by
  simp only [closureFor]
  rw [closure_loop env _ (fun n k c => rfl) scope.names [] h]
  rfl

theorem mem_lookup {α : Type} : ∀ {l : List (Str × α)} {n : Str} {c : α}, (n, c) ∈ l → ∃ c', l.lookup n = some c'
  | (k, v) :: r, n, c, h => by
    rw [List.lookup_cons]
    cases hb : n == k with
    | true => exact ⟨_, rfl⟩
    | false =>
      rcases List.mem_cons.mp h with e | h
      · cases e; simp at hb
      · exact mem_lookup h

theorem cloFrom_mem {cells : List (Str × Addr)} : ∀ {names : List (Str × NameKind)} {acc : List (Str × Addr)} {n : Str} {c : Addr}, (n, c) ∈ cloFrom cells names acc → (n, c) ∈ acc ∨ ((n, .free) ∈ names ∧ c = (cells.lookup n).getD 0)
  | [], _, _, _, h => .inl h
  | (m, k) :: r, acc, n, c, h => by
    unfold cloFrom at h
    split at h
    · rename_i hk
      have hk : k = .free := by simpa using hk
      rcases cloFrom_mem h with h | ⟨h1, h2⟩
      · rcases List.mem_cons.mp h with e | h
        · cases e; exact .inr ⟨hk ▸ List.mem_cons_self, rfl⟩
        · exact .inl h
      · exact .inr ⟨List.mem_cons_of_mem _ h1, h2⟩
    · rcases cloFrom_mem h with h | ⟨h1, h2⟩
      · exact .inl h
      · exact .inr ⟨List.mem_cons_of_mem _ h1, h2⟩
theorem cloFrom_acc {cells : List (Str × Addr)} : ∀ {names : List (Str × NameKind)} {acc : List (Str × Addr)} {p : Str × Addr}, p ∈ acc → p ∈ cloFrom cells names acc
  | [], _, _, h => h
  | (m, k) :: r, acc, p, h => by
    unfold cloFrom
    split
    · exact cloFrom_acc (List.mem_cons_of_mem _ h)
    · exact cloFrom_acc h
theorem cloFrom_has {cells : List (Str × Addr)} : ∀ {names : List (Str × NameKind)} {acc : List (Str × Addr)} {n : Str}, (n, .free) ∈ names → (n, (cells.lookup n).getD 0) ∈ cloFrom cells names acc
  | (m, k) :: r, acc, n, h => by
    unfold cloFrom
    rcases List.mem_cons.mp h with e | h
    · cases e
      exact cloFrom_acc List.mem_cons_self
    · split
      · exact cloFrom_has h
      · exact cloFrom_has h

theorem cells_mem : ∀ {names : List (Str × NameKind)} {h : Heap} {acc : List (Str × Addr)} {x : Str} {c : Addr}, (x, c) ∈ cellsFrom h.objs.size names acc →
    (x, c) ∈ acc ∨ ((x, .cell) ∈ names ∧ h.objs.size ≤ c ∧ CellAt (pushCells h names) c none)
  | [], _, _, _, _, h => .inl h
  | (n, k) :: r, h, acc, x, c, hm => by
    unfold cellsFrom at hm
    unfold pushCells
    split at hm
    · rename_i hk
      rw [if_pos hk]
      have hk : k = .cell := by simpa using hk
      rw [← Heap.size_push h { cls := .type "cell", data := .cell none }] at hm
      rcases cells_mem hm with hm | ⟨h1, h2, h3⟩
      · rcases List.mem_cons.mp hm with e | hm
        · cases e
          exact .inr ⟨hk ▸ List.mem_cons_self, Nat.le_refl _, _, pushCells_keeps r _ _ _ (Heap.get?_push_size _ rfl), rfl⟩
        · exact .inl hm
      · rw [Heap.size_push] at h2
        exact .inr ⟨List.mem_cons_of_mem _ h1, Nat.le_of_succ_le h2, h3⟩
    · rename_i hk
      rw [if_neg hk]
      rcases cells_mem hm with hm | ⟨h1, h2, h3⟩
      · exact .inl hm
      · exact .inr ⟨List.mem_cons_of_mem _ h1, h2, h3⟩
theorem cells_acc : ∀ {names : List (Str × NameKind)} {n : Nat} {acc : List (Str × Addr)} {p : Str × Addr}, p ∈ acc → p ∈ cellsFrom n names acc
  | [], _, _, _, h => h
  | (m, k) :: r, n, acc, p, h => by
    unfold cellsFrom
    split
    · exact cells_acc (List.mem_cons_of_mem _ h)
    · exact cells_acc h
theorem cells_has : ∀ {names : List (Str × NameKind)} {n : Nat} {acc : List (Str × Addr)} {x : Str}, (x, .cell) ∈ names → ∃ c, (x, c) ∈ cellsFrom n names acc
  | (m, k) :: r, n, acc, x, h => by
    unfold cellsFrom
    rcases List.mem_cons.mp h with e | h
    · cases e
      exact ⟨n, cells_acc List.mem_cons_self⟩
    · split
      · exact cells_has h
      · exact cells_has h
theorem cells_inj : ∀ {names : List (Str × NameKind)} {h : Heap} {acc : List (Str × Addr)} {x y : Str} {c : Addr}, (∀ p ∈ acc, p.2 < h.objs.size) → (∀ x y c, (x, c) ∈ acc → (y, c) ∈ acc → x = y) →
    (x, c) ∈ cellsFrom h.objs.size names acc → (y, c) ∈ cellsFrom h.objs.size names acc → x = y
  | [], _, _, _, _, _, _, hi, h1, h2 => hi _ _ _ h1 h2
  | (n, k) :: r, h, acc, x, y, c, hl, hi, h1, h2 => by
    unfold cellsFrom at h1 h2
    split at h1
    · rename_i hk
      rw [if_pos hk] at h2
      rw [← Heap.size_push h { cls := .type "cell", data := .cell none }] at h1 h2
      refine cells_inj (h := h.push _) (fun p hp => ?_) (fun x y c a b => ?_) h1 h2
      · rw [Heap.size_push]
        rcases List.mem_cons.mp hp with rfl | hp
        · exact Nat.lt_succ_self _
        · exact Nat.lt_succ_of_lt (hl p hp)
      · rcases List.mem_cons.mp a with e | a <;> rcases List.mem_cons.mp b with e' | b
        · cases e; cases e'; rfl
        · cases e; exact absurd (hl _ b) (Nat.lt_irrefl _)
        · cases e'; exact absurd (hl _ a) (Nat.lt_irrefl _)
        · exact hi _ _ _ a b
    · rename_i hk
      rw [if_neg hk] at h2
      exact cells_inj hl hi h1 h2

theorem newEnv_comp {M : Model} {A : Around} {E : Value → Shared → Prop} {s : Shared} {scope : Scope} {globals : Addr} {closure : List (Str × Addr)} {qual : Str} {func : Option Addr} {code : Value} {around : Env} {builtins : Addr} {Q : Env → Shared → Prop}
    (h : Q (newEnv scope s.heap.objs.size globals (cellsFrom (s.heap.objs.size + 1) scope.names closure) qual func code (some around) builtins)
      { s with heap := pushCells (s.heap.push { cls := .type "dict", data := .dict #[] }) scope.names }) :
    wpAny M A (newFunctionEnv scope globals closure [] qual func code (some around) builtins) Q E s := by
  simp only [newFunctionEnv, Option.isSome_some, if_true]
  refine wpAny_bind (wpAny_alloc ?_)
  refine wpAny_bind (wpAny_layCells _ (fun n k c => rfl) scope.names closure _ _ ?_)
  rw [show ({ s with heap := s.heap.push { cls := .type "dict", data := .dict #[] } } : Shared).heap.objs.size = s.heap.objs.size + 1 from Heap.size_push ..]
  rw [List.forIn_nil]
  exact wpAny_bind (wpAny_pure (wpAny_pure h))

/-- every name of the written scope, in the scope that runs -/
theorem lookup_relS {sc : Scope} : ∀ {names : List (Str × NameKind)} {x : Str} {k : NameKind},
    (names.map fun (n, k) => if (k == NameKind.free && sc.kind == .function && sc.names.lookup n == some .cell) then (n, NameKind.cell) else (n, k)).lookup x = some k →
    ∃ k', names.lookup x = some k' ∧ (k = k' ∨ (k' = .free ∧ k = .cell))
  | [], _, _, h => by simp at h
  | (n, k₀) :: r, x, k, h => by
    have ih := @lookup_relS sc r x k
    have h' : List.lookup x ((if (k₀ == NameKind.free && sc.kind == .function && sc.names.lookup n == some .cell) = true then (n, NameKind.cell) else (n, k₀)) :: (r.map _)) = some k := h
    cases hx : x == n with
    | true =>
      simp only [List.lookup_cons, hx]
      by_cases hc : (k₀ == NameKind.free && sc.kind == .function && sc.names.lookup n == some .cell) = true
      · rw [if_pos hc] at h'
        simp only [List.lookup_cons, hx] at h'
        cases h'
        simp only [Bool.and_eq_true, beq_iff_eq] at hc
        exact ⟨k₀, rfl, .inr ⟨hc.1.1, rfl⟩⟩
      · rw [if_neg hc] at h'
        simp only [List.lookup_cons, hx] at h'
        cases h'
        exact ⟨_, rfl, .inl rfl⟩
    | false =>
      simp only [List.lookup_cons, hx]
      by_cases hc : (k₀ == NameKind.free && sc.kind == .function && sc.names.lookup n == some .cell) = true
      · rw [if_pos hc] at h'
        simp only [List.lookup_cons, hx] at h'
        exact ih h'
      · rw [if_neg hc] at h'
        simp only [List.lookup_cons, hx] at h'
        exact ih h'
theorem lookup_relS_keep {sc : Scope} : ∀ {names : List (Str × NameKind)} {x : Str} {k : NameKind}, k ≠ .free → names.lookup x = some k →
    (names.map fun (n, k) => if (k == NameKind.free && sc.kind == .function && sc.names.lookup n == some .cell) then (n, NameKind.cell) else (n, k)).lookup x = some k
  | [], _, _, _, h => by simp at h
  | (n, k₀) :: r, x, k, hk, h => by
    have ih := @lookup_relS_keep sc r x k hk
    show List.lookup x ((if (k₀ == NameKind.free && sc.kind == .function && sc.names.lookup n == some .cell) = true then (n, NameKind.cell) else (n, k₀)) :: (r.map _)) = some k
    cases hx : x == n with
    | true =>
      simp only [List.lookup_cons, hx] at h
      cases h
      have : ¬ (k₀ == NameKind.free && sc.kind == .function && sc.names.lookup n == some .cell) = true := by simp [hk]
      rw [if_neg this]
      simp only [List.lookup_cons, hx]
    | false =>
      simp only [List.lookup_cons, hx] at h
      by_cases hc : (k₀ == NameKind.free && sc.kind == .function && sc.names.lookup n == some .cell) = true
      · rw [if_pos hc]; simp only [List.lookup_cons, hx]; exact ih h
      · rw [if_neg hc]; simp only [List.lookup_cons, hx]; exact ih h

theorem pushCells_size : ∀ (names : List (Str × NameKind)) (h : Heap), h.objs.size ≤ (pushCells h names).objs.size
  | [], _ => Nat.le_refl _
  | (_, k) :: r, h => by
    unfold pushCells
    split
    · refine Nat.le_trans ?_ (pushCells_size r _)
      rw [Heap.size_push]; exact Nat.le_succ _
    · exact pushCells_size r h


/-- the names of a comprehension's block: its own (with their places in N), or captured -/
structure BlkOk (N : List Str) (sc scope : Scope) (own : List (Str × Nat)) : Prop where
  kind : scope.kind = .function
  uniq : ∀ y ∈ scope.names, scope.names.lookup y.1 = some y.2
  ix : ∀ p ∈ own, N[p.2]? = some p.1
  free : ∀ y ∈ scope.names, y.2 = .free → sc.names.lookup y.1 = some .cell ∨ sc.names.lookup y.1 = some .free
  own : ∀ y ∈ scope.names, y.2 = .local ∨ y.2 = .cell → y.1 ∈ own.map (·.1) ∨ y.1 ∉ N
/-- the slots of the block's own names forgotten -/
def wipe (σ : St) : List Nat → St
  | [] => σ
  | v :: vs => (wipe σ vs).set v none
theorem wipe_length (σ : St) : ∀ vs : List Nat, (wipe σ vs).length = σ.length
  | [] => rfl
  | v :: vs => by unfold wipe; rw [List.length_set, wipe_length σ vs]
theorem wipe_some {σ : St} {i : Nat} {x : V} : ∀ {vs : List Nat}, (wipe σ vs)[i]? = some (some x) → σ[i]? = some (some x) ∧ i ∉ vs
  | [], h => ⟨h, by simp⟩
  | v :: vs, h => by
    unfold wipe at h
    by_cases hi : v = i
    · subst hi
      by_cases hv : v < (wipe σ vs).length
      · rw [List.getElem?_set_self hv] at h; cases h
      · rw [List.getElem?_eq_none (by simpa using hv)] at h; cases h
    · rw [List.getElem?_set_ne hi] at h
      obtain ⟨h1, h2⟩ := wipe_some h
      exact ⟨h1, by simp only [List.mem_cons, not_or]; exact ⟨fun e => hi e.symm, h2⟩⟩

/-- the context of a block that starts at s, its iterator's objects at fp -/
abbrev Cx.blk (X : Cx) (s : Shared) (H : Hp) (scope : Scope) (cenv : Env) (fp : List Addr) : Cx := { X with s_0 := s, H_0 := H, env := cenv, outer := X.stack, ex := fp, fn := fun x => scope.names.lookup x == some .cell, pn := [], xe := fun _ _ => False }
section
variable {X : Cx} {pins : List (Addr × Obj)} {σ : St} {H : Hp} {s : Shared}
theorem block_start {scope : Scope} {own : List (Str × Nat)} {fp : List Addr} (I : Inv X pins σ H s) (ok : BlkOk X.N X.env.scope scope own) (hN : X.N.Nodup) (hfp : ∀ b ∈ fp, FpOk X pins H b ∧ b < s.heap.objs.size) :
    Inv (X.blk s H scope (compEnvC scope (cellsFrom (s.heap.objs.size + 1) scope.names (cloFrom X.env.cells scope.names [])) s.heap.objs.size X.env) fp) [] (wipe σ (own.map (·.2))) H { s with heap := pushCells (s.heap.push { cls := .type "dict", data := .dict #[] }) scope.names } := by
  have hfree : ∀ y ∈ scope.names, y.2 = .free → ∃ c, X.env.cells.lookup y.1 = some c := fun y hy e => by
    rcases ok.free y hy e with k | k
    · exact I.ok.has _ (.inl k)
    · exact I.ok.has _ (.inr k)
  generalize hcenv : compEnvC scope (cellsFrom (s.heap.objs.size + 1) scope.names (cloFrom X.env.cells scope.names [])) s.heap.objs.size X.env = cenv
  have kp : ∀ b o, s.heap.get? b = some o → (pushCells (s.heap.push { cls := .type "dict", data := .dict #[] }) scope.names).get? b = some o := fun b o e => pushCells_keeps _ _ _ _ (Heap.get?_push_of_some _ e)
  have hL : cenv.locals = s.heap.objs.size := by rw [← hcenv]; rfl
  have hcl : cenv.cells = cellsFrom (s.heap.objs.size + 1) scope.names (cloFrom X.env.cells scope.names []) := by rw [← hcenv]; rfl
  have hsc : cenv.scope = relS scope X.env.scope := by rw [← hcenv]; rfl
  rw [← Heap.size_push s.heap { cls := .type "dict", data := .dict #[] }] at hcl
  have cm : ∀ {y c}, (y, c) ∈ cloFrom X.env.cells scope.names [] → X.env.cells.lookup y = some c ∧ c < s.heap.objs.size := fun {y c} hm => by
    rcases cloFrom_mem hm with hm | ⟨h1, rfl⟩
    · cases hm
    · obtain ⟨c, hc⟩ := hfree _ h1 rfl
      rw [hc]
      obtain ⟨w, z⟩ := I.cell _ _ hc
      exact ⟨rfl, z.lt⟩
  have mem : ∀ {y c}, cenv.cells.lookup y = some c → (X.env.cells.lookup y = some c ∧ c < s.heap.objs.size) ∨ (s.heap.objs.size + 1 ≤ c ∧ CellAt (pushCells (s.heap.push { cls := .type "dict", data := .dict #[] }) scope.names) c none) := fun {y c} e => by
    rw [hcl] at e
    rcases cells_mem (PySem.mem_of_lookup e) with hm | ⟨_, h2, h3⟩
    · exact .inl (cm hm)
    · rw [Heap.size_push] at h2; exact .inr ⟨h2, h3⟩
  have look : ∀ {y}, scope.names.lookup y = some .free → ∃ c, cenv.cells.lookup y = some c ∧ X.env.cells.lookup y = some c := fun {y} hl => by
    have hy : (y, NameKind.free) ∈ scope.names := PySem.mem_of_lookup hl
    obtain ⟨c', e'⟩ := mem_lookup (cells_acc (names := scope.names) (n := (s.heap.push { cls := .type "dict", data := .dict #[] }).objs.size) (cloFrom_has (cells := X.env.cells) (acc := []) hy))
    rw [← hcl] at e'
    refine ⟨c', e', ?_⟩
    rw [hcl] at e'
    rcases cells_mem (PySem.mem_of_lookup e') with hm | ⟨h1, _, _⟩
    · exact (cm hm).1
    · have := ok.uniq _ h1
      rw [hl] at this; cases this
  have okB : (X.blk s H scope cenv fp).Ok := by
    refine ⟨I.ok.mod, by show cenv.scope.kind = _; rw [hsc]; exact ok.kind, by show cenv.globals = _; rw [← hcenv]; exact I.ok.glob, by show cenv.builtins = _; rw [← hcenv]; exact I.ok.blt, by show s.heap.objs.size ≤ cenv.locals; rw [hL]; exact Nat.le_refl _,
      fun y z c e1 e2 => ?_, fun y hy => ?_, fun y c z e => ?_, I.ok.hd, I.ok.frames, .inl rfl, fun b hb => ⟨?_, fun y c e z => ?_⟩, I.bs, Nat.le_trans I.ok.bsz I.sz, fun b o e hb => ?_, fun b hb z => ?_, I.stack, I.stkFree⟩
    · have e1 : cenv.cells.lookup y = some c := e1
      have e2 : cenv.cells.lookup z = some c := e2
      rw [hcl] at e1 e2
      refine cells_inj (fun p hp => ?_) (fun y z c a b => I.ok.inj y z c (cm a).1 (cm b).1) (PySem.mem_of_lookup e1) (PySem.mem_of_lookup e2)
      rw [Heap.size_push]
      exact Nat.lt_succ_of_lt (cm (y := p.1) (c := p.2) hp).2
    · show ∃ c, cenv.cells.lookup y = some c
      have key : ∀ k, cenv.kindOf y = some k → (k = .cell ∨ k = .free) → ∃ c, cenv.cells.lookup y = some c := fun k hk hk' => by
        unfold Env.kindOf at hk
        rw [hsc] at hk
        obtain ⟨k', e, r⟩ := lookup_relS hk
        have : k' = .cell ∨ k' = .free := by
          rcases r with rfl | ⟨rfl, _⟩
          · exact hk'
          · exact .inr rfl
        rcases this with rfl | rfl
        · obtain ⟨c, hm⟩ := cells_has (n := (s.heap.push { cls := .type "dict", data := .dict #[] }).objs.size) (acc := cloFrom X.env.cells scope.names []) (PySem.mem_of_lookup e)
          obtain ⟨c', e'⟩ := mem_lookup hm
          exact ⟨c', by rw [hcl]; exact e'⟩
        · obtain ⟨c, h1, _⟩ := look e
          exact ⟨c, h1⟩
      rcases hy with hy | hy
      · exact key _ hy (.inl rfl)
      · exact key _ hy (.inr rfl)
    · have z : (scope.names.lookup y == some NameKind.cell) = true := z
      have z : scope.names.lookup y = some .cell := by simpa using z
      have e : cenv.cells.lookup y = some c := e
      rw [hcl] at e
      rcases cells_mem (PySem.mem_of_lookup e) with hm | ⟨_, h2, _⟩
      · rcases cloFrom_mem hm with hm | ⟨h1, _⟩
        · cases hm
        · have q := ok.uniq _ h1
          rw [z] at q; cases q
      · rw [Heap.size_push] at h2
        exact Nat.le_of_succ_le h2
    · show b ≠ cenv.locals
      rw [hL]; exact Nat.ne_of_lt (hfp b hb).2
    · have e : cenv.cells.lookup y = some c := e
      rcases mem e with ⟨h1, _⟩ | ⟨h1, _⟩
      · exact (hfp b hb).1.2.2.2.2.1 y c h1 z
      · have h2 : s.heap.objs.size + 1 ≤ b := by rw [← z]; exact h1
        exact absurd (Nat.lt_of_lt_of_le (hfp b hb).2 (Nat.le_of_succ_le h2)) (Nat.lt_irrefl _)
    · rcases (hfp b hb).1.2.2.2.1 with z | z
      · exact I.ok.noex b o e z
      · exact absurd (Nat.lt_of_lt_of_le (Heap.lt_size e) (Nat.le_trans I.ok.bsz z)) (Nat.lt_irrefl _)
    · rcases List.mem_cons.mp (I.stkSub b z) with z | z
      · exact (hfp b hb).1.2.1 z
      · exact (hfp b hb).1.2.2.1 z
  refine ⟨okB, rfl, I.bare, Un.kept kp, ⟨fun _ => none, ?_, fun i y av e1 e2 e3 => ?_⟩, fun y c e => ?_, ?_, fun y c e => ?_, fun p hp => ?_, I.hok.kept kp, by rw [wipe_length]; exact I.len⟩
  · show Heap.Ns _ cenv.locals _
    rw [hL]
    exact Heap.Ns.keeps (Heap.Ns.new ..) fun b o e => pushCells_keeps _ _ _ _ e
  · obtain ⟨e2, hne⟩ := wipe_some e2
    have hfr : scope.names.lookup y = some .free ∧ (cenv.kindOf y = some .cell ∨ cenv.kindOf y = some .free) := by
      have key : ∀ k, cenv.scope.names.lookup y = some k → k = .local ∨ k = .cell ∨ k = .free → scope.names.lookup y = some .free ∧ (cenv.kindOf y = some .cell ∨ cenv.kindOf y = some .free) := fun k hk hk' => by
        have hk0 := hk
        rw [hsc] at hk
        obtain ⟨k', e, r⟩ := lookup_relS hk
        have no : ¬ (k' = .local ∨ k' = .cell) := fun hh => by
          rcases ok.own _ (PySem.mem_of_lookup e) hh with e' | e'
          · obtain ⟨p, hp, hpy⟩ := List.mem_map.mp e'
            have e3 := ok.ix p hp
            have : p.1 = y := hpy
            rw [this] at e3
            exact hne (List.mem_map.mpr ⟨p, hp, nodup_ix hN e3 e1⟩)
          · exact e' (List.mem_of_getElem? e1)
        rcases r with rfl | ⟨rfl, rfl⟩
        · rcases hk' with rfl | rfl | rfl
          · exact absurd (.inl rfl) no
          · exact absurd (.inr rfl) no
          · exact ⟨e, .inr hk0⟩
        · exact ⟨e, .inl hk0⟩
      have e3 : Vis cenv.scope y := e3
      rcases e3 with e3 | e3 | e3
      · exact key _ e3 (.inl rfl)
      · exact key _ e3 (.inr (.inl rfl))
      · exact key _ e3 (.inr (.inr rfl))
    obtain ⟨m, hn, hl⟩ := I.loc
    have hvis : Vis X.env.scope y := (ok.free _ (PySem.mem_of_lookup hfr.1) rfl).elim (fun k => .inr (.inl k)) (fun k => .inr (.inr k))
    obtain ⟨w, r, q⟩ := hl i y av e1 e2 hvis
    refine ⟨w, r, .inr ⟨hfr.2, ?_⟩⟩
    obtain ⟨c, h1, h2⟩ := look hfr.1
    rcases q with ⟨k, _⟩ | ⟨_, c', e', z⟩
    · have k : X.env.scope.names.lookup y = some .local := k
      rcases ok.free _ (PySem.mem_of_lookup hfr.1) rfl with k' | k' <;> rw [show X.env.scope.names.lookup y = _ from k'] at k <;> cases k
    · rw [h2] at e'; cases e'
      exact ⟨c, h1, z.keeps kp⟩
  · have e : cenv.cells.lookup y = some c := e
    rcases mem e with ⟨h1, _⟩ | ⟨_, z⟩
    · obtain ⟨w, z⟩ := I.cell y c h1
      exact ⟨w, z.keeps kp⟩
    · exact ⟨_, z⟩
  · show H cenv.locals = none
    rw [hL]; exact I.hok.fresh (Nat.le_refl _)
  · have e : cenv.cells.lookup y = some c := e
    rcases mem e with ⟨h1, _⟩ | ⟨h1, _⟩
    · exact I.freeC y c h1
    · exact I.hok.fresh (Nat.le_of_succ_le h1)
  · exact absurd (show p ∈ ([] : List (Addr × Obj)) ++ [] from hp) (by simp)

/-- an item appended to a tracked list -/
theorem app_ok {E : Value → Shared → Prop} {D : Addr} {xs : List V} {y : V} {v : Value} {Q : Value → Shared → Prop} (I : Inv X pins σ H s) (hD : H D = some (.lst xs)) (hz : xs.length < sizeLine) (r : RelV y v)
    (h : ∀ s', Inv X pins σ (upd H D (.lst (xs ++ [y]))) s' → Q .none s') : wpAny (model X.prog X.w) X.A (call (.builtin "list.append") [.ref D, v]) Q E s := by
  obtain ⟨hz', its, n, ri, e⟩ := I.hok D _ hD
  have hl := ri.length
  refine append_at (hsz := by rw [List.size_toArray]; omega) e fun h' sb ho' => ?_
  refine h { s with heap := h' } (I.write (t' := s.toks) (by rw [hD]; trivial) (.inl rfl) (fun b u hb q => (sb.2 b hb).trans q) ⟨_, ho'⟩ ⟨by rw [List.length_append]; exact hz, its ++ [v], n + 1, ri.append (.cons r .nil), ?_⟩)
  rw [ho']
  simp

/-- a clause's tests -/
def PTs (X : Cx) (ifs : List Expr) (t : TT) : Prop :=
  ∀ (pins : List (Addr × Obj)) (s : Shared) (σ : St) (H : Hp) (Q : Bool → Hp → Prop), Inv X pins σ H s → t σ H Q →
    wpAny (model X.prog X.w) X.A (forIn ifs true fun c r => if r = true then do let ok ← isTrue c X.env (eval c X.env); pure (ForInStep.yield ok) else pure (ForInStep.yield r)) (TP X pins σ Q) X.xe s
def tYes : TT := fun _ H Q => Q true H
theorem pts_nil : PTs X [] tYes := fun _ _ _ H _ I h => wpAny_tests_nil ⟨H, I, h⟩
theorem pts_one {c : Expr} {t : TT} (h : PT X c t) : PTs X [c] t := fun pins s σ H Q I hw => wpAny_tests_one (h pins s σ H Q I hw)
end

theorem thnF {α : Type} {t : Sem α} {Q Q' : α → Shared → Prop} {M : Model} {A : Around} {E : Value → Shared → Prop} {s : Shared} (h : wpAny M A t Q (fun _ _ => False) s) (hQ : ∀ a s, Q a s → Q' a s) : wpAny M A t Q' E s := wpAny_mono h hQ fun _ _ z => False.elim z

/-- the loop of a list comprehension's block, the target of any form (codeAny_compLoop_tests asks a target that no tuple goes to; statement and proof follow it, PyProof/CompMap.lean:41-61, with the step letOwnedTupleGo kept) -/
theorem compLoop_any {prog : Program} {w : World} {A : Around} {R : Result → Shared → Prop} {s : Shared} {elt target iter : Expr} {ifs : List Expr} {scope : Scope} {pos : Pos} {it acc : Value} {env : Env} (I : Nat → Shared → Prop)
    (turn : ∀ n s, I n s → wpAny (model prog w) A (pyNext it) (fun r s₁ => match r with
      | none => R (.ok .next) s₁
      | some v => wpAny (model prog w) A (letOwnedTupleGo target it v) (fun _ s₁' => wpAny (model prog w) A (assign target env v) (fun _ s₂ =>
          wpAny (model prog w) A (forIn ifs true fun c r => if r = true then do let ok ← isTrue c env (eval c env); pure (ForInStep.yield ok) else pure (ForInStep.yield r)) (fun ok s₃ =>
            if ok = true then wpAny (model prog w) A (eval elt env) (fun x s₄ =>
              wpAny (model prog w) A (call (.builtin "list.append") [acc, x]) (fun _ s₅ => ∃ m, m < n ∧ I m s₅) (notedBy (model prog w) A env fun e s' => R (.error e) s') s₄) (notedBy (model prog w) A env fun e s' => R (.error e) s') s₃
            else ∃ m, m < n ∧ I m s₃) (notedBy (model prog w) A env fun e s' => R (.error e) s') s₂) (notedBy (model prog w) A env fun e s' => R (.error e) s') s₁') (notedBy (model prog w) A env fun e s' => R (.error e) s') s₁) (notedBy (model prog w) A env fun e s' => R (.error e) s') s)
    (n : Nat) (h : I n s) :
    codeAny (model prog w) A (.compLoop (.ListComp elt [⟨target, iter, ifs, 0⟩] scope pos) 0 it acc env) R s := by
  refine codeAny_loop rfl I (fun n s hI => ?_) n h
  show wpAny _ A ((compTurn (.ListComp elt [⟨target, iter, ifs, 0⟩] scope pos) 0 it acc env).onRaise (fun x => do noteFrame x env; theTreesLotGoes x)) _ _ s
  refine wpAny_noted ?_
  rw [compTurn_list]
  refine wpAny_bind (wpAny_standAt (wpAny_bind (wpAny_mono (turn n s hI) (fun r s₁ h₁ => ?_) fun _ _ h' => h')))
  cases r with
  | none => exact wpAny_pure h₁
  | some v =>
    refine wpAny_bind (wpAny_mono h₁ (fun _ s₁' h₁' => ?_) fun _ _ h' => h')
    refine wpAny_bind (wpAny_mono h₁' (fun _ s₂ h₂ => wpAny_bind (wpAny_mono h₂ (fun ok s₃ h₃ => ?_) fun _ _ h' => h')) fun _ _ h' => h')
    cases ok with
    | false => exact wpAny_pure ⟨rfl, h₃⟩
    | true =>
      exact wpAny_bind (wpAny_bind (wpAny_mono h₃ (fun x s₄ h₄ => wpAny_bind (wpAny_mono h₄ (fun _ s₅ h₅ => wpAny_pure (wpAny_pure ⟨rfl, h₅⟩)) fun _ _ h' => h')) fun _ _ h' => h'))

section
variable {X : Cx}
/-- [elt for target in iter if ..]: D the new list; W by the turn and a measure, Nx what a turn is to reach -/
def tLc (wi : TI) (g : TG) (tt : TT) (te : TE) (vs : List Nat) : TE := fun σ H Q => wi σ H fun J H1 => ∀ D, H1 D = none → ∃ W : Nat → Nat → Hp → Prop, (∃ m, W 0 m (upd H1 D (.lst []))) ∧ ∀ i m H, W i m H →
  (J.stop i H ∧ Q (.ref D) H) ∨ (J.go i H ∧ ∃ Nx : Hp → Prop, (∀ H', Nx H' → ∃ m', m' < m ∧ W (i + 1) m' H') ∧ ∀ x H', J.yld i H x H' → g x (wipe σ vs) H' fun σ2 H2 => wipe σ2 vs = wipe σ vs ∧ tt σ2 H2 fun b H3 =>
    if b = true then te σ2 H3 fun y H4 => ∃ acc, H4 D = some (.lst acc) ∧ acc.length < sizeLine ∧ Nx (upd H4 D (.lst (acc ++ [y]))) else Nx H3)
theorem lc_core {pins : List (Addr × Obj)} {s : Shared} {σ : St} {H : Hp} {Q : VK} {elt tg iter : Expr} {ifs : List Expr} {scope : Scope} {own : List (Str × Nat)} {pos pos' : Pos} {wi : TI} {g : TG} {tt : TT} {te : TE} {use : Option (Value → Sem Unit)} {Qf : Value → Shared → Prop}
    (hc : X.calm = true) (hN : X.N.Nodup) (I : Inv X pins σ H s) (hi : PI X tg iter wi) (ok : BlkOk X.N X.env.scope scope own)
    (hg : ∀ (s : Shared) (H : Hp) (C : Addr) (cl : List (Str × Addr)) (fp : List Addr), PG (X.blk s H scope (compEnvC scope cl C X.env) fp) tg g) (ht : ∀ (s : Shared) (H : Hp) (C : Addr) (cl : List (Str × Addr)) (fp : List Addr), PTs (X.blk s H scope (compEnvC scope cl C X.env) fp) ifs tt)
    (he : ∀ (s : Shared) (H : Hp) (C : Addr) (cl : List (Str × Addr)) (fp : List Addr), PE (X.blk s H scope (compEnvC scope cl C X.env) fp) elt te) (hs : ∀ x, foldedSetIterable iter X.env x = pure x)
    (h : tLc wi g tt te (own.map (·.2)) σ H Q)
    (hRR : ∀ D C s' m H', Inv X pins σ H' s' → Q (.ref D) H' → s'.heap.Ns C m → FpOk X pins H' C → compPost (model X.prog X.w) X.A X.xe use Qf (.ref D) C (.ok .next) s') :
    wpAny (model X.prog X.w) X.A (comprehension (.ListComp elt [⟨tg, iter, ifs, 0⟩] scope pos) scope X.env pos' (newList []) false (eval iter X.env) use) Qf X.xe s := by
  have hfree : ∀ y ∈ scope.names, y.2 = .free → ∃ c, X.env.cells.lookup y.1 = some c := fun y hy e => by
    rcases ok.free y hy e with k | k
    · exact I.ok.has _ (.inl k)
    · exact I.ok.has _ (.inr k)
  refine wpAny_comprehension_free (use := use) rfl hs (closure_ok hfree) ok.kind (fun y hy e => by rw [ok.uniq y hy, e])
    (thn (hi pins s σ H _ I h) fun xv s1 hx => thn hx fun itv s2 h2 => ?_)
  obtain ⟨it, fp, tn, J, H2, e, I2, T, st2, f2, q⟩ := h2
  subst e
  refine wpAny_newObj_type (newEnv_comp ?_) (by show 0 ≤ sizeLine; decide)
  generalize hD : s2.heap.objs.size = D
  have hDn : H2 D = none := I2.hok.fresh (Nat.le_of_eq hD)
  obtain ⟨W, ⟨m0, w0⟩, turn⟩ := q D hDn
  -- the new list
  generalize hs3 : ({ s2 with heap := s2.heap.push { cls := .type "list", data := .seq ([] : List Value).toArray } } : Shared) = s3
  have I3 : Inv X pins σ (upd H2 D (.lst [])) s3 := by
    rw [← hs3]
    refine I2.laid (t' := s2.toks) (fun b o e => Heap.get?_push_of_some _ e) (Nat.le_of_eq hD) ⟨Nat.zero_le _, [], 0, .nil, ?_⟩
    rw [← hD]
    exact Heap.get?_push_size _ rfl
  have h3 : s3.heap = s2.heap.push { cls := .type "list", data := .seq ([] : List Value).toArray } := by rw [← hs3]
  have sz : ∀ b ∈ fp, b < s2.heap.objs.size := fun b hb => by
    obtain ⟨o, e, _⟩ := T.obj _ _ st2 b hb
    exact Heap.lt_size e
  have f3 : ∀ b ∈ fp, FpOk X pins (upd H2 D (.lst [])) b ∧ b < s3.heap.objs.size := fun b hb => by
    have hlt := sz b hb
    refine ⟨⟨?_, (f2 b hb).2⟩, by rw [h3, Heap.size_push]; exact Nat.lt_succ_of_lt hlt⟩
    rw [upd_ne (by rw [← hD]; exact Nat.ne_of_lt hlt)]
    exact (f2 b hb).1
  have st3 : tn 0 s3.heap := T.keep _ _ _ st2 fun b _ o e => by rw [h3]; exact Heap.get?_push_of_some _ e
  have I4 := block_start I3 ok hN f3
  have pg := hg s3 (upd H2 D (.lst [])) s3.heap.objs.size (cellsFrom (s3.heap.objs.size + 1) scope.names (cloFrom X.env.cells scope.names [])) fp
  have pt := ht s3 (upd H2 D (.lst [])) s3.heap.objs.size (cellsFrom (s3.heap.objs.size + 1) scope.names (cloFrom X.env.cells scope.names [])) fp
  have pe := he s3 (upd H2 D (.lst [])) s3.heap.objs.size (cellsFrom (s3.heap.objs.size + 1) scope.names (cloFrom X.env.cells scope.names [])) fp
  show codeAny _ _ (.compStart (.ListComp elt [⟨tg, iter, ifs, 0⟩] scope pos) 0 (.ref it) (.ref D) (compEnvC scope (cellsFrom (s3.heap.objs.size + 1) scope.names (cloFrom X.env.cells scope.names [])) s3.heap.objs.size X.env)) (compPost (model X.prog X.w) X.A X.xe use Qf (.ref D) s3.heap.objs.size) { s3 with heap := pushCells (s3.heap.push { cls := .type "dict", data := .dict #[] }) scope.names }
  have nfp : ∀ b ∈ fp, (upd H2 D (.lst [])) b = none := fun b hb => (f3 b hb).1.1
  generalize hce : compEnvC scope (cellsFrom (s3.heap.objs.size + 1) scope.names (cloFrom X.env.cells scope.names [])) s3.heap.objs.size X.env = ce at I4 pg pt pe ⊢
  have cL : ce.locals = s3.heap.objs.size := by subst hce; rfl
  generalize hH3 : upd H2 D (.lst []) = H3 at I3 I4 pg pt pe w0 nfp f3
  generalize hs4 : ({ s3 with heap := pushCells (s3.heap.push { cls := .type "dict", data := .dict #[] }) scope.names } : Shared) = s4 at I4 ⊢
  have st4 : tn 0 s4.heap := T.keep _ _ _ st3 fun b _ o e => by rw [← hs4]; exact pushCells_keeps _ _ _ _ (Heap.get?_push_of_some _ e)
  have stat : ∀ {σ' : St} {H' : Hp} {s' : Shared}, Inv (X.blk s3 H3 scope ce fp) [] σ' H' s' → (∀ b ∈ fp, H' b = none) → ∀ b ∈ fp, FpOk (X.blk s3 H3 scope ce fp) [] H' b := fun {σ' H' s'} I' hn b hb =>
    ⟨hn b hb, (I'.ok.exf b hb).1, I'.ok.exfs b hb, .inl hb, fun x c e => (I'.ok.exf b hb).2 x c e, fun p hp => absurd (show p ∈ ([] : List (Addr × Obj)) ++ [] from hp) (by simp)⟩
  have loop : codeAny (model X.prog X.w) X.A (.compLoop (.ListComp elt [⟨tg, iter, ifs, 0⟩] scope pos) 0 (.ref it) (.ref D) ce) (compPost (model X.prog X.w) X.A X.xe use Qf (.ref D) s3.heap.objs.size) s4 := by
    refine compLoop_any (fun n s' => ∃ i H', Inv (X.blk s3 H3 scope ce fp) [] (wipe σ (own.map (·.2))) H' s' ∧ tn i s'.heap ∧ (∀ b ∈ fp, H' b = none) ∧ W i n H') ?_ m0 ⟨0, H3, I4, st4, nfp, w0⟩
    rintro n s5 ⟨i, H5, I5, st5, n5, w5⟩
    rcases turn i n H5 w5 with ⟨stop, qq⟩ | ⟨go, Nx, hNx, step⟩
    · have td := T.done (X.blk s3 H3 scope ce fp) rfl rfl rfl hc i [] s5 _ H5 (fun _ _ => False) I5 (stat I5 n5) st5 stop
      refine thnF td fun r s6 ⟨hr, I6⟩ => ?_
      subst hr
      -- back in the def's context
      have I7 : Inv X pins σ H5 s6 := I3.call' (ch := fp) I6.os I6.base I6.hok I6.bare fun b hb => ⟨(f3 b hb).1.2.2.2.1, (f3 b hb).1.2.1, (f3 b hb).1.2.2.2.2.1, (f3 b hb).1.2.2.2.2.2⟩
      have nC : H5 s3.heap.objs.size = none := by
        have z : H5 ce.locals = none := I6.free
        rw [cL] at z
        exact z
      obtain ⟨m, hn, _⟩ := I6.loc
      have hn : s6.heap.Ns ce.locals m := hn
      rw [cL] at hn
      exact hRR D s3.heap.objs.size s6 m H5 I7 qq hn (I3.fpOk (Nat.le_refl _) nC)
    · have ti := T.item (X.blk s3 H3 scope ce fp) rfl rfl rfl hc i [] s5 _ H5 (fun _ _ => False) I5 (stat I5 n5) st5 go
      refine thnF ti fun r s6 ⟨u, hr, h6⟩ => ?_
      subst hr
      refine thnF h6 fun _ s7 ⟨x, H7, I7, r7, y7, st7, n7⟩ => ?_
      have I7' := I7.pinned (stat I7 n7) (T.obj _ _ st7)
      refine thnF (pg _ s7 _ H7 x u _ I7' r7 (step x H7 y7)) fun _ s8 ⟨σ8, H8, I8, hw8, q8⟩ => ?_
      refine thnF (pt _ s8 σ8 H8 _ I8 q8) fun b s9 ⟨H9, I9, q9⟩ => ?_
      -- the turn's end
      have fin : ∀ {s' : Shared} {H' : Hp}, Inv (X.blk s3 H3 scope ce fp) ([] ++ pinsAt fp s7.heap) σ8 H' s' → Nx H' → ∃ m, m < n ∧ ∃ i H', Inv (X.blk s3 H3 scope ce fp) [] (wipe σ (own.map (·.2))) H' s' ∧ tn i s'.heap ∧ (∀ b ∈ fp, H' b = none) ∧ W i m H' := fun {s' H'} I' nx => by
        obtain ⟨m', hm, w'⟩ := hNx H' nx
        have pin' : ∀ b ∈ fp, ∀ o, s7.heap.get? b = some o → s'.heap.get? b = some o ∧ H' b = none := fun b hb o e =>
          let z := I'.pin (b, o) (List.mem_append_right _ (List.mem_append_right _ (mem_pinsAt hb e)))
          ⟨z.1, z.2.1⟩
        have hl : (wipe σ (own.map (·.2))).length = σ8.length := by rw [← hw8, wipe_length]
        refine ⟨m', hm, i + 1, H', (I'.unpinned (pins := [])).weak hl (fun j v e => ?_), T.keep _ _ _ st7 fun b hb o e => (pin' b hb o e).1, fun b hb => ?_, w'⟩
        · rw [← hw8] at e
          exact (wipe_some e).1
        · obtain ⟨o, e, _⟩ := T.obj _ _ st7 b hb
          exact (pin' b hb o e).2
      cases b with
      | false =>
        simp only [Bool.false_eq_true, if_false] at q9 ⊢
        exact fin I9 q9
      | true =>
        simp only [if_true] at q9 ⊢
        refine thnF (pe _ s9 σ8 H9 _ I9 q9) fun z s10 ⟨yv, H10, I10, r10, acc, hD10, hz10, nx⟩ => ?_
        exact app_ok (X := X.blk s3 H3 scope ce fp) I10 hD10 hz10 r10 fun s11 I11 => fin I11 nx
  exact codeAny_compStart_list loop (T.self X.A 0 _ _ _ st4 loop)
/-- as a value -/
theorem pe_lc {elt tg iter : Expr} {ifs : List Expr} {scope : Scope} {own : List (Str × Nat)} {pos : Pos} {wi : TI} {g : TG} {tt : TT} {te : TE} (hc : X.calm = true) (hN : X.N.Nodup) (hi : PI X tg iter wi) (ok : BlkOk X.N X.env.scope scope own)
    (hg : ∀ (s : Shared) (H : Hp) (C : Addr) (cl : List (Str × Addr)) (fp : List Addr), PG (X.blk s H scope (compEnvC scope cl C X.env) fp) tg g) (ht : ∀ (s : Shared) (H : Hp) (C : Addr) (cl : List (Str × Addr)) (fp : List Addr), PTs (X.blk s H scope (compEnvC scope cl C X.env) fp) ifs tt)
    (he : ∀ (s : Shared) (H : Hp) (C : Addr) (cl : List (Str × Addr)) (fp : List Addr), PE (X.blk s H scope (compEnvC scope cl C X.env) fp) elt te) (hs : ∀ x, foldedSetIterable iter X.env x = pure x := by intro _; rfl) :
    PE X (.ListComp elt [⟨tg, iter, ifs, 0⟩] scope pos) (tLc wi g tt te (own.map (·.2))) := by
  intro pins s σ H Q I h
  rw [eval_ListComp]
  refine lc_core hc hN I hi ok hg ht he hs h fun D C s' m H' I' q hn f => ⟨m, hn, fun h'' sb => ?_⟩
  obtain ⟨f0, f1, f2, f3, f4, f5⟩ := f
  exact ⟨.ref D, H', I'.turned (t' := s'.toks) (fun b o hb e => (sb.2 b hb).trans e) f0 f1 f3 f4 f5, rfl, q⟩
/-- name = [..] on one line, the name a local -/
theorem ps_setLc {i : Nat} {y : Str} {py : Pos} {elt tg iter : Expr} {ifs : List Expr} {scope : Scope} {own : List (Str × Nat)} {pos spos : Pos} {wi : TI} {g : TG} {tt : TT} {te : TE} (hc : X.calm = true) (hN : X.N.Nodup) (hy : X.N[i]? = some y) (hyl : X.env.scope.names.lookup y = some .local)
    (hsw : swapsWith (.ListComp elt [⟨tg, iter, ifs, 0⟩] scope pos) (some (.Name y py)) spos.line X.env = pure true) (hi : PI X tg iter wi) (ok : BlkOk X.N X.env.scope scope own)
    (hg : ∀ (s : Shared) (H : Hp) (C : Addr) (cl : List (Str × Addr)) (fp : List Addr), PG (X.blk s H scope (compEnvC scope cl C X.env) fp) tg g) (ht : ∀ (s : Shared) (H : Hp) (C : Addr) (cl : List (Str × Addr)) (fp : List Addr), PTs (X.blk s H scope (compEnvC scope cl C X.env) fp) ifs tt)
    (he : ∀ (s : Shared) (H : Hp) (C : Addr) (cl : List (Str × Addr)) (fp : List Addr), PE (X.blk s H scope (compEnvC scope cl C X.env) fp) elt te) (hs : ∀ x, foldedSetIterable iter X.env x = pure x := by intro _; rfl) :
    PS X (.Assign [.Name y py] (.ListComp elt [⟨tg, iter, ifs, 0⟩] scope pos) spos) (tAsg (tLc wi g tt te (own.map (·.2))) (gName i)) := by
  intro pins s σ H D I h
  rw [exec_Assign_Name_used _ _ _ _ hsw]
  refine wpAny_bind (wpAny_standAt (wpAny_bind ?_))
  show wpAny _ X.A (do let _ ← comprehension (.ListComp elt [⟨tg, iter, ifs, 0⟩] scope pos) scope X.env (firstIterPos [⟨tg, iter, ifs, 0⟩] pos) (newList []) false (eval iter X.env) (some (assign (.Name y py) X.env))) _ _ s
  have h : tLc wi g tt te (own.map (·.2)) σ H (fun x H1 => gName i x σ H1 D.nx) := h
  refine wpAny_bind (thn (lc_core (Qf := fun _ s' => SP X pins D .next s') hc hN I hi ok hg ht he hs h fun L C s' m H' I' q hn f => ?_) fun _ s' hq => wpAny_pure (wpAny_pure hq))
  show wpAny _ _ (assign (.Name y py) X.env (.ref L)) _ _ _
  refine wpAny_assign_Name (store_ok2 (v := V.ref L) I' hN hy (.inl hyl) rfl (fun s2 I2 ⟨a, sb, ha⟩ => ?_) (.inr hyl))
  obtain ⟨f0, f1, f2, f3, f4, f5⟩ := f
  have haC : C ≠ a := by
    rcases ha with z | z
    · rw [z]; exact f1
    · exact fun e => f4 y a z e.symm
  refine ⟨m, hn.sameBut sb haC, fun h3 sb3 => ?_⟩
  exact ⟨_, H', I2.turned (t' := s2.toks) (fun b o hb e => (sb3.2 b hb).trans e) f0 f1 f3 f4 f5, q⟩
theorem sw_true {elt : Expr} {gs : List Comprehension} {scope : Scope} {pos py : Pos} {y : Str} {l : Nat} {env : Env} (hk : env.scope.kind = .function) (hy : env.scope.names.lookup y = some .local) (hl : (py.line == pos.line) = true)
    (ha : (scope.names.any fun (n, k) => n == y && (k == .local || k == .cell)) = false) : swapsWith (.ListComp elt gs scope pos) (some (.Name y py)) l env = pure true := by
  have ky : env.kindOf y = some .local := hy
  have hb : env.blockKind = .function := by unfold Env.blockKind; rw [hk]; rfl
  unfold swapsWith
  simp only [hb, ky, ha, Expr.pos, hl]
  rfl
end

/-! ### the forms one uses -/
/-- over a range: Pv by the turn and the heap (the new list at D within) -/
theorem lc_range {lo : Int} {n : Nat} {g : TG} {tt : TT} {te : TE} {vs : List Nat} {σ : St} {H1 : Hp} {D : Addr} {Qd : Hp → Prop} (Pv : Nat → Hp → Prop) (h0 : Pv 0 (upd H1 D (.lst [])))
    (hs : ∀ i H, i < n → Pv i H → g (.int (lo + i)) (wipe σ vs) H fun σ2 H2 => wipe σ2 vs = wipe σ vs ∧ tt σ2 H2 fun b H3 =>
      if b = true then te σ2 H3 fun y H4 => ∃ acc, H4 D = some (.lst acc) ∧ acc.length < sizeLine ∧ Pv (i + 1) (upd H4 D (.lst (acc ++ [y]))) else Pv (i + 1) H3) (hd : ∀ H, Pv n H → Qd H) :
    ∃ W : Nat → Nat → Hp → Prop, (∃ m, W 0 m (upd H1 D (.lst []))) ∧ ∀ i m H, W i m H →
      ((Itr lo n).stop i H ∧ Qd H) ∨ ((Itr lo n).go i H ∧ ∃ Nx : Hp → Prop, (∀ H', Nx H' → ∃ m', m' < m ∧ W (i + 1) m' H') ∧ ∀ x H', (Itr lo n).yld i H x H' → g x (wipe σ vs) H' fun σ2 H2 => wipe σ2 vs = wipe σ vs ∧ tt σ2 H2 fun b H3 =>
        if b = true then te σ2 H3 fun y H4 => ∃ acc, H4 D = some (.lst acc) ∧ acc.length < sizeLine ∧ Nx (upd H4 D (.lst (acc ++ [y]))) else Nx H3) := by
  refine ⟨fun i m H => m = n - i ∧ i ≤ n ∧ Pv i H, ⟨n, by simp, Nat.zero_le _, h0⟩, ?_⟩
  rintro i m H ⟨rfl, hi, p⟩
  by_cases hlt : i < n
  · refine .inr ⟨hlt, Pv (i + 1), fun H' p' => ⟨n - (i + 1), by omega, rfl, hlt, p'⟩, fun x H' y => ?_⟩
    obtain ⟨e, y⟩ := y
    subst e y
    exact hs i _ hlt p
  · have e : i = n := by omega
    subst e
    exact .inl ⟨Nat.le_refl _, hd H p⟩
/-- over a list that the block leaves as it is -/
theorem lc_list {K : PySem.W.Frag} {a : Addr} {xs : List V} {g : TG} {tt : TT} {te : TE} {vs : List Nat} {σ : St} {H1 : Hp} {D : Addr} {Qd : Hp → Prop} (Pv : Nat → Hp → Prop) (h0 : Pv 0 (upd H1 D (.lst []))) (hl : ∀ i H, i ≤ xs.length → Pv i H → SqL K H a xs)
    (hs : ∀ i x H, xs[i]? = some x → Pv i H → g x (wipe σ vs) H fun σ2 H2 => wipe σ2 vs = wipe σ vs ∧ tt σ2 H2 fun b H3 =>
      if b = true then te σ2 H3 fun y H4 => ∃ acc, H4 D = some (.lst acc) ∧ acc.length < sizeLine ∧ Pv (i + 1) (upd H4 D (.lst (acc ++ [y]))) else Pv (i + 1) H3) (hd : ∀ H, Pv xs.length H → Qd H) :
    ∃ W : Nat → Nat → Hp → Prop, (∃ m, W 0 m (upd H1 D (.lst []))) ∧ ∀ i m H, W i m H →
      ((Itl K a).stop i H ∧ Qd H) ∨ ((Itl K a).go i H ∧ ∃ Nx : Hp → Prop, (∀ H', Nx H' → ∃ m', m' < m ∧ W (i + 1) m' H') ∧ ∀ x H', (Itl K a).yld i H x H' → g x (wipe σ vs) H' fun σ2 H2 => wipe σ2 vs = wipe σ vs ∧ tt σ2 H2 fun b H3 =>
        if b = true then te σ2 H3 fun y H4 => ∃ acc, H4 D = some (.lst acc) ∧ acc.length < sizeLine ∧ Nx (upd H4 D (.lst (acc ++ [y]))) else Nx H3) := by
  refine ⟨fun i m H => m = xs.length - i ∧ i ≤ xs.length ∧ Pv i H, ⟨xs.length, by simp, Nat.zero_le _, h0⟩, ?_⟩
  rintro i m H ⟨rfl, hi, p⟩
  have q := hl i H hi p
  by_cases hlt : i < xs.length
  · refine .inr ⟨⟨xs, xs[i], q, by simp [hlt]⟩, Pv (i + 1), fun H' p' => ⟨xs.length - (i + 1), by omega, rfl, hlt, p'⟩, fun x H' y => ?_⟩
    obtain ⟨e, y⟩ := y
    subst e
    exact hs i x _ (y xs q) p
  · have e : i = xs.length := by omega
    subst e
    exact .inl ⟨⟨xs, q, Nat.le_refl _⟩, hd H p⟩
/-- over a tuple -/
theorem lc_tup {K : PySem.W.Frag} {a : Addr} {xs : List V} {g : TG} {tt : TT} {te : TE} {vs : List Nat} {σ : St} {H1 : Hp} {D : Addr} {Qd : Hp → Prop} (Pv : Nat → Hp → Prop) (h0 : Pv 0 (upd H1 D (.lst []))) (hl : ∀ i H, i ≤ xs.length → Pv i H → SqT K H a xs)
    (hs : ∀ i x H, xs[i]? = some x → Pv i H → g x (wipe σ vs) H fun σ2 H2 => wipe σ2 vs = wipe σ vs ∧ tt σ2 H2 fun b H3 =>
      if b = true then te σ2 H3 fun y H4 => ∃ acc, H4 D = some (.lst acc) ∧ acc.length < sizeLine ∧ Pv (i + 1) (upd H4 D (.lst (acc ++ [y]))) else Pv (i + 1) H3) (hd : ∀ H, Pv xs.length H → Qd H) :
    ∃ W : Nat → Nat → Hp → Prop, (∃ m, W 0 m (upd H1 D (.lst []))) ∧ ∀ i m H, W i m H →
      ((Itt K a).stop i H ∧ Qd H) ∨ ((Itt K a).go i H ∧ ∃ Nx : Hp → Prop, (∀ H', Nx H' → ∃ m', m' < m ∧ W (i + 1) m' H') ∧ ∀ x H', (Itt K a).yld i H x H' → g x (wipe σ vs) H' fun σ2 H2 => wipe σ2 vs = wipe σ vs ∧ tt σ2 H2 fun b H3 =>
        if b = true then te σ2 H3 fun y H4 => ∃ acc, H4 D = some (.lst acc) ∧ acc.length < sizeLine ∧ Nx (upd H4 D (.lst (acc ++ [y]))) else Nx H3) := by
  refine ⟨fun i m H => m = xs.length - i ∧ i ≤ xs.length ∧ Pv i H, ⟨xs.length, by simp, Nat.zero_le _, h0⟩, ?_⟩
  rintro i m H ⟨rfl, hi, p⟩
  have q := hl i H hi p
  by_cases hlt : i < xs.length
  · refine .inr ⟨⟨xs, xs[i], q, by simp [hlt]⟩, Pv (i + 1), fun H' p' => ⟨xs.length - (i + 1), by omega, rfl, hlt, p'⟩, fun x H' y => ?_⟩
    obtain ⟨e, y⟩ := y
    subst e
    exact hs i x _ (y xs q) p
  · have e : i = xs.length := by omega
    subst e
    exact .inl ⟨⟨xs, q, Nat.le_refl _⟩, hd H p⟩
def blkC (N : List Str) (sc scope : Scope) (own : List (Str × Nat)) : Bool :=
  (match scope.kind with | .function => true | _ => false) && (scope.names.all fun y => decide (scope.names.lookup y.1 = some y.2)) && (own.all fun p => decide (N[p.2]? = some p.1)) &&
    (scope.names.all fun y => match y.2 with
      | .free => (match sc.names.lookup y.1 with | some .cell => true | some .free => true | _ => false)
      | .local => decide (y.1 ∈ own.map (·.1)) || decide (y.1 ∉ N)
      | .cell => decide (y.1 ∈ own.map (·.1)) || decide (y.1 ∉ N)
      | _ => true)
theorem blkOk_by {N : List Str} {sc scope : Scope} {own : List (Str × Nat)} (h : blkC N sc scope own = true) : BlkOk N sc scope own := by
  unfold blkC at h
  simp only [Bool.and_eq_true, List.all_eq_true, decide_eq_true_eq] at h
  obtain ⟨⟨⟨h1, h2⟩, h3⟩, h4⟩ := h
  refine ⟨?_, h2, h3, fun y hy e => ?_, fun y hy e => ?_⟩
  · split at h1
    · assumption
    · cases h1
  · have q := h4 y hy
    simp only [e] at q
    split at q <;> first | exact .inl (by assumption) | exact .inr (by assumption) | cases q
  · have q := h4 y hy
    rcases e with e | e <;> (simp only [e, Bool.or_eq_true, decide_eq_true_eq] at q; exact q)
end L2

namespace L2
open PySem PySem.Spec PyProof.Rows

theorem compTurn2_out (elt t0 i0 t1 i1 : Expr) (ifs0 ifs1 : List Expr) (scope : Scope) (pos : Pos) (it acc : Value) (env : Env) :
    compTurn (.ListComp elt [⟨t0, i0, ifs0, 0⟩, ⟨t1, i1, ifs1, 0⟩] scope pos) 0 it acc env = (do
      standAt i0.pos
      match ← pyNext it with
      | none => pure (.done .next)
      | some v =>
        letOwnedTupleGo t0 it v
        assign t0 env v
        let mut ok := true
        for c in ifs0 do
          if ok then ok ← isTrue c env (eval c env)
        if ok then
          let x ← eval i1 env
          standAt i1.pos
          let x ← foldedSetIterable i1 env x
          let _ ← runOwn (.compStart (.ListComp elt [⟨t0, i0, ifs0, 0⟩, ⟨t1, i1, ifs1, 0⟩] scope pos) 1 (← holding [x] (pyIter x)) acc env) env
        again (.compLoop (.ListComp elt [⟨t0, i0, ifs0, 0⟩, ⟨t1, i1, ifs1, 0⟩] scope pos) 0 it acc env)) := by rfl
theorem compTurn2_in (elt t0 i0 t1 i1 : Expr) (ifs0 ifs1 : List Expr) (scope : Scope) (pos : Pos) (it acc : Value) (env : Env) :
    compTurn (.ListComp elt [⟨t0, i0, ifs0, 0⟩, ⟨t1, i1, ifs1, 0⟩] scope pos) 1 it acc env = (do
      standAt i1.pos
      match ← pyNext it with
      | none => pure (.done .next)
      | some v =>
        letOwnedTupleGo t1 it v
        assign t1 env v
        let mut ok := true
        for c in ifs1 do
          if ok then ok ← isTrue c env (eval c env)
        if ok then
          (do let _ ← call (.builtin "list.append") [acc, ← eval elt env])
        again (.compLoop (.ListComp elt [⟨t0, i0, ifs0, 0⟩, ⟨t1, i1, ifs1, 0⟩] scope pos) 1 it acc env)) := by rfl

section
variable {prog : Program} {w : World} {A : Around} {R : Result → Shared → Prop} {s : Shared} {elt t0 i0 t1 i1 : Expr} {ifs0 ifs1 : List Expr} {scope : Scope} {pos : Pos} {it acc : Value} {env : Env}
/-- the loop of the first clause -/
theorem compLoop2_out (hs : ∀ x, foldedSetIterable i1 env x = pure x) (I : Nat → Shared → Prop)
    (turn : ∀ n s, I n s → wpAny (model prog w) A (pyNext it) (fun r s₁ => match r with
      | none => R (.ok .next) s₁
      | some v => wpAny (model prog w) A (letOwnedTupleGo t0 it v) (fun _ s₁' => wpAny (model prog w) A (assign t0 env v) (fun _ s₂ =>
          wpAny (model prog w) A (forIn ifs0 true fun c r => if r = true then do let ok ← isTrue c env (eval c env); pure (ForInStep.yield ok) else pure (ForInStep.yield r)) (fun ok s₃ =>
            if ok = true then wpAny (model prog w) A (eval i1 env) (fun x s₄ => wpAny (model prog w) A (pyIter x) (fun it1 s₅ =>
              codeAny (model prog w) A (.compStart (.ListComp elt [⟨t0, i0, ifs0, 0⟩, ⟨t1, i1, ifs1, 0⟩] scope pos) 1 it1 acc env) (fun r s' => match r with
                | .ok _ => ∃ m, m < n ∧ I m s'
                | .error _ => False) s₅) (notedBy (model prog w) A env fun e s' => R (.error e) s') s₄) (notedBy (model prog w) A env fun e s' => R (.error e) s') s₃
            else ∃ m, m < n ∧ I m s₃) (notedBy (model prog w) A env fun e s' => R (.error e) s') s₂) (notedBy (model prog w) A env fun e s' => R (.error e) s') s₁') (notedBy (model prog w) A env fun e s' => R (.error e) s') s₁) (notedBy (model prog w) A env fun e s' => R (.error e) s') s)
    (n : Nat) (h : I n s) :
    codeAny (model prog w) A (.compLoop (.ListComp elt [⟨t0, i0, ifs0, 0⟩, ⟨t1, i1, ifs1, 0⟩] scope pos) 0 it acc env) R s := by
  refine codeAny_loop rfl I (fun n s hI => ?_) n h
  show wpAny _ A ((compTurn (.ListComp elt [⟨t0, i0, ifs0, 0⟩, ⟨t1, i1, ifs1, 0⟩] scope pos) 0 it acc env).onRaise (fun x => do noteFrame x env; theTreesLotGoes x)) _ _ s
  refine wpAny_noted ?_
  rw [compTurn2_out]
  refine wpAny_bind (wpAny_standAt (wpAny_bind (wpAny_mono (turn n s hI) (fun r s₁ h₁ => ?_) fun _ _ h' => h')))
  cases r with
  | none => exact wpAny_pure h₁
  | some v =>
    refine wpAny_bind (wpAny_mono h₁ (fun _ s₁' h₁' => ?_) fun _ _ h' => h')
    refine wpAny_bind (wpAny_mono h₁' (fun _ s₂ h₂ => wpAny_bind (wpAny_mono h₂ (fun ok s₃ h₃ => ?_) fun _ _ h' => h')) fun _ _ h' => h')
    cases ok with
    | false => exact wpAny_pure ⟨rfl, h₃⟩
    | true =>
      refine wpAny_bind (wpAny_mono h₃ (fun x s₄ h₄ => ?_) fun _ _ h' => h')
      refine wpAny_bind (wpAny_standAt (wpAny_bind (wpAny_of_eq (hs x) (wpAny_bind (wpAny_holding (wpAny_mono h₄ (fun it1 s₅ h₅ => ?_) fun _ _ h' => h'))))))
      refine wpAny_bind (wpAny_runOwn ?_)
      rw [Around.mark_none]
      refine codeAny_mono h₅ fun r s' hr => ?_
      cases r with
      | ok f =>
        first
          | exact wpAny_pure ⟨rfl, hr⟩
          | exact wpAny_bind (wpAny_pure (wpAny_pure ⟨rfl, hr⟩))
      | error e => exact hr.elim
/-- the loop of the second -/
theorem compLoop2_in (I : Nat → Shared → Prop)
    (turn : ∀ n s, I n s → wpAny (model prog w) A (pyNext it) (fun r s₁ => match r with
      | none => R (.ok .next) s₁
      | some v => wpAny (model prog w) A (letOwnedTupleGo t1 it v) (fun _ s₁' => wpAny (model prog w) A (assign t1 env v) (fun _ s₂ =>
          wpAny (model prog w) A (forIn ifs1 true fun c r => if r = true then do let ok ← isTrue c env (eval c env); pure (ForInStep.yield ok) else pure (ForInStep.yield r)) (fun ok s₃ =>
            if ok = true then wpAny (model prog w) A (eval elt env) (fun x s₄ =>
              wpAny (model prog w) A (call (.builtin "list.append") [acc, x]) (fun _ s₅ => ∃ m, m < n ∧ I m s₅) (notedBy (model prog w) A env fun e s' => R (.error e) s') s₄) (notedBy (model prog w) A env fun e s' => R (.error e) s') s₃
            else ∃ m, m < n ∧ I m s₃) (notedBy (model prog w) A env fun e s' => R (.error e) s') s₂) (notedBy (model prog w) A env fun e s' => R (.error e) s') s₁') (notedBy (model prog w) A env fun e s' => R (.error e) s') s₁) (notedBy (model prog w) A env fun e s' => R (.error e) s') s)
    (n : Nat) (h : I n s) :
    codeAny (model prog w) A (.compLoop (.ListComp elt [⟨t0, i0, ifs0, 0⟩, ⟨t1, i1, ifs1, 0⟩] scope pos) 1 it acc env) R s := by
  refine codeAny_loop rfl I (fun n s hI => ?_) n h
  show wpAny _ A ((compTurn (.ListComp elt [⟨t0, i0, ifs0, 0⟩, ⟨t1, i1, ifs1, 0⟩] scope pos) 1 it acc env).onRaise (fun x => do noteFrame x env; theTreesLotGoes x)) _ _ s
  refine wpAny_noted ?_
  rw [compTurn2_in]
  refine wpAny_bind (wpAny_standAt (wpAny_bind (wpAny_mono (turn n s hI) (fun r s₁ h₁ => ?_) fun _ _ h' => h')))
  cases r with
  | none => exact wpAny_pure h₁
  | some v =>
    refine wpAny_bind (wpAny_mono h₁ (fun _ s₁' h₁' => ?_) fun _ _ h' => h')
    refine wpAny_bind (wpAny_mono h₁' (fun _ s₂ h₂ => wpAny_bind (wpAny_mono h₂ (fun ok s₃ h₃ => ?_) fun _ _ h' => h')) fun _ _ h' => h')
    cases ok with
    | false => exact wpAny_pure ⟨rfl, h₃⟩
    | true =>
      exact wpAny_bind (wpAny_bind (wpAny_mono h₃ (fun x s₄ h₄ => wpAny_bind (wpAny_mono h₄ (fun _ s₅ h₅ => wpAny_pure (wpAny_pure ⟨rfl, h₅⟩)) fun _ _ h' => h')) fun _ _ h' => h'))
/-- the second clause's start -/
theorem compStart1_ok (h0 : codeAny (model prog w) A (.compLoop (.ListComp elt [⟨t0, i0, ifs0, 0⟩, ⟨t1, i1, ifs1, 0⟩] scope pos) 1 it acc env) R s)
    (h : wpAny (model prog w) A (pyIter it) (fun it' s' => codeAny (model prog w) A (.compLoop (.ListComp elt [⟨t0, i0, ifs0, 0⟩, ⟨t1, i1, ifs1, 0⟩] scope pos) 1 it' acc env) R s')
      (notedBy (model prog w) A env fun x s' => R (.error x) s') s) :
    codeAny (model prog w) A (.compStart (.ListComp elt [⟨t0, i0, ifs0, 0⟩, ⟨t1, i1, ifs1, 0⟩] scope pos) 1 it acc env) R s := by
  refine codeAny_of_tree ?_
  show wpAny _ _ ((compStart (.ListComp elt [⟨t0, i0, ifs0, 0⟩, ⟨t1, i1, ifs1, 0⟩] scope pos) 1 it acc env).onRaise (fun x => do noteFrame x env; standAt theWindowsPlace)) _ _ s
  refine wpAny_notedAt ?_
  unfold compStart
  show wpAny _ _ (ask >>= _) _ _ s
  refine wpAny_bind (wpAny_askSetting (wpAny_ite ?_))
  split
  · first
      | exact wpAny_bind (wpAny_pure (wpAny_pure (And.intro rfl h0)))
      | exact wpAny_pure (And.intro rfl h0)
  · first
      | exact wpAny_bind (wpAny_rule (wpAny_bind (wpAny_standAt (wpAny_bind (wpAny_mono h (fun it' s' h' => wpAny_pure (And.intro rfl h')) fun _ _ x => x)))))
      | (refine wpAny_bind (wpAny_rule ?_); show wpAny _ _ (standAt i1.pos >>= _) _ _ s; exact wpAny_bind (wpAny_standAt (wpAny_bind (wpAny_mono h (fun it' s' h' => wpAny_pure (And.intro rfl h')) fun _ _ x => x))))
end

theorem wipe_out {σ : St} {i : Nat} : ∀ {vs : List Nat}, i ∉ vs → (wipe σ vs)[i]? = σ[i]?
  | [], _ => rfl
  | v :: vs, h => by
    have h1 : v ≠ i := fun e => h (by rw [e]; exact List.mem_cons_self)
    have h2 : i ∉ vs := fun m => h (List.mem_cons_of_mem _ m)
    unfold wipe
    rw [List.getElem?_set_ne h1]
    exact wipe_out h2
section
variable {X : Cx}
/-- [elt for tg in iter if .. for tg1 in iter1 if ..]: behind the first clause's store and tests the second source's own loop, from which Nx is reached. vs: the block's names; vs1: those of the second target -/
def tLc2 (wi : TI) (g : TG) (tt : TT) (wi1 : TI) (g1 : TG) (tt1 : TT) (te : TE) (vs vs1 : List Nat) : TE := fun σ H Q => wi σ H fun J H1 => ∀ D, H1 D = none → ∃ W : Nat → Nat → Hp → Prop, (∃ m, W 0 m (upd H1 D (.lst []))) ∧ ∀ i m H, W i m H →
  (J.stop i H ∧ Q (.ref D) H) ∨ (J.go i H ∧ ∃ Nx : Hp → Prop, (∀ H', Nx H' → ∃ m', m' < m ∧ W (i + 1) m' H') ∧ ∀ x H', J.yld i H x H' → g x (wipe σ vs) H' fun σ2 H2 => wipe σ2 vs = wipe σ vs ∧ tt σ2 H2 fun b H3 =>
    if b = true then wi1 σ2 H3 fun J1 H4 => ∃ W1 : Nat → Nat → Hp → Prop, (∃ m, W1 0 m H4) ∧ ∀ j k H, W1 j k H →
      (J1.stop j H ∧ Nx H) ∨ (J1.go j H ∧ ∃ Nx1 : Hp → Prop, (∀ H', Nx1 H' → ∃ k', k' < k ∧ W1 (j + 1) k' H') ∧ ∀ x H', J1.yld j H x H' → g1 x (wipe σ2 vs1) H' fun σ3 H5 => wipe σ3 vs1 = wipe σ2 vs1 ∧ tt1 σ3 H5 fun b H6 =>
        if b = true then te σ3 H6 fun y H7 => ∃ acc, H7 D = some (.lst acc) ∧ acc.length < sizeLine ∧ Nx1 (upd H7 D (.lst (acc ++ [y]))) else Nx1 H6)
    else Nx H3)
theorem lc2_core {pins : List (Addr × Obj)} {s : Shared} {σ : St} {H : Hp} {Q : VK} {elt tg iter tg1 iter1 : Expr} {ifs ifs1 : List Expr} {scope : Scope} {own : List (Str × Nat)} {vs1 : List Nat} {pos pos' : Pos} {wi wi1 : TI} {g g1 : TG} {tt tt1 : TT} {te : TE} {use : Option (Value → Sem Unit)} {Qf : Value → Shared → Prop}
    (hc : X.calm = true) (hN : X.N.Nodup) (I : Inv X pins σ H s) (hi : PI X tg iter wi) (ok : BlkOk X.N X.env.scope scope own) (hv : ∀ i ∈ vs1, i ∈ own.map (·.2))
    (hg : ∀ (s : Shared) (H : Hp) (C : Addr) (cl : List (Str × Addr)) (fp : List Addr), PG (X.blk s H scope (compEnvC scope cl C X.env) fp) tg g) (ht : ∀ (s : Shared) (H : Hp) (C : Addr) (cl : List (Str × Addr)) (fp : List Addr), PTs (X.blk s H scope (compEnvC scope cl C X.env) fp) ifs tt)
    (he : ∀ (s : Shared) (H : Hp) (C : Addr) (cl : List (Str × Addr)) (fp : List Addr), PE (X.blk s H scope (compEnvC scope cl C X.env) fp) elt te) (hs : ∀ x, foldedSetIterable iter X.env x = pure x)
    (hi1 : ∀ (s : Shared) (H : Hp) (C : Addr) (cl : List (Str × Addr)) (fp : List Addr), PI (X.blk s H scope (compEnvC scope cl C X.env) fp) tg1 iter1 wi1)
    (hg1 : ∀ (s : Shared) (H : Hp) (C : Addr) (cl : List (Str × Addr)) (fp : List Addr), PG (X.blk s H scope (compEnvC scope cl C X.env) fp) tg1 g1)
    (ht1 : ∀ (s : Shared) (H : Hp) (C : Addr) (cl : List (Str × Addr)) (fp : List Addr), PTs (X.blk s H scope (compEnvC scope cl C X.env) fp) ifs1 tt1)
    (hs1 : ∀ env x, foldedSetIterable iter1 env x = pure x)
    (h : tLc2 wi g tt wi1 g1 tt1 te (own.map (·.2)) vs1 σ H Q)
    (hRR : ∀ D C s' m H', Inv X pins σ H' s' → Q (.ref D) H' → s'.heap.Ns C m → FpOk X pins H' C → compPost (model X.prog X.w) X.A X.xe use Qf (.ref D) C (.ok .next) s') :
    wpAny (model X.prog X.w) X.A (comprehension (.ListComp elt [⟨tg, iter, ifs, 0⟩, ⟨tg1, iter1, ifs1, 0⟩] scope pos) scope X.env pos' (newList []) false (eval iter X.env) use) Qf X.xe s := by
  have hfree : ∀ y ∈ scope.names, y.2 = .free → ∃ c, X.env.cells.lookup y.1 = some c := fun y hy e => by
    rcases ok.free y hy e with k | k
    · exact I.ok.has _ (.inl k)
    · exact I.ok.has _ (.inr k)
  refine wpAny_comprehension_free (use := use) rfl hs (closure_ok hfree) ok.kind (fun y hy e => by rw [ok.uniq y hy, e])
    (thn (hi pins s σ H _ I h) fun xv s1 hx => thn hx fun itv s2 h2 => ?_)
  obtain ⟨it, fp, tn, J, H2, e, I2, T, st2, f2, q⟩ := h2
  subst e
  refine wpAny_newObj_type (newEnv_comp ?_) (by show 0 ≤ sizeLine; decide)
  generalize hD : s2.heap.objs.size = D
  have hDn : H2 D = none := I2.hok.fresh (Nat.le_of_eq hD)
  obtain ⟨W, ⟨m0, w0⟩, turn⟩ := q D hDn
  -- the new list
  generalize hs3 : ({ s2 with heap := s2.heap.push { cls := .type "list", data := .seq ([] : List Value).toArray } } : Shared) = s3
  have I3 : Inv X pins σ (upd H2 D (.lst [])) s3 := by
    rw [← hs3]
    refine I2.laid (t' := s2.toks) (fun b o e => Heap.get?_push_of_some _ e) (Nat.le_of_eq hD) ⟨Nat.zero_le _, [], 0, .nil, ?_⟩
    rw [← hD]
    exact Heap.get?_push_size _ rfl
  have h3 : s3.heap = s2.heap.push { cls := .type "list", data := .seq ([] : List Value).toArray } := by rw [← hs3]
  have sz : ∀ b ∈ fp, b < s2.heap.objs.size := fun b hb => by
    obtain ⟨o, e, _⟩ := T.obj _ _ st2 b hb
    exact Heap.lt_size e
  have f3 : ∀ b ∈ fp, FpOk X pins (upd H2 D (.lst [])) b ∧ b < s3.heap.objs.size := fun b hb => by
    have hlt := sz b hb
    refine ⟨⟨?_, (f2 b hb).2⟩, by rw [h3, Heap.size_push]; exact Nat.lt_succ_of_lt hlt⟩
    rw [upd_ne (by rw [← hD]; exact Nat.ne_of_lt hlt)]
    exact (f2 b hb).1
  have st3 : tn 0 s3.heap := T.keep _ _ _ st2 fun b _ o e => by rw [h3]; exact Heap.get?_push_of_some _ e
  have I4 := block_start I3 ok hN f3
  have pg := hg s3 (upd H2 D (.lst [])) s3.heap.objs.size (cellsFrom (s3.heap.objs.size + 1) scope.names (cloFrom X.env.cells scope.names [])) fp
  have pt := ht s3 (upd H2 D (.lst [])) s3.heap.objs.size (cellsFrom (s3.heap.objs.size + 1) scope.names (cloFrom X.env.cells scope.names [])) fp
  have pe := he s3 (upd H2 D (.lst [])) s3.heap.objs.size (cellsFrom (s3.heap.objs.size + 1) scope.names (cloFrom X.env.cells scope.names [])) fp
  have pi1 := hi1 s3 (upd H2 D (.lst [])) s3.heap.objs.size (cellsFrom (s3.heap.objs.size + 1) scope.names (cloFrom X.env.cells scope.names [])) fp
  have pg1 := hg1 s3 (upd H2 D (.lst [])) s3.heap.objs.size (cellsFrom (s3.heap.objs.size + 1) scope.names (cloFrom X.env.cells scope.names [])) fp
  have pt1 := ht1 s3 (upd H2 D (.lst [])) s3.heap.objs.size (cellsFrom (s3.heap.objs.size + 1) scope.names (cloFrom X.env.cells scope.names [])) fp
  show codeAny _ _ (.compStart (.ListComp elt [⟨tg, iter, ifs, 0⟩, ⟨tg1, iter1, ifs1, 0⟩] scope pos) 0 (.ref it) (.ref D) (compEnvC scope (cellsFrom (s3.heap.objs.size + 1) scope.names (cloFrom X.env.cells scope.names [])) s3.heap.objs.size X.env)) (compPost (model X.prog X.w) X.A X.xe use Qf (.ref D) s3.heap.objs.size) { s3 with heap := pushCells (s3.heap.push { cls := .type "dict", data := .dict #[] }) scope.names }
  have nfp : ∀ b ∈ fp, (upd H2 D (.lst [])) b = none := fun b hb => (f3 b hb).1.1
  generalize hce : compEnvC scope (cellsFrom (s3.heap.objs.size + 1) scope.names (cloFrom X.env.cells scope.names [])) s3.heap.objs.size X.env = ce at I4 pg pt pe pi1 pg1 pt1 ⊢
  have cL : ce.locals = s3.heap.objs.size := by subst hce; rfl
  generalize hH3 : upd H2 D (.lst []) = H3 at I3 I4 pg pt pe pi1 pg1 pt1 w0 nfp f3
  generalize hs4 : ({ s3 with heap := pushCells (s3.heap.push { cls := .type "dict", data := .dict #[] }) scope.names } : Shared) = s4 at I4 ⊢
  have st4 : tn 0 s4.heap := T.keep _ _ _ st3 fun b _ o e => by rw [← hs4]; exact pushCells_keeps _ _ _ _ (Heap.get?_push_of_some _ e)
  have stat : ∀ {σ' : St} {H' : Hp} {s' : Shared}, Inv (X.blk s3 H3 scope ce fp) [] σ' H' s' → (∀ b ∈ fp, H' b = none) → ∀ b ∈ fp, FpOk (X.blk s3 H3 scope ce fp) [] H' b := fun {σ' H' s'} I' hn b hb =>
    ⟨hn b hb, (I'.ok.exf b hb).1, I'.ok.exfs b hb, .inl hb, fun x c e => (I'.ok.exf b hb).2 x c e, fun p hp => absurd (show p ∈ ([] : List (Addr × Obj)) ++ [] from hp) (by simp)⟩
  have loop : codeAny (model X.prog X.w) X.A (.compLoop (.ListComp elt [⟨tg, iter, ifs, 0⟩, ⟨tg1, iter1, ifs1, 0⟩] scope pos) 0 (.ref it) (.ref D) ce) (compPost (model X.prog X.w) X.A X.xe use Qf (.ref D) s3.heap.objs.size) s4 := by
    refine compLoop2_out (hs1 ce) (fun n s' => ∃ i H', Inv (X.blk s3 H3 scope ce fp) [] (wipe σ (own.map (·.2))) H' s' ∧ tn i s'.heap ∧ (∀ b ∈ fp, H' b = none) ∧ W i n H') ?_ m0 ⟨0, H3, I4, st4, nfp, w0⟩
    rintro n s5 ⟨i, H5, I5, st5, n5, w5⟩
    rcases turn i n H5 w5 with ⟨stop, qq⟩ | ⟨go, Nx, hNx, step⟩
    · have td := T.done (X.blk s3 H3 scope ce fp) rfl rfl rfl hc i [] s5 _ H5 (fun _ _ => False) I5 (stat I5 n5) st5 stop
      refine thnF td fun r s6 ⟨hr, I6⟩ => ?_
      subst hr
      -- back in the def's context
      have I7 : Inv X pins σ H5 s6 := I3.call' (ch := fp) I6.os I6.base I6.hok I6.bare fun b hb => ⟨(f3 b hb).1.2.2.2.1, (f3 b hb).1.2.1, (f3 b hb).1.2.2.2.2.1, (f3 b hb).1.2.2.2.2.2⟩
      have nC : H5 s3.heap.objs.size = none := by
        have z : H5 ce.locals = none := I6.free
        rw [cL] at z
        exact z
      obtain ⟨m, hn, _⟩ := I6.loc
      have hn : s6.heap.Ns ce.locals m := hn
      rw [cL] at hn
      exact hRR D s3.heap.objs.size s6 m H5 I7 qq hn (I3.fpOk (Nat.le_refl _) nC)
    · have ti := T.item (X.blk s3 H3 scope ce fp) rfl rfl rfl hc i [] s5 _ H5 (fun _ _ => False) I5 (stat I5 n5) st5 go
      refine thnF ti fun r s6 ⟨u, hr, h6⟩ => ?_
      subst hr
      refine thnF h6 fun _ s7 ⟨x, H7, I7, r7, y7, st7, n7⟩ => ?_
      have I7' := I7.pinned (stat I7 n7) (T.obj _ _ st7)
      refine thnF (pg _ s7 _ H7 x u _ I7' r7 (step x H7 y7)) fun _ s8 ⟨σ8, H8, I8, hw8, q8⟩ => ?_
      refine thnF (pt _ s8 σ8 H8 _ I8 q8) fun b s9 ⟨H9, I9, q9⟩ => ?_
      -- the turn's end, from any slots that know what the block knew at its start
      have fin : ∀ {σ9 : St} {s' : Shared} {H' : Hp}, Inv (X.blk s3 H3 scope ce fp) ([] ++ pinsAt fp s7.heap) σ9 H' s' → (wipe σ (own.map (·.2))).length = σ9.length → (∀ (j : Nat) v, (wipe σ (own.map (·.2)))[j]? = some (some v) → σ9[j]? = some (some v)) → Nx H' →
          ∃ m, m < n ∧ ∃ i H', Inv (X.blk s3 H3 scope ce fp) [] (wipe σ (own.map (·.2))) H' s' ∧ tn i s'.heap ∧ (∀ b ∈ fp, H' b = none) ∧ W i m H' := fun {σ9 s' H'} I' hl hk nx => by
        obtain ⟨m', hm, w'⟩ := hNx H' nx
        have pin' : ∀ b ∈ fp, ∀ o, s7.heap.get? b = some o → s'.heap.get? b = some o ∧ H' b = none := fun b hb o e =>
          let z := I'.pin (b, o) (List.mem_append_right _ (List.mem_append_right _ (mem_pinsAt hb e)))
          ⟨z.1, z.2.1⟩
        refine ⟨m', hm, i + 1, H', (I'.unpinned (pins := [])).weak hl hk, T.keep _ _ _ st7 fun b hb o e => (pin' b hb o e).1, fun b hb => ?_, w'⟩
        obtain ⟨o, e, _⟩ := T.obj _ _ st7 b hb
        exact (pin' b hb o e).2
      have hl8 : (wipe σ (own.map (·.2))).length = σ8.length := by rw [← hw8, wipe_length]
      have hk8 : ∀ (j : Nat) v, (wipe σ (own.map (·.2)))[j]? = some (some v) → σ8[j]? = some (some v) := fun j v e => by
        rw [← hw8] at e
        exact (wipe_some e).1
      have hk9 : ∀ (j : Nat) v, (wipe σ (own.map (·.2)))[j]? = some (some v) → (wipe σ8 vs1)[j]? = some (some v) := fun j v e => by
        rw [← hw8] at e
        obtain ⟨e1, e2⟩ := wipe_some e
        rw [wipe_out fun z => e2 (hv j z)]
        exact e1
      cases b with
      | false =>
        simp only [Bool.false_eq_true, if_false] at q9 ⊢
        exact fin I9 hl8 hk8 q9
      | true =>
        simp only [if_true] at q9 ⊢
        refine thnF (pi1 _ s9 σ8 H9 _ I9 q9) fun xv s10 hx => thnF hx fun itv s11 h11 => ?_
        obtain ⟨it1, fp1, tn1, J1, H11, e1, I11, T1, st11, f11, W1, ⟨m1, w1⟩, turn1⟩ := h11
        subst e1
        -- the inner loop
        have stat1 : ∀ {H' : Hp}, (∀ b ∈ fp1, H' b = none) → ∀ b ∈ fp1, FpOk (X.blk s3 H3 scope ce fp) ([] ++ pinsAt fp s7.heap) H' b := fun hn b hb => ⟨hn b hb, (f11 b hb).2⟩
        have loop1 : codeAny (model X.prog X.w) X.A (.compLoop (.ListComp elt [⟨tg, iter, ifs, 0⟩, ⟨tg1, iter1, ifs1, 0⟩] scope pos) 1 (.ref it1) (.ref D) ce)
            (fun r s' => match r with
              | .ok _ => ∃ m, m < n ∧ ∃ i H', Inv (X.blk s3 H3 scope ce fp) [] (wipe σ (own.map (·.2))) H' s' ∧ tn i s'.heap ∧ (∀ b ∈ fp, H' b = none) ∧ W i m H'
              | .error _ => False) s11 := by
          refine compLoop2_in (fun k s' => ∃ j H', Inv (X.blk s3 H3 scope ce fp) ([] ++ pinsAt fp s7.heap) (wipe σ8 vs1) H' s' ∧ tn1 j s'.heap ∧ (∀ b ∈ fp1, H' b = none) ∧ W1 j k H') ?_ m1 ⟨0, H11, I11.weak (wipe_length _ _) (fun j v e => (wipe_some e).1), st11, fun b hb => (f11 b hb).1, w1⟩
          rintro k s12 ⟨j, H12, I12, st12, n12, w12⟩
          rcases turn1 j k H12 w12 with ⟨stop1, nx1⟩ | ⟨go1, Nx1, hNx1, step1⟩
          · refine thnF (T1.done (X.blk s3 H3 scope ce fp) rfl rfl rfl hc j _ s12 (wipe σ8 vs1) H12 (fun _ _ => False) I12 (stat1 n12) st12 stop1) fun r s13 ⟨hr, I13⟩ => ?_
            subst hr
            exact fin I13 (hl8.trans (wipe_length σ8 vs1).symm) hk9 nx1
          · refine thnF (T1.item (X.blk s3 H3 scope ce fp) rfl rfl rfl hc j _ s12 (wipe σ8 vs1) H12 (fun _ _ => False) I12 (stat1 n12) st12 go1) fun r s13 ⟨u1, hr, h13⟩ => ?_
            subst hr
            refine thnF h13 fun _ s14 ⟨x1, H14, I14, r14, y14, st14, n14⟩ => ?_
            have I14' := I14.pinned (stat1 n14) (T1.obj _ _ st14)
            refine thnF (pg1 _ s14 (wipe σ8 vs1) H14 x1 u1 _ I14' r14 (step1 x1 H14 y14)) fun _ s15 ⟨σ15, H15, I15, hw15, q15⟩ => ?_
            refine thnF (pt1 _ s15 σ15 H15 _ I15 q15) fun b1 s16 ⟨H16, I16, q16⟩ => ?_
            have fin1 : ∀ {s' : Shared} {H' : Hp}, Inv (X.blk s3 H3 scope ce fp) (([] ++ pinsAt fp s7.heap) ++ pinsAt fp1 s14.heap) σ15 H' s' → Nx1 H' → ∃ m, m < k ∧ ∃ j H', Inv (X.blk s3 H3 scope ce fp) ([] ++ pinsAt fp s7.heap) (wipe σ8 vs1) H' s' ∧ tn1 j s'.heap ∧ (∀ b ∈ fp1, H' b = none) ∧ W1 j m H' := fun {s' H'} I' nx => by
              obtain ⟨m', hm, w'⟩ := hNx1 H' nx
              have pin' : ∀ b ∈ fp1, ∀ o, s14.heap.get? b = some o → s'.heap.get? b = some o ∧ H' b = none := fun b hb o e =>
                let z := I'.pin (b, o) (List.mem_append_right _ (List.mem_append_right _ (mem_pinsAt hb e)))
                ⟨z.1, z.2.1⟩
              refine ⟨m', hm, j + 1, H', I'.unpinned.weak (by rw [← hw15, wipe_length]) (fun j v e => by rw [← hw15] at e; exact (wipe_some e).1), T1.keep _ _ _ st14 fun b hb o e => (pin' b hb o e).1, fun b hb => ?_, w'⟩
              obtain ⟨o, e, _⟩ := T1.obj _ _ st14 b hb
              exact (pin' b hb o e).2
            cases b1 with
            | false =>
              simp only [Bool.false_eq_true, if_false] at q16 ⊢
              exact fin1 I16 q16
            | true =>
              simp only [if_true] at q16 ⊢
              refine thnF (pe _ s16 σ15 H16 _ I16 q16) fun z s17 ⟨yv, H17, I17, r17, acc, hD17, hz17, nx⟩ => ?_
              exact app_ok (X := X.blk s3 H3 scope ce fp) I17 hD17 hz17 r17 fun s18 I18 => fin1 I18 nx
        exact compStart1_ok loop1 (T1.self X.A 0 _ _ _ st11 loop1)
  exact codeAny_compStart_list loop (T.self X.A 0 _ _ _ st4 loop)
/-- as a value -/
theorem pe_lc2 {elt tg iter tg1 iter1 : Expr} {ifs ifs1 : List Expr} {scope : Scope} {own : List (Str × Nat)} {vs1 : List Nat} {pos : Pos} {wi wi1 : TI} {g g1 : TG} {tt tt1 : TT} {te : TE} (hc : X.calm = true) (hN : X.N.Nodup) (hi : PI X tg iter wi) (ok : BlkOk X.N X.env.scope scope own) (hv : ∀ i ∈ vs1, i ∈ own.map (·.2))
    (hg : ∀ (s : Shared) (H : Hp) (C : Addr) (cl : List (Str × Addr)) (fp : List Addr), PG (X.blk s H scope (compEnvC scope cl C X.env) fp) tg g) (ht : ∀ (s : Shared) (H : Hp) (C : Addr) (cl : List (Str × Addr)) (fp : List Addr), PTs (X.blk s H scope (compEnvC scope cl C X.env) fp) ifs tt)
    (hi1 : ∀ (s : Shared) (H : Hp) (C : Addr) (cl : List (Str × Addr)) (fp : List Addr), PI (X.blk s H scope (compEnvC scope cl C X.env) fp) tg1 iter1 wi1)
    (hg1 : ∀ (s : Shared) (H : Hp) (C : Addr) (cl : List (Str × Addr)) (fp : List Addr), PG (X.blk s H scope (compEnvC scope cl C X.env) fp) tg1 g1) (ht1 : ∀ (s : Shared) (H : Hp) (C : Addr) (cl : List (Str × Addr)) (fp : List Addr), PTs (X.blk s H scope (compEnvC scope cl C X.env) fp) ifs1 tt1)
    (he : ∀ (s : Shared) (H : Hp) (C : Addr) (cl : List (Str × Addr)) (fp : List Addr), PE (X.blk s H scope (compEnvC scope cl C X.env) fp) elt te) (hs : ∀ x, foldedSetIterable iter X.env x = pure x := by intro _; rfl) (hs1 : ∀ env x, foldedSetIterable iter1 env x = pure x := by intro _ _; rfl) :
    PE X (.ListComp elt [⟨tg, iter, ifs, 0⟩, ⟨tg1, iter1, ifs1, 0⟩] scope pos) (tLc2 wi g tt wi1 g1 tt1 te (own.map (·.2)) vs1) := by
  intro pins s σ H Q I h
  rw [eval_ListComp]
  refine lc2_core hc hN I hi ok hv hg ht he hs hi1 hg1 ht1 hs1 h fun D C s' m H' I' q hn f => ⟨m, hn, fun h'' sb => ?_⟩
  obtain ⟨f0, f1, f2, f3, f4, f5⟩ := f
  exact ⟨.ref D, H', I'.turned (t' := s'.toks) (fun b o hb e => (sb.2 b hb).trans e) f0 f1 f3 f4 f5, rfl, q⟩
theorem ps_setLc2 {i : Nat} {y : Str} {py : Pos} {elt tg iter tg1 iter1 : Expr} {ifs ifs1 : List Expr} {scope : Scope} {own : List (Str × Nat)} {vs1 : List Nat} {pos spos : Pos} {wi wi1 : TI} {g g1 : TG} {tt tt1 : TT} {te : TE} (hc : X.calm = true) (hN : X.N.Nodup) (hy : X.N[i]? = some y) (hyl : X.env.scope.names.lookup y = some .local)
    (hsw : swapsWith (.ListComp elt [⟨tg, iter, ifs, 0⟩, ⟨tg1, iter1, ifs1, 0⟩] scope pos) (some (.Name y py)) spos.line X.env = pure true) (hi : PI X tg iter wi) (ok : BlkOk X.N X.env.scope scope own) (hv : ∀ i ∈ vs1, i ∈ own.map (·.2))
    (hg : ∀ (s : Shared) (H : Hp) (C : Addr) (cl : List (Str × Addr)) (fp : List Addr), PG (X.blk s H scope (compEnvC scope cl C X.env) fp) tg g) (ht : ∀ (s : Shared) (H : Hp) (C : Addr) (cl : List (Str × Addr)) (fp : List Addr), PTs (X.blk s H scope (compEnvC scope cl C X.env) fp) ifs tt)
    (hi1 : ∀ (s : Shared) (H : Hp) (C : Addr) (cl : List (Str × Addr)) (fp : List Addr), PI (X.blk s H scope (compEnvC scope cl C X.env) fp) tg1 iter1 wi1)
    (hg1 : ∀ (s : Shared) (H : Hp) (C : Addr) (cl : List (Str × Addr)) (fp : List Addr), PG (X.blk s H scope (compEnvC scope cl C X.env) fp) tg1 g1) (ht1 : ∀ (s : Shared) (H : Hp) (C : Addr) (cl : List (Str × Addr)) (fp : List Addr), PTs (X.blk s H scope (compEnvC scope cl C X.env) fp) ifs1 tt1)
    (he : ∀ (s : Shared) (H : Hp) (C : Addr) (cl : List (Str × Addr)) (fp : List Addr), PE (X.blk s H scope (compEnvC scope cl C X.env) fp) elt te) (hs : ∀ x, foldedSetIterable iter X.env x = pure x := by intro _; rfl) (hs1 : ∀ env x, foldedSetIterable iter1 env x = pure x := by intro _ _; rfl) :
    PS X (.Assign [.Name y py] (.ListComp elt [⟨tg, iter, ifs, 0⟩, ⟨tg1, iter1, ifs1, 0⟩] scope pos) spos) (tAsg (tLc2 wi g tt wi1 g1 tt1 te (own.map (·.2)) vs1) (gName i)) := by
  intro pins s σ H D I h
  rw [exec_Assign_Name_used _ _ _ _ hsw]
  refine wpAny_bind (wpAny_standAt (wpAny_bind ?_))
  show wpAny _ X.A (do let _ ← comprehension (.ListComp elt [⟨tg, iter, ifs, 0⟩, ⟨tg1, iter1, ifs1, 0⟩] scope pos) scope X.env (firstIterPos [⟨tg, iter, ifs, 0⟩, ⟨tg1, iter1, ifs1, 0⟩] pos) (newList []) false (eval iter X.env) (some (assign (.Name y py) X.env))) _ _ s
  have h : tLc2 wi g tt wi1 g1 tt1 te (own.map (·.2)) vs1 σ H (fun x H1 => gName i x σ H1 D.nx) := h
  refine wpAny_bind (thn (lc2_core (Qf := fun _ s' => SP X pins D .next s') hc hN I hi ok hv hg ht he hs hi1 hg1 ht1 hs1 h fun L C s' m H' I' q hn f => ?_) fun _ s' hq => wpAny_pure (wpAny_pure hq))
  show wpAny _ _ (assign (.Name y py) X.env (.ref L)) _ _ _
  refine wpAny_assign_Name (store_ok2 (v := V.ref L) I' hN hy (.inl hyl) rfl (fun s2 I2 ⟨a, sb, ha⟩ => ?_) (.inr hyl))
  obtain ⟨f0, f1, f2, f3, f4, f5⟩ := f
  have haC : C ≠ a := by
    rcases ha with z | z
    · rw [z]; exact f1
    · exact fun e => f4 y a z e.symm
  refine ⟨m, hn.sameBut sb haC, fun h3 sb3 => ?_⟩
  exact ⟨_, H', I2.turned (t' := s2.toks) (fun b o hb e => (sb3.2 b hb).trans e) f0 f1 f3 f4 f5, q⟩
end
end L2

namespace L2
open PySem PySem.Spec PyProof.Rows

/-! ### lists of pairs as tables -/
section
variable {κ : Type} [DecidableEq κ]
def valV (kvs : List (κ × V)) (k : κ) : Option V := (kvs.find? fun kv => decide (kv.1 = k)).map (·.2)
/-- in its place, or at the end -/
def putK (kvs : List (κ × V)) (k : κ) (v : V) : List (κ × V) :=
  if (kvs.any fun kv => decide (kv.1 = k)) = true then kvs.map (fun kv => if kv.1 = k then (kv.1, v) else kv) else kvs ++ [(k, v)]
def dropK (kvs : List (κ × V)) (k : κ) : List (κ × V) := kvs.filter fun kv => decide (kv.1 ≠ k)

theorem valV_nil {k : κ} : valV ([] : List (κ × V)) k = none := rfl
theorem valV_pos {p : κ × V} {r : List (κ × V)} {k : κ} (e : p.1 = k) : valV (p :: r) k = some p.2 := by simp [valV, List.find?_cons, e]
theorem valV_neg {p : κ × V} {r : List (κ × V)} {k : κ} (e : ¬ p.1 = k) : valV (p :: r) k = valV r k := by simp [valV, List.find?_cons, e]
theorem valV_any (k : κ) : ∀ kvs : List (κ × V), (kvs.any fun kv => decide (kv.1 = k)) = (valV kvs k).isSome
  | [] => rfl
  | p :: r => by
    rw [List.any_cons]
    by_cases e : p.1 = k
    · simp only [valV_pos e, decide_eq_true e, Bool.true_or, Option.isSome_some]
    · rw [valV_neg e, decide_eq_false e, Bool.false_or]; exact valV_any k r
theorem valV_map (k j : κ) (y : V) : ∀ kvs : List (κ × V), valV (kvs.map fun kv => if kv.1 = k then (kv.1, y) else kv) j = (valV kvs j).map fun x => if j = k then y else x
  | [] => rfl
  | p :: r => by
    have ih := valV_map k j y r
    rw [List.map_cons]
    by_cases h : p.1 = k
    · rw [if_pos h]
      by_cases e : p.1 = j
      · rw [valV_pos (p := (p.1, y)) e, valV_pos e, Option.map_some, if_pos (e.symm.trans h)]
      · rw [valV_neg (p := (p.1, y)) e, valV_neg e, ih]
    · rw [if_neg h]
      by_cases e : p.1 = j
      · rw [valV_pos (p := p) e, valV_pos e, Option.map_some, if_neg (fun z => h (e.trans z))]
      · rw [valV_neg (p := p) e, valV_neg e, ih]
theorem valV_snoc (k j : κ) (y : V) : ∀ kvs : List (κ × V), valV kvs k = none → valV (kvs ++ [(k, y)]) j = if j = k then some y else valV kvs j
  | [], _ => by
    by_cases e : k = j
    · rw [if_pos e.symm]; exact valV_pos (p := (k, y)) e
    · rw [if_neg (fun z => e z.symm)]; exact valV_neg (p := (k, y)) e
  | p :: r, hn => by
    rw [List.cons_append]
    have hk : ¬ p.1 = k := fun z => by rw [valV_pos z] at hn; cases hn
    rw [valV_neg hk] at hn
    have ih := valV_snoc k j y r hn
    by_cases e : p.1 = j
    · rw [valV_pos e, valV_pos e, if_neg (fun z => hk (e.trans z))]
    · rw [valV_neg e, valV_neg e, ih]
theorem valV_put (kvs : List (κ × V)) (k j : κ) (y : V) : valV (putK kvs k y) j = if j = k then some y else valV kvs j := by
  unfold putK
  by_cases a : (kvs.any fun kv => decide (kv.1 = k)) = true
  · rw [if_pos a, valV_map]
    rw [valV_any] at a
    by_cases e : j = k
    · obtain ⟨x, hx⟩ := Option.isSome_iff_exists.mp a
      rw [if_pos e, e, hx, Option.map_some, if_pos rfl]
    · rw [if_neg e]
      cases valV kvs j with
      | none => rfl
      | some x => rw [Option.map_some, if_neg e]
  · rw [if_neg a]
    refine valV_snoc k j y kvs ?_
    rw [valV_any] at a
    cases q : valV kvs k with
    | none => rfl
    | some x => rw [q] at a; exact (a rfl).elim
theorem length_putK (kvs : List (κ × V)) (k : κ) (v : V) : (putK kvs k v).length ≤ kvs.length + 1 := by
  unfold putK
  split
  · rw [List.length_map]; omega
  · rw [List.length_append, List.length_cons, List.length_nil]; omega
theorem putK_new {kvs : List (κ × V)} {k : κ} (v : V) (h : valV kvs k = none) : putK kvs k v = kvs ++ [(k, v)] := by
  unfold putK
  rw [valV_any, h]
  exact if_neg (by decide)

theorem RelO.isSome_eq {o : Option V} {u : Option Value} (r : RelO o u) : o.isSome = u.isSome := by
  cases o with
  | none => cases u with
    | none => rfl
    | some _ => exact (show False from r).elim
  | some _ => cases u with
    | none => exact (show False from r).elim
    | some _ => rfl
theorem RelO.getD {o : Option V} {u : Option Value} {d : V} {d' : Value} (r : RelO o u) (rd : RelV d d') : RelV (o.getD d) (u.getD d') := by
  cases o with
  | none => cases u with
    | none => exact rd
    | some _ => exact (show False from r).elim
  | some _ => cases u with
    | none => exact (show False from r).elim
    | some _ => exact r

/-- raw tables of the same keys -/
theorem KV.val {kvs : List (κ × V)} {vs : List (κ × Value)} (r : KV kvs vs) (k : κ) : RelO (valV kvs k) (valueAt vs k) := by
  unfold KV at r
  induction r with
  | nil => exact True.intro
  | @cons p q ps qs h t ih =>
    obtain ⟨h1, h2⟩ := h
    by_cases e : p.1 = k
    · have e' : q.1 = k := h1.symm.trans e
      have b : valueAt (q :: qs) k = some q.2 := by simp [valueAt, List.find?_cons, e']
      rw [valV_pos e, b]; exact h2
    · have e' : ¬ q.1 = k := fun z => e (h1.trans z)
      have b : valueAt (q :: qs) k = valueAt qs k := by simp [valueAt, List.find?_cons, e']
      rw [valV_neg e, b]; exact ih
theorem KV.any {kvs : List (κ × V)} {vs : List (κ × Value)} (r : KV kvs vs) (k : κ) : (kvs.any fun kv => decide (kv.1 = k)) = vs.any fun kv => decide (kv.1 = k) := by
  unfold KV at r
  induction r with
  | nil => rfl
  | cons h t ih => rw [List.any_cons, List.any_cons, ih, h.1]
theorem KV.repl {kvs : List (κ × V)} {vs : List (κ × Value)} (r : KV kvs vs) (k : κ) {y : V} {u : Value} (ry : RelV y u) :
    KV (kvs.map fun kv => if kv.1 = k then (kv.1, y) else kv) (vs.map fun kv => if kv.1 = k then (kv.1, u) else kv) := by
  unfold KV at r ⊢
  induction r with
  | nil => exact .nil
  | @cons p q ps qs h t ih =>
    rw [List.map_cons, List.map_cons]
    refine .cons ?_ ih
    obtain ⟨h1, h2⟩ := h
    by_cases e : p.1 = k
    · rw [if_pos e, if_pos (h1.symm.trans e)]; exact ⟨h1, ry⟩
    · rw [if_neg e, if_neg (fun z => e (h1.trans z))]; exact ⟨h1, h2⟩
theorem KV.put {kvs : List (κ × V)} {vs : List (κ × Value)} (r : KV kvs vs) (k : κ) {y : V} {u : Value} (ry : RelV y u) : KV (putK kvs k y) (stored vs k u) := by
  unfold putK stored
  rw [r.any k]
  by_cases e : (vs.any fun kv => decide (kv.1 = k)) = true
  · rw [if_pos e, if_pos e]; exact r.repl k ry
  · rw [if_neg e, if_neg e]; exact Paired.snoc r ⟨rfl, ry⟩
theorem KV.drop {kvs : List (κ × V)} {vs : List (κ × Value)} (r : KV kvs vs) (k : κ) : KV (dropK kvs k) (without vs k) := by
  unfold KV at r ⊢
  unfold dropK without
  induction r with
  | nil => exact .nil
  | @cons p q ps qs h t ih =>
    obtain ⟨h1, h2⟩ := h
    rw [List.filter_cons, List.filter_cons]
    by_cases e : p.1 = k
    · have a : ¬ decide (p.1 ≠ k) = true := by simp [e]
      have b : ¬ decide (q.1 ≠ k) = true := by simp [h1.symm.trans e]
      rw [if_neg a, if_neg b]; exact ih
    · have e' : ¬ q.1 = k := fun z => e (h1.trans z)
      have a : decide (p.1 ≠ k) = true := by simp [e]
      have b : decide (q.1 ≠ k) = true := by simp [e']
      rw [if_pos a, if_pos b]; exact .cons ⟨h1, h2⟩ ih
theorem KV.keys {kvs : List (κ × V)} {vs : List (κ × Value)} (r : KV kvs vs) : kvs.map (·.1) = vs.map (·.1) := by
  unfold KV at r
  induction r with
  | nil => rfl
  | cons h t ih => rw [List.map_cons, List.map_cons, ih, h.1]
theorem KV.length {kvs : List (κ × V)} {vs : List (κ × Value)} (r : KV kvs vs) : kvs.length = vs.length := Paired.length r
theorem dropK_le (kvs : List (κ × V)) (k : κ) : (dropK kvs k).length ≤ kvs.length := List.length_filter_le _ _
end


/-! ### a tracked dict, its keys ints and texts or tuples of these -/
theorem kV_is {P : Program} {w : World} {k : Key} {u : Value} (r : RelV (kV k) u) : (mixKind P w).is k u = true := by
  cases k with
  | inl i => obtain ⟨t, e⟩ := (show ∃ t, u = Value.int i t from r); subst e; exact mixKind_int P w i t
  | inr x => obtain ⟨t, e⟩ := (show ∃ t, u = Value.str x t from r); subst e; exact mixKind_str P w x t
theorem kV_inj {a b : Key} (e : kV a = kV b) : a = b := by
  cases a with
  | inl i => cases b with
    | inl j => have e' : V.int i = V.int j := e; injection e' with e'; rw [e']
    | inr y => exact nomatch (show V.int i = V.str y from e)
  | inr x => cases b with
    | inl j => exact nomatch (show V.str x = V.int j from e)
    | inr y => have e' : V.str x = V.str y := e; injection e' with e'; rw [e']
theorem kVs_inj : ∀ {a b : List Key}, a.map kV = b.map kV → a = b
  | [], [], _ => rfl
  | [], _ :: _, e => by simp at e
  | _ :: _, [], e => by simp at e
  | x :: xs, y :: ys, e => by
    rw [List.map_cons, List.map_cons] at e
    injection e with e1 e2
    rw [kV_inj e1, kVs_inj e2]
theorem items_are {P : Program} {w : World} : ∀ {ks : List Key} {us : List Value}, Vals (ks.map kV) us → ItemsAre (mixKind P w) ks us
  | [], _, r => by rw [List.map_nil] at r; cases r; exact .nil
  | k :: ks, _, r => by
    rw [List.map_cons] at r
    cases r with
    | cons h t => exact .cons (kV_is h) (items_are t)

/-- raw entries of a dict with tuple keys -/
abbrev KT (H : Hp) : List (List Key × V) → List (List Key × Addr × Value) → Prop := Paired fun p q => p.1 = q.1 ∧ H q.2.1 = some (.tup (p.1.map kV)) ∧ RelV p.2 q.2.2
theorem KT.val {H : Hp} {kvs : List (List Key × V)} {xs : List (List Key × Addr × Value)} (r : KT H kvs xs) (k : List Key) : RelO (valV kvs k) ((atKey xs k).map (·.2)) := by
  induction r with
  | nil => exact True.intro
  | @cons p q ps qs h t ih =>
    obtain ⟨h1, _, h2⟩ := h
    by_cases e : p.1 = k
    · have e' : q.1 = k := h1.symm.trans e
      have b : atKey (q :: qs) k = some q.2 := by simp [atKey, List.find?_cons, e']
      rw [valV_pos e, b]; exact h2
    · have e' : ¬ q.1 = k := fun z => e (h1.trans z)
      have b : atKey (q :: qs) k = atKey qs k := by simp [atKey, List.find?_cons, e']
      rw [valV_neg e, b]; exact ih
theorem KT.repl {H : Hp} {kvs : List (List Key × V)} {xs : List (List Key × Addr × Value)} (r : KT H kvs xs) (k : List Key) {y : V} {u : Value} (ry : RelV y u) :
    KT H (kvs.map fun kv => if kv.1 = k then (kv.1, y) else kv) (xs.map (putAt k u)) := by
  induction r with
  | nil => exact .nil
  | @cons p q ps qs h t ih =>
    rw [List.map_cons, List.map_cons]
    refine .cons ?_ ih
    obtain ⟨h1, h2, h3⟩ := h
    unfold putAt
    by_cases e : p.1 = k
    · rw [if_pos e, if_pos (h1.symm.trans e)]; exact ⟨h1, h2, ry⟩
    · rw [if_neg e, if_neg (fun z => e (h1.trans z))]; exact ⟨h1, h2, h3⟩
theorem KT.put {H : Hp} {kvs : List (List Key × V)} {xs : List (List Key × Addr × Value)} (r : KT H kvs xs) (k : List Key) {b : Addr} {y : V} {u : Value} (hb : H b = some (.tup (k.map kV))) (ry : RelV y u) :
    KT H (putK kvs k y) (storedH xs k b u) := by
  have e : (kvs.any fun kv => decide (kv.1 = k)) = (atKey xs k).isSome := by
    rw [valV_any, (r.val k).isSome_eq, Option.isSome_map]
  unfold putK storedH
  rw [e]
  by_cases q : (atKey xs k).isSome = true
  · rw [if_pos q, if_pos q]; exact r.repl k ry
  · rw [if_neg q, if_neg q]; exact Paired.snoc r ⟨rfl, hb, ry⟩
theorem KT.keeps {H H' : Hp} {kvs : List (List Key × V)} {xs : List (List Key × Addr × Value)} (r : KT H kvs xs) (ht : ∀ b ys, H b = some (.tup ys) → H' b = some (.tup ys)) : KT H' kvs xs :=
  Paired.mapP r fun _ _ z => ⟨z.1, ht _ _ z.2.1, z.2.2⟩

section
variable {P : Program} {w : World} {H : Hp} {h : Heap} {a : Addr}
theorem rd_of {u : HO} (ok : HOk P w H h) (e : Rd H a u) : ObjOk P w H h a u := e.ok ok
theorem dk_rd {kvs : List (Key × V)} (ok : HOk P w H h) (e : Rd H a (.dK kvs)) : kvs.length ≤ sizeLine ∧ (a == sysModules) = false ∧ ∃ vs, KV kvs vs ∧ h.DictOf (mixKind P w) a vs :=
  show ObjOk P w H h a (.dK kvs) from rd_of ok e
theorem dk_of {kvs : List (Key × V)} (ok : HOk P w H h) (e : H a = some (.dK kvs)) : kvs.length ≤ sizeLine ∧ (a == sysModules) = false ∧ ∃ vs, KV kvs vs ∧ h.DictOf (mixKind P w) a vs := dk_rd ok (.inl e)
/-- a tracked tuple of ints and texts is a key -/
theorem key_of {ks : List Key} (ok : HOk P w H h) (e : H a = some (.tup (ks.map kV))) : (tupleKind (mixKind P w)).is h ks a := by
  obtain ⟨_, its, r, o, h1, h2, ⟨n, h3⟩, _⟩ := (show ObjOk P w H h a (.tup (ks.map kV)) from ok a _ e)
  exact ⟨o, its.toArray, n, h1, h2, h3, by simpa using items_are r⟩
theorem dt_rd {kvs : List (List Key × V)} (ok : HOk P w H h) (e : Rd H a (.dT kvs)) : kvs.length ≤ sizeLine ∧ (a == sysModules) = false ∧
    ∃ xs, KT H kvs xs ∧ h.DictOfH (tupleKind (mixKind P w)) a xs := by
  obtain ⟨z, y, xs, r, o, es, ep, h1, h2, h3, h4, h5⟩ := (show ObjOk P w H h a (.dT kvs) from rd_of ok e)
  refine ⟨z, y, xs, r, o, es, ep, h1, h2, h3, h4, fun x hx => ?_, h5⟩
  have all : ∀ {l : List (List Key × V)} {m : List (List Key × Addr × Value)}, KT H l m → ∀ x ∈ m, (tupleKind (mixKind P w)).is h x.1 x.2.1 := by
    intro l m q
    induction q with
    | nil => intro x hx; exact nomatch hx
    | @cons p q ps qs hq t ih =>
      intro x hx
      rcases List.mem_cons.mp hx with e | hx
      · subst e
        exact key_of ok (by rw [← hq.1]; exact hq.2.1)
      · exact ih x hx
  exact all r x hx
theorem dt_of {kvs : List (List Key × V)} (ok : HOk P w H h) (e : H a = some (.dT kvs)) : kvs.length ≤ sizeLine ∧ (a == sysModules) = false ∧
    ∃ xs, KT H kvs xs ∧ h.DictOfH (tupleKind (mixKind P w)) a xs := dt_rd ok (.inl e)
end

/-- what the dict at a holds at the key y -/
def DGet (H : Hp) (a : Addr) (y : V) (r : Option V) : Prop :=
  (∃ kvs k, Rd H a (.dK kvs) ∧ y = kV k ∧ r = valV kvs k) ∨ ∃ kvs k b, Rd H a (.dT kvs) ∧ y = .ref b ∧ H b = some (.tup (k.map kV)) ∧ r = valV kvs k
/-- the heap behind a[y] = v -/
def DPut (H : Hp) (a : Addr) (y v : V) (H' : Hp) : Prop :=
  (∃ kvs k, H a = some (.dK kvs) ∧ y = kV k ∧ kvs.length < sizeLine ∧ H' = upd H a (.dK (putK kvs k v))) ∨
  ∃ kvs k b, H a = some (.dT kvs) ∧ y = .ref b ∧ H b = some (.tup (k.map kV)) ∧ kvs.length < sizeLine ∧ H' = upd H a (.dT (putK kvs k v))
theorem DGet.k {H : Hp} {a : Addr} {kvs : List (Key × V)} {k : Key} (e : H a = some (.dK kvs)) : DGet H a (kV k) (valV kvs k) := .inl ⟨kvs, k, .inl e, rfl, rfl⟩
theorem DGet.t {H : Hp} {a b : Addr} {kvs : List (List Key × V)} {k : List Key} (e : H a = some (.dT kvs)) (eb : H b = some (.tup (k.map kV))) : DGet H a (.ref b) (valV kvs k) := .inr ⟨kvs, k, b, .inl e, rfl, eb, rfl⟩
theorem DPut.k {H : Hp} {a : Addr} {kvs : List (Key × V)} {k : Key} {v : V} (e : H a = some (.dK kvs)) (hl : kvs.length < sizeLine) : DPut H a (kV k) v (upd H a (.dK (putK kvs k v))) := .inl ⟨kvs, k, e, rfl, hl, rfl⟩
theorem DPut.t {H : Hp} {a b : Addr} {kvs : List (List Key × V)} {k : List Key} {v : V} (e : H a = some (.dT kvs)) (eb : H b = some (.tup (k.map kV))) (hl : kvs.length < sizeLine) :
    DPut H a (.ref b) v (upd H a (.dT (putK kvs k v))) := .inr ⟨kvs, k, b, e, rfl, eb, hl, rfl⟩


section
variable {X : Cx} {pins : List (Addr × Obj)} {σ : St} {H : Hp} {s : Shared} {a : Addr} {y v : V} {u r : Value} {o : Option V} {A : Around} {E : Value → Shared → Prop}

theorem Inv.big (I : Inv X pins σ H s) : sysModules < s.heap.objs.size := by
  have h : mainGlobals < s.heap.objs.size := (I.mod.glob.keeps I.bk).lt
  exact Nat.lt_trans (by decide) h

/-- d[y], there -/
theorem d_getItem {Q : Value → Shared → Prop} (hu : A.units + 1 < cLine) (I : Inv X pins σ H s) (g : DGet H a y (some v)) (ry : RelV y u) (h : ∀ w' s', Inv X pins σ H s' → RelV v w' → Q w' s') :
    wpAny (model X.prog X.w) A (getItem (.ref a) u) Q E s := by
  rcases g with ⟨kvs, k, e, ey, l⟩ | ⟨kvs, k, b, e, ey, eb, l⟩
  · subst ey
    obtain ⟨z, hd, vs, rel, dd⟩ := dk_rd I.hok e
    obtain ⟨w', hw, rw'⟩ := RelO.some_of (v := v) (o := valueAt vs k) (by rw [l]; exact rel.val k)
    exact wpAny_getItem_of (kV_is ry) dd.mapOf hw (h w' _ (I.tok _) rw')
  · subst ey
    cases (show u = Value.ref b from ry)
    obtain ⟨z, hd, xs, rel, dd⟩ := dt_rd I.hok e
    obtain ⟨w', hw, rw'⟩ := RelO.some_of (v := v) (o := (atKey xs k).map (·.2)) (by rw [l]; exact rel.val k)
    obtain ⟨p, hp, hp2⟩ := Option.map_eq_some_iff.mp hw
    refine wpAny_getItem_heap (tupleKind_room_in1 hu) (key_of I.hok eb) dd hp ?_
    rw [hp2]
    exact h w' _ (I.tok _) rw'
/-- y in d -/
theorem d_in {Q : Value → Shared → Prop} (hu : A.units + 1 < cLine) (I : Inv X pins σ H s) (g : DGet H a y o) (ry : RelV y u) (h : ∀ s', Inv X pins σ H s' → Q (.bool o.isSome) s') :
    wpAny (model X.prog X.w) A (compareOp .In u (.ref a)) Q E s := by
  rcases g with ⟨kvs, k, e, ey, l⟩ | ⟨kvs, k, b, e, ey, eb, l⟩
  · subst ey
    obtain ⟨z, hd, vs, rel, dd⟩ := dk_rd I.hok e
    refine wpAny_in_of (kV_is ry) hd dd.mapOf ?_
    rw [← (rel.val k).isSome_eq, ← l]
    exact h _ (I.tok _)
  · subst ey
    cases (show u = Value.ref b from ry)
    obtain ⟨z, hd, xs, rel, dd⟩ := dt_rd I.hok e
    refine wpAny_in_heap (tupleKind_room_in1 hu) (key_of I.hok eb) hd dd ?_
    have q := (rel.val k).isSome_eq
    rw [Option.isSome_map] at q
    rw [← q, ← l]
    exact h _ (I.tok _)
theorem d_notIn {Q : Value → Shared → Prop} (hu : A.units + 1 < cLine) (I : Inv X pins σ H s) (g : DGet H a y o) (ry : RelV y u) (h : ∀ s', Inv X pins σ H s' → Q (.bool (!o.isSome)) s') :
    wpAny (model X.prog X.w) A (compareOp .NotIn u (.ref a)) Q E s := by
  rcases g with ⟨kvs, k, e, ey, l⟩ | ⟨kvs, k, b, e, ey, eb, l⟩
  · subst ey
    obtain ⟨z, hd, vs, rel, dd⟩ := dk_rd I.hok e
    refine wpAny_notIn_of (kV_is ry) hd dd.mapOf ?_
    rw [← (rel.val k).isSome_eq, ← l]
    exact h _ (I.tok _)
  · subst ey
    cases (show u = Value.ref b from ry)
    obtain ⟨z, hd, xs, rel, dd⟩ := dt_rd I.hok e
    refine wpAny_notIn_heap (tupleKind_room_in1 hu) (key_of I.hok eb) hd dd ?_
    have q := (rel.val k).isSome_eq
    rw [Option.isSome_map] at q
    rw [← q, ← l]
    exact h _ (I.tok _)
/-- a dict's object is replaced -/
theorem d_write {h' : Heap} {t' : Nat} {ob : HO} (I : Inv X pins σ H s) (mu : Mut (H a)) (hs : Heap.SameBut a s.heap h') (he : ∃ q, h'.get? a = some q) (new : ObjOk X.prog X.w (upd H a ob) h' a ob) :
    Inv X pins σ (upd H a ob) { s with heap := h', toks := t' } :=
  I.write (x := a) (e := a) mu (.inl rfl) (fun b q hb z => (hs.2 b hb).trans z) he new
theorem dk_new {P : Program} {w : World} {H' : Hp} {h' : Heap} {kvs : List (Key × V)} {vs : List (Key × Value)} (z : kvs.length ≤ sizeLine) (hd : (a == sysModules) = false) (rel : KV kvs vs) (dd : h'.DictOf (mixKind P w) a vs) :
    ObjOk P w H' h' a (.dK kvs) := ⟨z, hd, vs, rel, dd⟩
/-- d[y] = v -/
theorem d_setItem {H' : Hp} {Q : Unit → Shared → Prop} (hu : A.units + 1 < cLine) (I : Inv X pins σ H s) (g : DPut H a y v H') (ry : RelV y u) (rv : RelV v r) (h : ∀ s', Inv X pins σ H' s' → Q () s') :
    wpAny (model X.prog X.w) A (setItem (.ref a) u r) Q E s := by
  rcases g with ⟨kvs, k, e, ey, l, eH⟩ | ⟨kvs, k, b, e, ey, eb, l, eH⟩
  · subst ey eH
    obtain ⟨z, hd, vs, rel, dd⟩ := dk_of I.hok e
    have hz : vs.length ≤ sizeLine := by rw [← rel.length]; exact z
    have hl : (putK kvs k v).length ≤ sizeLine := by have := length_putK kvs k v; omega
    refine wpAny_setItem_pairs (hsz := hz) (kV_is ry) dd fun h' dd' hs => h _ ?_
    have he : ∃ q, h'.get? a = some q := let ⟨q, _, _, hq, _⟩ := dd'; ⟨q, hq⟩
    exact d_write I (by rw [e]; exact True.intro) hs he (dk_new hl hd (rel.put k rv) dd')
  · subst ey eH
    cases (show u = Value.ref b from ry)
    obtain ⟨z, hd, xs, rel, dd⟩ := dt_of I.hok e
    have hz : xs.length ≤ sizeLine := by rw [← Paired.length rel]; exact z
    have hl : (putK kvs k v).length ≤ sizeLine := by have := length_putK kvs k v; omega
    refine wpAny_setItem_heap (hsz := hz) (tupleKind_room_in1 hu) (key_of I.hok eb) dd fun h' dd' hs => h _ ?_
    obtain ⟨q, es, ep, hq, h2, h3, h4, _, h5⟩ := dd'
    refine d_write I (by rw [e]; exact True.intro) hs ⟨q, hq⟩ ⟨hl, hd, _, (rel.put k eb rv).keeps fun c ys ec => ?_, q, es, ep, hq, h2, h3, h4, h5⟩
    rw [upd_ne (ne_of ec e (fun z => nomatch z))]
    exact ec
end

section
variable {X : Cx} {pins : List (Addr × Obj)} {σ : St} {H : Hp} {s : Shared} {a : Addr} {kvs : List (Key × V)} {k : Key} {u : Value} {A : Around} {E : Value → Shared → Prop}
/-- del d[k] -/
theorem d_delItem {Q : Unit → Shared → Prop} (I : Inv X pins σ H s) (e : H a = some (.dK kvs)) (ry : RelV (kV k) u) (l : (valV kvs k).isSome = true) (h : ∀ s', Inv X pins σ (upd H a (.dK (dropK kvs k))) s' → Q () s') :
    wpAny (model X.prog X.w) A (delItem (.ref a) u) Q E s := by
  obtain ⟨z, hd, vs, rel, dd⟩ := dk_of I.hok e
  refine wpAny_delItem_slot dd.typeIs (by decide) PySem.F.slot_dict_delitem
    (call_meetsIn PySem.F.slot_dict_delitem dd.typeIs PySem.F.entry_dict_delitem (PySem.F.args_dict_delitem_2 _ _) (meets_dict_delitem_pairs (mixKind X.prog X.w) a (kV_is ry)) ⟨vs, dd, by rw [← rel.length]; exact z, by rw [← (rel.val k).isSome_eq]; exact l, fun h' dd' hs => h _ ?_⟩)
  have he : ∃ q, h'.get? a = some q := let ⟨q, _, _, hq, _⟩ := dd'; ⟨q, hq⟩
  exact d_write I (by rw [e]; exact True.intro) hs he (dk_new (Nat.le_trans (dropK_le kvs k) z) hd (rel.drop k) dd')
/-- d.pop(k[, x]), there -/
theorem d_pop {v : V} {more : List Value} {Q : Value → Shared → Prop} (I : Inv X pins σ H s) (e : H a = some (.dK kvs)) (ry : RelV (kV k) u) (l : valV kvs k = some v) (hm : more = [] ∨ ∃ x, more = [x])
    (h : ∀ w' s', Inv X pins σ (upd H a (.dK (dropK kvs k))) s' → RelV v w' → Q w' s') : wpAny (model X.prog X.w) A (call (.builtin "dict.pop") (.ref a :: u :: more)) Q E s := by
  obtain ⟨z, hd, vs, rel, dd⟩ := dk_of I.hok e
  obtain ⟨w', hw, rw'⟩ := RelO.some_of (v := v) (o := valueAt vs k) (by rw [← l]; exact rel.val k)
  have hp : (keyPart u).isSome = true := by
    cases k with
    | inl i => obtain ⟨t, q⟩ := (show ∃ t, u = Value.int i t from ry); subst q; rfl
    | inr x => obtain ⟨t, q⟩ := (show ∃ t, u = Value.str x t from ry); subst q; rfl
  have ha : argsOk "dict.pop" ⟨.ref a :: u :: more, []⟩ := by
    rcases hm with q | ⟨x, q⟩
    · subst q; exact PySem.F.args_dict_pop_2 _ _
    · subst q; exact PySem.F.args_dict_pop_3 _ _ _
  refine call_meetsIn PySem.F.slot_dict_pop dd.typeIs PySem.F.entry_dict_pop ha (meets_dict_pop_there (mixKind X.prog X.w) a (kV_is ry) more hm hp)
    ⟨vs, w', dd, by rw [← rel.length]; exact z, hw, fun h' dd' hs => h w' _ ?_ rw'⟩
  have he : ∃ q, h'.get? a = some q := let ⟨q, _, _, hq, _⟩ := dd'; ⟨q, hq⟩
  exact d_write I (by rw [e]; exact True.intro) hs he (dk_new (Nat.le_trans (dropK_le kvs k) z) hd (rel.drop k) dd')
/-- d.pop(k, x), not there -/
theorem d_popD {r : Value} {Q : Value → Shared → Prop} (I : Inv X pins σ H s) (e : H a = some (.dK kvs)) (ry : RelV (kV k) u) (l : valV kvs k = none) (h : ∀ s', Inv X pins σ H s' → Q r s') :
    wpAny (model X.prog X.w) A (call (.builtin "dict.pop") [.ref a, u, r]) Q E s := by
  obtain ⟨z, hd, vs, rel, dd⟩ := dk_of I.hok e
  have hn : valueAt vs k = none := RelO.none_of (by rw [← l]; exact rel.val k)
  have hp : (keyPart u).isSome = true := by
    cases k with
    | inl i => obtain ⟨t, q⟩ := (show ∃ t, u = Value.int i t from ry); subst q; rfl
    | inr x => obtain ⟨t, q⟩ := (show ∃ t, u = Value.str x t from ry); subst q; rfl
  exact call_meetsIn PySem.F.slot_dict_pop dd.typeIs PySem.F.entry_dict_pop (PySem.F.args_dict_pop_3 _ _ _) (meets_dict_pop_default (mixKind X.prog X.w) a (kV_is ry) hd hp r) ⟨vs, dd, hn, h _ (I.tok _)⟩
/-- d.clear() -/
theorem d_clear {Q : Value → Shared → Prop} (I : Inv X pins σ H s) (e : H a = some (.dK kvs)) (h : ∀ s', Inv X pins σ (upd H a (.dK [])) s' → Q .none s') : wpAny (model X.prog X.w) A (call (.builtin "dict.clear") [.ref a]) Q E s := by
  obtain ⟨z, hd, vs, rel, dd⟩ := dk_of I.hok e
  refine call_meetsIn PySem.F.slot_dict_clear dd.typeIs PySem.F.entry_dict_clear (PySem.F.args_dict_clear_1 _) (meets_dict_clear (mixKind X.prog X.w) a) ⟨vs, dd, by rw [← rel.length]; exact z, fun h' dd' hs => h _ ?_⟩
  have he : ∃ q, h'.get? a = some q := let ⟨q, _, _, hq, _⟩ := dd'; ⟨q, hq⟩
  exact d_write (t' := s.toks) I (by rw [e]; exact True.intro) hs he (dk_new (Nat.zero_le _) hd .nil dd')
/-- len(d) -/
theorem d_len {Q : Value → Shared → Prop} (I : Inv X pins σ H s) (e : Rd H a (.dK kvs)) (h : ∀ t s', Inv X pins σ H s' → Q (.int kvs.length t) s') : wpAny (model X.prog X.w) A (call (.builtin "len") [.ref a]) Q E s := by
  obtain ⟨z, hd, vs, rel, dd⟩ := dk_rd I.hok e
  refine call_len_dict hd dd (by rw [← rel.length]; rw [sizeLine_eq] at z; omega) ?_
  rw [← rel.length]
  exact h _ _ (I.tok _)
/-- if d -/
theorem d_truth {Q : Bool → Shared → Prop} (I : Inv X pins σ H s) (e : Rd H a (.dK kvs)) (h : ∀ s', Inv X pins σ H s' → Q (!kvs.isEmpty) s') : wpAny (model X.prog X.w) A (truthy (.ref a)) Q E s := by
  obtain ⟨z, hd, vs, rel, dd⟩ := dk_rd I.hok e
  refine wpAny_truthy_dict hd dd (by rw [← rel.length]; rw [sizeLine_eq] at z; omega) ?_
  have q : kvs.isEmpty = vs.isEmpty := by cases rel <;> rfl
  rw [← q]
  exact h _ (I.tok _)
end


/-! ### readings and rules -/
/-- the element of a subscription, not a slice -/
def NoSl (i : Expr) : Prop := ∀ ov iv, subscripted i false ov iv = operate [ov, iv] (getItem ov iv)
theorem subD_of {prog : Program} {w : World} {A : Around} {E : Value → Shared → Prop} {s : Shared} {env : Env} {value slice : Expr} {pos : Pos} {T id : String} {Q : Value → Shared → Prop}
    (hl : typeLookup (.type T) "__getitem__" = pure (some (.builtin id))) (hs : NoSl slice)
    (h : wpAny (model prog w) A (eval value env) (fun o s₁ => wpAny (model prog w) A (eval slice env) (fun i s₂ => s₂.TypeIs o T ∧ wpAny (model prog w) A (getItem o i) Q E s₂) E s₁) E s) :
    wpAny (model prog w) A (eval (.Subscript value slice pos) env) Q E s := by
  refine Subscript_ (wpAny_mono h (fun o s₁ h₁ => wpAny_mono h₁ (fun i s₂ h₂ => ?_) fun _ _ x => x) fun _ _ x => x)
  obtain ⟨hT, h₂⟩ := h₂
  unfold subscriptTail
  refine wpAny_bind ?_
  rw [getitemInPython_of_ne hT.not_modules]
  refine wpAny_bind (wpAny_specialOf hT hl ?_)
  have fin : wpAny (model prog w) A (subscripted slice false o i) (fun r s₃ => wpAny (model prog w) A (letTemporaryGo value o r >>= fun _ => pure r) Q E s₃) E s₂ := by
    rw [hs o i]
    exact wpAny_operating (wpAny_mono h₂ (fun r s₃ h₃ => wpAny_bind (wpAny_letTemporaryGo (wpAny_pure h₃))) fun _ _ x => x)
  first
    | exact wpAny_pure (wpAny_bind fin)
    | exact wpAny_bind (wpAny_pure (wpAny_bind fin))
    | exact wpAny_bind fin

theorem dict_typeIs {X : Cx} {pins : List (Addr × Obj)} {σ : St} {H : Hp} {s : Shared} {a : Addr} {y : V} {o : Option V} (I : Inv X pins σ H s) (g : DGet H a y o) : s.TypeIs (.ref a) "dict" := by
  rcases g with ⟨kvs, k, e, _, _⟩ | ⟨kvs, k, b, e, _, _, _⟩
  · obtain ⟨_, _, vs, _, dd⟩ := dk_rd I.hok e
    exact dd.typeIs
  · obtain ⟨_, _, xs, _, dd⟩ := dt_rd I.hok e
    exact dd.typeIs
theorem dict_noDict {X : Cx} {pins : List (Addr × Obj)} {σ : St} {H : Hp} {s : Shared} {a : Addr} {y : V} {o : Option V} (I : Inv X pins σ H s) (g : DGet H a y o) :
    ∀ b, Value.ref a = .ref b → ∃ ob, s.heap.get? b = some ob ∧ ob.dict = none := fun b q => by
  cases q
  rcases g with ⟨kvs, k, e, _, _⟩ | ⟨kvs, k, b, e, _, _, _⟩
  · obtain ⟨_, _, vs, _, ob, _, _, h1, h2, _⟩ := dk_rd I.hok e
    exact ⟨ob, h1, h2.2.1⟩
  · obtain ⟨_, _, xs, _, ob, _, _, h1, h2, _⟩ := dt_rd I.hok e
    exact ⟨ob, h1, h2.2.1⟩

/-- d[y] -/
def tDGet (td ty : TE) : TE := fun σ H Q => td σ H fun x H1 => ty σ H1 fun y H2 => ∃ a v, x = .ref a ∧ DGet H2 a y (some v) ∧ Q v H2
/-- y in d, y not in d -/
def tDIn (ty td : TE) : TE := fun σ H Q => ty σ H fun y H1 => td σ H1 fun x H2 => ∃ a o, x = .ref a ∧ DGet H2 a y o ∧ Q (.bl o.isSome) H2
def tDNotIn (ty td : TE) : TE := fun σ H Q => ty σ H fun y H1 => td σ H1 fun x H2 => ∃ a o, x = .ref a ∧ DGet H2 a y o ∧ Q (.bl (!o.isSome)) H2
/-- d[y] = v -/
def sDPut (td ty tv : TE) : TS := fun D σ H => tv σ H fun v H1 => td σ H1 fun x H2 => ty σ H2 fun y H3 => ∃ a H4, x = .ref a ∧ DPut H3 a y v H4 ∧ D.nx σ H4
/-- d[y] op= v -/
def sDAug (td ty tv : TE) (rd : V → V → Hp → VK → Prop) : TS := fun D σ H => td σ H fun x H1 => ty σ H1 fun y H2 => ∃ a v, x = .ref a ∧ DGet H2 a y (some v) ∧
  tv σ H2 fun y2 H3 => rd v y2 H3 fun z H4 => ∃ H5, DPut H4 a y z H5 ∧ D.nx σ H5
/-- del d[y] -/
def sDDel (td ty : TE) : TS := fun D σ H => td σ H fun x H1 => ty σ H1 fun y H2 => ∃ a kvs k, x = .ref a ∧ H2 a = some (.dK kvs) ∧ y = kV k ∧ (valV kvs k).isSome = true ∧ D.nx σ (upd H2 a (.dK (dropK kvs k)))

section
variable {X : Cx} {o i e value : Expr} {pos pos' tpos : Pos} {td ty tv : TE}
theorem pe_dget (hu : X.A.units + 1 < cLine) (ho : PE X o td) (hi : PE X i ty) (hs : NoSl i) : PE X (.Subscript o i pos) (tDGet td ty) := by
  intro pins s σ H Q I h
  refine subD_of PySem.F.slot_dict_getitem.lookup hs (thn (ho pins s σ H _ I h) fun u s1 ⟨x, H1, I1, rx, q1⟩ => thn (hi pins s1 σ H1 _ I1 q1) fun iv s2 ⟨y, H2, I2, ry, a, v, ex, g, q2⟩ => ?_)
  subst ex
  obtain rfl : u = Value.ref a := rx
  exact ⟨dict_typeIs I2 g, d_getItem hu I2 g ry fun w' s3 I3 rw' => ⟨v, H2, I3, rw', q2⟩⟩
theorem pc_din (hu : X.A.units + 1 < cLine) (hi : PE X i ty) (ho : PE X o td) : PC X .In i o (tDIn ty td) := by
  intro pins s σ H Q I h
  refine thn (hi pins s σ H _ I h) fun iv s1 ⟨y, H1, I1, ry, q1⟩ => thn (ho pins s1 σ H1 _ I1 q1) fun u s2 ⟨x, H2, I2, rx, a, ov, ex, g, q2⟩ => ?_
  subst ex
  obtain rfl : u = Value.ref a := rx
  exact d_in hu I2 g ry fun s3 I3 => ⟨.bl ov.isSome, H2, I3, rfl, q2⟩
theorem pc_dnotin (hu : X.A.units + 1 < cLine) (hi : PE X i ty) (ho : PE X o td) : PC X .NotIn i o (tDNotIn ty td) := by
  intro pins s σ H Q I h
  refine thn (hi pins s σ H _ I h) fun iv s1 ⟨y, H1, I1, ry, q1⟩ => thn (ho pins s1 σ H1 _ I1 q1) fun u s2 ⟨x, H2, I2, rx, a, ov, ex, g, q2⟩ => ?_
  subst ex
  obtain rfl : u = Value.ref a := rx
  exact d_notIn hu I2 g ry fun s3 I3 => ⟨.bl (!ov.isSome), H2, I3, rfl, q2⟩
theorem ps_dput (hu : X.A.units + 1 < cLine) (ho : PE X o td) (hi : PE X i ty) (hv : PE X value tv) (hs : swapsWith value (some (.Subscript o i pos')) pos.line X.env = pure false) :
    PS X (.Assign [.Subscript o i pos'] value pos) (sDPut td ty tv) := by
  intro pins s σ H D I h
  refine wpAny_Assign_Subscript (thn (hv pins s σ H _ I h) fun r s1 ⟨v, H1, I1, rv, q1⟩ => thn (ho pins s1 σ H1 _ I1 q1) fun u s2 ⟨x, H2, I2, rx, q2⟩ => thn (hi pins s2 σ H2 _ I2 q2) fun iv s3 ⟨y, H3, I3, ry, a, H4, ex, g, q3⟩ => ?_) hs
  subst ex
  obtain rfl : u = Value.ref a := rx
  exact d_setItem hu I3 g ry rv fun s4 I4 => ⟨σ, H4, I4, q3⟩
theorem ps_daug {op : Operator} {rd : V → V → Hp → VK → Prop} (hu : X.A.units + 1 < cLine) (ho : PE X o td) (hi : PE X i ty) (hv : PE X value tv) (hop : InOp X op rd)
    (ha : ∀ ov iv new, augStore i ov iv new = (do holding [new, ov, iv] (setItem ov iv new); release [new, ov, iv] []; pure .next)) : PS X (.AugAssign (.Subscript o i tpos) op value pos) (sDAug td ty tv rd) := by
  intro pins s σ H D I h
  refine wpAny_AugAssign_SubscriptAny (thn (ho pins s σ H _ I h) fun u s1 ⟨x, H1, I1, rx, q1⟩ => thn (hi pins s1 σ H1 _ I1 q1) fun iv s2 ⟨y, H2, I2, ry, a, v, ex, g, q2⟩ => ?_) ha
  subst ex
  obtain rfl : u = Value.ref a := rx
  refine d_getItem hu I2 g ry fun w' s3 I3 rw' => thn (hv pins s3 σ H2 _ I3 q2) fun w2 s4 ⟨y2, H3, I4, ry2, q3⟩ => thn (hop pins s4 σ H3 v y2 w' w2 _ I4 rw' ry2 q3) fun w3 s5 ⟨z, H4, I5, rz, H5, g5, q4⟩ => ?_
  exact d_setItem hu I5 g5 ry rz fun s6 I6 => ⟨σ, H5, I6, q4⟩
theorem ps_ddel (ho : PE X o td) (hi : PE X i ty) : PS X (.Delete [.Subscript o i tpos] pos) (sDDel td ty) := by
  intro pins s σ H D I h
  refine wpAny_Delete (wpAny_deleteEach_cons (wpAny_delete_Subscript (thn (ho pins s σ H _ I h) fun u s1 ⟨x, H1, I1, rx, q1⟩ => thn (hi pins s1 σ H1 _ I1 q1) fun iv s2 ⟨y, H2, I2, ry, a, kvs, k, ex, e, ey, l, q2⟩ => ?_)))
  subst ex ey
  obtain rfl : u = Value.ref a := rx
  exact d_delItem I2 e ry l fun s3 I3 => wpAny_deleteEach_nil ⟨σ, _, I3, q2⟩
end


/-! ### displays -/
theorem dk_empty {P : Program} {w : World} {H : Hp} (h : Heap) (hb : sysModules < h.objs.size) : ObjOk P w H (h.push { cls := .type "dict", data := .dict #[] }) h.objs.size (.dK []) :=
  ⟨Nat.zero_le _, beq_eq_false_iff_ne.mpr (Ne.symm (Nat.ne_of_lt hb)), [], .nil, Heap.DictOf.new h⟩
theorem dt_empty {P : Program} {w : World} {H : Hp} (h : Heap) (hb : sysModules < h.objs.size) : ObjOk P w H (h.push { cls := .type "dict", data := .dict #[] }) h.objs.size (.dT []) :=
  ⟨Nat.zero_le _, beq_eq_false_iff_ne.mpr (Ne.symm (Nat.ne_of_lt hb)), [], .nil, _, #[], 0, Heap.get?_push_size _ rfl, ⟨rfl, rfl, rfl⟩, rfl, rfl, List.nodup_nil⟩
/-- {}, to be a dict of the kind that is wanted -/
def tDNewK : TE := fun _ H Q => ∀ p, H p = none → Q (.ref p) (upd H p (.dK []))
def tDNewT : TE := fun _ H Q => ∀ p, H p = none → Q (.ref p) (upd H p (.dT []))
section
variable {X : Cx} {pos : Pos}
theorem pe_dnewK : PE X (.Dict [] [] pos) tDNewK := fun pins s σ H Q I h =>
  wpAny_Dict_empty ⟨.ref s.heap.objs.size, _, I.laid (a := s.heap.objs.size) (o := .dK []) (t' := s.toks) (fun _ _ q => Heap.get?_push_of_some _ q) (Nat.le_refl _) (dk_empty s.heap I.big), rfl, h _ (I.hok.fresh (Nat.le_refl _))⟩
theorem pe_dnewT : PE X (.Dict [] [] pos) tDNewT := fun pins s σ H Q I h =>
  wpAny_Dict_empty ⟨.ref s.heap.objs.size, _, I.laid (a := s.heap.objs.size) (o := .dT []) (t' := s.toks) (fun _ _ q => Heap.get?_push_of_some _ q) (Nat.le_refl _) (dt_empty s.heap I.big), rfl, h _ (I.hok.fresh (Nat.le_refl _))⟩
end

/-- the pairs of a display, from the left -/
def tPairs : List (TE × TE) → St → Hp → (List (V × V) → Hp → Prop) → Prop
  | [], _, H, Q => Q [] H
  | (tk, tv) :: r, σ, H, Q => tk σ H fun x H1 => tv σ H1 fun y H2 => tPairs r σ H2 fun ps H3 => Q ((x, y) :: ps) H3
abbrev VV : List (V × V) → List (Value × Value) → Prop := Paired fun p q => RelV p.1 q.1 ∧ RelV p.2 q.2
def PPs (X : Cx) (pos : Pos) (keys : List (Option Expr)) (values : List Expr) (trs : List (TE × TE)) : Prop :=
  ∀ (pins : List (Addr × Obj)) (s : Shared) (σ : St) (H : Hp) (Q : List (V × V) → Hp → Prop), Inv X pins σ H s → tPairs trs σ H Q →
    wpAny (model X.prog X.w) X.A (evalPairs (pairTrees keys values X.env pos)) (fun vs s' => ∃ ps H', Inv X pins σ H' s' ∧ VV ps vs ∧ Q ps H') X.xe s
theorem pps_nil {X : Cx} {pos : Pos} : PPs X pos [] [] [] := fun pins s σ H Q I h => pairTrees_nil_walk ⟨[], H, I, .nil, h⟩
theorem pps_cons {X : Cx} {pos : Pos} {k v : Expr} {ks : List (Option Expr)} {vs : List Expr} {tk tv : TE} {trs : List (TE × TE)} (hk : PE X k tk) (hv : PE X v tv) (hr : PPs X pos ks vs trs) :
    PPs X pos (some k :: ks) (v :: vs) ((tk, tv) :: trs) := fun pins s σ H Q I h =>
  pairTrees_cons_walk (thn (hk pins s σ H _ I h) fun u s1 ⟨x, H1, I1, rx, q1⟩ => thn (hv pins s1 σ H1 _ I1 q1) fun w2 s2 ⟨y, H2, I2, ry, q2⟩ =>
    thn (hr pins s2 σ H2 _ I2 q2) fun ws s3 ⟨ps, H3, I3, rel, q3⟩ => ⟨(x, y) :: ps, H3, I3, .cons ⟨rx, ry⟩ rel, q3⟩)

def mergeK (kvs more : List (Key × V)) : List (Key × V) := more.foldl (fun acc kv => putK acc kv.1 kv.2) kvs
theorem KV.merge : ∀ {more : List (Key × V)} {rs : List (Key × Value)} {kvs : List (Key × V)} {vs : List (Key × Value)}, KV more rs → KV kvs vs → KV (mergeK kvs more) (merged vs rs) := by
  intro more rs kvs vs r
  unfold KV at r
  induction r generalizing kvs vs with
  | nil => intro q; exact q
  | @cons p q ps qs h t ih =>
    intro r0
    have e : KV (putK kvs p.1 p.2) (stored vs q.1 q.2) := by
      have := r0.put p.1 h.2
      rw [← h.1]; exact this
    exact ih e
theorem length_mergeK : ∀ (more kvs : List (Key × V)), (mergeK kvs more).length ≤ kvs.length + more.length
  | [], kvs => by show kvs.length ≤ kvs.length + 0; omega
  | p :: r, kvs => by
    have h1 := length_mergeK r (putK kvs p.1 p.2)
    have h2 := length_putK kvs p.1 p.2
    show (mergeK (putK kvs p.1 p.2) r).length ≤ _
    rw [List.length_cons]; omega
theorem carries_of {P : Program} {w : World} : ∀ {kvs : List (Key × V)} {ws : List (Value × Value)}, VV (kvs.map fun kv => (kV kv.1, kv.2)) ws → ∃ rs, Carries (mixKind P w) ws rs ∧ KV kvs rs
  | [], _, r => by rw [List.map_nil] at r; cases r; exact ⟨[], True.intro, .nil⟩
  | p :: kvs, _, r => by
    rw [List.map_cons] at r
    cases r with
    | @cons a b as bs h t =>
      obtain ⟨rs, c, q⟩ := carries_of (P := P) (w := w) t
      obtain ⟨b1, b2⟩ := b
      exact ⟨(p.1, b2) :: rs, ⟨kV_is h.1, rfl, c⟩, .cons ⟨rfl, h.2⟩ q⟩
/-- {k: v, ..} with keys ints and texts; the new dict stands empty while the pairs are made -/
def tDisp (trs : List (TE × TE)) : TE := fun σ H Q => ∀ p, H p = none → tPairs trs σ (upd H p (.dK [])) fun ps H2 => H2 p = some (.dK []) ∧ ∃ kvs : List (Key × V), ps = kvs.map (fun kv => (kV kv.1, kv.2)) ∧ kvs.length ≤ 15 ∧ Q (.ref p) (upd H2 p (.dK (mergeK [] kvs)))
theorem pe_disp {X : Cx} {pos : Pos} {keys : List (Option Expr)} {values : List Expr} {trs : List (TE × TE)} (h : PPs X pos keys values trs) (hall : keys.all (·.isSome) = true) (hl : keys.length = values.length) (h0 : keys ≠ [])
    (h15 : keys.length ≤ 15) : PE X (.Dict keys values pos) (tDisp trs) := by
  intro pins s σ H Q I q
  have hn := I.hok.fresh (Nat.le_refl s.heap.objs.size)
  have I1 := I.laid (a := s.heap.objs.size) (o := .dK []) (h' := s.heap.push { cls := .type "dict", data := .dict #[] }) (t' := s.toks) (fun _ _ q => Heap.get?_push_of_some _ q) (Nat.le_refl _) (dk_empty s.heap I.big)
  refine wpAny_Dict_walk (knd := mixKind X.prog X.w) hall hl h0 h15 (thn (h pins _ σ _ _ I1 (q _ hn)) fun ws s2 ⟨ps, H2, I2, rel, e, kvs, ep, lk, q2⟩ => ?_)
  subst ep
  obtain ⟨rs, c, rk⟩ := carries_of (P := X.prog) (w := X.w) rel
  obtain ⟨z, hd, vs0, r0, dd⟩ := dk_of I2.hok e
  cases r0
  refine ⟨rs, c, dd, fun h' dd' hs => ⟨.ref s.heap.objs.size, _, ?_, rfl, q2⟩⟩
  have hz : (mergeK [] kvs).length ≤ sizeLine := by
    have h1 := length_mergeK kvs []
    rw [List.length_nil] at h1
    rw [sizeLine_eq]; omega
  have he : ∃ q, h'.get? s.heap.objs.size = some q := let ⟨q, _, _, hq, _⟩ := dd'; ⟨q, hq⟩
  exact d_write I2 (by rw [e]; exact True.intro) hs he (dk_new hz hd (rk.merge .nil) dd')


/-! ### methods -/
/-- a method call o.m(e) of a built-in, with one argument: what must be seen of the text -/
structure M1 (X : Cx) (o : Expr) (m : Str) (apos : Pos) (e : Expr) (cpos : Pos) : Prop where
  base : attributeBase o m X.env (eval o X.env) = eval o X.env
  few : ((backTo cpos (starEach [e] X.env)).all (fun x => !x.1) && (backToKw cpos (keywordEach [] X.env)).all (fun x => x.1.isSome)
    && decide (([e] : List Expr).length + ([] : List Keyword).length + (if ([] : List Keyword).isEmpty then 0 else 1) < 30)) = true
  line : (apos.endLine == cpos.line) = true
  trees : backTo cpos (starEach [e] X.env) = [(false, eval e X.env)]
structure M2 (X : Cx) (o : Expr) (m : Str) (apos : Pos) (e f : Expr) (cpos : Pos) : Prop where
  base : attributeBase o m X.env (eval o X.env) = eval o X.env
  few : ((backTo cpos (starEach [e, f] X.env)).all (fun x => !x.1) && (backToKw cpos (keywordEach [] X.env)).all (fun x => x.1.isSome)
    && decide (([e, f] : List Expr).length + ([] : List Keyword).length + (if ([] : List Keyword).isEmpty then 0 else 1) < 30)) = true
  line : (apos.endLine == cpos.line) = true
  trees : backTo cpos (starEach [e, f] X.env) = [(false, eval e X.env), (false, eval f X.env)]

/-- a is a dict, whatever its keys -/
def IsD (H : Hp) (a : Addr) : Prop := (∃ kvs, Rd H a (.dK kvs)) ∨ ∃ kvs, Rd H a (.dT kvs)
theorem isD_at {X : Cx} {pins : List (Addr × Obj)} {σ : St} {H : Hp} {s : Shared} {a : Addr} (I : Inv X pins σ H s) (d : IsD H a) :
    s.TypeIs (.ref a) "dict" ∧ (∀ b, Value.ref a = .ref b → ∃ ob, s.heap.get? b = some ob ∧ ob.dict = none) ∧ (a == sysModules) = false := by
  rcases d with ⟨kvs, e⟩ | ⟨kvs, e⟩
  · obtain ⟨_, hd, vs, _, dd⟩ := dk_rd I.hok e
    refine ⟨dd.typeIs, fun b q => ?_, hd⟩
    cases q
    obtain ⟨ob, _, _, h1, h2, _⟩ := dd
    exact ⟨ob, h1, h2.2.1⟩
  · obtain ⟨_, hd, xs, _, dd⟩ := dt_rd I.hok e
    refine ⟨dd.typeIs, fun b q => ?_, hd⟩
    cases q
    obtain ⟨ob, _, _, h1, h2, _⟩ := dd
    exact ⟨ob, h1, h2.2.1⟩

section
variable {X : Cx} {pins : List (Addr × Obj)} {σ : St} {H : Hp} {s : Shared} {a : Addr} {y d : V} {u r : Value} {o : Option V} {A : Around} {E : Value → Shared → Prop}
/-- d.get(y) -/
theorem d_get1 {Q : Value → Shared → Prop} (hu : A.units + 1 < cLine) (I : Inv X pins σ H s) (g : DGet H a y o) (ry : RelV y u) (h : ∀ w' s', Inv X pins σ H s' → RelV (o.getD .non) w' → Q w' s') :
    wpAny (model X.prog X.w) A (call (.builtin "dict.get") [.ref a, u]) Q E s := by
  rcases g with ⟨kvs, k, e, ey, l⟩ | ⟨kvs, k, b, e, ey, eb, l⟩
  · subst ey
    obtain ⟨z, hd, vs, rel, dd⟩ := dk_rd I.hok e
    refine call_meetsIn PySem.F.slot_dict_get dd.typeIs PySem.F.entry_dict_get (PySem.F.args_dict_get_2 _ _) (meets_dict_get (mixKind X.prog X.w) a (kV_is ry) hd) ⟨_, dd.mapOf, h _ _ (I.tok _) ?_⟩
    rw [l]
    exact (rel.val k).getD rfl
  · subst ey
    cases (show u = Value.ref b from ry)
    obtain ⟨z, hd, xs, rel, dd⟩ := dt_rd I.hok e
    refine call_meetsIn PySem.F.slot_dict_get dd.typeIs PySem.F.entry_dict_get (PySem.F.args_dict_get_2 _ _) (meetsH_dict_get (tupleKind (mixKind X.prog X.w)) a b hd) ⟨tupleKind_room_in1 hu, k, xs, key_of I.hok eb, dd, h _ _ (I.tok _) ?_⟩
    rw [l]
    exact (rel.val k).getD rfl
/-- d.get(y, x) -/
theorem d_get2 {Q : Value → Shared → Prop} (hu : A.units + 1 < cLine) (I : Inv X pins σ H s) (g : DGet H a y o) (ry : RelV y u) (rd : RelV d r) (h : ∀ w' s', Inv X pins σ H s' → RelV (o.getD d) w' → Q w' s') :
    wpAny (model X.prog X.w) A (call (.builtin "dict.get") [.ref a, u, r]) Q E s := by
  rcases g with ⟨kvs, k, e, ey, l⟩ | ⟨kvs, k, b, e, ey, eb, l⟩
  · subst ey
    obtain ⟨z, hd, vs, rel, dd⟩ := dk_rd I.hok e
    refine call_meetsIn PySem.F.slot_dict_get dd.typeIs PySem.F.entry_dict_get (PySem.F.args_dict_get_3 _ _ _) (meets_dict_get_default (mixKind X.prog X.w) a (kV_is ry) hd r) ⟨_, dd.mapOf, h _ _ (I.tok _) ?_⟩
    rw [l]
    exact (rel.val k).getD rd
  · subst ey
    cases (show u = Value.ref b from ry)
    obtain ⟨z, hd, xs, rel, dd⟩ := dt_rd I.hok e
    refine call_meetsIn PySem.F.slot_dict_get dd.typeIs PySem.F.entry_dict_get (PySem.F.args_dict_get_3 _ _ _) (meetsH_dict_get_default (tupleKind (mixKind X.prog X.w)) a b hd r) ⟨tupleKind_room_in1 hu, k, xs, key_of I.hok eb, dd, h _ _ (I.tok _) ?_⟩
    rw [l]
    exact (rel.val k).getD rd
end

def tDGet1 (td ty : TE) : TE := fun σ H Q => td σ H fun x H1 => ∃ a, x = .ref a ∧ IsD H1 a ∧ ty σ H1 fun y H2 => ∃ o, DGet H2 a y o ∧ Q (o.getD .non) H2
def tDGet2 (td ty tx : TE) : TE := fun σ H Q => td σ H fun x H1 => ∃ a, x = .ref a ∧ IsD H1 a ∧ ty σ H1 fun y H2 => tx σ H2 fun z H3 => ∃ o, DGet H3 a y o ∧ Q (o.getD z) H3
/-- d.pop(k): there; d.pop(k, x): there or not -/
def tDPop1 (td ty : TE) : TE := fun σ H Q => td σ H fun x H1 => ∃ a, x = .ref a ∧ IsD H1 a ∧ ty σ H1 fun y H2 => ∃ kvs k v, H2 a = some (.dK kvs) ∧ y = kV k ∧ valV kvs k = some v ∧ Q v (upd H2 a (.dK (dropK kvs k)))
def tDPop2 (td ty tx : TE) : TE := fun σ H Q => td σ H fun x H1 => ∃ a, x = .ref a ∧ IsD H1 a ∧ ty σ H1 fun y H2 => tx σ H2 fun z H3 => ∃ kvs k, H3 a = some (.dK kvs) ∧ y = kV k ∧
  (∀ v, valV kvs k = some v → Q v (upd H3 a (.dK (dropK kvs k)))) ∧ (valV kvs k = none → Q z H3)
section
variable {X : Cx} {o e f : Expr} {apos cpos : Pos} {td ty tx : TE}
theorem pe_dget1 (hu : X.A.units + 1 < cLine) (ho : PE X o td) (he : PE X e ty) (m : M1 X o "get" apos e cpos) : PE X (.Call (.Attribute o "get" apos) [e] [] cpos) (tDGet1 td ty) := by
  intro pins s σ H Q I h
  refine wpAny_Call_method m.base m.few m.line PySem.F.plainAttrs_dict PySem.F.slot_dict_get PySem.F.type_dict_get (thn (ho pins s σ H _ I h) fun u s1 ⟨x, H1, I1, rx, a, ex, d, q1⟩ => ?_)
  subst ex
  obtain rfl : u = Value.ref a := rx
  obtain ⟨t1, t2, _⟩ := isD_at I1 d
  refine ⟨t1, t2, ?_⟩
  rw [m.trees]
  refine Calls.callWith_builtin rfl (Calls.evalArgs_plain (Calls.spliced_cons (thn (he pins s1 σ H1 _ I1 q1) fun iv s2 ⟨y, H2, I2, ry, ov, g, q2⟩ => Calls.spliced_nil ?_)))
  exact d_get1 hu I2 g ry fun w' s3 I3 rw' => ⟨_, H2, I3, rw', q2⟩
theorem pe_dget2 (hu : X.A.units + 1 < cLine) (ho : PE X o td) (he : PE X e ty) (hf : PE X f tx) (m : M2 X o "get" apos e f cpos) : PE X (.Call (.Attribute o "get" apos) [e, f] [] cpos) (tDGet2 td ty tx) := by
  intro pins s σ H Q I h
  refine wpAny_Call_method m.base m.few m.line PySem.F.plainAttrs_dict PySem.F.slot_dict_get PySem.F.type_dict_get (thn (ho pins s σ H _ I h) fun u s1 ⟨x, H1, I1, rx, a, ex, d, q1⟩ => ?_)
  subst ex
  obtain rfl : u = Value.ref a := rx
  obtain ⟨t1, t2, _⟩ := isD_at I1 d
  refine ⟨t1, t2, ?_⟩
  rw [m.trees]
  refine Calls.callWith_builtin rfl (Calls.evalArgs_plain (Calls.spliced_cons (thn (he pins s1 σ H1 _ I1 q1) fun iv s2 ⟨y, H2, I2, ry, q2⟩ =>
    Calls.spliced_cons (thn (hf pins s2 σ H2 _ I2 q2) fun fv s3 ⟨z, H3, I3, rz, ov, g, q3⟩ => Calls.spliced_nil ?_))))
  exact d_get2 hu I3 g ry rz fun w' s4 I4 rw' => ⟨_, H3, I4, rw', q3⟩
theorem pe_dpop1 (ho : PE X o td) (he : PE X e ty) (m : M1 X o "pop" apos e cpos) : PE X (.Call (.Attribute o "pop" apos) [e] [] cpos) (tDPop1 td ty) := by
  intro pins s σ H Q I h
  refine wpAny_Call_method m.base m.few m.line PySem.F.plainAttrs_dict PySem.F.slot_dict_pop PySem.F.type_dict_pop (thn (ho pins s σ H _ I h) fun u s1 ⟨x, H1, I1, rx, a, ex, d, q1⟩ => ?_)
  subst ex
  obtain rfl : u = Value.ref a := rx
  obtain ⟨t1, t2, _⟩ := isD_at I1 d
  refine ⟨t1, t2, ?_⟩
  rw [m.trees]
  refine Calls.callWith_builtin rfl (Calls.evalArgs_plain (Calls.spliced_cons (thn (he pins s1 σ H1 _ I1 q1) fun iv s2 ⟨y, H2, I2, ry, kvs, k, v, ea, ey, l, q2⟩ => Calls.spliced_nil ?_)))
  subst ey
  exact d_pop I2 ea ry l (.inl rfl) fun w' s3 I3 rw' => ⟨v, _, I3, rw', q2⟩
theorem pe_dpop2 (ho : PE X o td) (he : PE X e ty) (hf : PE X f tx) (m : M2 X o "pop" apos e f cpos) : PE X (.Call (.Attribute o "pop" apos) [e, f] [] cpos) (tDPop2 td ty tx) := by
  intro pins s σ H Q I h
  refine wpAny_Call_method m.base m.few m.line PySem.F.plainAttrs_dict PySem.F.slot_dict_pop PySem.F.type_dict_pop (thn (ho pins s σ H _ I h) fun u s1 ⟨x, H1, I1, rx, a, ex, d, q1⟩ => ?_)
  subst ex
  obtain rfl : u = Value.ref a := rx
  obtain ⟨t1, t2, _⟩ := isD_at I1 d
  refine ⟨t1, t2, ?_⟩
  rw [m.trees]
  refine Calls.callWith_builtin rfl (Calls.evalArgs_plain (Calls.spliced_cons (thn (he pins s1 σ H1 _ I1 q1) fun iv s2 ⟨y, H2, I2, ry, q2⟩ =>
    Calls.spliced_cons (thn (hf pins s2 σ H2 _ I2 q2) fun fv s3 ⟨z, H3, I3, rz, kvs, k, ea, ey, q3, q4⟩ => Calls.spliced_nil ?_))))
  subst ey
  cases l : valV kvs k with
  | some v => exact d_pop I3 ea ry l (.inr ⟨fv, rfl⟩) fun w' s4 I4 rw' => ⟨v, _, I4, rw', q3 v l⟩
  | none => exact d_popD I3 ea ry l fun s4 I4 => ⟨z, H3, I4, rz, q4 l⟩
end

/-! ### dict(d): a copy -/
section
variable {X : Cx} {pins : List (Addr × Obj)} {σ : St} {H : Hp} {s : Shared} {a : Addr} {kvs : List (Key × V)} {A : Around} {E : Value → Shared → Prop}
theorem d_copyOf {Q : Value → Shared → Prop} (I : Inv X pins σ H s) (e : Rd H a (.dK kvs)) (h : ∀ p s', H p = none → Inv X pins σ (upd H p (.dK kvs)) s' → Q (.ref p) s') : wpAny (model X.prog X.w) A (call (.type "dict") [.ref a]) Q E s := by
  obtain ⟨z, hd, vs, rel, dd⟩ := dk_rd I.hok e
  refine kt_call_dict hd dd (by rw [← rel.length]; exact z) fun h' dd' hs => ?_
  refine h _ _ (I.hok.fresh (Nat.le_refl _)) (I.laid (a := s.heap.objs.size) (o := .dK kvs) (t' := s.toks) (fun b q hq => ?_) (Nat.le_refl _) (dk_new z (beq_eq_false_iff_ne.mpr (Ne.symm (Nat.ne_of_lt I.big))) rel dd'))
  exact (hs.2 b (Nat.ne_of_lt (Heap.lt_size hq))).trans (Heap.get?_push_of_some _ hq)
end


section
variable {X : Cx} {pins : List (Addr × Obj)} {σ : St} {H : Hp} {s : Shared} {a : Addr} {y : V} {u : Value} {A : Around} {E : Value → Shared → Prop}
/-- d[y], not there: a KeyError -/
theorem d_missing {Q : Value → Shared → Prop} (hu : A.units + 1 < cLine) (hh : A.handled = none) (I : Inv X pins σ H s) (g : DGet H a y none) (ry : RelV y u)
    (h : ∀ h' e t', Heap.NewExc s.heap h' e "KeyError" → E (.ref e) { s with heap := h', toks := t' }) : wpAny (model X.prog X.w) A (getItem (.ref a) u) Q E s := by
  rcases g with ⟨kvs, k, e, ey, l⟩ | ⟨kvs, k, b, e, ey, eb, l⟩
  · subst ey
    obtain ⟨z, hd, vs, rel, dd⟩ := dk_rd I.hok e
    have hn : valueAt vs k = none := RelO.none_of (by rw [l]; exact rel.val k)
    exact wpAny_getItem_missing_of (kV_is ry) hd hh dd.mapOf hn fun h' ex ne => h h' ex _ ne
  · subst ey
    cases (show u = Value.ref b from ry)
    obtain ⟨z, hd, xs, rel, dd⟩ := dt_rd I.hok e
    have hn : (atKey xs k).map (·.2) = none := RelO.none_of (by rw [l]; exact rel.val k)
    exact wpAny_getItem_missing_heap (tupleKind_room_in1 hu) (key_of I.hok eb) hd hh dd (Option.map_eq_none_iff.mp hn) fun h' ex ne => h h' ex _ ne
end
end L2

namespace L2
open PySem PySem.Spec PyProof.Rows

theorem list_keys_none : typeLookup (.type "list") "keys" = pure none := am_miss_of_fast (by first | decide +kernel | rfl)
theorem ud_entry : entryFor table "dict.update.loop" = some Builtin.«dict.update.loop» := entryFor_of_tree (by kernel_rfl)
theorem ud_plain : plainId "dict.update.loop" = true := by decide +kernel

section
variable {prog : Program} {w : World} {A : Around} {E : Value → Shared → Prop}
/-- a list has no attribute 'keys': an AttributeError is made, and forgotten -/
theorem miss_list {s : Shared} {a : Addr} {o : Obj} {xs : Array Value} {k : Nat} {Q : Option Value → Shared → Prop} (hx : s.heap.get? a = some o) (hc : o.cls = .type "list") (hdat : o.data = .seq xs k) (hd : o.dict = none) (hA : A.handled = none)
    (h : ∀ h' tk, (∀ b ob, s.heap.get? b = some ob → h'.get? b = some ob) → Q none { s with heap := h', toks := tk }) : wpAny (model prog w) A (getAttr? (.ref a) "keys") Q E s := by
  obtain ⟨c, dct, dat, sl⟩ := o
  simp only at hc hdat hd
  subst hc hdat hd
  obtain ⟨hp, g, d, tk, os⟩ := s
  have hT : ∀ tk', (⟨hp, g, d, tk', os⟩ : Shared).TypeIs (.ref a) "list" := fun _ => ⟨_, hx, rfl⟩
  have hmiss := list_keys_none
  have hname : (["__module__", "__name__", "__qualname__", "__doc__", "__annotations__"] : List Str).contains "keys" = false := by decide +kernel
  have hsz : ("keys" : Str).length + 100 ≤ sizeLine := by first | size_fits | decide +kernel
  have f1 := sub_AttributeError
  have f3 := PySem.F.slot_list_getattribute.lookup
  have f4 := PySem.F.slot_list_getattribute.bind (.ref a)
  have f5 := am_list_getattr_none
  unfold getAttr? getAttrBy? getAttrBy
  repeat (any_goals (first | assumption | exact hT _ | ((with_reducible show wpAny _ _ (call (Value.builtin "list.__getattribute__") _ _) _ _ _); refine call_meets PySem.F.slot_list_getattribute (hT _) am_entry_list_getattribute (PySem.F.args_list_getattribute_2 _ _) (meets_getattribute_miss_list a xs k sl "keys" _ hmiss hname hsz) ⟨hx, hA, fun h' tk' e hx' => ?_⟩) | wp_step))
  obtain ⟨t', u', he⟩ := hx'.there
  show wpAny _ _ (getattributeRaised _ _ _ _ _ _ _) _ _ _
  unfold getattributeRaised
  repeat (any_goals (first | assumption | wp_step))
  all_goals first | exact h _ _ hx'.keeps | (dsimp only; repeat (any_goals (first | assumption | exact h _ _ hx'.keeps | wp_step)))

/-- the walk over the pairs -/
theorem upd_loop {R : Result → Shared → Prop} {S I l : Addr} {items : Array Value} {res : Value} (hh : A.handled = none) (hlI : l ≠ I) (hSI : S ≠ I) (hSl : S ≠ l) :
    ∀ (rest : List (Key × Value)) (i : Nat) (acc : List (Key × Value)) (ix : Int) (t : Tok) (s : Shared), items.size = i + rest.length → acc.length + rest.length ≤ sizeLine →
      (∀ (j : Nat) (q : Key × Value), rest[j]? = some q → ∃ (b : Addr) (u : Value), items[i + j]? = some (.ref b) ∧ b ≠ S ∧ b ≠ I ∧ IsTup s.heap b #[u, q.2] ∧ keyIs q.1 u = true) →
      s.heap.IsListIter I l i → s.heap.IsList l items → s.heap.DictOf (mixKind prog w) S acc →
      (∀ h' tk, h'.DictOf (mixKind prog w) S (merged acc rest) → (∀ b o, b ≠ S → b ≠ I → s.heap.get? b = some o → h'.get? b = some o) → R (.ok (.ret res)) { s with heap := h', toks := tk }) →
      codeAny (model prog w) A (.builtin "dict.update.loop" ⟨[.ref S, .ref I, .int ix t, res], []⟩) R s
  | [], i, acc, ix, t, s, hsz, hln, ht, hit, hl, hm, hR => by
    refine codeAny_builtin ud_entry ?_
    rw [Around.under_plainId ud_plain _]
    show wpAny _ A.in1 (pyNext (.ref I) >>= _) _ _ s
    refine wpAny_bind (wpAny_pyNext_list_end (A := A.in1) hh hit hl (by first | exact Array.getElem?_eq_none (Nat.le_of_eq hsz) | (simp at hsz; simp; omega)) fun h' he => ?_)
    show wpAny _ A.in1 (Builtin.Dict.addKeywords S [] >>= _) _ _ _
    refine wpAny_bind (wpAny_pure (wpAny_pure ?_))
    exact hR h' s.toks (hm.extBut he hSI) fun b o _ hb e => he b o hb e
  | q :: rest, i, acc, ix, t, s, hsz, hln, ht, hit, hl, hm, hR => by
    obtain ⟨b, u, hb, hbS, hbI, htup, hk⟩ := ht 0 q rfl
    rw [List.length_cons] at hsz hln
    refine codeAny_builtin ud_entry ?_
    rw [Around.under_plainId ud_plain _]
    show wpAny _ A.in1 (pyNext (.ref I) >>= _) _ _ s
    refine wpAny_bind (wpAny_pyNext_list_item (x := .ref b) hit hl (by simpa using hb) fun h1 hit1 hs1 => ?_)
    have ht1 : IsTup h1 b #[u, q.2] := htup.extBut hs1.extBut hbI
    have hl1 : h1.IsList l items := hl.extBut hs1.extBut hlI
    have hm1 : h1.DictOf (mixKind prog w) S acc := hm.extBut hs1.extBut hSI
    obtain ⟨o, ho, hc, n, hd⟩ := id ht1
    show wpAny _ A.in1 (holding [Value.ref b] _ >>= _) _ _ _
    refine wpAny_bind (wpAny_holding ?_)
    refine wpAny_bind (wpAny_tryCatch ?_)
    unfold Builtin.Dict.pairItems
    refine wpAny_bind (wpAny_typeOf (T := "tuple") ⟨o, ho, hc⟩ ?_)
    rw [if_pos (by first | decide | rfl | simp)]
    refine wpAny_bind (wpAny_seqItems ho hd (wpAny_pure ?_))
    show wpAny _ A.in1 (holding [u, q.2] (dictSet S u q.2)) _ _ _
    refine wpAny_holding (wpAny_dictSet_pairs (knd := mixKind prog w) (k := q.1) hk hm1 (fun h2 hm2 hs2 => ?_) (by omega))
    refine wpAny_pure ⟨plainId_quiet ud_plain _, upd_loop (items := items) hh hlI hSI hSl rest (i + 1) (stored acc q.1 q.2) (ix + 1) 0 _ (show items.size = i + 1 + rest.length by omega) ?_ (fun j q' e => ?_) ?_ ?_ hm2 fun h' tk hd' k => ?_⟩
    · have z := stored_length_le acc q.1 q.2
      omega
    · obtain ⟨b', u', hb', hbS', hbI', htup', hk'⟩ := ht (j + 1) q' (by simpa using e)
      refine ⟨b', u', ?_, hbS', hbI', (htup'.extBut hs1.extBut hbI').extBut hs2.extBut hbS', hk'⟩
      rw [show i + 1 + j = i + (j + 1) by omega]
      exact hb'
    · exact hit1.at fun o' e => hs2.extBut I o' (Ne.symm hSI) e
    · exact hl1.extBut hs2.extBut (Ne.symm hSl)
    · exact hR h' tk hd' fun c oc h3 h4 e => k c oc h3 h4 (hs2.extBut c oc h3 (hs1.extBut c oc h4 e))

/-- dict(l) of a list of pairs -/
theorem call_dict_pairs {s : Shared} {l : Addr} {ol : Obj} {items : Array Value} {n : Nat} {prs : List (Key × Value)} {Q : Value → Shared → Prop} (hh : A.handled = none) (hl : s.heap.get? l = some ol) (hc : ol.cls = .type "list") (hd : ol.dict = none)
    (hdat : ol.data = .seq items n) (hsz : items.size = prs.length) (hln : prs.length ≤ sizeLine)
    (ht : ∀ (j : Nat) (q : Key × Value), prs[j]? = some q → ∃ (b : Addr) (u : Value), items[j]? = some (.ref b) ∧ IsTup s.heap b #[u, q.2] ∧ keyIs q.1 u = true)
    (h : ∀ h' tk, h'.DictOf (mixKind prog w) s.heap.objs.size (merged [] prs) → (∀ b o, s.heap.get? b = some o → h'.get? b = some o) → Q (.ref s.heap.objs.size) { s with heap := h', toks := tk }) :
    wpAny (model prog w) A (call (.type "dict") [.ref l]) Q E s := by
  refine callType_codes (Q₁ := fun obj s₁ => obj = .ref s.heap.objs.size ∧ s₁ = { s with heap := s.heap.push { cls := .type "dict", data := .dict #[] } }) PySem.F.kt_called_dict (PySem.F.kt_typeCall_dict_1 _) PySem.F.entry_dict_init (kt_code_dict_new _ ⟨rfl, rfl⟩) ?_
  rintro obj s₁ ⟨rfl, rfl⟩
  have hnew : (s.heap.push { cls := .type "dict", data := .dict #[] }).DictOf (mixKind prog w) s.heap.objs.size [] := Heap.DictOf.new s.heap
  have k0 : ∀ b o, s.heap.get? b = some o → (s.heap.push { cls := .type "dict", data := .dict #[] }).get? b = some o := fun b o e => Heap.get?_push_of_some _ e
  refine ⟨hnew.typeIs, PySem.F.args_dict_init_2 _ _, ?_⟩
  unfold Builtin.«dict.__init__»
  refine wpAny_bind ?_
  unfold Builtin.Dict.selfAndRest
  refine wpAny_bind (wpAny_notOrdered_dict hnew.typeIs ?_)
  show wpAny _ _ (pure (s.heap.objs.size, [Value.ref l])) _ _ _
  refine wpAny_pure ?_
  show wpAny _ _ (Builtin.Dict.updateFrom "dict.__init__" s.heap.objs.size (.ref l) [] .none) _ _ _
  unfold Builtin.Dict.updateFrom
  refine wpAny_bind (wpAny_typeOf (T := "list") ⟨ol, k0 _ _ hl, hc⟩ ?_)
  rw [if_pos (by first | decide | rfl | simp)]
  refine wpAny_bind (miss_list (k0 _ _ hl) hc hdat hd hh fun h1 tk1 hk1 => ?_)
  rw [if_pos (show (none : Option Value).isNone = true from rfl)]
  refine wpAny_bind (wpAny_rule ?_)
  have hl1 : h1.IsList l items := ⟨ol, hk1 _ _ (k0 _ _ hl), hc, n, hdat⟩
  have hS1 : s.heap.objs.size < h1.objs.size := by
    have e : (s.heap.push { cls := .type "dict", data := .dict #[] }).get? s.heap.objs.size = some { cls := .type "dict", data := .dict #[] } := Heap.get?_push_size _ rfl
    exact Heap.lt_size (hk1 _ _ e)
  refine wpAny_bind (wpAny_pyIter_list hl1 ?_)
  have k2 : ∀ b o, h1.get? b = some o → (h1.push { cls := .type "list_iterator", data := .fields #[.ref l, .int 0 0] }).get? b = some o := fun b o e => Heap.get?_push_of_some _ e
  have hlt : l < s.heap.objs.size := Heap.lt_size hl
  have key := upd_loop (prog := prog) (w := w) (A := A.in1) (R := wants (fun r s₂ => r = .none ∧ Q (.ref s.heap.objs.size) s₂) E) (S := s.heap.objs.size) (I := h1.objs.size) (l := l) (items := items) (res := Value.none) hh
    (Nat.ne_of_lt (Nat.lt_trans hlt hS1)) (Nat.ne_of_lt hS1) (Nat.ne_of_gt hlt) prs 0 [] 0 0
    { s with heap := h1.push { cls := .type "list_iterator", data := .fields #[.ref l, .int 0 0] }, toks := tk1 } (by rw [hsz, Nat.zero_add]) (by rw [List.length_nil, Nat.zero_add]; exact hln)
    (fun j q e => by
      obtain ⟨b, u, e1, e2, e3⟩ := ht j q e
      have hb : b < s.heap.objs.size := e2.lt
      exact ⟨b, u, by rw [Nat.zero_add]; exact e1, Nat.ne_of_lt hb, Nat.ne_of_lt (Nat.lt_trans hb hS1), e2.keeps fun c o z => k2 _ _ (hk1 _ _ (k0 _ _ z)), e3⟩)
    ⟨_, Heap.get?_push_size _ rfl, rfl, rfl⟩ (hl1.at fun o e => k2 _ _ e) ((hnew.at fun o e => hk1 _ _ e).at fun o e => k2 _ _ e)
    (fun h' tk hd' k => ⟨rfl, h h' tk hd' fun b o e => k b o (Nat.ne_of_lt (Heap.lt_size e)) (Nat.ne_of_lt (Nat.lt_trans (Heap.lt_size e) hS1)) (k2 _ _ (hk1 _ _ (k0 _ _ e)))⟩)
  first
    | exact wpAny_pure ⟨plainId_quiet ud_plain _, key⟩
    | exact wpAny_bind (wpAny_pure (wpAny_pure ⟨plainId_quiet ud_plain _, key⟩))
end

section
variable {X : Cx}
theorem pairs_of {pins : List (Addr × Obj)} {σ : St} {H : Hp} {s : Shared} (I : Inv X pins σ H s) : ∀ {ps : List Addr} {kvs : List (Key × V)}, Paired (fun p kv => SqT X.K H p [kV kv.1, kv.2]) ps kvs →
    ∃ prs : List (Key × Value), KV kvs prs ∧ prs.length = ps.length ∧ ∀ (j : Nat) (q : Key × Value), prs[j]? = some q → ∃ (b : Addr) (u : Value), ps[j]? = some b ∧ IsTup s.heap b #[u, q.2] ∧ keyIs q.1 u = true
  | _, _, .nil => ⟨[], .nil, rfl, fun j q e => by simp at e⟩
  | _, _, .cons (a := p) (b := kv) h t => by
    obtain ⟨prs, r, hl, hp⟩ := pairs_of I t
    obtain ⟨its, rv, ht, _⟩ := I.tuple h
    obtain ⟨u, y, ei, ru, ry⟩ := vals2 rv
    subst ei
    refine ⟨(kv.1, y) :: prs, .cons ⟨rfl, ry⟩ r, by rw [List.length_cons, List.length_cons, hl], fun j q e => ?_⟩
    cases j with
    | zero =>
      have e' : (kv.1, y) = q := Option.some.inj e
      subst e'
      exact ⟨p, u, rfl, ht, kV_is (P := X.prog) (w := X.w) ru⟩
    | succ j =>
      obtain ⟨b, u', e1, e2, e3⟩ := hp j q (by simpa using e)
      exact ⟨b, u', by simpa using e1, e2, e3⟩
theorem refs_at : ∀ {ps : List Addr} {us : List Value}, Vals (ps.map V.ref) us → us = ps.map Value.ref
  | [], us, r => by
    rw [List.map_nil] at r
    cases r
    rfl
  | p :: ps, us, r => by
    rw [List.map_cons] at r
    cases r with
    | cons h t =>
      cases h
      rw [List.map_cons, ← refs_at t]
/-- dict(xs) of a list of pairs (key, value): later pairs win, the place is the first one's -/
theorem call_dictP (hcalm : X.calm = true) : CallR X (.type "dict") (fun xs H Q => ∃ (a : Addr) (ps : List Addr) (kvs : List (Key × V)), xs = [.ref a] ∧ SqL X.K H a (ps.map V.ref) ∧ Paired (fun p kv => SqT X.K H p [kV kv.1, kv.2]) ps kvs ∧
    ∀ p, H p = none → Q (.ref p) (upd H p (.dK (mergeK [] kvs)))) := by
  intro pins s σ H xs us Q I r q
  obtain ⟨a, ps, kvs, ex, hq, hp, q⟩ := q
  subst ex
  obtain ⟨u, eu, rx⟩ := vals1 r
  subst eu
  cases rx
  obtain ⟨its, rv, pl, hz⟩ := I.list hq
  have ei := refs_at rv
  subst ei
  rw [List.length_map] at hz
  obtain ⟨prs, rel, hl, hpr⟩ := pairs_of I hp
  obtain ⟨o, n, ho, hc, hd, hdat⟩ := pl
  refine call_dict_pairs (prs := prs) (I.ok.hd hcalm) ho hc hd hdat (by simp [hl]) (by rw [hl]; exact hz) (fun j q' e => ?_) fun h' tk hd' k => ?_
  · obtain ⟨b, u, e1, e2, e3⟩ := hpr j q' e
    exact ⟨b, u, by simp [e1], e2, e3⟩
  · have hm : (s.heap.objs.size == sysModules) = false := beq_eq_false_iff_ne.mpr (Nat.ne_of_gt I.big)
    have hlen : (mergeK [] kvs).length ≤ sizeLine := by
      refine Nat.le_trans (length_mergeK kvs []) ?_
      rw [List.length_nil, Nat.zero_add, rel.length, hl]
      exact hz
    exact ⟨.ref s.heap.objs.size, upd H s.heap.objs.size (.dK (mergeK [] kvs)), I.laid (t' := tk) k (Nat.le_refl _) (show ObjOk X.prog X.w _ _ _ (.dK (mergeK [] kvs)) from ⟨hlen, hm, merged [] prs, KV.merge rel .nil, hd'⟩), rfl, q _ (I.hok.fresh (Nat.le_refl _))⟩
end
end L2

namespace L2
open PySem PySem.Spec PyProof.Rows

theorem boot_reversed5 : bootBuiltins "reversed" = some (.type "reversed") := by decide +kernel

section
variable {X : Cx} {pins : List (Addr × Obj)} {σ : St} {H : Hp} {s : Shared} {h' : Heap}
/-- several records of ours have turned -/
theorem Inv.turnedL {t' : Nat} {ch : List Addr} (I : Inv X pins σ H s) (k : ∀ b o, b ∉ ch → s.heap.get? b = some o → h'.get? b = some o) (hf : ∀ b ∈ ch, FpOk X pins H b) : Inv X pins σ H { s with heap := h', toks := t' } := by
  have nit : ∀ b u, H b = some u → b ∉ ch := fun b u e z => by
    have q := (hf b z).1
    rw [q] at e; cases e
  refine I.step (g' := s.gens) (d' := s.drawn) (ch := ch) (fun b hb => ⟨(hf b hb).2.2.2.1, (hf b hb).2.1, (hf b hb).2.2.2.2.1, (hf b hb).2.2.2.2.2⟩) (fun b o _ _ hc e _ => k b o hc e) (fun b o _ _ hc e _ => ⟨o.slots, k b o hc e⟩)
    (fun _ _ _ _ n => n) (fun b o hc e => ⟨o, k b o hc e⟩) (fun _ _ e => e) (fun _ _ _ e => e) (fun b ps e => ⟨#[], by rw [e]; simp⟩) (fun m hm => ?_) (fun b u e => ?_) I.bare
  · obtain ⟨o, es, ep, ho, r⟩ := hm
    exact ⟨o, es, ep, k _ o (fun z => (hf _ z).2.1 rfl) ho, r⟩
  · refine (I.hok b u e).stay (fun c v hc q => k c v ?_ q) (fun _ q => q) fun _ _ q => q
    rcases hc with z | z
    · rw [z]; exact nit b u e
    · exact nit c _ z
/-- .. and one new object is laid -/
theorem Inv.turnedNew {t' : Nat} {ch : List Addr} {T : Addr} {ob : HO} (I : Inv X pins σ H s) (k : ∀ b o, b ∉ ch → s.heap.get? b = some o → h'.get? b = some o) (hf : ∀ b ∈ ch, FpOk X pins H b) (hT : s.heap.objs.size ≤ T)
    (new : ObjOk X.prog X.w (upd H T ob) h' T ob) : Inv X pins σ (upd H T ob) { s with heap := h', toks := t' } := by
  have hn : H T = none := I.hok.fresh hT
  have nit : ∀ b u, H b = some u → b ∉ ch := fun b u e z => by
    have q := (hf b z).1
    rw [q] at e; cases e
  refine I.step (g' := s.gens) (d' := s.drawn) (ch := ch) (fun b hb => ⟨(hf b hb).2.2.2.1, (hf b hb).2.1, (hf b hb).2.2.2.2.1, (hf b hb).2.2.2.2.2⟩) (fun b o _ _ hc e _ => k b o hc e) (fun b o _ _ hc e _ => ⟨o.slots, k b o hc e⟩)
    (fun b o _ e n => ?_) (fun b o hc e => ⟨o, k b o hc e⟩) (fun b xs e => ?_) (fun b o u e => ?_) (fun b ps e => ⟨#[], ?_⟩) (fun m hm => ?_) (fun b u e => ?_) I.bare
  · rw [upd_ne (Nat.ne_of_lt (Nat.lt_of_lt_of_le (Heap.lt_size e) hT))]; exact n
  · rw [upd_ne (ne_of_none e hn)]; exact e
  · rw [upd_ne (ne_of_none e hn)]; exact e
  · rw [upd_ne (ne_of_none e hn), e]; simp
  · obtain ⟨o, es, ep, ho, r⟩ := hm
    exact ⟨o, es, ep, k _ o (fun z => (hf _ z).2.1 rfl) ho, r⟩
  · by_cases hb : b = T
    · subst hb
      rw [upd_same] at e
      cases e
      exact new
    · rw [upd_ne hb] at e
      refine (I.hok b u e).stay (fun c v hc q => k c v ?_ q) (fun c q => by rw [upd_ne (ne_of_none q hn)]; exact q) fun c xs q => by rw [upd_ne (ne_of_none q hn)]; exact q
      rcases hc with z | z
      · rw [z]; exact nit b u e
      · exact nit c _ z

/-! ### locking a thing while a statement runs -/
theorem Inv.lock {d : Addr} {u : HO} (I : Inv X pins σ H s) (h : H d = some u) (mu : Mut (some u)) : ∃ od, Inv X pins σ (upd H d (.frz od u)) s := by
  have x := I.hok d u h
  have ex : ∃ od, s.heap.get? d = some od := by
    cases u with
    | lst xs => obtain ⟨_, _, _, _, e⟩ := x; exact ⟨_, e⟩
    | dK kvs => obtain ⟨_, _, _, _, o, _, _, e, _⟩ := x; exact ⟨o, e⟩
    | dT kvs => obtain ⟨_, _, _, _, o, _, _, e, _⟩ := x; exact ⟨o, e⟩
    | set S n => obtain ⟨o, _, _, _, e, _⟩ := x; exact ⟨o, e⟩
    | ins C dx fs => obtain ⟨_, _, _, e, _⟩ := x; exact ⟨_, e⟩
    | ext φ => obtain ⟨_, ⟨_, e⟩, _⟩ := x; exact ⟨_, e⟩
    | _ => exact False.elim mu
  obtain ⟨od, e⟩ := ex
  have new : ObjOk X.prog X.w (upd H d (.frz od u)) s.heap d (.frz od u) := by
    refine ⟨e, x.stay (fun b v _ q => q) (fun b q => ?_) fun b xs q => ?_⟩
    · rw [upd_ne (fun z => by rw [z, h] at q; cases q; exact mu)]; exact q
    · rw [upd_ne (fun z => by rw [z, h] at q; cases q; exact mu)]; exact q
  exact ⟨od, I.write (x := d) (e := d) (t' := s.toks) (h' := s.heap) (by rw [h]; exact mu) (.inl rfl) (fun b v _ q => q) ⟨od, e⟩ new⟩
theorem Inv.nofrz {d : Addr} {u : HO} (I : Inv X pins σ H s) (h : H d = some u) (mu : Mut (some u)) : ∀ o' u', X.H_0 d ≠ some (.frz o' u') := fun o' u' e => by
  have q := I.base.frzs d o' u' e
  rw [h] at q
  cases q
  exact mu
theorem Inv.unlock {d : Addr} {od : Obj} {u : HO} (I : Inv X pins σ H s) (h : H d = some (.frz od u)) (hn : ∀ o' u', X.H_0 d ≠ some (.frz o' u')) : Inv X pins σ (upd H d u) s := by
  have neH : ∀ b o, H b = some o → (∀ o' u', o ≠ .frz o' u') → b ≠ d := fun b o e hne z => by
    rw [z, h] at e
    cases e
    exact hne _ _ rfl
  have neN : ∀ b, H b = none → b ≠ d := fun b e z => by rw [z, h] at e; cases e
  refine ⟨I.ok, I.os, I.bare, ⟨I.base.keep, I.base.slot, fun b o e n hx => ?_, I.base.there, fun b xs e => ?_, fun b o x e => ?_, fun b ps e => ?_⟩, I.loc, I.cell, ?_, fun x c e => ?_, fun p hp => ?_, fun b o e => ?_, I.len⟩
  · rw [upd_ne (neN b (I.base.free b o e n hx))]; exact I.base.free b o e n hx
  · have q := I.base.tups b xs e
    rw [upd_ne (neH b _ q (fun _ _ z => nomatch z))]; exact q
  · have q := I.base.frzs b o x e
    rw [upd_ne (fun z => by rw [z] at e; exact hn _ _ e)]; exact q
  · obtain ⟨m, q⟩ := I.base.tbls b ps e
    exact ⟨m, by rw [upd_ne (neH b _ q (fun _ _ z => nomatch z))]; exact q⟩
  · rw [upd_ne (neN _ I.free)]; exact I.free
  · rw [upd_ne (neN c (I.freeC x c e))]; exact I.freeC x c e
  · obtain ⟨e, n, r⟩ := I.pin p hp
    exact ⟨e, by rw [upd_ne (neN _ n)]; exact n, r⟩
  · by_cases hb : b = d
    · rw [hb, upd_same] at e
      cases e
      rw [hb]
      obtain ⟨_, x⟩ := I.hok d _ h
      exact x.stay (fun c v _ q => q) (fun c q => by rw [upd_ne (neH c _ q (fun _ _ z => nomatch z))]; exact q) fun c xs q => by rw [upd_ne (neH c _ q (fun _ _ z => nomatch z))]; exact q
    · rw [upd_ne hb] at e
      exact (I.hok b o e).stay (fun c v _ q => q) (fun c q => by rw [upd_ne (neH c _ q (fun _ _ z => nomatch z))]; exact q) fun c xs q => by rw [upd_ne (neH c _ q (fun _ _ z => nomatch z))]; exact q
end
/-- the statement runs while the thing at d is locked (read, not written); d and what stands there are the reading's choice -/
def tLock (t : TS) : TS := fun D σ H => ∃ d u, H d = some u ∧ Mut (some u) ∧ ∀ od, t ⟨fun σ' H' => H' d = some (.frz od u) ∧ D.nx σ' (upd H' d u), fun v H' => H' d = some (.frz od u) ∧ D.rt v (upd H' d u), fun σ' H' => H' d = some (.frz od u) ∧ D.bk σ' (upd H' d u), fun σ' H' => H' d = some (.frz od u) ∧ D.ct σ' (upd H' d u)⟩ σ (upd H d (.frz od u))
def tLockE (t : TE) : TE := fun σ H Q => ∃ d u, H d = some u ∧ Mut (some u) ∧ ∀ od, t σ (upd H d (.frz od u)) fun v H' => H' d = some (.frz od u) ∧ Q v (upd H' d u)
section
variable {X : Cx}
theorem ps_lock {st : Stmt} {t : TS} (h : PS X st t) : PS X st (tLock t) := by
  intro pins s σ H D I hw
  obtain ⟨d, u, hd, mu, hw⟩ := hw
  obtain ⟨od, I1⟩ := I.lock hd mu
  refine thn (h pins s σ _ _ I1 (hw od)) fun f s1 q => ?_
  cases f with
  | next => obtain ⟨σ', H', I2, e, q⟩ := q; exact ⟨σ', _, I2.unlock e (I.nofrz hd mu), q⟩
  | brk => obtain ⟨σ', H', I2, e, q⟩ := q; exact ⟨σ', _, I2.unlock e (I.nofrz hd mu), q⟩
  | cont => obtain ⟨σ', H', I2, e, q⟩ := q; exact ⟨σ', _, I2.unlock e (I.nofrz hd mu), q⟩
  | ret v => obtain ⟨x, σ', H', I2, r, e, q⟩ := q; exact ⟨x, σ', _, I2.unlock e (I.nofrz hd mu), r, q⟩
theorem pe_lock {e : Expr} {t : TE} (h : PE X e t) : PE X e (tLockE t) := by
  intro pins s σ H Q I hw
  obtain ⟨d, u, hd, mu, hw⟩ := hw
  obtain ⟨od, I1⟩ := I.lock hd mu
  refine thn (h pins s σ _ _ I1 (hw od)) fun v s1 ⟨x, H1, I2, r, e2, q⟩ => ?_
  exact ⟨x, _, I2.unlock e2 (I.nofrz hd mu), r, q⟩

/-! ### one iterator just laid -/
theorem pi_one {tg : Expr} {pins : List (Addr × Obj)} {σ : St} {H : Hp} {s : Shared} {R : It → Hp → Prop} {J : It} {tn : Nat → Heap → Prop} {tk : Nat} (I : Inv X pins σ H s) (o : Obj)
    (T : Turn X.prog X.w X.K tg J [s.heap.objs.size] s.heap.objs.size tn) (st : tn 0 (s.heap.push o)) (q : R J H) : PIE X pins σ tg R (.ref s.heap.objs.size) { s with heap := s.heap.push o, toks := tk } := by
  refine ⟨s.heap.objs.size, [s.heap.objs.size], tn, J, H, rfl, I.kept fun b ob e => Heap.get?_push_of_some _ e, T, st, fun b hb => ?_, q⟩
  have e : b = s.heap.objs.size := by simpa using hb
  subst e
  exact I.fpOk (Nat.le_refl _) (I.hok.fresh (Nat.le_refl _))
end

/-! ### range with a step -/
/-- lo, lo + c, .. (n of them) -/
def Itc (lo c : Int) (n : Nat) : It := ⟨fun i _ => i < n, fun i H x H' => H' = H ∧ x = .int (lo + (i : Nat) * c), fun i _ => n ≤ i⟩
theorem turn_rangeC {P : Program} {w : World} {K : PySem.W.Frag} {tg : Expr} (it : Addr) (lo c : Int) (n : Nat) : Turn P w K tg (Itc lo c n) [it] it (fun i h => IsRangeIter h it (lo + (i : Nat) * c) ((n : Int) - (i : Nat)) c) where
  mem := by simp
  obj := fun i h st b hb => by
    have e : b = it := by simpa using hb
    subst e
    exact ⟨_, st, fun v z => nomatch z⟩
  keep := fun i h h' st k => k it (by simp) _ st
  item := by
    intro X hP hw hK hc i pins s σ H E I hf st hg
    subst hP hw hK
    obtain ⟨f0, f1, f2, f3, f4, f5⟩ := hf it (by simp)
    have W := Walks.range (prog := X.prog) (w := X.w) (I.ok.hd hc) it lo c n
    refine W.item i s _ _ hg st fun v h' tk hv st' kk => ?_
    obtain ⟨t, rfl⟩ := hv
    have I1 : Inv X pins σ H { s with heap := h', toks := tk } := I.turned (fun b o hb e => kk b o (by simpa using hb) e) f0 f1 f3 f4 f5
    exact ⟨_, rfl, go_of (s := { s with heap := h', toks := tk }) (n := "range_iterator") st' rfl rfl (by decide) ⟨.int (lo + (i : Nat) * c), H, I1, ⟨t, rfl⟩, ⟨rfl, rfl⟩, st', fun b hb => (hf b hb).1⟩⟩
  done := by
    intro X hP hw hK hc i pins s σ H E I hf st hg
    subst hP hw hK
    obtain ⟨f0, f1, f2, f3, f4, f5⟩ := hf it (by simp)
    exact wpAny_pyNext_range_end (I.ok.hd hc) st (by have : n ≤ i := hg; omega) fun h' eb => ⟨rfl, I.turned (t' := s.toks) (fun b o hb e => eb b o hb e) f0 f1 f3 f4 f5⟩
  self := fun A i s Q E st h => wpAny_pyIter_rangeiter st h
/-- range(i, j, c): small bounds, n items -/
def RgC (i j c : Int) (n : Nat) : Prop := c ≠ 0 ∧ c.natAbs < 1073741824 ∧ Builtin.Range.small i j c = true ∧ Builtin.Range.rangeSize i j c = n
theorem RgC.neg {i j : Int} (ha : -(2 ^ 62) ≤ i) (ha' : i < 2 ^ 62) (hb : -(2 ^ 62) ≤ j) (hb' : j < 2 ^ 62) : RgC i j (-1) (i - j).toNat :=
  ⟨by decide, by decide, PySem.W.small_down ha ha' hb hb', PySem.W.rangeSize_downNat i j⟩
def iRng3 (ta : TA) : TI := fun σ H R => ta σ H fun vs H1 => ∃ (i j c : Int) (n : Nat), vs = [.int i, .int j, .int c] ∧ RgC i j c n ∧ R (Itc i c n) H1
section
variable {X : Cx} {tg : Expr}
theorem pi_range3 {a b c : Expr} {ta : TA} {p pos : Pos} (hg : Gl X "range") (hm : X.mg "range" = none) (ha : PA X [a, b, c] ta)
    (hs : starEach [a, b, c] X.env = (false, eval a X.env) :: starEach [b, c] X.env := by rfl) (hpl : (backTo pos (starEach [b, c] X.env)).any (·.1) = false := by rfl) :
    PI X tg (.Call (.Name "range" p) [a, b, c] [] pos) (iRng3 ta) := by
  intro pins s σ H R I h
  refine Call_ (ld_blt I hg hm boot_range (PyProof.Rows.callWith_type1 (thn (ha pos pins s σ H _ I h) fun us s1 ⟨vs, H1, I1, r1, q1⟩ => ?_) hs hpl))
  obtain ⟨i, j, k, n, e, ⟨c0, c1, c2, c3⟩, q⟩ := q1
  subst e
  cases r1 with
  | cons r rr =>
    cases rr with
    | cons r' rr =>
      cases rr with
      | cons r'' rr =>
        cases rr
        obtain ⟨t, rfl⟩ := r
        obtain ⟨t', rfl⟩ := r'
        obtain ⟨t'', rfl⟩ := r''
        refine call_range_3 c0 ?_ (.inl (PyProof.noPylong_small c1))
        refine wpAny_pyIter_range (IsRange.new ..) c2 ?_
        have I2 : Inv X pins σ H1 { s1 with heap := s1.heap.push { cls := .type "range", data := .fields #[.int i t, .int j t', .int k t''] } } := I1.kept (t' := s1.toks) fun b o e => Heap.get?_push_of_some _ e
        refine pi_one (tk := s1.toks) I2 _ (turn_rangeC _ i k n) ?_ q
        have e1 : i + ((0 : Nat) : Int) * k = i := by simp
        have e2 : (n : Int) - ((0 : Nat) : Int) = Builtin.Range.rangeSize i j k := by rw [c3]; simp
        show IsRangeIter _ _ (i + ((0 : Nat) : Int) * k) ((n : Int) - ((0 : Nat) : Int)) k
        rw [e1, e2]
        exact Heap.get?_push_size _ rfl
end
/-- the turns of a step range, for the for loop -/
theorem for_rangeC {lo c : Int} {n : Nat} {g : TG} {tb : TS} {D : Ends} {σ : St} {H : Hp} (Pv : Nat → St → Hp → Prop) (h0 : Pv 0 σ H)
    (hs : ∀ i σ H, i < n → Pv i σ H → g (.int (lo + (i : Nat) * c)) σ H fun σ2 H2 => tb { D with nx := Pv (i + 1), ct := Pv (i + 1), bk := D.nx } σ2 H2) (hd : ∀ σ H, Pv n σ H → D.nx σ H) :
    ∃ W : Nat → Nat → St → Hp → Prop, (∃ m, W 0 m σ H) ∧ ∀ i m σ H, W i m σ H →
      ((Itc lo c n).stop i H ∧ D.nx σ H) ∨ ((Itc lo c n).go i H ∧ ∃ N : St → Hp → Prop, (∀ σ' H', N σ' H' → ∃ m', m' < m ∧ W (i + 1) m' σ' H') ∧ ∀ x H', (Itc lo c n).yld i H x H' → g x σ H' fun σ2 H2 => tb { D with nx := N, ct := N, bk := D.nx } σ2 H2) := by
  refine ⟨fun i m σ H => m = n - i ∧ i ≤ n ∧ Pv i σ H, ⟨n, by simp, Nat.zero_le _, h0⟩, ?_⟩
  rintro i m σ H ⟨rfl, hi, p⟩
  by_cases hlt : i < n
  · refine .inr ⟨hlt, Pv (i + 1), fun σ' H' p' => ⟨n - (i + 1), by omega, rfl, hlt, p'⟩, fun x H' y => ?_⟩
    obtain ⟨e, y⟩ := y
    subst e y
    exact hs i σ _ hlt p
  · have e : i = n := by omega
    subst e
    exact .inl ⟨Nat.le_refl _, hd σ H p⟩

/-! ### reversed(list) -/
/-- the list at a (n items at the start, which the loop leaves there), from its end -/
def Itv (K : PySem.W.Frag) (a : Addr) (n : Nat) : It :=
  ⟨fun i H => i < n ∧ ∃ (xs : List V) (x : V), SqL K H a xs ∧ xs[n - 1 - i]? = some x, fun i H x H' => H' = H ∧ ∀ xs, SqL K H a xs → xs[n - 1 - i]? = some x, fun i _ => n ≤ i⟩
theorem turn_rev {P : Program} {w : World} {K : PySem.W.Frag} {tg : Expr} (a it : Addr) (n : Nat) : Turn P w K tg (Itv K a n) [it] it (fun i h => i ≤ n ∧ h.IsRevIter it a ((n : Int) - 1 - (i : Nat))) where
  mem := by simp
  obj := fun i h st b hb => by
    have e : b = it := by simpa using hb
    subst e
    obtain ⟨_, o, e, c, d⟩ := st
    exact ⟨o, e, fun v z => by rw [d] at z; cases z⟩
  keep := fun i h h' st k => ⟨st.1, st.2.at fun o e => k it (by simp) o e⟩
  item := by
    intro X hP hw hK hc i pins s σ H E I hf st hg
    subst hP hw hK
    obtain ⟨hin, xs, x, hq, hx⟩ := hg
    obtain ⟨its, rv, p, hz⟩ := I.list hq
    obtain ⟨u, hu, ru⟩ := rv.get hx
    obtain ⟨f0, f1, f2, f3, f4, f5⟩ := hf it (by simp)
    obtain ⟨_, hit⟩ := st
    have e1 : (n : Int) - 1 - ((i : Nat) : Int) = ((n - 1 - i : Nat) : Int) := by omega
    rw [e1] at hit
    refine wpAny_pyNext_rev_item hit p.isList (x := u) (by simpa using hu) fun h' st' sb => ?_
    have e2 : ((n - 1 - i : Nat) : Int) - 1 = (n : Int) - 1 - ((i + 1 : Nat) : Int) := by omega
    rw [e2] at st'
    have I1 : Inv X pins σ H { s with heap := h' } := I.turned (t' := s.toks) (fun b o hb e => (sb.2 b hb).trans e) f0 f1 f3 f4 f5
    obtain ⟨o, e, c, d⟩ := id st'
    exact ⟨u, rfl, go_of (s := { s with heap := h' }) e c d (by decide) ⟨x, H, I1, ru, ⟨rfl, fun ys hy => by rw [I.list_inj hy hq]; exact hx⟩, ⟨hin, st'⟩, fun b hb => (hf b hb).1⟩⟩
  done := by
    intro X hP hw hK hc i pins s σ H E I hf st hg
    subst hP hw hK
    obtain ⟨f0, f1, f2, f3, f4, f5⟩ := hf it (by simp)
    obtain ⟨hin, hit⟩ := st
    have hge : n ≤ i := hg
    have e1 : (n : Int) - 1 - ((i : Nat) : Int) = -1 := by omega
    rw [e1] at hit
    exact wpAny_pyNext_rev_end (I.ok.hd hc) hit fun h' eb => ⟨rfl, I.turned (t' := s.toks) (fun b o hb e => eb b o hb e) f0 f1 f3 f4 f5⟩
  self := fun A i s Q E st h => wpAny_pyIter_revIter st.2 h
def iRev (K : PySem.W.Frag) (ta : TA) : TI := fun σ H R => ta σ H fun vs H1 => ∃ (a : Addr) (xs : List V), vs = [.ref a] ∧ SqL K H1 a xs ∧ R (Itv K a xs.length) H1
section
variable {X : Cx} {tg : Expr}
theorem pi_reversed {e : Expr} {ta : TA} {p pos : Pos} (hg : Gl X "reversed") (hm : X.mg "reversed" = none) (ha : PA X [e] ta) (hs : starEach [e] X.env = [(false, eval e X.env)] := by rfl) : PI X tg (.Call (.Name "reversed" p) [e] [] pos) (iRev X.K ta) := by
  intro pins s σ H R I h
  refine Call_ (ld_blt I hg hm boot_reversed5 (PyProof.Rows.callWith_type1 (thn (ha pos pins s σ H _ I h) fun us s1 ⟨vs, H1, I1, r1, q1⟩ => ?_) hs rfl))
  obtain ⟨a, xs, e, hq, q⟩ := q1
  subst e
  cases r1 with
  | cons r rr =>
    cases rr
    cases r
    obtain ⟨its, rv, p', hz⟩ := I1.list hq
    have hl := rv.length
    have e1 : ((its.toArray.size : Nat) : Int) - 1 = (xs.length : Int) - 1 - ((0 : Nat) : Int) := by simp only [List.size_toArray]; omega
    refine call_reversed_list p'.isList (wpAny_pyIter_revIter (l := a) (i := ((its.toArray.size : Nat) : Int) - 1) ⟨_, Heap.get?_push_size _ rfl, rfl, rfl⟩ ?_)
    refine pi_one (tk := s1.toks) I1 _ (turn_rev a _ xs.length) ⟨Nat.zero_le _, ?_⟩ q
    rw [← e1]
    exact ⟨_, Heap.get?_push_size _ rfl, rfl, rfl⟩
end

/-! ### a str -/
def Its (x : Str) : It := ⟨fun i _ => i < x.cps.size, fun i H v H' => H' = H ∧ ∃ c, x.cps[i]? = some c ∧ v = .str ⟨#[c]⟩, fun i _ => x.cps.size ≤ i⟩
theorem turn_str {P : Program} {w : World} {K : PySem.W.Frag} {tg : Expr} (it : Addr) (x : Str) (t : Tok) (ty : String) (hty : ty = "str_ascii_iterator" ∨ ty = "str_iterator") :
    Turn P w K tg (Its x) [it] it (fun i h => h.IsStrIter it ty x t i) where
  mem := by simp
  obj := fun i h st b hb => by
    have e : b = it := by simpa using hb
    subst e
    obtain ⟨o, e, c, d⟩ := st
    exact ⟨o, e, fun v z => by rw [d] at z; cases z⟩
  keep := fun i h h' st k => let ⟨o, ho, r⟩ := st; ⟨o, k it (by simp) o ho, r⟩
  item := by
    intro X hP hw hK hc i pins s σ H E I hf st hg
    subst hP hw hK
    obtain ⟨f0, f1, f2, f3, f4, f5⟩ := hf it (by simp)
    have W : Walks X.prog X.w X.A it [it] [it] x.cps.size (SignAt x) (fun i h => h.IsStrIter it ty x t i) := by
      rcases hty with e | e
      · rw [e]; exact Walks.strAscii (I.ok.hd hc) it x t
      · rw [e]; exact Walks.strWide (I.ok.hd hc) it x t
    have hno : ["enumerate", "zip", "dict_itemiterator", "dict_reverseitemiterator", "odict_iterator", "itertools.zip_longest", "itertools.pairwise"].contains ty = false := by
      rcases hty with e | e
      · rw [e]; decide
      · rw [e]; decide
    refine W.item i s _ _ hg st fun v h' tk hv st' kk => ?_
    obtain ⟨c, u, hcx, rfl⟩ := hv
    have I1 : Inv X pins σ H { s with heap := h', toks := tk } := I.turned (fun b o hb e => kk b o (by simpa using hb) e) f0 f1 f3 f4 f5
    obtain ⟨oi, e, cc, dd⟩ := id st'
    exact ⟨_, rfl, go_of (s := { s with heap := h', toks := tk }) e cc dd hno ⟨.str ⟨#[c]⟩, H, I1, ⟨u, rfl⟩, ⟨rfl, c, hcx, rfl⟩, st', fun b hb => (hf b hb).1⟩⟩
  done := by
    intro X hP hw hK hc i pins s σ H E I hf st hg
    subst hP hw hK
    obtain ⟨f0, f1, f2, f3, f4, f5⟩ := hf it (by simp)
    have hx : x.cps[i]? = none := Array.getElem?_eq_none hg
    rcases hty with e | e
    · rw [e] at st
      exact wpAny_pyNext_ascii_end (I.ok.hd hc) st hx fun h' eb => ⟨rfl, I.turned (t' := s.toks) (fun b o hb e => eb b o hb e) f0 f1 f3 f4 f5⟩
    · rw [e] at st
      exact wpAny_pyNext_wide_end (I.ok.hd hc) st hx fun h' eb => ⟨rfl, I.turned (t' := s.toks) (fun b o hb e => eb b o hb e) f0 f1 f3 f4 f5⟩
  self := fun A i s Q E st h => by
    rcases hty with e | e
    · rw [e] at st; exact wpAny_pyIter_striter_ascii st h
    · rw [e] at st; exact wpAny_pyIter_striter_wide st h
def iStr (te : TE) : TI := fun σ H R => te σ H fun v H1 => ∃ x, v = .str x ∧ R (Its x) H1
theorem pi_str {X : Cx} {tg e : Expr} {te : TE} (he : PE X e te) : PI X tg e (iStr te) := by
  intro pins s σ H R I h
  refine thn (he pins s σ H _ I h) fun v s1 ⟨y, H1, I1, r1, x, ex, q⟩ => ?_
  subst ex
  obtain ⟨t, rfl⟩ := r1
  cases ha : x.cps.all (· < 128)
  · exact wpAny_pyIter_wide ha (pi_one (tk := s1.toks) I1 _ (turn_str _ x t "str_iterator" (.inr rfl)) ⟨_, Heap.get?_push_size _ rfl, rfl, rfl⟩ q)
  · exact wpAny_pyIter_ascii ha (pi_one (tk := s1.toks) I1 _ (turn_str _ x t "str_ascii_iterator" (.inl rfl)) ⟨_, Heap.get?_push_size _ rfl, rfl, rfl⟩ q)

/-! ### a dict's keys: any dict's entries -/
section
variable {prog : Program} {w : World} {A : Around} {E : Value → Shared → Prop} {s : Shared}
theorem iter_keys {d : Addr} {o : Obj} {es : Array DictEntry} {ep : Nat} {Q : Value → Shared → Prop} (hd : (d == sysModules) = false) (ho : s.heap.get? d = some o) (hc : o.ExactDict) (hdat : o.data = .dict es ep)
    (hQ : Q (.ref s.heap.objs.size) { s with heap := s.heap.push { cls := .type "dict_keyiterator", data := .fields #[.ref d, .int 0 0, .int es.size 0, .int ep 0] } }) :
    wpAny (model prog w) A (pyIter (.ref d)) Q E s := by
  have hT : s.TypeIs (.ref d) "dict" := ⟨o, ho, hc.1⟩
  refine wpAny_pyIter_slot hT F.slot_dict_iter (wpAny_call_entry F.slot_dict_iter hT F.entry_dict_iter ?_ (F.args_dict_iter_1 _))
  unfold Builtin.«dict.__iter__»
  refine wpAny_bind ?_
  unfold Builtin.Dict.dictSlotNone
  refine wpAny_bind (wpAny_notOrdered_dict hT ?_)
  show wpAny _ _ (pure (Value.ref d)) _ _ s
  refine wpAny_pure ?_
  show wpAny _ _ (Builtin.Dict.showsAll d >>= _) _ _ s
  unfold Builtin.Dict.showsAll
  rw [if_neg (by rw [hd]; exact Bool.false_ne_true)]
  refine wpAny_bind (wpAny_pure ?_)
  refine wpAny_bind (wpAny_dictEntries ho hdat ?_)
  refine wpAny_bind (wpAny_dictEpoch ho hdat ?_)
  refine wpAny_bind (wpAny_newObj_type (wpAny_pure ⟨_, rfl, "dict_keyiterator", _, ⟨_, Heap.get?_push_size _ rfl, rfl⟩, F.slot_dict_keyiterator_next.lookup, ?_⟩))
  simpa [rawInt] using hQ
theorem next_key_item {it d : Addr} {i n ep : Nat} {od : Obj} {es : Array DictEntry} {en : DictEntry} {Q : Option Value → Shared → Prop} (hit : s.heap.IsKeyIter it d i n ep) (hod : s.heap.get? d = some od) (hdd : od.data = .dict es ep)
    (hsz : es.size = n) (hx : es[i]? = some en) (hQ : ∀ h', h'.IsKeyIter it d (i + 1) n ep → Heap.SameBut it s.heap h' → Q (some en.key) { s with heap := h' }) : wpAny (model prog w) A (pyNext (.ref it)) Q E s := by
  obtain ⟨o, ho, hc, hd⟩ := id hit
  unfold pyNext
  refine wpAny_bind (wpAny_attempt (wpAny_callSpecial?_slot (name := Str.ofString "__next__") hit.typeIs F.slot_dict_keyiterator_next
    (wpAny_call_entry F.slot_dict_keyiterator_next hit.typeIs F.entry_dict_keyiterator_next ?_ (F.args_dict_keyiterator_next_1 _))))
  refine wpAny_bind (wpAny_pure ?_)
  refine wpAny_bind ?_
  refine wpAny_bind ?_
  first | refine wpAny_bind (wpAny_typeNameOfWhole_keyiter hit.typeIs (wpAny_pure ?_)) | refine wpAny_bind (wpAny_typeNameOf_keyiter hit.typeIs (wpAny_pure ?_))
  refine wpAny_bind (wpAny_fieldsOf ho hd ?_)
  have hown : Builtin.Dict_items.ownsTuple "dict_keyiterator" = false := by decide
  simp only [hown, Bool.false_eq_true, if_false]
  show wpAny _ _ (if (Value.ref d == Value.none) = true then _ else _) _ _ s
  rw [if_neg (show ¬ ((Value.ref d == Value.none) = true) from Bool.false_ne_true)]
  refine wpAny_bind (wpAny_pure ?_)
  refine wpAny_bind (wpAny_dictEntries hod hdd ?_)
  rw [if_neg (by rw [hsz]; simp)]
  refine wpAny_bind (wpAny_pure ?_)
  refine wpAny_bind (wpAny_dictEpoch hod hdd ?_)
  rw [if_neg (by simp)]
  refine wpAny_pure ?_
  obtain ⟨hlt', hen⟩ := Array.getElem?_eq_some_iff.mp hx
  simp only [show ¬ ((i : Int) < 0) from by omega, if_false, Int.toNat_natCast, Array.getElem?_eq_getElem hlt']
  refine wpAny_bind ?_
  first | refine wpAny_bind (wpAny_typeNameOfWhole_keyiter hit.typeIs (wpAny_pure ?_)) | refine wpAny_bind (wpAny_typeNameOf_keyiter hit.typeIs (wpAny_pure ?_))
  refine wpAny_bind (wpAny_isOneOf_keyiter hit.typeIs ?_)
  show wpAny _ _ (setField (.ref it) 1 (rawInt ((i : Int) + 1)) >>= _) _ _ s
  refine wpAny_bind (wpAny_setField ho hd (by simp) ?_)
  have hit' : (s.heap.update it (Obj.mapFields (·.setIfInBounds 1 (rawInt ((i : Int) + 1))))).IsKeyIter it d (i + 1) n ep :=
    ⟨_, Heap.get?_update_self _ ho (Obj.isFreed_of_fields (Obj.data_mapFields hd _)), (Obj.cls_mapFields ..).trans hc, by rw [Obj.data_mapFields hd]; simp [rawInt]⟩
  refine wpAny_bind (wpAny_holding ?_)
  refine wpAny_bind (wpAny_isOneOf_keyiter (s := { s with heap := s.heap.update it (Obj.mapFields (·.setIfInBounds 1 (rawInt ((i : Int) + 1)))) }) hit'.typeIs ?_)
  show wpAny _ _ (pure es[i].key) _ _ _
  rw [hen]
  exact wpAny_pure (wpAny_pure ⟨_, rfl, wpAny_pure (hQ _ hit' (Heap.SameBut.update ..))⟩)
theorem next_key_end {it d : Addr} {i n ep : Nat} {od : Obj} {es : Array DictEntry} {Q : Option Value → Shared → Prop} (hh : A.handled = none) (hit : s.heap.IsKeyIter it d i n ep) (hod : s.heap.get? d = some od) (hdd : od.data = .dict es ep)
    (hsz : es.size = n) (hge : n ≤ i) (hQ : ∀ h', Heap.ExtBut it s.heap h' → Q none { s with heap := h' }) : wpAny (model prog w) A (pyNext (.ref it)) Q E s := by
  obtain ⟨o, ho, hc, hd⟩ := id hit
  unfold pyNext
  refine wpAny_bind (wpAny_attempt (wpAny_callSpecial?_slot (name := Str.ofString "__next__") hit.typeIs F.slot_dict_keyiterator_next
    (wpAny_call_entry F.slot_dict_keyiterator_next hit.typeIs F.entry_dict_keyiterator_next ?_ (F.args_dict_keyiterator_next_1 _))))
  refine wpAny_bind (wpAny_pure ?_)
  refine wpAny_bind ?_
  refine wpAny_bind ?_
  first | refine wpAny_bind (wpAny_typeNameOfWhole_keyiter hit.typeIs (wpAny_pure ?_)) | refine wpAny_bind (wpAny_typeNameOf_keyiter hit.typeIs (wpAny_pure ?_))
  refine wpAny_bind (wpAny_fieldsOf ho hd ?_)
  have hown : Builtin.Dict_items.ownsTuple "dict_keyiterator" = false := by decide
  simp only [hown, Bool.false_eq_true, if_false]
  show wpAny _ _ (if (Value.ref d == Value.none) = true then _ else _) _ _ s
  rw [if_neg (show ¬ ((Value.ref d == Value.none) = true) from Bool.false_ne_true)]
  refine wpAny_bind (wpAny_pure ?_)
  refine wpAny_bind (wpAny_dictEntries hod hdd ?_)
  rw [if_neg (by rw [hsz]; simp)]
  refine wpAny_bind (wpAny_pure ?_)
  refine wpAny_bind (wpAny_dictEpoch hod hdd ?_)
  rw [if_neg (by simp)]
  refine wpAny_pure ?_
  have hge' : es.size ≤ i := by rw [hsz]; exact hge
  simp only [show ¬ ((i : Int) < 0) from by omega, if_false, Int.toNat_natCast, Array.getElem?_eq_none hge']
  refine wpAny_bind ?_
  first | refine wpAny_bind (wpAny_typeNameOfWhole_keyiter hit.typeIs (wpAny_pure ?_)) | refine wpAny_bind (wpAny_typeNameOf_keyiter hit.typeIs (wpAny_pure ?_))
  show wpAny _ _ (setField (.ref it) 0 .none >>= _) _ _ s
  refine wpAny_bind (wpAny_setField ho hd (by simp) ?_)
  show wpAny _ _ (newExc (.type "StopIteration") [] >>= _) _ _ _
  refine wpAny_bind ?_
  simp only [newExc, newTuple]
  refine wpAny_bind (wpAny_newObj_type ?_ (by size_fits))
  refine wpAny_bind (m := firstArgMember _ _) (wpAny_of_eq (a := Value.none) (by first | rfl | (simp only [firstArgMember]; rfl)) ?_)
  refine wpAny_newObj_type ?_ (by size_fits)
  simp only [raiseNew]
  refine wpAny_bind (wpAny_handled ?_)
  rw [show A.in1.handled = none from hh]
  refine wpAny_bind (wpAny_pure (wpAny_throw ?_))
  refine wpAny_bind (wpAny_isInstance (T := "StopIteration") (b := true) ⟨_, Heap.get?_push_size _ rfl, rfl⟩ isSubtype_stop ?_)
  exact wpAny_pure (hQ _ (((Heap.SameBut.update ..).extBut.push _).push _))
end

/-! ### a locked dict -/
theorem kv_get {κ : Type} {kvs : List (κ × V)} {vs : List (κ × Value)} (h : KV kvs vs) : ∀ {i : Nat} {k : κ} {v : V}, kvs[i]? = some (k, v) → ∃ u, vs[i]? = some (k, u) ∧ RelV v u := by
  unfold KV at h
  induction h with
  | nil => intro i k v e; simp at e
  | @cons a b l₁ l₂ r t ih =>
    intro i k v e
    cases i with
    | zero =>
      simp only [List.getElem?_cons_zero, Option.some.injEq] at e
      subst e
      refine ⟨b.2, ?_, r.2⟩
      simp only [List.getElem?_cons_zero]
      exact congrArg some (Prod.ext r.1.symm rfl)
    | succ j =>
      simp only [List.getElem?_cons_succ] at e ⊢
      exact ih e
theorem paired_get {α β : Type} {G : α → β → Prop} {l₁ : List α} {l₂ : List β} (h : Paired G l₁ l₂) : ∀ {i : Nat} {a : α}, l₁[i]? = some a → ∃ b, l₂[i]? = some b ∧ G a b := by
  induction h with
  | nil => intro i a e; simp at e
  | @cons a b l₁ l₂ r t ih =>
    intro i a' e
    cases i with
    | zero =>
      simp only [List.getElem?_cons_zero, Option.some.injEq] at e
      subst e
      exact ⟨b, rfl, r⟩
    | succ j =>
      simp only [List.getElem?_cons_succ] at e ⊢
      exact ih e
theorem relV_key {k : Key} {u : Value} (h : keyIs k u = true) : RelV (kV k) u := by
  rcases keyIs_shape h with ⟨i, t, rfl, rfl⟩ | ⟨x, t, rfl, rfl⟩
  · exact ⟨t, rfl⟩
  · exact ⟨t, rfl⟩
section
variable {X : Cx} {pins : List (Addr × Obj)} {σ : St} {H : Hp} {s : Shared} {d : Addr} {o : Obj}
theorem Inv.frzK {kvs : List (Key × V)} (I : Inv X pins σ H s) (h : H d = some (.frz o (.dK kvs))) :
    (d == sysModules) = false ∧ s.heap.get? d = some o ∧ o.ExactDict ∧ ∃ (es : Array DictEntry) (ep : Nat) (vs : List (Key × Value)), o.data = .dict es ep ∧ es.size = kvs.length ∧ KV kvs vs ∧ s.heap.DictAt (mixKind X.prog X.w) d vs ep := by
  obtain ⟨hd, z, hs, vs, kv, o', es, ep, ho, hx, hdt, r⟩ := I.hok d _ h
  rw [hd] at ho
  cases ho
  refine ⟨hs, hd, hx, es, ep, vs, hdt, ?_, kv, o, es, hd, hx, hdt, r⟩
  have l1 := r.2.1.length
  have l2 : kvs.length = vs.length := Paired.length kv
  rw [Array.length_toList] at l1
  omega
/-- the same for tuple keys -/
theorem Inv.frzT {kvs : List (List Key × V)} (I : Inv X pins σ H s) (h : H d = some (.frz o (.dT kvs))) :
    (d == sysModules) = false ∧ s.heap.get? d = some o ∧ o.ExactDict ∧ ∃ (es : Array DictEntry) (ep : Nat), o.data = .dict es ep ∧ es.size = kvs.length ∧
      ∀ (i : Nat) (k : List Key) (v : V), kvs[i]? = some (k, v) → ∃ (en : DictEntry) (q : Addr), es[i]? = some en ∧ en.key = .ref q ∧ H q = some (.tup (k.map kV)) := by
  obtain ⟨hd, z, hs, xs, pr, o', es, ep, ho, hx, hdt, he, _⟩ := I.hok d _ h
  rw [hd] at ho
  cases ho
  refine ⟨hs, hd, hx, es, ep, hdt, ?_, fun i k v e => ?_⟩
  · have l1 : es.size = xs.length := size_of_entries he
    have l2 : kvs.length = xs.length := Paired.length pr
    omega
  · obtain ⟨b, hb, e1, e2, _⟩ := paired_get pr e
    have q := entry_at he i
    rw [hb] at q
    exact ⟨_, b.2.1, q, rfl, e2⟩
end

/-- the keys of the locked dict at d, in their order -/
def Itk (d : Addr) (o : Obj) (kvs : List (Key × V)) : It :=
  ⟨fun i H => H d = some (.frz o (.dK kvs)) ∧ i < kvs.length, fun i H x H' => H' = H ∧ ∃ k v, kvs[i]? = some (k, v) ∧ x = kV k, fun i H => H d = some (.frz o (.dK kvs)) ∧ kvs.length ≤ i⟩
/-- .. of tuple keys: the key's own tuple -/
def Itkt (d : Addr) (o : Obj) (kvs : List (List Key × V)) : It :=
  ⟨fun i H => H d = some (.frz o (.dT kvs)) ∧ i < kvs.length, fun i H x H' => H' = H ∧ ∃ (k : List Key) (v : V) (q : Addr), kvs[i]? = some (k, v) ∧ x = .ref q ∧ H q = some (.tup (k.map kV)), fun i H => H d = some (.frz o (.dT kvs)) ∧ kvs.length ≤ i⟩
/-- the values -/
def Itd (d : Addr) (o : Obj) (kvs : List (Key × V)) : It :=
  ⟨fun i H => H d = some (.frz o (.dK kvs)) ∧ i < kvs.length, fun i H x H' => H' = H ∧ ∃ k, kvs[i]? = some (k, x), fun i H => H d = some (.frz o (.dK kvs)) ∧ kvs.length ≤ i⟩
/-- the pairs, each a new tuple -/
def Iti (d : Addr) (o : Obj) (kvs : List (Key × V)) : It :=
  ⟨fun i H => H d = some (.frz o (.dK kvs)) ∧ i < kvs.length, fun i H x H' => ∃ T k v, kvs[i]? = some (k, v) ∧ x = .ref T ∧ H T = none ∧ H' = upd H T (.tup [kV k, v]), fun i H => H d = some (.frz o (.dK kvs)) ∧ kvs.length ≤ i⟩
theorem dict_ep {o : Obj} {es es' : Array DictEntry} {ep ep' : Nat} (h : o.data = .dict es ep) (h' : o.data = .dict es' ep') : es' = es ∧ ep' = ep := by
  rw [h] at h'
  cases h'
  exact ⟨rfl, rfl⟩
section
variable {P : Program} {w : World} {K : PySem.W.Frag} {tg : Expr} {d : Addr} {o : Obj} {es : Array DictEntry} {ep : Nat}
theorem turn_keys {kvs : List (Key × V)} (it : Addr) (hod : o.data = .dict es ep) : Turn P w K tg (Itk d o kvs) [it] it (fun i h => h.IsKeyIter it d i kvs.length ep) where
  mem := by simp
  obj := fun i h st b hb => by
    have e : b = it := by simpa using hb
    subst e
    obtain ⟨oi, e, c, dd⟩ := st
    exact ⟨oi, e, fun v z => by rw [dd] at z; cases z⟩
  keep := fun i h h' st k => st.at fun oi e => k it (by simp) oi e
  item := by
    intro X hP hw hK hc i pins s σ H E I hf st hg
    subst hP hw hK
    obtain ⟨hd, hi⟩ := hg
    obtain ⟨f0, f1, f2, f3, f4, f5⟩ := hf it (by simp)
    obtain ⟨hs, hgd, hx, es', ep', vs, hdt, hsz, kv, hm⟩ := I.frzK hd
    obtain ⟨rfl, rfl⟩ := dict_ep hod hdt
    obtain ⟨⟨k, v⟩, hkv⟩ : ∃ p, kvs[i]? = some p := ⟨kvs[i], List.getElem?_eq_getElem hi⟩
    obtain ⟨u, hu, ru⟩ := kv_get kv hkv
    have hl : kvs.length = vs.length := Paired.length kv
    rw [hl] at st
    refine wpAny_pyNext_dict_item st hm hu fun key h' hkey st' sb => ?_
    have I1 : Inv X pins σ H { s with heap := h' } := I.turned (t' := s.toks) (fun b ob hb e => (sb.2 b hb).trans e) f0 f1 f3 f4 f5
    obtain ⟨oi, e, c, dd⟩ := id st'
    refine ⟨key, rfl, go_of (s := { s with heap := h' }) e c dd (by decide) ⟨kV k, H, I1, relV_key (show keyIs k key = true from hkey), ⟨rfl, k, v, hkv, rfl⟩, ?_, fun b hb => (hf b hb).1⟩⟩
    show h'.IsKeyIter it d (i + 1) kvs.length _
    rw [hl]
    exact st'
  done := by
    intro X hP hw hK hc i pins s σ H E I hf st hg
    subst hP hw hK
    obtain ⟨hd, hi⟩ := hg
    obtain ⟨f0, f1, f2, f3, f4, f5⟩ := hf it (by simp)
    obtain ⟨hs, hgd, hx, es', ep', vs, hdt, hsz, kv, hm⟩ := I.frzK hd
    obtain ⟨rfl, rfl⟩ := dict_ep hod hdt
    exact next_key_end (I.ok.hd hc) st hgd hdt hsz hi fun h' eb => ⟨rfl, I.turned (t' := s.toks) (fun b ob hb e => eb b ob hb e) f0 f1 f3 f4 f5⟩
  self := fun A i s Q E st h => wpAny_pyIter_keyiter st h
theorem turn_keysT {kvs : List (List Key × V)} (it : Addr) (hod : o.data = .dict es ep) : Turn P w K tg (Itkt d o kvs) [it] it (fun i h => h.IsKeyIter it d i kvs.length ep) where
  mem := by simp
  obj := fun i h st b hb => by
    have e : b = it := by simpa using hb
    subst e
    obtain ⟨oi, e, c, dd⟩ := st
    exact ⟨oi, e, fun v z => by rw [dd] at z; cases z⟩
  keep := fun i h h' st k => st.at fun oi e => k it (by simp) oi e
  item := by
    intro X hP hw hK hc i pins s σ H E I hf st hg
    subst hP hw hK
    obtain ⟨hd, hi⟩ := hg
    obtain ⟨f0, f1, f2, f3, f4, f5⟩ := hf it (by simp)
    obtain ⟨hs, hgd, hx, es', ep', hdt, hsz, ent⟩ := I.frzT hd
    obtain ⟨rfl, rfl⟩ := dict_ep hod hdt
    obtain ⟨⟨k, v⟩, hkv⟩ : ∃ p, kvs[i]? = some p := ⟨kvs[i], List.getElem?_eq_getElem hi⟩
    obtain ⟨en, q, hen, hkey, hq⟩ := ent i k v hkv
    refine next_key_item st hgd hdt hsz hen fun h' st' sb => ?_
    have I1 : Inv X pins σ H { s with heap := h' } := I.turned (t' := s.toks) (fun b ob hb e => (sb.2 b hb).trans e) f0 f1 f3 f4 f5
    obtain ⟨oi, e, c, dd⟩ := id st'
    exact ⟨en.key, rfl, go_of (s := { s with heap := h' }) e c dd (by decide) ⟨.ref q, H, I1, hkey, ⟨rfl, k, v, q, hkv, rfl, hq⟩, st', fun b hb => (hf b hb).1⟩⟩
  done := by
    intro X hP hw hK hc i pins s σ H E I hf st hg
    subst hP hw hK
    obtain ⟨hd, hi⟩ := hg
    obtain ⟨f0, f1, f2, f3, f4, f5⟩ := hf it (by simp)
    obtain ⟨hs, hgd, hx, es', ep', hdt, hsz, ent⟩ := I.frzT hd
    obtain ⟨rfl, rfl⟩ := dict_ep hod hdt
    exact next_key_end (I.ok.hd hc) st hgd hdt hsz hi fun h' eb => ⟨rfl, I.turned (t' := s.toks) (fun b ob hb e => eb b ob hb e) f0 f1 f3 f4 f5⟩
  self := fun A i s Q E st h => by
    refine wpAny_pyIter_slot st.typeIs F.slot_dict_keyiterator_iter (wpAny_call_entry F.slot_dict_keyiterator_iter st.typeIs F.entry_dict_keyiterator_iter ?_ (F.args_dict_keyiterator_iter_1 _))
    show wpAny _ _ (ret (.ref it)) _ _ s
    exact wpAny_pure ⟨_, rfl, "dict_keyiterator", _, st.typeIs, F.slot_dict_keyiterator_next.lookup, h⟩
theorem turn_vals {kvs : List (Key × V)} (it : Addr) (hod : o.data = .dict es ep) : Turn P w K tg (Itd d o kvs) [it] it (fun i h => h.IsValIter it d i kvs.length ep) where
  mem := by simp
  obj := fun i h st b hb => by
    have e : b = it := by simpa using hb
    subst e
    obtain ⟨oi, e, c, dd⟩ := st
    exact ⟨oi, e, fun v z => by rw [dd] at z; cases z⟩
  keep := fun i h h' st k => st.at fun oi e => k it (by simp) oi e
  item := by
    intro X hP hw hK hc i pins s σ H E I hf st hg
    subst hP hw hK
    obtain ⟨hd, hi⟩ := hg
    obtain ⟨f0, f1, f2, f3, f4, f5⟩ := hf it (by simp)
    obtain ⟨hs, hgd, hx, es', ep', vs, hdt, hsz, kv, hm⟩ := I.frzK hd
    obtain ⟨rfl, rfl⟩ := dict_ep hod hdt
    obtain ⟨⟨k, v⟩, hkv⟩ : ∃ p, kvs[i]? = some p := ⟨kvs[i], List.getElem?_eq_getElem hi⟩
    obtain ⟨u, hu, ru⟩ := kv_get kv hkv
    have hl : kvs.length = vs.length := Paired.length kv
    rw [hl] at st
    refine wpAny_pyNext_values_item st hm hu fun h' st' sb => ?_
    have I1 : Inv X pins σ H { s with heap := h' } := I.turned (t' := s.toks) (fun b ob hb e => (sb.2 b hb).trans e) f0 f1 f3 f4 f5
    obtain ⟨oi, e, c, dd⟩ := id st'
    refine ⟨u, rfl, go_of (s := { s with heap := h' }) e c dd (by decide) ⟨v, H, I1, ru, ⟨rfl, k, hkv⟩, ?_, fun b hb => (hf b hb).1⟩⟩
    show h'.IsValIter it d (i + 1) kvs.length _
    rw [hl]
    exact st'
  done := by
    intro X hP hw hK hc i pins s σ H E I hf st hg
    subst hP hw hK
    obtain ⟨hd, hi⟩ := hg
    obtain ⟨f0, f1, f2, f3, f4, f5⟩ := hf it (by simp)
    obtain ⟨hs, hgd, hx, es', ep', vs, hdt, hsz, kv, hm⟩ := I.frzK hd
    obtain ⟨rfl, rfl⟩ := dict_ep hod hdt
    have hl : kvs.length = vs.length := Paired.length kv
    rw [hl] at st
    exact wpAny_pyNext_values_end (I.ok.hd hc) st hm (List.getElem?_eq_none (by omega)) fun h' eb => ⟨rfl, I.turned (t' := s.toks) (fun b ob hb e => eb b ob hb e) f0 f1 f3 f4 f5⟩
  self := fun A i s Q E st h => wpAny_pyIter_valiter st h
theorem turn_items {kvs : List (Key × V)} {elts : List Expr} {kk : Nat} {tpos : Pos} (it : Addr) (hod : o.data = .dict es ep) :
    Turn P w K (.Tuple elts kk tpos) (Iti d o kvs) [it] it (fun i h => ∃ ok ov, IsItemIter h it d i kvs.length ep ok ov) where
  mem := by simp
  obj := fun i h st b hb => by
    have e : b = it := by simpa using hb
    subst e
    obtain ⟨ok, ov, e⟩ := st
    exact ⟨_, e, fun v z => nomatch z⟩
  keep := fun i h h' st k => let ⟨ok, ov, e⟩ := st; ⟨ok, ov, k it (by simp) _ e⟩
  item := by
    intro X hP hw hK hc i pins s σ H E I hf st hg
    subst hP hw hK
    obtain ⟨hd, hi⟩ := hg
    obtain ⟨hs, hgd, hx, es', ep', vs, hdt, hsz, kv, hm⟩ := I.frzK hd
    obtain ⟨rfl, rfl⟩ := dict_ep hod hdt
    obtain ⟨⟨k, v⟩, hkv⟩ : ∃ p, kvs[i]? = some p := ⟨kvs[i], List.getElem?_eq_getElem hi⟩
    obtain ⟨u, hu, ru⟩ := kv_get kv hkv
    have hl : kvs.length = vs.length := Paired.length kv
    obtain ⟨ok, ov, he⟩ := st
    rw [hl] at he
    have hlt : it < s.heap.objs.size := Heap.lt_size he
    refine wpAny_pyNext_items_item he hm hu fun key h' hkey ho hT hz hk => ?_
    refine ⟨_, rfl, wpAny_letOwnedTupleGo_items (s := { s with heap := h' }) ho fun h'' he' sb => ?_⟩
    have hT2 : h''.get? s.heap.objs.size = some { cls := .type "tuple", data := .seq #[key, u] } := (sb.2 _ (Nat.ne_of_gt hlt)).trans hT
    have new : ObjOk X.prog X.w (upd H s.heap.objs.size (.tup [kV k, v])) h'' s.heap.objs.size (.tup [kV k, v]) :=
      ⟨by show 2 ≤ sizeLine; decide, [key, u], .cons (relV_key (show keyIs k key = true from hkey)) (.cons ru .nil), ⟨_, hT2, rfl, ⟨_, rfl⟩, rfl⟩⟩
    have I1 : Inv X pins σ (upd H s.heap.objs.size (.tup [kV k, v])) { s with heap := h'' } :=
      I.turnedNew (t' := s.toks) (ch := [it]) (fun b ob hb e => (sb.2 b (by simpa using hb)).trans (hk b ob (by simpa using hb) e)) hf (Nat.le_refl _) new
    refine ⟨.ref s.heap.objs.size, _, I1, rfl, ⟨_, k, v, hkv, rfl, I.hok.fresh (Nat.le_refl _), rfl⟩, ⟨key, u, ?_⟩, fun b hb => ?_⟩
    · rw [hl]; exact he'
    · have e : b = it := by simpa using hb
      rw [e, upd_ne (Nat.ne_of_lt hlt)]
      exact (hf it (by simp)).1
  done := by
    intro X hP hw hK hc i pins s σ H E I hf st hg
    subst hP hw hK
    obtain ⟨hd, hi⟩ := hg
    obtain ⟨f0, f1, f2, f3, f4, f5⟩ := hf it (by simp)
    obtain ⟨hs, hgd, hx, es', ep', vs, hdt, hsz, kv, hm⟩ := I.frzK hd
    obtain ⟨rfl, rfl⟩ := dict_ep hod hdt
    have hl : kvs.length = vs.length := Paired.length kv
    obtain ⟨ok, ov, he⟩ := st
    rw [hl] at he
    exact wpAny_pyNext_items_end (I.ok.hd hc) he hm (List.getElem?_eq_none (by omega)) fun h' eb => ⟨rfl, I.turned (t' := s.toks) (fun b ob hb e => eb b ob hb e) f0 f1 f3 f4 f5⟩
  self := fun A i s Q E st h => let ⟨_, _, e⟩ := st; PySem.W.kcp_self e h
end

/-! ### for k in d, d.keys(), d.values(), d.items() -/
/-- the dict is locked (tLock, or by the caller) -/
def iKeys (td : TE) : TI := fun σ H R => td σ H fun x H1 => ∃ d o, x = .ref d ∧ ((∃ kvs, H1 d = some (.frz o (.dK kvs)) ∧ R (Itk d o kvs) H1) ∨ ∃ kvs, H1 d = some (.frz o (.dT kvs)) ∧ R (Itkt d o kvs) H1)
def iVals (td : TE) : TI := fun σ H R => td σ H fun x H1 => ∃ d o kvs, x = .ref d ∧ H1 d = some (.frz o (.dK kvs)) ∧ R (Itd d o kvs) H1
def iItems (td : TE) : TI := fun σ H R => td σ H fun x H1 => ∃ d o kvs, x = .ref d ∧ H1 d = some (.frz o (.dK kvs)) ∧ R (Iti d o kvs) H1
def iKeysM (td : TE) : TI := fun σ H R => td σ H fun x H1 => ∃ d o kvs, x = .ref d ∧ H1 d = some (.frz o (.dK kvs)) ∧ R (Itk d o kvs) H1
section
variable {X : Cx} {tg e : Expr} {td : TE} {apos cpos : Pos}
theorem pi_keys (he : PE X e td) : PI X tg e (iKeys td) := by
  intro pins s σ H R I h
  refine thn (he pins s σ H _ I h) fun u s1 ⟨x, H1, I1, rx, d, o, ex, q⟩ => ?_
  subst ex
  obtain rfl : u = Value.ref d := rx
  rcases q with ⟨kvs, hd, q⟩ | ⟨kvs, hd, q⟩
  · obtain ⟨hs, hgd, hx, es, ep, vs, hdt, hsz, kv, hm⟩ := I1.frzK hd
    refine iter_keys hs hgd hx hdt (pi_one (tk := s1.toks) I1 _ (turn_keys _ hdt) ⟨_, Heap.get?_push_size _ rfl, rfl, ?_⟩ q)
    rw [hsz] <;> rfl
  · obtain ⟨hs, hgd, hx, es, ep, hdt, hsz, ent⟩ := I1.frzT hd
    refine iter_keys hs hgd hx hdt (pi_one (tk := s1.toks) I1 _ (turn_keysT _ hdt) ⟨_, Heap.get?_push_size _ rfl, rfl, ?_⟩ q)
    rw [hsz] <;> rfl
theorem pi_values (he : PE X e td) (hbase : attributeBase e "values" X.env (eval e X.env) = eval e X.env := by rfl) (hline : (apos.endLine == cpos.line) = true := by rfl) : PI X tg (.Call (.Attribute e "values" apos) [] [] cpos) (iVals td) := by
  intro pins s σ H R I h
  refine wpAny_Call_method (T := "dict") (id := "dict.values") hbase rfl hline F.plainAttrs_dict F.slot_dict_values F.type_dict_values (thn (he pins s σ H _ I h) fun u s1 ⟨x, H1, I1, rx, d, o, kvs, ex, hd, q⟩ => ?_)
  subst ex
  obtain rfl : u = Value.ref d := rx
  obtain ⟨hs, hgd, hx, es, ep, vs, hdt, hsz, kv, hm⟩ := I1.frzK hd
  have hl : kvs.length = vs.length := Paired.length kv
  refine ⟨hm.dictOf.typeIs, hm.dictOf.mapOf.noDict, ?_⟩
  have I2 : Inv X pins σ H1 { s1 with heap := s1.heap.push { cls := .type "dict_values", data := .fields #[.ref d] } } := I1.kept (t' := s1.toks) fun b ob q => Heap.get?_push_of_some _ q
  have fin : wpAny (model X.prog X.w) X.A (pyIter (.ref s1.heap.objs.size)) (PIE X pins σ tg R) X.xe { s1 with heap := s1.heap.push { cls := .type "dict_values", data := .fields #[.ref d] } } := by
    refine wpAny_pyIter_values (d := d) (knd := mixKind X.prog X.w) ⟨_, Heap.get?_push_size _ rfl, rfl, rfl⟩ (hm.push _) (pi_one (tk := s1.toks) I2 _ (turn_vals _ hdt) ⟨_, Heap.get?_push_size _ rfl, rfl, ?_⟩ q)
    rw [hl] <;> rfl
  show wpAny _ _ (callWith cpos (.builtin "dict.values") [.ref d] [] []) _ X.xe s1
  exact method_meetsIn F.slot_dict_values F.entry_dict_values rfl (PySem.evalArgs_none ⟨rfl, hm.dictOf.typeIs, F.args_dict_values_1 _, _, meets_dict_values (mixKind X.prog X.w) d hs, ⟨vs, hm.dictOf⟩, fin⟩)
theorem pi_items {elts : List Expr} {kk : Nat} {tpos : Pos} (he : PE X e td) (hbase : attributeBase e "items" X.env (eval e X.env) = eval e X.env := by rfl) (hline : (apos.endLine == cpos.line) = true := by rfl) :
    PI X (.Tuple elts kk tpos) (.Call (.Attribute e "items" apos) [] [] cpos) (iItems td) := by
  intro pins s σ H R I h
  refine wpAny_Call_method (T := "dict") (id := "dict.items") hbase rfl hline F.plainAttrs_dict F.slot_dict_items F.type_dict_items (thn (he pins s σ H _ I h) fun u s1 ⟨x, H1, I1, rx, d, o, kvs, ex, hd, q⟩ => ?_)
  subst ex
  obtain rfl : u = Value.ref d := rx
  obtain ⟨hs, hgd, hx, es, ep, vs, hdt, hsz, kv, hm⟩ := I1.frzK hd
  have hl : kvs.length = vs.length := Paired.length kv
  refine ⟨hm.dictOf.typeIs, hm.dictOf.mapOf.noDict, ?_⟩
  have I2 : Inv X pins σ H1 { s1 with heap := s1.heap.push { cls := .type "dict_items", data := .fields #[.ref d] } } := I1.kept (t' := s1.toks) fun b ob q => Heap.get?_push_of_some _ q
  have fin : wpAny (model X.prog X.w) X.A (pyIter (.ref s1.heap.objs.size)) (PIE X pins σ (.Tuple elts kk tpos) R) X.xe { s1 with heap := s1.heap.push { cls := .type "dict_items", data := .fields #[.ref d] } } := by
    refine wpAny_pyIter_items (d := d) (knd := mixKind X.prog X.w) ⟨_, Heap.get?_push_size _ rfl, rfl, rfl⟩ (hm.push _) (pi_one (tk := s1.toks) I2 _ (turn_items _ hdt) ⟨.none, .none, ?_⟩ q)
    rw [hl]
    exact Heap.get?_push_size _ rfl
  show wpAny _ _ (callWith cpos (.builtin "dict.items") [.ref d] [] []) _ X.xe s1
  exact method_meetsIn F.slot_dict_items F.entry_dict_items rfl (PySem.evalArgs_none ⟨rfl, hm.dictOf.typeIs, F.args_dict_items_1 _, _, meets_dict_items (mixKind X.prog X.w) d hs, ⟨vs, hm.dictOf⟩, fin⟩)
theorem pi_keysM (he : PE X e td) (hbase : attributeBase e "keys" X.env (eval e X.env) = eval e X.env := by rfl) (hline : (apos.endLine == cpos.line) = true := by rfl) : PI X tg (.Call (.Attribute e "keys" apos) [] [] cpos) (iKeysM td) := by
  intro pins s σ H R I h
  refine wpAny_Call_method (T := "dict") (id := "dict.keys") hbase rfl hline F.plainAttrs_dict F.slot_dict_keys F.type_dict_keys (thn (he pins s σ H _ I h) fun u s1 ⟨x, H1, I1, rx, d, o, kvs, ex, hd, q⟩ => ?_)
  subst ex
  obtain rfl : u = Value.ref d := rx
  obtain ⟨hs, hgd, hx, es, ep, vs, hdt, hsz, kv, hm⟩ := I1.frzK hd
  have hl : kvs.length = vs.length := Paired.length kv
  refine ⟨hm.dictOf.typeIs, hm.dictOf.mapOf.noDict, ?_⟩
  have I2 : Inv X pins σ H1 { s1 with heap := s1.heap.push { cls := .type "dict_keys", data := .fields #[.ref d] } } := I1.kept (t' := s1.toks) fun b ob q => Heap.get?_push_of_some _ q
  have fin : wpAny (model X.prog X.w) X.A (pyIter (.ref s1.heap.objs.size)) (PIE X pins σ tg R) X.xe { s1 with heap := s1.heap.push { cls := .type "dict_keys", data := .fields #[.ref d] } } := by
    refine PySem.W.kdl_pyIter_keys (d := d) (knd := mixKind X.prog X.w) ⟨_, Heap.get?_push_size _ rfl, rfl, rfl⟩ (hm.push _) (pi_one (tk := s1.toks) I2 _ (turn_keys _ hdt) ⟨_, Heap.get?_push_size _ rfl, rfl, ?_⟩ q)
    rw [hl] <;> rfl
  show wpAny _ _ (callWith cpos (.builtin "dict.keys") [.ref d] [] []) _ X.xe s1
  exact method_meetsIn F.slot_dict_keys F.entry_dict_keys rfl (PySem.evalArgs_none ⟨rfl, hm.dictOf.typeIs, F.args_dict_keys_1 _, _, PySem.W.kdl_meets_keys (mixKind X.prog X.w) d hs, ⟨vs, hm.dictOf⟩, fin⟩)
end

/-! ### enumerate(list) -/
/-- the list at a as it stands at each turn, each item in a new pair -/
def Ite (K : PySem.W.Frag) (a : Addr) : It :=
  ⟨fun i H => ∃ (xs : List V) (x : V), SqL K H a xs ∧ xs[i]? = some x, fun i H v H' => ∃ T x, v = .ref T ∧ H T = none ∧ H' = upd H T (.tup [.int (i : Nat), x]) ∧ ∀ xs, SqL K H a xs → xs[i]? = some x, fun i H => ∃ xs : List V, SqL K H a xs ∧ xs.length ≤ i⟩
theorem turn_enum {P : Program} {w : World} {K : PySem.W.Frag} {elts : List Expr} {kk : Nat} {tpos : Pos} (a e it : Addr) :
    Turn P w K (.Tuple elts kk tpos) (Ite K a) [e, it] e (fun i h => (∃ old, IsEnum h e it ((i : Nat) : Int) old) ∧ h.IsListIter it a i ∧ e ≠ it) where
  mem := by simp
  obj := fun i h st b hb => by
    obtain ⟨⟨old, he⟩, ⟨o, ho, hc, hd⟩, _⟩ := st
    have e' : b = e ∨ b = it := by simpa using hb
    rcases e' with z | z
    · rw [z]; exact ⟨_, he, fun v q => nomatch q⟩
    · rw [z]; exact ⟨o, ho, fun v q => by rw [hd] at q; cases q⟩
  keep := fun i h h' st k => let ⟨⟨old, he⟩, hi, hne⟩ := st; ⟨⟨old, k e (by simp) _ he⟩, hi.at fun o q => k it (by simp) o q, hne⟩
  item := by
    intro X hP hw hK hc i pins s σ H E I hf st hg
    subst hP hw hK
    obtain ⟨⟨old, he⟩, hit, hne⟩ := st
    obtain ⟨xs, x, hq, hx⟩ := hg
    obtain ⟨its, rv, p, hz⟩ := I.list hq
    obtain ⟨u, hu, ru⟩ := rv.get hx
    have hel : e < s.heap.objs.size := Heap.lt_size he
    have hil : it < s.heap.objs.size := by obtain ⟨_, q, _⟩ := hit; exact Heap.lt_size q
    refine wpAny_pyNext_enum_item he hit p.isList (x := u) (by simpa using hu) hne fun h' ho hit' hT hsz hk => ?_
    refine ⟨_, rfl, wpAny_letOwnedTupleGo_enum (s := { s with heap := h', toks := s.toks + 1 }) ho fun h'' he' sb => ?_⟩
    have hT2 : h''.get? s.heap.objs.size = some { cls := .type "tuple", data := .seq #[.int i s.toks, u] } := (sb.2 _ (Nat.ne_of_gt hel)).trans hT
    have new : ObjOk X.prog X.w (upd H s.heap.objs.size (.tup [.int (i : Nat), x])) h'' s.heap.objs.size (.tup [.int (i : Nat), x]) :=
      ⟨by show 2 ≤ sizeLine; decide, [.int i s.toks, u], .cons ⟨_, rfl⟩ (.cons ru .nil), ⟨_, hT2, rfl, ⟨_, rfl⟩, rfl⟩⟩
    have I1 : Inv X pins σ (upd H s.heap.objs.size (.tup [.int (i : Nat), x])) { s with heap := h'', toks := s.toks + 1 } :=
      I.turnedNew (ch := [e, it]) (fun b ob hb q => (sb.2 b (fun z => hb (by simp [z]))).trans (hk b ob (fun z => hb (by simp [z])) (fun z => hb (by simp [z])) q)) hf (Nat.le_refl _) new
    refine ⟨.ref s.heap.objs.size, _, I1, rfl, ⟨_, x, rfl, I.hok.fresh (Nat.le_refl _), rfl, fun ys hy => by rw [I.list_inj hy hq]; exact hx⟩, ⟨⟨u, ?_⟩, hit'.at fun o q => (sb.2 it (Ne.symm hne)).trans q, hne⟩, fun b hb => ?_⟩
    · have e1 : ((i + 1 : Nat) : Int) = (i : Int) + 1 := by omega
      rw [e1]; exact he'
    · have hb' : b < s.heap.objs.size := by
        have e' : b = e ∨ b = it := by simpa using hb
        rcases e' with z | z
        · rw [z]; exact hel
        · rw [z]; exact hil
      rw [upd_ne (Nat.ne_of_lt hb')]
      exact (hf b hb).1
  done := by
    intro X hP hw hK hc i pins s σ H E I hf st hg
    subst hP hw hK
    obtain ⟨⟨old, he⟩, hit, hne⟩ := st
    obtain ⟨xs, hq, hx⟩ := hg
    obtain ⟨its, rv, p, hz⟩ := I.list hq
    obtain ⟨f0, f1, f2, f3, f4, f5⟩ := hf it (by simp)
    have hl := rv.length
    exact wpAny_pyNext_enum_end (I.ok.hd hc) he hit p.isList (by simp; omega) fun h' eb => ⟨rfl, I.turned (t' := s.toks) (fun b o hb q => eb b o hb q) f0 f1 f3 f4 f5⟩
  self := fun A i s Q E st h => let ⟨⟨_, he⟩, _⟩ := st; wpAny_pyIter_enum he h
def iEnum (K : PySem.W.Frag) (ta : TA) : TI := fun σ H R => ta σ H fun vs H1 => ∃ a xs, vs = [.ref a] ∧ SqL K H1 a xs ∧ R (Ite K a) H1
theorem pi_enum {X : Cx} {e : Expr} {ta : TA} {p pos tpos : Pos} {elts : List Expr} {kk : Nat} (hg : Gl X "enumerate") (hm : X.mg "enumerate" = none) (ha : PA X [e] ta) (hs : starEach [e] X.env = [(false, eval e X.env)] := by rfl) :
    PI X (.Tuple elts kk tpos) (.Call (.Name "enumerate" p) [e] [] pos) (iEnum X.K ta) := by
  intro pins s σ H R I h
  refine Call_ (ld_blt I hg hm boot_enumerate (PyProof.Rows.callWith_type1 (thn (ha pos pins s σ H _ I h) fun us s1 ⟨vs, H1, I1, r1, q1⟩ => ?_) hs rfl))
  obtain ⟨a, xs, ex, hq, q⟩ := q1
  subst ex
  cases r1 with
  | cons r rr =>
    cases rr
    cases r
    obtain ⟨its, rv, p', hz⟩ := I1.list hq
    refine call_enumerate_list p'.isList fun h' he hit hsz hk => wpAny_pyIter_enum he ?_
    have I2 : Inv X pins σ H1 { s1 with heap := h' } := I1.kept (t' := s1.toks) hk
    refine ⟨s1.heap.objs.size + 1, [s1.heap.objs.size + 1, s1.heap.objs.size], _, _, H1, rfl, I2, turn_enum a (s1.heap.objs.size + 1) s1.heap.objs.size, ⟨⟨.none, he⟩, hit, Nat.succ_ne_self _⟩, fun b hb => ?_, q⟩
    have e' : b = s1.heap.objs.size + 1 ∨ b = s1.heap.objs.size := by simpa using hb
    have hle : s1.heap.objs.size ≤ b := by
      rcases e' with z | z
      · rw [z]; exact Nat.le_add_right _ _
      · rw [z]; exact Nat.le_refl _
    exact I1.fpOk hle (I1.hok.fresh hle)
/-! ### zip(list, list) -/
theorem boot_zip5 : bootBuiltins "zip" = some (.type "zip") := by decide +kernel
/-- the lists at a and b as they stand at each turn, the items in new pairs -/
def Itz (K : PySem.W.Frag) (a b : Addr) : It :=
  ⟨fun i H => ∃ (xs ys : List V) (x y : V), SqL K H a xs ∧ SqL K H b ys ∧ xs[i]? = some x ∧ ys[i]? = some y,
    fun i H v H' => ∃ T x y, v = .ref T ∧ H T = none ∧ H' = upd H T (.tup [x, y]) ∧ (∀ xs, SqL K H a xs → xs[i]? = some x) ∧ ∀ ys, SqL K H b ys → ys[i]? = some y,
    fun i H => ∃ xs ys : List V, SqL K H a xs ∧ SqL K H b ys ∧ (xs.length ≤ i ∨ ys.length ≤ i)⟩
theorem turn_zip {P : Program} {w : World} {K : PySem.W.Frag} {elts : List Expr} {kk : Nat} {tpos : Pos} {a b z TI TO i1 i2 : Addr} (D : ZipApart z TI TO i1 i2 a b) :
    Turn P w K (.Tuple elts kk tpos) (Itz K a b) [z, TI, TO, i1, i2] z (fun i h => IsZip h z TI TO .none ∧ IsPair h TI (.ref i1) (.ref i2) ∧ (∃ x y, IsPair h TO x y) ∧ h.IsListIter i1 a i ∧ h.IsListIter i2 b i) where
  mem := by simp
  obj := fun i h st c hc => by
    obtain ⟨hz, hTI, ⟨x, y, hTO⟩, ⟨o1, e1, _, d1⟩, ⟨o2, e2, _, d2⟩⟩ := st
    have e' : c = z ∨ c = TI ∨ c = TO ∨ c = i1 ∨ c = i2 := by simpa using hc
    rcases e' with q | q | q | q | q
    · rw [q]; exact ⟨_, hz, fun v q => nomatch q⟩
    · rw [q]; exact ⟨_, hTI, fun v q => nomatch q⟩
    · rw [q]; exact ⟨_, hTO, fun v q => nomatch q⟩
    · rw [q]; exact ⟨o1, e1, fun v q => by rw [d1] at q; cases q⟩
    · rw [q]; exact ⟨o2, e2, fun v q => by rw [d2] at q; cases q⟩
  keep := fun i h h' st k => by
    obtain ⟨hz, hTI, ⟨x, y, hTO⟩, h1, h2⟩ := st
    exact ⟨k z (by simp) _ hz, k TI (by simp) _ hTI, ⟨x, y, k TO (by simp) _ hTO⟩, h1.at fun o q => k i1 (by simp) o q, h2.at fun o q => k i2 (by simp) o q⟩
  item := by
    intro X hP hw hK hc i pins s σ H E I hf st hg
    subst hP hw hK
    obtain ⟨hz, hTI, ⟨x0, y0, hTO⟩, h1, h2⟩ := st
    obtain ⟨xs, ys, x, y, hqx, hqy, hx, hy⟩ := hg
    obtain ⟨its, rv, p, _⟩ := I.list hqx
    obtain ⟨its2, rv2, p2, _⟩ := I.list hqy
    obtain ⟨u, hu, ru⟩ := rv.get hx
    obtain ⟨u2, hu2, ru2⟩ := rv2.get hy
    have hzl : z < s.heap.objs.size := Heap.lt_size hz
    refine wpAny_pyNext_zip_item D hz hTI hTO h1 h2 p.isList p2.isList (x := u) (y := u2) (by simpa using hu) (by simpa using hu2) fun h' z' TO' h1' h2' hT hsz hk => ?_
    refine ⟨_, rfl, wpAny_letOwnedTupleGo_zip (s := { s with heap := h' }) z' fun h'' z'' sb => ?_⟩
    have hT2 : h''.get? s.heap.objs.size = some { cls := .type "tuple", data := .seq #[u, u2] } := (sb.2 _ (Nat.ne_of_gt hzl)).trans hT
    have new : ObjOk X.prog X.w (upd H s.heap.objs.size (.tup [x, y])) h'' s.heap.objs.size (.tup [x, y]) :=
      ⟨by show 2 ≤ sizeLine; decide, [u, u2], .cons ru (.cons ru2 .nil), ⟨_, hT2, rfl, ⟨_, rfl⟩, rfl⟩⟩
    have I1 : Inv X pins σ (upd H s.heap.objs.size (.tup [x, y])) { s with heap := h'' } :=
      I.turnedNew (t' := s.toks) (ch := [z, TI, TO, i1, i2]) (fun c o hb q => (sb.2 c (fun q' => hb (by simp [q']))).trans (hk c o (fun q' => hb (by simp [q'])) (fun q' => hb (by simp [q'])) (fun q' => hb (by simp [q'])) (fun q' => hb (by simp [q'])) q)) hf (Nat.le_refl _) new
    refine ⟨.ref s.heap.objs.size, _, I1, rfl, ⟨_, x, y, rfl, I.hok.fresh (Nat.le_refl _), rfl, fun l hl => by rw [I.list_inj hl hqx]; exact hx, fun l hl => by rw [I.list_inj hl hqy]; exact hy⟩, ⟨z'', ?_, ⟨u, u2, ?_⟩, ?_, ?_⟩, fun c hcm => ?_⟩
    · exact (sb.2 _ D.TIz).trans (hk _ _ D.TIz D.TITO D.TIi1 D.TIi2 hTI)
    · exact (sb.2 _ D.TOz).trans TO'
    · exact h1'.at fun o q => (sb.2 _ D.i1z).trans q
    · exact h2'.at fun o q => (sb.2 _ D.i2z).trans q
    · have hlt : c < s.heap.objs.size := by
        have e' : c = z ∨ c = TI ∨ c = TO ∨ c = i1 ∨ c = i2 := by simpa using hcm
        rcases e' with q | q | q | q | q
        · rw [q]; exact hzl
        · rw [q]; exact Heap.lt_size hTI
        · rw [q]; exact Heap.lt_size hTO
        · rw [q]; obtain ⟨_, e1, _⟩ := h1; exact Heap.lt_size e1
        · rw [q]; obtain ⟨_, e2, _⟩ := h2; exact Heap.lt_size e2
      rw [upd_ne (Nat.ne_of_lt hlt)]
      exact (hf c hcm).1
  done := by
    intro X hP hw hK hc i pins s σ H E I hf st hg
    subst hP hw hK
    obtain ⟨hz, hTI, ⟨x0, y0, hTO⟩, h1, h2⟩ := st
    obtain ⟨xs, ys, hqx, hqy, hend⟩ := hg
    obtain ⟨its, rv, p, _⟩ := I.list hqx
    obtain ⟨its2, rv2, p2, _⟩ := I.list hqy
    have l1 := rv.length
    have l2 := rv2.length
    have he : its.toArray[i]? = none ∨ its2.toArray[i]? = none := by
      rcases hend with q | q
      · exact .inl (by simp; omega)
      · exact .inr (by simp; omega)
    exact wpAny_pyNext_zip_end (I.ok.hd hc) D hz hTI hTO h1 h2 p.isList p2.isList he fun h' hk => ⟨rfl, I.turnedL (t' := s.toks) (ch := [z, TI, TO, i1, i2]) (fun c o hb q =>
      hk c o (fun q' => hb (by simp [q'])) (fun q' => hb (by simp [q'])) (fun q' => hb (by simp [q'])) (fun q' => hb (by simp [q'])) q) hf⟩
  self := fun A i s Q E st h => wpAny_pyIter_zip st.1 h
def iZip (K : PySem.W.Frag) (ta : TA) : TI := fun σ H R => ta σ H fun vs H1 => ∃ a b xs ys, vs = [.ref a, .ref b] ∧ SqL K H1 a xs ∧ SqL K H1 b ys ∧ R (Itz K a b) H1
theorem pi_zip {X : Cx} {e e2 : Expr} {ta : TA} {p pos tpos : Pos} {elts : List Expr} {kk : Nat} (hg : Gl X "zip") (hm : X.mg "zip" = none) (ha : PA X [e, e2] ta)
    (hs : starEach [e, e2] X.env = (false, eval e X.env) :: starEach [e2] X.env := by rfl) (hpl : (backTo pos (starEach [e2] X.env)).any (·.1) = false := by rfl) :
    PI X (.Tuple elts kk tpos) (.Call (.Name "zip" p) [e, e2] [] pos) (iZip X.K ta) := by
  intro pins s σ H R I h
  refine Call_ (ld_blt I hg hm boot_zip5 (PyProof.Rows.callWith_type1 (thn (ha pos pins s σ H _ I h) fun us s1 ⟨vs, H1, I1, r1, q1⟩ => ?_) hs hpl))
  obtain ⟨a, b, xs, ys, ex, hqx, hqy, q⟩ := q1
  subst ex
  cases r1 with
  | cons r rr =>
    cases rr with
    | cons r' rr =>
      cases rr
      cases r
      cases r'
      obtain ⟨its, rv, p1, _⟩ := I1.list hqx
      obtain ⟨its2, rv2, p2, _⟩ := I1.list hqy
      have la : a < s1.heap.objs.size := p1.lt
      have lb : b < s1.heap.objs.size := p2.lt
      refine call_zip_2 p1.isList p2.isList fun h' hz hTI hTO h1 h2 hsz hk => wpAny_pyIter_zip hz ?_
      have I2 : Inv X pins σ H1 { s1 with heap := h' } := I1.kept (t' := s1.toks) hk
      refine ⟨s1.heap.objs.size + 4, [s1.heap.objs.size + 4, s1.heap.objs.size + 2, s1.heap.objs.size + 3, s1.heap.objs.size, s1.heap.objs.size + 1], _, _, H1, rfl, I2, turn_zip (PySem.W.ktu_apart s1.heap.objs.size a b la lb), ⟨hz, hTI, ⟨_, _, hTO⟩, h1, h2⟩, fun c hcm => ?_, q⟩
      have e' : c = s1.heap.objs.size + 4 ∨ c = s1.heap.objs.size + 2 ∨ c = s1.heap.objs.size + 3 ∨ c = s1.heap.objs.size ∨ c = s1.heap.objs.size + 1 := by simpa using hcm
      have hle : s1.heap.objs.size ≤ c := by
        rcases e' with z | z | z | z | z
        · rw [z]; exact Nat.le_add_right _ _
        · rw [z]; exact Nat.le_add_right _ _
        · rw [z]; exact Nat.le_add_right _ _
        · rw [z]; exact Nat.le_refl _
        · rw [z]; exact Nat.le_add_right _ _
      exact I1.fpOk hle (I1.hok.fresh hle)
end L2

section 
namespace Bits
open PySem PyProof.Rows

theorem nat_and_mul_pow (k : Nat) : ∀ a b : Nat, a < 2 ^ k → a &&& (b * 2 ^ k) = 0 := by
  induction k with
  | zero =>
    intro a b h
    have h0 : a = 0 := by
      rw [Nat.pow_zero] at h
      omega
    subst h0
    simp
  | succ k ih =>
    intro a b h
    have hm : (b * 2 ^ (k + 1)) = (b * 2 ^ k) * 2 := by rw [Nat.pow_succ, Nat.mul_assoc]
    have hlt : a / 2 < 2 ^ k := by
      rw [Nat.pow_succ] at h
      generalize 2 ^ k = m at h ⊢
      omega
    have i := ih (a / 2) b hlt
    rw [hm]
    generalize b * 2 ^ k = B at i ⊢
    have e : (a &&& (B * 2)) / 2 = a / 2 &&& (B * 2) / 2 := Nat.and_div_two
    have e2 : (B * 2) / 2 = B := by omega
    have o := @Nat.and_mod_two_eq_one a (B * 2)
    rw [e2, i] at e
    omega

theorem natCast_mul_pow (m k : Nat) : (m : Int) * 2 ^ k = ((m * 2 ^ k : Nat) : Int) := by
  rw [two_pow_cast]
  first
    | exact (Int.natCast_mul _ _).symm
    | simp

/-- low bits a, high part b: (b << k) | a -/
theorem bitOr_join {a b : Int} {k : Nat} (h0 : 0 ≤ a) (h1 : a < 2 ^ k) (hb : 0 ≤ b) : Builtin.bitOr a (b * 2 ^ k) = a + b * 2 ^ k := by
  obtain ⟨n, rfl⟩ := Int.eq_ofNat_of_zero_le h0
  obtain ⟨m, rfl⟩ := Int.eq_ofNat_of_zero_le hb
  have hn : n < 2 ^ k := by
    rw [two_pow_cast] at h1
    omega
  have e : Builtin.bitAnd (n : Int) ((m * 2 ^ k : Nat) : Int) = 0 := by
    rw [bitAnd_pp (by omega) (by omega), Int.toNat_natCast, Int.toNat_natCast, nat_and_mul_pow k n m hn] <;> rfl
  rw [natCast_mul_pow, bitOr_and, e]
  omega
theorem bitOr_join' {a b : Int} {k : Nat} (h0 : 0 ≤ a) (h1 : a < 2 ^ k) (hb : 0 ≤ b) : Builtin.bitOr (b * 2 ^ k) a = a + b * 2 ^ k := by
  rw [bitOr_comm]
  exact bitOr_join h0 h1 hb

/-- x & ((1 << k) - 1) -/
theorem bitAnd_mask {x : Int} (k : Nat) (hx : 0 ≤ x) : Builtin.bitAnd x (2 ^ k - 1) = x % 2 ^ k := by
  obtain ⟨n, rfl⟩ := Int.eq_ofNat_of_zero_le hx
  have hp : 0 < 2 ^ k := Nat.two_pow_pos k
  rw [two_pow_cast]
  have e : ((2 ^ k : Nat) : Int) - 1 = ((2 ^ k - 1 : Nat) : Int) := by
    generalize (2 : Nat) ^ k = m at hp
    omega
  rw [e, bitAnd_pp (by omega) (by omega), Int.toNat_natCast, Int.toNat_natCast, Nat.and_two_pow_sub_one_eq_mod]
  first
    | rfl
    | exact Int.natCast_emod _ _
    | simp

/-- (x >> i) & 1 -/
theorem bit_at {x : Int} (i : Nat) : Builtin.bitAnd (x.fdiv (2 ^ i)) 1 = x / 2 ^ i % 2 := by
  have hp : (0 : Int) ≤ 2 ^ i := by
    rw [two_pow_cast]
    exact Int.natCast_nonneg _
  rw [Int.fdiv_eq_ediv_of_nonneg _ hp, bitAnd_m1]

theorem nat_xor_add_and (m : Nat) : ∀ n : Nat, (m ^^^ n) + 2 * (m &&& n) = m + n := by
  induction m using Nat.strongRecOn with
  | _ m ih =>
    intro n
    by_cases h0 : m = 0
    · subst h0
      simp
    · have ih' := ih (m / 2) (by omega) (n / 2)
      rw [← Nat.xor_div_two, ← Nat.and_div_two] at ih'
      have o1 := @Nat.xor_mod_two_eq_one m n
      have a1 := @Nat.and_mod_two_eq_one m n
      omega

theorem bitXor_pp {x y : Int} (hx : 0 ≤ x) (hy : 0 ≤ y) : Builtin.bitXor x y = ((x.toNat ^^^ y.toNat : Nat) : Int) := by
  have e := nat_xor_add_and x.toNat y.toNat
  rw [bitXor_and, bitAnd_pp hx hy]
  omega
theorem bitOr_pp {x y : Int} (hx : 0 ≤ x) (hy : 0 ≤ y) : Builtin.bitOr x y = ((x.toNat ||| y.toNat : Nat) : Int) := by
  have e := nat_or_add_and x.toNat y.toNat
  rw [bitOr_and, bitAnd_pp hx hy]
  omega
theorem bitXor_nonneg {x y : Int} (hx : 0 ≤ x) (hy : 0 ≤ y) : 0 ≤ Builtin.bitXor x y := by
  rw [bitXor_pp hx hy]
  omega
theorem bitOr_nonneg {x y : Int} (hx : 0 ≤ x) (hy : 0 ≤ y) : 0 ≤ Builtin.bitOr x y := by
  rw [bitOr_pp hx hy]
  omega

end Bits
end 

section 
namespace TL
open PySem PySem.Builtin PySem.Builtin.Str PySem.StrLaws

abbrev tl (x : Str) : List Nat := x.cps.toList
theorem len_tl (x : Str) : x.length = (tl x).length := by simp [tl, Str.length]
theorem ext_tl {x y : Str} (h : tl x = tl y) : x = y := Str.ext' (Array.toList_inj.mp h)
theorem tl_append (x y : Str) : tl (x ++ y) = tl x ++ tl y := by
  show (x ++ y).cps.toList = _
  rw [Str.cps_append, Array.toList_append]
theorem tl_mk (l : List Nat) : tl ⟨l.toArray⟩ = l := rfl
theorem mk_tl (x : Str) : (⟨(tl x).toArray⟩ : Str) = x := ext_tl rfl
theorem map_tl_inj : ∀ {l m : List Str}, l.map tl = m.map tl → l = m
  | [], [], _ => rfl
  | [], _ :: _, h => by simp at h
  | _ :: _, [], h => by simp at h
  | x :: l, y :: m, h => by
    rw [List.map_cons, List.map_cons] at h
    injection h with h1 h2
    rw [ext_tl h1, map_tl_inj h2]
theorem tl_ofString (s : String) : tl (Str.ofString s) = s.toList.map Char.toNat := PyProof.Rows.signs_ofString s

/-! ### the list functions -/
/-- S stands at the head of l -/
def pre (S l : List Nat) : Bool := l.take S.length == S
/-- l cut at each S from the left; k signs are still to be passed over -/
def spl (S : List Nat) : Nat → List Nat → List Nat → List (List Nat)
  | _, acc, [] => [acc]
  | 0, acc, c :: r => if pre S (c :: r) = true then acc :: spl S (S.length - 1) [] r else spl S 0 (acc ++ [c]) r
  | k + 1, acc, _ :: r => spl S k acc r
/-- what stands before the first S, and behind it -/
def par (S : List Nat) : List Nat → List Nat → Option (List Nat × List Nat)
  | _, [] => none
  | acc, c :: r => if pre S (c :: r) = true then some (acc, (c :: r).drop S.length) else par S (acc ++ [c]) r

theorem spl_nil (S : List Nat) (k : Nat) (acc : List Nat) : spl S k acc [] = [acc] := by cases k <;> rfl
theorem spl_hit {S acc r : List Nat} {c : Nat} (h : pre S (c :: r) = true) : spl S 0 acc (c :: r) = acc :: spl S (S.length - 1) [] r := by
  show (if pre S (c :: r) = true then acc :: spl S (S.length - 1) [] r else spl S 0 (acc ++ [c]) r) = _
  rw [if_pos h]
theorem spl_miss {S acc r : List Nat} {c : Nat} (h : pre S (c :: r) = false) : spl S 0 acc (c :: r) = spl S 0 (acc ++ [c]) r := by
  show (if pre S (c :: r) = true then acc :: spl S (S.length - 1) [] r else spl S 0 (acc ++ [c]) r) = _
  rw [if_neg (by rw [h]; exact Bool.false_ne_true)]
theorem spl_pass (S : List Nat) : ∀ (k : Nat) (acc l : List Nat), spl S k acc l = spl S 0 acc (l.drop k)
  | 0, _, _ => by rw [List.drop_zero]
  | k + 1, acc, [] => by rw [List.drop_nil, spl_nil, spl_nil]
  | k + 1, acc, c :: r => by
    show spl S k acc r = spl S 0 acc (r.drop k)
    exact spl_pass S k acc r
theorem par_hit {S acc r : List Nat} {c : Nat} (h : pre S (c :: r) = true) : par S acc (c :: r) = some (acc, (c :: r).drop S.length) := by
  show (if pre S (c :: r) = true then some (acc, (c :: r).drop S.length) else par S (acc ++ [c]) r) = _
  rw [if_pos h]
theorem par_miss {S acc r : List Nat} {c : Nat} (h : pre S (c :: r) = false) : par S acc (c :: r) = par S (acc ++ [c]) r := by
  show (if pre S (c :: r) = true then some (acc, (c :: r).drop S.length) else par S (acc ++ [c]) r) = _
  rw [if_neg (by rw [h]; exact Bool.false_ne_true)]

theorem pre_nil {S : List Nat} (hS : S ≠ []) : pre S [] = false := by
  cases S with
  | nil => exact absurd rfl hS
  | cons s S => rfl
theorem pre_of_head {s c : Nat} (S r : List Nat) (h : c ≠ s) : pre (s :: S) (c :: r) = false := by
  cases hp : pre (s :: S) (c :: r) with
  | false => rfl
  | true =>
    have e : (c :: r).take (s :: S).length = s :: S := eq_of_beq hp
    rw [List.length_cons, List.take_succ_cons] at e
    injection e with e1 e2
    exact absurd e1 h
theorem pre_self (S r : List Nat) : pre S (S ++ r) = true := by
  show ((S ++ r).take S.length == S) = true
  have e : (S ++ r).take S.length = S := List.take_left
  rw [e] <;> exact beq_self_eq_true S

theorem getElem_drop_cons {L : List Nat} {a : Nat} (h : a < L.length) : ∃ c, L.drop a = c :: L.drop (a + 1) := ⟨L[a], List.drop_eq_getElem_cons h⟩
theorem spl_run (S L : List Nat) : ∀ (m a : Nat) (acc : List Nat), a + m ≤ L.length → (∀ k, a ≤ k → k < a + m → pre S (L.drop k) = false) →
    spl S 0 acc (L.drop a) = spl S 0 (acc ++ (L.drop a).take m) (L.drop (a + m))
  | 0, a, acc, _, _ => by rw [List.take_zero, List.append_nil, Nat.add_zero]
  | m + 1, a, acc, h, hn => by
    have hlt : a < L.length := by omega
    obtain ⟨c, e⟩ := getElem_drop_cons hlt
    have h0 := hn a (Nat.le_refl _) (by omega)
    have ih := spl_run S L m (a + 1) (acc ++ [c]) (by omega) (fun k h1 h2 => hn k (by omega) (by omega))
    have e2 : a + 1 + m = a + (m + 1) := by omega
    rw [e2] at ih
    rw [e] at h0
    rw [e, spl_miss h0, ih, List.take_succ_cons, List.append_assoc] <;> rfl
theorem par_run (S L : List Nat) : ∀ (m a : Nat) (acc : List Nat), a + m ≤ L.length → (∀ k, a ≤ k → k < a + m → pre S (L.drop k) = false) →
    par S acc (L.drop a) = par S (acc ++ (L.drop a).take m) (L.drop (a + m))
  | 0, a, acc, _, _ => by rw [List.take_zero, List.append_nil, Nat.add_zero]
  | m + 1, a, acc, h, hn => by
    have hlt : a < L.length := by omega
    obtain ⟨c, e⟩ := getElem_drop_cons hlt
    have h0 := hn a (Nat.le_refl _) (by omega)
    have ih := par_run S L m (a + 1) (acc ++ [c]) (by omega) (fun k h1 h2 => hn k (by omega) (by omega))
    have e2 : a + 1 + m = a + (m + 1) := by omega
    rw [e2] at ih
    rw [e] at h0
    rw [e, par_miss h0, ih, List.take_succ_cons, List.append_assoc] <;> rfl
theorem drop_two (L : List Nat) (a b : Nat) : (L.drop a).drop b = L.drop (a + b) := by
  first
    | rw [List.drop_drop]
    | rw [List.drop_drop, Nat.add_comm]
theorem spl_at {S L : List Nat} (hS : S ≠ []) {c : Nat} {acc : List Nat} (h : pre S (L.drop c) = true) : spl S 0 acc (L.drop c) = acc :: spl S 0 [] (L.drop (c + S.length)) := by
  rw [← drop_two]
  cases e : L.drop c with
  | nil => rw [e, pre_nil hS] at h; cases h
  | cons d r =>
    rw [e] at h
    rw [spl_hit h, spl_pass]
    cases S with
    | nil => exact absurd rfl hS
    | cons s S => rfl
theorem par_at {S L : List Nat} (hS : S ≠ []) {c : Nat} {acc : List Nat} (h : pre S (L.drop c) = true) : par S acc (L.drop c) = some (acc, L.drop (c + S.length)) := by
  rw [← drop_two]
  cases e : L.drop c with
  | nil => rw [e, pre_nil hS] at h; cases h
  | cons d r =>
    rw [e] at h
    rw [par_hit h]

/-! ### the model's split and partition are these -/
theorem at_iff {x y : Str} (hy : tl y ≠ []) (i : Nat) : At x y x.length i ↔ pre (tl y) ((tl x).drop i) = true := by
  have hx := len_tl x
  have hl := len_tl y
  constructor
  · intro h
    have h2 := h.2
    rw [subAt_eq, hl] at h2
    exact h2
  · intro h
    have e : ((tl x).drop i).take (tl y).length = tl y := eq_of_beq h
    have e1 := congrArg List.length e
    rw [List.length_take, List.length_drop] at e1
    have e2 : 0 < (tl y).length := List.length_pos_iff.mpr hy
    refine ⟨by omega, ?_⟩
    rw [subAt_eq, hl]
    exact h
theorem no_at {x y : Str} (hy : tl y ≠ []) {i : Nat} (h : ¬ At x y x.length i) : pre (tl y) ((tl x).drop i) = false := by
  cases hp : pre (tl y) ((tl x).drop i) with
  | false => rfl
  | true => exact absurd ((at_iff hy i).mpr hp) h
theorem len1 {y : Str} (hy : tl y ≠ []) : 1 ≤ y.length := by
  have e2 : 0 < (tl y).length := List.length_pos_iff.mpr hy
  rw [len_tl y]
  exact e2
theorem tl_strSub (x : Str) (i j : Nat) : tl (strSub x i j) = ((tl x).drop i).take (j - i) := strSub_toList x i j
theorem tl_strSub_end (x : Str) (i : Nat) : tl (strSub x i x.length) = (tl x).drop i := by
  rw [tl_strSub, len_tl x]
  exact List.take_of_length_le (by rw [List.length_drop] <;> omega)

theorem parts_spl {x y : Str} (hy : tl y ≠ []) : ∀ (cuts : List Nat) (a f : Nat), a ≤ (tl x).length → ChainG x y x.length a cuts f → (∀ k, f ≤ k → ¬ At x y x.length k) →
    (partsFrom x y.length a cuts).map tl = spl (tl y) 0 [] ((tl x).drop a)
  | [], a, f, ha, h, hn => by
    have e : f = a := h
    subst e
    show [tl (strSub x f x.length)] = _
    have run := spl_run (tl y) (tl x) ((tl x).length - f) f [] (by omega) (fun k h1 _ => no_at hy (hn k h1))
    have e2 : f + ((tl x).length - f) = (tl x).length := by omega
    rw [e2, List.drop_length, spl_nil, List.nil_append, List.take_of_length_le (by rw [List.length_drop] <;> omega)] at run
    rw [run, tl_strSub_end]
  | c :: r, a, f, ha, h, hn => by
    obtain ⟨h1, h2, h3, h4⟩ := h
    have hc : c + y.length ≤ x.length := h2.1
    have hx := len_tl x
    have hl := len_tl y
    have ih := parts_spl hy r (c + y.length) f (by omega) h4 hn
    show tl (strSub x a c) :: (partsFrom x y.length (c + y.length) r).map tl = _
    have run := spl_run (tl y) (tl x) (c - a) a [] (by omega) (fun k k1 k2 => no_at hy (h3 k k1 (by omega)))
    have e2 : a + (c - a) = c := by omega
    rw [e2, List.nil_append, spl_at hy ((at_iff hy c).mp h2)] at run
    rw [run, ih, tl_strSub, hl]

/-- hk: by kind_ok where the separator is plain -/
theorem split_spl (x y : Str) (hy : tl y ≠ []) (hk : ¬ Builtin.Str.strKind x < Builtin.Str.strKind y) : (Txt.split x y).map tl = spl (tl y) 0 [] (tl x) := by
  obtain ⟨f, g, hn⟩ := occ_tight x y (len1 hy)
  have key := parts_spl hy _ 0 f (Nat.zero_le _) g hn
  rw [List.drop_zero] at key
  have none_case : occurrences x y 0 x.length (x.length + 1) = [] → [x].map tl = spl (tl y) 0 [] (tl x) := fun ho => by
    rw [ho] at key
    rw [← key]
    show [tl x] = [tl (strSub x 0 x.length)]
    rw [sub_whole]
  unfold Txt.split
  by_cases h1 : (decide (x.length < y.length) || decide (Builtin.Str.strKind x < Builtin.Str.strKind y)) = true
  · rw [if_pos h1]
    have hlt : x.length < y.length := by
      simp only [Bool.or_eq_true, decide_eq_true_eq] at h1
      rcases h1 with h | h
      · exact h
      · exact absurd h hk
    refine none_case ?_
    cases ho : occurrences x y 0 x.length (x.length + 1) with
    | nil => rfl
    | cons c r =>
      rw [ho] at g
      have hc : c + y.length ≤ x.length := g.2.1.1
      omega
  · rw [if_neg h1]
    by_cases h2 : (occurrences x y 0 x.length (x.length + 1)).isEmpty = true
    · rw [if_pos h2]
      exact none_case (List.isEmpty_iff.mp h2)
    · rw [if_neg h2, partsBetween_eq]
      exact key
theorem kind_ok {x y : Str} (h : y.cps.all (· < 256) = true) : ¬ Builtin.Str.strKind x < Builtin.Str.strKind y := by
  have e : Builtin.Str.strKind y = 1 := by unfold PySem.Builtin.Str.strKind; rw [if_pos h]
  rw [e]
  unfold PySem.Builtin.Str.strKind
  split
  · omega
  · split <;> omega

theorem partition_par (x y : Str) (hy : tl y ≠ []) :
    Txt.partition x y = (match par (tl y) [] (tl x) with | some (a, b) => (⟨a.toArray⟩, y, ⟨b.toArray⟩) | none => (x, Str.empty, Str.empty)) := by
  have hx := len_tl x
  have hl := len_tl y
  rcases PyProof.Rows.partition_whole x y with ⟨e, hn⟩ | ⟨i, e, hi, hn⟩
  · have run := par_run (tl y) (tl x) (tl x).length 0 [] (by omega) (fun k _ _ => no_at hy (hn k))
    rw [List.drop_zero, Nat.zero_add, List.drop_length] at run
    rw [e, run] <;> rfl
  · have hb : i + y.length ≤ x.length := hi.1
    have run := par_run (tl y) (tl x) i 0 [] (by omega) (fun k _ k2 => no_at hy (hn k (by omega)))
    rw [List.drop_zero, Nat.zero_add, List.nil_append, par_at hy ((at_iff hy i).mp hi)] at run
    rw [e, run]
    have e1 : strSub x 0 i = ⟨((tl x).take i).toArray⟩ := ext_tl (by rw [tl_strSub, List.drop_zero, Nat.sub_zero])
    have e2 : strSub x (i + y.length) x.length = ⟨((tl x).drop (i + (tl y).length)).toArray⟩ := ext_tl (by rw [tl_strSub_end, hl])
    rw [e1, e2] <;> rfl

/-! ### computing spl and par -/
/-- a part that the separator does not begin in, then the separator -/
theorem spl_part {S p rest acc : List Nat} (hS : S ≠ []) (h : ∀ i, i < p.length → pre S ((p ++ (S ++ rest)).drop i) = false) :
    spl S 0 acc (p ++ (S ++ rest)) = (acc ++ p) :: spl S 0 [] rest := by
  have run := spl_run S (p ++ (S ++ rest)) p.length 0 acc (by rw [List.length_append]; omega) (fun k _ k2 => h k (by omega))
  have ed : (p ++ (S ++ rest)).drop p.length = S ++ rest := List.drop_left
  rw [List.drop_zero, Nat.zero_add, List.take_left] at run
  rw [run, spl_at hS (by rw [ed]; exact pre_self S rest), ← drop_two, ed, List.drop_left]
theorem spl_last {S p acc : List Nat} (h : ∀ i, i < p.length → pre S (p.drop i) = false) : spl S 0 acc p = [acc ++ p] := by
  have run := spl_run S p p.length 0 acc (by omega) (fun k _ k2 => h k (by omega))
  rw [List.drop_zero, Nat.zero_add, List.drop_length, spl_nil, List.take_length] at run
  exact run
theorem par_part {S p rest acc : List Nat} (hS : S ≠ []) (h : ∀ i, i < p.length → pre S ((p ++ (S ++ rest)).drop i) = false) :
    par S acc (p ++ (S ++ rest)) = some (acc ++ p, rest) := by
  have run := par_run S (p ++ (S ++ rest)) p.length 0 acc (by rw [List.length_append]; omega) (fun k _ k2 => h k (by omega))
  have ed : (p ++ (S ++ rest)).drop p.length = S ++ rest := List.drop_left
  rw [List.drop_zero, Nat.zero_add, List.take_left] at run
  rw [run, par_at hS (by rw [ed]; exact pre_self S rest), ← drop_two, ed, List.drop_left]
theorem par_none {S p acc : List Nat} (h : ∀ i, i < p.length → pre S (p.drop i) = false) : par S acc p = none := by
  have run := par_run S p p.length 0 acc (by omega) (fun k _ k2 => h k (by omega))
  rw [List.drop_zero, Nat.zero_add, List.drop_length] at run
  exact run
/-- the separator's first sign is not in the part -/
theorem free_of {s : Nat} {S p q : List Nat} (h : s ∉ p) : ∀ i, i < p.length → pre (s :: S) ((p ++ q).drop i) = false := fun i hi => by
  have hlt : i < (p ++ q).length := by rw [List.length_append]; omega
  have e : (p ++ q).drop i = (p ++ q)[i] :: (p ++ q).drop (i + 1) := List.drop_eq_getElem_cons hlt
  rw [e]
  refine pre_of_head _ _ fun z => h ?_
  have e1 : (p ++ q)[i] = p[i] := List.getElem_append_left hi
  rw [← z, e1]
  exact List.getElem_mem hi
theorem spl_part1 {s : Nat} {S p rest acc : List Nat} (h : s ∉ p) : spl (s :: S) 0 acc (p ++ (s :: S ++ rest)) = (acc ++ p) :: spl (s :: S) 0 [] rest :=
  spl_part (by simp) (free_of h)
theorem spl_last1 {s : Nat} {S p acc : List Nat} (h : s ∉ p) : spl (s :: S) 0 acc p = [acc ++ p] := spl_last fun i hi => by
  have z := free_of (S := S) (q := []) h i hi
  rw [List.append_nil] at z
  exact z
theorem par_part1 {s : Nat} {S p rest acc : List Nat} (h : s ∉ p) : par (s :: S) acc (p ++ (s :: S ++ rest)) = some (acc ++ p, rest) := par_part (by simp) (free_of h)
theorem par_none1 {s : Nat} {S p acc : List Nat} (h : s ∉ p) : par (s :: S) acc p = none := par_none fun i hi => by
  have z := free_of (S := S) (q := []) h i hi
  rw [List.append_nil] at z
  exact z

/-- joined lists -/
def joinL (S : List Nat) : List (List Nat) → List Nat
  | [] => []
  | [p] => p
  | p :: q :: r => p ++ (S ++ joinL S (q :: r))
theorem tl_join (y : Str) : ∀ parts : List Str, tl (Str.join y parts) = joinL (tl y) (parts.map tl)
  | [] => rfl
  | [_] => rfl
  | x :: z :: r => by
    show tl (x ++ y ++ Str.join y (z :: r)) = tl x ++ (tl y ++ joinL (tl y) ((z :: r).map tl))
    rw [tl_append, tl_append, tl_join y (z :: r), List.append_assoc]
theorem spl_join {s : Nat} {S : List Nat} : ∀ {parts : List (List Nat)}, parts ≠ [] → (∀ p ∈ parts, s ∉ p) → spl (s :: S) 0 [] (joinL (s :: S) parts) = parts
  | [], h, _ => absurd rfl h
  | [p], _, hp => by
    show spl (s :: S) 0 [] p = [p]
    rw [spl_last1 (hp p (List.mem_singleton.mpr rfl)), List.nil_append]
  | p :: q :: r, _, hp => by
    show spl (s :: S) 0 [] (p ++ (s :: S ++ joinL (s :: S) (q :: r))) = p :: q :: r
    rw [spl_part1 (hp p (List.mem_cons_self ..)), List.nil_append, spl_join (by simp) fun z hz => hp z (List.mem_cons_of_mem _ hz)]
theorem join_eq (y : Str) (parts : List Str) : Txt.join y parts = Str.join y parts := glued_eq_join y parts
/-- THE READ-BACK: a joined text, split -/
theorem split_join {y : Str} {s : Nat} {S : List Nat} (ey : tl y = s :: S) (hk : y.cps.all (· < 256) = true) {parts : List Str} (hne : parts ≠ []) (hp : ∀ p ∈ parts, s ∉ tl p) :
    Txt.split (Txt.join y parts) y = parts := by
  refine map_tl_inj ?_
  rw [split_spl _ y (by rw [ey]; simp) (kind_ok hk), join_eq, tl_join, ey]
  refine spl_join (fun e => hne (List.map_eq_nil_iff.mp e)) fun p h => ?_
  obtain ⟨z, hz, rfl⟩ := List.mem_map.mp h
  exact hp z hz
/-- a text cut at its first separator -/
theorem partition_app {y : Str} {s : Nat} {S : List Nat} (ey : tl y = s :: S) {a b : Str} (h : s ∉ tl a) : Txt.partition (a ++ y ++ b) y = (a, y, b) := by
  rw [partition_par _ y (by rw [ey]; simp), tl_append, tl_append, List.append_assoc, ey, par_part1 h]
  show ((⟨([] ++ tl a).toArray⟩ : Str), y, (⟨(tl b).toArray⟩ : Str)) = _
  rw [List.nil_append, mk_tl, mk_tl]
theorem partition_none {y : Str} {s : Nat} {S : List Nat} (ey : tl y = s :: S) {a : Str} (h : s ∉ tl a) : Txt.partition a y = (a, Str.empty, Str.empty) := by
  rw [partition_par _ y (by rw [ey]; simp), ey, par_none1 h]

/-! ### digits -/
/-- the signs of a number -/
def numL (n : Nat) : List Nat := (Nat.toDigits 10 n).map Char.toNat
theorem tl_num (n : Nat) : tl (Str.ofString (toString ((n : Nat) : Int))) = numL n := PySem.W.KIN.signs_num n
theorem digitChar_nat : ∀ d : Nat, d < 10 → (Nat.digitChar d).toNat = 48 + d := by decide
theorem numL_lt {n : Nat} (h : n < 10) : numL n = [48 + n] := by
  unfold numL
  rw [Nat.toDigits_of_lt_base h]
  show [(Nat.digitChar n).toNat] = _
  rw [digitChar_nat n h]
theorem numL_step {n : Nat} (h : 10 ≤ n) : numL n = numL (n / 10) ++ [48 + n % 10] := by
  have hm : n % 10 < 10 := Nat.mod_lt n (by decide)
  have t : Nat.toDigits 10 (n / 10) ++ Nat.toDigits 10 (n % 10) = Nat.toDigits 10 (10 * (n / 10) + n % 10) := Nat.toDigits_append_toDigits (by decide) (by omega) hm
  rw [Nat.div_add_mod] at t
  show (Nat.toDigits 10 n).map Char.toNat = _
  rw [← t, List.map_append, Nat.toDigits_of_lt_base hm]
  show (Nat.toDigits 10 (n / 10)).map Char.toNat ++ [(Nat.digitChar (n % 10)).toNat] = _
  rw [digitChar_nat _ hm] <;> rfl
theorem numL_digits (n : Nat) : NumText.AllDigits (numL n) := by
  induction n using Nat.strongRecOn with
  | _ n ih =>
    by_cases h : n < 10
    · rw [numL_lt h]
      intro c hc
      rw [List.mem_singleton.mp hc]
      omega
    · rw [numL_step (by omega)]
      intro c hc
      rcases List.mem_append.mp hc with hc | hc
      · exact ih (n / 10) (by omega) c hc
      · have hm : n % 10 < 10 := Nat.mod_lt n (by decide)
        rw [List.mem_singleton.mp hc]
        omega
theorem numL_ne (n : Nat) : numL n ≠ [] := by
  by_cases h : n < 10
  · rw [numL_lt h]
    simp
  · rw [numL_step (by omega)]
    simp
theorem numL_free {n s : Nat} (h : s < 48 ∨ 57 < s) : s ∉ numL n := fun hm => by
  have r := numL_digits n s hm
  omega
theorem numL_val (n : Nat) : NumText.digitsVal (numL n) = n := PySem.W.KIN.val_back n
theorem numL_inj {m n : Nat} (h : numL m = numL n) : m = n := by
  have e := congrArg NumText.digitsVal h
  rw [numL_val, numL_val] at e
  exact e
theorem numL_len {n k : Nat} (hk : 0 < k) (h : n < 10 ^ k) : (numL n).length ≤ k := by
  have z := PyProof.Rows.toString_length_le (v := (n : Int)) (by omega) hk (by
    have e : ((10 : Int) ^ k) = ((10 ^ k : Nat) : Int) := by
      first
        | exact (Int.natCast_pow 10 k).symm
        | simp
    rw [e]
    first | exact Int.ofNat_lt.mpr h | omega)
  rw [len_tl, tl_num] at z
  exact z
/-- int(str(n)) -/
theorem int_num {n : Nat} (h : (numL n).length ≤ 4300) : intText? (Str.ofString (toString ((n : Nat) : Int))) = some (n : Int) := by
  have e := intText_digits (x := Str.ofString (toString ((n : Nat) : Int))) (by rw [show (Str.ofString (toString ((n : Nat) : Int))).cps.toList = numL n from tl_num n]; exact numL_digits n)
    (by rw [show (Str.ofString (toString ((n : Nat) : Int))).cps.toList = numL n from tl_num n]; exact numL_ne n) (by rw [len_tl, tl_num]; exact h)
  rw [show (Str.ofString (toString ((n : Nat) : Int))).cps.toList = numL n from tl_num n, numL_val] at e
  exact e
/-- a program's own loop over digits: total = total * 10 + (ord(sign) - ord("0")) -/
theorem fold_digits : ∀ (l : List Nat) (a : Nat), NumText.AllDigits l → l.foldl (fun (t : Int) (c : Nat) => t * 10 + ((c : Int) - 48)) (a : Int) = ((l.foldl (fun acc c => acc * 10 + (c - 48)) a : Nat) : Int)
  | [], _, _ => rfl
  | c :: r, a, h => by
    have hc := h.head
    rw [List.foldl_cons, List.foldl_cons, ← fold_digits r _ h.tail]
    have e : (a : Int) * 10 + ((c : Int) - 48) = ((a * 10 + (c - 48) : Nat) : Int) := by omega
    rw [e]
theorem fold_num (n : Nat) : (numL n).foldl (fun (t : Int) (c : Nat) => t * 10 + ((c : Int) - 48)) 0 = (n : Int) := by
  have e := fold_digits (numL n) 0 (numL_digits n)
  have v := numL_val n
  unfold NumText.digitsVal at v
  rw [v] at e
  exact e

/-! ### words: x.split() -/
def wstep (st : List (List Nat) × List Nat) (c : Nat) : List (List Nat) × List Nat :=
  if Unicode.isSpace c = true then (if st.2 = [] then st else (st.1 ++ [st.2], [])) else (st.1, st.2 ++ [c])
def wfin (st : List (List Nat) × List Nat) : List (List Nat) := if st.2 = [] then st.1 else st.1 ++ [st.2]
theorem len0_tl (x : Str) : x.length = 0 ↔ tl x = [] := by
  rw [len_tl]
  exact List.length_eq_zero_iff
theorem step_tl (ws : List Str) (u : Str) (c : Nat) : ((KWd.step (ws, u) c).1.map tl, tl (KWd.step (ws, u) c).2) = wstep (ws.map tl, tl u) c := by
  by_cases hc : Unicode.isSpace c = true
  · by_cases hu : u.length = 0
    · have a : KWd.step (ws, u) c = (ws, u) := (if_pos hc).trans (if_pos hu)
      have b : wstep (ws.map tl, tl u) c = (ws.map tl, tl u) := (if_pos hc).trans (if_pos ((len0_tl u).mp hu))
      rw [a, b] <;> rfl
    · have a : KWd.step (ws, u) c = (ws ++ [u], Str.empty) := (if_pos hc).trans (if_neg hu)
      have b : wstep (ws.map tl, tl u) c = (ws.map tl ++ [tl u], []) := (if_pos hc).trans (if_neg fun z => hu ((len0_tl u).mpr z))
      rw [a, b]
      show ((ws ++ [u]).map tl, ([] : List Nat)) = _
      rw [List.map_append] <;> rfl
  · have a : KWd.step (ws, u) c = (ws, u ++ ⟨#[c]⟩) := if_neg hc
    have b : wstep (ws.map tl, tl u) c = (ws.map tl, tl u ++ [c]) := if_neg hc
    rw [a, b]
    show (ws.map tl, tl (u ++ ⟨#[c]⟩)) = _
    rw [tl_append] <;> rfl
theorem scan_tl : ∀ (l : List Nat) (st : KWd.St), ((l.foldl KWd.step st).1.map tl, tl (l.foldl KWd.step st).2) = l.foldl wstep (st.1.map tl, tl st.2)
  | [], _ => rfl
  | c :: r, (ws, u) => by
    show ((r.foldl KWd.step (KWd.step (ws, u) c)).1.map tl, tl (r.foldl KWd.step (KWd.step (ws, u) c)).2) = r.foldl wstep (wstep (ws.map tl, tl u) c)
    exact (scan_tl r (KWd.step (ws, u) c)).trans (congrArg (fun z => r.foldl wstep z) (step_tl ws u c))
theorem fin_tl : ∀ q : KWd.St, (KWd.fin q).map tl = wfin (q.1.map tl, tl q.2)
  | (ws, u) => by
    show (if u.length = 0 then ws else ws ++ [u]).map tl = (if tl u = [] then ws.map tl else ws.map tl ++ [tl u])
    by_cases hu : u.length = 0
    · rw [if_pos hu, if_pos ((len0_tl u).mp hu)]
    · rw [if_neg hu, if_neg (fun z => hu ((len0_tl u).mpr z)), List.map_append] <;> rfl
theorem words_tl (x : Str) : (Txt.words x).map tl = wfin ((tl x).foldl wstep ([], [])) := by
  rw [KWd.words_scan]
  exact (fin_tl (KWd.scan x)).trans (congrArg wfin (scan_tl (tl x) ([], Str.empty)))
/-- a run of signs that are no blanks -/
theorem wfold_word : ∀ (p : List Nat) (ws : List (List Nat)) (u : List Nat), (∀ c ∈ p, Unicode.isSpace c = false) → p.foldl wstep (ws, u) = (ws, u ++ p)
  | [], ws, u, _ => by rw [List.append_nil] <;> rfl
  | c :: r, ws, u, h => by
    have hc := h c (List.mem_cons_self ..)
    rw [List.foldl_cons]
    have e : wstep (ws, u) c = (ws, u ++ [c]) := if_neg (by rw [hc]; exact Bool.false_ne_true)
    rw [e, wfold_word r ws (u ++ [c]) fun d hd => h d (List.mem_cons_of_mem _ hd), List.append_assoc] <;> rfl
theorem isSpace_plain {c : Nat} (h1 : 33 ≤ c) (h2 : c ≤ 126) : Unicode.isSpace c = false := PySem.W.KWk.nosp h1 h2
/-- words joined by one blank -/
theorem wfold_join : ∀ (ps : List (List Nat)) (ws : List (List Nat)), ps ≠ [] → (∀ p ∈ ps, p ≠ [] ∧ ∀ c ∈ p, Unicode.isSpace c = false) → wfin ((joinL [32] ps).foldl wstep (ws, [])) = ws ++ ps
  | [], _, h, _ => absurd rfl h
  | [p], ws, _, h => by
    obtain ⟨h1, h2⟩ := h p (List.mem_singleton.mpr rfl)
    show wfin (p.foldl wstep (ws, [])) = _
    rw [wfold_word p ws [] h2, List.nil_append]
    exact if_neg h1
  | p :: q :: r, ws, _, h => by
    obtain ⟨h1, h2⟩ := h p (List.mem_cons_self ..)
    show wfin ((p ++ ([32] ++ joinL [32] (q :: r))).foldl wstep (ws, [])) = _
    rw [List.foldl_append, wfold_word p ws [] h2, List.nil_append, List.foldl_append]
    have e : [32].foldl wstep (ws, p) = (ws ++ [p], []) := by
      have hs : Unicode.isSpace 32 = true := by decide +kernel
      have a : wstep (ws, p) 32 = (if p = [] then (ws, p) else (ws ++ [p], [])) := if_pos hs
      exact a.trans (if_neg h1)
    rw [e, wfold_join (q :: r) (ws ++ [p]) (by simp) fun z hz => h z (List.mem_cons_of_mem _ hz), List.append_assoc] <;> rfl
end TL
end 

namespace L2
open PySem PySem.Spec PyProof.Rows

theorem notLong {n : Nat} (h : n ≤ 16777216) : Builtin.Str.tooLong n = false := by
  have e : (2 : Nat) ^ 24 = 16777216 := by decide
  unfold Builtin.Str.tooLong sizeLine
  exact decide_eq_false (by omega)

/-- a list of texts, of numbered texts -/
theorem vals_strs : ∀ l : List (Str × Tok), Vals ((l.map (·.1)).map V.str) (strValues l)
  | [] => .nil
  | p :: r => .cons ⟨p.2, rfl⟩ (vals_strs r)
theorem strs_of_vals : ∀ {ys : List Str} {us : List Value}, Vals (ys.map V.str) us → StrsAre us ys
  | [], _, .nil => .nil
  | y :: ys, _, .cons r t => by
    obtain ⟨k, rfl⟩ := r
    exact .cons y k (strs_of_vals t)

/-- a new list of texts, tracked -/
def rNewStrs (ys : List Str) : Hp → VK → Prop := fun H Q => ∀ p, H p = none → Q (.ref p) (upd H p (.lst (ys.map V.str)))

section
variable {X : Cx} {pins : List (Addr × Obj)} {σ : St} {H : Hp} {s : Shared} {Q : VK}
theorem laid_strs {l : List (Str × Tok)} {ys : List Str} {k : Nat} (I : Inv X pins σ H s) (e : l.map (·.1) = ys) (hz : ys.length ≤ sizeLine) (h : rNewStrs ys H Q) :
    EP X pins σ Q (.ref s.heap.objs.size) { s with toks := k, heap := s.heap.push { cls := .type "list", data := .seq (strValues l).toArray } } := by
  have hp := I.hok.fresh (Nat.le_refl _)
  refine ⟨.ref s.heap.objs.size, upd H s.heap.objs.size (.lst (ys.map V.str)), I.laid (fun b u q => Heap.get?_push_of_some _ q) (Nat.le_refl _) ⟨by rw [List.length_map]; exact hz, strValues l, _, ?_, Heap.get?_push_size _ rfl⟩, rfl, h _ hp⟩
  rw [← e]
  exact vals_strs l
theorem laid_parts {x y z : Str} {t u v : Tok} {k : Nat} (I : Inv X pins σ H s) (h : ∀ p, H p = none → Q (.ref p) (upd H p (.tup [.str x, .str y, .str z]))) :
    EP X pins σ Q (.ref s.heap.objs.size) { s with toks := k, heap := s.heap.push { cls := .type "tuple", data := .seq [Value.str x t, .str y u, .str z v].toArray } } := by
  have hp := I.hok.fresh (Nat.le_refl _)
  exact ⟨.ref s.heap.objs.size, upd H s.heap.objs.size (.tup [.str x, .str y, .str z]), I.laid (fun b u q => Heap.get?_push_of_some _ q) (Nat.le_refl _)
    ⟨by show 3 ≤ sizeLine; decide, [Value.str x t, .str y u, .str z v], .cons ⟨t, rfl⟩ (.cons ⟨u, rfl⟩ (.cons ⟨v, rfl⟩ .nil)), _, Heap.get?_push_size _ rfl, rfl, ⟨_, rfl⟩, rfl⟩, rfl, h _ hp⟩
end

section
variable {X : Cx}

/-- x.split(sep) -/
theorem mt_split : MtR X "str.split" (fun x xs H Q => ∃ a b, x = .str a ∧ xs = [.str b] ∧ (b.length == 0) = false ∧ a.length + 2 ≤ sizeLine ∧ rNewStrs (Txt.split a b) H Q) := by
  intro pins s σ H x xs v us Q I rx rs h
  obtain ⟨a, b, rfl, rfl, hb, hz, h⟩ := h
  obtain ⟨t, rfl⟩ := rx
  cases rs with
  | cons r1 rs =>
    cases rs
    obtain ⟨u, rfl⟩ := r1
    have hl : (Txt.split a b).length ≤ sizeLine := Nat.le_trans (PyProof.Rows.split_le a b) hz
    have hn : (Builtin.Str.partsBetween a (Builtin.Str.occurrences a b 0 a.length (a.length + 1)) b.length).length ≤ sizeLine := by
      have e1 := StrLaws.occ_length_le a b 0 a.length (a.length + 1)
      rw [length_partsBetween]; omega
    cases h1 : (decide (a.length < b.length) || decide (Builtin.Str.strKind a < Builtin.Str.strKind b))
    · cases hf : (Builtin.Str.occurrences a b 0 a.length (a.length + 1)).isEmpty
      · refine call_meets F.slot_str_split (typeIs_str _ _ _) F.entry_str_split (F.args_str_split_2 _ _) (meets_str_split_sep a b t u h1 hb hf (by omega) hn) ?_
        show EP X pins σ Q (.ref s.heap.objs.size) { s with toks := _, heap := s.heap.push { cls := .type "list", data := .seq (strsFrom s.toks (Builtin.Str.partsBetween a (Builtin.Str.occurrences a b 0 a.length (a.length + 1)) b.length)).toArray } }
        rw [strsFrom_eq]
        exact laid_strs (ys := Txt.split a b) I ((numbered_texts _ _).trans ((if_neg (ne_true_of_eq_false h1)).trans (if_neg (ne_true_of_eq_false hf))).symm) hl h
      · refine call_meets F.slot_str_split (typeIs_str _ _ _) F.entry_str_split (F.args_str_split_2 _ _) (meets_str_split_not_found a b t u h1 hb hf) ?_
        exact laid_strs (l := [(a, t)]) (ys := Txt.split a b) (k := s.toks) I ((if_neg (ne_true_of_eq_false h1)).trans (if_pos hf)).symm hl h
    · refine call_meets F.slot_str_split (typeIs_str _ _ _) F.entry_str_split (F.args_str_split_2 _ _) (meets_str_split_cannot_occur a b t u h1) ?_
      exact laid_strs (l := [(a, t)]) (ys := Txt.split a b) (k := s.toks) I (if_pos h1).symm hl h

theorem words_le (x : Str) : (Txt.words x).length ≤ x.length + 1 := by
  have e1 := StrLaws.words_weight x
  omega
/-- x.split() -/
theorem mt_words : MtR X "str.split" (fun x xs H Q => ∃ a, x = .str a ∧ xs = [] ∧ a.length + 2 ≤ sizeLine ∧ rNewStrs (Txt.words a) H Q) := by
  intro pins s σ H x xs v us Q I rx rs h
  obtain ⟨a, rfl, rfl, hz, h⟩ := h
  obtain ⟨t, rfl⟩ := rx
  cases rs
  have hl : (Txt.words a).length ≤ sizeLine := Nat.le_trans (words_le a) (by omega)
  have hn : (Builtin.Str.spaceWords a (a.length + 1)).length ≤ sizeLine := by
    have e1 := (StrLaws.sw_weight a).1
    have e2 := StrLaws.len_le_wsum (Builtin.Str.spaceWords a (a.length + 1))
    omega
  refine call_meets F.slot_str_split (typeIs_str _ _ _) F.entry_str_split (F.args_str_split_1 _) (meets_str_split_space a t (by omega) hn) ?_
  cases hw : Builtin.Str.spaceWords a (a.length + 1) == [(0, a.length)]
  · simp only [Bool.false_eq_true, if_false]
    rw [strsFrom_eq]
    exact laid_strs (ys := Txt.words a) I ((numbered_texts _ _).trans (if_neg (ne_true_of_eq_false hw)).symm) hl h
  · simp only [if_true]
    exact laid_strs (l := [(a, t)]) (ys := Txt.words a) (k := s.toks) I (if_pos hw).symm hl h

/-- x.partition(sep) -/
theorem mt_partition : MtR X "str.partition" (fun x xs H Q => ∃ a b, x = .str a ∧ xs = [.str b] ∧ (b.length == 0) = false ∧ a.length ≤ sizeLine ∧
    ∀ p, H p = none → Q (.ref p) (upd H p (.tup [.str (Txt.partition a b).1, .str (Txt.partition a b).2.1, .str (Txt.partition a b).2.2]))) := by
  intro pins s σ H x xs v us Q I rx rs h
  obtain ⟨a, b, rfl, rfl, hb, hz, h⟩ := h
  obtain ⟨t, rfl⟩ := rx
  cases rs with
  | cons r1 rs =>
    cases rs
    obtain ⟨u, rfl⟩ := r1
    refine call_meets F.slot_str_partition (typeIs_str _ _ _) F.entry_str_partition (F.args_str_partition_2 _ _) (meets_str_partition a b t u hb hz) ?_
    unfold Txt.partition at h
    revert h
    cases Builtin.Str.occurrences a b 0 a.length 1 with
    | nil => intro h; exact laid_parts I h
    | cons i r => intro h; exact laid_parts I h

/-- sep.join(a list | a tuple of texts) -/
theorem mt_join : MtR X "str.join" (fun x xs H Q => ∃ a p, ∃ ys : List Str, x = .str a ∧ xs = [.ref p] ∧ (SqL X.K H p (ys.map V.str) ∨ SqT X.K H p (ys.map V.str)) ∧
    (ys.map (·.length)).sum + ys.length * a.length ≤ 16777216 ∧ Q (.str (Txt.join a ys)) H) := by
  intro pins s σ H x xs v us Q I rx rs h
  obtain ⟨a, p, ys, rfl, rfl, hp, hz, h⟩ := h
  obtain ⟨t, rfl⟩ := rx
  cases rs with
  | cons r1 rs =>
    cases rs
    cases r1
    rcases hp with hp | hp
    · obtain ⟨its, r, ⟨o, n, ho, hc, _, hd⟩, _⟩ := I.list hp
      exact PyProof.Rows.join_list (items := its.toArray) ⟨o, ho, hc, n, hd⟩ (by rw [List.toList_toArray]; exact strs_of_vals r) hz fun t' k => ⟨.str _, H, I.tok k, ⟨t', rfl⟩, h⟩
    · obtain ⟨its, r, ht, _⟩ := I.tuple hp
      exact PyProof.Rows.join_tuple (items := its.toArray) ht (by rw [List.toList_toArray]; exact strs_of_vals r) hz fun t' k => ⟨.str _, H, I.tok k, ⟨t', rfl⟩, h⟩

/-! ### of a text alone -/
theorem mt0 {id : String} {C : Str → Prop} {g : Str → V} (rule : ∀ (a : Str) (t : Tok) (s : Shared) (Q : Value → Shared → Prop), C a → (∀ (u : Value) (k : Nat), RelV (g a) u → Q u { s with toks := k }) →
    wpAny (model X.prog X.w) X.A (call (.builtin id) [.str a t]) Q X.xe s) : MtR X id (fun x xs H Q => ∃ a, x = .str a ∧ xs = [] ∧ C a ∧ Q (g a) H) := by
  intro pins s σ H x xs v us Q I rx rs h
  obtain ⟨a, rfl, rfl, hc, h⟩ := h
  obtain ⟨t, rfl⟩ := rx
  cases rs
  exact rule a t s _ hc fun u k r => ⟨g a, H, I.tok k, r, h⟩
theorem mt_strip : MtR X "str.strip" (fun x xs H Q => ∃ a, x = .str a ∧ xs = [] ∧ a.length ≤ sizeLine ∧ Q (.str (Txt.strip a)) H) :=
  mt0 (C := fun a => a.length ≤ sizeLine) (g := fun a => .str (Txt.strip a)) fun _ _ _ _ hc h => PySem.SC.strip (fun t' k => h _ k ⟨t', rfl⟩) hc
theorem mt_lstrip : MtR X "str.lstrip" (fun x xs H Q => ∃ a, x = .str a ∧ xs = [] ∧ a.length ≤ sizeLine ∧ Q (.str (Txt.lstrip a)) H) :=
  mt0 (C := fun a => a.length ≤ sizeLine) (g := fun a => .str (Txt.lstrip a)) fun _ _ _ _ hc h => PySem.SC.lstrip (fun t' k => h _ k ⟨t', rfl⟩) hc
theorem mt_rstrip : MtR X "str.rstrip" (fun x xs H Q => ∃ a, x = .str a ∧ xs = [] ∧ a.length ≤ sizeLine ∧ Q (.str (Txt.rstrip a)) H) :=
  mt0 (C := fun a => a.length ≤ sizeLine) (g := fun a => .str (Txt.rstrip a)) fun _ _ _ _ hc h => PySem.SC.rstrip (fun t' k => h _ k ⟨t', rfl⟩) hc
theorem mt_lower : MtR X "str.lower" (fun x xs H Q => ∃ a, x = .str a ∧ xs = [] ∧ a.length ≤ 5592405 ∧ Q (.str (Txt.lower a)) H) :=
  mt0 (C := fun a => a.length ≤ 5592405) (g := fun a => .str (Txt.lower a)) fun a _ s _ hc h =>
    PySem.SC.lower (notLong (by have h1 : a.length ≤ 5592405 := hc; have := PyProof.Rows.len_lower a; omega)) (h _ (s.toks + 1) ⟨_, rfl⟩)
theorem mt_upper : MtR X "str.upper" (fun x xs H Q => ∃ a, x = .str a ∧ xs = [] ∧ a.length ≤ 5592405 ∧ Q (.str (Txt.upper a)) H) :=
  mt0 (C := fun a => a.length ≤ 5592405) (g := fun a => .str (Txt.upper a)) fun a _ s _ hc h =>
    PySem.SC.upper (notLong (by have h1 : a.length ≤ 5592405 := hc; have := PyProof.Rows.len_upper a; omega)) (h _ (s.toks + 1) ⟨_, rfl⟩)
theorem mt_isdigit : MtR X "str.isdigit" (fun x xs H Q => ∃ a, x = .str a ∧ xs = [] ∧ True ∧ Q (.bl (Txt.isdigit a)) H) :=
  mt0 (C := fun _ => True) (g := fun a => .bl (Txt.isdigit a)) fun _ _ s _ _ h => PySem.SC.isdigit (h _ s.toks rfl)
theorem mt_isalpha : MtR X "str.isalpha" (fun x xs H Q => ∃ a, x = .str a ∧ xs = [] ∧ True ∧ Q (.bl (Txt.isalpha a)) H) :=
  mt0 (C := fun _ => True) (g := fun a => .bl (Txt.isalpha a)) fun _ _ s _ _ h => PySem.SC.isalpha (h _ s.toks rfl)
theorem mt_isalnum : MtR X "str.isalnum" (fun x xs H Q => ∃ a, x = .str a ∧ xs = [] ∧ True ∧ Q (.bl (Txt.isalnum a)) H) :=
  mt0 (C := fun _ => True) (g := fun a => .bl (Txt.isalnum a)) fun _ _ s _ _ h => PySem.SC.isalnum (h _ s.toks rfl)
theorem mt_isspace : MtR X "str.isspace" (fun x xs H Q => ∃ a, x = .str a ∧ xs = [] ∧ True ∧ Q (.bl (Txt.isspace a)) H) :=
  mt0 (C := fun _ => True) (g := fun a => .bl (Txt.isspace a)) fun _ _ s _ _ h => PySem.SC.isspace (h _ s.toks rfl)

/-! ### of a text and a text -/
theorem mt1 {id : String} {g : Str → Str → V} (rule : ∀ (a b : Str) (t u : Tok) (s : Shared) (Q : Value → Shared → Prop), (∀ (v : Value) (k : Nat), RelV (g a b) v → Q v { s with toks := k }) →
    wpAny (model X.prog X.w) X.A (call (.builtin id) [.str a t, .str b u]) Q X.xe s) : MtR X id (fun x xs H Q => ∃ a b, x = .str a ∧ xs = [.str b] ∧ Q (g a b) H) := by
  intro pins s σ H x xs v us Q I rx rs h
  obtain ⟨a, b, rfl, rfl, h⟩ := h
  obtain ⟨t, rfl⟩ := rx
  cases rs with
  | cons r1 rs =>
    cases rs
    obtain ⟨u, rfl⟩ := r1
    exact rule a b t u s _ fun v k r => ⟨g a b, H, I.tok k, r, h⟩
theorem mt_startswith : MtR X "str.startswith" (fun x xs H Q => ∃ a b, x = .str a ∧ xs = [.str b] ∧ Q (.bl (Txt.startswith a b)) H) :=
  mt1 (g := fun a b => .bl (Txt.startswith a b)) fun _ _ _ _ s _ h => PySem.SC.startswith (h _ s.toks rfl)
theorem mt_endswith : MtR X "str.endswith" (fun x xs H Q => ∃ a b, x = .str a ∧ xs = [.str b] ∧ Q (.bl (Txt.endswith a b)) H) :=
  mt1 (g := fun a b => .bl (Txt.endswith a b)) fun _ _ _ _ s _ h => PySem.SC.endswith (h _ s.toks rfl)
theorem mt_find : MtR X "str.find" (fun x xs H Q => ∃ a b, x = .str a ∧ xs = [.str b] ∧ Q (.int (Txt.find a b)) H) :=
  mt1 (g := fun a b => .int (Txt.find a b)) fun _ _ _ _ s _ h => PySem.SC.find (h _ (s.toks + 1) ⟨_, rfl⟩)
theorem mt_count : MtR X "str.count" (fun x xs H Q => ∃ a b, x = .str a ∧ xs = [.str b] ∧ Q (.int (Txt.count a b)) H) :=
  mt1 (g := fun a b => .int (Txt.count a b)) fun _ _ _ _ s _ h => PySem.SC.count (h _ (s.toks + 1) ⟨_, rfl⟩)

/-- int(text) -/
theorem call_int_str : CallR X (.type "int") (fun xs H Q => ∃ a n, xs = [.str a] ∧ PySem.intText? a = some n ∧ a.length ≤ 640 ∧ Q (.int n) H) := by
  intro pins s σ H xs us Q I rs h
  obtain ⟨a, n, rfl, hn, hl, h⟩ := h
  cases rs with
  | cons r1 rs =>
    cases rs
    obtain ⟨t, rfl⟩ := r1
    exact PySem.W.KIN.call_text hn hl ⟨.int n, H, I.tok _, ⟨_, rfl⟩, h⟩
end

section
variable {X : Cx} {o e : Expr} {to te : TE}
def tM0 (r : V → List V → Hp → VK → Prop) (to : TE) : TE := fun σ H Q => to σ H fun x H1 => (∃ a, x = .str a) ∧ r x [] H1 Q
def tM1 (r : V → List V → Hp → VK → Prop) (to te : TE) : TE := fun σ H Q => to σ H fun x H1 => (∃ a, x = .str a) ∧ te σ H1 fun y H2 => r x [y] H2 Q
theorem pe_m0 {id : String} {name : Str} {apos pos : Pos} {r : V → List V → Hp → VK → Prop} (slot : Slot "str" name id) (ty : typeOf (.builtin id) = pure (.type "method_descriptor")) (rule : MtR X id r) (ho : PE X o to)
    (hbase : attributeBase o name X.env (eval o X.env) = eval o X.env := by rfl) (hline : (apos.endLine == pos.line) = true := by rfl) : PE X (.Call (.Attribute o name apos) [] [] pos) (tM0 r to) := by
  intro pins s σ H Q I h
  refine PySem.Call_method0 hbase hline (thn (ho pins s σ H _ I h) fun v s1 ⟨x, H1, I1, r1, q1⟩ => ?_)
  obtain ⟨⟨a, rfl⟩, q1⟩ := q1
  obtain ⟨t, rfl⟩ := _root_.id r1
  exact ⟨"str", _, F.plainAttrs_str, slot, ty, typeIs_str _ _ _, (fun _ e => nomatch e), Calls.callWith_builtin rfl (PySem.evalArgs_none (rule pins s1 σ H1 _ [] _ [] Q I1 r1 .nil q1))⟩
theorem pe_m1 {id : String} {name : Str} {apos pos : Pos} {r : V → List V → Hp → VK → Prop} (slot : Slot "str" name id) (ty : typeOf (.builtin id) = pure (.type "method_descriptor")) (rule : MtR X id r) (ho : PE X o to) (he : PE X e te)
    (hs : starEach [e] X.env = [(false, eval e X.env)] := by rfl) (hbase : attributeBase o name X.env (eval o X.env) = eval o X.env := by rfl) (hline : (apos.endLine == pos.line) = true := by rfl) :
    PE X (.Call (.Attribute o name apos) [e] [] pos) (tM1 r to te) := by
  intro pins s σ H Q I h
  refine PySem.Call_method1 hbase hs hline (thn (ho pins s σ H _ I h) fun v s1 ⟨x, H1, I1, r1, q1⟩ => ?_)
  obtain ⟨⟨a, rfl⟩, q1⟩ := q1
  obtain ⟨t, rfl⟩ := _root_.id r1
  refine ⟨"str", _, F.plainAttrs_str, slot, ty, typeIs_str _ _ _, (fun _ e => nomatch e), Calls.callWith_builtin rfl (Calls.evalArgs_plain (Calls.spliced_cons ?_))⟩
  exact thn (he pins s1 σ H1 _ I1 q1) fun u s2 ⟨y, H2, I2, r2, q2⟩ => Calls.spliced_nil (rule pins s2 σ H2 _ [y] _ [u] Q I2 r1 (.cons r2 .nil) q2)

theorem pe_split {apos pos : Pos} (ho : PE X o to) (he : PE X e te) (hs : starEach [e] X.env = [(false, eval e X.env)] := by rfl) (hbase : attributeBase o "split" X.env (eval o X.env) = eval o X.env := by rfl) (hline : (apos.endLine == pos.line) = true := by rfl) :
    PE X (.Call (.Attribute o "split" apos) [e] [] pos) (tM1 (fun x xs H Q => ∃ a b, x = .str a ∧ xs = [.str b] ∧ (b.length == 0) = false ∧ a.length + 2 ≤ sizeLine ∧ rNewStrs (Txt.split a b) H Q) to te) :=
  pe_m1 F.slot_str_split F.type_str_split mt_split ho he hs hbase hline
theorem pe_words {apos pos : Pos} (ho : PE X o to) (hbase : attributeBase o "split" X.env (eval o X.env) = eval o X.env := by rfl) (hline : (apos.endLine == pos.line) = true := by rfl) :
    PE X (.Call (.Attribute o "split" apos) [] [] pos) (tM0 (fun x xs H Q => ∃ a, x = .str a ∧ xs = [] ∧ a.length + 2 ≤ sizeLine ∧ rNewStrs (Txt.words a) H Q) to) :=
  pe_m0 F.slot_str_split F.type_str_split mt_words ho hbase hline
theorem pe_partition {apos pos : Pos} (ho : PE X o to) (he : PE X e te) (hs : starEach [e] X.env = [(false, eval e X.env)] := by rfl) (hbase : attributeBase o "partition" X.env (eval o X.env) = eval o X.env := by rfl) (hline : (apos.endLine == pos.line) = true := by rfl) :
    PE X (.Call (.Attribute o "partition" apos) [e] [] pos) (tM1 (fun x xs H Q => ∃ a b, x = .str a ∧ xs = [.str b] ∧ (b.length == 0) = false ∧ a.length ≤ sizeLine ∧
      ∀ p, H p = none → Q (.ref p) (upd H p (.tup [.str (Txt.partition a b).1, .str (Txt.partition a b).2.1, .str (Txt.partition a b).2.2]))) to te) :=
  pe_m1 F.slot_str_partition F.type_str_partition mt_partition ho he hs hbase hline
theorem pe_join {apos pos : Pos} (ho : PE X o to) (he : PE X e te) (hs : starEach [e] X.env = [(false, eval e X.env)] := by rfl) (hbase : attributeBase o "join" X.env (eval o X.env) = eval o X.env := by rfl) (hline : (apos.endLine == pos.line) = true := by rfl) :
    PE X (.Call (.Attribute o "join" apos) [e] [] pos) (tM1 (fun x xs H Q => ∃ a p, ∃ ys : List Str, x = .str a ∧ xs = [.ref p] ∧ (SqL X.K H p (ys.map V.str) ∨ SqT X.K H p (ys.map V.str)) ∧
      (ys.map (·.length)).sum + ys.length * a.length ≤ 16777216 ∧ Q (.str (Txt.join a ys)) H) to te) :=
  pe_m1 F.slot_str_join F.type_str_join mt_join ho he hs hbase hline
theorem pe_strip {apos pos : Pos} (ho : PE X o to) (hbase : attributeBase o "strip" X.env (eval o X.env) = eval o X.env := by rfl) (hline : (apos.endLine == pos.line) = true := by rfl) :
    PE X (.Call (.Attribute o "strip" apos) [] [] pos) (tM0 (fun x xs H Q => ∃ a, x = .str a ∧ xs = [] ∧ a.length ≤ sizeLine ∧ Q (.str (Txt.strip a)) H) to) :=
  pe_m0 F.slot_str_strip F.type_str_strip mt_strip ho hbase hline
theorem pe_lower {apos pos : Pos} (ho : PE X o to) (hbase : attributeBase o "lower" X.env (eval o X.env) = eval o X.env := by rfl) (hline : (apos.endLine == pos.line) = true := by rfl) :
    PE X (.Call (.Attribute o "lower" apos) [] [] pos) (tM0 (fun x xs H Q => ∃ a, x = .str a ∧ xs = [] ∧ a.length ≤ 5592405 ∧ Q (.str (Txt.lower a)) H) to) :=
  pe_m0 F.slot_str_lower F.type_str_lower mt_lower ho hbase hline
theorem pe_upper {apos pos : Pos} (ho : PE X o to) (hbase : attributeBase o "upper" X.env (eval o X.env) = eval o X.env := by rfl) (hline : (apos.endLine == pos.line) = true := by rfl) :
    PE X (.Call (.Attribute o "upper" apos) [] [] pos) (tM0 (fun x xs H Q => ∃ a, x = .str a ∧ xs = [] ∧ a.length ≤ 5592405 ∧ Q (.str (Txt.upper a)) H) to) :=
  pe_m0 F.slot_str_upper F.type_str_upper mt_upper ho hbase hline
end
end L2

namespace L2
open PySem PySem.Spec PyProof.Rows

section
variable {X : Cx}
theorem op_le_str : OpR X (compareOp .LtE) (fun x y H Q => ∃ i j, x = .str i ∧ y = .str j ∧ Q (.bl (!decide (j.cps.toList < i.cps.toList))) H) := by
  intro pins s σ H x y v u Q I rx ry h
  obtain ⟨i, j, rfl, rfl, q⟩ := h
  obtain ⟨t, rfl⟩ := rx
  obtain ⟨t', rfl⟩ := ry
  exact PySem.P.le_str (fin_bl I q rfl)
theorem op_gt_str : OpR X (compareOp .Gt) (fun x y H Q => ∃ i j, x = .str i ∧ y = .str j ∧ Q (.bl (decide (j.cps.toList < i.cps.toList))) H) := by
  intro pins s σ H x y v u Q I rx ry h
  obtain ⟨i, j, rfl, rfl, q⟩ := h
  obtain ⟨t, rfl⟩ := rx
  obtain ⟨t', rfl⟩ := ry
  exact PySem.P.gt_str (fin_bl I q rfl)
theorem op_ge_str : OpR X (compareOp .GtE) (fun x y H Q => ∃ i j, x = .str i ∧ y = .str j ∧ Q (.bl (!decide (i.cps.toList < j.cps.toList))) H) := by
  intro pins s σ H x y v u Q I rx ry h
  obtain ⟨i, j, rfl, rfl, q⟩ := h
  obtain ⟨t, rfl⟩ := rx
  obtain ⟨t', rfl⟩ := ry
  exact PySem.P.ge_str (fin_bl I q rfl)
/-- one sign in a text -/
theorem op_in_sign : OpR X (compareOp .In) (fun x y H Q => ∃ (c : Nat) (z : Str), x = .str ⟨#[c]⟩ ∧ y = .str z ∧ Q (.bl (decide (c ∈ z.cps.toList))) H) := by
  intro pins s σ H x y v u Q I rx ry h
  obtain ⟨c, z, rfl, rfl, q⟩ := h
  obtain ⟨t, rfl⟩ := rx
  obtain ⟨t', rfl⟩ := ry
  exact PyProof.Rows.in_str (fin_bl I q (PySem.StrLaws.found_one z c).symm)
theorem op_notIn_sign : OpR X (compareOp .NotIn) (fun x y H Q => ∃ (c : Nat) (z : Str), x = .str ⟨#[c]⟩ ∧ y = .str z ∧ Q (.bl (!decide (c ∈ z.cps.toList))) H) := by
  intro pins s σ H x y v u Q I rx ry h
  obtain ⟨c, z, rfl, rfl, q⟩ := h
  obtain ⟨t, rfl⟩ := rx
  obtain ⟨t', rfl⟩ := ry
  exact PyProof.Rows.notIn_str (fin_bl I q (congrArg Bool.not (PySem.StrLaws.found_one z c).symm))
end

/-! ### slices of a text -/
theorem IsPart.raw {v : Value} {o : Option Int} (p : IsPart v o) : ∃ l : Option (Int × Tok), v = partValue l ∧ l.map (·.1) = o := by
  cases p with
  | none => exact ⟨none, rfl, rfl⟩
  | int i t => exact ⟨some (i, t), rfl, rfl⟩

/-- a part, clipped, as the text's slice reckons it -/
def clipS (n d : Nat) : Option Int → Int
  | none => (d : Int)
  | some i => max 0 (min (if i < 0 then i + (n : Int) else i) (n : Int))
theorem clipS_eq (n d : Nat) (o : Option Int) : clipS n d o = ((HT.sIx n d o : Nat) : Int) := by
  cases o with
  | none => rfl
  | some v =>
    show max (0 : Int) (min (if v < 0 then v + (n : Int) else v) (n : Int)) = (((if v < 0 then (v + (n : Int)).toNat else min v.toNat n) : Nat) : Int)
    by_cases hv : v < 0
    · simp only [if_pos hv]
      omega
    · simp only [if_neg hv]
      omega
theorem sidx_clip (a b : Option Int) (n : Nat) : Builtin.Str.strSliceIndices a b 1 n = sliceRange (clipS n 0 a) (clipS n n b) 1 := by
  have h1 : ((1 : Int) > 0) = True := by simp
  cases a <;> cases b <;> first
    | rfl
    | (simp only [Builtin.Str.strSliceIndices, clipS, h1, if_true]; rfl)
    | simp [Builtin.Str.strSliceIndices, clipS]
theorem sidx (a b : Option Int) (n : Nat) : Builtin.Str.strSliceIndices a b 1 n = (List.range (HT.sIx n n b - HT.sIx n 0 a)).map (fun k => HT.sIx n 0 a + k) := by
  rw [sidx_clip, clipS_eq, clipS_eq]
  generalize HT.sIx n 0 a = p
  generalize HT.sIx n n b = q
  simp only [sliceRange, show ((1 : Int) > 0) = True from by simp, if_true]
  by_cases hlt : (p : Int) < q
  · have e3 : (((q : Int) - p + 1 - 1) / 1).toNat = q - p := by first | omega | (simp; done) | (simp; omega)
    simp only [hlt, if_true, e3]
    refine List.map_congr_left fun k _ => ?_
    omega
  · have : q - p = 0 := by omega
    simp [hlt, this]

/-- z[lo:hi] -/
def cutS (z : Str) (lo hi : Option Int) : Str :=
  ⟨((z.cps.toList.drop (HT.sIx z.length 0 lo)).take (HT.sIx z.length z.length hi - HT.sIx z.length 0 lo)).toArray⟩
theorem sliceText_cut (z : Str) (lo hi : Option Int) : PySem.StrLaws.sliceText z lo hi = cutS z lo hi := by
  have h1 : HT.sIx z.length 0 lo ≤ z.length := HT.sIx_le _ _ (Nat.zero_le _) _
  have h2 : HT.sIx z.length z.length hi ≤ z.length := HT.sIx_le _ _ (Nat.le_refl _) _
  have hp : HT.sIx z.length 0 lo ≤ max (HT.sIx z.length 0 lo) (HT.sIx z.length z.length hi) := Nat.le_max_left _ _
  have hq : max (HT.sIx z.length 0 lo) (HT.sIx z.length z.length hi) ≤ z.length := Nat.max_le.mpr ⟨h1, h2⟩
  have hd : max (HT.sIx z.length 0 lo) (HT.sIx z.length z.length hi) - HT.sIx z.length 0 lo = HT.sIx z.length z.length hi - HT.sIx z.length 0 lo := by omega
  have e : Builtin.Str.strSliceIndices lo hi 1 z.length =
      Builtin.Str.strSliceIndices (some ((HT.sIx z.length 0 lo : Nat) : Int)) (some ((max (HT.sIx z.length 0 lo) (HT.sIx z.length z.length hi) : Nat) : Int)) 1 z.length := by
    rw [PySem.StrLaws.strSliceIndices_plain hp hq, hd, sidx]
  have e2 : PySem.StrLaws.sliceText z lo hi =
      PySem.StrLaws.sliceText z (some ((HT.sIx z.length 0 lo : Nat) : Int)) (some ((max (HT.sIx z.length 0 lo) (HT.sIx z.length z.length hi) : Nat) : Int)) := by
    unfold PySem.StrLaws.sliceText
    rw [e]
  rw [e2, PySem.StrLaws.sliceText_nat z hp hq, hd]
  rfl
theorem cutS_length (z : Str) (lo hi : Option Int) : (cutS z lo hi).length ≤ z.length := by
  show (((z.cps.toList.drop (HT.sIx z.length 0 lo)).take (HT.sIx z.length z.length hi - HT.sIx z.length 0 lo)).toArray).size ≤ z.cps.size
  rw [List.size_toArray, List.length_take, List.length_drop, Array.length_toList]
  omega
def rSlS : V → Option Int → Option Int → Hp → VK → Prop := fun x lo hi H Q => ∃ z, x = .str z ∧ z.length ≤ sizeLine ∧ Q (.str (cutS z lo hi)) H
theorem sl_str {X : Cx} : SlR X rSlS := by
  intro pins s σ H x v vl vu lo hi sl Q I rx hs pl pu h
  obtain ⟨z, rfl, hz, q⟩ := h
  obtain ⟨t, rfl⟩ := rx
  obtain ⟨os, hos, hcs, hds⟩ := hs
  obtain ⟨l, rfl, rfl⟩ := IsPart.raw pl
  obtain ⟨u, rfl, rfl⟩ := IsPart.raw pu
  refine ⟨"str", _, F.slot_str_getitem.lookup, typeIs_str _ _ _, ?_⟩
  refine wpAny_getItem_str_slice (l := l) (u := u) (st := none) ⟨os, hos, hcs, hds⟩ rfl ?_
  have hl : (PySem.StrLaws.sliceText z (l.map (·.1)) (u.map (·.1))).length ≤ sizeLine := by
    rw [sliceText_cut]
    exact Nat.le_trans (cutS_length z _ _) hz
  rw [← sliceText_cut] at q
  unfold PySem.StrLaws.sliceText at q hl
  show Made.post (if ((1 : Int) == 1 && (Builtin.Str.strSliceIndices (l.map (·.1)) (u.map (·.1)) 1 z.length).length == z.length) = true then Made.val (.str z t)
    else Made.str ⟨((Builtin.Str.strSliceIndices (l.map (·.1)) (u.map (·.1)) 1 z.length).filterMap (z.cps[·]?)).toArray⟩) (EP X pins σ Q) s
  by_cases c : ((1 : Int) == 1 && (Builtin.Str.strSliceIndices (l.map (·.1)) (u.map (·.1)) 1 z.length).length == z.length) = true
  · rw [if_pos c] at q ⊢
    exact ⟨.str z, H, I, ⟨t, rfl⟩, q⟩
  · rw [if_neg c] at q hl ⊢
    exact ⟨hl, .str _, H, I.tok _, ⟨_, rfl⟩, q⟩
end L2

namespace Att
open PySem PySem.W PySem.Calls PyProof.Rows

/-! ### the script -/
theorem ints_of_wellAll {P : Params} {h : Heap} : ∀ (ns : List Int) (vs : List Value), WellAll P h vs (ns.map WData.int) → IntsAre vs ns := by
  intro ns
  induction ns with
  | nil =>
    intro vs w
    rw [List.map_nil] at w
    cases w
    exact .nil
  | cons n ns ih =>
    intro vs w
    rw [List.map_cons] at w
    cases w with
    | cons a b =>
      cases a
      exact .cons _ _ (ih _ b)

theorem script_of {l : OpenLaw} {n : Nat} (hn : l.most = some n) {P : Params} {h : Heap} {args : List WData} {vals : List Value}
    (hpre : l.row.toRowW.claim.pre args = true) (hwl : WellAll P h vals args) :
    ∃ a vs ns, vals = [Value.ref a] ∧ args = [WData.list (ns.map WData.int)] ∧ h.get? a = some { cls := .type "list", data := .seq vs.toArray } ∧ IntsAre vs ns ∧ ns.length ≤ n := by
  have hsh : WShape.hasAll [] args [.list .int] = true := (pre_splitW hpre).1
  have hc : l.pre.holds [] { args := args } = true := (pre_splitW hpre).2
  obtain ⟨d, r, rfl, h1, h2⟩ := hasAllW_cons hsh
  obtain rfl := hasAllW_nil h2
  obtain ⟨xs, rfl, h3⟩ := hasW_list h1
  obtain ⟨ns, rfl⟩ := items_int h3
  have hlen : ns.length ≤ n := by
    unfold OpenLaw.pre at hc
    have h4 : (WTm.not (.lt (.lit (.int (n : Int))) (.len (.arg 0)))).holds [] { args := [.list (ns.map .int)] } = true := by
      have h4 := (holds_andW hc).1
      rw [hn] at h4
      exact h4
    have h5 := condW_of h4 (w_not (w_lt w_lit (w_len_list (w_arg rfl))))
    rw [List.length_map] at h5
    refine Nat.le_of_not_lt fun q => ?_
    have q' : (n : Int) < ((ns.length : Nat) : Int) := by omega
    first
      | (rw [decide_eq_true q'] at h5; exact absurd h5 (by decide))
      | (simp at h5; omega)
  cases hwl with
  | cons w1 w2 =>
    cases w2
    cases w1 with
    | list ho hall => exact ⟨_, _, ns, rfl, rfl, ho, ints_of_wellAll ns _ hall, hlen⟩

theorem post_true (l : OpenLaw) (args : List WData) : l.row.toRowW.claim.post args (.bool true) args = true :=
  postW_of (r := l.row.toRowW) (X := (true == true))
    (show WShape.has [] (.bool true) .bool = true by first | rfl | decide | simp [WShape.has, WShape.arms, WShape.armsAll])
    (show (WTm.eq .res (.lit (.bool true))).value [] { args := args, res := some (.bool true), after := args } = some (.bool (true == true)) from w_eq_bool (w_res rfl) w_lit) rfl

/-! ### the attachment: holds_open's last premise (the goal 'hc' behind k_head) from a wpAny of the law's body -/
theorem attach {l : OpenLaw} {n : Nat} {q : Program} {loose : List Str} {XP : (Str → Option Value) → Heap → Prop} {YP : World → Heap → Prop} {d : DefRec} {x : Str}
    (hn : l.most = some n) (hdf : d.params.defaults = [])
    (hbind : ∀ pm cd doc v : Value, bindArgs (docDef d.name d.params d.body d.scope pm cd doc) ⟨[v], []⟩ = pure [(x, v)])
    (hx : d.scope.names.lookup x = some .local ∨ d.scope.names.lookup x = some .cell)
    (hk : d.scope.kind = .function) (hco : d.scope.isCoroutine = false) (hgen : d.scope.isGenerator = false)
    (body : ∀ (w : World) (s₀ s₁ s : Shared) (mg mb : Str → Option Value) (fa : Addr) (o : Obj) (pm cd doc : Value) (a : Addr) (vs : List Value) (ns : List Int),
      Ground q loose [] XP w s₀ mg mb s₁.heap → YP w s₁.heap →
      s₁.heap.get? fa = some o → o.data = .func (docDef d.name d.params d.body d.scope pm cd doc) → s₁.heap.CodeRec cd d.name → mg d.name = some (.ref fa) →
      s₁.heap.get? a = some { cls := .type "list", data := .seq vs.toArray } → IntsAre vs ns → ns.length ≤ n →
      s.gens = #[] → s.os = s₁.os →
      Fr s₁.heap s₁.heap.objs.size s.heap (bindL (envOfC d.name d.scope s₁.heap.objs.size fa cd).kindOf [(x, .ref a)] fun _ => none) →
      Cl s₁.heap.objs.size (cellsFrom (s₁.heap.objs.size + 1) d.scope.names []) s.heap (bindC (envOfC d.name d.scope s₁.heap.objs.size fa cd).kindOf [(x, .ref a)] fun _ => none) →
      wpAny (model l.prog w) (callerA.deeper (envOfC d.name d.scope s₁.heap.objs.size fa cd)) (execs d.body (envOfC d.name d.scope s₁.heap.objs.size fa cd))
        (fun f s' => f = .ret (.bool true) ∧ OldK s₁.heap s'.heap ∧ s'.os = s₁.os ∧ AllBare s'.gens) (fun _ _ => False) s) :
    WalkO q loose XP YP l.row.toRowW d [] (fun f vs => PySem.call f vs) := by
  intro w s₀ s₁ mg mb G Y fa o pm cd doc dV kV ho hd hcd hD hmg hg args vals as hpre hlay hrd hwl hlo
  obtain rfl : dV = .none := Dflts.none hD hdf
  obtain rfl : kV = .none := Dflts.noKw hD
  obtain ⟨a, vs, ns, rfl, rfl, hobj, hints, hlen⟩ := script_of hn hpre hwl
  refine enter_call ?_
  refine call_cells_ret (o := o) (by rw [depth_caller]; decide) ho (fd_plain hd) G.T.nolimit hcd (hbind pm cd doc (.ref a)) (fun y hy => ?_) (fun h₁ tk F X => ?_) hco hgen hk
  · obtain rfl : y = (x, Value.ref a) := List.mem_singleton.mp hy
    rcases hx with e | e
    · exact .inl e
    · exact .inr ⟨e, cellsFrom_some _ _ _ (.inl e)⟩
  · refine wpAny_mono (body w s₀ s₁ { s₁ with heap := h₁, toks := tk } mg mb fa o pm cd doc a vs ns G Y ho (fd_plain hd) hcd hmg hobj hints hlen hg rfl F X) (fun f s' hq => ?_) (fun _ _ hq => hq)
    obtain ⟨rfl, h2, h3, h4⟩ := hq
    exact ⟨.inl ⟨.bool true, .bool true, [], rfl, fun _ => rfl, .bool true, post_true l _, fun _ => ⟨List.Pairwise.nil, fun _ hm => (nomatch hm)⟩⟩, h2, h3, h4⟩

/-- the same from a codeAny of the CALL (for a layer whose function contracts speak of calls) -/
theorem attach_call {l : OpenLaw} {n : Nat} {q : Program} {loose : List Str} {XP : (Str → Option Value) → Heap → Prop} {YP : World → Heap → Prop} {d : DefRec}
    (hn : l.most = some n) (hdf : d.params.defaults = [])
    (call : ∀ (w : World) (s₀ s₁ : Shared) (mg mb : Str → Option Value) (fa : Addr) (o : Obj) (pm cd doc : Value) (a : Addr) (vs : List Value) (ns : List Int),
      Ground q loose [] XP w s₀ mg mb s₁.heap → YP w s₁.heap →
      s₁.heap.get? fa = some o → o.data = .func (docDef d.name d.params d.body d.scope pm cd doc) → s₁.heap.CodeRec cd d.name → mg d.name = some (.ref fa) →
      s₁.heap.get? a = some { cls := .type "list", data := .seq vs.toArray } → IntsAre vs ns → ns.length ≤ n → s₁.gens = #[] →
      codeAny (model l.prog w) callerA (.call (.ref fa) ⟨[.ref a], []⟩) (fun r s' => r = .ok (.ret (.bool true)) ∧ OldK s₁.heap s'.heap ∧ s'.os = s₁.os ∧ AllBare s'.gens) s₁) :
    WalkO q loose XP YP l.row.toRowW d [] (fun f vs => PySem.call f vs) := by
  intro w s₀ s₁ mg mb G Y fa o pm cd doc dV kV ho hd hcd hD hmg hg args vals as hpre hlay hrd hwl hlo
  obtain rfl : dV = .none := Dflts.none hD hdf
  obtain rfl : kV = .none := Dflts.noKw hD
  obtain ⟨a, vs, ns, rfl, rfl, hobj, hints, hlen⟩ := script_of hn hpre hwl
  refine enter_call (codeAny_mono (call w s₀ s₁ mg mb fa o pm cd doc a vs ns G Y ho (fd_plain hd) hcd hmg hobj hints hlen hg) fun r s' hq => ?_)
  obtain ⟨rfl, h2, h3, h4⟩ := hq
  exact ⟨.inl ⟨.bool true, .bool true, [], rfl, fun _ => rfl, .bool true, post_true l _, fun _ => ⟨List.Pairwise.nil, fun _ hm => (nomatch hm)⟩⟩, h2, h3, h4⟩

/-- the same where the top left finished generators (o_head chose holds_openN): nothing may have changed at all and no generator may be left -/
theorem attachN {l : OpenLaw} {n : Nat} {q : Program} {loose : List Str} {XP : (Str → Option Value) → Heap → Prop} {YP : World → Heap → Prop} {d : DefRec} {x : Str}
    (hn : l.most = some n) (hdf : d.params.defaults = [])
    (hbind : ∀ pm cd doc v : Value, bindArgs (docDef d.name d.params d.body d.scope pm cd doc) ⟨[v], []⟩ = pure [(x, v)])
    (hx : d.scope.names.lookup x = some .local ∨ d.scope.names.lookup x = some .cell)
    (hk : d.scope.kind = .function) (hco : d.scope.isCoroutine = false) (hgen : d.scope.isGenerator = false)
    (body : ∀ (w : World) (s₀ s₁ s : Shared) (mg mb : Str → Option Value) (fa : Addr) (o : Obj) (pm cd doc : Value) (a : Addr) (vs : List Value) (ns : List Int),
      Ground q loose [] XP w s₀ mg mb s₁.heap → YP w s₁.heap →
      s₁.heap.get? fa = some o → o.data = .func (docDef d.name d.params d.body d.scope pm cd doc) → s₁.heap.CodeRec cd d.name → mg d.name = some (.ref fa) →
      s₁.heap.get? a = some { cls := .type "list", data := .seq vs.toArray } → IntsAre vs ns → ns.length ≤ n →
      s.gens = #[] → s.os = s₁.os →
      Fr s₁.heap s₁.heap.objs.size s.heap (bindL (envOfC d.name d.scope s₁.heap.objs.size fa cd).kindOf [(x, .ref a)] fun _ => none) →
      Cl s₁.heap.objs.size (cellsFrom (s₁.heap.objs.size + 1) d.scope.names []) s.heap (bindC (envOfC d.name d.scope s₁.heap.objs.size fa cd).kindOf [(x, .ref a)] fun _ => none) →
      wpAny (model l.prog w) (callerA.deeper (envOfC d.name d.scope s₁.heap.objs.size fa cd)) (execs d.body (envOfC d.name d.scope s₁.heap.objs.size fa cd))
        (fun f s' => f = .ret (.bool true) ∧ (∀ b o, s₁.heap.get? b = some o → s'.heap.get? b = some o) ∧ s'.os = s₁.os ∧ s'.gens = #[]) (fun _ _ => False) s) :
    WalkN q loose XP YP l.row.toRowW d [] (fun f vs => PySem.call f vs) := by
  intro w s₀ s₁ mg mb G Y fa o pm cd doc dV kV ho hd hcd hD hmg hg args vals as hpre hlay hrd hwl hlo
  obtain rfl : dV = .none := Dflts.none hD hdf
  obtain rfl : kV = .none := Dflts.noKw hD
  obtain ⟨a, vs, ns, rfl, rfl, hobj, hints, hlen⟩ := script_of hn hpre hwl
  refine enter_callW ?_
  refine call_cells_ret (o := o) (by rw [depth_caller]; decide) ho (fd_plain hd) G.T.nolimit hcd (hbind pm cd doc (.ref a)) (fun y hy => ?_) (fun h₁ tk F X => ?_) hco hgen hk
  · obtain rfl : y = (x, Value.ref a) := List.mem_singleton.mp hy
    rcases hx with e | e
    · exact .inl e
    · exact .inr ⟨e, cellsFrom_some _ _ _ (.inl e)⟩
  · refine wpAny_mono (body w s₀ s₁ { s₁ with heap := h₁, toks := tk } mg mb fa o pm cd doc a vs ns G Y ho (fd_plain hd) hcd hmg hobj hints hlen hg rfl F X) (fun f s' hq => ?_) (fun _ _ hq => hq)
    obtain ⟨rfl, h2, h3, h4⟩ := hq
    exact ⟨.inl ⟨.bool true, .bool true, [], rfl, fun _ => rfl, .bool true, post_true l _, fun _ => ⟨List.Pairwise.nil, fun _ hm => (nomatch hm)⟩⟩, h2, h3, h4⟩

/-! ### rules over ANY heap (no ledger) from facts about the written part K: the library's own take a ledger (News) for what they write -/
section
variable {prog : Program} {w : World} {A : Around} {E : Value → Shared → Prop} {s : Shared} {K : Frag}

/-- a def of the module, or a method (qual 'C.m'), entered: the frame is the next address; cells behind it -/
theorem call_fn {R : Result → Shared → Prop} {name qual : Str} {params : Arguments} {body : List Stmt} {scope : Scope} {dV kV doc pm cdv ct oc : Value} {an od : Option Addr} {osl : Array (Option Value)} {f : Addr} {args : Args} {binds : List (Str × Value)}
    (X : K.In s.heap) (hlim : s.heap.NoLimit) (ho : K.lookup f = some ⟨oc, od, .func (fnOf name qual params body scope dV kV doc pm an cdv ct), osl⟩) (hcd : codeIn K cdv qual = true) (hroom : A.depth < recursionLimit)
    (hbind : BindsTo s (fnOf name qual params body scope dV kV doc pm an cdv ct) args binds)
    (hkind : (binds.all fun y => scope.names.lookup y.1 == some .local || scope.names.lookup y.1 == some .cell) = true)
    (h : ∀ s₁, InCallC s s.heap.objs.size (bindL (envOfC qual scope s.heap.objs.size f cdv).kindOf binds fun _ => none) (cellsFrom (s.heap.objs.size + 1) scope.names [])
        (bindC (envOfC qual scope s.heap.objs.size f cdv).kindOf binds fun _ => none) s₁ →
      wpAny (model prog w) (A.deeper (envOfC qual scope s.heap.objs.size f cdv)) (execs body (envOfC qual scope s.heap.objs.size f cdv))
        (fun fl s' => R (.ok (.ret (match fl with | .ret v => v | _ => .none))) s')
        (fun e s' => wpAny (model prog w) (A.deeper (envOfC qual scope s.heap.objs.size f cdv)) (leaving (envOfC qual scope s.heap.objs.size f cdv) e) (fun _ s'' => R (.error e) s'') (fun e' s'' => R (.error e') s'') s') s₁)
    (hco : scope.isCoroutine = false) (hgen : scope.isGenerator = false) (hk : scope.kind = .function) : codeAny (model prog w) A (.call (.ref f) args) R s := by
  refine codeAny_call_function hroom (X _ _ ho) rfl hco hgen rfl (codeRec_of X hcd) (hbind _ _ _ _ ?_)
  refine wpAny_newFunctionEnv_cells hk (kindsX hkind _) fun env he s₁ x => ?_
  subst he
  exact ⟨hlim.keeps x.toInCall.keep, codeAny_func (h s₁ x)⟩

/-- C(..): dict at size, instance at size + 1, then __init__ -/
theorem make_obj {R : Result → Shared → Prop} {C fI : Addr} {rest : List Value} {kw : List (Str × Value)}
    (X : K.In s.heap) (hm : makesIn K C = true) (hi : findIn K (.ref C) "__init__" = some (some (.ref fI))) (hf : isFn K (.ref fI) = true)
    (h : codeAny (model prog w) (A.under (.builtin "type.__call__" ⟨.ref C :: rest, kw⟩)) (.call (.ref fI) ⟨.ref (s.heap.objs.size + 1) :: rest, kw⟩) (InitBack (s.heap.objs.size + 1) R)
      { s with heap := (s.heap.push emptyDict).push (instObj C s.heap.objs.size) }) : codeAny (model prog w) A (.call (.ref C) ⟨rest, kw⟩) R s := by
  obtain ⟨hh, g, d, t, os⟩ := s
  exact make_core (makes_of X hm) (looks_findIn X hi) (fun self => bind_fn X self (beq_iff_eq.mp hf)) (.inl rfl) h

/-- x.name where the instance's dict holds the name and the class does not -/
theorem get_field {x C : Addr} {ox : Obj} {es : List DictEntry} {n : Nat} {name : Str} {expr : Bool} {v : Value} {Q : Value → Shared → Prop}
    (X : K.In s.heap) (I : PySem.W.InstAt s.heap x ox C (some (dictOf es n))) (hg : plainGet K C name = true) (hh : hasDictIn K C = true) (ha : findIn K (.ref C) name = some none)
    (hl : getL name es = some (some v)) (hv : handedIn v = true) (h : Q v { s with toks := s.toks + 1 }) : wpAny (model prog w) A (getAttr (.ref x) name expr) Q E s :=
  get_value X I (plainGet_of hg).1 (findObj_own hh ha rfl hl) hv h

/-- x.m(..): the method found in the class -/
theorem get_method {x C f : Addr} {ox : Obj} {es : List DictEntry} {n : Nat} {name : Str} {pl : Sem Bool} {Q : Value × List Value → Shared → Prop}
    (X : K.In s.heap) (I : PySem.W.InstAt s.heap x ox C (some (dictOf es n))) (hg : plainGet K C name = true) (hf : findIn K (.ref C) name = some (some (.ref f))) (ht : isFn K (.ref f) = true)
    (hl : getL name es = some none) (h : Q (.ref f, [.ref x]) s) : wpAny (model prog w) A (getMethod (.ref x) name pl) Q E s :=
  method_fn X I (plainGet_of hg).1 (plainGet_of hg).2 hf (beq_iff_eq.mp ht) (by show (lookIn name (dictOf es n)).map _ = _; rw [lookIn_dict, hl]; rfl) h

/-! the whole heap as the ledger: makes every rule that writes through a ledger a rule over any heap -/
def noObjs (h : Heap) : Heap := { h with objs := #[] }
theorem noObjs_get (h : Heap) (b : Addr) : (noObjs h).get? b = none := by
  cases e : (noObjs h).get? b with
  | none => rfl
  | some o => exact absurd (Heap.lt_size e) (Nat.not_lt_zero _)
def ledger (h : Heap) (L d : Addr) : List (Addr × Obj) := (List.range h.objs.size).filterMap fun a => if a = L ∨ a = d then none else (h.get? a).map fun o => (a, o)
theorem mem_ledger {h : Heap} {L d a : Addr} {o : Obj} : (a, o) ∈ ledger h L d ↔ a ≠ L ∧ a ≠ d ∧ h.get? a = some o := by
  unfold ledger
  rw [List.mem_filterMap]
  constructor
  · rintro ⟨b, _, e⟩
    split at e
    · cases e
    · rename_i hb
      obtain ⟨o', ho, e'⟩ := Option.map_eq_some_iff.mp e
      cases e'
      exact ⟨fun q => hb (.inl q), fun q => hb (.inr q), ho⟩
  · rintro ⟨n1, n2, ho⟩
    refine ⟨a, List.mem_range.mpr (Heap.lt_size ho), ?_⟩
    rw [if_neg (show ¬ (a = L ∨ a = d) from fun q => q.elim n1 n2), ho] <;> rfl
theorem news_ledger {h : Heap} {L d : Addr} {od : Obj} (hne : d ≠ L) (ho : h.get? d = some od) : News (noObjs h) L h ([] ++ (d, od) :: ledger h L d) := by
  rintro ⟨a, o⟩ hp
  rcases List.mem_cons.mp hp with e | hp
  · cases e
    exact ⟨ho, hne, noObjs_get _ _⟩
  · obtain ⟨n1, n2, e⟩ := mem_ledger.mp hp
    exact ⟨e, n1, noObjs_get _ _⟩
theorem fr_all {h : Heap} {L : Addr} {m : Str → Option Value} (n : h.Ns L m) : Fr (noObjs h) L h m :=
  ⟨n, fun b o e => (by rw [noObjs_get] at e; cases e), Nat.zero_le _⟩
/-- Upd of the head entry (for append_K, setItem_K ..) -/
theorem upd_ledger {h : Heap} {L d : Addr} {o o' : Obj} : Upd d o o' ((d, o) :: ledger h L d) ((d, o') :: ledger h L d) :=
  .head fun ⟨_, _⟩ hp => (mem_ledger.mp hp).2.1

/-- x.name = v over any heap: L is any namespace of the heap (the frame's, say): its map stays, its object is not told; all else but the dict stays -/
theorem set_field {x C dx L : Addr} {ox : Obj} {m : Str → Option Value} {es es' : List DictEntry} {n n' : Nat} {name : Str} {v : Value} {Q : Unit → Shared → Prop}
    (X : K.In s.heap) (I : PySem.W.InstAt s.heap x ox C (some (dictOf es n))) (hd : ox.dict = some dx) (hL : s.heap.Ns L m) (hne : dx ≠ L)
    (hs : findIn K (.ref C) "__setattr__" = some (some (.builtin "object.__setattr__"))) (hp : plainOver K C = true) (ht : takerIn K C name = some none) (hh : hasDictIn K C = true) (hl : (getL name es).isSome = true)
    (e : (putL name (PyData.keyHash w.params name) (.str name (s.toks + 1)) v es, putN name es n) = (es', n')) (hz : es'.length ≤ 1000)
    (h : ∀ h' : Heap, h'.Ns L m → h'.get? dx = some (dictOf es' n') → (∀ b o, b ≠ dx → b ≠ L → s.heap.get? b = some o → h'.get? b = some o) → Q () { s with heap := h', toks := s.toks + 2 }) :
    wpAny (model prog w) A (setAttr (.ref x) name v) Q E s := by
  obtain ⟨e1, e2⟩ := Prod.mk.inj e
  have hdx : s.heap.get? dx = some (dictOf es n) := by
    have := I.dict
    rw [hd] at this
    exact this
  refine set_plain X I hs (osa_dict (s := { s with toks := s.toks + 1 }) (h₀ := noObjs s.heap) (L := L) (m := m) (od := dictOf es n) (od' := dictOf es' n') (es := es') (n := n') (pre := []) (post := ledger s.heap L dx)
    (fr_all hL) (news_ledger hne hdx) X I hd hp ht hh hl (fun _ q => nomatch q) (fun ⟨_, _⟩ q => (mem_ledger.mp q).2.1) (by rw [putName_dict, e1, e2]) rfl hz fun h' F' N' => ?_)
  exact h h' F'.ns (N'.get (List.Mem.head _)) fun b o n1 n2 ho => N'.get (List.Mem.tail _ (mem_ledger.mpr ⟨n2, n1, ho⟩))
end
end Att

namespace L2
open PySem PySem.Spec PyProof.Rows

theorem vals_ints : ∀ {vs : List Value} {ns : List Int}, IntsAre vs ns → Vals (ns.map V.int) vs
  | _, _, .nil => .nil
  | _, _, .cons n t h => .cons ⟨t, rfl⟩ (vals_ints h)

/-- nothing is tracked but the script, known to the object (or it is an object of the module) -/
def Only (H : Hp) : Prop := ∀ b, H b = none ∨ ∃ o xs, H b = some (.frz o (.lst xs))

/-- THE HEAD: the law's promise, at the heap behind the top. F, the promise of the law's def, may use that base is part of the heap (so K.In base, base.Ns mainGlobals mg stand in Mod) -/
theorem law_call {P : Program} {w : World} {K : PySem.W.Frag} {mg mb : Str → Option Value} {CX : CXT} {k : Nat} {fa a : Addr} {fd : FuncData} {x : Str} {sp : Sp} {s₁ : Shared} {vs : List Value} {ns : List Int}
    (KX : K.In s₁.heap) (hns : s₁.heap.Ns mainGlobals mg) (hb : s₁.heap.Ns builtinsNs mb) (hbb : ∀ x : Str, x ≠ "__name__" → mb x = bootBuiltins x) (hlim : s₁.heap.NoLimit) (hg : s₁.gens = #[])
    (ha : s₁.heap.get? a = some { cls := .type "list", data := .seq vs.toArray }) (hi : IntsAre vs ns) (hl : ns.length ≤ sizeLine) (hr : Room k callerA)
    (F : ∀ base : Heap, K.In base → base.Ns mainGlobals mg → FnOk P w K mg base CX k fa fd [x] sp) (hbind : ∀ (s : Shared) (u : Value), BindsTo s fd ⟨[u], []⟩ [(x, u)])
    (hsp : ∀ H : Hp, Only H → SqL K H a (ns.map V.int) → sp [.ref a] H (fun v _ => v = .bl true) fun _ _ _ => False)
    (hCX : ∀ H e s', CX [] H s₁ (fun _ _ _ => False) e s' → False) :
    codeAny (model P w) callerA (.call (.ref fa) ⟨[.ref a], []⟩) (fun r s' => r = .ok (.ret (.bool true)) ∧ OldK s₁.heap s'.heap ∧ s'.os = s₁.os ∧ AllBare s'.gens) s₁ := by
  have rv := vals_ints hi
  have lenV := hi.length
  -- from an abstract heap in which nothing but the script may be tracked
  have core : ∀ H : Hp, Only H → SqL K H a (ns.map V.int) → HOk P w H s₁.heap → (∀ b, H b ≠ none → b = a) → (H a ≠ none → K.lookup a = none) →
      codeAny (model P w) callerA (.call (.ref fa) ⟨[.ref a], []⟩) (fun r s' => r = .ok (.ret (.bool true)) ∧ OldK s₁.heap s'.heap ∧ s'.os = s₁.os ∧ AllBare s'.gens) s₁ := by
    intro H hO hS hok hA hK
    have base_of : ∀ {b : Addr} {o : Obj}, s₁.heap.get? b = some o → H b = none → (hidT s₁.heap H).get? b = some o := fun e n => hidT_get e n
    have noA : ∀ {b : Addr} {o : Obj} {es : Array DictEntry} {ep : Nat}, s₁.heap.get? b = some o → o.data = .dict es ep → H b = none := fun {b o es ep} e d => by
      cases q : H b with
      | none => rfl
      | some u =>
        have e' : b = a := hA b (by rw [q]; simp)
        subst e'
        rw [ha] at e; cases e
        have d' : Data.seq vs.toArray _ = Data.dict es ep := d
        cases d'
    have nsK : ∀ {b : Addr} {m : Str → Option Value}, s₁.heap.Ns b m → (hidT s₁.heap H).Ns b m := fun {b m} ⟨o, es, ep, e, d, r⟩ => ⟨o, es, ep, base_of e (noA e d), d, r⟩
    have hKb : K.In (hidT s₁.heap H) := fun b o e => base_of (KX b o e) (by
      cases q : H b with
      | none => rfl
      | some u =>
        have e' : b = a := hA b (by rw [q]; simp)
        subst e'
        rw [hK (by rw [q]; simp)] at e; cases e)
    have hM : Mod K mg (hidT s₁.heap H) := ⟨hKb, nsK hns, ⟨mb, nsK hb, hbb⟩, let ⟨mc, h1, h2⟩ := hlim; ⟨mc, nsK h1, h2⟩⟩
    have e0 : Env0 P w K mg (hidT s₁.heap H) callerA [] s₁ H := ⟨rfl, hM, fun b o e => of_hidT e, Nat.le_of_eq (hidT_size _ _), trivial, fun b hb => absurd (show b ∈ ([] : List Addr) from hb) (by simp), hok, .of_eq hg⟩
    refine codeAny_mono ((F _ hKb (nsK hns)).run callerA [] s₁ H ⟨[.ref a], []⟩ [.ref a] [.ref a] _ _ hr e0 (hbind s₁ (.ref a)) (.cons rfl .nil) (hsp H hO hS)) fun r s' h => ?_
    cases r with
    | error e => exact (hCX H e s' h).elim
    | ok fl =>
      cases fl with
      | next => exact False.elim h
      | brk => exact False.elim h
      | cont => exact False.elim h
      | ret u =>
        obtain ⟨v, H', os, bare, un, hok', r', q⟩ := h
        have q' : v = .bl true := q
        subst q'
        obtain rfl : u = Value.bool true := r'
        refine ⟨rfl, OldK.of_keep fun b o e => ?_, os, bare⟩
        cases q : H b with
        | none => exact un.keep b o e q (by intro z; exact absurd (show b ∈ ([] : List Addr) from z) (by simp)) (by simp)
        | some u =>
          rcases hO b with z | ⟨ob, xs, z⟩
          · rw [q] at z; cases z
          · have z2 := un.frzs b ob _ z
            obtain ⟨e1, _⟩ := hok b _ z
            obtain ⟨e2, _⟩ := hok' b _ z2
            rw [e] at e1; cases e1
            exact e2
  cases hk : K.lookup a with
  | some o =>
    -- the script is one of the module's own objects
    have e := KX a o hk
    rw [ha] at e
    cases e
    refine core (fun _ => none) (fun _ => .inl rfl) (.inr ⟨_, vs.toArray, _, hk, rfl, rfl, rfl, by rw [List.size_toArray, lenV]; exact hl, by simpa using rv⟩) (fun b u z => by have z' : (none : Option HO) = some u := z; cases z') (fun b z => absurd rfl z) fun z => absurd rfl z
  | none =>
    refine core (fun b => if b = a then some (.frz { cls := .type "list", data := .seq vs.toArray } (.lst (ns.map V.int))) else none) (fun b => ?_) (.inl (.inr ⟨{ cls := .type "list", data := .seq vs.toArray }, if_pos rfl⟩)) (fun b u z => ?_) (fun b z => ?_) fun _ => hk
    · by_cases hb : b = a
      · exact .inr ⟨_, _, if_pos hb⟩
      · exact .inl (if_neg hb)
    · by_cases hb : b = a
      · have z' := (if_pos hb).symm.trans z
        cases z'
        subst hb
        exact ⟨ha, by rw [List.length_map]; exact hl, vs, _, rv, ha⟩
      · have z' := (if_neg hb).symm.trans z
        cases z'
    · by_cases hb : b = a
      · exact hb
      · exact absurd (if_neg hb) z
end L2

namespace L2
open PySem PySem.Spec PyProof.Rows

abbrev KOf {K : PySem.W.Frag} {h : Heap} (_ : K.In h) : PySem.W.Frag := K

/-- the goal that k_head leaves (case hc), from the law's promise. F gives the function object fd (K's own) once, then the promise over every base -/
theorem walk_of {l : PySem.W.OpenLaw} {n k : Nat} {q : Program} {loose : List Str} {XP : (Str → Option Value) → Heap → Prop} {YP : World → Heap → Prop} {d : DefRec} {K : Params → PySem.W.Frag} {CX : World → CXT} {sp : World → Sp} {x : Str}
    (hn : l.most = some n) (hn2 : n ≤ sizeLine) (hdf : d.params.defaults = []) (hr : Room k callerA)
    (hY : ∀ (w : World) (h : Heap), YP w h → (K w.params).In h)
    (F : ∀ (w : World) (mg : Str → Option Value) (fa : Addr) (h : Heap), (K w.params).In h → h.Ns mainGlobals mg → mg d.name = some (.ref fa) →
      ∃ fd : FuncData, (∀ (s : Shared) (u : Value), BindsTo s fd ⟨[u], []⟩ [(x, u)]) ∧
        ∀ base : Heap, (K w.params).In base → base.Ns mainGlobals mg → FnOk l.prog w (K w.params) mg base (CX w) k fa fd [x] (sp w))
    (hsp : ∀ (w : World) (H : Hp) (a : Addr) (ns : List Int), ns.length ≤ n → Only H → SqL (K w.params) H a (ns.map V.int) → sp w [.ref a] H (fun v _ => v = .bl true) fun _ _ _ => False)
    (hCX : ∀ (w : World) (H : Hp) (s : Shared) (e : Value) (s' : Shared), CX w [] H s (fun _ _ _ => False) e s' → False) :
    PySem.W.WalkO q loose XP YP l.row.toRowW d [] (fun f vs => PySem.call f vs) := by
  refine Att.attach_call hn hdf fun w s₀ s₁ mg mb fa o pm cd doc a vs ns G Y ho hd hcd hmg hobj hints hlen hg => ?_
  have KX := hY w _ Y
  obtain ⟨fd, hb, hF⟩ := F w mg fa _ KX G.T.g hmg
  exact law_call KX G.T.g G.T.b G.T.builtins G.T.nolimit hg hobj hints (Nat.le_trans hlen hn2) hr hF hb (fun H hO hS => hsp w H a ns hlen hO hS) fun H e s' => hCX w H s₁ e s'
/-- the same where the promise hangs on the written part alone: (sp := My.sp_law), no hole under a binder -/
theorem walk_ofK {l : PySem.W.OpenLaw} {n k : Nat} {q : Program} {loose : List Str} {XP : (Str → Option Value) → Heap → Prop} {YP : World → Heap → Prop} {d : DefRec} {K : Params → PySem.W.Frag} {CX : CXT} {sp : PySem.W.Frag → Sp} {x : Str}
    (hn : l.most = some n) (hn2 : n ≤ sizeLine) (hdf : d.params.defaults = []) (hr : Room k callerA)
    (hY : ∀ (w : World) (h : Heap), YP w h → (K w.params).In h)
    (F : ∀ (w : World) (mg : Str → Option Value) (fa : Addr) (h : Heap), (K w.params).In h → h.Ns mainGlobals mg → mg d.name = some (.ref fa) →
      ∃ fd : FuncData, (∀ (s : Shared) (u : Value), BindsTo s fd ⟨[u], []⟩ [(x, u)]) ∧
        ∀ base : Heap, (K w.params).In base → base.Ns mainGlobals mg → FnOk l.prog w (K w.params) mg base CX k fa fd [x] (sp (K w.params)))
    (hsp : ∀ (K : PySem.W.Frag) (H : Hp) (a : Addr) (ns : List Int), ns.length ≤ n → Only H → SqL K H a (ns.map V.int) → sp K [.ref a] H (fun v _ => v = .bl true) fun _ _ _ => False)
    (hCX : ∀ (H : Hp) (s : Shared) (e : Value) (s' : Shared), CX [] H s (fun _ _ _ => False) e s' → False) :
    PySem.W.WalkO q loose XP YP l.row.toRowW d [] (fun f vs => PySem.call f vs) :=
  walk_of (K := K) (CX := fun _ => CX) (sp := fun w => sp (K w.params)) hn hn2 hdf hr hY F (fun w H a ns h1 h2 h3 => hsp (K w.params) H a ns h1 h2 h3) fun _ H s e s' => hCX H s e s'
end L2

/- THE LAST THEOREM (shape; LID, My.* are yours):
   My.Adr: a structure of the addresses that your layer names (classes, functions); My.Txt K t: a structure (Prop) of the equations over K;
   My.txt_mk : {K} {implicit addresses ..} (e1 : nsIn K mainGlobals "law" = some (some (.ref f))) (e2 : K.lookup f = some ⟨oc, od, .func (fnOf "law" "law" params body scope dV kV doc pm an cdv ct), sl⟩) (e3 : codeIn K cdv "law" = true) .. : ∃ t, My.Txt K t

set_option maxHeartbeats 0 in
theorem PySem.Challenge.cw_LID_holds : PySem.Challenge.rw_LID.Holds := by
  w_on; o_law; k_head; (case hw => w_witness2)
  k_fill
  refine L2.walk_of (l := PySem.Challenge.rw_LID) (n := 63) (k := 40) (x := "script") (CX := fun w => ..) (sp := fun _ => My.sp_law) rfl (by decide) rfl ⟨rfl, by decide, by decide⟩ (fun w h Y => PySem.W.kIn_of Y) ?F ?S ?C
  case F =>
    intro w mg fa h KX G hmg
    have T : ∃ t, My.Txt (L2.KOf KX) t := by
      dsimp only [L2.KOf]                          -- K must stand as «<heap const> w.params» for k_is
      refine' My.txt_mk ?e1 ?e2 ?e3 ..
      (case e1 => PySem.W.k_is)                    -- in the order: a name -> its address -> its object -> its parts
      (case e2 => PySem.W.k_is)
      ..
    obtain ⟨t, T⟩ := T
    have e0 := hmg.symm.trans (PySem.W.mg_of KX G T.law)
    cases e0                                       -- fa is the law's own address
    exact ⟨_, fun s u => .of_eq rfl, fun base kb nb => My.law_fn T kb nb⟩     -- if «.of_eq rfl» comes too early: refine' ⟨_, ?b, fun base kb nb => My.law_fn T kb nb⟩; exact fun s u => .of_eq rfl
  case S => exact fun w H a ns hl hO hS => ..
  case C => exact ..
(the tactic k_is has no namespace: write k_is) -/

/-! SHORT WORDS over the layer: a def of the text, its body, what a loop and a test want. -/
namespace L2
open PySem PySem.Spec PyProof.Rows

/-! ### the text by places -/
/-- the j-th statement of a class's body -/
def inClass (s : Stmt) (j : Nat) : Stmt := match s with
  | .ClassDef _ _ _ body _ _ _ _ _ _ _ => body.getD j (.Pass ⟨0, 0, 0, 0⟩)
  | _ => .Pass ⟨0, 0, 0, 0⟩
def defArgs (s : Stmt) : Arguments := match s with
  | .FunctionDef _ a _ _ _ _ _ _ _ _ => a
  | _ => { posonlyargs := [], args := [], vararg := none, kwonlyargs := [], kw_defaults := [], kwarg := none, defaults := [] }
def defBody (s : Stmt) : List Stmt := match s with
  | .FunctionDef _ _ b _ _ _ _ _ _ _ => b
  | _ => []
def defScope (s : Stmt) : Scope := match s with
  | .FunctionDef _ _ _ _ _ _ sc _ _ _ => sc
  | _ => { kind := .function, names := [], isGenerator := false, isCoroutine := false }

/-! ### no exception leaves a def -/
abbrev CX0 : CXT := fun _ _ _ _ _ _ => False
abbrev E0 : XK := fun _ _ _ => False
theorem pass0 {X : Cx} : Passes CX0 X E0 := fun _ _ _ _ _ _ _ h => h.elim

/-! ### a def (or method) of the text as it stands behind the top -/
structure Fun (K : PySem.W.Frag) (x qual : Str) (st : Stmt) (f : Addr) (fd : FuncData) : Prop where
  ex : ∃ (oc : Value) (od : Option Addr) (kV doc pm : Value) (an : Option Addr) (cdv ct : Value) (osl : Array (Option Value)),
    fd = PySem.W.fnOf x qual (defArgs st) (defBody st) (defScope st) .none kV doc pm an cdv ct ∧ K.lookup f = some ⟨oc, od, .func fd, osl⟩ ∧ PySem.W.codeIn K cdv qual = true
  kp : PySem.W.keepIn K (.ref f) = true
section
variable {P : Program} {w : World} {K : PySem.W.Frag} {mg : Str → Option Value} {base : Heap}
/-- THE RULE for a def: its body as a term of rules, and the reading of that term -/
theorem Fun.ok {x qual : Str} {st : Stmt} {f : Addr} {fd : FuncData} {N ps : List Str} {k : Nat} {sp : Sp} (F : Fun K x qual st f fd) (S : FnScope N ps (defScope st)) (len : ∀ vs H Q E, sp vs H Q E → vs.length = ps.length)
    (hbody : ∀ (cdv : Value) (A : Around) (outer : List Env) (s : Shared) (H : Hp) (vs : List V) (Q : VK) (E : XK), Room k (A.deeper (envOfC qual (defScope st) s.heap.objs.size f cdv)) → sp vs H Q E →
      ∃ t, PSs (cxOf CX0 P w K mg base N qual (defScope st) f cdv A outer s H E).nox (defBody st) t ∧ t { nx := fun _ H' => Q .non H', rt := Q } (start N vs) H) : FnOk P w K mg base CX0 (k + 1) f fd ps sp := by
  obtain ⟨oc, od, kV, doc, pm, an, cdv, ct, osl, rfl, lk, hcd⟩ := F.ex
  refine fn_of lk hcd S len fun A outer s H vs Q E hr hsp => ?_
  obtain ⟨t, h, q⟩ := hbody cdv A outer s H vs Q E hr hsp
  exact ⟨t, h.nox, q⟩
/-- how its arguments bind (no defaults): h is «fun _ _ _ _ _ _ us hl => match us, hl with | [_, _], _ => rfl», one _ a parameter -/
theorem Fun.binds {x qual : Str} {st : Stmt} {f : Addr} {fd : FuncData} {ps : List Str} (F : Fun K x qual st f fd)
    (h : ∀ (kV doc pm : Value) (an : Option Addr) (cdv ct : Value) (us : List Value), us.length = ps.length → bindArgs (PySem.W.fnOf x qual (defArgs st) (defBody st) (defScope st) .none kV doc pm an cdv ct) ⟨us, []⟩ = pure (ps.zip us)) : Binds K fd ps [] := by
  obtain ⟨oc, od, kV, doc, pm, an, cdv, ct, osl, rfl, lk, hcd⟩ := F.ex
  exact .all (h kV doc pm an cdv ct)
theorem fun_mk {x qual : Str} {st : Stmt} {f : Addr} {oc : Value} {od an : Option Addr} {osl : Array (Option Value)} {kV doc pm cdv ct : Value} (l : K.lookup f = some ⟨oc, od, .func (PySem.W.fnOf x qual (defArgs st) (defBody st) (defScope st) .none kV doc pm an cdv ct), osl⟩)
    (c : PySem.W.codeIn K cdv qual = true) (k : PySem.W.keepIn K (.ref f) = true) : Fun K x qual st f (PySem.W.fnOf x qual (defArgs st) (defBody st) (defScope st) .none kV doc pm an cdv ct) := ⟨⟨oc, od, kV, doc, pm, an, cdv, ct, osl, rfl, l, c⟩, k⟩
end
theorem hu_of {A : Around} {k : Nat} (hr : Room k A) : A.units + 1 < cLine := Nat.lt_of_le_of_lt (Nat.add_le_add_left (by decide : 1 ≤ 64) _) hr.units
theorem small1000 {n : Nat} (h : n ≤ 1000) : n < sizeLine := Nat.lt_of_le_of_lt h (by decide)

/-! ### expressions in short: the name that stands in the i-th slot -/
section
variable {X : Cx}
theorem pv (i : Nat) {x : Str} {pos : Pos} (hN : X.N[i]? = some x := by rfl) (hv : Vis X.env.scope x := by first | exact Or.inl rfl | exact Or.inr (Or.inl rfl) | exact Or.inr (Or.inr rfl)) (hd : (x == ("__debug__" : Str)) = false := by decide)
    (hcd : (x == ("__classdict__" : Str)) = false := by decide) : PE X (.Name x pos) (tVar i) := pe_var hN hv hd hcd
/-- len of a dict -/
theorem call_lenD : CallR X (.builtin "len") (fun xs H Q => ∃ a kvs, xs = [V.ref a] ∧ H a = some (.dK kvs) ∧ Q (.int kvs.length) H) := by
  intro pins s σ H xs us Q I r h
  obtain ⟨a, kvs, rfl, ha, q⟩ := h
  obtain ⟨u, rfl, ru⟩ := vals1 r
  cases ru
  exact d_len I (.inl ha) fun t s' I' => ⟨.int kvs.length, H, I', ⟨t, rfl⟩, q⟩
end

/-! ### tests -/
theorem iteF {A B : Prop} (h : B) : if false = true then A else B := by
  rw [if_neg Bool.false_ne_true]
  exact h
theorem iteT {A B : Prop} (h : A) : if true = true then A else B := by
  rw [if_pos rfl]
  exact h
theorem ite2 {c A B : Prop} [Decidable c] (h1 : c → A) (h2 : ¬ c → B) : if c then A else B := by
  by_cases h : c
  · rw [if_pos h]
    exact h1 h
  · rw [if_neg h]
    exact h2 h
theorem iteNS {c A B : Prop} [Decidable c] (hc : c) (h : B) : if (!decide c) = true then A else B := by
  rw [decide_eq_true hc]
  exact iteF h

/-! ### heaps -/
/-- all that was tracked is as it was -/
def Same (H H' : Hp) : Prop := ∀ b o, H b = some o → H' b = some o
theorem Same.refl (H : Hp) : Same H H := fun _ _ h => h
theorem Same.trans {H H1 H2 : Hp} (a : Same H H1) (b : Same H1 H2) : Same H H2 := fun c o h => b c o (a c o h)
theorem Same.free {H H' : Hp} (e : Same H H') {l : Addr} (h : H' l = Option.none) : H l = Option.none := by
  cases q : H l with
  | none => rfl
  | some o =>
    rw [e l o q] at h
    cases h
theorem Same.seq {K : PySem.W.Frag} {H H' : Hp} {a : Addr} {xs : List V} (e : Same H H') (h : SqL K H a xs) : SqL K H' a xs := by
  rcases h with (h | ⟨o, h⟩) | h
  · exact .inl (.inl (e _ _ h))
  · exact .inl (.inr ⟨o, e _ _ h⟩)
  · exact .inr h

/-! ### a dict's pairs: keys that differ -/
section
variable {κ : Type} [DecidableEq κ]
theorem valV_not {kvs : List (κ × V)} {k : κ} (h : valV kvs k = none) : ¬ k ∈ kvs.map (·.1) := by
  intro m
  obtain ⟨p, hp, e⟩ := List.mem_map.mp m
  have q : (kvs.any fun kv => decide (kv.1 = k)) = true := List.any_eq_true.mpr ⟨p, hp, decide_eq_true e⟩
  rw [valV_any, h] at q
  exact absurd q (by simp)
theorem valV_in {kvs : List (κ × V)} {k : κ} {v : V} (h : valV kvs k = some v) : k ∈ kvs.map (·.1) := by
  have q : (kvs.any fun kv => decide (kv.1 = k)) = true := by
    rw [valV_any, h]
    all_goals rfl
  obtain ⟨p, hp, e⟩ := List.any_eq_true.mp q
  exact List.mem_map.mpr ⟨p, hp, of_decide_eq_true e⟩
theorem nd_snoc : ∀ {l : List κ} {k : κ}, l.Nodup → ¬ k ∈ l → (l ++ [k]).Nodup
  | [], k, _, _ => by simp
  | a :: r, k, h, hk => by
    obtain ⟨h1, h2⟩ := List.nodup_cons.mp h
    show (a :: (r ++ [k])).Nodup
    refine List.nodup_cons.mpr ⟨fun m => ?_, nd_snoc h2 fun m => hk (List.mem_cons.mpr (Or.inr m))⟩
    rcases List.mem_append.mp m with q | q
    · exact h1 q
    · exact hk (List.mem_cons.mpr (Or.inl (List.mem_singleton.mp q).symm))
theorem nd_putK {kvs : List (κ × V)} {k : κ} (v : V) (hn : (kvs.map (·.1)).Nodup) (h : valV kvs k = none) : ((putK kvs k v).map (·.1)).Nodup := by
  rw [putK_new v h, List.map_append]
  exact nd_snoc hn (valV_not h)
theorem dropK_pos {p : κ × V} {r : List (κ × V)} {k : κ} (e : p.1 = k) : dropK (p :: r) k = dropK r k := by
  unfold dropK
  rw [List.filter_cons, if_neg (by simp [e])]
theorem dropK_neg {p : κ × V} {r : List (κ × V)} {k : κ} (e : ¬ p.1 = k) : dropK (p :: r) k = p :: dropK r k := by
  unfold dropK
  rw [List.filter_cons, if_pos (by simp [e])]
theorem dropK_no : ∀ {kvs : List (κ × V)} {k : κ}, ¬ k ∈ kvs.map (·.1) → dropK kvs k = kvs
  | [], _, _ => rfl
  | p :: r, k, h => by
    have h' : ¬ k ∈ r.map (·.1) := fun m => by
      obtain ⟨q, hq, e⟩ := List.mem_map.mp m
      exact h (List.mem_map.mpr ⟨q, List.mem_cons.mpr (Or.inr hq), e⟩)
    rw [dropK_neg fun e => h (List.mem_map.mpr ⟨p, List.mem_cons.mpr (Or.inl rfl), e⟩), dropK_no h']
theorem dropK_mem {kvs : List (κ × V)} {k : κ} {p : κ × V} (h : p ∈ dropK kvs k) : p ∈ kvs := (List.mem_filter.mp h).1
theorem nd_dropK : ∀ {kvs : List (κ × V)} {k : κ}, (kvs.map (·.1)).Nodup → ((dropK kvs k).map (·.1)).Nodup
  | [], _, _ => List.nodup_nil
  | p :: r, k, h => by
    have h : (p.1 :: r.map (·.1)).Nodup := h
    obtain ⟨h1, h2⟩ := List.nodup_cons.mp h
    by_cases e : p.1 = k
    · rw [dropK_pos e]
      exact nd_dropK h2
    · rw [dropK_neg e]
      show (p.1 :: (dropK r k).map (·.1)).Nodup
      refine List.nodup_cons.mpr ⟨fun m => h1 ?_, nd_dropK h2⟩
      obtain ⟨q, hq, eq⟩ := List.mem_map.mp m
      exact List.mem_map.mpr ⟨q, dropK_mem hq, eq⟩
theorem dropK_len : ∀ {kvs : List (κ × V)} {k : κ}, (kvs.map (·.1)).Nodup → k ∈ kvs.map (·.1) → (dropK kvs k).length + 1 = kvs.length
  | [], _, _, m => by simp at m
  | p :: r, k, h, m => by
    have h : (p.1 :: r.map (·.1)).Nodup := h
    have m : k = p.1 ∨ k ∈ r.map (·.1) := List.mem_cons.mp m
    obtain ⟨h1, h2⟩ := List.nodup_cons.mp h
    by_cases e : p.1 = k
    · subst e
      rw [dropK_pos rfl, dropK_no h1]
      all_goals rfl
    · have m' : k ∈ r.map (·.1) := m.resolve_left fun z => e z.symm
      have q := dropK_len h2 m'
      rw [dropK_neg e, List.length_cons, List.length_cons]
      omega
end
/-! ### lists -/
theorem at_of {xs : List V} {z : Int} {j : Nat} {v : V} (e : z = (j : Int)) (h : xs[j]? = some v) : atI xs z = some v := by
  rw [e]
  exact atI_nat h
theorem nd_ix {α : Type} {l : List α} (hN : l.Nodup) {i j : Nat} {x : α} (a : l[i]? = some x) (b : l[j]? = some x) : i = j := by
  obtain ⟨h1, e1⟩ := List.getElem?_eq_some_iff.mp a
  obtain ⟨h2, e2⟩ := List.getElem?_eq_some_iff.mp b
  exact (List.getElem_inj hN).mp (e1.trans e2.symm)
theorem sum_set : ∀ {l : List Int} {j : Nat} {z y : Int}, l[j]? = some z → (l.set j y).sum = l.sum - z + y
  | [], j, z, y, h => by simp at h
  | a :: r, 0, z, y, h => by
    have e : a = z := Option.some.inj h
    subst e
    show (y :: r).sum = (a :: r).sum - a + y
    rw [List.sum_cons, List.sum_cons]
    omega
  | a :: r, j + 1, z, y, h => by
    have ih := sum_set (l := r) (j := j) (z := z) (y := y) h
    show (a :: r.set j y).sum = (a :: r).sum - z + y
    rw [List.sum_cons, List.sum_cons, ih]
    omega
theorem sum_take : ∀ {l : List Int} {i : Nat} {z : Int}, l[i]? = some z → (l.take (i + 1)).sum = (l.take i).sum + z
  | [], i, z, h => by simp at h
  | a :: r, 0, z, h => by
    have e : a = z := Option.some.inj h
    subst e
    show ([a] : List Int).sum = ([] : List Int).sum + a
    rw [List.sum_cons]
    exact Int.add_comm _ _
  | a :: r, i + 1, z, h => by
    have ih := sum_take (l := r) (i := i) (z := z) h
    show (a :: r.take (i + 1)).sum = (a :: r.take i).sum + z
    rw [List.sum_cons, List.sum_cons, ih]
    omega
/-- a new instance and its __init__ leave all that was tracked as it was -/
theorem Same.made {H H1 : Hp} {x dx C : Addr} (nx : H x = Option.none) (nd : H dx = Option.none) (k : ∀ b o, (upd (upd H dx (.own x)) x (.ins C dx [])) b = some o → b ≠ x → H1 b = some o) : Same H H1 := fun b o e =>
  k b o (by rw [upd_ne (ne_of_none e nx), upd_ne (ne_of_none e nd)]; exact e) (ne_of_none e nx)
end L2

namespace Ky
open PySem L2

/-- plain data: what a Python value is worth; h: a list that is written (by its number) -/
inductive D where
  | non | bl (b : Bool) | int (i : Int) | str (x : Str) | tup (xs : List D) | lst (xs : List D) | fn (i : Nat) | h (n : Nat) | scr (xs : List D)
mutual
def decD : (a b : D) → Decidable (a = b)
  | .non, .non => .isTrue rfl
  | .bl a, .bl b => if h : a = b then .isTrue (by rw [h]) else .isFalse (by intro e; injection e with e; exact h e)
  | .int a, .int b => if h : a = b then .isTrue (by rw [h]) else .isFalse (by intro e; injection e with e; exact h e)
  | .str a, .str b => if h : a = b then .isTrue (by rw [h]) else .isFalse (by intro e; injection e with e; exact h e)
  | .tup a, .tup b => match decDs a b with
    | .isTrue h => .isTrue (by rw [h])
    | .isFalse h => .isFalse (by intro e; injection e with e; exact h e)
  | .lst a, .lst b => match decDs a b with
    | .isTrue h => .isTrue (by rw [h])
    | .isFalse h => .isFalse (by intro e; injection e with e; exact h e)
  | .fn a, .fn b => if h : a = b then .isTrue (by rw [h]) else .isFalse (by intro e; injection e with e; exact h e)
  | .h a, .h b => if h : a = b then .isTrue (by rw [h]) else .isFalse (by intro e; injection e with e; exact h e)
  | .scr a, .scr b => match decDs a b with
    | .isTrue h => .isTrue (by rw [h])
    | .isFalse h => .isFalse (by intro e; injection e with e; exact h e)
  | .non, .bl _ => .isFalse (by intro e; cases e)
  | .non, .int _ => .isFalse (by intro e; cases e)
  | .non, .str _ => .isFalse (by intro e; cases e)
  | .non, .tup _ => .isFalse (by intro e; cases e)
  | .non, .lst _ => .isFalse (by intro e; cases e)
  | .non, .fn _ => .isFalse (by intro e; cases e)
  | .non, .h _ => .isFalse (by intro e; cases e)
  | .non, .scr _ => .isFalse (by intro e; cases e)
  | .bl _, .non => .isFalse (by intro e; cases e)
  | .bl _, .int _ => .isFalse (by intro e; cases e)
  | .bl _, .str _ => .isFalse (by intro e; cases e)
  | .bl _, .tup _ => .isFalse (by intro e; cases e)
  | .bl _, .lst _ => .isFalse (by intro e; cases e)
  | .bl _, .fn _ => .isFalse (by intro e; cases e)
  | .bl _, .h _ => .isFalse (by intro e; cases e)
  | .bl _, .scr _ => .isFalse (by intro e; cases e)
  | .int _, .non => .isFalse (by intro e; cases e)
  | .int _, .bl _ => .isFalse (by intro e; cases e)
  | .int _, .str _ => .isFalse (by intro e; cases e)
  | .int _, .tup _ => .isFalse (by intro e; cases e)
  | .int _, .lst _ => .isFalse (by intro e; cases e)
  | .int _, .fn _ => .isFalse (by intro e; cases e)
  | .int _, .h _ => .isFalse (by intro e; cases e)
  | .int _, .scr _ => .isFalse (by intro e; cases e)
  | .str _, .non => .isFalse (by intro e; cases e)
  | .str _, .bl _ => .isFalse (by intro e; cases e)
  | .str _, .int _ => .isFalse (by intro e; cases e)
  | .str _, .tup _ => .isFalse (by intro e; cases e)
  | .str _, .lst _ => .isFalse (by intro e; cases e)
  | .str _, .fn _ => .isFalse (by intro e; cases e)
  | .str _, .h _ => .isFalse (by intro e; cases e)
  | .str _, .scr _ => .isFalse (by intro e; cases e)
  | .tup _, .non => .isFalse (by intro e; cases e)
  | .tup _, .bl _ => .isFalse (by intro e; cases e)
  | .tup _, .int _ => .isFalse (by intro e; cases e)
  | .tup _, .str _ => .isFalse (by intro e; cases e)
  | .tup _, .lst _ => .isFalse (by intro e; cases e)
  | .tup _, .fn _ => .isFalse (by intro e; cases e)
  | .tup _, .h _ => .isFalse (by intro e; cases e)
  | .tup _, .scr _ => .isFalse (by intro e; cases e)
  | .lst _, .non => .isFalse (by intro e; cases e)
  | .lst _, .bl _ => .isFalse (by intro e; cases e)
  | .lst _, .int _ => .isFalse (by intro e; cases e)
  | .lst _, .str _ => .isFalse (by intro e; cases e)
  | .lst _, .tup _ => .isFalse (by intro e; cases e)
  | .lst _, .fn _ => .isFalse (by intro e; cases e)
  | .lst _, .h _ => .isFalse (by intro e; cases e)
  | .lst _, .scr _ => .isFalse (by intro e; cases e)
  | .fn _, .non => .isFalse (by intro e; cases e)
  | .fn _, .bl _ => .isFalse (by intro e; cases e)
  | .fn _, .int _ => .isFalse (by intro e; cases e)
  | .fn _, .str _ => .isFalse (by intro e; cases e)
  | .fn _, .tup _ => .isFalse (by intro e; cases e)
  | .fn _, .lst _ => .isFalse (by intro e; cases e)
  | .fn _, .h _ => .isFalse (by intro e; cases e)
  | .fn _, .scr _ => .isFalse (by intro e; cases e)
  | .h _, .non => .isFalse (by intro e; cases e)
  | .h _, .bl _ => .isFalse (by intro e; cases e)
  | .h _, .int _ => .isFalse (by intro e; cases e)
  | .h _, .str _ => .isFalse (by intro e; cases e)
  | .h _, .tup _ => .isFalse (by intro e; cases e)
  | .h _, .lst _ => .isFalse (by intro e; cases e)
  | .h _, .fn _ => .isFalse (by intro e; cases e)
  | .h _, .scr _ => .isFalse (by intro e; cases e)
  | .scr _, .non => .isFalse (by intro e; cases e)
  | .scr _, .bl _ => .isFalse (by intro e; cases e)
  | .scr _, .int _ => .isFalse (by intro e; cases e)
  | .scr _, .str _ => .isFalse (by intro e; cases e)
  | .scr _, .tup _ => .isFalse (by intro e; cases e)
  | .scr _, .lst _ => .isFalse (by intro e; cases e)
  | .scr _, .fn _ => .isFalse (by intro e; cases e)
  | .scr _, .h _ => .isFalse (by intro e; cases e)
def decDs : (a b : List D) → Decidable (a = b)
  | [], [] => .isTrue rfl
  | [], _ :: _ => .isFalse (by intro e; cases e)
  | _ :: _, [] => .isFalse (by intro e; cases e)
  | x :: xs, y :: ys => match decD x y, decDs xs ys with
    | .isTrue h, .isTrue h2 => .isTrue (by rw [h, h2])
    | .isFalse h, _ => .isFalse (by intro e; injection e with e _; exact h e)
    | _, .isFalse h => .isFalse (by intro e; injection e with _ e; exact h e)
end
instance : DecidableEq D := decD
inductive MO where
  | ml (xs : List D)
  deriving DecidableEq
abbrev M := List MO
abbrev Env := List (Option D)

/-- what is fixed: the written part of the heap, the addresses of the defs -/
structure G where
  K : PySem.W.Frag
  fa : Nat → Option Addr
/-- a list that is known to its object: the script, a module's -/
def SqZ (K : PySem.W.Frag) (H : Hp) (a : Addr) (xs : List V) : Prop :=
  (∃ o, H a = some (.frz o (.lst xs))) ∨
    ∃ (o : Obj) (its : Array Value) (n : Nat), K.lookup a = some o ∧ o.cls = .type "list" ∧ o.dict = none ∧ o.data = .seq its n ∧ its.size ≤ sizeLine ∧ Vals xs its.toList
theorem SqZ.sq {K : PySem.W.Frag} {H : Hp} {a : Addr} {xs : List V} (h : SqZ K H a xs) : SqL K H a xs := by
  rcases h with h | h
  · exact .inl (.inr h)
  · exact .inr h
mutual
inductive Rep (g : G) (th om : List Addr) (H : Hp) : V → D → Prop
  | non : Rep g th om H .non .non
  | bl (b : Bool) : Rep g th om H (.bl b) (.bl b)
  | int (i : Int) : Rep g th om H (.int i) (.int i)
  | str (x : Str) : Rep g th om H (.str x) (.str x)
  | tup {a : Addr} {xs : List V} {ds : List D} : SqT g.K H a xs → RepA g th om H xs ds → Rep g th om H (.ref a) (.tup ds)
  | lst {a : Addr} {xs : List V} {ds : List D} : H a = some (.lst xs) → a ∉ th → a ∉ om → RepA g th om H xs ds → Rep g th om H (.ref a) (.lst ds)
  | scr {a : Addr} {xs : List V} {ds : List D} : SqZ g.K H a xs → RepA g th om H xs ds → Rep g th om H (.ref a) (.scr ds)
  | fn {i : Nat} {a : Addr} : g.fa i = some a → Rep g th om H (.ref a) (.fn i)
  | h {n : Nat} {a : Addr} : th[n]? = some a → Rep g th om H (.ref a) (.h n)
inductive RepA (g : G) (th om : List Addr) (H : Hp) : List V → List D → Prop
  | nil : RepA g th om H [] []
  | cons {v : V} {vs : List V} {d : D} {ds : List D} : Rep g th om H v d → RepA g th om H vs ds → RepA g th om H (v :: vs) (d :: ds)
end

structure Ext (th om : List Addr) (H : Hp) (th' : List Addr) (H' : Hp) : Prop where
  pre : ∃ t, th' = th ++ t
  tup : ∀ a xs, Rd H a (.tup xs) → Rd H' a (.tup xs)
  lst : ∀ a xs, a ∉ th → a ∉ om → H a = some (.lst xs) → H' a = some (.lst xs) ∧ a ∉ th'
  frz : ∀ a o u, H a = some (.frz o u) → H' a = some (.frz o u)
  own : ∀ a ∈ om, H' a = H a

theorem Ext.refl {th om : List Addr} {H : Hp} : Ext th om H th H := ⟨⟨[], by simp⟩, fun _ _ h => h, fun _ _ h _ r => ⟨r, h⟩, fun _ _ _ h => h, fun _ _ => rfl⟩
theorem Ext.trans {th om th1 th2 : List Addr} {H H1 H2 : Hp} (a : Ext th om H th1 H1) (b : Ext th1 om H1 th2 H2) : Ext th om H th2 H2 := by
  obtain ⟨⟨t1, e1⟩, a2, a3, af, a4⟩ := a
  obtain ⟨⟨t2, e2⟩, b2, b3, bf, b4⟩ := b
  refine ⟨⟨t1 ++ t2, by rw [e2, e1, List.append_assoc]⟩, fun a xs h => b2 a xs (a2 a xs h), fun a xs h1 h2 r => ?_, fun a o u h => bf a o u (af a o u h), fun a h => (b4 a h).trans (a4 a h)⟩
  obtain ⟨r1, n1⟩ := a3 a xs h1 h2 r
  exact b3 a xs n1 h2 r1

section
variable {g : G} {th om th' : List Addr} {H H' : Hp}
mutual
theorem Rep.mono (x : Ext th om H th' H') : ∀ {v : V} {d : D}, Rep g th om H v d → Rep g th' om H' v d
  | _, _, .non => .non
  | _, _, .bl b => .bl b
  | _, _, .int i => .int i
  | _, _, .str s => .str s
  | _, _, .tup h r => .tup (by
      rcases h with h | h
      · exact .inl (x.tup _ _ h)
      · exact .inr h) (RepA.mono x r)
  | _, _, .lst h n1 n2 r => .lst (x.lst _ _ n1 n2 h).1 (x.lst _ _ n1 n2 h).2 n2 (RepA.mono x r)
  | _, _, .scr h r => .scr (by
      rcases h with ⟨o, h⟩ | h
      · exact .inl ⟨o, x.frz _ _ _ h⟩
      · exact .inr h) (RepA.mono x r)
  | _, _, .fn h => .fn h
  | _, _, .h e => .h (by
      obtain ⟨⟨t, rfl⟩, _⟩ := x
      rw [List.getElem?_append_left (List.getElem?_eq_some_iff.mp e).1]
      exact e)
theorem RepA.mono (x : Ext th om H th' H') : ∀ {vs : List V} {ds : List D}, RepA g th om H vs ds → RepA g th' om H' vs ds
  | _, _, .nil => .nil
  | _, _, .cons r t => .cons (Rep.mono x r) (RepA.mono x t)
end
mutual
theorem Rep.less {o : List Addr} (x : ∀ a, a ∈ o → a ∈ om) : ∀ {v : V} {d : D}, Rep g th om H v d → Rep g th o H v d
  | _, _, .non => .non
  | _, _, .bl b => .bl b
  | _, _, .int i => .int i
  | _, _, .str s => .str s
  | _, _, .tup h r => .tup h (RepA.less x r)
  | _, _, .lst h n1 n2 r => .lst h n1 (fun z => n2 (x _ z)) (RepA.less x r)
  | _, _, .scr h r => .scr h (RepA.less x r)
  | _, _, .fn h => .fn h
  | _, _, .h e => .h e
theorem RepA.less {o : List Addr} (x : ∀ a, a ∈ o → a ∈ om) : ∀ {vs : List V} {ds : List D}, RepA g th om H vs ds → RepA g th o H vs ds
  | _, _, .nil => .nil
  | _, _, .cons r t => .cons (Rep.less x r) (RepA.less x t)
end
theorem RepA.length : ∀ {vs : List V} {ds : List D}, RepA g th om H vs ds → vs.length = ds.length
  | _, _, .nil => rfl
  | _, _, .cons _ t => by rw [List.length_cons, List.length_cons, RepA.length t]
theorem RepA.get : ∀ {vs : List V} {ds : List D} {i : Nat} {d : D}, RepA g th om H vs ds → ds[i]? = some d → ∃ v, vs[i]? = some v ∧ Rep g th om H v d
  | _, _, _, _, .nil, e => by simp at e
  | _, _, 0, _, .cons r _, e => by simp at e; subst e; exact ⟨_, rfl, r⟩
  | _, _, i + 1, d, .cons _ t, e => by
    obtain ⟨v, h1, h2⟩ := RepA.get (i := i) (d := d) t (by simpa using e)
    exact ⟨v, by simpa using h1, h2⟩
theorem RepA.get' : ∀ {vs : List V} {ds : List D} {i : Nat} {v : V}, RepA g th om H vs ds → vs[i]? = some v → ∃ d, ds[i]? = some d ∧ Rep g th om H v d
  | _, _, _, _, .nil, e => by simp at e
  | _, _, 0, _, .cons r _, e => by simp at e; subst e; exact ⟨_, rfl, r⟩
  | _, _, i + 1, v, .cons _ t, e => by
    obtain ⟨d, h1, h2⟩ := RepA.get' (i := i) (v := v) t (by simpa using e)
    exact ⟨d, by simpa using h1, h2⟩
theorem RepA.append : ∀ {vs ws : List V} {ds es : List D}, RepA g th om H vs ds → RepA g th om H ws es → RepA g th om H (vs ++ ws) (ds ++ es)
  | _, _, _, _, .nil, s => s
  | _, _, _, _, .cons r t, s => .cons r (RepA.append t s)
theorem RepA.drop : ∀ {vs : List V} {ds : List D} (n : Nat), RepA g th om H vs ds → RepA g th om H (vs.drop n) (ds.drop n)
  | _, _, 0, r => r
  | _, _, _ + 1, .nil => .nil
  | _, _, n + 1, .cons _ t => RepA.drop n t
theorem RepA.take : ∀ {vs : List V} {ds : List D} (n : Nat), RepA g th om H vs ds → RepA g th om H (vs.take n) (ds.take n)
  | _, _, 0, _ => .nil
  | _, _, _ + 1, .nil => .nil
  | _, _, n + 1, .cons r t => .cons r (RepA.take n t)
theorem RepA.ints : ∀ {vs : List V} {ns : List Int}, RepA g th om H vs (ns.map D.int) → vs = ns.map V.int
  | _, [], h => by cases h; rfl
  | _, n :: ns, h => by
    cases h with
    | cons r t => cases r; rw [RepA.ints t]; rfl
theorem RepA.ofInts : ∀ (ns : List Int), RepA g th om H (ns.map V.int) (ns.map D.int)
  | [] => .nil
  | n :: ns => .cons (.int n) (RepA.ofInts ns)
theorem RepA.bls : ∀ {vs : List V} {ns : List Bool}, RepA g th om H vs (ns.map D.bl) → vs = ns.map V.bl
  | _, [], h => by cases h; rfl
  | _, n :: ns, h => by
    cases h with
    | cons r t => cases r; rw [RepA.bls t]; rfl
end

def ObR (g : G) (th om : List Addr) (H : Hp) (a : Addr) : MO → Prop
  | .ml ds => ∃ xs, H a = some (.lst xs) ∧ RepA g th om H xs ds
structure MRep (g : G) (th om : List Addr) (H : Hp) (m : M) : Prop where
  len : th.length = m.length
  nd : th.Nodup
  ob : ∀ (n : Nat) (a : Addr) (o : MO), th[n]? = some a → m[n]? = some o → ObR g th om H a o
  dis : ∀ a ∈ th, a ∉ om
  oms : ∀ a ∈ om, H a ≠ none

section
variable {g : G} {th om : List Addr} {H : Hp} {m : M}
theorem MRep.has (r : MRep g th om H m) {a : Addr} (h : a ∈ th) : ∃ xs, H a = some (.lst xs) := by
  obtain ⟨n, hn, e⟩ := List.mem_iff_getElem.mp h
  have h1 : th[n]? = some a := by rw [List.getElem?_eq_getElem hn, e]
  have h2 : n < m.length := by rw [← r.len]; exact hn
  have := r.ob n a m[n] h1 (List.getElem?_eq_getElem h2)
  cases e2 : m[n] with
  | ml ds => rw [e2] at this; obtain ⟨xs, hx, _⟩ := this; exact ⟨xs, hx⟩
theorem MRep.fresh (r : MRep g th om H m) {p : Addr} (h : H p = none) : p ∉ th ∧ p ∉ om := by
  refine ⟨fun z => ?_, fun z => r.oms p z h⟩
  obtain ⟨xs, e⟩ := r.has z
  rw [h] at e; cases e
theorem Rd.upd {p a : Addr} {o u : HO} (hp : H p = none) (h : Rd H a u) : Rd (upd H p o) a u := by
  have : a ≠ p := by
    rintro rfl
    rcases h with h | ⟨_, h⟩ <;> (rw [hp] at h; cases h)
  rcases h with h | ⟨ob, h⟩
  · exact .inl (by rw [upd_ne this]; exact h)
  · exact .inr ⟨ob, by rw [upd_ne this]; exact h⟩
/-- a new object that is not written -/
theorem Ext.new {p : Addr} {o : HO} (r : MRep g th om H m) (hp : H p = none) : Ext th om H th (upd H p o) := by
  obtain ⟨n1, n2⟩ := r.fresh hp
  exact ⟨⟨[], by simp⟩, fun a xs h => Rd.upd hp h, fun a xs h1 h2 h => ⟨by rw [upd_ne (ne_of_none h hp)]; exact h, h1⟩, fun a o u h => by rw [upd_ne (ne_of_none h hp)]; exact h, fun a h => upd_ne (fun z => n2 (z ▸ h))⟩
theorem MRep.ext' {th' : List Addr} {H' : Hp} (r : MRep g th om H m) (x : Ext th om H th H') (k : ∀ a ∈ th, H' a = H a) : MRep g th om H' m := by
  refine ⟨r.len, r.nd, fun n a o h1 h2 => ?_, r.dis, fun a h => by rw [x.own a h]; exact r.oms a h⟩
  have ha : a ∈ th := List.mem_of_getElem? h1
  cases o with
  | ml ds =>
    obtain ⟨xs, e, q⟩ := r.ob n a _ h1 h2
    exact ⟨xs, by rw [k a ha]; exact e, q.mono x⟩
theorem MRep.new {p : Addr} {o : HO} (r : MRep g th om H m) (hp : H p = none) : MRep g th om (upd H p o) m := by
  obtain ⟨n1, n2⟩ := r.fresh hp
  exact r.ext' (th' := th) (Ext.new r hp) fun a h => upd_ne (fun z => n1 (z ▸ h))
/-- a new list that is written -/
theorem Ext.newM {p : Addr} {o : HO} (r : MRep g th om H m) (hp : H p = none) : Ext th om H (th ++ [p]) (upd H p o) := by
  obtain ⟨n1, n2⟩ := r.fresh hp
  refine ⟨⟨[p], rfl⟩, fun a xs h => Rd.upd hp h, fun a xs h1 h2 h => ⟨by rw [upd_ne (ne_of_none h hp)]; exact h, fun z => ?_⟩, fun a o u h => by rw [upd_ne (ne_of_none h hp)]; exact h, fun a h => upd_ne (fun z => n2 (z ▸ h))⟩
  rcases List.mem_append.mp z with z | z
  · exact h1 z
  · have : a = p := by simpa using z
    subst this
    rw [hp] at h; cases h
theorem MRep.newM {p : Addr} {xs : List V} {ds : List D} (r : MRep g th om H m) (hp : H p = none) (q : RepA g th om H xs ds) : MRep g (th ++ [p]) om (upd H p (.lst xs)) (m ++ [.ml ds]) := by
  obtain ⟨n1, n2⟩ := r.fresh hp
  have x : Ext th om H (th ++ [p]) (upd H p (.lst xs)) := Ext.newM r hp
  refine ⟨by simp [r.len], ?_, fun n a o h1 h2 => ?_, fun a h => ?_, fun a h => by rw [x.own a h]; exact r.oms a h⟩
  · rw [List.nodup_append]
    refine ⟨r.nd, by simp, fun a ha b hb => ?_⟩
    have : b = p := by simpa using hb
    subst this
    rintro rfl
    exact n1 ha
  · by_cases hn : n < th.length
    · rw [List.getElem?_append_left hn] at h1
      rw [List.getElem?_append_left (by rw [← r.len]; exact hn)] at h2
      cases o with
      | ml es =>
        obtain ⟨ys, e, z⟩ := r.ob n a _ h1 h2
        have hne : a ≠ p := fun w => n1 (by rw [← w]; exact List.mem_of_getElem? h1)
        exact ⟨ys, by rw [upd_ne hne]; exact e, z.mono x⟩
    · have e : n = th.length := by
        have := (List.getElem?_eq_some_iff.mp h1).1
        simp at this; omega
      subst e
      rw [List.getElem?_append_right (Nat.le_refl _)] at h1
      rw [List.getElem?_append_right (by rw [r.len]; exact Nat.le_refl _)] at h2
      simp at h1
      have e2 : o = .ml ds := by
        simp [r.len] at h2; exact h2.symm
      subst h1 e2
      exact ⟨xs, upd_same, q.mono x⟩
  · rcases List.mem_append.mp h with z | z
    · exact r.dis a z
    · have : a = p := by simpa using z
      subst this; exact n2
/-- a list is written -/
theorem Ext.write {n : Nat} {a : Addr} {o : HO} (r : MRep g th om H m) (h : th[n]? = some a) : Ext th om H th (L2.upd H a o) := by
  have ha : a ∈ th := List.mem_of_getElem? h
  obtain ⟨xs, e⟩ := r.has ha
  refine ⟨⟨[], by simp⟩, fun b ys hb => ?_, fun b ys h1 h2 hb => ?_, fun b o u hb => ?_, fun b hb => upd_ne (fun z => r.dis a ha (z ▸ hb))⟩
  · have : b ≠ a := by
      rintro rfl
      rcases hb with z | ⟨_, z⟩ <;> (rw [e] at z; cases z)
    rcases hb with z | ⟨ob, z⟩
    · exact .inl (by rw [upd_ne this]; exact z)
    · exact .inr ⟨ob, by rw [upd_ne this]; exact z⟩
  · have : b ≠ a := fun z => h1 (z ▸ ha)
    exact ⟨by rw [upd_ne this]; exact hb, h1⟩
  · have : b ≠ a := by
      rintro rfl
      rw [e] at hb; cases hb
    rw [upd_ne this]; exact hb
theorem MRep.write {n : Nat} {a : Addr} {ys : List V} {es : List D} (r : MRep g th om H m) (h : th[n]? = some a) (q : RepA g th om H ys es) : MRep g th om (L2.upd H a (.lst ys)) (m.set n (.ml es)) := by
  have x : Ext th om H th (L2.upd H a (.lst ys)) := Ext.write r h
  refine ⟨by simp [r.len], r.nd, fun k b o h1 h2 => ?_, r.dis, fun b hb => by rw [x.own b hb]; exact r.oms b hb⟩
  have hn : n < m.length := by rw [← r.len]; exact (List.getElem?_eq_some_iff.mp h).1
  by_cases hk : k = n
  · subst hk
    rw [h] at h1; cases h1
    rw [List.getElem?_set_self hn] at h2; cases h2
    exact ⟨ys, upd_same, q.mono x⟩
  · rw [List.getElem?_set_ne (Ne.symm hk)] at h2
    have hb : b ≠ a := by
      rintro rfl
      exact hk (nodup_ix' r.nd h1 h)
    cases o with
    | ml ds =>
      obtain ⟨xs, e, z⟩ := r.ob k b _ h1 h2
      exact ⟨xs, by rw [upd_ne hb]; exact e, z.mono x⟩
where
  nodup_ix' {N : List Addr} (hN : N.Nodup) {i j : Nat} {x : Addr} (a : N[i]? = some x) (b : N[j]? = some x) : i = j := by
    obtain ⟨h1, e1⟩ := List.getElem?_eq_some_iff.mp a
    obtain ⟨h2, e2⟩ := List.getElem?_eq_some_iff.mp b
    exact (List.getElem_inj hN).mp (e1.trans e2.symm)
end

/-- the names' values -/
structure EnvR (g : G) (th om : List Addr) (H : Hp) (σ : St) (ρ : Env) : Prop where
  len : σ.length = ρ.length
  at_ : ∀ (i : Nat) (d : D), ρ[i]? = some (some d) → ∃ v, σ[i]? = some (some v) ∧ Rep g th om H v d
section
variable {g : G} {th om th' : List Addr} {H H' : Hp} {σ : St} {ρ : Env}
theorem EnvR.mono (e : EnvR g th om H σ ρ) (x : Ext th om H th' H') : EnvR g th' om H' σ ρ := ⟨e.len, fun i d h => let ⟨v, h1, h2⟩ := e.at_ i d h; ⟨v, h1, h2.mono x⟩⟩
theorem EnvR.set (e : EnvR g th om H σ ρ) {v : V} {d : D} (r : Rep g th om H v d) (i : Nat) : EnvR g th om H (σ.set i (some v)) (ρ.set i (some d)) := by
  refine ⟨by simp [e.len], fun j d' h => ?_⟩
  by_cases hj : j = i
  · subst hj
    by_cases hl : j < ρ.length
    · rw [List.getElem?_set_self hl] at h
      cases h
      exact ⟨v, List.getElem?_set_self (by rw [e.len]; exact hl), r⟩
    · rw [List.getElem?_eq_none (by simpa using hl)] at h; cases h
  · rw [List.getElem?_set_ne (Ne.symm hj)] at h
    obtain ⟨w, h1, h2⟩ := e.at_ j d' h
    exact ⟨w, by rw [List.getElem?_set_ne (Ne.symm hj)]; exact h1, h2⟩
end
def wipeD (ρ : Env) : List Nat → Env
  | [] => ρ
  | v :: vs => (wipeD ρ vs).set v none
theorem EnvR.wipe {g : G} {th om : List Addr} {H : Hp} {σ : St} {ρ : Env} (e : EnvR g th om H σ ρ) : ∀ vs : List Nat, EnvR g th om H (L2.wipe σ vs) (wipeD ρ vs)
  | [] => e
  | v :: vs => by
    have ih := EnvR.wipe e vs
    unfold L2.wipe wipeD
    refine ⟨by simp [ih.len], fun j d h => ?_⟩
    by_cases hj : j = v
    · subst hj
      by_cases hl : j < (wipeD ρ vs).length
      · rw [List.getElem?_set_self hl] at h; cases h
      · rw [List.getElem?_eq_none (by simpa using hl)] at h; cases h
    · rw [List.getElem?_set_ne (Ne.symm hj)] at h
      obtain ⟨w, h1, h2⟩ := ih.at_ j d h
      exact ⟨w, by rw [List.getElem?_set_ne (Ne.symm hj)]; exact h1, h2⟩
/-- what is wanted behind an expression whose worth is d -/
def Aft (g : G) (th om : List Addr) (H : Hp) (m' : M) (d : D) (Q : VK) : Prop := ∀ v th' H', Ext th om H th' H' → MRep g th' om H' m' → Rep g th' om H' v d → Q v H'
end Ky

namespace Ky
open PySem L2

inductive Ty where | int | bool | str | tuple | list
inductive U where
  | neg | isN | notN | isI (t : Ty) | len | abs | tuple | list | all | any | sum | lrng | sorted | tab (t : List (Str × Nat)) | inTab (t : List (Str × Nat)) | notTab (t : List (Str × Nat))
inductive B where
  | add | sub | mul | fdiv | mod | eq | ne | lt | gt | le | ge | isin | notin | ix | max | min | append | index
inductive Tg where | name (i : Nat) | tup (is : List Nat)
mutual
inductive E where
  | var (i : Nat) | cst (d : D) | op1 (o : U) (a : E) | op2 (o : B) (a b : E) | chain (o o' : B) (a b c : E)
  | andV (a b : E) | orV (a b : E) | notV (a : E) | ite (t : T) (a b : E) | tup (es : Es) | lst (es : Es) | newl
  | callF (f : Nat) (es : Es) | callV (i : Nat) (es : Es)
  | lc (own : List Nat) (it : I) (tg : Tg) (t : T) (elt : E)
  | lc3 (own : List Nat) (i0 : I) (v0 : Nat) (i1 : I) (v1 : Nat) (i2 : I) (v2 : Nat) (elt : E)
inductive T where
  | yes | val (e : E) | and_ (a b : T) | or_ (a b : T) | not_ (a : T)
inductive I where
  | val (e : E) | rng (a : E) | rng2 (a b : E) | zip (a b : E) | enum (a : E)
inductive Es where
  | nil | cons (e : E) (r : Es)
end
mutual
inductive S where
  | set (i : Nat) (e : E) | par (i j : Nat) (a b : E) | unp (is : List Nat) (e : E) | expr (e : E) | ret (e : E) | retN | ife (t : T) (a b : Ss) | for_ (it : I) (tg : Tg) (b : Ss) | pass | brk | cnt
inductive Ss where
  | nil | cons (s : S) (r : Ss)
end

/-! ### values -/
abbrev R (α : Type) := Option (α × M)
def bnd {α β : Type} (r : R α) (f : α → M → Option β) : Option β := match r with
  | some (a, m) => f a m
  | none => none
theorem bnd_mk {α β : Type} (a : α) (m : M) (f : α → M → Option β) : bnd (some (a, m)) f = f a m := rfl
theorem bnd_inv {α β : Type} {r : R α} {f : α → M → Option β} {z : β} (h : bnd r f = some z) : ∃ a m, r = some (a, m) ∧ f a m = some z := by
  cases r with
  | none => cases h
  | some p => obtain ⟨a, m⟩ := p; exact ⟨a, m, rfl, h⟩
abbrev big : Nat := 16777216
def seqOf (m : M) : D → Option (List D)
  | .tup xs => some xs
  | .lst xs => some xs
  | .scr xs => some xs
  | .h n => match m[n]? with
    | some (.ml xs) => some xs
    | none => none
  | _ => none
def truD (m : M) : D → Option Bool
  | .non => some false
  | .bl b => some b
  | .int i => some (i != 0)
  | .tup xs => some (!xs.isEmpty)
  | .lst xs => some (!xs.isEmpty)
  | .scr xs => some (!xs.isEmpty)
  | .h n => match m[n]? with
    | some (.ml xs) => some (!xs.isEmpty)
    | none => none
  | _ => none
def intsD : List D → Option (List Int)
  | [] => some []
  | .int i :: r => (intsD r).map (i :: ·)
  | _ :: _ => none
def blsD : List D → Option (List Bool)
  | [] => some []
  | .bl i :: r => (blsD r).map (i :: ·)
  | _ :: _ => none
/-- ==, of plain things -/
def eqD : D → D → Option Bool
  | .int i, .int j => some (decide (i = j))
  | .str i, .str j => some (decide (i = j))
  | .bl i, .bl j => some (decide (i = j))
  | .non, .non => some true
  | .int _, .str _ => some false
  | .str _, .int _ => some false
  | .non, .int _ => some false
  | .int _, .non => some false
  | .non, .str _ => some false
  | .str _, .non => some false
  | .bl _, .str _ => some false
  | .str _, .bl _ => some false
  | .non, .bl _ => some false
  | .bl _, .non => some false
  | _, _ => none
/-- x in xs: ints alone -/
def inI (x : Int) (xs : List Int) : Bool := xs.any fun y => y == x
def mulOk (i j : Int) : Bool := (decide (-(2 ^ 64) < i) && decide (i < 2 ^ 64)) || (decide (-(2 ^ 64) < j) && decide (j < 2 ^ 64))
def idxI (x : Int) : List Int → Option Nat
  | [] => none
  | y :: r => if y == x then some 0 else (idxI x r).map (· + 1)
def isTy : Ty → D → M → Option Bool
  | .int, .int _, _ => some true
  | .int, .bl _, _ => some true
  | .bool, .bl _, _ => some true
  | .str, .str _, _ => some true
  | .tuple, .tup _, _ => some true
  | .list, .lst _, _ => some true
  | .list, .h _, _ => some true
  | _, .scr _, _ => none
  | _, .fn _, _ => none
  | _, _, _ => some false
def insI (x : Int) : List Int → List Int
  | [] => [x]
  | y :: r => if x < y then x :: y :: r else y :: insI x r
/-- sorted, of ints -/
def sortI : List Int → List Int
  | [] => []
  | x :: r => insI x (sortI r)
def u1 : U → D → M → R D
  | .neg, .int i, m => some (.int (-i), m)
  | .isN, .non, m => some (.bl true, m)
  | .isN, .fn _, m => some (.bl false, m)
  | .isN, _, m => some (.bl false, m)
  | .notN, .non, m => some (.bl false, m)
  | .notN, _, m => some (.bl true, m)
  | .isI t, d, m => (isTy t d m).map fun b => (.bl b, m)
  | .len, d, m => (seqOf m d).map fun xs => (.int xs.length, m)
  | .abs, .int i, m => some (.int (if i < 0 then -i else i), m)
  | .tuple, d, m => (seqOf m d).map fun xs => (.tup xs, m)
  | .list, d, m => (seqOf m d).map fun xs => (.lst xs, m)
  | .all, .lst xs, m => (blsD xs).map fun bs => (.bl (bs.all id), m)
  | .any, .lst xs, m => (blsD xs).map fun bs => (.bl (bs.any id), m)
  | .sum, .lst xs, m => (intsD xs).map fun bs => (.int bs.sum, m)
  | .lrng, .int n, m => if 0 ≤ n ∧ n ≤ 1000 then some (.lst ((List.range n.toNat).map fun k => .int (k : Nat)), m) else none
  | .sorted, .tup xs, m => (intsD xs).bind fun ns => if ns.length < 64 then some (.lst ((sortI ns).map D.int), m) else none
  | .tab t, .str x, m => (t.lookup x).map fun i => (.fn i, m)
  | .inTab t, .str x, m => some (.bl (t.lookup x).isSome, m)
  | .notTab t, .str x, m => some (.bl (!(t.lookup x).isSome), m)
  | _, _, _ => none
def b2 : B → D → D → M → R D
  | .add, .int i, .int j, m => some (.int (i + j), m)
  | .add, .tup xs, .tup ys, m => if xs.length + ys.length ≤ big then some (.tup (xs ++ ys), m) else none
  | .add, .lst xs, .lst ys, m => if xs.length + ys.length ≤ big then some (.lst (xs ++ ys), m) else none
  | .sub, .int i, .int j, m => some (.int (i - j), m)
  | .mul, .int i, .int j, m => if mulOk i j then some (.int (i * j), m) else none
  | .fdiv, .int i, .int j, m => if 0 < j ∧ j < 1073741824 then some (.int (i / j), m) else none
  | .mod, .int i, .int j, m => if 0 < j then some (.int (i % j), m) else none
  | .eq, x, y, m => (eqD x y).map fun b => (.bl b, m)
  | .ne, x, y, m => (eqD x y).map fun b => (.bl (!b), m)
  | .lt, .int i, .int j, m => some (.bl (decide (i < j)), m)
  | .le, .int i, .int j, m => some (.bl (decide (i ≤ j)), m)
  | .gt, .int i, .int j, m => some (.bl (decide (j < i)), m)
  | .ge, .int i, .int j, m => some (.bl (decide (j ≤ i)), m)
  | .lt, .tup xs, .tup ys, m => (intsD xs).bind fun a => (intsD ys).bind fun b => some (.bl (HT.lexLt a b), m)
  | .gt, .tup xs, .tup ys, m => (intsD xs).bind fun a => (intsD ys).bind fun b => some (.bl (HT.lexLt b a), m)
  | .isin, .int i, .tup xs, m => (intsD xs).map fun a => (.bl (inI i a), m)
  | .notin, .int i, .tup xs, m => (intsD xs).map fun a => (.bl (!inI i a), m)
  | .ix, d, .int i, m => (seqOf m d).bind fun xs => (atI xs i).map fun d => (d, m)
  | .max, .int i, .int j, m => some (.int (if j > i then j else i), m)
  | .min, .int i, .int j, m => some (.int (if j < i then j else i), m)
  | .append, .h n, d, m => match m[n]? with
    | some (.ml xs) => if xs.length < big then some (.non, m.set n (.ml (xs ++ [d]))) else none
    | none => none
  | .index, .tup xs, .int i, m => (intsD xs).bind fun a => (idxI i a).map fun k => (.int (k : Nat), m)
  | .index, .lst xs, .int i, m => (intsD xs).bind fun a => (idxI i a).map fun k => (.int (k : Nat), m)
  | _, _, _, _ => none

def st : Tg → D → Env → Option Env
  | .name i, d, ρ => some (ρ.set i (some d))
  | .tup is, .tup xs, ρ => if xs.length = is.length then some ((is.zip xs).foldl (fun ρ p => ρ.set p.1 (some p.2)) ρ) else none
  | .tup _, _, _ => none
/-- what is walked: its items, and the written list that they lie in -/
structure Src where
  its : List D
  hd : Option Nat
def Src.ok (s : Src) (m : M) : Bool := match s.hd with
  | none => true
  | some n => decide (m[n]? = some (.ml s.its))
inductive Fl where | nx | rt (d : D) | bk | ct
def compL (test : Env → M → R Bool) (elt : Env → M → R D) (tg : Tg) (ρ : Env) (s : Src) : List D → M → List D → R D
  | [], m, acc => if s.ok m then some (.lst acc, m) else none
  | x :: xs, m, acc => if s.ok m then (st tg x ρ).bind fun ρ1 => bnd (test ρ1 m) fun b m => if b then bnd (elt ρ1 m) fun d m => if acc.length < big then compL test elt tg ρ s xs m (acc ++ [d]) else none else compL test elt tg ρ s xs m acc else none
def loopF (body : Env → M → Option (Fl × Env × M)) (tg : Tg) (s : Src) : List D → Env → M → Option (Fl × Env × M)
  | [], ρ, m => if s.ok m then some (.nx, ρ, m) else none
  | x :: xs, ρ, m => if s.ok m then (st tg x ρ).bind fun ρ1 => match body ρ1 m with
      | some (.nx, ρ2, m2) => loopF body tg s xs ρ2 m2
      | some (.ct, ρ2, m2) => loopF body tg s xs ρ2 m2
      | some (.bk, ρ2, m2) => some (.nx, ρ2, m2)
      | some (.rt d, ρ2, m2) => some (.rt d, ρ2, m2)
      | none => none
    else none
/-- a clause of a comprehension: each item in turn, the list so far handed on -/
def foldC (s : Src) (step : D → M → List D → Option (List D × M)) : List D → M → List D → Option (List D × M)
  | [], m, acc => if s.ok m then some (acc, m) else none
  | x :: xs, m, acc => if s.ok m then bnd (step x m acc) fun acc m => foldC s step xs m acc else none
abbrev Cal := Nat → List D → M → R D
def pairsD : List D → List D → List D
  | x :: xs, y :: ys => .tup [x, y] :: pairsD xs ys
  | _, _ => []
def enumD (k : Nat) : List D → List D
  | [] => []
  | x :: xs => .tup [.int (k : Nat), x] :: enumD (k + 1) xs
def rngD (lo hi : Int) : List D := (List.range (hi - lo).toNat).map fun k => .int (lo + (k : Nat))
def fitR (i : Int) : Bool := decide (-(2 ^ 62) ≤ i) && decide (i < 2 ^ 62)
mutual
def evE (Φ : Cal) : E → Env → M → R D
  | .var i, ρ, m => match ρ[i]? with
    | some (some d) => some (d, m)
    | _ => none
  | .cst d, _, m => some (d, m)
  | .op1 o a, ρ, m => bnd (evE Φ a ρ m) fun x m => u1 o x m
  | .op2 o a b, ρ, m => bnd (evE Φ a ρ m) fun x m => bnd (evE Φ b ρ m) fun y m => b2 o x y m
  | .chain o o' a b c, ρ, m => bnd (evE Φ a ρ m) fun x m => bnd (evE Φ b ρ m) fun y m => bnd (b2 o x y m) fun z m => match z with
    | .bl true => bnd (evE Φ c ρ m) fun w m => b2 o' y w m
    | .bl false => some (.bl false, m)
    | _ => none
  | .andV a b, ρ, m => bnd (evE Φ a ρ m) fun x m => match x with
    | .bl true => evE Φ b ρ m
    | .bl false => some (.bl false, m)
    | _ => none
  | .orV a b, ρ, m => bnd (evE Φ a ρ m) fun x m => match x with
    | .bl true => some (.bl true, m)
    | .bl false => evE Φ b ρ m
    | _ => none
  | .notV a, ρ, m => bnd (evE Φ a ρ m) fun x m => match x with
    | .bl b => some (.bl (!b), m)
    | _ => none
  | .ite t a b, ρ, m => bnd (evT Φ t ρ m) fun c m => if c then evE Φ a ρ m else evE Φ b ρ m
  | .tup es, ρ, m => bnd (evEs Φ es ρ m) fun xs m => if xs.length ≤ big then some (.tup xs, m) else none
  | .lst es, ρ, m => bnd (evEs Φ es ρ m) fun xs m => if xs.length ≤ big then some (.lst xs, m) else none
  | .newl, _, m => some (.h m.length, m ++ [.ml []])
  | .callF f es, ρ, m => bnd (evEs Φ es ρ m) fun xs m => Φ f xs m
  | .callV i es, ρ, m => match ρ[i]? with
    | some (some (.fn f)) => bnd (evEs Φ es ρ m) fun xs m => Φ f xs m
    | _ => none
  | .lc own it tg t elt, ρ, m => bnd (evI Φ it ρ m) fun s m => compL (fun ρ m => evT Φ t ρ m) (fun ρ m => evE Φ elt ρ m) tg (wipeD ρ own) s s.its m []
  | .lc3 own i0 v0 i1 v1 i2 v2 elt, ρ, m => bnd (evI Φ i0 ρ m) fun s0 m => bnd (foldC s0 (fun x m acc =>
      bnd (evI Φ i1 ((wipeD ρ own).set v0 (some x)) m) fun s1 m => foldC s1 (fun y m acc =>
        bnd (evI Φ i2 ((wipeD ((wipeD ρ own).set v0 (some x)) [v1, v2]).set v1 (some y)) m) fun s2 m => foldC s2 (fun z m acc =>
          bnd (evE Φ elt ((wipeD ((wipeD ((wipeD ρ own).set v0 (some x)) [v1, v2]).set v1 (some y)) [v2]).set v2 (some z)) m) fun d m => if acc.length < big then some (acc ++ [d], m) else none) s2.its m acc) s1.its m acc) s0.its m []) fun acc m => some (.lst acc, m)
def evT (Φ : Cal) : T → Env → M → R Bool
  | .yes, _, m => some (true, m)
  | .val e, ρ, m => bnd (evE Φ e ρ m) fun x m => (truD m x).map fun b => (b, m)
  | .and_ a b, ρ, m => bnd (evT Φ a ρ m) fun c m => if c then evT Φ b ρ m else some (false, m)
  | .or_ a b, ρ, m => bnd (evT Φ a ρ m) fun c m => if c then some (true, m) else evT Φ b ρ m
  | .not_ a, ρ, m => bnd (evT Φ a ρ m) fun c m => some (!c, m)
def evI (Φ : Cal) : I → Env → M → R Src
  | .val e, ρ, m => bnd (evE Φ e ρ m) fun x m => match x with
    | .tup xs => some (⟨xs, none⟩, m)
    | .lst xs => some (⟨xs, none⟩, m)
    | .scr xs => some (⟨xs, none⟩, m)
    | .h n => match m[n]? with
      | some (.ml xs) => some (⟨xs, some n⟩, m)
      | none => none
    | _ => none
  | .rng a, ρ, m => bnd (evE Φ a ρ m) fun x m => match x with
    | .int j => if fitR j then some (⟨rngD 0 j, none⟩, m) else none
    | _ => none
  | .rng2 a b, ρ, m => bnd (evE Φ a ρ m) fun x m => bnd (evE Φ b ρ m) fun y m => match x, y with
    | .int i, .int j => if fitR i && fitR j then some (⟨rngD i j, none⟩, m) else none
    | _, _ => none
  | .zip a b, ρ, m => bnd (evE Φ a ρ m) fun x m => bnd (evE Φ b ρ m) fun y m => match x, y with
    | .tup xs, .tup ys => some (⟨pairsD xs ys, none⟩, m)
    | .lst xs, .lst ys => some (⟨pairsD xs ys, none⟩, m)
    | _, _ => none
  | .enum a, ρ, m => bnd (evE Φ a ρ m) fun x m => match x with
    | .lst xs => some (⟨enumD 0 xs, none⟩, m)
    | _ => none
def evEs (Φ : Cal) : Es → Env → M → R (List D)
  | .nil, _, m => some ([], m)
  | .cons e r, ρ, m => bnd (evE Φ e ρ m) fun x m => bnd (evEs Φ r ρ m) fun xs m => some (x :: xs, m)
end
mutual
def evS (Φ : Cal) : S → Env → M → Option (Fl × Env × M)
  | .set i e, ρ, m => bnd (evE Φ e ρ m) fun x m => some (.nx, ρ.set i (some x), m)
  | .par i j a b, ρ, m => bnd (evE Φ a ρ m) fun x m => bnd (evE Φ b ρ m) fun y m => some (.nx, (ρ.set i (some x)).set j (some y), m)
  | .unp is e, ρ, m => bnd (evE Φ e ρ m) fun x m => (st (.tup is) x ρ).map fun ρ1 => (.nx, ρ1, m)
  | .expr e, ρ, m => bnd (evE Φ e ρ m) fun _ m => some (.nx, ρ, m)
  | .ret e, ρ, m => bnd (evE Φ e ρ m) fun x m => some (.rt x, ρ, m)
  | .retN, ρ, m => some (.rt .non, ρ, m)
  | .ife t a b, ρ, m => bnd (evT Φ t ρ m) fun c m => if c then evSs Φ a ρ m else evSs Φ b ρ m
  | .for_ it tg b, ρ, m => bnd (evI Φ it ρ m) fun s m => loopF (fun ρ m => evSs Φ b ρ m) tg s s.its ρ m
  | .pass, ρ, m => some (.nx, ρ, m)
  | .brk, ρ, m => some (.bk, ρ, m)
  | .cnt, ρ, m => some (.ct, ρ, m)
def evSs (Φ : Cal) : Ss → Env → M → Option (Fl × Env × M)
  | .nil, ρ, m => some (.nx, ρ, m)
  | .cons s r, ρ, m => match evS Φ s ρ m with
    | some (.nx, ρ1, m1) => evSs Φ r ρ1 m1
    | some (f, ρ1, m1) => some (f, ρ1, m1)
    | none => none
end
structure Fn where
  np : Nat
  nl : Nat
  body : Ss
def startD (nl : Nat) (ds : List D) : Env := ds.map some ++ List.replicate (nl - ds.length) none
def fin : Option (Fl × Env × M) → R D
  | some (.nx, _, m) => some (.non, m)
  | some (.rt d, _, m) => some (d, m)
  | _ => none
def callN (P : List Fn) : Nat → Cal
  | 0, _, _, _ => none
  | k + 1, f, ds, m => match P[f]? with
    | some F => if ds.length = F.np then fin (evSs (callN P k) F.body (startD F.nl ds) m) else none
    | none => none
end Ky

namespace Ky
open PySem L2

/-! ### the text as a term -/
structure C where
  N : List Str
  sc : Scope
  fnC : Str → Bool
structure GC where
  funs : List Str
  consts : List (Str × D)
  tabs : List (Str × List (Str × Nat))
  blts : List Str
def idxN (x : Str) : List Str → Option Nat
  | [] => none
  | y :: r => if y = x then some 0 else (idxN x r).map (· + 1)
def visB (sc : Scope) (x : Str) : Bool := match sc.names.lookup x with
  | some .local => true
  | some .cell => true
  | some .free => true
  | _ => false
def glB (sc : Scope) (x : Str) : Bool := match sc.names.lookup x with
  | some .globalImplicit => true
  | _ => false
def okN (x : Str) : Bool := !(x == ("__debug__" : Str)) && !(x == ("__classdict__" : Str)) && !(decide (x = ("__name__" : Str)))
def slot (c : C) (x : Str) : Option Nat := if visB c.sc x && okN x then idxN x c.N else none
def locB (c : C) (x : Str) : Bool := match c.sc.names.lookup x with
  | some .local => true
  | some .cell => c.fnC x
  | _ => false
def tslot (c : C) (x : Str) : Option Nat := if locB c x then idxN x c.N else none
def lslot (c : C) (x : Str) : Option Nat := match c.sc.names.lookup x with
  | some .local => idxN x c.N
  | _ => none
/-- no star, no slice, no set, no comprehension -/
def nStar : Expr → Bool
  | .Starred _ _ => false
  | _ => true
def nSlice : Expr → Bool
  | .Slice _ _ _ _ => false
  | _ => true
def nSet : Expr → Bool
  | .Set _ _ _ => false
  | _ => true
def nComp : Expr → Bool
  | .ListComp _ _ _ _ => false
  | .SetComp _ _ _ _ => false
  | .DictComp _ _ _ _ _ => false
  | _ => true
def nCall0 : Expr → Bool
  | .Call _ _ _ _ => false
  | _ => true
def opB : Operator → Option B
  | .Add => some .add
  | .Sub => some .sub
  | .Mult => some .mul
  | .FloorDiv => some .fdiv
  | .Mod => some .mod
  | _ => none
def cmB : CmpOp → Option B
  | .Eq => some .eq
  | .NotEq => some .ne
  | .Lt => some .lt
  | .LtE => some .le
  | .Gt => some .gt
  | .GtE => some .ge
  | .In => some .isin
  | .NotIn => some .notin
  | _ => none
def blt1 (x : Str) : Option U :=
  if x = "len" then some .len else if x = "abs" then some .abs else if x = "tuple" then some .tuple else if x = "list" then some .list else if x = "all" then some .all else if x = "any" then some .any
  else if x = "sum" then some .sum else if x = "sorted" then some .sorted else none
def blt2 (x : Str) : Option B := if x = "max" then some .max else if x = "min" then some .min else none
def tyB (x : Str) : Option Ty := if x = "int" then some .int else if x = "bool" then some .bool else if x = "str" then some .str else if x = "tuple" then some .tuple else if x = "list" then some .list else none
def mapEs (f : Expr → Option E) : List Expr → Option Es
  | [] => some .nil
  | e :: r => if nStar e then (f e).bind fun a => (mapEs f r).bind fun b => some (.cons a b) else none
def trNames (f : Str → Option Nat) : List Expr → Option (List Nat)
  | [] => some []
  | .Name x _ :: r => (f x).bind fun i => (trNames f r).map (i :: ·)
  | _ :: _ => none
def trTg (c : C) : Expr → Option Tg
  | .Name x _ => (tslot c x).map .name
  | .Tuple es _ _ => (trNames (tslot c) es).map .tup
  | _ => none
def Tg.ids : Tg → List Nat
  | .name i => [i]
  | .tup is => is
def ownOf (N : List Str) : List (Str × NameKind) → List (Str × Nat)
  | [] => []
  | (x, k) :: r => match k with
    | .local => match idxN x N with
      | some i => (x, i) :: ownOf N r
      | none => ownOf N r
    | .cell => match idxN x N with
      | some i => (x, i) :: ownOf N r
      | none => ownOf N r
    | _ => ownOf N r
def C.blk (c : C) (scope : Scope) : C := ⟨c.N, relS scope c.sc, fun x => scope.names.lookup x == some .cell⟩
def isBlt (gc : GC) (c : C) (x : Str) : Bool := glB c.sc x && okN x && decide (x ∈ gc.blts)
def rngArg (x : Str) : Expr → Option Expr
  | .Call (.Name y _) [b] [] _ => if x = "list" ∧ y = "range" then some b else none
  | _ => none
def tyArg : Expr → Option Str
  | .Name y _ => some y
  | _ => none
mutual
def trE (gc : GC) : Nat → C → Expr → Option E
  | 0, _, _ => none
  | n + 1, c, e => match e with
    | .Name x _ => match slot c x with
      | some i => some (.var i)
      | none => if glB c.sc x && okN x then (gc.consts.lookup x).map .cst else none
    | .Constant (.int i) _ _ => some (.cst (.int i))
    | .Constant (.str i) _ _ => some (.cst (.str i))
    | .Constant (.bool i) _ _ => some (.cst (.bl i))
    | .Constant .none _ _ => some (.cst .non)
    | .BinOp a op b _ => (opB op).bind fun o => (trE gc n c a).bind fun a' => (trE gc n c b).bind fun b' => some (.op2 o a' b')
    | .UnaryOp .USub a _ => (trE gc n c a).bind fun a' => some (.op1 .neg a')
    | .UnaryOp .Not a _ => (trE gc n c a).bind fun a' => some (.notV a')
    | .BoolOp _ [a] _ => trE gc n c a
    | .BoolOp .And (a :: b :: r) pos => (trE gc n c a).bind fun a' => (trE gc n c (.BoolOp .And (b :: r) pos)).bind fun b' => some (.andV a' b')
    | .BoolOp .Or (a :: b :: r) pos => (trE gc n c a).bind fun a' => (trE gc n c (.BoolOp .Or (b :: r) pos)).bind fun b' => some (.orV a' b')
    | .Compare a [.Is] [.Constant .none _ _] _ => (trE gc n c a).bind fun a' => some (.op1 .isN a')
    | .Compare a [.IsNot] [.Constant .none _ _] _ => (trE gc n c a).bind fun a' => some (.op1 .notN a')
    | .Compare a [op] [b] _ => if nSet b then (cmB op).bind fun o => (trE gc n c a).bind fun a' => (trE gc n c b).bind fun b' => some (.op2 o a' b') else none
    | .Compare a [op, op'] [b, d] _ => if nSet d then (cmB op).bind fun o => (cmB op').bind fun o' => (trE gc n c a).bind fun a' => (trE gc n c b).bind fun b' => (trE gc n c d).bind fun d' => some (.chain o o' a' b' d') else none
    | .IfExp t a b _ => (trT gc n c t).bind fun t' => (trE gc n c a).bind fun a' => (trE gc n c b).bind fun b' => some (.ite t' a' b')
    | .Tuple es _ _ => (mapEs (trE gc n c) es).bind fun es' => some (.tup es')
    | .List [] _ => some .newl
    | .List (a :: es) _ => (mapEs (trE gc n c) (a :: es)).bind fun es' => some (.lst es')
    | .Subscript (.Name x xp) i _ => if nSlice i then match slot c x with
        | some k => (trE gc n c i).bind fun i' => some (.op2 .ix (.var k) i')
        | none => if glB c.sc x && okN x then (gc.tabs.lookup x).bind fun t => (trE gc n c i).bind fun i' => some (.op1 (.tab t) i') else none
      else none
    | .Subscript a i _ => if nSlice i then (trE gc n c a).bind fun a' => (trE gc n c i).bind fun i' => some (.op2 .ix a' i') else none
    | .Call (.Name x _) args [] _ =>
      match idxN x gc.funs with
      | some f => if glB c.sc x && okN x then (mapEs (trE gc n c) args).bind fun es => some (.callF f es) else none
      | none => match slot c x with
        | some i => match args with
          | [] => none
          | a :: r => (mapEs (trE gc n c) (a :: r)).bind fun es => some (.callV i es)
        | none => if isBlt gc c x then match args with
          | [a] => match rngArg x a with
            | some b => if isBlt gc c "range" && nStar b then (trE gc n c b).bind fun b' => some (.op1 .lrng b') else none
            | none => if nStar a then (blt1 x).bind fun u => (trE gc n c a).bind fun a' => some (.op1 u a') else none
          | [a, b] => if nStar a && nStar b then
              (if x = "isinstance" then (tyArg b).bind fun y => if isBlt gc c y then (tyB y).bind fun t => (trE gc n c a).bind fun a' => some (.op1 (.isI t) a') else none
              else (blt2 x).bind fun u => (trE gc n c a).bind fun a' => (trE gc n c b).bind fun b' => some (.op2 u a' b')) else none
          | _ => none
        else none
    | .Call (.Attribute o m apos) [a] [] cpos => if nStar a && nCall0 o && (apos.endLine == cpos.line) then
        (if m = "append" then some B.append else if m = "index" then some B.index else none).bind fun u => (trE gc n c o).bind fun o' => (trE gc n c a).bind fun a' => some (.op2 u o' a') else none
    | .ListComp elt [⟨tg, iter, ifs, 0⟩] scope _ =>
      let own := ownOf c.N scope.names
      if blkC c.N c.sc scope own && nSet iter then
        (trI gc n c tg iter).bind fun it => (trTg (c.blk scope) tg).bind fun tg' => (trTs gc n (c.blk scope) ifs).bind fun t => (trE gc n (c.blk scope) elt).bind fun e' =>
          if tg'.ids.all (fun i => decide (i ∈ own.map (·.2))) then some (.lc (own.map (·.2)) it tg' t e') else none
      else none
    | .ListComp elt [⟨.Name x0 p0, it0, [], 0⟩, ⟨.Name x1 p1, it1, [], 0⟩, ⟨.Name x2 p2, it2, [], 0⟩] scope _ =>
      let own := ownOf c.N scope.names
      if blkC c.N c.sc scope own && nSet it0 && nSet it1 && nSet it2 then
        (trI gc n c (.Name x0 p0) it0).bind fun j0 => (trI gc n (c.blk scope) (.Name x1 p1) it1).bind fun j1 => (trI gc n (c.blk scope) (.Name x2 p2) it2).bind fun j2 =>
          (tslot (c.blk scope) x0).bind fun v0 => (tslot (c.blk scope) x1).bind fun v1 => (tslot (c.blk scope) x2).bind fun v2 => (trE gc n (c.blk scope) elt).bind fun e' =>
            if [v0, v1, v2].all (fun i => decide (i ∈ own.map (·.2))) then some (.lc3 (own.map (·.2)) j0 v0 j1 v1 j2 v2 e') else none
      else none
    | _ => none
def trT (gc : GC) : Nat → C → Expr → Option T
  | 0, _, _ => none
  | n + 1, c, e => match e with
    | .UnaryOp .Not a _ => (trT gc n c a).bind fun a' => some (.not_ a')
    | .BoolOp _ [a] _ => trT gc n c a
    | .BoolOp .And (a :: b :: r) pos => (trT gc n c a).bind fun a' => (trT gc n c (.BoolOp .And (b :: r) pos)).bind fun b' => some (.and_ a' b')
    | .BoolOp .Or (a :: b :: r) pos => (trT gc n c a).bind fun a' => (trT gc n c (.BoolOp .Or (b :: r) pos)).bind fun b' => some (.or_ a' b')
    | .Compare a ops bs pos => (trE gc n c (.Compare a ops bs pos)).map .val
    | .Name x p => (trE gc n c (.Name x p)).map .val
    | .Call f as ks p => (trE gc n c (.Call f as ks p)).map .val
    | .Subscript a i p => (trE gc n c (.Subscript a i p)).map .val
    | _ => none
def trTs (gc : GC) : Nat → C → List Expr → Option T
  | 0, _, _ => none
  | n + 1, c, [] => some .yes
  | n + 1, c, [e] => trT gc n c e
  | _, _, _ => none
def trI (gc : GC) : Nat → C → Expr → Expr → Option I
  | 0, _, _, _ => none
  | n + 1, c, tg, e => match e with
    | .Call (.Name x xp) [a] [] p => if x = "range" then (if isBlt gc c x && nStar a then (trE gc n c a).map .rng else none)
        else if x = "enumerate" then none
        else (trE gc n c (.Call (.Name x xp) [a] [] p)).map .val
    | .Call (.Name x xp) [a, b] [] p => if x = "range" then (if isBlt gc c x && nStar a && nStar b then (trE gc n c a).bind fun a' => (trE gc n c b).map fun b' => .rng2 a' b' else none)
        else if x = "zip" then (match tg with
          | .Tuple _ _ _ => if isBlt gc c x && nStar a && nStar b then (trE gc n c a).bind fun a' => (trE gc n c b).map fun b' => .zip a' b' else none
          | _ => none)
        else (trE gc n c (.Call (.Name x xp) [a, b] [] p)).map .val
    | e => (trE gc n c e).map .val
end
mutual
def trS (gc : GC) : Nat → C → Stmt → Option S
  | 0, _, _ => none
  | n + 1, c, s => match s with
    | .Assign [.Name x xp] (.ListComp elt gs scope p) sp => if (gs.length == 1) && (xp.line == p.line) && !(scope.names.any fun (n, k) => n == x && (k == .local || k == .cell)) then
        (lslot c x).bind fun i => (trE gc 100 c (.ListComp elt gs scope p)).bind fun e' => some (.set i e') else none
    | .Assign [.Name x _] e _ => if nComp e then (tslot c x).bind fun i => (trE gc 100 c e).bind fun e' => some (.set i e') else none
    | .Assign [.Tuple [.Name x xp, .Name y yp] _ _] (.Tuple [a, b] _ _) _ => if nStar a && nStar b && (xp.line == yp.line) && !(constantsAlone 8 a && constantsAlone 8 b) && !(foldedForSure 8 a && foldedForSure 8 b) then
        (lslot c x).bind fun i => (lslot c y).bind fun j => (trE gc 100 c a).bind fun a' => (trE gc 100 c b).bind fun b' => if i = j then none else some (.par i j a' b') else none
    | .Expr (.Constant (.str _) _ _) _ => some .pass
    | .Expr e _ => if nComp e then (trE gc 100 c e).bind fun e' => some (.expr e') else none
    | .Return (some e) _ => (trE gc 100 c e).bind fun e' => some (.ret e')
    | .Return none _ => some .retN
    | .If t a b _ => (trT gc 100 c t).bind fun t' => (trSs gc n c a).bind fun a' => (trSs gc n c b).bind fun b' => some (.ife t' a' b')
    | .For tg it b [] _ => if nSet it then (trI gc 100 c tg it).bind fun it' => (trTg c tg).bind fun tg' => (trSs gc n c b).bind fun b' => some (.for_ it' tg' b') else none
    | .Pass _ => some .pass
    | .Break _ => some .brk
    | .Continue _ => some .cnt
    | _ => none
def trSs (gc : GC) : Nat → C → List Stmt → Option Ss
  | 0, _, _ => none
  | n + 1, c, [] => some .nil
  | n + 1, c, s :: r => (trS gc n c s).bind fun s' => (trSs gc n c r).bind fun r' => some (.cons s' r')
end
end Ky

namespace Ky
open PySem PySem.Spec PyProof.Rows L2

/-! ### readings by the evaluator -/
section
variable (g : G) (Φ : Cal)
def tE (e : E) : TE := fun σ H Q => ∃ th om ρ m d m', EnvR g th om H σ ρ ∧ MRep g th om H m ∧ evE Φ e ρ m = some (d, m') ∧ Aft g th om H m' d Q
def AftT (th om : List Addr) (H : Hp) (m' : M) (b : Bool) (Q : Bool → Hp → Prop) : Prop := ∀ th' H', Ext th om H th' H' → MRep g th' om H' m' → Q b H'
def tT (t : T) : TT := fun σ H Q => ∃ th om ρ m b m', EnvR g th om H σ ρ ∧ MRep g th om H m ∧ evT Φ t ρ m = some (b, m') ∧ AftT g th om H m' b Q
def AftA (th om : List Addr) (H : Hp) (m' : M) (ds : List D) (Q : List V → Hp → Prop) : Prop := ∀ vs th' H', Ext th om H th' H' → MRep g th' om H' m' → RepA g th' om H' vs ds → Q vs H'
def tA (es : Es) : TA := fun σ H Q => ∃ th om ρ m ds m', EnvR g th om H σ ρ ∧ MRep g th om H m ∧ evEs Φ es ρ m = some (ds, m') ∧ AftA g th om H m' ds Q
end
theorem Aft.mono {g : G} {th om th1 : List Addr} {H H1 : Hp} {m' : M} {d : D} {Q : VK} (a : Aft g th om H m' d Q) (x : Ext th om H th1 H1) : Aft g th1 om H1 m' d Q := fun v th' H' y r q => a v th' H' (x.trans y) r q
theorem AftT.mono {g : G} {th om th1 : List Addr} {H H1 : Hp} {m' : M} {d : Bool} {Q : Bool → Hp → Prop} (a : AftT g th om H m' d Q) (x : Ext th om H th1 H1) : AftT g th1 om H1 m' d Q := fun th' H' y r => a th' H' (x.trans y) r
theorem AftA.mono {g : G} {th om th1 : List Addr} {H H1 : Hp} {m' : M} {d : List D} {Q : List V → Hp → Prop} (a : AftA g th om H m' d Q) (x : Ext th om H th1 H1) : AftA g th1 om H1 m' d Q := fun v th' H' y r q => a v th' H' (x.trans y) r q
theorem PEi {X : Cx} {e : Expr} {t t' : TE} (h : PE X e t) (i : ∀ σ H Q, t' σ H Q → t σ H Q) : PE X e t' := fun pins s σ H Q I q => h pins s σ H Q I (i σ H Q q)
theorem PTi {X : Cx} {e : Expr} {t t' : TT} (h : PT X e t) (i : ∀ σ H Q, t' σ H Q → t σ H Q) : PT X e t' := fun pins s σ H Q I q => h pins s σ H Q I (i σ H Q q)
theorem PWi {X : Cx} {e : Expr} {t t' : TT} (h : PW X e t) (i : ∀ σ H Q, t' σ H Q → t σ H Q) : PW X e t' := fun wh pins s σ H Q I q => h wh pins s σ H Q I (i σ H Q q)
theorem PAi {X : Cx} {es : List Expr} {t t' : TA} (h : PA X es t) (i : ∀ σ H Q, t' σ H Q → t σ H Q) : PA X es t' := fun pos pins s σ H Q I q => h pos pins s σ H Q I (i σ H Q q)

/-- the promise of the def f, called with k frames' room -/
def spEv (g : G) (P : List Fn) (k f : Nat) : Sp := fun vs H Q _ => ∃ th om m ds d m', MRep g th om H m ∧ RepA g th om H vs ds ∧ callN P k f ds m = some (d, m') ∧ Aft g th om H m' d Q

/-- the def at address a as f-th of the text -/
structure FnAt (g : G) (P : List Fn) (k : Nat) (X : Cx) (f : Nat) (a : Addr) : Prop where
  keep : PySem.W.keepIn X.K (.ref a) = true
  ok : ∃ fd ps, Binds X.K fd ps [] ∧ FnOk X.prog X.w X.K X.mg X.base CX0 k a fd ps (spEv g P k f)
/-- a module's table of defs, by texts -/
def TabAt (g : G) (Pr : Program) (w : World) (K : PySem.W.Frag) (mg : Str → Option Value) (x : Str) (t : List (Str × Nat)) : Prop :=
  ∃ a : Addr, mg x = some (.ref a) ∧
    ∀ (X : Cx), X.prog = Pr → X.w = w → X.K = K → ∀ (value slice : Expr) (pins : List (Addr × Obj)) (s : Shared) (σ : L2.St) (H : Hp) (y : Str) (u : Value) (f : Nat) (fa : Addr) (Q : VK), Inv X pins σ H s → RelV (.str y) u → t.lookup y = some f → g.fa f = some fa → Q (.ref fa) H →
      subscripted slice false (.ref a) u = operate [.ref a, u] (getItem (.ref a) u) → wpAny (model X.prog X.w) X.A (subscriptTail value slice (.ref a) u) (EP X pins σ Q) X.xe s
structure XOk (gc : GC) (g : G) (P : List Fn) (k : Nat) (c : C) (X : Cx) : Prop where
  N : X.N = c.N
  sc : X.env.scope = c.sc
  fn : ∀ x, c.fnC x = true → X.fn x = true
  nd : X.N.Nodup
  calm : X.calm = true
  xe : X.xe = fun _ _ => False
  K : X.K = g.K
  kind : c.sc.kind = .function
  room : Room k X.A
  blt : ∀ x ∈ gc.blts, X.mg x = none
  cst : ∀ x d, gc.consts.lookup x = some d → ∃ v u, X.mg x = some u ∧ RelV v u ∧ ∀ th om H, Rep g th om H v d
  tab : ∀ x t, gc.tabs.lookup x = some t → TabAt g X.prog X.w X.K X.mg x t
  tabf : ∀ x t y f, gc.tabs.lookup x = some t → t.lookup y = some f → ∃ a, g.fa f = some a
  fnm : ∀ x f, idxN x gc.funs = some f → ∃ a, g.fa f = some a ∧ X.mg x = some (.ref a)
  fns : ∀ f a, g.fa f = some a → FnAt g P k X f a

/-! ### small facts -/
theorem idxN_some {x : Str} : ∀ {N : List Str} {i : Nat}, idxN x N = some i → N[i]? = some x
  | [], _, h => by cases h
  | y :: r, i, h => by
    unfold idxN at h
    split at h
    · rename_i e; cases h; simp [e]
    · obtain ⟨j, hj, rfl⟩ := Option.map_eq_some_iff.mp h
      simpa using idxN_some hj
theorem visB_ok {sc : Scope} {x : Str} (h : visB sc x = true) : Vis sc x := by
  unfold visB at h
  split at h
  · exact .inl (by assumption)
  · exact .inr (.inl (by assumption))
  · exact .inr (.inr (by assumption))
  · cases h
theorem glB_ok {sc : Scope} {x : Str} (h : glB sc x = true) : sc.names.lookup x = some .globalImplicit := by
  unfold glB at h
  split at h
  · assumption
  · cases h
theorem okN_ok {x : Str} (h : okN x = true) : (x == ("__debug__" : Str)) = false ∧ (x == ("__classdict__" : Str)) = false ∧ x ≠ "__name__" := by
  unfold okN at h
  simp only [Bool.and_eq_true, Bool.not_eq_true', decide_eq_false_iff_not] at h
  exact ⟨h.1.1, h.1.2, h.2⟩
theorem slot_ok {c : C} {x : Str} {i : Nat} (h : slot c x = some i) : c.N[i]? = some x ∧ Vis c.sc x ∧ okN x = true := by
  unfold slot at h
  split at h
  · rename_i e
    rw [Bool.and_eq_true] at e
    exact ⟨idxN_some h, visB_ok e.1, e.2⟩
  · cases h
theorem tslot_ok {c : C} {x : Str} {i : Nat} (h : tslot c x = some i) : c.N[i]? = some x ∧ Loc c.sc x ∧ (c.fnC x = true ∨ c.sc.names.lookup x = some .local) := by
  unfold tslot at h
  split at h
  · rename_i e
    refine ⟨idxN_some h, ?_⟩
    unfold locB at e
    split at e
    · rename_i e2; exact ⟨.inl e2, .inr e2⟩
    · rename_i e2; exact ⟨.inr e2, .inl e⟩
    · cases e
  · cases h
theorem lslot_ok {c : C} {x : Str} {i : Nat} (h : lslot c x = some i) : c.N[i]? = some x ∧ c.sc.names.lookup x = some .local := by
  unfold lslot at h
  split at h
  · rename_i e; exact ⟨idxN_some h, e⟩
  · cases h
theorem star_cons {e : Expr} {es : List Expr} {env : PySem.Env} (h : nStar e = true) : starEach (e :: es) env = (false, eval e env) :: starEach es env := by
  cases e <;> first | rfl | (cases h)
theorem star_any {pos : Pos} {env : PySem.Env} {f : Expr → Option E} : ∀ {es : List Expr} {r : Es}, mapEs f es = some r → (backTo pos (starEach es env)).any (·.1) = false
  | [], _, _ => rfl
  | e :: es, r, h => by
    unfold mapEs at h
    split at h
    · rename_i hs
      obtain ⟨a, _, h⟩ := Option.bind_eq_some_iff.mp h
      obtain ⟨b, hb, h⟩ := Option.bind_eq_some_iff.mp h
      rw [star_cons hs]
      have ih := star_any (pos := pos) (env := env) hb
      show (false || (backTo pos (starEach es env)).any (·.1)) = false
      rw [ih]; rfl
    · cases h
theorem plain_ix {i : Expr} (h : nSlice i = true) : PlainIx i := by
  intro o v
  cases i <;> first | rfl | (cases h)
theorem nomarkS {op : CmpOp} {b : Expr} (h : nSet b = true) : behindInMarks op b = false := by
  cases b <;> first | rfl | (cases h)
theorem foldS {e : Expr} {env : PySem.Env} (h : nSet e = true) : ∀ x, foldedSetIterable e env x = pure x := by
  intro x
  cases e <;> first | rfl | (cases h)

/-! ### what an operation asks -/
def CoreB (g : G) (o : B) (r : R2) : Prop := ∀ th om H m vx vy x y d m' Q, MRep g th om H m → Rep g th om H vx x → Rep g th om H vy y → b2 o x y m = some (d, m') → Aft g th om H m' d Q → r vx vy H Q
def CoreU (g : G) (o : U) (r : V → Hp → VK → Prop) : Prop := ∀ th om H m vx x d m' Q, MRep g th om H m → Rep g th om H vx x → u1 o x m = some (d, m') → Aft g th om H m' d Q → r vx H Q
section
variable {g : G} {Φ : Cal} {o : B} {u : U} {r : R2} {ru : V → Hp → VK → Prop}
theorem red2 (h : CoreB g o r) {a b : E} : ∀ σ H Q, tE g Φ (.op2 o a b) σ H Q → tOp r (tE g Φ a) (tE g Φ b) σ H Q := by
  rintro σ H Q ⟨th, om, ρ, m, d, m', er, mr, ev, af⟩
  unfold evE at ev
  obtain ⟨x, m1, e1, ev⟩ := bnd_inv ev
  obtain ⟨y, m2, e2, ev⟩ := bnd_inv ev
  refine ⟨th, om, ρ, m, x, m1, er, mr, e1, fun vx th1 H1 x1 mr1 rx => ⟨th1, om, ρ, m1, y, m2, er.mono x1, mr1, e2, fun vy th2 H2 x2 mr2 ry => ?_⟩⟩
  exact h th2 om H2 m2 vx vy x y d m' Q mr2 (rx.mono x2) ry ev (af.mono (x1.trans x2))
theorem red1 (h : CoreU g u ru) {a : E} : ∀ σ H Q, tE g Φ (.op1 u a) σ H Q → tUn ru (tE g Φ a) σ H Q := by
  rintro σ H Q ⟨th, om, ρ, m, d, m', er, mr, ev, af⟩
  unfold evE at ev
  obtain ⟨x, m1, e1, ev⟩ := bnd_inv ev
  exact ⟨th, om, ρ, m, x, m1, er, mr, e1, fun vx th1 H1 x1 mr1 rx => h th1 om H1 m1 vx x d m' Q mr1 rx ev (af.mono x1)⟩
/-- two arguments of a call -/
theorem redC2 (h : CoreB g o r) {a b : E} : ∀ σ H Q, tE g Φ (.op2 o a b) σ H Q → tCB (fun vs H Q => ∃ x y, vs = [x, y] ∧ r x y H Q) (tA g Φ (.cons a (.cons b .nil))) σ H Q := by
  rintro σ H Q ⟨th, om, ρ, m, d, m', er, mr, ev, af⟩
  unfold evE at ev
  obtain ⟨x, m1, e1, ev⟩ := bnd_inv ev
  obtain ⟨y, m2, e2, ev⟩ := bnd_inv ev
  refine ⟨th, om, ρ, m, [x, y], m2, er, mr, ?_, fun vs th1 H1 x1 mr1 rx => ?_⟩
  · simp only [evEs, e1, bnd_mk, e2]
  · cases rx with
    | cons r1 rr =>
      cases rr with
      | cons r2 rr =>
        cases rr
        exact ⟨_, _, rfl, h th1 om H1 m2 _ _ x y d m' Q mr1 r1 r2 ev (af.mono x1)⟩
theorem redC1 (h : CoreU g u ru) {a : E} : ∀ σ H Q, tE g Φ (.op1 u a) σ H Q → tCB (fun vs H Q => ∃ x, vs = [x] ∧ ru x H Q) (tA g Φ (.cons a .nil)) σ H Q := by
  rintro σ H Q ⟨th, om, ρ, m, d, m', er, mr, ev, af⟩
  unfold evE at ev
  obtain ⟨x, m1, e1, ev⟩ := bnd_inv ev
  refine ⟨th, om, ρ, m, [x], m1, er, mr, ?_, fun vs th1 H1 x1 mr1 rx => ?_⟩
  · simp only [evEs, e1, bnd_mk]
  · cases rx with
    | cons r1 rr =>
      cases rr
      exact ⟨_, rfl, h th1 om H1 m1 _ x d m' Q mr1 r1 ev (af.mono x1)⟩
end
end Ky

namespace Ky
open PySem PySem.Spec PyProof.Rows L2

section
variable {X : Cx}
/-- t + u of tuples -/
def rCatX (K : PySem.W.Frag) : R2 := fun x y H Q => ∃ a b xs ys, x = .ref a ∧ y = .ref b ∧ SqT K H a xs ∧ SqT K H b ys ∧ xs.length + ys.length ≤ sizeLine ∧
  (xs = [] → Q (.ref b) H) ∧ (xs ≠ [] → ys = [] → Q (.ref a) H) ∧ (xs ≠ [] → ys ≠ [] → ∀ p, H p = none → Q (.ref p) (upd H p (.tup (xs ++ ys))))
theorem op_catX : OpR X (binaryOp .Add) (rCatX X.K) := by
  intro pins s σ H x y v u Q I rx ry h
  obtain ⟨a, b, xs, ys, e1, e2, ha, hb, hz, q0, q1, q2⟩ := h
  by_cases hx : xs = []
  · subst e1; subst e2; subst hx
    cases rx
    cases ry
    obtain ⟨its, r1, p1, _⟩ := I.tuple ha
    obtain ⟨its2, r2, p2, _⟩ := I.tuple hb
    cases r1
    obtain ⟨⟨cls, dd, data, sl⟩, ho, hc, n, hd⟩ := id p1
    obtain ⟨⟨cls2, dd2, data2, sl2⟩, ho2, hc2, n2, hd2⟩ := id p2
    simp only at hc hd hc2 hd2
    subst hc; subst hd; subst hc2; subst hd2
    refine concat_meets ⟨_, ho, rfl⟩ ⟨_, ho2, rfl⟩ noFill_tuple_add seq_tuple_add PySem.F.slot_tuple_add PySem.F.entry_tuple_add (PySem.F.args_tuple_add_2 _ _)
      (tuple_addW0 a b _ its2.toArray n n2 dd dd2 sl sl2 (by simp)) ⟨ho, ho2, ?_⟩
    exact ⟨.ref b, H, I, rfl, q0 rfl⟩
  · exact op_catT pins s σ H x y v u Q I rx ry ⟨a, b, xs, ys, e1, e2, ha, hb, hx, hz, q1 hx, q2 hx⟩
/-- t > u of tuples of ints -/
theorem rcGt_int (A : Around) (s : Shared) (a : Int) (t : Tok) (c : Int) (u : Tok) (prog : Program) (w : World) (E : Value → Shared → Prop) (Q : Value → Shared → Prop) (h : Q (.bool (decide (c < a))) s) :
    wpAny (model prog w) A (richCompare .Gt (.int a t) (.int c u)) Q E s :=
  (PyProof.Rows.gt_int h : wpAny (model prog w) A (compareOp .Gt (.int a t) (.int c u)) Q E s)
end
section
open PySem.SeqAt
open PySem.AutoSeq1 (wpAny_loadPart')
open PySem.MeetsSeq PySem.MeetsSeq2 PySem.MeetsSeq3
open HT
theorem tuple_gt_ints (l b : Addr) (items items2 : Array Value) (n n2 : Nat) (dd dd2 : Option Addr) (sl sl2 : Array (Option Value)) (ns ms : List Int) (hi : IntsAre items.toList ns) (hj : IntsAre items2.toList ms) :
    Meets (Builtin.«tuple.__gt__» ⟨[.ref l, .ref b], []⟩)
      (fun _ R s => s.heap.get? l = some { cls := .type "tuple", dict := dd, data := .seq items n, slots := sl } ∧ s.heap.get? b = some { cls := .type "tuple", dict := dd2, data := .seq items2 n2, slots := sl2 } ∧
        R (.ok (.ret (.bool (lexLt ms ns)))) s) :=
  .of_wp fun prog w A R s h => by
    obtain ⟨hp, g, d, tk, os⟩ := s; obtain ⟨hl, hb, h⟩ := h
    have f2 := AutoSeq1.sub_tuple_tuple
    have z1 : items.size = ns.length := by rw [← hi.length]; simp
    have z2 : items2.size = ms.length := by rw [← hj.length]; simp
    wp_walk using wpAny_loadPart' hl, wpAny_loadPart' hb, wpAny_forIn_list _ (fun rest b s' => b.1 = none ∧ s' = ⟨hp, g, d, tk, os⟩ ∧ ∃ (vs ws : List Value) (ns' ms' : List Int), rest = vs.zip ws ∧
      IntsAre vs ns' ∧ IntsAre ws ms' ∧ ns'.length + items2.size = ms'.length + items.size ∧ R (.ok (.ret (.bool (lexLt ms' ns')))) ⟨hp, g, d, tk, os⟩) _
    case turn =>
      rintro ⟨y, x⟩ rest b s' ⟨hb', rfl, vs, ws, ns', ms', hz, hvi, hwi, hlen, hR⟩
      cases hvi with
      | nil => rw [List.zip_nil_left] at hz; cases hz
      | cons a t hvi' =>
        cases hwi with
        | nil => rw [List.zip_nil_right] at hz; cases hz
        | cons c u hwi' =>
          rw [List.zip_cons_cons] at hz
          injection hz with hyx hrest
          injection hyx with hy hx
          subst hy hx
          rw [lexLt_cons] at hR
          simp only [List.length_cons] at hlen
          obtain ⟨e, he, hiff⟩ := eqAt_int A.in1 ⟨hp, g, d, tk, os⟩ a t c u
          refine wpAny_bind (he prog w _ _ ?_)
          cases e with
          | true =>
            rw [if_pos (hiff.mp rfl).symm] at hR
            wp_walk
            exact ⟨rfl, rfl, _, _, _, _, hrest, hvi', hwi', by omega, hR⟩
          | false =>
            rw [if_neg (fun q => absurd (hiff.mpr q.symm) Bool.false_ne_true)] at hR
            have hri := rcGt_int A.in1 ⟨hp, g, d, tk, os⟩ a t c u prog w
            wp_walk using hri
            exact ⟨_, rfl, by simpa using hR⟩
    case fin =>
      rintro ⟨b1, b2⟩ s' ⟨hb', rfl, vs, ws, ns', ms', hz, hvi, hwi, hlen, hR⟩
      simp only at hb'
      subst hb'
      have hv : lexLt ms' ns' = decide (items2.size < items.size) := by
        cases hvi with
        | nil =>
          cases hwi with
          | nil =>
            simp only [List.length_nil] at hlen
            rw [lexLt_nil_nil]
            exact (decide_eq_false (by omega)).symm
          | cons c u hw =>
            simp only [List.length_nil, List.length_cons] at hlen
            rw [lexLt_cons_nil]
            exact (decide_eq_false (by omega)).symm
        | cons a t hv =>
          cases hwi with
          | nil =>
            simp only [List.length_nil, List.length_cons] at hlen
            rw [lexLt_nil_cons]
            exact (decide_eq_true (by omega)).symm
          | cons c u hw =>
            rw [List.zip_cons_cons] at hz
            cases hz
      rw [hv] at hR
      wp_walk
      exact ⟨_, rfl, by simpa [Builtin.Tuple.tupleCompareSizes] using hR⟩
    case h =>
      exact ⟨rfl, rfl, items.toList, items2.toList, ns, ms, rfl, hi, hj, by omega, h⟩
end
section
variable {X : Cx}
def rGtT (K : PySem.W.Frag) : R2 := fun x y H Q => ∃ a b ns ms, x = .ref a ∧ y = .ref b ∧ SqT K H a (ns.map V.int) ∧ SqT K H b (ms.map V.int) ∧ Q (.bl (HT.lexLt ms ns)) H
theorem op_gtT (hu : X.A.units < cLine) : OpR X (compareOp .Gt) (rGtT X.K) := by
  intro pins s σ H x y v u Q I rx ry h
  obtain ⟨a, b, ns, ms, rfl, rfl, ha, hb, q⟩ := h
  cases rx
  cases ry
  obtain ⟨its, r1, p1, _⟩ := I.tuple ha
  obtain ⟨its2, r2, p2, _⟩ := I.tuple hb
  have i1 : IntsAre its.toArray.toList ns := intsAre_of r1
  have i2 : IntsAre its2.toArray.toList ms := intsAre_of r2
  obtain ⟨⟨cls, dd, data, sl⟩, ho, hc, n, hd⟩ := id p1
  obtain ⟨⟨cls2, dd2, data2, sl2⟩, ho2, hc2, n2, hd2⟩ := id p2
  simp only at hc hd hc2 hd2
  subst hc; subst hd; subst hc2; subst hd2
  exact richCompare_meets_room (op := .Gt) ⟨_, ho, rfl⟩ ⟨_, ho2, rfl⟩ PySem.F.slot_tuple_gt PySem.F.entry_tuple_gt (PySem.F.args_tuple_gt_2 _ _) (tuple_gt_ints a b _ _ n n2 dd dd2 sl sl2 ns ms i1 i2)
    ⟨ho, ho2, show Value.bool (HT.lexLt ms ns) ≠ Value.notImplemented ∧ _ from ⟨(fun x => nomatch x), ⟨.bl (HT.lexLt ms ns), H, I, rfl, q⟩⟩⟩ hu
end
end Ky

namespace Ky
open PySem PySem.Spec PyProof.Rows L2

section
variable {prog : Program} {w : World} {A : Around} {E : Value → Shared → Prop} {s : Shared}
/-- the items of a tuple, gathered -/
theorem collT {t : Addr} {zs : List Value} {Q : List Value → Shared → Prop} (p : IsTup s.heap t zs.toArray) (hz : zs.length ≤ sizeLine)
    (q : Q zs { s with heap := (s.heap.push (seqObj "list" #[] 0)).update s.heap.objs.size (Obj.mapSeq (· ++ zs.toArray)) }) : wpAny (model prog w) A (collect (.ref t)) Q E s := by
  obtain ⟨ob, e, c, k, d⟩ := id p
  unfold collect
  refine wpAny_bind (wpAny_runValue (codeAny_builtin entry_proto_collect' ?_))
  show wpAny _ _ (do again (.builtin "list.__iadd__" ⟨[← newList [], .ref t], []⟩)) _ _ s
  refine wpAny_bind (wpAny_newList (wpAny_pure ⟨Code.quiet_builtin _ (by decide +kernel), codeAny_builtin entry_list_iadd' ?_⟩))
  show wpAny _ _ (Builtin.List.listExtendWith (.ref s.heap.objs.size) (.ref t) (.ref s.heap.objs.size)) _ _ { s with heap := s.heap.push (seqObj "list" #[] 0) }
  unfold Builtin.List.listExtendWith
  have e' : (s.heap.push (seqObj "list" #[] 0)).get? t = some ob := Heap.get?_push_of_some _ e
  refine wpAny_bind (wpAny_typeOf (T := "tuple") ⟨ob, e', c⟩ ?_)
  have h1 : (Value.type "tuple" == Value.type "tuple") = true := by rfl
  rw [if_pos (by rw [h1]; simp)]
  refine wpAny_bind (listItems_at e' d ?_)
  refine wpAny_bind (listItems_at (xs := #[]) (n := 0) (Heap.get?_push_size _ rfl) rfl ?_)
  rw [if_neg (by simp)]
  refine wpAny_bind (listUpdate_at (xs := #[]) (n := 0) (Heap.get?_push_size _ rfl) rfl ?_ (Nat.zero_le _) (by show (#[] ++ zs.toArray).size ≤ sizeLine + 1; simp only [Array.size_append, List.size_toArray, List.length_nil]; omega))
  refine wpAny_pure ?_
  show wpAny (model prog w) A (do
      let ob ← load s.heap.objs.size
      match ob.data with
      | .seq xs _ => pure xs.toList
      | _ => unsupported "internal:collect") Q E { s with heap := (s.heap.push (seqObj "list" #[] 0)).update s.heap.objs.size (Obj.mapSeq (· ++ zs.toArray)) }
  refine wpAny_bind (wpAny_load (get?_update_seq (Heap.get?_push_size _ rfl) _) ?_)
  show wpAny _ _ (pure ((#[] : Array Value) ++ zs.toArray).toList) Q E _
  rw [show ((#[] : Array Value) ++ zs.toArray).toList = zs by simp]
  exact wpAny_pure q
/-- sorted of a tuple of ints -/
theorem sortedT {t : Addr} {zs : List Value} {ns : List Int} {Q : Value → Shared → Prop} (p : IsTup s.heap t zs.toArray) (hI : IntsAre zs ns) (h64 : zs.length < 64)
    (q : ∀ (out : Array Value) (ms : List Int), IntsAre out.toList ms → ms.Perm ns → ms.Pairwise (· ≤ ·) → Q (.ref (s.heap.objs.size + 1)) { s with heap := sortedAll s.heap zs out }) :
    wpAny (model prog w) A (call (.builtin "sorted") [.ref t]) Q E s := by
  refine Calls.call_function_entry kind_sorted plain_sorted entry_sorted (args_sorted1 _) ?_
  unfold Builtin.«sorted»
  refine wpAny_bind (m := checkCount "sorted" 1 1 _) (wpAny_pure ?_)
  refine wpAny_bind (collT p (by rw [sizeLine_eq]; omega) ?_)
  refine wpAny_bind (wpAny_newList ?_)
  have sz : ((s.heap.push (seqObj "list" #[] 0)).update s.heap.objs.size (Obj.mapSeq (· ++ zs.toArray))).objs.size = s.heap.objs.size + 1 := by
    rw [Heap.size_update, size_push']
  have at1 : (((s.heap.push (seqObj "list" #[] 0)).update s.heap.objs.size (Obj.mapSeq (· ++ zs.toArray))).push (seqObj "list" zs.toArray 0)).get? (s.heap.objs.size + 1) = some (seqObj "list" zs.toArray 0) := by
    rw [← sz]; exact Heap.get?_push_size _ rfl
  show wpAny _ _ _ _ _ { s with heap := ((s.heap.push (seqObj "list" #[] 0)).update s.heap.objs.size (Obj.mapSeq (· ++ zs.toArray))).push (seqObj "list" zs.toArray 0) }
  rw [sz]
  refine wpAny_bind (wpAny_holding (wpAny_call_entry slot_list_sort ⟨_, at1, rfl⟩ entry_list_sort (list_sort_tree at1 hI h64 fun out ms b1 b2 b3 => ⟨_, rfl, ?_⟩) (args_list_sort _)))
  exact wpAny_pure ⟨_, rfl, q out ms b1 b2 b3⟩
end
section
variable {X : Cx}
def rSortT (K : PySem.W.Frag) : List V → Hp → VK → Prop := fun vs H Q => ∃ (a : Addr) (ns : List Int), vs = [V.ref a] ∧ SqT K H a (ns.map V.int) ∧ ns.length < 64 ∧
  ∀ (ms : List Int) (p : Addr), ms.Perm ns → ms.Pairwise (· ≤ ·) → H p = none → Q (.ref p) (upd H p (.lst (ms.map V.int)))
theorem cr_sortT : CallR X (.builtin "sorted") (rSortT X.K) := by
  intro pins s σ H vs us Q I r h
  obtain ⟨a, ns, rfl, hs, h64, q⟩ := h
  obtain ⟨its, rv, hl, _⟩ := I.tuple hs
  rw [Vals.ref1 r]
  have hi := rv.ints
  refine sortedT hl hi (by rw [hi.length]; exact h64) fun out ms h1 h2 h3 => ?_
  obtain ⟨ep, he⟩ := PyProof.Rows.sortedAll_at s.heap its out
  have hlen : (ms.map V.int).length ≤ sizeLine := by rw [List.length_map, h2.length_eq]; exact small64 h64
  exact ⟨.ref _, upd H (s.heap.objs.size + 1) (.lst (ms.map V.int)), I.laid (t' := s.toks) (fun _ _ => PyProof.Rows.sortedAll_old) (Nat.le_succ _) ⟨hlen, out.toList, ep, vals_of_ints h1, he⟩, rfl, q ms _ h2 h3 (I.hok.fresh (Nat.le_succ _))⟩
end
/-- a loop over 0, 1, .. below n -/
theorem forN {β : Type} {Mo : Model} {A : Around} {E : Value → Shared → Prop} {n : Nat} (f : Nat → β → Sem (ForInStep β)) (J : Nat → β → Shared → Prop) {Q : β → Shared → Prop}
    (turn : ∀ i b s, i < n → J i b s → wpAny Mo A (f i b) (fun r s' => match r with | .yield b' => J (i + 1) b' s' | .done b' => Q b' s') E s) (last : ∀ b s, J n b s → Q b s) {b : β} {s : Shared} (h : J 0 b s) :
    wpAny Mo A (forIn [:n] b f) Q E s := by
  rw [Std.Legacy.Range.forIn_eq_forIn_range']
  have key : ∀ (m k : Nat) (b : β) (s : Shared), k + m = n → J k b s → wpAny Mo A (forIn (List.range' k m 1) b f) Q E s := by
    intro m
    induction m with
    | zero =>
      intro k b s e j
      rw [List.range'_zero, List.forIn_nil]
      have : k = n := by omega
      subst this
      exact wpAny_pure (last b s j)
    | succ m ih =>
      intro k b s e j
      rw [List.range'_succ, List.forIn_cons]
      refine wpAny_bind (wpAny_mono (turn k b s (by omega) j) (fun r s' hr => ?_) fun _ _ z => z)
      cases r with
      | done b' => exact wpAny_pure hr
      | yield b' => exact ih (k + 1) b' s' (by omega) hr
  have e : [:n].size = n := by simp [Std.Legacy.Range.size]
  rw [e]
  exact key n 0 b s (by omega) h
section
open PySem.SeqAt
open PySem.AutoSeq1 (wpAny_loadPart')
open PySem.MeetsSeq PySem.MeetsSeq2 PySem.MeetsSeq3
/-- tuple.index, the item stands there -/
theorem tuple_indexAt (l : Addr) (zs : Array Value) (n : Nat) (dd : Option Addr) (sl : Array (Option Value)) (x : Value) (e : Value → Bool) (j : Nat) (hj : j < zs.size)
    (hit : e zs[j] = true) (hno : ∀ m (hm : m < zs.size), m < j → e zs[m] = false) :
    Meets (Builtin.«tuple.index» ⟨[.ref l, x], []⟩)
      (fun A R s => s.heap.get? l = some { cls := .type "tuple", dict := dd, data := .seq zs n, slots := sl } ∧ (∀ y, y ∈ zs → EqAt A.in1 s y x (e y)) ∧ R (.ok (.ret (.int j s.toks))) { s with toks := s.toks + 1 }) :=
  .of_wp fun prog w A R s h => by
    obtain ⟨hp, g, d, tk, os⟩ := s; obtain ⟨hl, he, h⟩ := h
    have mn : min zs.size zs.size = zs.size := Nat.min_self _
    wp_walk using wpAny_loadPart' hl, forN _ (fun i b s' => b = (none, ()) ∧ s' = ⟨hp, g, d, tk, os⟩ ∧ i ≤ j)
    case turn =>
      rintro i b s' hi ⟨rfl, rfl, hij⟩
      rw [mn] at hi
      have e1 : zs[i]? = some zs[i] := by simp [hi]
      rw [e1]
      refine wpAny_bind (he zs[i] (by simp) prog w _ _ ?_)
      by_cases q : i = j
      · subst q
        rw [hit, if_pos rfl]
        wp_walk
        exact ⟨_, rfl, h⟩
      · rw [hno i hi (by omega), if_neg Bool.false_ne_true]
        exact wpAny_pure ⟨rfl, rfl, by omega⟩
    case last =>
      rintro b s' ⟨_, _, z⟩
      rw [mn] at z
      omega
    case h => exact ⟨rfl, rfl, Nat.zero_le _⟩
end
section
variable {X : Cx}
/-- index in a list or tuple of flat things -/
def rIdx (K : PySem.W.Frag) : V → List V → Hp → VK → Prop := fun x xs H Q => ∃ (a : Addr) (ys : List V) (y : V) (j : Nat) (z : V), x = V.ref a ∧ xs = [y] ∧ SqT K H a ys ∧ flatV y = true ∧ ys.all flatV = true ∧ ys[j]? = some z ∧ eqV z y = true ∧
  (∀ (m : Nat) (z' : V), m < j → ys[m]? = some z' → eqV z' y = false) ∧ Q (.int (j : Nat)) H
theorem mt_indexT : MtR X "tuple.index" (rIdx X.K) := by
  intro pins s σ H x xs v us Q I rx rxs h
  obtain ⟨a, ys, y, j, z, rfl, rfl, hs, fy, fys, hz, hzj, hno, q⟩ := h
  cases rx
  cases rxs with
  | cons ry rt =>
    rename_i uy ut
    cases rt
    obtain ⟨its, rv, ⟨⟨cls, dd, data, sl⟩, ho, hc, n, hd⟩, hlen⟩ := I.tuple hs
    simp only at hc hd
    subst hc; subst hd
    obtain ⟨u, hu, ru⟩ := rv.get hz
    obtain ⟨hjl, hje⟩ := List.getElem?_eq_some_iff.mp hu
    have hvl := rv.length
    have hj : j < its.toArray.size := by simpa using hjl
    refine call_meets PySem.F.slot_tuple_index ⟨_, ho, rfl⟩ PySem.F.entry_tuple_index (PySem.F.args_tuple_index_2 _ _)
      (tuple_indexAt a its.toArray n dd sl uy (eqU y) j hj ?_ ?_) ⟨ho, fun u' hu' => mem_eqAt ry fy rv fys u' (by simpa using hu'), ?_⟩
    · have e1 : its.toArray[j] = u := by simpa using hje
      rw [e1, eqU_of ru (flat_at fys hz)]
      exact hzj
    · intro m hm hmj
      have hmy : m < ys.length := by rw [hvl]; simpa using hm
      have hy' : ys[m]? = some ys[m] := List.getElem?_eq_getElem hmy
      obtain ⟨u2, hu2, ru2⟩ := rv.get hy'
      obtain ⟨_, hme⟩ := List.getElem?_eq_some_iff.mp hu2
      have e1 : its.toArray[m] = u2 := by simpa using hme
      rw [e1, eqU_of ru2 (flat_at fys hy')]
      exact hno m _ hmj hy'
    · exact ⟨.int (j : Nat), H, I.tok _, ⟨_, rfl⟩, q⟩
/-- a method of a tuple or a list -/
theorem ty_seq {pins : List (Addr × Obj)} {σ : L2.St} {H : Hp} {s : Shared} {a : Addr} {xs : List V} (I : Inv X pins σ H s) (h : SqT X.K H a xs) :
    s.TypeIs (.ref a) "tuple" ∧ ∀ b, Value.ref a = .ref b → ∃ ob, s.heap.get? b = some ob ∧ ob.dict = none := by
  obtain ⟨its, r, ⟨o, e, c, _, d⟩, _⟩ := I.tupleD h
  exact ⟨⟨o, e, c⟩, fun b q => by cases q; exact ⟨o, e, d⟩⟩
theorem pe_bmT {o e : Expr} {es : List Expr} {to : TE} {t : TA} {name : Str} {apos cpos : Pos} {id : String} {r : V → List V → Hp → VK → Prop} (pa : PlainAttrs "tuple") (slot : Slot "tuple" name id) (hty : typeOf (.builtin id) = pure (.type "method_descriptor")) (hm : MtR X id r) (ho : PE X o to) (ha : PA X (e :: es) t)
    (hbase : attributeBase o name X.env (eval o X.env) = eval o X.env)
    (hfew : ((backTo cpos (starEach (e :: es) X.env)).all (fun x => !x.1) && (backToKw cpos (keywordEach [] X.env)).all (fun x => x.1.isSome)
      && decide ((e :: es).length + ([] : List Keyword).length + (if ([] : List Keyword).isEmpty then 0 else 1) < 30)) = true)
    (hline : (apos.endLine == cpos.line) = true) (hs : starEach (e :: es) X.env = (false, eval e X.env) :: starEach es X.env) (hplain : (backTo cpos (starEach es X.env)).any (·.1) = false) :
    PE X (.Call (.Attribute o name apos) (e :: es) [] cpos) (fun σ H Q => to σ H fun x H1 => (∃ a ys, x = .ref a ∧ SqT X.K H1 a ys) ∧ t σ H1 fun xs H2 => r x xs H2 Q) := by
  intro pins s σ H Q I h
  refine wpAny_Call_method_late hbase hfew hline rfl (thn (ho pins s σ H _ I h) fun v s1 ⟨x, H1, I1, r1, ⟨a, ys, ex, hq⟩, q1⟩ => ?_)
  subst ex
  obtain rfl : v = Value.ref a := r1
  obtain ⟨h1, h2⟩ := ty_seq I1 hq
  refine ⟨"tuple", id, pa, slot, hty, h1, h2, ?_⟩
  have hA := ha cpos pins s1 σ H1 _ I1 q1
  rw [hs] at hA ⊢
  refine Calls.callWith_builtin (by show (false || (backTo cpos (starEach es X.env)).any (·.1)) = false; rw [hplain] <;> rfl) (Calls.evalArgs_plain ?_)
  exact thn hA fun us s2 ⟨vs, H2, I2, r2, q2⟩ => hm pins s2 σ H2 (.ref a) vs (.ref a) us Q I2 (show L2.RelV (.ref a) (Value.ref a) from rfl) r2 q2
end
end Ky

namespace Ky
open PySem PySem.Spec PyProof.Rows L2

theorem intsD_ok : ∀ {xs : List D} {ns : List Int}, intsD xs = some ns → xs = ns.map D.int
  | [], ns, h => by cases h; rfl
  | d :: r, ns, h => by
    cases d with
    | int i =>
      obtain ⟨m, hm, rfl⟩ := Option.map_eq_some_iff.mp (show (intsD r).map (i :: ·) = some ns from h)
      rw [intsD_ok hm]; rfl
    | _ => cases h
theorem intsD_map : ∀ ns : List Int, intsD (ns.map D.int) = some ns
  | [] => rfl
  | n :: ns => by show (intsD (ns.map D.int)).map (n :: ·) = _; rw [intsD_map ns]; rfl
theorem blsD_ok : ∀ {xs : List D} {ns : List Bool}, blsD xs = some ns → xs = ns.map D.bl
  | [], ns, h => by cases h; rfl
  | d :: r, ns, h => by
    cases d with
    | bl i =>
      obtain ⟨m, hm, rfl⟩ := Option.map_eq_some_iff.mp (show (blsD r).map (i :: ·) = some ns from h)
      rw [blsD_ok hm]; rfl
    | _ => cases h
theorem blsD_map : ∀ ns : List Bool, blsD (ns.map D.bl) = some ns
  | [] => rfl
  | n :: ns => by show (blsD (ns.map D.bl)).map (n :: ·) = _; rw [blsD_map ns]; rfl
theorem big_eq : sizeLine = big := sizeLine_eq

section
variable {g : G} {th om : List Addr} {H : Hp} {m : M}
/-- a value without an object of its own -/
theorem Aft.same {m' : M} {d : D} {Q : VK} {v : V} (a : Aft g th om H m' d Q) (r : MRep g th om H m') (q : Rep g th om H v d) : Q v H := a v th H Ext.refl r q
theorem Aft.newT {xs : List V} {ds : List D} {Q : VK} (a : Aft g th om H m (.tup ds) Q) (r : MRep g th om H m) (q : RepA g th om H xs ds) : ∀ p, H p = none → Q (.ref p) (upd H p (.tup xs)) := fun p hp => by
  have x : Ext th om H th (upd H p (.tup xs)) := Ext.new r hp
  exact a (.ref p) th _ x (r.new hp) (.tup (.inl (.inl upd_same)) (q.mono x))
theorem Aft.newL {xs : List V} {ds : List D} {Q : VK} (a : Aft g th om H m (.lst ds) Q) (r : MRep g th om H m) (q : RepA g th om H xs ds) : ∀ p, H p = none → Q (.ref p) (upd H p (.lst xs)) := fun p hp => by
  have x : Ext th om H th (upd H p (.lst xs)) := Ext.new r hp
  obtain ⟨n1, n2⟩ := r.fresh hp
  exact a (.ref p) th _ x (r.new hp) (.lst upd_same n1 n2 (q.mono x))
theorem Aft.newM {xs : List V} {ds : List D} {Q : VK} (a : Aft g th om H (m ++ [.ml ds]) (.h m.length) Q) (r : MRep g th om H m) (q : RepA g th om H xs ds) : ∀ p, H p = none → Q (.ref p) (upd H p (.lst xs)) := fun p hp => by
  have x : Ext th om H (th ++ [p]) (upd H p (.lst xs)) := Ext.newM r hp
  refine a (.ref p) (th ++ [p]) _ x (r.newM hp q) (.h ?_)
  rw [← r.len, List.getElem?_append_right (Nat.le_refl _)]
  simp
/-- what lies behind a list or tuple -/
theorem seqOf_ok {v : V} {d : D} {ds : List D} (r : MRep g th om H m) (q : Rep g th om H v d) (h : seqOf m d = some ds) :
    ∃ a xs, v = .ref a ∧ RepA g th om H xs ds ∧ ((SqT g.K H a xs ∧ d = .tup ds) ∨ (SqL g.K H a xs ∧ (∀ es, d ≠ .tup es))) := by
  cases q with
  | tup hs ha => cases h; exact ⟨_, _, rfl, ha, .inl ⟨hs, rfl⟩⟩
  | lst hs n1 n2 ha => cases h; exact ⟨_, _, rfl, ha, .inr ⟨.inl (.inl hs), fun _ z => by cases z⟩⟩
  | scr hs ha => cases h; exact ⟨_, _, rfl, ha, .inr ⟨hs.sq, fun _ z => by cases z⟩⟩
  | @h n a e =>
    unfold seqOf at h
    simp only at h
    split at h
    · rename_i ys hy
      cases h
      obtain ⟨xs, e1, q1⟩ := r.ob n a _ e hy
      exact ⟨_, _, rfl, q1, .inr ⟨.inl (.inl e1), fun _ z => by cases z⟩⟩
    · cases h
  | _ => cases h
end

/-! ### the operations -/
section
variable {g : G} {X : Cx}
theorem core_add : CoreB g .add (fun x y H Q => rI0 (fun i j => .int (i + j)) x y H Q ∨ rCatX g.K x y H Q ∨ rCat x y H Q) := by
  intro th om H m vx vy x y d m' Q mr rx ry h af
  cases rx with
  | int i =>
    cases ry with
    | int j => cases h; exact .inl ⟨_, _, rfl, rfl, af.same mr (.int _)⟩
    | _ => cases h
  | @tup a xs ds hs ha =>
    cases ry with
    | @tup b ys es hs2 hb =>
      have h' : (if ds.length + es.length ≤ big then some (D.tup (ds ++ es), m) else none) = some (d, m') := h
      split at h'
      · rename_i hz
        cases h'
        have l1 := ha.length
        have l2 := hb.length
        refine .inr (.inl ⟨a, b, xs, ys, rfl, rfl, hs, hs2, by rw [big_eq, l1, l2]; exact hz, fun e => ?_, fun _ e => ?_, fun _ _ => ?_⟩)
        · subst e; cases ha; exact af.same mr (.tup hs2 hb)
        · subst e; cases hb; rw [List.append_nil] at af; exact af.same mr (.tup hs ha)
        · exact af.newT mr (ha.append hb)
      · cases h'
    | _ => cases h
  | @lst a xs ds hs n1 n2 ha =>
    cases ry with
    | @lst b ys es hs2 n3 n4 hb =>
      have h' : (if ds.length + es.length ≤ big then some (D.lst (ds ++ es), m) else none) = some (d, m') := h
      split at h'
      · rename_i hz
        cases h'
        have l1 := ha.length
        have l2 := hb.length
        exact .inr (.inr ⟨a, b, xs, ys, rfl, rfl, hs, hs2, by rw [big_eq, l1, l2]; exact hz, af.newL mr (ha.append hb)⟩)
      · cases h'
    | _ => cases h
  | _ => cases ry <;> cases h
theorem core_sub : CoreB g .sub (rI0 fun i j => .int (i - j)) := by
  intro th om H m vx vy x y d m' Q mr rx ry h af
  cases rx with
  | int i =>
    cases ry with
    | int j => cases h; exact ⟨_, _, rfl, rfl, af.same mr (.int _)⟩
    | _ => cases h
  | _ => cases ry <;> cases h
theorem core_mul : CoreB g .mul (rI CMul fun i j => .int (i * j)) := by
  intro th om H m vx vy x y d m' Q mr rx ry h af
  cases rx with
  | int i =>
    cases ry with
    | int j =>
      have h' : (if mulOk i j then some (D.int (i * j), m) else none) = some (d, m') := h
      split at h'
      · rename_i hz
        cases h'
        refine ⟨_, _, rfl, rfl, ?_, af.same mr (.int _)⟩
        unfold mulOk at hz
        simp only [Bool.or_eq_true, Bool.and_eq_true, decide_eq_true_eq] at hz
        exact hz
      · cases h'
    | _ => cases h
  | _ => cases ry <;> cases h
theorem core_fdiv : CoreB g .fdiv (rI CDiv fun i j => .int (i / j)) := by
  intro th om H m vx vy x y d m' Q mr rx ry h af
  cases rx with
  | int i =>
    cases ry with
    | int j =>
      have h' : (if 0 < j ∧ j < 1073741824 then some (D.int (i / j), m) else none) = some (d, m') := h
      split at h'
      · rename_i hz; cases h'; exact ⟨_, _, rfl, rfl, hz, af.same mr (.int _)⟩
      · cases h'
    | _ => cases h
  | _ => cases ry <;> cases h
theorem core_mod : CoreB g .mod (rI (fun _ j => 0 < j) fun i j => .int (i % j)) := by
  intro th om H m vx vy x y d m' Q mr rx ry h af
  cases rx with
  | int i =>
    cases ry with
    | int j =>
      have h' : (if 0 < j then some (D.int (i % j), m) else none) = some (d, m') := h
      split at h'
      · rename_i hz; cases h'; exact ⟨_, _, rfl, rfl, hz, af.same mr (.int _)⟩
      · cases h'
    | _ => cases h
  | _ => cases ry <;> cases h
theorem eqD_ok {th om : List Addr} {H : Hp} {vx vy : V} {x y : D} {b : Bool} (rx : Rep g th om H vx x) (ry : Rep g th om H vy y) (h : eqD x y = some b) : scal vx vy = true ∧ decide (vx = vy) = b := by
  cases rx <;> cases ry <;> first | (cases h; done) | (cases h; exact ⟨rfl, by simp⟩)
theorem core_eq : CoreB g .eq rEq := by
  intro th om H m vx vy x y d m' Q mr rx ry h af
  obtain ⟨b, hb, e⟩ := Option.map_eq_some_iff.mp (show (eqD x y).map (fun b => (D.bl b, m)) = some (d, m') from h)
  cases e
  obtain ⟨h1, h2⟩ := eqD_ok rx ry hb
  exact ⟨h1, by rw [h2]; exact af.same mr (.bl b)⟩
theorem core_ne : CoreB g .ne rNe := by
  intro th om H m vx vy x y d m' Q mr rx ry h af
  obtain ⟨b, hb, e⟩ := Option.map_eq_some_iff.mp (show (eqD x y).map (fun b => (D.bl (!b), m)) = some (d, m') from h)
  cases e
  obtain ⟨h1, h2⟩ := eqD_ok rx ry hb
  exact ⟨h1, by rw [h2]; exact af.same mr (.bl _)⟩
theorem core_lt : CoreB g .lt (fun x y H Q => rI0 (fun i j => .bl (decide (i < j))) x y H Q ∨ rLtT g.K x y H Q) := by
  intro th om H m vx vy x y d m' Q mr rx ry h af
  cases rx with
  | int i =>
    cases ry with
    | int j => cases h; exact .inl ⟨_, _, rfl, rfl, af.same mr (.bl _)⟩
    | _ => cases h
  | @tup a xs ds hs ha =>
    cases ry with
    | @tup b ys es hs2 hb =>
      obtain ⟨ns, e1, h⟩ := Option.bind_eq_some_iff.mp (show (intsD ds).bind (fun a => (intsD es).bind fun b => some (D.bl (HT.lexLt a b), m)) = some (d, m') from h)
      obtain ⟨ms, e2, h⟩ := Option.bind_eq_some_iff.mp h
      cases h
      rw [intsD_ok e1] at ha
      rw [intsD_ok e2] at hb
      rw [ha.ints] at hs
      rw [hb.ints] at hs2
      exact .inr ⟨a, b, ns, ms, rfl, rfl, hs, hs2, af.same mr (.bl _)⟩
    | _ => cases h
  | _ => cases ry <;> cases h
theorem core_gt : CoreB g .gt (fun x y H Q => rI0 (fun i j => .bl (decide (j < i))) x y H Q ∨ rGtT g.K x y H Q) := by
  intro th om H m vx vy x y d m' Q mr rx ry h af
  cases rx with
  | int i =>
    cases ry with
    | int j => cases h; exact .inl ⟨_, _, rfl, rfl, af.same mr (.bl _)⟩
    | _ => cases h
  | @tup a xs ds hs ha =>
    cases ry with
    | @tup b ys es hs2 hb =>
      obtain ⟨ns, e1, h⟩ := Option.bind_eq_some_iff.mp (show (intsD ds).bind (fun a => (intsD es).bind fun b => some (D.bl (HT.lexLt b a), m)) = some (d, m') from h)
      obtain ⟨ms, e2, h⟩ := Option.bind_eq_some_iff.mp h
      cases h
      rw [intsD_ok e1] at ha
      rw [intsD_ok e2] at hb
      rw [ha.ints] at hs
      rw [hb.ints] at hs2
      exact .inr ⟨a, b, ns, ms, rfl, rfl, hs, hs2, af.same mr (.bl _)⟩
    | _ => cases h
  | _ => cases ry <;> cases h
theorem core_le : CoreB g .le (rI0 fun i j => .bl (decide (i ≤ j))) := by
  intro th om H m vx vy x y d m' Q mr rx ry h af
  cases rx with
  | int i =>
    cases ry with
    | int j => cases h; exact ⟨_, _, rfl, rfl, af.same mr (.bl _)⟩
    | _ => cases h
  | _ => cases ry <;> cases h
theorem core_ge : CoreB g .ge (rI0 fun i j => .bl (decide (j ≤ i))) := by
  intro th om H m vx vy x y d m' Q mr rx ry h af
  cases rx with
  | int i =>
    cases ry with
    | int j => cases h; exact ⟨_, _, rfl, rfl, af.same mr (.bl _)⟩
    | _ => cases h
  | _ => cases ry <;> cases h
theorem flat_ints : ∀ ns : List Int, (ns.map V.int).all flatV = true
  | [] => rfl
  | _ :: ns => by show (true && (ns.map V.int).all flatV) = true; rw [flat_ints ns]; rfl
theorem inV_ints (i : Int) : ∀ ns : List Int, inV (.int i) (ns.map V.int) = inI i ns
  | [] => rfl
  | n :: ns => by show ((n == i) || inV (.int i) (ns.map V.int)) = ((n == i) || inI i ns); rw [inV_ints i ns]
theorem core_in : CoreB g .isin (rIn g.K false) := by
  intro th om H m vx vy x y d m' Q mr rx ry h af
  cases rx with
  | int i =>
    cases ry with
    | @tup b ys es hs2 hb =>
      obtain ⟨ns, e1, h⟩ := Option.map_eq_some_iff.mp (show (intsD es).map (fun a => (D.bl (inI i a), m)) = some (d, m') from h)
      cases h
      rw [intsD_ok e1] at hb
      rw [hb.ints] at hs2
      exact ⟨b, _, rfl, .inr hs2, rfl, flat_ints ns, by rw [if_neg Bool.false_ne_true, inV_ints]; exact af.same mr (.bl _)⟩
    | _ => cases h
  | _ => cases ry <;> cases h
theorem core_notin : CoreB g .notin (rIn g.K true) := by
  intro th om H m vx vy x y d m' Q mr rx ry h af
  cases rx with
  | int i =>
    cases ry with
    | @tup b ys es hs2 hb =>
      obtain ⟨ns, e1, h⟩ := Option.map_eq_some_iff.mp (show (intsD es).map (fun a => (D.bl (!inI i a), m)) = some (d, m') from h)
      cases h
      rw [intsD_ok e1] at hb
      rw [hb.ints] at hs2
      exact ⟨b, _, rfl, .inr hs2, rfl, flat_ints ns, by rw [if_pos rfl, inV_ints]; exact af.same mr (.bl _)⟩
    | _ => cases h
  | _ => cases ry <;> cases h
theorem atI_rep {th om : List Addr} {H : Hp} {xs : List V} {ds : List D} {i : Int} {d : D} (ha : RepA g th om H xs ds) (h : atI ds i = some d) : ∃ v, atI xs i = some v ∧ Rep g th om H v d := by
  unfold atI at h ⊢
  obtain ⟨j, h1, h2⟩ := Option.bind_eq_some_iff.mp h
  obtain ⟨v, h3, h4⟩ := ha.get h2
  exact ⟨v, by rw [ha.length, h1]; exact h3, h4⟩
theorem core_ix : CoreB g .ix (rIx g.K) := by
  intro th om H m vx vy x y d m' Q mr rx ry h af
  cases ry with
  | int i =>
    obtain ⟨ds, e1, h⟩ := Option.bind_eq_some_iff.mp (show (seqOf m x).bind (fun xs => (atI xs i).map fun d => (d, m)) = some (d, m') from (by cases x <;> exact h))
    obtain ⟨z, e2, h⟩ := Option.map_eq_some_iff.mp h
    cases h
    obtain ⟨a, xs, rfl, ha, hh⟩ := seqOf_ok mr rx e1
    obtain ⟨v, e3, rv⟩ := atI_rep ha e2
    rcases hh with ⟨hs, _⟩ | ⟨hs, _⟩
    · exact .inr (.inl ⟨a, xs, i, v, rfl, rfl, hs, e3, af.same mr rv⟩)
    · exact .inl ⟨a, xs, i, v, rfl, rfl, hs, e3, af.same mr rv⟩
  | _ => cases x <;> cases h
theorem core_max : CoreB g .max (fun x y H Q => ∃ i j, x = .int i ∧ y = .int j ∧ Q (.int (if j > i then j else i)) H) := by
  intro th om H m vx vy x y d m' Q mr rx ry h af
  cases rx with
  | int i =>
    cases ry with
    | int j => cases h; exact ⟨_, _, rfl, rfl, af.same mr (.int _)⟩
    | _ => cases h
  | _ => cases ry <;> cases h
theorem core_min : CoreB g .min (fun x y H Q => ∃ i j, x = .int i ∧ y = .int j ∧ Q (.int (if j < i then j else i)) H) := by
  intro th om H m vx vy x y d m' Q mr rx ry h af
  cases rx with
  | int i =>
    cases ry with
    | int j => cases h; exact ⟨_, _, rfl, rfl, af.same mr (.int _)⟩
    | _ => cases h
  | _ => cases ry <;> cases h
end
end Ky

namespace Ky
open PySem PySem.Spec PyProof.Rows L2
section
variable {g : G} {X : Cx}
theorem core_neg : CoreU g .neg (rU fun i => .int (-i)) := by
  intro th om H m vx x d m' Q mr rx h af
  cases rx with
  | int i => cases h; exact ⟨_, rfl, af.same mr (.int _)⟩
  | _ => cases h
theorem core_isN : CoreU g .isN (fun x H Q => Q (.bl (decide (x = .non))) H) := by
  intro th om H m vx x d m' Q mr rx h af
  cases rx <;> (cases h; exact af.same mr (.bl _))
theorem core_notN : CoreU g .notN (fun x H Q => Q (.bl (!decide (x = .non))) H) := by
  intro th om H m vx x d m' Q mr rx h af
  cases rx <;> (cases h; exact af.same mr (.bl _))
theorem core_len : CoreU g .len (fun x H Q => ∃ n, LenV g.K x H n ∧ Q (.int n) H) := by
  intro th om H m vx x d m' Q mr rx h af
  obtain ⟨ds, e1, h⟩ := Option.map_eq_some_iff.mp (show (seqOf m x).map (fun xs => (D.int xs.length, m)) = some (d, m') from (by cases x <;> exact h))
  cases h
  obtain ⟨a, xs, rfl, ha, hh⟩ := seqOf_ok mr rx e1
  refine ⟨ds.length, ?_, af.same mr (.int _)⟩
  rcases hh with ⟨hs, _⟩ | ⟨hs, _⟩
  · exact .inr ⟨xs, hs, ha.length.symm⟩
  · exact .inl ⟨xs, hs, ha.length.symm⟩
theorem core_abs : CoreU g .abs (fun x H Q => ∃ i, x = .int i ∧ Q (.int (if i < 0 then -i else i)) H) := by
  intro th om H m vx x d m' Q mr rx h af
  cases rx with
  | int i => cases h; exact ⟨_, rfl, af.same mr (.int _)⟩
  | _ => cases h
theorem core_tuple : CoreU g .tuple (fun x H Q => ∃ p ys, x = .ref p ∧ ((SqL g.K H p ys ∧ ∀ l, H l = none → Q (.ref l) (upd H l (.tup ys))) ∨ (SqT g.K H p ys ∧ Q (.ref p) H))) := by
  intro th om H m vx x d m' Q mr rx h af
  obtain ⟨ds, e1, h⟩ := Option.map_eq_some_iff.mp (show (seqOf m x).map (fun xs => (D.tup xs, m)) = some (d, m') from (by cases x <;> exact h))
  cases h
  obtain ⟨a, xs, rfl, ha, hh⟩ := seqOf_ok mr rx e1
  refine ⟨a, xs, rfl, ?_⟩
  rcases hh with ⟨hs, _⟩ | ⟨hs, _⟩
  · exact .inr ⟨hs, af.same mr (.tup hs ha)⟩
  · exact .inl ⟨hs, af.newT mr ha⟩
theorem core_list : CoreU g .list (fun x H Q => ∃ p ys, x = .ref p ∧ (SqL g.K H p ys ∨ SqT g.K H p ys) ∧ ∀ l, H l = none → Q (.ref l) (upd H l (.lst ys))) := by
  intro th om H m vx x d m' Q mr rx h af
  obtain ⟨ds, e1, h⟩ := Option.map_eq_some_iff.mp (show (seqOf m x).map (fun xs => (D.lst xs, m)) = some (d, m') from (by cases x <;> exact h))
  cases h
  obtain ⟨a, xs, rfl, ha, hh⟩ := seqOf_ok mr rx e1
  exact ⟨a, xs, rfl, hh.elim (fun z => .inr z.1) (fun z => .inl z.1), af.newL mr ha⟩
theorem core_all : CoreU g .all (fun x H Q => rAll g.K [x] H Q) := by
  intro th om H m vx x d m' Q mr rx h af
  cases rx with
  | @lst a xs ds hs n1 n2 ha =>
    obtain ⟨bs, e1, h⟩ := Option.map_eq_some_iff.mp (show (blsD ds).map (fun bs => (D.bl (bs.all id), m)) = some (d, m') from h)
    cases h
    rw [blsD_ok e1] at ha
    rw [ha.bls] at hs
    exact ⟨a, bs, rfl, .inl (.inl hs), af.same mr (.bl _)⟩
  | _ => cases h
theorem core_any : CoreU g .any (fun x H Q => rAny g.K [x] H Q) := by
  intro th om H m vx x d m' Q mr rx h af
  cases rx with
  | @lst a xs ds hs n1 n2 ha =>
    obtain ⟨bs, e1, h⟩ := Option.map_eq_some_iff.mp (show (blsD ds).map (fun bs => (D.bl (bs.any id), m)) = some (d, m') from h)
    cases h
    rw [blsD_ok e1] at ha
    rw [ha.bls] at hs
    exact ⟨a, bs, rfl, .inl (.inl hs), af.same mr (.bl _)⟩
  | _ => cases h
theorem core_sum : CoreU g .sum (fun x H Q => rSum g.K [x] H Q) := by
  intro th om H m vx x d m' Q mr rx h af
  cases rx with
  | @lst a xs ds hs n1 n2 ha =>
    obtain ⟨bs, e1, h⟩ := Option.map_eq_some_iff.mp (show (intsD ds).map (fun bs => (D.int bs.sum, m)) = some (d, m') from h)
    cases h
    rw [intsD_ok e1] at ha
    rw [ha.ints] at hs
    exact ⟨a, bs, rfl, .inl (.inl hs), af.same mr (.int _)⟩
  | _ => cases h
theorem insI_perm (x : Int) : ∀ r : List Int, (insI x r).Perm (x :: r)
  | [] => .refl _
  | y :: r => by
    unfold insI
    split
    · exact .refl _
    · exact ((insI_perm x r).cons y).trans (.swap x y r)
theorem sortI_perm : ∀ r : List Int, (sortI r).Perm r
  | [] => .refl _
  | x :: r => by
    unfold sortI
    exact (insI_perm x _).trans ((sortI_perm r).cons x)
theorem insI_sorted (x : Int) : ∀ {r : List Int}, r.Pairwise (· ≤ ·) → (insI x r).Pairwise (· ≤ ·)
  | [], _ => by simp [insI]
  | y :: r, h => by
    unfold insI
    obtain ⟨h1, h2⟩ := List.pairwise_cons.mp h
    split
    · rename_i hx
      refine List.pairwise_cons.mpr ⟨fun z hz => ?_, h⟩
      rcases List.mem_cons.mp hz with rfl | hz
      · omega
      · have := h1 z hz; omega
    · rename_i hx
      refine List.pairwise_cons.mpr ⟨fun z hz => ?_, insI_sorted x h2⟩
      rcases List.mem_cons.mp ((insI_perm x r).mem_iff.mp hz) with rfl | hz
      · omega
      · exact h1 z hz
theorem sortI_sorted : ∀ r : List Int, (sortI r).Pairwise (· ≤ ·)
  | [] => .nil
  | x :: r => by unfold sortI; exact insI_sorted x (sortI_sorted r)
theorem perm_sorted_eq : ∀ {l m : List Int}, l.Perm m → l.Pairwise (· ≤ ·) → m.Pairwise (· ≤ ·) → l = m
  | [], m, h, _, _ => by rw [h.nil_eq]
  | x :: l, [], h, _, _ => by cases h.length_eq
  | x :: l, y :: m, h, h1, h2 => by
    obtain ⟨a1, a2⟩ := List.pairwise_cons.mp h1
    obtain ⟨b1, b2⟩ := List.pairwise_cons.mp h2
    have e : x = y := by
      have u : x ∈ y :: m := h.mem_iff.mp List.mem_cons_self
      have v : y ∈ x :: l := h.mem_iff.mpr List.mem_cons_self
      rcases List.mem_cons.mp u with z | z
      · exact z
      · rcases List.mem_cons.mp v with w | w
        · exact w.symm
        · have := b1 x z; have := a1 y w; omega
    subst e
    rw [perm_sorted_eq (h.cons_inv) a2 b2]
theorem core_sorted : CoreU g .sorted (fun x H Q => rSortT g.K [x] H Q) := by
  intro th om H m vx x d m' Q mr rx h af
  cases rx with
  | @tup a xs ds hs ha =>
    obtain ⟨ns, e1, h⟩ := Option.bind_eq_some_iff.mp (show (intsD ds).bind (fun ns => if ns.length < 64 then some (D.lst ((sortI ns).map D.int), m) else none) = some (d, m') from h)
    split at h
    · rename_i hz
      cases h
      rw [intsD_ok e1] at ha
      rw [ha.ints] at hs
      refine ⟨a, ns, rfl, hs, hz, fun ms p h1 h2 hp => ?_⟩
      have e : ms = sortI ns := perm_sorted_eq (h1.trans (sortI_perm ns).symm) h2 (sortI_sorted ns)
      subst e
      exact af.newL mr (.ofInts _) p hp
    · cases h
  | _ => cases h
/-- list(range(n)): the range, then the list -/
def rLrng : V → Hp → VK → Prop := fun x H Q => ∃ n : Int, x = .int n ∧ 0 ≤ n ∧ n ≤ 1000 ∧ ∀ r, H r = none → ∀ p, (upd H r (.rng 0 n)) p = none → Q (.ref p) (upd (upd H r (.rng 0 n)) p (.lst ((List.range n.toNat).map fun k => .int (k : Nat))))
theorem core_lrng : CoreU g .lrng rLrng := by
  intro th om H m vx x d m' Q mr rx h af
  cases rx with
  | int n =>
    have h' : (if 0 ≤ n ∧ n ≤ 1000 then some (D.lst ((List.range n.toNat).map fun k => .int (k : Nat)), m) else none) = some (d, m') := h
    split at h'
    · rename_i hz
      cases h'
      refine ⟨n, rfl, hz.1, hz.2, fun r hr p hp => ?_⟩
      have q : RepA g th om (upd H r (.rng 0 n)) ((List.range n.toNat).map fun k => V.int (k : Nat)) ((List.range n.toNat).map fun k => D.int (k : Nat)) := by
        have := RepA.ofInts (g := g) (th := th) (om := om) (H := upd H r (.rng 0 n)) ((List.range n.toNat).map fun (k : Nat) => (k : Int))
        rw [List.map_map, List.map_map] at this
        exact this
      exact (af.mono (Ext.new mr hr)).newL (mr.new hr) q p hp
    · cases h'
  | _ => cases h
theorem core_append : CoreB g .append (fun x y H Q => ∃ l xs, x = .ref l ∧ H l = some (.lst xs) ∧ xs.length < sizeLine ∧ Q .non (upd H l (.lst (xs ++ [y])))) := by
  intro th om H m vx vy x y d m' Q mr rx ry h af
  cases rx with
  | @h n a e =>
    have h' : (match m[n]? with
      | some (.ml xs) => if xs.length < big then some (D.non, m.set n (.ml (xs ++ [y]))) else none
      | none => none) = some (d, m') := (by cases y <;> exact h)
    split at h'
    · rename_i ys hy
      split at h'
      · rename_i hz
        cases h'
        obtain ⟨xs, e1, q1⟩ := mr.ob n a _ e hy
        have x1 : Ext th om H th (upd H a (.lst (xs ++ [vy]))) := Ext.write mr e
        exact ⟨a, xs, rfl, e1, by rw [big_eq, q1.length]; exact hz, af .non th _ x1 (mr.write e (q1.append (.cons ry .nil))) .non⟩
      · cases h'
    · cases h'
  | _ => cases y <;> cases h
theorem idxI_ok {x : Int} : ∀ {ns : List Int} {k : Nat}, idxI x ns = some k → ns[k]? = some x ∧ ∀ (j : Nat) (z : Int), j < k → ns[j]? = some z → z ≠ x
  | [], _, h => by cases h
  | y :: r, k, h => by
    unfold idxI at h
    split at h
    · rename_i e
      cases h
      exact ⟨by simpa using e, fun j z hj => absurd hj (by omega)⟩
    · rename_i e
      obtain ⟨k', hk, rfl⟩ := Option.map_eq_some_iff.mp h
      obtain ⟨h1, h2⟩ := idxI_ok hk
      refine ⟨by simpa using h1, fun j z hj hz => ?_⟩
      cases j with
      | zero => simp at hz; subst hz; simpa using e
      | succ j => exact h2 j z (by omega) (by simpa using hz)
theorem idx_read {i : Int} {ns : List Int} {k : Nat} (h : idxI i ns = some k) : (ns.map V.int)[k]? = some (.int i) ∧ eqV (.int i) (.int i) = true ∧ ∀ (m : Nat) (z' : V), m < k → (ns.map V.int)[m]? = some z' → eqV z' (.int i) = false := by
  obtain ⟨h1, h2⟩ := idxI_ok h
  refine ⟨by rw [List.getElem?_map, h1]; rfl, by simp [eqV], fun m z' hm hz => ?_⟩
  rw [List.getElem?_map] at hz
  obtain ⟨w, hw, rfl⟩ := Option.map_eq_some_iff.mp hz
  have := h2 m w hm hw
  simp [eqV, this]
theorem core_idxT {th om : List Addr} {H : Hp} {m m' : M} {vx vy : V} {ds : List D} {i : Int} {d : D} {Q : VK} (mr : MRep g th om H m) (rx : Rep g th om H vx (.tup ds)) (ry : Rep g th om H vy (.int i)) (h : b2 .index (.tup ds) (.int i) m = some (d, m')) (af : Aft g th om H m' d Q) : rIdx g.K vx [vy] H Q := by
  cases ry
  cases rx with
  | @tup a xs _ hs ha =>
    obtain ⟨ns, e1, h⟩ := Option.bind_eq_some_iff.mp (show (intsD ds).bind (fun a => (idxI i a).map fun k => (D.int (k : Nat), m)) = some (d, m') from h)
    obtain ⟨k, e2, h⟩ := Option.map_eq_some_iff.mp h
    cases h
    rw [intsD_ok e1] at ha
    rw [ha.ints] at hs
    obtain ⟨i1, i2, i3⟩ := idx_read e2
    exact ⟨a, _, _, k, _, rfl, rfl, hs, rfl, flat_ints ns, i1, i2, i3, af.same mr (.int _)⟩
theorem core_idxL {th om : List Addr} {H : Hp} {m m' : M} {vx vy : V} {ds : List D} {i : Int} {d : D} {Q : VK} (mr : MRep g th om H m) (rx : Rep g th om H vx (.lst ds)) (ry : Rep g th om H vy (.int i)) (h : b2 .index (.lst ds) (.int i) m = some (d, m')) (af : Aft g th om H m' d Q) : rIndex g.K vx [vy] H Q := by
  cases ry
  cases rx with
  | @lst a xs _ hs n1 n2 ha =>
    obtain ⟨ns, e1, h⟩ := Option.bind_eq_some_iff.mp (show (intsD ds).bind (fun a => (idxI i a).map fun k => (D.int (k : Nat), m)) = some (d, m') from h)
    obtain ⟨k, e2, h⟩ := Option.map_eq_some_iff.mp h
    cases h
    rw [intsD_ok e1] at ha
    rw [ha.ints] at hs
    obtain ⟨i1, i2, i3⟩ := idx_read e2
    exact ⟨a, _, _, k, _, rfl, rfl, .inl (.inl hs), rfl, flat_ints ns, i1, i2, i3, af.same mr (.int _)⟩
end
end Ky

namespace Ky
open PySem PySem.Spec PyProof.Rows L2

/-- what stays for those who only read -/
structure Exw (th om : List Addr) (H : Hp) (th' : List Addr) (H' : Hp) : Prop where
  pre : ∃ t, th' = th ++ t
  tup : ∀ a xs, Rd H a (.tup xs) → Rd H' a (.tup xs)
  lst : ∀ a xs, a ∉ th → a ∉ om → H a = some (.lst xs) → H' a = some (.lst xs) ∧ a ∉ th'
  frz : ∀ a o u, H a = some (.frz o u) → H' a = some (.frz o u)
theorem Ext.w {th om th' : List Addr} {H H' : Hp} (x : Ext th om H th' H') : Exw th om H th' H' := ⟨x.pre, x.tup, x.lst, x.frz⟩
theorem Exw.trans {th om th1 th2 : List Addr} {H H1 H2 : Hp} (a : Exw th om H th1 H1) (b : Exw th1 om H1 th2 H2) : Exw th om H th2 H2 := by
  obtain ⟨⟨t1, e1⟩, a2, a3, af⟩ := a
  obtain ⟨⟨t2, e2⟩, b2, b3, bf⟩ := b
  refine ⟨⟨t1 ++ t2, by rw [e2, e1, List.append_assoc]⟩, fun a xs h => b2 a xs (a2 a xs h), fun a xs h1 h2 r => ?_, fun a o u h => bf a o u (af a o u h)⟩
  obtain ⟨r1, n1⟩ := a3 a xs h1 h2 r
  exact b3 a xs n1 h2 r1
section
variable {g : G} {th om om' th' : List Addr} {H H' : Hp}
mutual
theorem Rep.up (x : Exw th om H th' H') (o : ∀ a ∈ om', a ∈ om ∨ H a = none) : ∀ {v : V} {d : D}, Rep g th om H v d → Rep g th' om' H' v d
  | _, _, .non => .non
  | _, _, .bl b => .bl b
  | _, _, .int i => .int i
  | _, _, .str s => .str s
  | _, _, .tup h r => .tup (by
      rcases h with h | h
      · exact .inl (x.tup _ _ h)
      · exact .inr h) (RepA.up x o r)
  | _, _, .lst h n1 n2 r => .lst (x.lst _ _ n1 n2 h).1 (x.lst _ _ n1 n2 h).2 (fun z => (o _ z).elim n2 fun q => by rw [h] at q; cases q) (RepA.up x o r)
  | _, _, .scr h r => .scr (by
      rcases h with ⟨o, h⟩ | h
      · exact .inl ⟨o, x.frz _ _ _ h⟩
      · exact .inr h) (RepA.up x o r)
  | _, _, .fn h => .fn h
  | _, _, .h e => .h (by
      obtain ⟨⟨t, rfl⟩, _⟩ := x
      rw [List.getElem?_append_left (List.getElem?_eq_some_iff.mp e).1]
      exact e)
theorem RepA.up (x : Exw th om H th' H') (o : ∀ a ∈ om', a ∈ om ∨ H a = none) : ∀ {vs : List V} {ds : List D}, RepA g th om H vs ds → RepA g th' om' H' vs ds
  | _, _, .nil => .nil
  | _, _, .cons r t => .cons (Rep.up x o r) (RepA.up x o t)
end
theorem EnvR.up {σ : L2.St} {ρ : Env} (e : EnvR g th om H σ ρ) (x : Exw th om H th' H') (o : ∀ a ∈ om', a ∈ om ∨ H a = none) : EnvR g th' om' H' σ ρ := ⟨e.len, fun i d h => let ⟨v, h1, h2⟩ := e.at_ i d h; ⟨v, h1, h2.up x o⟩⟩
theorem MRep.less {m : M} {p : Addr} (r : MRep g th (p :: om) H m) : MRep g th om H m := by
  refine ⟨r.len, r.nd, fun n a o h1 h2 => ?_, fun a h z => r.dis a h (List.mem_cons_of_mem _ z), fun a h => r.oms a (List.mem_cons_of_mem _ h)⟩
  have := r.ob n a o h1 h2
  cases o with
  | ml ds => obtain ⟨xs, e, q⟩ := this; exact ⟨xs, e, q.less fun a h => List.mem_cons_of_mem _ h⟩
/-- a list that grows (a comprehension's) is laid -/
theorem MRep.grow {m : M} {p : Addr} {o : HO} (r : MRep g th om H m) (hp : H p = none) : MRep g th (p :: om) (upd H p o) m := by
  obtain ⟨n1, n2⟩ := r.fresh hp
  have x : Ext th om H th (upd H p o) := Ext.new r hp
  have ox : ∀ a ∈ p :: om, a ∈ om ∨ H a = none := fun a h => (List.mem_cons.mp h).elim (fun z => .inr (by rw [z]; exact hp)) .inl
  refine ⟨r.len, r.nd, fun n a o' h1 h2 => ?_, fun a h z => ?_, fun a h => ?_⟩
  · have ha : a ≠ p := fun z => n1 (by rw [← z]; exact List.mem_of_getElem? h1)
    cases o' with
    | ml ds =>
      obtain ⟨xs, e, q⟩ := r.ob n a _ h1 h2
      exact ⟨xs, by rw [upd_ne ha]; exact e, q.up x.w ox⟩
  · rcases List.mem_cons.mp z with z | z
    · subst z; exact n1 h
    · exact r.dis a h z
  · rcases List.mem_cons.mp h with z | z
    · subst z; rw [upd_same]; exact fun q => by cases q
    · rw [x.own a z]; exact r.oms a z
/-- the growing list is written -/
theorem MRep.grown {m : M} {p : Addr} {xs ys : List V} (r : MRep g th (p :: om) H m) (hp : H p = some (.lst xs)) : MRep g th (p :: om) (upd H p (.lst ys)) m ∧ (∀ {v : V} {d : D}, Rep g th (p :: om) H v d → Rep g th (p :: om) (upd H p (.lst ys)) v d) := by
  have np : p ∉ th := fun h => r.dis p h List.mem_cons_self
  have key : ∀ {v : V} {d : D}, Rep g th (p :: om) H v d → Rep g th (p :: om) (upd H p (.lst ys)) v d := by
    have x : Ext th (p :: om) H th H := Ext.refl
    intro v d q
    exact keyR np hp q
  refine ⟨⟨r.len, r.nd, fun n a o' h1 h2 => ?_, r.dis, fun a h => ?_⟩, key⟩
  · have ha : a ≠ p := fun z => np (by rw [← z]; exact List.mem_of_getElem? h1)
    cases o' with
    | ml ds =>
      obtain ⟨zs, e, q⟩ := r.ob n a _ h1 h2
      exact ⟨zs, by rw [upd_ne ha]; exact e, keyA np hp q⟩
  · by_cases z : a = p
    · subst z; rw [upd_same]; exact fun q => by cases q
    · rw [upd_ne z]; exact r.oms a h
where
  keyR {g : G} {th om : List Addr} {H : Hp} {p : Addr} {xs ys : List V} (np : p ∉ th) (hp : H p = some (.lst xs)) : ∀ {v : V} {d : D}, Rep g th (p :: om) H v d → Rep g th (p :: om) (upd H p (.lst ys)) v d
    | _, _, .non => .non
    | _, _, .bl b => .bl b
    | _, _, .int i => .int i
    | _, _, .str s => .str s
    | _, _, .tup h r => .tup (by
        rcases h with (h | ⟨o, h⟩) | h
        · exact .inl (.inl (by rw [upd_ne (ne_of h hp (by intro z; cases z))]; exact h))
        · exact .inl (.inr ⟨o, by rw [upd_ne (ne_of h hp (by intro z; cases z))]; exact h⟩)
        · exact .inr h) (keyA np hp r)
    | _, _, .lst h n1 n2 r => .lst (by rw [upd_ne (fun z => n2 (by rw [z]; exact List.mem_cons_self))]; exact h) n1 n2 (keyA np hp r)
    | _, _, .scr h r => .scr (by
        rcases h with ⟨o, h⟩ | h
        · exact .inl ⟨o, by rw [upd_ne (ne_of h hp (by intro z; cases z))]; exact h⟩
        · exact .inr h) (keyA np hp r)
    | _, _, .fn h => .fn h
    | _, _, .h e => .h e
  keyA {g : G} {th om : List Addr} {H : Hp} {p : Addr} {xs ys : List V} (np : p ∉ th) (hp : H p = some (.lst xs)) : ∀ {vs : List V} {ds : List D}, RepA g th (p :: om) H vs ds → RepA g th (p :: om) (upd H p (.lst ys)) vs ds
    | _, _, .nil => .nil
    | _, _, .cons r t => .cons (keyR np hp r) (keyA np hp t)
theorem RepA.grown {p : Addr} {xs ys : List V} (np : p ∉ th) (hp : H p = some (.lst xs)) {vs : List V} {ds : List D} (q : RepA g th (p :: om) H vs ds) : RepA g th (p :: om) (upd H p (.lst ys)) vs ds := MRep.grown.keyA np hp q
/-- seen from outside nothing but that list has changed -/
theorem Ext.grown {th1 th2 : List Addr} {H1 : Hp} {p : Addr} {xs ys : List V} (x : Ext th1 om H1 th2 H) (h1 : H1 p = none) (hp : H p = some (.lst xs)) (np : p ∉ om) : Ext th1 om H1 th2 (upd H p (.lst ys)) := by
  refine ⟨x.pre, fun a zs h => ?_, fun a zs n1 n2 h => ?_, fun a o u h => ?_, fun a h => ?_⟩
  · have z := x.tup a zs h
    have ne : a ≠ p := by rintro rfl; rcases h with h | ⟨_, h⟩ <;> (rw [h1] at h; cases h)
    rcases z with z | ⟨o, z⟩
    · exact .inl (by rw [upd_ne ne]; exact z)
    · exact .inr ⟨o, by rw [upd_ne ne]; exact z⟩
  · have ne : a ≠ p := ne_of_none h h1
    obtain ⟨z1, z2⟩ := x.lst a zs n1 n2 h
    exact ⟨by rw [upd_ne ne]; exact z1, z2⟩
  · rw [upd_ne (ne_of_none h h1)]; exact x.frz a o u h
  · have ne : a ≠ p := fun z => np (z ▸ h)
    rw [upd_ne ne]; exact x.own a h
/-- an inner step, seen from outside -/
theorem Ext.outer {th1 th2 th3 : List Addr} {H1 H2 : Hp} {p : Addr} (x : Ext th1 om H1 th2 H) (h1 : H1 p = none) (y : Ext th2 (p :: om) H th3 H2) : Ext th1 om H1 th3 H2 := by
  obtain ⟨t1, e1⟩ := x.pre
  obtain ⟨t2, e2⟩ := y.pre
  refine ⟨⟨t1 ++ t2, by rw [e2, e1, List.append_assoc]⟩, fun a zs h => y.tup a zs (x.tup a zs h), fun a zs n1 n2 h => ?_, fun a o u h => y.frz a o u (x.frz a o u h), fun a h => (y.own a (List.mem_cons_of_mem _ h)).trans (x.own a h)⟩
  obtain ⟨z1, z2⟩ := x.lst a zs n1 n2 h
  refine y.lst a zs z2 (fun z => ?_) z1
  rcases List.mem_cons.mp z with z | z
  · exact ne_of_none h h1 z
  · exact n2 z
end

/-! ### what is walked -/
def ItOk (g : G) (om : List Addr) (s : Src) (J : It) (th0 : List Addr) (H0 : Hp) : Prop :=
  ∀ (om' th : List Addr) (H : Hp) (m : M) (i : Nat), (∀ a ∈ om', a ∈ om ∨ H0 a = none) → Exw th0 om H0 th H → MRep g th om' H m → s.ok m = true →
    (i < s.its.length → J.go i H ∧ ∀ x H', J.yld i H x H' → Ext th om' H th H' ∧ MRep g th om' H' m ∧ ∃ d, s.its[i]? = some d ∧ Rep g th om' H' x d) ∧ (s.its.length ≤ i → J.stop i H)
def AftI (g : G) (th om : List Addr) (H : Hp) (m' : M) (s : Src) (R : It → Hp → Prop) : Prop := ∀ J th' H', Ext th om H th' H' → MRep g th' om H' m' → ItOk g om s J th' H' → R J H'
def tI (g : G) (Φ : Cal) (i : I) : TI := fun σ H R => ∃ th om ρ m s m', EnvR g th om H σ ρ ∧ MRep g th om H m ∧ evI Φ i ρ m = some (s, m') ∧ AftI g th om H m' s R
theorem PIi {X : Cx} {tg e : Expr} {t t' : TI} (h : PI X tg e t) (i : ∀ σ H R, t' σ H R → t σ H R) : PI X tg e t' := fun pins s σ H R I q => h pins s σ H R I (i σ H R q)

section
variable {g : G} {X : Cx}
theorem ItOk.tup {om th0 : List Addr} {H0 : Hp} {a : Addr} {xs : List V} {ds : List D} (hs : SqT g.K H0 a xs) (ha : RepA g th0 om H0 xs ds) (inj : ∀ H ys, SqT g.K H a xs → SqT g.K H a ys → True) : ItOk g om ⟨ds, none⟩ (Itt g.K a) th0 H0 := by
  intro om' th H m i o x mr _
  have hs' : SqT g.K H a xs := by
    rcases hs with h | h
    · exact .inl (x.tup _ _ h)
    · exact .inr h
  have ha' := ha.up x o
  refine ⟨fun hi => ⟨?_, fun v H' ⟨e, hy⟩ => ?_⟩, fun hi => ⟨xs, hs', by rw [ha.length]; exact hi⟩⟩
  · have hi' : i < ds.length := hi
    obtain ⟨v, e1, _⟩ := ha'.get (List.getElem?_eq_getElem hi')
    exact ⟨xs, v, hs', e1⟩
  · subst e
    have e1 := hy xs hs'
    obtain ⟨d, e2, q⟩ := ha'.get' e1
    exact ⟨Ext.refl, mr, d, e2, q⟩
theorem ItOk.lst {om th0 : List Addr} {H0 : Hp} {a : Addr} {xs : List V} {ds : List D} (hs : H0 a = some (.lst xs)) (n1 : a ∉ th0) (n2 : a ∉ om) (ha : RepA g th0 om H0 xs ds) : ItOk g om ⟨ds, none⟩ (Itl g.K a) th0 H0 := by
  intro om' th H m i o x mr _
  have hs' : SqL g.K H a xs := .inl (.inl (x.lst a xs n1 n2 hs).1)
  have ha' := ha.up x o
  refine ⟨fun hi => ⟨?_, fun v H' ⟨e, hy⟩ => ?_⟩, fun hi => ⟨xs, hs', by rw [ha.length]; exact hi⟩⟩
  · have hi' : i < ds.length := hi
    obtain ⟨v, e1, _⟩ := ha'.get (List.getElem?_eq_getElem hi')
    exact ⟨xs, v, hs', e1⟩
  · subst e
    have e1 := hy xs hs'
    obtain ⟨d, e2, q⟩ := ha'.get' e1
    exact ⟨Ext.refl, mr, d, e2, q⟩
theorem ItOk.scr {om th0 : List Addr} {H0 : Hp} {a : Addr} {xs : List V} {ds : List D} (hs : SqZ g.K H0 a xs) (ha : RepA g th0 om H0 xs ds) : ItOk g om ⟨ds, none⟩ (Itl g.K a) th0 H0 := by
  intro om' th H m i o x mr _
  have hs' : SqL g.K H a xs := by
    rcases hs with ⟨o, h⟩ | h
    · exact .inl (.inr ⟨o, x.frz _ _ _ h⟩)
    · exact .inr h
  have ha' := ha.up x o
  refine ⟨fun hi => ⟨?_, fun v H' ⟨e, hy⟩ => ?_⟩, fun hi => ⟨xs, hs', by rw [ha.length]; exact hi⟩⟩
  · have hi' : i < ds.length := hi
    obtain ⟨v, e1, _⟩ := ha'.get (List.getElem?_eq_getElem hi')
    exact ⟨xs, v, hs', e1⟩
  · subst e
    have e1 := hy xs hs'
    obtain ⟨d, e2, q⟩ := ha'.get' e1
    exact ⟨Ext.refl, mr, d, e2, q⟩
theorem ItOk.hd {om th0 : List Addr} {H0 : Hp} {a : Addr} {n : Nat} {ds : List D} (e0 : th0[n]? = some a) : ItOk g om ⟨ds, some n⟩ (Itl g.K a) th0 H0 := by
  intro om' th H m i o x mr ok
  have ok' : m[n]? = some (.ml ds) := of_decide_eq_true ok
  have e1 : th[n]? = some a := by
    obtain ⟨⟨t, rfl⟩, _⟩ := x
    rw [List.getElem?_append_left (List.getElem?_eq_some_iff.mp e0).1]
    exact e0
  obtain ⟨xs, hx, ha⟩ := mr.ob n a _ e1 ok'
  have hs' : SqL g.K H a xs := .inl (.inl hx)
  refine ⟨fun hi => ⟨?_, fun v H' ⟨e, hy⟩ => ?_⟩, fun hi => ⟨xs, hs', by rw [ha.length]; exact hi⟩⟩
  · have hi' : i < ds.length := hi
    obtain ⟨v, e1, _⟩ := ha.get (List.getElem?_eq_getElem hi')
    exact ⟨xs, v, hs', e1⟩
  · subst e
    have e1 := hy xs hs'
    obtain ⟨d, e2, q⟩ := ha.get' e1
    exact ⟨Ext.refl, mr, d, e2, q⟩
theorem ItOk.rng {om th0 : List Addr} {H0 : Hp} {lo hi : Int} : ItOk g om ⟨rngD lo hi, none⟩ (Itr lo (hi - lo).toNat) th0 H0 := by
  intro om' th H m i o x mr _
  have hl : (rngD lo hi).length = (hi - lo).toNat := by simp [rngD]
  refine ⟨fun h => ⟨by rw [← hl]; exact h, fun v H' ⟨e, hy⟩ => ?_⟩, fun h => by rw [← hl]; exact h⟩
  subst e; subst hy
  refine ⟨Ext.refl, mr, .int (lo + i), ?_, .int _⟩
  have h' : i < (hi - lo).toNat := by rw [← hl]; exact h
  show (rngD lo hi)[i]? = _
  unfold rngD
  rw [List.getElem?_map, List.getElem?_range h']
  rfl
/-- a list or tuple -/
def iSeq (K : PySem.W.Frag) (tl : TE) : TI := fun σ H R => tl σ H fun x H1 => ∃ a, x = .ref a ∧ (((∃ xs, SqL K H1 a xs) ∧ R (Itl K a) H1) ∨ ((∃ xs, SqT K H1 a xs) ∧ R (Itt K a) H1))
theorem pi_seq {tg l : Expr} {tl : TE} (hl : PE X l tl) : PI X tg l (iSeq X.K tl) := by
  intro pins s σ H R I h
  refine thn (hl pins s σ H _ I h) fun v s1 ⟨x, H1, I1, r1, q1⟩ => ?_
  obtain ⟨a, e, q | q⟩ := q1
  · subst e
    obtain ⟨⟨xs, hq⟩, q⟩ := q
    cases r1
    obtain ⟨its, rv, p, hz⟩ := I1.list hq
    refine wpAny_pyIter_list p.isList ?_
    refine ⟨s1.heap.objs.size, [s1.heap.objs.size], _, _, H1, rfl, I1.kept (t' := s1.toks) fun b o e => Heap.get?_push_of_some _ e, turn_list a _, ⟨_, Heap.get?_push_size _ rfl, rfl, rfl⟩, fun b hb => ?_, q⟩
    have e : b = s1.heap.objs.size := by simpa using hb
    subst e
    exact I1.fpOk (Nat.le_refl _) (I1.hok.fresh (Nat.le_refl _))
  · subst e
    obtain ⟨⟨xs, hq⟩, q⟩ := q
    cases r1
    obtain ⟨its, rv, p, hz⟩ := I1.tuple hq
    refine wpAny_pyIter_tuple (show s1.heap.IsTuple a its.toArray from p) ?_
    refine ⟨s1.heap.objs.size, [s1.heap.objs.size], _, _, H1, rfl, I1.kept (t' := s1.toks) fun b o e => Heap.get?_push_of_some _ e, turn_tuple a _, ⟨_, Heap.get?_push_size _ rfl, rfl, rfl⟩, fun b hb => ?_, q⟩
    have e : b = s1.heap.objs.size := by simpa using hb
    subst e
    exact I1.fpOk (Nat.le_refl _) (I1.hok.fresh (Nat.le_refl _))
end
theorem redIv {g : G} {Φ : Cal} {e : E} : ∀ σ H R, tI g Φ (.val e) σ H R → iSeq g.K (tE g Φ e) σ H R := by
  rintro σ H R ⟨th, om, ρ, m, s, m', er, mr, ev, af⟩
  unfold evI at ev
  obtain ⟨x, m1, e1, ev⟩ := bnd_inv ev
  refine ⟨th, om, ρ, m, x, m1, er, mr, e1, fun v th1 H1 x1 mr1 rx => ?_⟩
  cases rx with
  | @tup a xs ds hs ha => cases ev; exact ⟨a, rfl, .inr ⟨⟨xs, hs⟩, af _ th1 H1 x1 mr1 (ItOk.tup hs ha fun _ _ _ _ => trivial)⟩⟩
  | @lst a xs ds hs n1 n2 ha => cases ev; exact ⟨a, rfl, .inl ⟨⟨xs, .inl (.inl hs)⟩, af _ th1 H1 x1 mr1 (ItOk.lst hs n1 n2 ha)⟩⟩
  | @scr a xs ds hs ha => cases ev; exact ⟨a, rfl, .inl ⟨⟨xs, hs.sq⟩, af _ th1 H1 x1 mr1 (ItOk.scr hs ha)⟩⟩
  | @h n a e =>
    simp only at ev
    split at ev
    · rename_i ys hy
      cases ev
      obtain ⟨xs, hx, ha⟩ := mr1.ob n a _ e hy
      exact ⟨a, rfl, .inl ⟨⟨xs, .inl (.inl hx)⟩, af _ th1 H1 x1 mr1 (ItOk.hd e)⟩⟩
    · cases ev
  | _ => cases ev
theorem fitR_ok {j : Int} (h : fitR j = true) : -(2 ^ 62) ≤ j ∧ j < 2 ^ 62 := by
  unfold fitR at h
  simp only [Bool.and_eq_true, decide_eq_true_eq] at h
  exact h
theorem redIr {g : G} {Φ : Cal} {a : E} : ∀ σ H R, tI g Φ (.rng a) σ H R → iRng1 (tA g Φ (.cons a .nil)) σ H R := by
  rintro σ H R ⟨th, om, ρ, m, s, m', er, mr, ev, af⟩
  unfold evI at ev
  obtain ⟨x, m1, e1, ev⟩ := bnd_inv ev
  cases x with
  | int j =>
    have ev' : (if fitR j then some ((⟨rngD 0 j, none⟩ : Src), m1) else none) = some (s, m') := ev
    split at ev'
    · rename_i hz
      cases ev'
      refine ⟨th, om, ρ, m, [.int j], m', er, mr, by simp only [evEs, e1, bnd_mk], fun vs th1 H1 x1 mr1 rx => ?_⟩
      cases rx with
      | cons r1 rr =>
        cases rr
        cases r1
        obtain ⟨h1, h2⟩ := fitR_ok hz
        have e0 : (j - 0 : Int) = j := by omega
        have z := ItOk.rng (g := g) (om := om) (lo := 0) (hi := j) (th0 := th1) (H0 := H1)
        rw [e0] at z
        exact ⟨j, rfl, h1, h2, af _ th1 H1 x1 mr1 z⟩
    · cases ev'
  | _ => cases ev
theorem redIr2 {g : G} {Φ : Cal} {a b : E} : ∀ σ H R, tI g Φ (.rng2 a b) σ H R → iRng2 (tA g Φ (.cons a (.cons b .nil))) σ H R := by
  rintro σ H R ⟨th, om, ρ, m, s, m', er, mr, ev, af⟩
  unfold evI at ev
  obtain ⟨x, m1, e1, ev⟩ := bnd_inv ev
  obtain ⟨y, m2, e2, ev⟩ := bnd_inv ev
  cases x with
  | int i =>
    cases y with
    | int j =>
      have ev' : (if fitR i && fitR j then some ((⟨rngD i j, none⟩ : Src), m2) else none) = some (s, m') := ev
      split at ev'
      · rename_i hz
        cases ev'
        rw [Bool.and_eq_true] at hz
        refine ⟨th, om, ρ, m, [.int i, .int j], m', er, mr, by simp only [evEs, e1, bnd_mk, e2], fun vs th1 H1 x1 mr1 rx => ?_⟩
        cases rx with
        | cons r1 rr =>
          cases rr with
          | cons r2 rr =>
            cases rr
            cases r1
            cases r2
            obtain ⟨h1, h2⟩ := fitR_ok hz.1
            obtain ⟨h3, h4⟩ := fitR_ok hz.2
            exact ⟨i, j, rfl, ⟨h1, h2, h3, h4⟩, af _ th1 H1 x1 mr1 ItOk.rng⟩
      · cases ev'
    | _ => cases ev
  | _ => cases y <;> cases ev

/-! ### targets -/
def gNames : List Nat → TGs
  | [] => gNil
  | i :: r => gCons (gName i) (gNames r)
def tgR (K : PySem.W.Frag) : Tg → TG
  | .name i => gName i
  | .tup is => gTup K is.length (gNames is)
theorem wipe_set {i : Nat} {v : Option V} : ∀ {vs : List Nat} {σ : L2.St}, i ∈ vs → L2.wipe (σ.set i v) vs = L2.wipe σ vs
  | [], _, h => by cases h
  | w :: vs, σ, h => by
    unfold L2.wipe
    by_cases e : i ∈ vs
    · rw [wipe_set e]
    · have : i = w := (List.mem_cons.mp h).resolve_right e
      subst this
      rw [wipe_set_out e, List.set_set]
where
  wipe_set_out {i : Nat} {v : Option V} : ∀ {vs : List Nat} {σ : L2.St}, i ∉ vs → L2.wipe (σ.set i v) vs = (L2.wipe σ vs).set i v
    | [], _, _ => rfl
    | w :: vs, σ, h => by
      have h1 : i ≠ w := fun e => h (by rw [e]; exact List.mem_cons_self)
      unfold L2.wipe
      rw [wipe_set_out fun z => h (List.mem_cons_of_mem _ z), List.set_comm _ _ h1]
theorem wipe_wipe : ∀ (vs ws : List Nat) (σ : L2.St), (∀ i ∈ vs, i ∈ ws) → L2.wipe (L2.wipe σ vs) ws = L2.wipe σ ws
  | [], _, _, _ => rfl
  | v :: vs, ws, σ, h => by
    rw [show L2.wipe σ (v :: vs) = (L2.wipe σ vs).set v none from rfl, wipe_set (h v List.mem_cons_self)]
    exact wipe_wipe vs ws σ fun i hi => h i (List.mem_cons_of_mem _ hi)
section
variable {g : G} {th om : List Addr} {H : Hp}
theorem names_st : ∀ {is : List Nat} {xs : List V} {ds : List D} {σ : L2.St} {ρ : Env} {Q : L2.St → Hp → Prop}, RepA g th om H xs ds → ds.length = is.length → EnvR g th om H σ ρ →
    (∀ σ2, EnvR g th om H σ2 ((is.zip ds).foldl (fun ρ p => ρ.set p.1 (some p.2)) ρ) → (∀ vs : List Nat, (∀ i ∈ is, i ∈ vs) → L2.wipe σ2 vs = L2.wipe σ vs) → Q σ2 H) → gNames is xs σ H Q
  | [], xs, ds, σ, ρ, Q, ha, hl, er, k => by
    cases ds with
    | nil => cases ha; exact ⟨rfl, k σ er fun _ _ => rfl⟩
    | cons _ _ => cases hl
  | i :: is, xs, ds, σ, ρ, Q, ha, hl, er, k => by
    cases ha with
    | nil => cases hl
    | @cons v vs d ds' r t =>
      refine ⟨v, vs, rfl, ?_⟩
      refine names_st (σ := σ.set i (some v)) (ρ := ρ.set i (some d)) t (by simpa using hl) (er.set r i) fun σ2 e2 w => k σ2 e2 fun ws hw => ?_
      rw [w ws fun j hj => hw j (List.mem_cons_of_mem _ hj), wipe_set (hw i List.mem_cons_self)]
theorem tg_st {tg : Tg} {v : V} {d : D} {σ : L2.St} {ρ ρ1 : Env} {Q : L2.St → Hp → Prop} (r : Rep g th om H v d) (er : EnvR g th om H σ ρ) (h : st tg d ρ = some ρ1)
    (k : ∀ σ2, EnvR g th om H σ2 ρ1 → (∀ vs : List Nat, (∀ i ∈ tg.ids, i ∈ vs) → L2.wipe σ2 vs = L2.wipe σ vs) → Q σ2 H) : tgR g.K tg v σ H Q := by
  cases tg with
  | name i => cases h; exact k _ (er.set r i) fun vs hv => wipe_set (hv i List.mem_cons_self)
  | tup is =>
    cases r with
    | @tup a xs ds hs ha =>
      have h' : (if ds.length = is.length then some ((is.zip ds).foldl (fun ρ p => ρ.set p.1 (some p.2)) ρ) else none) = some ρ1 := h
      split at h'
      · rename_i hl
        cases h'
        exact ⟨a, xs, rfl, hs, by rw [ha.length]; exact hl, names_st ha hl er k⟩
      · cases h'
    | _ => cases h
end
section
variable {X : Cx}
theorem pgs_names {f : Str → Option Nat} (hf : ∀ x i, f x = some i → X.N[i]? = some x ∧ Loc X.env.scope x ∧ (X.fn x = true ∨ X.env.scope.names.lookup x = some .local)) (hN : X.N.Nodup) :
    ∀ {es : List Expr} {is : List Nat}, trNames f es = some is → PGs X es (gNames is) ∧ (assignEach es X.env).length = is.length ∧ (assignEach es X.env).findIdx? (·.1) = none
  | [], is, h => by cases h; exact ⟨pgs_nil, rfl, rfl⟩
  | e :: es, is, h => by
    cases e with
    | Name x p =>
      obtain ⟨i, h1, h⟩ := Option.bind_eq_some_iff.mp (show (f x).bind (fun i => (trNames f es).map (i :: ·)) = some is from h)
      obtain ⟨r, h2, rfl⟩ := Option.map_eq_some_iff.mp h
      obtain ⟨a1, a2, a3⟩ := hf x i h1
      obtain ⟨b1, b2, b3⟩ := pgs_names hf hN h2
      refine ⟨pgs_cons (pg_name hN a1 a2 a3) b1, ?_, ?_⟩
      · show (_ :: assignEach es X.env).length = _
        rw [List.length_cons, List.length_cons, b2]
      · show List.findIdx? (·.1) ((false, _) :: assignEach es X.env) = none
        rw [List.findIdx?_cons]
        simp only [Bool.false_eq_true, if_false]
        rw [b3]; rfl
    | _ => cases h
end
end Ky

namespace Ky
open PySem PySem.Spec PyProof.Rows L2

/-! ### more rules -/
section
variable {X : Cx}
/-- isinstance(x, T), T a built-in type, by what x is -/
def tyName : Ty → String
  | .int => "int"
  | .bool => "bool"
  | .str => "str"
  | .tuple => "tuple"
  | .list => "list"
theorem kits (K : PySem.W.Frag) : ∀ (t : Ty) (s : Ty), PySem.W.kitOne K (.type (tyName s)) (.type (tyName t)) = some (match t, s with | .int, .int => true | .int, .bool => true | .bool, .bool => true | .str, .str => true | .tuple, .tuple => true | .list, .list => true | _, _ => false) := by
  intro t s
  cases t <;> cases s <;> first | rfl | kernel_rfl | decide +kernel
theorem kitN (K : PySem.W.Frag) : ∀ (t : Ty), PySem.W.kitOne K (.type "NoneType") (.type (tyName t)) = some false := by
  intro t
  cases t <;> first | rfl | kernel_rfl | decide +kernel
theorem isI_ok {g : G} {th om : List Addr} {m : M} {pins : List (Addr × Obj)} {σ : L2.St} {H : Hp} {s : Shared} {t : Ty} {vx : V} {x : D} {u : Value} {b : Bool} {Q : VK} (hK : X.K = g.K) (I : Inv X pins σ H s) (mr : MRep g th om H m) (rx : Rep g th om H vx x) (ru : L2.RelV vx u) (h : isTy t x m = some b) (q : Q (.bl b) H) :
    wpAny (model X.prog X.w) X.A (call (.builtin "isinstance") [u, .type (tyName t)]) (EP X pins σ Q) X.xe s := by
  have fin : ∀ tk, EP X pins σ Q (.bool b) { s with toks := tk } := fun tk => ⟨.bl b, H, I.tok _, rfl, q⟩
  cases rx with
  | non =>
    cases (show u = Value.none from ru)
    have e : b = false := by cases t <;> (cases h; rfl)
    subst e
    exact PySem.W.kia_one PySem.W.kitx_none I.kIn True.intro (kitN X.K t) (fun z => nomatch z) fin
  | bl y =>
    cases (show u = Value.bool y from ru)
    refine PySem.W.kia_one (b := b) PySem.W.kitx_bool I.kIn True.intro ?_ (fun z => nomatch z) fin
    rw [show (Value.type "bool") = .type (tyName .bool) from rfl, kits X.K t .bool]
    cases t <;> (cases h; rfl)
  | int i =>
    obtain ⟨tk, q'⟩ := (show ∃ t, u = Value.int i t from ru)
    cases q'
    refine PySem.W.kia_one (b := b) PySem.W.kitx_int I.kIn True.intro ?_ (fun z => nomatch z) fin
    rw [show (Value.type "int") = .type (tyName .int) from rfl, kits X.K t .int]
    cases t <;> (cases h; rfl)
  | str y =>
    obtain ⟨tk, q'⟩ := (show ∃ t, u = Value.str y t from ru)
    cases q'
    refine PySem.W.kia_one (b := b) PySem.W.kitx_str I.kIn True.intro ?_ (fun z => nomatch z) fin
    rw [show (Value.type "str") = .type (tyName .str) from rfl, kits X.K t .str]
    cases t <;> (cases h; rfl)
  | @tup a xs ds hs ha =>
    cases (show u = Value.ref a from ru)
    rw [← hK] at hs
    obtain ⟨_, _, ⟨o, h1, h2, _⟩, _⟩ := I.tuple hs
    refine PySem.W.kia_one (b := b) PySem.W.kitx_tuple I.kIn ⟨o, h1, h2⟩ ?_ (fun z => nomatch z) fin
    rw [show (Value.type "tuple") = .type (tyName .tuple) from rfl, kits X.K t .tuple]
    cases t <;> (cases h; rfl)
  | @lst a xs ds hs n1 n2 ha =>
    cases (show u = Value.ref a from ru)
    obtain ⟨_, _, n, _, h1⟩ := (show ObjOk X.prog X.w H s.heap a (.lst xs) from I.hok a _ hs)
    refine PySem.W.kia_one (b := b) PySem.W.kitx_list I.kIn ⟨_, h1, rfl⟩ ?_ (fun z => nomatch z) fin
    rw [show (Value.type "list") = .type (tyName .list) from rfl, kits X.K t .list]
    cases t <;> (cases h; rfl)
  | @h n a e =>
    cases (show u = Value.ref a from ru)
    obtain ⟨xs, hs⟩ := mr.has (List.mem_of_getElem? e)
    obtain ⟨_, _, n, _, h1⟩ := (show ObjOk X.prog X.w H s.heap a (.lst xs) from I.hok a _ hs)
    refine PySem.W.kia_one (b := b) PySem.W.kitx_list I.kIn ⟨_, h1, rfl⟩ ?_ (fun z => nomatch z) fin
    rw [show (Value.type "list") = .type (tyName .list) from rfl, kits X.K t .list]
    cases t <;> (cases h; rfl)
  | fn _ => cases t <;> cases h
  | scr _ _ => cases t <;> cases h
/-- range(n) as a value -/
theorem pe_rngV {b : Expr} {ta : TA} {p pos : Pos} (hg : Gl X "range") (hm : X.mg "range" = none) (ha : PA X [b] ta) (hs : starEach [b] X.env = [(false, eval b X.env)]) :
    PE X (.Call (.Name "range" p) [b] [] pos) (fun σ H Q => ta σ H fun vs H1 => ∃ n : Int, vs = [.int n] ∧ ∀ r, H1 r = none → Q (.ref r) (upd H1 r (.rng 0 n))) := by
  intro pins s σ H Q I h
  refine Call_ (ld_blt I hg hm boot_range (PyProof.Rows.callWith_type1 (thn (ha pos pins s σ H _ I h) fun us s1 ⟨vs, H1, I1, r1, q1⟩ => ?_) hs rfl))
  obtain ⟨j, e, q⟩ := q1
  subst e
  cases r1 with
  | cons r rr =>
    cases rr
    obtain ⟨t, rfl⟩ := r
    refine call_range_1 ?_
    refine ⟨.ref s1.heap.objs.size, _, I1.laid (fun b o e => Heap.get?_push_of_some _ e) (Nat.le_refl _) ?_, rfl, q _ (I1.hok.fresh (Nat.le_refl _))⟩
    exact ⟨_, _, _, Heap.get?_push_size _ rfl⟩
theorem items_ints {f : Nat → Int} : ∀ {n : Nat} {l : List Value}, l.length = n → (∀ (i : Nat) v, l[i]? = some v → ∃ t, v = .int (f i) t) → Vals ((List.range n).map fun k => V.int (f k)) l := by
  intro n
  induction n generalizing f with
  | zero => intro l hl _; cases l with | nil => exact .nil | cons _ _ => cases hl
  | succ n ih =>
    intro l hl h
    cases l with
    | nil => cases hl
    | cons v l =>
      rw [List.range_succ_eq_map, List.map_cons, List.map_map]
      refine .cons (h 0 v rfl) (ih (f := fun k => f (k + 1)) (by simpa using hl) fun i v hv => h (i + 1) v (by simpa using hv))
theorem call_lrng (hc : X.calm = true) : CallR X (.type "list") (fun xs H Q => ∃ r n, xs = [.ref r] ∧ H r = some (.rng 0 n) ∧ 0 ≤ n ∧ n ≤ 1000 ∧ ∀ p, H p = none → Q (.ref p) (upd H p (.lst ((List.range n.toNat).map fun k => .int (k : Nat))))) := by
  intro pins s σ H xs us Q I rv h
  obtain ⟨r, n, rfl, hr, h0, h1, q⟩ := h
  rw [Vals.ref1 rv]
  obtain ⟨t, u, v, e⟩ := (show ObjOk X.prog X.w H s.heap r (.rng 0 n) from I.hok r _ hr)
  have en : Builtin.Range.rangeSize 0 n 1 = (n.toNat : Int) := by rw [rangeSize_one]; split <;> omega
  refine call_list_range (I.ok.hd hc) (n := n.toNat) e (small_one (by omega) (by omega) (by omega) (by omega)) (by rw [en]) (by omega) fun h' tk acc' c' hk hS' hacc => ?_
  refine ⟨.ref s.heap.objs.size, _, I.laid hk (Nat.le_refl _) ?_, rfl, q _ (I.hok.fresh (Nat.le_refl _))⟩
  refine ⟨by rw [List.length_map, List.length_range, sizeLine_eq]; omega, acc'.toList, c', ?_, by simpa using hS'⟩
  refine items_ints (f := fun k => (k : Int)) (by simp [hacc.1]) fun i v hv => ?_
  obtain ⟨t, e⟩ := hacc.2 i v (by simpa using hv)
  exact ⟨t, by rw [e]; congr 1; omega⟩
/-- a def that a local name holds -/
theorem pe_callV {g : G} {P : List Fn} {k i : Nat} {x : Str} {p pos : Pos} {e : Expr} {es : List Expr} {t : TA} (hN : X.N[i]? = some x) (hv : Vis X.env.scope x) (hd : (x == ("__debug__" : Str)) = false) (hcd : (x == ("__classdict__" : Str)) = false)
    (hr : Room k X.A) (fns : ∀ f a, g.fa f = some a → FnAt g P k X f a) (ha : PA X (e :: es) t) (he : starEach (e :: es) X.env = (false, eval e X.env) :: starEach es X.env) (hpl : (backTo pos (starEach es X.env)).any (·.1) = false) :
    PE X (.Call (.Name x p) (e :: es) [] pos) (fun σ H Q => ∃ f a, σ[i]? = some (some (.ref a)) ∧ g.fa f = some a ∧ t σ H fun vs H1 => spEv g P k f vs H1 Q E0) := by
  intro pins s σ H Q I h
  obtain ⟨f, a, e1, e2, h⟩ := h
  obtain ⟨hk, fd, ps, hb, F⟩ := fns f a e2
  refine wpAny_Call_Name_kw (thn (pe_var (X := X) hN hv hd hcd pins s σ H (fun v H' => v = .ref a ∧ H' = H) I ⟨_, e1, rfl, rfl⟩) fun u s1 ⟨v, H', I1, r1, e3, e4⟩ => ?_)
  subst e3; subst e4
  obtain rfl : u = Value.ref a := r1
  refine PySem.W.callWith_K (h₀ := X.base) I.ok.mod.kin hk (thn (ha pos pins s1 σ _ _ I1 h) fun us s2 ⟨vs, H2, I2, r2, q2⟩ => ⟨I2.kIn, ?_⟩) he hpl
  exact run_fn (dvs := []) F hr hb .nil pass0 I2 r2 (by rw [List.append_nil]; exact q2)
/-- a global def -/
theorem pe_callF {g : G} {P : List Fn} {k f : Nat} {a : Addr} {x : Str} {p pos : Pos} {e : Expr} {es : List Expr} {t : TA} (hg : Gl X x) (hd : (x == ("__debug__" : Str)) = false) (hm : X.mg x = some (.ref a)) (hr : Room k X.A) (fn : FnAt g P k X f a) (ha : PA X (e :: es) t)
    (h1 : starEach (e :: es) X.env = (false, eval e X.env) :: starEach es X.env) (h2 : (backTo pos (starEach es X.env)).any (·.1) = false) :
    PE X (.Call (.Name x p) (e :: es) [] pos) (fun σ H Q => t σ H fun vs H1 => spEv g P k f vs H1 Q E0) := by
  obtain ⟨hk, fd, ps, hb, F⟩ := fn
  refine PEi (pe_call (dvs := []) (E := E0) F hr hg hm hk hb .nil pass0 ha hd h1 h2) fun σ H Q h => ?_
  unfold tCall
  simp only [List.append_nil]
  exact h
theorem pe_callF0 {g : G} {P : List Fn} {k f : Nat} {a : Addr} {x : Str} {p pos : Pos} (hg : Gl X x) (hd : (x == ("__debug__" : Str)) = false) (hm : X.mg x = some (.ref a)) (hr : Room k X.A) (fn : FnAt g P k X f a) :
    PE X (.Call (.Name x p) [] [] pos) (fun σ H Q => spEv g P k f [] H Q E0) := by
  obtain ⟨hk, fd, ps, hb, F⟩ := fn
  exact PEi (pe_call0 (dvs := []) (E := E0) F hr hg hm hk hb .nil pass0 hd) fun σ H Q h => h
/-- a module's table -/
theorem pe_tab {g : G} {x : Str} {tb : List (Str × Nat)} {i : Expr} {ti : TE} {xp pos : Pos} (hg : Gl X x) (hd : (x == ("__debug__" : Str)) = false) (T : TabAt g X.prog X.w X.K X.mg x tb) (hi : PE X i ti) (hs : PlainIx i) :
    PE X (.Subscript (.Name x xp) i pos) (fun σ H Q => ti σ H fun y H1 => ∃ z f fa, y = .str z ∧ tb.lookup z = some f ∧ g.fa f = some fa ∧ Q (.ref fa) H1) := by
  obtain ⟨a, hm, ht⟩ := T
  intro pins s σ H Q I h
  refine Subscript_ (ld_glob I hg hm (thn (hi pins s σ H _ I h) fun u s1 ⟨y, H1, I1, r1, z, f, fa, e, e1, e2, q⟩ => ?_) hd)
  subst e
  exact ht X rfl rfl rfl _ i pins s1 σ H1 z u f fa Q I1 r1 e1 e2 q (hs _ _)
/-- the index of a thing in a list or tuple -/
theorem pe_index {K : PySem.W.Frag} {o e : Expr} {to : TE} {t : TA} {apos cpos : Pos} (hK : X.K = K) (ho : PE X o to) (ha : PA X [e] t) (hbase : attributeBase o "index" X.env (eval o X.env) = eval o X.env) (hline : (apos.endLine == cpos.line) = true) (hs : starEach [e] X.env = [(false, eval e X.env)]) :
    PE X (.Call (.Attribute o "index" apos) [e] [] cpos) (fun σ H Q => to σ H fun x H1 => ((∃ a ys, x = .ref a ∧ SqT K H1 a ys) ∧ t σ H1 fun xs H2 => rIdx K x xs H2 Q) ∨ ((∃ a ys, x = .ref a ∧ SqL K H1 a ys) ∧ t σ H1 fun xs H2 => rIndex K x xs H2 Q)) := by
  subst hK
  intro pins s σ H Q I h
  have hfew : ((backTo cpos (starEach [e] X.env)).all (fun x => !x.1) && (backToKw cpos (keywordEach [] X.env)).all (fun x => x.1.isSome)
      && decide (([e] : List Expr).length + ([] : List Keyword).length + (if ([] : List Keyword).isEmpty then 0 else 1) < 30)) = true := by rw [hs]; rfl
  refine wpAny_Call_method_late hbase hfew hline rfl (thn (ho pins s σ H _ I h) fun v s1 ⟨x, H1, I1, r1, q1⟩ => ?_)
  rcases q1 with ⟨⟨a, ys, ex, hq⟩, q1⟩ | ⟨⟨a, ys, ex, hq⟩, q1⟩
  · subst ex
    obtain rfl : v = Value.ref a := r1
    obtain ⟨h1, h2⟩ := ty_seq I1 hq
    refine ⟨"tuple", "tuple.index", PySem.F.plainAttrs_tuple, PySem.F.slot_tuple_index, PySem.F.type_tuple_index, h1, h2, ?_⟩
    have hA := ha cpos pins s1 σ H1 _ I1 q1
    rw [hs] at hA ⊢
    refine Calls.callWith_builtin rfl (Calls.evalArgs_plain ?_)
    exact thn hA fun us s2 ⟨vs, H2, I2, r2, q2⟩ => mt_indexT pins s2 σ H2 (.ref a) vs (.ref a) us Q I2 (show L2.RelV (.ref a) (Value.ref a) from rfl) r2 q2
  · subst ex
    obtain ⟨h1, h2⟩ := tyV_is (T := "list") I1 r1 (.inl ⟨rfl, ys, hq⟩)
    refine ⟨"list", "list.index", PySem.F.plainAttrs_list, PySem.F.slot_list_index, PySem.F.type_list_index, h1, h2, ?_⟩
    have hA := ha cpos pins s1 σ H1 _ I1 q1
    rw [hs] at hA ⊢
    refine Calls.callWith_builtin rfl (Calls.evalArgs_plain ?_)
    exact thn hA fun us s2 ⟨vs, H2, I2, r2, q2⟩ => mt_index pins s2 σ H2 (.ref a) vs v us Q I2 r1 r2 q2
end
end Ky

namespace Ky
open PySem PySem.Spec PyProof.Rows L2

section
variable {gc : GC} {g : G} {P : List Fn} {k : Nat} {c : C} {X : Cx} {Φ : Cal}
theorem XOk.var (ok : XOk gc g P k c X) {x : Str} {i : Nat} {p : Pos} (h : slot c x = some i) : PE X (.Name x p) (tE g Φ (.var i)) := by
  obtain ⟨h1, h2, h3⟩ := slot_ok h
  obtain ⟨d1, d2, _⟩ := okN_ok h3
  refine PEi (pe_var (by rw [ok.N]; exact h1) (by rw [ok.sc]; exact h2) d1 d2) fun σ H Q => ?_
  rintro ⟨th, om, ρ, m, d, m', er, mr, ev, af⟩
  unfold evE at ev
  split at ev
  · rename_i d0 hd
    cases ev
    obtain ⟨v, e1, r⟩ := er.at_ i d hd
    exact ⟨v, e1, af.same mr r⟩
  · cases ev
theorem cst_red {d0 : D} {v : V} (hr : ∀ th om H, Rep g th om H v d0) : ∀ σ H Q, tE g Φ (.cst d0) σ H Q → tC v σ H Q := by
  rintro σ H Q ⟨th, om, ρ, m, d, m', er, mr, ev, af⟩
  cases ev
  exact af.same mr (hr th om H)
theorem XOk.gl (ok : XOk gc g P k c X) {x : Str} (h : glB c.sc x = true) : Gl X x := by
  unfold Gl Env.kindOf
  rw [ok.sc]
  exact glB_ok h
theorem XOk.bltn (ok : XOk gc g P k c X) {x : Str} (h : isBlt gc c x = true) : Gl X x ∧ X.mg x = none ∧ (x == ("__debug__" : Str)) = false ∧ x ≠ "__name__" := by
  unfold isBlt at h
  simp only [Bool.and_eq_true, decide_eq_true_eq] at h
  obtain ⟨d1, d2, d3⟩ := okN_ok h.1.2
  exact ⟨ok.gl h.1.1, ok.blt x h.2, d1, d3⟩
theorem tA_nil : ∀ σ H Q, tA g Φ .nil σ H Q → tNil σ H Q := by
  rintro σ H Q ⟨th, om, ρ, m, ds, m', er, mr, ev, af⟩
  unfold evEs at ev
  cases ev
  exact af [] th H Ext.refl mr .nil
theorem tA_cons {a : E} {r : Es} : ∀ σ H Q, tA g Φ (.cons a r) σ H Q → tCons (tE g Φ a) (tA g Φ r) σ H Q := by
  rintro σ H Q ⟨th, om, ρ, m, ds, m', er, mr, ev, af⟩
  unfold evEs at ev
  obtain ⟨x, m1, e1, ev⟩ := bnd_inv ev
  obtain ⟨xs, m2, e2, ev⟩ := bnd_inv ev
  cases ev
  exact ⟨th, om, ρ, m, x, m1, er, mr, e1, fun v th1 H1 x1 mr1 rx => ⟨th1, om, ρ, m1, xs, _, er.mono x1, mr1, e2, fun vs th2 H2 x2 mr2 rs => af (v :: vs) th2 H2 (x1.trans x2) mr2 (.cons (rx.mono x2) rs)⟩⟩
/-- a list of arguments -/
theorem args_ok {f : Expr → Option E} : ∀ {es : List Expr} {r : Es}, (∀ e ∈ es, ∀ e', f e = some e' → PE X e (tE g Φ e')) → mapEs f es = some r → PA X es (tA g Φ r)
  | [], r, _, h => by cases h; exact PAi pa_nil tA_nil
  | e :: es, r, hf, h => by
    unfold mapEs at h
    split at h
    · rename_i hs
      obtain ⟨a, ha, h⟩ := Option.bind_eq_some_iff.mp h
      obtain ⟨b, hb, h⟩ := Option.bind_eq_some_iff.mp h
      cases h
      exact PAi (pa_cons (hf e List.mem_cons_self a ha) (args_ok (fun e' he => hf e' (List.mem_cons_of_mem _ he)) hb) (star_cons hs)) tA_cons
    · cases h
theorem bin_ok (ok : XOk gc g P k c X) {op : Operator} {o : B} (h : opB op = some o) : ∃ r, OpR X (binaryOp op) r ∧ CoreB g o r := by
  have hK := ok.K
  cases op with
  | Add => cases h; exact ⟨_, (op_add (X := X)).or ((show OpR X (binaryOp .Add) (rCatX g.K) from hK ▸ op_catX).or op_cat), core_add⟩
  | Sub => cases h; exact ⟨_, op_sub, core_sub⟩
  | Mult => cases h; exact ⟨_, op_mul, core_mul⟩
  | FloorDiv => cases h; exact ⟨_, op_fdiv, core_fdiv⟩
  | Mod => cases h; exact ⟨_, op_mod, core_mod⟩
  | _ => cases h
theorem cmp_ok (ok : XOk gc g P k c X) {op : CmpOp} {o : B} (h : cmB op = some o) : ∃ r, OpR X (compareOp op) r ∧ CoreB g o r := by
  have hK := ok.K
  have hu := ok.room.units0
  cases op with
  | Eq => cases h; exact ⟨_, op_eq, core_eq⟩
  | NotEq => cases h; exact ⟨_, op_ne, core_ne⟩
  | Lt => cases h; exact ⟨_, (op_lt (X := X)).or (show OpR X (compareOp .Lt) (rLtT g.K) from hK ▸ op_ltT hu), core_lt⟩
  | LtE => cases h; exact ⟨_, op_le, core_le⟩
  | Gt => cases h; exact ⟨_, (op_gt (X := X)).or (show OpR X (compareOp .Gt) (rGtT g.K) from hK ▸ op_gtT hu), core_gt⟩
  | GtE => cases h; exact ⟨_, op_ge, core_ge⟩
  | In => cases h; exact ⟨_, (show OpR X (compareOp .In) (rIn g.K false) from hK ▸ op_in_seq), core_in⟩
  | NotIn => cases h; exact ⟨_, (show OpR X (compareOp .NotIn) (rIn g.K true) from hK ▸ op_notIn_seq), core_notin⟩
  | _ => cases h
/-- the built-in functions of one argument, by values -/
theorem blt1_ok (ok : XOk gc g P k c X) {x : Str} {u : U} (h : blt1 x = some u) : ∃ r, CoreU g u r ∧
    ((∃ id, bootBuiltins x = some (.builtin id) ∧ CallR X (.builtin id) (fun vs H Q => ∃ y, vs = [y] ∧ r y H Q)) ∨ (∃ T, bootBuiltins x = some (.type T) ∧ CallR X (.type T) (fun vs H Q => ∃ y, vs = [y] ∧ r y H Q))) := by
  have hK := ok.K
  unfold blt1 at h
  split at h
  · rename_i e; subst e; cases h
    refine ⟨_, core_len, .inl ⟨"len", by decide +kernel, fun pins s σ H xs us Q I r ⟨y, e, n, hl, q⟩ => ?_⟩⟩
    rw [← hK] at hl
    exact call_len pins s σ H xs us Q I r ⟨y, n, e, hl, q⟩
  · split at h
    · rename_i e; subst e; cases h
      exact ⟨_, core_abs, .inl ⟨"abs", by decide +kernel, fun pins s σ H xs us Q I r ⟨y, e, i, ei, q⟩ => call_abs pins s σ H xs us Q I r ⟨i, by rw [e, ei], q⟩⟩⟩
    · split at h
      · rename_i e; subst e; cases h
        refine ⟨_, core_tuple, .inr ⟨"tuple", by decide +kernel, fun pins s σ H xs us Q I r ⟨y, e, p, ys, ep, q⟩ => ?_⟩⟩
        rw [← hK] at q
        exact call_tuple_of pins s σ H xs us Q I r ⟨p, ys, by rw [e, ep], q⟩
      · split at h
        · rename_i e; subst e; cases h
          refine ⟨_, core_list, .inr ⟨"list", by decide +kernel, fun pins s σ H xs us Q I r ⟨y, e, p, ys, ep, hq, q⟩ => ?_⟩⟩
          rw [← hK] at hq
          exact call_list_of pins s σ H xs us Q I r ⟨p, ys, by rw [e, ep], hq, q⟩
        · split at h
          · rename_i e; subst e; cases h
            refine ⟨_, core_all, .inl ⟨"all", by decide +kernel, fun pins s σ H xs us Q I r ⟨y, e, q⟩ => ?_⟩⟩
            rw [← hK] at q
            subst e
            exact cr_all ok.calm pins s σ H _ us Q I r q
          · split at h
            · rename_i e; subst e; cases h
              refine ⟨_, core_any, .inl ⟨"any", by decide +kernel, fun pins s σ H xs us Q I r ⟨y, e, q⟩ => ?_⟩⟩
              rw [← hK] at q
              subst e
              exact cr_any ok.calm pins s σ H _ us Q I r q
            · split at h
              · rename_i e; subst e; cases h
                refine ⟨_, core_sum, .inl ⟨"sum", by decide +kernel, fun pins s σ H xs us Q I r ⟨y, e, q⟩ => ?_⟩⟩
                rw [← hK] at q
                subst e
                exact cr_sum ok.calm pins s σ H _ us Q I r q
              · split at h
                · rename_i e; subst e; cases h
                  refine ⟨_, core_sorted, .inl ⟨"sorted", by decide +kernel, fun pins s σ H xs us Q I r ⟨y, e, q⟩ => ?_⟩⟩
                  rw [← hK] at q
                  subst e
                  exact cr_sortT pins s σ H _ us Q I r q
                · cases h
theorem blt2_ok (ok : XOk gc g P k c X) {x : Str} {u : B} (h : blt2 x = some u) : ∃ r, CoreB g u r ∧ ∃ id, bootBuiltins x = some (.builtin id) ∧ CallR X (.builtin id) (fun vs H Q => ∃ y z, vs = [y, z] ∧ r y z H Q) := by
  unfold blt2 at h
  split at h
  · rename_i e; subst e; cases h
    exact ⟨_, core_max, "max", by decide +kernel, fun pins s σ H xs us Q I r ⟨y, z, e, i, j, e1, e2, q⟩ => call_max2 ok.calm pins s σ H xs us Q I r ⟨i, j, by rw [e, e1, e2], q⟩⟩
  · split at h
    · rename_i e; subst e; cases h
      exact ⟨_, core_min, "min", by decide +kernel, fun pins s σ H xs us Q I r ⟨y, z, e, i, j, e1, e2, q⟩ => call_min2 ok.calm pins s σ H xs us Q I r ⟨i, j, by rw [e, e1, e2], q⟩⟩
    · cases h
/-- what Snd n says: all that is turned with n steps is sound -/
structure Snd (gc : GC) (g : G) (P : List Fn) (k n : Nat) : Prop where
  e : ∀ c X e e', XOk gc g P k c X → trE gc n c e = some e' → PE X e (tE g (callN P k) e')
  t : ∀ c X e t, XOk gc g P k c X → trT gc n c e = some t → PT X e (tT g (callN P k) t)
  w : ∀ c X op vs pos t, XOk gc g P k c X → trT gc n c (.BoolOp op vs pos) = some t → PW X (.BoolOp op vs pos) (tT g (callN P k) t)
  ts : ∀ c X es t, XOk gc g P k c X → trTs gc n c es = some t → PTs X es (tT g (callN P k) t)
  i : ∀ c X tg e i, XOk gc g P k c X → trI gc n c tg e = some i → PI X tg e (tI g (callN P k) i)
end
end Ky

namespace Ky
open PySem PySem.Spec PyProof.Rows L2

section
variable {gc : GC} {g : G} {P : List Fn} {k : Nat} {c : C} {X : Cx} {Φ : Cal}
theorem red_and {a b : E} : ∀ σ H Q, tE g Φ (.andV a b) σ H Q → tAndV (tE g Φ a) (tE g Φ b) σ H Q := by
  rintro σ H Q ⟨th, om, ρ, m, d, m', er, mr, ev, af⟩
  unfold evE at ev
  obtain ⟨x, m1, e1, ev⟩ := bnd_inv ev
  refine ⟨th, om, ρ, m, x, m1, er, mr, e1, fun vx th1 H1 x1 mr1 rx => ?_⟩
  cases rx with
  | bl y =>
    refine ⟨y, rfl, ?_⟩
    cases y with
    | true => rw [if_pos rfl]; exact ⟨th1, om, ρ, m1, d, m', er.mono x1, mr1, ev, af.mono x1⟩
    | false => rw [if_neg Bool.false_ne_true]; cases ev; exact (af.mono x1).same mr1 (.bl false)
  | _ => cases ev
theorem red_or {a b : E} : ∀ σ H Q, tE g Φ (.orV a b) σ H Q → tOrV (tE g Φ a) (tE g Φ b) σ H Q := by
  rintro σ H Q ⟨th, om, ρ, m, d, m', er, mr, ev, af⟩
  unfold evE at ev
  obtain ⟨x, m1, e1, ev⟩ := bnd_inv ev
  refine ⟨th, om, ρ, m, x, m1, er, mr, e1, fun vx th1 H1 x1 mr1 rx => ?_⟩
  cases rx with
  | bl y =>
    refine ⟨y, rfl, ?_⟩
    cases y with
    | false => rw [if_neg Bool.false_ne_true]; exact ⟨th1, om, ρ, m1, d, m', er.mono x1, mr1, ev, af.mono x1⟩
    | true => rw [if_pos rfl]; cases ev; exact (af.mono x1).same mr1 (.bl true)
  | _ => cases ev
theorem red_not {a : E} : ∀ σ H Q, tE g Φ (.notV a) σ H Q → tNotV (tE g Φ a) σ H Q := by
  rintro σ H Q ⟨th, om, ρ, m, d, m', er, mr, ev, af⟩
  unfold evE at ev
  obtain ⟨x, m1, e1, ev⟩ := bnd_inv ev
  refine ⟨th, om, ρ, m, x, m1, er, mr, e1, fun vx th1 H1 x1 mr1 rx => ?_⟩
  cases rx with
  | bl y => cases ev; exact ⟨y, rfl, (af.mono x1).same mr1 (.bl _)⟩
  | _ => cases ev
theorem red_ite {t : T} {a b : E} : ∀ σ H Q, tE g Φ (.ite t a b) σ H Q → tIf (tT g Φ t) (tE g Φ a) (tE g Φ b) σ H Q := by
  rintro σ H Q ⟨th, om, ρ, m, d, m', er, mr, ev, af⟩
  unfold evE at ev
  obtain ⟨x, m1, e1, ev⟩ := bnd_inv ev
  refine ⟨th, om, ρ, m, x, m1, er, mr, e1, fun th1 H1 x1 mr1 => ?_⟩
  cases x with
  | true => rw [if_pos rfl] at ev ⊢; exact ⟨th1, om, ρ, m1, d, m', er.mono x1, mr1, ev, af.mono x1⟩
  | false => rw [if_neg Bool.false_ne_true] at ev ⊢; exact ⟨th1, om, ρ, m1, d, m', er.mono x1, mr1, ev, af.mono x1⟩
theorem red_chain {o o' : B} {r r' : R2} (h : CoreB g o r) (h' : CoreB g o' r') {a b c : E} : ∀ σ H Q, tE g Φ (.chain o o' a b c) σ H Q → tChain r r' (tE g Φ a) (tE g Φ b) (tE g Φ c) σ H Q := by
  rintro σ H Q ⟨th, om, ρ, m, d, m', er, mr, ev, af⟩
  unfold evE at ev
  obtain ⟨x, m1, e1, ev⟩ := bnd_inv ev
  obtain ⟨y, m2, e2, ev⟩ := bnd_inv ev
  obtain ⟨z, m3, e3, ev⟩ := bnd_inv ev
  refine ⟨th, om, ρ, m, x, m1, er, mr, e1, fun vx th1 H1 x1 mr1 rx => ⟨th1, om, ρ, m1, y, m2, er.mono x1, mr1, e2, fun vy th2 H2 x2 mr2 ry => ?_⟩⟩
  refine h th2 om H2 m2 vx vy x y z m3 _ mr2 (rx.mono x2) ry e3 fun vz th3 H3 x3 mr3 rz => ?_
  cases rz with
  | bl q =>
    refine ⟨q, rfl, ?_⟩
    cases q with
    | true =>
      rw [if_pos rfl]
      obtain ⟨w, m4, e4, ev⟩ := bnd_inv (show bnd (evE Φ c ρ m3) (fun w m => b2 o' y w m) = some (d, m') from ev)
      refine ⟨th3, om, ρ, m3, w, m4, er.mono (x1.trans (x2.trans x3)), mr3, e4, fun vw th4 H4 x4 mr4 rw' => ?_⟩
      exact h' th4 om H4 m4 vy vw y w d m' Q mr4 (ry.mono (x3.trans x4)) rw' ev (af.mono (x1.trans (x2.trans (x3.trans x4))))
    | false =>
      rw [if_neg Bool.false_ne_true]
      cases (show some (D.bl false, m3) = some (d, m') from ev)
      exact (af.mono (x1.trans (x2.trans x3))).same mr3 (.bl false)
  | _ => cases ev
theorem red_tup {es : Es} : ∀ σ H Q, tE g Φ (.tup es) σ H Q → tTup (tA g Φ es) σ H Q := by
  rintro σ H Q ⟨th, om, ρ, m, d, m', er, mr, ev, af⟩
  unfold evE at ev
  obtain ⟨xs, m1, e1, ev⟩ := bnd_inv ev
  split at ev
  · rename_i hz
    cases ev
    refine ⟨th, om, ρ, m, xs, _, er, mr, e1, fun vs th1 H1 x1 mr1 rs => ⟨by rw [big_eq, rs.length]; exact hz, (af.mono x1).newT mr1 rs⟩⟩
  · cases ev
theorem red_lst {es : Es} : ∀ σ H Q, tE g Φ (.lst es) σ H Q → tLst (tA g Φ es) σ H Q := by
  rintro σ H Q ⟨th, om, ρ, m, d, m', er, mr, ev, af⟩
  unfold evE at ev
  obtain ⟨xs, m1, e1, ev⟩ := bnd_inv ev
  split at ev
  · rename_i hz
    cases ev
    refine ⟨th, om, ρ, m, xs, _, er, mr, e1, fun vs th1 H1 x1 mr1 rs => ⟨by rw [big_eq, rs.length]; exact hz, (af.mono x1).newL mr1 rs⟩⟩
  · cases ev
theorem red_newl : ∀ σ H Q, tE g Φ .newl σ H Q → tLst tNil σ H Q := by
  rintro σ H Q ⟨th, om, ρ, m, d, m', er, mr, ev, af⟩
  cases ev
  exact ⟨Nat.zero_le _, af.newM mr .nil⟩
theorem red_callF {f : Nat} {es : Es} : ∀ σ H Q, tE g (callN P k) (.callF f es) σ H Q → tA g (callN P k) es σ H fun vs H1 => spEv g P k f vs H1 Q E0 := by
  rintro σ H Q ⟨th, om, ρ, m, d, m', er, mr, ev, af⟩
  unfold evE at ev
  obtain ⟨xs, m1, e1, ev⟩ := bnd_inv ev
  exact ⟨th, om, ρ, m, xs, m1, er, mr, e1, fun vs th1 H1 x1 mr1 rs => ⟨th1, om, m1, xs, d, m', mr1, rs, ev, af.mono x1⟩⟩
theorem red_callV {i : Nat} {es : Es} : ∀ σ H Q, tE g (callN P k) (.callV i es) σ H Q → ∃ f a, σ[i]? = some (some (.ref a)) ∧ g.fa f = some a ∧ tA g (callN P k) es σ H fun vs H1 => spEv g P k f vs H1 Q E0 := by
  rintro σ H Q ⟨th, om, ρ, m, d, m', er, mr, ev, af⟩
  unfold evE at ev
  split at ev
  · rename_i f hf
    obtain ⟨xs, m1, e1, ev⟩ := bnd_inv ev
    obtain ⟨v, e2, r⟩ := er.at_ i _ hf
    cases r with
    | @fn _ a ea => exact ⟨f, a, e2, ea, th, om, ρ, m, xs, m1, er, mr, e1, fun vs th1 H1 x1 mr1 rs => ⟨th1, om, m1, xs, d, m', mr1, rs, ev, af.mono x1⟩⟩
  · cases ev

/-! ### tests -/
theorem tru_red {th om : List Addr} {H : Hp} {m : M} {v : V} {d : D} {b : Bool} (mr : MRep g th om H m) (r : Rep g th om H v d) (h : truD m d = some b) : TruV g.K v H b := by
  cases r with
  | non => cases h; rfl
  | bl y => cases h; rfl
  | int y => cases h; rfl
  | @tup a xs ds hs ha => cases h; exact .inr (.inl ⟨xs, hs, by cases ha <;> rfl⟩)
  | @lst a xs ds hs n1 n2 ha => cases h; exact .inl ⟨xs, .inl (.inl hs), by cases ha <;> rfl⟩
  | @scr a xs ds hs ha => cases h; exact .inl ⟨xs, hs.sq, by cases ha <;> rfl⟩
  | @h n a e =>
    unfold truD at h
    simp only at h
    split at h
    · rename_i ys hy
      cases h
      obtain ⟨xs, hx, ha⟩ := mr.ob n a _ e hy
      exact .inl ⟨xs, .inl (.inl hx), by cases ha <;> rfl⟩
    · cases h
  | _ => cases h
theorem red_val {e : E} : ∀ σ H Q, tT g Φ (.val e) σ H Q → tE g Φ e σ H fun x H' => ∃ b, TruV g.K x H' b ∧ Q b H' := by
  rintro σ H Q ⟨th, om, ρ, m, b, m', er, mr, ev, af⟩
  unfold evT at ev
  obtain ⟨x, m1, e1, ev⟩ := bnd_inv ev
  obtain ⟨b', e2, ev⟩ := Option.map_eq_some_iff.mp ev
  cases ev
  exact ⟨th, om, ρ, m, x, _, er, mr, e1, fun vx th1 H1 x1 mr1 rx => ⟨_, tru_red mr1 rx e2, af th1 H1 x1 mr1⟩⟩
/-- where the worth is a truth -/
def isBl : D → Prop
  | .bl _ => True
  | _ => False
theorem red_valB {e : E} (hb : ∀ ρ m d m', evE Φ e ρ m = some (d, m') → isBl d) : ∀ σ H Q, tT g Φ (.val e) σ H Q → tE g Φ e σ H fun x H' => ∃ b, x = .bl b ∧ Q b H' := by
  rintro σ H Q ⟨th, om, ρ, m, b, m', er, mr, ev, af⟩
  unfold evT at ev
  obtain ⟨x, m1, e1, ev⟩ := bnd_inv ev
  obtain ⟨b', e2, ev⟩ := Option.map_eq_some_iff.mp ev
  cases ev
  refine ⟨th, om, ρ, m, x, _, er, mr, e1, fun vx th1 H1 x1 mr1 rx => ?_⟩
  have := hb _ _ _ _ e1
  cases rx with
  | bl y => cases e2; exact ⟨_, rfl, af th1 H1 x1 mr1⟩
  | _ => exact this.elim
theorem cm_bl {op : CmpOp} {o : B} (h : cmB op = some o) {x y : D} {m m' : M} {d : D} (e : b2 o x y m = some (d, m')) : isBl d := by
  have intz : ∀ {f : List Int → List Int → Bool} {xs ys : List D}, ((intsD xs).bind fun a => (intsD ys).bind fun b => some (D.bl (f a b), m)) = some (d, m') → isBl d := fun h => by
    obtain ⟨_, _, h⟩ := Option.bind_eq_some_iff.mp h
    obtain ⟨_, _, h⟩ := Option.bind_eq_some_iff.mp h
    cases h; trivial
  have mem : ∀ {f : List Int → Bool} {xs : List D}, ((intsD xs).map fun a => (D.bl (f a), m)) = some (d, m') → isBl d := fun h => by
    obtain ⟨_, _, h⟩ := Option.map_eq_some_iff.mp h
    cases h; trivial
  have eqs : ∀ {f : Bool → Bool} {r : Option Bool}, (r.map fun b => (D.bl (f b), m)) = some (d, m') → isBl d := fun h => by
    obtain ⟨_, _, h⟩ := Option.map_eq_some_iff.mp h
    cases h; trivial
  cases op <;> first | (cases h; done) | skip
  all_goals cases h
  · exact eqs (f := id) (r := eqD x y) e
  · exact eqs (f := not) (r := eqD x y) e
  · cases x <;> cases y <;> first | (cases e; done) | (cases e; trivial) | exact intz (f := fun a b => HT.lexLt a b) e
  · cases x <;> cases y <;> first | (cases e; done) | (cases e; trivial)
  · cases x <;> cases y <;> first | (cases e; done) | (cases e; trivial) | exact intz (f := fun a b => HT.lexLt b a) e
  · cases x <;> cases y <;> first | (cases e; done) | (cases e; trivial)
  · cases x <;> cases y <;> first | (cases e; done) | exact mem (f := fun a => inI _ a) e
  · cases x <;> cases y <;> first | (cases e; done) | exact mem (f := fun a => !inI _ a) e
theorem red_tand {a b : T} : ∀ σ H Q, tT g Φ (.and_ a b) σ H Q → tAnd (tT g Φ a) (tT g Φ b) σ H Q := by
  rintro σ H Q ⟨th, om, ρ, m, d, m', er, mr, ev, af⟩
  unfold evT at ev
  obtain ⟨x, m1, e1, ev⟩ := bnd_inv ev
  refine ⟨th, om, ρ, m, x, m1, er, mr, e1, fun th1 H1 x1 mr1 => ?_⟩
  cases x with
  | true => rw [if_pos rfl] at ev ⊢; exact ⟨th1, om, ρ, m1, d, m', er.mono x1, mr1, ev, af.mono x1⟩
  | false => rw [if_neg Bool.false_ne_true] at ev ⊢; cases ev; exact af th1 H1 x1 mr1
theorem red_tor {a b : T} : ∀ σ H Q, tT g Φ (.or_ a b) σ H Q → tOr (tT g Φ a) (tT g Φ b) σ H Q := by
  rintro σ H Q ⟨th, om, ρ, m, d, m', er, mr, ev, af⟩
  unfold evT at ev
  obtain ⟨x, m1, e1, ev⟩ := bnd_inv ev
  refine ⟨th, om, ρ, m, x, m1, er, mr, e1, fun th1 H1 x1 mr1 => ?_⟩
  cases x with
  | false => rw [if_neg Bool.false_ne_true] at ev ⊢; exact ⟨th1, om, ρ, m1, d, m', er.mono x1, mr1, ev, af.mono x1⟩
  | true => rw [if_pos rfl] at ev ⊢; cases ev; exact af th1 H1 x1 mr1
theorem red_tnot {a : T} : ∀ σ H Q, tT g Φ (.not_ a) σ H Q → tNot (tT g Φ a) σ H Q := by
  rintro σ H Q ⟨th, om, ρ, m, d, m', er, mr, ev, af⟩
  unfold evT at ev
  obtain ⟨x, m1, e1, ev⟩ := bnd_inv ev
  cases ev
  exact ⟨th, om, ρ, m, x, _, er, mr, e1, fun th1 H1 x1 mr1 => af th1 H1 x1 mr1⟩

/-! ### a comprehension -/
theorem red_lc {own : List Nat} {it : I} {tg : Tg} {t : T} {elt : E} (hids : ∀ i ∈ tg.ids, i ∈ own) :
    ∀ σ H Q, tE g Φ (.lc own it tg t elt) σ H Q → tLc (tI g Φ it) (tgR g.K tg) (tT g Φ t) (tE g Φ elt) own σ H Q := by
  rintro σ H Q ⟨th, om, ρ, m, d, m', er, mr, ev, af⟩
  unfold evE at ev
  obtain ⟨s, m1, e1, ev⟩ := bnd_inv ev
  refine ⟨th, om, ρ, m, s, m1, er, mr, e1, fun J th1 H1 x1 mr1 ok Dd hD => ?_⟩
  have n1 := (mr1.fresh hD).1
  have n2 := (mr1.fresh hD).2
  have ox : ∀ a ∈ Dd :: om, a ∈ om ∨ H1 a = none := fun a h => (List.mem_cons.mp h).elim (fun z => .inr (by rw [z]; exact hD)) .inl
  refine ⟨fun i n H2 => n = s.its.length - i ∧ i ≤ s.its.length ∧ ∃ th2 m2 acc accD, Ext th1 om H1 th2 H2 ∧ MRep g th2 (Dd :: om) H2 m2 ∧ H2 Dd = some (.lst acc) ∧ RepA g th2 (Dd :: om) H2 acc accD ∧
      compL (fun ρ m => evT Φ t ρ m) (fun ρ m => evE Φ elt ρ m) tg (wipeD ρ own) s (s.its.drop i) m2 accD = some (d, m'), ⟨s.its.length, by simp, Nat.zero_le _, th1, m1, [], [], Ext.new mr1 hD, mr1.grow hD, upd_same, .nil, ev⟩, ?_⟩
  rintro i n H2 ⟨rfl, hi, th2, m2, acc, accD, x2, mr2, ha, ra, ev2⟩
  by_cases hlt : i < s.its.length
  · have hdrop : s.its.drop i = s.its[i] :: s.its.drop (i + 1) := List.drop_eq_getElem_cons hlt
    rw [hdrop] at ev2
    unfold compL at ev2
    split at ev2
    · rename_i hok
      obtain ⟨ρ1, hst, ev2⟩ := Option.bind_eq_some_iff.mp ev2
      obtain ⟨go, yl⟩ := (ok (Dd :: om) th2 H2 m2 i ox x2.w mr2 hok).1 hlt
      refine .inr ⟨go, _, fun H' hn => ⟨s.its.length - (i + 1), by omega, hn⟩, fun x H' hy => ?_⟩
      obtain ⟨xe, mr3, d', ed, rd⟩ := yl x H' hy
      have ed' : s.its[i]? = some s.its[i] := List.getElem?_eq_getElem hlt
      rw [ed'] at ed; cases ed
      have er3 : EnvR g th2 (Dd :: om) H' (L2.wipe σ own) (wipeD ρ own) := ((er.mono x1).up (x2.outer hD xe).w ox).wipe own
      refine tg_st rd er3 hst fun σ2 er4 hw => ⟨by rw [hw own hids, wipe_wipe own own σ fun _ z => z], ?_⟩
      obtain ⟨b, m3, e3, ev2⟩ := bnd_inv ev2
      refine ⟨th2, Dd :: om, ρ1, m2, b, m3, er4, mr3, e3, fun th4 H4 x4 mr4 => ?_⟩
      have xe4 : Ext th2 (Dd :: om) H2 th4 H4 := xe.trans x4
      have hD4 : H4 Dd = some (.lst acc) := by rw [xe4.own Dd List.mem_cons_self]; exact ha
      cases b with
      | true =>
        rw [if_pos rfl] at ev2
        refine iteT ?_
        obtain ⟨z, m4, e4, ev2⟩ := bnd_inv ev2
        split at ev2
        · rename_i hz
          refine ⟨th4, Dd :: om, ρ1, m3, z, m4, er4.mono x4, mr4, e4, fun vz th5 H5 x5 mr5 rz => ?_⟩
          have xe5 := xe4.trans x5
          have hD5 : H5 Dd = some (.lst acc) := by rw [xe5.own Dd List.mem_cons_self]; exact ha
          have np : Dd ∉ th5 := fun z => mr5.dis Dd z List.mem_cons_self
          refine ⟨acc, hD5, by rw [big_eq, ra.length]; exact hz, rfl, hlt, th5, m4, _, _, (x2.outer hD xe5).grown hD hD5 n2, (mr5.grown hD5).1, upd_same, (((ra.mono xe5).append (.cons rz .nil)).grown np hD5), ev2⟩
        · cases ev2
      | false =>
        rw [if_neg Bool.false_ne_true] at ev2
        refine iteF ?_
        exact ⟨rfl, hlt, th4, m3, acc, accD, x2.outer hD xe4, mr4, hD4, ra.mono xe4, ev2⟩
    · cases ev2
  · have e : i = s.its.length := by omega
    subst e
    rw [List.drop_length] at ev2
    unfold compL at ev2
    split at ev2
    · rename_i hok
      cases ev2
      refine .inl ⟨(ok (Dd :: om) th2 H2 _ _ ox x2.w mr2 hok).2 (Nat.le_refl _), ?_⟩
      have np : Dd ∉ th2 := fun z => mr2.dis Dd z List.mem_cons_self
      exact af (.ref Dd) th2 H2 (x1.trans x2) mr2.less (.lst ha np n2 (ra.less fun a h => List.mem_cons_of_mem _ h))
    · cases ev2
end
end Ky

namespace Ky
open PySem PySem.Spec PyProof.Rows L2

theorem ct3_0 (elt t0 i0 t1 i1 t2 i2 : Expr) (scope : Scope) (pos : Pos) (it acc : Value) (env : PySem.Env) :
    compTurn (.ListComp elt [⟨t0, i0, [], 0⟩, ⟨t1, i1, [], 0⟩, ⟨t2, i2, [], 0⟩] scope pos) 0 it acc env = (do
      standAt i0.pos
      match ← pyNext it with
      | none => pure (.done .next)
      | some v =>
        letOwnedTupleGo t0 it v
        assign t0 env v
        let mut ok := true
        for c in ([] : List Expr) do
          if ok then ok ← isTrue c env (eval c env)
        if ok then
          let x ← eval i1 env
          standAt i1.pos
          let x ← foldedSetIterable i1 env x
          let _ ← runOwn (.compStart (.ListComp elt [⟨t0, i0, [], 0⟩, ⟨t1, i1, [], 0⟩, ⟨t2, i2, [], 0⟩] scope pos) 1 (← holding [x] (pyIter x)) acc env) env
        again (.compLoop (.ListComp elt [⟨t0, i0, [], 0⟩, ⟨t1, i1, [], 0⟩, ⟨t2, i2, [], 0⟩] scope pos) 0 it acc env)) := by rfl

theorem ct3_1 (elt t0 i0 t1 i1 t2 i2 : Expr) (scope : Scope) (pos : Pos) (it acc : Value) (env : PySem.Env) :
    compTurn (.ListComp elt [⟨t0, i0, [], 0⟩, ⟨t1, i1, [], 0⟩, ⟨t2, i2, [], 0⟩] scope pos) 1 it acc env = (do
      standAt i1.pos
      match ← pyNext it with
      | none => pure (.done .next)
      | some v =>
        letOwnedTupleGo t1 it v
        assign t1 env v
        let mut ok := true
        for c in ([] : List Expr) do
          if ok then ok ← isTrue c env (eval c env)
        if ok then
          let x ← eval i2 env
          standAt i2.pos
          let x ← foldedSetIterable i2 env x
          let _ ← runOwn (.compStart (.ListComp elt [⟨t0, i0, [], 0⟩, ⟨t1, i1, [], 0⟩, ⟨t2, i2, [], 0⟩] scope pos) 2 (← holding [x] (pyIter x)) acc env) env
        again (.compLoop (.ListComp elt [⟨t0, i0, [], 0⟩, ⟨t1, i1, [], 0⟩, ⟨t2, i2, [], 0⟩] scope pos) 1 it acc env)) := by rfl

theorem ct3_2 (elt t0 i0 t1 i1 t2 i2 : Expr) (scope : Scope) (pos : Pos) (it acc : Value) (env : PySem.Env) :
    compTurn (.ListComp elt [⟨t0, i0, [], 0⟩, ⟨t1, i1, [], 0⟩, ⟨t2, i2, [], 0⟩] scope pos) 2 it acc env = (do
      standAt i2.pos
      match ← pyNext it with
      | none => pure (.done .next)
      | some v =>
        letOwnedTupleGo t2 it v
        assign t2 env v
        let mut ok := true
        for c in ([] : List Expr) do
          if ok then ok ← isTrue c env (eval c env)
        if ok then
          (do let _ ← call (.builtin "list.append") [acc, ← eval elt env])
        again (.compLoop (.ListComp elt [⟨t0, i0, [], 0⟩, ⟨t1, i1, [], 0⟩, ⟨t2, i2, [], 0⟩] scope pos) 2 it acc env)) := by rfl

section
variable {prog : Program} {w : World} {A : Around} {R : Result → Shared → Prop} {s : Shared} {elt t0 i0 t1 i1 t2 i2 : Expr} {scope : Scope} {pos : Pos} {it acc : Value} {env : PySem.Env}

theorem cl3_0 (hs : ∀ x, foldedSetIterable i1 env x = pure x) (J : Nat → Shared → Prop)
    (turn : ∀ n s, J n s → wpAny (model prog w) A (pyNext it) (fun r s₁ => match r with
      | none => R (.ok .next) s₁
      | some v => wpAny (model prog w) A (letOwnedTupleGo t0 it v) (fun _ s₁' => wpAny (model prog w) A (assign t0 env v) (fun _ s₂ =>
            wpAny (model prog w) A (eval i1 env) (fun x s₄ => wpAny (model prog w) A (pyIter x) (fun it1 s₅ =>
              codeAny (model prog w) A (.compStart (.ListComp elt [⟨t0, i0, [], 0⟩, ⟨t1, i1, [], 0⟩, ⟨t2, i2, [], 0⟩] scope pos) 1 it1 acc env) (fun r s' => match r with
                | .ok _ => ∃ m, m < n ∧ J m s'
                | .error _ => False) s₅) (fun _ _ => False) s₄) (fun _ _ => False) s₂) (fun _ _ => False) s₁') (fun _ _ => False) s₁) (fun _ _ => False) s)
    (n : Nat) (h : J n s) : codeAny (model prog w) A (.compLoop (.ListComp elt [⟨t0, i0, [], 0⟩, ⟨t1, i1, [], 0⟩, ⟨t2, i2, [], 0⟩] scope pos) 0 it acc env) R s := by
  refine codeAny_loop rfl J (fun n s hI => ?_) n h
  show wpAny _ A ((compTurn (.ListComp elt [⟨t0, i0, [], 0⟩, ⟨t1, i1, [], 0⟩, ⟨t2, i2, [], 0⟩] scope pos) 0 it acc env).onRaise (fun x => do noteFrame x env; theTreesLotGoes x)) _ _ s
  refine wpAny_noted ?_
  rw [ct3_0]
  refine wpAny_bind (wpAny_standAt (wpAny_bind (wpAny_mono (turn n s hI) (fun r s₁ h₁ => ?_) fun _ _ h' => h'.elim)))
  cases r with
  | none => exact wpAny_pure h₁
  | some v =>
    refine wpAny_bind (wpAny_mono h₁ (fun _ s₁' h₁' => ?_) fun _ _ h' => h'.elim)
    refine wpAny_bind (wpAny_mono h₁' (fun _ s₂ h₃ => wpAny_bind (wpAny_tests_nil ?_)) fun _ _ h' => h'.elim)
    refine wpAny_bind (wpAny_mono h₃ (fun x s₄ h₄ => ?_) fun _ _ h' => h'.elim)
    refine wpAny_bind (wpAny_standAt (wpAny_bind (wpAny_of_eq (hs x) (wpAny_bind (wpAny_holding (wpAny_mono h₄ (fun it1 s₅ h₅ => ?_) fun _ _ h' => h'.elim))))))
    refine wpAny_bind (wpAny_runOwn ?_)
    rw [Around.mark_none]
    refine codeAny_mono h₅ fun r s' hr => ?_
    cases r with
    | ok f =>
      first
        | exact wpAny_pure ⟨rfl, hr⟩
        | exact wpAny_bind (wpAny_pure (wpAny_pure ⟨rfl, hr⟩))
    | error e => exact hr.elim

theorem cl3_1 (hs : ∀ x, foldedSetIterable i2 env x = pure x) (J : Nat → Shared → Prop)
    (turn : ∀ n s, J n s → wpAny (model prog w) A (pyNext it) (fun r s₁ => match r with
      | none => R (.ok .next) s₁
      | some v => wpAny (model prog w) A (letOwnedTupleGo t1 it v) (fun _ s₁' => wpAny (model prog w) A (assign t1 env v) (fun _ s₂ =>
            wpAny (model prog w) A (eval i2 env) (fun x s₄ => wpAny (model prog w) A (pyIter x) (fun it1 s₅ =>
              codeAny (model prog w) A (.compStart (.ListComp elt [⟨t0, i0, [], 0⟩, ⟨t1, i1, [], 0⟩, ⟨t2, i2, [], 0⟩] scope pos) 2 it1 acc env) (fun r s' => match r with
                | .ok _ => ∃ m, m < n ∧ J m s'
                | .error _ => False) s₅) (fun _ _ => False) s₄) (fun _ _ => False) s₂) (fun _ _ => False) s₁') (fun _ _ => False) s₁) (fun _ _ => False) s)
    (n : Nat) (h : J n s) : codeAny (model prog w) A (.compLoop (.ListComp elt [⟨t0, i0, [], 0⟩, ⟨t1, i1, [], 0⟩, ⟨t2, i2, [], 0⟩] scope pos) 1 it acc env) R s := by
  refine codeAny_loop rfl J (fun n s hI => ?_) n h
  show wpAny _ A ((compTurn (.ListComp elt [⟨t0, i0, [], 0⟩, ⟨t1, i1, [], 0⟩, ⟨t2, i2, [], 0⟩] scope pos) 1 it acc env).onRaise (fun x => do noteFrame x env; theTreesLotGoes x)) _ _ s
  refine wpAny_noted ?_
  rw [ct3_1]
  refine wpAny_bind (wpAny_standAt (wpAny_bind (wpAny_mono (turn n s hI) (fun r s₁ h₁ => ?_) fun _ _ h' => h'.elim)))
  cases r with
  | none => exact wpAny_pure h₁
  | some v =>
    refine wpAny_bind (wpAny_mono h₁ (fun _ s₁' h₁' => ?_) fun _ _ h' => h'.elim)
    refine wpAny_bind (wpAny_mono h₁' (fun _ s₂ h₃ => wpAny_bind (wpAny_tests_nil ?_)) fun _ _ h' => h'.elim)
    refine wpAny_bind (wpAny_mono h₃ (fun x s₄ h₄ => ?_) fun _ _ h' => h'.elim)
    refine wpAny_bind (wpAny_standAt (wpAny_bind (wpAny_of_eq (hs x) (wpAny_bind (wpAny_holding (wpAny_mono h₄ (fun it1 s₅ h₅ => ?_) fun _ _ h' => h'.elim))))))
    refine wpAny_bind (wpAny_runOwn ?_)
    rw [Around.mark_none]
    refine codeAny_mono h₅ fun r s' hr => ?_
    cases r with
    | ok f =>
      first
        | exact wpAny_pure ⟨rfl, hr⟩
        | exact wpAny_bind (wpAny_pure (wpAny_pure ⟨rfl, hr⟩))
    | error e => exact hr.elim

theorem cl3_2 (J : Nat → Shared → Prop)
    (turn : ∀ n s, J n s → wpAny (model prog w) A (pyNext it) (fun r s₁ => match r with
      | none => R (.ok .next) s₁
      | some v => wpAny (model prog w) A (letOwnedTupleGo t2 it v) (fun _ s₁' => wpAny (model prog w) A (assign t2 env v) (fun _ s₂ =>
          wpAny (model prog w) A (eval elt env) (fun x s₄ =>
              wpAny (model prog w) A (call (.builtin "list.append") [acc, x]) (fun _ s₅ => ∃ m, m < n ∧ J m s₅) (fun _ _ => False) s₄) (fun _ _ => False) s₂) (fun _ _ => False) s₁') (fun _ _ => False) s₁) (fun _ _ => False) s)
    (n : Nat) (h : J n s) : codeAny (model prog w) A (.compLoop (.ListComp elt [⟨t0, i0, [], 0⟩, ⟨t1, i1, [], 0⟩, ⟨t2, i2, [], 0⟩] scope pos) 2 it acc env) R s := by
  refine codeAny_loop rfl J (fun n s hI => ?_) n h
  show wpAny _ A ((compTurn (.ListComp elt [⟨t0, i0, [], 0⟩, ⟨t1, i1, [], 0⟩, ⟨t2, i2, [], 0⟩] scope pos) 2 it acc env).onRaise (fun x => do noteFrame x env; theTreesLotGoes x)) _ _ s
  refine wpAny_noted ?_
  rw [ct3_2]
  refine wpAny_bind (wpAny_standAt (wpAny_bind (wpAny_mono (turn n s hI) (fun r s₁ h₁ => ?_) fun _ _ h' => h'.elim)))
  cases r with
  | none => exact wpAny_pure h₁
  | some v =>
    refine wpAny_bind (wpAny_mono h₁ (fun _ s₁' h₁' => ?_) fun _ _ h' => h'.elim)
    refine wpAny_bind (wpAny_mono h₁' (fun _ s₂ h₃ => wpAny_bind (wpAny_tests_nil ?_)) fun _ _ h' => h'.elim)
    exact wpAny_bind (wpAny_bind (wpAny_mono h₃ (fun x s₄ h₄ => wpAny_bind (wpAny_mono h₄ (fun _ s₅ h₅ => wpAny_pure (wpAny_pure ⟨rfl, h₅⟩)) fun _ _ h' => h'.elim)) fun _ _ h' => h'.elim))

theorem cs3_1 (h0 : codeAny (model prog w) A (.compLoop (.ListComp elt [⟨t0, i0, [], 0⟩, ⟨t1, i1, [], 0⟩, ⟨t2, i2, [], 0⟩] scope pos) 1 it acc env) R s)
    (h : wpAny (model prog w) A (pyIter it) (fun it' s' => codeAny (model prog w) A (.compLoop (.ListComp elt [⟨t0, i0, [], 0⟩, ⟨t1, i1, [], 0⟩, ⟨t2, i2, [], 0⟩] scope pos) 1 it' acc env) R s') (notedBy (model prog w) A env fun x s' => R (.error x) s') s) :
    codeAny (model prog w) A (.compStart (.ListComp elt [⟨t0, i0, [], 0⟩, ⟨t1, i1, [], 0⟩, ⟨t2, i2, [], 0⟩] scope pos) 1 it acc env) R s := by
  refine codeAny_of_tree ?_
  show wpAny _ _ ((compStart (.ListComp elt [⟨t0, i0, [], 0⟩, ⟨t1, i1, [], 0⟩, ⟨t2, i2, [], 0⟩] scope pos) 1 it acc env).onRaise (fun x => do noteFrame x env; standAt theWindowsPlace)) _ _ s
  refine wpAny_notedAt ?_
  unfold compStart
  show wpAny _ _ (ask >>= _) _ _ s
  refine wpAny_bind (wpAny_askSetting (wpAny_ite ?_))
  split
  · first
      | exact wpAny_bind (wpAny_pure (wpAny_pure (And.intro rfl h0)))
      | exact wpAny_pure (And.intro rfl h0)
  · first
      | exact wpAny_bind (wpAny_rule (wpAny_bind (wpAny_standAt (wpAny_bind (wpAny_mono h (fun it' s' h' => wpAny_pure (And.intro rfl h')) fun _ _ x => x)))))
      | (refine wpAny_bind (wpAny_rule ?_); show wpAny _ _ (standAt i1.pos >>= _) _ _ s; exact wpAny_bind (wpAny_standAt (wpAny_bind (wpAny_mono h (fun it' s' h' => wpAny_pure (And.intro rfl h')) fun _ _ x => x))))

theorem cs3_2 (h0 : codeAny (model prog w) A (.compLoop (.ListComp elt [⟨t0, i0, [], 0⟩, ⟨t1, i1, [], 0⟩, ⟨t2, i2, [], 0⟩] scope pos) 2 it acc env) R s)
    (h : wpAny (model prog w) A (pyIter it) (fun it' s' => codeAny (model prog w) A (.compLoop (.ListComp elt [⟨t0, i0, [], 0⟩, ⟨t1, i1, [], 0⟩, ⟨t2, i2, [], 0⟩] scope pos) 2 it' acc env) R s') (notedBy (model prog w) A env fun x s' => R (.error x) s') s) :
    codeAny (model prog w) A (.compStart (.ListComp elt [⟨t0, i0, [], 0⟩, ⟨t1, i1, [], 0⟩, ⟨t2, i2, [], 0⟩] scope pos) 2 it acc env) R s := by
  refine codeAny_of_tree ?_
  show wpAny _ _ ((compStart (.ListComp elt [⟨t0, i0, [], 0⟩, ⟨t1, i1, [], 0⟩, ⟨t2, i2, [], 0⟩] scope pos) 2 it acc env).onRaise (fun x => do noteFrame x env; standAt theWindowsPlace)) _ _ s
  refine wpAny_notedAt ?_
  unfold compStart
  show wpAny _ _ (ask >>= _) _ _ s
  refine wpAny_bind (wpAny_askSetting (wpAny_ite ?_))
  split
  · first
      | exact wpAny_bind (wpAny_pure (wpAny_pure (And.intro rfl h0)))
      | exact wpAny_pure (And.intro rfl h0)
  · first
      | exact wpAny_bind (wpAny_rule (wpAny_bind (wpAny_standAt (wpAny_bind (wpAny_mono h (fun it' s' h' => wpAny_pure (And.intro rfl h')) fun _ _ x => x)))))
      | (refine wpAny_bind (wpAny_rule ?_); show wpAny _ _ (standAt i2.pos >>= _) _ _ s; exact wpAny_bind (wpAny_standAt (wpAny_bind (wpAny_mono h (fun it' s' h' => wpAny_pure (And.intro rfl h')) fun _ _ x => x))))

end
/-- a walk: W by the turn and a measure, N what a turn is to reach -/
def Lp (J : It) (H : Hp) (Nx : Hp → Prop) (step : V → Hp → (Hp → Prop) → Prop) : Prop := ∃ W : Nat → Nat → Hp → Prop, (∃ m, W 0 m H) ∧ ∀ i m H, W i m H →
  (J.stop i H ∧ Nx H) ∨ (J.go i H ∧ ∃ N : Hp → Prop, (∀ H', N H' → ∃ m', m' < m ∧ W (i + 1) m' H') ∧ ∀ x H', J.yld i H x H' → step x H' N)

theorem il3_1 {Y : Cx} (hc : Y.calm = true) (hx : Y.xe = fun _ _ => False) {elt t0 i0 t1 i1 t2 i2 : Expr} {scope : Scope} {pos : Pos} {D it : Addr} {fp : List Addr} {tn : Nat → Heap → Prop} {J : It} {v : Nat} {ws : List Nat} {pins : List (Addr × Obj)} {σ : L2.St} {H : Hp} {s : Shared} {Nx : Hp → Prop} {step : V → Hp → (Hp → Prop) → Prop}
    (hs : ∀ x, foldedSetIterable i2 Y.env x = pure x) (pg : PG Y t1 (gName v)) (T : Turn Y.prog Y.w Y.K t1 J fp it tn) (hv : v ∈ ws) (I : Inv Y pins σ H s) (st : tn 0 s.heap) (f : ∀ b ∈ fp, FpOk Y pins H b) (lp : Lp J H Nx step)
    (hin : ∀ x H1 N pins' σ' s1, Inv Y pins' σ' H1 s1 → σ' = (L2.wipe σ ws).set v (some x) → step x H1 N →
            wpAny (model Y.prog Y.w) Y.A (eval i2 Y.env) (fun x s₄ => wpAny (model Y.prog Y.w) Y.A (pyIter x) (fun it1 s₅ =>
              codeAny (model Y.prog Y.w) Y.A (.compStart (.ListComp elt [⟨t0, i0, [], 0⟩, ⟨t1, i1, [], 0⟩, ⟨t2, i2, [], 0⟩] scope pos) 2 it1 (.ref D) Y.env) (fun r s' => match r with
                | .ok _ => ∃ σ2 H2, Inv Y pins' σ2 H2 s' ∧ (∀ (j : Nat) v, (L2.wipe σ ws)[j]? = some (some v) → σ2[j]? = some (some v)) ∧ N H2
                | .error _ => False) s₅) (fun _ _ => False) s₄) (fun _ _ => False) s1) :
    codeAny (model Y.prog Y.w) Y.A (.compLoop (.ListComp elt [⟨t0, i0, [], 0⟩, ⟨t1, i1, [], 0⟩, ⟨t2, i2, [], 0⟩] scope pos) 1 (.ref it) (.ref D) Y.env) (fun r s' => match r with
      | .ok _ => ∃ H', Inv Y pins (L2.wipe σ ws) H' s' ∧ Nx H'
      | .error _ => False) s := by
  obtain ⟨W, ⟨m0, w0⟩, turn⟩ := lp
  have stat : ∀ {H' : Hp}, (∀ b ∈ fp, H' b = none) → ∀ b ∈ fp, FpOk Y pins H' b := fun hn b hb => ⟨hn b hb, (f b hb).2⟩
  refine cl3_1 hs (fun n s' => ∃ i H', Inv Y pins (L2.wipe σ ws) H' s' ∧ tn i s'.heap ∧ (∀ b ∈ fp, H' b = none) ∧ W i n H') ?_ m0 ⟨0, H, I.weak (wipe_length _ _) (fun j v e => (wipe_some e).1), st, fun b hb => (f b hb).1, w0⟩
  rintro n s3 ⟨i, H3, I3, st3, n3, w3⟩
  rcases turn i n H3 w3 with ⟨stop, nx⟩ | ⟨go, N, hN, stp⟩
  · refine thnF (T.done Y rfl rfl rfl hc i pins s3 _ H3 (fun _ _ => False) I3 (stat n3) st3 stop) fun r s4 ⟨hr, I4⟩ => ?_
    subst hr
    exact ⟨H3, I4, nx⟩
  · refine thnF (T.item Y rfl rfl rfl hc i pins s3 _ H3 (fun _ _ => False) I3 (stat n3) st3 go) fun r s4 ⟨u, hr, h4⟩ => ?_
    subst hr
    refine thnF h4 fun _ s5 ⟨x, H5, I5, r5, y5, st5, n5⟩ => ?_
    have I5' := I5.pinned (stat n5) (T.obj _ _ st5)
    have pgx : wpAny (model Y.prog Y.w) Y.A (assign t1 Y.env u) (fun _ s' => ∃ σ' H', Inv Y (pins ++ pinsAt fp s5.heap) σ' H' s' ∧ (σ' = (L2.wipe σ ws).set v (some x) ∧ H' = H5)) (fun _ _ => False) s5 := by
      have := pg _ s5 _ H5 x u (fun σ' H' => σ' = (L2.wipe σ ws).set v (some x) ∧ H' = H5) I5' r5 ⟨rfl, rfl⟩
      rw [hx] at this
      exact this
    refine thnF pgx fun _ s6 ⟨σ6, H6, I6, e6, e7⟩ => ?_
    subst e6; subst e7
    have q6 := stp x _ y5
    have fin : ∀ {σ9 : L2.St} {s' : Shared} {H' : Hp}, Inv Y (pins ++ pinsAt fp s5.heap) σ9 H' s' → (∀ (j : Nat) v, (L2.wipe σ ws)[j]? = some (some v) → σ9[j]? = some (some v)) → N H' → ∃ m, m < n ∧ ∃ i H', Inv Y pins (L2.wipe σ ws) H' s' ∧ tn i s'.heap ∧ (∀ b ∈ fp, H' b = none) ∧ W i m H' := fun {σ9 s' H'} I' hk nx => by
      obtain ⟨m', hm, w'⟩ := hN H' nx
      have pin' : ∀ b ∈ fp, ∀ o, s5.heap.get? b = some o → s'.heap.get? b = some o ∧ H' b = none := fun b hb o e =>
        let z := I'.pin (b, o) (List.mem_append_right _ (List.mem_append_right _ (mem_pinsAt hb e)))
        ⟨z.1, z.2.1⟩
      refine ⟨m', hm, i + 1, H', I'.unpinned.weak (by rw [I'.len, ← I3.len]) hk, T.keep _ _ _ st5 fun b hb o e => (pin' b hb o e).1, fun b hb => ?_, w'⟩
      obtain ⟨o, e, _⟩ := T.obj _ _ st5 b hb
      exact (pin' b hb o e).2
    · skip
      refine thnF (hin x _ N _ _ s6 I6 rfl q6) fun xv s7 hx => thnF hx fun itv s8 h8 => codeAny_mono h8 fun r s9 hr => ?_
      cases r with
      | error _ => exact hr.elim
      | ok _ =>
        obtain ⟨σ9, H9, I9, k9, n9⟩ := hr
        exact fin I9 k9 n9

theorem il3_2 {Y : Cx} (hc : Y.calm = true) (hx : Y.xe = fun _ _ => False) {elt t0 i0 t1 i1 t2 i2 : Expr} {scope : Scope} {pos : Pos} {D it : Addr} {fp : List Addr} {tn : Nat → Heap → Prop} {J : It} {v : Nat} {ws : List Nat} {pins : List (Addr × Obj)} {σ : L2.St} {H : Hp} {s : Shared} {Nx : Hp → Prop} {step : V → Hp → (Hp → Prop) → Prop}
    (pg : PG Y t2 (gName v)) (T : Turn Y.prog Y.w Y.K t2 J fp it tn) (hv : v ∈ ws) (I : Inv Y pins σ H s) (st : tn 0 s.heap) (f : ∀ b ∈ fp, FpOk Y pins H b) (lp : Lp J H Nx step)
    (hin : ∀ x H1 N pins' σ' s1, Inv Y pins' σ' H1 s1 → σ' = (L2.wipe σ ws).set v (some x) → step x H1 N →
            wpAny (model Y.prog Y.w) Y.A (eval elt Y.env) (fun x s₄ => wpAny (model Y.prog Y.w) Y.A (call (.builtin "list.append") [.ref D, x])
              (fun _ s' => ∃ σ2 H2, Inv Y pins' σ2 H2 s' ∧ (∀ (j : Nat) v, (L2.wipe σ ws)[j]? = some (some v) → σ2[j]? = some (some v)) ∧ N H2) (fun _ _ => False) s₄) (fun _ _ => False) s1) :
    codeAny (model Y.prog Y.w) Y.A (.compLoop (.ListComp elt [⟨t0, i0, [], 0⟩, ⟨t1, i1, [], 0⟩, ⟨t2, i2, [], 0⟩] scope pos) 2 (.ref it) (.ref D) Y.env) (fun r s' => match r with
      | .ok _ => ∃ H', Inv Y pins (L2.wipe σ ws) H' s' ∧ Nx H'
      | .error _ => False) s := by
  obtain ⟨W, ⟨m0, w0⟩, turn⟩ := lp
  have stat : ∀ {H' : Hp}, (∀ b ∈ fp, H' b = none) → ∀ b ∈ fp, FpOk Y pins H' b := fun hn b hb => ⟨hn b hb, (f b hb).2⟩
  refine cl3_2 (fun n s' => ∃ i H', Inv Y pins (L2.wipe σ ws) H' s' ∧ tn i s'.heap ∧ (∀ b ∈ fp, H' b = none) ∧ W i n H') ?_ m0 ⟨0, H, I.weak (wipe_length _ _) (fun j v e => (wipe_some e).1), st, fun b hb => (f b hb).1, w0⟩
  rintro n s3 ⟨i, H3, I3, st3, n3, w3⟩
  rcases turn i n H3 w3 with ⟨stop, nx⟩ | ⟨go, N, hN, stp⟩
  · refine thnF (T.done Y rfl rfl rfl hc i pins s3 _ H3 (fun _ _ => False) I3 (stat n3) st3 stop) fun r s4 ⟨hr, I4⟩ => ?_
    subst hr
    exact ⟨H3, I4, nx⟩
  · refine thnF (T.item Y rfl rfl rfl hc i pins s3 _ H3 (fun _ _ => False) I3 (stat n3) st3 go) fun r s4 ⟨u, hr, h4⟩ => ?_
    subst hr
    refine thnF h4 fun _ s5 ⟨x, H5, I5, r5, y5, st5, n5⟩ => ?_
    have I5' := I5.pinned (stat n5) (T.obj _ _ st5)
    have pgx : wpAny (model Y.prog Y.w) Y.A (assign t2 Y.env u) (fun _ s' => ∃ σ' H', Inv Y (pins ++ pinsAt fp s5.heap) σ' H' s' ∧ (σ' = (L2.wipe σ ws).set v (some x) ∧ H' = H5)) (fun _ _ => False) s5 := by
      have := pg _ s5 _ H5 x u (fun σ' H' => σ' = (L2.wipe σ ws).set v (some x) ∧ H' = H5) I5' r5 ⟨rfl, rfl⟩
      rw [hx] at this
      exact this
    refine thnF pgx fun _ s6 ⟨σ6, H6, I6, e6, e7⟩ => ?_
    subst e6; subst e7
    have q6 := stp x _ y5
    have fin : ∀ {σ9 : L2.St} {s' : Shared} {H' : Hp}, Inv Y (pins ++ pinsAt fp s5.heap) σ9 H' s' → (∀ (j : Nat) v, (L2.wipe σ ws)[j]? = some (some v) → σ9[j]? = some (some v)) → N H' → ∃ m, m < n ∧ ∃ i H', Inv Y pins (L2.wipe σ ws) H' s' ∧ tn i s'.heap ∧ (∀ b ∈ fp, H' b = none) ∧ W i m H' := fun {σ9 s' H'} I' hk nx => by
      obtain ⟨m', hm, w'⟩ := hN H' nx
      have pin' : ∀ b ∈ fp, ∀ o, s5.heap.get? b = some o → s'.heap.get? b = some o ∧ H' b = none := fun b hb o e =>
        let z := I'.pin (b, o) (List.mem_append_right _ (List.mem_append_right _ (mem_pinsAt hb e)))
        ⟨z.1, z.2.1⟩
      refine ⟨m', hm, i + 1, H', I'.unpinned.weak (by rw [I'.len, ← I3.len]) hk, T.keep _ _ _ st5 fun b hb o e => (pin' b hb o e).1, fun b hb => ?_, w'⟩
      obtain ⟨o, e, _⟩ := T.obj _ _ st5 b hb
      exact (pin' b hb o e).2
    · skip
      refine thnF (hin x _ N _ _ s6 I6 rfl q6) fun xv s7 hx => thnF hx fun _ s8 ⟨σ9, H9, I9, k9, n9⟩ => ?_
      exact fin I9 k9 n9

end Ky

namespace Ky
open PySem PySem.Spec PyProof.Rows L2
theorem keep_set {σ : L2.St} {ws : List Nat} {v j : Nat} {x : Option V} {u : V} (hv : v ∈ ws) (h : (L2.wipe σ ws)[j]? = some (some u)) : ((L2.wipe σ ws).set v x)[j]? = some (some u) := by
  obtain ⟨_, h2⟩ := wipe_some h
  have ne : v ≠ j := fun e => h2 (e ▸ hv)
  rw [List.getElem?_set_ne ne]
  exact h
/-- [elt for v0 in .. for v1 in .. for v2 in ..] -/
def tLc3 (wi0 wi1 wi2 : TI) (v0 v1 v2 : Nat) (te : TE) (vs : List Nat) : TE := fun σ H Q => wi0 σ H fun J0 H1 => ∀ D, H1 D = none → Lp J0 (upd H1 D (.lst [])) (Q (.ref D)) fun x H2 N0 =>
  wi1 ((L2.wipe σ vs).set v0 (some x)) H2 fun J1 H3 => Lp J1 H3 N0 fun y H4 N1 =>
    wi2 ((L2.wipe ((L2.wipe σ vs).set v0 (some x)) [v1, v2]).set v1 (some y)) H4 fun J2 H5 => Lp J2 H5 N1 fun z H6 N2 =>
      te ((L2.wipe ((L2.wipe ((L2.wipe σ vs).set v0 (some x)) [v1, v2]).set v1 (some y)) [v2]).set v2 (some z)) H6 fun w H7 => ∃ acc, H7 D = some (.lst acc) ∧ acc.length < sizeLine ∧ N2 (upd H7 D (.lst (acc ++ [w])))
section
variable {X : Cx}
theorem lc3_core {pins : List (Addr × Obj)} {s : Shared} {σ : L2.St} {H : Hp} {Q : VK} {elt t0 i0 t1 i1 t2 i2 : Expr} {scope : Scope} {own : List (Str × Nat)} {vs : List Nat} {v0 v1 v2 : Nat} {pos pos' : Pos} {wi wi1 wi2 : TI} {te : TE} {use : Option (Value → Sem Unit)} {Qf : Value → Shared → Prop}
    (hc : X.calm = true) (hN : X.N.Nodup) (I : Inv X pins σ H s) (hi : PI X t0 i0 wi) (ok : BlkOk X.N X.env.scope scope own) (hvs : own.map (·.2) = vs) (hv0 : v0 ∈ vs) (hv1 : v1 ∈ vs) (hv2 : v2 ∈ vs)
    (hg : ∀ (s : Shared) (H : Hp) (C : Addr) (cl : List (Str × Addr)) (fp : List Addr), PG (X.blk s H scope (compEnvC scope cl C X.env) fp) t0 (gName v0))
    (he : ∀ (s : Shared) (H : Hp) (C : Addr) (cl : List (Str × Addr)) (fp : List Addr), PE (X.blk s H scope (compEnvC scope cl C X.env) fp) elt te) (hs : ∀ x, foldedSetIterable i0 X.env x = pure x)
    (hi1 : ∀ (s : Shared) (H : Hp) (C : Addr) (cl : List (Str × Addr)) (fp : List Addr), PI (X.blk s H scope (compEnvC scope cl C X.env) fp) t1 i1 wi1)
    (hg1 : ∀ (s : Shared) (H : Hp) (C : Addr) (cl : List (Str × Addr)) (fp : List Addr), PG (X.blk s H scope (compEnvC scope cl C X.env) fp) t1 (gName v1))
    (hs1 : ∀ env x, foldedSetIterable i1 env x = pure x)
    (hi2 : ∀ (s : Shared) (H : Hp) (C : Addr) (cl : List (Str × Addr)) (fp : List Addr), PI (X.blk s H scope (compEnvC scope cl C X.env) fp) t2 i2 wi2)
    (hg2 : ∀ (s : Shared) (H : Hp) (C : Addr) (cl : List (Str × Addr)) (fp : List Addr), PG (X.blk s H scope (compEnvC scope cl C X.env) fp) t2 (gName v2))
    (hs2 : ∀ env x, foldedSetIterable i2 env x = pure x)
    (h : tLc3 wi wi1 wi2 v0 v1 v2 te vs σ H Q)
    (hRR : ∀ D C s' m H', Inv X pins σ H' s' → Q (.ref D) H' → s'.heap.Ns C m → FpOk X pins H' C → compPost (model X.prog X.w) X.A X.xe use Qf (.ref D) C (.ok .next) s') :
    wpAny (model X.prog X.w) X.A (comprehension (.ListComp elt [⟨t0, i0, [], 0⟩, ⟨t1, i1, [], 0⟩, ⟨t2, i2, [], 0⟩] scope pos) scope X.env pos' (newList []) false (eval i0 X.env) use) Qf X.xe s := by
  have hfree : ∀ y ∈ scope.names, y.2 = .free → ∃ c, X.env.cells.lookup y.1 = some c := fun y hy e => by
    rcases ok.free y hy e with k | k
    · exact I.ok.has _ (.inl k)
    · exact I.ok.has _ (.inr k)
  refine wpAny_comprehension_free (use := use) rfl hs (closure_ok hfree) ok.kind (fun y hy e => by rw [ok.uniq y hy, e])
    (thn (hi pins s σ H _ I h) fun xv s1 hx => thn hx fun itv s2 h2 => ?_)
  obtain ⟨it, fp, tn, J, H2, e, I2, T, st2, f2, q⟩ := h2
  subst e
  refine wpAny_newObj_type (newEnv_comp ?_) (by show 0 ≤ sizeLine; decide)
  generalize hD : s2.heap.objs.size = D
  have hDn : H2 D = none := I2.hok.fresh (Nat.le_of_eq hD)
  obtain ⟨W, ⟨m0, w0⟩, turn⟩ := q D hDn
  -- the new list
  generalize hs3 : ({ s2 with heap := s2.heap.push { cls := .type "list", data := .seq ([] : List Value).toArray } } : Shared) = s3
  have I3 : Inv X pins σ (upd H2 D (.lst [])) s3 := by
    rw [← hs3]
    refine I2.laid (t' := s2.toks) (fun b o e => Heap.get?_push_of_some _ e) (Nat.le_of_eq hD) ⟨Nat.zero_le _, [], 0, .nil, ?_⟩
    rw [← hD]
    exact Heap.get?_push_size _ rfl
  have h3 : s3.heap = s2.heap.push { cls := .type "list", data := .seq ([] : List Value).toArray } := by rw [← hs3]
  have sz : ∀ b ∈ fp, b < s2.heap.objs.size := fun b hb => by
    obtain ⟨o, e, _⟩ := T.obj _ _ st2 b hb
    exact Heap.lt_size e
  have f3 : ∀ b ∈ fp, FpOk X pins (upd H2 D (.lst [])) b ∧ b < s3.heap.objs.size := fun b hb => by
    have hlt := sz b hb
    refine ⟨⟨?_, (f2 b hb).2⟩, by rw [h3, Heap.size_push]; exact Nat.lt_succ_of_lt hlt⟩
    rw [upd_ne (by rw [← hD]; exact Nat.ne_of_lt hlt)]
    exact (f2 b hb).1
  have st3 : tn 0 s3.heap := T.keep _ _ _ st2 fun b _ o e => by rw [h3]; exact Heap.get?_push_of_some _ e
  have I4 := block_start I3 ok hN f3
  rw [hvs] at I4
  have pg := hg s3 (upd H2 D (.lst [])) s3.heap.objs.size (cellsFrom (s3.heap.objs.size + 1) scope.names (cloFrom X.env.cells scope.names [])) fp
  have pe := he s3 (upd H2 D (.lst [])) s3.heap.objs.size (cellsFrom (s3.heap.objs.size + 1) scope.names (cloFrom X.env.cells scope.names [])) fp
  have pi1 := hi1 s3 (upd H2 D (.lst [])) s3.heap.objs.size (cellsFrom (s3.heap.objs.size + 1) scope.names (cloFrom X.env.cells scope.names [])) fp
  have pg1 := hg1 s3 (upd H2 D (.lst [])) s3.heap.objs.size (cellsFrom (s3.heap.objs.size + 1) scope.names (cloFrom X.env.cells scope.names [])) fp
  have pi2 := hi2 s3 (upd H2 D (.lst [])) s3.heap.objs.size (cellsFrom (s3.heap.objs.size + 1) scope.names (cloFrom X.env.cells scope.names [])) fp
  have pg2 := hg2 s3 (upd H2 D (.lst [])) s3.heap.objs.size (cellsFrom (s3.heap.objs.size + 1) scope.names (cloFrom X.env.cells scope.names [])) fp
  show codeAny _ _ (.compStart (.ListComp elt [⟨t0, i0, [], 0⟩, ⟨t1, i1, [], 0⟩, ⟨t2, i2, [], 0⟩] scope pos) 0 (.ref it) (.ref D) (compEnvC scope (cellsFrom (s3.heap.objs.size + 1) scope.names (cloFrom X.env.cells scope.names [])) s3.heap.objs.size X.env)) (compPost (model X.prog X.w) X.A X.xe use Qf (.ref D) s3.heap.objs.size) { s3 with heap := pushCells (s3.heap.push { cls := .type "dict", data := .dict #[] }) scope.names }
  have nfp : ∀ b ∈ fp, (upd H2 D (.lst [])) b = none := fun b hb => (f3 b hb).1.1
  generalize hce : compEnvC scope (cellsFrom (s3.heap.objs.size + 1) scope.names (cloFrom X.env.cells scope.names [])) s3.heap.objs.size X.env = ce at I4 pg pe pi1 pg1 pi2 pg2 ⊢
  have cL : ce.locals = s3.heap.objs.size := by subst hce; rfl
  generalize hH3 : upd H2 D (.lst []) = H3 at I3 I4 pg pe pi1 pg1 pi2 pg2 w0 nfp f3
  generalize hs4 : ({ s3 with heap := pushCells (s3.heap.push { cls := .type "dict", data := .dict #[] }) scope.names } : Shared) = s4 at I4 ⊢
  have st4 : tn 0 s4.heap := T.keep _ _ _ st3 fun b _ o e => by rw [← hs4]; exact pushCells_keeps _ _ _ _ (Heap.get?_push_of_some _ e)
  have stat : ∀ {σ' : L2.St} {H' : Hp} {s' : Shared}, Inv (X.blk s3 H3 scope ce fp) [] σ' H' s' → (∀ b ∈ fp, H' b = none) → ∀ b ∈ fp, FpOk (X.blk s3 H3 scope ce fp) [] H' b := fun {σ' H' s'} I' hn b hb =>
    ⟨hn b hb, (I'.ok.exf b hb).1, I'.ok.exfs b hb, .inl hb, fun x c e => (I'.ok.exf b hb).2 x c e, fun p hp => absurd (show p ∈ ([] : List (Addr × Obj)) ++ [] from hp) (by simp)⟩
  have loop : codeAny (model X.prog X.w) X.A (.compLoop (.ListComp elt [⟨t0, i0, [], 0⟩, ⟨t1, i1, [], 0⟩, ⟨t2, i2, [], 0⟩] scope pos) 0 (.ref it) (.ref D) ce) (compPost (model X.prog X.w) X.A X.xe use Qf (.ref D) s3.heap.objs.size) s4 := by
    refine cl3_0 (hs1 ce) (fun n s' => ∃ i H', Inv (X.blk s3 H3 scope ce fp) [] (L2.wipe σ vs) H' s' ∧ tn i s'.heap ∧ (∀ b ∈ fp, H' b = none) ∧ W i n H') ?_ m0 ⟨0, H3, I4, st4, nfp, w0⟩
    rintro n s5 ⟨i, H5, I5, st5, n5, w5⟩
    rcases turn i n H5 w5 with ⟨stop, qq⟩ | ⟨go, Nx, hNx, step⟩
    · have td := T.done (X.blk s3 H3 scope ce fp) rfl rfl rfl hc i [] s5 _ H5 (fun _ _ => False) I5 (stat I5 n5) st5 stop
      refine thnF td fun r s6 ⟨hr, I6⟩ => ?_
      subst hr
      -- back in the def's context
      have I7 : Inv X pins σ H5 s6 := I3.call' (ch := fp) I6.os I6.base I6.hok I6.bare fun b hb => ⟨(f3 b hb).1.2.2.2.1, (f3 b hb).1.2.1, (f3 b hb).1.2.2.2.2.1, (f3 b hb).1.2.2.2.2.2⟩
      have nC : H5 s3.heap.objs.size = none := by
        have z : H5 ce.locals = none := I6.free
        rw [cL] at z
        exact z
      obtain ⟨m, hn, _⟩ := I6.loc
      have hn : s6.heap.Ns ce.locals m := hn
      rw [cL] at hn
      exact hRR D s3.heap.objs.size s6 m H5 I7 qq hn (I3.fpOk (Nat.le_refl _) nC)
    · have ti := T.item (X.blk s3 H3 scope ce fp) rfl rfl rfl hc i [] s5 _ H5 (fun _ _ => False) I5 (stat I5 n5) st5 go
      refine thnF ti fun r s6 ⟨u, hr, h6⟩ => ?_
      subst hr
      refine thnF h6 fun _ s7 ⟨x, H7, I7, r7, y7, st7, n7⟩ => ?_
      have I7' := I7.pinned (stat I7 n7) (T.obj _ _ st7)
      refine thnF (pg _ s7 _ H7 x u (fun σ' H' => σ' = (L2.wipe σ vs).set v0 (some x) ∧ H' = H7) I7' r7 ⟨rfl, rfl⟩) fun _ s8 ⟨σ8, H8, I8, e8, e9⟩ => ?_
      subst e8; subst e9
      have q8 := step x _ y7
      have fin : ∀ {σ9 : L2.St} {s' : Shared} {H' : Hp}, Inv (X.blk s3 H3 scope ce fp) ([] ++ pinsAt fp s7.heap) σ9 H' s' → (∀ (j : Nat) v, (L2.wipe σ vs)[j]? = some (some v) → σ9[j]? = some (some v)) → Nx H' →
          ∃ m, m < n ∧ ∃ i H', Inv (X.blk s3 H3 scope ce fp) [] (L2.wipe σ vs) H' s' ∧ tn i s'.heap ∧ (∀ b ∈ fp, H' b = none) ∧ W i m H' := fun {σ9 s' H'} I' hk nx => by
        obtain ⟨m', hm, w'⟩ := hNx H' nx
        have pin' : ∀ b ∈ fp, ∀ o, s7.heap.get? b = some o → s'.heap.get? b = some o ∧ H' b = none := fun b hb o e =>
          let z := I'.pin (b, o) (List.mem_append_right _ (List.mem_append_right _ (mem_pinsAt hb e)))
          ⟨z.1, z.2.1⟩
        refine ⟨m', hm, i + 1, H', (I'.unpinned (pins := [])).weak (by rw [I'.len, ← I5.len]) hk, T.keep _ _ _ st7 fun b hb o e => (pin' b hb o e).1, fun b hb => ?_, w'⟩
        obtain ⟨o, e, _⟩ := T.obj _ _ st7 b hb
        exact (pin' b hb o e).2
      refine thnF (pi1 _ s8 _ _ _ I8 q8) fun xv s10 hx => thnF hx fun itv s11 h11 => ?_
      obtain ⟨it1, fp1, tn1, J1, H11, e1, I11, T1, st11, f11, lp1⟩ := h11
      subst e1
      have loop1 := il3_1 (Y := X.blk s3 H3 scope ce fp) (ws := [v1, v2]) (elt := elt) (t0 := t0) (i0 := i0) (t1 := t1) (i1 := i1) (t2 := t2) (i2 := i2) (scope := scope) (pos := pos) (D := D) hc rfl (hs2 ce) pg1 T1 (by simp) I11 st11 f11 lp1 fun y H12 N1 pins' σ' s12 I12 e12 q12 => by
        subst e12
        refine thnF (pi2 _ s12 _ _ _ I12 q12) fun xv s13 hx => thnF hx fun itv s14 h14 => ?_
        obtain ⟨it2, fp2, tn2, J2, H14, e2, I14, T2, st14, f14, lp2⟩ := h14
        subst e2
        have loop2 := il3_2 (Y := X.blk s3 H3 scope ce fp) (ws := [v2]) (elt := elt) (t0 := t0) (i0 := i0) (t1 := t1) (i1 := i1) (t2 := t2) (i2 := i2) (scope := scope) (pos := pos) (D := D) hc rfl pg2 T2 (by simp) I14 st14 f14 lp2 fun z H15 N2 pins2 σ2 s15 I15 e15 q15 => by
          subst e15
          refine thnF (pe _ s15 _ _ _ I15 q15) fun zv s16 ⟨yv, H16, I16, r16, acc, hD16, hz16, nx⟩ => ?_
          exact app_ok (X := X.blk s3 H3 scope ce fp) I16 hD16 hz16 r16 fun s17 I17 => ⟨_, _, I17, fun j v e => keep_set (by simp) e, nx⟩
        have loop2' : codeAny (model X.prog X.w) X.A (.compLoop (.ListComp elt [⟨t0, i0, [], 0⟩, ⟨t1, i1, [], 0⟩, ⟨t2, i2, [], 0⟩] scope pos) 2 (.ref it2) (.ref D) ce) (fun r s' => match r with
            | .ok _ => ∃ σ2 H2, Inv (X.blk s3 H3 scope ce fp) pins' σ2 H2 s' ∧ (∀ (j : Nat) v, (L2.wipe ((L2.wipe σ vs).set v0 (some x)) [v1, v2])[j]? = some (some v) → σ2[j]? = some (some v)) ∧ N1 H2
            | .error _ => False) s14 := codeAny_mono loop2 fun r s' hr => by
          cases r with
          | error _ => exact hr.elim
          | ok _ =>
            obtain ⟨H2', I2', n2'⟩ := hr
            refine ⟨_, H2', I2', fun j v e => ?_, n2'⟩
            obtain ⟨_, e2⟩ := wipe_some e
            rw [wipe_out (fun z => e2 (List.mem_cons_of_mem _ z))]
            exact keep_set (by simp) e
        exact cs3_2 loop2' (T2.self X.A 0 _ _ _ st14 loop2')
      have loop1' : codeAny (model X.prog X.w) X.A (.compLoop (.ListComp elt [⟨t0, i0, [], 0⟩, ⟨t1, i1, [], 0⟩, ⟨t2, i2, [], 0⟩] scope pos) 1 (.ref it1) (.ref D) ce) (fun r s' => match r with
            | .ok _ => ∃ m, m < n ∧ ∃ i H', Inv (X.blk s3 H3 scope ce fp) [] (L2.wipe σ vs) H' s' ∧ tn i s'.heap ∧ (∀ b ∈ fp, H' b = none) ∧ W i m H'
            | .error _ => False) s11 := codeAny_mono loop1 fun r s' hr => by
        cases r with
        | error _ => exact hr.elim
        | ok _ =>
          obtain ⟨H2', I2', n2'⟩ := hr
          refine fin I2' (fun j v e => ?_) n2'
          obtain ⟨_, e2⟩ := wipe_some e
          rw [wipe_out (fun z => e2 ?_)]
          · exact keep_set hv0 e
          · rcases List.mem_cons.mp z with q | q
            · rw [q]; exact hv1
            · rw [List.mem_singleton.mp q]; exact hv2
      exact cs3_1 loop1' (T1.self X.A 0 _ _ _ st11 loop1')
  exact codeAny_compStart_list loop (T.self X.A 0 _ _ _ st4 loop)
theorem pe_lc3 {elt t0 i0 t1 i1 t2 i2 : Expr} {scope : Scope} {own : List (Str × Nat)} {vs : List Nat} {v0 v1 v2 : Nat} {pos : Pos} {wi wi1 wi2 : TI} {te : TE}
    (hc : X.calm = true) (hN : X.N.Nodup) (hi : PI X t0 i0 wi) (ok : BlkOk X.N X.env.scope scope own) (hvs : own.map (·.2) = vs) (hv0 : v0 ∈ vs) (hv1 : v1 ∈ vs) (hv2 : v2 ∈ vs)
    (hg : ∀ (s : Shared) (H : Hp) (C : Addr) (cl : List (Str × Addr)) (fp : List Addr), PG (X.blk s H scope (compEnvC scope cl C X.env) fp) t0 (gName v0))
    (he : ∀ (s : Shared) (H : Hp) (C : Addr) (cl : List (Str × Addr)) (fp : List Addr), PE (X.blk s H scope (compEnvC scope cl C X.env) fp) elt te) (hs : ∀ x, foldedSetIterable i0 X.env x = pure x)
    (hi1 : ∀ (s : Shared) (H : Hp) (C : Addr) (cl : List (Str × Addr)) (fp : List Addr), PI (X.blk s H scope (compEnvC scope cl C X.env) fp) t1 i1 wi1)
    (hg1 : ∀ (s : Shared) (H : Hp) (C : Addr) (cl : List (Str × Addr)) (fp : List Addr), PG (X.blk s H scope (compEnvC scope cl C X.env) fp) t1 (gName v1))
    (hs1 : ∀ env x, foldedSetIterable i1 env x = pure x)
    (hi2 : ∀ (s : Shared) (H : Hp) (C : Addr) (cl : List (Str × Addr)) (fp : List Addr), PI (X.blk s H scope (compEnvC scope cl C X.env) fp) t2 i2 wi2)
    (hg2 : ∀ (s : Shared) (H : Hp) (C : Addr) (cl : List (Str × Addr)) (fp : List Addr), PG (X.blk s H scope (compEnvC scope cl C X.env) fp) t2 (gName v2))
    (hs2 : ∀ env x, foldedSetIterable i2 env x = pure x) : PE X (.ListComp elt [⟨t0, i0, [], 0⟩, ⟨t1, i1, [], 0⟩, ⟨t2, i2, [], 0⟩] scope pos) (tLc3 wi wi1 wi2 v0 v1 v2 te vs) := by
  intro pins s σ H Q I h
  rw [eval_ListComp]
  refine lc3_core hc hN I hi ok hvs hv0 hv1 hv2 hg he hs hi1 hg1 hs1 hi2 hg2 hs2 h fun D C s' m H' I' q hn f => ⟨m, hn, fun h'' sb => ?_⟩
  obtain ⟨f0, f1, f2, f3, f4, f5⟩ := f
  exact ⟨.ref D, H', I'.turned (t' := s'.toks) (fun b o hb e => (sb.2 b hb).trans e) f0 f1 f3 f4 f5, rfl, q⟩
end
end Ky

namespace Ky
open PySem PySem.Spec PyProof.Rows L2
theorem Exw.refl {th om : List Addr} {H : Hp} : Exw th om H th H := (Ext.refl (om := om)).w
theorem Exw.grow {th om th2 : List Addr} {H H2 : Hp} {p : Addr} {xs ys : List V} (x : Exw th (p :: om) H th2 H2) (hp : H2 p = some (.lst xs)) : Exw th (p :: om) H th2 (upd H2 p (.lst ys)) := by
  refine ⟨x.pre, fun a zs h => ?_, fun a zs n1 n2 h => ?_, fun a o u h => ?_⟩
  · have z := x.tup a zs h
    have ne : a ≠ p := by rintro rfl; rcases z with z | ⟨_, z⟩ <;> (rw [hp] at z; cases z)
    rcases z with z | ⟨o, z⟩
    · exact .inl (by rw [upd_ne ne]; exact z)
    · exact .inr ⟨o, by rw [upd_ne ne]; exact z⟩
  · have ne : a ≠ p := fun e => n2 (by rw [e]; exact List.mem_cons_self)
    obtain ⟨z1, z2⟩ := x.lst a zs n1 n2 h
    exact ⟨by rw [upd_ne ne]; exact z1, z2⟩
  · have z := x.frz a o u h
    have ne : a ≠ p := by rintro rfl; rw [hp] at z; cases z
    rw [upd_ne ne]; exact z
section
variable {g : G} {Φ : Cal} {th1 om : List Addr} {H1 : Hp} {Dd : Addr}
/-- the world of a growing comprehension -/
structure Gw (g : G) (th1 om : List Addr) (H1 : Hp) (Dd : Addr) (th : List Addr) (H : Hp) (m : M) (acc : List D) : Prop where
  x : Ext th1 om H1 th H
  mr : MRep g th (Dd :: om) H m
  ac : ∃ xs, H Dd = some (.lst xs) ∧ RepA g th (Dd :: om) H xs acc
theorem Gw.step {th th' : List Addr} {H H' : Hp} {m m' : M} {acc : List D} (w : Gw g th1 om H1 Dd th H m acc) (hD : H1 Dd = none) (x : Ext th (Dd :: om) H th' H') (mr : MRep g th' (Dd :: om) H' m') : Gw g th1 om H1 Dd th' H' m' acc := by
  obtain ⟨xs, h1, h2⟩ := w.ac
  exact ⟨w.x.outer hD x, mr, xs, by rw [x.own Dd List.mem_cons_self]; exact h1, h2.mono x⟩
theorem lp_fold {s : Src} {J : It} {thb omb : List Addr} {Hb : Hp} {Z : List Addr → Hp → Prop} {sd : D → M → List D → Option (List D × M)} {th0 : List Addr} {H0 : Hp} {m m' : M} {acc acc' : List D} {Nx : Hp → Prop} {step : V → Hp → (Hp → Prop) → Prop}
    (hD : H1 Dd = none) (zE : ∀ th H th' H', Z th H → Ext th (Dd :: om) H th' H' → Z th' H') (zx : ∀ th H, Ext th1 om H1 th H → Z th H → Exw thb omb Hb th H) (ok : ItOk g omb s J thb Hb) (ox : ∀ a ∈ Dd :: om, a ∈ omb ∨ Hb a = none)
    (w0 : Gw g th1 om H1 Dd th0 H0 m acc) (z0 : Z th0 H0) (fo : foldC s sd s.its m acc = some (acc', m')) (hN : ∀ th H, Gw g th1 om H1 Dd th H m' acc' → Z th H → Nx H)
    (hst : ∀ x d m acc acc2 m2 th H N, Rep g th (Dd :: om) H x d → Gw g th1 om H1 Dd th H m acc → Z th H → sd d m acc = some (acc2, m2) → (∀ th' H', Gw g th1 om H1 Dd th' H' m2 acc2 → Z th' H' → N H') → step x H N) : Lp J H0 Nx step := by
  refine ⟨fun i n H => n = s.its.length - i ∧ i ≤ s.its.length ∧ ∃ th m acc, Gw g th1 om H1 Dd th H m acc ∧ Z th H ∧ foldC s sd (s.its.drop i) m acc = some (acc', m'), ⟨s.its.length, by simp, Nat.zero_le _, th0, m, acc, w0, z0, fo⟩, ?_⟩
  rintro i n H ⟨rfl, hi, th, m2, acc2, w2, z2, fo2⟩
  by_cases hlt : i < s.its.length
  · rw [List.drop_eq_getElem_cons hlt] at fo2
    unfold foldC at fo2
    split at fo2
    · rename_i hok
      obtain ⟨acc3, m3, e3, fo2⟩ := bnd_inv fo2
      obtain ⟨go, yl⟩ := (ok (Dd :: om) th H m2 i ox (zx th H w2.x z2) w2.mr hok).1 hlt
      refine .inr ⟨go, fun H' => ∃ th' , Gw g th1 om H1 Dd th' H' m3 acc3 ∧ Z th' H', fun H' ⟨th', w', z'⟩ => ⟨s.its.length - (i + 1), by omega, rfl, hlt, th', m3, acc3, w', z', fo2⟩, fun x H' hy => ?_⟩
      obtain ⟨xe, mr3, d, ed, rd⟩ := yl x H' hy
      rw [List.getElem?_eq_getElem hlt] at ed; cases ed
      exact hst x _ m2 acc2 acc3 m3 th H' _ rd (w2.step hD xe mr3) (zE _ _ _ _ z2 xe) e3 fun th' H'' w' z' => ⟨th', w', z'⟩
    · cases fo2
  · have e : i = s.its.length := by omega
    subst e
    rw [List.drop_length] at fo2
    unfold foldC at fo2
    split at fo2
    · rename_i hok
      cases fo2
      exact .inl ⟨(ok (Dd :: om) th H _ _ ox (zx th H w2.x z2) w2.mr hok).2 (Nat.le_refl _), hN th H w2 z2⟩
    · cases fo2
theorem red_lc3 {own : List Nat} {i0 i1 i2 : I} {v0 v1 v2 : Nat} {elt : E} : ∀ σ H Q, tE g Φ (.lc3 own i0 v0 i1 v1 i2 v2 elt) σ H Q → tLc3 (tI g Φ i0) (tI g Φ i1) (tI g Φ i2) v0 v1 v2 (tE g Φ elt) own σ H Q := by
  rintro σ H Q ⟨th, om, ρ, m, d, m', er, mr, ev, af⟩
  unfold evE at ev
  obtain ⟨s0, m1, e1, ev⟩ := bnd_inv ev
  obtain ⟨acc, m2, e2, ev⟩ := bnd_inv ev
  cases ev
  refine ⟨th, om, ρ, m, s0, m1, er, mr, e1, fun J0 th1 H1 x1 mr1 ok0 Dd hD => ?_⟩
  have n2 := (mr1.fresh hD).2
  have ox : ∀ a ∈ Dd :: om, a ∈ om ∨ H1 a = none := fun a h => (List.mem_cons.mp h).elim (fun z => .inr (by rw [z]; exact hD)) .inl
  have oy : ∀ a ∈ Dd :: om, a ∈ Dd :: om ∨ H1 a = none := fun a h => .inl h
  refine lp_fold (g := g) (th1 := th1) (om := om) (H1 := H1) (Z := fun _ _ => True) hD (fun _ _ _ _ _ _ => trivial) (fun th H x _ => x.w) ok0 ox ⟨Ext.new mr1 hD, mr1.grow hD, [], upd_same, .nil⟩ trivial e2 (fun th2 H2 w _ => ?_) ?_
  · obtain ⟨xs, h1, h2⟩ := w.ac
    have np : Dd ∉ th2 := fun z => w.mr.dis Dd z List.mem_cons_self
    exact af (.ref Dd) th2 H2 (x1.trans w.x) w.mr.less (.lst h1 np n2 (h2.less fun a h => List.mem_cons_of_mem _ h))
  · intro x dx ma acca acc2 m2' tha Ha N0 rx wa _ sd hN0
    obtain ⟨s1, m3, e3, sd⟩ := bnd_inv sd
    have era : EnvR g tha (Dd :: om) Ha ((L2.wipe σ own).set v0 (some x)) ((wipeD ρ own).set v0 (some dx)) := (((er.mono x1).up wa.x.w ox).wipe own).set rx v0
    refine ⟨tha, Dd :: om, _, ma, s1, m3, era, wa.mr, e3, fun J1 thb Hb xb mrb ok1 => ?_⟩
    refine lp_fold (g := g) (th1 := th1) (om := om) (H1 := H1) (Z := fun th H => Exw tha (Dd :: om) Ha th H ∧ Exw thb (Dd :: om) Hb th H) hD (fun th H th' H' z x => ⟨z.1.trans x.w, z.2.trans x.w⟩) (fun th H _ z => z.2) ok1 (fun a h => .inl h) (wa.step hD xb mrb) ⟨xb.w, Exw.refl⟩ sd (fun th H w _ => hN0 th H w trivial) ?_
    intro y dy mc accc acc4 m4 thc Hc N1 ry wc zc sd1 hN1
    obtain ⟨s2, m5, e5, sd1⟩ := bnd_inv sd1
    have erc : EnvR g thc (Dd :: om) Hc ((L2.wipe ((L2.wipe σ own).set v0 (some x)) [v1, v2]).set v1 (some y)) ((wipeD ((wipeD ρ own).set v0 (some dx)) [v1, v2]).set v1 (some dy)) := ((era.up zc.1 fun a h => .inl h).wipe [v1, v2]).set ry v1
    refine ⟨thc, Dd :: om, _, mc, s2, m5, erc, wc.mr, e5, fun J2 the He xe mre ok2 => ?_⟩
    refine lp_fold (g := g) (th1 := th1) (om := om) (H1 := H1) (Z := fun th H => (Exw tha (Dd :: om) Ha th H ∧ Exw thb (Dd :: om) Hb th H) ∧ Exw thc (Dd :: om) Hc th H ∧ Exw the (Dd :: om) He th H) hD
      (fun th H th' H' z x => ⟨⟨z.1.1.trans x.w, z.1.2.trans x.w⟩, z.2.1.trans x.w, z.2.2.trans x.w⟩) (fun th H _ z => z.2.2) ok2 (fun a h => .inl h) (wc.step hD xe mre) ⟨⟨zc.1.trans xe.w, zc.2.trans xe.w⟩, xe.w, Exw.refl⟩ sd1 (fun th H w z => hN1 th H w z.1) ?_
    intro z dz mf accf acc6 m6 thf Hf N2 rz wf zf sd2 hN2
    obtain ⟨dd, m7, e7, sd2⟩ := bnd_inv sd2
    split at sd2
    · rename_i hz
      cases sd2
      have erf : EnvR g thf (Dd :: om) Hf ((L2.wipe ((L2.wipe ((L2.wipe σ own).set v0 (some x)) [v1, v2]).set v1 (some y)) [v2]).set v2 (some z)) ((wipeD ((wipeD ((wipeD ρ own).set v0 (some dx)) [v1, v2]).set v1 (some dy)) [v2]).set v2 (some dz)) := ((erc.up zf.2.1 fun a h => .inl h).wipe [v2]).set rz v2
      refine ⟨thf, Dd :: om, _, mf, dd, _, erf, wf.mr, e7, fun vz th8 H8 x8 mr8 rv => ?_⟩
      have w8 := wf.step hD x8 mr8
      obtain ⟨xs, h1, h2⟩ := w8.ac
      have np : Dd ∉ th8 := fun z => mr8.dis Dd z List.mem_cons_self
      refine ⟨xs, h1, by rw [big_eq, h2.length]; exact hz, hN2 th8 _ ⟨w8.x.grown hD h1 n2, (mr8.grown h1).1, _, upd_same, (h2.append (.cons rv .nil)).grown np h1⟩ ?_⟩
      exact ⟨⟨(zf.1.1.trans x8.w).grow h1, (zf.1.2.trans x8.w).grow h1⟩, (zf.2.1.trans x8.w).grow h1, (zf.2.2.trans x8.w).grow h1⟩
    · cases sd2
end
end Ky

namespace Ky
open PySem PySem.Spec PyProof.Rows L2

section
variable {gc : GC} {g : G} {P : List Fn} {k n : Nat}
theorem opt_map {α β : Type} {f : α → β} {o : Option α} {b : β} (h : o.map f = some b) : ∃ a, o = some a ∧ f a = b := Option.map_eq_some_iff.mp h
theorem opt_bind {α β : Type} {f : α → Option β} {o : Option α} {b : β} (h : o.bind f = some b) : ∃ a, o = some a ∧ f a = some b := Option.bind_eq_some_iff.mp h
theorem rngArg_ok {x : Str} {a b : Expr} (h : rngArg x a = some b) : x = "list" ∧ ∃ p q, a = .Call (.Name "range" p) [b] [] q := by
  unfold rngArg at h
  split at h
  · split at h
    · rename_i e
      obtain ⟨h1, h2⟩ := e
      cases h
      subst h2
      exact ⟨h1, _, _, rfl⟩
    · cases h
  · cases h
theorem tyArg_ok {b : Expr} {y : Str} (h : tyArg b = some y) : ∃ p, b = .Name y p := by
  unfold tyArg at h
  split at h
  · cases h; exact ⟨_, rfl⟩
  · cases h
theorem tyB_ok {y : Str} {t : Ty} (h : tyB y = some t) : bootBuiltins y = some (.type (tyName t)) := by
  unfold tyB at h
  split at h
  · rename_i e; subst e; cases h; decide +kernel
  · split at h
    · rename_i e; subst e; cases h; decide +kernel
    · split at h
      · rename_i e; subst e; cases h; decide +kernel
      · split at h
        · rename_i e; subst e; cases h; decide +kernel
        · split at h
          · rename_i e; subst e; cases h; decide +kernel
          · cases h
theorem XOk.blk {c : C} {X : Cx} (ok : XOk gc g P k c X) {scope : Scope} (hk : scope.kind = .function) (s : Shared) (H : Hp) (A : Addr) (cl : List (Str × Addr)) (fp : List Addr) :
    XOk gc g P k (c.blk scope) (X.blk s H scope (compEnvC scope cl A X.env) fp) where
  N := ok.N
  sc := by
    show relS scope X.env.scope = relS scope c.sc
    rw [ok.sc]
  fn := fun x h => h
  nd := ok.nd
  calm := ok.calm
  xe := rfl
  K := ok.K
  kind := hk
  room := ok.room
  blt := ok.blt
  cst := ok.cst
  tab := ok.tab
  tabf := ok.tabf
  fnm := ok.fnm
  fns := fun f a h => by
    obtain ⟨h1, h2⟩ := ok.fns f a h
    exact ⟨h1, h2⟩
theorem pg_tg {c : C} {X : Cx} (ok : XOk gc g P k c X) {tg : Expr} {t : Tg} (h : trTg c tg = some t) : PG X tg (tgR g.K t) := by
  have hf : ∀ x i, tslot c x = some i → X.N[i]? = some x ∧ Loc X.env.scope x ∧ (X.fn x = true ∨ X.env.scope.names.lookup x = some .local) := fun x i h => by
    obtain ⟨h1, h2, h3⟩ := tslot_ok h
    exact ⟨by rw [ok.N]; exact h1, by rw [ok.sc]; exact h2, h3.elim (fun z => .inl (ok.fn x z)) fun z => .inr (by rw [ok.sc]; exact z)⟩
  unfold trTg at h
  split at h
  · obtain ⟨i, h1, rfl⟩ := opt_map h
    obtain ⟨a1, a2, a3⟩ := hf _ i h1
    exact pg_name ok.nd a1 a2 a3
  · obtain ⟨is, h1, rfl⟩ := opt_map h
    obtain ⟨b1, b2, b3⟩ := pgs_names hf ok.nd h1
    show PG X _ (gTup g.K is.length (gNames is))
    rw [← ok.K]
    exact pg_tup ok.calm b1 b2 b3
  · cases h
theorem base_ok {o : Expr} {m : Str} {env : PySem.Env} (h : nCall0 o = true) : attributeBase o m env (eval o env) = eval o env := by
  cases o <;> first | rfl | (cases h; done)
theorem ids_ok {tg : Tg} {own : List Nat} (h : tg.ids.all (fun i => decide (i ∈ own)) = true) : ∀ i ∈ tg.ids, i ∈ own := fun i hi => of_decide_eq_true (List.all_eq_true.mp h i hi)
theorem mapEs_cons {f : Expr → Option E} {e : Expr} {r : List Expr} {es : Es} (h : mapEs f (e :: r) = some es) : nStar e = true ∧ ∃ es', mapEs f r = some es' := by
  unfold mapEs at h
  by_cases hs : nStar e = true
  · rw [if_pos hs] at h
    obtain ⟨_, _, h⟩ := opt_bind h
    obtain ⟨b, hb, _⟩ := opt_bind h
    exact ⟨hs, b, hb⟩
  · rw [if_neg hs] at h; cases h
theorem pa1 {X : Cx} {Φ : Cal} {a : Expr} {a' : E} (ha : PE X a (tE g Φ a')) (hs : nStar a = true) : PA X [a] (tA g Φ (.cons a' .nil)) :=
  PAi (pa_cons ha (PAi pa_nil tA_nil) (star_cons hs)) tA_cons
theorem pa2 {X : Cx} {Φ : Cal} {a b : Expr} {a' b' : E} (ha : PE X a (tE g Φ a')) (hb : PE X b (tE g Φ b')) (hs : nStar a = true) (hs2 : nStar b = true) : PA X [a, b] (tA g Φ (.cons a' (.cons b' .nil))) :=
  PAi (pa_cons ha (pa1 hb hs2) (star_cons hs)) tA_cons
theorem star1 {a : Expr} {env : PySem.Env} (h : nStar a = true) : starEach [a] env = [(false, eval a env)] := star_cons h
/-- isinstance -/
def rIs (g : G) (t : Ty) : List V → Hp → VK → Prop := fun vs H Q => ∃ th om m vx x b, vs = [vx, .ty (tyName t)] ∧ MRep g th om H m ∧ Rep g th om H vx x ∧ isTy t x m = some b ∧ Q (.bl b) H
theorem cr_is {X : Cx} (hK : X.K = g.K) (t : Ty) : CallR X (.builtin "isinstance") (rIs g t) := by
  intro pins s σ H xs us Q I r h
  obtain ⟨th, om, m, vx, x, b, rfl, mr, rx, e, q⟩ := h
  obtain ⟨u, w, rfl, ru, rw'⟩ := vals2 r
  obtain rfl : w = Value.type (tyName t) := rw'
  exact isI_ok hK I mr rx ru e q
theorem step_call (ih : Snd gc g P k n) {c : C} {X : Cx} (ok : XOk gc g P k c X) {x : Str} {p pos : Pos} {args : List Expr} {e' : E}
    (h : (match idxN x gc.funs with
      | some f => if (glB c.sc x && okN x) = true then (mapEs (trE gc n c) args).bind fun es => some (E.callF f es) else none
      | none => match slot c x with
        | some i => match args with
          | [] => none
          | a :: r => (mapEs (trE gc n c) (a :: r)).bind fun es => some (E.callV i es)
        | none => if isBlt gc c x = true then match args with
          | [a] => match rngArg x a with
            | some b => if (isBlt gc c "range" && nStar b) = true then (trE gc n c b).bind fun b' => some (E.op1 .lrng b') else none
            | none => if nStar a = true then (blt1 x).bind fun u => (trE gc n c a).bind fun a' => some (E.op1 u a') else none
          | [a, b] => if (nStar a && nStar b) = true then
              (if x = "isinstance" then (tyArg b).bind fun y => if isBlt gc c y = true then (tyB y).bind fun t => (trE gc n c a).bind fun a' => some (E.op1 (.isI t) a') else none
              else (blt2 x).bind fun u => (trE gc n c a).bind fun a' => (trE gc n c b).bind fun b' => some (E.op2 u a' b')) else none
          | _ => none
        else none) = some e') : PE X (.Call (.Name x p) args [] pos) (tE g (callN P k) e') := by
  have hK := ok.K
  have args_ : ∀ {es : List Expr} {r : Es}, mapEs (trE gc n c) es = some r → PA X es (tA g (callN P k) r) := fun h => args_ok (fun e _ e' he => ih.e c X e e' ok he) h
  split at h
  · rename_i f hf
    split at h
    · rename_i hg
      rw [Bool.and_eq_true] at hg
      obtain ⟨es, h1, h⟩ := opt_bind h
      cases h
      obtain ⟨a, e1, e2⟩ := ok.fnm x f hf
      have fn := ok.fns f a e1
      cases args with
      | nil =>
        cases h1
        refine PEi (pe_callF0 (ok.gl hg.1) (okN_ok hg.2).1 e2 ok.room fn) fun σ H Q q => ?_
        exact tA_nil _ _ _ (red_callF σ H Q q)
      | cons e r =>
        obtain ⟨hs, es', hr⟩ := mapEs_cons h1
        exact PEi (pe_callF (ok.gl hg.1) (okN_ok hg.2).1 e2 ok.room fn (args_ h1) (star_cons hs) (star_any hr)) red_callF
    · cases h
  · split at h
    · rename_i i hi
      split at h
      · cases h
      · rename_i a r
        obtain ⟨es, h1, h⟩ := opt_bind h
        cases h
        obtain ⟨hs, es', hr⟩ := mapEs_cons h1
        obtain ⟨h3, h4, h5⟩ := slot_ok hi
        obtain ⟨d1, d2, _⟩ := okN_ok h5
        exact PEi (pe_callV (by rw [ok.N]; exact h3) (by rw [ok.sc]; exact h4) d1 d2 ok.room ok.fns (args_ h1) (star_cons hs) (star_any hr)) red_callV
    · split at h
      · rename_i hb
        obtain ⟨g1, g2, g3, g4⟩ := ok.bltn hb
        split at h
        · rename_i a
          split at h
          · rename_i b hr
            obtain ⟨rfl, p2, q2, rfl⟩ := rngArg_ok hr
            split at h
            · rename_i hc
              rw [Bool.and_eq_true] at hc
              obtain ⟨b', h1, h⟩ := opt_bind h
              cases h
              obtain ⟨r1, r2, r3, r4⟩ := ok.bltn hc.1
              have hv := pe_rngV (p := p2) (pos := q2) r1 r2 (pa1 (ih.e c X b b' ok h1) hc.2) (star1 hc.2)
              refine PEi (pe_callTy (call_lrng ok.calm) g1 g2 (by decide +kernel) (pa_cons hv pa_nil rfl) g4 g3 rfl rfl) fun σ H Q q => ?_
              obtain ⟨th, om, ρ, m, xs, m', er, mr, ev, af⟩ := redC1 (Φ := callN P k) core_lrng σ H Q q
              refine ⟨th, om, ρ, m, xs, m', er, mr, ev, fun vs th1 H1 x1 mr1 rs => ?_⟩
              obtain ⟨y, e1, z, e2, z0, z1, zq⟩ := af vs th1 H1 x1 mr1 rs
              refine ⟨z, by rw [e1, e2], fun r hr => ?_⟩
              exact ⟨r, z, rfl, upd_same, z0, z1, zq r hr⟩
            · cases h
          · split at h
            · rename_i hs
              obtain ⟨u, hu, h⟩ := opt_bind h
              obtain ⟨a', h1, h⟩ := opt_bind h
              cases h
              obtain ⟨r, hc, hr⟩ := blt1_ok ok hu
              rcases hr with ⟨id, hv, hr⟩ | ⟨T, hv, hr⟩
              · exact PEi (pe_callB hr g1 g2 hv (pa1 (ih.e c X a a' ok h1) hs) g4 g3 (star1 hs) rfl) (redC1 hc)
              · exact PEi (pe_callTy hr g1 g2 hv (pa1 (ih.e c X a a' ok h1) hs) g4 g3 (star1 hs) rfl) (redC1 hc)
            · cases h
        · rename_i a b
          split at h
          · rename_i hs
            rw [Bool.and_eq_true] at hs
            split at h
            · rename_i ex
              subst ex
              obtain ⟨y, hy, h2⟩ := opt_bind h
              clear h
              obtain ⟨py, rfl⟩ := tyArg_ok hy
              have h := h2
              clear h2
              split at h
              · rename_i hb2
                obtain ⟨t, ht, h⟩ := opt_bind h
                obtain ⟨a', h1, h⟩ := opt_bind h
                cases h
                obtain ⟨r1, r2, r3, r4⟩ := ok.bltn hb2
                refine PEi (pe_callB (cr_is hK t) g1 g2 (by decide +kernel) (pa_cons (ih.e c X a a' ok h1) (pa_cons (pe_bltn (v := .ty (tyName t)) r1 r2 (tyB_ok ht) rfl r4 r3) pa_nil rfl) (star_cons hs.1)) g4 g3 (star_cons hs.1) rfl) fun σ H Q => ?_
                rintro ⟨th, om, ρ, m, d, m', er, mr, ev, af⟩
                unfold evE at ev
                obtain ⟨x, m1, e1, ev⟩ := bnd_inv ev
                obtain ⟨b, e2, e3⟩ := opt_map (show (isTy t x m1).map (fun b => (D.bl b, m1)) = some (d, m') from (by cases x <;> exact ev))
                cases e3
                exact ⟨th, om, ρ, m, x, _, er, mr, e1, fun vx th1 H1 x1 mr1 rx => ⟨th1, om, _, vx, x, b, rfl, mr1, rx, e2, (af.mono x1).same mr1 (.bl b)⟩⟩
              · cases h
            · obtain ⟨u, hu, h⟩ := opt_bind h
              obtain ⟨a', h1, h⟩ := opt_bind h
              obtain ⟨b', h2, h⟩ := opt_bind h
              cases h
              obtain ⟨r, hc, id, hv, hr⟩ := blt2_ok ok hu
              exact PEi (pe_callB hr g1 g2 hv (pa2 (ih.e c X a a' ok h1) (ih.e c X b b' ok h2) hs.1 hs.2) g4 g3 (star_cons hs.1) (by rw [star1 hs.2]; rfl)) (redC2 hc)
          · cases h
        · cases h
      · cases h
theorem step_meth {c : C} {X : Cx} (ok : XOk gc g P k c X) {Φ : Cal} {o a : Expr} {o' a' : E} {m : Str} {u : B} {apos cpos : Pos} (hu : (if m = "append" then some B.append else if m = "index" then some B.index else none) = some u)
    (ho : PE X o (tE g Φ o')) (ha : PE X a (tE g Φ a')) (hs : nStar a = true) (hc : nCall0 o = true) (hl : (apos.endLine == cpos.line) = true) : PE X (.Call (.Attribute o m apos) [a] [] cpos) (tE g Φ (.op2 u o' a')) := by
  have hK := ok.K
  split at hu
  · rename_i e
    subst e; cases hu
    have hfew : ((backTo cpos (starEach [a] X.env)).all (fun x => !x.1) && (backToKw cpos (keywordEach [] X.env)).all (fun x => x.1.isSome)
        && decide (([a] : List Expr).length + ([] : List Keyword).length + (if ([] : List Keyword).isEmpty then 0 else 1) < 30)) = true := by rw [star1 hs]; rfl
    refine PEi (pe_bm PySem.F.plainAttrs_list PySem.F.slot_list_append PySem.F.type_list_append mt_append ho (pa1 ha hs) (base_ok hc) hfew hl (star1 hs) rfl) fun σ H Q => ?_
    rintro ⟨th, om, ρ, m, d, m', er, mr, ev, af⟩
    unfold evE at ev
    obtain ⟨x, m1, e1, ev⟩ := bnd_inv ev
    obtain ⟨y, m2, e2, ev⟩ := bnd_inv ev
    refine ⟨th, om, ρ, m, x, m1, er, mr, e1, fun vx th1 H1 x1 mr1 rx => ?_⟩
    have key : ∀ th2 H2 vy, Ext th1 om H1 th2 H2 → MRep g th2 om H2 m2 → Rep g th2 om H2 vy y → rAppend vx [vy] H2 Q := fun th2 H2 vy x2 mr2 ry => by
      obtain ⟨l, xs, q1, q2, q3, q4⟩ := core_append th2 om H2 m2 vx vy x y d m' Q mr2 (rx.mono x2) ry ev (af.mono (x1.trans x2))
      exact ⟨l, xs, vy, q1, rfl, q2, q3, q4⟩
    refine ⟨?_, th1, om, ρ, m1, [y], m2, er.mono x1, mr1, by simp only [evEs, e2, bnd_mk], fun vs th2 H2 x2 mr2 rs => ?_⟩
    · cases rx with
      | @h n a' e =>
        obtain ⟨xs, hx⟩ := mr1.has (List.mem_of_getElem? e)
        exact .inl ⟨rfl, xs, .inl (.inl hx)⟩
      | _ => cases y <;> cases ev
    · cases rs with
      | cons r1 rr => cases rr; exact key th2 H2 _ x2 mr2 r1
  · split at hu
    · rename_i e
      subst e; cases hu
      refine PEi (pe_index hK ho (pa1 ha hs) (base_ok hc) hl (star1 hs)) fun σ H Q => ?_
      rintro ⟨th, om, ρ, m, d, m', er, mr, ev, af⟩
      unfold evE at ev
      obtain ⟨x, m1, e1, ev⟩ := bnd_inv ev
      obtain ⟨y, m2, e2, ev⟩ := bnd_inv ev
      refine ⟨th, om, ρ, m, x, m1, er, mr, e1, fun vx th1 H1 x1 mr1 rx => ?_⟩
      cases y with
      | int i =>
        cases rx with
        | @tup a xs ds hs2 hd =>
          refine .inl ⟨⟨a, xs, rfl, hs2⟩, th1, om, ρ, m1, [.int i], m2, er.mono x1, mr1, by simp only [evEs, e2, bnd_mk], fun vs th2 H2 x2 mr2 rs => ?_⟩
          cases rs with
          | cons r1 rr =>
            cases rr
            exact core_idxT mr2 ((Rep.tup hs2 hd).mono x2) r1 ev (af.mono (x1.trans x2))
        | @lst a xs ds hs2 n1 n2 hd =>
          refine .inr ⟨⟨a, xs, rfl, .inl (.inl hs2)⟩, th1, om, ρ, m1, [.int i], m2, er.mono x1, mr1, by simp only [evEs, e2, bnd_mk], fun vs th2 H2 x2 mr2 rs => ?_⟩
          cases rs with
          | cons r1 rr =>
            cases rr
            exact core_idxL mr2 ((Rep.lst hs2 n1 n2 hd).mono x2) r1 ev (af.mono (x1.trans x2))
        | _ => cases ev
      | _ => cases x <;> cases ev
    · cases hu
theorem stepE (ih : Snd gc g P k n) : ∀ c X e e', XOk gc g P k c X → trE gc (n + 1) c e = some e' → PE X e (tE g (callN P k) e') := by
  intro c X e e' ok h
  have hK := ok.K
  have args : ∀ {es : List Expr} {r : Es}, mapEs (trE gc n c) es = some r → PA X es (tA g (callN P k) r) := fun h => args_ok (fun e _ e' he => ih.e c X e e' ok he) h
  unfold trE at h
  split at h
  · -- a name
    split at h
    · rename_i i hs; cases h; exact ok.var hs
    · split at h
      · rename_i hg
        rw [Bool.and_eq_true] at hg
        obtain ⟨d, h1, rfl⟩ := opt_map h
        obtain ⟨v, u, h2, h3, h4⟩ := ok.cst _ d h1
        exact PEi (pe_glob (ok.gl hg.1) h2 h3 (okN_ok hg.2).1) (cst_red h4)
      · cases h
  · cases h; exact PEi pe_int (cst_red fun _ _ _ => .int _)
  · cases h; exact PEi pe_str (cst_red fun _ _ _ => .str _)
  · cases h; exact PEi pe_bl (cst_red fun _ _ _ => .bl _)
  · cases h; exact PEi pe_non (cst_red fun _ _ _ => .non)
  · -- a + b
    obtain ⟨o, h1, h⟩ := opt_bind h
    obtain ⟨a', h2, h⟩ := opt_bind h
    obtain ⟨b', h3, h⟩ := opt_bind h
    cases h
    obtain ⟨r, hr, hc⟩ := bin_ok ok h1
    exact PEi (pe_op hr (ih.e c X _ a' ok h2) (ih.e c X _ b' ok h3)) (red2 hc)
  · obtain ⟨a', h2, h⟩ := opt_bind h
    cases h
    exact PEi (pe_un un_neg (ih.e c X _ a' ok h2)) (red1 core_neg)
  · obtain ⟨a', h2, h⟩ := opt_bind h
    cases h
    exact PEi (pe_not (ih.e c X _ a' ok h2)) red_not
  · exact pe_one (ih.e c X _ e' ok h)
  · obtain ⟨a', h2, h⟩ := opt_bind h
    obtain ⟨b', h3, h⟩ := opt_bind h
    cases h
    exact PEi (pe_and (ih.e c X _ a' ok h2) (ih.e c X _ b' ok h3)) red_and
  · obtain ⟨a', h2, h⟩ := opt_bind h
    obtain ⟨b', h3, h⟩ := opt_bind h
    cases h
    exact PEi (pe_or (ih.e c X _ a' ok h2) (ih.e c X _ b' ok h3)) red_or
  · obtain ⟨a', h2, h⟩ := opt_bind h
    cases h
    exact PEi (pe_cmp (pc_isN (ih.e c X _ a' ok h2))) (red1 core_isN)
  · obtain ⟨a', h2, h⟩ := opt_bind h
    cases h
    exact PEi (pe_cmp (pc_notN (ih.e c X _ a' ok h2))) (red1 core_notN)
  · -- a < b
    split at h
    · rename_i hs
      obtain ⟨o, h1, h⟩ := opt_bind h
      obtain ⟨a', h2, h⟩ := opt_bind h
      obtain ⟨b', h3, h⟩ := opt_bind h
      cases h
      obtain ⟨r, hr, hc⟩ := cmp_ok ok h1
      exact PEi (pe_cmpR hr (ih.e c X _ a' ok h2) (ih.e c X _ b' ok h3) (nomarkS hs)) (red2 hc)
    · cases h
  · -- a < b < d
    split at h
    · rename_i hs
      obtain ⟨o, h1, h⟩ := opt_bind h
      obtain ⟨o', h1', h⟩ := opt_bind h
      obtain ⟨a', h2, h⟩ := opt_bind h
      obtain ⟨b', h3, h⟩ := opt_bind h
      obtain ⟨d', h4, h⟩ := opt_bind h
      cases h
      obtain ⟨r, hr, hc⟩ := cmp_ok ok h1
      obtain ⟨r', hr', hc'⟩ := cmp_ok ok h1'
      exact PEi (pe_chain hr hr' (ih.e c X _ a' ok h2) (ih.e c X _ b' ok h3) (ih.e c X _ d' ok h4) (nomarkS hs)) (red_chain hc hc')
    · cases h
  · obtain ⟨t', h1, h⟩ := opt_bind h
    obtain ⟨a', h2, h⟩ := opt_bind h
    obtain ⟨b', h3, h⟩ := opt_bind h
    cases h
    exact PEi (pe_ifExp (ih.t c X _ t' ok h1) (ih.e c X _ a' ok h2) (ih.e c X _ b' ok h3)) red_ite
  · obtain ⟨es', h1, h⟩ := opt_bind h
    cases h
    exact PEi (pe_tup (args h1)) red_tup
  · cases h
    exact PEi (pe_lst pa_nil) red_newl
  · obtain ⟨es', h1, h⟩ := opt_bind h
    cases h
    exact PEi (pe_lst (args h1)) red_lst
  · -- x[i], x a name
    split at h
    · rename_i hsl
      split at h
      · rename_i j hj
        obtain ⟨i', h1, h⟩ := opt_bind h
        cases h
        exact PEi (pe_ix (show IxR X (rIx g.K) from hK ▸ ix_seq) (ok.var (Φ := callN P k) hj) (ih.e c X _ i' ok h1) (plain_ix hsl)) (red2 core_ix)
      · split at h
        · rename_i hg
          rw [Bool.and_eq_true] at hg
          obtain ⟨t, h1, h⟩ := opt_bind h
          obtain ⟨i', h2, h⟩ := opt_bind h
          cases h
          refine PEi (pe_tab (ok.gl hg.1) (okN_ok hg.2).1 (ok.tab _ t h1) (ih.e c X _ i' ok h2) (plain_ix hsl)) fun σ H Q => ?_
          rintro ⟨th, om, ρ, m, d, m', er, mr, ev, af⟩
          unfold evE at ev
          obtain ⟨x, m1, e1, ev⟩ := bnd_inv ev
          refine ⟨th, om, ρ, m, x, m1, er, mr, e1, fun vx th1 H1 x1 mr1 rx => ?_⟩
          cases rx with
          | str y =>
            obtain ⟨f, e2, e3⟩ := opt_map (show (t.lookup y).map (fun i => (D.fn i, m1)) = some (d, m') from ev)
            cases e3
            obtain ⟨fa, e4⟩ := ok.tabf _ t y f h1 e2
            exact ⟨y, f, fa, rfl, e2, e4, (af.mono x1).same mr1 (.fn e4)⟩
          | _ => cases ev
        · cases h
    · cases h
  · -- a[i]
    split at h
    · rename_i hsl
      obtain ⟨a', h1, h⟩ := opt_bind h
      obtain ⟨i', h2, h⟩ := opt_bind h
      cases h
      exact PEi (pe_ix (show IxR X (rIx g.K) from hK ▸ ix_seq) (ih.e c X _ a' ok h1) (ih.e c X _ i' ok h2) (plain_ix hsl)) (red2 core_ix)
    · cases h
  · -- f(..)
    exact step_call ih ok h
  · -- o.m(a)
    split at h
    · rename_i hs
      simp only [Bool.and_eq_true] at hs
      obtain ⟨u, hu, h⟩ := opt_bind h
      obtain ⟨o', h1, h⟩ := opt_bind h
      obtain ⟨a', h2, h⟩ := opt_bind h
      cases h
      exact step_meth ok hu (ih.e c X _ o' ok h1) (ih.e c X _ a' ok h2) hs.1.1 hs.1.2 hs.2
    · cases h
  · -- a comprehension
    dsimp only at h
    split at h
    · rename_i hb
      rw [Bool.and_eq_true] at hb
      obtain ⟨it', h1, h⟩ := opt_bind h
      obtain ⟨tg', h2, h⟩ := opt_bind h
      obtain ⟨t', h3, h⟩ := opt_bind h
      obtain ⟨el, h4, h⟩ := opt_bind h
      split at h
      · rename_i hi
        cases h
        have hB := blkOk_by hb.1
        have up : ∀ {s : Scope} {o : List (Str × Nat)}, BlkOk c.N c.sc s o → BlkOk X.N X.env.scope s o := fun {s o} h => by rw [ok.N, ok.sc]; exact h
        refine PEi (pe_lc ok.calm ok.nd (ih.i c X _ _ it' ok h1) (up hB) (fun s H A cl fp => pg_tg (ok.blk hB.kind s H A cl fp) h2) (fun s H A cl fp => ih.ts _ _ _ t' (ok.blk hB.kind s H A cl fp) h3)
          (fun s H A cl fp => ih.e _ _ _ el (ok.blk hB.kind s H A cl fp) h4) (foldS hb.2)) (red_lc (ids_ok hi))
      · cases h
    · cases h
  · -- a comprehension of three clauses
    dsimp only at h
    split at h
    · rename_i hb
      simp only [Bool.and_eq_true] at hb
      obtain ⟨⟨⟨hb1, hb2⟩, hb3⟩, hb4⟩ := hb
      obtain ⟨j0, h1, h⟩ := opt_bind h
      obtain ⟨j1, h2, h⟩ := opt_bind h
      obtain ⟨j2, h3, h⟩ := opt_bind h
      obtain ⟨v0, h4, h⟩ := opt_bind h
      obtain ⟨v1, h5, h⟩ := opt_bind h
      obtain ⟨v2, h6, h⟩ := opt_bind h
      obtain ⟨el, h7, h⟩ := opt_bind h
      split at h
      · rename_i hi
        cases h
        have hB := blkOk_by hb1
        have up : ∀ {s : Scope} {o : List (Str × Nat)}, BlkOk c.N c.sc s o → BlkOk X.N X.env.scope s o := fun {s o} h => by rw [ok.N, ok.sc]; exact h
        have mem : ∀ v ∈ [v0, v1, v2], v ∈ (ownOf c.N _).map (·.2) := fun v hv => of_decide_eq_true (List.all_eq_true.mp hi v hv)
        have pn : ∀ {y : Str} {p : Pos} {v : Nat}, tslot (c.blk _) y = some v → ∀ (s : Shared) (H : Hp) (A : Addr) (cl : List (Str × Addr)) (fp : List Addr), PG (X.blk s H _ (compEnvC _ cl A X.env) fp) (.Name y p) (gName v) := fun {y p v} hy s H A cl fp =>
          pg_tg (t := .name v) (ok.blk hB.kind s H A cl fp) (by show (tslot _ y).map Tg.name = some (.name v); rw [hy]; rfl)
        exact PEi (pe_lc3 ok.calm ok.nd (ih.i c X _ _ j0 ok h1) (up hB) rfl (mem v0 (by simp)) (mem v1 (by simp)) (mem v2 (by simp)) (pn h4) (fun s H A cl fp => ih.e _ _ _ el (ok.blk hB.kind s H A cl fp) h7) (foldS hb2)
          (fun s H A cl fp => ih.i _ _ _ _ j1 (ok.blk hB.kind s H A cl fp) h2) (pn h5) (fun env => foldS hb3) (fun s H A cl fp => ih.i _ _ _ _ j2 (ok.blk hB.kind s H A cl fp) h3) (pn h6) (fun env => foldS hb4)) red_lc3
      · cases h
    · cases h
  · cases h
end
end Ky

namespace Ky
open PySem PySem.Spec PyProof.Rows L2

/-- the tuples at a and b walked together -/
def Itzt (K : PySem.W.Frag) (a b : Addr) : It :=
  ⟨fun i H => ∃ (xs ys : List V) (x y : V), SqT K H a xs ∧ SqT K H b ys ∧ xs[i]? = some x ∧ ys[i]? = some y,
    fun i H v H' => ∃ T x y, v = .ref T ∧ H T = none ∧ H' = upd H T (.tup [x, y]) ∧ (∀ xs, SqT K H a xs → xs[i]? = some x) ∧ ∀ ys, SqT K H b ys → ys[i]? = some y,
    fun i H => ∃ xs ys : List V, SqT K H a xs ∧ SqT K H b ys ∧ (xs.length ≤ i ∨ ys.length ≤ i)⟩
/-- what zip asks of two tuples or two lists -/
def iZipX (K : PySem.W.Frag) (ta : TA) : TI := fun σ H R => ta σ H fun vs H1 => ∃ a b xs ys, vs = [.ref a, .ref b] ∧
  ((SqL K H1 a xs ∧ SqL K H1 b ys ∧ R (Itz K a b) H1) ∨ (SqT K H1 a xs ∧ SqT K H1 b ys ∧ R (Itzt K a b) H1))
theorem pairs_len : ∀ xs ys : List D, (pairsD xs ys).length = min xs.length ys.length
  | [], ys => by cases ys <;> simp [pairsD]
  | x :: xs, [] => by simp [pairsD]
  | x :: xs, y :: ys => by simp [pairsD, pairs_len xs ys]
theorem pairs_get : ∀ {xs ys : List D} {i : Nat} {x y : D}, xs[i]? = some x → ys[i]? = some y → (pairsD xs ys)[i]? = some (.tup [x, y])
  | [], _, _, _, _, h, _ => by simp at h
  | _ :: _, [], _, _, _, _, h => by simp at h
  | a :: xs, b :: ys, 0, x, y, h1, h2 => by simp at h1 h2; subst h1; subst h2; rfl
  | a :: xs, b :: ys, i + 1, x, y, h1, h2 => by
    show (pairsD xs ys)[i]? = _
    exact pairs_get (by simpa using h1) (by simpa using h2)
section
variable {g : G} {Φ : Cal}
theorem ItOk.zipT {om th0 : List Addr} {H0 : Hp} {a b : Addr} {xs ys : List V} {ds es : List D} (hs : SqT g.K H0 a xs) (hs2 : SqT g.K H0 b ys) (ha : RepA g th0 om H0 xs ds) (hb : RepA g th0 om H0 ys es) :
    ItOk g om ⟨pairsD ds es, none⟩ (Itzt g.K a b) th0 H0 := by
  intro om' th H m i o x mr _
  have l1 := ha.length
  have l2 := hb.length
  have ha' := ha.up x o
  have hb' := hb.up x o
  have mv : ∀ {c : Addr} {zs : List V}, SqT g.K H0 c zs → SqT g.K H c zs := fun h => by
    rcases h with h | h
    · exact .inl (x.tup _ _ h)
    · exact .inr h
  have q1 := mv hs
  have q2 := mv hs2
  refine ⟨fun hi => ?_, fun hi => ?_⟩
  · have hi' : i < (pairsD ds es).length := hi
    rw [pairs_len] at hi'
    have i1 : i < ds.length := by omega
    have i2 : i < es.length := by omega
    obtain ⟨v1, e1, _⟩ := ha'.get (List.getElem?_eq_getElem i1)
    obtain ⟨v2, e2, _⟩ := hb'.get (List.getElem?_eq_getElem i2)
    refine ⟨⟨xs, ys, v1, v2, q1, q2, e1, e2⟩, ?_⟩
    rintro v H' ⟨T, vx, vy, rfl, hT, rfl, e1, e2⟩
    obtain ⟨d1, f1, r1⟩ := ha'.get' (e1 xs q1)
    obtain ⟨d2, f2, r2⟩ := hb'.get' (e2 ys q2)
    have ex : Ext th om' H th (upd H T (.tup [vx, vy])) := Ext.new mr hT
    exact ⟨ex, mr.new hT, _, pairs_get f1 f2, .tup (.inl (.inl upd_same)) (.cons (r1.mono ex) (.cons (r2.mono ex) .nil))⟩
  · have hi' : (pairsD ds es).length ≤ i := hi
    rw [pairs_len] at hi'
    exact ⟨xs, ys, q1, q2, by omega⟩
theorem ItOk.zipL {om th0 : List Addr} {H0 : Hp} {a b : Addr} {xs ys : List V} {ds es : List D} (hs : H0 a = some (.lst xs)) (n1 : a ∉ th0) (n2 : a ∉ om) (hs2 : H0 b = some (.lst ys)) (n3 : b ∉ th0) (n4 : b ∉ om) (ha : RepA g th0 om H0 xs ds) (hb : RepA g th0 om H0 ys es) :
    ItOk g om ⟨pairsD ds es, none⟩ (Itz g.K a b) th0 H0 := by
  intro om' th H m i o x mr _
  have l1 := ha.length
  have l2 := hb.length
  have ha' := ha.up x o
  have hb' := hb.up x o
  have q1 : SqL g.K H a xs := .inl (.inl (x.lst a xs n1 n2 hs).1)
  have q2 : SqL g.K H b ys := .inl (.inl (x.lst b ys n3 n4 hs2).1)
  refine ⟨fun hi => ?_, fun hi => ?_⟩
  · have hi' : i < (pairsD ds es).length := hi
    rw [pairs_len] at hi'
    have i1 : i < ds.length := by omega
    have i2 : i < es.length := by omega
    obtain ⟨v1, e1, _⟩ := ha'.get (List.getElem?_eq_getElem i1)
    obtain ⟨v2, e2, _⟩ := hb'.get (List.getElem?_eq_getElem i2)
    refine ⟨⟨xs, ys, v1, v2, q1, q2, e1, e2⟩, ?_⟩
    rintro v H' ⟨T, vx, vy, rfl, hT, rfl, e1, e2⟩
    obtain ⟨d1, f1, r1⟩ := ha'.get' (e1 xs q1)
    obtain ⟨d2, f2, r2⟩ := hb'.get' (e2 ys q2)
    have ex : Ext th om' H th (upd H T (.tup [vx, vy])) := Ext.new mr hT
    exact ⟨ex, mr.new hT, _, pairs_get f1 f2, .tup (.inl (.inl upd_same)) (.cons (r1.mono ex) (.cons (r2.mono ex) .nil))⟩
  · have hi' : (pairsD ds es).length ≤ i := hi
    rw [pairs_len] at hi'
    exact ⟨xs, ys, q1, q2, by omega⟩
theorem redIz {a b : E} : ∀ σ H R, tI g Φ (.zip a b) σ H R → iZipX g.K (tA g Φ (.cons a (.cons b .nil))) σ H R := by
  rintro σ H R ⟨th, om, ρ, m, s, m', er, mr, ev, af⟩
  unfold evI at ev
  obtain ⟨x, m1, e1, ev⟩ := bnd_inv ev
  obtain ⟨y, m2, e2, ev⟩ := bnd_inv ev
  refine ⟨th, om, ρ, m, [x, y], m2, er, mr, by simp only [evEs, e1, bnd_mk, e2], fun vs th1 H1 x1 mr1 rs => ?_⟩
  cases rs with
  | cons r1 rr =>
    cases rr with
    | cons r2 rr =>
      cases rr
      cases r1 with
      | @tup a1 xs ds hs ha =>
        cases r2 with
        | @tup b1 ys es hs2 hb => cases ev; exact ⟨a1, b1, xs, ys, rfl, .inr ⟨hs, hs2, af _ th1 H1 x1 mr1 (ItOk.zipT hs hs2 ha hb)⟩⟩
        | _ => cases ev
      | @lst a1 xs ds hs n1 n2 ha =>
        cases r2 with
        | @lst b1 ys es hs2 n3 n4 hb => cases ev; exact ⟨a1, b1, xs, ys, rfl, .inl ⟨.inl (.inl hs), .inl (.inl hs2), af _ th1 H1 x1 mr1 (ItOk.zipL hs n1 n2 hs2 n3 n4 ha hb)⟩⟩
        | _ => cases ev
      | _ => cases y <;> cases ev
end
/-- the rule for zip (file Ru3) -/
def ZipR : Prop := ∀ (X : Cx) (e e2 : Expr) (ta : TA) (p pos tpos : Pos) (elts : List Expr) (kk : Nat), X.calm = true → Gl X "zip" → X.mg "zip" = none → PA X [e, e2] ta → starEach [e, e2] X.env = (false, eval e X.env) :: starEach [e2] X.env →
  (backTo pos (starEach [e2] X.env)).any (·.1) = false → PI X (.Tuple elts kk tpos) (.Call (.Name "zip" p) [e, e2] [] pos) (iZipX X.K ta)
section
variable {gc : GC} {g : G} {P : List Fn} {k n : Nat}
theorem stepW (ih : Snd gc g P k n) : ∀ c X op vs pos t, XOk gc g P k c X → trT gc (n + 1) c (.BoolOp op vs pos) = some t → PW X (.BoolOp op vs pos) (tT g (callN P k) t) := by
  intro c X op vs pos t ok h
  unfold trT at h
  cases vs with
  | nil => cases op <;> cases h
  | cons a r =>
    cases r with
    | nil =>
      cases op with
      | And => exact pw_and1 (ih.t c X a t ok h)
      | Or => exact pw_or1 (ih.t c X a t ok h)
    | cons b r =>
      cases op with
      | And =>
        obtain ⟨a', h1, h⟩ := opt_bind (show (trT gc n c a).bind (fun a' => (trT gc n c (.BoolOp .And (b :: r) pos)).bind fun b' => some (.and_ a' b')) = some t from h)
        obtain ⟨b', h2, h⟩ := opt_bind h
        cases h
        exact PWi (pw_and (ih.t c X a a' ok h1) (ih.w c X _ _ _ b' ok h2)) red_tand
      | Or =>
        obtain ⟨a', h1, h⟩ := opt_bind (show (trT gc n c a).bind (fun a' => (trT gc n c (.BoolOp .Or (b :: r) pos)).bind fun b' => some (.or_ a' b')) = some t from h)
        obtain ⟨b', h2, h⟩ := opt_bind h
        cases h
        exact PWi (pw_or (ih.t c X a a' ok h1) (ih.w c X _ _ _ b' ok h2)) red_tor
theorem isN_bl {Φ : Cal} {a : E} {ρ : Env} {m m' : M} {d : D} {u : U} (hu : u = .isN ∨ u = .notN) (h : evE Φ (.op1 u a) ρ m = some (d, m')) : isBl d := by
  unfold evE at h
  obtain ⟨x, m1, _, h⟩ := bnd_inv h
  rcases hu with rfl | rfl <;> (cases x <;> (cases h; trivial))
/-- a comparison, as a test -/
theorem test_cmp {n : Nat} (ih : Snd gc g P k n) {c : C} {X : Cx} (ok : XOk gc g P k c X) {a : Expr} {ops : List CmpOp} {bs : List Expr} {pos : Pos} {e' : E} (h : trE gc (n + 1) c (.Compare a ops bs pos) = some e') : PT X (.Compare a ops bs pos) (tT g (callN P k) (.val e')) := by
  unfold trE at h
  split at h
  all_goals try (rename_i heq; cases heq; done)
  · rename_i heq; cases heq
    obtain ⟨a', h2, h⟩ := opt_bind h
    cases h
    exact PTi (pt_cmp (pc_isN (ih.e c X _ a' ok h2))) fun σ H Q q => red1 core_isN σ H _ (red_valB (fun ρ m d m' e => isN_bl (.inl rfl) e) σ H Q q)
  · rename_i heq; cases heq
    obtain ⟨a', h2, h⟩ := opt_bind h
    cases h
    exact PTi (pt_cmp (pc_notN (ih.e c X _ a' ok h2))) fun σ H Q q => red1 core_notN σ H _ (red_valB (fun ρ m d m' e => isN_bl (.inr rfl) e) σ H Q q)
  · rename_i heq; cases heq
    split at h
    · rename_i hs
      obtain ⟨o, h1, h⟩ := opt_bind h
      obtain ⟨a', h2, h⟩ := opt_bind h
      obtain ⟨b', h3, h⟩ := opt_bind h
      cases h
      obtain ⟨r, hr, hc⟩ := cmp_ok ok h1
      refine PTi (pt_cmpR hr (ih.e c X _ a' ok h2) (ih.e c X _ b' ok h3) (nomarkS hs)) fun σ H Q q => red2 hc σ H _ (red_valB (fun ρ m d m' e => ?_) σ H Q q)
      unfold evE at e
      obtain ⟨x, m1, _, e⟩ := bnd_inv e
      obtain ⟨y, m2, _, e⟩ := bnd_inv e
      exact cm_bl h1 e
    · cases h
  · rename_i heq; cases heq
    split at h
    · rename_i hs
      obtain ⟨o, h1, h⟩ := opt_bind h
      obtain ⟨o', h1', h⟩ := opt_bind h
      obtain ⟨a', h2, h⟩ := opt_bind h
      obtain ⟨b', h3, h⟩ := opt_bind h
      obtain ⟨d', h4, h⟩ := opt_bind h
      cases h
      obtain ⟨r, hr, hc⟩ := cmp_ok ok h1
      obtain ⟨r', hr', hc'⟩ := cmp_ok ok h1'
      refine PTi (pt_chain hr hr' (ih.e c X _ a' ok h2) (ih.e c X _ b' ok h3) (ih.e c X _ d' ok h4) (nomarkS hs)) fun σ H Q q => red_chain hc hc' σ H _ (red_valB (fun ρ m d m' e => ?_) σ H Q q)
      unfold evE at e
      obtain ⟨x, m1, _, e⟩ := bnd_inv e
      obtain ⟨y, m2, _, e⟩ := bnd_inv e
      obtain ⟨z, m3, e3, e⟩ := bnd_inv e
      have := cm_bl h1 e3
      cases z with
      | bl q =>
        cases q with
        | true =>
          obtain ⟨w, m4, _, e⟩ := bnd_inv (show bnd (evE (callN P k) d' ρ m3) (fun w m => b2 o' y w m) = some (d, m') from e)
          exact cm_bl h1' e
        | false => cases e; trivial
      | _ => exact this.elim
    · cases h
  · cases h
theorem stepT (ih : Snd gc g P k n) (ih' : ∀ c X a ops bs pos e', XOk gc g P k c X → trE gc n c (.Compare a ops bs pos) = some e' → PT X (.Compare a ops bs pos) (tT g (callN P k) (.val e'))) :
    ∀ c X e t, XOk gc g P k c X → trT gc (n + 1) c e = some t → PT X e (tT g (callN P k) t) := by
  intro c X e t ok h
  have hK := ok.K
  have tru : ∀ {e : Expr} {e' : E}, PE X e (tE g (callN P k) e') → (∀ whole, isTrue e X.env whole = (do let v ← whole; standAt e.pos; holding [v] (truthy v))) → PT X e (tT g (callN P k) (.val e')) := fun {e e'} he hw => by
    refine PTi (pt_truth he hw) fun σ H Q q => ?_
    rw [hK]
    exact red_val σ H Q q
  cases e with
  | BoolOp op vs pos => exact (stepW ih c X op vs pos t ok h).pt
  | UnaryOp op a pos =>
    cases op with
    | Not =>
      obtain ⟨a', h1, h⟩ := opt_bind (show (trT gc n c a).bind (fun a' => some (.not_ a')) = some t from h)
      cases h
      exact PTi (pt_not (ih.t c X a a' ok h1)) red_tnot
    | _ => cases h
  | Compare a ops bs pos =>
    obtain ⟨e', h1, rfl⟩ := opt_map (show (trE gc n c (.Compare a ops bs pos)).map .val = some t from h)
    exact ih' c X a ops bs pos e' ok h1
  | Name x p =>
    obtain ⟨e', h1, rfl⟩ := opt_map (show (trE gc n c (.Name x p)).map .val = some t from h)
    exact tru (ih.e c X _ e' ok h1) fun _ => rfl
  | Call f as ks p =>
    obtain ⟨e', h1, rfl⟩ := opt_map (show (trE gc n c (.Call f as ks p)).map .val = some t from h)
    exact tru (ih.e c X _ e' ok h1) fun _ => rfl
  | Subscript a i p =>
    obtain ⟨e', h1, rfl⟩ := opt_map (show (trE gc n c (.Subscript a i p)).map .val = some t from h)
    exact tru (ih.e c X _ e' ok h1) fun _ => rfl
  | _ => cases h
theorem stepTs (ih : Snd gc g P k n) : ∀ c X es t, XOk gc g P k c X → trTs gc (n + 1) c es = some t → PTs X es (tT g (callN P k) t) := by
  intro c X es t ok h
  cases es with
  | nil =>
    cases h
    intro pins s σ H Q I q
    refine pts_nil pins s σ H Q I ?_
    obtain ⟨th, om, ρ, m, b, m', er, mr, ev, af⟩ := q
    unfold evT at ev
    cases ev
    exact af th H Ext.refl mr
  | cons e r =>
    cases r with
    | nil => exact pts_one (ih.t c X e t ok h)
    | cons _ _ => cases h
theorem stepI (hz : ZipR) (ih : Snd gc g P k n) : ∀ c X tg e i, XOk gc g P k c X → trI gc (n + 1) c tg e = some i → PI X tg e (tI g (callN P k) i) := by
  intro c X tg e i ok h
  have hK := ok.K
  have val : ∀ {e : Expr} {e' : E}, trE gc n c e = some e' → PI X tg e (tI g (callN P k) (.val e')) := fun {e e'} he => by
    refine PIi (pi_seq (ih.e c X e e' ok he)) fun σ H R q => ?_
    rw [hK]
    exact redIv σ H R q
  unfold trI at h
  split at h
  · split at h
    · rename_i e1; subst e1
      split at h
      · rename_i hc
        rw [Bool.and_eq_true] at hc
        obtain ⟨a', h1, rfl⟩ := opt_map h
        obtain ⟨g1, g2, g3, g4⟩ := ok.bltn hc.1
        exact PIi (pi_range1 g1 g2 (pa1 (ih.e c X _ a' ok h1) hc.2) (star1 hc.2)) redIr
      · cases h
    · split at h
      · cases h
      · obtain ⟨e', h1, rfl⟩ := opt_map h
        exact val h1
  · split at h
    · rename_i e1; subst e1
      split at h
      · rename_i hc
        simp only [Bool.and_eq_true] at hc
        obtain ⟨a', h1, h⟩ := opt_bind h
        obtain ⟨b', h2, rfl⟩ := opt_map h
        obtain ⟨g1, g2, g3, g4⟩ := ok.bltn hc.1.1
        exact PIi (pi_range2 g1 g2 (pa2 (ih.e c X _ a' ok h1) (ih.e c X _ b' ok h2) hc.1.2 hc.2) (by rw [star_cons hc.1.2, star1 hc.2]) (star1 hc.2)) redIr2
      · cases h
    · split at h
      · rename_i e1; subst e1
        split at h
        · split at h
          · rename_i hc
            simp only [Bool.and_eq_true] at hc
            obtain ⟨a', h1, h⟩ := opt_bind h
            obtain ⟨b', h2, rfl⟩ := opt_map h
            obtain ⟨g1, g2, g3, g4⟩ := ok.bltn hc.1.1
            refine PIi (hz X _ _ _ _ _ _ _ _ ok.calm g1 g2 (pa2 (ih.e c X _ a' ok h1) (ih.e c X _ b' ok h2) hc.1.2 hc.2) (star_cons hc.1.2) (by rw [star1 hc.2]; rfl)) fun σ H R q => ?_
            rw [hK]
            exact redIz σ H R q
          · cases h
        · cases h
      · obtain ⟨e', h1, rfl⟩ := opt_map h
        exact val h1
  · obtain ⟨e', h1, rfl⟩ := opt_map h
    exact val h1
/-- all that is turned is sound -/
theorem snd (hz : ZipR) : ∀ n, Snd gc g P k n ∧ ∀ c X a ops bs pos e', XOk gc g P k c X → trE gc n c (.Compare a ops bs pos) = some e' → PT X (.Compare a ops bs pos) (tT g (callN P k) (.val e'))
  | 0 => ⟨⟨fun _ _ _ _ _ h => (by cases h), fun _ _ _ _ _ h => (by cases h), fun _ _ _ _ _ _ _ h => (by cases h), fun _ _ _ _ _ h => (by cases h), fun _ _ _ _ _ _ h => (by cases h)⟩, fun _ _ _ _ _ _ _ _ h => (by cases h)⟩
  | n + 1 => by
    obtain ⟨ih, ih'⟩ := snd hz n
    exact ⟨⟨stepE ih, stepT ih ih', stepW ih, stepTs ih, stepI hz ih⟩, fun c X a ops bs pos e' ok h => test_cmp ih ok h⟩
end
end Ky

namespace Ky
open PySem PySem.Spec PyProof.Rows L2

section
variable {prog : Program} {w : World} {A : Around} {E : Value → Shared → Prop} {s : Shared}
/-- the next one of a tuple's iterator, drawn by zip -/
theorem drawT {j t : Addr} {k : Nat} {zs : Array Value} {v : Value} {Q : Value → Shared → Prop} (hj : s.heap.IsTupleIter j t k) (ht : s.heap.IsTuple t zs) (hv : zs[k]? = some v)
    (q : ∀ h', h'.IsTupleIter j t (k + 1) → Heap.SameBut j s.heap h' → Q v { s with heap := h' }) : wpAny (model prog w) A (Builtin.SmallTypes.nextOf (.ref j)) Q E s := by
  obtain ⟨oj, e1, c1, d1⟩ := id hj
  obtain ⟨ot, e2, _, n2, d2⟩ := ht
  unfold Builtin.SmallTypes.nextOf
  refine wpAny_bind (wpAny_callSpecial?_slot (name := Str.ofString "__next__") hj.typeIs F.slot_tuple_iterator_next (wpAny_call_entry F.slot_tuple_iterator_next hj.typeIs F.entry_tuple_iterator_next ?_ (F.args_tuple_iterator_next_1 _)))
  show wpAny _ _ (field (.ref j) 0 >>= _) _ _ s
  refine wpAny_bind (wpAny_field e1 d1 (x := .ref t) rfl ?_)
  show wpAny _ _ (if (Value.ref t == Value.none) = true then _ else _) _ _ s
  rw [if_neg (show ¬ ((Value.ref t == Value.none) = true) from Bool.false_ne_true)]
  show wpAny _ _ (field (.ref j) 1 >>= _) _ _ s
  refine wpAny_bind (wpAny_field e1 d1 (x := .int k 0) rfl ?_)
  show wpAny _ _ (seqItems? (.ref t) >>= _) _ _ s
  refine wpAny_bind (wpAny_seqItems e2 d2 ?_)
  simp only [Int.toNat_natCast, hv]
  refine wpAny_bind (wpAny_setField e1 d1 (by simp) (wpAny_pure ⟨v, rfl, wpAny_pure (q _ ?_ (Heap.SameBut.update ..))⟩))
  exact ⟨_, Heap.get?_update_self _ e1 (Obj.isFreed_of_fields (Obj.data_mapFields d1 _)), (Obj.cls_mapFields ..).trans c1, by rw [Obj.data_mapFields d1]; simp [rawInt]⟩
theorem drawEnd {j t : Addr} {k : Nat} {zs : Array Value} {Q : Value → Shared → Prop} (hh : A.handled = none) (hj : s.heap.IsTupleIter j t k) (ht : s.heap.IsTuple t zs) (hv : zs[k]? = none)
    (q : ∀ h' e, Heap.ExtBut j s.heap h' → (∃ o, h'.get? e = some o ∧ o.cls = .type "StopIteration") → E (.ref e) { s with heap := h' }) : wpAny (model prog w) A (Builtin.SmallTypes.nextOf (.ref j)) Q E s := by
  obtain ⟨oj, e1, c1, d1⟩ := id hj
  obtain ⟨ot, e2, _, n2, d2⟩ := ht
  unfold Builtin.SmallTypes.nextOf
  refine wpAny_bind (wpAny_callSpecial?_slot (name := Str.ofString "__next__") hj.typeIs F.slot_tuple_iterator_next (wpAny_call_entry F.slot_tuple_iterator_next hj.typeIs F.entry_tuple_iterator_next ?_ (F.args_tuple_iterator_next_1 _)))
  show wpAny _ _ (field (.ref j) 0 >>= _) _ _ s
  refine wpAny_bind (wpAny_field e1 d1 (x := .ref t) rfl ?_)
  show wpAny _ _ (if (Value.ref t == Value.none) = true then _ else _) _ _ s
  rw [if_neg (show ¬ ((Value.ref t == Value.none) = true) from Bool.false_ne_true)]
  show wpAny _ _ (field (.ref j) 1 >>= _) _ _ s
  refine wpAny_bind (wpAny_field e1 d1 (x := .int k 0) rfl ?_)
  show wpAny _ _ (seqItems? (.ref t) >>= _) _ _ s
  refine wpAny_bind (wpAny_seqItems e2 d2 ?_)
  simp only [Int.toNat_natCast, hv]
  refine wpAny_bind (wpAny_rule (wpAny_bind (wpAny_setField e1 d1 (by simp) ?_)))
  show wpAny _ _ (newExc (.type "StopIteration") [] >>= _) _ _ _
  refine wpAny_bind ?_
  simp only [newExc, newTuple]
  refine wpAny_bind (wpAny_newObj_type ?_ (by size_fits))
  refine wpAny_bind (m := firstArgMember _ _) (wpAny_of_eq (a := Value.none) (by first | rfl | (simp only [firstArgMember]; rfl)) ?_)
  refine wpAny_newObj_type ?_ (by size_fits)
  simp only [raiseNew]
  refine wpAny_bind (wpAny_handled ?_)
  first | rw [show A.in1.handled = none from hh] | rw [hh]
  exact wpAny_bind (wpAny_pure (wpAny_throw (q _ _ (((Heap.SameBut.update ..).extBut.push _).push _) ⟨_, Heap.get?_push_size _ rfl, rfl⟩)))
/-- the pair that zip owns is written -/
theorem pair_set {T : Addr} {a b x : Value} {k : Nat} {Q : Unit → Shared → Prop} (hT : IsPair s.heap T a b)
    (q : ∀ h', h'.get? T = some { cls := .type "tuple", data := .seq ((#[a, b] : Array Value).setIfInBounds k x) } → Heap.SameBut T s.heap h' → Q () { s with heap := h' }) : wpAny (model prog w) A (updateSeq T (·.setIfInBounds k x)) Q E s := wpAny_updateSeq_pair hT q
/-- five objects of a zip, apart from one another and from the tuples -/
structure ZA (z I O i1 i2 l1 l2 : Addr) : Prop where
  a : ZipApart z I O i1 i2 l1 l2
theorem zipT_item {z I O i1 i2 l1 l2 : Addr} {k : Nat} {xs ys : Array Value} {x y a b : Value} {Q : Value → Shared → Prop} (D : ZipApart z I O i1 i2 l1 l2)
    (hz : IsZip s.heap z I O .none) (hI : IsPair s.heap I (.ref i1) (.ref i2)) (hO : IsPair s.heap O a b)
    (h1 : s.heap.IsTupleIter i1 l1 k) (h2 : s.heap.IsTupleIter i2 l2 k) (t1 : s.heap.IsTuple l1 xs) (t2 : s.heap.IsTuple l2 ys) (hx : xs[k]? = some x) (hy : ys[k]? = some y)
    (q : ∀ h', IsZip h' z I O (rawInt s.heap.objs.size) → IsPair h' O x y → h'.IsTupleIter i1 l1 (k + 1) → h'.IsTupleIter i2 l2 (k + 1) → IsPair h' s.heap.objs.size x y → h'.objs.size = s.heap.objs.size + 1 →
      (∀ c o, c ≠ z → c ≠ O → c ≠ i1 → c ≠ i2 → s.heap.get? c = some o → h'.get? c = some o) → Q (.ref s.heap.objs.size) { s with heap := h' }) :
    wpAny (model prog w) A (Builtin.«zip.__next__» ⟨[.ref z], []⟩) (fun fin s' => ∃ v, fin = .done (.ret v) ∧ Q v s') E s := by
  have kT : ∀ {h h' : Heap} {c j t : Addr} {n : Nat}, Heap.SameBut c h h' → j ≠ c → h.IsTupleIter j t n → h'.IsTupleIter j t n := fun sb ne it => it.at fun o e => (sb.2 _ ne).trans e
  have kU : ∀ {h h' : Heap} {c t : Addr} {zs : Array Value}, Heap.SameBut c h h' → t ≠ c → h.IsTuple t zs → h'.IsTuple t zs := fun sb ne it => let ⟨o, e, r⟩ := it; ⟨o, (sb.2 _ ne).trans e, r⟩
  show wpAny _ _ (field (.ref z) 2 >>= _) _ _ _
  refine wpAny_bind (wpAny_field hz rfl (x := .bool false) rfl ?_)
  show wpAny _ _ (field (.ref z) 3 >>= _) _ _ _
  refine wpAny_bind (wpAny_field hz rfl (x := .ref I) rfl ?_)
  refine wpAny_bind (wpAny_seqItems hI rfl ?_)
  show wpAny _ _ (Builtin.SmallTypes.ownedTupleIsFree (.ref z) >>= _) _ _ _
  refine wpAny_bind ?_
  unfold Builtin.SmallTypes.ownedTupleIsFree
  refine wpAny_bind (wpAny_field hz rfl (x := .none) rfl (wpAny_pure ?_))
  simp only [if_true]
  refine wpAny_bind (wpAny_rule ?_)
  refine wpAny_bind (wpAny_field hz rfl (x := .ref O) rfl ?_)
  refine wpAny_bind (wpAny_setField_rec hz (by simp) fun g1 z1 s1 => ?_)
  have z1' : IsZip g1 z I O .ellipsis := z1
  refine wpAny_bind ?_
  simp only [List.zipIdx_cons, List.zipIdx_nil, List.forIn_cons, List.forIn_nil]
  refine wpAny_bind (wpAny_bind (wpAny_onRaise ?_))
  show wpAny _ _ (Builtin.SmallTypes.nextOf (.ref i1) >>= _) _ _ _
  refine wpAny_bind (drawT (kT s1 D.i1z h1) (kU s1 D.l1z t1) hx fun g2 j2 s2 => wpAny_pure ?_)
  have O2 : IsPair g2 O a b := (s2.2 _ D.TOi1).trans ((s1.2 _ D.TOz).trans hO)
  refine wpAny_bind (wpAny_seqItems O2 rfl ?_)
  refine wpAny_bind (pair_set O2 fun g3 O3 s3 => ?_)
  have O3' : IsPair g3 O x b := O3
  refine wpAny_bind (wpAny_letGo (wpAny_pure ?_))
  refine wpAny_bind (wpAny_bind (wpAny_onRaise ?_))
  show wpAny _ _ (Builtin.SmallTypes.nextOf (.ref i2) >>= _) _ _ _
  refine wpAny_bind (drawT (kT s3 D.TOi2.symm (kT s2 D.i12.symm (kT s1 D.i2z h2))) (kU s3 D.l2TO (kU s2 D.l2i1 (kU s1 D.l2z t2))) hy fun g4 j4 s4 => wpAny_pure ?_)
  have O4 : IsPair g4 O x b := (s4.2 _ D.TOi2).trans O3'
  refine wpAny_bind (wpAny_seqItems O4 rfl ?_)
  refine wpAny_bind (pair_set O4 fun g5 O5 s5 => ?_)
  have O5' : IsPair g5 O x y := O5
  refine wpAny_bind (wpAny_letGo (wpAny_pure (wpAny_pure ?_)))
  refine wpAny_bind (wpAny_seqItems O5' rfl ?_)
  refine wpAny_bind (wpAny_newTuple ?_)
  have sz : g5.objs.size = s.heap.objs.size := by rw [s5.1, s4.1, s3.1, s2.1, s1.1]
  have z5 : IsZip g5 z I O .ellipsis := (s5.2 _ D.TOz.symm).trans ((s4.2 _ D.i2z.symm).trans ((s3.2 _ D.TOz.symm).trans ((s2.2 _ D.i1z.symm).trans z1')))
  have k5 : ∀ c o, c ≠ z → c ≠ O → c ≠ i1 → c ≠ i2 → s.heap.get? c = some o → g5.get? c = some o := fun c o c1 c2 c3 c4 e =>
    (s5.2 _ c2).trans ((s4.2 _ c4).trans ((s3.2 _ c2).trans ((s2.2 _ c3).trans ((s1.2 _ c1).trans e))))
  have i1' : g5.IsTupleIter i1 l1 (k + 1) := kT s5 D.TOi1.symm (kT s4 D.i12 (kT s3 D.TOi1.symm j2))
  have i2' : g5.IsTupleIter i2 l2 (k + 1) := kT s5 D.TOi2.symm j4
  have zlt : z < g5.objs.size := Heap.lt_size z5
  show wpAny _ _ (Builtin.SmallTypes.ownedTupleHandOut (.ref z) (.ref g5.objs.size) >>= _) _ _ _
  refine wpAny_bind ?_
  unfold Builtin.SmallTypes.ownedTupleHandOut
  have z6 : IsZip (g5.push { cls := .type "tuple", data := .seq #[x, y] }) z I O .ellipsis := Heap.get?_push_of_some _ z5
  refine wpAny_bind (wpAny_setField_rec z6 (by simp) fun g7 z7 s7 => ?_)
  have z7' : IsZip g7 z I O (rawInt g5.objs.size) := z7
  refine wpAny_setField_rec z7' (by simp) fun g8 z8 s8 => ?_
  have z8' : IsZip g8 z I O (rawInt g5.objs.size) := z8
  have up : ∀ c o, c ≠ z → g5.get? c = some o → g8.get? c = some o := fun c o c1 e => (s8.2 _ c1).trans ((s7.2 _ c1).trans (Heap.get?_push_of_some _ e))
  have T8 : IsPair g8 g5.objs.size x y := (s8.2 _ (Nat.ne_of_gt zlt)).trans ((s7.2 _ (Nat.ne_of_gt zlt)).trans (Heap.get?_push_size _ rfl))
  have n8 : g8.objs.size = g5.objs.size + 1 := by rw [s8.1, s7.1, Heap.size_push]
  rw [sz] at z8' T8 n8
  refine wpAny_pure ⟨_, rfl, ?_⟩
  show Q (.ref g5.objs.size) _
  rw [sz]
  exact q g8 z8' (up _ _ D.TOz O5') (i1'.at fun o e => up _ o D.i1z e) (i2'.at fun o e => up _ o D.i2z e) T8 n8 fun c o c1 c2 c3 c4 e => up c o c1 (k5 c o c1 c2 c3 c4 e)
theorem zipT_end {z I O i1 i2 l1 l2 : Addr} {k : Nat} {xs ys : Array Value} {a b : Value} {Q : Fin → Shared → Prop} (hh : A.handled = none) (D : ZipApart z I O i1 i2 l1 l2)
    (hz : IsZip s.heap z I O .none) (hI : IsPair s.heap I (.ref i1) (.ref i2)) (hO : IsPair s.heap O a b)
    (h1 : s.heap.IsTupleIter i1 l1 k) (h2 : s.heap.IsTupleIter i2 l2 k) (t1 : s.heap.IsTuple l1 xs) (t2 : s.heap.IsTuple l2 ys) (he : xs[k]? = none ∨ ys[k]? = none)
    (q : ∀ h' e, (∀ c o, c ≠ z → c ≠ O → c ≠ i1 → c ≠ i2 → s.heap.get? c = some o → h'.get? c = some o) → (∃ o, h'.get? e = some o ∧ o.cls = .type "StopIteration") → E (.ref e) { s with heap := h' }) :
    wpAny (model prog w) A (Builtin.«zip.__next__» ⟨[.ref z], []⟩) Q E s := by
  have kT : ∀ {h h' : Heap} {c j t : Addr} {n : Nat}, Heap.SameBut c h h' → j ≠ c → h.IsTupleIter j t n → h'.IsTupleIter j t n := fun sb ne it => it.at fun o e => (sb.2 _ ne).trans e
  have kU : ∀ {h h' : Heap} {c t : Addr} {zs : Array Value}, Heap.SameBut c h h' → t ≠ c → h.IsTuple t zs → h'.IsTuple t zs := fun sb ne it => let ⟨o, e, r⟩ := it; ⟨o, (sb.2 _ ne).trans e, r⟩
  show wpAny _ _ (field (.ref z) 2 >>= _) _ _ _
  refine wpAny_bind (wpAny_field hz rfl (x := .bool false) rfl ?_)
  show wpAny _ _ (field (.ref z) 3 >>= _) _ _ _
  refine wpAny_bind (wpAny_field hz rfl (x := .ref I) rfl ?_)
  refine wpAny_bind (wpAny_seqItems hI rfl ?_)
  show wpAny _ _ (Builtin.SmallTypes.ownedTupleIsFree (.ref z) >>= _) _ _ _
  refine wpAny_bind ?_
  unfold Builtin.SmallTypes.ownedTupleIsFree
  refine wpAny_bind (wpAny_field hz rfl (x := .none) rfl (wpAny_pure ?_))
  simp only [if_true]
  refine wpAny_bind (wpAny_rule ?_)
  refine wpAny_bind (wpAny_field hz rfl (x := .ref O) rfl ?_)
  refine wpAny_bind (wpAny_setField_rec hz (by simp) fun g1 z1 s1 => ?_)
  have z1' : IsZip g1 z I O .ellipsis := z1
  refine wpAny_bind ?_
  simp only [List.zipIdx_cons, List.zipIdx_nil, List.forIn_cons, List.forIn_nil]
  refine wpAny_bind (wpAny_bind (wpAny_onRaise ?_))
  show wpAny _ _ (Builtin.SmallTypes.nextOf (.ref i1) >>= _) _ _ _
  cases hx : xs[k]? with
  | none =>
    refine wpAny_bind (drawEnd hh (kT s1 D.i1z h1) (kU s1 D.l1z t1) hx fun g2 e s2 ⟨oe, e1, e2⟩ => ?_)
    have z2 : IsZip g2 z I O .ellipsis := s2 _ _ D.i1z.symm z1'
    have ne : e ≠ z := fun w => by subst w; rw [z2] at e1; cases e1; simp at e2
    exact wpAny_setField_rec z2 (by simp) fun g3 _ s3 => q g3 e (fun c o c1 _ c3 _ w => (s3.2 _ c1).trans (s2 _ _ c3 ((s1.2 _ c1).trans w))) ⟨oe, (s3.2 _ ne).trans e1, e2⟩
  | some x =>
    have hy : ys[k]? = none := he.resolve_left (by rw [hx]; exact fun w => by cases w)
    refine wpAny_bind (drawT (kT s1 D.i1z h1) (kU s1 D.l1z t1) hx fun g2 j2 s2 => wpAny_pure ?_)
    have O2 : IsPair g2 O a b := (s2.2 _ D.TOi1).trans ((s1.2 _ D.TOz).trans hO)
    refine wpAny_bind (wpAny_seqItems O2 rfl ?_)
    refine wpAny_bind (pair_set O2 fun g3 O3 s3 => ?_)
    refine wpAny_bind (wpAny_letGo (wpAny_pure ?_))
    refine wpAny_bind (wpAny_bind (wpAny_onRaise ?_))
    show wpAny _ _ (Builtin.SmallTypes.nextOf (.ref i2) >>= _) _ _ _
    refine wpAny_bind (drawEnd hh (kT s3 D.TOi2.symm (kT s2 D.i12.symm (kT s1 D.i2z h2))) (kU s3 D.l2TO (kU s2 D.l2i1 (kU s1 D.l2z t2))) hy fun g4 e s4 ⟨oe, e1, e2⟩ => ?_)
    have z4 : IsZip g4 z I O .ellipsis := s4 _ _ D.i2z.symm ((s3.2 _ D.TOz.symm).trans ((s2.2 _ D.i1z.symm).trans z1'))
    have ne : e ≠ z := fun w => by subst w; rw [z4] at e1; cases e1; simp at e2
    exact wpAny_setField_rec z4 (by simp) fun g5 _ s5 => q g5 e (fun c o c1 c2 c3 c4 w => (s5.2 _ c1).trans (s4 _ _ c4 ((s3.2 _ c2).trans ((s2.2 _ c3).trans ((s1.2 _ c1).trans w))))) ⟨oe, (s5.2 _ ne).trans e1, e2⟩
theorem nextZ {z I O i1 i2 l1 l2 : Addr} {k : Nat} {xs ys : Array Value} {x y a b : Value} {Q : Option Value → Shared → Prop} (D : ZipApart z I O i1 i2 l1 l2)
    (hz : IsZip s.heap z I O .none) (hI : IsPair s.heap I (.ref i1) (.ref i2)) (hO : IsPair s.heap O a b)
    (h1 : s.heap.IsTupleIter i1 l1 k) (h2 : s.heap.IsTupleIter i2 l2 k) (t1 : s.heap.IsTuple l1 xs) (t2 : s.heap.IsTuple l2 ys) (hx : xs[k]? = some x) (hy : ys[k]? = some y)
    (q : ∀ h', IsZip h' z I O (rawInt s.heap.objs.size) → IsPair h' O x y → h'.IsTupleIter i1 l1 (k + 1) → h'.IsTupleIter i2 l2 (k + 1) → IsPair h' s.heap.objs.size x y → h'.objs.size = s.heap.objs.size + 1 →
      (∀ c o, c ≠ z → c ≠ O → c ≠ i1 → c ≠ i2 → s.heap.get? c = some o → h'.get? c = some o) → Q (some (.ref s.heap.objs.size)) { s with heap := h' }) : wpAny (model prog w) A (pyNext (.ref z)) Q E s := by
  have hT : s.TypeIs (.ref z) "zip" := ⟨_, hz, rfl⟩
  unfold pyNext
  exact wpAny_bind (wpAny_attempt (wpAny_callSpecial?_slot (name := Str.ofString "__next__") hT F.slot_zip_next (wpAny_call_entry F.slot_zip_next hT F.entry_zip_next
    (zipT_item D hz hI hO h1 h2 t1 t2 hx hy fun h' b1 b2 b3 b4 b5 b6 b7 => wpAny_pure (q h' b1 b2 b3 b4 b5 b6 b7)) (F.args_zip_next_1 _))))
theorem nextZe {z I O i1 i2 l1 l2 : Addr} {k : Nat} {xs ys : Array Value} {a b : Value} {Q : Option Value → Shared → Prop} (hh : A.handled = none) (D : ZipApart z I O i1 i2 l1 l2)
    (hz : IsZip s.heap z I O .none) (hI : IsPair s.heap I (.ref i1) (.ref i2)) (hO : IsPair s.heap O a b)
    (h1 : s.heap.IsTupleIter i1 l1 k) (h2 : s.heap.IsTupleIter i2 l2 k) (t1 : s.heap.IsTuple l1 xs) (t2 : s.heap.IsTuple l2 ys) (he : xs[k]? = none ∨ ys[k]? = none)
    (q : ∀ h', (∀ c o, c ≠ z → c ≠ O → c ≠ i1 → c ≠ i2 → s.heap.get? c = some o → h'.get? c = some o) → Q none { s with heap := h' }) : wpAny (model prog w) A (pyNext (.ref z)) Q E s := by
  have hT : s.TypeIs (.ref z) "zip" := ⟨_, hz, rfl⟩
  unfold pyNext
  refine wpAny_bind (wpAny_attempt (wpAny_callSpecial?_slot (name := Str.ofString "__next__") hT F.slot_zip_next (wpAny_call_entry F.slot_zip_next hT F.entry_zip_next (zipT_end hh D hz hI hO h1 h2 t1 t2 he fun h' e kp ⟨o, ho, hc⟩ => ?_) (F.args_zip_next_1 _))))
  exact wpAny_bind (wpAny_isInstance (T := "StopIteration") (b := true) ⟨o, ho, hc⟩ isSubtype_stop (wpAny_pure (q _ kp)))
/-- zip(t, u), two tuples -/
def hz1 (h : Heap) (l1 : Addr) : Heap := h.push { cls := .type "tuple_iterator", data := .fields #[.ref l1, .int 0 0] }
def hz2 (h : Heap) (l1 l2 : Addr) : Heap := (hz1 h l1).push { cls := .type "tuple_iterator", data := .fields #[.ref l2, .int 0 0] }
def hz3 (h : Heap) (l1 l2 : Addr) : Heap := (hz2 h l1 l2).push { cls := .type "tuple", data := .seq #[.ref h.objs.size, .ref (hz1 h l1).objs.size] }
def hz4 (h : Heap) (l1 l2 : Addr) : Heap := (hz3 h l1 l2).push { cls := .type "tuple", data := .seq #[.none, .none] }
def hz5 (h : Heap) (l1 l2 : Addr) : Heap := (hz4 h l1 l2).push { cls := .type "zip", data := .fields #[.none, .bool false, .bool false, .ref (hz2 h l1 l2).objs.size, .ref (hz3 h l1 l2).objs.size] }
theorem zipT_new (l1 l2 : Addr) (xs ys : Array Value) : Meets (Builtin.«zip.__new__» ⟨[.type "zip", .ref l1, .ref l2], []⟩) (fun _ R s => s.heap.IsTuple l1 xs ∧ s.heap.IsTuple l2 ys ∧
      R (.ok (.ret (.ref (hz4 s.heap l1 l2).objs.size))) { s with heap := hz5 s.heap l1 l2 }) :=
  .of_wp fun prog w A R s h => by
    obtain ⟨hp, g, d, tk, os⟩ := s; obtain ⟨t1, t2, h⟩ := h
    have hsub := sub_zip
    have T1 : Heap.IsTuple (Shared.heap ⟨hp, g, d, tk, os⟩) l1 xs := t1
    have T2 : Heap.IsTuple (Shared.heap ⟨hp.push { cls := .type "tuple_iterator", data := .fields #[.ref l1, .int 0 0] }, g, d, tk, os⟩) l2 ys := let ⟨o, e, r⟩ := t2; ⟨o, Heap.get?_push_of_some _ e, r⟩
    wp_walk using wpAny_pyIter_tuple T1, wpAny_pyIter_tuple T2
    exact ⟨_, rfl, h⟩
theorem callZ {l1 l2 : Addr} {xs ys : Array Value} {Q : Value → Shared → Prop} (t1 : s.heap.IsTuple l1 xs) (t2 : s.heap.IsTuple l2 ys)
    (q : ∀ h', IsZip h' (s.heap.objs.size + 4) (s.heap.objs.size + 2) (s.heap.objs.size + 3) .none → IsPair h' (s.heap.objs.size + 2) (.ref s.heap.objs.size) (.ref (s.heap.objs.size + 1)) →
      IsPair h' (s.heap.objs.size + 3) .none .none → h'.IsTupleIter s.heap.objs.size l1 0 → h'.IsTupleIter (s.heap.objs.size + 1) l2 0 → (∀ c o, s.heap.get? c = some o → h'.get? c = some o) → Q (.ref (s.heap.objs.size + 4)) { s with heap := h' }) :
    wpAny (model prog w) A (call (.type "zip") [.ref l1, .ref l2]) Q E s := by
  refine callType_new F.called_zip (by decide) (F.typeCall_zip_2 _ _) (F.newCall_zip_2 _ _) (fun obj => F.args_object_init_3 obj _ _) F.entry_zip_new (zipT_new l1 l2 xs ys) ⟨t1, t2, ?_⟩
  have n1 : (hz1 s.heap l1).objs.size = s.heap.objs.size + 1 := Heap.size_push ..
  have n2 : (hz2 s.heap l1 l2).objs.size = s.heap.objs.size + 2 := by unfold hz2; rw [Heap.size_push, n1]
  have n3 : (hz3 s.heap l1 l2).objs.size = s.heap.objs.size + 3 := by unfold hz3; rw [Heap.size_push, n2]
  have n4 : (hz4 s.heap l1 l2).objs.size = s.heap.objs.size + 4 := by unfold hz4; rw [Heap.size_push, n3]
  have up : ∀ {h : Heap} {c : Addr} {o o' : Obj}, h.get? c = some o → (h.push o').get? c = some o := fun e => Heap.get?_push_of_some _ e
  have p5 : (hz5 s.heap l1 l2).get? (hz4 s.heap l1 l2).objs.size = some _ := Heap.get?_push_size _ rfl
  have p4 : (hz5 s.heap l1 l2).get? (hz3 s.heap l1 l2).objs.size = some _ := up (Heap.get?_push_size _ rfl)
  have p3 : (hz5 s.heap l1 l2).get? (hz2 s.heap l1 l2).objs.size = some _ := up (up (Heap.get?_push_size _ rfl))
  have p2 : (hz5 s.heap l1 l2).get? (hz1 s.heap l1).objs.size = some _ := up (up (up (Heap.get?_push_size _ rfl)))
  have p1 : (hz5 s.heap l1 l2).get? s.heap.objs.size = some _ := up (up (up (up (Heap.get?_push_size _ rfl))))
  show _ ∧ _
  rw [n2, n3, n4] at p5
  rw [n1, n2] at p3
  rw [n3] at p4
  rw [n1] at p2
  rw [n4]
  exact ⟨⟨_, p5, rfl⟩, q _ p5 p3 p4 ⟨_, p1, rfl, rfl⟩ ⟨_, p2, rfl, rfl⟩ fun c o e => up (up (up (up (up e))))⟩
end
theorem turn_zt {P : Program} {w : World} {K : PySem.W.Frag} {elts : List Expr} {kk : Nat} {tpos : Pos} {a b z I O i1 i2 : Addr} (D : ZipApart z I O i1 i2 a b) :
    Turn P w K (.Tuple elts kk tpos) (Itzt K a b) [z, I, O, i1, i2] z (fun i h => IsZip h z I O .none ∧ IsPair h I (.ref i1) (.ref i2) ∧ (∃ x y, IsPair h O x y) ∧ h.IsTupleIter i1 a i ∧ h.IsTupleIter i2 b i) where
  mem := by simp
  obj := fun i h st c hc => by
    obtain ⟨hz, hI, ⟨x, y, hO⟩, ⟨o1, e1, _, d1⟩, ⟨o2, e2, _, d2⟩⟩ := st
    have e' : c = z ∨ c = I ∨ c = O ∨ c = i1 ∨ c = i2 := by simpa using hc
    rcases e' with q | q | q | q | q
    · rw [q]; exact ⟨_, hz, fun v q => nomatch q⟩
    · rw [q]; exact ⟨_, hI, fun v q => nomatch q⟩
    · rw [q]; exact ⟨_, hO, fun v q => nomatch q⟩
    · rw [q]; exact ⟨o1, e1, fun v q => by rw [d1] at q; cases q⟩
    · rw [q]; exact ⟨o2, e2, fun v q => by rw [d2] at q; cases q⟩
  keep := fun i h h' st k => by
    obtain ⟨hz, hI, ⟨x, y, hO⟩, h1, h2⟩ := st
    exact ⟨k z (by simp) _ hz, k I (by simp) _ hI, ⟨x, y, k O (by simp) _ hO⟩, h1.at fun o q => k i1 (by simp) o q, h2.at fun o q => k i2 (by simp) o q⟩
  item := by
    intro X hP hw hK hc i pins s σ H E I' hf st hg
    subst hP hw hK
    obtain ⟨hz, hI, ⟨x0, y0, hO⟩, h1, h2⟩ := st
    obtain ⟨xs, ys, x, y, hqx, hqy, hx, hy⟩ := hg
    obtain ⟨its, rv, p, _⟩ := I'.tuple hqx
    obtain ⟨its2, rv2, p2, _⟩ := I'.tuple hqy
    obtain ⟨u, hu, ru⟩ := rv.get hx
    obtain ⟨u2, hu2, ru2⟩ := rv2.get hy
    have hzl : z < s.heap.objs.size := Heap.lt_size hz
    refine nextZ D hz hI hO h1 h2 (show s.heap.IsTuple a its.toArray from p) (show s.heap.IsTuple b its2.toArray from p2) (x := u) (y := u2) (by simpa using hu) (by simpa using hu2) fun h' z' O' h1' h2' hT hsz hk => ?_
    refine ⟨_, rfl, wpAny_letOwnedTupleGo_zip (s := { s with heap := h' }) z' fun h'' z'' sb => ?_⟩
    have hT2 : h''.get? s.heap.objs.size = some { cls := .type "tuple", data := .seq #[u, u2] } := (sb.2 _ (Nat.ne_of_gt hzl)).trans hT
    have new : ObjOk X.prog X.w (upd H s.heap.objs.size (.tup [x, y])) h'' s.heap.objs.size (.tup [x, y]) := ⟨by show 2 ≤ sizeLine; decide, [u, u2], .cons ru (.cons ru2 .nil), ⟨_, hT2, rfl, ⟨_, rfl⟩, rfl⟩⟩
    have I1 : Inv X pins σ (upd H s.heap.objs.size (.tup [x, y])) { s with heap := h'' } :=
      I'.turnedNew (t' := s.toks) (ch := [z, I, O, i1, i2]) (fun c o hb q => (sb.2 c (fun q' => hb (by simp [q']))).trans (hk c o (fun q' => hb (by simp [q'])) (fun q' => hb (by simp [q'])) (fun q' => hb (by simp [q'])) (fun q' => hb (by simp [q'])) q)) hf (Nat.le_refl _) new
    refine ⟨.ref s.heap.objs.size, _, I1, rfl, ⟨_, x, y, rfl, I'.hok.fresh (Nat.le_refl _), rfl, fun l hl => by rw [I'.tuple_inj hl hqx]; exact hx, fun l hl => by rw [I'.tuple_inj hl hqy]; exact hy⟩, ⟨z'', ?_, ⟨u, u2, ?_⟩, ?_, ?_⟩, fun c hcm => ?_⟩
    · exact (sb.2 _ D.TIz).trans (hk _ _ D.TIz D.TITO D.TIi1 D.TIi2 hI)
    · exact (sb.2 _ D.TOz).trans O'
    · exact h1'.at fun o q => (sb.2 _ D.i1z).trans q
    · exact h2'.at fun o q => (sb.2 _ D.i2z).trans q
    · have hlt : c < s.heap.objs.size := by
        have e' : c = z ∨ c = I ∨ c = O ∨ c = i1 ∨ c = i2 := by simpa using hcm
        rcases e' with q | q | q | q | q
        · rw [q]; exact hzl
        · rw [q]; exact Heap.lt_size hI
        · rw [q]; exact Heap.lt_size hO
        · rw [q]; obtain ⟨_, e1, _⟩ := h1; exact Heap.lt_size e1
        · rw [q]; obtain ⟨_, e2, _⟩ := h2; exact Heap.lt_size e2
      rw [upd_ne (Nat.ne_of_lt hlt)]
      exact (hf c hcm).1
  done := by
    intro X hP hw hK hc i pins s σ H E I' hf st hg
    subst hP hw hK
    obtain ⟨hz, hI, ⟨x0, y0, hO⟩, h1, h2⟩ := st
    obtain ⟨xs, ys, hqx, hqy, hend⟩ := hg
    obtain ⟨its, rv, p, _⟩ := I'.tuple hqx
    obtain ⟨its2, rv2, p2, _⟩ := I'.tuple hqy
    have l1 := rv.length
    have l2 := rv2.length
    have he : its.toArray[i]? = none ∨ its2.toArray[i]? = none := by
      rcases hend with q | q
      · exact .inl (by simp; omega)
      · exact .inr (by simp; omega)
    exact nextZe (I'.ok.hd hc) D hz hI hO h1 h2 (show s.heap.IsTuple a its.toArray from p) (show s.heap.IsTuple b its2.toArray from p2) he fun h' hk => ⟨rfl, I'.turnedL (t' := s.toks) (ch := [z, I, O, i1, i2]) (fun c o hb q =>
      hk c o (fun q' => hb (by simp [q'])) (fun q' => hb (by simp [q'])) (fun q' => hb (by simp [q'])) (fun q' => hb (by simp [q'])) q) hf⟩
  self := fun A i s Q E st h => wpAny_pyIter_zip st.1 h
theorem zipR : ZipR := by
  intro X e e2 ta p pos tpos elts kk hc hg hm ha hs hpl pins s σ H R I h
  refine Call_ (ld_blt I hg hm boot_zip5 (PyProof.Rows.callWith_type1 (thn (ha pos pins s σ H _ I h) fun us s1 ⟨vs, H1, I1, r1, q1⟩ => ?_) hs hpl))
  obtain ⟨a, b, xs, ys, ex, q1⟩ := q1
  subst ex
  cases r1 with
  | cons r rr =>
    cases rr with
    | cons r' rr =>
      cases rr
      cases r
      cases r'
      have fp : ∀ {H2 : Hp} (c : Addr), c ∈ [s1.heap.objs.size + 4, s1.heap.objs.size + 2, s1.heap.objs.size + 3, s1.heap.objs.size, s1.heap.objs.size + 1] → FpOk X pins H1 c := fun {H2} c hcm => by
        have hle : s1.heap.objs.size ≤ c := by
          have e' : c = s1.heap.objs.size + 4 ∨ c = s1.heap.objs.size + 2 ∨ c = s1.heap.objs.size + 3 ∨ c = s1.heap.objs.size ∨ c = s1.heap.objs.size + 1 := by simpa using hcm
          rcases e' with z | z | z | z | z <;> (rw [z]; omega)
        exact I1.fpOk hle (I1.hok.fresh hle)
      rcases q1 with ⟨hqx, hqy, q⟩ | ⟨hqx, hqy, q⟩
      · obtain ⟨its, rv, p1, _⟩ := I1.list hqx
        obtain ⟨its2, rv2, p2, _⟩ := I1.list hqy
        refine call_zip_2 p1.isList p2.isList fun h' hz hTI hTO h1 h2 hsz hk => wpAny_pyIter_zip hz ?_
        have I2 : Inv X pins σ H1 { s1 with heap := h' } := I1.kept (t' := s1.toks) hk
        exact ⟨s1.heap.objs.size + 4, [s1.heap.objs.size + 4, s1.heap.objs.size + 2, s1.heap.objs.size + 3, s1.heap.objs.size, s1.heap.objs.size + 1], _, _, H1, rfl, I2, turn_zip (PySem.W.ktu_apart s1.heap.objs.size a b p1.lt p2.lt), ⟨hz, hTI, ⟨_, _, hTO⟩, h1, h2⟩, fun c hcm => fp (H2 := H1) c hcm, q⟩
      · obtain ⟨its, rv, p1, _⟩ := I1.tuple hqx
        obtain ⟨its2, rv2, p2, _⟩ := I1.tuple hqy
        refine callZ (show s1.heap.IsTuple a its.toArray from p1) (show s1.heap.IsTuple b its2.toArray from p2) fun h' hz hTI hTO h1 h2 hk => wpAny_pyIter_zip hz ?_
        have I2 : Inv X pins σ H1 { s1 with heap := h' } := I1.kept (t' := s1.toks) hk
        exact ⟨s1.heap.objs.size + 4, [s1.heap.objs.size + 4, s1.heap.objs.size + 2, s1.heap.objs.size + 3, s1.heap.objs.size, s1.heap.objs.size + 1], _, _, H1, rfl, I2, turn_zt (PySem.W.ktu_apart s1.heap.objs.size a b p1.lt p2.lt), ⟨hz, hTI, ⟨_, _, hTO⟩, h1, h2⟩, fun c hcm => fp (H2 := H1) c hcm, q⟩
end Ky

namespace Ky
open PySem PySem.Spec PyProof.Rows L2

/-! ### statements -/
def AftS (g : G) (th om : List Addr) (H : Hp) (f : Fl) (ρ' : Env) (m' : M) (D' : Ends) : Prop := ∀ th' H', Ext th om H th' H' → MRep g th' om H' m' → match f with
  | .nx => ∀ σ', EnvR g th' om H' σ' ρ' → D'.nx σ' H'
  | .rt d => ∀ v, Rep g th' om H' v d → D'.rt v H'
  | .bk => ∀ σ', EnvR g th' om H' σ' ρ' → D'.bk σ' H'
  | .ct => ∀ σ', EnvR g th' om H' σ' ρ' → D'.ct σ' H'
theorem AftS.mono {g : G} {th om th1 : List Addr} {H H1 : Hp} {f : Fl} {ρ' : Env} {m' : M} {D' : Ends} (a : AftS g th om H f ρ' m' D') (x : Ext th om H th1 H1) : AftS g th1 om H1 f ρ' m' D' := fun th' H' y r => a th' H' (x.trans y) r
def tS (g : G) (Φ : Cal) (s : S) : TS := fun D' σ H => ∃ th om ρ m f ρ' m', EnvR g th om H σ ρ ∧ MRep g th om H m ∧ evS Φ s ρ m = some (f, ρ', m') ∧ AftS g th om H f ρ' m' D'
def tSs (g : G) (Φ : Cal) (s : Ss) : TS := fun D' σ H => ∃ th om ρ m f ρ' m', EnvR g th om H σ ρ ∧ MRep g th om H m ∧ evSs Φ s ρ m = some (f, ρ', m') ∧ AftS g th om H f ρ' m' D'
theorem PSi {X : Cx} {s : Stmt} {t t' : TS} (h : PS X s t) (i : ∀ D' σ H, t' D' σ H → t D' σ H) : PS X s t' := fun pins s σ H D' I q => h pins s σ H D' I (i D' σ H q)
theorem PSsi {X : Cx} {s : List Stmt} {t t' : TS} (h : PSs X s t) (i : ∀ D' σ H, t' D' σ H → t D' σ H) : PSs X s t' := fun pins s σ H D' I q => h pins s σ H D' I (i D' σ H q)
section
variable {g : G} {Φ : Cal}
theorem red_set {i : Nat} {e : E} : ∀ D' σ H, tS g Φ (.set i e) D' σ H → tAsg (tE g Φ e) (gName i) D' σ H := by
  rintro D' σ H ⟨th, om, ρ, m, f, ρ', m', er, mr, ev, af⟩
  unfold evS at ev
  obtain ⟨x, m1, e1, ev⟩ := bnd_inv ev
  cases ev
  exact ⟨th, om, ρ, m, x, _, er, mr, e1, fun v th1 H1 x1 mr1 rx => af th1 H1 x1 mr1 _ ((er.mono x1).set rx i)⟩
theorem red_par {i j : Nat} {a b : E} : ∀ D' σ H, tS g Φ (.par i j a b) D' σ H → tPar i j (tA g Φ (.cons a (.cons b .nil))) D' σ H := by
  rintro D' σ H ⟨th, om, ρ, m, f, ρ', m', er, mr, ev, af⟩
  unfold evS at ev
  obtain ⟨x, m1, e1, ev⟩ := bnd_inv ev
  obtain ⟨y, m2, e2, ev⟩ := bnd_inv ev
  cases ev
  refine ⟨th, om, ρ, m, [x, y], m', er, mr, by simp only [evEs, e1, bnd_mk, e2], fun vs th1 H1 x1 mr1 rs => ?_⟩
  cases rs with
  | cons r1 rr =>
    cases rr with
    | cons r2 rr =>
      cases rr
      exact ⟨_, _, rfl, af th1 H1 x1 mr1 _ (((er.mono x1).set r1 i).set r2 j)⟩
theorem red_expr {e : E} : ∀ D' σ H, tS g Φ (.expr e) D' σ H → tDrop (tE g Φ e) D' σ H := by
  rintro D' σ H ⟨th, om, ρ, m, f, ρ', m', er, mr, ev, af⟩
  unfold evS at ev
  obtain ⟨x, m1, e1, ev⟩ := bnd_inv ev
  cases ev
  exact ⟨th, om, ρ, m, x, _, er, mr, e1, fun v th1 H1 x1 mr1 rx => af th1 H1 x1 mr1 _ (er.mono x1)⟩
theorem red_ret {e : E} : ∀ D' σ H, tS g Φ (.ret e) D' σ H → tRet (tE g Φ e) D' σ H := by
  rintro D' σ H ⟨th, om, ρ, m, f, ρ', m', er, mr, ev, af⟩
  unfold evS at ev
  obtain ⟨x, m1, e1, ev⟩ := bnd_inv ev
  cases ev
  exact ⟨th, om, ρ, m, x, _, er, mr, e1, fun v th1 H1 x1 mr1 rx => af th1 H1 x1 mr1 v rx⟩
theorem red_ife {t : T} {a b : Ss} : ∀ D' σ H, tS g Φ (.ife t a b) D' σ H → tIfS (tT g Φ t) (tSs g Φ a) (tSs g Φ b) D' σ H := by
  rintro D' σ H ⟨th, om, ρ, m, f, ρ', m', er, mr, ev, af⟩
  unfold evS at ev
  obtain ⟨x, m1, e1, ev⟩ := bnd_inv ev
  refine ⟨th, om, ρ, m, x, m1, er, mr, e1, fun th1 H1 x1 mr1 => ?_⟩
  cases x with
  | true => rw [if_pos rfl] at ev ⊢; exact ⟨th1, om, ρ, m1, f, ρ', m', er.mono x1, mr1, ev, af.mono x1⟩
  | false => rw [if_neg Bool.false_ne_true] at ev ⊢; exact ⟨th1, om, ρ, m1, f, ρ', m', er.mono x1, mr1, ev, af.mono x1⟩
theorem red_nil : ∀ D' σ H, tSs g Φ .nil D' σ H → tNext D' σ H := by
  rintro D' σ H ⟨th, om, ρ, m, f, ρ', m', er, mr, ev, af⟩
  unfold evSs at ev
  cases ev
  exact af th H Ext.refl mr σ er
theorem red_cons {s : S} {r : Ss} : ∀ D' σ H, tSs g Φ (.cons s r) D' σ H → tSeq (tS g Φ s) (tSs g Φ r) D' σ H := by
  rintro D' σ H ⟨th, om, ρ, m, f, ρ', m', er, mr, ev, af⟩
  unfold evSs at ev
  split at ev
  · rename_i ρ1 m1 e1
    exact ⟨th, om, ρ, m, .nx, ρ1, m1, er, mr, e1, fun th1 H1 x1 mr1 σ1 er1 => ⟨th1, om, ρ1, m1, f, ρ', m', er1, mr1, ev, af.mono x1⟩⟩
  · rename_i f1 ρ1 m1 hne e1
    cases ev
    refine ⟨th, om, ρ, m, f, ρ', m', er, mr, e1, fun th1 H1 x1 mr1 => ?_⟩
    have := af th1 H1 x1 mr1
    cases f with
    | nx => exact (hne rfl).elim
    | rt d => exact this
    | bk => exact this
    | ct => exact this
  · cases ev
theorem red_for {it : I} {tg : Tg} {b : Ss} : ∀ D' σ H, tS g Φ (.for_ it tg b) D' σ H → tFor (tI g Φ it) (tgR g.K tg) (tSs g Φ b) D' σ H := by
  rintro D' σ H ⟨th, om, ρ, m, f, ρ', m', er, mr, ev, af⟩
  unfold evS at ev
  obtain ⟨s, m1, e1, ev⟩ := bnd_inv ev
  refine ⟨th, om, ρ, m, s, m1, er, mr, e1, fun J th1 H1 x1 mr1 ok => ?_⟩
  have ox : ∀ a ∈ om, a ∈ om ∨ H1 a = none := fun a h => .inl h
  refine ⟨fun i n σ2 H2 => n = s.its.length - i ∧ i ≤ s.its.length ∧ ∃ th2 m2 ρ2, Ext th1 om H1 th2 H2 ∧ MRep g th2 om H2 m2 ∧ EnvR g th2 om H2 σ2 ρ2 ∧
      loopF (fun ρ m => evSs Φ b ρ m) tg s (s.its.drop i) ρ2 m2 = some (f, ρ', m'), ⟨s.its.length, by simp, Nat.zero_le _, th1, m1, ρ, Ext.refl, mr1, er.mono x1, ev⟩, ?_⟩
  rintro i n σ2 H2 ⟨rfl, hi, th2, m2, ρ2, x2, mr2, er2, ev2⟩
  by_cases hlt : i < s.its.length
  · have hdrop : s.its.drop i = s.its[i] :: s.its.drop (i + 1) := List.drop_eq_getElem_cons hlt
    rw [hdrop] at ev2
    unfold loopF at ev2
    split at ev2
    · rename_i hok
      obtain ⟨ρ3, hst, ev2⟩ := Option.bind_eq_some_iff.mp ev2
      obtain ⟨go, yl⟩ := (ok om th2 H2 m2 i ox x2.w mr2 hok).1 hlt
      refine .inr ⟨go, _, fun σ' H' hn => ⟨s.its.length - (i + 1), by omega, hn⟩, fun x H' hy => ?_⟩
      obtain ⟨xe, mr3, d', ed, rd⟩ := yl x H' hy
      have ed' : s.its[i]? = some s.its[i] := List.getElem?_eq_getElem hlt
      rw [ed'] at ed; cases ed
      refine tg_st rd (er2.mono xe) hst fun σ3 er4 _ => ?_
      split at ev2
      · rename_i ρ4 m4 e4
        exact ⟨th2, om, ρ3, m2, .nx, ρ4, m4, er4, mr3, e4, fun th5 H5 x5 mr5 σ5 er5 => ⟨rfl, hlt, th5, m4, ρ4, x2.trans (xe.trans x5), mr5, er5, ev2⟩⟩
      · rename_i ρ4 m4 e4
        exact ⟨th2, om, ρ3, m2, .ct, ρ4, m4, er4, mr3, e4, fun th5 H5 x5 mr5 σ5 er5 => ⟨rfl, hlt, th5, m4, ρ4, x2.trans (xe.trans x5), mr5, er5, ev2⟩⟩
      · rename_i ρ4 m4 e4
        cases ev2
        exact ⟨th2, om, ρ3, m2, .bk, _, _, er4, mr3, e4, fun th5 H5 x5 mr5 σ5 er5 => af th5 H5 (x1.trans (x2.trans (xe.trans x5))) mr5 σ5 er5⟩
      · rename_i d4 ρ4 m4 e4
        cases ev2
        exact ⟨th2, om, ρ3, m2, .rt d4, _, _, er4, mr3, e4, fun th5 H5 x5 mr5 v rv => af th5 H5 (x1.trans (x2.trans (xe.trans x5))) mr5 v rv⟩
      · cases ev2
    · cases ev2
  · have e : i = s.its.length := by omega
    subst e
    rw [List.drop_length] at ev2
    unfold loopF at ev2
    split at ev2
    · rename_i hok
      cases ev2
      exact .inl ⟨(ok om th2 H2 _ _ ox x2.w mr2 hok).2 (Nat.le_refl _), af th2 H2 (x1.trans x2) mr2 σ2 er2⟩
    · cases ev2
end
theorem swaps_no {e : Expr} {t : Option Expr} {l : Nat} {env : PySem.Env} (h : nComp e = true) : swapsWith e t l env = pure false := by
  cases e <;> first | rfl | (cases h; done)
theorem sw_par {x y : Str} {px py pt pt2 : Pos} {kt k2 : Nat} {a b : Expr} {env : PySem.Env} (hk : env.scope.kind = .function) (hx : env.scope.names.lookup x = some .local) (hy : env.scope.names.lookup y = some .local) (hl : (px.line == py.line) = true) (hne : x ≠ y)
    (h1 : nStar a = true) (h2 : nStar b = true) (h3 : (constantsAlone 8 a && constantsAlone 8 b) = false) (h4 : (foldedForSure 8 a && foldedForSure 8 b) = false) :
    swappedStores [.Tuple [.Name x px, .Name y py] kt pt] (.Tuple [a, b] k2 pt2) env = pure (some [x, y]) := by
  have hb : env.blockKind = .function := by unfold Env.blockKind; rw [hk]; rfl
  have kx : env.kindOf x = some .local := hx
  have ky : env.kindOf y = some .local := hy
  have hl' : px.line = py.line := by simpa using hl
  have hv1 : ([a, b] : List Expr).all (foldedForSure 8) = false := by
    show (foldedForSure 8 a && (foldedForSure 8 b && true)) = false
    rw [Bool.and_true]; exact h4
  have hv2 : ([a, b] : List Expr).all (constantsAlone 8) = false := by
    show (constantsAlone 8 a && (constantsAlone 8 b && true)) = false
    rw [Bool.and_true]; exact h3
  have hed : ([x, y] : List Str).eraseDups = [x, y] := by
    rw [List.eraseDups_cons]
    simp [Ne.symm hne, List.eraseDups_cons]
  have e1 : (some NameKind.local == some NameKind.local && py.line == py.line) = true := by simp
  unfold swappedStores
  simp only [hb, hv1, hv2, List.filterMap_cons, List.filterMap_nil, kx, ky, Expr.pos, List.head?_cons, Option.map_some, Option.getD_some, hl', e1, if_true, hed]
  refine Eq.trans (if_neg ?_) (Eq.trans (if_neg ?_) (Eq.trans (if_neg ?_) (Eq.trans (if_neg Bool.false_ne_true) (if_neg Bool.false_ne_true))))
  · exact Bool.false_ne_true
  · intro z
    rw [List.any_cons, List.any_cons, List.any_nil] at z
    cases a <;> first | (cases h1; done) | (cases b <;> first | (cases h2; done) | (cases z; done))
  · simp
theorem lslot_idx {c : C} {x : Str} {i : Nat} (h : lslot c x = some i) : idxN x c.N = some i := by
  unfold lslot at h
  split at h
  · exact h
  · cases h
theorem idxN_inj {x y : Str} {N : List Str} {i j : Nat} (h1 : idxN x N = some i) (h2 : idxN y N = some j) (h : i ≠ j) : x ≠ y := fun e => by
  subst e
  rw [h1] at h2
  exact h (Option.some.inj h2)
section
variable {gc : GC} {g : G} {P : List Fn} {k : Nat}
/-- the parts of a comprehension -/
theorem lc_parts {n : Nat} {c : C} {elt : Expr} {gs : List Comprehension} {scope : Scope} {p : Pos} {e' : E} (h1 : (gs.length == 1) = true) (h : trE gc (n + 1) c (.ListComp elt gs scope p) = some e') :
    ∃ tg iter ifs it' tg' t' el, gs = [⟨tg, iter, ifs, 0⟩] ∧ e' = .lc ((ownOf c.N scope.names).map (·.2)) it' tg' t' el ∧ BlkOk c.N c.sc scope (ownOf c.N scope.names) ∧ nSet iter = true ∧ trI gc n c tg iter = some it' ∧ trTg (c.blk scope) tg = some tg' ∧
      trTs gc n (c.blk scope) ifs = some t' ∧ trE gc n (c.blk scope) elt = some el ∧ ∀ i ∈ tg'.ids, i ∈ (ownOf c.N scope.names).map (·.2) := by
  unfold trE at h
  split at h
  all_goals try (rename_i heq; cases heq; done)
  · rename_i heq; cases heq
    dsimp only at h
    split at h
    · rename_i hb
      rw [Bool.and_eq_true] at hb
      obtain ⟨it', h1, h⟩ := opt_bind h
      obtain ⟨tg', h2, h⟩ := opt_bind h
      obtain ⟨t', h3, h⟩ := opt_bind h
      obtain ⟨el, h4, h⟩ := opt_bind h
      split at h
      · rename_i hi
        cases h
        exact ⟨_, _, _, it', tg', t', el, rfl, rfl, blkOk_by hb.1, hb.2, h1, h2, h3, h4, ids_ok hi⟩
      · cases h
    · cases h
  · rename_i heq; cases heq; cases h1
  · cases h
theorem sndS (hz : ZipR) : ∀ n, (∀ c X s s', XOk gc g P k c X → (∀ x, X.fn x = true) → trS gc n c s = some s' → PS X s (tS g (callN P k) s')) ∧ (∀ c X ss ss', XOk gc g P k c X → (∀ x, X.fn x = true) → trSs gc n c ss = some ss' → PSs X ss (tSs g (callN P k) ss'))
  | 0 => ⟨fun _ _ _ _ _ _ h => (by cases h), fun _ _ _ _ _ _ h => (by cases h)⟩
  | n + 1 => by
    obtain ⟨ihS, ihSs⟩ := sndS hz n
    have S := (snd (gc := gc) (g := g) (P := P) (k := k) hz 100).1
    refine ⟨fun c X s s' ok fn h => ?_, fun c X ss ss' ok fn h => ?_⟩
    · have hK := ok.K
      have pass : PassesOwn (model X.prog X.w) X.A X.env X.xe := by rw [ok.xe]; exact PassesOwn.never
      unfold trS at h
      split at h
      · -- x = [..]
        split at h
        · rename_i hc
          simp only [Bool.and_eq_true, Bool.not_eq_true'] at hc
          obtain ⟨i, h1, h⟩ := opt_bind h
          obtain ⟨e', h2, h⟩ := opt_bind h
          cases h
          obtain ⟨l1, l2⟩ := lslot_ok h1
          obtain ⟨tg, iter, ifs, it', tg', t', el, rfl, rfl, hB, hn, q1, q2, q3, q4, hi⟩ := lc_parts hc.1.1 h2
          have S' := (snd (gc := gc) (g := g) (P := P) (k := k) hz 99).1
          have up : ∀ {s : Scope} {o : List (Str × Nat)}, BlkOk c.N c.sc s o → BlkOk X.N X.env.scope s o := fun {s o} h => by rw [ok.N, ok.sc]; exact h
          refine PSi (ps_setLc ok.calm ok.nd (by rw [ok.N]; exact l1) (by rw [ok.sc]; exact l2) (sw_true (by rw [ok.sc]; exact ok.kind) (by rw [ok.sc]; exact l2) hc.1.2 hc.2) (S'.i c X _ _ it' ok q1) (up hB)
            (fun s H A cl fp => pg_tg (ok.blk hB.kind s H A cl fp) q2) (fun s H A cl fp => S'.ts _ _ _ t' (ok.blk hB.kind s H A cl fp) q3) (fun s H A cl fp => S'.e _ _ _ el (ok.blk hB.kind s H A cl fp) q4) (foldS hn)) fun D' σ H q => ?_
          exact red_lc hi σ H _ (red_set D' σ H q)
        · cases h
      · split at h
        · rename_i hc
          obtain ⟨i, h1, h⟩ := opt_bind h
          obtain ⟨e', h2, h⟩ := opt_bind h
          cases h
          obtain ⟨t1, t2, t3⟩ := tslot_ok h1
          exact PSi (ps_set ok.nd (by rw [ok.N]; exact t1) (by rw [ok.sc]; exact t2) (S.e c X _ e' ok h2) (swaps_no hc) (.inl (fn _))) red_set
        · cases h
      · split at h
        · rename_i hc
          simp only [Bool.and_eq_true, Bool.not_eq_true'] at hc
          obtain ⟨⟨⟨⟨c1, c2⟩, c3⟩, c4⟩, c5⟩ := hc
          obtain ⟨i, h1, h⟩ := opt_bind h
          obtain ⟨j, h2, h⟩ := opt_bind h
          obtain ⟨a', h3, h⟩ := opt_bind h
          obtain ⟨b', h4, h⟩ := opt_bind h
          split at h
          · cases h
          · rename_i hij
            cases h
            obtain ⟨l1, l2⟩ := lslot_ok h1
            obtain ⟨l3, l4⟩ := lslot_ok h2
            exact PSi (ps_par ok.calm ok.nd (by rw [ok.N]; exact l1) (by rw [ok.N]; exact l3) hij (by rw [ok.sc]; exact l2) (by rw [ok.sc]; exact l4) (pa2 (S.e c X _ a' ok h3) (S.e c X _ b' ok h4) c1 c2)
              (sw_par (by rw [ok.sc]; exact ok.kind) (by rw [ok.sc]; exact l2) (by rw [ok.sc]; exact l4) c3 (idxN_inj (lslot_idx h1) (lslot_idx h2) hij) c1 c2 c4 c5) rfl) red_par
        · cases h
      · cases h
        refine PSi ps_doc fun D' σ H => ?_
        rintro ⟨th, om, ρ, m, f, ρ', m', er, mr, ev, af⟩
        cases ev
        exact af th H Ext.refl mr σ er
      · split at h
        · rename_i hc
          obtain ⟨e', h2, h⟩ := opt_bind h
          cases h
          exact PSi (ps_expr (S.e c X _ e' ok h2) (swaps_no hc)) red_expr
        · cases h
      · obtain ⟨e', h2, h⟩ := opt_bind h
        cases h
        exact PSi (ps_ret (S.e c X _ e' ok h2)) red_ret
      · cases h
        refine PSi ps_retN fun D' σ H => ?_
        rintro ⟨th, om, ρ, m, f, ρ', m', er, mr, ev, af⟩
        cases ev
        exact af th H Ext.refl mr .non .non
      · obtain ⟨t', h1, h⟩ := opt_bind h
        obtain ⟨a', h2, h⟩ := opt_bind h
        obtain ⟨b', h3, h⟩ := opt_bind h
        cases h
        exact PSi (ps_if (S.t c X _ t' ok h1) (ihSs c X _ a' ok fn h2) (ihSs c X _ b' ok fn h3)) red_ife
      · split at h
        · rename_i hc
          obtain ⟨it', h1, h⟩ := opt_bind h
          obtain ⟨tg', h2, h⟩ := opt_bind h
          obtain ⟨b', h3, h⟩ := opt_bind h
          cases h
          exact PSi (ps_for pass ok.calm (S.i c X _ _ it' ok h1) (pg_tg ok h2) (ihSs c X _ b' ok fn h3) (foldS hc)) red_for
        · cases h
      · cases h
        refine PSi ps_pass fun D' σ H => ?_
        rintro ⟨th, om, ρ, m, f, ρ', m', er, mr, ev, af⟩
        cases ev
        exact af th H Ext.refl mr σ er
      · cases h
        refine PSi ps_break fun D' σ H => ?_
        rintro ⟨th, om, ρ, m, f, ρ', m', er, mr, ev, af⟩
        cases ev
        exact af th H Ext.refl mr σ er
      · cases h
        refine PSi ps_continue fun D' σ H => ?_
        rintro ⟨th, om, ρ, m, f, ρ', m', er, mr, ev, af⟩
        cases ev
        exact af th H Ext.refl mr σ er
      · cases h
    · cases ss with
      | nil => cases h; exact PSsi pss_nil red_nil
      | cons s r =>
        obtain ⟨s', h1, h⟩ := opt_bind (show (trS gc n c s).bind (fun s' => (trSs gc n c r).bind fun r' => some (.cons s' r')) = some ss' from h)
        obtain ⟨r', h2, h⟩ := opt_bind h
        cases h
        exact PSsi (pss_cons (ihS c X s s' ok fn h1) (ihSs c X r r' ok fn h2)) red_cons
end
end Ky

namespace Ky
open PySem PySem.Spec PyProof.Rows L2

/-- a def of the text: its name, statement, names, parameters, term -/
structure Rc where
  x : Str
  st : Stmt
  N : List Str
  ps : List Str
  F : Fn
structure RcOk (gc : GC) (r : Rc) : Prop where
  tr : trSs gc 100 ⟨r.N, defScope r.st, fun _ => true⟩ (defBody r.st) = some r.F.body
  sc : FnScope r.N r.ps (defScope r.st)
  np : r.F.np = r.ps.length
  nl : r.F.nl = r.N.length
  bd : ∀ (kV doc pm : Value) (an : Option Addr) (cdv ct : Value) (us : List Value), us.length = r.ps.length → bindArgs (PySem.W.fnOf r.x r.x (defArgs r.st) (defBody r.st) (defScope r.st) .none kV doc pm an cdv ct) ⟨us, []⟩ = pure (r.ps.zip us)
/-- the f-th def of the text, at the address a -/
structure FDr (gc : GC) (g : G) (P : List Fn) (f : Nat) (a : Addr) (r : Rc) (fd : FuncData) : Prop where
  fn : Fun g.K r.x r.x r.st a fd
  ok : RcOk gc r
  at_ : P[f]? = some r.F
/-- what is known of the module -/
structure GOk (gc : GC) (g : G) (P : List Fn) (Pr : Program) (w : World) (mg : Str → Option Value) : Prop where
  blt : ∀ x ∈ gc.blts, mg x = none
  cst : ∀ x d, gc.consts.lookup x = some d → ∃ v u, mg x = some u ∧ RelV v u ∧ ∀ th om H, Rep g th om H v d
  tab : ∀ x t, gc.tabs.lookup x = some t → TabAt g Pr w g.K mg x t
  tabf : ∀ x t y f, gc.tabs.lookup x = some t → t.lookup y = some f → ∃ a, g.fa f = some a
  fnm : ∀ x f, idxN x gc.funs = some f → ∃ a, g.fa f = some a ∧ mg x = some (.ref a)
  fd : ∀ f a, g.fa f = some a → ∃ r fd, FDr gc g P f a r fd
theorem start_ok {g : G} {th om : List Addr} {H : Hp} {vs : List V} {ds : List D} {N : List Str} {nl : Nat} (hn : nl = N.length) (r : RepA g th om H vs ds) : EnvR g th om H (L2.start N vs) (startD nl ds) := by
  have hl := r.length
  subst hn
  refine ⟨by unfold L2.start startD; simp [hl], fun i d h => ?_⟩
  unfold startD at h
  by_cases hi : i < ds.length
  · rw [List.getElem?_append_left (by simpa using hi), List.getElem?_map] at h
    obtain ⟨d', h1, h2⟩ := Option.map_eq_some_iff.mp h
    cases h2
    obtain ⟨v, h3, h4⟩ := r.get h1
    refine ⟨v, ?_, h4⟩
    unfold L2.start
    rw [List.getElem?_append_left (by simpa [hl] using hi), List.getElem?_map, h3]
    rfl
  · rw [List.getElem?_append_right (by simpa using hi), List.getElem?_replicate] at h
    split at h <;> cases h
section
variable {gc : GC} {g : G} {P : List Fn} {Pr : Program} {w : World} {mg : Str → Option Value} {base : Heap}
theorem fn_all (hz : ZipR) (ok : GOk gc g P Pr w mg) : ∀ k f a r fd, FDr gc g P f a r fd → FnOk Pr w g.K mg base CX0 k a fd r.ps (spEv g P k f)
  | 0, f, a, r, fd, d => by
    refine ⟨fun vs H Q E q => ?_, fun A outer s H args us vs Q E _ _ _ _ q => ?_⟩
    · obtain ⟨th, om, m, ds, d, m', _, _, e, _⟩ := q
      cases e
    · obtain ⟨th, om, m, ds, d, m', _, _, e, _⟩ := q
      cases e
  | k + 1, f, a, r, fd, d => by
    have hP := d.at_
    refine d.fn.ok d.ok.sc (fun vs H Q E q => ?_) (fun cdv A outer s H vs Q E hr q => ?_)
    · obtain ⟨th, om, m, ds, d', m', mr, rs, e, af⟩ := q
      unfold callN at e
      rw [hP] at e
      simp only at e
      split at e
      · rename_i hl; rw [rs.length, hl, d.ok.np]
      · cases e
    · obtain ⟨th, om, m, ds, d', m', mr, rs, e, af⟩ := q
      unfold callN at e
      rw [hP] at e
      simp only at e
      split at e
      · have X : XOk gc g P k ⟨r.N, defScope r.st, fun _ => true⟩ (cxOf CX0 Pr w g.K mg base r.N r.x (defScope r.st) a cdv A outer s H E).nox :=
          ⟨rfl, rfl, fun _ _ => rfl, d.ok.sc.nd, rfl, rfl, rfl, d.ok.sc.kind, hr, ok.blt, ok.cst, ok.tab, ok.tabf, ok.fnm, fun f' a' h' => by
            obtain ⟨r', fd', d'⟩ := ok.fd f' a' h'
            exact ⟨d'.fn.kp, fd', r'.ps, d'.fn.binds d'.ok.bd, fn_all hz ok k f' a' r' fd' d'⟩⟩
        refine ⟨_, (sndS hz 100).2 _ _ _ _ X (fun _ => rfl) d.ok.tr, ?_⟩
        cases hev : evSs (callN P k) r.F.body (startD r.F.nl ds) m with
        | none => rw [hev] at e; cases e
        | some z =>
          obtain ⟨fl, ρ', m1⟩ := z
          rw [hev] at e
          refine ⟨th, om, _, m, fl, ρ', m1, start_ok d.ok.nl rs, mr, hev, fun th1 H1 x1 mr1 => ?_⟩
          cases fl with
          | nx => cases e; exact fun σ' _ => af .non th1 H1 x1 mr1 .non
          | rt d' => cases e; exact fun v rv => af v th1 H1 x1 mr1 rv
          | bk => cases e
          | ct => cases e
      · cases e
end
/-- the law's promise -/
def spLaw (K : PySem.W.Frag) : Sp := fun vs H Q _ => ∃ (a : Addr) (ns : List Int), vs = [.ref a] ∧ Only H ∧ SqL K H a (ns.map V.int) ∧ ns.length ≤ 63 ∧ ∀ H', Q (.bl true) H'
theorem law_imp {g : G} {P : List Fn} {k f : Nat} (math : ∀ ns : List Int, ns.length ≤ 63 → ∃ m', callN P k f [.scr (ns.map D.int)] [] = some (.bl true, m')) : ∀ vs H Q E, spLaw g.K vs H Q E → spEv g P k f vs H Q E := by
  rintro vs H Q E ⟨a, ns, rfl, hO, hS, hl, q⟩
  obtain ⟨m', e⟩ := math ns hl
  refine ⟨[], [], [], [.scr (ns.map D.int)], .bl true, m', ⟨rfl, List.nodup_nil, fun n a o h => by simp at h, fun a h => by simp at h, fun a h => by simp at h⟩, .cons (.scr ?_ (.ofInts ns)) .nil, e, fun v th' H' x r rv => ?_⟩
  · rcases hS with (h | h) | h
    · rcases hO a with z | ⟨o, xs, z⟩
      · rw [h] at z; cases z
      · rw [h] at z; cases z
    · exact .inl h
    · exact .inr h
  · cases rv; exact q H'
end Ky

namespace Ky
open PySem PySem.Spec PyProof.Rows L2

/-- an entry of a module's table: its word, its token, its def's address -/
structure Ent where
  x : Str
  t : Tok
  a : Addr
def Ent.ent (w : World) (e : Ent) : DictEntry := ⟨hashStr w e.x, .str e.x e.t, .ref e.a⟩
def Ent.kv (e : Ent) : Key × Value := (.inr e.x, .ref e.a)
theorem ents_pairs {Pr : Program} {w : World} : ∀ es : List Ent, Pairs (mixKind Pr w) (es.map (Ent.ent w)) (es.map Ent.kv)
  | [] => .nil
  | e :: es => .cons (keyIs_str e.x e.t) rfl (ents_pairs es)
theorem ents_val {y : Str} {a : Addr} : ∀ {es : List Ent}, (es.map fun e => (e.x, e.a)).lookup y = some a → valueAt (es.map Ent.kv) (Sum.inr y : Key) = some (.ref a)
  | [], h => by cases h
  | e :: es, h => by
    unfold valueAt
    rw [List.map_cons, List.find?_cons]
    rw [List.map_cons, List.lookup_cons] at h
    by_cases q : y = e.x
    · subst q
      simp only [beq_self_eq_true] at h
      cases h
      have : decide ((Ent.kv e).1 = (Sum.inr e.x : Key)) = true := decide_eq_true rfl
      rw [this]
      rfl
    · have q' : (y == e.x) = false := beq_eq_false_iff_ne.mpr q
      rw [q'] at h
      have : decide ((Ent.kv e).1 = (Sum.inr y : Key)) = false := decide_eq_false fun z => q (Sum.inr.inj z).symm
      rw [this]
      exact ents_val h
theorem tab_mk {g : G} {Pr : Program} {w : World} {mg : Str → Option Value} {x : Str} {a : Addr} {es : Array DictEntry} {ep : Nat} {ents : List Ent} {t : List (Str × Nat)} (hm : mg x = some (.ref a)) (hk : g.K.lookup a = some ⟨.type "dict", none, .dict es ep, #[]⟩)
    (he : es.toList = ents.map (Ent.ent w)) (nd : (ents.map (·.x)).Nodup) (ht : ∀ y f fa, t.lookup y = some f → g.fa f = some fa → (ents.map fun e => (e.x, e.a)).lookup y = some fa) : TabAt g Pr w g.K mg x t := by
  refine ⟨a, hm, ?_⟩
  intro X hP hw hK value slice pins s σ H y u f fa Q I ru e1 e2 q hs
  subst hP hw
  have hd : s.heap.DictOf (mixKind X.prog X.w) a (ents.map Ent.kv) := by
    refine ⟨_, es, ep, I.kIn a _ (by rw [hK]; exact hk), ⟨rfl, rfl, rfl⟩, rfl, ?_, by rw [he]; exact ents_pairs ents, ?_⟩
    · intro e hm
      have hm' : e ∈ ents.map (Ent.ent X.w) := by rw [← he]; simpa using hm
      obtain ⟨z, _, rfl⟩ := List.mem_map.mp hm'
      exact ⟨.inr z.x, keyIs_str z.x z.t, rfl⟩
    · rw [List.map_map]
      have : ((fun kv : Key × Value => kv.1) ∘ Ent.kv) = (fun z : Str => (Sum.inr z : Key)) ∘ (fun e : Ent => e.x) := rfl
      rw [this, ← List.map_map]
      exact List.pairwise_map.mpr (List.Pairwise.imp (fun h z => h (Sum.inr.inj z)) nd)
  have hv := ents_val (ht y f fa e1 e2)
  obtain ⟨tk, rfl⟩ := ru
  exact tail_any hd.typeIs PySem.slot_dict_getitem.lookup (wpAny_getItem_of (keyIs_str y tk) hd.mapOf hv ⟨.ref fa, H, I.tok _, rfl, q⟩) hs
end Ky

namespace Ky
open PySem PySem.Spec PyProof.Rows L2

def adr (K : PySem.W.Frag) (x : Str) : Option Addr := match PySem.W.nsIn K mainGlobals x with
  | some (some (.ref f)) => some f
  | _ => none
def gOf (K : PySem.W.Frag) (xs : List Str) : G := ⟨K, fun k => (xs[k]?).bind (adr K)⟩
/-- the def as the top has made it -/
def FnEx (K : PySem.W.Frag) (r : Rc) : Prop := ∃ f fd, PySem.W.nsIn K mainGlobals r.x = some (some (.ref f)) ∧ Fun K r.x r.x r.st f fd
theorem fn_ex {K : PySem.W.Frag} {r : Rc} {f : Addr} {oc : Value} {od an : Option Addr} {osl : Array (Option Value)} {kV doc pm cdv ct : Value} (a : PySem.W.nsIn K mainGlobals r.x = some (some (.ref f)))
    (l : K.lookup f = some ⟨oc, od, .func (PySem.W.fnOf r.x r.x (defArgs r.st) (defBody r.st) (defScope r.st) .none kV doc pm an cdv ct), osl⟩) (c : PySem.W.codeIn K cdv r.x = true) (k : PySem.W.keepIn K (.ref f) = true) : FnEx K r := ⟨f, _, a, fun_mk l c k⟩
/-- a table as the top has made it: the words, the defs' names -/
def TabEx (K : PySem.W.Frag) (w : World) (x : Str) (ys fs : List Str) : Prop := ∃ (a : Addr) (es : Array DictEntry) (ep : Nat) (ents : List Ent), PySem.W.nsIn K mainGlobals x = some (some (.ref a)) ∧ K.lookup a = some ⟨.type "dict", none, .dict es ep, #[]⟩ ∧ es.toList = ents.map (Ent.ent w) ∧ ents.map (·.x) = ys ∧ ents.map (fun e => some e.a) = fs.map (adr K)
theorem tab_ex {K : PySem.W.Frag} {w : World} {x : Str} {ys fs : List Str} {a : Addr} {es : Array DictEntry} {ep : Nat} {ents : List Ent} (h : PySem.W.nsIn K mainGlobals x = some (some (.ref a))) (l : K.lookup a = some ⟨.type "dict", none, .dict es ep, #[]⟩) (he : es.toList = ents.map (Ent.ent w)) (hy : ents.map (·.x) = ys) (hf : ents.map (fun e => some e.a) = fs.map (adr K)) : TabEx K w x ys fs := ⟨a, es, ep, ents, h, l, he, hy, hf⟩
theorem adr_of {K : PySem.W.Frag} {x : Str} {f : Addr} (h : PySem.W.nsIn K mainGlobals x = some (some (.ref f))) : adr K x = some f := by unfold adr; rw [h]
theorem adr_ns {K : PySem.W.Frag} {x : Str} {f : Addr} (h : adr K x = some f) : PySem.W.nsIn K mainGlobals x = some (some (.ref f)) := by
  unfold adr at h
  split at h
  · rename_i e; cases h; exact e
  · cases h
theorem lookup_names {y : Str} {fa : Addr} {f : Nat} {K : PySem.W.Frag} {xs : List Str} : ∀ {ents : List Ent} {t : List (Str × Nat)}, ents.map (·.x) = t.map (·.1) → ents.map (fun e => some e.a) = (t.map fun p => (xs[p.2]?).bind (adr K)) → t.lookup y = some f → (xs[f]?).bind (adr K) = some fa → (ents.map fun e => (e.x, e.a)).lookup y = some fa
  | [], [], _, _, h, _ => by cases h
  | [], _ :: _, h, _, _, _ => by cases h
  | _ :: _, [], h, _, _, _ => by cases h
  | e :: es, (z, n) :: t, h1, h2, h3, h4 => by
    rw [List.map_cons, List.map_cons] at h1 h2
    injection h1 with h1 h1'
    injection h2 with h2 h2'
    rw [List.lookup_cons] at h3
    rw [List.map_cons, List.lookup_cons]
    have h1 : e.x = z := h1
    rw [h1]
    cases q : y == z with
    | true =>
      rw [q] at h3
      cases h3
      have h2 : some e.a = (xs[f]?).bind (adr K) := h2
      rw [h4] at h2
      exact h2
    | false =>
      rw [q] at h3
      exact lookup_names h1' h2' h3 h4
theorem gok {gc : GC} {recs : List Rc} {K : PySem.W.Frag} {Pr : Program} {w : World} {mg : Str → Option Value} {h : Heap} (X : K.In h) (G : h.Ns mainGlobals mg) (hx : gc.funs = recs.map (·.x)) (hall : ∀ r ∈ recs, FnEx K r) (hok : ∀ r ∈ recs, RcOk gc r)
    (hb : ∀ x ∈ gc.blts, PySem.W.nsIn K mainGlobals x = some none) (hc : ∀ x d, gc.consts.lookup x = some d → ∃ i t, d = .int i ∧ PySem.W.nsIn K mainGlobals x = some (some (.int i t)))
    (ht : ∀ x t, gc.tabs.lookup x = some t → (t.map (·.1)).Nodup ∧ (∀ p ∈ t, p.2 < gc.funs.length) ∧ TabEx K w x (t.map (·.1)) (t.map fun p => gc.funs.getD p.2 "")) : GOk gc (gOf K gc.funs) (recs.map (·.F)) Pr w mg := by
  have get : ∀ {f : Nat} {x : Str}, gc.funs[f]? = some x → ∃ r, recs[f]? = some r ∧ r ∈ recs ∧ r.x = x := fun {f x} e => by
    rw [hx, List.getElem?_map] at e
    obtain ⟨r, h1, h2⟩ := Option.map_eq_some_iff.mp e
    exact ⟨r, h1, List.mem_of_getElem? h1, h2⟩
  refine ⟨fun x hx => PySem.W.mg_none_of X G (hb x hx), fun x d hd => ?_, fun x t hd => ?_, fun x t y f hd hy => ?_, fun x f hf => ?_, fun f a hf => ?_⟩
  · obtain ⟨i, t, rfl, e⟩ := hc x d hd
    exact ⟨.int i, _, PySem.W.mg_of X G e, ⟨t, rfl⟩, fun _ _ _ => .int i⟩
  · obtain ⟨nd, hr, a, es, ep, ents, e1, e2, e3, e4, e5⟩ := ht x t hd
    refine tab_mk (g := gOf K gc.funs) (PySem.W.mg_of X G e1) e2 e3 (by rw [e4]; exact nd) fun y f fa h1 h2 => ?_
    refine lookup_names (xs := gc.funs) e4 (e5.trans ?_) h1 h2
    rw [List.map_map]
    refine List.map_congr_left fun p hp => ?_
    show adr K (gc.funs.getD p.2 "") = (gc.funs[p.2]?).bind (adr K)
    rw [List.getD_eq_getElem?_getD, List.getElem?_eq_getElem (hr p hp)]
    rfl
  · obtain ⟨nd, hr, _⟩ := ht x t hd
    have hm : (y, f) ∈ t := PySem.mem_of_lookup hy
    have hl := hr _ hm
    obtain ⟨r, h1, h2, h3⟩ := get (List.getElem?_eq_getElem hl)
    obtain ⟨fa, fd, h4, _⟩ := hall r h2
    refine ⟨fa, ?_⟩
    show (gc.funs[f]?).bind (adr K) = some fa
    rw [List.getElem?_eq_getElem hl, ← h3]
    exact adr_of h4
  · have e := idxN_some hf
    obtain ⟨r, h1, h2, h3⟩ := get e
    obtain ⟨fa, fd, h4, _⟩ := hall r h2
    rw [h3] at h4
    refine ⟨fa, ?_, PySem.W.mg_of X G h4⟩
    show (gc.funs[f]?).bind (adr K) = some fa
    rw [e]
    exact adr_of h4
  · have hf' : (gc.funs[f]?).bind (adr K) = some a := hf
    obtain ⟨x, h1, h2⟩ := Option.bind_eq_some_iff.mp hf'
    obtain ⟨r, h3, h4, h5⟩ := get h1
    obtain ⟨fa, fd, h6, h7⟩ := hall r h4
    have e : fa = a := by
      rw [h5] at h6
      have := adr_of h6
      rw [h2] at this
      exact (Option.some.inj this).symm
    subst e
    exact ⟨r, fd, h7, hok r h4, by rw [List.getElem?_map, h3]; rfl⟩
theorem ent_cons {w : World} {es : List DictEntry} {ents : List Ent} {x : Str} {t : Tok} {a : Addr} (h : es = ents.map (Ent.ent w)) : (⟨PyData.keyHash w.params x, .str x t, .ref a⟩ : DictEntry) :: es = List.map (Ent.ent w) (⟨x, t, a⟩ :: ents) := by rw [h]; rfl
theorem ent_nil {w : World} : ([] : List DictEntry) = List.map (Ent.ent w) [] := rfl
theorem adr_cons {K : PySem.W.Frag} {x : Str} {a : Addr} {l l' : List (Option Addr)} (h : PySem.W.nsIn K mainGlobals x = some (some (.ref a))) (e : l = l') : some a :: l = adr K x :: l' := by rw [adr_of h, e]
theorem int_ex {K : PySem.W.Frag} {x : Str} {i : Int} {t : _} (a : PySem.W.nsIn K mainGlobals x = some (some (.int i t))) : ∃ t, PySem.W.nsIn K mainGlobals x = some (some (.int i t)) := ⟨t, a⟩
/-- the law's own def, from the evaluator's answer -/
theorem law_fn {gc : GC} {recs : List Rc} {K : PySem.W.Frag} {Pr : Program} {w : World} {mg : Str → Option Value} {fa : Addr} {f k : Nat} {x : Str} {r : Rc} (ok : GOk gc (gOf K gc.funs) (recs.map (·.F)) Pr w mg) (hr : recs[f]? = some r) (hps : r.ps = [x]) (hall : FnEx K r) (hok : RcOk gc r) (hm : mg r.x = some (.ref fa)) {h : Heap} (X : K.In h) (G : h.Ns mainGlobals mg)
    (math : ∀ ns : List Int, ns.length ≤ 63 → ∃ m', callN (recs.map (·.F)) k f [.scr (ns.map D.int)] [] = some (.bl true, m')) :
    ∃ fd : FuncData, (∀ (s : Shared) (u : Value), BindsTo s fd ⟨[u], []⟩ [(x, u)]) ∧ ∀ base : Heap, FnOk Pr w K mg base CX0 k fa fd [x] (spLaw K) := by
  obtain ⟨f', fd, h1, h2⟩ := hall
  have e : f' = fa := by
    have := PySem.W.mg_of X G h1
    rw [hm] at this
    injection this with this
    injection this with this
    exact this.symm
  subst e
  refine ⟨fd, fun s u => ?_, fun base => ?_⟩
  · obtain ⟨oc, od, kV, doc, pm, an, cdv, ct, osl, rfl, lk, hcd⟩ := h2.ex
    have := hok.bd kV doc pm an cdv ct [u] (by rw [hps]; rfl)
    rw [hps] at this
    exact .of_eq this
  · have d : FDr gc (gOf K gc.funs) (recs.map (·.F)) f f' r fd := ⟨h2, hok, by rw [List.getElem?_map, hr]; rfl⟩
    have F := fn_all (base := base) zipR ok k f f' r fd d
    rw [hps] at F
    exact F.imp (law_imp (g := gOf K gc.funs) math)
end Ky

namespace Ky
open PySem L2
/-! ### single steps, each with its continuation named -/
variable {Φ : Cal} {ρ ρ1 ρ2 : Env} {m m1 m2 m3 : M}
theorem e_var {i : Nat} {d : D} (h : ρ[i]? = some (some d)) : evE Φ (.var i) ρ m = some (d, m) := by simp only [evE, h]
theorem e_op1 {o : U} {a : E} {x : D} {r : R D} (h : evE Φ a ρ m = some (x, m1)) (h2 : u1 o x m1 = r) : evE Φ (.op1 o a) ρ m = r := by simp only [evE, h, bnd]; exact h2
theorem e_op2 {o : B} {a b : E} {x y : D} {r : R D} (h : evE Φ a ρ m = some (x, m1)) (h1 : evE Φ b ρ m1 = some (y, m2)) (h2 : b2 o x y m2 = r) : evE Φ (.op2 o a b) ρ m = r := by simp only [evE, h, h1, bnd]; exact h2
theorem e_ite_t {t : T} {a b : E} {r : R D} (h : evT Φ t ρ m = some (true, m1)) (h2 : evE Φ a ρ m1 = r) : evE Φ (.ite t a b) ρ m = r := by simp only [evE, h, bnd, if_true]; exact h2
theorem e_ite_f {t : T} {a b : E} {r : R D} (h : evT Φ t ρ m = some (false, m1)) (h2 : evE Φ b ρ m1 = r) : evE Φ (.ite t a b) ρ m = r := by simp only [evE, h, bnd, Bool.false_eq_true, if_false]; exact h2
theorem e_tup {es : Es} {xs : List D} (h : evEs Φ es ρ m = some (xs, m1)) (hl : xs.length ≤ big) : evE Φ (.tup es) ρ m = some (.tup xs, m1) := by simp only [evE, h, bnd, if_pos hl]
theorem e_lst {es : Es} {xs : List D} (h : evEs Φ es ρ m = some (xs, m1)) (hl : xs.length ≤ big) : evE Φ (.lst es) ρ m = some (.lst xs, m1) := by simp only [evE, h, bnd, if_pos hl]
theorem e_callF {f : Nat} {es : Es} {xs : List D} {r : R D} (h : evEs Φ es ρ m = some (xs, m1)) (h2 : Φ f xs m1 = r) : evE Φ (.callF f es) ρ m = r := by simp only [evE, h, bnd]; exact h2
theorem e_callV {i f : Nat} {es : Es} {xs : List D} {r : R D} (hv : ρ[i]? = some (some (.fn f))) (h : evEs Φ es ρ m = some (xs, m1)) (h2 : Φ f xs m1 = r) : evE Φ (.callV i es) ρ m = r := by simp only [evE, hv, h, bnd]; exact h2
theorem e_lc {own : List Nat} {it : I} {tg : Tg} {t : T} {elt : E} {s : Src} {r : R D} (h : evI Φ it ρ m = some (s, m1)) (h2 : compL (fun ρ m => evT Φ t ρ m) (fun ρ m => evE Φ elt ρ m) tg (wipeD ρ own) s s.its m1 [] = r) : evE Φ (.lc own it tg t elt) ρ m = r := by simp only [evE, h, bnd]; exact h2
theorem es_nil : evEs Φ .nil ρ m = some ([], m) := by simp only [evEs]
theorem es_cons {e : E} {r : Es} {x : D} {xs : List D} (h : evE Φ e ρ m = some (x, m1)) (h2 : evEs Φ r ρ m1 = some (xs, m2)) : evEs Φ (.cons e r) ρ m = some (x :: xs, m2) := by simp only [evEs, h, h2, bnd]
theorem t_val {e : E} {x : D} {b : Bool} (h : evE Φ e ρ m = some (x, m1)) (h2 : truD m1 x = some b) : evT Φ (.val e) ρ m = some (b, m1) := by simp only [evT, h, bnd, h2, Option.map_some]
theorem t_not {t : T} {b : Bool} (h : evT Φ t ρ m = some (b, m1)) : evT Φ (.not_ t) ρ m = some (!b, m1) := by simp only [evT, h, bnd]
theorem t_and_f {s t : T} (h : evT Φ s ρ m = some (false, m1)) : evT Φ (.and_ s t) ρ m = some (false, m1) := by simp only [evT, h, bnd, Bool.false_eq_true, if_false]
theorem t_and_t {s t : T} {r : R Bool} (h : evT Φ s ρ m = some (true, m1)) (h2 : evT Φ t ρ m1 = r) : evT Φ (.and_ s t) ρ m = r := by simp only [evT, h, bnd, if_true]; exact h2
theorem s_set {i : Nat} {e : E} {x : D} (h : evE Φ e ρ m = some (x, m1)) : evS Φ (.set i e) ρ m = some (.nx, ρ.set i (some x), m1) := by simp only [evS, h, bnd]
theorem s_expr {e : E} {x : D} (h : evE Φ e ρ m = some (x, m1)) : evS Φ (.expr e) ρ m = some (.nx, ρ, m1) := by simp only [evS, h, bnd]
theorem s_par {i j : Nat} {a b : E} {x y : D} (h : evE Φ a ρ m = some (x, m1)) (h2 : evE Φ b ρ m1 = some (y, m2)) : evS Φ (.par i j a b) ρ m = some (.nx, (ρ.set i (some x)).set j (some y), m2) := by simp only [evS, h, h2, bnd]
theorem s_ret {e : E} {x : D} (h : evE Φ e ρ m = some (x, m1)) : evS Φ (.ret e) ρ m = some (.rt x, ρ, m1) := by simp only [evS, h, bnd]
theorem s_if_t {t : T} {a b : Ss} {r : Option (Fl × Env × M)} (h : evT Φ t ρ m = some (true, m1)) (h2 : evSs Φ a ρ m1 = r) : evS Φ (.ife t a b) ρ m = r := by simp only [evS, h, bnd, if_true]; exact h2
theorem s_if_f {t : T} {a b : Ss} {r : Option (Fl × Env × M)} (h : evT Φ t ρ m = some (false, m1)) (h2 : evSs Φ b ρ m1 = r) : evS Φ (.ife t a b) ρ m = r := by simp only [evS, h, bnd, Bool.false_eq_true, if_false]; exact h2
theorem s_for {it : I} {tg : Tg} {b : Ss} {s : Src} {r : Option (Fl × Env × M)} (h : evI Φ it ρ m = some (s, m1)) (h2 : loopF (fun ρ m => evSs Φ b ρ m) tg s s.its ρ m1 = r) : evS Φ (.for_ it tg b) ρ m = r := by simp only [evS, h, bnd]; exact h2
theorem ss_nil : evSs Φ .nil ρ m = some (.nx, ρ, m) := by simp only [evSs]
theorem ss_nx {s : S} {r : Ss} {z : Option (Fl × Env × M)} (h : evS Φ s ρ m = some (.nx, ρ1, m1)) (h2 : evSs Φ r ρ1 m1 = z) : evSs Φ (.cons s r) ρ m = z := by simp only [evSs, h]; exact h2
theorem ss_rt {s : S} {r : Ss} {d : D} (h : evS Φ s ρ m = some (.rt d, ρ1, m1)) : evSs Φ (.cons s r) ρ m = some (.rt d, ρ1, m1) := by simp only [evSs, h]
theorem i_val_t {e : E} {xs : List D} (h : evE Φ e ρ m = some (.tup xs, m1)) : evI Φ (.val e) ρ m = some (⟨xs, none⟩, m1) := by simp only [evI, h, bnd]
theorem i_val_l {e : E} {xs : List D} (h : evE Φ e ρ m = some (.lst xs, m1)) : evI Φ (.val e) ρ m = some (⟨xs, none⟩, m1) := by simp only [evI, h, bnd]
theorem i_rng {a : E} {j : Int} (h : evE Φ a ρ m = some (.int j, m1)) (h2 : fitR j = true) : evI Φ (.rng a) ρ m = some (⟨rngD 0 j, none⟩, m1) := by simp only [evI, h, bnd, h2, if_true]
theorem i_zip_t {a b : E} {xs ys : List D} (h : evE Φ a ρ m = some (.tup xs, m1)) (h2 : evE Φ b ρ m1 = some (.tup ys, m2)) : evI Φ (.zip a b) ρ m = some (⟨pairsD xs ys, none⟩, m2) := by simp only [evI, h, h2, bnd]
theorem fin_rt {r : Option (Fl × Env × M)} {d : D} (h : r = some (.rt d, ρ, m)) : fin r = some (d, m) := by rw [h]; rfl
/-! ### loops -/
theorem compL_map {α : Type} {test : Env → M → R Bool} {elt : Env → M → R D} {tg : Tg} {s : Src} (hs : s.hd = none) (g f : α → D) : ∀ (as : List α) (acc : List D), acc.length + as.length ≤ big → (∀ a ∈ as, ∃ ρ1, st tg (g a) ρ = some ρ1 ∧ test ρ1 m = some (true, m) ∧ elt ρ1 m = some (f a, m)) → compL test elt tg ρ s (as.map g) m acc = some (.lst (acc ++ as.map f), m)
  | [], acc, _, _ => by simp only [List.map_nil, compL, Src.ok, hs, if_true, List.append_nil]
  | a :: as, acc, hl, h => by
    obtain ⟨ρ1, h1, h2, h3⟩ := h a (List.mem_cons_self ..)
    have hl' : acc.length + (as.length + 1) ≤ big := hl
    have ih := compL_map hs g f as (acc ++ [f a]) (by simp only [List.length_append, List.length_singleton]; omega) fun b hb => h b (List.mem_cons_of_mem _ hb)
    simp only [List.map_cons, compL, Src.ok, hs, if_true, h1, Option.bind_some, h2, h3, bnd]
    rw [if_pos (by omega), ih]
    simp only [List.append_assoc, List.singleton_append]
/-- the list that a comprehension over drawn things builds: mT t is the store after t draws -/
theorem compL_draw {test : Env → M → R Bool} {elt : Env → M → R D} {tg : Tg} {s : Src} (hs : s.hd = none) (mT : Nat → M) {β : Type} (f : β → D) (c B : Nat) : ∀ (xs acc : List D) (t : Nat), t + c * xs.length ≤ B → acc.length + xs.length ≤ big → (∀ x ∈ xs, ∃ ρ1, st tg x ρ = some ρ1 ∧ (∀ m, test ρ1 m = some (true, m)) ∧ ∀ t, t + c ≤ B → ∃ b t', t' ≤ t + c ∧ elt ρ1 (mT t) = some (f b, mT t')) → ∃ (bs : List β) (t' : Nat), bs.length = xs.length ∧ t' ≤ t + c * xs.length ∧ compL test elt tg ρ s xs (mT t) acc = some (.lst (acc ++ bs.map f), mT t')
  | [], acc, t, _, _, _ => ⟨[], t, rfl, Nat.le_add_right .., by simp only [List.map_nil, compL, Src.ok, hs, if_true, List.append_nil]⟩
  | x :: xs, acc, t, hB, hl, h => by
    obtain ⟨ρ1, h1, h2, h3⟩ := h x (List.mem_cons_self ..)
    have hB' : t + c * (xs.length + 1) ≤ B := hB
    have hl' : acc.length + (xs.length + 1) ≤ big := hl
    rw [Nat.mul_add] at hB'
    obtain ⟨b, t1, ht, he⟩ := h3 t (by omega)
    obtain ⟨bs, t', hb, ht', e⟩ := compL_draw hs mT f c B xs (acc ++ [f b]) t1 (by omega) (by simp only [List.length_append, List.length_singleton]; omega) fun y hy => h y (List.mem_cons_of_mem _ hy)
    refine ⟨b :: bs, t', by simp only [List.length_cons, hb], by simp only [List.length_cons, Nat.mul_add]; omega, ?_⟩
    simp only [compL, Src.ok, hs, if_true, h1, Option.bind_some, h2, he, bnd]
    rw [if_pos (by omega), e]
    simp only [List.append_assoc, List.singleton_append, List.map_cons]
theorem loopF_inv {body : Env → M → Option (Fl × Env × M)} {tg : Tg} {s : Src} (hs : s.hd = none) (I : Nat → Env → M → Prop) : ∀ (xs : List D) (i : Nat) (ρ : Env) (m : M), I i ρ m → (∀ x ∈ xs, ∀ j, i ≤ j → j < i + xs.length → ∀ ρ m, I j ρ m → ∃ ρ1 ρ2 m2, st tg x ρ = some ρ1 ∧ body ρ1 m = some (.nx, ρ2, m2) ∧ I (j + 1) ρ2 m2) → ∃ ρ' m', loopF body tg s xs ρ m = some (.nx, ρ', m') ∧ I (i + xs.length) ρ' m'
  | [], i, ρ, m, h, _ => ⟨ρ, m, by simp only [loopF, Src.ok, hs, if_true], h⟩
  | x :: xs, i, ρ, m, h, H => by
    obtain ⟨ρ1, ρ2, m2, h1, h2, h3⟩ := H x (List.mem_cons_self ..) i (Nat.le_refl _) (by simp only [List.length_cons]; omega) ρ m h
    obtain ⟨ρ', m', h4, h5⟩ := loopF_inv hs I xs (i + 1) ρ2 m2 h3 fun y hy j hj hj2 => H y (List.mem_cons_of_mem _ hy) j (by omega) (by simp only [List.length_cons]; omega)
    refine ⟨ρ', m', ?_, by simpa only [List.length_cons, Nat.add_assoc, Nat.add_comm 1] using h5⟩
    simp only [loopF, Src.ok, hs, if_true, h1, Option.bind_some, h2]
    exact h4
/-! ### plain facts -/
theorem pairsD_self : ∀ xs : List D, pairsD xs xs = xs.map fun x => .tup [x, x]
  | [] => rfl
  | x :: xs => by simp only [pairsD, pairsD_self xs, List.map_cons]
theorem rngD_len (j : Nat) : (rngD 0 (j : Int)).length = j := by simp [rngD]
theorem rngD_len' {j : Int} (h : 0 ≤ j) : (rngD 0 j).length = j.toNat := by simp [rngD]
end Ky

namespace K02
open PySem PySem.Spec PyProof.Rows L2 Ky
def top (i : Nat) : Stmt := PySem.Challenge.pw_keyorders_k02_whole_what_rows_tell.main.body.getD i (.Pass ⟨0, 0, 0, 0⟩)
def tab_TELLERS : List (Str × Nat) := [("up", 1), ("part", 2), ("rest", 3), ("table", 4), ("among", 5), ("sum", 6), ("gap", 7), ("most", 8)]
def gc : GC := ⟨["worth_in", "up_tells", "part_tells", "rest_tells", "table_tells", "among_tells", "sum_tells", "gap_tells", "most_tells", "key_tells", "worths", "compared", "told", "turned_key", "turned", "all_things", "_law_same", "_law_draw", "_law_pick", "_law_plain", "_law_key", "_law_keys", "_law_thing", "_law_worth", "_law_worths", "_law_word", "law"], [("WORTHS", .int 6)], [("TELLERS", tab_TELLERS)], ["abs", "all", "bool", "int", "isinstance", "len", "list", "max", "range", "sorted", "str", "tuple", "zip"]⟩
/-- worth_in -/
def fb0 : Ss := (.cons (.ret (.ite (.val (.chain .le .lt (.cst (.int 0)) (.var 1) (.op1 .len (.var 0)))) (.op2 .ix (.var 0) (.var 1)) (.cst (.int 0)))) .nil)
def fN0 : List Str := ["thing", "field"]
def fp0 : List Str := ["thing", "field"]
def fn0 : Fn := ⟨2, 2, fb0⟩
/-- up_tells -/
def fb1 : Ss := (.cons (.ret (.callF 0 (.cons (.var 1) (.cons (.op2 .ix (.var 0) (.cst (.int 1))) .nil)))) .nil)
def fN1 : List Str := ["key", "thing"]
def fp1 : List Str := ["key", "thing"]
def fn1 : Fn := ⟨2, 2, fb1⟩
/-- part_tells -/
def fb2 : Ss := (.cons (.ret (.ite (.val (.op2 .ne (.op2 .ix (.var 0) (.cst (.int 2))) (.cst (.int 0)))) (.op2 .fdiv (.callF 0 (.cons (.var 1) (.cons (.op2 .ix (.var 0) (.cst (.int 1))) .nil))) (.op2 .ix (.var 0) (.cst (.int 2)))) (.cst (.int 0)))) .nil)
def fN2 : List Str := ["key", "thing"]
def fp2 : List Str := ["key", "thing"]
def fn2 : Fn := ⟨2, 2, fb2⟩
/-- rest_tells -/
def fb3 : Ss := (.cons (.ret (.ite (.val (.op2 .ne (.op2 .ix (.var 0) (.cst (.int 2))) (.cst (.int 0)))) (.op2 .mod (.callF 0 (.cons (.var 1) (.cons (.op2 .ix (.var 0) (.cst (.int 1))) .nil))) (.op2 .ix (.var 0) (.cst (.int 2)))) (.callF 0 (.cons (.var 1) (.cons (.op2 .ix (.var 0) (.cst (.int 1))) .nil))))) .nil)
def fN3 : List Str := ["key", "thing"]
def fp3 : List Str := ["key", "thing"]
def fn3 : Fn := ⟨2, 2, fb3⟩
/-- table_tells -/
def fb4 : Ss := (.cons (.set 2 (.callF 0 (.cons (.var 1) (.cons (.op2 .ix (.var 0) (.cst (.int 1))) .nil)))) (.cons (.ret (.ite (.val (.op2 .isin (.var 2) (.op2 .ix (.var 0) (.cst (.int 2))))) (.op2 .index (.op2 .ix (.var 0) (.cst (.int 2))) (.var 2)) (.op1 .len (.op2 .ix (.var 0) (.cst (.int 2)))))) .nil))
def fN4 : List Str := ["key", "thing", "worth"]
def fp4 : List Str := ["key", "thing"]
def fn4 : Fn := ⟨2, 3, fb4⟩
/-- among_tells -/
def fb5 : Ss := (.cons (.ret (.ite (.val (.op2 .isin (.callF 0 (.cons (.var 1) (.cons (.op2 .ix (.var 0) (.cst (.int 1))) .nil))) (.op2 .ix (.var 0) (.cst (.int 2))))) (.cst (.int 0)) (.cst (.int 1)))) .nil)
def fN5 : List Str := ["key", "thing"]
def fp5 : List Str := ["key", "thing"]
def fn5 : Fn := ⟨2, 2, fb5⟩
/-- sum_tells -/
def fb6 : Ss := (.cons (.ret (.op2 .add (.callF 0 (.cons (.var 1) (.cons (.op2 .ix (.var 0) (.cst (.int 1))) .nil))) (.callF 0 (.cons (.var 1) (.cons (.op2 .ix (.var 0) (.cst (.int 2))) .nil))))) .nil)
def fN6 : List Str := ["key", "thing"]
def fp6 : List Str := ["key", "thing"]
def fn6 : Fn := ⟨2, 2, fb6⟩
/-- gap_tells -/
def fb7 : Ss := (.cons (.ret (.op1 .abs (.op2 .sub (.callF 0 (.cons (.var 1) (.cons (.op2 .ix (.var 0) (.cst (.int 1))) .nil))) (.callF 0 (.cons (.var 1) (.cons (.op2 .ix (.var 0) (.cst (.int 2))) .nil)))))) .nil)
def fN7 : List Str := ["key", "thing"]
def fp7 : List Str := ["key", "thing"]
def fn7 : Fn := ⟨2, 2, fb7⟩
/-- most_tells -/
def fb8 : Ss := (.cons (.ret (.op2 .max (.callF 0 (.cons (.var 1) (.cons (.op2 .ix (.var 0) (.cst (.int 1))) .nil))) (.callF 0 (.cons (.var 1) (.cons (.op2 .ix (.var 0) (.cst (.int 2))) .nil))))) .nil)
def fN8 : List Str := ["key", "thing"]
def fp8 : List Str := ["key", "thing"]
def fn8 : Fn := ⟨2, 2, fb8⟩
/-- key_tells -/
def fb9 : Ss := (.cons (.ife (.val (.op2 .eq (.op2 .ix (.var 0) (.cst (.int 0))) (.cst (.str "down")))) (.cons (.ret (.op1 .neg (.callF 9 (.cons (.op2 .ix (.var 0) (.cst (.int 1))) (.cons (.var 1) .nil))))) .nil) .nil) (.cons (.set 2 (.op1 (.tab tab_TELLERS) (.op2 .ix (.var 0) (.cst (.int 0))))) (.cons (.ret (.callV 2 (.cons (.var 0) (.cons (.var 1) .nil)))) .nil)))
def fN9 : List Str := ["key", "thing", "teller"]
def fp9 : List Str := ["key", "thing"]
def fn9 : Fn := ⟨2, 3, fb9⟩
/-- worths -/
def fb10 : Ss := (.cons (.ret (.op1 .tuple (.lc [2] (.val (.var 0)) (.name 2) .yes (.callF 9 (.cons (.var 2) (.cons (.var 1) .nil)))))) .nil)
def fN10 : List Str := ["row", "thing", "key"]
def fp10 : List Str := ["row", "thing"]
def fn10 : Fn := ⟨2, 3, fb10⟩
/-- compared -/
def fb11 : Ss := (.cons (.ife (.val (.op2 .lt (.var 0) (.var 1))) (.cons (.ret (.op1 .neg (.cst (.int 1)))) .nil) .nil) (.cons (.ife (.val (.op2 .gt (.var 0) (.var 1))) (.cons (.ret (.cst (.int 1))) .nil) .nil) (.cons (.ret (.cst (.int 0))) .nil)))
def fN11 : List Str := ["one", "other"]
def fp11 : List Str := ["one", "other"]
def fn11 : Fn := ⟨2, 2, fb11⟩
/-- told -/
def fb12 : Ss := (.cons (.ret (.callF 11 (.cons (.callF 10 (.cons (.var 0) (.cons (.var 1) .nil))) (.cons (.callF 10 (.cons (.var 0) (.cons (.var 2) .nil))) .nil)))) .nil)
def fN12 : List Str := ["row", "one", "other"]
def fp12 : List Str := ["row", "one", "other"]
def fn12 : Fn := ⟨3, 3, fb12⟩
/-- turned_key -/
def fb13 : Ss := (.cons (.ret (.ite (.val (.op2 .eq (.op2 .ix (.var 0) (.cst (.int 0))) (.cst (.str "down")))) (.op2 .ix (.var 0) (.cst (.int 1))) (.tup (.cons (.cst (.str "down")) (.cons (.var 0) .nil))))) .nil)
def fN13 : List Str := ["key"]
def fp13 : List Str := ["key"]
def fn13 : Fn := ⟨1, 1, fb13⟩
/-- turned -/
def fb14 : Ss := (.cons (.ret (.op1 .tuple (.lc [1] (.val (.var 0)) (.name 1) .yes (.callF 13 (.cons (.var 1) .nil))))) .nil)
def fN14 : List Str := ["row", "key"]
def fp14 : List Str := ["row"]
def fn14 : Fn := ⟨1, 2, fb14⟩
/-- all_things -/
def fb15 : Ss := (.cons (.set 0 (.op1 .lrng (.cst (.int 6)))) (.cons (.ret (.op1 .tuple (.lc3 [1, 2, 3] (.val (.var 0)) 1 (.val (.var 0)) 2 (.val (.var 0)) 3 (.tup (.cons (.var 1) (.cons (.var 2) (.cons (.var 3) .nil))))))) .nil))
def fN15 : List Str := ["worth_range", "a", "b", "c"]
def fp15 : List Str := []
def fn15 : Fn := ⟨0, 4, fb15⟩
/-- _law_same -/
def fb16 : Ss := (.cons (.ife (.val (.op1 .isN (.var 1))) (.cons (.ret (.op1 .isN (.var 0))) .nil) .nil) (.cons (.ife (.val (.op1 (.isI .bool) (.var 1))) (.cons (.ret (.andV (.op1 (.isI .bool) (.var 0)) (.op2 .eq (.var 0) (.var 1)))) .nil) .nil) (.cons (.ife (.val (.op1 (.isI .tuple) (.var 1))) (.cons (.ife (.or_ (.not_ (.val (.op1 (.isI .tuple) (.var 0)))) (.val (.op2 .ne (.op1 .len (.var 0)) (.op1 .len (.var 1))))) (.cons (.ret (.cst (.bl false))) .nil) .nil) (.cons (.ret (.op1 .all (.lc [2, 3] (.zip (.var 0) (.var 1)) (.tup [2, 3]) .yes (.callF 16 (.cons (.var 2) (.cons (.var 3) .nil)))))) .nil)) .nil) (.cons (.ife (.val (.op1 (.isI .str) (.var 1))) (.cons (.ret (.andV (.op1 (.isI .str) (.var 0)) (.op2 .eq (.var 0) (.var 1)))) .nil) .nil) (.cons (.ret (.andV (.op1 (.isI .int) (.var 0)) (.andV (.notV (.op1 (.isI .bool) (.var 0))) (.op2 .eq (.var 0) (.var 1))))) .nil)))))
def fN16 : List Str := ["_law_got", "_law_due", "_law_one", "_law_other"]
def fp16 : List Str := ["_law_got", "_law_due"]
def fn16 : Fn := ⟨2, 4, fb16⟩
/-- _law_draw -/
def fb17 : Ss := (.cons (.expr (.op2 .append (.var 1) (.cst (.int 0)))) (.cons (.set 3 (.op1 .len (.var 1))) (.cons (.set 4 (.cst (.int 0))) (.cons (.ife (.val (.var 0)) (.cons (.set 4 (.op2 .ix (.var 0) (.op2 .mod (.var 3) (.op1 .len (.var 0))))) .nil) .nil) (.cons (.set 5 (.op2 .mod (.op2 .add (.var 4) (.op2 .mul (.cst (.int 104729)) (.var 3))) (.cst (.int 4294967291)))) (.cons (.set 5 (.op2 .mod (.op2 .mul (.op2 .mod (.op2 .mul (.var 5) (.var 5)) (.cst (.int 4294967279))) (.cst (.int 48271))) (.cst (.int 4294967291)))) (.cons (.ret (.op2 .mod (.op2 .fdiv (.var 5) (.cst (.int 64))) (.var 2))) .nil)))))))
def fN17 : List Str := ["_law_script", "_law_town", "_law_many", "_law_k", "_law_cell", "_law_number"]
def fp17 : List Str := ["_law_script", "_law_town", "_law_many"]
def fn17 : Fn := ⟨3, 6, fb17⟩
/-- _law_pick -/
def fb18 : Ss := (.cons (.ret (.op2 .ix (.var 2) (.callF 17 (.cons (.var 0) (.cons (.var 1) (.cons (.op1 .len (.var 2)) .nil)))))) .nil)
def fN18 : List Str := ["_law_script", "_law_town", "_law_some"]
def fp18 : List Str := ["_law_script", "_law_town", "_law_some"]
def fn18 : Fn := ⟨3, 3, fb18⟩
/-- _law_plain -/
def fb19 : Ss := (.cons (.set 2 (.callF 17 (.cons (.var 0) (.cons (.var 1) (.cons (.cst (.int 9)) .nil))))) (.cons (.set 3 (.callF 17 (.cons (.var 0) (.cons (.var 1) (.cons (.cst (.int 3)) .nil))))) (.cons (.ife (.val (.op2 .lt (.var 2) (.cst (.int 2)))) (.cons (.ret (.tup (.cons (.cst (.str "up")) (.cons (.var 3) .nil)))) .nil) .nil) (.cons (.ife (.val (.op2 .lt (.var 2) (.cst (.int 4)))) (.cons (.ret (.tup (.cons (.op2 .ix (.lst (.cons (.cst (.str "part")) (.cons (.cst (.str "rest")) .nil))) (.op2 .sub (.var 2) (.cst (.int 2)))) (.cons (.var 3) (.cons (.op2 .add (.cst (.int 2)) (.callF 17 (.cons (.var 0) (.cons (.var 1) (.cons (.cst (.int 2)) .nil))))) .nil))))) .nil) .nil) (.cons (.ife (.val (.op2 .lt (.var 2) (.cst (.int 6)))) (.cons (.set 5 (.tup .nil)) (.cons (.for_ (.rng (.op2 .add (.cst (.int 1)) (.callF 17 (.cons (.var 0) (.cons (.var 1) (.cons (.cst (.int 4)) .nil)))))) (.name 6) (.cons (.set 7 (.callF 17 (.cons (.var 0) (.cons (.var 1) (.cons (.cst (.int 6)) .nil))))) (.cons (.ife (.val (.op2 .notin (.var 7) (.var 5))) (.cons (.set 5 (.op2 .add (.var 5) (.tup (.cons (.var 7) .nil)))) .nil) .nil) .nil))) (.cons (.ret (.ite (.val (.op2 .eq (.var 2) (.cst (.int 4)))) (.tup (.cons (.cst (.str "table")) (.cons (.var 3) (.cons (.var 5) .nil)))) (.tup (.cons (.cst (.str "among")) (.cons (.var 3) (.cons (.op1 .tuple (.op1 .sorted (.var 5))) .nil)))))) .nil))) .nil) (.cons (.set 4 (.callF 18 (.cons (.var 0) (.cons (.var 1) (.cons (.lst (.cons (.tup (.cons (.cst (.int 0)) (.cons (.cst (.int 1)) .nil))) (.cons (.tup (.cons (.cst (.int 0)) (.cons (.cst (.int 2)) .nil))) (.cons (.tup (.cons (.cst (.int 1)) (.cons (.cst (.int 2)) .nil))) .nil)))) .nil))))) (.cons (.ret (.op2 .add (.tup (.cons (.op2 .ix (.lst (.cons (.cst (.str "sum")) (.cons (.cst (.str "gap")) (.cons (.cst (.str "most")) .nil)))) (.op2 .sub (.var 2) (.cst (.int 6)))) .nil)) (.var 4))) .nil)))))))
def fN19 : List Str := ["_law_script", "_law_town", "_law_kind", "_law_at", "_law_pair", "_law_some", "_law_k", "_law_one"]
def fp19 : List Str := ["_law_script", "_law_town"]
def fn19 : Fn := ⟨2, 8, fb19⟩
/-- _law_key -/
def fb20 : Ss := (.cons (.set 2 (.callF 19 (.cons (.var 0) (.cons (.var 1) .nil)))) (.cons (.ret (.ite (.val (.op2 .eq (.callF 17 (.cons (.var 0) (.cons (.var 1) (.cons (.cst (.int 3)) .nil)))) (.cst (.int 0)))) (.tup (.cons (.cst (.str "down")) (.cons (.var 2) .nil))) (.var 2))) .nil))
def fN20 : List Str := ["_law_script", "_law_town", "_law_key_here"]
def fp20 : List Str := ["_law_script", "_law_town"]
def fn20 : Fn := ⟨2, 3, fb20⟩
/-- _law_keys -/
def fb21 : Ss := (.cons (.ret (.op1 .tuple (.lc [3] (.rng (.callF 17 (.cons (.var 0) (.cons (.var 1) (.cons (.op2 .add (.var 2) (.cst (.int 1))) .nil))))) (.name 3) .yes (.callF 20 (.cons (.var 0) (.cons (.var 1) .nil)))))) .nil)
def fN21 : List Str := ["_law_script", "_law_town", "_law_most", "_law_k"]
def fp21 : List Str := ["_law_script", "_law_town", "_law_most"]
def fn21 : Fn := ⟨3, 4, fb21⟩
/-- _law_thing -/
def fb22 : Ss := (.cons (.ret (.tup (.cons (.callF 17 (.cons (.var 0) (.cons (.var 1) (.cons (.cst (.int 6)) .nil)))) (.cons (.callF 17 (.cons (.var 0) (.cons (.var 1) (.cons (.cst (.int 6)) .nil)))) (.cons (.callF 17 (.cons (.var 0) (.cons (.var 1) (.cons (.cst (.int 6)) .nil)))) .nil))))) .nil)
def fN22 : List Str := ["_law_script", "_law_town"]
def fp22 : List Str := ["_law_script", "_law_town"]
def fn22 : Fn := ⟨2, 2, fb22⟩
/-- _law_worth -/
def fb23 : Ss := (.cons (.ife (.val (.op2 .eq (.op2 .ix (.var 0) (.cst (.int 0))) (.cst (.str "down")))) (.cons (.ret (.op1 .neg (.callF 23 (.cons (.op2 .ix (.var 0) (.cst (.int 1))) (.cons (.var 1) .nil))))) .nil) .nil) (.cons (.set 2 (.op2 .ix (.var 1) (.op2 .ix (.var 0) (.cst (.int 1))))) (.cons (.ife (.val (.op2 .eq (.op2 .ix (.var 0) (.cst (.int 0))) (.cst (.str "up")))) (.cons (.ret (.var 2)) .nil) .nil) (.cons (.ife (.val (.op2 .eq (.op2 .ix (.var 0) (.cst (.int 0))) (.cst (.str "part")))) (.cons (.ret (.op1 .len (.lc [4] (.rng2 (.cst (.int 1)) (.cst (.int 6))) (.name 4) (.and_ (.val (.op2 .le (.var 4) (.var 2))) (.val (.op2 .eq (.op2 .mod (.var 4) (.op2 .ix (.var 0) (.cst (.int 2)))) (.cst (.int 0))))) (.var 4)))) .nil) .nil) (.cons (.ife (.val (.op2 .eq (.op2 .ix (.var 0) (.cst (.int 0))) (.cst (.str "rest")))) (.cons (.ret (.op2 .sub (.var 2) (.op2 .mul (.op2 .fdiv (.var 2) (.op2 .ix (.var 0) (.cst (.int 2)))) (.op2 .ix (.var 0) (.cst (.int 2)))))) .nil) .nil) (.cons (.ife (.val (.op2 .eq (.op2 .ix (.var 0) (.cst (.int 0))) (.cst (.str "table")))) (.cons (.ret (.op2 .index (.op2 .add (.op1 .list (.op2 .ix (.var 0) (.cst (.int 2)))) (.lst (.cons (.var 2) .nil))) (.var 2))) .nil) .nil) (.cons (.ife (.val (.op2 .eq (.op2 .ix (.var 0) (.cst (.int 0))) (.cst (.str "among")))) (.cons (.ret (.ite (.val (.op2 .isin (.var 2) (.op2 .ix (.var 0) (.cst (.int 2))))) (.cst (.int 0)) (.cst (.int 1)))) .nil) .nil) (.cons (.set 3 (.op2 .ix (.var 1) (.op2 .ix (.var 0) (.cst (.int 2))))) (.cons (.ife (.val (.op2 .eq (.op2 .ix (.var 0) (.cst (.int 0))) (.cst (.str "sum")))) (.cons (.ret (.op2 .add (.var 2) (.var 3))) .nil) .nil) (.cons (.ife (.val (.op2 .eq (.op2 .ix (.var 0) (.cst (.int 0))) (.cst (.str "gap")))) (.cons (.ret (.ite (.val (.op2 .gt (.var 2) (.var 3))) (.op2 .sub (.var 2) (.var 3)) (.op2 .sub (.var 3) (.var 2)))) .nil) .nil) (.cons (.ret (.ite (.val (.op2 .gt (.var 2) (.var 3))) (.var 2) (.var 3))) .nil)))))))))))
def fN23 : List Str := ["_law_key_here", "_law_thing_here", "_law_a", "_law_b", "_law_k"]
def fp23 : List Str := ["_law_key_here", "_law_thing_here"]
def fn23 : Fn := ⟨2, 5, fb23⟩
/-- _law_worths -/
def fb24 : Ss := (.cons (.ret (.op1 .tuple (.lc [2] (.val (.var 0)) (.name 2) .yes (.callF 23 (.cons (.var 2) (.cons (.var 1) .nil)))))) .nil)
def fN24 : List Str := ["_law_row", "_law_thing_here", "_law_key_here"]
def fp24 : List Str := ["_law_row", "_law_thing_here"]
def fn24 : Fn := ⟨2, 3, fb24⟩
/-- _law_word -/
def fb25 : Ss := (.cons (.for_ (.val (.var 0)) (.name 3) (.cons (.par 4 5 (.callF 23 (.cons (.var 3) (.cons (.var 1) .nil))) (.callF 23 (.cons (.var 3) (.cons (.var 2) .nil)))) (.cons (.ife (.val (.op2 .ne (.var 4) (.var 5))) (.cons (.ret (.ite (.val (.op2 .lt (.var 4) (.var 5))) (.op1 .neg (.cst (.int 1))) (.cst (.int 1)))) .nil) .nil) .nil))) (.cons (.ret (.cst (.int 0))) .nil))
def fN25 : List Str := ["_law_row", "_law_one", "_law_other", "_law_key_here", "_law_mine", "_law_yours"]
def fp25 : List Str := ["_law_row", "_law_one", "_law_other"]
def fn25 : Fn := ⟨3, 6, fb25⟩
/-- law -/
def fb26 : Ss := (.cons (.set 1 .newl) (.cons (.set 2 .newl) (.cons (.for_ (.rng (.cst (.int 216))) (.name 3) (.cons (.expr (.op2 .append (.var 2) (.tup (.cons (.op2 .fdiv (.var 3) (.cst (.int 36))) (.cons (.op2 .mod (.op2 .fdiv (.var 3) (.cst (.int 6))) (.cst (.int 6))) (.cons (.op2 .mod (.var 3) (.cst (.int 6))) .nil)))))) .nil)) (.cons (.ife (.not_ (.val (.callF 16 (.cons (.callF 15 .nil) (.cons (.op1 .tuple (.var 2)) .nil))))) (.cons (.ret (.cst (.bl false))) .nil) .nil) (.cons (.for_ (.rng (.cst (.int 12))) (.name 4) (.cons (.set 5 (.callF 21 (.cons (.var 0) (.cons (.var 1) (.cons (.cst (.int 5)) .nil))))) (.cons (.set 6 (.lc [10] (.rng (.cst (.int 4))) (.name 10) .yes (.callF 22 (.cons (.var 0) (.cons (.var 1) .nil))))) (.cons (.set 7 (.callF 14 (.cons (.var 5) .nil))) (.cons (.ife (.not_ (.val (.callF 16 (.cons (.callF 14 (.cons (.var 7) .nil)) (.cons (.var 5) .nil))))) (.cons (.ret (.cst (.bl false))) .nil) .nil) (.cons (.for_ (.val (.var 6)) (.name 8) (.cons (.ife (.not_ (.val (.callF 16 (.cons (.callF 10 (.cons (.var 5) (.cons (.var 8) .nil))) (.cons (.callF 24 (.cons (.var 5) (.cons (.var 8) .nil))) .nil))))) (.cons (.ret (.cst (.bl false))) .nil) .nil) (.cons (.ife (.not_ (.val (.callF 16 (.cons (.callF 10 (.cons (.var 7) (.cons (.var 8) .nil))) (.cons (.op1 .tuple (.lc [13] (.val (.callF 24 (.cons (.var 5) (.cons (.var 8) .nil)))) (.name 13) .yes (.op2 .sub (.cst (.int 0)) (.var 13)))) .nil))))) (.cons (.ret (.cst (.bl false))) .nil) .nil) (.cons (.for_ (.val (.var 6)) (.name 9) (.cons (.set 11 (.callF 25 (.cons (.var 5) (.cons (.var 8) (.cons (.var 9) .nil))))) (.cons (.ife (.not_ (.val (.callF 16 (.cons (.tup (.cons (.callF 12 (.cons (.var 5) (.cons (.var 8) (.cons (.var 9) .nil)))) (.cons (.callF 12 (.cons (.var 5) (.cons (.var 9) (.cons (.var 8) .nil)))) .nil))) (.cons (.tup (.cons (.var 11) (.cons (.op2 .sub (.cst (.int 0)) (.var 11)) .nil))) .nil))))) (.cons (.ret (.cst (.bl false))) .nil) .nil) (.cons (.ife (.not_ (.val (.callF 16 (.cons (.callF 12 (.cons (.var 7) (.cons (.var 8) (.cons (.var 9) .nil)))) (.cons (.op2 .sub (.cst (.int 0)) (.var 11)) .nil))))) (.cons (.ret (.cst (.bl false))) .nil) .nil) (.cons (.for_ (.val (.var 6)) (.name 12) (.cons (.ife (.and_ (.val (.op2 .lt (.var 11) (.cst (.int 1)))) (.and_ (.val (.op2 .lt (.callF 12 (.cons (.var 5) (.cons (.var 9) (.cons (.var 12) .nil)))) (.cst (.int 1)))) (.val (.op2 .gt (.callF 12 (.cons (.var 5) (.cons (.var 8) (.cons (.var 12) .nil)))) (.cst (.int 0)))))) (.cons (.ret (.cst (.bl false))) .nil) .nil) .nil)) .nil))))) .nil)))) .nil)))))) (.cons (.ret (.cst (.bl true))) .nil))))))
def fN26 : List Str := ["_law_script", "_law_town", "_law_every", "_law_number", "_law_k", "_law_row", "_law_things", "_law_back", "_law_one", "_law_other", "_law_j", "_law_word_here", "_law_third", "_law_some"]
def fp26 : List Str := ["_law_script"]
def fn26 : Fn := ⟨1, 14, fb26⟩
def P : List Fn := [fn0, fn1, fn2, fn3, fn4, fn5, fn6, fn7, fn8, fn9, fn10, fn11, fn12, fn13, fn14, fn15, fn16, fn17, fn18, fn19, fn20, fn21, fn22, fn23, fn24, fn25, fn26]
theorem tr0 : trSs gc 100 ⟨fN0, defScope (top 2), fun _ => true⟩ (defBody (top 2)) = some fb0 := by kernel_rfl
theorem sc0 : FnScope fN0 fp0 (defScope (top 2)) := ⟨rfl, rfl, rfl, by decide +kernel, rfl, by decide +kernel, by decide +kernel⟩
theorem tr1 : trSs gc 100 ⟨fN1, defScope (top 3), fun _ => true⟩ (defBody (top 3)) = some fb1 := by kernel_rfl
theorem sc1 : FnScope fN1 fp1 (defScope (top 3)) := ⟨rfl, rfl, rfl, by decide +kernel, rfl, by decide +kernel, by decide +kernel⟩
theorem tr2 : trSs gc 100 ⟨fN2, defScope (top 4), fun _ => true⟩ (defBody (top 4)) = some fb2 := by kernel_rfl
theorem sc2 : FnScope fN2 fp2 (defScope (top 4)) := ⟨rfl, rfl, rfl, by decide +kernel, rfl, by decide +kernel, by decide +kernel⟩
theorem tr3 : trSs gc 100 ⟨fN3, defScope (top 5), fun _ => true⟩ (defBody (top 5)) = some fb3 := by kernel_rfl
theorem sc3 : FnScope fN3 fp3 (defScope (top 5)) := ⟨rfl, rfl, rfl, by decide +kernel, rfl, by decide +kernel, by decide +kernel⟩
theorem tr4 : trSs gc 100 ⟨fN4, defScope (top 6), fun _ => true⟩ (defBody (top 6)) = some fb4 := by kernel_rfl
theorem sc4 : FnScope fN4 fp4 (defScope (top 6)) := ⟨rfl, rfl, rfl, by decide +kernel, rfl, by decide +kernel, by decide +kernel⟩
theorem tr5 : trSs gc 100 ⟨fN5, defScope (top 7), fun _ => true⟩ (defBody (top 7)) = some fb5 := by kernel_rfl
theorem sc5 : FnScope fN5 fp5 (defScope (top 7)) := ⟨rfl, rfl, rfl, by decide +kernel, rfl, by decide +kernel, by decide +kernel⟩
theorem tr6 : trSs gc 100 ⟨fN6, defScope (top 8), fun _ => true⟩ (defBody (top 8)) = some fb6 := by kernel_rfl
theorem sc6 : FnScope fN6 fp6 (defScope (top 8)) := ⟨rfl, rfl, rfl, by decide +kernel, rfl, by decide +kernel, by decide +kernel⟩
theorem tr7 : trSs gc 100 ⟨fN7, defScope (top 9), fun _ => true⟩ (defBody (top 9)) = some fb7 := by kernel_rfl
theorem sc7 : FnScope fN7 fp7 (defScope (top 9)) := ⟨rfl, rfl, rfl, by decide +kernel, rfl, by decide +kernel, by decide +kernel⟩
theorem tr8 : trSs gc 100 ⟨fN8, defScope (top 10), fun _ => true⟩ (defBody (top 10)) = some fb8 := by kernel_rfl
theorem sc8 : FnScope fN8 fp8 (defScope (top 10)) := ⟨rfl, rfl, rfl, by decide +kernel, rfl, by decide +kernel, by decide +kernel⟩
theorem tr9 : trSs gc 100 ⟨fN9, defScope (top 12), fun _ => true⟩ (defBody (top 12)) = some fb9 := by kernel_rfl
theorem sc9 : FnScope fN9 fp9 (defScope (top 12)) := ⟨rfl, rfl, rfl, by decide +kernel, rfl, by decide +kernel, by decide +kernel⟩
theorem tr10 : trSs gc 100 ⟨fN10, defScope (top 13), fun _ => true⟩ (defBody (top 13)) = some fb10 := by kernel_rfl
theorem sc10 : FnScope fN10 fp10 (defScope (top 13)) := ⟨rfl, rfl, rfl, by decide +kernel, rfl, by decide +kernel, by decide +kernel⟩
theorem tr11 : trSs gc 100 ⟨fN11, defScope (top 14), fun _ => true⟩ (defBody (top 14)) = some fb11 := by kernel_rfl
theorem sc11 : FnScope fN11 fp11 (defScope (top 14)) := ⟨rfl, rfl, rfl, by decide +kernel, rfl, by decide +kernel, by decide +kernel⟩
theorem tr12 : trSs gc 100 ⟨fN12, defScope (top 15), fun _ => true⟩ (defBody (top 15)) = some fb12 := by kernel_rfl
theorem sc12 : FnScope fN12 fp12 (defScope (top 15)) := ⟨rfl, rfl, rfl, by decide +kernel, rfl, by decide +kernel, by decide +kernel⟩
theorem tr13 : trSs gc 100 ⟨fN13, defScope (top 16), fun _ => true⟩ (defBody (top 16)) = some fb13 := by kernel_rfl
theorem sc13 : FnScope fN13 fp13 (defScope (top 16)) := ⟨rfl, rfl, rfl, by decide +kernel, rfl, by decide +kernel, by decide +kernel⟩
theorem tr14 : trSs gc 100 ⟨fN14, defScope (top 17), fun _ => true⟩ (defBody (top 17)) = some fb14 := by kernel_rfl
theorem sc14 : FnScope fN14 fp14 (defScope (top 17)) := ⟨rfl, rfl, rfl, by decide +kernel, rfl, by decide +kernel, by decide +kernel⟩
theorem tr15 : trSs gc 100 ⟨fN15, defScope (top 18), fun _ => true⟩ (defBody (top 18)) = some fb15 := by kernel_rfl
theorem sc15 : FnScope fN15 fp15 (defScope (top 18)) := ⟨rfl, rfl, rfl, by decide +kernel, rfl, by decide +kernel, by decide +kernel⟩
theorem tr16 : trSs gc 100 ⟨fN16, defScope (top 20), fun _ => true⟩ (defBody (top 20)) = some fb16 := by kernel_rfl
theorem sc16 : FnScope fN16 fp16 (defScope (top 20)) := ⟨rfl, rfl, rfl, by decide +kernel, rfl, by decide +kernel, by decide +kernel⟩
theorem tr17 : trSs gc 100 ⟨fN17, defScope (top 21), fun _ => true⟩ (defBody (top 21)) = some fb17 := by kernel_rfl
theorem sc17 : FnScope fN17 fp17 (defScope (top 21)) := ⟨rfl, rfl, rfl, by decide +kernel, rfl, by decide +kernel, by decide +kernel⟩
theorem tr18 : trSs gc 100 ⟨fN18, defScope (top 22), fun _ => true⟩ (defBody (top 22)) = some fb18 := by kernel_rfl
theorem sc18 : FnScope fN18 fp18 (defScope (top 22)) := ⟨rfl, rfl, rfl, by decide +kernel, rfl, by decide +kernel, by decide +kernel⟩
theorem tr19 : trSs gc 100 ⟨fN19, defScope (top 23), fun _ => true⟩ (defBody (top 23)) = some fb19 := by kernel_rfl
theorem sc19 : FnScope fN19 fp19 (defScope (top 23)) := ⟨rfl, rfl, rfl, by decide +kernel, rfl, by decide +kernel, by decide +kernel⟩
theorem tr20 : trSs gc 100 ⟨fN20, defScope (top 24), fun _ => true⟩ (defBody (top 24)) = some fb20 := by kernel_rfl
theorem sc20 : FnScope fN20 fp20 (defScope (top 24)) := ⟨rfl, rfl, rfl, by decide +kernel, rfl, by decide +kernel, by decide +kernel⟩
theorem tr21 : trSs gc 100 ⟨fN21, defScope (top 25), fun _ => true⟩ (defBody (top 25)) = some fb21 := by kernel_rfl
theorem sc21 : FnScope fN21 fp21 (defScope (top 25)) := ⟨rfl, rfl, rfl, by decide +kernel, rfl, by decide +kernel, by decide +kernel⟩
theorem tr22 : trSs gc 100 ⟨fN22, defScope (top 26), fun _ => true⟩ (defBody (top 26)) = some fb22 := by kernel_rfl
theorem sc22 : FnScope fN22 fp22 (defScope (top 26)) := ⟨rfl, rfl, rfl, by decide +kernel, rfl, by decide +kernel, by decide +kernel⟩
theorem tr23 : trSs gc 100 ⟨fN23, defScope (top 28), fun _ => true⟩ (defBody (top 28)) = some fb23 := by kernel_rfl
theorem sc23 : FnScope fN23 fp23 (defScope (top 28)) := ⟨rfl, rfl, rfl, by decide +kernel, rfl, by decide +kernel, by decide +kernel⟩
theorem tr24 : trSs gc 100 ⟨fN24, defScope (top 29), fun _ => true⟩ (defBody (top 29)) = some fb24 := by kernel_rfl
theorem sc24 : FnScope fN24 fp24 (defScope (top 29)) := ⟨rfl, rfl, rfl, by decide +kernel, rfl, by decide +kernel, by decide +kernel⟩
theorem tr25 : trSs gc 100 ⟨fN25, defScope (top 30), fun _ => true⟩ (defBody (top 30)) = some fb25 := by kernel_rfl
theorem sc25 : FnScope fN25 fp25 (defScope (top 30)) := ⟨rfl, rfl, rfl, by decide +kernel, rfl, by decide +kernel, by decide +kernel⟩
theorem tr26 : trSs gc 100 ⟨fN26, defScope (top 31), fun _ => true⟩ (defBody (top 31)) = some fb26 := by kernel_rfl
theorem sc26 : FnScope fN26 fp26 (defScope (top 31)) := ⟨rfl, rfl, rfl, by decide +kernel, rfl, by decide +kernel, by decide +kernel⟩
def rc0 : Rc := ⟨"worth_in", top 2, fN0, fp0, fn0⟩
theorem ro0 : RcOk gc rc0 := ⟨tr0, sc0, rfl, rfl, fun _ _ _ _ _ _ us hl => match us, hl with | [_, _], _ => rfl⟩
def rc1 : Rc := ⟨"up_tells", top 3, fN1, fp1, fn1⟩
theorem ro1 : RcOk gc rc1 := ⟨tr1, sc1, rfl, rfl, fun _ _ _ _ _ _ us hl => match us, hl with | [_, _], _ => rfl⟩
def rc2 : Rc := ⟨"part_tells", top 4, fN2, fp2, fn2⟩
theorem ro2 : RcOk gc rc2 := ⟨tr2, sc2, rfl, rfl, fun _ _ _ _ _ _ us hl => match us, hl with | [_, _], _ => rfl⟩
def rc3 : Rc := ⟨"rest_tells", top 5, fN3, fp3, fn3⟩
theorem ro3 : RcOk gc rc3 := ⟨tr3, sc3, rfl, rfl, fun _ _ _ _ _ _ us hl => match us, hl with | [_, _], _ => rfl⟩
def rc4 : Rc := ⟨"table_tells", top 6, fN4, fp4, fn4⟩
theorem ro4 : RcOk gc rc4 := ⟨tr4, sc4, rfl, rfl, fun _ _ _ _ _ _ us hl => match us, hl with | [_, _], _ => rfl⟩
def rc5 : Rc := ⟨"among_tells", top 7, fN5, fp5, fn5⟩
theorem ro5 : RcOk gc rc5 := ⟨tr5, sc5, rfl, rfl, fun _ _ _ _ _ _ us hl => match us, hl with | [_, _], _ => rfl⟩
def rc6 : Rc := ⟨"sum_tells", top 8, fN6, fp6, fn6⟩
theorem ro6 : RcOk gc rc6 := ⟨tr6, sc6, rfl, rfl, fun _ _ _ _ _ _ us hl => match us, hl with | [_, _], _ => rfl⟩
def rc7 : Rc := ⟨"gap_tells", top 9, fN7, fp7, fn7⟩
theorem ro7 : RcOk gc rc7 := ⟨tr7, sc7, rfl, rfl, fun _ _ _ _ _ _ us hl => match us, hl with | [_, _], _ => rfl⟩
def rc8 : Rc := ⟨"most_tells", top 10, fN8, fp8, fn8⟩
theorem ro8 : RcOk gc rc8 := ⟨tr8, sc8, rfl, rfl, fun _ _ _ _ _ _ us hl => match us, hl with | [_, _], _ => rfl⟩
def rc9 : Rc := ⟨"key_tells", top 12, fN9, fp9, fn9⟩
theorem ro9 : RcOk gc rc9 := ⟨tr9, sc9, rfl, rfl, fun _ _ _ _ _ _ us hl => match us, hl with | [_, _], _ => rfl⟩
def rc10 : Rc := ⟨"worths", top 13, fN10, fp10, fn10⟩
theorem ro10 : RcOk gc rc10 := ⟨tr10, sc10, rfl, rfl, fun _ _ _ _ _ _ us hl => match us, hl with | [_, _], _ => rfl⟩
def rc11 : Rc := ⟨"compared", top 14, fN11, fp11, fn11⟩
theorem ro11 : RcOk gc rc11 := ⟨tr11, sc11, rfl, rfl, fun _ _ _ _ _ _ us hl => match us, hl with | [_, _], _ => rfl⟩
def rc12 : Rc := ⟨"told", top 15, fN12, fp12, fn12⟩
theorem ro12 : RcOk gc rc12 := ⟨tr12, sc12, rfl, rfl, fun _ _ _ _ _ _ us hl => match us, hl with | [_, _, _], _ => rfl⟩
def rc13 : Rc := ⟨"turned_key", top 16, fN13, fp13, fn13⟩
theorem ro13 : RcOk gc rc13 := ⟨tr13, sc13, rfl, rfl, fun _ _ _ _ _ _ us hl => match us, hl with | [_], _ => rfl⟩
def rc14 : Rc := ⟨"turned", top 17, fN14, fp14, fn14⟩
theorem ro14 : RcOk gc rc14 := ⟨tr14, sc14, rfl, rfl, fun _ _ _ _ _ _ us hl => match us, hl with | [_], _ => rfl⟩
def rc15 : Rc := ⟨"all_things", top 18, fN15, fp15, fn15⟩
theorem ro15 : RcOk gc rc15 := ⟨tr15, sc15, rfl, rfl, fun _ _ _ _ _ _ us hl => match us, hl with | [], _ => rfl⟩
def rc16 : Rc := ⟨"_law_same", top 20, fN16, fp16, fn16⟩
theorem ro16 : RcOk gc rc16 := ⟨tr16, sc16, rfl, rfl, fun _ _ _ _ _ _ us hl => match us, hl with | [_, _], _ => rfl⟩
def rc17 : Rc := ⟨"_law_draw", top 21, fN17, fp17, fn17⟩
theorem ro17 : RcOk gc rc17 := ⟨tr17, sc17, rfl, rfl, fun _ _ _ _ _ _ us hl => match us, hl with | [_, _, _], _ => rfl⟩
def rc18 : Rc := ⟨"_law_pick", top 22, fN18, fp18, fn18⟩
theorem ro18 : RcOk gc rc18 := ⟨tr18, sc18, rfl, rfl, fun _ _ _ _ _ _ us hl => match us, hl with | [_, _, _], _ => rfl⟩
def rc19 : Rc := ⟨"_law_plain", top 23, fN19, fp19, fn19⟩
theorem ro19 : RcOk gc rc19 := ⟨tr19, sc19, rfl, rfl, fun _ _ _ _ _ _ us hl => match us, hl with | [_, _], _ => rfl⟩
def rc20 : Rc := ⟨"_law_key", top 24, fN20, fp20, fn20⟩
theorem ro20 : RcOk gc rc20 := ⟨tr20, sc20, rfl, rfl, fun _ _ _ _ _ _ us hl => match us, hl with | [_, _], _ => rfl⟩
def rc21 : Rc := ⟨"_law_keys", top 25, fN21, fp21, fn21⟩
theorem ro21 : RcOk gc rc21 := ⟨tr21, sc21, rfl, rfl, fun _ _ _ _ _ _ us hl => match us, hl with | [_, _, _], _ => rfl⟩
def rc22 : Rc := ⟨"_law_thing", top 26, fN22, fp22, fn22⟩
theorem ro22 : RcOk gc rc22 := ⟨tr22, sc22, rfl, rfl, fun _ _ _ _ _ _ us hl => match us, hl with | [_, _], _ => rfl⟩
def rc23 : Rc := ⟨"_law_worth", top 28, fN23, fp23, fn23⟩
theorem ro23 : RcOk gc rc23 := ⟨tr23, sc23, rfl, rfl, fun _ _ _ _ _ _ us hl => match us, hl with | [_, _], _ => rfl⟩
def rc24 : Rc := ⟨"_law_worths", top 29, fN24, fp24, fn24⟩
theorem ro24 : RcOk gc rc24 := ⟨tr24, sc24, rfl, rfl, fun _ _ _ _ _ _ us hl => match us, hl with | [_, _], _ => rfl⟩
def rc25 : Rc := ⟨"_law_word", top 30, fN25, fp25, fn25⟩
theorem ro25 : RcOk gc rc25 := ⟨tr25, sc25, rfl, rfl, fun _ _ _ _ _ _ us hl => match us, hl with | [_, _, _], _ => rfl⟩
def rc26 : Rc := ⟨"law", top 31, fN26, fp26, fn26⟩
theorem ro26 : RcOk gc rc26 := ⟨tr26, sc26, rfl, rfl, fun _ _ _ _ _ _ us hl => match us, hl with | [_], _ => rfl⟩
def recs : List Rc := [rc0, rc1, rc2, rc3, rc4, rc5, rc6, rc7, rc8, rc9, rc10, rc11, rc12, rc13, rc14, rc15, rc16, rc17, rc18, rc19, rc20, rc21, rc22, rc23, rc24, rc25, rc26]
theorem recs_all {p : Rc → Prop} (h0 : p rc0) (h1 : p rc1) (h2 : p rc2) (h3 : p rc3) (h4 : p rc4) (h5 : p rc5) (h6 : p rc6) (h7 : p rc7) (h8 : p rc8) (h9 : p rc9) (h10 : p rc10) (h11 : p rc11) (h12 : p rc12) (h13 : p rc13) (h14 : p rc14) (h15 : p rc15) (h16 : p rc16) (h17 : p rc17) (h18 : p rc18) (h19 : p rc19) (h20 : p rc20) (h21 : p rc21) (h22 : p rc22) (h23 : p rc23) (h24 : p rc24) (h25 : p rc25) (h26 : p rc26) : ∀ r ∈ recs, p r := by
  intro r hr
  simp only [recs, List.mem_cons, List.not_mem_nil, or_false] at hr
  rcases hr with hr | hr | hr | hr | hr | hr | hr | hr | hr | hr | hr | hr | hr | hr | hr | hr | hr | hr | hr | hr | hr | hr | hr | hr | hr | hr | hr <;> subst hr <;> assumption
theorem recs_ok : ∀ r ∈ recs, RcOk gc r := recs_all ro0 ro1 ro2 ro3 ro4 ro5 ro6 ro7 ro8 ro9 ro10 ro11 ro12 ro13 ro14 ro15 ro16 ro17 ro18 ro19 ro20 ro21 ro22 ro23 ro24 ro25 ro26
theorem P_eq : recs.map (·.F) = P := rfl
def depth : Nat := 20
end K02

namespace K02
open PySem PySem.Spec PyProof.Rows L2 Ky
inductive F3 where | a | b | c
def F3.i : F3 → Int | .a => 0 | .b => 1 | .c => 2
inductive Two where | two | three
def Two.i : Two → Int | .two => 2 | .three => 3
inductive Six where | s0 | s1 | s2 | s3 | s4 | s5
def Six.i : Six → Int | .s0 => 0 | .s1 => 1 | .s2 => 2 | .s3 => 3 | .s4 => 4 | .s5 => 5
theorem F3.of {v : Int} (h : 0 ≤ v) (h2 : v < 3) : ∃ s : F3, v = s.i := by
  have : v = 0 ∨ v = 1 ∨ v = 2 := by omega
  rcases this with r | r | r <;> subst r
  · exact ⟨.a, rfl⟩
  · exact ⟨.b, rfl⟩
  · exact ⟨.c, rfl⟩
theorem Six.of {v : Int} (h : 0 ≤ v) (h2 : v < 6) : ∃ s : Six, v = s.i := by
  have : v = 0 ∨ v = 1 ∨ v = 2 ∨ v = 3 ∨ v = 4 ∨ v = 5 := by omega
  rcases this with r | r | r | r | r | r <;> subst r
  · exact ⟨.s0, rfl⟩
  · exact ⟨.s1, rfl⟩
  · exact ⟨.s2, rfl⟩
  · exact ⟨.s3, rfl⟩
  · exact ⟨.s4, rfl⟩
  · exact ⟨.s5, rfl⟩
structure Th where
  x : Six
  y : Six
  z : Six
def Th.d (t : Th) : D := .tup [.int t.x.i, .int t.y.i, .int t.z.i]
def Th.f (t : Th) : F3 → Int | .a => t.x.i | .b => t.y.i | .c => t.z.i
structure Ns where
  l : List Int
  h : l.length ≤ 4
inductive Pk where
  | up (f : F3) | part (f : F3) (d : Two) | rest (f : F3) (d : Two) | table (f : F3) (n : Ns) | among (f : F3) (n : Ns) | pair (k p : F3)
def p1 : F3 → F3 | .a => .a | .b => .a | .c => .b
def p2 : F3 → F3 | .a => .b | .b => .c | .c => .c
def pk : F3 → Str | .a => "sum" | .b => "gap" | .c => "most"
def Pk.d : Pk → D
  | .up f => .tup [.str "up", .int f.i]
  | .part f d => .tup [.str "part", .int f.i, .int d.i]
  | .rest f d => .tup [.str "rest", .int f.i, .int d.i]
  | .table f n => .tup [.str "table", .int f.i, .tup (n.l.map D.int)]
  | .among f n => .tup [.str "among", .int f.i, .tup (n.l.map D.int)]
  | .pair k p => .tup [.str (pk k), .int (p1 p).i, .int (p2 p).i]
def wpair : F3 → Int → Int → Int
  | .a, x, y => x + y
  | .b, x, y => if x - y < 0 then -(x - y) else x - y
  | .c, x, y => if y > x then y else x
def Pk.w : Pk → Th → Int
  | .up f, t => t.f f
  | .part f d, t => t.f f / d.i
  | .rest f d, t => t.f f % d.i
  | .table f n, t => ((idxI (t.f f) (n.l ++ [t.f f])).getD 0 : Nat)
  | .among f n, t => if inI (t.f f) n.l then 0 else 1
  | .pair k p, t => wpair k (t.f (p1 p)) (t.f (p2 p))
theorem idx_in : ∀ (ns : List Int) (v : Int), inI v ns = true → ∃ j, idxI v ns = some j ∧ idxI v (ns ++ [v]) = some j
  | [], v, h => by cases h
  | n :: ns, v, h => by
    by_cases e : n = v
    · exact ⟨0, by simp only [idxI, e, beq_self_eq_true, if_true], by simp only [List.cons_append, idxI, e, beq_self_eq_true, if_true]⟩
    · have e' : (n == v) = false := by simpa using e
      have h' : inI v ns = true := by simpa only [inI, List.any_cons, e', Bool.false_or] using h
      obtain ⟨j, h1, h2⟩ := idx_in ns v h'
      exact ⟨j + 1, by simp only [idxI, e', h1]; rfl, by simp only [List.cons_append, idxI, e', h2]; rfl⟩
theorem idx_out : ∀ (ns : List Int) (v : Int), inI v ns = false → idxI v (ns ++ [v]) = some ns.length
  | [], v, _ => by simp only [List.nil_append, idxI, beq_self_eq_true, if_true, List.length_nil]
  | n :: ns, v, h => by
    have h' : (n == v) = false ∧ inI v ns = false := by simpa only [inI, List.any_cons, Bool.or_eq_false_iff] using h
    simp only [List.cons_append, idxI, h'.1, idx_out ns v h'.2, List.length_cons]; rfl
theorem win {k : Nat} {m : M} (t : Th) (f : F3) : callN P (k + 1) 0 [t.d, .int f.i] m = some (.int (t.f f), m) := by cases f <;> kernel_rfl
theorem kt_plain (p : Pk) (t : Th) (k : Nat) (m : M) : callN P (k + 3) 9 [p.d, t.d] m = some (.int (p.w t), m) := by
  cases p with
  | up f => cases f <;> kernel_rfl
  | part f d => cases f <;> cases d <;> kernel_rfl
  | rest f d => cases f <;> cases d <;> kernel_rfl
  | pair q p => cases q <;> cases p <;> kernel_rfl
  | table f n =>
    show fin (evSs (callN P (k + 2)) fb9 [some (Pk.table f n).d, some t.d, none] m) = _
    refine fin_rt (ss_nx (s_if_f (m1 := m) rfl ss_nil) (ss_nx (s_set (x := .fn 4) (m1 := m) rfl) (ss_rt (s_ret (e_callV (f := 4) (xs := [(Pk.table f n).d, t.d]) (m1 := m) rfl rfl ?_)))))
    show fin (evSs (callN P (k + 1)) fb4 [some (Pk.table f n).d, some t.d, none] m) = _
    refine fin_rt (ss_nx (s_set (e_callF (xs := [t.d, .int f.i]) (m1 := m) rfl (win t f))) (ss_rt (s_ret ?_)))
    have hi : intsD (n.l.map D.int) = some n.l := intsD_map n.l
    cases q : inI (t.f f) n.l with
    | true =>
      obtain ⟨j, h1, h2⟩ := idx_in n.l _ q
      refine e_ite_t (t_val (e_op2 (x := .int (t.f f)) (y := .tup (n.l.map D.int)) (m1 := m) (m2 := m) rfl rfl (r := some (.bl true, m)) ?_) rfl) (e_op2 (x := .tup (n.l.map D.int)) (y := .int (t.f f)) (m1 := m) (m2 := m) rfl rfl ?_)
      · simp only [b2, hi, Option.map_some, q]
      · simp only [b2, hi, Option.bind_some, h1, Option.map_some, Pk.w, h2, Option.getD_some]
    | false =>
      have h2 := idx_out n.l _ q
      refine e_ite_f (t_val (e_op2 (x := .int (t.f f)) (y := .tup (n.l.map D.int)) (m1 := m) (m2 := m) rfl rfl (r := some (.bl false, m)) ?_) rfl) (e_op1 (x := .tup (n.l.map D.int)) (m1 := m) rfl ?_)
      · simp only [b2, hi, Option.map_some, q]
      · simp only [u1, seqOf, Option.map_some, Pk.w, h2, Option.getD_some, List.length_map]
  | among f n =>
    show fin (evSs (callN P (k + 2)) fb9 [some (Pk.among f n).d, some t.d, none] m) = _
    refine fin_rt (ss_nx (s_if_f (m1 := m) rfl ss_nil) (ss_nx (s_set (x := .fn 5) (m1 := m) rfl) (ss_rt (s_ret (e_callV (f := 5) (xs := [(Pk.among f n).d, t.d]) (m1 := m) rfl rfl ?_)))))
    show fin (evSs (callN P (k + 1)) fb5 [some (Pk.among f n).d, some t.d] m) = _
    have hi : intsD (n.l.map D.int) = some n.l := intsD_map n.l
    refine fin_rt (ss_rt (s_ret ?_))
    cases q : inI (t.f f) n.l with
    | true =>
      refine e_ite_t (t_val (e_op2 (x := .int (t.f f)) (y := .tup (n.l.map D.int)) (m1 := m) (m2 := m) (e_callF (xs := [t.d, .int f.i]) (m1 := m) rfl (win t f)) rfl (r := some (.bl true, m)) ?_) rfl) ?_
      · simp only [b2, hi, Option.map_some, q]
      · simp only [evE, Pk.w, q, if_true]
    | false =>
      refine e_ite_f (t_val (e_op2 (x := .int (t.f f)) (y := .tup (n.l.map D.int)) (m1 := m) (m2 := m) (e_callF (xs := [t.d, .int f.i]) (m1 := m) rfl (win t f)) rfl (r := some (.bl false, m)) ?_) rfl) ?_
      · simp only [b2, hi, Option.map_some, q]
      · simp only [evE, Pk.w, q, Bool.false_eq_true, if_false]
theorem lw_plain (p : Pk) (t : Th) (k : Nat) (m : M) : callN P (k + 1) 23 [p.d, t.d] m = some (.int (p.w t), m) := by
  cases p with
  | up f => cases f <;> kernel_rfl
  | part f d =>
    obtain ⟨x, y, z⟩ := t
    cases f with
    | a => cases x <;> cases d <;> kernel_rfl
    | b => cases y <;> cases d <;> kernel_rfl
    | c => cases z <;> cases d <;> kernel_rfl
  | rest f d =>
    obtain ⟨x, y, z⟩ := t
    cases f with
    | a => cases x <;> cases d <;> kernel_rfl
    | b => cases y <;> cases d <;> kernel_rfl
    | c => cases z <;> cases d <;> kernel_rfl
  | pair q p =>
    obtain ⟨x, y, z⟩ := t
    cases p with
    | a => cases x <;> cases y <;> cases q <;> kernel_rfl
    | b => cases x <;> cases z <;> cases q <;> kernel_rfl
    | c => cases y <;> cases z <;> cases q <;> kernel_rfl
  | table f n =>
    show fin (evSs (callN P k) fb23 [some (Pk.table f n).d, some t.d, none, none, none] m) = _
    have hi : intsD ((n.l ++ [t.f f]).map D.int) = some (n.l ++ [t.f f]) := intsD_map _
    have hl := n.h
    refine fin_rt (ss_nx (s_if_f (m1 := m) rfl ss_nil) (ss_nx (s_set (x := .int (t.f f)) (m1 := m) ?_) (ss_nx (s_if_f (m1 := m) rfl ss_nil) (ss_nx (s_if_f (m1 := m) rfl ss_nil) (ss_nx (s_if_f (m1 := m) rfl ss_nil) (ss_rt (s_if_t (m1 := m) rfl (ss_rt (s_ret (e_op2 (x := .lst ((n.l ++ [t.f f]).map D.int)) (y := .int (t.f f)) (m1 := m) (m2 := m) ?_ rfl ?_))))))))))
    · cases f <;> kernel_rfl
    · refine e_op2 (x := .lst (n.l.map D.int)) (y := .lst [.int (t.f f)]) (m1 := m) (m2 := m) rfl rfl ?_
      simp only [b2, List.length_map, List.length_cons, List.length_nil, List.map_append, List.map_cons, List.map_nil]
      rw [if_pos (by unfold big; omega)]
    · simp only [b2, hi, Option.bind_some, Pk.w]
      cases q : inI (t.f f) n.l with
      | true =>
        obtain ⟨j, h1, h2⟩ := idx_in n.l _ q
        simp only [h2, Option.map_some, Option.getD_some]
      | false =>
        have h2 := idx_out n.l _ q
        simp only [h2, Option.map_some, Option.getD_some]
  | among f n =>
    show fin (evSs (callN P k) fb23 [some (Pk.among f n).d, some t.d, none, none, none] m) = _
    have hi : intsD (n.l.map D.int) = some n.l := intsD_map n.l
    refine fin_rt (ss_nx (s_if_f (m1 := m) rfl ss_nil) (ss_nx (s_set (x := .int (t.f f)) (m1 := m) ?_) (ss_nx (s_if_f (m1 := m) rfl ss_nil) (ss_nx (s_if_f (m1 := m) rfl ss_nil) (ss_nx (s_if_f (m1 := m) rfl ss_nil) (ss_nx (s_if_f (m1 := m) rfl ss_nil) (ss_rt (s_if_t (m1 := m) rfl (ss_rt (s_ret ?_)))))))))) 
    · cases f <;> kernel_rfl
    · cases q : inI (t.f f) n.l with
      | true =>
        refine e_ite_t (t_val (e_op2 (x := .int (t.f f)) (y := .tup (n.l.map D.int)) (m1 := m) (m2 := m) rfl rfl (r := some (.bl true, m)) ?_) rfl) ?_
        · simp only [b2, hi, Option.map_some, q]
        · simp only [evE, Pk.w, q, if_true]
      | false =>
        refine e_ite_f (t_val (e_op2 (x := .int (t.f f)) (y := .tup (n.l.map D.int)) (m1 := m) (m2 := m) rfl rfl (r := some (.bl false, m)) ?_) rfl) ?_
        · simp only [b2, hi, Option.map_some, q]
        · simp only [evE, Pk.w, q, Bool.false_eq_true, if_false]
end K02

namespace K02
open PySem PySem.Spec PyProof.Rows L2 Ky
structure Kk where
  dn : Bool
  p : Pk
def Kk.d : Kk → D
  | ⟨true, p⟩ => .tup [.str "down", p.d]
  | ⟨false, p⟩ => p.d
def Kk.w : Kk → Th → Int
  | ⟨true, p⟩, t => -(p.w t)
  | ⟨false, p⟩, t => p.w t
def Kk.turn (q : Kk) : Kk := ⟨!q.dn, q.p⟩
theorem Kk.turn_turn (q : Kk) : q.turn.turn = q := by cases q; simp only [Kk.turn, Bool.not_not]
theorem Kk.turn_w (q : Kk) (t : Th) : q.turn.w t = -(q.w t) := by
  obtain ⟨b, p⟩ := q
  cases b
  · rfl
  · show p.w t = - -(p.w t)
    omega
theorem kt (q : Kk) (t : Th) (k : Nat) (m : M) : callN P (k + 4) 9 [q.d, t.d] m = some (.int (q.w t), m) := by
  obtain ⟨b, p⟩ := q
  cases b with
  | false => exact kt_plain p t (k + 1) m
  | true =>
    show fin (evSs (callN P (k + 3)) fb9 [some (.tup [.str "down", p.d]), some t.d, none] m) = _
    exact fin_rt (ss_rt (s_if_t (m1 := m) rfl (ss_rt (s_ret (e_op1 (e_callF (xs := [p.d, t.d]) (m1 := m) rfl (kt_plain p t k m)) rfl)))))
theorem lw (q : Kk) (t : Th) (k : Nat) (m : M) : callN P (k + 2) 23 [q.d, t.d] m = some (.int (q.w t), m) := by
  obtain ⟨b, p⟩ := q
  cases b with
  | false => exact lw_plain p t (k + 1) m
  | true =>
    show fin (evSs (callN P (k + 1)) fb23 [some (.tup [.str "down", p.d]), some t.d, none, none, none] m) = _
    exact fin_rt (ss_rt (s_if_t (m1 := m) rfl (ss_rt (s_ret (e_op1 (e_callF (xs := [p.d, t.d]) (m1 := m) rfl (lw_plain p t k m)) rfl)))))
theorem tk (q : Kk) (k : Nat) (m : M) : callN P (k + 1) 13 [q.d] m = some (q.turn.d, m) := by
  obtain ⟨b, p⟩ := q
  cases b with
  | true => rfl
  | false =>
    cases p with
    | pair q p => cases q <;> rfl
    | _ => rfl
abbrev rowD (qs : List Kk) : D := .tup (qs.map Kk.d)
theorem turned (qs : List Kk) (hl : qs.length ≤ 5) (k : Nat) (m : M) : callN P (k + 2) 14 [rowD qs] m = some (rowD (qs.map Kk.turn), m) := by
  show fin (evSs (callN P (k + 1)) fb14 [some (rowD qs), none] m) = _
  refine fin_rt (ss_rt (s_ret (e_op1 (e_lc (i_val_t (xs := qs.map Kk.d) (m1 := m) rfl) (compL_map rfl Kk.d (fun q => q.turn.d) qs [] (by unfold big; simp only [List.length_nil]; omega) fun q _ => ⟨[some (rowD qs), some q.d], rfl, rfl, ?_⟩)) ?_)))
  · exact e_callF (xs := [q.d]) (m1 := m) rfl (tk q k m)
  · simp only [u1, seqOf, List.nil_append, Option.map_some, rowD, List.map_map]; rfl
abbrev vs (qs : List Kk) (t : Th) : List Int := qs.map (·.w t)
theorem worths (qs : List Kk) (hl : qs.length ≤ 5) (t : Th) (k : Nat) (m : M) : callN P (k + 5) 10 [rowD qs, t.d] m = some (.tup ((vs qs t).map D.int), m) := by
  show fin (evSs (callN P (k + 4)) fb10 [some (rowD qs), some t.d, none] m) = _
  refine fin_rt (ss_rt (s_ret (e_op1 (e_lc (i_val_t (xs := qs.map Kk.d) (m1 := m) rfl) (compL_map rfl Kk.d (fun q => .int (q.w t)) qs [] (by unfold big; simp only [List.length_nil]; omega) fun q _ => ⟨[some (rowD qs), some t.d, some q.d], rfl, rfl, ?_⟩)) ?_)))
  · exact e_callF (xs := [q.d, t.d]) (m1 := m) rfl (kt q t k m)
  · simp only [u1, seqOf, List.nil_append, Option.map_some, List.map_map, vs]; rfl
theorem lworths (qs : List Kk) (hl : qs.length ≤ 5) (t : Th) (k : Nat) (m : M) : callN P (k + 3) 24 [rowD qs, t.d] m = some (.tup ((vs qs t).map D.int), m) := by
  show fin (evSs (callN P (k + 2)) fb24 [some (rowD qs), some t.d, none] m) = _
  refine fin_rt (ss_rt (s_ret (e_op1 (e_lc (i_val_t (xs := qs.map Kk.d) (m1 := m) rfl) (compL_map rfl Kk.d (fun q => .int (q.w t)) qs [] (by unfold big; simp only [List.length_nil]; omega) fun q _ => ⟨[some (rowD qs), some t.d, some q.d], rfl, rfl, ?_⟩)) ?_)))
  · exact e_callF (xs := [q.d, t.d]) (m1 := m) rfl (lw q t k m)
  · simp only [u1, seqOf, List.nil_append, Option.map_some, List.map_map, vs]; rfl
/-- what two lists of worths tell -/
def cw : List Int → List Int → Int
  | x :: xs, y :: ys => if x = y then cw xs ys else if x < y then -1 else 1
  | _, _ => 0
theorem lex_cw : ∀ as bs : List Int, as.length = bs.length → HT.lexLt as bs = decide (cw as bs = -1)
  | [], [], _ => rfl
  | [], _ :: _, h => by cases h
  | _ :: _, [], h => by cases h
  | x :: xs, y :: ys, h => by
    have ih := lex_cw xs ys (by simpa using h)
    rw [HT.lexLt_cons, cw, ih]
    by_cases e : x = y
    · simp only [e, if_true]
    · by_cases l : x < y
      · simp [e, l]
      · simp [e, l]
theorem cw_swap : ∀ as bs : List Int, cw bs as = -(cw as bs)
  | [], [] => rfl
  | [], _ :: _ => rfl
  | _ :: _, [] => rfl
  | x :: xs, y :: ys => by
    have ih := cw_swap xs ys
    simp only [cw]
    by_cases e : x = y
    · rw [if_pos e, if_pos e.symm, ih]
    · rw [if_neg e, if_neg (Ne.symm e)]
      by_cases l : x < y
      · rw [if_pos l, if_neg (by omega)]; rfl
      · rw [if_neg l, if_pos (by omega)]
theorem cw_neg : ∀ as bs : List Int, cw (as.map (- ·)) (bs.map (- ·)) = -(cw as bs)
  | [], [] => rfl
  | [], _ :: _ => rfl
  | _ :: _, [] => rfl
  | x :: xs, y :: ys => by
    have ih := cw_neg xs ys
    simp only [List.map_cons, cw]
    by_cases e : x = y
    · rw [if_pos e, if_pos (by omega), ih]
    · rw [if_neg e, if_neg (by omega)]
      by_cases l : x < y
      · rw [if_pos l, if_neg (by omega)]; rfl
      · rw [if_neg l, if_pos (by omega)]
theorem cw_val : ∀ as bs : List Int, cw as bs = -1 ∨ cw as bs = 0 ∨ cw as bs = 1
  | [], [] => .inr (.inl rfl)
  | [], _ :: _ => .inr (.inl rfl)
  | _ :: _, [] => .inr (.inl rfl)
  | x :: xs, y :: ys => by
    have ih := cw_val xs ys
    simp only [cw]
    split
    · exact ih
    · split
      · exact .inl rfl
      · exact .inr (.inr rfl)
theorem cw_trans : ∀ as bs cs : List Int, as.length = bs.length → bs.length = cs.length → cw as bs < 1 → cw bs cs < 1 → ¬ 0 < cw as cs
  | [], _, cs, _, _, _, _ => by cases cs <;> simp [cw]
  | _ :: _, [], _, h, _, _, _ => by cases h
  | _ :: _, _ :: _, [], _, h, _, _ => by cases h
  | x :: xs, y :: ys, z :: zs, h1, h2, h3, h4 => by
    have ih := cw_trans xs ys zs (by simpa using h1) (by simpa using h2)
    simp only [cw] at h3 h4 ⊢
    by_cases a : x = y
    · by_cases b : y = z
      · rw [if_pos a] at h3
        rw [if_pos b] at h4
        rw [if_pos (a.trans b)]
        exact ih h3 h4
      · rw [if_neg b] at h4
        rw [if_neg (by omega)]
        by_cases l : y < z
        · rw [if_pos (by omega)]; omega
        · rw [if_neg l] at h4; omega
    · rw [if_neg a] at h3
      by_cases l : x < y
      · by_cases b : y = z
        · rw [if_neg (by omega), if_pos (by omega)]; omega
        · rw [if_neg b] at h4
          by_cases l2 : y < z
          · rw [if_neg (by omega), if_pos (by omega)]; omega
          · rw [if_neg l2] at h4; omega
      · rw [if_neg l] at h3; omega
theorem compared (as bs : List Int) (hl : as.length = bs.length) (k : Nat) (m : M) : callN P (k + 1) 11 [.tup (as.map D.int), .tup (bs.map D.int)] m = some (.int (cw as bs), m) := by
  show fin (evSs (callN P k) fb11 [some (.tup (as.map D.int)), some (.tup (bs.map D.int))] m) = _
  have ha : intsD (as.map D.int) = some as := intsD_map as
  have hb : intsD (bs.map D.int) = some bs := intsD_map bs
  have t1 : b2 .lt (.tup (as.map D.int)) (.tup (bs.map D.int)) m = some (.bl (decide (cw as bs = -1)), m) := by simp only [b2, ha, hb, Option.bind_some, lex_cw as bs hl]
  have t2 : b2 .gt (.tup (as.map D.int)) (.tup (bs.map D.int)) m = some (.bl (decide (cw bs as = -1)), m) := by simp only [b2, ha, hb, Option.bind_some, lex_cw bs as hl.symm]
  have q := cw_swap as bs
  rcases cw_val as bs with e | e | e
  · rw [e, decide_eq_true rfl] at t1
    rw [e]
    exact fin_rt (ss_rt (s_if_t (t_val (e_op2 (m1 := m) (m2 := m) rfl rfl t1) rfl) (ss_rt (s_ret (m1 := m) rfl))))
  · rw [e, decide_eq_false (by decide)] at t1
    rw [q, e, decide_eq_false (by decide)] at t2
    rw [e]
    exact fin_rt (ss_nx (s_if_f (t_val (e_op2 (m1 := m) (m2 := m) rfl rfl t1) rfl) ss_nil) (ss_nx (s_if_f (t_val (e_op2 (m1 := m) (m2 := m) rfl rfl t2) rfl) ss_nil) (ss_rt (s_ret (m1 := m) rfl))))
  · rw [e, decide_eq_false (by decide)] at t1
    rw [q, e, decide_eq_true rfl] at t2
    rw [e]
    exact fin_rt (ss_nx (s_if_f (t_val (e_op2 (m1 := m) (m2 := m) rfl rfl t1) rfl) ss_nil) (ss_rt (s_if_t (t_val (e_op2 (m1 := m) (m2 := m) rfl rfl t2) rfl) (ss_rt (s_ret (m1 := m) rfl)))))
abbrev tw (qs : List Kk) (t u : Th) : Int := cw (vs qs t) (vs qs u)
theorem told (qs : List Kk) (hl : qs.length ≤ 5) (t u : Th) (k : Nat) (m : M) : callN P (k + 6) 12 [rowD qs, t.d, u.d] m = some (.int (tw qs t u), m) := by
  show fin (evSs (callN P (k + 5)) fb12 [some (rowD qs), some t.d, some u.d] m) = _
  exact fin_rt (ss_rt (s_ret (e_callF (es_cons (e_callF (xs := [rowD qs, t.d]) (m1 := m) rfl (worths qs hl t k m)) (es_cons (e_callF (xs := [rowD qs, u.d]) (m1 := m) rfl (worths qs hl u k m)) es_nil)) (compared _ _ (by simp only [vs, List.length_map]) (k + 4) m))))
theorem word_loop (k : Nat) (m : M) (r : D) (t u : Th) {s : Src} (hs : s.hd = none) : ∀ (qs : List Kk) (x y z : Option D), ∃ ρ', loopF (fun ρ m => evSs (callN P (k + 2)) (.cons (.par 4 5 (.callF 23 (.cons (.var 3) (.cons (.var 1) .nil))) (.callF 23 (.cons (.var 3) (.cons (.var 2) .nil)))) (.cons (.ife (.val (.op2 .ne (.var 4) (.var 5))) (.cons (.ret (.ite (.val (.op2 .lt (.var 4) (.var 5))) (.op1 .neg (.cst (.int 1))) (.cst (.int 1)))) .nil) .nil) .nil)) ρ m) (.name 3) s (qs.map Kk.d) [some r, some t.d, some u.d, x, y, z] m = some (if tw qs t u = 0 then .nx else .rt (.int (tw qs t u)), ρ', m)
  | [], x, y, z => ⟨[some r, some t.d, some u.d, x, y, z], by simp only [List.map_nil, loopF, Src.ok, hs, if_true]; rfl⟩
  | q :: qs, x, y, z => by
    have h1 : ∀ a b, evE (callN P (k + 2)) (.callF 23 (.cons (.var 3) (.cons (.var 1) .nil))) [some r, some t.d, some u.d, some q.d, a, b] m = some (.int (q.w t), m) := fun a b => e_callF (xs := [q.d, t.d]) (m1 := m) rfl (lw q t k m)
    have h2 : ∀ a b, evE (callN P (k + 2)) (.callF 23 (.cons (.var 3) (.cons (.var 2) .nil))) [some r, some t.d, some u.d, some q.d, a, b] m = some (.int (q.w u), m) := fun a b => e_callF (xs := [q.d, u.d]) (m1 := m) rfl (lw q u k m)
    by_cases e : q.w t = q.w u
    · obtain ⟨ρ', ih⟩ := word_loop k m r t u hs qs (some q.d) (some (.int (q.w t))) (some (.int (q.w u)))
      refine ⟨ρ', ?_⟩
      have c : tw (q :: qs) t u = tw qs t u := by simp only [tw, vs, List.map_cons, cw, if_pos e]
      rw [c, List.map_cons, loopF]
      simp only [Src.ok, hs, if_true]
      show (match evSs (callN P (k + 2)) _ [some r, some t.d, some u.d, some q.d, y, z] m with | some (.nx, ρ2, m2) => _ | some (.ct, ρ2, m2) => _ | some (.bk, ρ2, m2) => _ | some (.rt d, ρ2, m2) => _ | none => _) = _
      rw [ss_nx (s_par (h1 y z) (h2 y z)) (ss_nx (s_if_f (t_val (x := .bl false) (m1 := m) (e_op2 (m1 := m) (m2 := m) rfl rfl (by simp only [b2, eqD, e, decide_true, Option.map_some, Bool.not_true])) rfl) ss_nil) ss_nil)]
      exact ih
    · have c : tw (q :: qs) t u = if q.w t < q.w u then -1 else 1 := by simp only [tw, vs, List.map_cons, cw, if_neg e]
      have ne : evT (callN P (k + 2)) (.val (.op2 .ne (.var 4) (.var 5))) [some r, some t.d, some u.d, some q.d, some (.int (q.w t)), some (.int (q.w u))] m = some (true, m) := t_val (x := .bl true) (m1 := m) (e_op2 (m1 := m) (m2 := m) rfl rfl (by simp only [b2, eqD, e, decide_false, Option.map_some, Bool.not_false])) rfl
      refine ⟨[some r, some t.d, some u.d, some q.d, some (.int (q.w t)), some (.int (q.w u))], ?_⟩
      rw [c, List.map_cons, loopF]
      simp only [Src.ok, hs, if_true]
      show (match evSs (callN P (k + 2)) _ [some r, some t.d, some u.d, some q.d, y, z] m with | some (.nx, ρ2, m2) => _ | some (.ct, ρ2, m2) => _ | some (.bk, ρ2, m2) => _ | some (.rt d, ρ2, m2) => _ | none => _) = _
      by_cases l : q.w t < q.w u
      · rw [ss_nx (s_par (h1 y z) (h2 y z)) (ss_rt (s_if_t ne (ss_rt (s_ret (e_ite_t (m1 := m) (t_val (x := .bl true) (m1 := m) (e_op2 (m1 := m) (m2 := m) rfl rfl (by simp only [b2, l, decide_true])) rfl) rfl)))))]
        simp [l]
      · rw [ss_nx (s_par (h1 y z) (h2 y z)) (ss_rt (s_if_t ne (ss_rt (s_ret (e_ite_f (m1 := m) (t_val (x := .bl false) (m1 := m) (e_op2 (m1 := m) (m2 := m) rfl rfl (by simp only [b2, l, decide_false])) rfl) rfl)))))]
        simp [l]
theorem word (qs : List Kk) (t u : Th) (k : Nat) (m : M) : callN P (k + 3) 25 [rowD qs, t.d, u.d] m = some (.int (tw qs t u), m) := by
  show fin (evSs (callN P (k + 2)) fb25 [some (rowD qs), some t.d, some u.d, none, none, none] m) = _
  obtain ⟨ρ', h⟩ := word_loop k m (rowD qs) t u (s := ⟨qs.map Kk.d, none⟩) rfl qs none none none
  by_cases e : tw qs t u = 0
  · rw [if_pos e] at h
    rw [e]
    exact fin_rt (ss_nx (s_for (i_val_t (xs := qs.map Kk.d) (m1 := m) rfl) h) (ss_rt (s_ret (m1 := m) rfl)))
  · rw [if_neg e] at h
    exact fin_rt (ss_rt (s_for (i_val_t (xs := qs.map Kk.d) (m1 := m) rfl) h))
end K02

namespace K02
open PySem PySem.Spec PyProof.Rows L2 Ky
def PD : Nat → D → Prop
  | _, .non => True
  | _, .bl _ => True
  | _, .int _ => True
  | _, .str _ => True
  | n + 1, .tup xs => xs.length ≤ big ∧ ∀ x ∈ xs, PD n x
  | _, _ => False
theorem all_true : ∀ xs : List D, (xs.map fun _ => true).all id = true
  | [] => rfl
  | _ :: xs => by simp only [List.map_cons, List.all_cons, id, Bool.true_and]; exact all_true xs
theorem same : ∀ (n : Nat) (d : D) (k : Nat) (m : M), PD n d → callN P (k + n + 1) 16 [d, d] m = some (.bl true, m)
  | n, .non, k, m, _ => rfl
  | n, .bl b, k, m, _ => by cases b <;> rfl
  | n, .int i, k, m, _ => by
    have : callN P (k + n + 1) 16 [.int i, .int i] m = some (.bl (decide (i = i)), m) := by kernel_rfl
    rw [this, decide_eq_true rfl]
  | n, .str i, k, m, _ => by
    have : callN P (k + n + 1) 16 [.str i, .str i] m = some (.bl (decide (i = i)), m) := by kernel_rfl
    rw [this, decide_eq_true rfl]
  | 0, .tup xs, k, m, h => by cases h
  | n, .lst xs, k, m, h => by cases n <;> cases h
  | n, .fn xs, k, m, h => by cases n <;> cases h
  | n, .h xs, k, m, h => by cases n <;> cases h
  | n, .scr xs, k, m, h => by cases n <;> cases h
  | n + 1, .tup xs, k, m, h => by
    obtain ⟨hl, hx⟩ : xs.length ≤ big ∧ ∀ x ∈ xs, PD n x := h
    show fin (evSs (callN P (k + n + 1)) fb16 [some (.tup xs), some (.tup xs), none, none] m) = _
    refine fin_rt (ss_nx (s_if_f (m1 := m) rfl ss_nil) (ss_nx (s_if_f (m1 := m) rfl ss_nil) (ss_rt (s_if_t (m1 := m) rfl (ss_nx (s_if_f (m1 := m) ?_ ss_nil) (ss_rt (s_ret (e_op1 (x := .lst (xs.map fun _ => .bl true)) (m1 := m) (e_lc (i_zip_t (xs := xs) (ys := xs) (m1 := m) (m2 := m) rfl rfl) ?_) ?_))))))))
    · have e : evT (callN P (k + n + 1)) (.val (.op2 .ne (.op1 .len (.var 0)) (.op1 .len (.var 1)))) [some (.tup xs), some (.tup xs), none, none] m = some (false, m) := t_val (x := .bl false) (m1 := m) (e_op2 (x := .int xs.length) (y := .int xs.length) (m1 := m) (m2 := m) rfl rfl (by simp only [b2, eqD, decide_true, Option.map_some, Bool.not_true])) rfl
      simp only [evT] at e ⊢
      exact e
    · show compL _ _ _ _ _ (pairsD xs xs) m [] = _
      rw [pairsD_self]
      refine compL_map rfl (fun x => .tup [x, x]) (fun _ => .bl true) xs [] (by simpa using hl) fun x hm => ⟨[some (.tup xs), some (.tup xs), some x, some x], rfl, rfl, ?_⟩
      exact e_callF (xs := [x, x]) (m1 := m) rfl (same n x k m (hx x hm))
    · have e : (xs.map fun _ => D.bl true) = (xs.map fun _ => true).map D.bl := by rw [List.map_map]; rfl
      rw [e]
      simp only [u1, blsD_map, Option.map_some, all_true]
/-! ### what is drawn -/
abbrev mT (ev : List D) (t : Nat) : M := [.ml (List.replicate t (.int 0)), .ml ev]
theorem mulOk_l {i j : Int} (h : -(2 ^ 64) < i) (h2 : i < 2 ^ 64) : mulOk i j = true := by unfold mulOk; rw [decide_eq_true h, decide_eq_true h2]; rfl
theorem b2_mul {i j : Int} {m : M} (h : -(2 ^ 64) < i) (h2 : i < 2 ^ 64) : b2 .mul (.int i) (.int j) m = some (.int (i * j), m) := by
  have : b2 .mul (.int i) (.int j) m = if mulOk i j then some (.int (i * j), m) else none := rfl
  rw [this, if_pos (mulOk_l h h2)]
theorem at_mod (xs : List Int) (j : Int) (h : xs ≠ []) : ∃ c, atI (xs.map D.int) (j % (xs.map D.int).length) = some (.int c) := by
  have hn : 0 < (xs.length : Int) := by
    cases xs with
    | nil => exact absurd rfl h
    | cons a b => simp only [List.length_cons]; omega
  rw [List.length_map]
  have h0 := Int.emod_nonneg j (show (xs.length : Int) ≠ 0 by omega)
  have h1 := Int.emod_lt_of_pos j hn
  generalize j % (xs.length : Int) = i at h0 h1
  unfold atI ixN
  rw [if_pos h0, List.length_map, if_pos h1, Option.bind_some, List.getElem?_map, List.getElem?_eq_getElem (by omega)]
  exact ⟨_, rfl⟩
theorem draw (sc : List Int) (ev : List D) (k t : Nat) (many : Int) (h0 : 0 < many) (ht : t < 1000000) : ∃ v, 0 ≤ v ∧ v < many ∧ callN P (k + 1) 17 [.scr (sc.map D.int), .h 0, .int many] (mT ev t) = some (.int v, mT ev (t + 1)) := by
  have a1 : b2 .append (.h 0) (.int 0) (mT ev t) = some (.non, mT ev (t + 1)) := by
    show (if (List.replicate t (D.int 0)).length < big then some (D.non, [MO.ml (List.replicate t (D.int 0) ++ [.int 0]), .ml ev]) else none) = _
    rw [List.length_replicate, if_pos (by unfold big; omega), ← List.replicate_succ']
  have a2 : u1 .len (.h 0) (mT ev (t + 1)) = some (.int ((t + 1 : Nat) : Int), mT ev (t + 1)) := by
    show some (D.int ((List.replicate (t + 1) (D.int 0)).length : Nat), mT ev (t + 1)) = _
    rw [List.length_replicate]
  have rest : ∀ (c : Int), ∃ v, 0 ≤ v ∧ v < many ∧ evSs (callN P k) (.cons (.set 5 (.op2 .mod (.op2 .add (.var 4) (.op2 .mul (.cst (.int 104729)) (.var 3))) (.cst (.int 4294967291)))) (.cons (.set 5 (.op2 .mod (.op2 .mul (.op2 .mod (.op2 .mul (.var 5) (.var 5)) (.cst (.int 4294967279))) (.cst (.int 48271))) (.cst (.int 4294967291)))) (.cons (.ret (.op2 .mod (.op2 .fdiv (.var 5) (.cst (.int 64))) (.var 2))) .nil))) [some (.scr (sc.map D.int)), some (.h 0), some (.int many), some (.int ((t + 1 : Nat) : Int)), some (.int c), none] (mT ev (t + 1)) = some (.rt (.int v), [some (.scr (sc.map D.int)), some (.h 0), some (.int many), some (.int ((t + 1 : Nat) : Int)), some (.int c), some (.int ((c + 104729 * ((t + 1 : Nat) : Int)) % 4294967291 * ((c + 104729 * ((t + 1 : Nat) : Int)) % 4294967291) % 4294967279 * 48271 % 4294967291))], mT ev (t + 1)) := by
    intro c
    have n0 := Int.emod_nonneg (c + 104729 * ((t + 1 : Nat) : Int)) (show (4294967291 : Int) ≠ 0 by decide)
    have n1 := Int.emod_lt_of_pos (c + 104729 * ((t + 1 : Nat) : Int)) (show (0 : Int) < 4294967291 by decide)
    refine ⟨(c + 104729 * ((t + 1 : Nat) : Int)) % 4294967291 * ((c + 104729 * ((t + 1 : Nat) : Int)) % 4294967291) % 4294967279 * 48271 % 4294967291 / 64 % many, Int.emod_nonneg _ (by omega), Int.emod_lt_of_pos _ h0, ?_⟩
    refine ss_nx (s_set (m1 := mT ev (t + 1)) (x := .int ((c + 104729 * ((t + 1 : Nat) : Int)) % 4294967291)) (e_op2 (m1 := mT ev (t + 1)) (m2 := mT ev (t + 1)) (e_op2 (x := .int c) (y := .int (104729 * ((t + 1 : Nat) : Int))) (m1 := mT ev (t + 1)) (m2 := mT ev (t + 1)) rfl (e_op2 (x := .int 104729) (y := .int ((t + 1 : Nat) : Int)) (m1 := mT ev (t + 1)) (m2 := mT ev (t + 1)) rfl rfl ?_) rfl) rfl rfl)) ?_
    · exact b2_mul (by decide) (by decide)
    generalize (c + 104729 * ((t + 1 : Nat) : Int)) % 4294967291 = n at n0 n1
    refine ss_nx (s_set (m1 := mT ev (t + 1)) (x := .int (n * n % 4294967279 * 48271 % 4294967291)) (e_op2 (x := .int (n * n % 4294967279 * 48271)) (y := .int 4294967291) (m1 := mT ev (t + 1)) (m2 := mT ev (t + 1)) (e_op2 (x := .int (n * n % 4294967279)) (y := .int 48271) (m1 := mT ev (t + 1)) (m2 := mT ev (t + 1)) (e_op2 (x := .int (n * n)) (y := .int 4294967279) (m1 := mT ev (t + 1)) (m2 := mT ev (t + 1)) (e_op2 (x := .int n) (y := .int n) (m1 := mT ev (t + 1)) (m2 := mT ev (t + 1)) rfl rfl ?_) rfl rfl) rfl ?_) rfl rfl)) ?_
    · exact b2_mul (by omega) (by omega)
    · have q0 := Int.emod_nonneg (n * n) (show (4294967279 : Int) ≠ 0 by decide)
      have q1 := Int.emod_lt_of_pos (n * n) (show (0 : Int) < 4294967279 by decide)
      exact b2_mul (by omega) (by omega)
    · refine ss_rt (s_ret (e_op2 (y := .int many) (m1 := mT ev (t + 1)) (m2 := mT ev (t + 1)) (e_op2 (x := .int (n * n % 4294967279 * 48271 % 4294967291)) (y := .int 64) (m1 := mT ev (t + 1)) (m2 := mT ev (t + 1)) rfl rfl rfl) rfl ?_))
      show (if 0 < many then _ else none) = _
      rw [if_pos h0]
  cases sc with
  | nil =>
    obtain ⟨v, v0, v1, e⟩ := rest 0
    refine ⟨v, v0, v1, ?_⟩
    exact fin_rt (ss_nx (s_expr (e_op2 (m1 := mT ev t) (m2 := mT ev t) rfl rfl a1)) (ss_nx (s_set (e_op1 (m1 := mT ev (t + 1)) rfl a2)) (ss_nx (s_set (x := .int 0) (m1 := mT ev (t + 1)) rfl) (ss_nx (s_if_f (m1 := mT ev (t + 1)) rfl ss_nil) e))))
  | cons a as =>
    obtain ⟨c, hc⟩ := at_mod (a :: as) ((t + 1 : Nat) : Int) (by simp)
    obtain ⟨v, v0, v1, e⟩ := rest c
    refine ⟨v, v0, v1, ?_⟩
    refine fin_rt (ss_nx (s_expr (e_op2 (m1 := mT ev t) (m2 := mT ev t) rfl rfl a1)) (ss_nx (s_set (e_op1 (m1 := mT ev (t + 1)) rfl a2)) (ss_nx (s_set (x := .int 0) (m1 := mT ev (t + 1)) rfl) (ss_nx (s_if_t (m1 := mT ev (t + 1)) rfl (ss_nx (s_set (m1 := mT ev (t + 1)) (x := .int c) ?_) ss_nil)) e))))
    refine e_op2 (x := .scr ((a :: as).map D.int)) (y := .int (((t + 1 : Nat) : Int) % ((a :: as).map D.int).length)) (m1 := mT ev (t + 1)) (m2 := mT ev (t + 1)) rfl (e_op2 (x := .int ((t + 1 : Nat) : Int)) (y := .int ((a :: as).map D.int).length) (m1 := mT ev (t + 1)) (m2 := mT ev (t + 1)) rfl rfl ?_) ?_
    · show (if (0 : Int) < ((a :: as).map D.int).length then _ else none) = _
      rw [if_pos (by simp only [List.map_cons, List.length_cons]; omega)]
    · show ((some ((a :: as).map D.int)).bind fun xs => (atI xs (((t + 1 : Nat) : Int) % ((a :: as).map D.int).length)).map fun d => (d, mT ev (t + 1))) = _
      rw [Option.bind_some, hc, Option.map_some]
end K02

namespace K02
open PySem PySem.Spec PyProof.Rows L2 Ky
abbrev S (sc : List Int) : D := .scr (sc.map D.int)
theorem e_draw {sc : List Int} {ev : List D} {k t : Nat} {many : Int} {ρ : Ky.Env} {e : E} (h0 : 0 < many) (ht : t < 1000000) (r0 : ρ[0]? = some (some (S sc))) (r1 : ρ[1]? = some (some (.h 0))) (he : ∀ m, evE (callN P (k + 1)) e ρ m = some (.int many, m)) : ∃ v, 0 ≤ v ∧ v < many ∧ evE (callN P (k + 1)) (.callF 17 (.cons (.var 0) (.cons (.var 1) (.cons e .nil)))) ρ (mT ev t) = some (.int v, mT ev (t + 1)) := by
  obtain ⟨v, v0, v1, h⟩ := draw sc ev k t many h0 ht
  exact ⟨v, v0, v1, e_callF (es_cons (e_var r0) (es_cons (e_var r1) (es_cons (he _) es_nil))) h⟩
theorem pick (sc : List Int) (ev : List D) (k t : Nat) (ht : t < 1000000) : ∃ p : F3, callN P (k + 2) 18 [S sc, .h 0, .lst [.tup [.int 0, .int 1], .tup [.int 0, .int 2], .tup [.int 1, .int 2]]] (mT ev t) = some (.tup [.int (p1 p).i, .int (p2 p).i], mT ev (t + 1)) := by
  obtain ⟨v, v0, v1, h⟩ := e_draw (sc := sc) (ev := ev) (k := k) (t := t) (many := 3) (ρ := [some (S sc), some (.h 0), some (.lst [.tup [.int 0, .int 1], .tup [.int 0, .int 2], .tup [.int 1, .int 2]])]) (e := .op1 .len (.var 2)) (by decide) ht rfl rfl (fun _ => rfl)
  obtain ⟨p, rfl⟩ := F3.of v0 v1
  refine ⟨p, ?_⟩
  refine fin_rt (ρ := [some (S sc), some (.h 0), some (.lst [.tup [.int 0, .int 1], .tup [.int 0, .int 2], .tup [.int 1, .int 2]])]) (ss_rt (s_ret (e_op2 (m1 := mT ev t) rfl h ?_)))
  cases p <;> rfl
theorem ins_len (x : Int) : ∀ l : List Int, (insI x l).length = l.length + 1
  | [] => rfl
  | y :: l => by
    unfold insI
    split
    · rfl
    · simp only [List.length_cons, ins_len x l]
theorem sort_len : ∀ l : List Int, (sortI l).length = l.length
  | [] => rfl
  | x :: l => by rw [sortI, ins_len, sort_len l]; rfl
theorem plain (sc : List Int) (ev : List D) (k t : Nat) (ht : t + 7 ≤ 1000000) : ∃ (p : Pk) (t' : Nat), t' ≤ t + 7 ∧ callN P (k + 3) 19 [S sc, .h 0] (mT ev t) = some (p.d, mT ev t') := by
  obtain ⟨kd, k0, k1, hk⟩ := e_draw (sc := sc) (ev := ev) (k := k + 1) (t := t) (many := 9) (ρ := [some (S sc), some (.h 0), none, none, none, none, none, none]) (e := .cst (.int 9)) (by decide) (by omega) rfl rfl (fun _ => rfl)
  obtain ⟨fi, f0, f1, hf⟩ := e_draw (sc := sc) (ev := ev) (k := k + 1) (t := t + 1) (many := 3) (ρ := [some (S sc), some (.h 0), some (.int kd), none, none, none, none, none]) (e := .cst (.int 3)) (by decide) (by omega) rfl rfl (fun _ => rfl)
  obtain ⟨f, rfl⟩ := F3.of f0 f1
  have go : ∀ (p : Pk) (t' : Nat) (ρ : Ky.Env), t' ≤ t + 7 → evSs (callN P (k + 2)) (.cons (.ife (.val (.op2 .lt (.var 2) (.cst (.int 2)))) (.cons (.ret (.tup (.cons (.cst (.str "up")) (.cons (.var 3) .nil)))) .nil) .nil) (.cons (.ife (.val (.op2 .lt (.var 2) (.cst (.int 4)))) (.cons (.ret (.tup (.cons (.op2 .ix (.lst (.cons (.cst (.str "part")) (.cons (.cst (.str "rest")) .nil))) (.op2 .sub (.var 2) (.cst (.int 2)))) (.cons (.var 3) (.cons (.op2 .add (.cst (.int 2)) (.callF 17 (.cons (.var 0) (.cons (.var 1) (.cons (.cst (.int 2)) .nil))))) .nil))))) .nil) .nil) (.cons (.ife (.val (.op2 .lt (.var 2) (.cst (.int 6)))) (.cons (.set 5 (.tup .nil)) (.cons (.for_ (.rng (.op2 .add (.cst (.int 1)) (.callF 17 (.cons (.var 0) (.cons (.var 1) (.cons (.cst (.int 4)) .nil)))))) (.name 6) (.cons (.set 7 (.callF 17 (.cons (.var 0) (.cons (.var 1) (.cons (.cst (.int 6)) .nil))))) (.cons (.ife (.val (.op2 .notin (.var 7) (.var 5))) (.cons (.set 5 (.op2 .add (.var 5) (.tup (.cons (.var 7) .nil)))) .nil) .nil) .nil))) (.cons (.ret (.ite (.val (.op2 .eq (.var 2) (.cst (.int 4)))) (.tup (.cons (.cst (.str "table")) (.cons (.var 3) (.cons (.var 5) .nil)))) (.tup (.cons (.cst (.str "among")) (.cons (.var 3) (.cons (.op1 .tuple (.op1 .sorted (.var 5))) .nil)))))) .nil))) .nil) (.cons (.set 4 (.callF 18 (.cons (.var 0) (.cons (.var 1) (.cons (.lst (.cons (.tup (.cons (.cst (.int 0)) (.cons (.cst (.int 1)) .nil))) (.cons (.tup (.cons (.cst (.int 0)) (.cons (.cst (.int 2)) .nil))) (.cons (.tup (.cons (.cst (.int 1)) (.cons (.cst (.int 2)) .nil))) .nil)))) .nil))))) (.cons (.ret (.op2 .add (.tup (.cons (.op2 .ix (.lst (.cons (.cst (.str "sum")) (.cons (.cst (.str "gap")) (.cons (.cst (.str "most")) .nil)))) (.op2 .sub (.var 2) (.cst (.int 6)))) .nil)) (.var 4))) .nil))))) [some (S sc), some (.h 0), some (.int kd), some (.int f.i), none, none, none, none] (mT ev (t + 2)) = some (.rt p.d, ρ, mT ev t') → ∃ (p : Pk) (t' : Nat), t' ≤ t + 7 ∧ callN P (k + 3) 19 [S sc, .h 0] (mT ev t) = some (p.d, mT ev t') := fun p t' ρ h1 h => ⟨p, t', h1, fin_rt (ss_nx (s_set hk) (ss_nx (s_set hf) h))⟩
  have loop : ∃ (n : Ns) (t' : Nat) (x6 x7 : Option D), t' ≤ t + 7 ∧ evS (callN P (k + 2)) (.for_ (.rng (.op2 .add (.cst (.int 1)) (.callF 17 (.cons (.var 0) (.cons (.var 1) (.cons (.cst (.int 4)) .nil)))))) (.name 6) (.cons (.set 7 (.callF 17 (.cons (.var 0) (.cons (.var 1) (.cons (.cst (.int 6)) .nil))))) (.cons (.ife (.val (.op2 .notin (.var 7) (.var 5))) (.cons (.set 5 (.op2 .add (.var 5) (.tup (.cons (.var 7) .nil)))) .nil) .nil) .nil))) [some (S sc), some (.h 0), some (.int kd), some (.int f.i), none, some (.tup []), none, none] (mT ev (t + 2)) = some (.nx, [some (S sc), some (.h 0), some (.int kd), some (.int f.i), none, some (.tup (n.l.map D.int)), x6, x7], mT ev t') := by
    obtain ⟨c, c0, c1, hc⟩ := e_draw (sc := sc) (ev := ev) (k := k + 1) (t := t + 2) (many := 4) (ρ := [some (S sc), some (.h 0), some (.int kd), some (.int f.i), none, some (.tup []), none, none]) (e := .cst (.int 4)) (by decide) (by omega) rfl rfl (fun _ => rfl)
    have hlen : (rngD 0 (1 + c)).length ≤ 4 := by rw [rngD_len' (by omega)]; omega
    obtain ⟨ρ', m', hl, ns, t', x6, x7, h1, h2, rfl, rfl⟩ := loopF_inv (body := fun ρ m => evSs (callN P (k + 2)) (.cons (.set 7 (.callF 17 (.cons (.var 0) (.cons (.var 1) (.cons (.cst (.int 6)) .nil))))) (.cons (.ife (.val (.op2 .notin (.var 7) (.var 5))) (.cons (.set 5 (.op2 .add (.var 5) (.tup (.cons (.var 7) .nil)))) .nil) .nil) .nil)) ρ m) (tg := .name 6) (s := ⟨rngD 0 (1 + c), none⟩) rfl (fun i ρ m => ∃ (ns : List Int) (t' : Nat) (x6 x7 : Option D), ns.length ≤ i ∧ t' ≤ t + 3 + i ∧ ρ = [some (S sc), some (.h 0), some (.int kd), some (.int f.i), none, some (.tup (ns.map D.int)), x6, x7] ∧ m = mT ev t') (rngD 0 (1 + c)) 0 [some (S sc), some (.h 0), some (.int kd), some (.int f.i), none, some (.tup []), none, none] (mT ev (t + 3)) ⟨[], t + 3, none, none, Nat.le_refl _, Nat.le_refl _, rfl, rfl⟩ (by
      rintro x hx j hj0 hj ρ m ⟨ns, t', x6, x7, h1, h2, rfl, rfl⟩
      obtain ⟨v, v0, v1, hv⟩ := e_draw (sc := sc) (ev := ev) (k := k + 1) (t := t') (many := 6) (ρ := [some (S sc), some (.h 0), some (.int kd), some (.int f.i), none, some (.tup (ns.map D.int)), some x, x7]) (e := .cst (.int 6)) (by decide) (by omega) rfl rfl (fun _ => rfl)
      have hi : intsD (ns.map D.int) = some ns := intsD_map ns
      refine ⟨[some (S sc), some (.h 0), some (.int kd), some (.int f.i), none, some (.tup (ns.map D.int)), some x, x7], ?_⟩
      cases q : inI v ns with
      | true =>
        exact ⟨_, _, rfl, ss_nx (s_set hv) (ss_nx (s_if_f (t_val (x := .bl false) (m1 := mT ev (t' + 1)) (e_op2 (x := .int v) (y := .tup (ns.map D.int)) (m1 := mT ev (t' + 1)) (m2 := mT ev (t' + 1)) rfl rfl (by simp only [b2, hi, Option.map_some, q, Bool.not_true])) rfl) ss_nil) ss_nil), ns, t' + 1, some x, some (.int v), by omega, by omega, rfl, rfl⟩
      | false =>
        refine ⟨_, _, rfl, ss_nx (s_set hv) (ss_nx (s_if_t (t_val (x := .bl true) (m1 := mT ev (t' + 1)) (e_op2 (x := .int v) (y := .tup (ns.map D.int)) (m1 := mT ev (t' + 1)) (m2 := mT ev (t' + 1)) rfl rfl (by simp only [b2, hi, Option.map_some, q, Bool.not_false])) rfl) (ss_nx (s_set (x := .tup ((ns ++ [v]).map D.int)) (m1 := mT ev (t' + 1)) (e_op2 (x := .tup (ns.map D.int)) (y := .tup [.int v]) (m1 := mT ev (t' + 1)) (m2 := mT ev (t' + 1)) rfl rfl ?_)) ss_nil)) ss_nil), ns ++ [v], t' + 1, some x, some (.int v), by simp only [List.length_append, List.length_singleton]; omega, by omega, rfl, rfl⟩
        simp only [b2, List.length_map, List.length_cons, List.length_nil, List.map_append, List.map_cons, List.map_nil]
        rw [if_pos (by unfold big; omega)])
    exact ⟨⟨ns, by omega⟩, t', x6, x7, by omega, s_for (i_rng (e_op2 (x := .int 1) (y := .int c) (m1 := mT ev (t + 2)) rfl hc rfl) (by simp only [fitR, Bool.and_eq_true, decide_eq_true_eq]; omega)) hl⟩
  have kc : kd = 0 ∨ kd = 1 ∨ kd = 2 ∨ kd = 3 ∨ kd = 4 ∨ kd = 5 ∨ kd = 6 ∨ kd = 7 ∨ kd = 8 := by omega
  rcases kc with r | r | r | r | r | r | r | r | r <;> subst r
  · exact go (.up f) (t + 2) _ (by omega) (ss_rt (s_if_t (m1 := mT ev (t + 2)) rfl (ss_rt (s_ret (m1 := mT ev (t + 2)) rfl))))
  · exact go (.up f) (t + 2) _ (by omega) (ss_rt (s_if_t (m1 := mT ev (t + 2)) rfl (ss_rt (s_ret (m1 := mT ev (t + 2)) rfl))))
  · obtain ⟨c, c0, c1, hc⟩ := e_draw (sc := sc) (ev := ev) (k := k + 1) (t := t + 2) (many := 2) (ρ := [some (S sc), some (.h 0), some (.int 2), some (.int f.i), none, none, none, none]) (e := .cst (.int 2)) (by decide) (by omega) rfl rfl (fun _ => rfl)
    have cc : c = 0 ∨ c = 1 := by omega
    rcases cc with r | r <;> subst r
    · exact go (.part f .two) (t + 3) _ (by omega) (ss_nx (s_if_f (m1 := mT ev (t + 2)) rfl ss_nil) (ss_rt (s_if_t (m1 := mT ev (t + 2)) rfl (ss_rt (s_ret (e_tup (es_cons (m1 := mT ev (t + 2)) (x := .str "part") rfl (es_cons (m1 := mT ev (t + 2)) (x := .int f.i) rfl (es_cons (e_op2 (x := .int 2) (m1 := mT ev (t + 2)) rfl hc rfl) es_nil))) (by simp only [List.length_cons, List.length_nil]; decide)))))))
    · exact go (.part f .three) (t + 3) _ (by omega) (ss_nx (s_if_f (m1 := mT ev (t + 2)) rfl ss_nil) (ss_rt (s_if_t (m1 := mT ev (t + 2)) rfl (ss_rt (s_ret (e_tup (es_cons (m1 := mT ev (t + 2)) (x := .str "part") rfl (es_cons (m1 := mT ev (t + 2)) (x := .int f.i) rfl (es_cons (e_op2 (x := .int 2) (m1 := mT ev (t + 2)) rfl hc rfl) es_nil))) (by simp only [List.length_cons, List.length_nil]; decide)))))))
  · obtain ⟨c, c0, c1, hc⟩ := e_draw (sc := sc) (ev := ev) (k := k + 1) (t := t + 2) (many := 2) (ρ := [some (S sc), some (.h 0), some (.int 3), some (.int f.i), none, none, none, none]) (e := .cst (.int 2)) (by decide) (by omega) rfl rfl (fun _ => rfl)
    have cc : c = 0 ∨ c = 1 := by omega
    rcases cc with r | r <;> subst r
    · exact go (.rest f .two) (t + 3) _ (by omega) (ss_nx (s_if_f (m1 := mT ev (t + 2)) rfl ss_nil) (ss_rt (s_if_t (m1 := mT ev (t + 2)) rfl (ss_rt (s_ret (e_tup (es_cons (m1 := mT ev (t + 2)) (x := .str "rest") rfl (es_cons (m1 := mT ev (t + 2)) (x := .int f.i) rfl (es_cons (e_op2 (x := .int 2) (m1 := mT ev (t + 2)) rfl hc rfl) es_nil))) (by simp only [List.length_cons, List.length_nil]; decide)))))))
    · exact go (.rest f .three) (t + 3) _ (by omega) (ss_nx (s_if_f (m1 := mT ev (t + 2)) rfl ss_nil) (ss_rt (s_if_t (m1 := mT ev (t + 2)) rfl (ss_rt (s_ret (e_tup (es_cons (m1 := mT ev (t + 2)) (x := .str "rest") rfl (es_cons (m1 := mT ev (t + 2)) (x := .int f.i) rfl (es_cons (e_op2 (x := .int 2) (m1 := mT ev (t + 2)) rfl hc rfl) es_nil))) (by simp only [List.length_cons, List.length_nil]; decide)))))))
  · obtain ⟨n, t', x6, x7, h1, hl⟩ := loop
    exact go (.table f n) t' _ h1 (ss_nx (s_if_f (m1 := mT ev (t + 2)) rfl ss_nil) (ss_nx (s_if_f (m1 := mT ev (t + 2)) rfl ss_nil) (ss_rt (s_if_t (m1 := mT ev (t + 2)) rfl (ss_nx (s_set (m1 := mT ev (t + 2)) (x := .tup []) rfl) (ss_nx hl (ss_rt (s_ret (e_ite_t (m1 := mT ev t') rfl rfl)))))))))
  · obtain ⟨n, t', x6, x7, h1, hl⟩ := loop
    refine go (.among f ⟨sortI n.l, by rw [sort_len]; exact n.h⟩) t' _ h1 (ss_nx (s_if_f (m1 := mT ev (t + 2)) rfl ss_nil) (ss_nx (s_if_f (m1 := mT ev (t + 2)) rfl ss_nil) (ss_rt (s_if_t (m1 := mT ev (t + 2)) rfl (ss_nx (s_set (m1 := mT ev (t + 2)) (x := .tup []) rfl) (ss_nx hl (ss_rt (s_ret (e_ite_f (m1 := mT ev t') rfl (e_tup (es_cons (m1 := mT ev t') (x := .str "among") rfl (es_cons (m1 := mT ev t') (x := .int f.i) rfl (es_cons (x := .tup ((sortI n.l).map D.int)) (m1 := mT ev t') (e_op1 (x := .lst ((sortI n.l).map D.int)) (m1 := mT ev t') (e_op1 (x := .tup (n.l.map D.int)) (m1 := mT ev t') rfl ?_) rfl) es_nil))) (by simp only [List.length_cons, List.length_nil]; decide)))))))))))
    have := n.h
    simp only [u1, intsD_map, Option.bind_some]
    rw [if_pos (by omega)]
  · obtain ⟨p, hp⟩ := pick sc ev k (t + 2) (by omega)
    refine go (.pair .a p) (t + 3) _ (by omega) (ss_nx (s_if_f (m1 := mT ev (t + 2)) rfl ss_nil) (ss_nx (s_if_f (m1 := mT ev (t + 2)) rfl ss_nil) (ss_nx (s_if_f (m1 := mT ev (t + 2)) rfl ss_nil) (ss_nx (s_set (e_callF (m1 := mT ev (t + 2)) rfl hp)) (ss_rt (s_ret (m1 := mT ev (t + 3)) rfl))))))
  · obtain ⟨p, hp⟩ := pick sc ev k (t + 2) (by omega)
    refine go (.pair .b p) (t + 3) _ (by omega) (ss_nx (s_if_f (m1 := mT ev (t + 2)) rfl ss_nil) (ss_nx (s_if_f (m1 := mT ev (t + 2)) rfl ss_nil) (ss_nx (s_if_f (m1 := mT ev (t + 2)) rfl ss_nil) (ss_nx (s_set (e_callF (m1 := mT ev (t + 2)) rfl hp)) (ss_rt (s_ret (m1 := mT ev (t + 3)) rfl))))))
  · obtain ⟨p, hp⟩ := pick sc ev k (t + 2) (by omega)
    refine go (.pair .c p) (t + 3) _ (by omega) (ss_nx (s_if_f (m1 := mT ev (t + 2)) rfl ss_nil) (ss_nx (s_if_f (m1 := mT ev (t + 2)) rfl ss_nil) (ss_nx (s_if_f (m1 := mT ev (t + 2)) rfl ss_nil) (ss_nx (s_set (e_callF (m1 := mT ev (t + 2)) rfl hp)) (ss_rt (s_ret (m1 := mT ev (t + 3)) rfl))))))
theorem key (sc : List Int) (ev : List D) (k t : Nat) (ht : t + 8 ≤ 1000000) : ∃ (q : Kk) (t' : Nat), t' ≤ t + 8 ∧ callN P (k + 4) 20 [S sc, .h 0] (mT ev t) = some (q.d, mT ev t') := by
  obtain ⟨p, t1, h1, hp⟩ := plain sc ev k t (by omega)
  obtain ⟨c, c0, c1, hc⟩ := e_draw (sc := sc) (ev := ev) (k := k + 2) (t := t1) (many := 3) (ρ := [some (S sc), some (.h 0), some p.d]) (e := .cst (.int 3)) (by decide) (by omega) rfl rfl (fun _ => rfl)
  have cc : c = 0 ∨ c = 1 ∨ c = 2 := by omega
  rcases cc with r | r | r <;> subst r
  · exact ⟨⟨true, p⟩, t1 + 1, by omega, fin_rt (ρ := [some (S sc), some (.h 0), some p.d]) (ss_nx (s_set (e_callF (m1 := mT ev t) rfl hp)) (ss_rt (s_ret (e_ite_t (t_val (e_op2 hc (m2 := mT ev (t1 + 1)) rfl rfl) rfl) rfl))))⟩
  · exact ⟨⟨false, p⟩, t1 + 1, by omega, fin_rt (ρ := [some (S sc), some (.h 0), some p.d]) (ss_nx (s_set (e_callF (m1 := mT ev t) rfl hp)) (ss_rt (s_ret (e_ite_f (t_val (e_op2 hc (m2 := mT ev (t1 + 1)) rfl rfl) rfl) rfl))))⟩
  · exact ⟨⟨false, p⟩, t1 + 1, by omega, fin_rt (ρ := [some (S sc), some (.h 0), some p.d]) (ss_nx (s_set (e_callF (m1 := mT ev t) rfl hp)) (ss_rt (s_ret (e_ite_f (t_val (e_op2 hc (m2 := mT ev (t1 + 1)) rfl rfl) rfl) rfl))))⟩
theorem keys (sc : List Int) (ev : List D) (k t : Nat) (ht : t + 41 ≤ 1000000) : ∃ (qs : List Kk) (t' : Nat), qs.length ≤ 5 ∧ t' ≤ t + 41 ∧ callN P (k + 5) 21 [S sc, .h 0, .int 5] (mT ev t) = some (rowD qs, mT ev t') := by
  obtain ⟨c, c0, c1, hc⟩ := e_draw (sc := sc) (ev := ev) (k := k + 3) (t := t) (many := 6) (ρ := [some (S sc), some (.h 0), some (.int 5), none]) (e := .op2 .add (.var 2) (.cst (.int 1))) (by decide) (by omega) rfl rfl (fun _ => rfl)
  have hlen : (rngD 0 c).length ≤ 5 := by rw [rngD_len' (by omega)]; omega
  obtain ⟨qs, t', h1, h2, h3⟩ := compL_draw (ρ := [some (S sc), some (.h 0), some (.int 5), none]) (test := fun ρ m => evT (callN P (k + 4)) .yes ρ m) (elt := fun ρ m => evE (callN P (k + 4)) (.callF 20 (.cons (.var 0) (.cons (.var 1) .nil))) ρ m) (tg := .name 3) (s := ⟨rngD 0 c, none⟩) rfl (mT ev) Kk.d 8 1000000 (rngD 0 c) [] (t + 1) (by omega) (by unfold big; simp only [List.length_nil]; omega) (fun x _ => ⟨[some (S sc), some (.h 0), some (.int 5), some x], rfl, fun _ => rfl, fun t ht => by
    obtain ⟨q, t', h1, h2⟩ := key sc ev k t ht
    exact ⟨q, t', h1, e_callF (m1 := mT ev t) rfl h2⟩⟩)
  refine ⟨qs, t', by omega, by omega, ?_⟩
  exact fin_rt (ρ := [some (S sc), some (.h 0), some (.int 5), none]) (ss_rt (s_ret (e_op1 (e_lc (i_rng hc (by simp only [fitR, Bool.and_eq_true, decide_eq_true_eq]; omega)) h3) rfl)))
theorem thing (sc : List Int) (ev : List D) (k t : Nat) (ht : t + 3 ≤ 1000000) : ∃ x : Th, callN P (k + 2) 22 [S sc, .h 0] (mT ev t) = some (x.d, mT ev (t + 3)) := by
  have d : ∀ t, t < 1000000 → ∃ s : Six, evE (callN P (k + 1)) (.callF 17 (.cons (.var 0) (.cons (.var 1) (.cons (.cst (.int 6)) .nil)))) [some (S sc), some (.h 0)] (mT ev t) = some (.int s.i, mT ev (t + 1)) := fun t ht => by
    obtain ⟨c, c0, c1, hc⟩ := e_draw (sc := sc) (ev := ev) (k := k) (t := t) (many := 6) (ρ := [some (S sc), some (.h 0)]) (e := .cst (.int 6)) (by decide) ht rfl rfl (fun _ => rfl)
    obtain ⟨s, rfl⟩ := Six.of c0 c1
    exact ⟨s, hc⟩
  obtain ⟨a, ha⟩ := d t (by omega)
  obtain ⟨b, hb⟩ := d (t + 1) (by omega)
  obtain ⟨c, hc⟩ := d (t + 2) (by omega)
  exact ⟨⟨a, b, c⟩, fin_rt (ρ := [some (S sc), some (.h 0)]) (ss_rt (s_ret (e_tup (es_cons ha (es_cons hb (es_cons hc es_nil))) (by simp only [List.length_cons, List.length_nil]; decide))))⟩
end K02

namespace K02
open PySem PySem.Spec PyProof.Rows L2 Ky
def B3 : Ss := (.cons (.expr (.op2 .append (.var 2) (.tup (.cons (.op2 .fdiv (.var 3) (.cst (.int 36))) (.cons (.op2 .mod (.op2 .fdiv (.var 3) (.cst (.int 6))) (.cst (.int 6))) (.cons (.op2 .mod (.var 3) (.cst (.int 6))) .nil)))))) .nil)
def B12 : Ss := (.cons (.ife (.and_ (.val (.op2 .lt (.var 11) (.cst (.int 1)))) (.and_ (.val (.op2 .lt (.callF 12 (.cons (.var 5) (.cons (.var 9) (.cons (.var 12) .nil)))) (.cst (.int 1)))) (.val (.op2 .gt (.callF 12 (.cons (.var 5) (.cons (.var 8) (.cons (.var 12) .nil)))) (.cst (.int 0)))))) (.cons (.ret (.cst (.bl false))) .nil) .nil) .nil)
def B9 : Ss := (.cons (.set 11 (.callF 25 (.cons (.var 5) (.cons (.var 8) (.cons (.var 9) .nil))))) (.cons (.ife (.not_ (.val (.callF 16 (.cons (.tup (.cons (.callF 12 (.cons (.var 5) (.cons (.var 8) (.cons (.var 9) .nil)))) (.cons (.callF 12 (.cons (.var 5) (.cons (.var 9) (.cons (.var 8) .nil)))) .nil))) (.cons (.tup (.cons (.var 11) (.cons (.op2 .sub (.cst (.int 0)) (.var 11)) .nil))) .nil))))) (.cons (.ret (.cst (.bl false))) .nil) .nil) (.cons (.ife (.not_ (.val (.callF 16 (.cons (.callF 12 (.cons (.var 7) (.cons (.var 8) (.cons (.var 9) .nil)))) (.cons (.op2 .sub (.cst (.int 0)) (.var 11)) .nil))))) (.cons (.ret (.cst (.bl false))) .nil) .nil) (.cons (.for_ (.val (.var 6)) (.name 12) (.cons (.ife (.and_ (.val (.op2 .lt (.var 11) (.cst (.int 1)))) (.and_ (.val (.op2 .lt (.callF 12 (.cons (.var 5) (.cons (.var 9) (.cons (.var 12) .nil)))) (.cst (.int 1)))) (.val (.op2 .gt (.callF 12 (.cons (.var 5) (.cons (.var 8) (.cons (.var 12) .nil)))) (.cst (.int 0)))))) (.cons (.ret (.cst (.bl false))) .nil) .nil) .nil)) .nil))))
def B8 : Ss := (.cons (.ife (.not_ (.val (.callF 16 (.cons (.callF 10 (.cons (.var 5) (.cons (.var 8) .nil))) (.cons (.callF 24 (.cons (.var 5) (.cons (.var 8) .nil))) .nil))))) (.cons (.ret (.cst (.bl false))) .nil) .nil) (.cons (.ife (.not_ (.val (.callF 16 (.cons (.callF 10 (.cons (.var 7) (.cons (.var 8) .nil))) (.cons (.op1 .tuple (.lc [13] (.val (.callF 24 (.cons (.var 5) (.cons (.var 8) .nil)))) (.name 13) .yes (.op2 .sub (.cst (.int 0)) (.var 13)))) .nil))))) (.cons (.ret (.cst (.bl false))) .nil) .nil) (.cons (.for_ (.val (.var 6)) (.name 9) (.cons (.set 11 (.callF 25 (.cons (.var 5) (.cons (.var 8) (.cons (.var 9) .nil))))) (.cons (.ife (.not_ (.val (.callF 16 (.cons (.tup (.cons (.callF 12 (.cons (.var 5) (.cons (.var 8) (.cons (.var 9) .nil)))) (.cons (.callF 12 (.cons (.var 5) (.cons (.var 9) (.cons (.var 8) .nil)))) .nil))) (.cons (.tup (.cons (.var 11) (.cons (.op2 .sub (.cst (.int 0)) (.var 11)) .nil))) .nil))))) (.cons (.ret (.cst (.bl false))) .nil) .nil) (.cons (.ife (.not_ (.val (.callF 16 (.cons (.callF 12 (.cons (.var 7) (.cons (.var 8) (.cons (.var 9) .nil)))) (.cons (.op2 .sub (.cst (.int 0)) (.var 11)) .nil))))) (.cons (.ret (.cst (.bl false))) .nil) .nil) (.cons (.for_ (.val (.var 6)) (.name 12) (.cons (.ife (.and_ (.val (.op2 .lt (.var 11) (.cst (.int 1)))) (.and_ (.val (.op2 .lt (.callF 12 (.cons (.var 5) (.cons (.var 9) (.cons (.var 12) .nil)))) (.cst (.int 1)))) (.val (.op2 .gt (.callF 12 (.cons (.var 5) (.cons (.var 8) (.cons (.var 12) .nil)))) (.cst (.int 0)))))) (.cons (.ret (.cst (.bl false))) .nil) .nil) .nil)) .nil))))) .nil)))
def B4 : Ss := (.cons (.set 5 (.callF 21 (.cons (.var 0) (.cons (.var 1) (.cons (.cst (.int 5)) .nil))))) (.cons (.set 6 (.lc [10] (.rng (.cst (.int 4))) (.name 10) .yes (.callF 22 (.cons (.var 0) (.cons (.var 1) .nil))))) (.cons (.set 7 (.callF 14 (.cons (.var 5) .nil))) (.cons (.ife (.not_ (.val (.callF 16 (.cons (.callF 14 (.cons (.var 7) .nil)) (.cons (.var 5) .nil))))) (.cons (.ret (.cst (.bl false))) .nil) .nil) (.cons (.for_ (.val (.var 6)) (.name 8) (.cons (.ife (.not_ (.val (.callF 16 (.cons (.callF 10 (.cons (.var 5) (.cons (.var 8) .nil))) (.cons (.callF 24 (.cons (.var 5) (.cons (.var 8) .nil))) .nil))))) (.cons (.ret (.cst (.bl false))) .nil) .nil) (.cons (.ife (.not_ (.val (.callF 16 (.cons (.callF 10 (.cons (.var 7) (.cons (.var 8) .nil))) (.cons (.op1 .tuple (.lc [13] (.val (.callF 24 (.cons (.var 5) (.cons (.var 8) .nil)))) (.name 13) .yes (.op2 .sub (.cst (.int 0)) (.var 13)))) .nil))))) (.cons (.ret (.cst (.bl false))) .nil) .nil) (.cons (.for_ (.val (.var 6)) (.name 9) (.cons (.set 11 (.callF 25 (.cons (.var 5) (.cons (.var 8) (.cons (.var 9) .nil))))) (.cons (.ife (.not_ (.val (.callF 16 (.cons (.tup (.cons (.callF 12 (.cons (.var 5) (.cons (.var 8) (.cons (.var 9) .nil)))) (.cons (.callF 12 (.cons (.var 5) (.cons (.var 9) (.cons (.var 8) .nil)))) .nil))) (.cons (.tup (.cons (.var 11) (.cons (.op2 .sub (.cst (.int 0)) (.var 11)) .nil))) .nil))))) (.cons (.ret (.cst (.bl false))) .nil) .nil) (.cons (.ife (.not_ (.val (.callF 16 (.cons (.callF 12 (.cons (.var 7) (.cons (.var 8) (.cons (.var 9) .nil)))) (.cons (.op2 .sub (.cst (.int 0)) (.var 11)) .nil))))) (.cons (.ret (.cst (.bl false))) .nil) .nil) (.cons (.for_ (.val (.var 6)) (.name 12) (.cons (.ife (.and_ (.val (.op2 .lt (.var 11) (.cst (.int 1)))) (.and_ (.val (.op2 .lt (.callF 12 (.cons (.var 5) (.cons (.var 9) (.cons (.var 12) .nil)))) (.cst (.int 1)))) (.val (.op2 .gt (.callF 12 (.cons (.var 5) (.cons (.var 8) (.cons (.var 12) .nil)))) (.cst (.int 0)))))) (.cons (.ret (.cst (.bl false))) .nil) .nil) .nil)) .nil))))) .nil)))) .nil)))))
/-! ### depths of what is held against another -/
theorem pd_ints (n : Nat) (l : List Int) (h : l.length ≤ big) : PD (n + 1) (.tup (l.map D.int)) := by
  refine ⟨by simpa using h, fun x hx => ?_⟩
  obtain ⟨i, _, rfl⟩ := List.mem_map.mp hx
  cases n <;> trivial
theorem pd_str (n : Nat) (x : Str) : PD n (.str x) := by cases n <;> trivial
theorem pd_int (n : Nat) (i : Int) : PD n (.int i) := by cases n <;> trivial
theorem pd_two {n : Nat} {a b : D} (ha : PD n a) (hb : PD n b) : PD (n + 1) (.tup [a, b]) := by
  refine ⟨by simp only [List.length_cons, List.length_nil]; decide, fun x hx => ?_⟩
  simp only [List.mem_cons, List.not_mem_nil, or_false] at hx
  rcases hx with rfl | rfl
  · exact ha
  · exact hb
theorem pd_three {n : Nat} {a b c : D} (ha : PD n a) (hb : PD n b) (hc : PD n c) : PD (n + 1) (.tup [a, b, c]) := by
  refine ⟨by simp only [List.length_cons, List.length_nil]; decide, fun x hx => ?_⟩
  simp only [List.mem_cons, List.not_mem_nil, or_false] at hx
  rcases hx with rfl | rfl | rfl
  · exact ha
  · exact hb
  · exact hc
theorem pd_pk (n : Nat) : ∀ p : Pk, PD (n + 2) p.d
  | .up f => pd_two (pd_str _ _) (pd_int _ _)
  | .part f d => pd_three (pd_str _ _) (pd_int _ _) (pd_int _ _)
  | .rest f d => pd_three (pd_str _ _) (pd_int _ _) (pd_int _ _)
  | .table f l => pd_three (pd_str _ _) (pd_int _ _) (pd_ints n l.l (by have := l.h; unfold big; omega))
  | .among f l => pd_three (pd_str _ _) (pd_int _ _) (pd_ints n l.l (by have := l.h; unfold big; omega))
  | .pair k p => pd_three (pd_str _ _) (pd_int _ _) (pd_int _ _)
theorem pd_kk (n : Nat) : ∀ q : Kk, PD (n + 3) q.d
  | ⟨true, p⟩ => pd_two (pd_str _ _) (pd_pk n p)
  | ⟨false, p⟩ => pd_pk (n + 1) p
theorem pd_row (qs : List Kk) (hl : qs.length ≤ 5) : PD 4 (rowD qs) := by
  refine ⟨by unfold big; simp only [List.length_map]; omega, fun x hx => ?_⟩
  obtain ⟨q, _, rfl⟩ := List.mem_map.mp hx
  exact pd_kk 0 q
/-! ### the law's loops -/
abbrev Φ : Cal := callN P 19
abbrev En (sc : List Int) (x3 x4 : Option D) (qs : List Kk) (ths : List Th) (x8 x9 x10 x11 x12 x13 : Option D) : Ky.Env := [some (S sc), some (.h 0), some (.h 1), x3, x4, some (rowD qs), some (.lst (ths.map Th.d)), some (rowD (qs.map Kk.turn)), x8, x9, x10, x11, x12, x13]
variable {sc : List Int} {x3 x4 : Option D} {qs : List Kk} {ths : List Th} {x8 x9 x10 x11 x12 x13 : Option D} {m : M}
theorem third (hl : qs.length ≤ 5) (t u : Th) : ∃ x, evS Φ (.for_ (.val (.var 6)) (.name 12) B12) (En sc x3 x4 qs ths (some t.d) (some u.d) x10 (some (.int (tw qs t u))) x12 x13) m = some (.nx, En sc x3 x4 qs ths (some t.d) (some u.d) x10 (some (.int (tw qs t u))) x x13, m) := by
  obtain ⟨ρ', m', h, rfl, x, rfl⟩ := loopF_inv (body := fun ρ m => evSs Φ B12 ρ m) (tg := .name 12) (s := ⟨ths.map Th.d, none⟩) rfl (fun _ ρ m' => m' = m ∧ ∃ x, ρ = En sc x3 x4 qs ths (some t.d) (some u.d) x10 (some (.int (tw qs t u))) x x13) (ths.map Th.d) 0 _ m ⟨rfl, x12, rfl⟩ (by
    rintro x hx j _ _ ρ m' ⟨rfl, y, rfl⟩
    obtain ⟨v, _, rfl⟩ := List.mem_map.mp hx
    refine ⟨_, En sc x3 x4 qs ths (some t.d) (some u.d) x10 (some (.int (tw qs t u))) (some v.d) x13, m', rfl, ?_, rfl, _, rfl⟩
    refine ss_nx (s_if_f (m1 := m') ?_ ss_nil) ss_nil
    by_cases h1 : tw qs t u < 1
    · refine t_and_t (t_val (x := .bl true) (m1 := m') (e_op2 (x := .int (tw qs t u)) (y := .int 1) (m1 := m') (m2 := m') rfl rfl (by simp only [b2, h1, decide_true])) rfl) ?_
      by_cases h2 : tw qs u v < 1
      · refine t_and_t (t_val (x := .bl true) (m1 := m') (e_op2 (y := .int 1) (m2 := m') (e_callF (xs := [rowD qs, u.d, v.d]) (m1 := m') rfl (told qs hl u v 13 m')) rfl (by simp only [b2, h2, decide_true])) rfl) ?_
        have h3 := cw_trans (vs qs t) (vs qs u) (vs qs v) (by simp only [vs, List.length_map]) (by simp only [vs, List.length_map]) h1 h2
        exact t_val (x := .bl false) (m1 := m') (e_op2 (y := .int 0) (m2 := m') (e_callF (xs := [rowD qs, t.d, v.d]) (m1 := m') rfl (told qs hl t v 13 m')) rfl (by simp only [b2, h3, decide_false])) rfl
      · exact t_and_f (t_val (x := .bl false) (m1 := m') (e_op2 (y := .int 1) (m2 := m') (e_callF (xs := [rowD qs, u.d, v.d]) (m1 := m') rfl (told qs hl u v 13 m')) rfl (by simp only [b2, h2, decide_false])) rfl)
    · exact t_and_f (t_val (x := .bl false) (m1 := m') (e_op2 (x := .int (tw qs t u)) (y := .int 1) (m1 := m') (m2 := m') rfl rfl (by simp only [b2, h1, decide_false])) rfl))
  exact ⟨x, s_for (i_val_l (xs := ths.map Th.d) (m1 := m') rfl) h⟩
/-- what is told alike is no fault -/
theorem no_fault {ρ : Ky.Env} {a b : E} {d d' : D} {r : Ss} {z : Option (Fl × Ky.Env × M)} {n k : Nat} (hk : k + n + 1 = 19) (ha : evE Φ a ρ m = some (d, m)) (hb : evE Φ b ρ m = some (d', m)) (e : d' = d) (hd : PD n d) (h : evSs Φ r ρ m = z) : evSs Φ (.cons (.ife (.not_ (.val (.callF 16 (.cons a (.cons b .nil))))) (.cons (.ret (.cst (.bl false))) .nil) .nil) r) ρ m = z := by
  subst e
  have q := same n d' k m hd
  rw [hk] at q
  exact ss_nx (s_if_f (t_not (t_val (e_callF (es_cons ha (es_cons hb es_nil)) q) rfl)) ss_nil) h
theorem turn_vs (qs : List Kk) (t : Th) : vs (qs.map Kk.turn) t = (vs qs t).map (- ·) := by
  simp only [vs, List.map_map]
  exact List.map_congr_left fun q _ => Kk.turn_w q t
theorem neg_vs (l : List Int) : (l.map fun i => D.int (0 - i)) = (l.map (- ·)).map D.int := by
  rw [List.map_map]
  exact List.map_congr_left fun i _ => by rw [Int.zero_sub]; rfl
theorem other (hl : qs.length ≤ 5) (t : Th) : ∃ x9' x11' x12', evS Φ (.for_ (.val (.var 6)) (.name 9) B9) (En sc x3 x4 qs ths (some t.d) x9 x10 x11 x12 x13) m = some (.nx, En sc x3 x4 qs ths (some t.d) x9' x10 x11' x12' x13, m) := by
  have hl' : (qs.map Kk.turn).length ≤ 5 := by rw [List.length_map]; exact hl
  obtain ⟨ρ', m', h, rfl, a, b, c, rfl⟩ := loopF_inv (body := fun ρ m => evSs Φ B9 ρ m) (tg := .name 9) (s := ⟨ths.map Th.d, none⟩) rfl (fun _ ρ m' => m' = m ∧ ∃ a b c, ρ = En sc x3 x4 qs ths (some t.d) a x10 b c x13) (ths.map Th.d) 0 _ m ⟨rfl, x9, x11, x12, rfl⟩ (by
    rintro x hx j _ _ ρ m' ⟨rfl, a, b, c, rfl⟩
    obtain ⟨u, _, rfl⟩ := List.mem_map.mp hx
    obtain ⟨y, hy⟩ := third (sc := sc) (x3 := x3) (x4 := x4) (qs := qs) (ths := ths) (x10 := x10) (x12 := c) (x13 := x13) (m := m') hl t u
    have s1 : tw qs u t = 0 - tw qs t u := by rw [Int.zero_sub]; exact cw_swap _ _
    have s2 : tw (qs.map Kk.turn) t u = 0 - tw qs t u := by
      rw [Int.zero_sub]
      show cw _ _ = _
      rw [turn_vs, turn_vs]
      exact cw_neg _ _
    refine ⟨_, En sc x3 x4 qs ths (some t.d) (some u.d) x10 (some (.int (tw qs t u))) y x13, m', rfl, ?_, rfl, _, _, _, rfl⟩
    refine ss_nx (s_set (e_callF (xs := [rowD qs, t.d, u.d]) (m1 := m') rfl (word qs t u 16 m'))) ?_
    refine no_fault (n := 1) (k := 17) rfl (d := .tup [.int (tw qs t u), .int (tw qs u t)]) (d' := .tup [.int (tw qs t u), .int (0 - tw qs t u)]) (e_tup (es_cons (e_callF (xs := [rowD qs, t.d, u.d]) (m1 := m') rfl (told qs hl t u 13 m')) (es_cons (e_callF (xs := [rowD qs, u.d, t.d]) (m1 := m') rfl (told qs hl u t 13 m')) es_nil)) (by simp only [List.length_cons, List.length_nil]; decide)) rfl (by rw [s1]) (pd_two (pd_int _ _) (pd_int _ _)) ?_
    refine no_fault (n := 0) (k := 18) rfl (d := .int (tw (qs.map Kk.turn) t u)) (d' := .int (0 - tw qs t u)) (e_callF (xs := [rowD (qs.map Kk.turn), t.d, u.d]) (m1 := m') rfl (told _ hl' t u 13 m')) rfl (by rw [s2]) (pd_int _ _) ?_
    exact ss_nx hy ss_nil)
  exact ⟨a, b, c, s_for (i_val_l (xs := ths.map Th.d) (m1 := m') rfl) h⟩
theorem one (hl : qs.length ≤ 5) : ∃ x8' x9' x11' x12', evS Φ (.for_ (.val (.var 6)) (.name 8) B8) (En sc x3 x4 qs ths x8 x9 x10 x11 x12 x13) m = some (.nx, En sc x3 x4 qs ths x8' x9' x10 x11' x12' x13, m) := by
  have hl' : (qs.map Kk.turn).length ≤ 5 := by rw [List.length_map]; exact hl
  obtain ⟨ρ', m', h, rfl, d, a, b, c, rfl⟩ := loopF_inv (body := fun ρ m => evSs Φ B8 ρ m) (tg := .name 8) (s := ⟨ths.map Th.d, none⟩) rfl (fun _ ρ m' => m' = m ∧ ∃ d a b c, ρ = En sc x3 x4 qs ths d a x10 b c x13) (ths.map Th.d) 0 _ m ⟨rfl, x8, x9, x11, x12, rfl⟩ (by
    rintro x hx j _ _ ρ m' ⟨rfl, d, a, b, c, rfl⟩
    obtain ⟨t, _, rfl⟩ := List.mem_map.mp hx
    obtain ⟨a', b', c', hy⟩ := other (sc := sc) (x3 := x3) (x4 := x4) (qs := qs) (ths := ths) (x9 := a) (x10 := x10) (x11 := b) (x12 := c) (x13 := x13) (m := m') hl t
    have vl : ∀ qs : List Kk, qs.length ≤ 5 → (vs qs t).length ≤ big := fun qs h => by unfold big; simp only [vs, List.length_map]; omega
    refine ⟨_, En sc x3 x4 qs ths (some t.d) a' x10 b' c' x13, m', rfl, ?_, rfl, _, _, _, _, rfl⟩
    refine no_fault (n := 1) (k := 17) rfl (e_callF (xs := [rowD qs, t.d]) (m1 := m') rfl (worths qs hl t 14 m')) (e_callF (xs := [rowD qs, t.d]) (m1 := m') rfl (lworths qs hl t 16 m')) rfl (pd_ints 0 _ (vl qs hl)) ?_
    refine no_fault (n := 1) (k := 17) rfl (d' := .tup ((vs qs t).map fun i => .int (0 - i))) (e_callF (xs := [rowD (qs.map Kk.turn), t.d]) (m1 := m') rfl (worths _ hl' t 14 m')) (e_op1 (x := .lst ([] ++ (vs qs t).map fun i => .int (0 - i))) (m1 := m') (e_lc (i_val_t (e_callF (xs := [rowD qs, t.d]) (m1 := m') rfl (lworths qs hl t 16 m'))) (compL_map rfl D.int (fun i => .int (0 - i)) (vs qs t) [] (by rw [List.length_nil, Nat.zero_add]; exact vl qs hl) fun i _ => ⟨En sc x3 x4 qs ths (some t.d) a x10 b c (some (.int i)), rfl, rfl, rfl⟩)) rfl) ?_ (pd_ints 0 _ (vl _ hl')) ?_
    · rw [turn_vs, neg_vs]
    exact ss_nx hy ss_nil)
  exact ⟨d, a, b, c, s_for (i_val_l (xs := ths.map Th.d) (m1 := m') rfl) h⟩
def ev : List D := (List.range 216).map fun n => .tup [.int ((n : Nat) / 36 : Int), .int ((n : Nat) / 6 % 6 : Int), .int ((n : Nat) % 6 : Int)]
abbrev E0 (sc : List Int) (x3 x4 x5 x6 x7 x8 x9 x10 x11 x12 x13 : Option D) : Ky.Env := [some (S sc), some (.h 0), some (.h 1), x3, x4, x5, x6, x7, x8, x9, x10, x11, x12, x13]
theorem main_loop : ∃ ρ' m', evS Φ (.for_ (.rng (.cst (.int 12))) (.name 4) B4) (E0 sc x3 none none none none none none none none none none) (mT ev 0) = some (.nx, ρ', m') := by
  obtain ⟨ρ', m', h, _⟩ := loopF_inv (body := fun ρ m => evSs Φ B4 ρ m) (tg := .name 4) (s := ⟨rngD 0 12, none⟩) rfl (fun i ρ m' => ∃ t x4 x5 x6 x7 x8 x9 x10 x11 x12 x13, t ≤ 53 * i ∧ m' = mT ev t ∧ ρ = E0 sc x3 x4 x5 x6 x7 x8 x9 x10 x11 x12 x13) (rngD 0 12) 0 (E0 sc x3 none none none none none none none none none none) (mT ev 0) ⟨0, none, none, none, none, none, none, none, none, none, none, Nat.le_refl _, rfl, rfl⟩ (by
    rintro x hx j _ hj ρ m' ⟨t, x4, x5, x6, x7, x8, x9, x10, x11, x12, x13, ht, rfl, rfl⟩
    have hj' : j < 12 := by rw [rngD_len' (by decide)] at hj; simpa using hj
    obtain ⟨qs, t1, hl, h1, hq⟩ := keys sc ev 14 t (by omega)
    obtain ⟨ths, t2, h2, h3, hth⟩ := compL_draw (ρ := (wipeD (E0 sc x3 (some x) (some (rowD qs)) x6 x7 x8 x9 x10 x11 x12 x13) [10])) (test := fun ρ m => evT Φ .yes ρ m) (elt := fun ρ m => evE Φ (.callF 22 (.cons (.var 0) (.cons (.var 1) .nil))) ρ m) (tg := .name 10) (s := ⟨rngD 0 4, none⟩) rfl (mT ev) Th.d 3 1000000 (rngD 0 4) [] t1 (by rw [rngD_len' (by decide)]; simp; omega) (by unfold big; rw [rngD_len' (by decide)]; simp) (fun y _ => ⟨_, rfl, fun _ => rfl, fun t ht => by
      obtain ⟨q, h2⟩ := thing sc ev 17 t ht
      exact ⟨q, t + 3, by omega, e_callF (m1 := mT ev t) rfl h2⟩⟩)
    rw [rngD_len' (by decide)] at h3
    have hl' : (qs.map Kk.turn).length ≤ 5 := by rw [List.length_map]; exact hl
    have tt : rowD ((qs.map Kk.turn).map Kk.turn) = rowD qs := by
      rw [List.map_map]
      congr 2
      conv => rhs; rw [← List.map_id qs]
      exact List.map_congr_left fun q _ => Kk.turn_turn q
    obtain ⟨a, b, c, d, hy⟩ := one (sc := sc) (x3 := x3) (x4 := some x) (qs := qs) (ths := ths) (x8 := x8) (x9 := x9) (x10 := x10) (x11 := x11) (x12 := x12) (x13 := x13) (m := mT ev t2) hl
    have hth' := e_lc (Φ := Φ) (own := [10]) (it := .rng (.cst (.int 4))) (tg := .name 10) (t := .yes) (elt := .callF 22 (.cons (.var 0) (.cons (.var 1) .nil))) (ρ := E0 sc x3 (some x) (some (rowD qs)) x6 x7 x8 x9 x10 x11 x12 x13) (m := mT ev t1) (m1 := mT ev t1) (s := ⟨rngD 0 4, none⟩) rfl hth
    refine ⟨_, En sc x3 (some x) qs ths a b x10 c d x13, mT ev t2, rfl, ?_, t2, _, _, _, _, _, _, _, _, _, _, by have h4 : (4 : Int).toNat = 4 := rfl; omega, rfl, rfl⟩
    refine ss_nx (s_set (e_callF (xs := [S sc, .h 0, .int 5]) (m1 := mT ev t) rfl hq)) (ss_nx (s_set hth') (ss_nx (s_set (e_callF (xs := [rowD qs]) (m1 := mT ev t2) rfl (turned qs hl 17 _))) ?_))
    refine no_fault (n := 4) (k := 14) rfl (e_callF (xs := [rowD (qs.map Kk.turn)]) (m1 := mT ev t2) rfl (turned _ hl' 17 _)) (d' := rowD qs) rfl tt.symm (by rw [tt]; exact pd_row qs hl) ?_
    exact ss_nx hy ss_nil)
  exact ⟨ρ', m', s_for (i_rng (m1 := mT ev 0) rfl rfl) h⟩
theorem every (sc : List Int) : evS Φ (.for_ (.rng (.cst (.int 216))) (.name 3) B3) (E0 sc none none none none none none none none none none none) (mT [] 0) = some (.nx, E0 sc (some (.int 215)) none none none none none none none none none none, mT ev 0) := by kernel_rfl
theorem allThings (m : M) : callN P 19 15 [] m = some (.tup ev, m) := by kernel_rfl
theorem pd_ev : PD 2 (.tup ev) := by
  refine ⟨by unfold big ev; simp, fun x hx => ?_⟩
  obtain ⟨n, _, rfl⟩ := List.mem_map.mp hx
  exact pd_three (pd_int _ _) (pd_int _ _) (pd_int _ _)
theorem math : ∀ ns : List Int, ns.length ≤ 63 → ∃ m', callN (recs.map (·.F)) depth 26 [.scr (ns.map D.int)] [] = some (.bl true, m') := by
  intro sc _
  obtain ⟨ρ', m', h⟩ := main_loop (sc := sc) (x3 := some (.int 215))
  refine ⟨m', ?_⟩
  show fin (evSs Φ fb26 [some (S sc), none, none, none, none, none, none, none, none, none, none, none, none, none] []) = _
  refine fin_rt (ρ := ρ') (ss_nx (s_set (m1 := [.ml []]) (x := .h 0) rfl) (ss_nx (s_set (m1 := [.ml [], .ml []]) (x := .h 1) rfl) (ss_nx (every sc) ?_)))
  refine no_fault (n := 2) (k := 16) rfl (e_callF (xs := []) (m1 := mT ev 0) rfl (allThings _)) (d' := .tup ev) (e_op1 (x := .h 1) (m1 := mT ev 0) rfl rfl) rfl pd_ev ?_
  exact ss_nx h (ss_rt (s_ret (m1 := m') rfl))
end K02

open PySem PySem.W PyProof.Rows
set_option maxHeartbeats 0 in
theorem PySem.Challenge.cw_keyorders_k02_whole_what_rows_tell_holds : PySem.Challenge.rw_keyorders_k02_whole_what_rows_tell.Holds := by
  w_on; o_law; k_head; (case hw => w_witness2)
  k_fill
  refine L2.walk_ofK (l := PySem.Challenge.rw_keyorders_k02_whole_what_rows_tell) (n := 63) (k := K02.depth) (x := "_law_script") (CX := L2.CX0) (sp := Ky.spLaw) rfl (by decide) rfl ⟨rfl, by decide, by decide⟩ (fun w h Y => PySem.W.kIn_of Y) ?F (fun K H a ns hl hO hS => ⟨a, ns, rfl, hO, hS, hl, fun _ => rfl⟩) (fun _ _ _ _ z => z)
  case F =>
    intro w mg fa h KX G hmg
    have e0 : Ky.FnEx (L2.KOf KX) K02.rc0 := by
      dsimp only [L2.KOf]
      refine' Ky.fn_ex ?a ?l ?c ?k
      (case a => k_is); (case l => k_is); (case c => k_is); (case k => k_is)
    have e1 : Ky.FnEx (L2.KOf KX) K02.rc1 := by
      dsimp only [L2.KOf]
      refine' Ky.fn_ex ?a ?l ?c ?k
      (case a => k_is); (case l => k_is); (case c => k_is); (case k => k_is)
    have e2 : Ky.FnEx (L2.KOf KX) K02.rc2 := by
      dsimp only [L2.KOf]
      refine' Ky.fn_ex ?a ?l ?c ?k
      (case a => k_is); (case l => k_is); (case c => k_is); (case k => k_is)
    have e3 : Ky.FnEx (L2.KOf KX) K02.rc3 := by
      dsimp only [L2.KOf]
      refine' Ky.fn_ex ?a ?l ?c ?k
      (case a => k_is); (case l => k_is); (case c => k_is); (case k => k_is)
    have e4 : Ky.FnEx (L2.KOf KX) K02.rc4 := by
      dsimp only [L2.KOf]
      refine' Ky.fn_ex ?a ?l ?c ?k
      (case a => k_is); (case l => k_is); (case c => k_is); (case k => k_is)
    have e5 : Ky.FnEx (L2.KOf KX) K02.rc5 := by
      dsimp only [L2.KOf]
      refine' Ky.fn_ex ?a ?l ?c ?k
      (case a => k_is); (case l => k_is); (case c => k_is); (case k => k_is)
    have e6 : Ky.FnEx (L2.KOf KX) K02.rc6 := by
      dsimp only [L2.KOf]
      refine' Ky.fn_ex ?a ?l ?c ?k
      (case a => k_is); (case l => k_is); (case c => k_is); (case k => k_is)
    have e7 : Ky.FnEx (L2.KOf KX) K02.rc7 := by
      dsimp only [L2.KOf]
      refine' Ky.fn_ex ?a ?l ?c ?k
      (case a => k_is); (case l => k_is); (case c => k_is); (case k => k_is)
    have e8 : Ky.FnEx (L2.KOf KX) K02.rc8 := by
      dsimp only [L2.KOf]
      refine' Ky.fn_ex ?a ?l ?c ?k
      (case a => k_is); (case l => k_is); (case c => k_is); (case k => k_is)
    have e9 : Ky.FnEx (L2.KOf KX) K02.rc9 := by
      dsimp only [L2.KOf]
      refine' Ky.fn_ex ?a ?l ?c ?k
      (case a => k_is); (case l => k_is); (case c => k_is); (case k => k_is)
    have e10 : Ky.FnEx (L2.KOf KX) K02.rc10 := by
      dsimp only [L2.KOf]
      refine' Ky.fn_ex ?a ?l ?c ?k
      (case a => k_is); (case l => k_is); (case c => k_is); (case k => k_is)
    have e11 : Ky.FnEx (L2.KOf KX) K02.rc11 := by
      dsimp only [L2.KOf]
      refine' Ky.fn_ex ?a ?l ?c ?k
      (case a => k_is); (case l => k_is); (case c => k_is); (case k => k_is)
    have e12 : Ky.FnEx (L2.KOf KX) K02.rc12 := by
      dsimp only [L2.KOf]
      refine' Ky.fn_ex ?a ?l ?c ?k
      (case a => k_is); (case l => k_is); (case c => k_is); (case k => k_is)
    have e13 : Ky.FnEx (L2.KOf KX) K02.rc13 := by
      dsimp only [L2.KOf]
      refine' Ky.fn_ex ?a ?l ?c ?k
      (case a => k_is); (case l => k_is); (case c => k_is); (case k => k_is)
    have e14 : Ky.FnEx (L2.KOf KX) K02.rc14 := by
      dsimp only [L2.KOf]
      refine' Ky.fn_ex ?a ?l ?c ?k
      (case a => k_is); (case l => k_is); (case c => k_is); (case k => k_is)
    have e15 : Ky.FnEx (L2.KOf KX) K02.rc15 := by
      dsimp only [L2.KOf]
      refine' Ky.fn_ex ?a ?l ?c ?k
      (case a => k_is); (case l => k_is); (case c => k_is); (case k => k_is)
    have e16 : Ky.FnEx (L2.KOf KX) K02.rc16 := by
      dsimp only [L2.KOf]
      refine' Ky.fn_ex ?a ?l ?c ?k
      (case a => k_is); (case l => k_is); (case c => k_is); (case k => k_is)
    have e17 : Ky.FnEx (L2.KOf KX) K02.rc17 := by
      dsimp only [L2.KOf]
      refine' Ky.fn_ex ?a ?l ?c ?k
      (case a => k_is); (case l => k_is); (case c => k_is); (case k => k_is)
    have e18 : Ky.FnEx (L2.KOf KX) K02.rc18 := by
      dsimp only [L2.KOf]
      refine' Ky.fn_ex ?a ?l ?c ?k
      (case a => k_is); (case l => k_is); (case c => k_is); (case k => k_is)
    have e19 : Ky.FnEx (L2.KOf KX) K02.rc19 := by
      dsimp only [L2.KOf]
      refine' Ky.fn_ex ?a ?l ?c ?k
      (case a => k_is); (case l => k_is); (case c => k_is); (case k => k_is)
    have e20 : Ky.FnEx (L2.KOf KX) K02.rc20 := by
      dsimp only [L2.KOf]
      refine' Ky.fn_ex ?a ?l ?c ?k
      (case a => k_is); (case l => k_is); (case c => k_is); (case k => k_is)
    have e21 : Ky.FnEx (L2.KOf KX) K02.rc21 := by
      dsimp only [L2.KOf]
      refine' Ky.fn_ex ?a ?l ?c ?k
      (case a => k_is); (case l => k_is); (case c => k_is); (case k => k_is)
    have e22 : Ky.FnEx (L2.KOf KX) K02.rc22 := by
      dsimp only [L2.KOf]
      refine' Ky.fn_ex ?a ?l ?c ?k
      (case a => k_is); (case l => k_is); (case c => k_is); (case k => k_is)
    have e23 : Ky.FnEx (L2.KOf KX) K02.rc23 := by
      dsimp only [L2.KOf]
      refine' Ky.fn_ex ?a ?l ?c ?k
      (case a => k_is); (case l => k_is); (case c => k_is); (case k => k_is)
    have e24 : Ky.FnEx (L2.KOf KX) K02.rc24 := by
      dsimp only [L2.KOf]
      refine' Ky.fn_ex ?a ?l ?c ?k
      (case a => k_is); (case l => k_is); (case c => k_is); (case k => k_is)
    have e25 : Ky.FnEx (L2.KOf KX) K02.rc25 := by
      dsimp only [L2.KOf]
      refine' Ky.fn_ex ?a ?l ?c ?k
      (case a => k_is); (case l => k_is); (case c => k_is); (case k => k_is)
    have e26 : Ky.FnEx (L2.KOf KX) K02.rc26 := by
      dsimp only [L2.KOf]
      refine' Ky.fn_ex ?a ?l ?c ?k
      (case a => k_is); (case l => k_is); (case c => k_is); (case k => k_is)
    have b_abs : PySem.W.nsIn (L2.KOf KX) mainGlobals "abs" = some none := by
      dsimp only [L2.KOf]
      k_is
    have b_all : PySem.W.nsIn (L2.KOf KX) mainGlobals "all" = some none := by
      dsimp only [L2.KOf]
      k_is
    have b_bool : PySem.W.nsIn (L2.KOf KX) mainGlobals "bool" = some none := by
      dsimp only [L2.KOf]
      k_is
    have b_int : PySem.W.nsIn (L2.KOf KX) mainGlobals "int" = some none := by
      dsimp only [L2.KOf]
      k_is
    have b_isinstance : PySem.W.nsIn (L2.KOf KX) mainGlobals "isinstance" = some none := by
      dsimp only [L2.KOf]
      k_is
    have b_len : PySem.W.nsIn (L2.KOf KX) mainGlobals "len" = some none := by
      dsimp only [L2.KOf]
      k_is
    have b_list : PySem.W.nsIn (L2.KOf KX) mainGlobals "list" = some none := by
      dsimp only [L2.KOf]
      k_is
    have b_max : PySem.W.nsIn (L2.KOf KX) mainGlobals "max" = some none := by
      dsimp only [L2.KOf]
      k_is
    have b_range : PySem.W.nsIn (L2.KOf KX) mainGlobals "range" = some none := by
      dsimp only [L2.KOf]
      k_is
    have b_sorted : PySem.W.nsIn (L2.KOf KX) mainGlobals "sorted" = some none := by
      dsimp only [L2.KOf]
      k_is
    have b_str : PySem.W.nsIn (L2.KOf KX) mainGlobals "str" = some none := by
      dsimp only [L2.KOf]
      k_is
    have b_tuple : PySem.W.nsIn (L2.KOf KX) mainGlobals "tuple" = some none := by
      dsimp only [L2.KOf]
      k_is
    have b_zip : PySem.W.nsIn (L2.KOf KX) mainGlobals "zip" = some none := by
      dsimp only [L2.KOf]
      k_is
    have c_WORTHS : ∃ t, PySem.W.nsIn (L2.KOf KX) mainGlobals "WORTHS" = some (some (.int 6 t)) := by
      dsimp only [L2.KOf]
      refine' Ky.int_ex ?a
      case a => k_is
    have t_TELLERS : Ky.TabEx (L2.KOf KX) w "TELLERS" (K02.tab_TELLERS.map (·.1)) (K02.tab_TELLERS.map fun p => K02.gc.funs.getD p.2 "") := by
      dsimp only [L2.KOf]
      refine' Ky.tab_ex ?h ?l ?he ?hy ?hf
      (case h => k_is); (case l => k_is)
      (case he => exact Ky.ent_cons (Ky.ent_cons (Ky.ent_cons (Ky.ent_cons (Ky.ent_cons (Ky.ent_cons (Ky.ent_cons (Ky.ent_cons (Ky.ent_nil)))))))))
      (case hy => rfl)
      refine' Ky.adr_cons (x := "up_tells") ?a ?_
      (case a => k_is)
      refine' Ky.adr_cons (x := "part_tells") ?a ?_
      (case a => k_is)
      refine' Ky.adr_cons (x := "rest_tells") ?a ?_
      (case a => k_is)
      refine' Ky.adr_cons (x := "table_tells") ?a ?_
      (case a => k_is)
      refine' Ky.adr_cons (x := "among_tells") ?a ?_
      (case a => k_is)
      refine' Ky.adr_cons (x := "sum_tells") ?a ?_
      (case a => k_is)
      refine' Ky.adr_cons (x := "gap_tells") ?a ?_
      (case a => k_is)
      refine' Ky.adr_cons (x := "most_tells") ?a ?_
      (case a => k_is)
      rfl
    have ok := Ky.gok (gc := K02.gc) (recs := K02.recs) (Pr := PySem.Challenge.rw_keyorders_k02_whole_what_rows_tell.prog) (w := w) KX G rfl (K02.recs_all e0 e1 e2 e3 e4 e5 e6 e7 e8 e9 e10 e11 e12 e13 e14 e15 e16 e17 e18 e19 e20 e21 e22 e23 e24 e25 e26) K02.recs_ok
      (by intro x hx
          simp only [K02.gc, List.mem_cons, List.not_mem_nil, or_false] at hx
          rcases hx with rfl | rfl | rfl | rfl | rfl | rfl | rfl | rfl | rfl | rfl | rfl | rfl | rfl <;> assumption)
      (by intro x d hd
          simp only [K02.gc, List.lookup_cons] at hd
          split at hd
          · rename_i q
            cases hd
            obtain ⟨t, ht⟩ := c_WORTHS
            exact ⟨6, t, rfl, (eq_of_beq q) ▸ ht⟩
          · cases hd)
      (by intro x t hd
          simp only [K02.gc, List.lookup_cons] at hd
          split at hd
          · rename_i q
            cases hd
            exact ⟨by decide, by decide, (eq_of_beq q) ▸ t_TELLERS⟩
          · cases hd)
    obtain ⟨fd, h1, h2⟩ := Ky.law_fn (f := 26) (k := K02.depth) (x := "_law_script") (r := K02.rc26) ok rfl rfl e26 K02.ro26 hmg KX G K02.math
    exact ⟨fd, h1, fun base _ _ => h2 base⟩

