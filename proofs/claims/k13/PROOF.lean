import PyProof.Rows.All
import Wide.All
import OpenK.AllK
import Wide.FinOn
import Lean
import PyProof.EqAt
import PyProof.EqKinds
import PyProof.TupleCall
import PyProof.CompFree
import KE.KIsAll
import PyProof.AttrMiss
import PyProof.IsiH_list
import KE.KDictOf
import PyProof.ConsumeWalk
import PyProof.Rows.SetFrom
import PyProof.NeKinds
import PyProof.AutoListH
import PyProof.EnumMake
import PyProof.EnumFor
import PyProof.EnumStmt
import PyProof.LayNew
import PyProof.Rows.EnumRows
import PySem.Challenge.RW_homeward_k13_homes_and_fars
-- CHANGE: your row's module here, as the last of these rows
set_option Elab.async false
set_option linter.all false
set_option maxRecDepth 100000
/-! THE HAND LAYER, for ints, bools, texts, own classes, DICTS (int and text keys), calls, loops. Paste it whole ahead of your own text; what your proof does not reach may be deleted. -/
namespace L2
open PySem PySem.Spec PyProof.Rows

/-- a key: an int or a str -/
abbrev Key := Sum Int Str
def keyIs : Key → Value → Bool
  | .inl k, v => Value.isInt k v
  | .inr x, v => Value.isStrOf x v
def keyH (w : World) : Key → Int
  | .inl k => hashInt k
  | .inr x => hashStr w x
theorem keyIs_shape : ∀ {k : Key} {v : Value}, keyIs k v = true → (∃ i t, k = Sum.inl i ∧ v = Value.int i t) ∨ (∃ x t, k = Sum.inr x ∧ v = Value.str x t)
  | .inl i, v, h => by
    obtain ⟨t, e⟩ := Value.isInt_shape (k := i) (v := v) h
    exact .inl ⟨i, t, rfl, e⟩
  | .inr x, v, h => by
    obtain ⟨t, e⟩ := Value.isStrOf_shape (x := x) (v := v) h
    exact .inr ⟨x, t, rfl, e⟩
theorem keyIs_int (i : Int) (t : Tok) : keyIs (.inl i) (.int i t) = true := by simp [keyIs, Value.isInt]
theorem keyIs_str (x : Str) (t : Tok) : keyIs (.inr x) (.str x t) = true := by simp [keyIs, Value.isStrOf]
theorem key_ll (a b : Int) : decide ((Sum.inl a : Key) = Sum.inl b) = (a == b) := by
  by_cases e : a = b
  · subst e; simp
  · have h : ¬ (Sum.inl a : Key) = Sum.inl b := fun q => e (Sum.inl.inj q)
    rw [decide_eq_false h]
    exact (beq_eq_false_iff_ne.mpr e).symm
theorem key_rr (a b : Str) : decide ((Sum.inr a : Key) = Sum.inr b) = decide (a = b) := by
  by_cases e : a = b
  · subst e; simp
  · have h : ¬ (Sum.inr a : Key) = Sum.inr b := fun q => e (Sum.inr.inj q)
    rw [decide_eq_false h, decide_eq_false e]
theorem key_lr (a : Int) (b : Str) : decide ((Sum.inl a : Key) = Sum.inr b) = false := decide_eq_false (fun q => nomatch q)
theorem key_rl (a : Str) (b : Int) : decide ((Sum.inr a : Key) = Sum.inl b) = false := decide_eq_false (fun q => nomatch q)

def mixKind (prog : Program) (w : World) : PySem.KeyKind prog w Key where
  is := keyIs
  hash := keyH w
  inj := fun v a b ha hb => by
    rcases keyIs_shape ha with ⟨i, t, rfl, rfl⟩ | ⟨x, t, rfl, rfl⟩
    · rcases keyIs_shape hb with ⟨j, u, rfl, e⟩ | ⟨y, u, rfl, e⟩
      · injection e with e1 _; rw [e1]
      · exact nomatch e
    · rcases keyIs_shape hb with ⟨j, u, rfl, e⟩ | ⟨y, u, rfl, e⟩
      · exact nomatch e
      · injection e with e1 _; rw [e1]
  byValue := fun k v h => by
    rcases keyIs_shape h with ⟨i, t, rfl, rfl⟩ | ⟨x, t, rfl, rfl⟩ <;> rfl
  pyHash := fun hv h => by
    rcases keyIs_shape hv with ⟨i, t, rfl, rfl⟩ | ⟨x, t, rfl, rfl⟩
    · exact wpAny_pyHash_int h
    · exact wpAny_pyHash_str h
  eqBool := fun hu hv h => by
    rcases keyIs_shape hu with ⟨i, t, rfl, rfl⟩ | ⟨x, t, rfl, rfl⟩
    · rcases keyIs_shape hv with ⟨j, u, rfl, rfl⟩ | ⟨y, u, rfl, rfl⟩
      · rw [key_ll] at h; exact wpAny_eqBool_int h
      · rw [key_lr] at h; exact SeqAt.EqAt.int_str i t y u _ _ _ _ h
    · rcases keyIs_shape hv with ⟨j, u, rfl, rfl⟩ | ⟨y, u, rfl, rfl⟩
      · rw [key_rl] at h; exact SeqAt.EqAt.str_int x t j u _ _ _ _ h
      · rw [key_rr] at h; exact wpAny_eqBool_str h
  «strs» := fun k x t v h => by
    rcases keyIs_shape h with ⟨i, u, rfl, e⟩ | ⟨y, u, rfl, e⟩
    · exact nomatch e
    · injection e with e1 _
      subst e1
      cases v <;> rfl

theorem mixKind_is (prog : Program) (w : World) (k : Key) (v : Value) : (mixKind prog w).is k v = keyIs k v := rfl
theorem mixKind_int (prog : Program) (w : World) (i : Int) (t : Tok) : (mixKind prog w).is (.inl i) (.int i t) = true := keyIs_int i t
theorem mixKind_str (prog : Program) (w : World) (x : Str) (t : Tok) : (mixKind prog w).is (.inr x) (.str x t) = true := keyIs_str x t
end L2

namespace L2
open PySem PySem.Spec PyProof.Rows

/-- a value, without the heap -/
inductive V where
  | non | bl (b : Bool) | int (i : Int) | str (x : Str) | byt (b : Array UInt8) | flt (b : UInt64) | ref (a : Addr) | ty (n : String)
  deriving DecidableEq

def RelV : V → Value → Prop
  | .non, u => u = Value.none
  | .bl b, u => u = Value.bool b
  | .int i, u => ∃ t, u = Value.int i t
  | .str x, u => ∃ t, u = Value.str x t
  | .byt b, u => ∃ t, u = Value.bytes b t
  | .flt b, u => ∃ t, u = Value.float b t
  | .ref a, u => u = Value.ref a
  | .ty n, u => u = Value.type n

abbrev Vals : List V → List Value → Prop := Paired RelV
theorem Vals.length {xs : List V} {us : List Value} (r : Vals xs us) : xs.length = us.length := Paired.length r
theorem Vals.get : ∀ {xs : List V} {us : List Value} {i : Nat} {x : V}, Vals xs us → xs[i]? = some x → ∃ u, us[i]? = some u ∧ RelV x u
  | _, _, _, _, .nil, e => by simp at e
  | _, _, 0, _, .cons r _, e => by simp at e; subst e; exact ⟨_, rfl, r⟩
  | _, _, i + 1, x, .cons _ t, e => by
    obtain ⟨u, h1, h2⟩ := Vals.get (i := i) (x := x) t (by simpa using e)
    exact ⟨u, by simpa using h1, h2⟩
theorem Vals.set {x : V} {u : Value} (r : RelV x u) : ∀ {xs : List V} {us : List Value} (i : Nat), Vals xs us → Vals (xs.set i x) (us.set i u)
  | _, _, _, .nil => .nil
  | _, _, 0, .cons _ t => .cons r t
  | _, _, i + 1, .cons q t => .cons q (Vals.set r i t)
theorem Vals.append : ∀ {xs ys : List V} {us ws : List Value}, Vals xs us → Vals ys ws → Vals (xs ++ ys) (us ++ ws)
  | _, _, _, _, .nil, s => s
  | _, _, _, _, .cons r t, s => .cons r (Vals.append t s)
theorem Vals.take : ∀ {xs : List V} {us : List Value} (n : Nat), Vals xs us → Vals (xs.take n) (us.take n)
  | _, _, 0, _ => .nil
  | _, _, _ + 1, .nil => .nil
  | _, _, n + 1, .cons r t => .cons r (Vals.take n t)
theorem Vals.drop : ∀ {xs : List V} {us : List Value} (n : Nat), Vals xs us → Vals (xs.drop n) (us.drop n)
  | _, _, 0, r => r
  | _, _, _ + 1, .nil => .nil
  | _, _, n + 1, .cons _ t => Vals.drop n t
theorem Vals.none_of : ∀ {xs : List V} {us : List Value} {i : Nat}, Vals xs us → xs[i]? = none → us[i]? = none := fun {xs us i} r e => by
  have h1 := r.length
  have h2 : xs.length ≤ i := List.getElem?_eq_none_iff.mp e
  exact List.getElem?_eq_none_iff.mpr (by omega)

def RelO : Option V → Option Value → Prop
  | some v, some u => RelV v u
  | none, none => True
  | _, _ => False
def KV {κ : Type} : List (κ × V) → List (κ × Value) → Prop := Paired fun (p : κ × V) (q : κ × Value) => p.1 = q.1 ∧ RelV p.2 q.2

/-- a key of a dict (00_mix): an int or a text -/
def kV : Key → V
  | .inl i => .int i
  | .inr x => .str x

/-- what stands at a tracked address -/
inductive HO where
  /-- a list -/
  | lst (xs : List V)
  /-- a tuple (never changes) -/
  | tup (xs : List V)
  /-- a dict whose keys are ints and texts; one whose keys are tuples of ints and texts (the empty one is both) -/
  | dK (kvs : List (Key × V)) | dT (kvs : List (List Key × V))
  /-- a set of ints: its members, its size -/
  | set (S : Int → Bool) (n : Nat)
  /-- an instance of the class at C, its dict at dx, its attributes -/
  | ins (C dx : Addr) (fs : List (Str × V))
  /-- the dict of the instance at x -/
  | own (x : Addr)
  /-- the dict of an exception -/
  | xd (fs : List (Str × V))
  /-- a bound method, f of x -/
  | met (f x : Addr)
  /-- a range object lo, lo + 1, .. below hi -/
  | rng (lo hi : Int)
  /-- a thing that is known to the object (the script; a dict while a loop walks it): read, never written while it is so -/
  | frz (o : Obj) (u : HO)
  /-- a code object's table -/
  | tbl (ps : Array Value)
  /-- any other thing, by what is true of its one object (a def of one's own: SetO a S n := HO.ext fun h => ..) -/
  | ext (φ : Heap → Prop)

abbrev Hp := Addr → Option HO
def upd (H : Hp) (a : Addr) (o : HO) : Hp := fun b => if b = a then some o else H b
theorem upd_same {H : Hp} {a : Addr} {o : HO} : upd H a o a = some o := by unfold upd; rw [if_pos rfl]
theorem upd_ne {H : Hp} {a b : Addr} {o : HO} (h : b ≠ a) : upd H a o b = H b := by unfold upd; rw [if_neg h]
theorem upd_upd {H : Hp} {a : Addr} {o u : HO} : upd (upd H a o) a u = upd H a u := by
  funext b; unfold upd; split <;> rfl
/-- two objects of different content stand apart -/
theorem ne_of {H : Hp} {a b : Addr} {o u : HO} (h : H a = some o) (h' : H b = some u) (d : o ≠ u) : a ≠ b := by
  intro e; subst e; rw [h] at h'; exact d (Option.some.inj h')
theorem ne_of_none {H : Hp} {a b : Addr} {o : HO} (h : H a = some o) (h' : H b = none) : a ≠ b := by
  intro e; subst e; rw [h] at h'; cases h'

section
variable (P : Program) (w : World)
def ObjOk (H : Hp) (h : Heap) (a : Addr) : HO → Prop
  | .lst xs => xs.length ≤ sizeLine ∧ ∃ (its : List Value) (n : Nat), Vals xs its ∧ h.get? a = some { cls := .type "list", data := .seq its.toArray n }
  | .tup xs => xs.length ≤ sizeLine ∧ ∃ its : List Value, Vals xs its ∧ IsTup h a its.toArray
  | .dK kvs => kvs.length ≤ sizeLine ∧ (a == sysModules) = false ∧ ∃ vs, KV kvs vs ∧ h.DictOf (mixKind P w) a vs
  | .dT kvs => kvs.length ≤ sizeLine ∧ (a == sysModules) = false ∧ ∃ xs : List (List Key × Addr × Value),
      Paired (fun (p : List Key × V) (q : List Key × Addr × Value) => p.1 = q.1 ∧ H q.2.1 = some (.tup (p.1.map kV)) ∧ RelV p.2 q.2.2) kvs xs ∧
      ∃ o es ep, h.get? a = some o ∧ o.ExactDict ∧ o.data = .dict es ep ∧ es.toList = xs.map (entryOfKey (tupleKind (mixKind P w))) ∧ (xs.map (·.1)).Nodup
  | .set S n => h.SetOf (intKind P w) a S n
  | .ins C dx fs => H dx = some (.own a) ∧ fs.length ≤ 1000 ∧ dx ≠ a ∧ h.get? a = some (PySem.W.instObj C dx) ∧
      ∃ mA, h.Ns1 dx mA ∧ (∀ f, RelO (fs.lookup f) (mA f)) ∧ PySem.Within mA (fs.map (·.1))
  | .own _ => ∃ o, h.get? a = some o
  | .xd fs => ∃ mA, h.Ns1 a mA ∧ ∀ f, RelO (fs.lookup f) (mA f)
  | .rng lo hi => ∃ t u v, h.get? a = some { cls := .type "range", data := .fields #[.int lo t, .int hi u, .int 1 v] }
  | .frz o u => h.get? a = some o ∧ ObjOk H h a u
  | .tbl ps => h.get? a = some { cls := .none, data := .fields ps }
  | .met f x => h.get? a = some (PySem.W.methodObj (.ref f) (.ref x))
  | .ext φ => φ h ∧ (∃ o, h.get? a = some o) ∧ ∀ h1 h2 : Heap, φ h1 → (∀ o, h1.get? a = some o → h2.get? a = some o) → φ h2
/-- the abstract heap is held -/
def HOk (H : Hp) (h : Heap) : Prop := ∀ a o, H a = some o → ObjOk P w H h a o
end

section
variable {P : Program} {w : World} {H H' : Hp} {h h' : Heap} {a : Addr} {o : HO}
theorem ObjOk.lt (x : ObjOk P w H h a o) : a < h.objs.size := by
  cases o with
  | lst xs => obtain ⟨_, _, _, _, e⟩ := x; exact Heap.lt_size e
  | tup xs => obtain ⟨_, _, _, p⟩ := x; exact p.lt
  | dK kvs => obtain ⟨_, _, _, _, o, _, _, e, _⟩ := x; exact Heap.lt_size e
  | dT kvs => obtain ⟨_, _, _, _, o, _, _, e, _⟩ := x; exact Heap.lt_size e
  | set S n => obtain ⟨o, _, _, _, e, _⟩ := x; exact Heap.lt_size e
  | ins C dx fs => obtain ⟨_, _, _, e, _⟩ := x; exact Heap.lt_size e
  | own y => obtain ⟨_, e⟩ := x; exact Heap.lt_size e
  | xd fs => obtain ⟨_, ⟨_, _, _, e, _⟩, _⟩ := x; exact Heap.lt_size e
  | rng lo hi => obtain ⟨_, _, _, e⟩ := x; exact Heap.lt_size e
  | frz ob u => obtain ⟨e, _⟩ := x; exact Heap.lt_size e
  | tbl ps => exact Heap.lt_size (show h.get? a = some _ from x)
  | met f y => exact Heap.lt_size (show h.get? a = some _ from x)
  | ext φ => obtain ⟨_, ⟨_, e⟩, _⟩ := x; exact Heap.lt_size e
theorem Paired.mapP {α β : Type} {F G : α → β → Prop} : ∀ {l₁ : List α} {l₂ : List β}, Paired F l₁ l₂ → (∀ a b, F a b → G a b) → Paired G l₁ l₂
  | _, _, .nil, _ => .nil
  | _, _, .cons r t, f => .cons (f _ _ r) (Paired.mapP t f)
theorem Paired.imp' {α β : Type} {F G : α → β → Prop} (f : ∀ a b, F a b → G a b) {l₁ : List α} {l₂ : List β} (r : Paired F l₁ l₂) : Paired G l₁ l₂ := Paired.mapP r f
/-- what an object's description leans on: its own object, its own dict, the tuples -/
theorem ObjOk.stay (x : ObjOk P w H h a o) (k : ∀ b u, (b = a ∨ H b = some (.own a)) → h.get? b = some u → h'.get? b = some u)
    (ho : ∀ b, H b = some (.own a) → H' b = some (.own a)) (ht : ∀ b xs, H b = some (.tup xs) → H' b = some (.tup xs)) : ObjOk P w H' h' a o := by
  induction o with
  | lst xs => obtain ⟨z, its, n, r, e⟩ := x; exact ⟨z, its, n, r, k _ _ (.inl rfl) e⟩
  | tup xs => obtain ⟨z, its, r, ob, e, c⟩ := x; exact ⟨z, its, r, ob, k _ _ (.inl rfl) e, c⟩
  | dK kvs => obtain ⟨z, y, vs, r, ob, es, ep, e, c⟩ := x; exact ⟨z, y, vs, r, ob, es, ep, k _ _ (.inl rfl) e, c⟩
  | dT kvs =>
    obtain ⟨z, y, xs, r, ob, es, ep, e, c⟩ := x
    exact ⟨z, y, xs, Paired.mapP r fun p q z => ⟨z.1, ht _ _ z.2.1, z.2.2⟩, ob, es, ep, k _ _ (.inl rfl) e, c⟩
  | set S n => obtain ⟨ob, es, ep, t, e, c⟩ := x; exact ⟨ob, es, ep, t, k _ _ (.inl rfl) e, c⟩
  | ins C dx fs =>
    obtain ⟨d, z, ne, e, mA, ⟨od, es, ep, e2, c⟩, r⟩ := x
    exact ⟨ho _ d, z, ne, k _ _ (.inl rfl) e, mA, ⟨od, es, ep, k _ _ (.inr d) e2, c⟩, r⟩
  | own y => obtain ⟨ob, e⟩ := x; exact ⟨ob, k _ _ (.inl rfl) e⟩
  | xd fs => obtain ⟨mA, ⟨od, es, ep, e, c⟩, r⟩ := x; exact ⟨mA, ⟨od, es, ep, k _ _ (.inl rfl) e, c⟩, r⟩
  | rng lo hi => obtain ⟨t, u, v, e⟩ := x; exact ⟨t, u, v, k _ _ (.inl rfl) e⟩
  | frz ob u ih => obtain ⟨e, q⟩ := x; exact ⟨k _ _ (.inl rfl) e, ih q⟩
  | tbl ps =>
    have e : h.get? a = some { cls := .none, data := .fields ps } := x
    show h'.get? a = some { cls := .none, data := .fields ps }
    exact k a _ (.inl rfl) e
  | met f y =>
    have e : h.get? a = some (PySem.W.methodObj (.ref f) (.ref y)) := x
    show h'.get? a = some (PySem.W.methodObj (.ref f) (.ref y))
    exact k a _ (.inl rfl) e
  | ext φ => obtain ⟨p, ⟨o, e⟩, st⟩ := x; exact ⟨st _ _ p fun o q => k _ _ (.inl rfl) q, ⟨o, k _ _ (.inl rfl) e⟩, st⟩
theorem HOk.lt (x : HOk P w H h) (e : H a = some o) : a < h.objs.size := (x a o e).lt
theorem HOk.fresh (x : HOk P w H h) (e : h.objs.size ≤ a) : H a = none := by
  cases q : H a with
  | none => rfl
  | some u => exact absurd (Nat.lt_of_lt_of_le (x.lt q) e) (Nat.lt_irrefl _)
/-- every object of the heap is kept -/
theorem HOk.kept (x : HOk P w H h) (k : ∀ b u, h.get? b = some u → h'.get? b = some u) : HOk P w H h' := fun a o e =>
  (x a o e).stay (fun b u _ q => k b u q) (fun _ q => q) fun _ _ q => q
/-- a new object is laid and tracked -/
theorem HOk.laid (x : HOk P w H h) (k : ∀ b u, h.get? b = some u → h'.get? b = some u) (hp : h.objs.size ≤ a) (new : ObjOk P w (upd H a o) h' a o) : HOk P w (upd H a o) h' := fun b u e => by
  have hn := x.fresh hp
  by_cases hb : b = a
  · subst hb; rw [upd_same] at e; cases e; exact new
  · rw [upd_ne hb] at e
    exact (x b u e).stay (fun c v _ q => k c v q) (fun c q => by rw [upd_ne (ne_of_none q hn)]; exact q) fun c xs q => by rw [upd_ne (ne_of_none q hn)]; exact q
end

/-- what may be read as u: it is u, or a known u -/
def Rd (H : Hp) (a : Addr) (u : HO) : Prop := H a = some u ∨ ∃ o, H a = some (.frz o u)
theorem Rd.of {H : Hp} {a : Addr} {u : HO} (h : H a = some u) : Rd H a u := .inl h
theorem Rd.ok {P : Program} {w : World} {H : Hp} {h : Heap} {a : Addr} {u : HO} (r : Rd H a u) (x : HOk P w H h) : ObjOk P w H h a u := by
  rcases r with r | ⟨o, r⟩
  · exact x a u r
  · obtain ⟨_, q⟩ := x a _ r
    exact q
/-- what may be written -/
def Mut : Option HO → Prop
  | some (.lst _) => True
  | some (.dK _) => True
  | some (.dT _) => True
  | some (.set _ _) => True
  | some (.ins _ _ _) => True
  | some (.ext _) => True
  | _ => False
section
variable {P : Program} {w : World} {H : Hp} {h h' : Heap} {x e : Addr} {o' : HO}
/-- the object at e is changed: x itself, or the dict of the instance x -/
theorem HOk.write (ok : HOk P w H h) (mu : Mut (H x)) (he : e = x ∨ H e = some (.own x)) (k : ∀ b u, b ≠ e → h.get? b = some u → h'.get? b = some u) (heo : ∃ u, h'.get? e = some u)
    (new : ObjOk P w (upd H x o') h' x o') : HOk P w (upd H x o') h' := fun b u q => by
  have nown : ∀ c y, H c = some (.own y) → c ≠ x := fun c y r z => by subst z; rw [r] at mu; exact mu
  have ntup : ∀ c xs, H c = some (.tup xs) → c ≠ x := fun c xs r z => by subst z; rw [r] at mu; exact mu
  by_cases hb : b = x
  · subst hb; rw [upd_same] at q; cases q; exact new
  · rw [upd_ne hb] at q
    by_cases hbe : b = e
    · have q' : H b = some (.own x) := by
        rcases he with z | z
        · exact absurd (hbe.trans z) hb
        · rw [hbe]; exact z
      rw [q] at q'; cases q'
      obtain ⟨v, hv⟩ := heo
      exact ⟨v, by rw [hbe]; exact hv⟩
    · refine (ok b u q).stay (fun c v hc r => k c v ?_ r) (fun c r => by rw [upd_ne (nown c b r)]; exact r) fun c xs r => by rw [upd_ne (ntup c xs r)]; exact r
      rcases hc with rfl | hc
      · exact hbe
      · rintro rfl
        rcases he with z | z
        · exact nown c b hc z
        · rw [hc] at z; cases z; exact hb rfl
end

/-! ### kept unless tracked; of the frames at fs (the callers') the slots may change (an exception that passes writes there); of the records at ex (iterators) nothing is said -/
structure Un (fs ex : List Addr) (H H' : Hp) (h h' : Heap) : Prop where
  keep : ∀ b o, h.get? b = some o → H b = none → b ∉ fs → b ∉ ex → h'.get? b = some o
  slot : ∀ b o, h.get? b = some o → H b = none → b ∈ fs → b ∉ ex → ∃ sl, h'.get? b = some { o with slots := sl }
  free : ∀ b o, h.get? b = some o → H b = none → b ∉ ex → H' b = none
  there : ∀ b o, h.get? b = some o → b ∉ ex → ∃ o', h'.get? b = some o'
  tups : ∀ b xs, H b = some (.tup xs) → H' b = some (.tup xs)
  frzs : ∀ b o u, H b = some (.frz o u) → H' b = some (.frz o u)
  tbls : ∀ b ps, H b = some (.tbl ps) → ∃ more, H' b = some (.tbl (ps ++ more))
section
variable {fs fs' ex ex' : List Addr} {H H1 H2 : Hp} {h h1 h2 h' : Heap} {a x e : Addr} {o : HO}
theorem Un.any (u : Un fs ex H H1 h h1) {b : Addr} {ob : Obj} (q : h.get? b = some ob) (n : H b = none) (hx : b ∉ ex) : ∃ sl, h1.get? b = some { ob with slots := sl } := by
  by_cases hb : b ∈ fs
  · exact u.slot b ob q n hb hx
  · exact ⟨ob.slots, u.keep b ob q n hb hx⟩
theorem Un.trans (a : Un fs ex H H1 h h1) (b : Un fs ex H1 H2 h1 h2) : Un fs ex H H2 h h2 where
  keep := fun c ob q n hc hx => b.keep c ob (a.keep c ob q n hc hx) (a.free c ob q n hx) hc hx
  slot := fun c ob q n hc hx => by
    obtain ⟨sl, e1⟩ := a.slot c ob q n hc hx
    obtain ⟨sl', e2⟩ := b.slot c _ e1 (a.free c ob q n hx) hc hx
    exact ⟨sl', e2⟩
  free := fun c ob q n hx => by
    obtain ⟨o', e1⟩ := a.there c ob q hx
    exact b.free c o' e1 (a.free c ob q n hx) hx
  there := fun c ob q hx => by
    obtain ⟨o', e1⟩ := a.there c ob q hx
    exact b.there c o' e1 hx
  tups := fun c xs q => b.tups c xs (a.tups c xs q)
  frzs := fun c ob xs q => b.frzs c ob xs (a.frzs c ob xs q)
  tbls := fun c ps q => by
    obtain ⟨m1, e1⟩ := a.tbls c ps q
    obtain ⟨m2, e2⟩ := b.tbls c _ e1
    exact ⟨m1 ++ m2, by rw [e2, Array.append_assoc]⟩
theorem Un.kept (k : ∀ b u, h.get? b = some u → h'.get? b = some u) : Un fs ex H H h h' :=
  ⟨fun b ob q _ _ _ => k b ob q, fun b ob q _ _ _ => ⟨ob.slots, k b ob q⟩, fun _ _ _ n _ => n, fun b ob q _ => ⟨ob, k b ob q⟩, fun _ _ q => q, fun _ _ _ q => q, fun _ ps q => ⟨#[], by rw [q]; simp⟩⟩
theorem Un.refl : Un fs ex H H h h := Un.kept fun _ _ q => q
theorem Un.laid (k : ∀ b u, h.get? b = some u → h'.get? b = some u) (hp : h.objs.size ≤ a) (hn : H a = none) : Un fs ex H (upd H a o) h h' where
  keep := fun b u q _ _ _ => k b u q
  slot := fun b u q _ _ _ => ⟨u.slots, k b u q⟩
  free := fun b u q n _ => by rw [upd_ne (Nat.ne_of_lt (Nat.lt_of_lt_of_le (Heap.lt_size q) hp))]; exact n
  there := fun b u q _ => ⟨u, k b u q⟩
  tups := fun b xs q => by rw [upd_ne (ne_of_none q hn)]; exact q
  frzs := fun b u xs q => by rw [upd_ne (ne_of_none q hn)]; exact q
  tbls := fun b ps q => ⟨#[], by rw [upd_ne (ne_of_none q hn), q]; simp⟩
theorem Un.write (mu : Mut (H x)) (he : e = x ∨ H e = some (.own x)) (k : ∀ b u, b ≠ e → h.get? b = some u → h'.get? b = some u) (heo : ∃ u, h'.get? e = some u) : Un fs ex H (upd H x o) h h' := by
  have hx : ∀ b, H b = none → b ≠ x := fun b n z => by subst z; rw [n] at mu; exact mu
  have hb : ∀ b, H b = none → b ≠ e := fun b n z => by
    subst z
    rcases he with r | r
    · exact hx b n r
    · rw [n] at r; cases r
  have hm : ∀ b u, H b = some u → ¬ Mut (some u) → b ≠ x := fun b u q nm z => by subst z; rw [q] at mu; exact nm mu
  refine ⟨fun b u q n _ _ => k b u (hb b n) q, fun b u q n _ _ => ⟨u.slots, k b u (hb b n) q⟩, fun b u q n _ => by rw [upd_ne (hx b n)]; exact n, fun b u q _ => ?_,
    fun b xs q => by rw [upd_ne (hm b _ q fun z => z)]; exact q, fun b u xs q => by rw [upd_ne (hm b _ q fun z => z)]; exact q, fun b ps q => ⟨#[], by rw [upd_ne (hm b _ q fun z => z), q]; simp⟩⟩
  by_cases hbe : b = e
  · subst hbe; exact heo
  · exact ⟨u, k b u hbe q⟩
theorem Un.mono (u : Un fs ex H H1 h h1) (hs : ∀ b ∈ fs, b ∈ fs') (hx : ∀ b ∈ ex, b ∈ ex') : Un fs' ex' H H1 h h1 :=
  ⟨fun b ob q n hb he => u.keep b ob q n (fun z => hb (hs b z)) fun z => he (hx b z), fun _ _ q n _ he => u.any q n fun z => he (hx _ z), fun b ob q n he => u.free b ob q n fun z => he (hx b z), fun b ob q he => u.there b ob q fun z => he (hx b z), u.tups, u.frzs, u.tbls⟩
end

/-! ### the heap without what is tracked -/
def trk (h : Heap) (H : Hp) : List Addr := (List.range h.objs.size).filter fun a => (H a).isSome
def hidT (h : Heap) (H : Hp) : Heap := PySem.W.hideAll h (trk h H)
theorem hidT_size (h : Heap) (H : Hp) : (hidT h H).objs.size = h.objs.size := PySem.W.hideAll_size _ _
theorem hidT_get {h : Heap} {H : Hp} {b : Addr} {o : Obj} (e : h.get? b = some o) (n : H b = none) : (hidT h H).get? b = some o :=
  PySem.W.hideAll_get _ e fun hm => by
    have q : (H b).isSome = true := (List.mem_filter.mp hm).2
    rw [n] at q; simp at q
theorem of_hidT {h : Heap} {H : Hp} {b : Addr} {o : Obj} (e : (hidT h H).get? b = some o) : h.get? b = some o ∧ H b = none := by
  have e' : h.get? b = some o := PySem.W.of_hideAll (trk h H) e
  refine ⟨e', ?_⟩
  cases q : H b with
  | none => rfl
  | some x =>
    have hm : b ∈ trk h H := List.mem_filter.mpr ⟨List.mem_range.mpr (Heap.lt_size e'), by simp [q]⟩
    have z : (hidT h H).get? b = none := PySem.W.hideAll_none (trk h H) hm
    rw [z] at e; cases e

/-! ### OpenK's ledger, filled with every new object but one -/
def allNews (g h : Heap) (L : Addr) : List (Addr × Obj) := (List.range h.objs.size).filterMap fun a => if a = L ∨ (g.get? a).isSome = true then none else (h.get? a).map fun o => (a, o)
theorem mem_allNews {g h : Heap} {L a : Addr} {o : Obj} (h1 : a ≠ L) (h2 : g.get? a = none) (h3 : h.get? a = some o) : (a, o) ∈ allNews g h L :=
  List.mem_filterMap.mpr ⟨a, List.mem_range.mpr (Heap.lt_size h3), by simp [h1, h2, h3]⟩
theorem of_mem_allNews {g h : Heap} {L : Addr} {p : Addr × Obj} (hp : p ∈ allNews g h L) : p.1 ≠ L ∧ g.get? p.1 = none ∧ h.get? p.1 = some p.2 := by
  obtain ⟨b, _, e⟩ := List.mem_filterMap.mp hp
  split at e
  · cases e
  · rename_i hn
    cases q : h.get? b with
    | none => rw [q] at e; simp at e
    | some u =>
      rw [q] at e
      simp only [Option.map_some, Option.some.injEq] at e
      subst e
      refine ⟨fun z => hn (.inl z), ?_, q⟩
      show g.get? b = none
      cases r : g.get? b with
      | none => rfl
      | some v => exact (hn (.inr (by simp [r]))).elim
def rest (g h : Heap) (L d : Addr) : List (Addr × Obj) := (allNews g h L).filter fun p => decide (p.1 ≠ d)
theorem rest_ne {g h : Heap} {L d : Addr} : ∀ p ∈ rest g h L d, p.1 ≠ d := fun p hp => of_decide_eq_true (List.mem_filter.mp hp).2
theorem mem_rest {g h : Heap} {L d a : Addr} {o : Obj} (h1 : a ≠ L) (h2 : g.get? a = none) (h3 : h.get? a = some o) (h4 : a ≠ d) : (a, o) ∈ rest g h L d :=
  List.mem_filter.mpr ⟨mem_allNews h1 h2 h3, decide_eq_true h4⟩
theorem news_all {g h : Heap} {L : Addr} : News g L h (allNews g h L) := fun p hp => let ⟨a, b, c⟩ := of_mem_allNews hp; ⟨c, a, b⟩
theorem news_at {g h : Heap} {L d : Addr} {o : Obj} (h1 : d ≠ L) (h2 : g.get? d = none) (h3 : h.get? d = some o) : News g L h ((d, o) :: rest g h L d) := fun p hp => by
  rcases List.mem_cons.mp hp with rfl | hp
  · exact ⟨h3, h1, h2⟩
  · exact news_all p (List.mem_filter.mp hp).1
/-- behind a rule that changed d alone: all else but the frame is kept -/
theorem kept_of_news {g h h' : Heap} {L d : Addr} {m : Str → Option Value} (k : ∀ b o, g.get? b = some o → h.get? b = some o) (F : Fr g L h' m) (N : News g L h' (rest g h L d)) :
    ∀ b o, b ≠ L → b ≠ d → h.get? b = some o → h'.get? b = some o := fun b o h1 h2 e => by
  cases q : g.get? b with
  | some u =>
    have := k b u q
    rw [e] at this; cases this
    exact F.keep b _ q
  | none => exact (N (b, o) (mem_rest h1 q e h2)).1
end L2

namespace L2
open PySem PySem.Spec PyProof.Rows

/-- the module's facts, over the base: the heap at the law's entry without what is tracked there -/
structure Mod (K : PySem.W.Frag) (mg : Str → Option Value) (base : Heap) : Prop where
  kin : K.In base
  glob : base.Ns mainGlobals mg
  blt : ∃ mb, base.Ns builtinsNs mb ∧ ∀ x : Str, x ≠ "__name__" → mb x = bootBuiltins x
  nolimit : base.NoLimit

/-- the context: a def's body (or a comprehension's block) running. base: fixed through the whole law; s₀, H₀: the entry; outer: the frames whose slots others may change (a def's callers); stack: all frames that run;
   ex: iterators that were made ahead of the entry and are walked here (a comprehension's); fn: the names whose cells were made at the entry (a def: all; a comprehension's block: its own); calm: not within an except suite; pn: pins that every state bears; xe: what is wanted of an exception that leaves the code -/
structure Cx where
  prog : Program
  w : World
  K : PySem.W.Frag
  mg : Str → Option Value
  base : Heap
  A : Around
  N : List Str
  s₀ : Shared
  H₀ : Hp
  env : Env
  outer : List Env
  stack : List Env
  ex : List Addr
  fn : Str → Bool
  calm : Bool
  pn : List (Addr × Obj)
  xe : Value → Shared → Prop
/-- the callers' frames -/
def frs (l : List Env) : List Addr := l.filterMap (·.frame)
abbrev Cx.fs (X : Cx) : List Addr := frs X.outer

def Vis (sc : Scope) (x : Str) : Prop := sc.names.lookup x = some .local ∨ sc.names.lookup x = some .cell ∨ sc.names.lookup x = some .free
def Loc (sc : Scope) (x : Str) : Prop := sc.names.lookup x = some .local ∨ sc.names.lookup x = some .cell
def Look (env : Env) (h : Heap) (m : Str → Option Value) (x : Str) (u : Value) : Prop :=
  (env.kindOf x = some .local ∧ m x = some u) ∨ ((env.kindOf x = some .cell ∨ env.kindOf x = some .free) ∧ ∃ c, env.cells.lookup x = some c ∧ h.IsCell c (some u))

structure Cx.Ok (X : Cx) : Prop where
  mod : Mod X.K X.mg X.base
  kind : X.env.scope.kind = .function
  glob : X.env.globals = mainGlobals
  blt : X.env.builtins = builtinsNs
  above : X.s₀.heap.objs.size ≤ X.env.locals
  inj : ∀ x y c, X.env.cells.lookup x = some c → X.env.cells.lookup y = some c → x = y
  has : ∀ x, (X.env.kindOf x = some .cell ∨ X.env.kindOf x = some .free) → ∃ c, X.env.cells.lookup x = some c
  cab : ∀ x c, X.fn x = true → X.env.cells.lookup x = some c → X.s₀.heap.objs.size ≤ c
  hd : X.calm = true → X.A.handled = none
  frames : X.A.frames = some X.stack
  stk : X.stack = X.outer ∨ (X.stack = X.env :: X.outer ∧ X.env.frame = some X.env.locals)
  exf : ∀ b ∈ X.ex, b ≠ X.env.locals ∧ ∀ x c, X.env.cells.lookup x = some c → c ≠ b
  bs : ∀ b o, X.base.get? b = some o → X.s₀.heap.get? b = some o ∧ X.H₀ b = none
  bsz : X.base.objs.size ≤ X.s₀.heap.objs.size
  noex : ∀ b o, X.base.get? b = some o → b ∉ X.ex
  exfs : ∀ b ∈ X.ex, b ∉ X.fs
  funs : X.s₀.heap.FunFrames X.base X.outer
  frf : ∀ b ∈ X.fs, X.H₀ b = none

structure Inv (X : Cx) (pins : List (Addr × Obj)) (σ : List (Option V)) (H : Hp) (s : Shared) : Prop where
  ok : X.Ok
  os : s.os = X.s₀.os
  bare : AllBare s.gens
  base : Un X.fs X.ex X.H₀ H X.s₀.heap s.heap
  loc : ∃ m, s.heap.Ns X.env.locals m ∧ ∀ (i : Nat) (x : Str) (v : V), X.N[i]? = some x → σ[i]? = some (some v) → Vis X.env.scope x → ∃ u, RelV v u ∧ Look X.env s.heap m x u
  cell : ∀ x c, X.env.cells.lookup x = some c → ∃ v, s.heap.IsCell c v
  free : H X.env.locals = none
  freeC : ∀ x c, X.env.cells.lookup x = some c → H c = none
  pin : ∀ p ∈ X.pn ++ pins, s.heap.get? p.1 = some p.2 ∧ H p.1 = none ∧ p.1 ≠ X.env.locals ∧ p.1 ∉ X.fs ∧ ∀ v, p.2.data ≠ .cell v
  hok : HOk X.prog X.w H s.heap
  len : σ.length = X.N.length

section
variable {X : Cx} {pins : List (Addr × Obj)} {σ : List (Option V)} {H H' : Hp} {s : Shared} {h' : Heap}

theorem Cx.Ok.nofr (ok : X.Ok) {b : Addr} {o : Obj} (e : X.base.get? b = some o) : b ∉ X.fs := fun hb => by
  have := (ok.funs.mem hb).1
  rw [e] at this; cases this
theorem Inv.bs (I : Inv X pins σ H s) : ∀ b o, X.base.get? b = some o → s.heap.get? b = some o ∧ H b = none := fun b o e =>
  ⟨I.base.keep b o (I.ok.bs b o e).1 (I.ok.bs b o e).2 (I.ok.nofr e) (I.ok.noex b o e), I.base.free b o (I.ok.bs b o e).1 (I.ok.bs b o e).2 (I.ok.noex b o e)⟩
theorem Inv.bk (I : Inv X pins σ H s) : ∀ b o, X.base.get? b = some o → s.heap.get? b = some o := fun b o e => (I.bs b o e).1
theorem Inv.mod (I : Inv X pins σ H s) : Mod X.K X.mg X.base := I.ok.mod
theorem Inv.kIn (I : Inv X pins σ H s) : X.K.In s.heap := I.ok.mod.kin.keeps I.bk
theorem Inv.nolimit (I : Inv X pins σ H s) : s.heap.NoLimit := I.ok.mod.nolimit.keeps I.bk
/-- the frame over the base: for OpenK's rules (K.In X.base is I.mod.kin) -/
theorem Inv.fr (I : Inv X pins σ H s) : ∃ m, Fr X.base X.env.locals s.heap m :=
  let ⟨m, hn, _⟩ := I.loc
  ⟨m, hn, I.bk, Nat.le_trans I.ok.bsz I.ok.above⟩
theorem Inv.lt (I : Inv X pins σ H s) : X.env.locals < s.heap.objs.size := let ⟨_, hn, _⟩ := I.loc; hn.lt
theorem Inv.sz (I : Inv X pins σ H s) : X.s₀.heap.objs.size ≤ s.heap.objs.size := Nat.le_trans I.ok.above (Nat.le_of_lt I.lt)
theorem Inv.nofs (I : Inv X pins σ H s) {a : Addr} (h : s.heap.objs.size ≤ a) : a ∉ X.fs := fun hb => by
  obtain ⟨_, o, ho, _⟩ := I.ok.funs.mem hb
  exact absurd (Nat.lt_of_lt_of_le (Heap.lt_size ho) (Nat.le_trans I.sz h)) (Nat.lt_irrefl _)
theorem Inv.cne (I : Inv X pins σ H s) : ∀ x c, X.env.cells.lookup x = some c → c ≠ X.env.locals := fun x c e z => by
  obtain ⟨v, o, ho, hd⟩ := I.cell x c e
  obtain ⟨m, ⟨o', es, ep, ho', hd', _⟩, _⟩ := I.loc
  rw [z, ho'] at ho; cases ho; rw [hd'] at hd; cases hd
theorem Inv.funs (I : Inv X pins σ H s) : s.heap.FunFrames X.base X.outer := by
  have all : ∀ (l : List Env), (∀ b ∈ frs l, b ∈ X.fs) → X.s₀.heap.FunFrames X.base l → s.heap.FunFrames X.base l := by
    intro l
    induction l with
    | nil => intro _ _; trivial
    | cons env r ih =>
      intro hs hl
      obtain ⟨hk, ⟨L, o, hf, hn, ho, hd⟩, hr⟩ := hl
      have hL : L ∈ X.fs := hs L (by unfold frs; rw [List.filterMap_cons, hf]; exact List.mem_cons_self)
      obtain ⟨sl, e⟩ := I.base.slot L o ho (I.ok.frf L hL) hL fun z => I.ok.exfs L z hL
      exact ⟨hk, ⟨L, _, hf, hn, e, hd⟩, ih (fun b hb => hs b (by unfold frs; rw [List.filterMap_cons, hf]; exact List.mem_cons_of_mem _ hb)) hr⟩
  exact all X.outer (fun _ hb => hb) I.ok.funs

/-- the frames that run, for a call -/
theorem Inv.stack (I : Inv X pins σ H s) : s.heap.FunFrames X.base X.stack := by
  rcases I.ok.stk with e | ⟨e, hf⟩
  · rw [e]; exact I.funs
  · rw [e]
    obtain ⟨m, hn, _⟩ := I.loc
    refine .cons (by rw [I.ok.kind]; decide) hf hn ?_ I.funs
    exact Heap.get?_none_of_le (Nat.le_trans I.ok.bsz I.ok.above)
theorem Inv.stkSub (I : Inv X pins σ H s) : ∀ b ∈ frs X.stack, b ∈ X.env.locals :: X.fs := fun b hb => by
  rcases I.ok.stk with e | ⟨e, hf⟩
  · rw [e] at hb; exact List.mem_cons_of_mem _ hb
  · rw [e] at hb
    unfold frs at hb
    rw [List.filterMap_cons, hf] at hb
    exact hb
theorem Inv.stkFree (I : Inv X pins σ H s) : ∀ b ∈ frs X.stack, H b = none := fun b hb => by
  rcases List.mem_cons.mp (I.stkSub b hb) with e | hb
  · rw [e]; exact I.free
  · obtain ⟨_, o, ho, _⟩ := I.ok.funs.mem hb
    exact I.base.free b o ho (I.ok.frf b hb) fun z => I.ok.exfs b z hb

/-- THE STEP: the untracked objects but the frame and the records at ch are kept (the callers' frames up to slots), the frame's map is kept, the new abstract heap is held -/
theorem Inv.step {g' : Array GenState} {t' : Nat} {d' : Drawn} {ch : List Addr} (I : Inv X pins σ H s)
    (hch : ∀ b ∈ ch, (b ∈ X.ex ∨ X.s₀.heap.objs.size ≤ b) ∧ b ≠ X.env.locals ∧ (∀ x c, X.env.cells.lookup x = some c → c ≠ b) ∧ ∀ p ∈ X.pn ++ pins, p.1 ≠ b)
    (keep : ∀ b o, b ≠ X.env.locals → b ∉ X.fs → b ∉ ch → s.heap.get? b = some o → H b = none → h'.get? b = some o)
    (slot : ∀ b o, b ≠ X.env.locals → b ∈ X.fs → b ∉ ch → s.heap.get? b = some o → H b = none → ∃ sl, h'.get? b = some { o with slots := sl }) (free : ∀ b o, b ∉ ch → s.heap.get? b = some o → H b = none → H' b = none)
    (there : ∀ b o, b ∉ ch → s.heap.get? b = some o → ∃ o', h'.get? b = some o')
    (tups : ∀ b xs, H b = some (.tup xs) → H' b = some (.tup xs)) (frzs : ∀ b o u, H b = some (.frz o u) → H' b = some (.frz o u)) (tbls : ∀ b ps, H b = some (.tbl ps) → ∃ more, H' b = some (.tbl (ps ++ more)))
    (ns : ∀ m, s.heap.Ns X.env.locals m → h'.Ns X.env.locals m) (hok : HOk X.prog X.w H' h') (hg : AllBare g') :
    Inv X pins σ H' { s with heap := h', gens := g', drawn := d', toks := t' } := by
  have neL : ∀ b o, X.s₀.heap.get? b = some o → b ≠ X.env.locals := fun b o e => Nat.ne_of_lt (Nat.lt_of_lt_of_le (Heap.lt_size e) I.ok.above)
  have neC : ∀ b o, X.s₀.heap.get? b = some o → b ∉ X.ex → b ∉ ch := fun b o e hx hb => by
    rcases (hch b hb).1 with z | z
    · exact hx z
    · exact absurd (Nat.lt_of_lt_of_le (Heap.lt_size e) z) (Nat.lt_irrefl _)
  have cellK : ∀ x c, X.env.cells.lookup x = some c → ∀ v, s.heap.IsCell c v → h'.IsCell c v := fun x c e v ⟨o, ho, hd⟩ => by
    have nch : c ∉ ch := fun z => (hch c z).2.2.1 x c e rfl
    by_cases hc : c ∈ X.fs
    · obtain ⟨sl, q⟩ := slot c o (I.cne x c e) hc nch ho (I.freeC x c e)
      exact ⟨_, q, hd⟩
    · exact ⟨o, keep c o (I.cne x c e) hc nch ho (I.freeC x c e), hd⟩
  refine ⟨I.ok, I.os, hg, ⟨fun b o e n hb hx => ?_, fun b o e n hb hx => ?_, fun b o e n hx => ?_, fun b o e hx => ?_, fun b xs e => tups b xs (I.base.tups b xs e), fun b o xs e => frzs b o xs (I.base.frzs b o xs e), fun b ps e => ?_⟩, ?_, fun x c e => ?_, ?_, fun x c e => ?_, fun p hp => ?_, hok, I.len⟩
  · exact keep b o (neL b o e) hb (neC b o e hx) (I.base.keep b o e n hb hx) (I.base.free b o e n hx)
  · obtain ⟨sl, e1⟩ := I.base.slot b o e n hb hx
    obtain ⟨sl', e2⟩ := slot b _ (neL b o e) hb (neC b o e hx) e1 (I.base.free b o e n hx)
    exact ⟨sl', e2⟩
  · obtain ⟨o', e1⟩ := I.base.there b o e hx
    exact free b o' (neC b o e hx) e1 (I.base.free b o e n hx)
  · obtain ⟨o', e1⟩ := I.base.there b o e hx
    exact there b o' (neC b o e hx) e1
  · obtain ⟨m1, e1⟩ := I.base.tbls b ps e
    obtain ⟨m2, e2⟩ := tbls b _ e1
    exact ⟨m1 ++ m2, by rw [e2, Array.append_assoc]⟩
  · obtain ⟨m, hn, hl⟩ := I.loc
    refine ⟨m, ns m hn, fun i x v e1 e2 e3 => ?_⟩
    obtain ⟨u, r, l⟩ := hl i x v e1 e2 e3
    refine ⟨u, r, ?_⟩
    rcases l with l | ⟨k, c, e, z⟩
    · exact .inl l
    · exact .inr ⟨k, c, e, cellK x c e _ z⟩
  · obtain ⟨v, z⟩ := I.cell x c e
    exact ⟨v, cellK x c e v z⟩
  · obtain ⟨m, ⟨o, _, _, ho, _⟩, _⟩ := I.loc
    exact free _ o (fun z => (hch _ z).2.1 rfl) ho I.free
  · obtain ⟨v, o, ho, hd⟩ := I.cell x c e
    exact free c o (fun z => (hch c z).2.2.1 x c e rfl) ho (I.freeC x c e)
  · obtain ⟨e, n, ne, nf, d⟩ := I.pin p hp
    have nch : p.1 ∉ ch := fun z => (hch p.1 z).2.2.2 p hp rfl
    exact ⟨keep p.1 p.2 ne nf nch e n, free p.1 p.2 nch e n, ne, nf, d⟩
/-- .. where the frame's own object is kept too -/
theorem Inv.un {t' : Nat} (I : Inv X pins σ H s) (u : Un X.fs [] H H' s.heap h') (hok : HOk X.prog X.w H' h') : Inv X pins σ H' { s with heap := h', toks := t' } := by
  obtain ⟨m, ⟨o, es, ep, ho, r⟩, _⟩ := id I.loc
  obtain ⟨sl, hL⟩ := u.any ho I.free (by simp)
  exact I.step (g' := s.gens) (d' := s.drawn) (ch := []) (fun _ z => nomatch z) (fun b o _ hb _ e n => u.keep b o e n hb (by simp)) (fun b o _ hb _ e n => u.slot b o e n hb (by simp)) (fun b o _ e n => u.free b o e n (by simp)) (fun b o _ e => u.there b o e (by simp)) u.tups u.frzs u.tbls (fun m' hm => by
    obtain ⟨o', es', ep', ho', r'⟩ := hm
    rw [ho] at ho'; cases ho'
    exact ⟨_, es', ep', hL, r'⟩) hok I.bare
/-- behind a call (or a comprehension's block): the slots of this frame may have changed too, the records at ch may have turned -/
theorem Inv.call {g' : Array GenState} {t' : Nat} {d' : Drawn} {ch : List Addr} (I : Inv X pins σ H s) (u : Un (frs X.stack) ch H H' s.heap h') (hok : HOk X.prog X.w H' h') (hg : AllBare g')
    (hch : ∀ b ∈ ch, (b ∈ X.ex ∨ X.s₀.heap.objs.size ≤ b) ∧ b ≠ X.env.locals ∧ (∀ x c, X.env.cells.lookup x = some c → c ≠ b) ∧ ∀ p ∈ X.pn ++ pins, p.1 ≠ b) :
    Inv X pins σ H' { s with heap := h', gens := g', drawn := d', toks := t' } := by
  obtain ⟨m, ⟨o, es, ep, ho, r⟩, _⟩ := id I.loc
  obtain ⟨sl, hL⟩ := u.any ho I.free fun z => (hch _ z).2.1 rfl
  exact I.step (ch := ch) hch (fun b o hL hb hc e n => u.keep b o e n (fun z => (List.mem_cons.mp (I.stkSub b z)).elim hL hb) hc) (fun b o _ _ hc e n => u.any e n hc) (fun b o hc e n => u.free b o e n hc) (fun b o hc e => u.there b o e hc) u.tups u.frzs u.tbls (fun m' hm => by
    obtain ⟨o', es', ep', ho', r'⟩ := hm
    rw [ho] at ho'; cases ho'
    exact ⟨_, es', ep', hL, r'⟩) hok hg
/-- an untracked record of ours (an iterator) has turned -/
theorem Inv.turned {t' : Nat} {it : Addr} (I : Inv X pins σ H s) (k : ∀ b o, b ≠ it → s.heap.get? b = some o → h'.get? b = some o) (hn : H it = none) (hL : it ≠ X.env.locals)
    (h1 : it ∈ X.ex ∨ X.s₀.heap.objs.size ≤ it) (h2 : ∀ x c, X.env.cells.lookup x = some c → c ≠ it) (h3 : ∀ p ∈ X.pn ++ pins, p.1 ≠ it) : Inv X pins σ H { s with heap := h', toks := t' } := by
  have nit : ∀ b u, H b = some u → b ≠ it := fun b u e z => by rw [z, hn] at e; cases e
  refine I.step (g' := s.gens) (d' := s.drawn) (ch := [it]) (fun b hb => ?_) (fun b o _ _ hc e _ => k b o (fun z => hc (by simp [z])) e) (fun b o _ _ hc e _ => ⟨o.slots, k b o (fun z => hc (by simp [z])) e⟩) (fun _ _ _ _ n => n)
    (fun b o hc e => ⟨o, k b o (fun z => hc (by simp [z])) e⟩) (fun _ _ e => e) (fun _ _ _ e => e) (fun b ps e => ⟨#[], by rw [e]; simp⟩) (fun m hm => ?_) (fun b u e => ?_) I.bare
  · have e : b = it := by simpa using hb
    subst e
    exact ⟨h1, hL, h2, h3⟩
  · obtain ⟨o, es, ep, ho, r⟩ := hm
    exact ⟨o, es, ep, k _ o (Ne.symm hL) ho, r⟩
  · refine (I.hok b u e).stay (fun c v hc q => k c v ?_ q) (fun _ q => q) fun _ _ q => q
    rcases hc with z | z
    · rw [z]; exact nit b u e
    · exact nit c _ z
theorem Inv.tok (I : Inv X pins σ H s) (t : Nat) : Inv X pins σ H { s with toks := t } := I.un (h' := s.heap) (t' := t) Un.refl I.hok
/-- all objects kept -/
theorem Inv.kept {t' : Nat} (I : Inv X pins σ H s) (k : ∀ b u, s.heap.get? b = some u → h'.get? b = some u) : Inv X pins σ H { s with heap := h', toks := t' } := I.un (Un.kept k) (I.hok.kept k)
/-- a new object laid and tracked -/
theorem Inv.laid {a : Addr} {o : HO} {t' : Nat} (I : Inv X pins σ H s) (k : ∀ b u, s.heap.get? b = some u → h'.get? b = some u) (hp : s.heap.objs.size ≤ a) (new : ObjOk X.prog X.w (upd H a o) h' a o) :
    Inv X pins σ (upd H a o) { s with heap := h', toks := t' } := I.un (Un.laid k hp (I.hok.fresh hp)) (I.hok.laid k hp new)
/-- an object written -/
theorem Inv.write {x e : Addr} {o : HO} {t' : Nat} (I : Inv X pins σ H s) (mu : Mut (H x)) (he : e = x ∨ H e = some (.own x)) (k : ∀ b u, b ≠ e → s.heap.get? b = some u → h'.get? b = some u) (heo : ∃ u, h'.get? e = some u)
    (new : ObjOk X.prog X.w (upd H x o) h' x o) : Inv X pins σ (upd H x o) { s with heap := h', toks := t' } := I.un (Un.write mu he k heo) (I.hok.write mu he k heo new)
/-- forgetting slots, pins -/
theorem Inv.weak {σ' : List (Option V)} (I : Inv X pins σ H s) (hl : σ'.length = σ.length) (w : ∀ (i : Nat) v, σ'[i]? = some (some v) → σ[i]? = some (some v)) : Inv X pins σ' H s :=
  ⟨I.ok, I.os, I.bare, I.base, let ⟨m, hn, hl'⟩ := I.loc; ⟨m, hn, fun i x v e1 e2 e3 => hl' i x v e1 (w i v e2) e3⟩, I.cell, I.free, I.freeC, I.pin, I.hok, hl.trans I.len⟩
theorem Inv.pins_of {pins' : List (Addr × Obj)} (I : Inv X pins σ H s) (h : ∀ p ∈ pins', s.heap.get? p.1 = some p.2 ∧ H p.1 = none ∧ p.1 ≠ X.env.locals ∧ p.1 ∉ X.fs ∧ ∀ v, p.2.data ≠ .cell v) : Inv X pins' σ H s :=
  ⟨I.ok, I.os, I.bare, I.base, I.loc, I.cell, I.free, I.freeC, fun p hp => (List.mem_append.mp hp).elim (fun z => I.pin p (List.mem_append_left _ z)) (h p), I.hok, I.len⟩

theorem nodup_ix {N : List Str} (hN : N.Nodup) {i j : Nat} {x : Str} (a : N[i]? = some x) (b : N[j]? = some x) : i = j := by
  obtain ⟨h1, e1⟩ := List.getElem?_eq_some_iff.mp a
  obtain ⟨h2, e2⟩ := List.getElem?_eq_some_iff.mp b
  exact (List.getElem_inj hN).mp (e1.trans e2.symm)

/-- a name is stored; what changed -/
theorem store_ok2 {M : Model} {A : Around} {E : Value → Shared → Prop} {i : Nat} {x : Str} {v : V} {u : Value} {Q : Unit → Shared → Prop} (I : Inv X pins σ H s) (hN : X.N.Nodup) (hi : X.N[i]? = some x) (hx : Loc X.env.scope x) (r : RelV v u)
    (h : ∀ s', Inv X pins (σ.set i (some v)) H s' → (∃ a, Heap.SameBut a s.heap s'.heap ∧ (a = X.env.locals ∨ X.env.cells.lookup x = some a)) → Q () s') (hf : X.fn x = true ∨ X.env.scope.names.lookup x = some .local := by first | exact .inl rfl | exact .inr rfl | assumption) : wpAny M A (storeName X.env x u) Q E s := by
  obtain ⟨m, hn, hl⟩ := id I.loc
  have hcls : (X.env.scope.kind == .class || (X.env.scope.kind == .module && X.env.locals != X.env.globals)) = false := by rw [I.ok.kind]; rfl
  have hiσ : i < σ.length := by rw [I.len]; exact (List.getElem?_eq_some_iff.mp hi).1
  have cne := I.cne
  have tracked : ∀ {a : Addr} {h' : Heap}, (∃ o, s.heap.get? a = some o ∧ H a = none) → Heap.SameBut a s.heap h' → HOk X.prog X.w H h' := fun {a h'} ha hs b ob e => by
    obtain ⟨_, _, hfree⟩ := ha
    refine (I.hok b ob e).stay (fun c w' hc q => (hs.2 c ?_).trans q) (fun _ q => q) fun _ _ q => q
    rintro rfl
    rcases hc with rfl | hc
    · rw [hfree] at e; cases e
    · rw [hfree] at hc; cases hc
  rcases hx with hk | hk
  · refine wpAny_storeName_local hk hn (fun h' hn' hs => ?_) hcls
    obtain ⟨oL, _, _, hoL, _⟩ := id hn
    refine h _ ⟨I.ok, I.os, I.bare, ⟨fun b o e n hb hx => ?_, fun b o e n hb hx => ?_, I.base.free, fun b o e hx => ?_, I.base.tups, I.base.frzs, I.base.tbls⟩, ⟨_, hn', fun j y v' e1 e2 e3 => ?_⟩, fun y c e => ?_, I.free, I.freeC, fun p hp => ?_, tracked ⟨oL, hoL, I.free⟩ hs, by simpa using I.len⟩ ⟨_, hs, .inl rfl⟩
    · exact (hs.2 b (Nat.ne_of_lt (Nat.lt_of_lt_of_le (Heap.lt_size e) I.ok.above))).trans (I.base.keep b o e n hb hx)
    · obtain ⟨sl, e1⟩ := I.base.slot b o e n hb hx
      exact ⟨sl, (hs.2 b (Nat.ne_of_lt (Nat.lt_of_lt_of_le (Heap.lt_size e) I.ok.above))).trans e1⟩
    · obtain ⟨o', e1⟩ := I.base.there b o e hx
      exact ⟨o', (hs.2 b (Nat.ne_of_lt (Nat.lt_of_lt_of_le (Heap.lt_size e) I.ok.above))).trans e1⟩
    · by_cases hj : j = i
      · subst hj
        rw [hi] at e1; cases e1
        rw [List.getElem?_set_self hiσ] at e2
        cases e2
        exact ⟨u, r, .inl ⟨hk, by simp⟩⟩
      · rw [List.getElem?_set_ne (Ne.symm hj)] at e2
        obtain ⟨u', r', q⟩ := hl j y v' e1 e2 e3
        refine ⟨u', r', ?_⟩
        rcases q with ⟨k, e⟩ | ⟨k, c, e, z⟩
        · refine .inl ⟨k, ?_⟩
          have : y ≠ x := fun e => hj (nodup_ix hN e1 (e ▸ hi))
          simp [this, e]
        · exact .inr ⟨k, c, e, z.sameBut hs (cne y c e)⟩
    · obtain ⟨w', z⟩ := I.cell y c e
      exact ⟨w', z.sameBut hs (cne y c e)⟩
    · obtain ⟨e, n, ne, nf, d⟩ := I.pin p hp
      exact ⟨(hs.2 p.1 ne).trans e, n, ne, nf, d⟩
  · have hfn : X.fn x = true := by
      rcases hf with z | z
      · exact z
      · rw [z] at hk; cases hk
    obtain ⟨c, hc⟩ := I.ok.has x (.inl hk)
    obtain ⟨w', z⟩ := I.cell x c hc
    refine wpAny_storeName_cell I.ok.kind hk hc z (fun h' hc' hs => ?_)
    obtain ⟨oc, hoc, hocd⟩ := id z
    refine h { s with heap := h' } ⟨I.ok, I.os, I.bare, ⟨fun b o e n hb hx => ?_, fun b o e n hb hx => ?_, I.base.free, fun b o e hx => ?_, I.base.tups, I.base.frzs, I.base.tbls⟩, ⟨m, hn.sameBut hs (Ne.symm (cne x c hc)), fun j y v' e1 e2 e3 => ?_⟩, fun y c' e => ?_, I.free, I.freeC, fun p hp => ?_, tracked ⟨oc, hoc, I.freeC x c hc⟩ hs, by simpa using I.len⟩ ⟨c, hs, .inr hc⟩
    · exact (hs.2 b (Nat.ne_of_lt (Nat.lt_of_lt_of_le (Heap.lt_size e) (I.ok.cab x c hfn hc)))).trans (I.base.keep b o e n hb hx)
    · obtain ⟨sl, e1⟩ := I.base.slot b o e n hb hx
      exact ⟨sl, (hs.2 b (Nat.ne_of_lt (Nat.lt_of_lt_of_le (Heap.lt_size e) (I.ok.cab x c hfn hc)))).trans e1⟩
    · obtain ⟨o', e1⟩ := I.base.there b o e hx
      exact ⟨o', (hs.2 b (Nat.ne_of_lt (Nat.lt_of_lt_of_le (Heap.lt_size e) (I.ok.cab x c hfn hc)))).trans e1⟩
    · by_cases hj : j = i
      · subst hj
        rw [hi] at e1; cases e1
        rw [List.getElem?_set_self hiσ] at e2
        cases e2
        exact ⟨u, r, .inr ⟨.inl hk, c, hc, hc'⟩⟩
      · rw [List.getElem?_set_ne (Ne.symm hj)] at e2
        obtain ⟨u', r', q⟩ := hl j y v' e1 e2 e3
        refine ⟨u', r', ?_⟩
        rcases q with q | ⟨k, c', e, z'⟩
        · exact .inl q
        · refine .inr ⟨k, c', e, z'.sameBut hs ?_⟩
          rintro rfl
          exact hj (nodup_ix hN e1 (I.ok.inj _ _ _ e hc ▸ hi))
    · by_cases hcc : c' = c
      · subst hcc; exact ⟨_, hc'⟩
      · obtain ⟨w2, z2⟩ := I.cell y c' e
        exact ⟨w2, z2.sameBut hs hcc⟩
    · obtain ⟨e, n, ne, nf, d⟩ := I.pin p hp
      refine ⟨(hs.2 p.1 ?_).trans e, n, ne, nf, d⟩
      intro q
      rw [q, hoc] at e
      have q' : oc = p.2 := Option.some.inj e
      exact d w' (by rw [← q']; exact hocd)
theorem store_ok {M : Model} {A : Around} {E : Value → Shared → Prop} {i : Nat} {x : Str} {v : V} {u : Value} {Q : Unit → Shared → Prop} (I : Inv X pins σ H s) (hN : X.N.Nodup) (hi : X.N[i]? = some x) (hx : Loc X.env.scope x) (r : RelV v u)
    (h : ∀ s', Inv X pins (σ.set i (some v)) H s' → Q () s') (hf : X.fn x = true ∨ X.env.scope.names.lookup x = some .local := by first | exact .inl rfl | exact .inr rfl | assumption) : wpAny M A (storeName X.env x u) Q E s :=
  store_ok2 I hN hi hx r (fun s' I' _ => h s' I') hf
/-- behind a call or a block, the state as it is -/
theorem Inv.call' {s' : Shared} {ch : List Addr} (I : Inv X pins σ H s) (ho : s'.os = s.os) (u : Un (frs X.stack) ch H H' s.heap s'.heap) (hok : HOk X.prog X.w H' s'.heap) (hg : AllBare s'.gens)
    (hch : ∀ b ∈ ch, (b ∈ X.ex ∨ X.s₀.heap.objs.size ≤ b) ∧ b ≠ X.env.locals ∧ (∀ x c, X.env.cells.lookup x = some c → c ≠ b) ∧ ∀ p ∈ X.pn ++ pins, p.1 ≠ b) : Inv X pins σ H' s' := by
  obtain ⟨h', g', d', t', o'⟩ := s'
  have e : o' = s.os := ho
  subst e
  exact I.call (g' := g') (t' := t') (d' := d') u hok hg hch
end

/-! ### the judgements -/
/-- an exception: its class, its own dict's address (where it has one), the abstract heap behind it -/
abbrev XK := Value → Option Addr → Hp → Prop
abbrev St := List (Option V)
abbrev VK := V → Hp → Prop
/-- an expression's reading; a test's; an argument list's -/
abbrev TE := St → Hp → VK → Prop
abbrev TT := St → Hp → (Bool → Hp → Prop) → Prop
abbrev TA := St → Hp → (List V → Hp → Prop) → Prop
/-- what is wanted behind a statement -/
structure Ends where
  nx : St → Hp → Prop
  rt : VK
  bk : St → Hp → Prop := fun _ _ => False
  ct : St → Hp → Prop := fun _ _ => False
abbrev TS := Ends → St → Hp → Prop

def EP (X : Cx) (pins : List (Addr × Obj)) (σ : St) (Q : VK) (u : Value) (s' : Shared) : Prop := ∃ v H', Inv X pins σ H' s' ∧ RelV v u ∧ Q v H'
def TP (X : Cx) (pins : List (Addr × Obj)) (σ : St) (Q : Bool → Hp → Prop) (b : Bool) (s' : Shared) : Prop := ∃ H', Inv X pins σ H' s' ∧ Q b H'
def AP (X : Cx) (pins : List (Addr × Obj)) (σ : St) (Q : List V → Hp → Prop) (us : List Value) (s' : Shared) : Prop := ∃ vs H', Inv X pins σ H' s' ∧ Vals vs us ∧ Q vs H'
def SP (X : Cx) (pins : List (Addr × Obj)) (D : Ends) (f : Flow) (s' : Shared) : Prop :=
  match f with
  | .next => ∃ σ' H', Inv X pins σ' H' s' ∧ D.nx σ' H'
  | .brk => ∃ σ' H', Inv X pins σ' H' s' ∧ D.bk σ' H'
  | .cont => ∃ σ' H', Inv X pins σ' H' s' ∧ D.ct σ' H'
  | .ret u => ∃ v σ' H', Inv X pins σ' H' s' ∧ RelV v u ∧ D.rt v H'

def PE (X : Cx) (e : Expr) (t : TE) : Prop :=
  ∀ (pins : List (Addr × Obj)) (s : Shared) (σ : St) (H : Hp) (Q : VK), Inv X pins σ H s → t σ H Q → wpAny (model X.prog X.w) X.A (eval e X.env) (EP X pins σ Q) X.xe s
def PT (X : Cx) (e : Expr) (t : TT) : Prop :=
  ∀ (pins : List (Addr × Obj)) (s : Shared) (σ : St) (H : Hp) (Q : Bool → Hp → Prop), Inv X pins σ H s → t σ H Q → wpAny (model X.prog X.w) X.A (isTrue e X.env (eval e X.env)) (TP X pins σ Q) X.xe s
/-- a test whatever its 'whole' is (and, or) -/
def PW (X : Cx) (e : Expr) (t : TT) : Prop :=
  ∀ (whole : Sem Value) (pins : List (Addr × Obj)) (s : Shared) (σ : St) (H : Hp) (Q : Bool → Hp → Prop), Inv X pins σ H s → t σ H Q → wpAny (model X.prog X.w) X.A (isTrue e X.env whole) (TP X pins σ Q) X.xe s
theorem PW.pt {X : Cx} {e : Expr} {t : TT} (h : PW X e t) : PT X e t := h _
/-- an argument list (no star), from the left -/
def PA (X : Cx) (es : List Expr) (t : TA) : Prop :=
  ∀ (pos : Pos) (pins : List (Addr × Obj)) (s : Shared) (σ : St) (H : Hp) (Q : List V → Hp → Prop), Inv X pins σ H s → t σ H Q → wpAny (model X.prog X.w) X.A (spliced (backTo pos (starEach es X.env))) (AP X pins σ Q) X.xe s
def PS (X : Cx) (st : Stmt) (t : TS) : Prop :=
  ∀ (pins : List (Addr × Obj)) (s : Shared) (σ : St) (H : Hp) (D : Ends), Inv X pins σ H s → t D σ H → wpAny (model X.prog X.w) X.A (exec st X.env) (SP X pins D) X.xe s
def PSs (X : Cx) (st : List Stmt) (t : TS) : Prop :=
  ∀ (pins : List (Addr × Obj)) (s : Shared) (σ : St) (H : Hp) (D : Ends), Inv X pins σ H s → t D σ H → wpAny (model X.prog X.w) X.A (execs st X.env) (SP X pins D) X.xe s
/-- weaken the end -/
theorem thn {α : Type} {t : Sem α} {Q Q' : α → Shared → Prop} {M : Model} {A : Around} {E : Value → Shared → Prop} {s : Shared} (h : wpAny M A t Q E s) (hQ : ∀ a s, Q a s → Q' a s) : wpAny M A t Q' E s := wpAny_mono h hQ fun _ _ x => x
end L2

namespace L2
open PySem PySem.Spec PyProof.Rows
section
variable {X : Cx}

/-- two expressions in a row -/
theorem bin {a b : Expr} {ta tb : TE} (ha : PE X a ta) (hb : PE X b tb) {pins : List (Addr × Obj)} {s : Shared} {σ : St} {H : Hp} {R : V → V → Hp → Prop} (I : Inv X pins σ H s) (h : ta σ H fun x H1 => tb σ H1 fun y H2 => R x y H2)
    {α : Type} {Q : α → Shared → Prop} {f : Value → Value → Sem α}
    (hf : ∀ v u s2 x y H2, Inv X pins σ H2 s2 → RelV x v → RelV y u → R x y H2 → wpAny (model X.prog X.w) X.A (f v u) Q X.xe s2) :
    wpAny (model X.prog X.w) X.A (eval a X.env) (fun v s₁ => wpAny (model X.prog X.w) X.A (eval b X.env) (fun u s₂ => wpAny (model X.prog X.w) X.A (f v u) Q X.xe s₂) X.xe s₁) X.xe s := by
  refine thn (ha pins s σ H _ I h) fun v s1 ⟨x, H1, I1, r1, q1⟩ => ?_
  refine thn (hb pins s1 σ H1 _ I1 q1) fun u s2 ⟨y, H2, I2, r2, q2⟩ => ?_
  exact hf v u s2 x y H2 I2 r1 r2 q2

/-! ### names and constants -/
def tVar (i : Nat) : TE := fun σ H Q => ∃ v, σ[i]? = some (some v) ∧ Q v H
def tC (v : V) : TE := fun _ H Q => Q v H
theorem pe_var {i : Nat} {x : Str} {pos : Pos} (hN : X.N[i]? = some x) (hv : Vis X.env.scope x) (hd : (x == ("__debug__" : Str)) = false := by decide) (hcd : (x == ("__classdict__" : Str)) = false := by decide) : PE X (.Name x pos) (tVar i) := by
  intro pins s σ H Q I h
  obtain ⟨v, e, h⟩ := h
  obtain ⟨m, hn, hl⟩ := I.loc
  obtain ⟨u, r, l⟩ := hl i x v hN e hv
  have fin : EP X pins σ Q u s := ⟨v, H, I, r, h⟩
  rcases l with ⟨hk, hm⟩ | ⟨hk, c, hc, hcell⟩
  · exact wpAny_Name (wpAny_loadName_local I.ok.kind hk hn hm fin) hd
  · rcases hk with hk | hk
    · exact wpAny_Name (wpAny_loadName_cell I.ok.kind hk hc hcell fin) hd
    · exact wpAny_Name (wpAny_loadName_free I.ok.kind hk hc hcell fin hcd) hd
theorem pe_int {i j pos} : PE X (.Constant (.int i) j pos) (tC (.int i)) := fun _ _ _ H _ I h => wpAny_Constant_int ⟨.int i, H, I.tok _, ⟨_, rfl⟩, h⟩
theorem pe_bl {b j pos} : PE X (.Constant (.bool b) j pos) (tC (.bl b)) := fun _ _ _ H _ I h => Constant_bool ⟨.bl b, H, I, rfl, h⟩
theorem pe_non {j pos} : PE X (.Constant .none j pos) (tC .non) := fun _ _ _ H _ I h => Constant_none ⟨.non, H, I, rfl, h⟩
theorem pe_str {x j pos} : PE X (.Constant (.str x) j pos) (tC (.str x)) := fun _ _ _ H _ I h => Calls.Constant_str ⟨.str x, H, I.tok _, ⟨_, rfl⟩, h⟩

/-- a global name of the def -/
def Gl (X : Cx) (x : Str) : Prop := X.env.kindOf x = some .globalImplicit
theorem ld_glob {E : Value → Shared → Prop} {pins : List (Addr × Obj)} {s : Shared} {σ : St} {H : Hp} {x : Str} {u : Value} {pos : Pos} {Q : Value → Shared → Prop} (I : Inv X pins σ H s) (hg : Gl X x) (hm : X.mg x = some u) (h : Q u s)
    (hd : (x == ("__debug__" : Str)) = false := by decide) : wpAny (model X.prog X.w) X.A (eval (.Name x pos) X.env) Q E s :=
  Calls.Name_function_global I.ok.kind hg (Calls.loadGlobal_global (by rw [I.ok.glob]; exact I.mod.glob.keeps I.bk) hm h) hd
theorem ld_blt {E : Value → Shared → Prop} {pins : List (Addr × Obj)} {s : Shared} {σ : St} {H : Hp} {x : Str} {u : Value} {pos : Pos} {Q : Value → Shared → Prop} (I : Inv X pins σ H s) (hg : Gl X x) (hm : X.mg x = none) (hv : bootBuiltins x = some u) (h : Q u s)
    (hn : x ≠ "__name__" := by decide) (hd : (x == ("__debug__" : Str)) = false := by decide) : wpAny (model X.prog X.w) X.A (eval (.Name x pos) X.env) Q E s := by
  obtain ⟨mb, h1, h2⟩ := I.mod.blt
  exact Calls.Name_function_global I.ok.kind hg (Calls.loadGlobal_builtin (by rw [I.ok.glob]; exact I.mod.glob.keeps I.bk) hm (by rw [I.ok.blt]; exact h1.keeps I.bk) ((h2 x hn).trans hv) h) hd
/-- a module's constant, a class, a function, as a value -/
theorem pe_glob {x : Str} {v : V} {u : Value} {pos : Pos} (hg : Gl X x) (hm : X.mg x = some u) (r : RelV v u) (hd : (x == ("__debug__" : Str)) = false := by decide) : PE X (.Name x pos) (tC v) :=
  fun _ _ _ H _ I h => ld_glob I hg hm ⟨v, H, I, r, h⟩ hd
theorem pe_bltn {x : Str} {v : V} {u : Value} {pos : Pos} (hg : Gl X x) (hm : X.mg x = none) (hv : bootBuiltins x = some u) (r : RelV v u) (hn : x ≠ "__name__" := by decide) (hd : (x == ("__debug__" : Str)) = false := by decide) : PE X (.Name x pos) (tC v) :=
  fun _ _ _ H _ I h => ld_blt I hg hm hv ⟨v, H, I, r, h⟩ hn hd

/-! ### arithmetic -/
/-- two ints -/
def t2I (ta tb : TE) (k : Int → Int → Hp → Prop) : St → Hp → Prop := fun σ H => ta σ H fun x H1 => tb σ H1 fun y H2 => ∃ i j, x = .int i ∧ y = .int j ∧ k i j H2
def tAdd (ta tb : TE) : TE := fun σ H Q => t2I ta tb (fun i j H2 => Q (.int (i + j)) H2) σ H
def tSub (ta tb : TE) : TE := fun σ H Q => t2I ta tb (fun i j H2 => Q (.int (i - j)) H2) σ H
/-- the left factor below 2^64 -/
def tMul (ta tb : TE) : TE := fun σ H Q => t2I ta tb (fun i j H2 => (-(2 ^ 64) < i ∧ i < 2 ^ 64) ∧ Q (.int (i * j)) H2) σ H
variable {a b : Expr} {ta tb : TE} {pos : Pos}
theorem pe_add (ha : PE X a ta) (hb : PE X b tb) : PE X (.BinOp a .Add b pos) (tAdd ta tb) := by
  intro pins s σ H Q I h
  refine wpAny_BinOp (bin ha hb I h fun v u s2 x y H2 I2 rx ry q => ?_)
  obtain ⟨i, j, rfl, rfl, q⟩ := q
  obtain ⟨t, rfl⟩ := rx
  obtain ⟨t', rfl⟩ := ry
  exact add_int ⟨.int _, H2, I2.tok _, ⟨_, rfl⟩, q⟩
theorem pe_sub (ha : PE X a ta) (hb : PE X b tb) : PE X (.BinOp a .Sub b pos) (tSub ta tb) := by
  intro pins s σ H Q I h
  refine wpAny_BinOp (bin ha hb I h fun v u s2 x y H2 I2 rx ry q => ?_)
  obtain ⟨i, j, rfl, rfl, q⟩ := q
  obtain ⟨t, rfl⟩ := rx
  obtain ⟨t', rfl⟩ := ry
  exact sub_int ⟨.int _, H2, I2.tok _, ⟨_, rfl⟩, q⟩
theorem pe_mul (ha : PE X a ta) (hb : PE X b tb) : PE X (.BinOp a .Mult b pos) (tMul ta tb) := by
  intro pins s σ H Q I h
  refine wpAny_BinOp (bin ha hb I h fun v u s2 x y H2 I2 rx ry q => ?_)
  obtain ⟨i, j, rfl, rfl, ⟨q1, q2⟩, q⟩ := q
  obtain ⟨t, rfl⟩ := rx
  obtain ⟨t', rfl⟩ := ry
  exact mul_int ⟨.int _, H2, I2.tok _, ⟨_, rfl⟩, q⟩ (.of_left (intBits_le_64 q1 q2))

/-! ### comparisons -/
def PC (X : Cx) (op : CmpOp) (a b : Expr) (t : TE) : Prop :=
  ∀ (pins : List (Addr × Obj)) (s : Shared) (σ : St) (H : Hp) (Q : VK), Inv X pins σ H s → t σ H Q →
    wpAny (model X.prog X.w) X.A (eval a X.env) (fun v s₁ => wpAny (model X.prog X.w) X.A (eval b X.env) (fun u s₂ => wpAny (model X.prog X.w) X.A (compareOp op v u) (EP X pins σ Q) X.xe s₂) X.xe s₁) X.xe s
theorem nobehind (b : Expr) {op : CmpOp} (h : op ≠ .In) (h2 : op ≠ .NotIn) : behindInMarks op b = false := by
  have e1 : (op == CmpOp.In) = false := by cases op <;> first | rfl | exact absurd rfl h
  have e2 : (op == CmpOp.NotIn) = false := by cases op <;> first | rfl | exact absurd rfl h2
  cases b <;> simp [behindInMarks, e1, e2]
def tCmp (p : Int → Int → Bool) (ta tb : TE) : TE := fun σ H Q => t2I ta tb (fun i j H2 => Q (.bl (p i j)) H2) σ H
abbrev tLt : TE → TE → TE := tCmp fun i j => decide (i < j)
abbrev tLe : TE → TE → TE := tCmp fun i j => decide (i ≤ j)
abbrev tGt : TE → TE → TE := tCmp fun i j => decide (j < i)
abbrev tGe : TE → TE → TE := tCmp fun i j => decide (j ≤ i)
abbrev tEqI : TE → TE → TE := tCmp fun i j => decide (i = j)
abbrev tNeI : TE → TE → TE := tCmp fun i j => !decide (i = j)
/-- a comparison of two ints, by its rule -/
theorem pc_int {op : CmpOp} {p : Int → Int → Bool} (ha : PE X a ta) (hb : PE X b tb)
    (rule : ∀ (i j : Int) (t u : Tok) (Q : Value → Shared → Prop) (s : Shared), Q (.bool (p i j)) s → wpAny (model X.prog X.w) X.A (compareOp op (.int i t) (.int j u)) Q X.xe s) : PC X op a b (tCmp p ta tb) := by
  intro pins s σ H Q I h
  refine bin ha hb I h fun v u s2 x y H2 I2 rx ry q => ?_
  obtain ⟨i, j, rfl, rfl, q⟩ := q
  obtain ⟨t, rfl⟩ := rx
  obtain ⟨t', rfl⟩ := ry
  exact rule i j t t' _ s2 ⟨.bl _, H2, I2, rfl, q⟩
theorem pc_lt (ha : PE X a ta) (hb : PE X b tb) : PC X .Lt a b (tLt ta tb) := pc_int ha hb fun _ _ _ _ _ _ h => lt_int h
theorem pc_le (ha : PE X a ta) (hb : PE X b tb) : PC X .LtE a b (tLe ta tb) := pc_int ha hb fun _ _ _ _ _ _ h => le_int h
theorem pc_gt (ha : PE X a ta) (hb : PE X b tb) : PC X .Gt a b (tGt ta tb) := pc_int ha hb fun _ _ _ _ _ _ h => gt_int h
theorem pc_ge (ha : PE X a ta) (hb : PE X b tb) : PC X .GtE a b (tGe ta tb) := pc_int ha hb fun _ _ _ _ _ _ h => ge_int h
theorem pc_eqI (ha : PE X a ta) (hb : PE X b tb) : PC X .Eq a b (tEqI ta tb) := pc_int ha hb fun _ _ _ _ _ _ h => eq_int (by rw [Bool.beq_eq_decide_eq]; exact h)
theorem pc_neI (ha : PE X a ta) (hb : PE X b tb) : PC X .NotEq a b (tNeI ta tb) := pc_int ha hb fun _ _ _ _ _ _ h => ne_int (by rw [bne, Bool.beq_eq_decide_eq]; exact h)
/-- is None -/
def tIsN (ta : TE) : TE := fun σ H Q => ta σ H fun x H1 => Q (.bl (decide (x = .non))) H1
def tNotN (ta : TE) : TE := fun σ H Q => ta σ H fun x H1 => Q (.bl (!decide (x = .non))) H1
theorem RelV.none_iff {x : V} {v : Value} (r : RelV x v) : (v == Value.none) = decide (x = .non) := by
  cases x with
  | non => cases r; rfl
  | bl _ => cases r; rfl
  | int _ => obtain ⟨t, rfl⟩ := r; rfl
  | str _ => obtain ⟨t, rfl⟩ := r; rfl
  | byt _ => obtain ⟨t, rfl⟩ := r; rfl
  | flt _ => obtain ⟨t, rfl⟩ := r; rfl
  | ref _ => cases r; rfl
  | ty _ => cases r; rfl
theorem pc_isN {j pos'} (ha : PE X a ta) : PC X .Is a (.Constant .none j pos') (tIsN ta) := by
  intro pins s σ H Q I h
  refine thn (ha pins s σ H _ I h) fun v s1 ⟨x, H1, I1, r1, q1⟩ => ?_
  exact Constant_none (is_none_gen ⟨.bl _, H1, I1, by rw [r1.none_iff]; rfl, q1⟩)
theorem pc_notN {j pos'} (ha : PE X a ta) : PC X .IsNot a (.Constant .none j pos') (tNotN ta) := by
  intro pins s σ H Q I h
  refine thn (ha pins s σ H _ I h) fun v s1 ⟨x, H1, I1, r1, q1⟩ => ?_
  exact Constant_none (isnot_none_gen ⟨.bl _, H1, I1, by rw [r1.none_iff]; rfl, q1⟩)
/-- a comparison as a value, as a test -/
def tB (t : TE) : TT := fun σ H Q => t σ H fun x H1 => ∃ c, x = .bl c ∧ Q c H1
theorem pe_cmp {op : CmpOp} {t : TE} (h : PC X op a b t) (h1 : behindInMarks op b = false := by first | exact nobehind _ (by decide) (by decide) | rfl) : PE X (.Compare a [op] [b] pos) t := fun pins s σ H Q I hw => wpAny_Compare1 (h pins s σ H Q I hw) h1
theorem pt_cmp {op : CmpOp} {t : TE} (h : PC X op a b t) (h1 : behindInMarks op b = false := by first | exact nobehind _ (by decide) (by decide) | rfl) : PT X (.Compare a [op] [b] pos) (tB t) := by
  intro pins s σ H Q I hw
  refine wpAny_isTrue_Compare1 (thn (h pins s σ H _ I hw) fun v s1 h1 => thn h1 fun u s2 h2 => thn h2 fun c s3 ⟨x, H1, I1, r1, q1⟩ => ?_) h1
  obtain ⟨d, rfl, q⟩ := q1
  cases r1
  exact wpAny_truthy_bool ⟨H1, I1, q⟩
/-- an expression whose value is a bool, as a test -/
theorem pt_val {e : Expr} {t : TE} (h : PE X e t) (he : ∀ whole, isTrue e X.env whole = (do let v ← whole; standAt e.pos; holding [v] (truthy v)) := by intro _; rfl) : PT X e (tB t) := by
  intro pins s σ H Q I hw
  refine isTrue_plain (thn (h pins s σ H _ I hw) fun v s1 ⟨x, H1, I1, r1, q1⟩ => ?_) (he _)
  obtain ⟨d, rfl, q⟩ := q1
  cases r1
  exact wpAny_truthy_bool ⟨H1, I1, q⟩

/-! ### and, or, not -/
variable {tA tB' : TT} {rest : List Expr}
def tAnd (t u : TT) : TT := fun σ H Q => t σ H fun c H1 => if c = true then u σ H1 Q else Q false H1
def tOr (t u : TT) : TT := fun σ H Q => t σ H fun c H1 => if c = true then Q true H1 else u σ H1 Q
def tNot (t : TT) : TT := fun σ H Q => t σ H fun c H1 => Q (!c) H1
theorem pw_and1 (ha : PT X a tA) : PW X (.BoolOp .And [a] pos) tA := by
  intro wh pins s σ H Q I h
  refine isTrue_and (thn (ha pins s σ H Q I h) fun c s1 e => ?_)
  cases c with
  | true => exact isTrue_and_nil e
  | false => exact e
theorem pw_or1 (ha : PT X a tA) : PW X (.BoolOp .Or [a] pos) tA := by
  intro wh pins s σ H Q I h
  refine isTrue_or (thn (ha pins s σ H Q I h) fun c s1 e => ?_)
  cases c with
  | false => exact isTrue_or_nil e
  | true => exact e
theorem pw_and (ha : PT X a tA) (hb : PW X (.BoolOp .And (b :: rest) pos) tB') : PW X (.BoolOp .And (a :: b :: rest) pos) (tAnd tA tB') := by
  intro wh pins s σ H Q I h
  refine isTrue_and (thn (ha pins s σ H _ I h) fun c s1 ⟨H1, I1, q1⟩ => ?_)
  cases c with
  | true => exact hb wh pins s1 σ H1 Q I1 q1
  | false => exact ⟨H1, I1, q1⟩
theorem pw_or (ha : PT X a tA) (hb : PW X (.BoolOp .Or (b :: rest) pos) tB') : PW X (.BoolOp .Or (a :: b :: rest) pos) (tOr tA tB') := by
  intro wh pins s σ H Q I h
  refine isTrue_or (thn (ha pins s σ H _ I h) fun c s1 ⟨H1, I1, q1⟩ => ?_)
  cases c with
  | true => exact ⟨H1, I1, q1⟩
  | false => exact hb wh pins s1 σ H1 Q I1 q1
theorem pt_not (ha : PT X a tA) : PT X (.UnaryOp .Not a pos) (tNot tA) := by
  intro pins s σ H Q I h
  exact isTrue_not (ha pins s σ H (fun c H1 => Q (!c) H1) I h)
/-- .. as values (bools) -/
def tAndV (ta tb : TE) : TE := fun σ H Q => ta σ H fun x H1 => ∃ c, x = .bl c ∧ if c = true then tb σ H1 Q else Q (.bl false) H1
def tOrV (ta tb : TE) : TE := fun σ H Q => ta σ H fun x H1 => ∃ c, x = .bl c ∧ if c = true then Q (.bl true) H1 else tb σ H1 Q
def tNotV (ta : TE) : TE := fun σ H Q => ta σ H fun x H1 => ∃ c, x = .bl c ∧ Q (.bl (!c)) H1
theorem pe_one {op} {t : TE} (h : PE X a t) : PE X (.BoolOp op [a] pos) t := fun pins s σ H Q I hw => BoolOp_one (h pins s σ H Q I hw)
theorem pe_and (ha : PE X a ta) (hb : PE X (.BoolOp .And (b :: rest) pos) tb) : PE X (.BoolOp .And (a :: b :: rest) pos) (tAndV ta tb) := by
  intro pins s σ H Q I h
  refine BoolOp_and (thn (ha pins s σ H _ I h) fun v s1 ⟨x, H1, I1, r1, q1⟩ => ?_)
  obtain ⟨c, rfl, q1⟩ := q1
  cases r1
  refine wpAny_truthy_bool ?_
  cases c with
  | true => exact hb pins s1 σ H1 Q I1 q1
  | false => exact ⟨.bl false, H1, I1, rfl, q1⟩
theorem pe_or (ha : PE X a ta) (hb : PE X (.BoolOp .Or (b :: rest) pos) tb) : PE X (.BoolOp .Or (a :: b :: rest) pos) (tOrV ta tb) := by
  intro pins s σ H Q I h
  refine BoolOp_or (thn (ha pins s σ H _ I h) fun v s1 ⟨x, H1, I1, r1, q1⟩ => ?_)
  obtain ⟨c, rfl, q1⟩ := q1
  cases r1
  refine wpAny_truthy_bool ?_
  cases c with
  | false => exact hb pins s1 σ H1 Q I1 q1
  | true => exact ⟨.bl true, H1, I1, rfl, q1⟩
theorem pe_not (ha : PE X a ta) : PE X (.UnaryOp .Not a pos) (tNotV ta) := by
  intro pins s σ H Q I h
  refine UnaryOp_ (thn (ha pins s σ H _ I h) fun v s1 ⟨x, H1, I1, r1, q1⟩ => ?_)
  obtain ⟨c, rfl, q1⟩ := q1
  cases r1
  exact not_of (wpAny_truthy_bool ⟨.bl (!c), H1, I1, rfl, q1⟩)
/-- a if t else b -/
def tIf (t : TT) (ta tb : TE) : TE := fun σ H Q => t σ H fun c H1 => if c = true then ta σ H1 Q else tb σ H1 Q
theorem pe_ifExp {c : Expr} (hc : PT X c tA) (ha : PE X a ta) (hb : PE X b tb) : PE X (.IfExp c a b pos) (tIf tA ta tb) := by
  intro pins s σ H Q I h
  refine wpAny_IfExp (thn (hc pins s σ H _ I h) fun d s1 ⟨H1, I1, q1⟩ => ?_)
  cases d with
  | true => exact ha pins s1 σ H1 Q I1 q1
  | false => exact hb pins s1 σ H1 Q I1 q1
end
end L2

namespace L2
open PySem PySem.Spec PyProof.Rows

/-! ### a list, a tuple that is read: tracked, frozen, or an object of the module -/
def SqL (K : PySem.W.Frag) (H : Hp) (a : Addr) (xs : List V) : Prop :=
  Rd H a (.lst xs) ∨
    ∃ (o : Obj) (its : Array Value) (n : Nat), K.lookup a = some o ∧ o.cls = .type "list" ∧ o.dict = none ∧ o.data = .seq its n ∧ its.size ≤ sizeLine ∧ Vals xs its.toList
def SqT (K : PySem.W.Frag) (H : Hp) (a : Addr) (xs : List V) : Prop :=
  Rd H a (.tup xs) ∨
    ∃ (o : Obj) (its : Array Value) (n : Nat), K.lookup a = some o ∧ o.cls = .type "tuple" ∧ o.data = .seq its n ∧ its.size ≤ sizeLine ∧ Vals xs its.toList
def absV : Value → Option V
  | .none => some .non
  | .bool b => some (.bl b)
  | .int i _ => some (.int i)
  | .str x _ => some (.str x)
  | .bytes b _ => some (.byt b)
  | .float b _ => some (.flt b)
  | .ref a => some (.ref a)
  | .type n => some (.ty n)
  | _ => none
theorem RelV.abs {x : V} {u : Value} (r : RelV x u) : absV u = some x := by
  cases x with
  | non => cases r; rfl
  | bl _ => cases r; rfl
  | int _ => obtain ⟨t, rfl⟩ := r; rfl
  | str _ => obtain ⟨t, rfl⟩ := r; rfl
  | byt _ => obtain ⟨t, rfl⟩ := r; rfl
  | flt _ => obtain ⟨t, rfl⟩ := r; rfl
  | ref _ => cases r; rfl
  | ty _ => cases r; rfl
theorem RelV.inj {x y : V} {u : Value} (r : RelV x u) (q : RelV y u) : x = y := Option.some.inj (r.abs.symm.trans q.abs)
theorem Vals.inj : ∀ {xs ys : List V} {us : List Value}, Vals xs us → Vals ys us → xs = ys
  | _, _, _, .nil, .nil => rfl
  | _, _, _, .cons r t, .cons r' t' => by rw [r.inj r', Vals.inj t t']
section
variable {X : Cx} {pins : List (Addr × Obj)} {σ : St} {H : Hp} {s : Shared} {a : Addr} {xs ys : List V}
theorem SqL.of {K : PySem.W.Frag} (h : H a = some (.lst xs)) : SqL K H a xs := .inl (.inl h)
theorem SqT.of {K : PySem.W.Frag} (h : H a = some (.tup xs)) : SqT K H a xs := .inl (.inl h)
theorem Inv.list (I : Inv X pins σ H s) (h : SqL X.K H a xs) : ∃ its : List Value, Vals xs its ∧ PlainL s.heap a its.toArray ∧ xs.length ≤ sizeLine := by
  rcases h with h | ⟨o, its, n, hk, hc, hd, hs, hz, r⟩
  · obtain ⟨z, its, n, r, e⟩ := h.ok I.hok
    exact ⟨its, r, ⟨_, n, e, rfl, rfl, rfl⟩, z⟩
  · refine ⟨its.toList, r, ⟨o, n, I.kIn a o hk, hc, hd, by simpa using hs⟩, ?_⟩
    have e := r.length
    simp only [Array.length_toList] at e
    omega
theorem Inv.tuple (I : Inv X pins σ H s) (h : SqT X.K H a xs) : ∃ its : List Value, Vals xs its ∧ IsTup s.heap a its.toArray ∧ xs.length ≤ sizeLine := by
  rcases h with h | ⟨o, its, n, hk, hc, hs, hz, r⟩
  · obtain ⟨z, its, r, p⟩ := h.ok I.hok
    exact ⟨its, r, p, z⟩
  · refine ⟨its.toList, r, ⟨o, I.kIn a o hk, hc, n, by simpa using hs⟩, ?_⟩
    have e := r.length
    simp only [Array.length_toList] at e
    omega
theorem Inv.list_inj (I : Inv X pins σ H s) (h : SqL X.K H a xs) (h' : SqL X.K H a ys) : xs = ys := by
  obtain ⟨its, r, ⟨o, n, e, _, _, d⟩, _⟩ := I.list h
  obtain ⟨its', r', ⟨o', n', e', _, _, d'⟩, _⟩ := I.list h'
  rw [e] at e'; cases e'
  rw [d] at d'
  injection d' with d1 _
  have : its = its' := by simpa using congrArg Array.toList d1
  subst this
  exact r.inj r'
theorem Inv.tuple_inj (I : Inv X pins σ H s) (h : SqT X.K H a xs) (h' : SqT X.K H a ys) : xs = ys := by
  obtain ⟨its, r, ⟨o, e, _, n, d⟩, _⟩ := I.tuple h
  obtain ⟨its', r', ⟨o', e', _, n', d'⟩, _⟩ := I.tuple h'
  rw [e] at e'; cases e'
  rw [d] at d'
  injection d' with d1 _
  have : its = its' := by simpa using congrArg Array.toList d1
  subst this
  exact r.inj r'
end

/-! ### another wish about exceptions -/
abbrev Cx.wish (X : Cx) (E : Value → Shared → Prop) : Cx := { X with xe := E }
/-- no exception leaves -/
abbrev Cx.nox (X : Cx) : Cx := X.wish fun _ _ => False
theorem Cx.Ok.wish {X : Cx} (ok : X.Ok) (E : Value → Shared → Prop) : (X.wish E).Ok :=
  ⟨ok.mod, ok.kind, ok.glob, ok.blt, ok.above, ok.inj, ok.has, ok.cab, ok.hd, ok.frames, ok.stk, ok.exf, ok.bs, ok.bsz, ok.noex, ok.exfs, ok.funs, ok.frf⟩
theorem Cx.Ok.unwish {X : Cx} {E : Value → Shared → Prop} (ok : (X.wish E).Ok) : X.Ok :=
  ⟨ok.mod, ok.kind, ok.glob, ok.blt, ok.above, ok.inj, ok.has, ok.cab, ok.hd, ok.frames, ok.stk, ok.exf, ok.bs, ok.bsz, ok.noex, ok.exfs, ok.funs, ok.frf⟩
section
variable {X : Cx} {pins : List (Addr × Obj)} {σ : St} {H : Hp} {s : Shared} {E : Value → Shared → Prop}
theorem Inv.wish (I : Inv X pins σ H s) (E : Value → Shared → Prop) : Inv (X.wish E) pins σ H s := ⟨I.ok.wish E, I.os, I.bare, I.base, I.loc, I.cell, I.free, I.freeC, I.pin, I.hok, I.len⟩
theorem Inv.unwish (I : Inv (X.wish E) pins σ H s) : Inv X pins σ H s := ⟨I.ok.unwish, I.os, I.bare, I.base, I.loc, I.cell, I.free, I.freeC, I.pin, I.hok, I.len⟩
theorem SP.unwish {D : Ends} {f : Flow} {s' : Shared} (h : SP (X.wish E) pins D f s') : SP X pins D f s' := by
  cases f with
  | next => obtain ⟨σ', H', I, q⟩ := h; exact ⟨σ', H', I.unwish, q⟩
  | brk => obtain ⟨σ', H', I, q⟩ := h; exact ⟨σ', H', I.unwish, q⟩
  | cont => obtain ⟨σ', H', I, q⟩ := h; exact ⟨σ', H', I.unwish, q⟩
  | ret u => obtain ⟨v, σ', H', I, r, q⟩ := h; exact ⟨v, σ', H', I.unwish, r, q⟩
theorem PE.nox {e : Expr} {t : TE} (h : PE X.nox e t) : PE X e t := fun pins s σ H Q I hw =>
  wpAny_mono (h pins s σ H Q (I.wish _) hw) (fun _ _ ⟨v, H', I', r, q⟩ => ⟨v, H', I'.unwish, r, q⟩) fun _ _ z => False.elim z
theorem PT.nox {e : Expr} {t : TT} (h : PT X.nox e t) : PT X e t := fun pins s σ H Q I hw =>
  wpAny_mono (h pins s σ H Q (I.wish _) hw) (fun _ _ ⟨H', I', q⟩ => ⟨H', I'.unwish, q⟩) fun _ _ z => False.elim z
theorem PSs.nox {st : List Stmt} {t : TS} (h : PSs X.nox st t) : PSs X st t := fun pins s σ H D I hw =>
  wpAny_mono (h pins s σ H D (I.wish _) hw) (fun _ _ q => q.unwish) fun _ _ z => False.elim z
end

/-! ### blocks and small statements -/
section
variable {X : Cx} {st : Stmt} {rest : List Stmt} {t u : TS} {e : Expr} {te : TE} {pos : Pos}
def tNext : TS := fun D σ H => D.nx σ H
def tSeq (t u : TS) : TS := fun D σ H => t { D with nx := u D } σ H
theorem pss_nil : PSs X [] tNext := fun _ _ σ H _ I h => wpAny_execs_nil ⟨σ, H, I, h⟩
theorem pss_cons (h1 : PS X st t) (h2 : PSs X rest u) : PSs X (st :: rest) (tSeq t u) := by
  intro pins s σ H D I h
  refine wpAny_execs_cons (thn (h1 pins s σ H { D with nx := u D } I h) fun f s1 q => ?_)
  cases f with
  | next =>
    obtain ⟨σ', H', I', q⟩ := q
    exact h2 pins s1 σ' H' D I' q
  | ret v => exact q
  | brk => exact q
  | cont => exact q
theorem pss_one (h1 : PS X st t) : PSs X [st] t := by
  intro pins s σ H D I h
  refine wpAny_execs_cons (thn (h1 pins s σ H D I h) fun f s1 q => ?_)
  cases f with
  | next => exact wpAny_execs_nil q
  | ret v => exact q
  | brk => exact q
  | cont => exact q
def tBreak : TS := fun D σ H => D.bk σ H
def tCont : TS := fun D σ H => D.ct σ H
theorem ps_pass : PS X (.Pass pos) tNext := fun _ _ σ H _ I h => wpAny_Pass ⟨σ, H, I, h⟩
theorem ps_break : PS X (.Break pos) tBreak := fun _ _ σ H _ I h => wpAny_Break ⟨σ, H, I, h⟩
theorem ps_continue : PS X (.Continue pos) tCont := fun _ _ σ H _ I h => wpAny_Continue ⟨σ, H, I, h⟩
/-- in a def's body nothing is shown -/
theorem Inv.quiet {pins : List (Addr × Obj)} {σ : St} {H : Hp} {s : Shared} (I : Inv X pins σ H s) : interactive X.env = false := by simp [interactive, I.ok.kind]
/-- a docstring -/
theorem ps_doc {x j pos pos'} : PS X (.Expr (.Constant (.str x) j pos) pos') tNext := fun _ s σ H _ I h => wpAny_Expr (Calls.Constant_str (show SP X _ _ .next { s with toks := s.toks + 1 } from ⟨σ, H, I.tok _, h⟩)) I.quiet
/-- an expression whose value is dropped -/
def tDrop (te : TE) : TS := fun D σ H => te σ H fun _ H1 => D.nx σ H1
theorem ps_expr (he : PE X e te) (hs : swapsWith e none pos.line X.env = pure false := by rfl) : PS X (.Expr e pos) (tDrop te) := by
  intro pins s σ H D I h
  exact wpAny_Expr_any (thn (he pins s σ H _ I h) fun v s1 ⟨x, H1, I1, r1, q1⟩ => ⟨σ, H1, I1, q1⟩) I.quiet hs
def tRet (te : TE) : TS := fun D σ H => te σ H D.rt
theorem ps_ret (he : PE X e te) : PS X (.Return (some e) pos) (tRet te) := by
  intro pins s σ H D I h
  exact wpAny_Return_some (thn (he pins s σ H _ I h) fun v s1 ⟨x, H1, I1, r1, q1⟩ => ⟨x, σ, H1, I1, r1, q1⟩)
def tRetN : TS := fun D _ H => D.rt .non H
theorem ps_retN : PS X (.Return none pos) tRetN := fun _ _ σ H _ I h => wpAny_Return_none ⟨.non, σ, H, I, rfl, h⟩
def tIfS (c : TT) (t u : TS) : TS := fun D σ H => c σ H fun b H1 => if b = true then t D σ H1 else u D σ H1
theorem ps_if {c : Expr} {a b : List Stmt} {tc : TT} (hc : PT X c tc) (ha : PSs X a t) (hb : PSs X b u) : PS X (.If c a b pos) (tIfS tc t u) := by
  intro pins s σ H D I h
  refine wpAny_If (thn (hc pins s σ H _ I h) fun d s1 ⟨H1, I1, q1⟩ => ?_)
  cases d with
  | true => exact ha pins s1 σ H1 D I1 q1
  | false => exact hb pins s1 σ H1 D I1 q1
/-- code that the proof never comes to -/
def tNever : TS := fun _ _ _ => False
theorem ps_never : PS X st tNever := fun _ _ _ _ _ _ h => h.elim
theorem pss_never {sts : List Stmt} : PSs X sts tNever := fun _ _ _ _ _ _ h => h.elim
end

/-! ### targets -/
abbrev TG := V → St → Hp → (St → Hp → Prop) → Prop
abbrev TGs := List V → St → Hp → (St → Hp → Prop) → Prop
def PG (X : Cx) (target : Expr) (t : TG) : Prop :=
  ∀ (pins : List (Addr × Obj)) (s : Shared) (σ : St) (H : Hp) (v : V) (u : Value) (Q : St → Hp → Prop), Inv X pins σ H s → RelV v u → t v σ H Q →
    wpAny (model X.prog X.w) X.A (assign target X.env u) (fun _ s' => ∃ σ' H', Inv X pins σ' H' s' ∧ Q σ' H') X.xe s
/-- several targets, one after another -/
def PGs (X : Cx) (ts : List Expr) (t : TGs) : Prop :=
  ∀ (pins : List (Addr × Obj)) (s : Shared) (σ : St) (H : Hp) (vs : List V) (us : List Value) (Q : St → Hp → Prop), Inv X pins σ H s → Vals vs us → t vs σ H Q →
    wpAny (model X.prog X.w) X.A (assignInOrder ((assignEach ts X.env).map (·.2)) us) (fun _ s' => ∃ σ' H', Inv X pins σ' H' s' ∧ Q σ' H') X.xe s
/-- o[i] = v, by values -/
abbrev TSet := V → V → V → Hp → (Hp → Prop) → Prop
def PSet (X : Cx) (t : TSet) : Prop :=
  ∀ (pins : List (Addr × Obj)) (s : Shared) (σ : St) (H : Hp) (o i v : V) (ov iv u : Value) (Q : Hp → Prop), Inv X pins σ H s → RelV o ov → RelV i iv → RelV v u → t o i v H Q →
    wpAny (model X.prog X.w) X.A (setItem ov iv u) (fun _ s' => ∃ H', Inv X pins σ H' s' ∧ Q H') X.xe s
/-- a op= b, by values -/
abbrev TIp := V → V → Hp → VK → Prop
def PIp (X : Cx) (op : Operator) (t : TIp) : Prop :=
  ∀ (pins : List (Addr × Obj)) (s : Shared) (σ : St) (H : Hp) (x y : V) (v u : Value) (Q : VK), Inv X pins σ H s → RelV x v → RelV y u → t x y H Q →
    wpAny (model X.prog X.w) X.A (inplaceOp op v u) (EP X pins σ Q) X.xe s
section
variable {X : Cx} {pos : Pos}
def gName (i : Nat) : TG := fun v σ H Q => Q (σ.set i (some v)) H
theorem pg_name {i : Nat} {x : Str} (hN : X.N.Nodup) (hi : X.N[i]? = some x) (hx : Loc X.env.scope x) (hf : X.fn x = true ∨ X.env.scope.names.lookup x = some .local := by first | exact .inl rfl | exact .inr rfl | assumption) : PG X (.Name x pos) (gName i) := by
  intro pins s σ H v u Q I r h
  exact wpAny_assign_Name (store_ok I hN hi hx r (fun s' I' => ⟨_, H, I', h⟩) hf)
def gNil : TGs := fun vs σ H Q => vs = [] ∧ Q σ H
def gCons (t : TG) (u : TGs) : TGs := fun vs σ H Q => ∃ v r, vs = v :: r ∧ t v σ H fun σ' H' => u r σ' H' Q
theorem pgs_nil : PGs X [] gNil := by
  intro pins s σ H vs us Q I r h
  obtain ⟨e, h⟩ := h
  subst e
  cases r
  exact assignInOrder_nil ⟨σ, H, I, h⟩
theorem pgs_cons {e : Expr} {es : List Expr} {t : TG} {u : TGs} (h1 : PG X e t) (h2 : PGs X es u)
    (hs : (assignEach (e :: es) X.env).map (·.2) = assign e X.env :: (assignEach es X.env).map (·.2) := by rfl) : PGs X (e :: es) (gCons t u) := by
  intro pins s σ H vs us Q I r h
  obtain ⟨v, vr, e1, h⟩ := h
  subst e1
  cases r with
  | cons r rr =>
    rw [hs]
    refine assignInOrder_cons (thn (h1 pins s σ H _ _ _ I r h) fun _ s1 ⟨σ1, H1, I1, q1⟩ => ?_)
    exact h2 pins s1 σ1 H1 _ _ Q I1 rr q1
/-- (a, b, ..) = a tuple of that length -/
def gTup (K : PySem.W.Frag) (n : Nat) (t : TGs) : TG := fun v σ H Q => ∃ a xs, v = .ref a ∧ SqT K H a xs ∧ xs.length = n ∧ t xs σ H Q
theorem pg_tup {es : List Expr} {k : Nat} {t : TGs} {n : Nat} (hc : X.calm = true) (h : PGs X es t)
    (hn : (assignEach es X.env).length = n := by rfl) (hst : (assignEach es X.env).findIdx? (·.1) = none := by rfl) : PG X (.Tuple es k pos) (gTup X.K n t) := by
  intro pins s σ H v u Q I r hw
  obtain ⟨a, xs, e1, hq, hl, hw⟩ := hw
  subst e1
  cases r
  obtain ⟨its, rv, ht, hz⟩ := I.tuple hq
  refine assign_Tuple_tuple (I.ok.hd hc) ht (by simp [hn, ← hl, rv.length]) hst fun h' hx => ?_
  have I1 : Inv X pins σ H { s with heap := h' } := I.kept (t' := s.toks) fun b o e => hx b o (Nat.ne_of_lt (Heap.lt_size e)) e
  exact h pins _ σ H xs _ Q I1 (by simpa using rv) hw
/-- o[i] = .. -/
def gSub (to ti : TE) (t : TSet) : TG := fun v σ H Q => to σ H fun o H1 => ti σ H1 fun i H2 => t o i v H2 fun H3 => Q σ H3
theorem pg_sub {o i : Expr} {to ti : TE} {t : TSet} (ho : PE X o to) (hi : PE X i ti) (hs : PSet X t)
    (ha : ∀ v, assign (.Subscript o i pos) X.env v = (do
      let ov ← holding [v] (eval o X.env)
      let iv ← holding [v, ov] (eval i X.env)
      standAt pos
      holding [v, ov, iv] (setItem ov iv v)
      release [v, ov, iv] []) := by intro _; rfl) : PG X (.Subscript o i pos) (gSub to ti t) := by
  intro pins s σ H v u Q I r h
  rw [ha]
  refine wpAny_bind (wpAny_holding (thn (ho pins s σ H _ I h) fun ov s1 ⟨x, H1, I1, r1, q1⟩ => ?_))
  refine wpAny_bind (wpAny_holding (thn (hi pins s1 σ H1 _ I1 q1) fun iv s2 ⟨y, H2, I2, r2, q2⟩ => ?_))
  refine wpAny_bind (wpAny_standAt (wpAny_bind (wpAny_holding (thn (hs pins s2 σ H2 x y v ov iv u _ I2 r1 r2 r q2) fun _ s3 ⟨H3, I3, q3⟩ => ?_))))
  exact wpAny_release ⟨σ, H3, I3, q3⟩
/-- target = value -/
def tAsg (te : TE) (g : TG) : TS := fun D σ H => te σ H fun x H1 => g x σ H1 D.nx
theorem ps_asg {tg e : Expr} {te : TE} {g : TG} (he : PE X e te) (hg : PG X tg g) (hs : swapsWithSole [tg] e pos.line X.env = pure false := by rfl) (hw : swappedStores [tg] e X.env = pure none := by rfl)
    (h1 : (assignEach [tg] X.env).map (·.2) = [assign tg X.env] := by rfl) : PS X (.Assign [tg] e pos) (tAsg te g) := by
  intro pins s σ H D I h
  refine wpAny_Assign_stores (thn (he pins s σ H _ I h) fun v s1 ⟨x, H1, I1, r1, q1⟩ => ?_) hs hw
  rw [h1]
  exact thn (hg pins s1 σ H1 x v _ I1 r1 q1) fun _ s2 q => q
/-- name = value -/
theorem ps_set {i : Nat} {x : Str} {e : Expr} {te : TE} {pos' : Pos} (hN : X.N.Nodup) (hi : X.N[i]? = some x) (hx : Loc X.env.scope x) (he : PE X e te) (hs : swapsWith e (some (.Name x pos')) pos.line X.env = pure false := by rfl) (hf : X.fn x = true ∨ X.env.scope.names.lookup x = some .local := by first | exact .inl rfl | exact .inr rfl | assumption) :
    PS X (.Assign [.Name x pos'] e pos) (tAsg te (gName i)) := by
  intro pins s σ H D I h
  refine wpAny_Assign_Name (thn (he pins s σ H _ I h) fun v s1 ⟨y, H1, I1, r1, q1⟩ => ?_) hs
  exact store_ok I1 hN hi hx r1 (fun s2 I2 => ⟨_, H1, I2, q1⟩) hf
/-- a, b = x, y with plain local names: stored from the right; the pair itself is not tracked (the opening rows as in PyProof/Rows/TupAssign.lean:23) -/
def tPar (i j : Nat) (ta : TA) : TS := fun D σ H => ta σ H fun vs H1 => ∃ v w, vs = [v, w] ∧ D.nx ((σ.set i (some v)).set j (some w)) H1
theorem ps_par {i j : Nat} {x y : Str} {a b : Expr} {ta : TA} {px py pt : Pos} {kt k2 pt2} (hc : X.calm = true) (hN : X.N.Nodup) (hi : X.N[i]? = some x) (hj : X.N[j]? = some y) (hij : i ≠ j)
    (hx : X.env.scope.names.lookup x = some .local) (hy : X.env.scope.names.lookup y = some .local) (ha : PA X [a, b] ta)
    (hw : swappedStores [.Tuple [.Name x px, .Name y py] kt pt] (.Tuple [a, b] k2 pt2) X.env = pure (some [x, y]))
    (hs : swapsWithSole [.Tuple [.Name x px, .Name y py] kt pt] (.Tuple [a, b] k2 pt2) pos.line X.env = pure false := by rfl) :
    PS X (.Assign [.Tuple [.Name x px, .Name y py] kt pt] (.Tuple [a, b] k2 pt2) pos) (tPar i j ta) := by
  intro pins s σ H D I h
  rw [exec_Assign_arm]
  refine wpAny_bind (wpAny_standAt ?_)
  rw [hs]
  refine wpAny_bind (wpAny_pure ?_)
  rw [if_neg (by decide)]
  refine wpAny_bind (Tuple_ (thn (ha _ pins s σ H _ I h) fun us s1 ⟨vs, H1, I1, r1, q1⟩ => ?_))
  obtain ⟨v, w, e1, q1⟩ := q1
  subst e1
  obtain ⟨u1, u2, rfl, rv, rw'⟩ : ∃ u1 u2, us = [u1, u2] ∧ RelV v u1 ∧ RelV w u2 := by
    cases r1 with
    | cons p q =>
      cases q with
      | cons p' q' =>
        cases q'
        exact ⟨_, _, rfl, p, p'⟩
  refine wpAny_newObj_type ?_ (by show 2 ≤ sizeLine; decide)
  have I2 : Inv X pins σ H1 { s1 with heap := s1.heap.push { cls := .type "tuple", data := .seq [u1, u2].toArray } } := I1.kept (t' := s1.toks) fun b o e => Heap.get?_push_of_some _ e
  rw [hw]
  refine wpAny_bind (wpAny_pure ?_)
  show wpAny (model X.prog X.w) X.A (do rule "assign.swapped-stores"; let items ← unpackItems (.ref s1.heap.objs.size) 2 none; assignInOrder [fun v => bindName X.env y v, fun v => bindName X.env x v] items.reverse; pure Flow.next) _ _ _
  refine wpAny_bind (wpAny_rule (wpAny_bind (unpackItems_tuple (items := #[u1, u2]) (I.ok.hd hc) (IsTup.new s1.heap _) fun h' hx' => ?_)))
  have I3 := I2.kept (h' := h') (t' := s1.toks) fun b o e => hx' b o (Nat.ne_of_lt (Heap.lt_size e)) e
  show wpAny _ _ (assignInOrder [fun v => bindName X.env y v, fun v => bindName X.env x v] [u2, u1] >>= fun _ => pure Flow.next) _ _ _
  refine wpAny_bind (assignInOrder_cons (wpAny_bindName (store_ok I3 hN hj (.inl hy) rw' (fun s2 I4 => ?_) (.inr hy))))
  refine assignInOrder_cons (wpAny_bindName (store_ok I4 hN hi (.inl hx) rv (fun s3 I5 => assignInOrder_nil (wpAny_pure ?_)) (.inr hx)))
  rw [List.set_comm _ _ (Ne.symm hij)] at I5
  exact ⟨_, H1, I5, q1⟩
/-- name op= e -/
def tAug (i : Nat) (te : TE) (ti : TIp) : TS := fun D σ H => ∃ x, σ[i]? = some (some x) ∧ te σ H fun y H1 => ti x y H1 fun z H2 => D.nx (σ.set i (some z)) H2
theorem ps_aug {i : Nat} {x : Str} {e : Expr} {te : TE} {op : Operator} {ti : TIp} {pos' : Pos} (hN : X.N.Nodup) (hi : X.N[i]? = some x) (hx : Loc X.env.scope x) (he : PE X e te) (ho : PIp X op ti) (hf : X.fn x = true ∨ X.env.scope.names.lookup x = some .local := by first | exact .inl rfl | exact .inr rfl | assumption) :
    PS X (.AugAssign (.Name x pos') op e pos) (tAug i te ti) := by
  intro pins s σ H D I h
  obtain ⟨v, e1, h⟩ := h
  obtain ⟨m, hn, hl⟩ := I.loc
  have vis : Vis X.env.scope x := by rcases hx with k | k; exact .inl k; exact .inr (.inl k)
  obtain ⟨u, r, l⟩ := hl i x v hi e1 vis
  refine wpAny_AugAssign_Name ?_
  have go : wpAny (model X.prog X.w) X.A (eval e X.env) (fun w s₂ => wpAny (model X.prog X.w) X.A (inplaceOp op u w) (fun r s₃ => wpAny (model X.prog X.w) X.A (storeName X.env x r) (fun _ => SP X pins D .next) X.xe s₃) X.xe s₂) X.xe s := by
    refine thn (he pins s σ H _ I h) fun w s1 ⟨y, H1, I1, r1, q1⟩ => ?_
    refine thn (ho pins s1 σ H1 v y u w _ I1 r r1 q1) fun z s2 ⟨zv, H2, I2, r2, q2⟩ => ?_
    exact store_ok I2 hN hi hx r2 (fun s3 I3 => ⟨_, H2, I3, q2⟩) hf
  rcases l with ⟨hk, hm⟩ | ⟨hk, c, hc, hcell⟩
  · exact wpAny_loadName_local I.ok.kind hk hn hm go
  · rcases hk with hk | hk
    · exact wpAny_loadName_cell I.ok.kind hk hc hcell go
    · rcases hx with k | k
      · have : X.env.scope.names.lookup x = some .free := hk
        rw [k] at this; cases this
      · have : X.env.scope.names.lookup x = some .free := hk
        rw [k] at this; cases this
/-- o[i] op= e -/
def tAugS (to ti te : TE) (tget : V → V → Hp → VK → Prop) (tip : TIp) (tset : TSet) : TS := fun D σ H => to σ H fun o H1 => ti σ H1 fun i H2 => tget o i H2 fun x H3 => te σ H3 fun y H4 => tip x y H4 fun z H5 => tset o i z H5 fun H6 => D.nx σ H6
/-- o[i], by values -/
def PGet (X : Cx) (t : V → V → Hp → VK → Prop) : Prop :=
  ∀ (pins : List (Addr × Obj)) (s : Shared) (σ : St) (H : Hp) (o i : V) (ov iv : Value) (Q : VK), Inv X pins σ H s → RelV o ov → RelV i iv → t o i H Q →
    wpAny (model X.prog X.w) X.A (getItem ov iv) (EP X pins σ Q) X.xe s
theorem ps_augS {o i e : Expr} {to ti te : TE} {tget : V → V → Hp → VK → Prop} {tip : TIp} {tset : TSet} {op : Operator} {tpos : Pos} (ho : PE X o to) (hi : PE X i ti) (hg : PGet X tget) (he : PE X e te) (hp : PIp X op tip) (hs : PSet X tset)
    (ha : ∀ ov iv new, augStore i ov iv new = (do holding [new, ov, iv] (setItem ov iv new); release [new, ov, iv] []; pure .next) := by intros; rfl) : PS X (.AugAssign (.Subscript o i tpos) op e pos) (tAugS to ti te tget tip tset) := by
  intro pins s σ H D I h
  refine wpAny_AugAssign_SubscriptAny (thn (ho pins s σ H _ I h) fun ov s1 ⟨x1, H1, I1, r1, q1⟩ => ?_) ha
  refine thn (hi pins s1 σ H1 _ I1 q1) fun iv s2 ⟨x2, H2, I2, r2, q2⟩ => ?_
  refine thn (hg pins s2 σ H2 x1 x2 ov iv _ I2 r1 r2 q2) fun old s3 ⟨x3, H3, I3, r3, q3⟩ => ?_
  refine thn (he pins s3 σ H3 _ I3 q3) fun v s4 ⟨x4, H4, I4, r4, q4⟩ => ?_
  refine thn (hp pins s4 σ H4 x3 x4 old v _ I4 r3 r4 q4) fun new s5 ⟨x5, H5, I5, r5, q5⟩ => ?_
  exact thn (hs pins s5 σ H5 x1 x2 x5 ov iv new _ I5 r1 r2 r5 q5) fun _ s6 ⟨H6, I6, q6⟩ => ⟨σ, H6, I6, q6⟩
/-- ints -/
def ipI (f : Int → Int → Int) : TIp := fun x y H Q => ∃ i j, x = .int i ∧ y = .int j ∧ Q (.int (f i j)) H
theorem ip_add : PIp X .Add (ipI fun i j => i + j) := by
  intro pins s σ H x y v u Q I r1 r2 h
  obtain ⟨i, j, e1, e2, q⟩ := h
  subst e1; subst e2
  obtain ⟨t, rfl⟩ := r1
  obtain ⟨t', rfl⟩ := r2
  exact iadd_int ⟨.int _, H, I.tok _, ⟨_, rfl⟩, q⟩
theorem ip_sub : PIp X .Sub (ipI fun i j => i - j) := by
  intro pins s σ H x y v u Q I r1 r2 h
  obtain ⟨i, j, e1, e2, q⟩ := h
  subst e1; subst e2
  obtain ⟨t, rfl⟩ := r1
  obtain ⟨t', rfl⟩ := r2
  exact isub_int ⟨.int _, H, I.tok _, ⟨_, rfl⟩, q⟩
end

/-! ### while -/
section
variable {X : Cx} {pos : Pos}
/-- the invariant W with its measure -/
def tWhile (c : TT) (tb : TS) : TS := fun D σ H => ∃ W : Nat → St → Hp → Prop, (∃ m, W m σ H) ∧ ∀ m σ H, W m σ H →
  c σ H fun b H1 => if b = true then ∃ N : St → Hp → Prop, (∀ σ' H', N σ' H' → ∃ m', m' < m ∧ W m' σ' H') ∧ tb { D with nx := N, ct := N, bk := D.nx } σ H1 else D.nx σ H1
theorem ps_while {c : Expr} {body : List Stmt} {tc : TT} {tb : TS} (hp : PassesOwn (model X.prog X.w) X.A X.env X.xe) (hc : PT X c tc) (hb : PSs X body tb) : PS X (.While c body [] pos) (tWhile tc tb) := by
  intro pins s σ H D I h
  obtain ⟨W, ⟨m0, w0⟩, turn⟩ := h
  refine wpAny_While (codeAny_whileLoop (fun n s' => ∃ σ' H', Inv X pins σ' H' s' ∧ W n σ' H') ?_ m0 ⟨σ, H, I, w0⟩)
  rintro n s1 ⟨σ1, H1, I1, w1⟩
  refine wpAny_passesOwn hp (thn (hc pins s1 σ1 H1 _ I1 (turn n σ1 H1 w1)) fun b s2 ⟨H2, I2, q2⟩ => ?_)
  cases b with
  | true =>
    obtain ⟨N, hN, q2⟩ := q2
    rw [if_pos rfl]
    refine wpAny_passesOwn hp (thn (hb pins s2 σ1 H2 _ I2 q2) fun f s3 q3 => ?_)
    cases f with
    | next =>
      obtain ⟨σ3, H3, I3, n3⟩ := q3
      obtain ⟨m', hm, w3⟩ := hN σ3 H3 n3
      exact ⟨m', hm, σ3, H3, I3, w3⟩
    | cont =>
      obtain ⟨σ3, H3, I3, n3⟩ := q3
      obtain ⟨m', hm, w3⟩ := hN σ3 H3 n3
      exact ⟨m', hm, σ3, H3, I3, w3⟩
    | brk => exact q3
    | ret v => exact q3
  | false =>
    rw [if_neg Bool.false_ne_true]
    exact wpAny_execs_nil ⟨σ1, H2, I2, q2⟩
end

/-! ### what a loop or a comprehension walks -/
/-- at turn i: it yields x (the heap may grow), or it stops -/
structure It where
  go : Nat → Hp → Prop
  yld : Nat → Hp → V → Hp → Prop
  stop : Nat → Hp → Prop
/-- the iterator's own objects may turn: they are not the frame's, not pinned, younger than the entry (or a comprehension's own) -/
def FpOk (X : Cx) (pins : List (Addr × Obj)) (H : Hp) (b : Addr) : Prop :=
  H b = none ∧ b ≠ X.env.locals ∧ b ∉ X.fs ∧ (b ∈ X.ex ∨ X.s₀.heap.objs.size ≤ b) ∧ (∀ x c, X.env.cells.lookup x = some c → c ≠ b) ∧ ∀ p ∈ X.pn ++ pins, p.1 ≠ b
theorem Inv.fpOk {X : Cx} {pins : List (Addr × Obj)} {σ : St} {H H' : Hp} {s : Shared} {b : Addr} (I : Inv X pins σ H s) (hb : s.heap.objs.size ≤ b) (hn : H' b = none) : FpOk X pins H' b := by
  refine ⟨hn, Nat.ne_of_gt (Nat.lt_of_lt_of_le I.lt hb), I.nofs hb, .inr (Nat.le_trans I.sz hb), fun x c e z => ?_, fun p hp z => ?_⟩
  · obtain ⟨v, q⟩ := I.cell x c e
    exact absurd (Nat.lt_of_lt_of_le q.lt (by rw [z]; exact hb)) (Nat.lt_irrefl _)
  · exact absurd (Nat.lt_of_lt_of_le (Heap.lt_size (I.pin p hp).1) (by rw [z]; exact hb)) (Nat.lt_irrefl _)
structure Turn (P : Program) (w : World) (K : PySem.W.Frag) (tg : Expr) (J : It) (fp : List Addr) (it : Addr) (tn : Nat → Heap → Prop) : Prop where
  mem : it ∈ fp
  obj : ∀ i h, tn i h → ∀ b ∈ fp, ∃ o, h.get? b = some o ∧ ∀ v, o.data ≠ .cell v
  keep : ∀ i h h', tn i h → (∀ b ∈ fp, ∀ o, h.get? b = some o → h'.get? b = some o) → tn i h'
  item : ∀ (X : Cx), X.prog = P → X.w = w → X.K = K → X.calm = true → ∀ (i : Nat) (pins : List (Addr × Obj)) (s : Shared) (σ : St) (H : Hp) (E : Value → Shared → Prop), Inv X pins σ H s → (∀ b ∈ fp, FpOk X pins H b) → tn i s.heap → J.go i H →
    wpAny (model P w) X.A (pyNext (.ref it)) (fun r s1 => ∃ u, r = some u ∧
      wpAny (model P w) X.A (letOwnedTupleGo tg (.ref it) u) (fun _ s2 => ∃ x H', Inv X pins σ H' s2 ∧ RelV x u ∧ J.yld i H x H' ∧ tn (i + 1) s2.heap ∧ ∀ b ∈ fp, H' b = none) E s1) E s
  done : ∀ (X : Cx), X.prog = P → X.w = w → X.K = K → X.calm = true → ∀ (i : Nat) (pins : List (Addr × Obj)) (s : Shared) (σ : St) (H : Hp) (E : Value → Shared → Prop), Inv X pins σ H s → (∀ b ∈ fp, FpOk X pins H b) → tn i s.heap → J.stop i H →
    wpAny (model P w) X.A (pyNext (.ref it)) (fun r s1 => r = none ∧ Inv X pins σ H s1) E s
  self : ∀ (A : Around) (i : Nat) (s : Shared) (Q : Value → Shared → Prop) (E : Value → Shared → Prop), tn i s.heap → Q (.ref it) s → wpAny (model P w) A (pyIter (.ref it)) Q E s
abbrev TI := St → Hp → (It → Hp → Prop) → Prop
/-- an iterator has come -/
def PIE (X : Cx) (pins : List (Addr × Obj)) (σ : St) (tg : Expr) (R : It → Hp → Prop) (itv : Value) (s2 : Shared) : Prop :=
  ∃ (it : Addr) (fp : List Addr) (tn : Nat → Heap → Prop) (J : It) (H' : Hp), itv = .ref it ∧ Inv X pins σ H' s2 ∧ Turn X.prog X.w X.K tg J fp it tn ∧ tn 0 s2.heap ∧ (∀ b ∈ fp, FpOk X pins H' b) ∧ R J H'
def PI (X : Cx) (tg iter : Expr) (wi : TI) : Prop :=
  ∀ (pins : List (Addr × Obj)) (s : Shared) (σ : St) (H : Hp) (R : It → Hp → Prop), Inv X pins σ H s → wi σ H R →
    wpAny (model X.prog X.w) X.A (eval iter X.env) (fun v s1 => wpAny (model X.prog X.w) X.A (pyIter v) (PIE X pins σ tg R) X.xe s1) X.xe s

/-- the step ahead of the store is nothing for an iterator that keeps no tuple -/
theorem go_of {M : Model} {A : Around} {E : Value → Shared → Prop} {s : Shared} {tg : Expr} {it : Addr} {u : Value} {o : Obj} {n : String} {vs : Array Value} {Q : Unit → Shared → Prop} (ho : s.heap.get? it = some o) (hc : o.cls = .type n) (hd : o.data = .fields vs)
    (hn : ["enumerate", "zip", "dict_itemiterator", "dict_reverseitemiterator", "odict_iterator", "itertools.zip_longest", "itertools.pairwise"].contains n = false) (hQ : Q () s) : wpAny M A (letOwnedTupleGo tg (.ref it) u) Q E s := by
  unfold letOwnedTupleGo
  cases tg <;> first
    | exact wpAny_pure hQ
    | (cases u <;> first
        | exact wpAny_pure hQ
        | (refine wpAny_bind (wpAny_load ho ?_)
           rw [hc, hd]
           show wpAny M A (if (["enumerate", "zip", "dict_itemiterator", "dict_reverseitemiterator", "odict_iterator", "itertools.zip_longest", "itertools.pairwise"].contains n && vs[0]? == some (rawInt _)) = true then _ else _) Q E s
           rw [if_neg (by intro h; rw [hn, Bool.false_and] at h; cases h)]
           exact wpAny_pure hQ))

/-- the list at a, as it stands at each turn (a loop may append to it) -/
def Itl (K : PySem.W.Frag) (a : Addr) : It :=
  ⟨fun i H => ∃ xs x, SqL K H a xs ∧ xs[i]? = some x, fun i H x H' => H' = H ∧ ∀ xs, SqL K H a xs → xs[i]? = some x, fun i H => ∃ xs, SqL K H a xs ∧ xs.length ≤ i⟩
def Itt (K : PySem.W.Frag) (a : Addr) : It :=
  ⟨fun i H => ∃ xs x, SqT K H a xs ∧ xs[i]? = some x, fun i H x H' => H' = H ∧ ∀ xs, SqT K H a xs → xs[i]? = some x, fun i H => ∃ xs, SqT K H a xs ∧ xs.length ≤ i⟩
/-- lo, lo + 1, .. (n of them) -/
def Itr (lo : Int) (n : Nat) : It := ⟨fun i _ => i < n, fun i H x H' => H' = H ∧ x = .int (lo + i), fun i _ => n ≤ i⟩
theorem turn_list {P : Program} {w : World} {K : PySem.W.Frag} {tg : Expr} (a it : Addr) : Turn P w K tg (Itl K a) [it] it (fun i h => h.IsListIter it a i) where
  mem := by simp
  obj := fun i h st b hb => by
    have e : b = it := by simpa using hb
    subst e
    obtain ⟨o, e, c, d⟩ := st
    exact ⟨o, e, fun v z => by rw [d] at z; cases z⟩
  keep := fun i h h' st k => st.at fun o e => k it (by simp) o e
  item := by
    intro X hP hw hK hc i pins s σ H E I hf st hg
    subst hP hw hK
    obtain ⟨xs, x, hq, hx⟩ := hg
    obtain ⟨its, rv, p, hz⟩ := I.list hq
    obtain ⟨u, hu, ru⟩ := rv.get hx
    obtain ⟨f0, f1, f2, f3, f4, f5⟩ := hf it (by simp)
    refine wpAny_pyNext_list_item st p.isList (x := u) (by simpa using hu) fun h' st' sb => ?_
    have I1 : Inv X pins σ H { s with heap := h' } := I.turned (t' := s.toks) (fun b o hb e => (sb.2 b hb).trans e) f0 f1 f3 f4 f5
    obtain ⟨o, e, c, d⟩ := id st'
    exact ⟨u, rfl, go_of (s := { s with heap := h' }) e c d (by decide) ⟨x, H, I1, ru, ⟨rfl, fun ys hy => by rw [I.list_inj hy hq]; exact hx⟩, st', fun b hb => (hf b hb).1⟩⟩
  done := by
    intro X hP hw hK hc i pins s σ H E I hf st hg
    subst hP hw hK
    obtain ⟨xs, hq, hx⟩ := hg
    obtain ⟨its, rv, p, hz⟩ := I.list hq
    obtain ⟨f0, f1, f2, f3, f4, f5⟩ := hf it (by simp)
    have hl := rv.length
    exact wpAny_pyNext_list_end (I.ok.hd hc) st p.isList (by simp; omega) fun h' eb => ⟨rfl, I.turned (t' := s.toks) (fun b o hb e => eb b o hb e) f0 f1 f3 f4 f5⟩
  self := fun _ _ _ _ _ st h => wpAny_pyIter_listiter st h
theorem turn_tuple {P : Program} {w : World} {K : PySem.W.Frag} {tg : Expr} (a it : Addr) : Turn P w K tg (Itt K a) [it] it (fun i h => h.IsTupleIter it a i) where
  mem := by simp
  obj := fun i h st b hb => by
    have e : b = it := by simpa using hb
    subst e
    obtain ⟨o, e, c, d⟩ := st
    exact ⟨o, e, fun v z => by rw [d] at z; cases z⟩
  keep := fun i h h' st k => st.at fun o e => k it (by simp) o e
  item := by
    intro X hP hw hK hc i pins s σ H E I hf st hg
    subst hP hw hK
    obtain ⟨xs, x, hq, hx⟩ := hg
    obtain ⟨its, rv, p, hz⟩ := I.tuple hq
    obtain ⟨u, hu, ru⟩ := rv.get hx
    obtain ⟨f0, f1, f2, f3, f4, f5⟩ := hf it (by simp)
    refine wpAny_pyNext_tuple_item st (show s.heap.IsTuple a its.toArray from p) (x := u) (by simpa using hu) fun h' st' sb => ?_
    have I1 : Inv X pins σ H { s with heap := h' } := I.turned (t' := s.toks) (fun b o hb e => (sb.2 b hb).trans e) f0 f1 f3 f4 f5
    obtain ⟨o, e, c, d⟩ := id st'
    exact ⟨u, rfl, go_of (s := { s with heap := h' }) e c d (by decide) ⟨x, H, I1, ru, ⟨rfl, fun ys hy => by rw [I.tuple_inj hy hq]; exact hx⟩, st', fun b hb => (hf b hb).1⟩⟩
  done := by
    intro X hP hw hK hc i pins s σ H E I hf st hg
    subst hP hw hK
    obtain ⟨xs, hq, hx⟩ := hg
    obtain ⟨its, rv, p, hz⟩ := I.tuple hq
    obtain ⟨f0, f1, f2, f3, f4, f5⟩ := hf it (by simp)
    have hl := rv.length
    exact wpAny_pyNext_tuple_end (I.ok.hd hc) st (show s.heap.IsTuple a its.toArray from p) (by simp; omega) fun h' eb => ⟨rfl, I.turned (t' := s.toks) (fun b o hb e => eb b o hb e) f0 f1 f3 f4 f5⟩
  self := fun _ _ _ _ _ st h => wpAny_pyIter_tupleiter st h
theorem turn_range {P : Program} {w : World} {K : PySem.W.Frag} {tg : Expr} (it : Addr) (lo : Int) (n : Nat) : Turn P w K tg (Itr lo n) [it] it (fun i h => IsRangeIter h it (lo + (i : Nat) * 1) ((n : Int) - (i : Nat)) 1) where
  mem := by simp
  obj := fun i h st b hb => by
    have e : b = it := by simpa using hb
    subst e
    exact ⟨_, st, fun v z => by
      have z' : Data.fields _ = Data.cell v := z
      cases z'⟩
  keep := fun i h h' st k => k it (by simp) _ st
  item := by
    intro X hP hw hK hc i pins s σ H E I hf st hg
    subst hP hw hK
    obtain ⟨f0, f1, f2, f3, f4, f5⟩ := hf it (by simp)
    have W := Walks.range (prog := X.prog) (w := X.w) (I.ok.hd hc) it lo 1 n
    refine W.item i s _ _ hg st fun v h' tk hv st' kk => ?_
    obtain ⟨t, rfl⟩ := hv
    have I1 : Inv X pins σ H { s with heap := h', toks := tk } := I.turned (fun b o hb e => kk b o (by simpa using hb) e) f0 f1 f3 f4 f5
    refine ⟨_, rfl, go_of (s := { s with heap := h', toks := tk }) (n := "range_iterator") st' rfl rfl (by decide) ⟨.int (lo + i), H, I1, ⟨t, ?_⟩, ⟨rfl, rfl⟩, st', fun b hb => (hf b hb).1⟩⟩
    rw [Int.mul_one]
  done := by
    intro X hP hw hK hc i pins s σ H E I hf st hg
    subst hP hw hK
    obtain ⟨f0, f1, f2, f3, f4, f5⟩ := hf it (by simp)
    exact wpAny_pyNext_range_end (I.ok.hd hc) st (by have : n ≤ i := hg; omega) fun h' eb => ⟨rfl, I.turned (t' := s.toks) (fun b o hb e => eb b o hb e) f0 f1 f3 f4 f5⟩
  self := fun _ _ _ _ _ st h => wpAny_pyIter_rangeiter st h
end L2

namespace L2
open PySem PySem.Spec PyProof.Rows
section
variable {X : Cx} {tg : Expr}
def iList (K : PySem.W.Frag) (tl : TE) : TI := fun σ H R => tl σ H fun x H1 => ∃ a, x = .ref a ∧ (∃ xs, SqL K H1 a xs) ∧ R (Itl K a) H1
def iTup (K : PySem.W.Frag) (tl : TE) : TI := fun σ H R => tl σ H fun x H1 => ∃ a, x = .ref a ∧ (∃ xs, SqT K H1 a xs) ∧ R (Itt K a) H1
theorem pi_list {l : Expr} {tl : TE} (hl : PE X l tl) : PI X tg l (iList X.K tl) := by
  intro pins s σ H R I h
  refine thn (hl pins s σ H _ I h) fun v s1 ⟨x, H1, I1, r1, q1⟩ => ?_
  obtain ⟨a, e, ⟨xs, hq⟩, q⟩ := q1
  subst e
  cases r1
  obtain ⟨its, rv, p, hz⟩ := I1.list hq
  refine wpAny_pyIter_list p.isList ?_
  refine ⟨s1.heap.objs.size, [s1.heap.objs.size], _, _, H1, rfl, I1.kept (t' := s1.toks) fun b o e => Heap.get?_push_of_some _ e, turn_list a _, ⟨_, Heap.get?_push_size _ rfl, rfl, rfl⟩, fun b hb => ?_, q⟩
  have e : b = s1.heap.objs.size := by simpa using hb
  subst e
  exact I1.fpOk (Nat.le_refl _) (I1.hok.fresh (Nat.le_refl _))
theorem pi_tup {l : Expr} {tl : TE} (hl : PE X l tl) : PI X tg l (iTup X.K tl) := by
  intro pins s σ H R I h
  refine thn (hl pins s σ H _ I h) fun v s1 ⟨x, H1, I1, r1, q1⟩ => ?_
  obtain ⟨a, e, ⟨xs, hq⟩, q⟩ := q1
  subst e
  cases r1
  obtain ⟨its, rv, p, hz⟩ := I1.tuple hq
  refine wpAny_pyIter_tuple (show s1.heap.IsTuple a its.toArray from p) ?_
  refine ⟨s1.heap.objs.size, [s1.heap.objs.size], _, _, H1, rfl, I1.kept (t' := s1.toks) fun b o e => Heap.get?_push_of_some _ e, turn_tuple a _, ⟨_, Heap.get?_push_size _ rfl, rfl, rfl⟩, fun b hb => ?_, q⟩
  have e : b = s1.heap.objs.size := by simpa using hb
  subst e
  exact I1.fpOk (Nat.le_refl _) (I1.hok.fresh (Nat.le_refl _))
/-- a range object just made, walked -/
theorem range_it {pins : List (Addr × Obj)} {σ : St} {H : Hp} {s : Shared} {R : It → Hp → Prop} {E : Value → Shared → Prop} {lo hi : Int} {t u v : Tok} {tk : Nat} (I : Inv X pins σ H s) (h1 : -(2 ^ 62) ≤ lo) (h2 : lo < 2 ^ 62) (h3 : -(2 ^ 62) ≤ hi) (h4 : hi < 2 ^ 62)
    (q : R (Itr lo (hi - lo).toNat) H) : wpAny (model X.prog X.w) X.A (pyIter (.ref s.heap.objs.size)) (PIE X pins σ tg R) E { s with heap := s.heap.push { cls := .type "range", data := .fields #[.int lo t, .int hi u, .int 1 v] }, toks := tk } := by
  refine wpAny_pyIter_range (IsRange.new ..) (small_one h1 h2 h3 h4) ?_
  have I1 : Inv X pins σ H { s with heap := s.heap.push { cls := .type "range", data := .fields #[.int lo t, .int hi u, .int 1 v] }, toks := tk } := I.kept fun b o e => Heap.get?_push_of_some _ e
  refine ⟨(s.heap.push { cls := .type "range", data := .fields #[.int lo t, .int hi u, .int 1 v] }).objs.size, [(s.heap.push { cls := .type "range", data := .fields #[.int lo t, .int hi u, .int 1 v] }).objs.size], _, _, H, rfl,
    I1.kept (t' := tk) fun b o e => Heap.get?_push_of_some _ e, turn_range _ lo (hi - lo).toNat, ?_, fun b hb => ?_, q⟩
  · have e1 : lo + ((0 : Nat) : Int) * 1 = lo := by simp
    have e2 : (((hi - lo).toNat : Nat) : Int) - ((0 : Nat) : Int) = Builtin.Range.rangeSize lo hi 1 := by rw [rangeSize_one]; split <;> omega
    show IsRangeIter _ _ (lo + ((0 : Nat) : Int) * 1) ((((hi - lo).toNat : Nat) : Int) - ((0 : Nat) : Int)) 1
    rw [e1, e2]
    exact Heap.get?_push_size _ rfl
  · have e : b = (s.heap.push { cls := .type "range", data := .fields #[.int lo t, .int hi u, .int 1 v] }).objs.size := by simpa using hb
    subst e
    exact I1.fpOk (Nat.le_refl _) (I1.hok.fresh (Nat.le_refl _))
def iRng1 (ta : TA) : TI := fun σ H R => ta σ H fun vs H1 => ∃ j : Int, vs = [.int j] ∧ -(2 ^ 62) ≤ j ∧ j < 2 ^ 62 ∧ R (Itr 0 j.toNat) H1
def iRng2 (ta : TA) : TI := fun σ H R => ta σ H fun vs H1 => ∃ i j : Int, vs = [.int i, .int j] ∧ (-(2 ^ 62) ≤ i ∧ i < 2 ^ 62 ∧ -(2 ^ 62) ≤ j ∧ j < 2 ^ 62) ∧ R (Itr i (j - i).toNat) H1
theorem pi_range1 {a : Expr} {ta : TA} {p pos : Pos} (hg : Gl X "range") (hm : X.mg "range" = none) (ha : PA X [a] ta) (hs : starEach [a] X.env = [(false, eval a X.env)] := by rfl) : PI X tg (.Call (.Name "range" p) [a] [] pos) (iRng1 ta) := by
  intro pins s σ H R I h
  refine Call_ (ld_blt I hg hm boot_range (PyProof.Rows.callWith_type1 (thn (ha pos pins s σ H _ I h) fun us s1 ⟨vs, H1, I1, r1, q1⟩ => ?_) hs rfl))
  obtain ⟨j, e, q1, q2, q⟩ := q1
  subst e
  cases r1 with
  | cons r rr =>
    cases rr
    obtain ⟨t, rfl⟩ := r
    exact call_range_1 (range_it I1 (by omega) (by omega) q1 q2 (by simpa using q))
theorem pi_range2 {a b : Expr} {ta : TA} {p pos : Pos} (hg : Gl X "range") (hm : X.mg "range" = none) (ha : PA X [a, b] ta) (hs : starEach [a, b] X.env = [(false, eval a X.env), (false, eval b X.env)] := by rfl) (hs2 : starEach [b] X.env = [(false, eval b X.env)] := by rfl) :
    PI X tg (.Call (.Name "range" p) [a, b] [] pos) (iRng2 ta) := by
  intro pins s σ H R I h
  refine Call_ (ld_blt I hg hm boot_range (PyProof.Rows.callWith_type1 (thn (ha pos pins s σ H _ I h) fun us s1 ⟨vs, H1, I1, r1, q1⟩ => ?_) (by rw [hs, hs2]) (by rw [hs2]; rfl)))
  obtain ⟨i, j, e, ⟨q1, q2, q3, q4⟩, q⟩ := q1
  subst e
  cases r1 with
  | cons r rr =>
    cases rr with
    | cons r' rr =>
      cases rr
      obtain ⟨t, rfl⟩ := r
      obtain ⟨t', rfl⟩ := r'
      exact call_range_2 (range_it I1 q1 q2 q3 q4 q)

/-! ### for -/
/-- W: the invariant by the turn and a measure; N: what the body is to reach -/
def tFor (wi : TI) (g : TG) (tb : TS) : TS := fun D σ H => wi σ H fun J H1 => ∃ W : Nat → Nat → St → Hp → Prop, (∃ m, W 0 m σ H1) ∧ ∀ i m σ H, W i m σ H →
  (J.stop i H ∧ D.nx σ H) ∨ (J.go i H ∧ ∃ N : St → Hp → Prop, (∀ σ' H', N σ' H' → ∃ m', m' < m ∧ W (i + 1) m' σ' H') ∧ ∀ x H', J.yld i H x H' → g x σ H' fun σ2 H2 => tb { D with nx := N, ct := N, bk := D.nx } σ2 H2)
/-- the records at fp as they stand -/
def pinsAt (fp : List Addr) (h : Heap) : List (Addr × Obj) := fp.filterMap fun b => (h.get? b).map fun o => (b, o)
theorem mem_pinsAt {fp : List Addr} {h : Heap} {b : Addr} {o : Obj} (hb : b ∈ fp) (e : h.get? b = some o) : (b, o) ∈ pinsAt fp h := List.mem_filterMap.mpr ⟨b, hb, by rw [e]; rfl⟩
theorem of_pinsAt {fp : List Addr} {h : Heap} {p : Addr × Obj} (hp : p ∈ pinsAt fp h) : p.1 ∈ fp ∧ h.get? p.1 = some p.2 := by
  obtain ⟨b, hb, e⟩ := List.mem_filterMap.mp hp
  cases q : h.get? b with
  | none => rw [q] at e; cases e
  | some o =>
    rw [q] at e
    have e' : (b, o) = p := Option.some.inj e
    subst e'
    exact ⟨hb, q⟩
theorem Inv.pinned {pins : List (Addr × Obj)} {σ : St} {H : Hp} {s : Shared} {fp : List Addr} (I : Inv X pins σ H s) (hf : ∀ b ∈ fp, FpOk X pins H b) (ho : ∀ b ∈ fp, ∃ o, s.heap.get? b = some o ∧ ∀ v, o.data ≠ .cell v) : Inv X (pins ++ pinsAt fp s.heap) σ H s :=
  I.pins_of fun p hp => (List.mem_append.mp hp).elim (fun z => I.pin p (List.mem_append_right _ z)) fun z => by
    obtain ⟨hb, e⟩ := of_pinsAt z
    obtain ⟨f0, f1, f2, _⟩ := hf p.1 hb
    obtain ⟨o, e', d⟩ := ho p.1 hb
    rw [e] at e'; cases e'
    exact ⟨e, f0, f1, f2, d⟩
theorem Inv.unpinned {pins pl : List (Addr × Obj)} {σ : St} {H : Hp} {s : Shared} (I : Inv X (pins ++ pl) σ H s) : Inv X pins σ H s := I.pins_of fun p hp => I.pin p (List.mem_append_right _ (List.mem_append_left _ hp))
theorem ps_for {iter : Expr} {body : List Stmt} {wi : TI} {g : TG} {tb : TS} {pos : Pos} (hp : PassesOwn (model X.prog X.w) X.A X.env X.xe) (hc : X.calm = true) (hi : PI X tg iter wi) (hg : PG X tg g) (hb : PSs X body tb)
    (hs : ∀ x, foldedSetIterable iter X.env x = pure x := by intro _; rfl) : PS X (.For tg iter body [] pos) (tFor wi g tb) := by
  intro pins s σ H D I h
  refine wpAny_For (thn (hi pins s σ H _ I h) fun v s1 h1 => thn h1 fun itv s2 h2 => ?_) hs
  obtain ⟨it, fp, tn, J, H2, e, I2, T, st2, f2, W, ⟨m0, w0⟩, turn⟩ := h2
  subst e
  -- what stays true of the iterator's objects through the loop
  have stat : ∀ {H' : Hp}, (∀ b ∈ fp, H' b = none) → ∀ b ∈ fp, FpOk X pins H' b := fun hn b hb => ⟨hn b hb, (f2 b hb).2⟩
  refine codeAny_forLoop_any (fun n s' => ∃ i σ' H', Inv X pins σ' H' s' ∧ tn i s'.heap ∧ (∀ b ∈ fp, H' b = none) ∧ W i n σ' H') ?_ m0 ⟨0, σ, H2, I2, st2, fun b hb => (f2 b hb).1, w0⟩
  rintro n s3 ⟨i, σ3, H3, I3, st3, fr3, w3⟩
  rcases turn i n σ3 H3 w3 with ⟨stop, qn⟩ | ⟨go, N, hN, step⟩
  · refine wpAny_passesOwn hp (thn (T.done X rfl rfl rfl hc i pins s3 σ3 H3 X.xe I3 (stat fr3) st3 stop) fun r s4 ⟨hr, I4⟩ => ?_)
    subst hr
    exact wpAny_execs_nil ⟨σ3, H3, I4, qn⟩
  · refine wpAny_passesOwn hp (thn (T.item X rfl rfl rfl hc i pins s3 σ3 H3 X.xe I3 (stat fr3) st3 go) fun r s4 ⟨u, hr, h4⟩ => ?_)
    subst hr
    refine wpAny_passesOwn hp (thn h4 fun _ s5 ⟨x, H5, I5, r5, y5, st5, fr5⟩ => ?_)
    have I5' := I5.pinned (stat fr5) (T.obj _ _ st5)
    refine wpAny_passesOwn hp (thn (hg _ s5 σ3 H5 x u _ I5' r5 (step x H5 y5)) fun _ s6 ⟨σ6, H6, I6, q6⟩ => ?_)
    refine wpAny_passesOwn hp (thn (hb _ s6 σ6 H6 _ I6 q6) fun f s7 q7 => ?_)
    have again : ∀ {σ7 : St} {H7 : Hp}, Inv X (pins ++ pinsAt fp s5.heap) σ7 H7 s7 → N σ7 H7 → ∃ m, m < n ∧ ∃ i σ' H', Inv X pins σ' H' s7 ∧ tn i s7.heap ∧ (∀ b ∈ fp, H' b = none) ∧ W i m σ' H' := fun {σ7 H7} I7 n7 => by
      obtain ⟨m', hm, w7⟩ := hN σ7 H7 n7
      refine ⟨m', hm, i + 1, σ7, H7, I7.unpinned, T.keep _ _ _ st5 fun b hb o e => (I7.pin (b, o) (List.mem_append_right _ (List.mem_append_right _ (mem_pinsAt hb e)))).1, fun b hb => ?_, w7⟩
      obtain ⟨o, e, d⟩ := T.obj _ _ st5 b hb
      exact (I7.pin (b, o) (List.mem_append_right _ (List.mem_append_right _ (mem_pinsAt hb e)))).2.1
    cases f with
    | next => obtain ⟨σ7, H7, I7, n7⟩ := q7; exact again I7 n7
    | cont => obtain ⟨σ7, H7, I7, n7⟩ := q7; exact again I7 n7
    | brk => obtain ⟨σ7, H7, I7, q7⟩ := q7; exact ⟨σ7, H7, I7.unpinned, q7⟩
    | ret v => obtain ⟨x7, σ7, H7, I7, r7, q7⟩ := q7; exact ⟨x7, σ7, H7, I7.unpinned, r7, q7⟩
end

/-! ### the forms one uses -/
/-- over a list that the body leaves as it is -/
theorem for_list {K : PySem.W.Frag} {a : Addr} {xs : List V} {g : TG} {tb : TS} {D : Ends} {σ : St} {H : Hp} (Pv : Nat → St → Hp → Prop) (h0 : Pv 0 σ H) (hl : ∀ i σ H, i ≤ xs.length → Pv i σ H → SqL K H a xs)
    (hs : ∀ i x σ H, xs[i]? = some x → Pv i σ H → g x σ H fun σ2 H2 => tb { D with nx := Pv (i + 1), ct := Pv (i + 1), bk := D.nx } σ2 H2) (hd : ∀ σ H, Pv xs.length σ H → D.nx σ H) :
    ∃ W : Nat → Nat → St → Hp → Prop, (∃ m, W 0 m σ H) ∧ ∀ i m σ H, W i m σ H →
      ((Itl K a).stop i H ∧ D.nx σ H) ∨ ((Itl K a).go i H ∧ ∃ N : St → Hp → Prop, (∀ σ' H', N σ' H' → ∃ m', m' < m ∧ W (i + 1) m' σ' H') ∧ ∀ x H', (Itl K a).yld i H x H' → g x σ H' fun σ2 H2 => tb { D with nx := N, ct := N, bk := D.nx } σ2 H2) := by
  refine ⟨fun i m σ H => m = xs.length - i ∧ i ≤ xs.length ∧ Pv i σ H, ⟨xs.length, by simp, Nat.zero_le _, h0⟩, ?_⟩
  rintro i m σ H ⟨rfl, hi, p⟩
  have q := hl i σ H hi p
  by_cases hlt : i < xs.length
  · refine .inr ⟨⟨xs, xs[i], q, by simp [hlt]⟩, Pv (i + 1), fun σ' H' p' => ⟨xs.length - (i + 1), by omega, rfl, hlt, p'⟩, fun x H' y => ?_⟩
    obtain ⟨e, y⟩ := y
    subst e
    exact hs i x σ _ (y xs q) p
  · have e : i = xs.length := by omega
    subst e
    exact .inl ⟨⟨xs, q, Nat.le_refl _⟩, hd σ H p⟩
theorem for_tup {K : PySem.W.Frag} {a : Addr} {xs : List V} {g : TG} {tb : TS} {D : Ends} {σ : St} {H : Hp} (Pv : Nat → St → Hp → Prop) (h0 : Pv 0 σ H) (hl : ∀ i σ H, i ≤ xs.length → Pv i σ H → SqT K H a xs)
    (hs : ∀ i x σ H, xs[i]? = some x → Pv i σ H → g x σ H fun σ2 H2 => tb { D with nx := Pv (i + 1), ct := Pv (i + 1), bk := D.nx } σ2 H2) (hd : ∀ σ H, Pv xs.length σ H → D.nx σ H) :
    ∃ W : Nat → Nat → St → Hp → Prop, (∃ m, W 0 m σ H) ∧ ∀ i m σ H, W i m σ H →
      ((Itt K a).stop i H ∧ D.nx σ H) ∨ ((Itt K a).go i H ∧ ∃ N : St → Hp → Prop, (∀ σ' H', N σ' H' → ∃ m', m' < m ∧ W (i + 1) m' σ' H') ∧ ∀ x H', (Itt K a).yld i H x H' → g x σ H' fun σ2 H2 => tb { D with nx := N, ct := N, bk := D.nx } σ2 H2) := by
  refine ⟨fun i m σ H => m = xs.length - i ∧ i ≤ xs.length ∧ Pv i σ H, ⟨xs.length, by simp, Nat.zero_le _, h0⟩, ?_⟩
  rintro i m σ H ⟨rfl, hi, p⟩
  have q := hl i σ H hi p
  by_cases hlt : i < xs.length
  · refine .inr ⟨⟨xs, xs[i], q, by simp [hlt]⟩, Pv (i + 1), fun σ' H' p' => ⟨xs.length - (i + 1), by omega, rfl, hlt, p'⟩, fun x H' y => ?_⟩
    obtain ⟨e, y⟩ := y
    subst e
    exact hs i x σ _ (y xs q) p
  · have e : i = xs.length := by omega
    subst e
    exact .inl ⟨⟨xs, q, Nat.le_refl _⟩, hd σ H p⟩
theorem for_range {lo : Int} {n : Nat} {g : TG} {tb : TS} {D : Ends} {σ : St} {H : Hp} (Pv : Nat → St → Hp → Prop) (h0 : Pv 0 σ H)
    (hs : ∀ i σ H, i < n → Pv i σ H → g (.int (lo + i)) σ H fun σ2 H2 => tb { D with nx := Pv (i + 1), ct := Pv (i + 1), bk := D.nx } σ2 H2) (hd : ∀ σ H, Pv n σ H → D.nx σ H) :
    ∃ W : Nat → Nat → St → Hp → Prop, (∃ m, W 0 m σ H) ∧ ∀ i m σ H, W i m σ H →
      ((Itr lo n).stop i H ∧ D.nx σ H) ∨ ((Itr lo n).go i H ∧ ∃ N : St → Hp → Prop, (∀ σ' H', N σ' H' → ∃ m', m' < m ∧ W (i + 1) m' σ' H') ∧ ∀ x H', (Itr lo n).yld i H x H' → g x σ H' fun σ2 H2 => tb { D with nx := N, ct := N, bk := D.nx } σ2 H2) := by
  refine ⟨fun i m σ H => m = n - i ∧ i ≤ n ∧ Pv i σ H, ⟨n, by simp, Nat.zero_le _, h0⟩, ?_⟩
  rintro i m σ H ⟨rfl, hi, p⟩
  by_cases hlt : i < n
  · refine .inr ⟨hlt, Pv (i + 1), fun σ' H' p' => ⟨n - (i + 1), by omega, rfl, hlt, p'⟩, fun x H' y => ?_⟩
    obtain ⟨e, y⟩ := y
    subst e y
    exact hs i σ _ hlt p
  · have e : i = n := by omega
    subst e
    exact .inl ⟨Nat.le_refl _, hd σ H p⟩
/-- while, by a word and a measure of the state -/
theorem while_by {c : TT} {tb : TS} {D : Ends} {σ : St} {H : Hp} (Pv : St → Hp → Prop) (μ : St → Hp → Nat) (h0 : Pv σ H)
    (hs : ∀ σ H, Pv σ H → c σ H fun b H1 => if b = true then tb { D with nx := fun σ' H' => Pv σ' H' ∧ μ σ' H' < μ σ H, ct := fun σ' H' => Pv σ' H' ∧ μ σ' H' < μ σ H, bk := D.nx } σ H1 else D.nx σ H1)
    (mono : ∀ σ H Q Q', (∀ b H1, Q b H1 → Q' b H1) → c σ H Q → c σ H Q') : tWhile c tb D σ H := by
  refine ⟨fun m σ H => m = μ σ H ∧ Pv σ H, ⟨_, rfl, h0⟩, ?_⟩
  rintro m σ H ⟨rfl, p⟩
  refine mono σ H _ _ (fun b H1 q => ?_) (hs σ H p)
  cases b with
  | true => exact ⟨_, fun σ' H' ⟨p', l⟩ => ⟨_, l, rfl, p'⟩, q⟩
  | false => exact q
end L2

namespace L2
open PySem PySem.Spec PyProof.Rows

abbrev R2 := V → V → Hp → VK → Prop
/-- a two-place operation on values: f is binaryOp op, inplaceOp op or compareOp op -/
def OpR (X : Cx) (f : Value → Value → Sem Value) (r : R2) : Prop :=
  ∀ (pins : List (Addr × Obj)) (s : Shared) (σ : St) (H : Hp) (x y : V) (v u : Value) (Q : VK), Inv X pins σ H s → RelV x v → RelV y u → r x y H Q →
    wpAny (model X.prog X.w) X.A (f v u) (EP X pins σ Q) X.xe s
/-- a one-place operation -/
def UnR (X : Cx) (f : Value → Sem Value) (r : V → Hp → VK → Prop) : Prop :=
  ∀ (pins : List (Addr × Obj)) (s : Shared) (σ : St) (H : Hp) (x : V) (v : Value) (Q : VK), Inv X pins σ H s → RelV x v → r x H Q →
    wpAny (model X.prog X.w) X.A (f v) (EP X pins σ Q) X.xe s
/-- a call of a value that is known (a builtin, a type) with values -/
def CallR (X : Cx) (f : Value) (r : List V → Hp → VK → Prop) : Prop :=
  ∀ (pins : List (Addr × Obj)) (s : Shared) (σ : St) (H : Hp) (xs : List V) (us : List Value) (Q : VK), Inv X pins σ H s → Vals xs us → r xs H Q →
    wpAny (model X.prog X.w) X.A (call f us) (EP X pins σ Q) X.xe s
/-- a value's truth -/
def TruR (X : Cx) (r : V → Hp → (Bool → Hp → Prop) → Prop) : Prop :=
  ∀ (pins : List (Addr × Obj)) (s : Shared) (σ : St) (H : Hp) (x : V) (v : Value) (Q : Bool → Hp → Prop), Inv X pins σ H s → RelV x v → r x H Q →
    wpAny (model X.prog X.w) X.A (truthy v) (TP X pins σ Q) X.xe s

def tOp (r : R2) (ta tb : TE) : TE := fun σ H Q => ta σ H fun x H1 => tb σ H1 fun y H2 => r x y H2 Q
def tUn (r : V → Hp → VK → Prop) (ta : TE) : TE := fun σ H Q => ta σ H fun x H1 => r x H1 Q
/-- ints in, under C, and a value out -/
def rI (C : Int → Int → Prop) (g : Int → Int → V) : R2 := fun x y H Q => ∃ i j, x = .int i ∧ y = .int j ∧ C i j ∧ Q (g i j) H
def rI0 (g : Int → Int → V) : R2 := fun x y H Q => ∃ i j, x = .int i ∧ y = .int j ∧ Q (g i j) H
def rU (g : Int → V) : V → Hp → VK → Prop := fun x H Q => ∃ i, x = .int i ∧ Q (g i) H

section
variable {X : Cx} {a b c : Expr} {ta tb tc : TE} {pos : Pos}

theorem binT (ha : PE X a ta) (hb : PE X b tb) {pins : List (Addr × Obj)} {s : Shared} {σ : St} {H : Hp} {R : V → V → Hp → Prop} (I : Inv X pins σ H s)
    (h : ta σ H fun x H1 => tb σ H1 fun y H2 => R x y H2) {Q : Value → Shared → Prop} {f : Value → Value → Sem Value}
    (hf : ∀ v u s2 x y H2, Inv X pins σ H2 s2 → RelV x v → RelV y u → R x y H2 → wpAny (model X.prog X.w) X.A (f v u) Q X.xe s2) :
    wpAny (model X.prog X.w) X.A (eval a X.env) (fun v s₁ => wpAny (model X.prog X.w) X.A (eval b X.env) (fun u s₂ => wpAny (model X.prog X.w) X.A (f v u) Q X.xe s₂) X.xe s₁) X.xe s := by
  refine thn (ha pins s σ H _ I h) fun v s1 ⟨x, H1, I1, r1, q1⟩ => ?_
  refine thn (hb pins s1 σ H1 _ I1 q1) fun u s2 ⟨y, H2, I2, r2, q2⟩ => ?_
  exact hf v u s2 x y H2 I2 r1 r2 q2

theorem pe_op {op : Operator} {r : R2} (ho : OpR X (binaryOp op) r) (ha : PE X a ta) (hb : PE X b tb) : PE X (.BinOp a op b pos) (tOp r ta tb) := by
  intro pins s σ H Q I h
  exact wpAny_BinOp (binT ha hb I h fun v u s2 x y H2 I2 rx ry q => ho pins s2 σ H2 x y v u Q I2 rx ry q)
theorem pe_un {op : UnaryOp} {r : V → Hp → VK → Prop} (ho : UnR X (unaryOp op) r) (ha : PE X a ta) : PE X (.UnaryOp op a pos) (tUn r ta) := by
  intro pins s σ H Q I h
  exact UnaryOp_ (thn (ha pins s σ H _ I h) fun v s1 ⟨x, H1, I1, r1, q1⟩ => ho pins s1 σ H1 x v Q I1 r1 q1)
/-- a op= e at a name: the name's slot i -/
theorem augR {op : Operator} {r : R2} (ho : OpR X (inplaceOp op) r) {pins : List (Addr × Obj)} {s : Shared} {σ : St} {H : Hp} {x y : V} {v u : Value} {Q : VK} (I : Inv X pins σ H s)
    (rx : RelV x v) (ry : RelV y u) (q : r x y H Q) : wpAny (model X.prog X.w) X.A (inplaceOp op v u) (EP X pins σ Q) X.xe s := ho pins s σ H x y v u Q I rx ry q

/-! ### ints -/
theorem opI {f : Value → Value → Sem Value} {C : Int → Int → Prop} {g : Int → Int → Int}
    (rule : ∀ (i j : Int) (t u : Tok) (s : Shared) (Q : Value → Shared → Prop) (E : Value → Shared → Prop), C i j → Q (.int (g i j) s.toks) { s with toks := s.toks + 1 } → wpAny (model X.prog X.w) X.A (f (.int i t) (.int j u)) Q E s) :
    OpR X f (rI C fun i j => .int (g i j)) := by
  intro pins s σ H x y v u Q I rx ry h
  obtain ⟨i, j, rfl, rfl, hc, q⟩ := h
  obtain ⟨t, rfl⟩ := rx
  obtain ⟨t', rfl⟩ := ry
  exact rule i j t t' s _ _ hc ⟨.int (g i j), H, I.tok _, ⟨_, rfl⟩, q⟩
theorem opI0 {f : Value → Value → Sem Value} {g : Int → Int → Int}
    (rule : ∀ (i j : Int) (t u : Tok) (s : Shared) (Q : Value → Shared → Prop) (E : Value → Shared → Prop), Q (.int (g i j) s.toks) { s with toks := s.toks + 1 } → wpAny (model X.prog X.w) X.A (f (.int i t) (.int j u)) Q E s) :
    OpR X f (rI0 fun i j => .int (g i j)) := by
  intro pins s σ H x y v u Q I rx ry h
  obtain ⟨i, j, rfl, rfl, q⟩ := h
  obtain ⟨t, rfl⟩ := rx
  obtain ⟨t', rfl⟩ := ry
  exact rule i j t t' s _ _ ⟨.int (g i j), H, I.tok _, ⟨_, rfl⟩, q⟩
theorem opB0 {f : Value → Value → Sem Value} {g : Int → Int → Bool}
    (rule : ∀ (i j : Int) (t u : Tok) (s : Shared) (Q : Value → Shared → Prop) (E : Value → Shared → Prop), Q (.bool (g i j)) s → wpAny (model X.prog X.w) X.A (f (.int i t) (.int j u)) Q E s) :
    OpR X f (rI0 fun i j => .bl (g i j)) := by
  intro pins s σ H x y v u Q I rx ry h
  obtain ⟨i, j, rfl, rfl, q⟩ := h
  obtain ⟨t, rfl⟩ := rx
  obtain ⟨t', rfl⟩ := ry
  exact rule i j t t' s _ _ ⟨.bl (g i j), H, I, rfl, q⟩

def CDiv (i j : Int) : Prop := 0 < j ∧ j < 1073741824
def CDivN (i j : Int) : Prop := j ≠ 0 ∧ j.natAbs < 1073741824
def CPow (i j : Int) : Prop := 0 ≤ j ∧ j ≤ 1000000 ∧ i.natAbs < 2 ^ 64
def CMul (i j : Int) : Prop := (-(2 ^ 64) < i ∧ i < 2 ^ 64) ∨ (-(2 ^ 64) < j ∧ j < 2 ^ 64)
theorem CMul.ok {i j : Int} (h : CMul i j) : IntMulOk i j := by
  rcases h with ⟨h1, h2⟩ | ⟨h1, h2⟩
  · exact .of_left (intBits_le_64 h1 h2)
  · exact .of_right (intBits_le_64 h1 h2)
theorem two_pow_nn (k : Nat) : (0 : Int) ≤ 2 ^ k := by
  rw [two_pow_cast]
  exact Int.natCast_nonneg _

theorem op_add : OpR X (binaryOp .Add) (rI0 fun i j => .int (i + j)) := opI0 fun _ _ _ _ _ _ _ q => add_int q
theorem op_sub : OpR X (binaryOp .Sub) (rI0 fun i j => .int (i - j)) := opI0 fun _ _ _ _ _ _ _ q => sub_int q
theorem op_mul : OpR X (binaryOp .Mult) (rI CMul fun i j => .int (i * j)) := opI fun _ _ _ _ _ _ _ hc q => mul_int q hc.ok
/-- // by a positive divisor -/
theorem op_fdiv : OpR X (binaryOp .FloorDiv) (rI CDiv fun i j => .int (i / j)) := opI fun i j _ _ _ _ _ hc q => by
  have h1 : (0 : Int) < j := hc.1
  have h2 : j < 1073741824 := hc.2
  exact floordiv_int (by omega) (by rw [Int.fdiv_eq_ediv_of_nonneg i (by omega)]; exact q) (.inl (PyProof.noPylong_small (by omega)))
theorem op_fdivN : OpR X (binaryOp .FloorDiv) (rI CDivN fun i j => .int (i.fdiv j)) := opI fun _ _ _ _ _ _ _ hc q => floordiv_int hc.1 q (.inl (PyProof.noPylong_small hc.2))
/-- % by a positive divisor of any size -/
theorem op_mod : OpR X (binaryOp .Mod) (rI (fun _ j => 0 < j) fun i j => .int (i % j)) := opI fun i j _ _ _ _ _ hc q => by
  have h1 : (0 : Int) < j := hc
  exact mod_int' (by omega) (by rw [Int.fmod_eq_emod_of_nonneg i (by omega)]; exact q)
theorem op_modN : OpR X (binaryOp .Mod) (rI (fun _ j => j ≠ 0) fun i j => .int (i.fmod j)) := opI fun _ _ _ _ _ _ _ hc q => mod_int' hc q
theorem op_pow : OpR X (binaryOp .Pow) (rI CPow fun i j => .int (i ^ j.toNat)) := opI fun _ _ _ _ _ _ _ hc q => pow_int_small hc.1 hc.2.1 hc.2.2 q
theorem op_shl : OpR X (binaryOp .LShift) (rI CPow fun i j => .int (i * 2 ^ j.toNat)) := opI fun _ _ _ _ _ _ _ hc q => lshift_int_small hc.1 hc.2.1 hc.2.2 q
theorem op_shr : OpR X (binaryOp .RShift) (rI (fun _ j => 0 ≤ j) fun i j => .int (i / 2 ^ j.toNat)) := opI fun i j _ _ _ _ _ hc q =>
  rshift_int hc (by rw [Int.fdiv_eq_ediv_of_nonneg i (two_pow_nn _)]; exact q)
theorem op_and : OpR X (binaryOp .BitAnd) (rI0 fun i j => .int (Builtin.bitAnd i j)) := opI0 fun _ _ _ _ _ _ _ q => and_int q
theorem op_or : OpR X (binaryOp .BitOr) (rI0 fun i j => .int (Builtin.bitOr i j)) := opI0 fun _ _ _ _ _ _ _ q => or_int q
theorem op_xor : OpR X (binaryOp .BitXor) (rI0 fun i j => .int (Builtin.bitXor i j)) := opI0 fun _ _ _ _ _ _ _ q => xor_int q

theorem iop_add : OpR X (inplaceOp .Add) (rI0 fun i j => .int (i + j)) := opI0 fun _ _ _ _ _ _ _ q => iadd_int q
theorem iop_sub : OpR X (inplaceOp .Sub) (rI0 fun i j => .int (i - j)) := opI0 fun _ _ _ _ _ _ _ q => isub_int q
theorem iop_mul : OpR X (inplaceOp .Mult) (rI CMul fun i j => .int (i * j)) := opI fun _ _ _ _ _ _ _ hc q => imul_int q hc.ok
theorem iop_fdiv : OpR X (inplaceOp .FloorDiv) (rI CDiv fun i j => .int (i / j)) := opI fun i j _ _ _ _ _ hc q => by
  have h1 : (0 : Int) < j := hc.1
  have h2 : j < 1073741824 := hc.2
  exact ifloordiv_int (by omega) (by rw [Int.fdiv_eq_ediv_of_nonneg i (by omega)]; exact q) (.inl (PyProof.noPylong_small (by omega)))
theorem iop_mod : OpR X (inplaceOp .Mod) (rI (fun _ j => 0 < j) fun i j => .int (i % j)) := opI fun i j _ _ _ _ _ hc q => by
  have h1 : (0 : Int) < j := hc
  exact imod_int (by omega) (by rw [Int.fmod_eq_emod_of_nonneg i (by omega)]; exact q)
theorem iop_shl : OpR X (inplaceOp .LShift) (rI CPow fun i j => .int (i * 2 ^ j.toNat)) := opI fun _ _ _ _ _ _ _ hc q => ilshift_int_small hc.1 hc.2.1 hc.2.2 q
theorem iop_shr : OpR X (inplaceOp .RShift) (rI (fun _ j => 0 ≤ j) fun i j => .int (i / 2 ^ j.toNat)) := opI fun i j _ _ _ _ _ hc q =>
  irshift_int hc (by rw [Int.fdiv_eq_ediv_of_nonneg i (two_pow_nn _)]; exact q)
theorem iop_and : OpR X (inplaceOp .BitAnd) (rI0 fun i j => .int (Builtin.bitAnd i j)) := opI0 fun _ _ _ _ _ _ _ q => iand_int q
theorem iop_or : OpR X (inplaceOp .BitOr) (rI0 fun i j => .int (Builtin.bitOr i j)) := opI0 fun _ _ _ _ _ _ _ q => ior_int q
theorem iop_xor : OpR X (inplaceOp .BitXor) (rI0 fun i j => .int (Builtin.bitXor i j)) := opI0 fun _ _ _ _ _ _ _ q => ixor_int q

theorem unI {f : Value → Sem Value} {g : Int → Int}
    (rule : ∀ (i : Int) (t : Tok) (s : Shared) (Q : Value → Shared → Prop) (E : Value → Shared → Prop), Q (.int (g i) s.toks) { s with toks := s.toks + 1 } → wpAny (model X.prog X.w) X.A (f (.int i t)) Q E s) :
    UnR X f (rU fun i => .int (g i)) := by
  intro pins s σ H x v Q I rx h
  obtain ⟨i, rfl, q⟩ := h
  obtain ⟨t, rfl⟩ := rx
  exact rule i t s _ _ ⟨.int (g i), H, I.tok _, ⟨_, rfl⟩, q⟩
theorem un_neg : UnR X (unaryOp .USub) (rU fun i => .int (-i)) := unI fun _ _ _ _ _ q => neg_int q
theorem un_inv : UnR X (unaryOp .Invert) (rU fun i => .int (Builtin.bitNot i)) := unI fun _ _ _ _ _ q => invert_int q

/-! ### bools among ints: n += (a < b) -/
theorem op_add_ib : OpR X (binaryOp .Add) (fun x y H Q => ∃ i k, x = .int i ∧ y = .bl k ∧ Q (.int (i + b2i k)) H) := by
  intro pins s σ H x y v u Q I rx ry h
  obtain ⟨i, k, rfl, rfl, q⟩ := h
  obtain ⟨t, rfl⟩ := rx
  cases ry
  exact add_int_bool ⟨.int (i + b2i k), H, I.tok _, ⟨_, rfl⟩, q⟩
end

/-! ### comparisons -/
/-- the scalars that == tells apart as data does -/
def scal : V → V → Bool
  | .non, .non => true | .non, .int _ => true | .int _, .non => true | .non, .bl _ => true | .bl _, .non => true | .non, .str _ => true | .str _, .non => true
  | .int _, .int _ => true | .bl _, .bl _ => true | .str _, .str _ => true | .byt _, .byt _ => true
  | .int _, .str _ => true | .str _, .int _ => true | .bl _, .str _ => true | .str _, .bl _ => true
  | _, _ => false
def rEq : R2 := fun x y H Q => scal x y = true ∧ Q (.bl (decide (x = y))) H
def rNe : R2 := fun x y H Q => scal x y = true ∧ Q (.bl (!decide (x = y))) H

theorem dec_int {i j : Int} : decide (V.int i = V.int j) = (i == j) := by
  rw [Bool.eq_iff_iff]
  simp
theorem dec_bl {i j : Bool} : decide (V.bl i = V.bl j) = (i == j) := by
  rw [Bool.eq_iff_iff]
  simp
theorem dec_str {i j : Str} : decide (V.str i = V.str j) = (i == j) := by
  rw [Bool.eq_iff_iff]
  simp
theorem dec_byt {i j : Array UInt8} : decide (V.byt i = V.byt j) = (i.toList == j.toList) := by
  rw [Bool.eq_iff_iff]
  cases i
  cases j
  simp

section
variable {X : Cx} {a b c : Expr} {ta tb tc : TE} {pos : Pos}
theorem fin_bl {pins : List (Addr × Obj)} {σ : St} {H : Hp} {s : Shared} {Q : VK} {k k' : Bool} (I : Inv X pins σ H s) (q : Q (.bl k) H) (e : k = k') : EP X pins σ Q (.bool k') s := by
  subst e
  exact ⟨.bl k, H, I, rfl, q⟩
theorem op_eq : OpR X (compareOp .Eq) rEq := by
  intro pins s σ H x y v u Q I rx ry h
  obtain ⟨hs, q⟩ := h
  cases x with
  | non =>
    cases rx
    cases y with
    | non => cases ry; exact PySem.EqNone.eq_none_none (fin_bl I q (by simp))
    | bl j => cases ry; exact PySem.EqNone.eq_none_bool (fin_bl I q (by simp))
    | int j => obtain ⟨t', rfl⟩ := ry; exact PySem.EqNone.eq_none_int (fin_bl I q (by simp))
    | str j => obtain ⟨t', rfl⟩ := ry; exact PySem.EqNone.eq_none_str (fin_bl I q (by simp))
    | _ => exact absurd (show false = true from hs) Bool.false_ne_true
  | bl i =>
    cases rx
    cases y with
    | non => cases ry; exact PySem.EqNone.eq_bool_none (fin_bl I q (by simp))
    | bl j => cases ry; exact eq_bool (fin_bl I q dec_bl)
    | str j => obtain ⟨t', rfl⟩ := ry; exact PySem.EqMixed.eq_bool_str (fin_bl I q (by simp))
    | _ => exact absurd (show false = true from hs) Bool.false_ne_true
  | int i =>
    obtain ⟨t, rfl⟩ := rx
    cases y with
    | non => cases ry; exact PySem.EqNone.eq_int_none (fin_bl I q (by simp))
    | int j => obtain ⟨t', rfl⟩ := ry; exact eq_int (fin_bl I q dec_int)
    | str j => obtain ⟨t', rfl⟩ := ry; exact PySem.EqMixed.eq_int_str (fin_bl I q (by simp))
    | _ => exact absurd (show false = true from hs) Bool.false_ne_true
  | str i =>
    obtain ⟨t, rfl⟩ := rx
    cases y with
    | non => cases ry; exact PySem.EqNone.eq_str_none (fin_bl I q (by simp))
    | bl j => cases ry; exact PySem.EqMixed.eq_str_bool (fin_bl I q (by simp))
    | int j => obtain ⟨t', rfl⟩ := ry; exact PySem.EqMixed.eq_str_int (fin_bl I q (by simp))
    | str j => obtain ⟨t', rfl⟩ := ry; exact eq_str (fin_bl I q dec_str)
    | _ => exact absurd (show false = true from hs) Bool.false_ne_true
  | byt i =>
    obtain ⟨t, rfl⟩ := rx
    cases y with
    | byt j => obtain ⟨t', rfl⟩ := ry; exact PySem.W.eq_bytes (fin_bl I q dec_byt)
    | _ => exact absurd (show false = true from hs) Bool.false_ne_true
  | _ => cases y <;> exact absurd (show false = true from hs) Bool.false_ne_true
theorem op_ne : OpR X (compareOp .NotEq) rNe := by
  intro pins s σ H x y v u Q I rx ry h
  obtain ⟨hs, q⟩ := h
  cases x with
  | non =>
    cases rx
    cases y with
    | non => cases ry; exact PySem.EqNone.ne_none_none (fin_bl I q (by simp))
    | bl j => cases ry; exact PySem.EqNone.ne_none_bool (fin_bl I q (by simp))
    | int j => obtain ⟨t', rfl⟩ := ry; exact PySem.EqNone.ne_none_int (fin_bl I q (by simp))
    | str j => obtain ⟨t', rfl⟩ := ry; exact PySem.EqNone.ne_none_str (fin_bl I q (by simp))
    | _ => exact absurd (show false = true from hs) Bool.false_ne_true
  | bl i =>
    cases rx
    cases y with
    | non => cases ry; exact PySem.EqNone.ne_bool_none (fin_bl I q (by simp))
    | bl j => cases ry; exact ne_bool (fin_bl I q (congrArg not dec_bl))
    | str j => obtain ⟨t', rfl⟩ := ry; exact PySem.EqMixed.ne_bool_str (fin_bl I q (by simp))
    | _ => exact absurd (show false = true from hs) Bool.false_ne_true
  | int i =>
    obtain ⟨t, rfl⟩ := rx
    cases y with
    | non => cases ry; exact PySem.EqNone.ne_int_none (fin_bl I q (by simp))
    | int j => obtain ⟨t', rfl⟩ := ry; exact ne_int (fin_bl I q (congrArg not dec_int))
    | str j => obtain ⟨t', rfl⟩ := ry; exact PySem.EqMixed.ne_int_str (fin_bl I q (by simp))
    | _ => exact absurd (show false = true from hs) Bool.false_ne_true
  | str i =>
    obtain ⟨t, rfl⟩ := rx
    cases y with
    | non => cases ry; exact PySem.EqNone.ne_str_none (fin_bl I q (by simp))
    | bl j => cases ry; exact PySem.EqMixed.ne_str_bool (fin_bl I q (by simp))
    | int j => obtain ⟨t', rfl⟩ := ry; exact PySem.EqMixed.ne_str_int (fin_bl I q (by simp))
    | str j => obtain ⟨t', rfl⟩ := ry; exact ne_str (fin_bl I q (congrArg not dec_str))
    | _ => exact absurd (show false = true from hs) Bool.false_ne_true
  | byt i =>
    obtain ⟨t, rfl⟩ := rx
    cases y with
    | byt j => obtain ⟨t', rfl⟩ := ry; exact PySem.W.ne_bytes (fin_bl I q (congrArg not dec_byt))
    | _ => exact absurd (show false = true from hs) Bool.false_ne_true
  | _ => cases y <;> exact absurd (show false = true from hs) Bool.false_ne_true

theorem op_lt : OpR X (compareOp .Lt) (rI0 fun i j => .bl (decide (i < j))) := opB0 fun _ _ _ _ _ _ _ q => lt_int q
theorem op_le : OpR X (compareOp .LtE) (rI0 fun i j => .bl (decide (i ≤ j))) := opB0 fun _ _ _ _ _ _ _ q => le_int q
theorem op_gt : OpR X (compareOp .Gt) (rI0 fun i j => .bl (decide (j < i))) := opB0 fun _ _ _ _ _ _ _ q => gt_int q
theorem op_ge : OpR X (compareOp .GtE) (rI0 fun i j => .bl (decide (j ≤ i))) := opB0 fun _ _ _ _ _ _ _ q => ge_int q
theorem op_lt_str : OpR X (compareOp .Lt) (fun x y H Q => ∃ i j, x = .str i ∧ y = .str j ∧ Q (.bl (decide (i.cps.toList < j.cps.toList))) H) := by
  intro pins s σ H x y v u Q I rx ry h
  obtain ⟨i, j, rfl, rfl, q⟩ := h
  obtain ⟨t, rfl⟩ := rx
  obtain ⟨t', rfl⟩ := ry
  exact lt_str (fin_bl I q rfl)
/-- the one string within the other -/
theorem op_in_str : OpR X (compareOp .In) (fun x y H Q => ∃ i j, x = .str i ∧ y = .str j ∧ Q (.bl (!(Builtin.Str.occurrences j i 0 j.length 1).isEmpty)) H) := by
  intro pins s σ H x y v u Q I rx ry h
  obtain ⟨i, j, rfl, rfl, q⟩ := h
  obtain ⟨t, rfl⟩ := rx
  obtain ⟨t', rfl⟩ := ry
  exact in_str (fin_bl I q rfl)

/-- is None, is not None: the right side a value none -/
theorem op_isN : OpR X (compareOp .Is) (fun x y H Q => y = .non ∧ Q (.bl (decide (x = .non))) H) := by
  intro pins s σ H x y v u Q I rx ry h
  obtain ⟨rfl, q⟩ := h
  cases ry
  refine is_none_gen (fin_bl I q ?_)
  cases x <;> first
    | (cases rx; rfl)
    | (obtain ⟨t, rfl⟩ := rx; rfl)
theorem op_notN : OpR X (compareOp .IsNot) (fun x y H Q => y = .non ∧ Q (.bl (!decide (x = .non))) H) := by
  intro pins s σ H x y v u Q I rx ry h
  obtain ⟨rfl, q⟩ := h
  cases ry
  refine isnot_none_gen (fin_bl I q ?_)
  cases x <;> first
    | (cases rx; rfl)
    | (obtain ⟨t, rfl⟩ := rx; rfl)

theorem op_notin_str : OpR X (compareOp .NotIn) (fun x y H Q => ∃ i j, x = .str i ∧ y = .str j ∧ Q (.bl (!(!(Builtin.Str.occurrences j i 0 j.length 1).isEmpty))) H) := by
  intro pins s σ H x y v u Q I rx ry h
  obtain ⟨i, j, rfl, rfl, q⟩ := h
  obtain ⟨t, rfl⟩ := rx
  obtain ⟨t', rfl⟩ := ry
  exact notIn_str (fin_bl I q rfl)
/-- is, is not of two objects that are tracked lists or instances -/
def isObj : HO → Bool
  | .lst _ => true
  | .ins _ _ _ => true
  | _ => false
theorem obj_there {pins : List (Addr × Obj)} {s : Shared} {σ : St} {H : Hp} {a : Addr} {o : HO} (I : Inv X pins σ H s) (h : H a = some o) (p : isObj o = true) : ∃ ob, s.heap.get? a = some ob ∧ ob.cls ≠ .type "tuple" := by
  cases o with
  | lst xs =>
    obtain ⟨_, its, n, _, e⟩ : xs.length ≤ sizeLine ∧ ∃ (its : List Value) (n : Nat), Vals xs its ∧ s.heap.get? a = some { cls := .type "list", data := .seq its.toArray n } := I.hok a _ h
    exact ⟨_, e, (by show Value.type "list" ≠ .type "tuple"; decide +kernel)⟩
  | ins C dx fs =>
    have x := I.hok a _ h
    obtain ⟨_, _, _, e, _⟩ := x
    exact ⟨_, e, (by show Value.ref C ≠ .type "tuple"; exact fun z => by cases z)⟩
  | _ => exact absurd (show false = true from p) Bool.false_ne_true
theorem op_is_ref : OpR X (compareOp .Is) (fun x y H Q => ∃ a b oa ob, x = .ref a ∧ y = .ref b ∧ H a = some oa ∧ isObj oa = true ∧ H b = some ob ∧ isObj ob = true ∧ Q (.bl (decide (a = b))) H) := by
  intro pins s σ H x y v u Q I rx ry h
  obtain ⟨a, b, oa, ob, rfl, rfl, ha, pa, hb, pb, q⟩ := h
  cases rx
  cases ry
  obtain ⟨o1, e1, n1⟩ := obj_there I ha pa
  obtain ⟨o2, e2, _⟩ := obj_there I hb pb
  by_cases z : a = b
  · subst z
    exact wpAny_is_ref_self (fin_bl I q (by simp))
  · exact wpAny_is_ref_other z e1 e2 n1 (fin_bl I q (by simp [z]))
theorem op_isnot_ref : OpR X (compareOp .IsNot) (fun x y H Q => ∃ a b oa ob, x = .ref a ∧ y = .ref b ∧ H a = some oa ∧ isObj oa = true ∧ H b = some ob ∧ isObj ob = true ∧ Q (.bl (!decide (a = b))) H) := by
  intro pins s σ H x y v u Q I rx ry h
  obtain ⟨a, b, oa, ob, rfl, rfl, ha, pa, hb, pb, q⟩ := h
  cases rx
  cases ry
  obtain ⟨o1, e1, n1⟩ := obj_there I ha pa
  obtain ⟨o2, e2, _⟩ := obj_there I hb pb
  by_cases z : a = b
  · subst z
    exact wpAny_isNot_ref_self (fin_bl I q (by simp))
  · exact wpAny_isNot_ref_other z e1 e2 n1 (fin_bl I q (by simp [z]))

/-- two rules for one operation: by cases -/
theorem OpR.or {f : Value → Value → Sem Value} {r r' : R2} (h : OpR X f r) (h' : OpR X f r') : OpR X f (fun x y H Q => r x y H Q ∨ r' x y H Q) := by
  intro pins s σ H x y v u Q I rx ry q
  rcases q with q | q
  · exact h pins s σ H x y v u Q I rx ry q
  · exact h' pins s σ H x y v u Q I rx ry q

theorem nomark (b : Expr) {op : CmpOp} (h : op ≠ .In := by decide) (h2 : op ≠ .NotIn := by decide) : behindInMarks op b = false := by
  have e1 : (op == CmpOp.In) = false := by cases op <;> first | rfl | exact absurd rfl h
  have e2 : (op == CmpOp.NotIn) = false := by cases op <;> first | rfl | exact absurd rfl h2
  cases b <;> simp [behindInMarks, e1, e2]
/-- a comparison as a value; hm: nomark b, or (for in, not in) by with_unfolding_all rfl -/
theorem pe_cmpR {op : CmpOp} {r : R2} (ho : OpR X (compareOp op) r) (ha : PE X a ta) (hb : PE X b tb) (hm : behindInMarks op b = false) : PE X (.Compare a [op] [b] pos) (tOp r ta tb) := by
  intro pins s σ H Q I h
  exact wpAny_Compare1 (binT ha hb I h fun v u s2 x y H2 I2 rx ry q => ho pins s2 σ H2 x y v u Q I2 rx ry q) hm
/-- a reading of a value as a test -/
def tTest (t : TE) : TT := fun σ H Q => t σ H fun x H' => ∃ k, x = .bl k ∧ Q k H'
theorem pt_cmpR {op : CmpOp} {r : R2} (ho : OpR X (compareOp op) r) (ha : PE X a ta) (hb : PE X b tb) (hm : behindInMarks op b = false) : PT X (.Compare a [op] [b] pos) (tTest (tOp r ta tb)) := by
  intro pins s σ H Q I h
  refine wpAny_isTrue_Compare1 (thn (ha pins s σ H _ I h) fun v s1 ⟨x, H1, I1, r1, q1⟩ => thn (hb pins s1 σ H1 _ I1 q1) fun u s2 ⟨y, H2, I2, r2, q2⟩ =>
    thn (ho pins s2 σ H2 x y v u _ I2 r1 r2 q2) fun c s3 ⟨z, H3, I3, r3, k, e, q3⟩ => ?_) hm
  subst e
  cases r3
  exact wpAny_truthy_bool ⟨H3, I3, q3⟩
/-- a op1 b op2 c -/
def tChain (r r' : R2) (ta tb tc : TE) : TE := fun σ H Q => ta σ H fun x H1 => tb σ H1 fun y H2 => r x y H2 fun z H3 => ∃ k, z = .bl k ∧
  (if k = true then tc σ H3 fun w' H4 => r' y w' H4 Q else Q (.bl false) H3)
theorem pe_chain {op op' : CmpOp} {r r' : R2} (ho : OpR X (compareOp op) r) (ho' : OpR X (compareOp op') r') (ha : PE X a ta) (hb : PE X b tb) (hc : PE X c tc)
    (hm : lastMarks [op, op'] [b, c] = false := by with_unfolding_all rfl) : PE X (.Compare a [op, op'] [b, c] pos) (tChain r r' ta tb tc) := by
  intro pins s σ H Q I h
  refine Compare_chain (thn (ha pins s σ H _ I h) fun v s1 ⟨x, H1, I1, r1, q1⟩ => chain_link (thn (hb pins s1 σ H1 _ I1 q1) fun u s2 ⟨y, H2, I2, r2, q2⟩ =>
    thn (ho pins s2 σ H2 x y v u _ I2 r1 r2 q2) fun d s3 ⟨z, H3, I3, r3, k, e, q3⟩ => ?_)) hm
  subst e
  cases r3
  refine wpAny_truthy_bool ?_
  cases k with
  | false => exact ite_ff ⟨.bl false, H3, I3, rfl, q3⟩
  | true => exact ite_tt (chain_last (thn (hc pins s3 σ H3 _ I3 q3) fun w' s4 ⟨z', H4, I4, r4, q4⟩ => ho' pins s4 σ H4 y z' u w' Q I4 r2 r4 q4))
theorem pt_chain {op op' : CmpOp} {r r' : R2} (ho : OpR X (compareOp op) r) (ho' : OpR X (compareOp op') r') (ha : PE X a ta) (hb : PE X b tb) (hc : PE X c tc)
    (hm : lastMarks [op, op'] [b, c] = false := by with_unfolding_all rfl) : PT X (.Compare a [op, op'] [b, c] pos) (tTest (tChain r r' ta tb tc)) := by
  intro pins s σ H Q I h
  refine isTrue_chain (thn (ha pins s σ H _ I h) fun v s1 ⟨x, H1, I1, r1, q1⟩ => test_link (thn (hb pins s1 σ H1 _ I1 q1) fun u s2 ⟨y, H2, I2, r2, q2⟩ =>
    thn (ho pins s2 σ H2 x y v u _ I2 r1 r2 q2) fun d s3 ⟨z, H3, I3, r3, k, e, q3⟩ => ?_)) hm
  subst e
  cases r3
  refine wpAny_truthy_bool ?_
  cases k with
  | false =>
    obtain ⟨k', e', q'⟩ := q3
    cases e'
    exact ite_ff ⟨H3, I3, q'⟩
  | true =>
    refine ite_tt (test_last (thn (hc pins s3 σ H3 _ I3 q3) fun w' s4 ⟨z', H4, I4, r4, q4⟩ => thn (ho' pins s4 σ H4 y z' u w' _ I4 r2 r4 q4) fun d' s5 ⟨z2, H5, I5, r5, k2, e2, q5⟩ => ?_))
    subst e2
    cases r5
    exact wpAny_truthy_bool ⟨H5, I5, q5⟩

/-! ### truth -/
/-- a value's truth by the abstract heap -/
def TruV (K : PySem.W.Frag) (x : V) (H : Hp) (k : Bool) : Prop :=
  match x with
  | .non => k = false
  | .bl b => k = b
  | .int i => k = (i != 0)
  | .str y => y.length ≤ sizeLine ∧ k = ((y.length : Int) != 0)
  | .byt y => y.size ≤ sizeLine ∧ k = ((y.size : Int) != 0)
  | .ref p => (∃ xs, SqL K H p xs ∧ k = !xs.isEmpty) ∨ (∃ xs, SqT K H p xs ∧ k = !xs.isEmpty) ∨ ∃ kvs, H p = some (.dK kvs) ∧ k = !kvs.isEmpty
  | _ => False
theorem isEmpty_kv {κ : Type} {kvs : List (κ × V)} {vs : List (κ × Value)} (r : KV kvs vs) : (!vs.isEmpty) = !kvs.isEmpty := by
  cases r <;> rfl
theorem isEmpty_of {xs : List V} {its : List Value} (r : Vals xs its) : (!its.toArray.isEmpty) = !xs.isEmpty := by
  cases r <;> simp
theorem line63 : (sizeLine : Nat) < 2 ^ 63 := by rw [sizeLine_eq]; decide
theorem tru_ok : TruR X (fun x H Q => ∃ k, TruV X.K x H k ∧ Q k H) := by
  intro pins s σ H x v Q I rx h
  obtain ⟨k, e, q⟩ := h
  have hl := line63
  have hs : sizeLine = 16777216 := sizeLine_eq
  cases x with
  | non =>
    cases rx
    have e' : k = false := e
    subst e'
    exact truthy_none ⟨H, I, q⟩
  | bl b =>
    cases rx
    have e' : k = b := e
    subst e'
    exact wpAny_truthy_bool ⟨H, I, q⟩
  | int i =>
    obtain ⟨t, rfl⟩ := rx
    have e' : k = (i != 0) := e
    subst e'
    exact PySem.P.truthy_int ⟨H, I, q⟩
  | str y =>
    obtain ⟨t, rfl⟩ := rx
    obtain ⟨hy, e'⟩ : y.length ≤ sizeLine ∧ k = ((y.length : Int) != 0) := e
    subst e'
    exact PySem.P.truthy_str (by omega) ⟨H, I.tok _, q⟩
  | byt y =>
    obtain ⟨t, rfl⟩ := rx
    obtain ⟨hy, e'⟩ : y.size ≤ sizeLine ∧ k = ((y.size : Int) != 0) := e
    subst e'
    exact PySem.W.truthy_bytes (by omega) ⟨H, I.tok _, q⟩
  | ref p =>
    cases rx
    have e' : (∃ xs, SqL X.K H p xs ∧ k = !xs.isEmpty) ∨ (∃ xs, SqT X.K H p xs ∧ k = !xs.isEmpty) ∨ ∃ kvs, H p = some (.dK kvs) ∧ k = !kvs.isEmpty := e
    rcases e' with ⟨xs, hx, e'⟩ | ⟨xs, hx, e'⟩ | ⟨kvs, hx, e'⟩
    · subst e'
      obtain ⟨its, r, pl, hz⟩ := I.list hx
      have hlen := r.length
      exact wpAny_truthy_list pl.isList (by simp only [List.size_toArray]; omega) ⟨H, I.tok _, by rw [isEmpty_of r]; exact q⟩
    · subst e'
      obtain ⟨its, r, pl, hz⟩ := I.tuple hx
      have hlen := r.length
      exact truthy_tuple pl (by simp only [List.size_toArray]; omega) ⟨H, I.tok _, by rw [isEmpty_of r]; exact q⟩
    · subst e'
      obtain ⟨hz, hS, vs, r, m⟩ : kvs.length ≤ sizeLine ∧ (p == sysModules) = false ∧ ∃ vs, KV kvs vs ∧ s.heap.DictOf (mixKind X.prog X.w) p vs := I.hok p _ hx
      have hlen : kvs.length = vs.length := Paired.length r
      exact wpAny_truthy_dict hS m (by omega) ⟨H, I.tok _, by rw [isEmpty_kv r]; exact q⟩
  | _ => exact (show False from e).elim
/-- any expression whose test is its value's truth (a name, a call, a subscript, a field ..: he by fun _ => rfl) -/
theorem pt_truth (ha : PE X a ta) (he : ∀ whole, isTrue a X.env whole = (do let v ← whole; standAt a.pos; holding [v] (truthy v))) :
    PT X a (fun σ H Q => ta σ H fun x H' => ∃ k, TruV X.K x H' k ∧ Q k H') := by
  intro pins s σ H Q I h
  exact isTrue_plain (thn (ha pins s σ H _ I h) fun v s1 ⟨x, H1, I1, r1, q1⟩ => tru_ok pins s1 σ H1 x v Q I1 r1 q1) (he _)

/-! ### strs and bytes -/
theorem pe_byt {x : List UInt8} {k : Nat} : PE X (.Constant (.bytes x) k pos) (fun _ H Q => Q (.byt x.toArray) H) := fun _ _ _ H _ I h => PySem.W.Constant_bytes ⟨.byt x.toArray, H, I.tok _, ⟨_, rfl⟩, h⟩
theorem op_add_str : OpR X (binaryOp .Add) (fun x y H Q => ∃ i j, x = .str i ∧ y = .str j ∧ i.length + j.length ≤ sizeLine ∧ Q (.str (i ++ j)) H) := by
  intro pins s σ H x y v u Q I rx ry h
  obtain ⟨i, j, rfl, rfl, hz, q⟩ := h
  obtain ⟨t, rfl⟩ := rx
  obtain ⟨t', rfl⟩ := ry
  exact add_str (fun t' tk => ⟨.str (i ++ j), H, I.tok _, ⟨_, rfl⟩, q⟩) hz
theorem iop_add_str : OpR X (inplaceOp .Add) (fun x y H Q => ∃ i j, x = .str i ∧ y = .str j ∧ i.length + j.length ≤ sizeLine ∧ Q (.str (i ++ j)) H) := by
  intro pins s σ H x y v u Q I rx ry h
  obtain ⟨i, j, rfl, rfl, hz, q⟩ := h
  obtain ⟨t, rfl⟩ := rx
  obtain ⟨t', rfl⟩ := ry
  exact iadd_str (fun t' tk => ⟨.str (i ++ j), H, I.tok _, ⟨_, rfl⟩, q⟩) hz
theorem op_add_byt : OpR X (binaryOp .Add) (fun x y H Q => ∃ i j, x = .byt i ∧ y = .byt j ∧ i.size + j.size ≤ 16777216 ∧ Q (.byt (i ++ j)) H) := by
  intro pins s σ H x y v u Q I rx ry h
  obtain ⟨i, j, rfl, rfl, hz, q⟩ := h
  obtain ⟨t, rfl⟩ := rx
  obtain ⟨t', rfl⟩ := ry
  exact PySem.W.KBy.add_bytes hz (fun t' tk => ⟨.byt (i ++ j), H, I.tok _, ⟨_, rfl⟩, q⟩)

def PlainIxT (b : Expr) : Prop := ∀ o i, subscripted b false o i = operate [o, i] (getItem o i)
/-- s[i], 0 ≤ i < len -/
theorem pe_item_str (ha : PE X a ta) (hb : PE X b tb) (hs : PlainIxT b) :
    PE X (.Subscript a b pos) (tOp (fun x y H Q => ∃ z i c, x = .str z ∧ y = .int i ∧ 0 ≤ i ∧ i < 2 ^ 63 ∧ i < z.length ∧ z.cps[i.toNat]? = some c ∧ Q (.str ⟨#[c]⟩) H) ta tb) := by
  intro pins s σ H Q I h
  refine Subscript_ (binT ha hb I h fun v u s2 x y H2 I2 rx ry q => ?_)
  obtain ⟨z, i, c, rfl, rfl, h0, h63, h1, hc, q⟩ := q
  obtain ⟨t, rfl⟩ := rx
  obtain ⟨t', rfl⟩ := ry
  have e : seqIndex? i z.length = some i.toNat := PySem.StrLaws.seqIndex_nonneg h0 h1
  exact tail_any (typeIs_str s2 z t) slot_str_getitem.lookup (getItem_str (c := c) (by
    have e1 : decide (i < -(2 ^ 63 : Int)) = false := decide_eq_false (by omega)
    have e2 : decide (i ≥ 2 ^ 63) = false := decide_eq_false (by omega)
    rw [e1, e2] <;> rfl) (by rw [e]; exact hc) ⟨.str ⟨#[c]⟩, H2, I2.tok _, ⟨_, rfl⟩, q⟩) (hs _ _)
/-- b[i], 0 ≤ i < len -/
theorem pe_item_byt (ha : PE X a ta) (hb : PE X b tb) (hs : PlainIxT b) :
    PE X (.Subscript a b pos) (tOp (fun x y H Q => ∃ (z : List UInt8) (i : Int), x = .byt z.toArray ∧ y = .int i ∧ z.length ≤ sizeLine ∧ 0 ≤ i ∧ i < z.length ∧ Q (.int ((z.getD i.toNat 0).toNat : Nat)) H) ta tb) := by
  intro pins s σ H Q I h
  refine Subscript_ (binT ha hb I h fun v u s2 x y H2 I2 rx ry q => ?_)
  obtain ⟨z, i, rfl, rfl, hz, h0, h1, q⟩ := q
  obtain ⟨t, rfl⟩ := rx
  obtain ⟨t', rfl⟩ := ry
  have hl : sizeLine = 16777216 := sizeLine_eq
  exact tail_any (PySem.W.typeIs_bytes s2 z.toArray t) PySem.W.FB.slot_bytes_getitem.lookup (PySem.W.getItem_bytes (by omega) h0 h1 ⟨.int ((z.getD i.toNat 0).toNat : Nat), H2, I2.tok _, ⟨_, rfl⟩, q⟩) (hs _ _)

/-! ### scalar builtins, by CallR -/
theorem vals1 {x : V} {us : List Value} (r : Vals [x] us) : ∃ u, us = [u] ∧ RelV x u := by
  cases r with
  | cons r1 r2 => cases r2; exact ⟨_, rfl, r1⟩
theorem vals2 {x y : V} {us : List Value} (r : Vals [x, y] us) : ∃ u w', us = [u, w'] ∧ RelV x u ∧ RelV y w' := by
  cases r with
  | cons r1 r2 =>
    cases r2 with
    | cons r3 r4 => cases r4; exact ⟨_, _, rfl, r1, r3⟩
theorem call_abs : CallR X (.builtin "abs") (fun xs H Q => ∃ i, xs = [.int i] ∧ Q (.int (if i < 0 then -i else i)) H) := by
  intro pins s σ H xs us Q I r h
  obtain ⟨i, rfl, q⟩ := h
  obtain ⟨u, rfl, t, rfl⟩ := vals1 r
  exact call_abs_int fun u tk => ⟨.int (if i < 0 then -i else i), H, I.tok _, ⟨_, rfl⟩, q⟩
theorem call_max2 (hc : X.calm = true) : CallR X (.builtin "max") (fun xs H Q => ∃ i j, xs = [.int i, .int j] ∧ Q (.int (if j > i then j else i)) H) := by
  intro pins s σ H xs us Q I r h
  obtain ⟨i, j, rfl, q⟩ := h
  obtain ⟨u, w', rfl, ⟨t, rfl⟩, ⟨t', rfl⟩⟩ := vals2 r
  refine max_two_ints (I.ok.hd hc) fun h' tk k => ⟨_, H, I.kept k, ?_, q⟩
  by_cases hj : j > i
  · rw [if_pos hj, if_pos hj]; exact ⟨_, rfl⟩
  · rw [if_neg hj, if_neg hj]; exact ⟨_, rfl⟩
theorem call_min2 (hc : X.calm = true) : CallR X (.builtin "min") (fun xs H Q => ∃ i j, xs = [.int i, .int j] ∧ Q (.int (if j < i then j else i)) H) := by
  intro pins s σ H xs us Q I r h
  obtain ⟨i, j, rfl, q⟩ := h
  obtain ⟨u, w', rfl, ⟨t, rfl⟩, ⟨t', rfl⟩⟩ := vals2 r
  refine min_two_ints (I.ok.hd hc) fun h' tk k => ⟨_, H, I.kept k, ?_, q⟩
  by_cases hj : j < i
  · rw [if_pos hj, if_pos hj]; exact ⟨_, rfl⟩
  · rw [if_neg hj, if_neg hj]; exact ⟨_, rfl⟩
theorem call_int1 : CallR X (.type "int") (fun xs H Q => (∃ i, xs = [.int i] ∧ Q (.int i) H) ∨ ∃ k, xs = [.bl k] ∧ Q (.int (if k then 1 else 0)) H) := by
  intro pins s σ H xs us Q I r h
  rcases h with ⟨i, rfl, q⟩ | ⟨k, rfl, q⟩
  · obtain ⟨u, rfl, t, rfl⟩ := vals1 r
    exact call_int_int ⟨.int i, H, I, ⟨_, rfl⟩, q⟩
  · obtain ⟨u, rfl, r1⟩ := vals1 r
    cases r1
    exact call_int_bool ⟨.int (if k then 1 else 0), H, I.tok _, ⟨_, rfl⟩, q⟩
theorem call_bool1 : CallR X (.type "bool") (fun xs H Q => (∃ i, xs = [.int i] ∧ Q (.bl (i != 0)) H) ∨ ∃ k, xs = [.bl k] ∧ Q (.bl k) H) := by
  intro pins s σ H xs us Q I r h
  rcases h with ⟨i, rfl, q⟩ | ⟨k, rfl, q⟩
  · obtain ⟨u, rfl, t, rfl⟩ := vals1 r
    exact call_bool_int ⟨.bl (i != 0), H, I, rfl, q⟩
  · obtain ⟨u, rfl, r1⟩ := vals1 r
    cases r1
    exact call_bool_bool ⟨.bl k, H, I, rfl, q⟩
theorem call_str_int : CallR X (.type "str") (fun xs H Q => ∃ i, xs = [.int i] ∧ i.natAbs.log2 < 1920 ∧ Q (.str (toString i)) H) := by
  intro pins s σ H xs us Q I r h
  obtain ⟨i, rfl, hz, q⟩ := h
  obtain ⟨u, rfl, t, rfl⟩ := vals1 r
  exact PySem.P.str_of_int hz ⟨.str _, H, I.tok _, ⟨_, rfl⟩, q⟩
theorem call_ord : CallR X (.builtin "ord") (fun xs H Q => ∃ x, xs = [.str x] ∧ x.length = 1 ∧ Q (.int (x.cps.getD 0 0 : Nat)) H) := by
  intro pins s σ H xs us Q I r h
  obtain ⟨x, rfl, hz, q⟩ := h
  obtain ⟨u, rfl, t, rfl⟩ := vals1 r
  exact ord_of_one hz ⟨.int _, H, I.tok _, ⟨_, rfl⟩, q⟩
theorem call_chr : CallR X (.builtin "chr") (fun xs H Q => ∃ i, xs = [.int i] ∧ 0 ≤ i ∧ i ≤ 1114111 ∧ Q (.str ⟨#[i.toNat]⟩) H) := by
  intro pins s σ H xs us Q I r h
  obtain ⟨i, rfl, h0, h1, q⟩ := h
  obtain ⟨u, rfl, t, rfl⟩ := vals1 r
  exact chr_of_range h0 h1 ⟨.str _, H, I.tok _, ⟨_, rfl⟩, q⟩
/-- len of a str, a bytes, a list, a tuple -/
def LenV (K : PySem.W.Frag) (x : V) (H : Hp) (n : Nat) : Prop :=
  match x with
  | .str y => y.length ≤ sizeLine ∧ n = y.length
  | .byt y => y.size ≤ sizeLine ∧ n = y.size
  | .ref p => (∃ xs, SqL K H p xs ∧ n = xs.length) ∨ ∃ xs, SqT K H p xs ∧ n = xs.length
  | _ => False
theorem call_len : CallR X (.builtin "len") (fun xs H Q => ∃ x n, xs = [x] ∧ LenV X.K x H n ∧ Q (.int n) H) := by
  intro pins s σ H xs us Q I r h
  obtain ⟨x, n, rfl, e, q⟩ := h
  obtain ⟨u, rfl, rx⟩ := vals1 r
  have hl := line63
  have hs : sizeLine = 16777216 := sizeLine_eq
  cases x with
  | str y =>
    obtain ⟨t, rfl⟩ := rx
    obtain ⟨hy, e'⟩ : y.length ≤ sizeLine ∧ n = y.length := e
    subst e'
    exact len_str (by omega) ⟨.int _, H, I.tok _, ⟨_, rfl⟩, q⟩
  | byt y =>
    obtain ⟨t, rfl⟩ := rx
    obtain ⟨hy, e'⟩ : y.size ≤ sizeLine ∧ n = y.size := e
    subst e'
    exact PySem.W.len_bytes (by omega) ⟨.int _, H, I.tok _, ⟨_, rfl⟩, q⟩
  | ref p =>
    cases rx
    have e' : (∃ xs, SqL X.K H p xs ∧ n = xs.length) ∨ ∃ xs, SqT X.K H p xs ∧ n = xs.length := e
    rcases e' with ⟨xs, hx, e'⟩ | ⟨xs, hx, e'⟩
    · subst e'
      obtain ⟨its, r', pl, hz⟩ := I.list hx
      have hlen := r'.length
      exact Calls.call_len_list pl.isList (by simp only [List.size_toArray]; omega) ⟨.int xs.length, H, I.tok _, ⟨_, by simp only [List.size_toArray]; rw [hlen]⟩, q⟩
    · subst e'
      obtain ⟨its, r', pl, hz⟩ := I.tuple hx
      have hlen := r'.length
      exact len_tuple pl (by simp only [List.size_toArray]; omega) ⟨.int xs.length, H, I.tok _, ⟨_, by simp only [List.size_toArray]; rw [hlen]⟩, q⟩
  | _ => exact (show False from e).elim
/-- divmod: a new tuple -/
theorem call_divmod : CallR X (.builtin "divmod") (fun xs H Q => ∃ i j, xs = [.int i, .int j] ∧ CDiv i j ∧ ∀ p, H p = none → Q (.ref p) (upd H p (.tup [.int (i / j), .int (i % j)]))) := by
  intro pins s σ H xs us Q I r h
  obtain ⟨i, j, rfl, ⟨h1, h2⟩, q⟩ := h
  obtain ⟨u, w', rfl, ⟨t, rfl⟩, ⟨t', rfl⟩⟩ := vals2 r
  refine divmod_int (by omega) ?_ (.inl (PyProof.noPylong_small (by omega)))
  rw [Int.fdiv_eq_ediv_of_nonneg i (by omega), Int.fmod_eq_emod_of_nonneg i (by omega)]
  have hn : H s.heap.objs.size = none := I.hok.fresh (Nat.le_refl _)
  refine ⟨.ref s.heap.objs.size, _, ?_, rfl, q _ hn⟩
  refine I.laid (fun b o e => Heap.get?_push_of_some _ e) (Nat.le_refl _) ⟨by simp only [List.length_cons, List.length_nil]; rw [sizeLine_eq]; decide, [.int (i / j) s.toks, .int (i % j) (s.toks + 1)], .cons ⟨_, rfl⟩ (.cons ⟨_, rfl⟩ .nil), ?_⟩
  exact ⟨_, Heap.get?_push_size s.heap rfl, rfl, 0, rfl⟩
end
end L2

namespace L2
open PySem PySem.Spec PyProof.Rows

/-! ### an instance, its attributes a map -/
structure ObjM (h : Heap) (x dx C : Addr) (mA : Str → Option Value) : Prop where
  obj : h.get? x = some (PySem.W.instObj C dx)
  ns : h.Ns1 dx mA
  ne : dx ≠ x

theorem lookIn_ns {h : Heap} {dx : Addr} {mA : Str → Option Value} (n : h.Ns1 dx mA) : ∃ od, h.get? dx = some od ∧ ∀ name, PySem.W.lookIn name od = some (mA name) := by
  obtain ⟨o, es, ep, ho, hd, hk, _, hm⟩ := n
  refine ⟨o, ho, fun name => ?_⟩
  have e := hm name
  unfold nsFind findBy at e
  rw [← Array.find?_toList] at e
  unfold PySem.W.lookIn
  rw [hd]
  dsimp only
  split
  · rename_i y q
    rw [q] at e
    exact congrArg some e
  · rename_i q
    rw [q] at e
    have a : es.toList.any (·.refKey) = false := by
      rw [List.any_eq_false]
      intro y hy
      obtain ⟨z, t, hkey⟩ := hk y (Array.mem_toList_iff.mp hy)
      simp [DictEntry.refKey, hkey]
    have a' : ¬ es.toList.any (·.refKey) = true := by rw [a]; exact Bool.false_ne_true
    rw [if_neg a']
    exact congrArg some e

theorem ObjM.look {h : Heap} {x dx C : Addr} {mA : Str → Option Value} (I : ObjM h x dx C mA) : ∃ od, PySem.W.InstAt h x (PySem.W.instObj C dx) C (some od) ∧ ∀ name, PySem.W.lookIn name od = some (mA name) :=
  let ⟨od, ho, hl⟩ := lookIn_ns I.ns
  ⟨od, ⟨I.obj, rfl, rfl, ho⟩, hl⟩

section
variable {prog : Program} {w : World} {A : Around} {E : Value → Shared → Prop} {s : Shared} {K : PySem.W.Frag} {x dx C f : Addr} {mA : Str → Option Value} {name : Str} {v : Value}

theorem get_map {expr : Bool} {Q : Value → Shared → Prop} (X : K.In s.heap) (I : ObjM s.heap x dx C mA) (hg : PySem.W.plainGet K C name = true) (hh : PySem.W.hasDictIn K C = true)
    (ha : PySem.W.findIn K (.ref C) name = some none) (hv : mA name = some v) (hv' : PySem.W.handedIn v = true) (h : Q v { s with toks := s.toks + 1 }) :
    wpAny (model prog w) A (getAttr (.ref x) name expr) Q E s := by
  obtain ⟨od, J, hl⟩ := I.look
  exact PySem.W.get_value X J (PySem.W.plainGet_of hg).1 (PySem.W.findObj_own hh ha rfl (by rw [hl, hv])) hv' h

theorem get_const {expr : Bool} {a : Value} {Q : Value → Shared → Prop} (X : K.In s.heap) (I : ObjM s.heap x dx C mA) (hg : PySem.W.plainGet K C name = true) (hh : PySem.W.hasDictIn K C = true)
    (ha : PySem.W.findIn K (.ref C) name = some (some a)) (hn : PySem.W.specialIn K a "__get__" = some none) (hc : PySem.W.copiedNames.contains name = false) (hv : mA name = none) (hv' : PySem.W.handedIn a = true)
    (h : Q a { s with toks := s.toks + 1 }) : wpAny (model prog w) A (getAttr (.ref x) name expr) Q E s := by
  obtain ⟨od, J, hl⟩ := I.look
  exact PySem.W.get_value X J (PySem.W.plainGet_of hg).1 (PySem.W.findObj_cls hh ha hn hv' hc (by rw [hl, hv])) hv' h

theorem get_meth {pl : Sem Bool} {Q : Value × List Value → Shared → Prop} (X : K.In s.heap) (I : ObjM s.heap x dx C mA) (hg : PySem.W.plainGet K C name = true)
    (hf : PySem.W.findIn K (.ref C) name = some (some (.ref f))) (ht : PySem.W.isFn K (.ref f) = true) (hv : mA name = none) (h : Q (.ref f, [.ref x]) s) :
    wpAny (model prog w) A (getMethod (.ref x) name pl) Q E s := by
  obtain ⟨od, J, hl⟩ := I.look
  exact PySem.W.method_fn X J (PySem.W.plainGet_of hg).1 (PySem.W.plainGet_of hg).2 hf (beq_iff_eq.mp ht) (by show (PySem.W.lookIn name od).map (·.isSome) = some false; rw [hl, hv]; rfl) h

theorem set_map {ns : List Str} {Q : Unit → Shared → Prop} (X : K.In s.heap) (I : ObjM s.heap x dx C mA)
    (hs : PySem.W.findIn K (.ref C) "__setattr__" = some (some (.builtin "object.__setattr__"))) (hp : PySem.W.plainOver K C = true) (ht : PySem.W.takerIn K C name = some none) (hh : PySem.W.hasDictIn K C = true)
    (hw : PySem.Within mA ns) (hsz : ns.length ≤ sizeLine)
    (h : ∀ h', ObjM h' x dx C (fun y => if y = name then some v else mA y) → Heap.SameBut dx s.heap h' → Q () { s with heap := h', toks := s.toks + 2 }) :
    wpAny (model prog w) A (setAttr (.ref x) name v) Q E s := by
  obtain ⟨od, J, hl⟩ := I.look
  refine PySem.W.set_plain X J hs (PySem.W.osa_open (s := { s with toks := s.toks + 1 }) (r := none) X J hp ht fun b => ?_)
  obtain ⟨cd, hc, hd'⟩ := PySem.W.any_some hh
  have hx : s.heap.get? x = some ⟨.ref C, some dx, .plain, #[]⟩ := I.obj
  refine wpAny_bind (wpAny_pure (wpAny_bind (wpAny_bind (wpAny_loadPart hx (wpAny_bind (PySem.W.Looks.here (s := { s with toks := s.toks + 1 }) (PySem.W.looks_clsIn X hc) ?_))))))
  rw [hd']
  refine wpAny_pure (a := some dx) (wpAny_bind (wpAny_pure (wpAny_bind ?_)))
  refine wpAny_nsSet1 (s := { s with toks := s.toks + 1 }) I.ns fun h' hn2 hs2 => ?_
  obtain ⟨oD, esD, epD, hoD, hdD, hcD⟩ := hn2.count (PySem.Within.cons name v hw)
  refine wpAny_bind (wpAny_lookBehind hoD (by rw [hdD]; exact pastItsLine_dict (Nat.le_trans hcD (by rw [List.length_cons]; omega))) ?_)
  exact wpAny_pure (h _ ⟨(hs2.2 _ (Ne.symm I.ne)).trans I.obj, hn2, I.ne⟩ hs2)

/-- C(..): the dict at the heap's end, the instance behind it; then its __init__ -/
theorem make_map {R : Result → Shared → Prop} {vs : List Value} {kw : List (Str × Value)} (X : K.In s.heap) (hm : PySem.W.makesIn K C = true)
    (hi : PySem.W.findIn K (.ref C) "__init__" = some (some (.ref f))) (hf : PySem.W.typeIn K (.ref f) = some (.type "function"))
    (h : codeAny (model prog w) (A.under (.builtin "type.__call__" ⟨.ref C :: vs, kw⟩)) (.call (.ref f) ⟨.ref (s.heap.objs.size + 1) :: vs, kw⟩) (PySem.W.InitBack (s.heap.objs.size + 1) R)
      { s with heap := (s.heap.push PySem.W.emptyDict).push (PySem.W.instObj C s.heap.objs.size) }) :
    codeAny (model prog w) A (.call (.ref C) ⟨vs, kw⟩) R s := by
  obtain ⟨hh, g, d, t, os⟩ := s
  exact PySem.W.make_core (PySem.W.makes_of X hm) (PySem.W.looks_findIn X hi) (fun self => PySem.W.bind_fn X self hf) (.inl rfl) h
/-- C() where there is no __init__ but object's -/
theorem make_map0 {R : Result → Shared → Prop} (X : K.In s.heap) (hm : PySem.W.makesIn K C = true)
    (hi : PySem.W.findIn K (.ref C) "__init__" = some (some (.builtin "object.__init__")))
    (hb : ∀ self, PySem.W.Looks (model prog w) s.heap (bindSpecial (.builtin "object.__init__") self) (.builtin "object.__init__", [self]))
    (h : codeAny (model prog w) (A.under (.builtin "type.__call__" ⟨[.ref C], []⟩)) (.call (.builtin "object.__init__") ⟨[.ref (s.heap.objs.size + 1)], []⟩) (PySem.W.InitBack (s.heap.objs.size + 1) R)
      { s with heap := (s.heap.push PySem.W.emptyDict).push (PySem.W.instObj C s.heap.objs.size) }) :
    codeAny (model prog w) A (.call (.ref C) ⟨[], []⟩) R s := by
  obtain ⟨hh, g, d, t, os⟩ := s
  exact PySem.W.make_core (PySem.W.makes_of X hm) (PySem.W.looks_findIn X hi) hb (.inr ⟨rfl, rfl⟩) h
end

/-! ### the attributes as a list of pairs -/
def putF (f : Str) (v : V) : List (Str × V) → List (Str × V)
  | [] => [(f, v)]
  | (g, x) :: r => if g = f then (g, v) :: r else (g, x) :: putF f v r
theorem lookup_putF (f g : Str) (v : V) : ∀ fs : List (Str × V), (putF f v fs).lookup g = if g = f then some v else fs.lookup g
  | [] => by
    show List.lookup g [(f, v)] = _
    by_cases h : g = f
    · have hb : (g == f) = true := beq_iff_eq.mpr h
      simp only [List.lookup, hb, if_pos h]
    · have hb : (g == f) = false := beq_eq_false_iff_ne.mpr h
      simp only [List.lookup, hb, if_neg h]
  | (k, x) :: r => by
    have ih := lookup_putF f g v r
    rw [show putF f v ((k, x) :: r) = (if k = f then (k, v) :: r else (k, x) :: putF f v r) from rfl]
    by_cases hk : k = f
    · rw [if_pos hk]
      by_cases h : g = k
      · have hb : (g == k) = true := beq_iff_eq.mpr h
        simp only [List.lookup, hb, if_pos (h.trans hk)]
      · have hb : (g == k) = false := beq_eq_false_iff_ne.mpr h
        simp only [List.lookup, hb, if_neg (fun e : g = f => h (e.trans hk.symm))]
    · rw [if_neg hk]
      by_cases h : g = k
      · have hb : (g == k) = true := beq_iff_eq.mpr h
        simp only [List.lookup, hb, if_neg (fun e : g = f => hk (h.symm.trans e))]
      · have hb : (g == k) = false := beq_eq_false_iff_ne.mpr h
        simp only [List.lookup, hb]
        exact ih
theorem keys_putF (f : Str) (v : V) : ∀ fs : List (Str × V), f ∈ (putF f v fs).map (·.1) ∧ ∀ g, g ∈ fs.map (·.1) → g ∈ (putF f v fs).map (·.1)
  | [] => ⟨by simp [putF], fun g h => by simp at h⟩
  | (k, x) :: r => by
    obtain ⟨i1, i2⟩ := keys_putF f v r
    rw [show putF f v ((k, x) :: r) = (if k = f then (k, v) :: r else (k, x) :: putF f v r) from rfl]
    by_cases hk : k = f
    · rw [if_pos hk]
      subst hk
      exact ⟨by simp, fun g h => by simpa using h⟩
    · rw [if_neg hk]
      refine ⟨?_, fun g h => ?_⟩
      · rw [List.map_cons]
        exact List.mem_cons_of_mem _ i1
      · rw [List.map_cons] at h ⊢
        rcases List.mem_cons.mp h with e | e
        · exact List.mem_cons.mpr (.inl e)
        · exact List.mem_cons_of_mem _ (i2 g e)
theorem length_putF (f : Str) (v : V) : ∀ fs : List (Str × V), (putF f v fs).length ≤ fs.length + 1
  | [] => by simp [putF]
  | (k, x) :: r => by
    have ih := length_putF f v r
    rw [show putF f v ((k, x) :: r) = (if k = f then (k, v) :: r else (k, x) :: putF f v r) from rfl]
    by_cases hk : k = f
    · rw [if_pos hk, List.length_cons, List.length_cons]; omega
    · rw [if_neg hk, List.length_cons, List.length_cons]; omega

theorem RelO.some_of {v : V} {o : Option Value} (r : RelO (some v) o) : ∃ u, o = some u ∧ RelV v u := by
  cases o with
  | none => exact (show False from r).elim
  | some u => exact ⟨u, rfl, r⟩
theorem RelO.none_of {o : Option Value} (r : RelO none o) : o = none := by
  cases o with
  | none => rfl
  | some u => exact (show False from r).elim
theorem handed_of {v : V} {u : Value} (r : RelV v u) : PySem.W.handedIn u = true := by
  cases v with
  | non => cases (show u = Value.none from r); rfl
  | bl b => cases (show u = Value.bool b from r); rfl
  | int i => obtain ⟨t, e⟩ := (show ∃ t, u = Value.int i t from r); cases e; rfl
  | str x => obtain ⟨t, e⟩ := (show ∃ t, u = Value.str x t from r); cases e; rfl
  | byt b => obtain ⟨t, e⟩ := (show ∃ t, u = Value.bytes b t from r); cases e; rfl
  | flt b => obtain ⟨t, e⟩ := (show ∃ t, u = Value.float b t from r); cases e; rfl
  | ref a => cases (show u = Value.ref a from r); rfl
  | ty n => cases (show u = Value.type n from r); rfl

section
variable {P : Program} {w : World} {H H' : Hp} {h h' : Heap} {a C dx : Addr} {fs fs' : List (Str × V)}
theorem ins_get (hok : HOk P w H h) (e : H a = some (.ins C dx fs)) : ∃ mA, ObjM h a dx C mA ∧ (∀ f, RelO (fs.lookup f) (mA f)) ∧ PySem.Within mA (fs.map (·.1)) ∧ fs.length ≤ 1000 ∧ H dx = some (.own a) := by
  obtain ⟨d, z, ne, ob, mA, n, r, q⟩ := (show ObjOk P w H h a (.ins C dx fs) from hok a _ e)
  exact ⟨mA, ⟨ob, n, ne⟩, r, q, z, d⟩
end

/-! ### what of the text a class must have -/
structure Cls (K : PySem.W.Frag) (C : Addr) : Prop where
  pg : PySem.W.plainGet K C Str.empty = true
  hd : PySem.W.hasDictIn K C = true
  po : PySem.W.plainOver K C = true
  sa : PySem.W.findIn K (.ref C) "__setattr__" = some (some (.builtin "object.__setattr__"))
theorem Cls.get {K : PySem.W.Frag} {C : Addr} (c : Cls K C) (f : Str) : PySem.W.plainGet K C f = true := c.pg
/-- no class of it has the name -/
def NoAttr (K : PySem.W.Frag) (C : Addr) (f : Str) : Prop := PySem.W.findIn K (.ref C) f = some none
theorem NoAttr.taker {K : PySem.W.Frag} {C : Addr} {f : Str} (n : NoAttr K C f) : PySem.W.takerIn K C f = some none := by
  unfold PySem.W.takerIn
  rw [show PySem.W.findIn K (.ref C) f = some none from n]
  rfl
/-- a constant of the class -/
structure Con (K : PySem.W.Frag) (C : Addr) (f : Str) (v : V) (u : Value) : Prop where
  at_ : PySem.W.findIn K (.ref C) f = some (some u)
  rel : RelV v u
  get : PySem.W.specialIn K u "__get__" = some none
  cp : PySem.W.copiedNames.contains f = false
/-- a method: a plain def of the class or of one above it -/
structure Meth (K : PySem.W.Frag) (C : Addr) (m : Str) (f : Addr) : Prop where
  at_ : PySem.W.findIn K (.ref C) m = some (some (.ref f))
  fn : PySem.W.isFn K (.ref f) = true
  kp : PySem.W.keepIn K (.ref f) = true

section
variable {X : Cx} {pins : List (Addr × Obj)} {σ : St} {H : Hp} {s : Shared} {a C dx : Addr} {fs : List (Str × V)} {f : Str} {v : V} {A : Around} {E : Value → Shared → Prop}

theorem getattr_ok {b : Bool} {Q : Value → Shared → Prop} (I : Inv X pins σ H s) (e : H a = some (.ins C dx fs)) (c : Cls X.K C) (n : NoAttr X.K C f) (l : fs.lookup f = some v)
    (h : ∀ u s', Inv X pins σ H s' → RelV v u → Q u s') : wpAny (model X.prog X.w) A (getAttr (.ref a) f b) Q E s := by
  obtain ⟨mA, O, r, _, _, _⟩ := ins_get I.hok e
  obtain ⟨u, hu, ru⟩ := RelO.some_of (v := v) (o := mA f) (by rw [← l]; exact r f)
  exact get_map I.kIn O (c.get f) c.hd n hu (handed_of ru) (h u _ (I.tok _) ru)

theorem getcon_ok {b : Bool} {u : Value} {Q : Value → Shared → Prop} (I : Inv X pins σ H s) (e : H a = some (.ins C dx fs)) (c : Cls X.K C) (k : Con X.K C f v u) (l : fs.lookup f = none)
    (h : ∀ s', Inv X pins σ H s' → Q u s') : wpAny (model X.prog X.w) A (getAttr (.ref a) f b) Q E s := by
  obtain ⟨mA, O, r, _, _, _⟩ := ins_get I.hok e
  have hn : mA f = none := RelO.none_of (by rw [← l]; exact r f)
  exact get_const I.kIn O (c.get f) c.hd k.at_ k.get k.cp hn (handed_of k.rel) (h _ (I.tok _))

theorem getmeth_ok {m : Str} {g : Addr} {pl : Sem Bool} {Q : Value × List Value → Shared → Prop} (I : Inv X pins σ H s) (e : H a = some (.ins C dx fs)) (c : Cls X.K C) (k : Meth X.K C m g) (l : fs.lookup m = none)
    (h : Q (.ref g, [.ref a]) s) : wpAny (model X.prog X.w) A (getMethod (.ref a) m pl) Q E s := by
  obtain ⟨mA, O, r, _, _, _⟩ := ins_get I.hok e
  have hn : mA m = none := RelO.none_of (by rw [← l]; exact r m)
  exact get_meth I.kIn O (c.get m) k.at_ k.fn hn h

theorem setattr_ok {y : V} {u : Value} {Q : Unit → Shared → Prop} (I : Inv X pins σ H s) (e : H a = some (.ins C dx fs)) (c : Cls X.K C) (n : NoAttr X.K C f) (hl : fs.length < 1000) (ry : RelV y u)
    (h : ∀ s', Inv X pins σ (upd H a (.ins C dx (putF f y fs))) s' → Q () s') : wpAny (model X.prog X.w) A (setAttr (.ref a) f u) Q E s := by
  obtain ⟨mA, O, r, wi, _, ho⟩ := ins_get I.hok e
  have hz : (fs.map (·.1)).length ≤ sizeLine := by rw [List.length_map, sizeLine_eq]; omega
  refine set_map I.kIn O c.sa c.po n.taker c.hd wi hz fun h' O' sb => h _ ?_
  have hd : ∃ o, h'.get? dx = some o := let ⟨o, _, _, e', _⟩ := O'.ns; ⟨o, e'⟩
  refine I.write (x := a) (e := dx) (by rw [e]; exact True.intro) (.inr ho) (fun b q hb z => (sb.2 b hb).trans z) hd ?_
  refine ⟨by rw [upd_ne O.ne]; exact ho, ?_, O.ne, O'.obj, _, O'.ns, fun g => ?_, fun g hg => ?_⟩
  · have := length_putF f y fs; omega
  · show RelO ((putF f y fs).lookup g) (if g = f then some u else mA g)
    rw [lookup_putF]
    by_cases q : g = f
    · rw [if_pos q, if_pos q]; exact ry
    · rw [if_neg q, if_neg q]; exact r g
  · by_cases q : g = f
    · rw [q]; exact (keys_putF f y fs).1
    · refine (keys_putF f y fs).2 g (wi g fun z => hg ?_)
      show (if g = f then some u else mA g) = none
      rw [if_neg q]; exact z

/-- a new instance, tracked, without attributes -/
theorem Inv.made (I : Inv X pins σ H s) : Inv X pins σ (upd (upd H s.heap.objs.size (.own (s.heap.objs.size + 1))) (s.heap.objs.size + 1) (.ins C s.heap.objs.size []))
    { s with heap := (s.heap.push PySem.W.emptyDict).push (PySem.W.instObj C s.heap.objs.size) } := by
  have e1 : (s.heap.push PySem.W.emptyDict).get? s.heap.objs.size = some PySem.W.emptyDict := Heap.get?_push_size s.heap rfl
  have e2 : ((s.heap.push PySem.W.emptyDict).push (PySem.W.instObj C s.heap.objs.size)).get? (s.heap.objs.size + 1) = some (PySem.W.instObj C s.heap.objs.size) := by
    have := Heap.get?_push_size (s.heap.push PySem.W.emptyDict) (o := PySem.W.instObj C s.heap.objs.size) rfl
    rwa [Heap.size_push] at this
  have e3 : (s.heap.push PySem.W.emptyDict).Ns s.heap.objs.size (fun _ => none) := ⟨PySem.W.emptyDict, #[], _, e1, rfl, (fun e he => absurd he (by simp)), fun _ => rfl⟩
  have I1 := I.laid (a := s.heap.objs.size) (o := .own (s.heap.objs.size + 1)) (h' := s.heap.push PySem.W.emptyDict) (t' := s.toks) (fun b u q => Heap.get?_push_of_some _ q) (Nat.le_refl _) ⟨_, e1⟩
  refine I1.laid (a := s.heap.objs.size + 1) (o := .ins C s.heap.objs.size []) (t' := s.toks) (fun b u q => Heap.get?_push_of_some _ q) (Nat.le_of_eq (Heap.size_push _ _)) ?_
  have ne : s.heap.objs.size ≠ s.heap.objs.size + 1 := Nat.ne_of_lt (Nat.lt_succ_self _)
  refine ⟨by rw [upd_ne ne, upd_same], Nat.zero_le _, ne, e2, fun _ => none, (Heap.Ns1.of_empty e3).at fun o q => Heap.get?_push_of_some _ q, fun _ => True.intro, fun y hy => absurd rfl hy⟩

/-- e.f where nothing but the object is asked: through attributeBase (super) and the last hold -/
theorem attr_of {prog : Program} {w : World} {env : Env} {e : Expr} {f : Str} {pos : Pos} {s : Shared} {Q : Value → Shared → Prop} (hb : attributeBase e f env (eval e env) = eval e env)
    (h : wpAny (model prog w) A (eval e env) (fun o s₁ => wpAny (model prog w) A (getAttr o f true) Q E s₁) E s) : wpAny (model prog w) A (eval (.Attribute e f pos) env) Q E s :=
  Attribute_any_ h (by rw [arm_eval_Attribute, hb])
end

/-! ### readings and rules -/
/-- e.f, an attribute of the instance -/
def tFld (K : PySem.W.Frag) (ta : TE) (f : Str) : TE := fun σ H Q => ta σ H fun x H1 => ∃ a C dx fs v, x = .ref a ∧ H1 a = some (.ins C dx fs) ∧ Cls K C ∧ NoAttr K C f ∧ fs.lookup f = some v ∧ Q v H1
/-- e.f, a constant of the class -/
def tCon (K : PySem.W.Frag) (ta : TE) (f : Str) : TE := fun σ H Q => ta σ H fun x H1 => ∃ a C dx fs v u, x = .ref a ∧ H1 a = some (.ins C dx fs) ∧ Cls K C ∧ Con K C f v u ∧ fs.lookup f = none ∧ Q v H1
/-- e.f = value -/
def sFld (K : PySem.W.Frag) (ta tv : TE) (f : Str) : TS := fun D σ H => tv σ H fun y H1 => ta σ H1 fun x H2 => ∃ a C dx fs, x = .ref a ∧ H2 a = some (.ins C dx fs) ∧ Cls K C ∧ NoAttr K C f ∧ fs.length < 1000 ∧
  D.nx σ (upd H2 a (.ins C dx (putF f y fs)))
/-- an augmented operator on two values -/
def InOp (X : Cx) (op : Operator) (rd : V → V → Hp → VK → Prop) : Prop :=
  ∀ (pins : List (Addr × Obj)) (s : Shared) (σ : St) (H : Hp) (x y : V) (u v : Value) (Q : VK), Inv X pins σ H s → RelV x u → RelV y v → rd x y H Q → wpAny (model X.prog X.w) X.A (inplaceOp op u v) (EP X pins σ Q) X.xe s
/-- e.f op= value -/
def sFldAug (K : PySem.W.Frag) (ta tv : TE) (rd : V → V → Hp → VK → Prop) (f : Str) : TS := fun D σ H => ta σ H fun x H1 => ∃ a C dx fs v, x = .ref a ∧ H1 a = some (.ins C dx fs) ∧ Cls K C ∧ NoAttr K C f ∧ fs.lookup f = some v ∧
  tv σ H1 fun y H2 => rd v y H2 fun z H3 => ∃ dx' fs', H3 a = some (.ins C dx' fs') ∧ fs'.length < 1000 ∧ D.nx σ (upd H3 a (.ins C dx' (putF f z fs')))

section
variable {X : Cx} {o e value : Expr} {f : Str} {pos pos' tpos : Pos} {ta tv : TE}
theorem pe_fld (he : PE X e ta) (hb : attributeBase e f X.env (eval e X.env) = eval e X.env) : PE X (.Attribute e f pos) (tFld X.K ta f) := by
  intro pins s σ H Q I h
  refine attr_of hb (thn (he pins s σ H _ I h) fun u s1 ⟨x, H1, I1, rx, a, C, dx, fs, v, ex, ea, c, n, l, q⟩ => ?_)
  subst ex
  obtain rfl : u = Value.ref a := rx
  exact getattr_ok I1 ea c n l fun u' s2 I2 ru => ⟨v, H1, I2, ru, q⟩
theorem pe_con (he : PE X e ta) (hb : attributeBase e f X.env (eval e X.env) = eval e X.env) : PE X (.Attribute e f pos) (tCon X.K ta f) := by
  intro pins s σ H Q I h
  refine attr_of hb (thn (he pins s σ H _ I h) fun u s1 ⟨x, H1, I1, rx, a, C, dx, fs, v, u0, ex, ea, c, k, l, q⟩ => ?_)
  subst ex
  obtain rfl : u = Value.ref a := rx
  exact getcon_ok I1 ea c k l fun s2 I2 => ⟨v, H1, I2, k.rel, q⟩
theorem ps_fld (ha : PE X o ta) (hv : PE X value tv) (hs : swapsWith value (some (.Attribute o f pos')) pos.line X.env = pure false) : PS X (.Assign [.Attribute o f pos'] value pos) (sFld X.K ta tv f) := by
  intro pins s σ H D I h
  refine plainObj_wpAny_Assign_Attribute (thn (hv pins s σ H _ I h) fun u s1 ⟨y, H1, I1, ry, q⟩ => thn (ha pins s1 σ H1 _ I1 q) fun ov s2 ⟨x, H2, I2, rx, a, C, dx, fs, ex, ea, c, n, l, q2⟩ => ?_) hs
  subst ex
  obtain rfl : ov = Value.ref a := rx
  exact setattr_ok I2 ea c n l ry fun s3 I3 => ⟨σ, _, I3, q2⟩
theorem ps_fldaug {op : Operator} {rd : V → V → Hp → VK → Prop} (ha : PE X o ta) (hv : PE X value tv) (hop : InOp X op rd) : PS X (.AugAssign (.Attribute o f tpos) op value pos) (sFldAug X.K ta tv rd f) := by
  intro pins s σ H D I h
  refine wpAny_AugAssign_AttributeAny (thn (ha pins s σ H _ I h) fun ov s1 ⟨x, H1, I1, rx, a, C, dx, fs, v, ex, ea, c, n, l, q⟩ => ?_)
  subst ex
  obtain rfl : ov = Value.ref a := rx
  refine getattr_ok I1 ea c n l fun u s2 I2 ru => thn (hv pins s2 σ H1 _ I2 q) fun w3 s3 ⟨y, H2, I3, ry, q3⟩ => thn (hop pins s3 σ H2 v y u w3 _ I3 ru ry q3) fun w4 s4 ⟨z, H3, I4, rz, dx', fs', ea', l', q4⟩ => ?_
  exact setattr_ok I4 ea' c n l' rz fun s5 I5 => ⟨σ, _, I5, q4⟩
def rAdd : V → V → Hp → VK → Prop := fun x y H Q => ∃ i j, x = .int i ∧ y = .int j ∧ Q (.int (i + j)) H
def rSub : V → V → Hp → VK → Prop := fun x y H Q => ∃ i j, x = .int i ∧ y = .int j ∧ Q (.int (i - j)) H
theorem in_add : InOp X .Add rAdd := by
  rintro pins s σ H x y u v Q I rx ry ⟨i, j, rfl, rfl, q⟩
  obtain ⟨t, rfl⟩ := (show ∃ t, u = Value.int i t from rx)
  obtain ⟨t', rfl⟩ := (show ∃ t', v = Value.int j t' from ry)
  exact PyProof.Rows.iadd_int ⟨.int (i + j), H, I.tok _, ⟨_, rfl⟩, q⟩
theorem in_sub : InOp X .Sub rSub := by
  rintro pins s σ H x y u v Q I rx ry ⟨i, j, rfl, rfl, q⟩
  obtain ⟨t, rfl⟩ := (show ∃ t, u = Value.int i t from rx)
  obtain ⟨t', rfl⟩ := (show ∃ t', v = Value.int j t' from ry)
  exact PyProof.Rows.isub_int ⟨.int (i - j), H, I.tok _, ⟨_, rfl⟩, q⟩

/-- what is between an instance and its method: the tree of a method call -/
theorem methcall_of {pl : Sem Bool} {m : Str} {apos : Pos} {args : List Expr} {pins : List (Addr × Obj)} {s : Shared} {σ : St} {H : Hp} {Q : Value → Shared → Prop} {te : TE} (he : PE X e te) (I : Inv X pins σ H s)
    (h : te σ H fun x H1 => ∃ a C dx fs g, x = .ref a ∧ H1 a = some (.ins C dx fs) ∧ Cls X.K C ∧ Meth X.K C m g ∧ fs.lookup m = none ∧
      ∀ s1, Inv X pins σ H1 s1 → wpAny (model X.prog X.w) X.A (callWith pos (.ref g) [.ref a] (backTo pos (starEach args X.env)) (backToKw pos (keywordEach [] X.env))) Q X.xe s1)
    (ht : eval (.Call (.Attribute e m apos) args [] pos) X.env = (do
      let ov ← eval e X.env
      standAt apos.atName
      let (f, first) ← holding [ov] (getMethod ov m pl)
      callWith pos f first (backTo pos (starEach args X.env)) (backToKw pos (keywordEach [] X.env)))) :
    wpAny (model X.prog X.w) X.A (eval (.Call (.Attribute e m apos) args [] pos) X.env) Q X.xe s := by
  refine PySem.W.methodCall_KW (pl := pl) (thn (he pins s σ H _ I h) fun u s1 ⟨x, H1, I1, rx, a, C, dx, fs, g, ex, ea, c, k, l, q⟩ => ?_) ht
  subst ex
  obtain rfl : u = Value.ref a := rx
  exact getmeth_ok I1 ea c k l (q s1 I1)
end

/-! ### isinstance -/
section
variable {X : Cx} {pins : List (Addr × Obj)} {σ : St} {H : Hp} {s : Shared} {A : Around} {E : Value → Shared → Prop} {Q : Value → Shared → Prop} {c : Value} {b : Bool}
/-- the type of a value, as the fragment's deciders take it; for an instance its class -/
inductive TyOf (K : PySem.W.Frag) (H : Hp) : V → Value → Prop where
  | non : TyOf K H .non (.type "NoneType")
  | bl (x : Bool) : TyOf K H (.bl x) (.type "bool")
  | int (i : Int) : TyOf K H (.int i) (.type "int")
  | str (x : Str) : TyOf K H (.str x) (.type "str")
  | flt (x : UInt64) : TyOf K H (.flt x) (.type "float")
  | lst {a : Addr} {xs : List V} (e : H a = some (.lst xs)) : TyOf K H (.ref a) (.type "list")
  | frz {a : Addr} {o : Obj} {xs : List V} (e : H a = some (.frz o (.lst xs))) : TyOf K H (.ref a) (.type "list")
  | tup {a : Addr} {xs : List V} (e : H a = some (.tup xs)) : TyOf K H (.ref a) (.type "tuple")
  | dK {a : Addr} {kvs : List (Key × V)} (e : H a = some (.dK kvs)) : TyOf K H (.ref a) (.type "dict")
  | dT {a : Addr} {kvs : List (List Key × V)} (e : H a = some (.dT kvs)) : TyOf K H (.ref a) (.type "dict")
  | ins {a C dx : Addr} {fs : List (Str × V)} (e : H a = some (.ins C dx fs)) (cl : Cls K C) (ha : PySem.W.findIn K (.ref C) "__class__" = some (some (.builtin "object.__class__")))
      (hn : PySem.W.specialIn K (.builtin "object.__class__") "__get__" = some (some (.builtin "getset_descriptor.__get__"))) (htk : PySem.W.takesIn K (.builtin "object.__class__") = some true)
      (hm : PySem.W.mroIn K C (.type "object") = some true) : TyOf K H (.ref a) (.ref C)
/-- isinstance(x, c) for one class c, a built-in or an own one: kitOne's answer -/
theorem isinst_ok {x : V} {u t : Value} (I : Inv X pins σ H s) (rx : RelV x u) (ty : TyOf X.K H x t) (e : PySem.W.kitOne X.K t c = some b) (h : ∀ tk, Q (.bool b) { s with toks := tk }) :
    wpAny (model X.prog X.w) A (call (.builtin "isinstance") [u, c]) Q E s := by
  cases ty with
  | non => cases (show u = Value.none from rx); exact PySem.W.kia_one PySem.W.kitx_none I.kIn True.intro e (fun z => nomatch z) h
  | bl y => cases (show u = Value.bool y from rx); exact PySem.W.kia_one PySem.W.kitx_bool I.kIn True.intro e (fun z => nomatch z) h
  | int i => obtain ⟨t, q⟩ := (show ∃ t, u = Value.int i t from rx); cases q; exact PySem.W.kia_one PySem.W.kitx_int I.kIn True.intro e (fun z => nomatch z) h
  | str y => obtain ⟨t, q⟩ := (show ∃ t, u = Value.str y t from rx); cases q; exact PySem.W.kia_one PySem.W.kitx_str I.kIn True.intro e (fun z => nomatch z) h
  | flt y => obtain ⟨t, q⟩ := (show ∃ t, u = Value.float y t from rx); cases q; exact PySem.W.kia_one PySem.W.kitx_float I.kIn True.intro e (fun z => nomatch z) h
  | @lst a xs ea =>
    cases (show u = Value.ref a from rx)
    obtain ⟨_, _, n, _, h1⟩ := (show ObjOk X.prog X.w H s.heap a (.lst xs) from I.hok a _ ea)
    exact PySem.W.kia_one PySem.W.kitx_list I.kIn ⟨_, h1, rfl⟩ e (fun z => nomatch z) h
  | @frz a ob xs ea =>
    cases (show u = Value.ref a from rx)
    obtain ⟨_, _, _, n, _, h1⟩ := (show ObjOk X.prog X.w H s.heap a (.frz ob (.lst xs)) from I.hok a _ ea)
    exact PySem.W.kia_one PySem.W.kitx_list I.kIn ⟨_, h1, rfl⟩ e (fun z => nomatch z) h
  | @tup a xs ea =>
    cases (show u = Value.ref a from rx)
    obtain ⟨_, _, _, p⟩ := (show ObjOk X.prog X.w H s.heap a (.tup xs) from I.hok a _ ea)
    obtain ⟨o, h1, h2, _⟩ := p
    exact PySem.W.kia_one PySem.W.kitx_tuple I.kIn ⟨o, h1, h2⟩ e (fun z => nomatch z) h
  | @dK a kvs ea =>
    cases (show u = Value.ref a from rx)
    obtain ⟨_, _, vs, _, p⟩ := (show ObjOk X.prog X.w H s.heap a (.dK kvs) from I.hok a _ ea)
    obtain ⟨o, es, ep, h1, h2, _⟩ := p
    exact PySem.W.kia_one PySem.W.kitx_dict I.kIn ⟨o, h1, h2.1⟩ e (fun z => nomatch z) h
  | @dT a kvs ea =>
    cases (show u = Value.ref a from rx)
    obtain ⟨_, _, xs, _, o, es, ep, h1, h2, _⟩ := (show ObjOk X.prog X.w H s.heap a (.dT kvs) from I.hok a _ ea)
    exact PySem.W.kia_one PySem.W.kitx_dict I.kIn ⟨o, h1, h2.1⟩ e (fun z => nomatch z) h
  | @ins a C dx fs ea cl ha hn htk hm =>
    cases (show u = Value.ref a from rx)
    obtain ⟨mA, O, _⟩ := ins_get I.hok ea
    obtain ⟨od, J, _⟩ := O.look
    exact PySem.W.kia_one (PySem.W.kitx_own (cl.get _) cl.hd ha hn htk hm) I.kIn J e (fun z => nomatch z) h
end
end L2

namespace L2
open PySem PySem.Spec PyProof.Rows

/-! ### room -/
structure Room (k : Nat) (A : Around) : Prop where
  hd : A.handled = none
  dp : A.depth + 3 * k + 5 < recursionLimit
  un : A.units + 16 * k + 200 < cLine
theorem Room.mono {j k : Nat} {A : Around} (r : Room k A) (h : j ≤ k) : Room j A := ⟨r.hd, by have := r.dp; omega, by have := r.un; omega⟩
theorem Room.deeper {k : Nat} {A : Around} (r : Room (k + 1) A) (env : Env) : Room k (A.deeper env) :=
  ⟨r.hd, by have := r.dp; show A.depth + 1 + 3 * k + 5 < _; omega, by have := r.un; show A.units + 3 + 16 * k + 200 < _; omega⟩
theorem Room.in1 {k : Nat} {A : Around} (r : Room (k + 1) A) : Room k A.in1 :=
  ⟨r.hd, by have := r.dp; show A.depth + 3 * k + 5 < _; omega, by have := r.un; show A.units + 1 + 16 * k + 200 < _; omega⟩
theorem make_depth {A : Around} {C : Addr} {us : List Value} {kw : List (Str × Value)} : (A.under (.builtin "type.__call__" ⟨.ref C :: us, kw⟩)).depth = A.depth + 1 := by
  first | rfl | simp [Around.under, Code.weight, Code.isCreation, Code.isGuard, Code.isCaller, Code.frames, Code.isFrame, guardIds]
theorem make_units {A : Around} {C : Addr} {us : List Value} {kw : List (Str × Value)} : (A.under (.builtin "type.__call__" ⟨.ref C :: us, kw⟩)).units = A.units + 1 := by
  first | rfl | simp [Around.under, Code.cUnits, Code.frames, Code.isFrame]
theorem Room.make {k : Nat} {A : Around} (r : Room (k + 1) A) (C : Addr) (us : List Value) (kw : List (Str × Value)) : Room k (A.under (.builtin "type.__call__" ⟨.ref C :: us, kw⟩)) :=
  ⟨r.hd, by have := r.dp; rw [make_depth]; omega, by have := r.un; rw [make_units]; omega⟩
theorem Room.depth {k : Nat} {A : Around} (r : Room k A) : A.depth < recursionLimit := by have := r.dp; omega
theorem Room.units {k : Nat} {A : Around} (r : Room k A) : A.units + 64 < cLine := by have := r.un; omega
theorem Room.units0 {k : Nat} {A : Around} (r : Room k A) : A.units < cLine := by have := r.un; omega

/-! ### argument lists and displays -/
def tNil : TA := fun _ H Q => Q [] H
def tCons (ta : TE) (tr : TA) : TA := fun σ H Q => ta σ H fun x H1 => tr σ H1 fun xs H2 => Q (x :: xs) H2
section
variable {X : Cx} {e : Expr} {es : List Expr} {te : TE} {t : TA} {pos : Pos}
theorem pa_nil : PA X [] tNil := fun _ _ _ _ H Q I h => Calls.spliced_nil ⟨[], H, I, .nil, h⟩
theorem pa_cons (ha : PE X e te) (hr : PA X es t) (hs : starEach (e :: es) X.env = (false, eval e X.env) :: starEach es X.env := by rfl) : PA X (e :: es) (tCons te t) := by
  intro pos pins s σ H Q I h
  rw [hs]
  show wpAny _ _ (spliced ((false, eval e X.env) :: backTo pos (starEach es X.env))) _ _ s
  refine Calls.spliced_cons (thn (ha pins s σ H _ I h) fun u s1 ⟨x, H1, I1, r1, q1⟩ => ?_)
  exact thn (hr pos pins s1 σ H1 _ I1 q1) fun us s2 ⟨xs, H2, I2, r2, q2⟩ => ⟨x :: xs, H2, I2, .cons r1 r2, q2⟩

/-- a tuple, a list of written items -/
def tTup (t : TA) : TE := fun σ H Q => t σ H fun xs H1 => xs.length ≤ sizeLine ∧ ∀ p, H1 p = none → Q (.ref p) (upd H1 p (.tup xs))
def tLst (t : TA) : TE := fun σ H Q => t σ H fun xs H1 => xs.length ≤ sizeLine ∧ ∀ p, H1 p = none → Q (.ref p) (upd H1 p (.lst xs))
theorem pe_tup {x1} (h : PA X es t) : PE X (.Tuple es x1 pos) (tTup t) := by
  intro pins s σ H Q I hq
  refine wpAny_Tuple_spliced (thn (h pos pins s σ H _ I hq) fun us s1 ⟨xs, H1, I1, r, z, q⟩ => ⟨by rw [← r.length]; exact z, ?_⟩)
  have hf : H1 s1.heap.objs.size = none := I1.hok.fresh (Nat.le_refl _)
  refine ⟨.ref s1.heap.objs.size, upd H1 s1.heap.objs.size (.tup xs), I1.laid (t' := s1.toks) (fun b u e => Heap.get?_push_of_some _ e) (Nat.le_refl _) ?_, rfl, q _ hf⟩
  exact ⟨z, us, r, ⟨_, Heap.get?_push_size _ rfl, rfl, _, rfl⟩⟩
theorem pe_lst (h : PA X es t) : PE X (.List es pos) (tLst t) := by
  intro pins s σ H Q I hq
  refine wpAny_List_spliced (thn (h pos pins s σ H _ I hq) fun us s1 ⟨xs, H1, I1, r, z, q⟩ => ⟨by rw [← r.length]; exact z, ?_⟩)
  have hf : H1 s1.heap.objs.size = none := I1.hok.fresh (Nat.le_refl _)
  refine ⟨.ref s1.heap.objs.size, upd H1 s1.heap.objs.size (.lst xs), I1.laid (t' := s1.toks) (fun b u e => Heap.get?_push_of_some _ e) (Nat.le_refl _) ?_, rfl, q _ hf⟩
  exact ⟨z, us, 0, r, Heap.get?_push_size _ rfl⟩
end

/-! ### what a def promises -/
/-- a def's promise: the bound arguments in the parameters' order, the heap, the wanted end, the wanted exception -/
abbrev Sp := List V → Hp → VK → XK → Prop
/-- how an exception lies behind a call (file 08 gives it): the callers' frames, abstract heap and state ahead of the call, the wish, the exception, the state -/
abbrev CXT := List Env → Hp → Shared → XK → Value → Shared → Prop

/-- the state at a call -/
structure Env0 (P : Program) (w : World) (K : PySem.W.Frag) (mg : Str → Option Value) (base : Heap) (A : Around) (outer : List Env) (s : Shared) (H : Hp) : Prop where
  frames : A.frames = some outer
  mod : Mod K mg base
  bs : ∀ b o, base.get? b = some o → s.heap.get? b = some o ∧ H b = none
  bsz : base.objs.size ≤ s.heap.objs.size
  funs : s.heap.FunFrames base outer
  frf : ∀ b ∈ frs outer, H b = none
  hok : HOk P w H s.heap
  bare : AllBare s.gens
/-- a call's end -/
def CE (outer : List Env) (P : Program) (w : World) (H : Hp) (s : Shared) (Q : VK) (u : Value) (s' : Shared) : Prop :=
  ∃ v H', s'.os = s.os ∧ AllBare s'.gens ∧ Un (frs outer) [] H H' s.heap s'.heap ∧ HOk P w H' s'.heap ∧ RelV v u ∧ Q v H'
def CR (CX : CXT) (outer : List Env) (P : Program) (w : World) (H : Hp) (s : Shared) (Q : VK) (E : XK) (r : Result) (s' : Shared) : Prop :=
  match r with
  | .ok (.ret u) => CE outer P w H s Q u s'
  | .ok _ => False
  | .error e => CX outer H s E e s'
structure FnOk (P : Program) (w : World) (K : PySem.W.Frag) (mg : Str → Option Value) (base : Heap) (CX : CXT) (k : Nat) (f : Addr) (fd : FuncData) (ps : List Str) (sp : Sp) : Prop where
  len : ∀ vs H Q E, sp vs H Q E → vs.length = ps.length
  run : ∀ (A : Around) (outer : List Env) (s : Shared) (H : Hp) (args : Args) (us : List Value) (vs : List V) (Q : VK) (E : XK), Room k A → Env0 P w K mg base A outer s H → BindsTo s fd args (ps.zip us) → Vals vs us → sp vs H Q E →
    codeAny (model P w) A (.call (.ref f) args) (CR CX outer P w H s Q E) s
theorem FnOk.mono {P : Program} {w : World} {K : PySem.W.Frag} {mg : Str → Option Value} {base : Heap} {CX : CXT} {j k : Nat} {f : Addr} {fd : FuncData} {ps : List Str} {sp : Sp} (F : FnOk P w K mg base CX j f fd ps sp) (h : j ≤ k) :
    FnOk P w K mg base CX k f fd ps sp := ⟨F.len, fun A outer s H args us vs Q E hr => F.run A outer s H args us vs Q E (hr.mono h)⟩
/-- a weaker promise -/
theorem FnOk.imp {P : Program} {w : World} {K : PySem.W.Frag} {mg : Str → Option Value} {base : Heap} {CX : CXT} {k : Nat} {f : Addr} {fd : FuncData} {ps : List Str} {sp sp' : Sp} (F : FnOk P w K mg base CX k f fd ps sp)
    (h : ∀ vs H Q E, sp' vs H Q E → sp vs H Q E) : FnOk P w K mg base CX k f fd ps sp' :=
  ⟨fun vs H Q E q => F.len vs H Q E (h _ _ _ _ q), fun A outer s H args us vs Q E hr he hb hv hs => F.run A outer s H args us vs Q E hr he hb hv (h _ _ _ _ hs)⟩

theorem Env0.make {P : Program} {w : World} {K : PySem.W.Frag} {mg : Str → Option Value} {base : Heap} {A : Around} {outer : List Env} {s : Shared} {H : Hp} (e : Env0 P w K mg base A outer s H) (C : Addr) (us : List Value) (kw : List (Str × Value)) :
    Env0 P w K mg base (A.under (.builtin "type.__call__" ⟨.ref C :: us, kw⟩)) outer s H := ⟨by first | exact e.frames | (simpa [Around.under, Code.envs, Code.isFrame, pushEnvs] using e.frames), e.mod, e.bs, e.bsz, e.funs, e.frf, e.hok, e.bare⟩
theorem Env0.in1 {P : Program} {w : World} {K : PySem.W.Frag} {mg : Str → Option Value} {base : Heap} {A : Around} {outer : List Env} {s : Shared} {H : Hp} (e : Env0 P w K mg base A outer s H) :
    Env0 P w K mg base A.in1 outer s H := ⟨e.frames, e.mod, e.bs, e.bsz, e.funs, e.frf, e.hok, e.bare⟩

section
variable {X : Cx} {pins : List (Addr × Obj)} {σ : St} {H : Hp} {s s' : Shared}
/-- from a body: what a callee wants -/
theorem Inv.env0 (I : Inv X pins σ H s) : Env0 X.prog X.w X.K X.mg X.base X.A X.stack s H :=
  ⟨I.ok.frames, I.ok.mod, I.bs, Nat.le_trans I.ok.bsz I.sz, I.stack, I.stkFree, I.hok, I.bare⟩
/-- behind a call -/
theorem Inv.after {Q : VK} {u : Value} (I : Inv X pins σ H s) (h : CE X.stack X.prog X.w H s Q u s') : EP X pins σ Q u s' := by
  obtain ⟨v, H', os, bare, un, hok, r, q⟩ := h
  obtain ⟨hh, g, d, t, os'⟩ := s'
  obtain rfl : os' = s.os := os
  exact ⟨v, H', I.call (h' := hh) (g' := g) (d' := d) (t' := t) (ch := []) un hok bare (fun b z => absurd z (by simp)), r, q⟩
end

/-! ### calls -/
/-- f(..): the written arguments, then the defaults dvs; E: what is wanted of an exception -/
def tCall (sp : Sp) (dvs : List V) (E : XK) (t : TA) : TE := fun σ H Q => t σ H fun vs H1 => sp (vs ++ dvs) H1 Q E
/-- o.m(..) of an instance of the class at C -/
def tMeth (C : Addr) (m : Str) (sp : Sp) (dvs : List V) (E : XK) (ta : TE) (t : TA) : TE := fun σ H Q => ta σ H fun x H1 => ∃ a dx fs, x = .ref a ∧ H1 a = some (.ins C dx fs) ∧ fs.lookup m = none ∧
  t σ H1 fun vs H2 => sp (x :: (vs ++ dvs)) H2 Q E
/-- C(..): a new instance and its dict, then __init__ -/
def tMake (C : Addr) (sp : Sp) (dvs : List V) (E : XK) (t : TA) : TE := fun σ H Q => t σ H fun vs H1 => ∀ x dx, H1 x = none → H1 dx = none → dx ≠ x →
  sp (.ref x :: (vs ++ dvs)) (upd (upd H1 dx (.own x)) x (.ins C dx [])) (fun v H2 => v = .non ∧ Q (.ref x) H2) E

/-- how the parameters are bound: us the positional arguments, kw the keywords' values by name, ds the defaults that fill up -/
def Binds (K : PySem.W.Frag) (fd : FuncData) (ps : List Str) (ds : List Value) : Prop :=
  ∀ (s : Shared) (us : List Value), K.In s.heap → (us ++ ds).length = ps.length → BindsTo s fd ⟨us, []⟩ (ps.zip (us ++ ds))
/-- every parameter is given -/
theorem Binds.all {K : PySem.W.Frag} {fd : FuncData} {ps : List Str} (h : ∀ us : List Value, us.length = ps.length → bindArgs fd ⟨us, []⟩ = pure (ps.zip us)) : Binds K fd ps [] := fun s us _ hl => by
  rw [List.append_nil] at hl ⊢
  exact .of_eq (h us hl)

/-- an exception of a callee reaches what this body wants of exceptions -/
def Passes (CX : CXT) (X : Cx) (E : XK) : Prop := ∀ (pins : List (Addr × Obj)) (σ : St) (H : Hp) (s : Shared) (e : Value) (s' : Shared), Inv X pins σ H s → CX X.stack H s E e s' → X.xe e s'

section
variable {X : Cx} {CX : CXT} {k : Nat} {f C : Addr} {fd : FuncData} {ps : List Str} {sp : Sp} {dvs : List V} {ds : List Value} {E : XK} {x m : Str} {p pos apos : Pos} {e o : Expr} {es : List Expr} {ta : TE} {t : TA}

/-- the callee runs -/
theorem run_fn {pins : List (Addr × Obj)} {σ : St} {H : Hp} {s : Shared} {Q : VK} {us : List Value} {vs : List V} (F : FnOk X.prog X.w X.K X.mg X.base CX k f fd ps sp) (hr : Room k X.A) (hb : Binds X.K fd ps ds) (hd : Vals dvs ds) (hx : Passes CX X E)
    (I : Inv X pins σ H s) (r : Vals vs us) (h : sp (vs ++ dvs) H Q E) : wpAny (model X.prog X.w) X.A (call (.ref f) us) (EP X pins σ Q) X.xe s := by
  have r2 : Vals (vs ++ dvs) (us ++ ds) := r.append hd
  have hl : (us ++ ds).length = ps.length := by rw [← r2.length]; exact F.len _ _ _ _ h
  refine wpAny_call (codeAny_mono (F.run X.A X.stack s H ⟨us, []⟩ (us ++ ds) (vs ++ dvs) Q E hr I.env0 (hb s us I.kIn hl) r2 h) fun r s' hq => ?_)
  cases r with
  | error e => exact hx pins σ H s e s' I hq
  | ok fl =>
    cases fl with
    | ret u => exact I.after hq
    | next => exact False.elim hq
    | brk => exact False.elim hq
    | cont => exact False.elim hq

theorem pe_call (F : FnOk X.prog X.w X.K X.mg X.base CX k f fd ps sp) (hr : Room k X.A) (hg : Gl X x) (hm : X.mg x = some (.ref f)) (hk : PySem.W.keepIn X.K (.ref f) = true) (hb : Binds X.K fd ps ds) (hd : Vals dvs ds) (hx : Passes CX X E)
    (ha : PA X (e :: es) t) (hdb : (x == ("__debug__" : Str)) = false := by decide) (he : starEach (e :: es) X.env = (false, eval e X.env) :: starEach es X.env := by rfl) (hpl : (backTo pos (starEach es X.env)).any (·.1) = false := by rfl) :
    PE X (.Call (.Name x p) (e :: es) [] pos) (tCall sp dvs E t) := by
  intro pins s σ H Q I h
  refine wpAny_Call_Name_kw (ld_glob I hg hm ?_ hdb)
  refine PySem.W.callWith_K (h₀ := X.base) I.ok.mod.kin hk (thn (ha pos pins s σ H _ I h) fun us s1 ⟨vs, H1, I1, r, q⟩ => ⟨I1.kIn, ?_⟩) he hpl
  exact run_fn F hr hb hd hx I1 r q
theorem pe_call0 (F : FnOk X.prog X.w X.K X.mg X.base CX k f fd ps sp) (hr : Room k X.A) (hg : Gl X x) (hm : X.mg x = some (.ref f)) (hk : PySem.W.keepIn X.K (.ref f) = true) (hb : Binds X.K fd ps ds) (hd : Vals dvs ds) (hx : Passes CX X E)
    (hdb : (x == ("__debug__" : Str)) = false := by decide) : PE X (.Call (.Name x p) [] [] pos) (tCall sp dvs E tNil) := by
  intro pins s σ H Q I h
  refine wpAny_Call_Name_kw (ld_glob I hg hm ?_ hdb)
  exact PySem.W.callWith_K0 I.kIn hk (run_fn (us := []) F hr hb hd hx I .nil h)

/-- o.m(e, ..) -/
theorem pe_meth {pl : Sem Bool} (he : PE X o ta) (c : Cls X.K C) (hm : Meth X.K C m f) (F : FnOk X.prog X.w X.K X.mg X.base CX k f fd ps sp) (hr : Room k X.A) (hb : Binds X.K fd ps ds) (hd : Vals dvs ds) (hx : Passes CX X E) (ha : PA X (e :: es) t)
    (hst : starEach (e :: es) X.env = (false, eval e X.env) :: starEach es X.env := by rfl) (hpl : (backTo pos (starEach es X.env)).any (·.1) = false := by rfl)
    (ht : eval (.Call (.Attribute o m apos) (e :: es) [] pos) X.env = (do
      let ov ← eval o X.env
      standAt apos.atName
      let (f, first) ← holding [ov] (getMethod ov m pl)
      callWith pos f first (backTo pos (starEach (e :: es) X.env)) (backToKw pos (keywordEach [] X.env))) := by rfl) :
    PE X (.Call (.Attribute o m apos) (e :: es) [] pos) (tMeth C m sp dvs E ta t) := by
  intro pins s σ H Q I h
  refine PySem.W.methodCall_KW (pl := pl) (thn (he pins s σ H _ I h) fun u s1 ⟨x, H1, I1, rx, a, dx, fs, ex, ea, l, q⟩ => ?_) ht
  subst ex
  obtain rfl : u = Value.ref a := rx
  refine getmeth_ok I1 ea c hm l ?_
  refine PySem.W.callWith_K (first := [.ref a]) (h₀ := X.base) I.ok.mod.kin hm.kp (thn (ha pos pins s1 σ H1 _ I1 q) fun us s2 ⟨vs, H2, I2, r, q2⟩ => ⟨I2.kIn, ?_⟩) hst hpl
  exact run_fn (us := .ref a :: us) (vs := .ref a :: vs) F hr hb hd hx I2 (.cons rfl r) q2
/-- o.m() -/
theorem pe_meth0 {pl : Sem Bool} (he : PE X o ta) (c : Cls X.K C) (hm : Meth X.K C m f) (F : FnOk X.prog X.w X.K X.mg X.base CX k f fd ps sp) (hr : Room k X.A) (hb : Binds X.K fd ps ds) (hd : Vals dvs ds) (hx : Passes CX X E)
    (ht : eval (.Call (.Attribute o m apos) [] [] pos) X.env = (do
      let ov ← eval o X.env
      standAt apos.atName
      let (f, first) ← holding [ov] (getMethod ov m pl)
      callWith pos f first (backTo pos (starEach [] X.env)) (backToKw pos (keywordEach [] X.env))) := by rfl) :
    PE X (.Call (.Attribute o m apos) [] [] pos) (tMeth C m sp dvs E ta tNil) := by
  intro pins s σ H Q I h
  refine PySem.W.methodCall_KW (pl := pl) (thn (he pins s σ H _ I h) fun u s1 ⟨x, H1, I1, rx, a, dx, fs, ex, ea, l, q⟩ => ?_) ht
  subst ex
  obtain rfl : u = Value.ref a := rx
  refine getmeth_ok I1 ea c hm l ?_
  exact PySem.W.callWith_K0 (first := [.ref a]) I1.kIn hm.kp (run_fn (us := [.ref a]) (vs := [.ref a]) F hr hb hd hx I1 (.cons rfl .nil) q)

/-- what a class must have to be made -/
structure Mk (K : PySem.W.Frag) (C f : Addr) : Prop where
  makes : PySem.W.makesIn K C = true
  init : PySem.W.findIn K (.ref C) "__init__" = some (some (.ref f))
  fn : PySem.W.isFn K (.ref f) = true
  kp : PySem.W.keepIn K (.ref C) = true

theorem run_make {pins : List (Addr × Obj)} {σ : St} {H : Hp} {s : Shared} {Q : VK} {us : List Value} {vs : List V} (M : Mk X.K C f) (F : FnOk X.prog X.w X.K X.mg X.base CX k f fd ps sp) (hr : Room (k + 1) X.A) (hb : Binds X.K fd ps ds) (hd : Vals dvs ds)
    (hx : Passes CX X E) (I : Inv X pins σ H s) (r : Vals vs us)
    (h : ∀ x dx, H x = none → H dx = none → dx ≠ x → sp (.ref x :: (vs ++ dvs)) (upd (upd H dx (.own x)) x (.ins C dx [])) (fun v H2 => v = .non ∧ Q (.ref x) H2) E) :
    wpAny (model X.prog X.w) X.A (call (.ref C) us) (EP X pins σ Q) X.xe s := by
  have hq := h (s.heap.objs.size + 1) s.heap.objs.size (I.hok.fresh (Nat.le_succ _)) (I.hok.fresh (Nat.le_refl _)) (Nat.ne_of_lt (Nat.lt_succ_self _))
  have I2 := Inv.made (C := C) I
  have r2 : Vals (V.ref (s.heap.objs.size + 1) :: (vs ++ dvs)) (Value.ref (s.heap.objs.size + 1) :: (us ++ ds)) := .cons rfl (r.append hd)
  have hl : (Value.ref (s.heap.objs.size + 1) :: us ++ ds).length = ps.length := by
    have e := r2.length
    rw [F.len _ _ _ _ hq] at e
    exact e.symm
  refine wpAny_call (make_map (f := f) I.kIn M.makes M.init (beq_iff_eq.mp M.fn) (codeAny_mono (F.run _ X.stack _ _ ⟨Value.ref (s.heap.objs.size + 1) :: us, []⟩ (Value.ref (s.heap.objs.size + 1) :: (us ++ ds)) _ _ E (hr.make C us [])
    (I2.env0.make C us []) (hb _ (Value.ref (s.heap.objs.size + 1) :: us) I2.kIn hl) r2 hq) fun r s' hq' => ?_))
  cases r with
  | error e => exact hx pins σ _ _ e s' I2 hq'
  | ok fl =>
    cases fl with
    | ret u =>
      obtain ⟨v, H', I3, rv, ev, q3⟩ := I2.after hq'
      subst ev
      exact ⟨rv, ⟨V.ref (s.heap.objs.size + 1), H', I3, rfl, q3⟩⟩
    | next => exact False.elim hq'
    | brk => exact False.elim hq'
    | cont => exact False.elim hq'
theorem pe_make (M : Mk X.K C f) (F : FnOk X.prog X.w X.K X.mg X.base CX k f fd ps sp) (hr : Room (k + 1) X.A) (hg : Gl X x) (hm : X.mg x = some (.ref C)) (hb : Binds X.K fd ps ds) (hd : Vals dvs ds) (hx : Passes CX X E)
    (ha : PA X (e :: es) t) (hdb : (x == ("__debug__" : Str)) = false := by decide) (he : starEach (e :: es) X.env = (false, eval e X.env) :: starEach es X.env := by rfl) (hpl : (backTo pos (starEach es X.env)).any (·.1) = false := by rfl) :
    PE X (.Call (.Name x p) (e :: es) [] pos) (tMake C sp dvs E t) := by
  intro pins s σ H Q I h
  refine wpAny_Call_Name_kw (ld_glob I hg hm ?_ hdb)
  refine PySem.W.callWith_K (h₀ := X.base) I.ok.mod.kin M.kp (thn (ha pos pins s σ H _ I h) fun us s1 ⟨vs, H1, I1, r, q⟩ => ⟨I1.kIn, ?_⟩) he hpl
  exact run_make M F hr hb hd hx I1 r q
theorem pe_make0 (M : Mk X.K C f) (F : FnOk X.prog X.w X.K X.mg X.base CX k f fd ps sp) (hr : Room (k + 1) X.A) (hg : Gl X x) (hm : X.mg x = some (.ref C)) (hb : Binds X.K fd ps ds) (hd : Vals dvs ds) (hx : Passes CX X E)
    (hdb : (x == ("__debug__" : Str)) = false := by decide) : PE X (.Call (.Name x p) [] [] pos) (tMake C sp dvs E tNil) := by
  intro pins s σ H Q I h
  refine wpAny_Call_Name_kw (ld_glob I hg hm ?_ hdb)
  exact PySem.W.callWith_K0 I.kIn M.kp (run_make (us := []) M F hr hb hd hx I .nil h)
end

/-! ### keywords -/
/-- the values of the keywords, from the left -/
def PK (X : Cx) (kws : List Keyword) (t : TA) : Prop :=
  ∀ (pos : Pos) (pins : List (Addr × Obj)) (s : Shared) (σ : St) (H : Hp) (Q : List V → Hp → Prop), Inv X pins σ H s → t σ H Q → wpAny (model X.prog X.w) X.A (evalAll ((backToKw pos (keywordEach kws X.env)).map (·.2))) (AP X pins σ Q) X.xe s
section
variable {X : Cx} {CX : CXT} {k : Nat} {f C : Addr} {fd : FuncData} {ps ks : List Str} {sp : Sp} {E : XK} {x m : Str} {p pos apos kpos : Pos} {e o : Expr} {es : List Expr} {kws : List Keyword} {te ta : TE} {t tk : TA} {nm : Option Str}
theorem pk_nil : PK X [] tNil := fun _ _ _ _ H Q I h => wpAny_evalAll_nil ⟨[], H, I, .nil, h⟩
theorem pk_cons (ha : PE X e te) (hr : PK X kws t) : PK X (⟨nm, e, kpos⟩ :: kws) (tCons te t) := by
  intro pos pins s σ H Q I h
  show wpAny _ _ (evalAll ((do let v ← eval e X.env; standAt pos; pure v) :: (backToKw pos (keywordEach kws X.env)).map (·.2))) _ _ s
  refine wpAny_evalAll_cons (wpAny_bind (thn (ha pins s σ H _ I h) fun u s1 ⟨x, H1, I1, r1, q1⟩ => wpAny_bind (wpAny_standAt (wpAny_pure ?_))))
  exact thn (hr pos pins s1 σ H1 _ I1 q1) fun us s2 ⟨xs, H2, I2, r2, q2⟩ => ⟨x :: xs, H2, I2, .cons r1 r2, q2⟩

/-- how a call with keywords binds: g puts the positional values us and the keywords' values ws (names ks) in the parameters' order, defaults among them -/
structure KBinds (K : PySem.W.Frag) (fd : FuncData) (ps ks : List Str) (g : List Value → List Value → List Value) (gV : List V → List V → List V) : Prop where
  to : ∀ (s : Shared) (us ws : List Value), K.In s.heap → (g us ws).length = ps.length → BindsTo s fd ⟨us, ks.zip ws⟩ (ps.zip (g us ws))
  rel : ∀ {vs : List V} {us : List Value} {zs : List V} {ws : List Value}, Vals vs us → Vals zs ws → Vals (gV vs zs) (g us ws)
def tCallK (sp : Sp) (gV : List V → List V → List V) (E : XK) (t tk : TA) : TE := fun σ H Q => t σ H fun vs H1 => tk σ H1 fun zs H2 => sp (gV vs zs) H2 Q E
variable {g : List Value → List Value → List Value} {gV : List V → List V → List V}
theorem run_fnk {pins : List (Addr × Obj)} {σ : St} {H : Hp} {s : Shared} {Q : VK} {us ws : List Value} {vs zs : List V} (F : FnOk X.prog X.w X.K X.mg X.base CX k f fd ps sp) (hr : Room k X.A) (hb : KBinds X.K fd ps ks g gV) (hx : Passes CX X E)
    (I : Inv X pins σ H s) (r : Vals vs us) (rz : Vals zs ws) (h : sp (gV vs zs) H Q E) : wpAny (model X.prog X.w) X.A (call (.ref f) us (ks.zip ws)) (EP X pins σ Q) X.xe s := by
  have r2 := hb.rel r rz
  have hl : (g us ws).length = ps.length := by rw [← r2.length]; exact F.len _ _ _ _ h
  refine wpAny_call (codeAny_mono (F.run X.A X.stack s H ⟨us, ks.zip ws⟩ (g us ws) (gV vs zs) Q E hr I.env0 (hb.to s us ws I.kIn hl) r2 h) fun r s' hq => ?_)
  cases r with
  | error e => exact hx pins σ H s e s' I hq
  | ok fl =>
    cases fl with
    | ret u => exact I.after hq
    | next => exact False.elim hq
    | brk => exact False.elim hq
    | cont => exact False.elim hq
/-- f(e, .., k = v, ..) -/
theorem pe_callK (F : FnOk X.prog X.w X.K X.mg X.base CX k f fd ps sp) (hr : Room k X.A) (hg : Gl X x) (hm : X.mg x = some (.ref f)) (hk : PySem.W.keepIn X.K (.ref f) = true) (hb : KBinds X.K fd ps ks g gV) (hx : Passes CX X E)
    (ha : PA X (e :: es) t) (hkw : PK X kws tk) (hall : (backToKw pos (keywordEach kws X.env)).all (·.1.isSome) = true := by rfl) (hks : (backToKw pos (keywordEach kws X.env)).filterMap (·.1) = ks := by rfl)
    (hdb : (x == ("__debug__" : Str)) = false := by decide) (he : starEach (e :: es) X.env = (false, eval e X.env) :: starEach es X.env := by rfl)
    (hpl : ((backTo pos (starEach (e :: es) X.env)).any (·.1) || (backToKw pos (keywordEach kws X.env)).any (·.1.isNone)) = false := by rfl) :
    PE X (.Call (.Name x p) (e :: es) kws pos) (tCallK sp gV E t tk) := by
  intro pins s σ H Q I h
  refine wpAny_Call_Name_kw (ld_glob I hg hm ?_ hdb)
  refine PySem.W.callWith_KW (h₀ := X.base) I.ok.mod.kin hk hall (thn (ha pos pins s σ H _ I h) fun us s1 ⟨vs, H1, I1, r, q⟩ => ?_) hpl he
  refine thn (hkw pos pins s1 σ H1 _ I1 q) fun ws s2 ⟨zs, H2, I2, rz, q2⟩ => ⟨I2.kIn, ?_⟩
  rw [hks]
  exact run_fnk F hr hb hx I2 r rz q2
end

/-! ### a def's body keeps its promise -/
/-- names: the parameters first -/
structure FnScope (N P : List Str) (sc : Scope) : Prop where
  kind : sc.kind = .function
  co : sc.isCoroutine = false
  gen : sc.isGenerator = false
  nd : N.Nodup
  pre : N.take P.length = P
  par : ∀ x ∈ P, sc.names.lookup x = some .local ∨ sc.names.lookup x = some .cell
  nofree : ∀ y ∈ sc.names, y.2 ≠ .free

theorem bindL_out {kindOf : Str → Option NameKind} {x : Str} : ∀ {binds : List (Str × Value)} {m : Str → Option Value}, (∀ v, (x, v) ∉ binds) → bindL kindOf binds m x = m x
  | [], _, _ => rfl
  | (n, v) :: r, m, h => by
    unfold bindL
    rw [bindL_out fun w hw => h w (List.mem_cons_of_mem _ hw)]
    split
    · have : x ≠ n := by rintro rfl; exact h v List.mem_cons_self
      simp [this]
    · rfl
theorem bindC_out {kindOf : Str → Option NameKind} {x : Str} : ∀ {binds : List (Str × Value)} {m : Str → Option Value}, (∀ v, (x, v) ∉ binds) → bindC kindOf binds m x = m x
  | [], _, _ => rfl
  | (n, v) :: r, m, h => by
    unfold bindC
    rw [bindC_out fun w hw => h w (List.mem_cons_of_mem _ hw)]
    split
    · rfl
    · have : x ≠ n := by rintro rfl; exact h v List.mem_cons_self
      simp [this]
theorem bindL_get {kindOf : Str → Option NameKind} {x : Str} {v : Value} : ∀ {P : List Str} {vs : List Value} {i : Nat} {m : Str → Option Value}, P.Nodup → P[i]? = some x → vs[i]? = some v → kindOf x = some .local →
    bindL kindOf (P.zip vs) m x = some v
  | [], _, _, _, _, h, _, _ => by simp at h
  | _ :: _, [], _, _, _, _, h, _ => by simp at h
  | p :: P, w :: vs, 0, m, nd, h1, h2, hk => by
    simp at h1 h2; subst h1; subst h2
    show bindL kindOf ((p, w) :: P.zip vs) m p = _
    unfold bindL
    rw [bindL_out fun v hv => (List.nodup_cons.mp nd).1 (List.of_mem_zip hv).1, if_pos hk]
    simp
  | p :: P, w :: vs, i + 1, m, nd, h1, h2, hk => by
    show bindL kindOf ((p, w) :: P.zip vs) m x = _
    unfold bindL
    exact bindL_get (i := i) (List.nodup_cons.mp nd).2 (by simpa using h1) (by simpa using h2) hk
theorem bindC_get {kindOf : Str → Option NameKind} {x : Str} {v : Value} : ∀ {P : List Str} {vs : List Value} {i : Nat} {m : Str → Option Value}, P.Nodup → P[i]? = some x → vs[i]? = some v → kindOf x ≠ some .local →
    bindC kindOf (P.zip vs) m x = some v
  | [], _, _, _, _, h, _, _ => by simp at h
  | _ :: _, [], _, _, _, _, h, _ => by simp at h
  | p :: P, w :: vs, 0, m, nd, h1, h2, hk => by
    simp at h1 h2; subst h1; subst h2
    show bindC kindOf ((p, w) :: P.zip vs) m p = _
    unfold bindC
    rw [bindC_out fun v hv => (List.nodup_cons.mp nd).1 (List.of_mem_zip hv).1, if_neg hk]
    simp
  | p :: P, w :: vs, i + 1, m, nd, h1, h2, hk => by
    show bindC kindOf ((p, w) :: P.zip vs) m x = _
    unfold bindC
    exact bindC_get (i := i) (List.nodup_cons.mp nd).2 (by simpa using h1) (by simpa using h2) hk

/-- the names' values at the entry -/
def start (N : List Str) (vs : List V) : St := vs.map some ++ List.replicate (N.length - vs.length) none

/-- the context of a def's body, at its entry; an exception leaves the frame, then lies as CX says -/
def cxOf (CX : CXT) (P : Program) (w : World) (K : PySem.W.Frag) (mg : Str → Option Value) (base : Heap) (N : List Str) (qual : Str) (scope : Scope) (f : Addr) (cd : Value) (A : Around) (outer : List Env) (s : Shared) (H : Hp) (E : XK) : Cx where
  prog := P
  w := w
  K := K
  mg := mg
  base := base
  A := A.deeper (envOfC qual scope s.heap.objs.size f cd)
  N := N
  s₀ := s
  H₀ := H
  env := envOfC qual scope s.heap.objs.size f cd
  outer := outer
  stack := envOfC qual scope s.heap.objs.size f cd :: outer
  ex := []
  calm := true
  fn := fun _ => true
  pn := []
  xe := fun e s' => wpAny (model P w) (A.deeper (envOfC qual scope s.heap.objs.size f cd)) (leaving (envOfC qual scope s.heap.objs.size f cd) e) (fun _ s'' => CX outer H s E e s'') (fun e' s'' => CX outer H s E e' s'') s'

theorem cell_has {sc : Scope} {n : Nat} {x : Str} (h : sc.names.lookup x = some .cell) : ∃ c, (cellsFrom n sc.names []).lookup x = some c := by
  have q := PySem.W.cellsFrom_some sc.names n [] (.inl h)
  exact Option.isSome_iff_exists.mp q

theorem inv_start {CX : CXT} {P : Program} {w : World} {K : PySem.W.Frag} {mg : Str → Option Value} {base : Heap} {N ps : List Str} {qual : Str} {scope : Scope} {f : Addr} {cd : Value} {A : Around} {outer : List Env} {s s1 : Shared} {H : Hp} {E : XK} {us : List Value} {vs : List V}
    (S : FnScope N ps scope) (hd : A.handled = none) (e0 : Env0 P w K mg base A outer s H) (hl : vs.length = ps.length) (r : Vals vs us)
    (x : InCallC s s.heap.objs.size (bindL (envOfC qual scope s.heap.objs.size f cd).kindOf (ps.zip us) fun _ => none) (cellsFrom (s.heap.objs.size + 1) scope.names []) (bindC (envOfC qual scope s.heap.objs.size f cd).kindOf (ps.zip us) fun _ => none) s1) :
    Inv (cxOf CX P w K mg base N qual scope f cd A outer s H E) [] (start N vs) H s1 := by
  have hpl : ps.length ≤ N.length := by have := congrArg List.length S.pre; rw [List.length_take] at this; omega
  obtain ⟨h1, tk, rfl, hk⟩ := x.done
  have noA : ∀ b : Addr, b ∉ (cxOf CX P w K mg base N qual scope f cd A outer s H E).ex := fun b z => absurd (show b ∈ ([] : List Addr) from z) (by simp)
  refine ⟨⟨e0.mod, S.kind, rfl, rfl, Nat.le_refl _, fun y z c h1 h2 => ?_, fun y hy => ?_, fun y c _ h => ?_, fun _ => hd, Around.frames_deeper e0.frames, .inr ⟨rfl, rfl⟩, fun b z => absurd z (noA b), e0.bs, e0.bsz, fun b _ _ => noA b, fun b z => absurd z (noA b), e0.funs, e0.frf⟩,
    rfl, e0.bare, Un.kept hk, ⟨_, x.toInCall.ns, fun i y v h1 h2 h3 => ?_⟩, fun y c h => ⟨_, x.cell y c h⟩, e0.hok.fresh (Nat.le_refl _), fun y c h => ?_, fun p hp => absurd (show p ∈ ([] : List (Addr × Obj)) from hp) (by simp), e0.hok.kept hk, ?_⟩
  · exact name_of_addr x.apart (PySem.mem_of_lookup h1) (PySem.mem_of_lookup h2)
  · have hy : scope.names.lookup y = some .cell ∨ scope.names.lookup y = some .free := hy
    rcases hy with hy | hy
    · exact cell_has hy
    · exact absurd rfl (S.nofree _ (PySem.mem_of_lookup hy))
  · exact Nat.le_of_lt (x.above y c (PySem.mem_of_lookup h))
  · have hi : i < vs.length := by
      unfold start at h2
      by_cases hi : i < vs.length
      · exact hi
      · rw [List.getElem?_append_right (by simpa using hi)] at h2
        rw [List.getElem?_replicate] at h2
        split at h2 <;> cases h2
    have ha : vs[i]? = some v := by
      unfold start at h2
      rw [List.getElem?_append_left (by simpa using hi), List.getElem?_map] at h2
      cases e : vs[i]? with
      | none => rw [e] at h2; cases h2
      | some a => rw [e] at h2; cases h2; rfl
    obtain ⟨u, hu, rv⟩ := r.get ha
    have hp : ps[i]? = some y := by
      rw [← S.pre, List.getElem?_take_of_lt (by omega)]; exact h1
    have ndP : ps.Nodup := by rw [← S.pre]; exact S.nd.sublist (List.take_sublist _ _)
    refine ⟨u, rv, ?_⟩
    rcases S.par y (List.mem_of_getElem? hp) with k | k
    · exact .inl ⟨k, bindL_get ndP hp hu k⟩
    · obtain ⟨c, e⟩ := cell_has (n := s.heap.objs.size + 1) k
      refine .inr ⟨.inl k, c, e, ?_⟩
      have q := x.cell y c e
      rw [bindC_get ndP hp hu (by show scope.names.lookup y ≠ _; rw [k]; decide)] at q
      exact q
  · exact e0.hok.fresh (Nat.le_of_lt (x.above y c (PySem.mem_of_lookup h)))
  · unfold start
    show _ = N.length
    rw [List.length_append, List.length_map, List.length_replicate]
    omega

/-- THE RULE: a def (or a method) of the text, by its body. The body's reading t is chosen for each entry; it is run at the parameters' values -/
theorem fn_of {CX : CXT} {P : Program} {w : World} {K : PySem.W.Frag} {mg : Str → Option Value} {base : Heap} {k : Nat} {f : Addr} {name qual : Str} {params : Arguments} {body : List Stmt} {scope : Scope} {dV kV doc pm cdv ct oc : Value} {an od : Option Addr}
    {osl : Array (Option Value)} {N ps : List Str} {sp : Sp} (lk : K.lookup f = some ⟨oc, od, .func (PySem.W.fnOf name qual params body scope dV kV doc pm an cdv ct), osl⟩) (hcd : PySem.W.codeIn K cdv qual = true) (S : FnScope N ps scope)
    (len : ∀ vs H Q E, sp vs H Q E → vs.length = ps.length)
    (hbody : ∀ (A : Around) (outer : List Env) (s : Shared) (H : Hp) (vs : List V) (Q : VK) (E : XK), Room k (A.deeper (envOfC qual scope s.heap.objs.size f cdv)) → sp vs H Q E →
      ∃ t, PSs (cxOf CX P w K mg base N qual scope f cdv A outer s H E) body t ∧ t { nx := fun _ H' => Q .non H', rt := Q } (start N vs) H) :
    FnOk P w K mg base CX (k + 1) f (PySem.W.fnOf name qual params body scope dV kV doc pm an cdv ct) ps sp := by
  refine ⟨len, fun A outer s H args us vs Q E hr e0 hb r hsp => ?_⟩
  have hl := len _ _ _ _ hsp
  have KX : K.In s.heap := e0.mod.kin.keeps fun b o e => (e0.bs b o e).1
  have lim : s.heap.NoLimit := e0.mod.nolimit.keeps fun b o e => (e0.bs b o e).1
  have hkind : ∀ y ∈ ps.zip us, scope.names.lookup y.1 = some .local ∨ (scope.names.lookup y.1 = some .cell ∧ ((cellsFrom (s.heap.objs.size + 1) scope.names []).lookup y.1).isSome = true) := fun ⟨n, v⟩ hy => by
    rcases S.par n (List.of_mem_zip hy).1 with q | q
    · exact .inl q
    · exact .inr ⟨q, PySem.W.cellsFrom_some _ _ _ (.inl q)⟩
  refine codeAny_call_function hr.depth (KX _ _ lk) rfl S.co S.gen rfl (PySem.W.codeRec_of KX hcd) (hb _ _ _ _ ?_)
  refine wpAny_newFunctionEnv_cells S.kind hkind fun env he s1 x => ?_
  subst he
  refine ⟨lim.keeps x.toInCall.keep, codeAny_func ?_⟩
  obtain ⟨t, ht, hq⟩ := hbody A outer s H vs Q E (hr.deeper _) hsp
  have I : Inv (cxOf CX P w K mg base N qual scope f cdv A outer s H E) [] (start N vs) H s1 := inv_start S hr.hd e0 hl r x
  refine wpAny_mono (ht [] s1 (start N vs) H _ I hq) (fun fl s' hs => ?_) fun e s' hs => hs
  have fin : ∀ {σ' : St} {H' : Hp} {v : V} {u : Value}, Inv (cxOf CX P w K mg base N qual scope f cdv A outer s H E) [] σ' H' s' → RelV v u → Q v H' → CE outer P w H s Q u s' :=
    fun {σ' H' v u} J rv q => ⟨v, H', J.os, J.bare, J.base, J.hok, rv, q⟩
  cases fl with
  | ret u =>
    obtain ⟨v, σ', H', J, rv, q⟩ := hs
    exact fin J rv q
  | next =>
    obtain ⟨σ', H', J, q⟩ := hs
    exact fin (v := V.non) (u := Value.none) J rfl q
  | brk =>
    obtain ⟨_, _, _, q⟩ := hs
    exact False.elim q
  | cont =>
    obtain ⟨_, _, _, q⟩ := hs
    exact False.elim q
end L2

namespace L2
open PySem PySem.Spec PyProof.Rows
section
variable {X : Cx} {x : Str} {p pos : Pos} {e : Expr} {es : List Expr} {t : TA} {id T : String} {r : List V → Hp → VK → Prop}

def tCB (r : List V → Hp → VK → Prop) (t : TA) : TE := fun σ H Q => t σ H fun vs H1 => r vs H1 Q
/-- f(e, ..), f a built-in function -/
theorem pe_callB (hc : CallR X (.builtin id) r) (hg : Gl X x) (hm : X.mg x = none) (hv : bootBuiltins x = some (.builtin id)) (ha : PA X (e :: es) t) (hn : x ≠ "__name__" := by decide) (hdb : (x == ("__debug__" : Str)) = false := by decide)
    (he : starEach (e :: es) X.env = (false, eval e X.env) :: starEach es X.env := by rfl) (hpl : (backTo pos (starEach es X.env)).any (·.1) = false := by rfl) : PE X (.Call (.Name x p) (e :: es) [] pos) (tCB r t) := by
  intro pins s σ H Q I h
  refine wpAny_Call_Name_kw (ld_blt I hg hm hv ?_ hn hdb)
  exact PyProof.Rows.callWith_builtin1 (thn (ha pos pins s σ H _ I h) fun us s1 ⟨vs, H1, I1, r1, q1⟩ => hc pins s1 σ H1 vs us Q I1 r1 q1) he hpl
/-- T(e, ..), T a built-in type -/
theorem pe_callTy (hc : CallR X (.type T) r) (hg : Gl X x) (hm : X.mg x = none) (hv : bootBuiltins x = some (.type T)) (ha : PA X (e :: es) t) (hn : x ≠ "__name__" := by decide) (hdb : (x == ("__debug__" : Str)) = false := by decide)
    (he : starEach (e :: es) X.env = (false, eval e X.env) :: starEach es X.env := by rfl) (hpl : (backTo pos (starEach es X.env)).any (·.1) = false := by rfl) : PE X (.Call (.Name x p) (e :: es) [] pos) (tCB r t) := by
  intro pins s σ H Q I h
  refine wpAny_Call_Name_kw (ld_blt I hg hm hv ?_ hn hdb)
  exact PyProof.Rows.callWith_type1 (thn (ha pos pins s σ H _ I h) fun us s1 ⟨vs, H1, I1, r1, q1⟩ => hc pins s1 σ H1 vs us Q I1 r1 q1) he hpl
/-- T() -/
theorem pe_callTy0 (hc : CallR X (.type T) r) (hg : Gl X x) (hm : X.mg x = none) (hv : bootBuiltins x = some (.type T)) (hn : x ≠ "__name__" := by decide) (hdb : (x == ("__debug__" : Str)) = false := by decide) :
    PE X (.Call (.Name x p) [] [] pos) (tCB r tNil) := by
  intro pins s σ H Q I h
  refine wpAny_Call_Name_kw (ld_blt I hg hm hv ?_ hn hdb)
  exact PyProof.Rows.callWith_type0 (hc pins s σ H [] [] Q I .nil h)
end
end L2

namespace HT
open PySem PyProof.Rows

/-- t < u of tuples of ints -/
def lexLt : List Int → List Int → Bool
  | [], [] => false
  | [], _ :: _ => true
  | _ :: _, [] => false
  | x :: xs, y :: ys => if x = y then lexLt xs ys else decide (x < y)
theorem lexLt_cons (x y : Int) (xs ys : List Int) : lexLt (x :: xs) (y :: ys) = if x = y then lexLt xs ys else decide (x < y) := rfl
theorem lexLt_nil_nil : lexLt [] [] = false := rfl
theorem lexLt_nil_cons (y : Int) (ys : List Int) : lexLt [] (y :: ys) = true := rfl
theorem lexLt_cons_nil (x : Int) (xs : List Int) : lexLt (x :: xs) [] = false := rfl

theorem eqAt_int (A : Around) (s : Shared) (a : Int) (t : Tok) (c : Int) (u : Tok) : ∃ e, SeqAt.EqAt A s (.int a t) (.int c u) e ∧ (e = true ↔ a = c) :=
  ⟨(a == c), SeqAt.EqAt.int_int a t c u, by simp⟩
theorem rcLt_int (A : Around) (s : Shared) (a : Int) (t : Tok) (c : Int) (u : Tok) (prog : Program) (w : World) (E : Value → Shared → Prop) (Q : Value → Shared → Prop) (h : Q (.bool (decide (a < c))) s) :
    wpAny (model prog w) A (richCompare .Lt (.int a t) (.int c u)) Q E s :=
  (PyProof.Rows.lt_int h : wpAny (model prog w) A (compareOp .Lt (.int a t) (.int c u)) Q E s)

section
open PySem.SeqAt
open PySem.AutoSeq1 (wpAny_loadPart')
open PySem.MeetsSeq PySem.MeetsSeq2 PySem.MeetsSeq3

theorem tuple_lt_ints (l b : Addr) (items items2 : Array Value) (n n2 : Nat) (dd dd2 : Option Addr) (sl sl2 : Array (Option Value)) (ns ms : List Int) (hi : IntsAre items.toList ns) (hj : IntsAre items2.toList ms) :
    Meets (Builtin.«tuple.__lt__» ⟨[.ref l, .ref b], []⟩)
      (fun _ R s => s.heap.get? l = some { cls := .type "tuple", dict := dd, data := .seq items n, slots := sl } ∧ s.heap.get? b = some { cls := .type "tuple", dict := dd2, data := .seq items2 n2, slots := sl2 } ∧
        R (.ok (.ret (.bool (lexLt ns ms)))) s) :=
  .of_wp fun prog w A R s h => by
    obtain ⟨hp, g, d, tk, os⟩ := s; obtain ⟨hl, hb, h⟩ := h
    have f2 := AutoSeq1.sub_tuple_tuple
    have z1 : items.size = ns.length := by rw [← hi.length]; simp
    have z2 : items2.size = ms.length := by rw [← hj.length]; simp
    wp_walk using wpAny_loadPart' hl, wpAny_loadPart' hb, wpAny_forIn_list _ (fun rest b s' => b.1 = none ∧ s' = ⟨hp, g, d, tk, os⟩ ∧ ∃ (vs ws : List Value) (ns' ms' : List Int), rest = vs.zip ws ∧
      IntsAre vs ns' ∧ IntsAre ws ms' ∧ ns'.length + items2.size = ms'.length + items.size ∧ R (.ok (.ret (.bool (lexLt ns' ms')))) ⟨hp, g, d, tk, os⟩) _
    case turn =>
      rintro ⟨y, x⟩ rest b s' ⟨hb', rfl, vs, ws, ns', ms', hz, hvi, hwi, hlen, hR⟩
      cases hvi with
      | nil => rw [List.zip_nil_left] at hz; cases hz
      | cons a t hvi' =>
        cases hwi with
        | nil => rw [List.zip_nil_right] at hz; cases hz
        | cons c u hwi' =>
          rw [List.zip_cons_cons] at hz
          injection hz with hyx hrest
          injection hyx with hy hx
          subst hy hx
          rw [lexLt_cons] at hR
          simp only [List.length_cons] at hlen
          obtain ⟨e, he, hiff⟩ := eqAt_int A.in1 ⟨hp, g, d, tk, os⟩ a t c u
          refine wpAny_bind (he prog w _ _ ?_)
          cases e with
          | true =>
            rw [if_pos (hiff.mp rfl)] at hR
            wp_walk
            exact ⟨rfl, rfl, _, _, _, _, hrest, hvi', hwi', by omega, hR⟩
          | false =>
            rw [if_neg (fun q => absurd (hiff.mpr q) Bool.false_ne_true)] at hR
            have hri := rcLt_int A.in1 ⟨hp, g, d, tk, os⟩ a t c u prog w
            wp_walk using hri
            exact ⟨_, rfl, by simpa using hR⟩
    case fin =>
      rintro ⟨b1, b2⟩ s' ⟨hb', rfl, vs, ws, ns', ms', hz, hvi, hwi, hlen, hR⟩
      simp only at hb'
      subst hb'
      have hv : lexLt ns' ms' = decide (items.size < items2.size) := by
        cases hvi with
        | nil =>
          cases hwi with
          | nil =>
            simp only [List.length_nil] at hlen
            rw [lexLt_nil_nil]
            exact (decide_eq_false (by omega)).symm
          | cons c u hw =>
            simp only [List.length_nil, List.length_cons] at hlen
            rw [lexLt_nil_cons]
            exact (decide_eq_true (by omega)).symm
        | cons a t hv =>
          cases hwi with
          | nil =>
            simp only [List.length_nil, List.length_cons] at hlen
            rw [lexLt_cons_nil]
            exact (decide_eq_false (by omega)).symm
          | cons c u hw =>
            rw [List.zip_cons_cons] at hz
            cases hz
      rw [hv] at hR
      wp_walk
      exact ⟨_, rfl, by simpa [Builtin.Tuple.tupleCompareSizes] using hR⟩
    case h =>
      exact ⟨rfl, rfl, items.toList, items2.toList, ns, ms, rfl, hi, hj, by omega, h⟩
end

section
variable {prog : Program} {w : World} {A : Around} {E : Value → Shared → Prop} {s : Shared}

theorem lt_tupInts {l b : Addr} {items items2 : Array Value} {ns ms : List Int} {Q : Value → Shared → Prop} (hl : IsTup s.heap l items) (hb : IsTup s.heap b items2) (hi : IntsAre items.toList ns) (hj : IntsAre items2.toList ms)
    (hu : A.units < cLine) (h : Q (.bool (lexLt ns ms)) s) : wpAny (model prog w) A (compareOp .Lt (.ref l) (.ref b)) Q E s := by
  obtain ⟨⟨cls, dd, data, sl⟩, ho, hc, n, hd⟩ := id hl
  obtain ⟨⟨cls2, dd2, data2, sl2⟩, ho2, hc2, n2, hd2⟩ := id hb
  simp only at hc hd hc2 hd2
  subst hc hd hc2 hd2
  exact richCompare_meets_room (op := .Lt) ⟨_, ho, rfl⟩ ⟨_, ho2, rfl⟩ PySem.F.slot_tuple_lt PySem.F.entry_tuple_lt (PySem.F.args_tuple_lt_2 _ _) (tuple_lt_ints l b items items2 n n2 dd dd2 sl sl2 ns ms hi hj)
    ⟨ho, ho2, show Value.bool (lexLt ns ms) ≠ Value.notImplemented ∧ Q (.bool (lexLt ns ms)) s from ⟨(fun x => nomatch x), h⟩⟩ hu

/-- t + u, t not empty -/
theorem cat_tup {t b : Addr} {vs ws : List Value} {Q : Value → Shared → Prop} (ht : IsTup s.heap t vs.toArray) (hb : IsTup s.heap b ws.toArray) (hv : vs ≠ [])
    (h1 : ws = [] → Q (.ref t) s) (h2 : ws ≠ [] → Q (.ref s.heap.objs.size) { s with heap := s.heap.push { cls := .type "tuple", data := .seq (vs ++ ws).toArray } })
    (hsz : vs.length + ws.length ≤ sizeLine) : wpAny (model prog w) A (binaryOp .Add (.ref t) (.ref b)) Q E s := by
  obtain ⟨⟨cls, dd, data, sl⟩, ho, hc, n, hd⟩ := id ht
  obtain ⟨⟨cls2, dd2, data2, sl2⟩, ho2, hc2, n2, hd2⟩ := id hb
  simp only at hc hd hc2 hd2
  subst hc hd hc2 hd2
  have e : vs.toArray ++ ws.toArray = (vs ++ ws).toArray := by simp
  by_cases hw : ws = []
  · exact concat_meets ⟨_, ho, rfl⟩ ⟨_, ho2, rfl⟩ noFill_tuple_add seq_tuple_add PySem.F.slot_tuple_add PySem.F.entry_tuple_add (PySem.F.args_tuple_add_2 _ _)
      (tuple_addW1 t b vs.toArray ws.toArray n n2 dd dd2 sl sl2 (by simpa using hv) (by simp [hw])) ⟨ho, ho2, h1 hw⟩
  · refine concat_meets ⟨_, ho, rfl⟩ ⟨_, ho2, rfl⟩ noFill_tuple_add seq_tuple_add PySem.F.slot_tuple_add PySem.F.entry_tuple_add (PySem.F.args_tuple_add_2 _ _)
      (tuple_addW2 t b vs.toArray ws.toArray n n2 dd dd2 sl sl2 (by simpa using hv) (by simpa using hw) (by rw [List.size_toArray, List.size_toArray]; exact hsz)) ⟨ho, ho2, ?_⟩
    rw [e]
    exact h2 hw

/-! ### t[a:b], not the whole -/
/-- a slice's bound as a place among n (d where it is left out) -/
def sIx (n d : Nat) : Option Int → Nat
  | none => d
  | some v => if v < 0 then (v + (n : Int)).toNat else min v.toNat n
theorem sIx_none (n d : Nat) : sIx n d none = d := rfl
theorem sIx_nat (n d k : Nat) : sIx n d (some (k : Int)) = min k n := by
  show (if (k : Int) < 0 then ((k : Int) + (n : Int)).toNat else min (k : Int).toNat n) = min k n
  rw [if_neg (by omega), Int.toNat_natCast]
theorem sIx_le (n d : Nat) (hd : d ≤ n) (o : Option Int) : sIx n d o ≤ n := by
  cases o with
  | none => exact hd
  | some v =>
    show (if v < 0 then (v + (n : Int)).toNat else min v.toNat n) ≤ n
    by_cases hv : v < 0
    · rw [if_pos hv]; omega
    · rw [if_neg hv]; exact Nat.min_le_right _ _
theorem clip_eq (v : Int) (n d : Nat) : (if v < 0 then max (v + (n : Int)) 0 else min v (n : Int)) = ((sIx n d (some v) : Nat) : Int) := by
  show (if v < 0 then max (v + (n : Int)) 0 else min v (n : Int)) = (((if v < 0 then (v + (n : Int)).toNat else min v.toNat n) : Nat) : Int)
  by_cases hv : v < 0
  · simp only [if_pos hv]; omega
  · simp only [if_neg hv]; omega
theorem adjust_gen (lo hi : Option Int) (n : Nat) : Builtin.Slice.sliceAdjust lo hi 1 (n : Int) = (((sIx n 0 lo : Nat) : Int), ((sIx n n hi : Nat) : Int)) := by
  have h1 : ¬ ((1 : Int) < 0) := by omega
  unfold Builtin.Slice.sliceAdjust
  simp only [h1, if_false]
  refine Prod.ext ?_ ?_
  · cases lo with
    | none => rfl
    | some v => exact clip_eq v n 0
  · cases hi with
    | none => rfl
    | some v => exact clip_eq v n n
theorem places_gen (i j : Nat) : Builtin.Slice.slicePlaces (i : Int) (j : Int) 1 = j - i := by
  unfold Builtin.Slice.slicePlaces
  have h1 : (1 : Int) > 0 := by omega
  simp only [h1, if_true, Int.ediv_one]
  split <;> omega
theorem slicePart_ {v : Value} {o : Option Int} {Q : Option Int → Shared → Prop} (p : IsPart v o) (h : Q o s) : wpAny (model prog w) A (Builtin.Slice.slicePartIndex v) Q E s := by
  cases p with
  | none => exact slicePart_none h
  | int i t => exact slicePart_int h
theorem sliceApplied_gen {sl : Addr} {vl vu : Value} {lo hi : Option Int} {n : Nat} {Q : Int × Int × Nat → Shared → Prop} (hs : s.heap.IsSliceOf sl vl vu .none) (pl : IsPart vl lo) (pu : IsPart vu hi)
    (h : Q (((sIx n 0 lo : Nat) : Int), 1, sIx n n hi - sIx n 0 lo) s) : wpAny (model prog w) A (Builtin.Slice.sliceApplied (.ref sl) (pure (n : Int))) Q E s := by
  obtain ⟨os, hos, hcs, hds⟩ := id hs
  unfold Builtin.Slice.sliceApplied Builtin.Slice.sliceFields
  refine wpAny_bind (wpAny_bind (wpAny_field hos hds (x := vl) rfl (wpAny_bind (wpAny_field hos hds (x := vu) rfl (wpAny_bind (wpAny_field hos hds (x := .none) rfl (wpAny_pure ?_)))))))
  refine wpAny_bind (slicePart_none ?_)
  show wpAny _ _ (if ((1 : Int) == 0) = true then _ else _) _ _ s
  rw [if_neg (by decide)]
  refine wpAny_bind (slicePart_ pl (wpAny_bind (slicePart_ pu (wpAny_bind (wpAny_pure ?_)))))
  show wpAny _ _ (match Builtin.Slice.sliceAdjust lo hi 1 (n : Int) with | (lo, hi) => pure (lo, (1 : Int), Builtin.Slice.slicePlaces lo hi 1)) _ _ s
  rw [adjust_gen lo hi n]
  show wpAny _ _ (pure (((sIx n 0 lo : Nat) : Int), (1 : Int), Builtin.Slice.slicePlaces ((sIx n 0 lo : Nat) : Int) ((sIx n n hi : Nat) : Int) 1)) _ _ s
  rw [places_gen]
  exact wpAny_pure h
theorem pick_gen (xs : Array Value) (i k : Nat) : ((List.range k).filterMap fun (m : Nat) => xs[((i : Int) + (m : Int) * 1).toNat]?).toArray = ((xs.toList.drop i).take k).toArray := by
  have e : (fun (m : Nat) => xs[((i : Int) + (m : Int) * 1).toNat]?) = fun m => xs[i + m]? := by
    funext m
    have : ((i : Int) + (m : Int) * 1).toNat = i + m := by omega
    rw [this]
  rw [e]
  have := pick_run xs i k
  rw [List.filterMap_map] at this
  have e2 : ((fun x => xs[x]?) ∘ fun x => i + x) = fun m => xs[i + m]? := rfl
  rw [e2] at this
  rw [this]

theorem getItem_tuple_cut {t sl : Addr} {items : Array Value} {vl vu : Value} {lo hi : Option Int} {Q : Value → Shared → Prop} (ht : IsTup s.heap t items) (hs : s.heap.IsSliceOf sl vl vu .none) (pl : IsPart vl lo) (pu : IsPart vu hi)
    (hw : ¬ (sIx items.size 0 lo = 0 ∧ sIx items.size items.size hi = items.size))
    (h : Q (.ref s.heap.objs.size) { s with heap := s.heap.push { cls := .type "tuple", data := .seq ((items.toList.drop (sIx items.size 0 lo)).take (sIx items.size items.size hi - sIx items.size 0 lo)).toArray } })
    (hsz : items.size ≤ sizeLine) : wpAny (model prog w) A (getItem (.ref t) (.ref sl)) Q E s := by
  have htake : sizeOk (.seq ((items.toList.drop (sIx items.size 0 lo)).take (sIx items.size items.size hi - sIx items.size 0 lo)).toArray) := by
    show ((items.toList.drop (sIx items.size 0 lo)).take (sIx items.size items.size hi - sIx items.size 0 lo)).toArray.size ≤ sizeLine
    rw [List.size_toArray, List.length_take, List.length_drop, Array.length_toList]
    omega
  have hj : sIx items.size items.size hi ≤ items.size := sIx_le _ _ (Nat.le_refl _) hi
  obtain ⟨os, hos, hcs, hds⟩ := id hs
  have hTs : s.TypeIs (.ref sl) "slice" := ⟨os, hos, hcs⟩
  unfold getItem
  try with_reducible refine wpAny_holding ?_
  first | refine wpAny_bind (wpAny_pure ?_) | skip
  refine wpAny_bind (wpAny_sequenceKey ht.typeIs (by decide) ?_)
  refine wpAny_bind (wpAny_callSpecial?_slot (name := Str.ofString "__getitem__") ht.typeIs PyProof.Rows.slot_tuple_getitem
    (wpAny_call_entry PyProof.Rows.slot_tuple_getitem ht.typeIs entry_tuple_getitem ?_ (args_tuple_getitem _ _)))
  show wpAny _ _ (Builtin.Tuple.tupleItemsOf (.ref t) >>= _) _ _ s
  refine wpAny_bind (tupleItemsOf_ ht ?_)
  refine wpAny_bind (wpAny_typeOf hTs ?_)
  rw [if_pos (by decide)]
  refine wpAny_bind (sliceApplied_gen hs pl pu ?_)
  have hno : ¬ ((((sIx items.size 0 lo : Nat) : Int) == 0 && (1 : Int) == 1 && (sIx items.size items.size hi - sIx items.size 0 lo) == items.size) = true) := by
    intro q
    rw [Bool.and_eq_true, Bool.and_eq_true] at q
    have q1 : ((sIx items.size 0 lo : Nat) : Int) = 0 := eq_of_beq q.1.1
    have q2 : sIx items.size items.size hi - sIx items.size 0 lo = items.size := eq_of_beq q.2
    exact hw ⟨by omega, by omega⟩
  show wpAny _ _ (if (((sIx items.size 0 lo : Nat) : Int) == 0 && (1 : Int) == 1 && (sIx items.size items.size hi - sIx items.size 0 lo) == items.size) = true then _ else _) _ _ s
  rw [if_neg hno, pick_gen]
  first
    | exact wpAny_bind (m := Builtin.Tuple.tupleExact _) (wpAny_newObj_type (wpAny_pure ⟨_, rfl, wpAny_pure h⟩) htake)
    | exact wpAny_bind (m := Builtin.Tuple.tupleExact _) (wpAny_newObj_type (wpAny_bind (wpAny_pure (wpAny_pure ⟨_, rfl, wpAny_pure h⟩))) htake)
    | exact wpAny_bind (wpAny_bind (m := Builtin.Tuple.tupleExact _) (wpAny_newObj_type (wpAny_pure (wpAny_pure ⟨_, rfl, wpAny_pure h⟩)) htake))
    | exact wpAny_bind (wpAny_bind (m := Builtin.Tuple.tupleExact _) (wpAny_newObj_type (wpAny_pure ⟨_, rfl, wpAny_pure h⟩) htake))
end
end HT

namespace L2
open PySem PySem.Spec PyProof.Rows

/-! ### the parts of a slice -/
abbrev TO := St → Hp → (Option Int → Hp → Prop) → Prop
/-- a slice's part (left out, or an int) -/
def PO (X : Cx) (e : Option Expr) (t : TO) : Prop :=
  ∀ (pins : List (Addr × Obj)) (s : Shared) (σ : St) (H : Hp) (Q : Option Int → Hp → Prop), Inv X pins σ H s → t σ H Q →
    wpAny (model X.prog X.w) X.A (evalPart e X.env) (fun u s' => ∃ o H', Inv X pins σ H' s' ∧ IsPart u o ∧ Q o H') X.xe s
def tNoPart : TO := fun _ H Q => Q none H
def tPart (t : TE) : TO := fun σ H Q => t σ H fun x H1 => ∃ i, x = .int i ∧ Q (some i) H1

theorem intsAre_of {ns : List Int} : ∀ {us : List Value}, Vals (ns.map V.int) us → IntsAre us ns := by
  induction ns with
  | nil => intro us r; rw [List.map_nil] at r; cases r; exact .nil
  | cons n ns ih =>
    intro us r
    rw [List.map_cons] at r
    cases r with
    | cons r1 r2 =>
      obtain ⟨t, e⟩ := r1
      subst e
      exact .cons n t (ih r2)

section
variable {X : Cx} {e : Expr} {te : TE} {lo hi : Option Expr} {tl th : TO} {pos p2 : Pos}

theorem po_none : PO X none tNoPart := by
  intro pins s σ H Q I h
  rw [evalPart_none]
  exact wpAny_pure ⟨none, H, I, .none, h⟩
theorem po_some (h : PE X e te) : PO X (some e) (tPart te) := by
  intro pins s σ H Q I hw
  rw [evalPart_some]
  refine thn (h pins s σ H _ I hw) fun u s1 ⟨x, H1, I1, r1, q1⟩ => ?_
  obtain ⟨i, rfl, q⟩ := q1
  obtain ⟨t, rfl⟩ := r1
  exact ⟨some i, H1, I1, .int i t, q⟩

/-- what a slice of a value is, by values: the slice object stands at sl -/
def SlR (X : Cx) (r : V → Option Int → Option Int → Hp → VK → Prop) : Prop :=
  ∀ (pins : List (Addr × Obj)) (s : Shared) (σ : St) (H : Hp) (x : V) (v vl vu : Value) (lo hi : Option Int) (sl : Addr) (Q : VK), Inv X pins σ H s → RelV x v → s.heap.IsSliceOf sl vl vu .none → IsPart vl lo → IsPart vu hi → r x lo hi H Q →
    ∃ T id, typeLookup (.type T) "__getitem__" = pure (some (.builtin id)) ∧ s.TypeIs v T ∧ wpAny (model X.prog X.w) X.A (getItem v (.ref sl)) (EP X pins σ Q) X.xe s
theorem SlR.or {r r' : V → Option Int → Option Int → Hp → VK → Prop} (h : SlR X r) (h' : SlR X r') : SlR X (fun x lo hi H Q => r x lo hi H Q ∨ r' x lo hi H Q) := by
  intro pins s σ H x v vl vu lo hi sl Q I rx hs pl pu q
  rcases q with q | q
  · exact h pins s σ H x v vl vu lo hi sl Q I rx hs pl pu q
  · exact h' pins s σ H x v vl vu lo hi sl Q I rx hs pl pu q
def tSl (r : V → Option Int → Option Int → Hp → VK → Prop) (te : TE) (tl th : TO) : TE := fun σ H Q => te σ H fun x H1 => tl σ H1 fun l H2 => th σ H2 fun u H3 => r x l u H3 Q
/-- a[lo:hi], any a -/
theorem pe_slice {r : V → Option Int → Option Int → Hp → VK → Prop} (hr : SlR X r) (he : PE X e te) (hl : PO X lo tl) (hu : PO X hi th) : PE X (.Subscript e (.Slice lo hi none p2) pos) (tSl r te tl th) := by
  intro pins s σ H Q I h
  refine Subscript_ (thn (he pins s σ H _ I h) fun v s1 ⟨x, H1, I1, r1, q1⟩ => ?_)
  refine wpAny_Slice (thn (hl pins s1 σ H1 _ I1 q1) fun vl s2 ⟨l, H2, I2, pl, q2⟩ => thn (hu pins s2 σ H2 _ I2 q2) fun vu s3 ⟨u, H3, I3, pu, q3⟩ => ?_)
  rw [evalPart_none]
  refine wpAny_pure ?_
  have I4 : Inv X pins σ H3 { s3 with heap := s3.heap.push { cls := .type "slice", data := .fields #[vl, vu, .none] } } := I3.kept (t' := s3.toks) fun b ob q => Heap.get?_push_of_some _ q
  obtain ⟨T, id, hT, ht, hg⟩ := hr pins { s3 with heap := s3.heap.push { cls := .type "slice", data := .fields #[vl, vu, .none] } } σ H3 x v vl vu l u s3.heap.objs.size Q I4 r1 (Heap.IsSliceOf.new ..) pl pu q3
  show wpAny (model X.prog X.w) X.A (subscriptTail e (.Slice lo hi none p2) v (.ref s3.heap.objs.size)) (EP X pins σ Q) X.xe { s3 with heap := s3.heap.push { cls := .type "slice", data := .fields #[vl, vu, .none] } }
  exact tail_any (ops := [.ref s3.heap.objs.size, v]) ht hT hg (by with_unfolding_all rfl)

/-- the items of xs[lo:hi] -/
def cutV (xs : List V) (lo hi : Option Int) : List V := (xs.drop (HT.sIx xs.length 0 lo)).take (HT.sIx xs.length xs.length hi - HT.sIx xs.length 0 lo)
theorem cutV_length (xs : List V) (lo hi : Option Int) : (cutV xs lo hi).length ≤ xs.length := by
  unfold cutV
  rw [List.length_take, List.length_drop]
  omega
/-- t[lo:hi], not the whole of it (the whole would be t itself) -/
def rSlT (K : PySem.W.Frag) : V → Option Int → Option Int → Hp → VK → Prop := fun x lo hi H Q => ∃ a xs, x = .ref a ∧ SqT K H a xs ∧
  ¬ (HT.sIx xs.length 0 lo = 0 ∧ HT.sIx xs.length xs.length hi = xs.length) ∧ ∀ p, H p = none → Q (.ref p) (upd H p (.tup (cutV xs lo hi)))
theorem sl_tup : SlR X (rSlT X.K) := by
  intro pins s σ H x v vl vu lo hi sl Q I rx hs pl pu h
  obtain ⟨a, xs, rfl, hx, hw, q⟩ := h
  cases rx
  obtain ⟨its, r, ht, hz⟩ := I.tuple hx
  have hlen : its.toArray.size = xs.length := by rw [List.size_toArray]; exact r.length.symm
  refine ⟨"tuple", _, PyProof.Rows.slot_tuple_getitem.lookup, ht.typeIs, ?_⟩
  refine HT.getItem_tuple_cut ht hs pl pu (by rw [hlen]; exact hw) ?_ (by rw [hlen]; exact hz)
  rw [hlen]
  refine ⟨.ref s.heap.objs.size, _, I.laid (t' := s.toks) (o := .tup (cutV xs lo hi)) (fun b ob q => Heap.get?_push_of_some _ q) (Nat.le_refl _) ?_, rfl, q _ (I.hok.fresh (Nat.le_refl _))⟩
  exact ⟨Nat.le_trans (cutV_length xs lo hi) hz, _, (r.drop (HT.sIx xs.length 0 lo)).take (HT.sIx xs.length xs.length hi - HT.sIx xs.length 0 lo), IsTup.new _ _⟩

/-! ### t < u, t + u -/
def rLtT (K : PySem.W.Frag) : R2 := fun x y H Q => ∃ a b ns ms, x = .ref a ∧ y = .ref b ∧ SqT K H a (ns.map V.int) ∧ SqT K H b (ms.map V.int) ∧ Q (.bl (HT.lexLt ns ms)) H
theorem op_ltT (hu : X.A.units < cLine) : OpR X (compareOp .Lt) (rLtT X.K) := by
  intro pins s σ H x y v u Q I rx ry h
  obtain ⟨a, b, ns, ms, rfl, rfl, ha, hb, q⟩ := h
  cases rx
  cases ry
  obtain ⟨its, r1, p1, _⟩ := I.tuple ha
  obtain ⟨its2, r2, p2, _⟩ := I.tuple hb
  have i1 : IntsAre its.toArray.toList ns := intsAre_of r1
  have i2 : IntsAre its2.toArray.toList ms := intsAre_of r2
  exact HT.lt_tupInts p1 p2 i1 i2 hu ⟨.bl (HT.lexLt ns ms), H, I, rfl, q⟩
/-- t + u, t not empty: u empty gives t itself -/
def rCatT (K : PySem.W.Frag) : R2 := fun x y H Q => ∃ a b xs ys, x = .ref a ∧ y = .ref b ∧ SqT K H a xs ∧ SqT K H b ys ∧ xs ≠ [] ∧ xs.length + ys.length ≤ sizeLine ∧
  (ys = [] → Q (.ref a) H) ∧ (ys ≠ [] → ∀ p, H p = none → Q (.ref p) (upd H p (.tup (xs ++ ys))))
theorem Vals.nil_iff {xs : List V} {us : List Value} (r : Vals xs us) : us = [] ↔ xs = [] := by
  cases r with
  | nil => simp
  | cons _ _ => simp
theorem op_catT : OpR X (binaryOp .Add) (rCatT X.K) := by
  intro pins s σ H x y v u Q I rx ry h
  obtain ⟨a, b, xs, ys, rfl, rfl, ha, hb, hx, hz, q1, q2⟩ := h
  cases rx
  cases ry
  obtain ⟨its, r1, p1, _⟩ := I.tuple ha
  obtain ⟨its2, r2, p2, _⟩ := I.tuple hb
  refine HT.cat_tup p1 p2 (fun z => hx (r1.nil_iff.mp z)) (fun z => ⟨.ref a, H, I, rfl, q1 (r2.nil_iff.mp z)⟩) (fun z => ?_) (by rw [← r1.length, ← r2.length]; exact hz)
  refine ⟨.ref s.heap.objs.size, _, I.laid (t' := s.toks) (o := .tup (xs ++ ys)) (fun b ob q => Heap.get?_push_of_some _ q) (Nat.le_refl _) ?_, rfl, q2 (fun w => z (r2.nil_iff.mpr w)) _ (I.hok.fresh (Nat.le_refl _))⟩
  exact ⟨by rw [List.length_append]; exact hz, _, r1.append r2, IsTup.new _ _⟩
/-- tuple(t) -/
theorem call_tupleT : CallR X (.type "tuple") (fun xs H Q => ∃ a ys, xs = [.ref a] ∧ SqT X.K H a ys ∧ Q (.ref a) H) := by
  intro pins s σ H xs us Q I r h
  obtain ⟨a, ys, rfl, ha, q⟩ := h
  obtain ⟨u, rfl, ru⟩ := vals1 r
  cases ru
  obtain ⟨its, _, p1, _⟩ := I.tuple ha
  exact call_tuple_same (items := its.toArray) p1 ⟨.ref a, H, I, rfl, q⟩
end
end L2

namespace L2
open PySem PySem.Spec PyProof.Rows

/-! ### places -/
/-- the place that an index of any sign means -/
def ixN (n : Nat) (i : Int) : Option Nat := if 0 ≤ i then (if i < n then some i.toNat else none) else if -(n : Int) ≤ i then some (i + n).toNat else none
def atI {α : Type} (xs : List α) (i : Int) : Option α := (ixN xs.length i).bind fun j => xs[j]?
theorem ixN_seq {n : Nat} {i : Int} {j : Nat} (h : ixN n i = some j) : seqIndex? i n = some j ∧ j < n ∧ -(n : Int) ≤ i ∧ i < n := by
  unfold ixN at h
  by_cases h0 : 0 ≤ i
  · rw [if_pos h0] at h
    by_cases h1 : i < n
    · rw [if_pos h1] at h
      have e : i.toNat = j := Option.some.inj h
      exact ⟨by rw [seqIndex_of h0 h1, e], by omega, by omega, h1⟩
    · rw [if_neg h1] at h; cases h
  · rw [if_neg h0] at h
    by_cases h1 : -(n : Int) ≤ i
    · rw [if_pos h1] at h
      have e : (i + n).toNat = j := Option.some.inj h
      exact ⟨by rw [seqIndex_neg (by omega) h1, e], by omega, h1, by omega⟩
    · rw [if_neg h1] at h; cases h
theorem atI_get {α : Type} {xs : List α} {i : Int} {v : α} (h : atI xs i = some v) : ∃ j, seqIndex? i xs.length = some j ∧ xs[j]? = some v ∧ j < xs.length ∧ -(xs.length : Int) ≤ i ∧ i < xs.length := by
  unfold atI at h
  cases e : ixN xs.length i with
  | none => rw [e] at h; cases h
  | some j =>
    rw [e] at h
    obtain ⟨h1, h2, h3, h4⟩ := ixN_seq e
    exact ⟨j, h1, h, h2, h3, h4⟩
theorem atI_nat {α : Type} {xs : List α} {j : Nat} {v : α} (h : xs[j]? = some v) : atI xs (j : Int) = some v := by
  have hj : j < xs.length := (List.getElem?_eq_some_iff.mp h).1
  have e : ixN xs.length (j : Int) = some j := by
    unfold ixN
    rw [if_pos (by omega), if_pos (by omega)]; simp
  unfold atI; rw [e]; exact h
theorem atI_last {α : Type} (xs : List α) (v : α) : atI (xs ++ [v]) (-1) = some v := by
  have hl : (xs ++ [v]).length = xs.length + 1 := by simp
  have e : ixN (xs ++ [v]).length (-1) = some xs.length := by
    unfold ixN
    rw [hl, if_neg (by decide), if_pos (by omega)]
    congr 1
    omega
  unfold atI
  rw [e]
  show (xs ++ [v])[xs.length]? = some v
  simp

/-! ### what may be subscripted -/
/-- what stands as an index of a plain subscript -/
def PlainIx (b : Expr) : Prop := ∀ o i, subscripted b false o i = operate [o, i] (getItem o i)
/-- a subscript by values -/
def IxR (X : Cx) (r : R2) : Prop :=
  ∀ (value slice : Expr) (pins : List (Addr × Obj)) (s : Shared) (σ : St) (H : Hp) (x y : V) (v u : Value) (Q : VK), Inv X pins σ H s → RelV x v → RelV y u → r x y H Q →
    subscripted slice false v u = operate [v, u] (getItem v u) → wpAny (model X.prog X.w) X.A (subscriptTail value slice v u) (EP X pins σ Q) X.xe s
/-- a call of a builtin's method by values: the receiver, the arguments -/
def MtR (X : Cx) (id : String) (r : V → List V → Hp → VK → Prop) : Prop :=
  ∀ (pins : List (Addr × Obj)) (s : Shared) (σ : St) (H : Hp) (x : V) (xs : List V) (v : Value) (us : List Value) (Q : VK), Inv X pins σ H s → RelV x v → Vals xs us → r x xs H Q →
    wpAny (model X.prog X.w) X.A (call (.builtin id) (v :: us)) (EP X pins σ Q) X.xe s
section
variable {X : Cx} {a b : Expr} {ta tb : TE} {pos : Pos}
theorem IxR.or {r r' : R2} (h : IxR X r) (h' : IxR X r') : IxR X (fun x y H Q => r x y H Q ∨ r' x y H Q) := by
  intro value slice pins s σ H x y v u Q I rx ry q hs
  rcases q with q | q
  · exact h value slice pins s σ H x y v u Q I rx ry q hs
  · exact h' value slice pins s σ H x y v u Q I rx ry q hs
theorem MtR.or {id : String} {r r' : V → List V → Hp → VK → Prop} (h : MtR X id r) (h' : MtR X id r') : MtR X id (fun x xs H Q => r x xs H Q ∨ r' x xs H Q) := by
  intro pins s σ H x xs v us Q I rx rs q
  rcases q with q | q
  · exact h pins s σ H x xs v us Q I rx rs q
  · exact h' pins s σ H x xs v us Q I rx rs q
/-- a[b] -/
theorem pe_ix {r : R2} (hr : IxR X r) (ha : PE X a ta) (hb : PE X b tb) (hs : PlainIx b) : PE X (.Subscript a b pos) (tOp r ta tb) := by
  intro pins s σ H Q I h
  exact Subscript_ (binT ha hb I h fun v u s2 x y H2 I2 rx ry q => hr a b pins s2 σ H2 x y v u Q I2 rx ry q (hs _ _))

def rIxL (K : PySem.W.Frag) : R2 := fun x y H Q => ∃ p xs i v, x = .ref p ∧ y = .int i ∧ SqL K H p xs ∧ atI xs i = some v ∧ Q v H
def rIxT (K : PySem.W.Frag) : R2 := fun x y H Q => ∃ p xs i v, x = .ref p ∧ y = .int i ∧ SqT K H p xs ∧ atI xs i = some v ∧ Q v H
def rIxS : R2 := fun x y H Q => ∃ z i c, x = .str z ∧ y = .int i ∧ z.length ≤ sizeLine ∧ atI z.cps.toList i = some c ∧ Q (.str ⟨#[c]⟩) H
theorem ix_list : IxR X (rIxL X.K) := by
  intro value slice pins s σ H x y v u Q I rx ry h hs
  obtain ⟨p, xs, i, z, rfl, rfl, hq, he, q⟩ := h
  cases rx
  obtain ⟨t, rfl⟩ := ry
  obtain ⟨its, r, pl, hz⟩ := I.list hq
  obtain ⟨j, h1, h2, h3, h4, h5⟩ := atI_get he
  obtain ⟨w, ew, rw'⟩ := r.get h2
  have hl := r.length
  have hn := line63
  have fin : EP X pins σ Q w s := ⟨z, H, I, rw', q⟩
  by_cases h0 : 0 ≤ i
  · have hj : i.toNat = j := by
      rw [seqIndex_of h0 h5] at h1
      exact Option.some.inj h1
    exact item_listR pl.isList h0 (by omega) (by rw [hj]; simpa using ew) fin hs
  · have hj : (i + (its.toArray.size : Int)).toNat = j := by
      rw [seqIndex_neg (by omega) h4] at h1
      rw [List.size_toArray, ← hl]
      exact Option.some.inj h1
    exact subscriptTail_builtinR (x := w) pl.isList.typeIs slot_list_getitem.lookup
      (wpAny_getItem_list_neg (Q := fun r s' => r = w ∧ EP X pins σ Q r s') pl.isList (by omega) (by rw [List.size_toArray] <;> omega) (by omega) (by rw [hj]; simpa using ew) ⟨rfl, fin⟩) hs
theorem ix_tup : IxR X (rIxT X.K) := by
  intro value slice pins s σ H x y v u Q I rx ry h hs
  obtain ⟨p, xs, i, z, rfl, rfl, hq, he, q⟩ := h
  cases rx
  obtain ⟨t, rfl⟩ := ry
  obtain ⟨its, r, pl, hz⟩ := I.tuple hq
  obtain ⟨j, h1, h2, h3, h4, h5⟩ := atI_get he
  obtain ⟨w, ew, rw'⟩ := r.get h2
  have hl := r.length
  have hn := line63
  have fin : EP X pins σ Q w s := ⟨z, H, I, rw', q⟩
  exact subscriptTail_builtinR (x := w) pl.typeIs slot_tuple_getitem.lookup
    (getItem_tuple (j := j) (Q := fun r s' => r = w ∧ EP X pins σ Q r s') pl (by omega) (by omega) (by rw [List.size_toArray, ← hl]; exact h1) (by simpa using ew) ⟨rfl, fin⟩) hs
theorem ix_str : IxR X rIxS := by
  intro value slice pins s σ H x y v u Q I rx ry h hs
  obtain ⟨z, i, c, rfl, rfl, hz, he, q⟩ := h
  obtain ⟨t, rfl⟩ := rx
  obtain ⟨t', rfl⟩ := ry
  obtain ⟨j, h1, h2, h3, h4, h5⟩ := atI_get he
  have hl : z.cps.toList.length = z.length := by simp [Str.length]
  rw [hl] at h1 h4 h5
  have hn := line63
  exact tail_any (typeIs_str s z t) slot_str_getitem.lookup (getItem_str (c := c) (by
    have e1 : decide (i < -(2 ^ 63 : Int)) = false := decide_eq_false (by omega)
    have e2 : decide (i ≥ 2 ^ 63) = false := decide_eq_false (by omega)
    rw [e1, e2, Bool.or_false]) (by rw [h1]; simpa using h2) ⟨.str ⟨#[c]⟩, H, I.tok _, ⟨_, rfl⟩, q⟩) hs
/-- list, tuple or str -/
def rIx (K : PySem.W.Frag) : R2 := fun x y H Q => rIxL K x y H Q ∨ rIxT K x y H Q ∨ rIxS x y H Q
theorem ix_seq : IxR X (rIx X.K) := ix_list.or (ix_tup.or ix_str)

/-! ### xs[i] = v, any sign -/
/-- the list's object behind a store -/
theorem mapSeq_set (its : List Value) (n j : Nat) (u : Value) : Obj.mapSeq (·.setIfInBounds j u) { cls := .type "list", data := .seq its.toArray n } = { cls := .type "list", data := .seq (its.set j u).toArray n } := by
  simp [Obj.mapSeq]
theorem Inv.lst {pins : List (Addr × Obj)} {σ : St} {H : Hp} {s : Shared} {p : Addr} {xs : List V} (I : Inv X pins σ H s) (h : H p = some (.lst xs)) :
    ∃ (its : List Value) (n : Nat), Vals xs its ∧ s.heap.get? p = some { cls := .type "list", data := .seq its.toArray n } ∧ xs.length ≤ sizeLine := by
  obtain ⟨z, its, n, r, e⟩ := I.hok p _ h
  exact ⟨its, n, r, e, z⟩
/-- the list at p is written by an update of its object -/
theorem Inv.lstUpd {pins : List (Addr × Obj)} {σ : St} {H : Hp} {s : Shared} {p : Addr} {xs ys : List V} {its its' : List Value} {n n' : Nat} {f : Obj → Obj} (I : Inv X pins σ H s) (h : H p = some (.lst xs))
    (ho : s.heap.get? p = some { cls := .type "list", data := .seq its.toArray n }) (hf : f { cls := .type "list", data := .seq its.toArray n } = { cls := .type "list", data := .seq its'.toArray n' }) (r : Vals ys its') (hz : ys.length ≤ sizeLine) (t : Nat) :
    Inv X pins σ (upd H p (.lst ys)) { s with heap := s.heap.update p f, toks := t } := by
  have e : (s.heap.update p f).get? p = some { cls := .type "list", data := .seq its'.toArray n' } := by
    rw [Heap.get?_update_self f ho (by rw [hf] <;> rfl), hf]
  refine I.write (x := p) (e := p) (by rw [h]; trivial) (.inl rfl) (fun b u hb q => (Heap.get?_update_other _ _ (Ne.symm hb)).trans q) ⟨_, e⟩ ?_
  exact ⟨hz, its', n', r, e⟩
def rSetL : V → V → V → Hp → (Hp → Prop) → Prop := fun o i v H Q => ∃ p xs k j, o = .ref p ∧ i = .int k ∧ H p = some (.lst xs) ∧ ixN xs.length k = some j ∧ Q (upd H p (.lst (xs.set j v)))
theorem set_list : PSet X rSetL := by
  intro pins s σ H o i v ov iv u Q I ro ri rv h
  obtain ⟨p, xs, k, j, rfl, rfl, hp, hj, q⟩ := h
  cases ro
  obtain ⟨t, rfl⟩ := ri
  obtain ⟨its, n, r, ho, hz⟩ := I.lst hp
  obtain ⟨h1, h2, h3, h4⟩ := ixN_seq hj
  have hl := r.length
  have hn := line63
  have I' : Inv X pins σ (upd H p (.lst (xs.set j v))) { s with heap := s.heap.update p (Obj.mapSeq (·.setIfInBounds j u)) } :=
    I.lstUpd hp ho (mapSeq_set its n j u) (r.set rv j) (by rw [List.length_set]; exact hz) s.toks
  by_cases h0 : 0 ≤ k
  · have hk : k.toNat = j := by
      rw [seqIndex_of h0 h4] at h1
      exact Option.some.inj h1
    exact PySem.W.ki_setAt ho h0 (by omega) (by rw [List.size_toArray, ← hl]; exact h4) (by rw [hk]; exact ⟨_, I', q⟩)
  · have hk : (k + (its.toArray.size : Int)).toNat = j := by
      rw [seqIndex_neg (by omega) h3] at h1
      rw [List.size_toArray, ← hl]
      exact Option.some.inj h1
    exact PySem.W.ki_setBack ho (by omega) (by rw [List.size_toArray, ← hl]; exact h3) (by omega) (by rw [hk]; exact ⟨_, I', q⟩)

/-! ### slices -/
theorem slice_bounds (lo hi : Option Int) (n : Nat) : (sliceBounds lo hi none n).1 = ((HT.sIx n 0 lo : Nat) : Int) ∧ (sliceBounds lo hi none n).2.1 = ((HT.sIx n n hi : Nat) : Int) ∧ (sliceBounds lo hi none n).2.2 = 1 := by
  refine ⟨?_, ?_, rfl⟩
  · cases lo with
    | none => simp [sliceBounds, HT.sIx]
    | some i =>
      simp only [sliceBounds, HT.sIx, Option.getD_none, show (1 : Int) > 0 by decide, if_true]
      by_cases h : i < 0
      · simp only [h, if_true] <;> omega
      · simp only [h, if_false] <;> omega
  · cases hi with
    | none => simp [sliceBounds, HT.sIx]
    | some i =>
      simp only [sliceBounds, HT.sIx, Option.getD_none, show (1 : Int) > 0 by decide, if_true]
      by_cases h : i < 0
      · simp only [h, if_true] <;> omega
      · simp only [h, if_false] <;> omega
theorem slicePick_cut (its : List Value) (lo hi : Option Int) : slicePick its.toArray lo hi none = ((its.drop (HT.sIx its.length 0 lo)).take (HT.sIx its.length its.length hi - HT.sIx its.length 0 lo)).toArray := by
  obtain ⟨h1, h2, h3⟩ := slice_bounds lo hi its.toArray.size
  unfold slicePick
  rw [h1, h2, h3]
  simp only [sliceRange_one, pick_run, List.size_toArray] <;> rfl
/-- xs[lo:hi] of a list: a new list -/
def rSlL (K : PySem.W.Frag) : V → Option Int → Option Int → Hp → VK → Prop := fun x lo hi H Q => ∃ a xs, x = .ref a ∧ SqL K H a xs ∧ ∀ p, H p = none → Q (.ref p) (upd H p (.lst (cutV xs lo hi)))
theorem sl_list : SlR X (rSlL X.K) := by
  intro pins s σ H x v vl vu lo hi sl Q I rx hs pl pu h
  obtain ⟨a, xs, rfl, hx, q⟩ := h
  cases rx
  obtain ⟨its, r, ht, hz⟩ := I.list hx
  have hlen := r.length
  refine ⟨"list", _, slot_list_getitem.lookup, ht.isList.typeIs, ?_⟩
  refine wpAny_getItem_list_slice ht.isList hs pl pu .none (by simp) ?_ (by rw [List.size_toArray] <;> omega)
  rw [slicePick_cut, ← hlen]
  refine ⟨.ref s.heap.objs.size, _, I.laid (t' := s.toks) (o := .lst (cutV xs lo hi)) (fun b ob q => Heap.get?_push_of_some _ q) (Nat.le_refl _) ?_, rfl, q _ (I.hok.fresh (Nat.le_refl _))⟩
  exact ⟨Nat.le_trans (cutV_length xs lo hi) hz, _, 0, (r.drop (HT.sIx xs.length 0 lo)).take (HT.sIx xs.length xs.length hi - HT.sIx xs.length 0 lo), Heap.get?_push_size _ rfl⟩

/-! ### in, not in: flat items -/
def flatV : V → Bool
  | .non => true
  | .bl _ => true
  | .int _ => true
  | .str _ => true
  | _ => false
/-- == of flat values -/
def eqV : V → V → Bool
  | .non, .non => true
  | .bl a, .bl b => a == b
  | .bl a, .int b => (if a then 1 else 0) == b
  | .int a, .bl b => a == (if b then 1 else 0)
  | .int a, .int b => a == b
  | .str a, .str b => a == b
  | _, _ => false
theorem eqAt_V {A : Around} {s : Shared} {y x : V} {u v : Value} (ry : RelV y u) (rx : RelV x v) (fy : flatV y = true) (fx : flatV x = true) : SeqAt.EqAt A s u v (eqV y x) := by
  cases y with
  | non =>
    cases ry
    cases x with
    | non => cases rx; exact SeqAt.EqAt.same _
    | bl b => cases rx; exact SeqAt.EqAt.none_bool b
    | int b => obtain ⟨t, rfl⟩ := rx; exact SeqAt.EqAt.none_int b t
    | str b => obtain ⟨t, rfl⟩ := rx; exact SeqAt.EqAt.none_str b t
    | _ => exact absurd (show false = true from fx) Bool.false_ne_true
  | bl a =>
    cases ry
    cases x with
    | non => cases rx; exact SeqAt.EqAt.bool_none a
    | bl b => cases rx; exact SeqAt.EqAt.bool_bool a b
    | int b => obtain ⟨t, rfl⟩ := rx; exact SeqAt.EqAt.bool_int a b t
    | str b => obtain ⟨t, rfl⟩ := rx; exact SeqAt.EqAt.bool_str a b t
    | _ => exact absurd (show false = true from fx) Bool.false_ne_true
  | int a =>
    obtain ⟨t', rfl⟩ := ry
    cases x with
    | non => cases rx; exact SeqAt.EqAt.int_none a t'
    | bl b => cases rx; exact SeqAt.EqAt.int_bool a t' b
    | int b => obtain ⟨t, rfl⟩ := rx; exact SeqAt.EqAt.int_int a t' b t
    | str b => obtain ⟨t, rfl⟩ := rx; exact SeqAt.EqAt.int_str a t' b t
    | _ => exact absurd (show false = true from fx) Bool.false_ne_true
  | str a =>
    obtain ⟨t', rfl⟩ := ry
    cases x with
    | non => cases rx; exact SeqAt.EqAt.str_none a t'
    | bl b => cases rx; exact SeqAt.EqAt.str_bool a t' b
    | int b => obtain ⟨t, rfl⟩ := rx; exact SeqAt.EqAt.str_int a t' b t
    | str b => obtain ⟨t, rfl⟩ := rx; exact SeqAt.EqAt.str_str a t' b t
    | _ => exact absurd (show false = true from fx) Bool.false_ne_true
  | _ => exact absurd (show false = true from fy) Bool.false_ne_true
/-- the items' answers, read off the values (a value's own answer does not lean on its token) -/
def eqU (x : V) (u : Value) : Bool := match u with
  | .none => eqV .non x
  | .bool b => eqV (.bl b) x
  | .int i _ => eqV (.int i) x
  | .str z _ => eqV (.str z) x
  | _ => false
theorem eqU_of {x y : V} {u : Value} (r : RelV y u) (f : flatV y = true) : eqU x u = eqV y x := by
  cases y with
  | non => cases r; rfl
  | bl b => cases r; rfl
  | int i => obtain ⟨t, rfl⟩ := r; rfl
  | str z => obtain ⟨t, rfl⟩ := r; rfl
  | _ => exact absurd (show false = true from f) Bool.false_ne_true
theorem any_eqU {x : V} : ∀ {xs : List V} {us : List Value}, Vals xs us → xs.all flatV = true → us.any (eqU x) = xs.any fun y => eqV y x
  | _, _, .nil, _ => rfl
  | y :: xs, u :: us, .cons r t, f => by
    rw [List.all_cons, Bool.and_eq_true] at f
    rw [List.any_cons, List.any_cons, eqU_of r f.1, any_eqU t f.2]
theorem mem_eqAt {A : Around} {s : Shared} {x : V} {v : Value} (rx : RelV x v) (fx : flatV x = true) : ∀ {xs : List V} {us : List Value}, Vals xs us → xs.all flatV = true → ∀ u ∈ us, SeqAt.EqAt A s u v (eqU x u)
  | _, _, .nil, _ => fun u hu => by cases hu
  | y :: xs, u :: us, .cons r t, f => fun u' hu => by
    rw [List.all_cons, Bool.and_eq_true] at f
    rcases List.mem_cons.mp hu with rfl | hu
    · rw [eqU_of r f.1]; exact eqAt_V r rx f.1 fx
    · exact mem_eqAt rx fx t f.2 u' hu
def inV (x : V) (xs : List V) : Bool := xs.any fun y => eqV y x
/-- x in a list or tuple of flat items -/
def rIn (K : PySem.W.Frag) (neg : Bool) : R2 := fun x y H Q => ∃ p xs, y = .ref p ∧ (SqL K H p xs ∨ SqT K H p xs) ∧ flatV x = true ∧ xs.all flatV = true ∧ Q (.bl (if neg then !inV x xs else inV x xs)) H
theorem op_in_seq : OpR X (compareOp .In) (rIn X.K false) := by
  intro pins s σ H x y v u Q I rx ry h
  obtain ⟨p, xs, rfl, hq, fx, fs, q⟩ := h
  cases ry
  rcases hq with hq | hq
  · obtain ⟨its, r, pl, hz⟩ := I.list hq
    refine SeqAt.in_listAt (eqU x) pl.isList (fun w hw => mem_eqAt rx fx r fs w (by simpa using hw)) ⟨.bl _, H, I, rfl, ?_⟩
    rw [show its.toArray.any (eqU x) = its.any (eqU x) by simp, any_eqU r fs]
    exact q
  · obtain ⟨its, r, pl, hz⟩ := I.tuple hq
    refine SeqAt.in_tupleAt (eqU x) pl (fun w hw => mem_eqAt rx fx r fs w (by simpa using hw)) ⟨.bl _, H, I, rfl, ?_⟩
    rw [show its.toArray.any (eqU x) = its.any (eqU x) by simp, any_eqU r fs]
    exact q
theorem op_notIn_seq : OpR X (compareOp .NotIn) (rIn X.K true) := by
  intro pins s σ H x y v u Q I rx ry h
  obtain ⟨p, xs, rfl, hq, fx, fs, q⟩ := h
  cases ry
  rcases hq with hq | hq
  · obtain ⟨its, r, pl, hz⟩ := I.list hq
    refine SeqAt.notIn_listAt (eqU x) pl.isList (fun w hw => mem_eqAt rx fx r fs w (by simpa using hw)) ⟨.bl _, H, I, rfl, ?_⟩
    rw [show its.toArray.any (eqU x) = its.any (eqU x) by simp, any_eqU r fs]
    exact q
  · obtain ⟨its, r, pl, hz⟩ := I.tuple hq
    refine SeqAt.notIn_tupleAt (eqU x) pl (fun w hw => mem_eqAt rx fx r fs w (by simpa using hw)) ⟨.bl _, H, I, rfl, ?_⟩
    rw [show its.toArray.any (eqU x) = its.any (eqU x) by simp, any_eqU r fs]
    exact q
theorem op_notIn_str : OpR X (compareOp .NotIn) (fun x y H Q => ∃ i j, x = .str i ∧ y = .str j ∧ Q (.bl (!(!(Builtin.Str.occurrences j i 0 j.length 1).isEmpty))) H) := by
  intro pins s σ H x y v u Q I rx ry h
  obtain ⟨i, j, rfl, rfl, q⟩ := h
  obtain ⟨t, rfl⟩ := rx
  obtain ⟨t', rfl⟩ := ry
  exact notIn_str ⟨.bl _, H, I, rfl, q⟩

/-! ### len, list(x), tuple(x) of any list or tuple that is read -/
theorem call_len_seq : CallR X (.builtin "len") (fun xs H Q => ∃ p ys, xs = [.ref p] ∧ (SqL X.K H p ys ∨ SqT X.K H p ys) ∧ Q (.int ys.length) H) := by
  intro pins s σ H xs us Q I r h
  obtain ⟨p, ys, rfl, hq, q⟩ := h
  obtain ⟨u, rfl, rx⟩ := vals1 r
  cases rx
  have hn := line63
  rcases hq with hq | hq
  · obtain ⟨its, r', pl, hz⟩ := I.list hq
    have hlen := r'.length
    exact Calls.call_len_list pl.isList (by simp only [List.size_toArray] <;> omega) ⟨.int ys.length, H, I.tok _, ⟨s.toks + 1, by rw [List.size_toArray, hlen]⟩, q⟩
  · obtain ⟨its, r', pl, hz⟩ := I.tuple hq
    have hlen := r'.length
    exact len_tuple pl (by simp only [List.size_toArray] <;> omega) ⟨.int ys.length, H, I.tok _, ⟨s.toks + 1, by rw [List.size_toArray, hlen]⟩, q⟩
theorem call_len_str : CallR X (.builtin "len") (fun xs H Q => ∃ z, xs = [.str z] ∧ z.length ≤ sizeLine ∧ Q (.int z.length) H) := by
  intro pins s σ H xs us Q I r h
  obtain ⟨z, rfl, hz, q⟩ := h
  obtain ⟨u, rfl, t, rfl⟩ := vals1 r
  have hn := line63
  exact len_str (by omega) ⟨.int z.length, H, I.tok _, ⟨_, rfl⟩, q⟩
theorem CallR.or {f : Value} {r r' : List V → Hp → VK → Prop} (h : CallR X f r) (h' : CallR X f r') : CallR X f (fun xs H Q => r xs H Q ∨ r' xs H Q) := by
  intro pins s σ H xs us Q I rs q
  rcases q with q | q
  · exact h pins s σ H xs us Q I rs q
  · exact h' pins s σ H xs us Q I rs q
theorem call_list_of : CallR X (.type "list") (fun xs H Q => ∃ p ys, xs = [.ref p] ∧ (SqL X.K H p ys ∨ SqT X.K H p ys) ∧ ∀ l, H l = none → Q (.ref l) (upd H l (.lst ys))) := by
  intro pins s σ H xs us Q I r h
  obtain ⟨p, ys, rfl, hq, q⟩ := h
  obtain ⟨u, rfl, rx⟩ := vals1 r
  cases rx
  have fin : ∀ (its : List Value), Vals ys its → ys.length ≤ sizeLine → ∀ (h' : Heap) (c' : Nat), (∀ b o', s.heap.get? b = some o' → h'.get? b = some o') →
      h'.get? s.heap.objs.size = some { cls := .type "list", dict := none, data := .seq its.toArray c', slots := #[] } → EP X pins σ Q (.ref s.heap.objs.size) { s with heap := h' } := fun its r' hz h' c' kp e =>
    ⟨.ref s.heap.objs.size, _, I.laid (t' := s.toks) kp (Nat.le_refl _) (show ObjOk X.prog X.w _ h' _ (.lst ys) from ⟨hz, its, c', r', e⟩), rfl, q _ (I.hok.fresh (Nat.le_refl _))⟩
  rcases hq with hq | hq
  · obtain ⟨its, r', pl, hz⟩ := I.list hq
    have hlen := r'.length
    obtain ⟨o, ho, hc, n, hd⟩ := pl.isList
    exact call_list_seq p (.inl rfl) ho hc hd (fun h' c' kp e => fin its r' hz h' c' kp e) (by simp only [List.size_toArray] <;> omega)
  · obtain ⟨its, r', pl, hz⟩ := I.tuple hq
    have hlen := r'.length
    obtain ⟨o, ho, hc, n, hd⟩ := pl
    exact call_list_seq p (.inr rfl) ho hc hd (fun h' c' kp e => fin its r' hz h' c' kp e) (by simp only [List.size_toArray] <;> omega)
theorem call_tuple_of : CallR X (.type "tuple") (fun xs H Q => ∃ p ys, xs = [.ref p] ∧ ((SqL X.K H p ys ∧ ∀ l, H l = none → Q (.ref l) (upd H l (.tup ys))) ∨ (SqT X.K H p ys ∧ Q (.ref p) H))) := by
  intro pins s σ H xs us Q I r h
  obtain ⟨p, ys, rfl, h⟩ := h
  obtain ⟨u, rfl, rx⟩ := vals1 r
  cases rx
  rcases h with ⟨hq, q⟩ | ⟨hq, q⟩
  · obtain ⟨its, r', pl, hz⟩ := I.list hq
    have hlen := r'.length
    refine call_tuple_list pl.isList (fun h' kp => ?_) (by simp only [List.size_toArray] <;> omega)
    have I1 : Inv X pins σ H { s with heap := h' } := I.kept (t' := s.toks) kp
    have I2 : Inv X pins σ (upd H h'.objs.size (.tup ys)) { s with heap := h'.push { cls := .type "tuple", data := .seq its.toArray } } :=
      I1.laid (t' := s.toks) (fun b o e => Heap.get?_push_of_some _ e) (Nat.le_refl _) (show ObjOk X.prog X.w _ _ _ (.tup ys) from ⟨hz, its, r', IsTup.new _ _⟩)
    exact ⟨.ref h'.objs.size, _, I2, rfl, q _ (I1.hok.fresh (Nat.le_refl _))⟩
  · obtain ⟨its, r', pl, hz⟩ := I.tuple hq
    exact call_tuple_same pl ⟨.ref p, H, I, rfl, q⟩

/-! ### the call of a builtin's method: o.m(..) -/
/-- the value is of that builtin type -/
def tyV (K : PySem.W.Frag) (T : String) (x : V) (H : Hp) : Prop := match x with
  | .str _ => T = "str"
  | .int _ => T = "int"
  | .ref p => (T = "list" ∧ ∃ xs, SqL K H p xs) ∨ (T = "tuple" ∧ ∃ o, K.lookup p = some o ∧ o.cls = .type "tuple" ∧ o.dict = none) ∨
      (T = "dict" ∧ ((∃ kvs, H p = some (.dK kvs)) ∨ ∃ kvs, H p = some (.dT kvs))) ∨ (T = "set" ∧ ∃ S n, H p = some (.set S n))
  | _ => False
theorem tyV_is {pins : List (Addr × Obj)} {σ : St} {H : Hp} {s : Shared} {T : String} {x : V} {v : Value} (I : Inv X pins σ H s) (r : RelV x v) (ty : tyV X.K T x H) :
    s.TypeIs v T ∧ ∀ a, v = .ref a → ∃ ob, s.heap.get? a = some ob ∧ ob.dict = none := by
  cases x with
  | str z =>
    obtain ⟨t, rfl⟩ := r
    cases (show T = "str" from ty)
    exact ⟨typeIs_str s z t, fun _ e => nomatch e⟩
  | int i =>
    obtain ⟨t, rfl⟩ := r
    cases (show T = "int" from ty)
    exact ⟨typeIs_int s i t, fun _ e => nomatch e⟩
  | ref p =>
    cases r
    rcases ty with ⟨rfl, xs, hq⟩ | ⟨rfl, o, hk, hc, hd⟩ | ⟨rfl, hk⟩ | ⟨rfl, S, n, hk⟩
    · obtain ⟨its, _, pl, _⟩ := I.list hq
      refine ⟨pl.isList.typeIs, fun a e => ?_⟩
      cases e
      obtain ⟨o, n, e, c, hd, _⟩ := pl
      exact ⟨o, e, hd⟩
    · refine ⟨⟨o, I.kIn p o hk, hc⟩, fun a e => ?_⟩
      cases e
      exact ⟨o, I.kIn _ o hk, hd⟩
    · have z : ∃ o, s.heap.get? p = some o ∧ o.ExactDict := by
        rcases hk with ⟨kvs, hk⟩ | ⟨kvs, hk⟩
        · obtain ⟨_, _, _, _, o, _, _, e, ex, _⟩ := I.hok p _ hk
          exact ⟨o, e, ex⟩
        · obtain ⟨_, _, _, _, o, _, _, e, ex, _⟩ := I.hok p _ hk
          exact ⟨o, e, ex⟩
      obtain ⟨o, e, ex⟩ := z
      refine ⟨⟨o, e, ex.1⟩, fun a e2 => ?_⟩
      cases e2
      exact ⟨o, e, ex.2.1⟩
    · obtain ⟨o, _, _, _, e, ex, _⟩ := I.hok p _ hk
      refine ⟨⟨o, e, ex.1⟩, fun a e2 => ?_⟩
      cases e2
      exact ⟨o, e, ex.2.1⟩
  | _ => exact False.elim ty
def tBM0 (K : PySem.W.Frag) (T : String) (r : V → List V → Hp → VK → Prop) (to : TE) : TE := fun σ H Q => to σ H fun x H1 => tyV K T x H1 ∧ r x [] H1 Q
def tBM (K : PySem.W.Frag) (T : String) (r : V → List V → Hp → VK → Prop) (to : TE) (t : TA) : TE := fun σ H Q => to σ H fun x H1 => tyV K T x H1 ∧ t σ H1 fun xs H2 => r x xs H2 Q
variable {o e : Expr} {es : List Expr} {to : TE} {t : TA} {name : Str} {apos cpos : Pos} {T id : String} {r : V → List V → Hp → VK → Prop}
theorem pe_bm0 (pa : PlainAttrs T) (slot : Slot T name id) (hty : typeOf (.builtin id) = pure (.type "method_descriptor")) (hm : MtR X id r) (ho : PE X o to)
    (hbase : attributeBase o name X.env (eval o X.env) = eval o X.env := by rfl) (hline : (apos.endLine == cpos.line) = true := by rfl) : PE X (.Call (.Attribute o name apos) [] [] cpos) (tBM0 X.K T r to) := by
  intro pins s σ H Q I h
  refine wpAny_Call_method0_late hbase hline (thn (ho pins s σ H _ I h) fun v s1 ⟨x, H1, I1, r1, ty, q1⟩ => ?_)
  obtain ⟨h1, h2⟩ := tyV_is I1 r1 ty
  exact ⟨T, id, pa, slot, hty, h1, h2, Calls.callWith_builtin rfl (PySem.evalArgs_none (hm pins s1 σ H1 x [] v [] Q I1 r1 .nil q1))⟩
theorem pe_bm (pa : PlainAttrs T) (slot : Slot T name id) (hty : typeOf (.builtin id) = pure (.type "method_descriptor")) (hm : MtR X id r) (ho : PE X o to) (ha : PA X (e :: es) t)
    (hbase : attributeBase o name X.env (eval o X.env) = eval o X.env := by rfl)
    (hfew : ((backTo cpos (starEach (e :: es) X.env)).all (fun x => !x.1) && (backToKw cpos (keywordEach [] X.env)).all (fun x => x.1.isSome)
      && decide ((e :: es).length + ([] : List Keyword).length + (if ([] : List Keyword).isEmpty then 0 else 1) < 30)) = true := by rfl)
    (hline : (apos.endLine == cpos.line) = true := by rfl) (hs : starEach (e :: es) X.env = (false, eval e X.env) :: starEach es X.env := by rfl) (hplain : (backTo cpos (starEach es X.env)).any (·.1) = false := by rfl) :
    PE X (.Call (.Attribute o name apos) (e :: es) [] cpos) (tBM X.K T r to t) := by
  intro pins s σ H Q I h
  refine wpAny_Call_method_late hbase hfew hline rfl (thn (ho pins s σ H _ I h) fun v s1 ⟨x, H1, I1, r1, ty, q1⟩ => ?_)
  obtain ⟨h1, h2⟩ := tyV_is I1 r1 ty
  refine ⟨T, id, pa, slot, hty, h1, h2, ?_⟩
  have hA := ha cpos pins s1 σ H1 _ I1 q1
  rw [hs] at hA ⊢
  refine Calls.callWith_builtin (by show (false || (backTo cpos (starEach es X.env)).any (·.1)) = false; rw [hplain] <;> rfl) (Calls.evalArgs_plain ?_)
  exact thn hA fun us s2 ⟨vs, H2, I2, r2, q2⟩ => hm pins s2 σ H2 x vs v us Q I2 r1 r2 q2
/- xs.append(e), list.index on a module's tuple .. are MtR facts of 06m -/
end
end L2

namespace L2
open PySem PySem.Spec PyProof.Rows

def MtM (X : Cx) (id : String) (r : V → List V → Hp → VK → Prop) : Prop :=
  ∀ (pins : List (Addr × Obj)) (s : Shared) (σ : St) (H : Hp) (x : V) (xs : List V) (v : Value) (us : List Value) (Q : VK), Inv X pins σ H s → RelV x v → Vals xs us → r x xs H Q →
    wpAny (model X.prog X.w) X.A (call (.builtin id) (v :: us)) (EP X pins σ Q) X.xe s

/-! ### lists of values -/
theorem Vals.one : ∀ {x : V} {us : List Value}, Vals [x] us → ∃ u, us = [u] ∧ RelV x u
  | _, _, .cons r .nil => ⟨_, rfl, r⟩
theorem Vals.two : ∀ {x y : V} {us : List Value}, Vals [x, y] us → ∃ u v, us = [u, v] ∧ RelV x u ∧ RelV y v
  | _, _, _, .cons r (.cons q .nil) => ⟨_, _, rfl, r, q⟩
theorem Vals.zero : ∀ {us : List Value}, Vals [] us → us = []
  | _, .nil => rfl
theorem Vals.dropLast {xs : List V} {us : List Value} (h : Vals xs us) : Vals xs.dropLast us.dropLast := by
  induction h with
  | nil => exact .nil
  | cons r t ih =>
    cases t with
    | nil => exact .nil
    | cons q t' => exact .cons r ih
theorem Vals.eraseIdx : ∀ {xs : List V} {us : List Value} (i : Nat), Vals xs us → Vals (xs.eraseIdx i) (us.eraseIdx i)
  | _, _, _, .nil => .nil
  | _, _, 0, .cons _ t => t
  | _, _, i + 1, .cons r t => .cons r (Vals.eraseIdx i t)
theorem Vals.reverse {xs : List V} {us : List Value} (h : Vals xs us) : Vals xs.reverse us.reverse := by
  induction h with
  | nil => exact .nil
  | cons r t ih => rw [List.reverse_cons, List.reverse_cons]; exact Vals.append ih (.cons r .nil)
theorem Vals.rep {xs : List V} {us : List Value} (h : Vals xs us) : ∀ k : Nat, Vals (List.replicate k xs).flatten (List.replicate k us).flatten
  | 0 => .nil
  | k + 1 => by
    rw [List.replicate_succ, List.replicate_succ, List.flatten_cons, List.flatten_cons]
    exact Vals.append h (Vals.rep h k)
theorem erase_last {α : Type} (l : List α) : l.eraseIdx (l.length - 1) = l.dropLast := by
  induction l with
  | nil => rfl
  | cons a r ih =>
    cases r with
    | nil => rfl
    | cons b r =>
      have e : (a :: b :: r).length - 1 = ((b :: r).length - 1) + 1 := by
        have h1 : (a :: b :: r).length = r.length + 2 := rfl
        have h2 : (b :: r).length = r.length + 1 := rfl
        omega
      rw [e, List.eraseIdx_cons_succ, ih]
      all_goals rfl
theorem len_erase {α : Type} : ∀ (l : List α) (i : Nat), (l.eraseIdx i).length ≤ l.length
  | [], _ => Nat.le_refl _
  | _ :: _, 0 => Nat.le_succ _
  | _ :: r, i + 1 => Nat.succ_le_succ (len_erase r i)
theorem foldl_rep (its : List Value) : ∀ (k : Nat) (acc : List Value),
    List.foldl (fun x1 x2 => x1 ++ x2) acc.toArray (List.replicate k its.toArray) = (acc ++ (List.replicate k its).flatten).toArray
  | 0, acc => by simp
  | k + 1, acc => by
    have e : acc.toArray ++ its.toArray = (acc ++ its).toArray := by simp
    have e2 : (acc ++ its) ++ (List.replicate k its).flatten = acc ++ (List.replicate (k + 1) its).flatten := by
      rw [List.replicate_succ, List.flatten_cons, List.append_assoc]
    rw [← e2, ← foldl_rep its k (acc ++ its), ← e, List.replicate_succ, List.foldl_cons]

section
variable {X : Cx} {pins : List (Addr × Obj)} {σ : St} {H : Hp} {s : Shared} {l b : Addr} {xs ys zs : List V}

/-! ### the two steps: a tracked list is rewritten, a new list is laid -/
theorem Inv.lset {its its' : List Value} {n : Nat} {f : Array Value → Array Value} {t' : Nat} (I : Inv X pins σ H s) (hH : H l = some (.lst xs))
    (e : s.heap.get? l = some { cls := .type "list", data := .seq its.toArray n }) (hf : f its.toArray = its'.toArray) (hv : Vals ys its') (hz : ys.length ≤ sizeLine) :
    Inv X pins σ (upd H l (.lst ys)) { s with heap := s.heap.update l (Obj.mapSeq f), toks := t' } := by
  have q := PySem.IsL.update e f
  rw [hf] at q
  refine I.write (x := l) (e := l) (by rw [hH]; exact trivial) (.inl rfl) (fun b' u hb hu => (Heap.get?_update_other s.heap (Obj.mapSeq f) (Ne.symm hb)).trans hu) ⟨_, q⟩ ?_
  exact ⟨hz, its', _, hv, q⟩
theorem Inv.lnew {its : List Value} {t' : Nat} (I : Inv X pins σ H s) (hv : Vals ys its) (hz : ys.length ≤ sizeLine) :
    Inv X pins σ (upd H s.heap.objs.size (.lst ys)) { s with heap := s.heap.push { cls := .type "list", data := .seq its.toArray }, toks := t' } :=
  I.laid (fun _ _ q => Heap.get?_push_of_some _ q) (Nat.le_refl _) ⟨hz, its, 0, hv, Heap.get?_push_size _ rfl⟩
theorem Inv.fresh (I : Inv X pins σ H s) : H s.heap.objs.size = none := I.hok.fresh (Nat.le_refl _)
theorem Inv.lstM (I : Inv X pins σ H s) (hH : H l = some (.lst xs)) : xs.length ≤ sizeLine ∧ ∃ (its : List Value) (n : Nat), Vals xs its ∧ xs.length = its.length ∧ s.heap.get? l = some { cls := .type "list", data := .seq its.toArray n } := by
  obtain ⟨z, its, n, r, e⟩ := I.hok l _ hH
  exact ⟨z, its, n, r, r.length, e⟩

theorem notLongL {n : Nat} (h : n ≤ sizeLine) : Builtin.List.listTooLong n = false := by
  unfold Builtin.List.listTooLong
  exact decide_eq_false (by omega)
end

section
variable {X : Cx}

/-! ### methods -/
def rAppend : V → List V → Hp → VK → Prop := fun x vs H Q => ∃ l xs y, x = .ref l ∧ vs = [y] ∧ H l = some (.lst xs) ∧ xs.length < sizeLine ∧ Q .non (upd H l (.lst (xs ++ [y])))
theorem mt_append : MtM X "list.append" rAppend := by
  intro pins s σ H x vs v us Q I rx rv h
  obtain ⟨l, xs, y, rfl, rfl, hH, hz, q⟩ := h
  cases rx
  obtain ⟨u, rfl, ru⟩ := rv.one
  obtain ⟨z, its, n, r, hl, e⟩ := I.lstM hH
  refine call_meets F.slot_list_append ⟨_, e, rfl⟩ F.entry_list_append (F.args_list_append_2 _ _) (PySem.list_append l its.toArray n u (by rw [List.size_toArray]; omega)) ⟨e, ?_⟩
  refine ⟨.non, _, I.lset (its' := its ++ [u]) hH e (by simp) (r.append (.cons ru .nil)) ?_, rfl, q⟩
  rw [List.length_append, List.length_singleton]
  omega

def rExtend : V → List V → Hp → VK → Prop := fun x vs H Q => ∃ l b xs zs, x = .ref l ∧ vs = [.ref b] ∧ H l = some (.lst xs) ∧ H b = some (.lst zs) ∧ xs.length + zs.length ≤ sizeLine ∧ Q .non (upd H l (.lst (xs ++ zs)))
theorem mt_extend : MtM X "list.extend" rExtend := by
  intro pins s σ H x vs v us Q I rx rv h
  obtain ⟨l, b, xs, zs, rfl, rfl, hH, hB, hz, q⟩ := h
  cases rx
  obtain ⟨u, rfl, ru⟩ := rv.one
  cases ru
  obtain ⟨z, its, n, r, hl, e⟩ := I.lstM hH
  obtain ⟨z2, its2, n2, r2, hl2, e2⟩ := I.lstM hB
  have hsz : its.toArray.size + its2.toArray.size ≤ sizeLine := by rw [List.size_toArray, List.size_toArray]; omega
  have hlong : ¬ (!its.toArray.isEmpty && Builtin.List.listTooLong (its.toArray.size + its2.toArray.size)) = true := by
    rw [notLongL hsz, Bool.and_false]
    exact Bool.false_ne_true
  refine call_meets F.slot_list_extend ⟨_, e, rfl⟩ F.entry_list_extend (F.args_list_extend_2 _ _)
    (AutoSeq1.list_extend_list_list_0 l its.toArray n b its2.toArray n2 hlong (by rw [List.size_toArray]; omega) (by omega)) ⟨e, e2, ?_⟩
  refine ⟨.non, _, I.lset (its' := its ++ its2) hH e (by simp) (r.append r2) ?_, rfl, q⟩
  rw [List.length_append]
  omega

def rPop : V → List V → Hp → VK → Prop := fun x vs H Q => ∃ l xs y, x = .ref l ∧ vs = [] ∧ H l = some (.lst xs) ∧ xs[xs.length - 1]? = some y ∧ Q y (upd H l (.lst xs.dropLast))
theorem mt_pop : MtM X "list.pop" rPop := by
  intro pins s σ H x vs v us Q I rx rv h
  obtain ⟨l, xs, y, rfl, rfl, hH, hy, q⟩ := h
  cases rx
  have hus := rv.zero
  subst hus
  obtain ⟨z, its, n, r, hl, e⟩ := I.lstM hH
  obtain ⟨u, hu, ru⟩ := r.get hy
  have hy' : its.toArray[its.toArray.size - 1]? = some u := by
    show its.toArray[its.length - 1]? = some u
    rw [← Array.getElem?_toList, ← hl]
    exact hu
  refine call_meets F.slot_list_pop ⟨_, e, rfl⟩ F.entry_list_pop (F.args_list_pop_1 _) (MeetsSeq.list_pop_last l its.toArray n u hy' (by rw [List.size_toArray]; omega)) ⟨e, ?_⟩
  refine ⟨y, _, I.lset (its' := its.dropLast) hH e ?_ r.dropLast ?_, ru, q⟩
  · show its.toArray.eraseIdxIfInBounds (its.toArray.size - 1) = its.dropLast.toArray
    rw [List.size_toArray, List.eraseIdxIfInBounds_toArray, erase_last]
  · rw [List.length_dropLast]
    omega

def rPopAt : V → List V → Hp → VK → Prop := fun x vs H Q => ∃ l xs i k y, x = .ref l ∧ vs = [.int i] ∧ H l = some (.lst xs) ∧ -(2 ^ 63) ≤ i ∧ i < 2 ^ 63 ∧ seqIndex? i xs.length = some k ∧ xs[k]? = some y ∧ Q y (upd H l (.lst (xs.eraseIdx k)))
theorem mt_popAt : MtM X "list.pop" rPopAt := by
  intro pins s σ H x vs v us Q I rx rv h
  obtain ⟨l, xs, i, k, y, rfl, rfl, hH, h1, h2, hk, hy, q⟩ := h
  cases rx
  obtain ⟨u, rfl, ru⟩ := rv.one
  obtain ⟨t, rfl⟩ := ru
  obtain ⟨z, its, n, r, hl, e⟩ := I.lstM hH
  obtain ⟨w, hw, rw'⟩ := r.get hy
  refine call_meets F.slot_list_pop ⟨_, e, rfl⟩ F.entry_list_pop (F.args_list_pop_2 _ _)
    (MeetsSeq.list_pop_at l its.toArray n i t k w (fitsIndex_both h1 h2) (by rw [List.size_toArray, ← hl]; exact hk) (by rw [← Array.getElem?_toList]; exact hw) (by rw [List.size_toArray]; omega)) ⟨e, ?_⟩
  refine ⟨y, _, I.lset (its' := its.eraseIdx k) hH e ?_ (r.eraseIdx k) ?_, rw', q⟩
  · show its.toArray.eraseIdxIfInBounds k = (its.eraseIdx k).toArray
    rw [List.eraseIdxIfInBounds_toArray]
  · have := len_erase xs k
    omega

def rReverse : V → List V → Hp → VK → Prop := fun x vs H Q => ∃ l xs, x = .ref l ∧ vs = [] ∧ H l = some (.lst xs) ∧ Q .non (upd H l (.lst xs.reverse))
theorem mt_reverse : MtM X "list.reverse" rReverse := by
  intro pins s σ H x vs v us Q I rx rv h
  obtain ⟨l, xs, rfl, rfl, hH, q⟩ := h
  cases rx
  have hus := rv.zero
  subst hus
  obtain ⟨z, its, n, r, hl, e⟩ := I.lstM hH
  refine call_meets F.slot_list_reverse ⟨_, e, rfl⟩ F.entry_list_reverse (F.args_list_reverse_1 _) (AutoSeq1.list_reverse_list_0 l its.toArray n (by rw [List.size_toArray]; omega)) ⟨e, ?_⟩
  refine ⟨.non, _, I.lset (its' := its.reverse) hH e (by simp) r.reverse ?_, rfl, q⟩
  rw [List.length_reverse]
  omega

def rClear : V → List V → Hp → VK → Prop := fun x vs H Q => ∃ l xs, x = .ref l ∧ vs = [] ∧ H l = some (.lst xs) ∧ Q .non (upd H l (.lst []))
theorem mt_clear : MtM X "list.clear" rClear := by
  intro pins s σ H x vs v us Q I rx rv h
  obtain ⟨l, xs, rfl, rfl, hH, q⟩ := h
  cases rx
  have hus := rv.zero
  subst hus
  obtain ⟨z, its, n, r, hl, e⟩ := I.lstM hH
  refine call_meets F.slot_list_clear ⟨_, e, rfl⟩ F.entry_list_clear (F.args_list_clear_1 _) (AutoSeq1.list_clear_list_0 l its.toArray n (by rw [List.size_toArray]; omega)) ⟨e, ?_⟩
  exact ⟨.non, _, I.lset (its' := []) (ys := []) hH e rfl .nil (Nat.zero_le _), rfl, q⟩

/-! ### list + list, list += list, list * int -/
def rCat : R2 := fun x y H Q => ∃ l b xs zs, x = .ref l ∧ y = .ref b ∧ H l = some (.lst xs) ∧ H b = some (.lst zs) ∧ xs.length + zs.length ≤ sizeLine ∧ ∀ p, H p = none → Q (.ref p) (upd H p (.lst (xs ++ zs)))
theorem op_cat : OpR X (binaryOp .Add) rCat := by
  intro pins s σ H x y v u Q I rx ry h
  obtain ⟨l, b, xs, zs, rfl, rfl, hH, hB, hz, q⟩ := h
  cases rx
  cases ry
  obtain ⟨z, its, n, r, hl, e⟩ := I.lstM hH
  obtain ⟨z2, its2, n2, r2, hl2, e2⟩ := I.lstM hB
  refine PySem.P.add_list e e2 ?_ (by rw [List.size_toArray, List.size_toArray]; omega)
  have ea : its.toArray ++ its2.toArray = (its ++ its2).toArray := by simp
  rw [ea]
  exact ⟨.ref _, _, I.lnew (t' := s.toks) (r.append r2) (by rw [List.length_append]; omega), rfl, q _ I.fresh⟩
/-- a list times an int (a negative one is nothing) -/
def rRep : R2 := fun x y H Q => ∃ l k xs, x = .ref l ∧ y = .int k ∧ H l = some (.lst xs) ∧ -(2 ^ 63) ≤ k ∧ k < 2 ^ 63 ∧ xs.length * k.toNat ≤ sizeLine ∧
  ∀ p, H p = none → Q (.ref p) (upd H p (.lst (List.replicate k.toNat xs).flatten))
theorem len_rep {α : Type} (xs : List α) (k : Nat) : (List.replicate k xs).flatten.length = k * xs.length := by
  induction k with
  | zero => simp
  | succ k ih => rw [List.replicate_succ, List.flatten_cons, List.length_append, ih, Nat.succ_mul, Nat.add_comm]
theorem op_rep : OpR X (binaryOp .Mult) rRep := by
  intro pins s σ H x y v u Q I rx ry h
  obtain ⟨l, k, xs, rfl, rfl, hH, h1, h2, hz, q⟩ := h
  cases rx
  obtain ⟨t, rfl⟩ := ry
  obtain ⟨z, its, n, r, hl, e⟩ := I.lstM hH
  have hlen : its.toArray.size * k.toNat ≤ sizeLine := by rw [List.size_toArray, ← hl]; exact hz
  have hcap : ¬ its.toArray.size * k.toNat > (2 ^ 63 - 1) / 8 := by
    have : (sizeLine : Nat) ≤ (2 ^ 63 - 1) / 8 := by decide
    omega
  have hfit : ¬ (!Builtin.List.listFitsIndex k) = true := by
    rw [fitsIndex_both h1 h2]
    exact Bool.false_ne_true
  have hlong : ¬ Builtin.List.listTooLong (its.toArray.size * k.toNat) = true := by
    rw [notLongL hlen]
    exact Bool.false_ne_true
  have hnew : List.foldl (fun x1 x2 => x1 ++ x2) #[] (List.replicate (if its.toArray.isEmpty = true then 0 else k.toNat) its.toArray) = (List.replicate k.toNat its).flatten.toArray := by
    have f0 : ∀ m : Nat, List.foldl (fun x1 x2 => x1 ++ x2) #[] (List.replicate m its.toArray) = (List.replicate m its).flatten.toArray := fun m => by
      have := foldl_rep its m []
      rw [List.nil_append] at this
      exact this
    rw [f0]
    cases its with
    | nil => simp
    | cons a r' => rw [if_neg (by simp)]
  refine wpAny_binaryOp_repeat_ref (T := "list") (U := "int") (by decide) ⟨_, e, rfl⟩ (fun s' => typeIs_int s' k t) noFill_list_mul F.fills_int_mul F.slot_int_rmul repeat_list F.slot_int_index.lookup
    (call_meets F.slot_int_rmul (typeIs_int s k t) F.entry_int_rmul (F.args_int_rmul_2 _ _) (int___rmul___int_list k t l its.toArray n)
      ⟨e, rfl, ⟨_, e, rfl⟩, call_meets F.slot_list_mul ⟨_, e, rfl⟩ F.entry_list_mul (F.args_list_mul_2 _ _) (AutoListH.list___mul___list_int_3 l its.toArray n k t hfit hcap hlong) ⟨e, ?_⟩⟩)
  rw [hnew]
  exact ⟨.ref _, _, I.lnew (t' := s.toks) (r.rep k.toNat) (by rw [len_rep, Nat.mul_comm]; exact hz), rfl, q _ I.fresh⟩

/-! ### del xs[i] -/
theorem del_list {pins : List (Addr × Obj)} {s : Shared} {σ : St} {H : Hp} {l : Addr} {xs : List V} {i : Int} {t : Tok} {k : Nat} {Q : Unit → Shared → Prop} (I : Inv X pins σ H s) (hH : H l = some (.lst xs))
    (h1 : -(2 ^ 63) ≤ i) (h2 : i < 2 ^ 63) (hk : seqIndex? i xs.length = some k) (h : ∀ s', Inv X pins σ (upd H l (.lst (xs.eraseIdx k))) s' → Q () s') :
    wpAny (model X.prog X.w) X.A (delItem (.ref l) (.int i t)) Q X.xe s := by
  obtain ⟨z, its, n, r, hl, e⟩ := I.lstM hH
  refine PySem.P.delItem_list (k := k) e (fitsIndex_both h1 h2) (by rw [List.size_toArray, ← hl]; exact hk) (h _ ?_) (by rw [List.size_toArray]; omega)
  refine I.lset (its' := its.eraseIdx k) (t' := s.toks) hH e ?_ (r.eraseIdx k) ?_
  · show its.toArray.eraseIdxIfInBounds k = (its.eraseIdx k).toArray
    rw [List.eraseIdxIfInBounds_toArray]
  · have := len_erase xs k
    omega
end

/-! ### xs[a:b] = ys -/
section
variable {prog : Program} {w : World} {A : Around} {E : Value → Shared → Prop} {s : Shared}
theorem splice_eq (its its2 : List Value) (a c : Nat) : its.toArray.extract 0 a ++ its2.toArray ++ its.toArray.extract c its.toArray.size = (its.take a ++ its2 ++ its.drop c).toArray := by
  apply Array.toList_inj.mp
  first
    | (simp
       exact List.take_of_length_le (by simp))
    | simp [List.take_of_length_le]
    | simp
theorem bounds_run {a c n : Nat} (hac : a ≤ c) (hc : c ≤ n) : sliceBounds (some (a : Int)) (some (c : Int)) none n = ((a : Int), (c : Int), 1) := by
  simp only [sliceBounds, Option.getD_none]
  have h1 : ¬ ((a : Int) < 0) := by omega
  have h2 : ¬ ((c : Int) < 0) := by omega
  simp only [h1, h2, if_false, show (1 : Int) > 0 by decide, if_true]
  congr 1
  · omega
  · congr 1; omega
set_option maxRecDepth 100000 in
/-- list.__setitem__ with a slice of step one and another list -/
theorem setItem_slice {l b sl : Addr} {items new : Array Value} {n n2 : Nat} {vl vu : Value} {a c : Nat} {Q : Unit → Shared → Prop}
    (e : s.heap.get? l = some { cls := .type "list", data := .seq items n }) (e2 : s.heap.get? b = some { cls := .type "list", data := .seq new n2 }) (hne : l ≠ b)
    (hs : s.heap.IsSliceOf sl vl vu .none) (pl : IsPart vl (some (a : Int))) (pu : IsPart vu (some (c : Int))) (hac : a ≤ c) (hc : c ≤ items.size)
    (hsz : items.size + new.size ≤ sizeLine) (h : Q () { s with heap := s.heap.update l (Obj.mapSeq fun xs => xs.extract 0 a ++ new ++ xs.extract c xs.size) }) :
    wpAny (model prog w) A (setItem (.ref l) (.ref sl) (.ref b)) Q E s := by
  have hl : s.heap.IsList l items := PySem.IsL.isList e
  have hb : s.heap.IsList b new := PySem.IsL.isList e2
  obtain ⟨os, hos, hcs, hds⟩ := id hs
  have hTs : s.TypeIs (.ref sl) "slice" := ⟨os, hos, hcs⟩
  have hstep : ¬ ((rawPart none == rawInt 0) = true) := Bool.false_ne_true
  have hsame : Builtin.List.listSameRef (.ref l) (.ref b) = false := by
    unfold Builtin.List.listSameRef
    exact beq_eq_false_iff_ne.mpr hne
  have hmax : (max (a : Int) (c : Int)).toNat = c := by omega
  have hz' : ((fun xs : Array Value => xs.extract 0 a ++ new ++ xs.extract c xs.size) items).size ≤ sizeLine + 1 := by
    simp only [Array.size_append, Array.size_extract]
    omega
  unfold setItem
  try with_reducible refine wpAny_holding ?_
  first | refine wpAny_bind (wpAny_pure ?_) | skip
  refine wpAny_bind (wpAny_sequenceKey hl.typeIs (by decide) ?_)
  refine wpAny_bind (wpAny_callSpecial?_slot (name := Str.ofString "__setitem__") hl.typeIs slot_list_setitem
    (wpAny_call_entry slot_list_setitem hl.typeIs entry_list_setitem ?_ (args_list_setitem _ _ _)))
  show wpAny _ _ (Builtin.List.listSubscript? (.ref sl) >>= _) _ _ s
  refine wpAny_bind ?_
  unfold Builtin.List.listSubscript?
  refine wpAny_bind (wpAny_specialOf hTs slice_no_index ?_)
  simp only [Option.isNone_none, if_true]
  refine wpAny_pure ?_
  show wpAny _ _ (typeOf (.ref sl) >>= _) _ _ s
  refine wpAny_bind (wpAny_typeOf hTs ?_)
  first
    | rw [if_neg (by decide)]
    | refine PySem.W.KFB.if_not (by decide) ?_
  rw [listSliceParts_eq]
  refine wpAny_bind (wpAny_bind (wpAny_field hos hds (x := .none) rfl (wpAny_bind (wpAny_listPart .none ?_))))
  rw [if_neg hstep]
  refine wpAny_bind (wpAny_field hos hds (x := vl) rfl (wpAny_bind (wpAny_listPart pl ?_)))
  refine wpAny_bind (wpAny_field hos hds (x := vu) rfl (wpAny_bind (wpAny_listPart pu (wpAny_pure ?_))))
  first
    | simp only [hsame, Bool.false_eq_true, if_false]
    | refine PySem.W.KFB.if_not hsame ?_
    | (dsimp only
       rw [if_neg (by rw [hsame]; exact Bool.false_ne_true)])
  refine wpAny_bind (m := Builtin.List.listAllItems (.ref b) "must assign iterable to extended slice") ?_
  unfold Builtin.List.listAllItems
  refine wpAny_bind (wpAny_typeOf hb.typeIs ?_)
  first
    | refine PySem.W.KFB.if_so (by decide) ?_
    | rw [if_pos (by decide)]
    | simp only [beq_self_eq_true, Bool.true_or, if_true]
  unfold Builtin.List.listItems
  refine wpAny_bind (wpAny_seqItems e2 rfl (wpAny_pure ?_))
  refine wpAny_bind (wpAny_bind (wpAny_seqItems e rfl (wpAny_pure ?_)))
  refine wpAny_bind (wpAny_of_eq ((sliceIndices_raw (some (a : Int)) (some (c : Int)) none items.size (by simp)).trans (congrArg (pure : Int × Int × Int → Sem (Int × Int × Int)) (bounds_run hac hc))) ?_)
  show wpAny _ _ (if ((1 : Int) == 1) = true then _ else _) _ _ s
  rw [if_pos (by decide)]
  refine wpAny_bind (wpAny_rule ?_)
  first
    | simp only [notLongL hsz, Bool.false_eq_true, if_false]
    | refine PySem.W.KFB.if_not (notLongL hsz) ?_
  first | refine wpAny_bind (wpAny_pure ?_) | skip
  show wpAny _ _ (updateSeq l (fun xs => xs.extract 0 ((a : Int)).toNat ++ new ++ xs.extract (max (a : Int) (c : Int)).toNat xs.size) >>= _) _ _ s
  rw [hmax, Int.toNat_natCast]
  refine wpAny_bind (wpAny_updateSeq (hz := Nat.le_trans (Nat.le_add_right _ _) hsz) (_hz' := hz') e rfl ?_)
  refine wpAny_bind (wpAny_letGo ?_)
  first
    | exact wpAny_bind (wpAny_pure (wpAny_pure ⟨.none, rfl, wpAny_pure h⟩))
    | exact wpAny_pure ⟨.none, rfl, wpAny_pure h⟩
end

section
variable {X : Cx}
/-- xs[a:c] = ys of another list, at the value level: sl is the slice object that was just made -/
theorem set_slice {pins : List (Addr × Obj)} {s : Shared} {σ : St} {H : Hp} {l b sl : Addr} {xs ys : List V} {a c : Int} {vl vu : Value} {Q : Unit → Shared → Prop} (I : Inv X pins σ H s)
    (hH : H l = some (.lst xs)) (hB : H b = some (.lst ys)) (hne : l ≠ b) (hs : s.heap.IsSliceOf sl vl vu .none) (ra : RelV (.int a) vl) (rc : RelV (.int c) vu) (h0 : 0 ≤ a) (hac : a ≤ c) (hc : c ≤ xs.length)
    (hz : xs.length + ys.length ≤ sizeLine) (h : ∀ s', Inv X pins σ (upd H l (.lst (xs.take a.toNat ++ ys ++ xs.drop c.toNat))) s' → Q () s') :
    wpAny (model X.prog X.w) X.A (setItem (.ref l) (.ref sl) (.ref b)) Q X.xe s := by
  obtain ⟨ta, rfl⟩ := ra
  obtain ⟨tc, rfl⟩ := rc
  obtain ⟨z, its, n, r, hl, e⟩ := I.lstM hH
  obtain ⟨z2, its2, n2, r2, hl2, e2⟩ := I.lstM hB
  obtain ⟨a', rfl⟩ := Int.eq_ofNat_of_zero_le h0
  obtain ⟨c', rfl⟩ := Int.eq_ofNat_of_zero_le (Int.le_trans h0 hac)
  simp only [Int.toNat_natCast] at h
  refine setItem_slice (a := a') (c := c') e e2 hne hs (.int _ _) (.int _ _) (by omega) (by rw [List.size_toArray]; omega) (by rw [List.size_toArray, List.size_toArray]; omega) (h _ ?_)
  refine I.lset (its' := its.take a' ++ its2 ++ its.drop c') (t' := s.toks) hH e ?_ (Vals.append (Vals.append (r.take _) r2) (r.drop _)) ?_
  · exact splice_eq its its2 a' c'
  · rw [List.length_append, List.length_append, List.length_take, List.length_drop]
    omega
end
end L2

namespace L2
open PySem PySem.Spec PyProof.Rows

/-! ### lists of pairs as tables -/
section
variable {κ : Type} [DecidableEq κ]
def valV (kvs : List (κ × V)) (k : κ) : Option V := (kvs.find? fun kv => decide (kv.1 = k)).map (·.2)
/-- in its place, or at the end -/
def putK (kvs : List (κ × V)) (k : κ) (v : V) : List (κ × V) :=
  if (kvs.any fun kv => decide (kv.1 = k)) = true then kvs.map (fun kv => if kv.1 = k then (kv.1, v) else kv) else kvs ++ [(k, v)]
def dropK (kvs : List (κ × V)) (k : κ) : List (κ × V) := kvs.filter fun kv => decide (kv.1 ≠ k)

theorem valV_nil {k : κ} : valV ([] : List (κ × V)) k = none := rfl
theorem valV_pos {p : κ × V} {r : List (κ × V)} {k : κ} (e : p.1 = k) : valV (p :: r) k = some p.2 := by simp [valV, List.find?_cons, e]
theorem valV_neg {p : κ × V} {r : List (κ × V)} {k : κ} (e : ¬ p.1 = k) : valV (p :: r) k = valV r k := by simp [valV, List.find?_cons, e]
theorem valV_any (k : κ) : ∀ kvs : List (κ × V), (kvs.any fun kv => decide (kv.1 = k)) = (valV kvs k).isSome
  | [] => rfl
  | p :: r => by
    rw [List.any_cons]
    by_cases e : p.1 = k
    · simp only [valV_pos e, decide_eq_true e, Bool.true_or, Option.isSome_some]
    · rw [valV_neg e, decide_eq_false e, Bool.false_or]; exact valV_any k r
theorem valV_map (k j : κ) (y : V) : ∀ kvs : List (κ × V), valV (kvs.map fun kv => if kv.1 = k then (kv.1, y) else kv) j = (valV kvs j).map fun x => if j = k then y else x
  | [] => rfl
  | p :: r => by
    have ih := valV_map k j y r
    rw [List.map_cons]
    by_cases h : p.1 = k
    · rw [if_pos h]
      by_cases e : p.1 = j
      · rw [valV_pos (p := (p.1, y)) e, valV_pos e, Option.map_some, if_pos (e.symm.trans h)]
      · rw [valV_neg (p := (p.1, y)) e, valV_neg e, ih]
    · rw [if_neg h]
      by_cases e : p.1 = j
      · rw [valV_pos (p := p) e, valV_pos e, Option.map_some, if_neg (fun z => h (e.trans z))]
      · rw [valV_neg (p := p) e, valV_neg e, ih]
theorem valV_snoc (k j : κ) (y : V) : ∀ kvs : List (κ × V), valV kvs k = none → valV (kvs ++ [(k, y)]) j = if j = k then some y else valV kvs j
  | [], _ => by
    by_cases e : k = j
    · rw [if_pos e.symm]; exact valV_pos (p := (k, y)) e
    · rw [if_neg (fun z => e z.symm)]; exact valV_neg (p := (k, y)) e
  | p :: r, hn => by
    rw [List.cons_append]
    have hk : ¬ p.1 = k := fun z => by rw [valV_pos z] at hn; cases hn
    rw [valV_neg hk] at hn
    have ih := valV_snoc k j y r hn
    by_cases e : p.1 = j
    · rw [valV_pos e, valV_pos e, if_neg (fun z => hk (e.trans z))]
    · rw [valV_neg e, valV_neg e, ih]
theorem valV_put (kvs : List (κ × V)) (k j : κ) (y : V) : valV (putK kvs k y) j = if j = k then some y else valV kvs j := by
  unfold putK
  by_cases a : (kvs.any fun kv => decide (kv.1 = k)) = true
  · rw [if_pos a, valV_map]
    rw [valV_any] at a
    by_cases e : j = k
    · obtain ⟨x, hx⟩ := Option.isSome_iff_exists.mp a
      rw [if_pos e, e, hx, Option.map_some, if_pos rfl]
    · rw [if_neg e]
      cases valV kvs j with
      | none => rfl
      | some x => rw [Option.map_some, if_neg e]
  · rw [if_neg a]
    refine valV_snoc k j y kvs ?_
    rw [valV_any] at a
    cases q : valV kvs k with
    | none => rfl
    | some x => rw [q] at a; exact (a rfl).elim
theorem length_putK (kvs : List (κ × V)) (k : κ) (v : V) : (putK kvs k v).length ≤ kvs.length + 1 := by
  unfold putK
  split
  · rw [List.length_map]; omega
  · rw [List.length_append, List.length_cons, List.length_nil]; omega
theorem putK_new {kvs : List (κ × V)} {k : κ} (v : V) (h : valV kvs k = none) : putK kvs k v = kvs ++ [(k, v)] := by
  unfold putK
  rw [valV_any, h]
  exact if_neg (by decide)

theorem RelO.isSome_eq {o : Option V} {u : Option Value} (r : RelO o u) : o.isSome = u.isSome := by
  cases o with
  | none => cases u with
    | none => rfl
    | some _ => exact (show False from r).elim
  | some _ => cases u with
    | none => exact (show False from r).elim
    | some _ => rfl
theorem RelO.getD {o : Option V} {u : Option Value} {d : V} {d' : Value} (r : RelO o u) (rd : RelV d d') : RelV (o.getD d) (u.getD d') := by
  cases o with
  | none => cases u with
    | none => exact rd
    | some _ => exact (show False from r).elim
  | some _ => cases u with
    | none => exact (show False from r).elim
    | some _ => exact r

/-- raw tables of the same keys -/
theorem KV.val {kvs : List (κ × V)} {vs : List (κ × Value)} (r : KV kvs vs) (k : κ) : RelO (valV kvs k) (valueAt vs k) := by
  unfold KV at r
  induction r with
  | nil => exact True.intro
  | @cons p q ps qs h t ih =>
    obtain ⟨h1, h2⟩ := h
    by_cases e : p.1 = k
    · have e' : q.1 = k := h1.symm.trans e
      have b : valueAt (q :: qs) k = some q.2 := by simp [valueAt, List.find?_cons, e']
      rw [valV_pos e, b]; exact h2
    · have e' : ¬ q.1 = k := fun z => e (h1.trans z)
      have b : valueAt (q :: qs) k = valueAt qs k := by simp [valueAt, List.find?_cons, e']
      rw [valV_neg e, b]; exact ih
theorem KV.any {kvs : List (κ × V)} {vs : List (κ × Value)} (r : KV kvs vs) (k : κ) : (kvs.any fun kv => decide (kv.1 = k)) = vs.any fun kv => decide (kv.1 = k) := by
  unfold KV at r
  induction r with
  | nil => rfl
  | cons h t ih => rw [List.any_cons, List.any_cons, ih, h.1]
theorem KV.repl {kvs : List (κ × V)} {vs : List (κ × Value)} (r : KV kvs vs) (k : κ) {y : V} {u : Value} (ry : RelV y u) :
    KV (kvs.map fun kv => if kv.1 = k then (kv.1, y) else kv) (vs.map fun kv => if kv.1 = k then (kv.1, u) else kv) := by
  unfold KV at r ⊢
  induction r with
  | nil => exact .nil
  | @cons p q ps qs h t ih =>
    rw [List.map_cons, List.map_cons]
    refine .cons ?_ ih
    obtain ⟨h1, h2⟩ := h
    by_cases e : p.1 = k
    · rw [if_pos e, if_pos (h1.symm.trans e)]; exact ⟨h1, ry⟩
    · rw [if_neg e, if_neg (fun z => e (h1.trans z))]; exact ⟨h1, h2⟩
theorem KV.put {kvs : List (κ × V)} {vs : List (κ × Value)} (r : KV kvs vs) (k : κ) {y : V} {u : Value} (ry : RelV y u) : KV (putK kvs k y) (stored vs k u) := by
  unfold putK stored
  rw [r.any k]
  by_cases e : (vs.any fun kv => decide (kv.1 = k)) = true
  · rw [if_pos e, if_pos e]; exact r.repl k ry
  · rw [if_neg e, if_neg e]; exact Paired.snoc r ⟨rfl, ry⟩
theorem KV.drop {kvs : List (κ × V)} {vs : List (κ × Value)} (r : KV kvs vs) (k : κ) : KV (dropK kvs k) (without vs k) := by
  unfold KV at r ⊢
  unfold dropK without
  induction r with
  | nil => exact .nil
  | @cons p q ps qs h t ih =>
    obtain ⟨h1, h2⟩ := h
    rw [List.filter_cons, List.filter_cons]
    by_cases e : p.1 = k
    · have a : ¬ decide (p.1 ≠ k) = true := by simp [e]
      have b : ¬ decide (q.1 ≠ k) = true := by simp [h1.symm.trans e]
      rw [if_neg a, if_neg b]; exact ih
    · have e' : ¬ q.1 = k := fun z => e (h1.trans z)
      have a : decide (p.1 ≠ k) = true := by simp [e]
      have b : decide (q.1 ≠ k) = true := by simp [e']
      rw [if_pos a, if_pos b]; exact .cons ⟨h1, h2⟩ ih
theorem KV.keys {kvs : List (κ × V)} {vs : List (κ × Value)} (r : KV kvs vs) : kvs.map (·.1) = vs.map (·.1) := by
  unfold KV at r
  induction r with
  | nil => rfl
  | cons h t ih => rw [List.map_cons, List.map_cons, ih, h.1]
theorem KV.length {kvs : List (κ × V)} {vs : List (κ × Value)} (r : KV kvs vs) : kvs.length = vs.length := Paired.length r
theorem dropK_le (kvs : List (κ × V)) (k : κ) : (dropK kvs k).length ≤ kvs.length := List.length_filter_le _ _
end


/-! ### a tracked dict, its keys ints and texts or tuples of these -/
theorem kV_is {P : Program} {w : World} {k : Key} {u : Value} (r : RelV (kV k) u) : (mixKind P w).is k u = true := by
  cases k with
  | inl i => obtain ⟨t, e⟩ := (show ∃ t, u = Value.int i t from r); subst e; exact mixKind_int P w i t
  | inr x => obtain ⟨t, e⟩ := (show ∃ t, u = Value.str x t from r); subst e; exact mixKind_str P w x t
theorem kV_inj {a b : Key} (e : kV a = kV b) : a = b := by
  cases a with
  | inl i => cases b with
    | inl j => have e' : V.int i = V.int j := e; injection e' with e'; rw [e']
    | inr y => exact nomatch (show V.int i = V.str y from e)
  | inr x => cases b with
    | inl j => exact nomatch (show V.str x = V.int j from e)
    | inr y => have e' : V.str x = V.str y := e; injection e' with e'; rw [e']
theorem kVs_inj : ∀ {a b : List Key}, a.map kV = b.map kV → a = b
  | [], [], _ => rfl
  | [], _ :: _, e => by simp at e
  | _ :: _, [], e => by simp at e
  | x :: xs, y :: ys, e => by
    rw [List.map_cons, List.map_cons] at e
    injection e with e1 e2
    rw [kV_inj e1, kVs_inj e2]
theorem items_are {P : Program} {w : World} : ∀ {ks : List Key} {us : List Value}, Vals (ks.map kV) us → ItemsAre (mixKind P w) ks us
  | [], _, r => by rw [List.map_nil] at r; cases r; exact .nil
  | k :: ks, _, r => by
    rw [List.map_cons] at r
    cases r with
    | cons h t => exact .cons (kV_is h) (items_are t)

/-- raw entries of a dict with tuple keys -/
abbrev KT (H : Hp) : List (List Key × V) → List (List Key × Addr × Value) → Prop := Paired fun p q => p.1 = q.1 ∧ H q.2.1 = some (.tup (p.1.map kV)) ∧ RelV p.2 q.2.2
theorem KT.val {H : Hp} {kvs : List (List Key × V)} {xs : List (List Key × Addr × Value)} (r : KT H kvs xs) (k : List Key) : RelO (valV kvs k) ((atKey xs k).map (·.2)) := by
  induction r with
  | nil => exact True.intro
  | @cons p q ps qs h t ih =>
    obtain ⟨h1, _, h2⟩ := h
    by_cases e : p.1 = k
    · have e' : q.1 = k := h1.symm.trans e
      have b : atKey (q :: qs) k = some q.2 := by simp [atKey, List.find?_cons, e']
      rw [valV_pos e, b]; exact h2
    · have e' : ¬ q.1 = k := fun z => e (h1.trans z)
      have b : atKey (q :: qs) k = atKey qs k := by simp [atKey, List.find?_cons, e']
      rw [valV_neg e, b]; exact ih
theorem KT.repl {H : Hp} {kvs : List (List Key × V)} {xs : List (List Key × Addr × Value)} (r : KT H kvs xs) (k : List Key) {y : V} {u : Value} (ry : RelV y u) :
    KT H (kvs.map fun kv => if kv.1 = k then (kv.1, y) else kv) (xs.map (putAt k u)) := by
  induction r with
  | nil => exact .nil
  | @cons p q ps qs h t ih =>
    rw [List.map_cons, List.map_cons]
    refine .cons ?_ ih
    obtain ⟨h1, h2, h3⟩ := h
    unfold putAt
    by_cases e : p.1 = k
    · rw [if_pos e, if_pos (h1.symm.trans e)]; exact ⟨h1, h2, ry⟩
    · rw [if_neg e, if_neg (fun z => e (h1.trans z))]; exact ⟨h1, h2, h3⟩
theorem KT.put {H : Hp} {kvs : List (List Key × V)} {xs : List (List Key × Addr × Value)} (r : KT H kvs xs) (k : List Key) {b : Addr} {y : V} {u : Value} (hb : H b = some (.tup (k.map kV))) (ry : RelV y u) :
    KT H (putK kvs k y) (storedH xs k b u) := by
  have e : (kvs.any fun kv => decide (kv.1 = k)) = (atKey xs k).isSome := by
    rw [valV_any, (r.val k).isSome_eq, Option.isSome_map]
  unfold putK storedH
  rw [e]
  by_cases q : (atKey xs k).isSome = true
  · rw [if_pos q, if_pos q]; exact r.repl k ry
  · rw [if_neg q, if_neg q]; exact Paired.snoc r ⟨rfl, hb, ry⟩
theorem KT.keeps {H H' : Hp} {kvs : List (List Key × V)} {xs : List (List Key × Addr × Value)} (r : KT H kvs xs) (ht : ∀ b ys, H b = some (.tup ys) → H' b = some (.tup ys)) : KT H' kvs xs :=
  Paired.mapP r fun _ _ z => ⟨z.1, ht _ _ z.2.1, z.2.2⟩

section
variable {P : Program} {w : World} {H : Hp} {h : Heap} {a : Addr}
theorem rd_of {u : HO} (ok : HOk P w H h) (e : Rd H a u) : ObjOk P w H h a u := e.ok ok
theorem dk_rd {kvs : List (Key × V)} (ok : HOk P w H h) (e : Rd H a (.dK kvs)) : kvs.length ≤ sizeLine ∧ (a == sysModules) = false ∧ ∃ vs, KV kvs vs ∧ h.DictOf (mixKind P w) a vs :=
  show ObjOk P w H h a (.dK kvs) from rd_of ok e
theorem dk_of {kvs : List (Key × V)} (ok : HOk P w H h) (e : H a = some (.dK kvs)) : kvs.length ≤ sizeLine ∧ (a == sysModules) = false ∧ ∃ vs, KV kvs vs ∧ h.DictOf (mixKind P w) a vs := dk_rd ok (.inl e)
/-- a tracked tuple of ints and texts is a key -/
theorem key_of {ks : List Key} (ok : HOk P w H h) (e : H a = some (.tup (ks.map kV))) : (tupleKind (mixKind P w)).is h ks a := by
  obtain ⟨_, its, r, o, h1, h2, n, h3⟩ := (show ObjOk P w H h a (.tup (ks.map kV)) from ok a _ e)
  exact ⟨o, its.toArray, n, h1, h2, h3, by simpa using items_are r⟩
theorem dt_rd {kvs : List (List Key × V)} (ok : HOk P w H h) (e : Rd H a (.dT kvs)) : kvs.length ≤ sizeLine ∧ (a == sysModules) = false ∧
    ∃ xs, KT H kvs xs ∧ h.DictOfH (tupleKind (mixKind P w)) a xs := by
  obtain ⟨z, y, xs, r, o, es, ep, h1, h2, h3, h4, h5⟩ := (show ObjOk P w H h a (.dT kvs) from rd_of ok e)
  refine ⟨z, y, xs, r, o, es, ep, h1, h2, h3, h4, fun x hx => ?_, h5⟩
  have all : ∀ {l : List (List Key × V)} {m : List (List Key × Addr × Value)}, KT H l m → ∀ x ∈ m, (tupleKind (mixKind P w)).is h x.1 x.2.1 := by
    intro l m q
    induction q with
    | nil => intro x hx; exact nomatch hx
    | @cons p q ps qs hq t ih =>
      intro x hx
      rcases List.mem_cons.mp hx with e | hx
      · subst e
        exact key_of ok (by rw [← hq.1]; exact hq.2.1)
      · exact ih x hx
  exact all r x hx
theorem dt_of {kvs : List (List Key × V)} (ok : HOk P w H h) (e : H a = some (.dT kvs)) : kvs.length ≤ sizeLine ∧ (a == sysModules) = false ∧
    ∃ xs, KT H kvs xs ∧ h.DictOfH (tupleKind (mixKind P w)) a xs := dt_rd ok (.inl e)
end

/-- what the dict at a holds at the key y -/
def DGet (H : Hp) (a : Addr) (y : V) (r : Option V) : Prop :=
  (∃ kvs k, Rd H a (.dK kvs) ∧ y = kV k ∧ r = valV kvs k) ∨ ∃ kvs k b, Rd H a (.dT kvs) ∧ y = .ref b ∧ H b = some (.tup (k.map kV)) ∧ r = valV kvs k
/-- the heap behind a[y] = v -/
def DPut (H : Hp) (a : Addr) (y v : V) (H' : Hp) : Prop :=
  (∃ kvs k, H a = some (.dK kvs) ∧ y = kV k ∧ kvs.length < sizeLine ∧ H' = upd H a (.dK (putK kvs k v))) ∨
  ∃ kvs k b, H a = some (.dT kvs) ∧ y = .ref b ∧ H b = some (.tup (k.map kV)) ∧ kvs.length < sizeLine ∧ H' = upd H a (.dT (putK kvs k v))
theorem DGet.k {H : Hp} {a : Addr} {kvs : List (Key × V)} {k : Key} (e : H a = some (.dK kvs)) : DGet H a (kV k) (valV kvs k) := .inl ⟨kvs, k, .inl e, rfl, rfl⟩
theorem DGet.t {H : Hp} {a b : Addr} {kvs : List (List Key × V)} {k : List Key} (e : H a = some (.dT kvs)) (eb : H b = some (.tup (k.map kV))) : DGet H a (.ref b) (valV kvs k) := .inr ⟨kvs, k, b, .inl e, rfl, eb, rfl⟩
theorem DPut.k {H : Hp} {a : Addr} {kvs : List (Key × V)} {k : Key} {v : V} (e : H a = some (.dK kvs)) (hl : kvs.length < sizeLine) : DPut H a (kV k) v (upd H a (.dK (putK kvs k v))) := .inl ⟨kvs, k, e, rfl, hl, rfl⟩
theorem DPut.t {H : Hp} {a b : Addr} {kvs : List (List Key × V)} {k : List Key} {v : V} (e : H a = some (.dT kvs)) (eb : H b = some (.tup (k.map kV))) (hl : kvs.length < sizeLine) :
    DPut H a (.ref b) v (upd H a (.dT (putK kvs k v))) := .inr ⟨kvs, k, b, e, rfl, eb, hl, rfl⟩


section
variable {X : Cx} {pins : List (Addr × Obj)} {σ : St} {H : Hp} {s : Shared} {a : Addr} {y v : V} {u r : Value} {o : Option V} {A : Around} {E : Value → Shared → Prop}

theorem Inv.big (I : Inv X pins σ H s) : sysModules < s.heap.objs.size := by
  have h : mainGlobals < s.heap.objs.size := (I.mod.glob.keeps I.bk).lt
  exact Nat.lt_trans (by decide) h

/-- d[y], there -/
theorem d_getItem {Q : Value → Shared → Prop} (hu : A.units + 1 < cLine) (I : Inv X pins σ H s) (g : DGet H a y (some v)) (ry : RelV y u) (h : ∀ w' s', Inv X pins σ H s' → RelV v w' → Q w' s') :
    wpAny (model X.prog X.w) A (getItem (.ref a) u) Q E s := by
  rcases g with ⟨kvs, k, e, ey, l⟩ | ⟨kvs, k, b, e, ey, eb, l⟩
  · subst ey
    obtain ⟨z, hd, vs, rel, dd⟩ := dk_rd I.hok e
    obtain ⟨w', hw, rw'⟩ := RelO.some_of (v := v) (o := valueAt vs k) (by rw [l]; exact rel.val k)
    exact wpAny_getItem_of (kV_is ry) dd.mapOf hw (h w' _ (I.tok _) rw')
  · subst ey
    cases (show u = Value.ref b from ry)
    obtain ⟨z, hd, xs, rel, dd⟩ := dt_rd I.hok e
    obtain ⟨w', hw, rw'⟩ := RelO.some_of (v := v) (o := (atKey xs k).map (·.2)) (by rw [l]; exact rel.val k)
    obtain ⟨p, hp, hp2⟩ := Option.map_eq_some_iff.mp hw
    refine wpAny_getItem_heap (tupleKind_room_in1 hu) (key_of I.hok eb) dd hp ?_
    rw [hp2]
    exact h w' _ (I.tok _) rw'
/-- y in d -/
theorem d_in {Q : Value → Shared → Prop} (hu : A.units + 1 < cLine) (I : Inv X pins σ H s) (g : DGet H a y o) (ry : RelV y u) (h : ∀ s', Inv X pins σ H s' → Q (.bool o.isSome) s') :
    wpAny (model X.prog X.w) A (compareOp .In u (.ref a)) Q E s := by
  rcases g with ⟨kvs, k, e, ey, l⟩ | ⟨kvs, k, b, e, ey, eb, l⟩
  · subst ey
    obtain ⟨z, hd, vs, rel, dd⟩ := dk_rd I.hok e
    refine wpAny_in_of (kV_is ry) hd dd.mapOf ?_
    rw [← (rel.val k).isSome_eq, ← l]
    exact h _ (I.tok _)
  · subst ey
    cases (show u = Value.ref b from ry)
    obtain ⟨z, hd, xs, rel, dd⟩ := dt_rd I.hok e
    refine wpAny_in_heap (tupleKind_room_in1 hu) (key_of I.hok eb) hd dd ?_
    have q := (rel.val k).isSome_eq
    rw [Option.isSome_map] at q
    rw [← q, ← l]
    exact h _ (I.tok _)
theorem d_notIn {Q : Value → Shared → Prop} (hu : A.units + 1 < cLine) (I : Inv X pins σ H s) (g : DGet H a y o) (ry : RelV y u) (h : ∀ s', Inv X pins σ H s' → Q (.bool (!o.isSome)) s') :
    wpAny (model X.prog X.w) A (compareOp .NotIn u (.ref a)) Q E s := by
  rcases g with ⟨kvs, k, e, ey, l⟩ | ⟨kvs, k, b, e, ey, eb, l⟩
  · subst ey
    obtain ⟨z, hd, vs, rel, dd⟩ := dk_rd I.hok e
    refine wpAny_notIn_of (kV_is ry) hd dd.mapOf ?_
    rw [← (rel.val k).isSome_eq, ← l]
    exact h _ (I.tok _)
  · subst ey
    cases (show u = Value.ref b from ry)
    obtain ⟨z, hd, xs, rel, dd⟩ := dt_rd I.hok e
    refine wpAny_notIn_heap (tupleKind_room_in1 hu) (key_of I.hok eb) hd dd ?_
    have q := (rel.val k).isSome_eq
    rw [Option.isSome_map] at q
    rw [← q, ← l]
    exact h _ (I.tok _)
/-- a dict's object is replaced -/
theorem d_write {h' : Heap} {t' : Nat} {ob : HO} (I : Inv X pins σ H s) (mu : Mut (H a)) (hs : Heap.SameBut a s.heap h') (he : ∃ q, h'.get? a = some q) (new : ObjOk X.prog X.w (upd H a ob) h' a ob) :
    Inv X pins σ (upd H a ob) { s with heap := h', toks := t' } :=
  I.write (x := a) (e := a) mu (.inl rfl) (fun b q hb z => (hs.2 b hb).trans z) he new
theorem dk_new {P : Program} {w : World} {H' : Hp} {h' : Heap} {kvs : List (Key × V)} {vs : List (Key × Value)} (z : kvs.length ≤ sizeLine) (hd : (a == sysModules) = false) (rel : KV kvs vs) (dd : h'.DictOf (mixKind P w) a vs) :
    ObjOk P w H' h' a (.dK kvs) := ⟨z, hd, vs, rel, dd⟩
/-- d[y] = v -/
theorem d_setItem {H' : Hp} {Q : Unit → Shared → Prop} (hu : A.units + 1 < cLine) (I : Inv X pins σ H s) (g : DPut H a y v H') (ry : RelV y u) (rv : RelV v r) (h : ∀ s', Inv X pins σ H' s' → Q () s') :
    wpAny (model X.prog X.w) A (setItem (.ref a) u r) Q E s := by
  rcases g with ⟨kvs, k, e, ey, l, eH⟩ | ⟨kvs, k, b, e, ey, eb, l, eH⟩
  · subst ey eH
    obtain ⟨z, hd, vs, rel, dd⟩ := dk_of I.hok e
    have hz : vs.length ≤ sizeLine := by rw [← rel.length]; exact z
    have hl : (putK kvs k v).length ≤ sizeLine := by have := length_putK kvs k v; omega
    refine wpAny_setItem_pairs (hsz := hz) (kV_is ry) dd fun h' dd' hs => h _ ?_
    have he : ∃ q, h'.get? a = some q := let ⟨q, _, _, hq, _⟩ := dd'; ⟨q, hq⟩
    exact d_write I (by rw [e]; exact True.intro) hs he (dk_new hl hd (rel.put k rv) dd')
  · subst ey eH
    cases (show u = Value.ref b from ry)
    obtain ⟨z, hd, xs, rel, dd⟩ := dt_of I.hok e
    have hz : xs.length ≤ sizeLine := by rw [← Paired.length rel]; exact z
    have hl : (putK kvs k v).length ≤ sizeLine := by have := length_putK kvs k v; omega
    refine wpAny_setItem_heap (hsz := hz) (tupleKind_room_in1 hu) (key_of I.hok eb) dd fun h' dd' hs => h _ ?_
    obtain ⟨q, es, ep, hq, h2, h3, h4, _, h5⟩ := dd'
    refine d_write I (by rw [e]; exact True.intro) hs ⟨q, hq⟩ ⟨hl, hd, _, (rel.put k eb rv).keeps fun c ys ec => ?_, q, es, ep, hq, h2, h3, h4, h5⟩
    rw [upd_ne (ne_of ec e (fun z => nomatch z))]
    exact ec
end

section
variable {X : Cx} {pins : List (Addr × Obj)} {σ : St} {H : Hp} {s : Shared} {a : Addr} {kvs : List (Key × V)} {k : Key} {u : Value} {A : Around} {E : Value → Shared → Prop}
/-- del d[k] -/
theorem d_delItem {Q : Unit → Shared → Prop} (I : Inv X pins σ H s) (e : H a = some (.dK kvs)) (ry : RelV (kV k) u) (l : (valV kvs k).isSome = true) (h : ∀ s', Inv X pins σ (upd H a (.dK (dropK kvs k))) s' → Q () s') :
    wpAny (model X.prog X.w) A (delItem (.ref a) u) Q E s := by
  obtain ⟨z, hd, vs, rel, dd⟩ := dk_of I.hok e
  refine wpAny_delItem_slot dd.typeIs (by decide) PySem.F.slot_dict_delitem
    (call_meetsIn PySem.F.slot_dict_delitem dd.typeIs PySem.F.entry_dict_delitem (PySem.F.args_dict_delitem_2 _ _) (meets_dict_delitem_pairs (mixKind X.prog X.w) a (kV_is ry)) ⟨vs, dd, by rw [← rel.length]; exact z, by rw [← (rel.val k).isSome_eq]; exact l, fun h' dd' hs => h _ ?_⟩)
  have he : ∃ q, h'.get? a = some q := let ⟨q, _, _, hq, _⟩ := dd'; ⟨q, hq⟩
  exact d_write I (by rw [e]; exact True.intro) hs he (dk_new (Nat.le_trans (dropK_le kvs k) z) hd (rel.drop k) dd')
/-- d.pop(k[, x]), there -/
theorem d_pop {v : V} {more : List Value} {Q : Value → Shared → Prop} (I : Inv X pins σ H s) (e : H a = some (.dK kvs)) (ry : RelV (kV k) u) (l : valV kvs k = some v) (hm : more = [] ∨ ∃ x, more = [x])
    (h : ∀ w' s', Inv X pins σ (upd H a (.dK (dropK kvs k))) s' → RelV v w' → Q w' s') : wpAny (model X.prog X.w) A (call (.builtin "dict.pop") (.ref a :: u :: more)) Q E s := by
  obtain ⟨z, hd, vs, rel, dd⟩ := dk_of I.hok e
  obtain ⟨w', hw, rw'⟩ := RelO.some_of (v := v) (o := valueAt vs k) (by rw [← l]; exact rel.val k)
  have hp : (keyPart u).isSome = true := by
    cases k with
    | inl i => obtain ⟨t, q⟩ := (show ∃ t, u = Value.int i t from ry); subst q; rfl
    | inr x => obtain ⟨t, q⟩ := (show ∃ t, u = Value.str x t from ry); subst q; rfl
  have ha : argsOk "dict.pop" ⟨.ref a :: u :: more, []⟩ := by
    rcases hm with q | ⟨x, q⟩
    · subst q; exact PySem.F.args_dict_pop_2 _ _
    · subst q; exact PySem.F.args_dict_pop_3 _ _ _
  refine call_meetsIn PySem.F.slot_dict_pop dd.typeIs PySem.F.entry_dict_pop ha (meets_dict_pop_there (mixKind X.prog X.w) a (kV_is ry) more hm hp)
    ⟨vs, w', dd, by rw [← rel.length]; exact z, hw, fun h' dd' hs => h w' _ ?_ rw'⟩
  have he : ∃ q, h'.get? a = some q := let ⟨q, _, _, hq, _⟩ := dd'; ⟨q, hq⟩
  exact d_write I (by rw [e]; exact True.intro) hs he (dk_new (Nat.le_trans (dropK_le kvs k) z) hd (rel.drop k) dd')
/-- d.pop(k, x), not there -/
theorem d_popD {r : Value} {Q : Value → Shared → Prop} (I : Inv X pins σ H s) (e : H a = some (.dK kvs)) (ry : RelV (kV k) u) (l : valV kvs k = none) (h : ∀ s', Inv X pins σ H s' → Q r s') :
    wpAny (model X.prog X.w) A (call (.builtin "dict.pop") [.ref a, u, r]) Q E s := by
  obtain ⟨z, hd, vs, rel, dd⟩ := dk_of I.hok e
  have hn : valueAt vs k = none := RelO.none_of (by rw [← l]; exact rel.val k)
  have hp : (keyPart u).isSome = true := by
    cases k with
    | inl i => obtain ⟨t, q⟩ := (show ∃ t, u = Value.int i t from ry); subst q; rfl
    | inr x => obtain ⟨t, q⟩ := (show ∃ t, u = Value.str x t from ry); subst q; rfl
  exact call_meetsIn PySem.F.slot_dict_pop dd.typeIs PySem.F.entry_dict_pop (PySem.F.args_dict_pop_3 _ _ _) (meets_dict_pop_default (mixKind X.prog X.w) a (kV_is ry) hd hp r) ⟨vs, dd, hn, h _ (I.tok _)⟩
/-- d.clear() -/
theorem d_clear {Q : Value → Shared → Prop} (I : Inv X pins σ H s) (e : H a = some (.dK kvs)) (h : ∀ s', Inv X pins σ (upd H a (.dK [])) s' → Q .none s') : wpAny (model X.prog X.w) A (call (.builtin "dict.clear") [.ref a]) Q E s := by
  obtain ⟨z, hd, vs, rel, dd⟩ := dk_of I.hok e
  refine call_meetsIn PySem.F.slot_dict_clear dd.typeIs PySem.F.entry_dict_clear (PySem.F.args_dict_clear_1 _) (meets_dict_clear (mixKind X.prog X.w) a) ⟨vs, dd, by rw [← rel.length]; exact z, fun h' dd' hs => h _ ?_⟩
  have he : ∃ q, h'.get? a = some q := let ⟨q, _, _, hq, _⟩ := dd'; ⟨q, hq⟩
  exact d_write (t' := s.toks) I (by rw [e]; exact True.intro) hs he (dk_new (Nat.zero_le _) hd .nil dd')
/-- len(d) -/
theorem d_len {Q : Value → Shared → Prop} (I : Inv X pins σ H s) (e : Rd H a (.dK kvs)) (h : ∀ t s', Inv X pins σ H s' → Q (.int kvs.length t) s') : wpAny (model X.prog X.w) A (call (.builtin "len") [.ref a]) Q E s := by
  obtain ⟨z, hd, vs, rel, dd⟩ := dk_rd I.hok e
  refine call_len_dict hd dd (by rw [← rel.length]; rw [sizeLine_eq] at z; omega) ?_
  rw [← rel.length]
  exact h _ _ (I.tok _)
/-- if d -/
theorem d_truth {Q : Bool → Shared → Prop} (I : Inv X pins σ H s) (e : Rd H a (.dK kvs)) (h : ∀ s', Inv X pins σ H s' → Q (!kvs.isEmpty) s') : wpAny (model X.prog X.w) A (truthy (.ref a)) Q E s := by
  obtain ⟨z, hd, vs, rel, dd⟩ := dk_rd I.hok e
  refine wpAny_truthy_dict hd dd (by rw [← rel.length]; rw [sizeLine_eq] at z; omega) ?_
  have q : kvs.isEmpty = vs.isEmpty := by cases rel <;> rfl
  rw [← q]
  exact h _ (I.tok _)
end


/-! ### readings and rules -/
/-- the element of a subscription, not a slice -/
def NoSl (i : Expr) : Prop := ∀ ov iv, subscripted i false ov iv = operate [ov, iv] (getItem ov iv)
theorem subD_of {prog : Program} {w : World} {A : Around} {E : Value → Shared → Prop} {s : Shared} {env : Env} {value slice : Expr} {pos : Pos} {T id : String} {Q : Value → Shared → Prop}
    (hl : typeLookup (.type T) "__getitem__" = pure (some (.builtin id))) (hs : NoSl slice)
    (h : wpAny (model prog w) A (eval value env) (fun o s₁ => wpAny (model prog w) A (eval slice env) (fun i s₂ => s₂.TypeIs o T ∧ wpAny (model prog w) A (getItem o i) Q E s₂) E s₁) E s) :
    wpAny (model prog w) A (eval (.Subscript value slice pos) env) Q E s := by
  refine Subscript_ (wpAny_mono h (fun o s₁ h₁ => wpAny_mono h₁ (fun i s₂ h₂ => ?_) fun _ _ x => x) fun _ _ x => x)
  obtain ⟨hT, h₂⟩ := h₂
  unfold subscriptTail
  refine wpAny_bind ?_
  rw [getitemInPython_of_ne hT.not_modules]
  refine wpAny_bind (wpAny_specialOf hT hl ?_)
  have fin : wpAny (model prog w) A (subscripted slice false o i) (fun r s₃ => wpAny (model prog w) A (letTemporaryGo value o r >>= fun _ => pure r) Q E s₃) E s₂ := by
    rw [hs o i]
    exact wpAny_operating (wpAny_mono h₂ (fun r s₃ h₃ => wpAny_bind (wpAny_letTemporaryGo (wpAny_pure h₃))) fun _ _ x => x)
  first
    | exact wpAny_pure (wpAny_bind fin)
    | exact wpAny_bind (wpAny_pure (wpAny_bind fin))
    | exact wpAny_bind fin

theorem dict_typeIs {X : Cx} {pins : List (Addr × Obj)} {σ : St} {H : Hp} {s : Shared} {a : Addr} {y : V} {o : Option V} (I : Inv X pins σ H s) (g : DGet H a y o) : s.TypeIs (.ref a) "dict" := by
  rcases g with ⟨kvs, k, e, _, _⟩ | ⟨kvs, k, b, e, _, _, _⟩
  · obtain ⟨_, _, vs, _, dd⟩ := dk_rd I.hok e
    exact dd.typeIs
  · obtain ⟨_, _, xs, _, dd⟩ := dt_rd I.hok e
    exact dd.typeIs
theorem dict_noDict {X : Cx} {pins : List (Addr × Obj)} {σ : St} {H : Hp} {s : Shared} {a : Addr} {y : V} {o : Option V} (I : Inv X pins σ H s) (g : DGet H a y o) :
    ∀ b, Value.ref a = .ref b → ∃ ob, s.heap.get? b = some ob ∧ ob.dict = none := fun b q => by
  cases q
  rcases g with ⟨kvs, k, e, _, _⟩ | ⟨kvs, k, b, e, _, _, _⟩
  · obtain ⟨_, _, vs, _, ob, _, _, h1, h2, _⟩ := dk_rd I.hok e
    exact ⟨ob, h1, h2.2.1⟩
  · obtain ⟨_, _, xs, _, ob, _, _, h1, h2, _⟩ := dt_rd I.hok e
    exact ⟨ob, h1, h2.2.1⟩

/-- d[y] -/
def tDGet (td ty : TE) : TE := fun σ H Q => td σ H fun x H1 => ty σ H1 fun y H2 => ∃ a v, x = .ref a ∧ DGet H2 a y (some v) ∧ Q v H2
/-- y in d, y not in d -/
def tDIn (ty td : TE) : TE := fun σ H Q => ty σ H fun y H1 => td σ H1 fun x H2 => ∃ a o, x = .ref a ∧ DGet H2 a y o ∧ Q (.bl o.isSome) H2
def tDNotIn (ty td : TE) : TE := fun σ H Q => ty σ H fun y H1 => td σ H1 fun x H2 => ∃ a o, x = .ref a ∧ DGet H2 a y o ∧ Q (.bl (!o.isSome)) H2
/-- d[y] = v -/
def sDPut (td ty tv : TE) : TS := fun D σ H => tv σ H fun v H1 => td σ H1 fun x H2 => ty σ H2 fun y H3 => ∃ a H4, x = .ref a ∧ DPut H3 a y v H4 ∧ D.nx σ H4
/-- d[y] op= v -/
def sDAug (td ty tv : TE) (rd : V → V → Hp → VK → Prop) : TS := fun D σ H => td σ H fun x H1 => ty σ H1 fun y H2 => ∃ a v, x = .ref a ∧ DGet H2 a y (some v) ∧
  tv σ H2 fun y2 H3 => rd v y2 H3 fun z H4 => ∃ H5, DPut H4 a y z H5 ∧ D.nx σ H5
/-- del d[y] -/
def sDDel (td ty : TE) : TS := fun D σ H => td σ H fun x H1 => ty σ H1 fun y H2 => ∃ a kvs k, x = .ref a ∧ H2 a = some (.dK kvs) ∧ y = kV k ∧ (valV kvs k).isSome = true ∧ D.nx σ (upd H2 a (.dK (dropK kvs k)))

section
variable {X : Cx} {o i e value : Expr} {pos pos' tpos : Pos} {td ty tv : TE}
theorem pe_dget (hu : X.A.units + 1 < cLine) (ho : PE X o td) (hi : PE X i ty) (hs : NoSl i) : PE X (.Subscript o i pos) (tDGet td ty) := by
  intro pins s σ H Q I h
  refine subD_of PySem.F.slot_dict_getitem.lookup hs (thn (ho pins s σ H _ I h) fun u s1 ⟨x, H1, I1, rx, q1⟩ => thn (hi pins s1 σ H1 _ I1 q1) fun iv s2 ⟨y, H2, I2, ry, a, v, ex, g, q2⟩ => ?_)
  subst ex
  obtain rfl : u = Value.ref a := rx
  exact ⟨dict_typeIs I2 g, d_getItem hu I2 g ry fun w' s3 I3 rw' => ⟨v, H2, I3, rw', q2⟩⟩
theorem pc_din (hu : X.A.units + 1 < cLine) (hi : PE X i ty) (ho : PE X o td) : PC X .In i o (tDIn ty td) := by
  intro pins s σ H Q I h
  refine thn (hi pins s σ H _ I h) fun iv s1 ⟨y, H1, I1, ry, q1⟩ => thn (ho pins s1 σ H1 _ I1 q1) fun u s2 ⟨x, H2, I2, rx, a, ov, ex, g, q2⟩ => ?_
  subst ex
  obtain rfl : u = Value.ref a := rx
  exact d_in hu I2 g ry fun s3 I3 => ⟨.bl ov.isSome, H2, I3, rfl, q2⟩
theorem pc_dnotin (hu : X.A.units + 1 < cLine) (hi : PE X i ty) (ho : PE X o td) : PC X .NotIn i o (tDNotIn ty td) := by
  intro pins s σ H Q I h
  refine thn (hi pins s σ H _ I h) fun iv s1 ⟨y, H1, I1, ry, q1⟩ => thn (ho pins s1 σ H1 _ I1 q1) fun u s2 ⟨x, H2, I2, rx, a, ov, ex, g, q2⟩ => ?_
  subst ex
  obtain rfl : u = Value.ref a := rx
  exact d_notIn hu I2 g ry fun s3 I3 => ⟨.bl (!ov.isSome), H2, I3, rfl, q2⟩
theorem ps_dput (hu : X.A.units + 1 < cLine) (ho : PE X o td) (hi : PE X i ty) (hv : PE X value tv) (hs : swapsWith value (some (.Subscript o i pos')) pos.line X.env = pure false) :
    PS X (.Assign [.Subscript o i pos'] value pos) (sDPut td ty tv) := by
  intro pins s σ H D I h
  refine wpAny_Assign_Subscript (thn (hv pins s σ H _ I h) fun r s1 ⟨v, H1, I1, rv, q1⟩ => thn (ho pins s1 σ H1 _ I1 q1) fun u s2 ⟨x, H2, I2, rx, q2⟩ => thn (hi pins s2 σ H2 _ I2 q2) fun iv s3 ⟨y, H3, I3, ry, a, H4, ex, g, q3⟩ => ?_) hs
  subst ex
  obtain rfl : u = Value.ref a := rx
  exact d_setItem hu I3 g ry rv fun s4 I4 => ⟨σ, H4, I4, q3⟩
theorem ps_daug {op : Operator} {rd : V → V → Hp → VK → Prop} (hu : X.A.units + 1 < cLine) (ho : PE X o td) (hi : PE X i ty) (hv : PE X value tv) (hop : InOp X op rd)
    (ha : ∀ ov iv new, augStore i ov iv new = (do holding [new, ov, iv] (setItem ov iv new); release [new, ov, iv] []; pure .next)) : PS X (.AugAssign (.Subscript o i tpos) op value pos) (sDAug td ty tv rd) := by
  intro pins s σ H D I h
  refine wpAny_AugAssign_SubscriptAny (thn (ho pins s σ H _ I h) fun u s1 ⟨x, H1, I1, rx, q1⟩ => thn (hi pins s1 σ H1 _ I1 q1) fun iv s2 ⟨y, H2, I2, ry, a, v, ex, g, q2⟩ => ?_) ha
  subst ex
  obtain rfl : u = Value.ref a := rx
  refine d_getItem hu I2 g ry fun w' s3 I3 rw' => thn (hv pins s3 σ H2 _ I3 q2) fun w2 s4 ⟨y2, H3, I4, ry2, q3⟩ => thn (hop pins s4 σ H3 v y2 w' w2 _ I4 rw' ry2 q3) fun w3 s5 ⟨z, H4, I5, rz, H5, g5, q4⟩ => ?_
  exact d_setItem hu I5 g5 ry rz fun s6 I6 => ⟨σ, H5, I6, q4⟩
theorem ps_ddel (ho : PE X o td) (hi : PE X i ty) : PS X (.Delete [.Subscript o i tpos] pos) (sDDel td ty) := by
  intro pins s σ H D I h
  refine wpAny_Delete (wpAny_deleteEach_cons (wpAny_delete_Subscript (thn (ho pins s σ H _ I h) fun u s1 ⟨x, H1, I1, rx, q1⟩ => thn (hi pins s1 σ H1 _ I1 q1) fun iv s2 ⟨y, H2, I2, ry, a, kvs, k, ex, e, ey, l, q2⟩ => ?_)))
  subst ex ey
  obtain rfl : u = Value.ref a := rx
  exact d_delItem I2 e ry l fun s3 I3 => wpAny_deleteEach_nil ⟨σ, _, I3, q2⟩
end


/-! ### displays -/
theorem dk_empty {P : Program} {w : World} {H : Hp} (h : Heap) (hb : sysModules < h.objs.size) : ObjOk P w H (h.push { cls := .type "dict", data := .dict #[] }) h.objs.size (.dK []) :=
  ⟨Nat.zero_le _, beq_eq_false_iff_ne.mpr (Ne.symm (Nat.ne_of_lt hb)), [], .nil, Heap.DictOf.new h⟩
theorem dt_empty {P : Program} {w : World} {H : Hp} (h : Heap) (hb : sysModules < h.objs.size) : ObjOk P w H (h.push { cls := .type "dict", data := .dict #[] }) h.objs.size (.dT []) :=
  ⟨Nat.zero_le _, beq_eq_false_iff_ne.mpr (Ne.symm (Nat.ne_of_lt hb)), [], .nil, _, #[], 0, Heap.get?_push_size _ rfl, ⟨rfl, rfl, rfl⟩, rfl, rfl, List.nodup_nil⟩
/-- {}, to be a dict of the kind that is wanted -/
def tDNewK : TE := fun _ H Q => ∀ p, H p = none → Q (.ref p) (upd H p (.dK []))
def tDNewT : TE := fun _ H Q => ∀ p, H p = none → Q (.ref p) (upd H p (.dT []))
section
variable {X : Cx} {pos : Pos}
theorem pe_dnewK : PE X (.Dict [] [] pos) tDNewK := fun pins s σ H Q I h =>
  wpAny_Dict_empty ⟨.ref s.heap.objs.size, _, I.laid (a := s.heap.objs.size) (o := .dK []) (t' := s.toks) (fun _ _ q => Heap.get?_push_of_some _ q) (Nat.le_refl _) (dk_empty s.heap I.big), rfl, h _ (I.hok.fresh (Nat.le_refl _))⟩
theorem pe_dnewT : PE X (.Dict [] [] pos) tDNewT := fun pins s σ H Q I h =>
  wpAny_Dict_empty ⟨.ref s.heap.objs.size, _, I.laid (a := s.heap.objs.size) (o := .dT []) (t' := s.toks) (fun _ _ q => Heap.get?_push_of_some _ q) (Nat.le_refl _) (dt_empty s.heap I.big), rfl, h _ (I.hok.fresh (Nat.le_refl _))⟩
end

/-- the pairs of a display, from the left -/
def tPairs : List (TE × TE) → St → Hp → (List (V × V) → Hp → Prop) → Prop
  | [], _, H, Q => Q [] H
  | (tk, tv) :: r, σ, H, Q => tk σ H fun x H1 => tv σ H1 fun y H2 => tPairs r σ H2 fun ps H3 => Q ((x, y) :: ps) H3
abbrev VV : List (V × V) → List (Value × Value) → Prop := Paired fun p q => RelV p.1 q.1 ∧ RelV p.2 q.2
def PPs (X : Cx) (pos : Pos) (keys : List (Option Expr)) (values : List Expr) (trs : List (TE × TE)) : Prop :=
  ∀ (pins : List (Addr × Obj)) (s : Shared) (σ : St) (H : Hp) (Q : List (V × V) → Hp → Prop), Inv X pins σ H s → tPairs trs σ H Q →
    wpAny (model X.prog X.w) X.A (evalPairs (pairTrees keys values X.env pos)) (fun vs s' => ∃ ps H', Inv X pins σ H' s' ∧ VV ps vs ∧ Q ps H') X.xe s
theorem pps_nil {X : Cx} {pos : Pos} : PPs X pos [] [] [] := fun pins s σ H Q I h => pairTrees_nil_walk ⟨[], H, I, .nil, h⟩
theorem pps_cons {X : Cx} {pos : Pos} {k v : Expr} {ks : List (Option Expr)} {vs : List Expr} {tk tv : TE} {trs : List (TE × TE)} (hk : PE X k tk) (hv : PE X v tv) (hr : PPs X pos ks vs trs) :
    PPs X pos (some k :: ks) (v :: vs) ((tk, tv) :: trs) := fun pins s σ H Q I h =>
  pairTrees_cons_walk (thn (hk pins s σ H _ I h) fun u s1 ⟨x, H1, I1, rx, q1⟩ => thn (hv pins s1 σ H1 _ I1 q1) fun w2 s2 ⟨y, H2, I2, ry, q2⟩ =>
    thn (hr pins s2 σ H2 _ I2 q2) fun ws s3 ⟨ps, H3, I3, rel, q3⟩ => ⟨(x, y) :: ps, H3, I3, .cons ⟨rx, ry⟩ rel, q3⟩)

def mergeK (kvs more : List (Key × V)) : List (Key × V) := more.foldl (fun acc kv => putK acc kv.1 kv.2) kvs
theorem KV.merge : ∀ {more : List (Key × V)} {rs : List (Key × Value)} {kvs : List (Key × V)} {vs : List (Key × Value)}, KV more rs → KV kvs vs → KV (mergeK kvs more) (merged vs rs) := by
  intro more rs kvs vs r
  unfold KV at r
  induction r generalizing kvs vs with
  | nil => intro q; exact q
  | @cons p q ps qs h t ih =>
    intro r0
    have e : KV (putK kvs p.1 p.2) (stored vs q.1 q.2) := by
      have := r0.put p.1 h.2
      rw [← h.1]; exact this
    exact ih e
theorem length_mergeK : ∀ (more kvs : List (Key × V)), (mergeK kvs more).length ≤ kvs.length + more.length
  | [], kvs => by show kvs.length ≤ kvs.length + 0; omega
  | p :: r, kvs => by
    have h1 := length_mergeK r (putK kvs p.1 p.2)
    have h2 := length_putK kvs p.1 p.2
    show (mergeK (putK kvs p.1 p.2) r).length ≤ _
    rw [List.length_cons]; omega
theorem carries_of {P : Program} {w : World} : ∀ {kvs : List (Key × V)} {ws : List (Value × Value)}, VV (kvs.map fun kv => (kV kv.1, kv.2)) ws → ∃ rs, Carries (mixKind P w) ws rs ∧ KV kvs rs
  | [], _, r => by rw [List.map_nil] at r; cases r; exact ⟨[], True.intro, .nil⟩
  | p :: kvs, _, r => by
    rw [List.map_cons] at r
    cases r with
    | @cons a b as bs h t =>
      obtain ⟨rs, c, q⟩ := carries_of (P := P) (w := w) t
      obtain ⟨b1, b2⟩ := b
      exact ⟨(p.1, b2) :: rs, ⟨kV_is h.1, rfl, c⟩, .cons ⟨rfl, h.2⟩ q⟩
/-- {k: v, ..} with keys ints and texts; the new dict stands empty while the pairs are made -/
def tDisp (trs : List (TE × TE)) : TE := fun σ H Q => ∀ p, H p = none → tPairs trs σ (upd H p (.dK [])) fun ps H2 => H2 p = some (.dK []) ∧ ∃ kvs : List (Key × V), ps = kvs.map (fun kv => (kV kv.1, kv.2)) ∧ kvs.length ≤ 15 ∧ Q (.ref p) (upd H2 p (.dK (mergeK [] kvs)))
theorem pe_disp {X : Cx} {pos : Pos} {keys : List (Option Expr)} {values : List Expr} {trs : List (TE × TE)} (h : PPs X pos keys values trs) (hall : keys.all (·.isSome) = true) (hl : keys.length = values.length) (h0 : keys ≠ [])
    (h15 : keys.length ≤ 15) : PE X (.Dict keys values pos) (tDisp trs) := by
  intro pins s σ H Q I q
  have hn := I.hok.fresh (Nat.le_refl s.heap.objs.size)
  have I1 := I.laid (a := s.heap.objs.size) (o := .dK []) (h' := s.heap.push { cls := .type "dict", data := .dict #[] }) (t' := s.toks) (fun _ _ q => Heap.get?_push_of_some _ q) (Nat.le_refl _) (dk_empty s.heap I.big)
  refine wpAny_Dict_walk (knd := mixKind X.prog X.w) hall hl h0 h15 (thn (h pins _ σ _ _ I1 (q _ hn)) fun ws s2 ⟨ps, H2, I2, rel, e, kvs, ep, lk, q2⟩ => ?_)
  subst ep
  obtain ⟨rs, c, rk⟩ := carries_of (P := X.prog) (w := X.w) rel
  obtain ⟨z, hd, vs0, r0, dd⟩ := dk_of I2.hok e
  cases r0
  refine ⟨rs, c, dd, fun h' dd' hs => ⟨.ref s.heap.objs.size, _, ?_, rfl, q2⟩⟩
  have hz : (mergeK [] kvs).length ≤ sizeLine := by
    have h1 := length_mergeK kvs []
    rw [List.length_nil] at h1
    rw [sizeLine_eq]; omega
  have he : ∃ q, h'.get? s.heap.objs.size = some q := let ⟨q, _, _, hq, _⟩ := dd'; ⟨q, hq⟩
  exact d_write I2 (by rw [e]; exact True.intro) hs he (dk_new hz hd (rk.merge .nil) dd')


/-! ### methods -/
/-- a method call o.m(e) of a built-in, with one argument: what must be seen of the text -/
structure M1 (X : Cx) (o : Expr) (m : Str) (apos : Pos) (e : Expr) (cpos : Pos) : Prop where
  base : attributeBase o m X.env (eval o X.env) = eval o X.env
  few : ((backTo cpos (starEach [e] X.env)).all (fun x => !x.1) && (backToKw cpos (keywordEach [] X.env)).all (fun x => x.1.isSome)
    && decide (([e] : List Expr).length + ([] : List Keyword).length + (if ([] : List Keyword).isEmpty then 0 else 1) < 30)) = true
  line : (apos.endLine == cpos.line) = true
  trees : backTo cpos (starEach [e] X.env) = [(false, eval e X.env)]
structure M2 (X : Cx) (o : Expr) (m : Str) (apos : Pos) (e f : Expr) (cpos : Pos) : Prop where
  base : attributeBase o m X.env (eval o X.env) = eval o X.env
  few : ((backTo cpos (starEach [e, f] X.env)).all (fun x => !x.1) && (backToKw cpos (keywordEach [] X.env)).all (fun x => x.1.isSome)
    && decide (([e, f] : List Expr).length + ([] : List Keyword).length + (if ([] : List Keyword).isEmpty then 0 else 1) < 30)) = true
  line : (apos.endLine == cpos.line) = true
  trees : backTo cpos (starEach [e, f] X.env) = [(false, eval e X.env), (false, eval f X.env)]

/-- a is a dict, whatever its keys -/
def IsD (H : Hp) (a : Addr) : Prop := (∃ kvs, Rd H a (.dK kvs)) ∨ ∃ kvs, Rd H a (.dT kvs)
theorem isD_at {X : Cx} {pins : List (Addr × Obj)} {σ : St} {H : Hp} {s : Shared} {a : Addr} (I : Inv X pins σ H s) (d : IsD H a) :
    s.TypeIs (.ref a) "dict" ∧ (∀ b, Value.ref a = .ref b → ∃ ob, s.heap.get? b = some ob ∧ ob.dict = none) ∧ (a == sysModules) = false := by
  rcases d with ⟨kvs, e⟩ | ⟨kvs, e⟩
  · obtain ⟨_, hd, vs, _, dd⟩ := dk_rd I.hok e
    refine ⟨dd.typeIs, fun b q => ?_, hd⟩
    cases q
    obtain ⟨ob, _, _, h1, h2, _⟩ := dd
    exact ⟨ob, h1, h2.2.1⟩
  · obtain ⟨_, hd, xs, _, dd⟩ := dt_rd I.hok e
    refine ⟨dd.typeIs, fun b q => ?_, hd⟩
    cases q
    obtain ⟨ob, _, _, h1, h2, _⟩ := dd
    exact ⟨ob, h1, h2.2.1⟩

section
variable {X : Cx} {pins : List (Addr × Obj)} {σ : St} {H : Hp} {s : Shared} {a : Addr} {y d : V} {u r : Value} {o : Option V} {A : Around} {E : Value → Shared → Prop}
/-- d.get(y) -/
theorem d_get1 {Q : Value → Shared → Prop} (hu : A.units + 1 < cLine) (I : Inv X pins σ H s) (g : DGet H a y o) (ry : RelV y u) (h : ∀ w' s', Inv X pins σ H s' → RelV (o.getD .non) w' → Q w' s') :
    wpAny (model X.prog X.w) A (call (.builtin "dict.get") [.ref a, u]) Q E s := by
  rcases g with ⟨kvs, k, e, ey, l⟩ | ⟨kvs, k, b, e, ey, eb, l⟩
  · subst ey
    obtain ⟨z, hd, vs, rel, dd⟩ := dk_rd I.hok e
    refine call_meetsIn PySem.F.slot_dict_get dd.typeIs PySem.F.entry_dict_get (PySem.F.args_dict_get_2 _ _) (meets_dict_get (mixKind X.prog X.w) a (kV_is ry) hd) ⟨_, dd.mapOf, h _ _ (I.tok _) ?_⟩
    rw [l]
    exact (rel.val k).getD rfl
  · subst ey
    cases (show u = Value.ref b from ry)
    obtain ⟨z, hd, xs, rel, dd⟩ := dt_rd I.hok e
    refine call_meetsIn PySem.F.slot_dict_get dd.typeIs PySem.F.entry_dict_get (PySem.F.args_dict_get_2 _ _) (meetsH_dict_get (tupleKind (mixKind X.prog X.w)) a b hd) ⟨tupleKind_room_in1 hu, k, xs, key_of I.hok eb, dd, h _ _ (I.tok _) ?_⟩
    rw [l]
    exact (rel.val k).getD rfl
/-- d.get(y, x) -/
theorem d_get2 {Q : Value → Shared → Prop} (hu : A.units + 1 < cLine) (I : Inv X pins σ H s) (g : DGet H a y o) (ry : RelV y u) (rd : RelV d r) (h : ∀ w' s', Inv X pins σ H s' → RelV (o.getD d) w' → Q w' s') :
    wpAny (model X.prog X.w) A (call (.builtin "dict.get") [.ref a, u, r]) Q E s := by
  rcases g with ⟨kvs, k, e, ey, l⟩ | ⟨kvs, k, b, e, ey, eb, l⟩
  · subst ey
    obtain ⟨z, hd, vs, rel, dd⟩ := dk_rd I.hok e
    refine call_meetsIn PySem.F.slot_dict_get dd.typeIs PySem.F.entry_dict_get (PySem.F.args_dict_get_3 _ _ _) (meets_dict_get_default (mixKind X.prog X.w) a (kV_is ry) hd r) ⟨_, dd.mapOf, h _ _ (I.tok _) ?_⟩
    rw [l]
    exact (rel.val k).getD rd
  · subst ey
    cases (show u = Value.ref b from ry)
    obtain ⟨z, hd, xs, rel, dd⟩ := dt_rd I.hok e
    refine call_meetsIn PySem.F.slot_dict_get dd.typeIs PySem.F.entry_dict_get (PySem.F.args_dict_get_3 _ _ _) (meetsH_dict_get_default (tupleKind (mixKind X.prog X.w)) a b hd r) ⟨tupleKind_room_in1 hu, k, xs, key_of I.hok eb, dd, h _ _ (I.tok _) ?_⟩
    rw [l]
    exact (rel.val k).getD rd
end

def tDGet1 (td ty : TE) : TE := fun σ H Q => td σ H fun x H1 => ∃ a, x = .ref a ∧ IsD H1 a ∧ ty σ H1 fun y H2 => ∃ o, DGet H2 a y o ∧ Q (o.getD .non) H2
def tDGet2 (td ty tx : TE) : TE := fun σ H Q => td σ H fun x H1 => ∃ a, x = .ref a ∧ IsD H1 a ∧ ty σ H1 fun y H2 => tx σ H2 fun z H3 => ∃ o, DGet H3 a y o ∧ Q (o.getD z) H3
/-- d.pop(k): there; d.pop(k, x): there or not -/
def tDPop1 (td ty : TE) : TE := fun σ H Q => td σ H fun x H1 => ∃ a, x = .ref a ∧ IsD H1 a ∧ ty σ H1 fun y H2 => ∃ kvs k v, H2 a = some (.dK kvs) ∧ y = kV k ∧ valV kvs k = some v ∧ Q v (upd H2 a (.dK (dropK kvs k)))
def tDPop2 (td ty tx : TE) : TE := fun σ H Q => td σ H fun x H1 => ∃ a, x = .ref a ∧ IsD H1 a ∧ ty σ H1 fun y H2 => tx σ H2 fun z H3 => ∃ kvs k, H3 a = some (.dK kvs) ∧ y = kV k ∧
  (∀ v, valV kvs k = some v → Q v (upd H3 a (.dK (dropK kvs k)))) ∧ (valV kvs k = none → Q z H3)
section
variable {X : Cx} {o e f : Expr} {apos cpos : Pos} {td ty tx : TE}
theorem pe_dget1 (hu : X.A.units + 1 < cLine) (ho : PE X o td) (he : PE X e ty) (m : M1 X o "get" apos e cpos) : PE X (.Call (.Attribute o "get" apos) [e] [] cpos) (tDGet1 td ty) := by
  intro pins s σ H Q I h
  refine wpAny_Call_method m.base m.few m.line PySem.F.plainAttrs_dict PySem.F.slot_dict_get PySem.F.type_dict_get (thn (ho pins s σ H _ I h) fun u s1 ⟨x, H1, I1, rx, a, ex, d, q1⟩ => ?_)
  subst ex
  obtain rfl : u = Value.ref a := rx
  obtain ⟨t1, t2, _⟩ := isD_at I1 d
  refine ⟨t1, t2, ?_⟩
  rw [m.trees]
  refine Calls.callWith_builtin rfl (Calls.evalArgs_plain (Calls.spliced_cons (thn (he pins s1 σ H1 _ I1 q1) fun iv s2 ⟨y, H2, I2, ry, ov, g, q2⟩ => Calls.spliced_nil ?_)))
  exact d_get1 hu I2 g ry fun w' s3 I3 rw' => ⟨_, H2, I3, rw', q2⟩
theorem pe_dget2 (hu : X.A.units + 1 < cLine) (ho : PE X o td) (he : PE X e ty) (hf : PE X f tx) (m : M2 X o "get" apos e f cpos) : PE X (.Call (.Attribute o "get" apos) [e, f] [] cpos) (tDGet2 td ty tx) := by
  intro pins s σ H Q I h
  refine wpAny_Call_method m.base m.few m.line PySem.F.plainAttrs_dict PySem.F.slot_dict_get PySem.F.type_dict_get (thn (ho pins s σ H _ I h) fun u s1 ⟨x, H1, I1, rx, a, ex, d, q1⟩ => ?_)
  subst ex
  obtain rfl : u = Value.ref a := rx
  obtain ⟨t1, t2, _⟩ := isD_at I1 d
  refine ⟨t1, t2, ?_⟩
  rw [m.trees]
  refine Calls.callWith_builtin rfl (Calls.evalArgs_plain (Calls.spliced_cons (thn (he pins s1 σ H1 _ I1 q1) fun iv s2 ⟨y, H2, I2, ry, q2⟩ =>
    Calls.spliced_cons (thn (hf pins s2 σ H2 _ I2 q2) fun fv s3 ⟨z, H3, I3, rz, ov, g, q3⟩ => Calls.spliced_nil ?_))))
  exact d_get2 hu I3 g ry rz fun w' s4 I4 rw' => ⟨_, H3, I4, rw', q3⟩
theorem pe_dpop1 (ho : PE X o td) (he : PE X e ty) (m : M1 X o "pop" apos e cpos) : PE X (.Call (.Attribute o "pop" apos) [e] [] cpos) (tDPop1 td ty) := by
  intro pins s σ H Q I h
  refine wpAny_Call_method m.base m.few m.line PySem.F.plainAttrs_dict PySem.F.slot_dict_pop PySem.F.type_dict_pop (thn (ho pins s σ H _ I h) fun u s1 ⟨x, H1, I1, rx, a, ex, d, q1⟩ => ?_)
  subst ex
  obtain rfl : u = Value.ref a := rx
  obtain ⟨t1, t2, _⟩ := isD_at I1 d
  refine ⟨t1, t2, ?_⟩
  rw [m.trees]
  refine Calls.callWith_builtin rfl (Calls.evalArgs_plain (Calls.spliced_cons (thn (he pins s1 σ H1 _ I1 q1) fun iv s2 ⟨y, H2, I2, ry, kvs, k, v, ea, ey, l, q2⟩ => Calls.spliced_nil ?_)))
  subst ey
  exact d_pop I2 ea ry l (.inl rfl) fun w' s3 I3 rw' => ⟨v, _, I3, rw', q2⟩
theorem pe_dpop2 (ho : PE X o td) (he : PE X e ty) (hf : PE X f tx) (m : M2 X o "pop" apos e f cpos) : PE X (.Call (.Attribute o "pop" apos) [e, f] [] cpos) (tDPop2 td ty tx) := by
  intro pins s σ H Q I h
  refine wpAny_Call_method m.base m.few m.line PySem.F.plainAttrs_dict PySem.F.slot_dict_pop PySem.F.type_dict_pop (thn (ho pins s σ H _ I h) fun u s1 ⟨x, H1, I1, rx, a, ex, d, q1⟩ => ?_)
  subst ex
  obtain rfl : u = Value.ref a := rx
  obtain ⟨t1, t2, _⟩ := isD_at I1 d
  refine ⟨t1, t2, ?_⟩
  rw [m.trees]
  refine Calls.callWith_builtin rfl (Calls.evalArgs_plain (Calls.spliced_cons (thn (he pins s1 σ H1 _ I1 q1) fun iv s2 ⟨y, H2, I2, ry, q2⟩ =>
    Calls.spliced_cons (thn (hf pins s2 σ H2 _ I2 q2) fun fv s3 ⟨z, H3, I3, rz, kvs, k, ea, ey, q3, q4⟩ => Calls.spliced_nil ?_))))
  subst ey
  cases l : valV kvs k with
  | some v => exact d_pop I3 ea ry l (.inr ⟨fv, rfl⟩) fun w' s4 I4 rw' => ⟨v, _, I4, rw', q3 v l⟩
  | none => exact d_popD I3 ea ry l fun s4 I4 => ⟨z, H3, I4, rz, q4 l⟩
end

/-! ### dict(d): a copy -/
section
variable {X : Cx} {pins : List (Addr × Obj)} {σ : St} {H : Hp} {s : Shared} {a : Addr} {kvs : List (Key × V)} {A : Around} {E : Value → Shared → Prop}
theorem d_copyOf {Q : Value → Shared → Prop} (I : Inv X pins σ H s) (e : Rd H a (.dK kvs)) (h : ∀ p s', H p = none → Inv X pins σ (upd H p (.dK kvs)) s' → Q (.ref p) s') : wpAny (model X.prog X.w) A (call (.type "dict") [.ref a]) Q E s := by
  obtain ⟨z, hd, vs, rel, dd⟩ := dk_rd I.hok e
  refine kt_call_dict hd dd (by rw [← rel.length]; exact z) fun h' dd' hs => ?_
  refine h _ _ (I.hok.fresh (Nat.le_refl _)) (I.laid (a := s.heap.objs.size) (o := .dK kvs) (t' := s.toks) (fun b q hq => ?_) (Nat.le_refl _) (dk_new z (beq_eq_false_iff_ne.mpr (Ne.symm (Nat.ne_of_lt I.big))) rel dd'))
  exact (hs.2 b (Nat.ne_of_lt (Heap.lt_size hq))).trans (Heap.get?_push_of_some _ hq)
end


section
variable {X : Cx} {pins : List (Addr × Obj)} {σ : St} {H : Hp} {s : Shared} {a : Addr} {y : V} {u : Value} {A : Around} {E : Value → Shared → Prop}
/-- d[y], not there: a KeyError -/
theorem d_missing {Q : Value → Shared → Prop} (hu : A.units + 1 < cLine) (hh : A.handled = none) (I : Inv X pins σ H s) (g : DGet H a y none) (ry : RelV y u)
    (h : ∀ h' e t', Heap.NewExc s.heap h' e "KeyError" → E (.ref e) { s with heap := h', toks := t' }) : wpAny (model X.prog X.w) A (getItem (.ref a) u) Q E s := by
  rcases g with ⟨kvs, k, e, ey, l⟩ | ⟨kvs, k, b, e, ey, eb, l⟩
  · subst ey
    obtain ⟨z, hd, vs, rel, dd⟩ := dk_rd I.hok e
    have hn : valueAt vs k = none := RelO.none_of (by rw [l]; exact rel.val k)
    exact wpAny_getItem_missing_of (kV_is ry) hd hh dd.mapOf hn fun h' ex ne => h h' ex _ ne
  · subst ey
    cases (show u = Value.ref b from ry)
    obtain ⟨z, hd, xs, rel, dd⟩ := dt_rd I.hok e
    have hn : (atKey xs k).map (·.2) = none := RelO.none_of (by rw [l]; exact rel.val k)
    exact wpAny_getItem_missing_heap (tupleKind_room_in1 hu) (key_of I.hok eb) hd hh dd (Option.map_eq_none_iff.mp hn) fun h' ex ne => h h' ex _ ne
end
end L2

namespace Att
open PySem PySem.W PySem.Calls PyProof.Rows

/-! ### the script -/
theorem ints_of_wellAll {P : Params} {h : Heap} : ∀ (ns : List Int) (vs : List Value), WellAll P h vs (ns.map WData.int) → IntsAre vs ns := by
  intro ns
  induction ns with
  | nil =>
    intro vs w
    rw [List.map_nil] at w
    cases w
    exact .nil
  | cons n ns ih =>
    intro vs w
    rw [List.map_cons] at w
    cases w with
    | cons a b =>
      cases a
      exact .cons _ _ (ih _ b)

theorem script_of {l : OpenLaw} {n : Nat} (hn : l.most = some n) {P : Params} {h : Heap} {args : List WData} {vals : List Value}
    (hpre : l.row.toRowW.claim.pre args = true) (hwl : WellAll P h vals args) :
    ∃ a vs ns, vals = [Value.ref a] ∧ args = [WData.list (ns.map WData.int)] ∧ h.get? a = some { cls := .type "list", data := .seq vs.toArray } ∧ IntsAre vs ns ∧ ns.length ≤ n := by
  have hsh : WShape.hasAll [] args [.list .int] = true := (pre_splitW hpre).1
  have hc : l.pre.holds [] { args := args } = true := (pre_splitW hpre).2
  obtain ⟨d, r, rfl, h1, h2⟩ := hasAllW_cons hsh
  obtain rfl := hasAllW_nil h2
  obtain ⟨xs, rfl, h3⟩ := hasW_list h1
  obtain ⟨ns, rfl⟩ := items_int h3
  have hlen : ns.length ≤ n := by
    unfold OpenLaw.pre at hc
    have h4 : (WTm.not (.lt (.lit (.int (n : Int))) (.len (.arg 0)))).holds [] { args := [.list (ns.map .int)] } = true := by
      have h4 := (holds_andW hc).1
      rw [hn] at h4
      exact h4
    have h5 := condW_of h4 (w_not (w_lt w_lit (w_len_list (w_arg rfl))))
    rw [List.length_map] at h5
    refine Nat.le_of_not_lt fun q => ?_
    have q' : (n : Int) < ((ns.length : Nat) : Int) := by omega
    first
      | (rw [decide_eq_true q'] at h5; exact absurd h5 (by decide))
      | (simp at h5; omega)
  cases hwl with
  | cons w1 w2 =>
    cases w2
    cases w1 with
    | list ho hall => exact ⟨_, _, ns, rfl, rfl, ho, ints_of_wellAll ns _ hall, hlen⟩

theorem post_true (l : OpenLaw) (args : List WData) : l.row.toRowW.claim.post args (.bool true) args = true :=
  postW_of (r := l.row.toRowW) (X := (true == true))
    (show WShape.has [] (.bool true) .bool = true by first | rfl | decide | simp [WShape.has, WShape.arms, WShape.armsAll])
    (show (WTm.eq .res (.lit (.bool true))).value [] { args := args, res := some (.bool true), after := args } = some (.bool (true == true)) from w_eq_bool (w_res rfl) w_lit) rfl

/-! ### the attachment: holds_open's last premise (the goal 'hc' behind k_head) from a wpAny of the law's body -/
theorem attach {l : OpenLaw} {n : Nat} {q : Program} {loose : List Str} {XP : (Str → Option Value) → Heap → Prop} {YP : World → Heap → Prop} {d : DefRec} {x : Str}
    (hn : l.most = some n) (hdf : d.params.defaults = [])
    (hbind : ∀ pm cd doc v : Value, bindArgs (docDef d.name d.params d.body d.scope pm cd doc) ⟨[v], []⟩ = pure [(x, v)])
    (hx : d.scope.names.lookup x = some .local ∨ d.scope.names.lookup x = some .cell)
    (hk : d.scope.kind = .function) (hco : d.scope.isCoroutine = false) (hgen : d.scope.isGenerator = false)
    (body : ∀ (w : World) (s₀ s₁ s : Shared) (mg mb : Str → Option Value) (fa : Addr) (o : Obj) (pm cd doc : Value) (a : Addr) (vs : List Value) (ns : List Int),
      Ground q loose [] XP w s₀ mg mb s₁.heap → YP w s₁.heap →
      s₁.heap.get? fa = some o → o.data = .func (docDef d.name d.params d.body d.scope pm cd doc) → s₁.heap.CodeRec cd d.name → mg d.name = some (.ref fa) →
      s₁.heap.get? a = some { cls := .type "list", data := .seq vs.toArray } → IntsAre vs ns → ns.length ≤ n →
      s.gens = #[] → s.os = s₁.os →
      Fr s₁.heap s₁.heap.objs.size s.heap (bindL (envOfC d.name d.scope s₁.heap.objs.size fa cd).kindOf [(x, .ref a)] fun _ => none) →
      Cl s₁.heap.objs.size (cellsFrom (s₁.heap.objs.size + 1) d.scope.names []) s.heap (bindC (envOfC d.name d.scope s₁.heap.objs.size fa cd).kindOf [(x, .ref a)] fun _ => none) →
      wpAny (model l.prog w) (callerA.deeper (envOfC d.name d.scope s₁.heap.objs.size fa cd)) (execs d.body (envOfC d.name d.scope s₁.heap.objs.size fa cd))
        (fun f s' => f = .ret (.bool true) ∧ OldK s₁.heap s'.heap ∧ s'.os = s₁.os ∧ AllBare s'.gens) (fun _ _ => False) s) :
    WalkO q loose XP YP l.row.toRowW d [] (fun f vs => PySem.call f vs) := by
  intro w s₀ s₁ mg mb G Y fa o pm cd doc dV kV ho hd hcd hD hmg hg args vals as hpre hlay hrd hwl hlo
  obtain rfl : dV = .none := Dflts.none hD hdf
  obtain rfl : kV = .none := Dflts.noKw hD
  obtain ⟨a, vs, ns, rfl, rfl, hobj, hints, hlen⟩ := script_of hn hpre hwl
  refine enter_call ?_
  refine call_cells_ret (o := o) (by rw [depth_caller]; decide) ho (fd_plain hd) G.T.nolimit hcd (hbind pm cd doc (.ref a)) (fun y hy => ?_) (fun h₁ tk F X => ?_) hco hgen hk
  · obtain rfl : y = (x, Value.ref a) := List.mem_singleton.mp hy
    rcases hx with e | e
    · exact .inl e
    · exact .inr ⟨e, cellsFrom_some _ _ _ (.inl e)⟩
  · refine wpAny_mono (body w s₀ s₁ { s₁ with heap := h₁, toks := tk } mg mb fa o pm cd doc a vs ns G Y ho (fd_plain hd) hcd hmg hobj hints hlen hg rfl F X) (fun f s' hq => ?_) (fun _ _ hq => hq)
    obtain ⟨rfl, h2, h3, h4⟩ := hq
    exact ⟨.inl ⟨.bool true, .bool true, [], rfl, fun _ => rfl, .bool true, post_true l _, fun _ => ⟨List.Pairwise.nil, fun _ hm => (nomatch hm)⟩⟩, h2, h3, h4⟩

/-- the same from a codeAny of the CALL (for a layer whose function contracts speak of calls) -/
theorem attach_call {l : OpenLaw} {n : Nat} {q : Program} {loose : List Str} {XP : (Str → Option Value) → Heap → Prop} {YP : World → Heap → Prop} {d : DefRec}
    (hn : l.most = some n) (hdf : d.params.defaults = [])
    (call : ∀ (w : World) (s₀ s₁ : Shared) (mg mb : Str → Option Value) (fa : Addr) (o : Obj) (pm cd doc : Value) (a : Addr) (vs : List Value) (ns : List Int),
      Ground q loose [] XP w s₀ mg mb s₁.heap → YP w s₁.heap →
      s₁.heap.get? fa = some o → o.data = .func (docDef d.name d.params d.body d.scope pm cd doc) → s₁.heap.CodeRec cd d.name → mg d.name = some (.ref fa) →
      s₁.heap.get? a = some { cls := .type "list", data := .seq vs.toArray } → IntsAre vs ns → ns.length ≤ n → s₁.gens = #[] →
      codeAny (model l.prog w) callerA (.call (.ref fa) ⟨[.ref a], []⟩) (fun r s' => r = .ok (.ret (.bool true)) ∧ OldK s₁.heap s'.heap ∧ s'.os = s₁.os ∧ AllBare s'.gens) s₁) :
    WalkO q loose XP YP l.row.toRowW d [] (fun f vs => PySem.call f vs) := by
  intro w s₀ s₁ mg mb G Y fa o pm cd doc dV kV ho hd hcd hD hmg hg args vals as hpre hlay hrd hwl hlo
  obtain rfl : dV = .none := Dflts.none hD hdf
  obtain rfl : kV = .none := Dflts.noKw hD
  obtain ⟨a, vs, ns, rfl, rfl, hobj, hints, hlen⟩ := script_of hn hpre hwl
  refine enter_call (codeAny_mono (call w s₀ s₁ mg mb fa o pm cd doc a vs ns G Y ho (fd_plain hd) hcd hmg hobj hints hlen hg) fun r s' hq => ?_)
  obtain ⟨rfl, h2, h3, h4⟩ := hq
  exact ⟨.inl ⟨.bool true, .bool true, [], rfl, fun _ => rfl, .bool true, post_true l _, fun _ => ⟨List.Pairwise.nil, fun _ hm => (nomatch hm)⟩⟩, h2, h3, h4⟩

/-- the same where the top left finished generators (o_head chose holds_openN): nothing may have changed at all and no generator may be left -/
theorem attachN {l : OpenLaw} {n : Nat} {q : Program} {loose : List Str} {XP : (Str → Option Value) → Heap → Prop} {YP : World → Heap → Prop} {d : DefRec} {x : Str}
    (hn : l.most = some n) (hdf : d.params.defaults = [])
    (hbind : ∀ pm cd doc v : Value, bindArgs (docDef d.name d.params d.body d.scope pm cd doc) ⟨[v], []⟩ = pure [(x, v)])
    (hx : d.scope.names.lookup x = some .local ∨ d.scope.names.lookup x = some .cell)
    (hk : d.scope.kind = .function) (hco : d.scope.isCoroutine = false) (hgen : d.scope.isGenerator = false)
    (body : ∀ (w : World) (s₀ s₁ s : Shared) (mg mb : Str → Option Value) (fa : Addr) (o : Obj) (pm cd doc : Value) (a : Addr) (vs : List Value) (ns : List Int),
      Ground q loose [] XP w s₀ mg mb s₁.heap → YP w s₁.heap →
      s₁.heap.get? fa = some o → o.data = .func (docDef d.name d.params d.body d.scope pm cd doc) → s₁.heap.CodeRec cd d.name → mg d.name = some (.ref fa) →
      s₁.heap.get? a = some { cls := .type "list", data := .seq vs.toArray } → IntsAre vs ns → ns.length ≤ n →
      s.gens = #[] → s.os = s₁.os →
      Fr s₁.heap s₁.heap.objs.size s.heap (bindL (envOfC d.name d.scope s₁.heap.objs.size fa cd).kindOf [(x, .ref a)] fun _ => none) →
      Cl s₁.heap.objs.size (cellsFrom (s₁.heap.objs.size + 1) d.scope.names []) s.heap (bindC (envOfC d.name d.scope s₁.heap.objs.size fa cd).kindOf [(x, .ref a)] fun _ => none) →
      wpAny (model l.prog w) (callerA.deeper (envOfC d.name d.scope s₁.heap.objs.size fa cd)) (execs d.body (envOfC d.name d.scope s₁.heap.objs.size fa cd))
        (fun f s' => f = .ret (.bool true) ∧ (∀ b o, s₁.heap.get? b = some o → s'.heap.get? b = some o) ∧ s'.os = s₁.os ∧ s'.gens = #[]) (fun _ _ => False) s) :
    WalkN q loose XP YP l.row.toRowW d [] (fun f vs => PySem.call f vs) := by
  intro w s₀ s₁ mg mb G Y fa o pm cd doc dV kV ho hd hcd hD hmg hg args vals as hpre hlay hrd hwl hlo
  obtain rfl : dV = .none := Dflts.none hD hdf
  obtain rfl : kV = .none := Dflts.noKw hD
  obtain ⟨a, vs, ns, rfl, rfl, hobj, hints, hlen⟩ := script_of hn hpre hwl
  refine enter_callW ?_
  refine call_cells_ret (o := o) (by rw [depth_caller]; decide) ho (fd_plain hd) G.T.nolimit hcd (hbind pm cd doc (.ref a)) (fun y hy => ?_) (fun h₁ tk F X => ?_) hco hgen hk
  · obtain rfl : y = (x, Value.ref a) := List.mem_singleton.mp hy
    rcases hx with e | e
    · exact .inl e
    · exact .inr ⟨e, cellsFrom_some _ _ _ (.inl e)⟩
  · refine wpAny_mono (body w s₀ s₁ { s₁ with heap := h₁, toks := tk } mg mb fa o pm cd doc a vs ns G Y ho (fd_plain hd) hcd hmg hobj hints hlen hg rfl F X) (fun f s' hq => ?_) (fun _ _ hq => hq)
    obtain ⟨rfl, h2, h3, h4⟩ := hq
    exact ⟨.inl ⟨.bool true, .bool true, [], rfl, fun _ => rfl, .bool true, post_true l _, fun _ => ⟨List.Pairwise.nil, fun _ hm => (nomatch hm)⟩⟩, h2, h3, h4⟩

/-! ### rules over ANY heap (no ledger) from facts about the written part K: the library's own take a ledger (News) for what they write -/
section
variable {prog : Program} {w : World} {A : Around} {E : Value → Shared → Prop} {s : Shared} {K : Frag}

/-- a def of the module, or a method (qual 'C.m'), entered: the frame is the next address; cells behind it -/
theorem call_fn {R : Result → Shared → Prop} {name qual : Str} {params : Arguments} {body : List Stmt} {scope : Scope} {dV kV doc pm cdv ct oc : Value} {an od : Option Addr} {osl : Array (Option Value)} {f : Addr} {args : Args} {binds : List (Str × Value)}
    (X : K.In s.heap) (hlim : s.heap.NoLimit) (ho : K.lookup f = some ⟨oc, od, .func (fnOf name qual params body scope dV kV doc pm an cdv ct), osl⟩) (hcd : codeIn K cdv qual = true) (hroom : A.depth < recursionLimit)
    (hbind : BindsTo s (fnOf name qual params body scope dV kV doc pm an cdv ct) args binds)
    (hkind : (binds.all fun y => scope.names.lookup y.1 == some .local || scope.names.lookup y.1 == some .cell) = true)
    (h : ∀ s₁, InCallC s s.heap.objs.size (bindL (envOfC qual scope s.heap.objs.size f cdv).kindOf binds fun _ => none) (cellsFrom (s.heap.objs.size + 1) scope.names [])
        (bindC (envOfC qual scope s.heap.objs.size f cdv).kindOf binds fun _ => none) s₁ →
      wpAny (model prog w) (A.deeper (envOfC qual scope s.heap.objs.size f cdv)) (execs body (envOfC qual scope s.heap.objs.size f cdv))
        (fun fl s' => R (.ok (.ret (match fl with | .ret v => v | _ => .none))) s')
        (fun e s' => wpAny (model prog w) (A.deeper (envOfC qual scope s.heap.objs.size f cdv)) (leaving (envOfC qual scope s.heap.objs.size f cdv) e) (fun _ s'' => R (.error e) s'') (fun e' s'' => R (.error e') s'') s') s₁)
    (hco : scope.isCoroutine = false) (hgen : scope.isGenerator = false) (hk : scope.kind = .function) : codeAny (model prog w) A (.call (.ref f) args) R s := by
  refine codeAny_call_function hroom (X _ _ ho) rfl hco hgen rfl (codeRec_of X hcd) (hbind _ _ _ _ ?_)
  refine wpAny_newFunctionEnv_cells hk (kindsX hkind _) fun env he s₁ x => ?_
  subst he
  exact ⟨hlim.keeps x.toInCall.keep, codeAny_func (h s₁ x)⟩

/-- C(..): dict at size, instance at size + 1, then __init__ -/
theorem make_obj {R : Result → Shared → Prop} {C fI : Addr} {rest : List Value} {kw : List (Str × Value)}
    (X : K.In s.heap) (hm : makesIn K C = true) (hi : findIn K (.ref C) "__init__" = some (some (.ref fI))) (hf : isFn K (.ref fI) = true)
    (h : codeAny (model prog w) (A.under (.builtin "type.__call__" ⟨.ref C :: rest, kw⟩)) (.call (.ref fI) ⟨.ref (s.heap.objs.size + 1) :: rest, kw⟩) (InitBack (s.heap.objs.size + 1) R)
      { s with heap := (s.heap.push emptyDict).push (instObj C s.heap.objs.size) }) : codeAny (model prog w) A (.call (.ref C) ⟨rest, kw⟩) R s := by
  obtain ⟨hh, g, d, t, os⟩ := s
  exact make_core (makes_of X hm) (looks_findIn X hi) (fun self => bind_fn X self (beq_iff_eq.mp hf)) (.inl rfl) h

/-- x.name where the instance's dict holds the name and the class does not -/
theorem get_field {x C : Addr} {ox : Obj} {es : List DictEntry} {n : Nat} {name : Str} {expr : Bool} {v : Value} {Q : Value → Shared → Prop}
    (X : K.In s.heap) (I : PySem.W.InstAt s.heap x ox C (some (dictOf es n))) (hg : plainGet K C name = true) (hh : hasDictIn K C = true) (ha : findIn K (.ref C) name = some none)
    (hl : getL name es = some (some v)) (hv : handedIn v = true) (h : Q v { s with toks := s.toks + 1 }) : wpAny (model prog w) A (getAttr (.ref x) name expr) Q E s :=
  get_value X I (plainGet_of hg).1 (findObj_own hh ha rfl hl) hv h

/-- x.m(..): the method found in the class -/
theorem get_method {x C f : Addr} {ox : Obj} {es : List DictEntry} {n : Nat} {name : Str} {pl : Sem Bool} {Q : Value × List Value → Shared → Prop}
    (X : K.In s.heap) (I : PySem.W.InstAt s.heap x ox C (some (dictOf es n))) (hg : plainGet K C name = true) (hf : findIn K (.ref C) name = some (some (.ref f))) (ht : isFn K (.ref f) = true)
    (hl : getL name es = some none) (h : Q (.ref f, [.ref x]) s) : wpAny (model prog w) A (getMethod (.ref x) name pl) Q E s :=
  method_fn X I (plainGet_of hg).1 (plainGet_of hg).2 hf (beq_iff_eq.mp ht) (by show (lookIn name (dictOf es n)).map _ = _; rw [lookIn_dict, hl]; rfl) h

/-! the whole heap as the ledger: makes every rule that writes through a ledger a rule over any heap -/
def noObjs (h : Heap) : Heap := { h with objs := #[] }
theorem noObjs_get (h : Heap) (b : Addr) : (noObjs h).get? b = none := by
  cases e : (noObjs h).get? b with
  | none => rfl
  | some o => exact absurd (Heap.lt_size e) (Nat.not_lt_zero _)
def ledger (h : Heap) (L d : Addr) : List (Addr × Obj) := (List.range h.objs.size).filterMap fun a => if a = L ∨ a = d then none else (h.get? a).map fun o => (a, o)
theorem mem_ledger {h : Heap} {L d a : Addr} {o : Obj} : (a, o) ∈ ledger h L d ↔ a ≠ L ∧ a ≠ d ∧ h.get? a = some o := by
  unfold ledger
  rw [List.mem_filterMap]
  constructor
  · rintro ⟨b, _, e⟩
    split at e
    · cases e
    · rename_i hb
      obtain ⟨o', ho, e'⟩ := Option.map_eq_some_iff.mp e
      cases e'
      exact ⟨fun q => hb (.inl q), fun q => hb (.inr q), ho⟩
  · rintro ⟨n1, n2, ho⟩
    refine ⟨a, List.mem_range.mpr (Heap.lt_size ho), ?_⟩
    rw [if_neg (show ¬ (a = L ∨ a = d) from fun q => q.elim n1 n2), ho] <;> rfl
theorem news_ledger {h : Heap} {L d : Addr} {od : Obj} (hne : d ≠ L) (ho : h.get? d = some od) : News (noObjs h) L h ([] ++ (d, od) :: ledger h L d) := by
  rintro ⟨a, o⟩ hp
  rcases List.mem_cons.mp hp with e | hp
  · cases e
    exact ⟨ho, hne, noObjs_get _ _⟩
  · obtain ⟨n1, n2, e⟩ := mem_ledger.mp hp
    exact ⟨e, n1, noObjs_get _ _⟩
theorem fr_all {h : Heap} {L : Addr} {m : Str → Option Value} (n : h.Ns L m) : Fr (noObjs h) L h m :=
  ⟨n, fun b o e => (by rw [noObjs_get] at e; cases e), Nat.zero_le _⟩
/-- Upd of the head entry (for append_K, setItem_K ..) -/
theorem upd_ledger {h : Heap} {L d : Addr} {o o' : Obj} : Upd d o o' ((d, o) :: ledger h L d) ((d, o') :: ledger h L d) :=
  .head fun ⟨_, _⟩ hp => (mem_ledger.mp hp).2.1

/-- x.name = v over any heap: L is any namespace of the heap (the frame's, say): its map stays, its object is not told; all else but the dict stays -/
theorem set_field {x C dx L : Addr} {ox : Obj} {m : Str → Option Value} {es es' : List DictEntry} {n n' : Nat} {name : Str} {v : Value} {Q : Unit → Shared → Prop}
    (X : K.In s.heap) (I : PySem.W.InstAt s.heap x ox C (some (dictOf es n))) (hd : ox.dict = some dx) (hL : s.heap.Ns L m) (hne : dx ≠ L)
    (hs : findIn K (.ref C) "__setattr__" = some (some (.builtin "object.__setattr__"))) (hp : plainOver K C = true) (ht : takerIn K C name = some none) (hh : hasDictIn K C = true) (hl : (getL name es).isSome = true)
    (e : (putL name (PyData.keyHash w.params name) (.str name (s.toks + 1)) v es, putN name es n) = (es', n')) (hz : es'.length ≤ 1000)
    (h : ∀ h' : Heap, h'.Ns L m → h'.get? dx = some (dictOf es' n') → (∀ b o, b ≠ dx → b ≠ L → s.heap.get? b = some o → h'.get? b = some o) → Q () { s with heap := h', toks := s.toks + 2 }) :
    wpAny (model prog w) A (setAttr (.ref x) name v) Q E s := by
  obtain ⟨e1, e2⟩ := Prod.mk.inj e
  have hdx : s.heap.get? dx = some (dictOf es n) := by
    have := I.dict
    rw [hd] at this
    exact this
  refine set_plain X I hs (osa_dict (s := { s with toks := s.toks + 1 }) (h₀ := noObjs s.heap) (L := L) (m := m) (od := dictOf es n) (od' := dictOf es' n') (es := es') (n := n') (pre := []) (post := ledger s.heap L dx)
    (fr_all hL) (news_ledger hne hdx) X I hd hp ht hh hl (fun _ q => nomatch q) (fun ⟨_, _⟩ q => (mem_ledger.mp q).2.1) (by rw [putName_dict, e1, e2]) rfl hz fun h' F' N' => ?_)
  exact h h' F'.ns (N'.get (List.Mem.head _)) fun b o n1 n2 ho => N'.get (List.Mem.tail _ (mem_ledger.mpr ⟨n2, n1, ho⟩))
end
end Att

namespace L2
open PySem PySem.Spec PyProof.Rows

theorem vals_ints : ∀ {vs : List Value} {ns : List Int}, IntsAre vs ns → Vals (ns.map V.int) vs
  | _, _, .nil => .nil
  | _, _, .cons n t h => .cons ⟨t, rfl⟩ (vals_ints h)

/-- nothing is tracked but the script, known to the object (or it is an object of the module) -/
def Only (H : Hp) : Prop := ∀ b, H b = none ∨ ∃ o xs, H b = some (.frz o (.lst xs))

/-- THE HEAD: the law's promise, at the heap behind the top. F, the promise of the law's def, may use that base is part of the heap (so K.In base, base.Ns mainGlobals mg stand in Mod) -/
theorem law_call {P : Program} {w : World} {K : PySem.W.Frag} {mg mb : Str → Option Value} {CX : CXT} {k : Nat} {fa a : Addr} {fd : FuncData} {x : Str} {sp : Sp} {s₁ : Shared} {vs : List Value} {ns : List Int}
    (KX : K.In s₁.heap) (hns : s₁.heap.Ns mainGlobals mg) (hb : s₁.heap.Ns builtinsNs mb) (hbb : ∀ x : Str, x ≠ "__name__" → mb x = bootBuiltins x) (hlim : s₁.heap.NoLimit) (hg : s₁.gens = #[])
    (ha : s₁.heap.get? a = some { cls := .type "list", data := .seq vs.toArray }) (hi : IntsAre vs ns) (hl : ns.length ≤ sizeLine) (hr : Room k callerA)
    (F : ∀ base : Heap, K.In base → base.Ns mainGlobals mg → FnOk P w K mg base CX k fa fd [x] sp) (hbind : ∀ (s : Shared) (u : Value), BindsTo s fd ⟨[u], []⟩ [(x, u)])
    (hsp : ∀ H : Hp, Only H → SqL K H a (ns.map V.int) → sp [.ref a] H (fun v _ => v = .bl true) fun _ _ _ => False)
    (hCX : ∀ H e s', CX [] H s₁ (fun _ _ _ => False) e s' → False) :
    codeAny (model P w) callerA (.call (.ref fa) ⟨[.ref a], []⟩) (fun r s' => r = .ok (.ret (.bool true)) ∧ OldK s₁.heap s'.heap ∧ s'.os = s₁.os ∧ AllBare s'.gens) s₁ := by
  have rv := vals_ints hi
  have lenV := hi.length
  -- from an abstract heap in which nothing but the script may be tracked
  have core : ∀ H : Hp, Only H → SqL K H a (ns.map V.int) → HOk P w H s₁.heap → (∀ b, H b ≠ none → b = a) → (H a ≠ none → K.lookup a = none) →
      codeAny (model P w) callerA (.call (.ref fa) ⟨[.ref a], []⟩) (fun r s' => r = .ok (.ret (.bool true)) ∧ OldK s₁.heap s'.heap ∧ s'.os = s₁.os ∧ AllBare s'.gens) s₁ := by
    intro H hO hS hok hA hK
    have base_of : ∀ {b : Addr} {o : Obj}, s₁.heap.get? b = some o → H b = none → (hidT s₁.heap H).get? b = some o := fun e n => hidT_get e n
    have noA : ∀ {b : Addr} {o : Obj} {es : Array DictEntry} {ep : Nat}, s₁.heap.get? b = some o → o.data = .dict es ep → H b = none := fun {b o es ep} e d => by
      cases q : H b with
      | none => rfl
      | some u =>
        have e' : b = a := hA b (by rw [q]; simp)
        subst e'
        rw [ha] at e; cases e
        have d' : Data.seq vs.toArray _ = Data.dict es ep := d
        cases d'
    have nsK : ∀ {b : Addr} {m : Str → Option Value}, s₁.heap.Ns b m → (hidT s₁.heap H).Ns b m := fun {b m} ⟨o, es, ep, e, d, r⟩ => ⟨o, es, ep, base_of e (noA e d), d, r⟩
    have hKb : K.In (hidT s₁.heap H) := fun b o e => base_of (KX b o e) (by
      cases q : H b with
      | none => rfl
      | some u =>
        have e' : b = a := hA b (by rw [q]; simp)
        subst e'
        rw [hK (by rw [q]; simp)] at e; cases e)
    have hM : Mod K mg (hidT s₁.heap H) := ⟨hKb, nsK hns, ⟨mb, nsK hb, hbb⟩, let ⟨mc, h1, h2⟩ := hlim; ⟨mc, nsK h1, h2⟩⟩
    have e0 : Env0 P w K mg (hidT s₁.heap H) callerA [] s₁ H := ⟨rfl, hM, fun b o e => of_hidT e, Nat.le_of_eq (hidT_size _ _), trivial, fun b hb => absurd (show b ∈ ([] : List Addr) from hb) (by simp), hok, .of_eq hg⟩
    refine codeAny_mono ((F _ hKb (nsK hns)).run callerA [] s₁ H ⟨[.ref a], []⟩ [.ref a] [.ref a] _ _ hr e0 (hbind s₁ (.ref a)) (.cons rfl .nil) (hsp H hO hS)) fun r s' h => ?_
    cases r with
    | error e => exact (hCX H e s' h).elim
    | ok fl =>
      cases fl with
      | next => exact False.elim h
      | brk => exact False.elim h
      | cont => exact False.elim h
      | ret u =>
        obtain ⟨v, H', os, bare, un, hok', r', q⟩ := h
        have q' : v = .bl true := q
        subst q'
        obtain rfl : u = Value.bool true := r'
        refine ⟨rfl, OldK.of_keep fun b o e => ?_, os, bare⟩
        cases q : H b with
        | none => exact un.keep b o e q (by intro z; exact absurd (show b ∈ ([] : List Addr) from z) (by simp)) (by simp)
        | some u =>
          rcases hO b with z | ⟨ob, xs, z⟩
          · rw [q] at z; cases z
          · have z2 := un.frzs b ob _ z
            obtain ⟨e1, _⟩ := hok b _ z
            obtain ⟨e2, _⟩ := hok' b _ z2
            rw [e] at e1; cases e1
            exact e2
  cases hk : K.lookup a with
  | some o =>
    -- the script is one of the module's own objects
    have e := KX a o hk
    rw [ha] at e
    cases e
    refine core (fun _ => none) (fun _ => .inl rfl) (.inr ⟨_, vs.toArray, _, hk, rfl, rfl, rfl, by rw [List.size_toArray, lenV]; exact hl, by simpa using rv⟩) (fun b u z => by have z' : (none : Option HO) = some u := z; cases z') (fun b z => absurd rfl z) fun z => absurd rfl z
  | none =>
    refine core (fun b => if b = a then some (.frz { cls := .type "list", data := .seq vs.toArray } (.lst (ns.map V.int))) else none) (fun b => ?_) (.inl (.inr ⟨{ cls := .type "list", data := .seq vs.toArray }, if_pos rfl⟩)) (fun b u z => ?_) (fun b z => ?_) fun _ => hk
    · by_cases hb : b = a
      · exact .inr ⟨_, _, if_pos hb⟩
      · exact .inl (if_neg hb)
    · by_cases hb : b = a
      · have z' := (if_pos hb).symm.trans z
        cases z'
        subst hb
        exact ⟨ha, by rw [List.length_map]; exact hl, vs, _, rv, ha⟩
      · have z' := (if_neg hb).symm.trans z
        cases z'
    · by_cases hb : b = a
      · exact hb
      · exact absurd (if_neg hb) z
end L2

namespace L2
open PySem PySem.Spec PyProof.Rows

abbrev KOf {K : PySem.W.Frag} {h : Heap} (_ : K.In h) : PySem.W.Frag := K

/-- the goal that k_head leaves (case hc), from the law's promise. F gives the function object fd (K's own) once, then the promise over every base -/
theorem walk_of {l : PySem.W.OpenLaw} {n k : Nat} {q : Program} {loose : List Str} {XP : (Str → Option Value) → Heap → Prop} {YP : World → Heap → Prop} {d : DefRec} {K : Params → PySem.W.Frag} {CX : World → CXT} {sp : World → Sp} {x : Str}
    (hn : l.most = some n) (hn2 : n ≤ sizeLine) (hdf : d.params.defaults = []) (hr : Room k callerA)
    (hY : ∀ (w : World) (h : Heap), YP w h → (K w.params).In h)
    (F : ∀ (w : World) (mg : Str → Option Value) (fa : Addr) (h : Heap), (K w.params).In h → h.Ns mainGlobals mg → mg d.name = some (.ref fa) →
      ∃ fd : FuncData, (∀ (s : Shared) (u : Value), BindsTo s fd ⟨[u], []⟩ [(x, u)]) ∧
        ∀ base : Heap, (K w.params).In base → base.Ns mainGlobals mg → FnOk l.prog w (K w.params) mg base (CX w) k fa fd [x] (sp w))
    (hsp : ∀ (w : World) (H : Hp) (a : Addr) (ns : List Int), ns.length ≤ n → Only H → SqL (K w.params) H a (ns.map V.int) → sp w [.ref a] H (fun v _ => v = .bl true) fun _ _ _ => False)
    (hCX : ∀ (w : World) (H : Hp) (s : Shared) (e : Value) (s' : Shared), CX w [] H s (fun _ _ _ => False) e s' → False) :
    PySem.W.WalkO q loose XP YP l.row.toRowW d [] (fun f vs => PySem.call f vs) := by
  refine Att.attach_call hn hdf fun w s₀ s₁ mg mb fa o pm cd doc a vs ns G Y ho hd hcd hmg hobj hints hlen hg => ?_
  have KX := hY w _ Y
  obtain ⟨fd, hb, hF⟩ := F w mg fa _ KX G.T.g hmg
  exact law_call KX G.T.g G.T.b G.T.builtins G.T.nolimit hg hobj hints (Nat.le_trans hlen hn2) hr hF hb (fun H hO hS => hsp w H a ns hlen hO hS) fun H e s' => hCX w H s₁ e s'
/-- the same where the promise hangs on the written part alone: (sp := My.sp_law), no hole under a binder -/
theorem walk_ofK {l : PySem.W.OpenLaw} {n k : Nat} {q : Program} {loose : List Str} {XP : (Str → Option Value) → Heap → Prop} {YP : World → Heap → Prop} {d : DefRec} {K : Params → PySem.W.Frag} {CX : CXT} {sp : PySem.W.Frag → Sp} {x : Str}
    (hn : l.most = some n) (hn2 : n ≤ sizeLine) (hdf : d.params.defaults = []) (hr : Room k callerA)
    (hY : ∀ (w : World) (h : Heap), YP w h → (K w.params).In h)
    (F : ∀ (w : World) (mg : Str → Option Value) (fa : Addr) (h : Heap), (K w.params).In h → h.Ns mainGlobals mg → mg d.name = some (.ref fa) →
      ∃ fd : FuncData, (∀ (s : Shared) (u : Value), BindsTo s fd ⟨[u], []⟩ [(x, u)]) ∧
        ∀ base : Heap, (K w.params).In base → base.Ns mainGlobals mg → FnOk l.prog w (K w.params) mg base CX k fa fd [x] (sp (K w.params)))
    (hsp : ∀ (K : PySem.W.Frag) (H : Hp) (a : Addr) (ns : List Int), ns.length ≤ n → Only H → SqL K H a (ns.map V.int) → sp K [.ref a] H (fun v _ => v = .bl true) fun _ _ _ => False)
    (hCX : ∀ (H : Hp) (s : Shared) (e : Value) (s' : Shared), CX [] H s (fun _ _ _ => False) e s' → False) :
    PySem.W.WalkO q loose XP YP l.row.toRowW d [] (fun f vs => PySem.call f vs) :=
  walk_of (K := K) (CX := fun _ => CX) (sp := fun w => sp (K w.params)) hn hn2 hdf hr hY F (fun w H a ns h1 h2 h3 => hsp (K w.params) H a ns h1 h2 h3) fun _ H s e s' => hCX H s e s'
end L2

/- THE LAST THEOREM (shape; LID, My.* are yours):
   My.Adr: a structure of the addresses that your layer names (classes, functions); My.Txt K t: a structure (Prop) of the equations over K;
   My.txt_mk : {K} {implicit addresses ..} (e1 : nsIn K mainGlobals "law" = some (some (.ref f))) (e2 : K.lookup f = some ⟨oc, od, .func (fnOf "law" "law" params body scope dV kV doc pm an cdv ct), sl⟩) (e3 : codeIn K cdv "law" = true) .. : ∃ t, My.Txt K t

set_option maxRecDepth 100000 in
set_option maxHeartbeats 0 in
theorem PySem.Challenge.cw_LID_holds : PySem.Challenge.rw_LID.Holds := by
  w_on; o_law; k_head; (case hw => w_witness2)
  k_fill
  refine L2.walk_of (l := PySem.Challenge.rw_LID) (n := 63) (k := 40) (x := "script") (CX := fun w => ..) (sp := fun _ => My.sp_law) rfl (by decide) rfl ⟨rfl, by decide, by decide⟩ (fun w h Y => PySem.W.kIn_of Y) ?F ?S ?C
  case F =>
    intro w mg fa h KX G hmg
    have T : ∃ t, My.Txt (L2.KOf KX) t := by
      dsimp only [L2.KOf]                          -- K must stand as «<heap const> w.params» for k_is
      refine' My.txt_mk ?e1 ?e2 ?e3 ..
      (case e1 => PySem.W.k_is)                    -- in the order: a name -> its address -> its object -> its parts
      (case e2 => PySem.W.k_is)
      ..
    obtain ⟨t, T⟩ := T
    have e0 := hmg.symm.trans (PySem.W.mg_of KX G T.law)
    cases e0                                       -- fa is the law's own address
    exact ⟨_, fun s u => .of_eq rfl, fun base kb nb => My.law_fn T kb nb⟩     -- if «.of_eq rfl» comes too early: refine' ⟨_, ?b, fun base kb nb => My.law_fn T kb nb⟩; exact fun s u => .of_eq rfl
  case S => exact fun w H a ns hl hO hS => ..
  case C => exact ..
(the tactic k_is has no namespace: write k_is) -/

/-! SHORT WORDS over the layer: a def of the text, its body, what a loop and a test want. -/
namespace L2
open PySem PySem.Spec PyProof.Rows

/-! ### the text by places -/
/-- the j-th statement of a class's body -/
def inClass (s : Stmt) (j : Nat) : Stmt := match s with
  | .ClassDef _ _ _ body _ _ _ _ _ _ _ => body.getD j (.Pass ⟨0, 0, 0, 0⟩)
  | _ => .Pass ⟨0, 0, 0, 0⟩
def defArgs (s : Stmt) : Arguments := match s with
  | .FunctionDef _ a _ _ _ _ _ _ _ _ => a
  | _ => { posonlyargs := [], args := [], vararg := none, kwonlyargs := [], kw_defaults := [], kwarg := none, defaults := [] }
def defBody (s : Stmt) : List Stmt := match s with
  | .FunctionDef _ _ b _ _ _ _ _ _ _ => b
  | _ => []
def defScope (s : Stmt) : Scope := match s with
  | .FunctionDef _ _ _ _ _ _ sc _ _ _ => sc
  | _ => { kind := .function, names := [], isGenerator := false, isCoroutine := false }

/-! ### no exception leaves a def -/
abbrev CX0 : CXT := fun _ _ _ _ _ _ => False
abbrev E0 : XK := fun _ _ _ => False
theorem pass0 {X : Cx} : Passes CX0 X E0 := fun _ _ _ _ _ _ _ h => h.elim

/-! ### a def (or method) of the text as it stands behind the top -/
structure Fun (K : PySem.W.Frag) (x qual : Str) (st : Stmt) (f : Addr) (fd : FuncData) : Prop where
  ex : ∃ (oc : Value) (od : Option Addr) (kV doc pm : Value) (an : Option Addr) (cdv ct : Value) (osl : Array (Option Value)),
    fd = PySem.W.fnOf x qual (defArgs st) (defBody st) (defScope st) .none kV doc pm an cdv ct ∧ K.lookup f = some ⟨oc, od, .func fd, osl⟩ ∧ PySem.W.codeIn K cdv qual = true
  kp : PySem.W.keepIn K (.ref f) = true
section
variable {P : Program} {w : World} {K : PySem.W.Frag} {mg : Str → Option Value} {base : Heap}
/-- THE RULE for a def: its body as a term of rules, and the reading of that term -/
theorem Fun.ok {x qual : Str} {st : Stmt} {f : Addr} {fd : FuncData} {N ps : List Str} {k : Nat} {sp : Sp} (F : Fun K x qual st f fd) (S : FnScope N ps (defScope st)) (len : ∀ vs H Q E, sp vs H Q E → vs.length = ps.length)
    (hbody : ∀ (cdv : Value) (A : Around) (outer : List Env) (s : Shared) (H : Hp) (vs : List V) (Q : VK) (E : XK), Room k (A.deeper (envOfC qual (defScope st) s.heap.objs.size f cdv)) → sp vs H Q E →
      ∃ t, PSs (cxOf CX0 P w K mg base N qual (defScope st) f cdv A outer s H E).nox (defBody st) t ∧ t { nx := fun _ H' => Q .non H', rt := Q } (start N vs) H) : FnOk P w K mg base CX0 (k + 1) f fd ps sp := by
  obtain ⟨oc, od, kV, doc, pm, an, cdv, ct, osl, rfl, lk, hcd⟩ := F.ex
  refine fn_of lk hcd S len fun A outer s H vs Q E hr hsp => ?_
  obtain ⟨t, h, q⟩ := hbody cdv A outer s H vs Q E hr hsp
  exact ⟨t, h.nox, q⟩
/-- how its arguments bind (no defaults): h is «fun _ _ _ _ _ _ us hl => match us, hl with | [_, _], _ => rfl», one _ a parameter -/
theorem Fun.binds {x qual : Str} {st : Stmt} {f : Addr} {fd : FuncData} {ps : List Str} (F : Fun K x qual st f fd)
    (h : ∀ (kV doc pm : Value) (an : Option Addr) (cdv ct : Value) (us : List Value), us.length = ps.length → bindArgs (PySem.W.fnOf x qual (defArgs st) (defBody st) (defScope st) .none kV doc pm an cdv ct) ⟨us, []⟩ = pure (ps.zip us)) : Binds K fd ps [] := by
  obtain ⟨oc, od, kV, doc, pm, an, cdv, ct, osl, rfl, lk, hcd⟩ := F.ex
  exact .all (h kV doc pm an cdv ct)
theorem fun_mk {x qual : Str} {st : Stmt} {f : Addr} {oc : Value} {od an : Option Addr} {osl : Array (Option Value)} {kV doc pm cdv ct : Value} (l : K.lookup f = some ⟨oc, od, .func (PySem.W.fnOf x qual (defArgs st) (defBody st) (defScope st) .none kV doc pm an cdv ct), osl⟩)
    (c : PySem.W.codeIn K cdv qual = true) (k : PySem.W.keepIn K (.ref f) = true) : Fun K x qual st f (PySem.W.fnOf x qual (defArgs st) (defBody st) (defScope st) .none kV doc pm an cdv ct) := ⟨⟨oc, od, kV, doc, pm, an, cdv, ct, osl, rfl, l, c⟩, k⟩
end
theorem hu_of {A : Around} {k : Nat} (hr : Room k A) : A.units + 1 < cLine := Nat.lt_of_le_of_lt (Nat.add_le_add_left (by decide : 1 ≤ 64) _) hr.units
theorem small1000 {n : Nat} (h : n ≤ 1000) : n < sizeLine := Nat.lt_of_le_of_lt h (by decide)

/-! ### expressions in short: the name that stands in the i-th slot -/
section
variable {X : Cx}
theorem pv (i : Nat) {x : Str} {pos : Pos} (hN : X.N[i]? = some x := by rfl) (hv : Vis X.env.scope x := by first | exact Or.inl rfl | exact Or.inr (Or.inl rfl) | exact Or.inr (Or.inr rfl)) (hd : (x == ("__debug__" : Str)) = false := by decide)
    (hcd : (x == ("__classdict__" : Str)) = false := by decide) : PE X (.Name x pos) (tVar i) := pe_var hN hv hd hcd
/-- len of a dict -/
theorem call_lenD : CallR X (.builtin "len") (fun xs H Q => ∃ a kvs, xs = [V.ref a] ∧ H a = some (.dK kvs) ∧ Q (.int kvs.length) H) := by
  intro pins s σ H xs us Q I r h
  obtain ⟨a, kvs, rfl, ha, q⟩ := h
  obtain ⟨u, rfl, ru⟩ := vals1 r
  cases ru
  exact d_len I (.inl ha) fun t s' I' => ⟨.int kvs.length, H, I', ⟨t, rfl⟩, q⟩
end

/-! ### tests -/
theorem iteF {A B : Prop} (h : B) : if false = true then A else B := by
  rw [if_neg Bool.false_ne_true]
  exact h
theorem iteT {A B : Prop} (h : A) : if true = true then A else B := by
  rw [if_pos rfl]
  exact h
theorem ite2 {c A B : Prop} [Decidable c] (h1 : c → A) (h2 : ¬ c → B) : if c then A else B := by
  by_cases h : c
  · rw [if_pos h]
    exact h1 h
  · rw [if_neg h]
    exact h2 h
theorem iteNS {c A B : Prop} [Decidable c] (hc : c) (h : B) : if (!decide c) = true then A else B := by
  rw [decide_eq_true hc]
  exact iteF h

/-! ### heaps -/
/-- all that was tracked is as it was -/
def Same (H H' : Hp) : Prop := ∀ b o, H b = some o → H' b = some o
theorem Same.refl (H : Hp) : Same H H := fun _ _ h => h
theorem Same.trans {H H1 H2 : Hp} (a : Same H H1) (b : Same H1 H2) : Same H H2 := fun c o h => b c o (a c o h)
theorem Same.free {H H' : Hp} (e : Same H H') {l : Addr} (h : H' l = Option.none) : H l = Option.none := by
  cases q : H l with
  | none => rfl
  | some o =>
    rw [e l o q] at h
    cases h
theorem Same.seq {K : PySem.W.Frag} {H H' : Hp} {a : Addr} {xs : List V} (e : Same H H') (h : SqL K H a xs) : SqL K H' a xs := by
  rcases h with (h | ⟨o, h⟩) | h
  · exact .inl (.inl (e _ _ h))
  · exact .inl (.inr ⟨o, e _ _ h⟩)
  · exact .inr h

/-! ### a dict's pairs: keys that differ -/
section
variable {κ : Type} [DecidableEq κ]
theorem valV_not {kvs : List (κ × V)} {k : κ} (h : valV kvs k = none) : ¬ k ∈ kvs.map (·.1) := by
  intro m
  obtain ⟨p, hp, e⟩ := List.mem_map.mp m
  have q : (kvs.any fun kv => decide (kv.1 = k)) = true := List.any_eq_true.mpr ⟨p, hp, decide_eq_true e⟩
  rw [valV_any, h] at q
  exact absurd q (by simp)
theorem valV_in {kvs : List (κ × V)} {k : κ} {v : V} (h : valV kvs k = some v) : k ∈ kvs.map (·.1) := by
  have q : (kvs.any fun kv => decide (kv.1 = k)) = true := by
    rw [valV_any, h]
    all_goals rfl
  obtain ⟨p, hp, e⟩ := List.any_eq_true.mp q
  exact List.mem_map.mpr ⟨p, hp, of_decide_eq_true e⟩
theorem nd_snoc : ∀ {l : List κ} {k : κ}, l.Nodup → ¬ k ∈ l → (l ++ [k]).Nodup
  | [], k, _, _ => by simp
  | a :: r, k, h, hk => by
    obtain ⟨h1, h2⟩ := List.nodup_cons.mp h
    show (a :: (r ++ [k])).Nodup
    refine List.nodup_cons.mpr ⟨fun m => ?_, nd_snoc h2 fun m => hk (List.mem_cons.mpr (Or.inr m))⟩
    rcases List.mem_append.mp m with q | q
    · exact h1 q
    · exact hk (List.mem_cons.mpr (Or.inl (List.mem_singleton.mp q).symm))
theorem nd_putK {kvs : List (κ × V)} {k : κ} (v : V) (hn : (kvs.map (·.1)).Nodup) (h : valV kvs k = none) : ((putK kvs k v).map (·.1)).Nodup := by
  rw [putK_new v h, List.map_append]
  exact nd_snoc hn (valV_not h)
theorem dropK_pos {p : κ × V} {r : List (κ × V)} {k : κ} (e : p.1 = k) : dropK (p :: r) k = dropK r k := by
  unfold dropK
  rw [List.filter_cons, if_neg (by simp [e])]
theorem dropK_neg {p : κ × V} {r : List (κ × V)} {k : κ} (e : ¬ p.1 = k) : dropK (p :: r) k = p :: dropK r k := by
  unfold dropK
  rw [List.filter_cons, if_pos (by simp [e])]
theorem dropK_no : ∀ {kvs : List (κ × V)} {k : κ}, ¬ k ∈ kvs.map (·.1) → dropK kvs k = kvs
  | [], _, _ => rfl
  | p :: r, k, h => by
    have h' : ¬ k ∈ r.map (·.1) := fun m => by
      obtain ⟨q, hq, e⟩ := List.mem_map.mp m
      exact h (List.mem_map.mpr ⟨q, List.mem_cons.mpr (Or.inr hq), e⟩)
    rw [dropK_neg fun e => h (List.mem_map.mpr ⟨p, List.mem_cons.mpr (Or.inl rfl), e⟩), dropK_no h']
theorem dropK_mem {kvs : List (κ × V)} {k : κ} {p : κ × V} (h : p ∈ dropK kvs k) : p ∈ kvs := (List.mem_filter.mp h).1
theorem nd_dropK : ∀ {kvs : List (κ × V)} {k : κ}, (kvs.map (·.1)).Nodup → ((dropK kvs k).map (·.1)).Nodup
  | [], _, _ => List.nodup_nil
  | p :: r, k, h => by
    have h : (p.1 :: r.map (·.1)).Nodup := h
    obtain ⟨h1, h2⟩ := List.nodup_cons.mp h
    by_cases e : p.1 = k
    · rw [dropK_pos e]
      exact nd_dropK h2
    · rw [dropK_neg e]
      show (p.1 :: (dropK r k).map (·.1)).Nodup
      refine List.nodup_cons.mpr ⟨fun m => h1 ?_, nd_dropK h2⟩
      obtain ⟨q, hq, eq⟩ := List.mem_map.mp m
      exact List.mem_map.mpr ⟨q, dropK_mem hq, eq⟩
theorem dropK_len : ∀ {kvs : List (κ × V)} {k : κ}, (kvs.map (·.1)).Nodup → k ∈ kvs.map (·.1) → (dropK kvs k).length + 1 = kvs.length
  | [], _, _, m => by simp at m
  | p :: r, k, h, m => by
    have h : (p.1 :: r.map (·.1)).Nodup := h
    have m : k = p.1 ∨ k ∈ r.map (·.1) := List.mem_cons.mp m
    obtain ⟨h1, h2⟩ := List.nodup_cons.mp h
    by_cases e : p.1 = k
    · subst e
      rw [dropK_pos rfl, dropK_no h1]
      all_goals rfl
    · have m' : k ∈ r.map (·.1) := m.resolve_left fun z => e z.symm
      have q := dropK_len h2 m'
      rw [dropK_neg e, List.length_cons, List.length_cons]
      omega
end
end L2

set_option Elab.async false
set_option linter.all false
set_option maxRecDepth 100000
set_option maxHeartbeats 4000000
/-! A comprehension with one clause: its block as a context of its own. -/
namespace L2
open PySem PySem.Spec PyProof.Rows

theorem thnF {α : Type} {t : Sem α} {Q Q' : α → Shared → Prop} {M : Model} {A : Around} {E : Value → Shared → Prop} {s : Shared} (h : wpAny M A t Q (fun _ _ => False) s) (hQ : ∀ a s, Q a s → Q' a s) : wpAny M A t Q' E s :=
  wpAny_mono h hQ fun _ _ x => x.elim

def clOf (env : Env) : List (Str × NameKind) → List (Str × Addr) → List (Str × Addr)
  | [], acc => acc
  | (n, k) :: r, acc => clOf env r (if k == NameKind.free then (n, (env.cells.lookup n).getD 0) :: acc else acc)

theorem closure_go {env : Env} : ∀ (l : List (Str × NameKind)) (acc : List (Str × Addr)), (∀ x ∈ l, x.2 = NameKind.free → ∃ c, env.cells.lookup x.1 = some c) →
    (forIn l acc fun (x : Str × NameKind) (r : List (Str × Addr)) =>
      (match x with
      | (name, kind) => if (kind == NameKind.free) = true then (do let c ← cellOf env name; pure (ForInStep.yield ((name, c) :: r)) : Sem (ForInStep (List (Str × Addr)))) else pure (ForInStep.yield r))) = (pure (clOf env l acc) : Sem _)
  | [], acc, _ => rfl
  | (n, k) :: r, acc, h => by
    rw [List.forIn_cons]
    by_cases hk : (k == NameKind.free) = true
    · obtain ⟨c, hc⟩ := h (n, k) List.mem_cons_self (by simpa using hk)
      have hc : env.cells.lookup n = some c := hc
      dsimp only
      rw [if_pos hk]
      have e : cellOf env n = pure c := by unfold cellOf; rw [hc]
      rw [e]
      show (forIn r ((n, c) :: acc) _ : Sem _) = _
      rw [closure_go r ((n, c) :: acc) fun x hx => h x (List.mem_cons_of_mem _ hx)]
      show _ = (pure (clOf env r (if (k == NameKind.free) = true then (n, (env.cells.lookup n).getD 0) :: acc else acc)) : Sem _)
      rw [if_pos hk, hc]
      rfl
    · dsimp only
      rw [if_neg hk]
      show (forIn r acc _ : Sem _) = _
      rw [closure_go r acc fun x hx => h x (List.mem_cons_of_mem _ hx)]
      show _ = (pure (clOf env r (if (k == NameKind.free) = true then (n, (env.cells.lookup n).getD 0) :: acc else acc)) : Sem _)
      rw [if_neg hk]
theorem closure_of {env : Env} {sc : Scope} (h : ∀ x ∈ sc.names, x.2 = NameKind.free → ∃ c, env.cells.lookup x.1 = some c) : closureFor sc env = pure (clOf env sc.names []) := by
  unfold closureFor
  show (forIn sc.names [] _ >>= _) = _
  have := closure_go (env := env) sc.names [] h
  rw [show (forIn sc.names ([] : List (Str × Addr)) _ : Sem _) = pure (clOf env sc.names []) from this]
  rfl
theorem clOf_mem {env : Env} : ∀ (l : List (Str × NameKind)) (acc : List (Str × Addr)) (x : Str) (c : Addr), (x, c) ∈ clOf env l acc → (x, c) ∈ acc ∨ ((x, NameKind.free) ∈ l ∧ c = (env.cells.lookup x).getD 0)
  | [], acc, x, c, h => .inl h
  | (n, k) :: r, acc, x, c, h => by
    rcases clOf_mem r _ x c h with h | ⟨h, e⟩
    · by_cases hk : (k == NameKind.free) = true
      · rw [if_pos hk] at h
        rcases List.mem_cons.mp h with h | h
        · cases h
          exact .inr ⟨by rw [show k = NameKind.free by simpa using hk]; exact List.mem_cons_self, rfl⟩
        · exact .inl h
      · rw [if_neg hk] at h; exact .inl h
    · exact .inr ⟨List.mem_cons_of_mem _ h, e⟩
theorem clOf_acc {env : Env} : ∀ (l : List (Str × NameKind)) (acc : List (Str × Addr)) (x : Str), (∃ c, (x, c) ∈ acc) → ∃ c, (x, c) ∈ clOf env l acc
  | [], acc, x, h => h
  | (n, k) :: r, acc, x, ⟨c, h⟩ => clOf_acc r _ x ⟨c, by split; exact List.mem_cons_of_mem _ h; exact h⟩
theorem clOf_has {env : Env} : ∀ (l : List (Str × NameKind)) (acc : List (Str × Addr)) (x : Str), (x, NameKind.free) ∈ l → ∃ c, (x, c) ∈ clOf env l acc
  | [], acc, x, h => by simp at h
  | (n, k) :: r, acc, x, h => by
    rcases List.mem_cons.mp h with h | h
    · cases h
      exact clOf_acc r _ _ ⟨_, by rw [if_pos (by rfl)]; exact List.mem_cons_self⟩
    · exact clOf_has r _ x h
theorem lookup_mem {α : Type} : ∀ {l : List (Str × α)} {x : Str}, (∃ c, (x, c) ∈ l) → ∃ c, l.lookup x = some c
  | [], x, ⟨c, h⟩ => by simp at h
  | (n, a) :: r, x, ⟨c, h⟩ => by
    cases hx : x == n with
    | true => exact ⟨a, by simp only [List.lookup_cons, hx]⟩
    | false =>
      rcases List.mem_cons.mp h with h | h
      · cases h; simp at hx
      · obtain ⟨d, hd⟩ := lookup_mem ⟨c, h⟩
        exact ⟨d, by simp only [List.lookup_cons, hx]; exact hd⟩

/-- what the block sees of the frame around it -/
def pick (σ : St) (src : List (Option Nat)) : St := src.map fun o => match o with | none => none | some j => (σ[j]?).getD none

/-- one look over the block's scope: NY its names (own ones first), src the slots of the frame's for those that are captured -/
def compOk (X : Cx) (NY : List Str) (src : List (Option Nat)) (sc : Scope) : Bool :=
  (sc.kind == .function) && (src.length == NY.length) &&
  (sc.names.all fun x => x.2 != .cell && (x.2 != .local || sc.names.lookup x.1 == some .local) && (x.2 != .free || (X.env.scope.names.lookup x.1 == some .cell || X.env.scope.names.lookup x.1 == some .free))) &&
  ((NY.zip src).all fun p => match p.2 with | none => true | some j => X.N[j]? == some p.1 && sc.names.lookup p.1 == some .free)

def cxComp (X : Cx) (NY : List Str) (sc : Scope) (C : Addr) (s0 : Shared) (H0 : Hp) (ex : List Addr) : Cx where
  prog := X.prog
  w := X.w
  K := X.K
  mg := X.mg
  base := X.base
  A := X.A
  N := NY
  s₀ := s0
  H₀ := H0
  env := compEnvC sc (clOf X.env sc.names []) C X.env
  outer := X.stack
  stack := X.stack
  ex := ex
  fn := fun _ => false
  calm := X.calm
  pn := []
  xe := fun _ _ => False

def PFs (X : Cx) (ifs : List Expr) (t : TT) : Prop :=
  ∀ (pins : List (Addr × Obj)) (s : Shared) (σ : St) (H : Hp) (Q : Bool → Hp → Prop), Inv X pins σ H s → t σ H Q →
    wpAny (model X.prog X.w) X.A (forIn ifs true fun c r => if r = true then do let ok ← isTrue c X.env (eval c X.env); pure (ForInStep.yield ok) else pure (ForInStep.yield r)) (TP X pins σ Q) X.xe s
def tYes : TT := fun _ H Q => Q true H
theorem pf_nil {X : Cx} : PFs X [] tYes := fun _ _ _ H _ I h => wpAny_tests_nil ⟨H, I, h⟩
theorem pf_one {X : Cx} {c : Expr} {t : TT} (h : PT X c t) : PFs X [c] t := fun pins s σ H Q I q => wpAny_tests_one (h pins s σ H Q I q)

theorem codeAny_compLoop_gen {prog : Program} {w : World} {A : Around} {R : Result → Shared → Prop} {s : Shared} {elt target iter : Expr} {ifs : List Expr} {scope : Scope} {pos : Pos} {it acc : Value} {env : Env} (I : Nat → Shared → Prop)
    (turn : ∀ n s, I n s → wpAny (model prog w) A (pyNext it) (fun r s₁ => match r with
      | none => R (.ok .next) s₁
      | some v => wpAny (model prog w) A (letOwnedTupleGo target it v) (fun _ s₁' => wpAny (model prog w) A (assign target env v) (fun _ s₂ =>
          wpAny (model prog w) A (forIn ifs true fun c r => if r = true then do let ok ← isTrue c env (eval c env); pure (ForInStep.yield ok) else pure (ForInStep.yield r)) (fun ok s₃ =>
            if ok = true then wpAny (model prog w) A (eval elt env) (fun x s₄ =>
              wpAny (model prog w) A (call (.builtin "list.append") [acc, x]) (fun _ s₅ => ∃ m, m < n ∧ I m s₅) (fun _ _ => False) s₄) (fun _ _ => False) s₃
            else ∃ m, m < n ∧ I m s₃) (fun _ _ => False) s₂) (fun _ _ => False) s₁') (fun _ _ => False) s₁) (fun _ _ => False) s)
    (n : Nat) (h : I n s) :
    codeAny (model prog w) A (.compLoop (.ListComp elt [⟨target, iter, ifs, 0⟩] scope pos) 0 it acc env) R s := by
  refine codeAny_loop rfl I (fun n s hI => ?_) n h
  show wpAny _ A ((compTurn (.ListComp elt [⟨target, iter, ifs, 0⟩] scope pos) 0 it acc env).onRaise (fun x => do noteFrame x env; theTreesLotGoes x)) _ _ s
  refine wpAny_noted ?_
  rw [compTurn_list]
  refine wpAny_bind (wpAny_standAt (wpAny_bind (thnF (turn n s hI) fun r s₁ h₁ => ?_)))
  cases r with
  | none => exact wpAny_pure h₁
  | some v =>
    refine wpAny_bind (thnF h₁ fun _ s₁' h₁' => ?_)
    refine wpAny_bind (thnF h₁' fun _ s₂ h₂ => wpAny_bind (thnF h₂ fun ok s₃ h₃ => ?_))
    cases ok with
    | false => exact wpAny_pure ⟨rfl, h₃⟩
    | true =>
      exact wpAny_bind (wpAny_bind (thnF h₃ fun x s₄ h₄ => wpAny_bind (thnF h₄ fun _ s₅ h₅ => wpAny_pure (wpAny_pure ⟨rfl, h₅⟩))))

/-- the walk's reading: R at the end, of the list at D -/
def tCompL (J : It) (g : TG) (tf : TT) (te : TE) (D : Addr) (R : Hp → Prop) (σ0 : St) (H0 : Hp) : Prop :=
  ∃ W : Nat → Nat → St → Hp → Prop, (∃ m, W 0 m σ0 H0) ∧ ∀ i m σ H, W i m σ H →
    (J.stop i H ∧ R H) ∨ (J.go i H ∧ ∃ N : St → Hp → Prop, (∀ σ' H', N σ' H' → ∃ m', m' < m ∧ W (i + 1) m' σ' H') ∧ ∀ x H', J.yld i H x H' → g x σ H' fun σ2 H2 => tf σ2 H2 fun ok H3 =>
      if ok = true then te σ2 H3 fun v H4 => ∃ xs, H4 D = some (.lst xs) ∧ xs.length < sizeLine ∧ N σ2 (upd H4 D (.lst (xs ++ [v]))) else N σ2 H3)

theorem lookup_relabel {env : Env} {x : Str} : ∀ {names : List (Str × NameKind)}, (∀ y ∈ names, y.2 ≠ .cell) →
    ((names.map fun (n, k) => if (k == NameKind.free && env.scope.kind == .function && env.kindOf n == some .cell) then (n, NameKind.cell) else (n, k)).lookup x = some .cell ∨
     (names.map fun (n, k) => if (k == NameKind.free && env.scope.kind == .function && env.kindOf n == some .cell) then (n, NameKind.cell) else (n, k)).lookup x = some .free) → names.lookup x = some .free
  | [], _, h => by simp at h
  | (n, k) :: r, hc, h => by
    have ih := @lookup_relabel env x r fun y hy => hc y (List.mem_cons_of_mem _ hy)
    have hk : k ≠ .cell := hc (n, k) List.mem_cons_self
    simp only [List.map_cons] at h
    cases hx : x == n with
    | true =>
      simp only [List.lookup_cons, hx]
      by_cases hq : (k == NameKind.free && env.scope.kind == .function && env.kindOf n == some .cell) = true
      · have : k = NameKind.free := by
          simp only [Bool.and_eq_true, beq_iff_eq] at hq
          exact hq.1.1
        rw [this]
      · rw [if_neg hq] at h
        simp only [List.lookup_cons, hx] at h
        rcases h with h | h
        · exact absurd (Option.some.inj h) hk
        · exact h
    | false =>
      simp only [List.lookup_cons, hx]
      apply ih
      by_cases hq : (k == NameKind.free && env.scope.kind == .function && env.kindOf n == some .cell) = true
      · rw [if_pos hq] at h
        simpa only [List.lookup_cons, hx] using h
      · rw [if_neg hq] at h
        simpa only [List.lookup_cons, hx] using h
theorem lookup_relabel_free {env : Env} {x : Str} : ∀ {names : List (Str × NameKind)}, names.lookup x = some .free →
    ((names.map fun (n, k) => if (k == NameKind.free && env.scope.kind == .function && env.kindOf n == some .cell) then (n, NameKind.cell) else (n, k)).lookup x = some .cell ∨
     (names.map fun (n, k) => if (k == NameKind.free && env.scope.kind == .function && env.kindOf n == some .cell) then (n, NameKind.cell) else (n, k)).lookup x = some .free)
  | [], h => by simp at h
  | (n, k) :: r, h => by
    have ih := @lookup_relabel_free env x r
    simp only [List.map_cons]
    cases hx : x == n with
    | true =>
      simp only [List.lookup_cons, hx] at h
      have h : k = .free := Option.some.inj h
      by_cases hq : (k == NameKind.free && env.scope.kind == .function && env.kindOf n == some .cell) = true
      · rw [if_pos hq]; simp only [List.lookup_cons, hx]; exact .inl trivial
      · rw [if_neg hq]; simp only [List.lookup_cons, hx]; rw [h]; exact .inr rfl
    | false =>
      simp only [List.lookup_cons, hx] at h
      by_cases hq : (k == NameKind.free && env.scope.kind == .function && env.kindOf n == some .cell) = true
      · rw [if_pos hq]; simp only [List.lookup_cons, hx]; exact ih h
      · rw [if_neg hq]; simp only [List.lookup_cons, hx]; exact ih h

section
variable {X : Cx} {pins : List (Addr × Obj)} {σ : St} {H2 : Hp} {s2 : Shared} {elt tg iter : Expr} {ifs : List Expr} {sc : Scope} {pos : Pos} {NY : List Str} {src : List (Option Nat)} {J : It} {fp : List Addr} {it : Addr} {tn : Nat → Heap → Prop} {g : TG} {tf : TT} {te : TE}

theorem comp_core {R : Addr → Hp → Prop} {E : Value → Shared → Prop} {RR : Value → Addr → Result → Shared → Prop} (ck : compOk X NY src sc = true) (hc : X.calm = true) (I2 : Inv X pins σ H2 s2) (T : Turn X.prog X.w X.K tg J fp it tn) (st2 : tn 0 s2.heap) (f2 : ∀ b ∈ fp, FpOk X pins H2 b)
    (hg : ∀ C s0 H0, PG (cxComp X NY sc C s0 H0 fp) tg g) (hf : ∀ C s0 H0, PFs (cxComp X NY sc C s0 H0 fp) ifs tf) (he : ∀ C s0 H0, PE (cxComp X NY sc C s0 H0 fp) elt te)
    (rd : ∀ D, H2 D = none → tCompL J g tf te D (R D) (pick σ src) (upd H2 D (.lst [])))
    (fin : ∀ D C H' s', Inv X pins σ H' s' → R D H' → H' C = none → X.s₀.heap.objs.size ≤ C → C ≠ X.env.locals → (∀ x c, X.env.cells.lookup x = some c → c ≠ C) → (∀ p ∈ X.pn ++ pins, p.1 ≠ C) → C ∉ X.fs → (∃ m, s'.heap.Ns C m) → RR (.ref D) C (.ok .next) s') :
    wpAny (model X.prog X.w) X.A (newList []) (fun acc s₃ => wpAny (model X.prog X.w) X.A (newFunctionEnv sc X.env.globals (clOf X.env sc.names []) [] X.env.qual none .none (some X.env)) (fun cenv s₄ =>
      codeAny (model X.prog X.w) X.A (.compStart (.ListComp elt [⟨tg, iter, ifs, 0⟩] sc pos) 0 (.ref it) acc { cenv with scope := relabel sc X.env }) (RR acc cenv.locals) s₄) E s₃) E s2 := by
  unfold compOk at ck
  simp only [Bool.and_eq_true, beq_iff_eq, List.all_eq_true] at ck
  obtain ⟨⟨⟨hkind, hlen⟩, hnm⟩, hsrc⟩ := ck
  have hcell : ∀ y ∈ sc.names, y.2 ≠ .cell := fun y hy e => by
    have := (hnm y hy).1.1
    rw [e] at this
    exact absurd this (by decide)
  have hfree : ∀ y ∈ sc.names, y.2 = .free → (X.env.kindOf y.1 = some .cell ∨ X.env.kindOf y.1 = some .free) := fun y hy e => by
    have := (hnm y hy).2
    rw [e] at this
    show X.env.scope.names.lookup y.1 = some .cell ∨ X.env.scope.names.lookup y.1 = some .free
    simpa using this
  have clsub : ∀ x c, (clOf X.env sc.names []).lookup x = some c → X.env.cells.lookup x = some c := fun x c e => by
    rcases clOf_mem _ _ x c (PySem.mem_of_lookup e) with h | ⟨h, q⟩
    · simp at h
    · obtain ⟨d, hd⟩ := I2.ok.has x (hfree _ h rfl)
      rw [hd] at q
      rw [hd, q]; rfl
  refine wpAny_newObj_type (wpAny_newFunctionEnv hcell (by intro y hy; simp at hy) (fun h₁ hns₁ hsb₁ => ?_) hkind)
  dsimp only at hns₁ hsb₁ ⊢
  have I3 := I2.lnew (ys := []) (its := []) (t' := s2.toks) .nil (Nat.zero_le _)
  have hD : H2 s2.heap.objs.size = none := I2.fresh
  generalize hDn : s2.heap.objs.size = D at hns₁ hsb₁ I3 hD ⊢
  generalize hH3 : s2.heap.push { cls := .type "list", dict := none, data := .seq ([] : List Value).toArray } = h3 at hns₁ hsb₁ I3 ⊢
  have hs3 : h3.objs.size = D + 1 := by rw [← hH3, Heap.size_push, hDn]
  generalize hCn : h3.objs.size = C at hns₁ hsb₁ hs3 ⊢
  have I3 : Inv X pins σ (upd H2 D (.lst [])) { s2 with heap := h3, toks := s2.toks } := I3
  have old : ∀ b o, h3.get? b = some o → h₁.get? b = some o := fun b o e => hsb₁.extBut b o (by rw [← hCn]; exact Nat.ne_of_lt (Heap.lt_size e)) (Heap.get?_push_of_some _ e)
  have neC : ∀ b o, h3.get? b = some o → b ≠ C := fun b o e => by rw [← hCn]; exact Nat.ne_of_lt (Heap.lt_size e)
  have hLC : X.env.locals ≠ C := by rw [← hCn]; exact Nat.ne_of_lt I3.lt
  have cLC : ∀ x c, X.env.cells.lookup x = some c → c ≠ C := fun x c e => by
    obtain ⟨v, o, ho, _⟩ := I3.cell x c e
    exact neC c o ho
  have fpC : ∀ b ∈ fp, b ≠ C := fun b hb => by
    obtain ⟨o, ho, _⟩ := T.obj _ _ st2 b hb
    have := Heap.lt_size ho
    rw [hDn] at this
    exact Nat.ne_of_lt (Nat.lt_trans this (by rw [hs3]; exact Nat.lt_succ_self _))
  have fpD : ∀ b ∈ fp, b ≠ D := fun b hb => by
    obtain ⟨o, ho, _⟩ := T.obj _ _ st2 b hb
    have := Heap.lt_size ho
    rw [hDn] at this
    exact Nat.ne_of_lt this
  have k23 : ∀ b o, s2.heap.get? b = some o → h3.get? b = some o := fun b o e => by rw [← hH3]; exact Heap.get?_push_of_some _ e
  have pinC : ∀ p ∈ X.pn ++ pins, p.1 ≠ C := fun p hp => neC _ _ (I3.pin p hp).1
  have fsC : C ∉ X.fs := by rw [← hCn]; exact I3.nofs (Nat.le_refl _)
  have ovC : X.s₀.heap.objs.size ≤ C := by rw [← hCn]; exact I3.sz
  have stkC : ∀ b ∈ frs X.stack, b ≠ C := fun b hb e => by
    rcases List.mem_cons.mp (I3.stkSub b hb) with z | z
    · exact hLC (z.symm.trans e)
    · exact fsC (e ▸ z)
  have HC : upd H2 D (.lst []) C = none := I3.hok.fresh (by show h3.objs.size ≤ C; exact Nat.le_of_eq hCn)
  have fpO : ∀ b ∈ fp, b ∉ frs X.stack := fun b hb z => by
    obtain ⟨_, h1, h2, _⟩ := f2 b hb
    rcases List.mem_cons.mp (I2.stkSub b z) with q | q
    · exact h1 q
    · exact h2 q
  let Y : Cx := cxComp X NY sc C { s2 with heap := h3 } (upd H2 D (.lst [])) fp
  have sc0 : (pick σ src).length = NY.length := by unfold pick; rw [List.length_map]; exact hlen
  have IY : Inv Y [] (pick σ src) (upd H2 D (.lst [])) { s2 with heap := h₁, toks := s2.toks + 0 } := by
    refine ⟨⟨I2.ok.mod, hkind, I2.ok.glob, I2.ok.blt, (by show h3.objs.size ≤ C; exact Nat.le_of_eq hCn), fun x y c h1 h2 => I2.ok.inj x y c (clsub x c h1) (clsub y c h2), fun x hx => ?_, fun _ _ z _ => (Bool.false_ne_true z).elim, I2.ok.hd, I2.ok.frames, .inl rfl, fun b hb => ⟨fpC b hb, fun x c e => (f2 b hb).2.2.2.2.1 x c (clsub x c e)⟩,
      fun b o e => ?_, ?_, fun b o e hb => ?_, fun b hb => fpO b hb, ?_, fun b hb => ?_⟩, rfl, I2.bare, Un.kept old, ⟨_, hns₁, fun i x v e1 e2 e3 => ?_⟩, fun x c e => ?_, HC, fun x c e => I3.freeC x c (clsub x c e), fun p hp => absurd (show p ∈ ([] : List (Addr × Obj)) from hp) (by simp), I3.hok.kept old, sc0⟩
    · have hx := lookup_relabel hcell hx
      exact lookup_mem (clOf_has _ _ _ (PySem.mem_of_lookup hx))
    · exact I3.bs b o e
    · exact Nat.le_trans I2.ok.bsz (Nat.le_trans (Nat.le_trans I2.sz (by rw [hDn]; exact Nat.le_refl _)) (by show D ≤ h3.objs.size; omega))
    · rcases (f2 b hb).2.2.2.1 with z | z
      · exact I2.ok.noex b o e z
      · exact absurd (Nat.lt_of_lt_of_le (Heap.lt_size (I2.ok.bs b o e).1) z) (Nat.lt_irrefl _)
    · exact I3.stack
    · exact I3.stkFree b hb
    · -- a captured name
      have hi : i < src.length := by
        have := (List.getElem?_eq_some_iff.mp e2).1
        rw [sc0, ← hlen] at this
        exact this
      have e1 : NY[i]? = some x := e1
      have es : src[i]? = some src[i] := by simp [hi]
      have ep : (pick σ src)[i]? = some (match src[i] with | none => none | some j => (σ[j]?).getD none) := by
        unfold pick
        rw [List.getElem?_map, es]
        rfl
      rw [ep] at e2
      cases hj : src[i] with
      | none => rw [hj] at e2; cases e2
      | some j =>
        rw [hj] at e2
        have e2 : (σ[j]?).getD none = some v := Option.some.inj e2
        have ej : σ[j]? = some (some v) := by
          cases q : σ[j]? with
          | none => rw [q] at e2; cases e2
          | some o => rw [q] at e2; rw [show o = some v from e2]
        have hm : (x, some j) ∈ NY.zip src := by
          have : (NY.zip src)[i]? = some (x, some j) := by
            rw [List.getElem?_zip_eq_some]
            exact ⟨e1, by rw [es, hj]⟩
          exact List.mem_of_getElem? this
        have q := hsrc _ hm
        simp only [Bool.and_eq_true, beq_iff_eq] at q
        obtain ⟨qN, qf⟩ := q
        have qk := hfree _ (PySem.mem_of_lookup qf) rfl
        obtain ⟨m, hn, hl⟩ := I3.loc
        obtain ⟨u, r, l⟩ := hl j x v qN ej (qk.elim (fun z => .inr (.inl z)) fun z => .inr (.inr z))
        refine ⟨u, r, .inr ⟨lookup_relabel_free qf, ?_⟩⟩
        rcases l with ⟨z, _⟩ | ⟨_, c, ec, o, ho, hd⟩
        · have qk : X.env.kindOf x = some .cell ∨ X.env.kindOf x = some .free := qk
          rw [z] at qk
          rcases qk with qk | qk <;> cases qk
        · obtain ⟨c', ec'⟩ := lookup_mem (clOf_has (env := X.env) sc.names [] x (PySem.mem_of_lookup qf))
          have := clsub x c' ec'
          rw [ec] at this
          cases this
          exact ⟨c, ec', o, old c o ho, hd⟩
    · obtain ⟨v, o, ho, hd⟩ := I3.cell x c (clsub x c e)
      exact ⟨v, o, old c o ho, hd⟩
  have st₁ : tn 0 h₁ := T.keep _ _ _ st2 fun b hb o e => old b o (k23 b o e)
  have stat : ∀ {H' : Hp}, (∀ b ∈ fp, H' b = none) → ∀ b ∈ fp, FpOk Y [] H' b := fun hn b hb => by
    refine ⟨hn b hb, fpC b hb, fpO b hb, .inl hb, fun x c e => (f2 b hb).2.2.2.2.1 x c (clsub x c e), fun p hp => absurd (show p ∈ ([] : List (Addr × Obj)) from hp) (by simp)⟩
  have loop : codeAny (model X.prog X.w) X.A (.compLoop (.ListComp elt [⟨tg, iter, ifs, 0⟩] sc pos) 0 (.ref it) (.ref D) Y.env) (RR (.ref D) C) { s2 with heap := h₁, toks := s2.toks + 0 } := by
    obtain ⟨W, ⟨m0, w0⟩, turn⟩ := rd D hD
    refine codeAny_compLoop_gen (fun n s' => ∃ i σ' H', Inv Y [] σ' H' s' ∧ tn i s'.heap ∧ (∀ b ∈ fp, H' b = none) ∧ W i n σ' H') ?_ m0 ⟨0, _, _, IY, st₁, fun b hb => by rw [upd_ne (fpD b hb)]; exact (f2 b hb).1, w0⟩
    rintro n s3 ⟨i, σ3, H3, J3, st3, fr3, w3⟩
    rcases turn i n σ3 H3 w3 with ⟨stop, qn⟩ | ⟨go, N, hN, step⟩
    · refine thn (T.done Y rfl rfl rfl hc i [] s3 σ3 H3 _ J3 (stat fr3) st3 stop) fun r s4 ⟨hr, J4⟩ => ?_
      subst hr
      have hcx : H3 C = none := J4.free
      refine fin D C H3 s4 ?_ qn hcx ovC (Ne.symm hLC) cLC pinC fsC (let ⟨m, hn, _⟩ := J4.loc; ⟨m, hn⟩)
      refine I2.call' (ch := fp) J4.os ?_ J4.hok J4.bare fun b hb => ?_
      · have u1 : Un (frs X.stack) fp H2 (upd H2 D (.lst [])) s2.heap h3 := Un.laid k23 (Nat.le_of_eq hDn) hD
        exact u1.trans J4.base
      · obtain ⟨_, h1, _, h3', h4, h5⟩ := f2 b hb
        exact ⟨h3', h1, h4, h5⟩
    · refine thn (T.item Y rfl rfl rfl hc i [] s3 σ3 H3 _ J3 (stat fr3) st3 go) fun r s4 ⟨u, hr, h4⟩ => ?_
      subst hr
      refine thn h4 fun _ s5 ⟨x, H5, J5, r5, y5, st5, fr5⟩ => ?_
      have J5' := J5.pinned (stat fr5) (T.obj _ _ st5)
      have again : ∀ {σ7 : St} {H7 : Hp} {s7 : Shared}, Inv Y ([] ++ pinsAt fp s5.heap) σ7 H7 s7 → N σ7 H7 → ∃ m, m < n ∧ ∃ i σ' H', Inv Y [] σ' H' s7 ∧ tn i s7.heap ∧ (∀ b ∈ fp, H' b = none) ∧ W i m σ' H' := fun {σ7 H7 s7} I7 n7 => by
        obtain ⟨m', hm, w7⟩ := hN σ7 H7 n7
        refine ⟨m', hm, i + 1, σ7, H7, I7.unpinned, T.keep _ _ _ st5 fun b hb o e => (I7.pin (b, o) (List.mem_append_right _ (List.mem_append_right _ (mem_pinsAt hb e)))).1, fun b hb => ?_, w7⟩
        obtain ⟨o, e, d⟩ := T.obj _ _ st5 b hb
        exact (I7.pin (b, o) (List.mem_append_right _ (List.mem_append_right _ (mem_pinsAt hb e)))).2.1
      refine thn (hg C _ _ _ s5 σ3 H5 x u _ J5' r5 (step x H5 y5)) fun _ s6 ⟨σ6, H6, J6, q6⟩ => ?_
      refine thn (hf C _ _ _ s6 σ6 H6 _ J6 q6) fun ok s7 ⟨H7, J7, q7⟩ => ?_
      cases ok with
      | false => exact again J7 (by simpa using q7)
      | true =>
        rw [if_pos rfl] at q7 ⊢
        refine thn (he C _ _ _ s7 σ6 H7 _ J7 q7) fun y s8 ⟨v, H8, J8, r8, xs, hx8, hz8, q8⟩ => ?_
        refine thn (mt_append (X := Y) _ s8 σ6 H8 (.ref D) [v] (.ref D) [y] (fun _ H' => N σ6 H') J8 rfl (.cons r8 .nil) ⟨D, xs, v, rfl, rfl, hx8, hz8, q8⟩) fun _ s9 ⟨_, H9, J9, _, q9⟩ => ?_
        exact again J9 q9
  exact codeAny_compStart_list loop (T.self _ 0 _ _ _ st₁ loop)
end
end L2

set_option Elab.async false
set_option linter.all false
set_option maxRecDepth 100000
set_option maxHeartbeats 4000000
namespace L2
open PySem PySem.Spec PyProof.Rows

/-! ### comprehensions, the rules -/
def tComp (wi : TI) (src : List (Option Nat)) (g : TG) (tf : TT) (te : TE) : TE := fun σ H Q => wi σ H fun J H1 => ∀ D, H1 D = none → tCompL J g tf te D (fun H' => Q (.ref D) H') (pick σ src) (upd H1 D (.lst []))
section
variable {X : Cx} {elt tg iter : Expr} {ifs : List Expr} {sc : Scope} {pos : Pos} {NY : List Str} {src : List (Option Nat)} {wi : TI} {g : TG} {tf : TT} {te : TE}
theorem comp_facts (ck : compOk X NY src sc = true) : sc.kind = .function ∧ (∀ y ∈ sc.names, y.2 = .local → sc.names.lookup y.1 = some .local) ∧ (∀ y ∈ sc.names, y.2 = .free → (X.env.kindOf y.1 = some .cell ∨ X.env.kindOf y.1 = some .free)) := by
  unfold compOk at ck
  simp only [Bool.and_eq_true, beq_iff_eq, List.all_eq_true] at ck
  obtain ⟨⟨⟨hkind, hlen⟩, hnm⟩, hsrc⟩ := ck
  refine ⟨hkind, fun y hy e => ?_, fun y hy e => ?_⟩
  · have := (hnm y hy).1.2
    rw [e] at this
    simpa using this
  · have := (hnm y hy).2
    rw [e] at this
    show X.env.scope.names.lookup y.1 = some .cell ∨ X.env.scope.names.lookup y.1 = some .free
    simpa using this
theorem pe_comp (NY : List Str) (src : List (Option Nat)) (hi : PI X tg iter wi) (hg : ∀ C s0 H0 ex, PG (cxComp X NY sc C s0 H0 ex) tg g) (hf : ∀ C s0 H0 ex, PFs (cxComp X NY sc C s0 H0 ex) ifs tf) (he : ∀ C s0 H0 ex, PE (cxComp X NY sc C s0 H0 ex) elt te)
    (hc : X.calm = true := by rfl) (ck : compOk X NY src sc = true := by rfl) (hs : ∀ x, foldedSetIterable iter X.env x = pure x := by intro _; rfl) : PE X (.ListComp elt [⟨tg, iter, ifs, 0⟩] sc pos) (tComp wi src g tf te) := by
  intro pins s σ H Q I h
  obtain ⟨hkind, hnames, hfree⟩ := comp_facts ck
  rw [eval_ListComp]
  refine wpAny_comprehension_free (use := none) rfl hs (closure_of fun x hx e => I.ok.has x.1 (hfree x hx e)) hkind hnames ?_
  refine thn (hi pins s σ H _ I h) fun v s1 h1 => thn h1 fun itv s2 h2 => ?_
  obtain ⟨it, fp, tn, J, H2, rfl, I2, T, st2, f2, rd⟩ := h2
  refine comp_core (R := fun D H' => Q (.ref D) H') (RR := fun acc C => compPost (model X.prog X.w) X.A X.xe none (EP X pins σ Q) acc C) ck hc I2 T st2 f2 (fun C s0 H0 => hg C s0 H0 fp) (fun C s0 H0 => hf C s0 H0 fp) (fun C s0 H0 => he C s0 H0 fp) rd ?_
  intro D C H' s' I' q hC h1 h2 h3 h4 h5 ⟨m, hn⟩
  refine ⟨m, hn, fun h' hs' => ⟨.ref D, H', ?_, rfl, q⟩⟩
  exact I'.turned (t' := s'.toks) (it := C) (fun b o hb e => hs'.extBut b o hb e) hC h2 (.inr h1) h3 h4
/-- x = [.. for ..] where the name is stored while the block's variables stand -/
theorem ps_comp (i : Nat) {x : Str} {px spos : Pos} (NY : List Str) (src : List (Option Nat)) (hN : X.N.Nodup) (hi : PI X tg iter wi) (hg : ∀ C s0 H0 ex, PG (cxComp X NY sc C s0 H0 ex) tg g) (hf : ∀ C s0 H0 ex, PFs (cxComp X NY sc C s0 H0 ex) ifs tf) (he : ∀ C s0 H0 ex, PE (cxComp X NY sc C s0 H0 ex) elt te)
    (hix : X.N[i]? = some x := by rfl) (hx : Loc X.env.scope x := by first | exact Or.inl rfl | exact Or.inr rfl) (hc : X.calm = true := by rfl) (ck : compOk X NY src sc = true := by rfl) (hsw : swapsWith (.ListComp elt [⟨tg, iter, ifs, 0⟩] sc pos) (some (.Name x px)) spos.line X.env = pure true := by rfl) (hs : ∀ x, foldedSetIterable iter X.env x = pure x := by intro _; rfl)
    (hfn : X.fn x = true ∨ X.env.scope.names.lookup x = some .local := by first | exact .inl rfl | exact .inr rfl | assumption) : PS X (.Assign [.Name x px] (.ListComp elt [⟨tg, iter, ifs, 0⟩] sc pos) spos) (tAsg (tComp wi src g tf te) (gName i)) := by
  intro pins s σ H D I h
  obtain ⟨hkind, hnames, hfree⟩ := comp_facts ck
  rw [exec_Assign_Name_used _ _ _ _ hsw]
  refine wpAny_bind (wpAny_standAt (wpAny_bind ?_))
  show wpAny _ _ (do let _ ← comprehension (.ListComp elt [⟨tg, iter, ifs, 0⟩] sc pos) sc X.env _ (newList []) false (eval iter X.env) (some (assign (.Name x px) X.env))) _ _ s
  refine wpAny_bind (wpAny_mono (wpAny_comprehension_free (use := some (assign (.Name x px) X.env)) (Q := fun _ s' => SP X pins D .next s') rfl hs (closure_of fun x hx e => I.ok.has x.1 (hfree x hx e)) hkind hnames ?_) (fun _ s' hq => wpAny_pure (wpAny_pure hq)) fun _ _ e => e)
  refine thn (hi pins s σ H _ I h) fun v s1 h1 => thn h1 fun itv s2 h2 => ?_
  obtain ⟨it, fp, tn, J, H2, rfl, I2, T, st2, f2, rd⟩ := h2
  refine comp_core (R := fun D' H' => gName i (.ref D') σ H' D.nx) (RR := fun acc C => compPost (model X.prog X.w) X.A X.xe (some (assign (.Name x px) X.env)) (fun _ s' => SP X pins D .next s') acc C) ck hc I2 T st2 f2 (fun C s0 H0 => hg C s0 H0 fp) (fun C s0 H0 => hf C s0 H0 fp) (fun C s0 H0 => he C s0 H0 fp) rd ?_
  intro D' C H' s' I' q hC h1 h2 h3 h4 h5 ⟨m, hn⟩
  obtain ⟨o, es, ep, ho, hd, hr⟩ := hn
  have Ip : Inv X (pins ++ [(C, o)]) σ H' s' := I'.pins_of fun p hp => (List.mem_append.mp hp).elim (fun z => I'.pin p (List.mem_append_right _ z)) fun z => by
    have e : p = (C, o) := by simpa using z
    subst e
    exact ⟨ho, hC, h2, h5, fun v e => by rw [hd] at e; cases e⟩
  show wpAny _ _ (assign (.Name x px) X.env (.ref D')) _ _ _
  refine wpAny_assign_Name (store_ok (v := .ref D') Ip hN hix hx rfl (fun s'' I'' => ?_) hfn)
  have ho'' : s''.heap.get? C = some o := (I''.pin (C, o) (by simp)).1
  refine ⟨m, ⟨o, es, ep, ho'', hd, hr⟩, fun h' hs' => ⟨_, H', ?_, q⟩⟩
  exact I''.unpinned.turned (t' := s''.toks) (it := C) (fun b o hb e => hs'.extBut b o hb e) hC h2 (.inr h1) h3 h4
end
/-- over a list that stays; Pv speaks of the list at D too -/
theorem comp_list {K : PySem.W.Frag} {a D : Addr} {xs : List V} {g : TG} {tf : TT} {te : TE} {R : Hp → Prop} {σ : St} {H : Hp} (Pv : Nat → St → Hp → Prop) (h0 : Pv 0 σ H) (hl : ∀ i σ H, i ≤ xs.length → Pv i σ H → SqL K H a xs)
    (hs : ∀ i x σ H, xs[i]? = some x → Pv i σ H → g x σ H fun σ2 H2 => tf σ2 H2 fun ok H3 => if ok = true then te σ2 H3 fun v H4 => ∃ ys, H4 D = some (.lst ys) ∧ ys.length < sizeLine ∧ Pv (i + 1) σ2 (upd H4 D (.lst (ys ++ [v]))) else Pv (i + 1) σ2 H3) (hd : ∀ σ H, Pv xs.length σ H → R H) :
    tCompL (Itl K a) g tf te D R σ H := by
  refine ⟨fun i m σ H => m = xs.length - i ∧ i ≤ xs.length ∧ Pv i σ H, ⟨xs.length, by simp, Nat.zero_le _, h0⟩, ?_⟩
  rintro i m σ H ⟨rfl, hi, p⟩
  have q := hl i σ H hi p
  by_cases hlt : i < xs.length
  · refine .inr ⟨⟨xs, xs[i], q, by simp [hlt]⟩, Pv (i + 1), fun σ' H' p' => ⟨xs.length - (i + 1), by omega, rfl, hlt, p'⟩, fun x H' y => ?_⟩
    obtain ⟨e, y⟩ := y
    subst e
    exact hs i x σ _ (y xs q) p
  · have e : i = xs.length := by omega
    subst e
    exact .inl ⟨⟨xs, q, Nat.le_refl _⟩, hd σ H p⟩
theorem comp_range {D : Addr} {lo : Int} {n : Nat} {g : TG} {tf : TT} {te : TE} {R : Hp → Prop} {σ : St} {H : Hp} (Pv : Nat → St → Hp → Prop) (h0 : Pv 0 σ H)
    (hs : ∀ i σ H, i < n → Pv i σ H → g (.int (lo + i)) σ H fun σ2 H2 => tf σ2 H2 fun ok H3 => if ok = true then te σ2 H3 fun v H4 => ∃ ys, H4 D = some (.lst ys) ∧ ys.length < sizeLine ∧ Pv (i + 1) σ2 (upd H4 D (.lst (ys ++ [v]))) else Pv (i + 1) σ2 H3) (hd : ∀ σ H, Pv n σ H → R H) :
    tCompL (Itr lo n) g tf te D R σ H := by
  refine ⟨fun i m σ H => m = n - i ∧ i ≤ n ∧ Pv i σ H, ⟨n, by simp, Nat.zero_le _, h0⟩, ?_⟩
  rintro i m σ H ⟨rfl, hi, p⟩
  by_cases hlt : i < n
  · refine .inr ⟨hlt, Pv (i + 1), fun σ' H' p' => ⟨n - (i + 1), by omega, rfl, hlt, p'⟩, fun x H' y => ?_⟩
    obtain ⟨e, y⟩ := y
    subst e y
    exact hs i σ _ hlt p
  · have e : i = n := by omega
    subst e
    exact .inl ⟨Nat.le_refl _, hd σ H p⟩

/-! ### names by their slots -/
section
variable {X : Cx}
theorem sset (i : Nat) {x : Str} {e : Expr} {te : TE} {pos pos' : Pos} (hN : X.N.Nodup) (he : PE X e te) (hi : X.N[i]? = some x := by rfl) (hx : Loc X.env.scope x := by first | exact Or.inl rfl | exact Or.inr rfl) (hs : swapsWith e (some (.Name x pos')) pos.line X.env = pure false := by rfl)
    (hf : X.fn x = true ∨ X.env.scope.names.lookup x = some .local := by first | exact .inl rfl | exact .inr rfl | assumption) : PS X (.Assign [.Name x pos'] e pos) (tAsg te (gName i)) := ps_set hN hi hx he hs hf
theorem gnm (i : Nat) {x : Str} {pos : Pos} (hN : X.N.Nodup) (hi : X.N[i]? = some x := by rfl) (hx : Loc X.env.scope x := by first | exact Or.inl rfl | exact Or.inr rfl) (hf : X.fn x = true ∨ X.env.scope.names.lookup x = some .local := by first | exact .inl rfl | exact .inr rfl | assumption) : PG X (.Name x pos) (gName i) := pg_name hN hi hx hf
theorem sfor {tg iter : Expr} {body : List Stmt} {wi : TI} {g : TG} {tb : TS} {pos : Pos} (hi : PI X tg iter wi) (hg : PG X tg g) (hb : PSs X body tb) (hp : PassesOwn (model X.prog X.w) X.A X.env X.xe := by exact PassesOwn.never) (hc : X.calm = true := by rfl)
    (hs : ∀ x, foldedSetIterable iter X.env x = pure x := by intro _; rfl) : PS X (.For tg iter body [] pos) (tFor wi g tb) := ps_for hp hc hi hg hb hs
theorem swhile {c : Expr} {body : List Stmt} {tc : TT} {tb : TS} {pos : Pos} (hc : PT X c tc) (hb : PSs X body tb) (hp : PassesOwn (model X.prog X.w) X.A X.env X.xe := by exact PassesOwn.never) : PS X (.While c body [] pos) (tWhile tc tb) := ps_while hp hc hb

/-- a statement, then the others, by what holds between -/
def tMid (t u : TS) : TS := fun D σ H => ∃ R : St → Hp → Prop, t { D with nx := R } σ H ∧ ∀ σ' H', R σ' H' → u D σ' H'
theorem pss_mid {st : Stmt} {rest : List Stmt} {t u : TS} (h1 : PS X st t) (h2 : PSs X rest u) : PSs X (st :: rest) (tMid t u) := by
  intro pins s σ H D I ⟨R, q1, q2⟩
  refine wpAny_execs_cons (thn (h1 pins s σ H _ I q1) fun f s1 h => ?_)
  cases f with
  | next => obtain ⟨σ1, H1, I1, r1⟩ := h; exact h2 pins s1 σ1 H1 D I1 (q2 σ1 H1 r1)
  | brk => exact h
  | cont => exact h
  | ret v => exact h

/-- a value, a test, by what holds of it: its ways meet -/
def tJoin (t : TE) : TE := fun σ H Q => ∃ R : VK, t σ H R ∧ ∀ v H', R v H' → Q v H'
def tJoinT (t : TT) : TT := fun σ H Q => ∃ R : Bool → Hp → Prop, t σ H R ∧ ∀ v H', R v H' → Q v H'
theorem pe_join {e : Expr} {t : TE} (h : PE X e t) : PE X e (tJoin t) := by
  intro pins s σ H Q I ⟨R, q1, q2⟩
  exact thn (h pins s σ H R I q1) fun u s1 ⟨v, H1, I1, r1, q⟩ => ⟨v, H1, I1, r1, q2 v H1 q⟩
theorem pt_join {e : Expr} {t : TT} (h : PT X e t) : PT X e (tJoinT t) := by
  intro pins s σ H Q I ⟨R, q1, q2⟩
  exact thn (h pins s σ H R I q1) fun u s1 ⟨H1, I1, q⟩ => ⟨H1, I1, q2 u H1 q⟩

/-! ### ints -/
def CDivB (_ j : Int) : Prop := 0 < j ∧ j < 2 ^ 200
theorem op_fdivB : OpR X (binaryOp .FloorDiv) (rI CDivB fun i j => .int (i / j)) := opI fun i j _ _ _ _ _ hc q => by
  have h1 : (0 : Int) < j := hc.1
  have h2 : j < 2 ^ 200 := hc.2
  refine floordiv_int (by omega) (by rw [Int.fdiv_eq_ediv_of_nonneg i (by omega)]; exact q) (.inl (PyProof.noPylong_of_log2 ?_))
  have h3 : j.natAbs < 2 ^ 200 := by omega
  have h4 : j.natAbs.log2 < 200 := (Nat.log2_lt (by omega)).mpr h3
  omega
/-- a written power -/
theorem pe_powc {i j : Int} (k : Int) {a b : Nat} {p q pos : Pos} (hk : i ^ j.toNat = k := by decide) (h0 : 0 ≤ j := by decide) (h1 : j ≤ 1000000 := by decide) (h2 : i.natAbs < 2 ^ 64 := by decide) : PE X (.BinOp (.Constant (.int i) a p) .Pow (.Constant (.int j) b q) pos) (tC (.int k)) := by
  intro pins s σ H Q I h
  refine (pe_op op_pow pe_int pe_int) pins s σ H Q I ⟨_, _, rfl, rfl, ⟨h0, h1, h2⟩, ?_⟩
  show Q (.int (i ^ j.toNat)) H
  rw [hk]; exact h
/-- x is True, x is False -/
theorem op_isB : OpR X (compareOp .Is) (fun x y H Q => ∃ b c, x = .bl b ∧ y = .bl c ∧ Q (.bl (b == c)) H) := by
  intro pins s σ H x y v u Q I rx ry h
  obtain ⟨b, c, rfl, rfl, q⟩ := h
  cases rx; cases ry
  exact is_bool ⟨.bl _, H, I, rfl, q⟩

/-! ### isinstance against a built-in class -/
def kindS (H : Hp) : V → Option String
  | .non => some "NoneType" | .bl _ => some "bool" | .int _ => some "int" | .str _ => some "str"
  | .ref a => match H a with
    | some (.lst _) => some "list" | some (.tup _) => some "tuple" | some (.dK _) => some "dict" | some (.frz _ (.lst _)) => some "list"
    | _ => none
  | _ => none
def subT (t n : String) : Bool := t == n || (t == "bool" && n == "int")
theorem kit_sub (K : PySem.W.Frag) {t n : String} (ht : t ∈ ["NoneType", "bool", "int", "str", "list", "tuple", "dict"]) (hn : n ∈ ["bool", "int", "str", "list", "tuple", "dict"]) : PySem.W.kitOne K (.type t) (.type n) = some (subT t n) := by
  simp only [List.mem_cons, List.not_mem_nil, or_false] at ht hn
  rcases ht with rfl | rfl | rfl | rfl | rfl | rfl | rfl <;> rcases hn with rfl | rfl | rfl | rfl | rfl | rfl <;> rfl
theorem kindS_ty {K : PySem.W.Frag} {H : Hp} {x : V} {t : String} (h : kindS H x = some t) : TyOf K H x (.type t) ∧ t ∈ ["NoneType", "bool", "int", "str", "list", "tuple", "dict"] := by
  cases x with
  | non => cases h; exact ⟨.non, by decide⟩
  | bl b => cases h; exact ⟨.bl b, by decide⟩
  | int b => cases h; exact ⟨.int b, by decide⟩
  | str b => cases h; exact ⟨.str b, by decide⟩
  | byt b => cases h
  | flt b => cases h
  | ty b => cases h
  | ref a =>
    unfold kindS at h
    dsimp only at h
    split at h
    · cases h; exact ⟨.lst (by assumption), by decide⟩
    · cases h; exact ⟨.tup (by assumption), by decide⟩
    · cases h; exact ⟨.dK (by assumption), by decide⟩
    · cases h; exact ⟨.frz (by assumption), by decide⟩
    · cases h
def rIsi : List V → Hp → VK → Prop := fun xs H Q => ∃ x n t, xs = [x, .ty n] ∧ kindS H x = some t ∧ n ∈ ["bool", "int", "str", "list", "tuple", "dict"] ∧ Q (.bl (subT t n)) H
theorem call_isi : CallR X (.builtin "isinstance") rIsi := by
  intro pins s σ H xs us Q I r h
  obtain ⟨x, n, t, rfl, hk, hn, q⟩ := h
  obtain ⟨u, w', rfl, ru, rw'⟩ := vals2 r
  cases rw'
  obtain ⟨ty, ht⟩ := kindS_ty (K := X.K) hk
  exact isinst_ok I ru ty (kit_sub X.K ht hn) fun tk => ⟨.bl _, H, I.tok tk, rfl, q⟩
/-- a built-in class as a value -/
theorem pe_cls {x : Str} (n : String) {pos : Pos} (hm : X.mg x = none) (hg : Gl X x := by rfl) (hv : bootBuiltins x = some (.type n) := by rfl) (hn : x ≠ "__name__" := by decide) (hd : (x == ("__debug__" : Str)) = false := by decide) : PE X (.Name x pos) (tC (.ty n)) := pe_bltn hg hm hv rfl hn hd
/-- a number of the file's top -/
theorem pe_gint {x : Str} {n : Int} {t : Tok} {pos : Pos} (hm : X.mg x = some (.int n t)) (hg : Gl X x := by rfl) (hd : (x == ("__debug__" : Str)) = false := by decide) : PE X (.Name x pos) (tC (.int n)) := pe_glob hg hm ⟨t, rfl⟩ hd
theorem cbi {x : Str} {id : String} {e : Expr} {es : List Expr} {t : TA} {r : List V → Hp → VK → Prop} {p pos : Pos} (hc : CallR X (.builtin id) r) (hm : X.mg x = none) (ha : PA X (e :: es) t) (hg : Gl X x := by rfl) (hv : bootBuiltins x = some (.builtin id) := by rfl) (hn : x ≠ "__name__" := by decide) (hdb : (x == ("__debug__" : Str)) = false := by decide)
    (he : starEach (e :: es) X.env = (false, eval e X.env) :: starEach es X.env := by rfl) (hpl : (backTo pos (starEach es X.env)).any (·.1) = false := by rfl) : PE X (.Call (.Name x p) (e :: es) [] pos) (tCB r t) := pe_callB hc hg hm hv ha hn hdb he hpl
theorem cty {x : Str} {id : String} {e : Expr} {es : List Expr} {t : TA} {r : List V → Hp → VK → Prop} {p pos : Pos} (hc : CallR X (.type id) r) (hm : X.mg x = none) (ha : PA X (e :: es) t) (hg : Gl X x := by rfl) (hv : bootBuiltins x = some (.type id) := by rfl) (hn : x ≠ "__name__" := by decide) (hdb : (x == ("__debug__" : Str)) = false := by decide)
    (he : starEach (e :: es) X.env = (false, eval e X.env) :: starEach es X.env := by rfl) (hpl : (backTo pos (starEach es X.env)).any (·.1) = false := by rfl) : PE X (.Call (.Name x p) (e :: es) [] pos) (tCB r t) := pe_callTy hc hg hm hv ha hn hdb he hpl
end
theorem ix {X : Cx} {a b : Expr} {ta tb : TE} {pos : Pos} {r : R2} (hr : IxR X r) (ha : PE X a ta) (hb : PE X b tb) (hs : PlainIx b := by exact fun _ _ => rfl) : PE X (.Subscript a b pos) (tOp r ta tb) := pe_ix hr ha hb hs
/-- xs[i], of a list of ours -/
def rGetL : V → V → Hp → VK → Prop := fun o i H Q => ∃ p xs k v, o = .ref p ∧ i = .int k ∧ H p = some (.lst xs) ∧ 0 ≤ k ∧ xs[k.toNat]? = some v ∧ Q v H
theorem get_list {X : Cx} : PGet X rGetL := by
  intro pins s σ H o i ov iv Q I ro ri h
  obtain ⟨p, xs, k, v, rfl, rfl, hp, h0, hv, q⟩ := h
  cases ro
  obtain ⟨t, rfl⟩ := ri
  obtain ⟨its, n, r, ho, hz⟩ := I.lst hp
  obtain ⟨u, hu, ru⟩ := r.get hv
  have hlt := (List.getElem?_eq_some_iff.mp hv).1
  have hn := line63
  refine wpAny_getItem_list (items := its.toArray) (x := u) ⟨_, ho, rfl, n, rfl⟩ h0 (by omega) (by simpa using hu) ⟨v, H, I, ru, q⟩

theorem upd_self {H : Hp} {p : Addr} {o : HO} (h : H p = some o) : upd H p o = H := by
  funext b
  unfold upd
  split
  · rename_i e; subst e; exact h.symm
  · rfl
theorem atI_in {α : Type} {xs : List α} {i : Int} (h0 : 0 ≤ i) (h1 : i < xs.length) : ∃ v, xs[i.toNat]? = some v ∧ atI xs i = some v := by
  have hl : i.toNat < xs.length := by omega
  have e : (i.toNat : Int) = i := by omega
  refine ⟨xs[i.toNat], by simp [hl], ?_⟩
  have := atI_nat (xs := xs) (j := i.toNat) (v := xs[i.toNat]) (by simp [hl])
  rw [e] at this
  exact this
theorem atI_mem {α : Type} {xs : List α} {i : Int} (h0 : 0 ≤ i) (h1 : i < xs.length) : ∃ v, v ∈ xs ∧ atI xs i = some v := by
  obtain ⟨v, h, e⟩ := atI_in h0 h1
  exact ⟨v, List.mem_of_getElem? h, e⟩
theorem kind_lst {H : Hp} {a : Addr} {xs : List V} (h : H a = some (.lst xs)) : kindS H (.ref a) = some "list" := by
  unfold kindS; dsimp only; rw [h]
theorem kind_tup {H : Hp} {a : Addr} {xs : List V} (h : H a = some (.tup xs)) : kindS H (.ref a) = some "tuple" := by
  unfold kindS; dsimp only; rw [h]
theorem kind_dK {H : Hp} {a : Addr} {xs : List (Key × V)} (h : H a = some (.dK xs)) : kindS H (.ref a) = some "dict" := by
  unfold kindS; dsimp only; rw [h]
/-- all but the object at p as it was -/
def OnlyAt (p : Addr) (H H' : Hp) : Prop := ∀ b, b ≠ p → H' b = H b
/-- all that stood, but for the object at p, as it was -/
def KeepBut (p : Addr) (H H' : Hp) : Prop := ∀ b o, b ≠ p → H b = some o → H' b = some o
theorem OnlyAt.keep {p : Addr} {H H' : Hp} (h : OnlyAt p H H') : KeepBut p H H' := fun b o hb e => (h b hb).trans e
theorem KeepBut.trans {p : Addr} {H H1 H2 : Hp} (h : KeepBut p H H1) (h' : KeepBut p H1 H2) : KeepBut p H H2 := fun b o hb e => h' b o hb (h b o hb e)
theorem KeepBut.refl {p : Addr} {H : Hp} : KeepBut p H H := fun _ _ _ e => e
theorem KeepBut.new {p q : Addr} {H : Hp} {u : HO} (h : H q = none) : KeepBut p H (upd H q u) := fun b o _ e => by rw [upd_ne (ne_of_none e h)]; exact e
theorem Same.new {q : Addr} {H : Hp} {u : HO} (h : H q = none) : Same H (upd H q u) := fun b o e => by rw [upd_ne (ne_of_none e h)]; exact e
/-! ### a def of the text -/
structure Df (K : PySem.W.Frag) (mg : Str → Option Value) (x qual : Str) (st : Stmt) (f : Addr) (fd : FuncData) (ps : List Str) : Prop where
  F : Fun K x qual st f fd
  b : Binds K fd ps []
  m : mg x = some (.ref f)
theorem dfmk {K : PySem.W.Frag} {mg : Str → Option Value} {x qual : Str} {st : Stmt} {f : Addr} {ps : List Str} {oc : Value} {od an : Option Addr} {osl : Array (Option Value)} {kV doc pm cdv ct : Value} (l : K.lookup f = some ⟨oc, od, .func (PySem.W.fnOf x qual (defArgs st) (defBody st) (defScope st) .none kV doc pm an cdv ct), osl⟩)
    (c : PySem.W.codeIn K cdv qual = true) (k : PySem.W.keepIn K (.ref f) = true) (m : mg x = some (.ref f))
    (h : ∀ (kV doc pm : Value) (an : Option Addr) (cdv ct : Value) (us : List Value), us.length = ps.length → bindArgs (PySem.W.fnOf x qual (defArgs st) (defBody st) (defScope st) .none kV doc pm an cdv ct) ⟨us, []⟩ = pure (ps.zip us)) :
    Df K mg x qual st f (PySem.W.fnOf x qual (defArgs st) (defBody st) (defScope st) .none kV doc pm an cdv ct) ps := ⟨fun_mk l c k, (fun_mk l c k).binds h, m⟩
theorem callD {X : Cx} {x qual : Str} {st : Stmt} {f : Addr} {fd : FuncData} {ps : List Str} {k : Nat} {sp : Sp} {e : Expr} {es : List Expr} {t : TA} {p pos : Pos} (D : Df X.K X.mg x qual st f fd ps) (G : FnOk X.prog X.w X.K X.mg X.base CX0 k f fd ps sp) (hr : Room k X.A) (ha : PA X (e :: es) t) (hg : Gl X x := by rfl)
    (hdb : (x == ("__debug__" : Str)) = false := by decide) (he : starEach (e :: es) X.env = (false, eval e X.env) :: starEach es X.env := by rfl) (hpl : (backTo pos (starEach es X.env)).any (·.1) = false := by rfl) : PE X (.Call (.Name x p) (e :: es) [] pos) (tCall sp [] E0 t) :=
  pe_call G hr hg D.m D.F.kp D.b .nil pass0 ha hdb he hpl
end L2

set_option Elab.async false
set_option linter.all false
set_option maxRecDepth 100000
set_option maxHeartbeats 4000000
/-! dict(pairs), all(bools), set(ints): the built-ins' own walks -/
namespace LB
open PySem PySem.Spec PyProof.Rows
theorem lk_list_keys : typeLookup (.type "list") "keys" = pure none := by rw [typeLookup_type, builtinLookup_eq_fast]; kernel_rfl
theorem lk_list_getattr : typeLookup (.type "list") "__getattr__" = pure none := by rw [typeLookup_type, builtinLookup_eq_fast]; kernel_rfl
section
variable {prog : Program} {w : World} {A : Around} {E : Value → Shared → Prop} {h : Heap} {g : Array GenState} {d : Drawn} {t : Nat} {os : OsState} {a : Addr} {its : Array Value} {n : Nat}
theorem keys_entry_list {tk : Tok} {Q : PySem.Fin → Shared → Prop} (hx : h.get? a = some { cls := .type "list", data := .seq its n }) (hh : A.handled = none)
    (hq : ∀ h' tk e, Heap.NewAttrErr h h' e (.ref a) "keys" → E (.ref e) ⟨h', g, d, tk, os⟩) :
    wpAny (model prog w) A (Builtin.«object.__getattribute__» ⟨[.ref a, .str "keys" tk], []⟩) Q E ⟨h, g, d, t, os⟩ := by
  have hT : (⟨h, g, d, t, os⟩ : Shared).TypeIs (.ref a) "list" := ⟨_, hx, rfl⟩
  have f4 := lk_list_keys
  repeat (any_goals (first | assumption | wp_step))
  refine wpAny_raiseAttrError hh ?_ (attrMsg_fits (by decide +kernel) (by decide +kernel))
  exact hq
theorem keys_miss_list {Q : Option Value → Shared → Prop} (hx : h.get? a = some { cls := .type "list", data := .seq its n }) (hh : A.handled = none)
    (hq : ∀ h' tk, (∀ b o, h.get? b = some o → h'.get? b = some o) → Q none ⟨h', g, d, tk, os⟩) :
    wpAny (model prog w) A (getAttr? (.ref a) "keys") Q E ⟨h, g, d, t, os⟩ := by
  have hT : ∀ tk, (⟨h, g, d, tk, os⟩ : Shared).TypeIs (.ref a) "list" := fun _ => ⟨_, hx, rfl⟩
  have hT0 := hT t
  have f1 := sub_AttributeError
  have f2 := F.slot_list_getattribute.lookup
  have f3 := F.slot_list_getattribute.bind (.ref a)
  have f5 := lk_list_getattr
  unfold getAttr? getAttrBy? getAttrBy
  repeat (any_goals (first | assumption | wp_step))
  refine codeAny_call_builtin F.slot_list_getattribute.plain F.entry_list_ga (F.slot_list_getattribute.check _ _ _ _ _ _ _ _ (hT _) (F.args_list_getattribute_2 _ _) (keys_entry_list hx hh fun h' tk e hx' => ?_))
  obtain ⟨t', u', he⟩ := hx'.there
  show wpAny _ _ (getattributeRaised _ _ _ _ _ _ _) _ _ _
  unfold getattributeRaised
  repeat (any_goals (first | assumption | wp_step))
  exact hq _ _ hx'.keeps
end
theorem entry_dict_loop : entryFor table "dict.update.loop" = some Builtin.«dict.update.loop» := entryFor_of_tree (by kernel_rfl)
theorem plain_dict_loop : plainId "dict.update.loop" = true := by decide +kernel
section
variable {prog : Program} {w : World} {K : Type} [DecidableEq K] {knd : KeyKind prog w K} {A : Around} {R : Result → Shared → Prop}
theorem dict_loop (hh : A.handled = none) {I ax d : Addr} {items : Array Value} (hIx : ax ≠ I) (hdI : d ≠ I) (hdx : ax ≠ d) : ∀ (rest : List (K × Value)) (i : Nat) (ix : Int) (kvs : List (K × Value)) (s : Shared),
    (∀ (j : Nat) kv, rest[j]? = some kv → ∃ t key, items[i + j]? = some (.ref t) ∧ IsTup s.heap t #[key, kv.2] ∧ knd.is kv.1 key = true ∧ t ≠ I ∧ t ≠ d) → items.size = i + rest.length →
    s.heap.IsListIter I ax i → s.heap.IsList ax items → s.heap.DictOf knd d kvs → kvs.length + rest.length ≤ sizeLine →
    (∀ h' tk, h'.DictOf knd d (rest.foldl (fun acc kv => stored acc kv.1 kv.2) kvs) → (∀ b o, b ≠ I → b ≠ d → s.heap.get? b = some o → h'.get? b = some o) → R (.ok (.ret .none)) { s with heap := h', toks := tk }) →
    codeAny (model prog w) A (.builtin "dict.update.loop" ⟨[.ref d, .ref I, rawInt ix, .none], []⟩) R s := by
  intro rest
  induction rest with
  | nil =>
    intro i ix kvs s hp hsz hit hl hd hk hR
    refine codeAny_builtin entry_dict_loop ?_
    rw [Around.under_plainId plain_dict_loop _]
    show wpAny _ A.in1 (pyNext (.ref I) >>= _) _ _ s
    refine wpAny_bind (wpAny_pyNext_list_end hh hit hl (by simp at hsz; simp [hsz]) fun h' he => ?_)
    show wpAny _ _ (Builtin.Dict.addKeywords d [] >>= _) _ _ _
    refine wpAny_bind (wpAny_pure (wpAny_pure ?_))
    have hd' : h'.DictOf knd d kvs := by
      obtain ⟨o, es, ep, ho, r⟩ := hd
      exact ⟨o, es, ep, he d o hdI ho, r⟩
    exact hR h' s.toks hd' fun b o hb _ e => he b o hb e
  | cons kv rest ih =>
    intro i ix kvs s hp hsz hit hl hd hk hR
    obtain ⟨t, key, h1, h2, h3, h4, h5⟩ := hp 0 kv rfl
    refine codeAny_builtin entry_dict_loop ?_
    rw [Around.under_plainId plain_dict_loop _]
    show wpAny _ A.in1 (pyNext (.ref I) >>= _) _ _ s
    refine wpAny_bind (wpAny_pyNext_list_item hit hl h1 fun h' hit' hs => ?_)
    have h2' : IsTup h' t #[key, kv.2] := h2.extBut hs.extBut h4
    obtain ⟨o, ho, hoc, n, hod⟩ := h2'
    refine wpAny_bind (wpAny_holding ?_)
    refine wpAny_bind (wpAny_tryCatch ?_)
    unfold Builtin.Dict.pairItems
    refine wpAny_bind (wpAny_typeOf (T := "tuple") ⟨o, ho, hoc⟩ ?_)
    rw [if_pos (by decide)]
    refine wpAny_bind (wpAny_seqItems ho hod (wpAny_pure ?_))
    dsimp only [Option.getD]
    have hd' : h'.DictOf knd d kvs := by
      obtain ⟨o, es, ep, ho, r⟩ := hd
      exact ⟨o, es, ep, hs.extBut d o hdI ho, r⟩
    simp only [List.length_cons] at hk hsz
    show wpAny _ _ (holding [key, kv.2] (dictSet d key kv.2)) _ _ _
    refine wpAny_holding (wpAny_dictSet_pairs (hsz := by omega) h3 hd' fun h'' hd'' hs'' => ?_)
    refine wpAny_pure ⟨plainId_quiet plain_dict_loop _, ?_⟩
    have hlen : (stored kvs kv.1 kv.2).length ≤ kvs.length + 1 := by
      unfold stored
      split
      · rw [List.length_map]; omega
      · rw [List.length_append]; simp
    refine ih (i + 1) (ix + 1) (stored kvs kv.1 kv.2) _ (fun j kv' hj => ?_) (by omega) ?_ ?_ hd'' (by omega) fun h3' tk hd3 k3 => ?_
    · obtain ⟨t', key', g1, g2, g3, g4, g5⟩ := hp (j + 1) kv' hj
      exact ⟨t', key', by rw [show i + 1 + j = i + (j + 1) by omega]; exact g1, (g2.extBut hs.extBut g4).extBut hs''.extBut g5, g3, g4, g5⟩
    · exact hit'.at fun o e => hs''.extBut I o (Ne.symm hdI) e
    · exact (hl.at fun o e => hs.extBut ax o hIx e).at fun o e => hs''.extBut ax o hdx e
    · exact hR h3' tk hd3 fun b o hb hb' e => k3 b o hb hb' (hs''.extBut b o hb' (hs.extBut b o hb e))
end
end LB
namespace L2
open PySem PySem.Spec PyProof.Rows
section
variable {X : Cx}
theorem KV.fold : ∀ {more : List (Key × V)} {rs : List (Key × Value)} {kvs : List (Key × V)} {vs : List (Key × Value)}, KV more rs → KV kvs vs → KV (mergeK kvs more) (rs.foldl (fun acc kv => stored acc kv.1 kv.2) vs) := by
  intro more rs kvs vs r
  unfold KV at r
  induction r generalizing kvs vs with
  | nil => intro q; exact q
  | @cons p q _ _ h _ ih =>
    intro r0
    show KV (mergeK (putK kvs p.1 p.2) _) (List.foldl _ (stored vs q.1 q.2) _)
    refine ih ?_
    rw [← h.1]
    exact r0.put p.1 h.2
/-- the pairs that a list of tuples tells -/
def PairsIn (H : Hp) (ys : List V) (kvs : List (Key × V)) : Prop := Paired (fun y (kv : Key × V) => ∃ t, y = .ref t ∧ H t = some (.tup [kV kv.1, kv.2])) ys kvs
def rDictP : List V → Hp → VK → Prop := fun xs H Q => ∃ a ys kvs, xs = [.ref a] ∧ H a = some (.lst ys) ∧ PairsIn H ys kvs ∧ ∀ p, H p = none → Q (.ref p) (upd H p (.dK (mergeK [] kvs)))
theorem call_dictP (hc : X.calm = true) : CallR X (.type "dict") rDictP := by
  intro pins s σ H xs us Q I r h
  obtain ⟨a, ys, kvs, rfl, ha, hp, q⟩ := h
  obtain ⟨u, rfl, ru⟩ := vals1 r
  cases ru
  have hh := I.ok.hd hc
  obtain ⟨z, its, n, rv, hl, e⟩ := I.lstM ha
  -- the pairs as they lie
  obtain ⟨rs, rk, ri⟩ : ∃ rs : List (Key × Value), KV kvs rs ∧ ∀ (j : Nat) kv, rs[j]? = some kv → ∃ t key, its[j]? = some (.ref t) ∧ IsTup s.heap t #[key, kv.2] ∧ (mixKind X.prog X.w).is kv.1 key = true := by
    clear q e hl n ha z
    induction hp generalizing its with
    | nil => exact ⟨[], .nil, fun j kv hj => by simp at hj⟩
    | @cons y kv ys kvs hy _ ih =>
      cases rv with
      | @cons _ u _ us' hu hr =>
        obtain ⟨t, rfl, ht⟩ := hy
        cases hu
        obtain ⟨_, its', rt, o, ho, hoc, n, hod⟩ := I.hok t _ ht
        obtain ⟨key, val, rfl, r1, r2⟩ := rt.two
        obtain ⟨rs, rk, ri⟩ := ih _ hr
        refine ⟨(kv.1, val) :: rs, .cons ⟨rfl, r2⟩ rk, fun j kv' hj => ?_⟩
        cases j with
        | zero => cases hj; exact ⟨t, key, rfl, ⟨o, ho, hoc, n, hod⟩, kV_is r1⟩
        | succ j => exact ri j kv' hj
  have hrl : rs.length = its.length := by rw [← hl, ← Paired.length rk, ← Paired.length hp]
  have big := I.big
  obtain ⟨hp0, gn, dr, tk0, os0⟩ := s
  refine callType_codes (Q₁ := fun obj s₁ => obj = .ref hp0.objs.size ∧ s₁ = { heap := hp0.push { cls := .type "dict", data := .dict #[] }, gens := gn, drawn := dr, toks := tk0, os := os0 }) F.kt_called_dict (F.kt_typeCall_dict_1 _) F.entry_dict_init (kt_code_dict_new _ ⟨rfl, rfl⟩) ?_
  rintro obj s₁ ⟨rfl, rfl⟩
  have hnew : (hp0.push { cls := .type "dict", data := .dict #[] }).DictOf (mixKind X.prog X.w) hp0.objs.size [] := Heap.DictOf.new hp0
  have e' : (hp0.push { cls := .type "dict", data := .dict #[] }).get? a = some { cls := .type "list", data := .seq its.toArray n } := Heap.get?_push_of_some _ e
  have had : a < hp0.objs.size := Heap.lt_size e
  refine ⟨hnew.typeIs, F.args_dict_init_2 _ _, ?_⟩
  unfold Builtin.«dict.__init__»
  refine wpAny_bind ?_
  unfold Builtin.Dict.selfAndRest
  refine wpAny_bind (wpAny_notOrdered_dict hnew.typeIs ?_)
  show wpAny _ _ (pure (hp0.objs.size, [Value.ref a])) _ _ _
  refine wpAny_pure ?_
  show wpAny _ _ (Builtin.Dict.updateFrom "dict.__init__" hp0.objs.size (.ref a) [] .none) _ _ _
  unfold Builtin.Dict.updateFrom
  refine wpAny_bind (wpAny_typeOf (T := "list") ⟨_, e', rfl⟩ ?_)
  rw [if_pos (by decide)]
  refine wpAny_bind (LB.keys_miss_list e' hh fun h1 tk1 k1 => ?_)
  rw [if_pos (by rfl)]
  have e1 : h1.get? a = some { cls := .type "list", data := .seq its.toArray n } := k1 _ _ e'
  have d1 : h1.DictOf (mixKind X.prog X.w) hp0.objs.size [] := by
    obtain ⟨o, es, ep, ho, r⟩ := hnew
    exact ⟨o, es, ep, k1 _ _ ho, r⟩
  refine wpAny_bind (wpAny_rule ?_)
  have hlist : h1.IsList a its.toArray := ⟨_, e1, rfl, n, rfl⟩
  refine wpAny_bind (wpAny_pyIter_list hlist ?_)
  have szd : hp0.objs.size < h1.objs.size := by
    obtain ⟨o, es, ep, ho, r⟩ := d1
    exact Heap.lt_size ho
  refine wpAny_pure ⟨plainId_quiet LB.plain_dict_loop _, ?_⟩
  refine LB.dict_loop (knd := mixKind X.prog X.w) (A := X.A.in1) hh (I := h1.objs.size) (ax := a) (d := hp0.objs.size) (items := its.toArray) (Nat.ne_of_lt (Nat.lt_trans had szd)) (Nat.ne_of_lt szd) (Nat.ne_of_lt had) rs 0 0 [] _ (fun j kv hj => ?_) (by simp [hrl]) ?_ ?_ ?_ ?_ fun h2 tk2 d2 k2 => ?_
  · obtain ⟨t, key, g1, g2, g3⟩ := ri j kv hj
    obtain ⟨o, ho, r⟩ := g2
    have hlt := Heap.lt_size ho
    exact ⟨t, key, by simpa using g1, ⟨o, Heap.get?_push_of_some _ (k1 _ _ (Heap.get?_push_of_some _ ho)), r⟩, g3, Nat.ne_of_lt (Nat.lt_trans hlt szd), Nat.ne_of_lt hlt⟩
  · exact ⟨_, Heap.get?_push_size _ rfl, rfl, rfl⟩
  · exact ⟨_, Heap.get?_push_of_some _ e1, rfl, n, rfl⟩
  · obtain ⟨o, es, ep, ho, r⟩ := d1
    exact ⟨o, es, ep, Heap.get?_push_of_some _ ho, r⟩
  · simp only [List.length_nil, Nat.zero_add]; rw [hrl, ← hl]; exact z
  · refine ⟨rfl, ?_⟩
    have hf : H hp0.objs.size = none := I.hok.fresh (Nat.le_refl _)
    have keep : ∀ b o, hp0.get? b = some o → h2.get? b = some o := fun b o eb => by
      have hlt := Heap.lt_size eb
      exact k2 b o (Nat.ne_of_lt (Nat.lt_trans hlt szd)) (Nat.ne_of_lt hlt) (Heap.get?_push_of_some _ (k1 _ _ (Heap.get?_push_of_some _ eb)))
    have rm : KV (mergeK [] kvs) (rs.foldl (fun acc kv => stored acc kv.1 kv.2) []) := KV.fold rk .nil
    have hz : (mergeK [] kvs).length ≤ sizeLine := by
      have h1 := length_mergeK kvs []
      have h2 := Paired.length hp
      simp only [List.length_nil] at h1
      omega
    refine ⟨.ref hp0.objs.size, _, I.laid (t' := tk2) (o := .dK (mergeK [] kvs)) keep (Nat.le_refl _) ?_, rfl, q _ hf⟩
    exact ⟨hz, beq_eq_false_iff_ne.mpr (Ne.symm (Nat.ne_of_lt big)), _, rm, d2⟩
end
end L2

set_option Elab.async false
set_option linter.all false
set_option maxRecDepth 100000
set_option maxHeartbeats 4000000
namespace L2
open PySem PySem.Spec PyProof.Rows
section
variable {X : Cx}
theorem call_allB (hc : X.calm = true) : CallR X (.builtin "all") (fun xs H Q => ∃ (a : Addr) (bs : List Bool), xs = [.ref a] ∧ SqL X.K H a (bs.map V.bl) ∧ Q (.bl (bs.all id)) H) := by
  intro pins s σ H xs us Q I r h
  obtain ⟨a, bs, rfl, ha, q⟩ := h
  obtain ⟨u, rfl, ru⟩ := vals1 r
  cases ru
  have hh := I.ok.hd hc
  obtain ⟨its, rv, pl, hz⟩ := I.list ha
  refine call_all_walk (wpAny_pyIter_list pl.isList ?_)
  have hlt : a < s.heap.objs.size := let ⟨o, ho, _⟩ := pl.isList; Heap.lt_size ho
  refine ⟨s.heap.objs.size, _, _, _, _, _, fun i => bs.getD i false, rfl, Walks.list (A := X.A.in1) hh _ a (Nat.ne_of_lt hlt) its.toArray, ⟨⟨_, Heap.get?_push_size _ rfl, rfl, rfl⟩, ?_⟩, ?_, ?_⟩
  · exact pl.isList.at fun o e => Heap.get?_push_of_some _ e
  · intro i v s1 Q1 E1 hv hq
    have hv : its[i]? = some v := by simpa using hv
    have hi : i < bs.length := by
      have h1 := (List.getElem?_eq_some_iff.mp hv).1
      have h2 := rv.length
      rw [List.length_map] at h2
      omega
    obtain ⟨u, hu, ru⟩ := rv.get (i := i) (x := .bl bs[i]) (by simp [hi])
    rw [hv] at hu
    cases hu
    cases ru
    refine wpAny_truthy_bool ?_
    have e : bs.getD i false = bs[i] := by simp [List.getD, hi]
    have hq : Q1 (bs.getD i false) s1 := hq
    rw [e] at hq
    exact hq
  · intro h' tk hk
    have e : (List.range its.toArray.size).all (fun i => bs.getD i false) = bs.all id := by
      have h2 := rv.length
      rw [List.length_map] at h2
      rw [List.size_toArray, ← h2]
      rw [Bool.eq_iff_iff]
      simp only [List.all_eq_true, List.mem_range, id_eq]
      constructor
      · intro h b hb
        obtain ⟨i, hi, rfl⟩ := List.mem_iff_getElem.mp hb
        have := h i hi
        simpa [List.getD, hi] using this
      · intro h i hi
        have := h bs[i] (List.getElem_mem hi)
        simpa [List.getD, hi] using this
    rw [e]
    refine ⟨.bl _, H, ?_, rfl, q⟩
    exact I.kept (t' := tk) fun b o e => hk b o (by simp; exact Nat.ne_of_lt (Heap.lt_size e)) (Heap.get?_push_of_some _ e)

/-- how many unlike ones -/
def distinct (ns : List Int) : Nat := (firstMet (fun i => ns.getD i 0) ns.length).length
def rSetI (K : PySem.W.Frag) : List V → Hp → VK → Prop := fun xs H Q => ∃ (a : Addr) (ns : List Int), xs = [.ref a] ∧ SqL K H a (ns.map V.int) ∧ ns.length ≤ 1000 ∧ ∀ p S, H p = none → Q (.ref p) (upd H p (.set S (distinct ns)))
theorem call_setI (hc : X.calm = true) : CallR X (.type "set") (rSetI X.K) := by
  intro pins s σ H xs us Q I r h
  obtain ⟨a, ns, rfl, ha, hl, q⟩ := h
  obtain ⟨u, rfl, ru⟩ := vals1 r
  cases ru
  have hh := I.ok.hd hc
  obtain ⟨its, rv, pl, hz⟩ := I.list ha
  have hlen : its.length = ns.length := by
    have := rv.length
    rw [List.length_map] at this
    exact this.symm
  have hi : IntsAre its ns := intsAre_of rv
  refine call_set_list (items := its.toArray) hh pl.isList (by simpa using hi) (by rw [List.size_toArray, hlen]; show ns.length + 1 < 4096; omega) fun h' tk hS hk => ?_
  have hsz : its.toArray.size = ns.length := by rw [List.size_toArray, hlen]
  rw [hsz] at hS
  refine ⟨.ref s.heap.objs.size, _, I.laid (t' := tk) (o := .set _ (distinct ns)) (fun b o e => hk b o (Heap.lt_size e) e) (Nat.le_refl _) hS, rfl, q _ _ (I.hok.fresh (Nat.le_refl _))⟩
theorem call_lenS : CallR X (.builtin "len") (fun xs H Q => ∃ (a : Addr) (S : Int → Bool) (n : Nat), xs = [.ref a] ∧ H a = some (.set S n) ∧ Q (.int n) H) := by
  intro pins s σ H xs us Q I r h
  obtain ⟨a, S, n, rfl, ha, q⟩ := h
  obtain ⟨u, rfl, ru⟩ := vals1 r
  cases ru
  obtain ⟨o, es, ep, t, ho, hex, hd, _, _, hb, hf, hn⟩ := I.hok a _ ha
  subst hn
  have hb : es.size < 4096 := hb
  exact call_len_set ho hex hd hf (by omega) ⟨.int _, H, I.tok _, ⟨_, rfl⟩, q⟩
end
theorem distinct_iff (ns : List Int) : distinct ns = ns.length ↔ ns.Nodup := by
  have key : ∀ i, i ≤ ns.length → (∀ k, k ∈ firstMet (fun i => ns.getD i 0) i ↔ k ∈ ns.take i) ∧ ((firstMet (fun i => ns.getD i 0) i).length = i ↔ (ns.take i).Nodup) := by
    intro i
    induction i with
    | zero => intro _; rw [firstMet_zero]; simp
    | succ i ih =>
      intro hi
      obtain ⟨h1, h2⟩ := ih (by omega)
      have hle := firstMet_length_le (fun i => ns.getD i 0) i
      have hlt : i < ns.length := by omega
      have et : ns.take (i + 1) = ns.take i ++ [ns[i]] := by rw [List.take_add_one]; simp [hlt]
      have eg : ns.getD i 0 = ns[i] := by simp [List.getD, hlt]
      rw [firstMet_succ, et, eg]
      unfold step_dedup
      by_cases hm : ns[i] ∈ firstMet (fun i => ns.getD i 0) i
      · have hm' : ns[i] ∈ ns.take i := (h1 _).mp hm
        have hc : (firstMet (fun i => ns.getD i 0) i).any (· == ns[i]) = true := List.any_eq_true.mpr ⟨_, hm, by simp⟩
        rw [if_pos hc]
        refine ⟨fun k => ?_, ?_⟩
        · rw [h1]; simp only [List.mem_append, List.mem_singleton]
          exact ⟨.inl, fun h => h.elim id fun e => by rw [e]; exact hm'⟩
        · constructor
          · intro h; omega
          · intro h
            rw [List.nodup_append] at h
            exact absurd rfl (h.2.2 _ hm' _ (List.mem_singleton.mpr rfl))
      · have hm' : ¬ ns[i] ∈ ns.take i := fun h => hm ((h1 _).mpr h)
        have hc : ¬ (firstMet (fun i => ns.getD i 0) i).any (· == ns[i]) = true := fun h => by
          obtain ⟨x, hx, e⟩ := List.any_eq_true.mp h
          exact hm (by rw [← (beq_iff_eq.mp e)]; exact hx)
        rw [if_neg hc]
        refine ⟨fun k => ?_, ?_⟩
        · simp only [List.mem_append, List.mem_singleton]
          rw [h1]
        · rw [List.length_append, List.nodup_append]
          simp only [List.length_singleton]
          constructor
          · intro h
            refine ⟨h2.mp (by omega), by simp, fun x hx y hy => ?_⟩
            rw [List.mem_singleton.mp hy]
            exact fun e => hm' (e ▸ hx)
          · intro h
            have := h2.mpr h.1
            omega
  have := (key ns.length (Nat.le_refl _)).2
  rw [List.take_of_length_le (Nat.le_refl _)] at this
  exact this
end L2

set_option Elab.async false
set_option linter.all false
set_option maxRecDepth 100000
set_option maxHeartbeats 4000000
namespace LD
open PySem PySem.SeqAt MeetsSeq
open AutoSeq1 (wpAny_loadPart')
theorem eq_tuple (l b : Addr) (es : Array DictEntry) (items2 : Array Value) (n n2 : Nat) (dd dd2 : Option Addr) (sl sl2 : Array (Option Value)) :
    Meets (Builtin.«dict.__eq__» ⟨[.ref l, .ref b], []⟩) (fun _ R s => s.heap.get? l = some { cls := .type "dict", dict := dd, data := .dict es n, slots := sl } ∧ s.heap.get? b = some { cls := .type "tuple", dict := dd2, data := .seq items2 n2, slots := sl2 } ∧ R (.ok (.ret .notImplemented)) s) :=
  .of_wp fun prog w A R s h => by obtain ⟨hp, g, d, tk, os⟩ := s; obtain ⟨hl, hb, h⟩ := h; have f1 := F.sub_tuple_dict; wp_walk using wpAny_loadPart' hl, wpAny_loadPart' hb; exact ⟨_, rfl, h⟩
theorem tuple_eq (l b : Addr) (es : Array DictEntry) (items2 : Array Value) (n n2 : Nat) (dd dd2 : Option Addr) (sl sl2 : Array (Option Value)) :
    Meets (Builtin.«tuple.__eq__» ⟨[.ref b, .ref l], []⟩) (fun _ R s => s.heap.get? l = some { cls := .type "dict", dict := dd, data := .dict es n, slots := sl } ∧ s.heap.get? b = some { cls := .type "tuple", dict := dd2, data := .seq items2 n2, slots := sl2 } ∧ R (.ok (.ret .notImplemented)) s) :=
  .of_wp fun prog w A R s h => by obtain ⟨hp, g, d, tk, os⟩ := s; obtain ⟨hl, hb, h⟩ := h; have f1 := F.sub_dict_tuple; wp_walk using wpAny_loadPart' hl, wpAny_loadPart' hb; exact ⟨_, rfl, h⟩
theorem ne_tuple (l b : Addr) (es : Array DictEntry) (items2 : Array Value) (n n2 : Nat) (dd dd2 : Option Addr) (sl sl2 : Array (Option Value)) :
    Meets (Builtin.«dict.__ne__» ⟨[.ref l, .ref b], []⟩) (fun _ R s => s.heap.get? l = some { cls := .type "dict", dict := dd, data := .dict es n, slots := sl } ∧ s.heap.get? b = some { cls := .type "tuple", dict := dd2, data := .seq items2 n2, slots := sl2 } ∧ R (.ok (.ret .notImplemented)) s) :=
  .of_wp fun prog w A R s h => by obtain ⟨hp, g, d, tk, os⟩ := s; obtain ⟨hl, hb, h⟩ := h; have f1 := F.sub_tuple_dict; wp_walk using wpAny_loadPart' hl, wpAny_loadPart' hb; exact ⟨_, rfl, h⟩
theorem tuple_ne (l b : Addr) (es : Array DictEntry) (items2 : Array Value) (n n2 : Nat) (dd dd2 : Option Addr) (sl sl2 : Array (Option Value)) :
    Meets (Builtin.«tuple.__ne__» ⟨[.ref b, .ref l], []⟩) (fun _ R s => s.heap.get? l = some { cls := .type "dict", dict := dd, data := .dict es n, slots := sl } ∧ s.heap.get? b = some { cls := .type "tuple", dict := dd2, data := .seq items2 n2, slots := sl2 } ∧ R (.ok (.ret .notImplemented)) s) :=
  .of_wp fun prog w A R s h => by obtain ⟨hp, g, d, tk, os⟩ := s; obtain ⟨hl, hb, h⟩ := h; have f1 := F.sub_dict_tuple; wp_walk using wpAny_loadPart' hl, wpAny_loadPart' hb; exact ⟨_, rfl, h⟩
theorem for0 {β : Type} {m : Type → Type} [Monad m] (b : β) (f : Nat → β → m (ForInStep β)) : forIn [:0] b f = (pure b : m β) := by
  simp
theorem same0 {M : Model} {A : Around} {E : Value → Shared → Prop} {s : Shared} {Q : Bool → Shared → Prop} {id : String} {l b : Addr} {n n2 : Nat} {dd dd2 : Option Addr} {sl sl2 : Array (Option Value)} (h1 : (l == sysModules) = false) (h2 : (b == sysModules) = false)
    (hl : s.heap.get? l = some { cls := .type "dict", dict := dd, data := .dict #[] n, slots := sl }) (hb : s.heap.get? b = some { cls := .type "dict", dict := dd2, data := .dict #[] n2, slots := sl2 }) (h : Q true s) : wpAny M A (Builtin.Dict.samePairs id l b) Q E s := by
  unfold Builtin.Dict.samePairs Builtin.Dict.showsAll
  rw [if_neg (by rw [h1]; decide), if_neg (by rw [h2]; decide)]
  refine wpAny_bind (wpAny_pure (wpAny_bind (wpAny_pure ?_)))
  refine wpAny_bind (wpAny_dictEntries hl rfl ?_)
  refine wpAny_bind (wpAny_dictEntries hb rfl ?_)
  rw [if_neg (by decide)]
  refine wpAny_bind (wpAny_dictEpoch hl rfl ?_)
  have e0 : (#[] : Array DictEntry).size = 0 := rfl
  simp only [e0]
  rw [for0]
  exact wpAny_bind (wpAny_pure (wpAny_pure h))
theorem eq_dict (l b : Addr) (n n2 : Nat) (dd dd2 : Option Addr) (sl sl2 : Array (Option Value)) (h1 : (l == sysModules) = false) (h2 : (b == sysModules) = false) :
    Meets (Builtin.«dict.__eq__» ⟨[.ref l, .ref b], []⟩) (fun _ R s => s.heap.get? l = some { cls := .type "dict", dict := dd, data := .dict #[] n, slots := sl } ∧ s.heap.get? b = some { cls := .type "dict", dict := dd2, data := .dict #[] n2, slots := sl2 } ∧ R (.ok (.ret (.bool true))) s) :=
  .of_wp fun prog w A R s h => by
    obtain ⟨hp, g, d, tk, os⟩ := s; obtain ⟨hl, hb, h⟩ := h; have f1 : isSubtype (.type "dict") (.type "dict") = pure true := F.sub_dict_dict
    wp_walk using wpAny_loadPart' hl, wpAny_loadPart' hb, same0 h1 h2 hl hb
    exact ⟨_, rfl, h⟩
theorem ne_dict (l b : Addr) (n n2 : Nat) (dd dd2 : Option Addr) (sl sl2 : Array (Option Value)) (h1 : (l == sysModules) = false) (h2 : (b == sysModules) = false) :
    Meets (Builtin.«dict.__ne__» ⟨[.ref l, .ref b], []⟩) (fun _ R s => s.heap.get? l = some { cls := .type "dict", dict := dd, data := .dict #[] n, slots := sl } ∧ s.heap.get? b = some { cls := .type "dict", dict := dd2, data := .dict #[] n2, slots := sl2 } ∧ R (.ok (.ret (.bool false))) s) :=
  .of_wp fun prog w A R s h => by
    obtain ⟨hp, g, d, tk, os⟩ := s; obtain ⟨hl, hb, h⟩ := h; have f1 : isSubtype (.type "dict") (.type "dict") = pure true := F.sub_dict_dict
    wp_walk using wpAny_loadPart' hl, wpAny_loadPart' hb, same0 h1 h2 hl hb
    exact ⟨_, rfl, h⟩
section
variable {A : Around} {s : Shared}
theorem rc_dict {l b : Addr} {n n2 : Nat} {dd dd2 : Option Addr} {sl sl2 : Array (Option Value)} (h1 : (l == sysModules) = false) (h2 : (b == sysModules) = false) (ho : s.heap.get? l = some { cls := .type "dict", dict := dd, data := .dict #[] n, slots := sl }) (ho2 : s.heap.get? b = some { cls := .type "dict", dict := dd2, data := .dict #[] n2, slots := sl2 }) (hu : A.units < cLine) : RcAt A s (.ref l) (.ref b) true ∧ RcNeAt A s (.ref l) (.ref b) false :=
  ⟨fun prog w E Q h => richCompare_meets_room (op := .Eq) ⟨_, ho, rfl⟩ ⟨_, ho2, rfl⟩ F.slot_dict_eq F.entry_dict_eq (F.args_dict_eq_2 _ _) (eq_dict l b n n2 dd dd2 sl sl2 h1 h2) ⟨ho, ho2, show Value.bool true ≠ Value.notImplemented ∧ Q (.bool true) s from ⟨(fun x => nomatch x), h⟩⟩ hu,
   fun prog w E Q h => richCompare_meets_room (op := .NotEq) ⟨_, ho, rfl⟩ ⟨_, ho2, rfl⟩ F.slot_dict_ne F.entry_dict_ne (F.args_dict_ne_2 _ _) (ne_dict l b n n2 dd dd2 sl sl2 h1 h2) ⟨ho, ho2, show Value.bool false ≠ Value.notImplemented ∧ Q (.bool false) s from ⟨(fun x => nomatch x), h⟩⟩ hu⟩
theorem rc_dt {l b : Addr} {es : Array DictEntry} {n : Nat} {dd : Option Addr} {sl : Array (Option Value)} {items2 : Array Value} (ho : s.heap.get? l = some { cls := .type "dict", dict := dd, data := .dict es n, slots := sl }) (hb : s.heap.IsTuple b items2) (hu : A.units < cLine) : RcAt A s (.ref l) (.ref b) false ∧ RcNeAt A s (.ref l) (.ref b) true := by
  obtain ⟨⟨cls2, dd2, data2, sl2⟩, ho2, hc2, n2, hd2⟩ := id hb
  simp only at hc2 hd2
  subst hc2 hd2
  have hne : l ≠ b := fun e => by
    subst e
    rw [ho] at ho2
    have := congrArg (fun o : Option Obj => o.map (·.cls)) ho2
    simp at this
  exact ⟨fun prog w E Q h => rc_eq_decline_or (k := false) ⟨_, ho, rfl⟩ ⟨_, ho2, rfl⟩ (by decide) F.sub_tuple_dict F.slot_dict_eq F.slot_tuple_eq_refl
      (fun _ hq => call_meets F.slot_dict_eq ⟨_, ho, rfl⟩ F.entry_dict_eq (F.args_dict_eq_2 _ _) (eq_tuple l b es items2 n n2 dd dd2 sl sl2) ⟨ho, ho2, hq⟩)
      (fun _ hq => call_meets F.slot_tuple_eq_refl ⟨_, ho2, rfl⟩ F.entry_tuple_eq (F.args_tuple_eq_2 _ _) (tuple_eq l b es items2 n n2 dd dd2 sl sl2) ⟨ho, ho2, hq⟩)
      (fun _ hq => wpAny_isSame_ref_other hne ho ho2 (by simp) hq) (.inr hu) h,
    fun prog w E Q h => rc_ne_decline_or (k := false) ⟨_, ho, rfl⟩ ⟨_, ho2, rfl⟩ (by decide) F.sub_tuple_dict F.slot_dict_ne F.slot_tuple_ne_refl
      (fun _ hq => call_meets F.slot_dict_ne ⟨_, ho, rfl⟩ F.entry_dict_ne (F.args_dict_ne_2 _ _) (ne_tuple l b es items2 n n2 dd dd2 sl sl2) ⟨ho, ho2, hq⟩)
      (fun _ hq => call_meets F.slot_tuple_ne_refl ⟨_, ho2, rfl⟩ F.entry_tuple_ne (F.args_tuple_ne_2 _ _) (tuple_ne l b es items2 n n2 dd dd2 sl sl2) ⟨ho, ho2, hq⟩)
      (fun _ hq => wpAny_isSame_ref_other hne ho ho2 (by simp) hq) (.inr hu) h⟩
end
end LD

set_option Elab.async false
set_option linter.all false
set_option maxRecDepth 100000
set_option maxHeartbeats 4000000
/-! == and != of lists and tuples, at any depth -/
namespace L2
open PySem PySem.Spec PyProof.Rows PySem.SeqAt
/-- what == answers within a sequence (identity first); n: how deep -/
inductive EqD (H : Hp) : Nat → V → V → Bool → Prop
  | flat {n : Nat} {x y : V} (hx : flatV x = true) (hy : flatV y = true) : EqD H n x y (eqV x y)
  | same {n : Nat} (a : Addr) : EqD H n (.ref a) (.ref a) true
  | lsts {n : Nat} {a b : Addr} {xs ys : List V} {e : Nat → Bool} (ne : a ≠ b) (ha : H a = some (.lst xs)) (hb : H b = some (.lst ys)) (hl : xs.length = ys.length) (he : ∀ i x y, xs[i]? = some x → ys[i]? = some y → EqD H n x y (e i)) : EqD H (n + 1) (.ref a) (.ref b) ((List.range xs.length).all e)
  | lens {n : Nat} {a b : Addr} {xs ys : List V} (ne : a ≠ b) (ha : H a = some (.lst xs)) (hb : H b = some (.lst ys)) (hl : xs.length ≠ ys.length) : EqD H (n + 1) (.ref a) (.ref b) false
  | tups {n : Nat} {a b : Addr} {xs ys : List V} {e : Nat → Bool} (ne : a ≠ b) (ha : H a = some (.tup xs)) (hb : H b = some (.tup ys)) (he : ∀ i x y, xs[i]? = some x → ys[i]? = some y → EqD H n x y (e i)) : EqD H (n + 1) (.ref a) (.ref b) ((List.range (min xs.length ys.length)).all e && xs.length == ys.length)
  | dcts {n : Nat} {a b : Addr} (ne : a ≠ b) (ha : H a = some (.dK [])) (hb : H b = some (.dK [])) : EqD H n (.ref a) (.ref b) true
/-- what == answers at the top -/
inductive RcD (H : Hp) : V → V → Bool → Prop
  | flat {x y : V} (hx : flatV x = true) (hy : flatV y = true) : RcD H x y (eqV x y)
  | lsts {a b : Addr} {xs ys : List V} {e : Nat → Bool} (ha : H a = some (.lst xs)) (hb : H b = some (.lst ys)) (hl : xs.length = ys.length) (he : ∀ i x y, xs[i]? = some x → ys[i]? = some y → EqD H 20 x y (e i)) : RcD H (.ref a) (.ref b) ((List.range xs.length).all e)
  | lens {a b : Addr} {xs ys : List V} (ha : H a = some (.lst xs)) (hb : H b = some (.lst ys)) (hl : xs.length ≠ ys.length) : RcD H (.ref a) (.ref b) false
  | tups {a b : Addr} {xs ys : List V} {e : Nat → Bool} (ha : H a = some (.tup xs)) (hb : H b = some (.tup ys)) (he : ∀ i x y, xs[i]? = some x → ys[i]? = some y → EqD H 20 x y (e i)) : RcD H (.ref a) (.ref b) ((List.range (min xs.length ys.length)).all e && xs.length == ys.length)
  | lt {a b : Addr} {xs ys : List V} (ha : H a = some (.lst xs)) (hb : H b = some (.tup ys)) : RcD H (.ref a) (.ref b) false
  | tl {a b : Addr} {xs ys : List V} (ha : H a = some (.tup xs)) (hb : H b = some (.lst ys)) : RcD H (.ref a) (.ref b) false
  | lf {a : Addr} {xs : List V} {y : V} (ha : H a = some (.lst xs)) (hy : flatV y = true) : RcD H (.ref a) y false
  | fl {a : Addr} {xs : List V} {y : V} (ha : H a = some (.lst xs)) (hy : flatV y = true) : RcD H y (.ref a) false
  | tf {a : Addr} {xs : List V} {y : V} (ha : H a = some (.tup xs)) (hy : flatV y = true) : RcD H (.ref a) y false
  | ft {a : Addr} {xs : List V} {y : V} (ha : H a = some (.tup xs)) (hy : flatV y = true) : RcD H y (.ref a) false
  | dcts {a b : Addr} (ha : H a = some (.dK [])) (hb : H b = some (.dK [])) : RcD H (.ref a) (.ref b) true
  | dt {a b : Addr} {kvs : List (Key × V)} {ys : List V} (ha : H a = some (.dK kvs)) (hb : H b = some (.tup ys)) : RcD H (.ref a) (.ref b) false
section
variable {X : Cx} {pins : List (Addr × Obj)} {σ : St} {H : Hp} {s : Shared}
theorem Inv.lstI (I : Inv X pins σ H s) {a : Addr} {xs : List V} (h : H a = some (.lst xs)) : ∃ its : List Value, Vals xs its ∧ s.heap.IsList a its.toArray := by
  obtain ⟨z, its, n, r, _, e⟩ := I.lstM h
  exact ⟨its, r, _, e, rfl, n, rfl⟩
theorem Inv.tupI (I : Inv X pins σ H s) {a : Addr} {xs : List V} (h : H a = some (.tup xs)) : ∃ its : List Value, Vals xs its ∧ s.heap.IsTuple a its.toArray := by
  obtain ⟨z, its, r, o, h1, h2, n, h3⟩ := I.hok a _ h
  exact ⟨its, r, o, h1, h2, n, h3⟩
theorem Inv.dK0 (I : Inv X pins σ H s) {a : Addr} {kvs : List (Key × V)} (h : H a = some (.dK kvs)) : (a == sysModules) = false ∧ ∃ es n, s.heap.get? a = some { cls := .type "dict", dict := none, data := .dict es n, slots := #[] } ∧ (kvs = [] → es = #[]) := by
  obtain ⟨_, h1, vs, kv, o, es, ep, h2, ⟨c1, c2, c3⟩, h3, _, pr, _⟩ := I.hok a _ h
  obtain ⟨oc, od, dt, sl⟩ := o
  simp only at c1 c2 c3 h3
  subst c1 c2 c3 h3
  refine ⟨h1, es, ep, h2, fun e => ?_⟩
  subst e
  cases kv
  have e : es.toList = [] := by
    generalize es.toList = l at pr
    cases pr; rfl
  exact Array.toList_eq_nil_iff.mp e
theorem units_in1 (A : Around) : A.in1.units ≤ A.units + 1 := Nat.le_refl _
theorem vals_at {P : V → V → Nat → Prop} {A : Around} {e : Nat → Bool} {xs ys : List V} {its its2 : List Value} (r : Vals xs its) (r2 : Vals ys its2)
    (k : ∀ i x y u v, xs[i]? = some x → ys[i]? = some y → RelV x u → RelV y v → EqAt A s u v (e i)) :
    ∀ j (h1 : j < its.toArray.size) (h2 : j < its2.toArray.size), EqAt A s its.toArray[j] its2.toArray[j] (e j) := by
  intro j h1 h2
  rw [List.size_toArray] at h1 h2
  have l1 := r.length
  have l2 := r2.length
  obtain ⟨u, hu, ru⟩ := r.get (i := j) (x := xs[j]'(by omega)) (by simp)
  obtain ⟨v, hv, rv⟩ := r2.get (i := j) (x := ys[j]'(by omega)) (by simp)
  have e1 : its.toArray[j] = u := by
    have : its[j]? = some its[j] := by simp [h1]
    rw [this] at hu
    simpa using Option.some.inj hu
  have e2 : its2.toArray[j] = v := by
    have : its2[j]? = some its2[j] := by simp [h2]
    rw [this] at hv
    simpa using Option.some.inj hv
  rw [e1, e2]
  exact k j _ _ u v (by simp) (by simp) ru rv
theorem EqD.at (I : Inv X pins σ H s) {n : Nat} {x y : V} {b : Bool} (h : EqD H n x y b) : ∀ {A : Around} {u v : Value}, RelV x u → RelV y v → A.units + n + 1 < cLine → EqAt A s u v b := by
  induction h with
  | flat hx hy => intro A u v rx ry _; exact eqAt_V rx ry hx hy
  | same a => intro A u v rx ry _; cases rx; cases ry; exact EqAt.same _
  | @lsts n a b xs ys e ne ha hb hl he ih =>
    intro A u v rx ry hu
    cases rx; cases ry
    obtain ⟨its, r, p⟩ := I.lstI ha
    obtain ⟨its2, r2, p2⟩ := I.lstI hb
    have hs : its.toArray.size = its2.toArray.size := by rw [List.size_toArray, List.size_toArray, ← r.length, ← r2.length, hl]
    have q := EqAt.of_refs ne (RcAt.lists (A := A) p p2 hs (by omega) (e := e) (vals_at (P := fun _ _ _ => True) r r2 fun i x y u v e1 e2 ru rv => ih i x y e1 e2 ru rv (by have := units_in1 A; omega)))
    rw [List.size_toArray, ← r.length] at q
    exact q
  | @lens n a b xs ys ne ha hb hl =>
    intro A u v rx ry hu
    cases rx; cases ry
    obtain ⟨its, r, p⟩ := I.lstI ha
    obtain ⟨its2, r2, p2⟩ := I.lstI hb
    exact EqAt.of_refs ne (RcAt.lists_lengths p p2 (by rw [List.size_toArray, List.size_toArray, ← r.length, ← r2.length]; simpa using hl) (by omega))
  | @tups n a b xs ys e ne ha hb he ih =>
    intro A u v rx ry hu
    cases rx; cases ry
    obtain ⟨its, r, p⟩ := I.tupI ha
    obtain ⟨its2, r2, p2⟩ := I.tupI hb
    have q := EqAt.of_refs ne (RcAt.tuples (A := A) p p2 (by omega) (e := e) (vals_at (P := fun _ _ _ => True) r r2 fun i x y u v e1 e2 ru rv => ih i x y e1 e2 ru rv (by have := units_in1 A; omega)))
    rw [List.size_toArray, List.size_toArray, ← r.length, ← r2.length] at q
    exact q
  | @dcts n a b ne ha hb =>
    intro A u v rx ry hu
    cases rx; cases ry
    obtain ⟨h1, es, m, h2, h3⟩ := I.dK0 ha
    obtain ⟨k1, es', m', k2, k3⟩ := I.dK0 hb
    cases h3 rfl; cases k3 rfl
    exact EqAt.of_refs ne (LD.rc_dict h1 k1 h2 k2 (by omega)).1
theorem RcD.at (I : Inv X pins σ H s) {x y : V} {b : Bool} (h : RcD H x y b) {A : Around} {u v : Value} (rx : RelV x u) (ry : RelV y v) (hu : A.units + 60 < cLine) : RcAt A s u v b ∧ RcNeAt A s u v (!b) := by
  cases h with
  | flat hx hy =>
    cases x with
    | non =>
      cases rx
      cases y with
      | non => cases ry; exact ⟨RcAt.none_none, RcNeAt.none_none⟩
      | bl b => cases ry; exact ⟨RcAt.none_bool b, RcNeAt.none_bool b⟩
      | int b => obtain ⟨t, rfl⟩ := ry; exact ⟨RcAt.none_int b t, RcNeAt.none_int b t⟩
      | str b => obtain ⟨t, rfl⟩ := ry; exact ⟨RcAt.none_str b t, RcNeAt.none_str b t⟩
      | _ => exact absurd (show false = true from hy) Bool.false_ne_true
    | bl a =>
      cases rx
      cases y with
      | non => cases ry; exact ⟨RcAt.bool_none a, RcNeAt.bool_none a⟩
      | bl b => cases ry; exact ⟨RcAt.bool_bool a b, RcNeAt.bool_bool a b⟩
      | int b => obtain ⟨t, rfl⟩ := ry; exact ⟨RcAt.bool_int a b t, RcNeAt.bool_int a b t⟩
      | str b => obtain ⟨t, rfl⟩ := ry; exact ⟨RcAt.bool_str a b t, RcNeAt.bool_str a b t⟩
      | _ => exact absurd (show false = true from hy) Bool.false_ne_true
    | int a =>
      obtain ⟨t', rfl⟩ := rx
      cases y with
      | non => cases ry; exact ⟨RcAt.int_none a t', RcNeAt.int_none a t'⟩
      | bl b => cases ry; exact ⟨RcAt.int_bool a t' b, RcNeAt.int_bool a t' b⟩
      | int b => obtain ⟨t, rfl⟩ := ry; exact ⟨RcAt.int_int a t' b t, RcNeAt.int_int a t' b t⟩
      | str b => obtain ⟨t, rfl⟩ := ry; exact ⟨RcAt.int_str a t' b t, RcNeAt.int_str a t' b t⟩
      | _ => exact absurd (show false = true from hy) Bool.false_ne_true
    | str a =>
      obtain ⟨t', rfl⟩ := rx
      cases y with
      | non => cases ry; exact ⟨RcAt.str_none a t', RcNeAt.str_none a t'⟩
      | bl b => cases ry; exact ⟨RcAt.str_bool a t' b, RcNeAt.str_bool a t' b⟩
      | int b => obtain ⟨t, rfl⟩ := ry; exact ⟨RcAt.str_int a t' b t, RcNeAt.str_int a t' b t⟩
      | str b => obtain ⟨t, rfl⟩ := ry; exact ⟨RcAt.str_str a t' b t, RcNeAt.str_str a t' b t⟩
      | _ => exact absurd (show false = true from hy) Bool.false_ne_true
    | _ => exact absurd (show false = true from hx) Bool.false_ne_true
  | @lsts a b xs ys e ha hb hl he =>
    cases rx; cases ry
    obtain ⟨its, r, p⟩ := I.lstI ha
    obtain ⟨its2, r2, p2⟩ := I.lstI hb
    have hs : its.toArray.size = its2.toArray.size := by rw [List.size_toArray, List.size_toArray, ← r.length, ← r2.length, hl]
    have k := vals_at (P := fun _ _ _ => True) (e := e) (A := A.in1) (s := s) r r2 fun i x y u v e1 e2 ru rv => (he i x y e1 e2).at I ru rv (by have := units_in1 A; omega)
    have q1 := RcAt.lists p p2 hs (by omega) k
    have q2 := RcNeAt.lists p p2 hs (by omega) k
    rw [List.size_toArray, ← r.length] at q1 q2
    exact ⟨q1, q2⟩
  | @lens a b xs ys ha hb hl =>
    cases rx; cases ry
    obtain ⟨its, r, p⟩ := I.lstI ha
    obtain ⟨its2, r2, p2⟩ := I.lstI hb
    have hs : (its.toArray.size != its2.toArray.size) = true := by rw [List.size_toArray, List.size_toArray, ← r.length, ← r2.length]; simpa using hl
    exact ⟨RcAt.lists_lengths p p2 hs (by omega), RcNeAt.lists_lengths p p2 hs (by omega)⟩
  | @tups a b xs ys e ha hb he =>
    cases rx; cases ry
    obtain ⟨its, r, p⟩ := I.tupI ha
    obtain ⟨its2, r2, p2⟩ := I.tupI hb
    have k := vals_at (P := fun _ _ _ => True) (e := e) (A := A.in1) (s := s) r r2 fun i x y u v e1 e2 ru rv => (he i x y e1 e2).at I ru rv (by have := units_in1 A; omega)
    have q1 := RcAt.tuples p p2 (by omega) k
    have q2 := RcNeAt.tuples p p2 (by omega) k
    rw [List.size_toArray, List.size_toArray, ← r.length, ← r2.length] at q1 q2
    exact ⟨q1, q2⟩
  | lt ha hb =>
    cases rx; cases ry
    obtain ⟨its, r, p⟩ := I.lstI ha
    obtain ⟨its2, r2, p2⟩ := I.tupI hb
    exact ⟨RcAt.list_tuple p p2 (by omega), RcNeAt.list_tuple p p2 (by omega)⟩
  | tl ha hb =>
    cases rx; cases ry
    obtain ⟨its, r, p⟩ := I.tupI ha
    obtain ⟨its2, r2, p2⟩ := I.lstI hb
    exact ⟨RcAt.tuple_list p p2 (by omega), RcNeAt.tuple_list p p2 (by omega)⟩
  | lf ha hy =>
    cases rx
    obtain ⟨its, r, p⟩ := I.lstI ha
    cases y with
    | non => cases ry; exact ⟨RcAt.list_none p (by omega), RcNeAt.list_none p (by omega)⟩
    | bl b => cases ry; exact ⟨RcAt.list_bool b p (by omega), RcNeAt.list_bool b p (by omega)⟩
    | int b => obtain ⟨t, rfl⟩ := ry; exact ⟨RcAt.list_int b t p (by omega), RcNeAt.list_int b t p (by omega)⟩
    | str b => obtain ⟨t, rfl⟩ := ry; exact ⟨RcAt.list_str b t p (by omega), RcNeAt.list_str b t p (by omega)⟩
    | _ => exact absurd (show false = true from hy) Bool.false_ne_true
  | fl ha hy =>
    cases ry
    obtain ⟨its, r, p⟩ := I.lstI ha
    cases x with
    | non => cases rx; exact ⟨RcAt.none_list p (by omega), RcNeAt.none_list p (by omega)⟩
    | bl b => cases rx; exact ⟨RcAt.bool_list b p (by omega), RcNeAt.bool_list b p (by omega)⟩
    | int b => obtain ⟨t, rfl⟩ := rx; exact ⟨RcAt.int_list b t p (by omega), RcNeAt.int_list b t p (by omega)⟩
    | str b => obtain ⟨t, rfl⟩ := rx; exact ⟨RcAt.str_list b t p (by omega), RcNeAt.str_list b t p (by omega)⟩
    | _ => exact absurd (show false = true from hy) Bool.false_ne_true
  | tf ha hy =>
    cases rx
    obtain ⟨its, r, p⟩ := I.tupI ha
    cases y with
    | non => cases ry; exact ⟨RcAt.tuple_none p (by omega), RcNeAt.tuple_none p (by omega)⟩
    | bl b => cases ry; exact ⟨RcAt.tuple_bool b p (by omega), RcNeAt.tuple_bool b p (by omega)⟩
    | int b => obtain ⟨t, rfl⟩ := ry; exact ⟨RcAt.tuple_int b t p (by omega), RcNeAt.tuple_int b t p (by omega)⟩
    | str b => obtain ⟨t, rfl⟩ := ry; exact ⟨RcAt.tuple_str b t p (by omega), RcNeAt.tuple_str b t p (by omega)⟩
    | _ => exact absurd (show false = true from hy) Bool.false_ne_true
  | ft ha hy =>
    cases ry
    obtain ⟨its, r, p⟩ := I.tupI ha
    cases x with
    | non => cases rx; exact ⟨RcAt.none_tuple p (by omega), RcNeAt.none_tuple p (by omega)⟩
    | bl b => cases rx; exact ⟨RcAt.bool_tuple b p (by omega), RcNeAt.bool_tuple b p (by omega)⟩
    | int b => obtain ⟨t, rfl⟩ := rx; exact ⟨RcAt.int_tuple b t p (by omega), RcNeAt.int_tuple b t p (by omega)⟩
    | str b => obtain ⟨t, rfl⟩ := rx; exact ⟨RcAt.str_tuple b t p (by omega), RcNeAt.str_tuple b t p (by omega)⟩
    | _ => exact absurd (show false = true from hy) Bool.false_ne_true
  | dcts ha hb =>
    cases rx; cases ry
    obtain ⟨h1, es, m, h2, h3⟩ := I.dK0 ha
    obtain ⟨k1, es', m', k2, k3⟩ := I.dK0 hb
    cases h3 rfl; cases k3 rfl
    exact LD.rc_dict h1 k1 h2 k2 (by omega)
  | dt ha hb =>
    cases rx; cases ry
    obtain ⟨h1, es, m, h2, h3⟩ := I.dK0 ha
    obtain ⟨its2, r2, p2⟩ := I.tupI hb
    exact LD.rc_dt h2 p2 (by omega)
end
def rEqD : R2 := fun x y H Q => ∃ b, RcD H x y b ∧ Q (.bl b) H
def rNeD : R2 := fun x y H Q => ∃ b, RcD H x y b ∧ Q (.bl (!b)) H
theorem op_eqD {X : Cx} (hu : X.A.units + 64 < cLine) : OpR X (compareOp .Eq) rEqD := by
  intro pins s σ H x y v u Q I rx ry ⟨b, hb, q⟩
  exact (hb.at I rx ry (A := X.A) (by omega)).1 X.prog X.w X.xe _ ⟨.bl b, H, I, rfl, q⟩
theorem op_neD {X : Cx} (hu : X.A.units + 64 < cLine) : OpR X (compareOp .NotEq) rNeD := by
  intro pins s σ H x y v u Q I rx ry ⟨b, hb, q⟩
  exact (hb.at I rx ry (A := X.A) (by omega)).2 X.prog X.w X.xe _ ⟨.bl (!b), H, I, rfl, q⟩
theorem eqV_self : ∀ {x : V}, flatV x = true → eqV x x = true := by
  intro x h
  cases x with
  | non => rfl
  | bl b => simp [eqV]
  | int b => simp [eqV]
  | str b => simp [eqV]
  | _ => exact absurd (show false = true from h) Bool.false_ne_true
/-- flat or an object -/
def plainV : V → Bool
  | .ref _ => true
  | x => flatV x
theorem EqD.self {H : Hp} {n : Nat} {x : V} (h : plainV x = true) : EqD H n x x true := by
  cases x with
  | ref a => exact .same a
  | non => exact eqV_self (x := .non) rfl ▸ .flat rfl rfl
  | bl b => have := EqD.flat (H := H) (n := n) (x := .bl b) (y := .bl b) rfl rfl; rwa [eqV_self rfl] at this
  | int b => have := EqD.flat (H := H) (n := n) (x := .int b) (y := .int b) rfl rfl; rwa [eqV_self rfl] at this
  | str b => have := EqD.flat (H := H) (n := n) (x := .str b) (y := .str b) rfl rfl; rwa [eqV_self rfl] at this
  | _ => exact absurd (show false = true from h) Bool.false_ne_true
/-- two lists of the very same things -/
theorem RcD.sameL {H : Hp} {a b : Addr} {xs : List V} (ha : H a = some (.lst xs)) (hb : H b = some (.lst xs)) (hp : ∀ x ∈ xs, plainV x = true) : RcD H (.ref a) (.ref b) true := by
  have := RcD.lsts (e := fun _ => true) ha hb rfl fun i x y e1 e2 => by
    rw [e1] at e2
    cases e2
    exact EqD.self (hp x (List.mem_of_getElem? e1))
  rwa [List.all_eq_true.mpr (fun _ _ => rfl)] at this
theorem Room.u64 {k : Nat} {A : Around} (hr : Room k A) : A.units + 64 < cLine := hr.units
end L2

set_option Elab.async false
set_option linter.all false
set_option maxRecDepth 100000
set_option maxHeartbeats 4000000
/-! insert, whole slices, reversed slices; own classes by short words -/
namespace L2
open PySem PySem.Spec PyProof.Rows
section
variable {prog : Program} {w : World} {A : Around} {E : Value → Shared → Prop} {s : Shared}
/-- list.__setitem__ with a slice of step one and another list -/
theorem setItem_all {l b sl : Addr} {items new : Array Value} {n n2 : Nat} {vl vu : Value} {Q : Unit → Shared → Prop}
    (e : s.heap.get? l = some { cls := .type "list", data := .seq items n }) (e2 : s.heap.get? b = some { cls := .type "list", data := .seq new n2 }) (hne : l ≠ b)
    (hs : s.heap.IsSliceOf sl vl vu .none) (pl : IsPart vl none) (pu : IsPart vu none)
    (hsz : items.size + new.size ≤ sizeLine) (h : Q () { s with heap := s.heap.update l (Obj.mapSeq fun xs => xs.extract 0 0 ++ new ++ xs.extract items.size xs.size) }) :
    wpAny (model prog w) A (setItem (.ref l) (.ref sl) (.ref b)) Q E s := by
  have hl : s.heap.IsList l items := PySem.IsL.isList e
  have hb : s.heap.IsList b new := PySem.IsL.isList e2
  obtain ⟨os, hos, hcs, hds⟩ := id hs
  have hTs : s.TypeIs (.ref sl) "slice" := ⟨os, hos, hcs⟩
  have hstep : ¬ ((rawPart none == rawInt 0) = true) := Bool.false_ne_true
  have hsame : Builtin.List.listSameRef (.ref l) (.ref b) = false := by
    unfold Builtin.List.listSameRef
    exact beq_eq_false_iff_ne.mpr hne
  have hmax : (max (0 : Int) (items.size : Int)).toNat = items.size := by omega
  have hz' : ((fun xs : Array Value => xs.extract 0 0 ++ new ++ xs.extract items.size xs.size) items).size ≤ sizeLine + 1 := by
    simp only [Array.size_append, Array.size_extract]
    omega
  unfold setItem
  try with_reducible refine wpAny_holding ?_
  first | refine wpAny_bind (wpAny_pure ?_) | skip
  refine wpAny_bind (wpAny_sequenceKey hl.typeIs (by decide) ?_)
  refine wpAny_bind (wpAny_callSpecial?_slot (name := Str.ofString "__setitem__") hl.typeIs slot_list_setitem
    (wpAny_call_entry slot_list_setitem hl.typeIs entry_list_setitem ?_ (args_list_setitem _ _ _)))
  show wpAny _ _ (Builtin.List.listSubscript? (.ref sl) >>= _) _ _ s
  refine wpAny_bind ?_
  unfold Builtin.List.listSubscript?
  refine wpAny_bind (wpAny_specialOf hTs slice_no_index ?_)
  simp only [Option.isNone_none, if_true]
  refine wpAny_pure ?_
  show wpAny _ _ (typeOf (.ref sl) >>= _) _ _ s
  refine wpAny_bind (wpAny_typeOf hTs ?_)
  first
    | rw [if_neg (by decide)]
    | refine PySem.W.KFB.if_not (by decide) ?_
  rw [listSliceParts_eq]
  refine wpAny_bind (wpAny_bind (wpAny_field hos hds (x := .none) rfl (wpAny_bind (wpAny_listPart .none ?_))))
  rw [if_neg hstep]
  refine wpAny_bind (wpAny_field hos hds (x := vl) rfl (wpAny_bind (wpAny_listPart pl ?_)))
  refine wpAny_bind (wpAny_field hos hds (x := vu) rfl (wpAny_bind (wpAny_listPart pu (wpAny_pure ?_))))
  first
    | simp only [hsame, Bool.false_eq_true, if_false]
    | refine PySem.W.KFB.if_not hsame ?_
    | (dsimp only
       rw [if_neg (by rw [hsame]; exact Bool.false_ne_true)])
  refine wpAny_bind (m := Builtin.List.listAllItems (.ref b) "must assign iterable to extended slice") ?_
  unfold Builtin.List.listAllItems
  refine wpAny_bind (wpAny_typeOf hb.typeIs ?_)
  first
    | refine PySem.W.KFB.if_so (by decide) ?_
    | rw [if_pos (by decide)]
    | simp only [beq_self_eq_true, Bool.true_or, if_true]
  unfold Builtin.List.listItems
  refine wpAny_bind (wpAny_seqItems e2 rfl (wpAny_pure ?_))
  refine wpAny_bind (wpAny_bind (wpAny_seqItems e rfl (wpAny_pure ?_)))
  refine wpAny_bind (wpAny_of_eq (sliceIndices_raw none none none items.size (by simp)) ?_)
  show wpAny _ _ (if ((1 : Int) == 1) = true then _ else _) _ _ s
  rw [if_pos (by decide)]
  refine wpAny_bind (wpAny_rule ?_)
  first
    | simp only [notLongL hsz, Bool.false_eq_true, if_false]
    | refine PySem.W.KFB.if_not (notLongL hsz) ?_
  first | refine wpAny_bind (wpAny_pure ?_) | skip
  show wpAny _ _ (updateSeq l (fun xs => xs.extract 0 ((0 : Int)).toNat ++ new ++ xs.extract (max (0 : Int) (items.size : Int)).toNat xs.size) >>= _) _ _ s
  rw [hmax, show ((0 : Int)).toNat = 0 from rfl]
  refine wpAny_bind (wpAny_updateSeq (hz := Nat.le_trans (Nat.le_add_right _ _) hsz) (_hz' := hz') e rfl ?_)
  refine wpAny_bind (wpAny_letGo ?_)
  first
    | exact wpAny_bind (wpAny_pure (wpAny_pure ⟨.none, rfl, wpAny_pure h⟩))
    | exact wpAny_pure ⟨.none, rfl, wpAny_pure h⟩
end
section
variable {X : Cx}
/-- xs[:] = ys -/
def gAll (to : TE) : TG := fun v σ H Q => to σ H fun o H1 => ∃ l b xs ys, o = .ref l ∧ v = .ref b ∧ l ≠ b ∧ H1 l = some (.lst xs) ∧ H1 b = some (.lst ys) ∧ xs.length + ys.length ≤ sizeLine ∧ Q σ (upd H1 l (.lst ys))
theorem pg_all {o : Expr} {to : TE} {p2 pos : Pos} (ho : PE X o to) : PG X (.Subscript o (.Slice none none none p2) pos) (gAll to) := by
  intro pins s σ H v u Q I r h
  rw [assign_Subscript]
  refine wpAny_bind (wpAny_holding (thn (ho pins s σ H _ I h) fun ov s1 ⟨x, H1, I1, r1, q1⟩ => ?_))
  obtain ⟨l, b, xs, ys, rfl, rfl, hne, hl, hb, hz, q⟩ := q1
  cases r1; cases r
  refine wpAny_bind (wpAny_holding (wpAny_Slice ?_))
  simp only [evalPart_none]
  refine wpAny_pure (wpAny_pure (wpAny_pure ?_))
  refine wpAny_bind (wpAny_standAt (wpAny_bind (wpAny_holding ?_)))
  have I2 : Inv X pins σ H1 { s1 with heap := s1.heap.push { cls := .type "slice", data := .fields #[.none, .none, .none] } } := I1.kept (t' := s1.toks) fun b ob q => Heap.get?_push_of_some _ q
  obtain ⟨z, its, n, rv, hlen, e⟩ := I2.lstM hl
  obtain ⟨z2, its2, n2, rv2, hlen2, e2⟩ := I2.lstM hb
  refine setItem_all e e2 hne (Heap.IsSliceOf.new ..) .none .none (by rw [List.size_toArray, List.size_toArray]; omega) (wpAny_release ⟨σ, _, ?_, q⟩)
  refine I2.lset (its' := its2) (t' := s1.toks) hl e ?_ rv2 z2
  rw [List.size_toArray]
  have := splice_eq its its2 0 its.length
  rw [show its.toArray.size = its.length from List.size_toArray ..] at this
  simpa using this
/-- xs.insert(i, y) -/
def rInsert : V → List V → Hp → VK → Prop := fun x vs H Q => ∃ l xs y i, x = .ref l ∧ vs = [.int i, y] ∧ H l = some (.lst xs) ∧ 0 ≤ i ∧ i < 2 ^ 63 ∧ xs.length < sizeLine ∧ Q .non (upd H l (.lst (xs.take i.toNat ++ y :: xs.drop i.toNat)))
theorem mt_insert : MtM X "list.insert" rInsert := by
  intro pins s σ H x vs v us Q I rx rv h
  obtain ⟨l, xs, y, i, rfl, rfl, hH, h0, h1, hz, q⟩ := h
  cases rx
  obtain ⟨ui, u, rfl, ri, ru⟩ := rv.two
  obtain ⟨t, rfl⟩ := ri
  obtain ⟨z, its, n, r, hl, e⟩ := I.lstM hH
  have hfit : ¬ (!Builtin.List.listFitsIndex i) = true := by
    unfold Builtin.List.listFitsIndex
    rw [decide_eq_true (show -(2 ^ 63 : Int) ≤ i by omega), decide_eq_true (show i < 2 ^ 63 by omega)]
    decide
  refine call_meets F.slot_list_insert ⟨_, e, rfl⟩ F.entry_list_insert (F.args_list_insert_3 _ _ _) (PySem.AutoListH.list_insert_list_int_val_1 l its.toArray n i t u hfit (by rw [List.size_toArray]; omega)) ⟨e, ?_⟩
  refine ⟨.non, _, I.lset (its' := its.take i.toNat ++ u :: its.drop i.toNat) hH e ?_ ((r.take _).append (.cons ru (r.drop _))) ?_, rfl, q⟩
  · dsimp only
    rw [if_neg (by omega), List.size_toArray]
    apply Array.toList_inj.mp
    simp
    by_cases hi : i.toNat ≤ its.length
    · rw [Nat.min_eq_left hi, List.append_cancel_left_eq]
      rw [List.take_of_length_le (by simp)]
    · have hg : its.length ≤ i.toNat := by omega
      rw [Nat.min_eq_right hg]
      simp [List.take_of_length_le hg, List.drop_of_length_le hg]
  · rw [List.length_append, List.length_cons, List.length_take, List.length_drop]
    omega
/-- xs[::-1] -/
def tRev (K : PySem.W.Frag) (te : TE) : TE := fun σ H Q => te σ H fun x H1 => ∃ a xs, x = .ref a ∧ SqL K H1 a xs ∧ ∀ p, H1 p = none → Q (.ref p) (upd H1 p (.lst xs.reverse))
theorem pick_rev (its : List Value) : slicePick its.toArray none none (some (-1)) = its.reverse.toArray := by
  unfold slicePick sliceBounds sliceRange
  simp only [Option.getD_some, List.size_toArray]
  have hs : ¬ ((-1 : Int) > 0) := by decide
  simp only [hs, if_false]
  apply Array.toList_inj.mp
  simp only [List.toList_toArray]
  by_cases h0 : its.length = 0
  · have : its = [] := List.length_eq_zero_iff.mp h0
    subst this
    rfl
  · rw [if_pos (by omega)]
    have hc : (((its.length : Int) - 1 - -1 - -1 - 1) / (- -1)).toNat = its.length := by
      have : ((its.length : Int) - 1 - -1 - -1 - 1) = its.length := by omega
      rw [this]; simp
    rw [hc, List.filterMap_map]
    apply List.ext_getElem?
    intro k
    have key : ∀ m, m ≤ its.length → (List.range m).filterMap ((fun x => its.toArray[x]?) ∘ fun (k : Nat) => ((its.length : Int) - 1 + -1 * (k : Int)).toNat) = (its.reverse).take m := by
      intro m
      induction m with
      | zero => intro _; rfl
      | succ m ih =>
        intro hm
        rw [List.range_succ, List.filterMap_append, ih (by omega), List.take_add_one]
        congr 1
        have e : ((its.length : Int) - 1 + -1 * (m : Int)).toNat = its.length - 1 - m := by omega
        simp only [List.filterMap_cons, List.filterMap_nil, Function.comp]
        rw [e, List.getElem?_reverse (by omega)]
        have hlt : its.length - 1 - m < its.length := by omega
        simp [hlt]
    rw [key _ (Nat.le_refl _), List.take_of_length_le (by simp)]
theorem pe_rev {e : Expr} {te : TE} {i : Nat} {p q p2 pos : Pos} (he : PE X e te) : PE X (.Subscript e (.Slice none none (some (.UnaryOp .USub (.Constant (.int 1) i p) q)) p2) pos) (tRev X.K te) := by
  intro pins s σ H Q I h
  refine Subscript_ (thn (he pins s σ H _ I h) fun v s1 ⟨x, H1, I1, r1, q1⟩ => ?_)
  obtain ⟨a, xs, rfl, ha, q1⟩ := q1
  cases r1
  refine wpAny_Slice ?_
  simp only [evalPart_none, evalPart_some]
  refine wpAny_pure (wpAny_pure (thn ((pe_un un_neg pe_int) pins s1 σ H1 (fun v H' => v = .int (-1) ∧ H' = H1) I1 ⟨1, rfl, rfl, rfl⟩) fun u s2 ⟨y, H2, I2, r2, hy, hH⟩ => ?_))
  subst hy hH
  obtain ⟨t, rfl⟩ := r2
  have I3 : Inv X pins σ H2 { s2 with heap := s2.heap.push { cls := .type "slice", data := .fields #[.none, .none, .int (-1) t] } } := I2.kept (t' := s2.toks) fun b ob q => Heap.get?_push_of_some _ q
  obtain ⟨its, r, pl, hz⟩ := I3.list ha
  show wpAny (model X.prog X.w) X.A (subscriptTail e _ (.ref a) (.ref s2.heap.objs.size)) (EP X pins σ Q) X.xe { s2 with heap := s2.heap.push { cls := .type "slice", data := .fields #[.none, .none, .int (-1) t] } }
  refine tail_any (ops := [.ref a, .ref s2.heap.objs.size]) pl.isList.typeIs slot_list_getitem.lookup (wpAny_getItem_list_slice pl.isList (Heap.IsSliceOf.new ..) .none .none (.int (-1) t) (by decide) ?_ (by rw [List.size_toArray, ← r.length]; exact hz)) (by with_unfolding_all rfl)
  rw [pick_rev]
  exact ⟨.ref (s2.heap.push { cls := .type "slice", data := .fields #[.none, .none, .int (-1) t] }).objs.size, _, I3.lnew (t' := s2.toks) r.reverse (by rw [List.length_reverse]; exact hz), rfl, q1 _ I3.fresh⟩
end
/-! ### within a block: the same rules, the fragment named -/
theorem ixL {X : Cx} {K : PySem.W.Frag} {a b : Expr} {ta tb : TE} {pos : Pos} (hK : X.K = K) (ha : PE X a ta) (hb : PE X b tb) (hs : PlainIx b := by exact fun _ _ => rfl) : PE X (.Subscript a b pos) (tOp (rIxL K) ta tb) := by
  subst hK; exact pe_ix ix_list ha hb hs
theorem ixT {X : Cx} {K : PySem.W.Frag} {a b : Expr} {ta tb : TE} {pos : Pos} (hK : X.K = K) (ha : PE X a ta) (hb : PE X b tb) (hs : PlainIx b := by exact fun _ _ => rfl) : PE X (.Subscript a b pos) (tOp (rIxT K) ta tb) := by
  subst hK; exact pe_ix ix_tup ha hb hs
theorem fldK {X : Cx} {K : PySem.W.Frag} {e : Expr} {f : Str} {ta : TE} {pos : Pos} (hK : X.K = K) (he : PE X e ta) (hb : attributeBase e f X.env (eval e X.env) = eval e X.env := by rfl) : PE X (.Attribute e f pos) (tFld K ta f) := by
  subst hK; exact pe_fld he hb
theorem lenK {X : Cx} {K : PySem.W.Frag} (hK : X.K = K) : CallR X (.builtin "len") (fun xs H Q => ∃ p ys, xs = [.ref p] ∧ (SqL K H p ys ∨ SqT K H p ys) ∧ Q (.int ys.length) H) := by
  subst hK; exact call_len_seq
/-! ### own classes -/
structure Cl (K : PySem.W.Frag) (mg : Str → Option Value) (x : Str) (C : Addr) : Prop where
  cl : Cls K C
  m : mg x = some (.ref C)
structure Md (K : PySem.W.Frag) (C : Addr) (m qual : Str) (st : Stmt) (f : Addr) (fd : FuncData) (ps : List Str) : Prop where
  F : Fun K m qual st f fd
  b : Binds K fd ps []
  me : Meth K C m f
  isf : PySem.W.isFn K (.ref f) = true
theorem mdmk {K : PySem.W.Frag} {C : Addr} {m qual : Str} {st : Stmt} {f : Addr} {ps : List Str} {oc : Value} {od an : Option Addr} {osl : Array (Option Value)} {kV doc pm cdv ct : Value} (l : K.lookup f = some ⟨oc, od, .func (PySem.W.fnOf m qual (defArgs st) (defBody st) (defScope st) .none kV doc pm an cdv ct), osl⟩)
    (c : PySem.W.codeIn K cdv qual = true) (k : PySem.W.keepIn K (.ref f) = true) (a : PySem.W.findIn K (.ref C) m = some (some (.ref f))) (i : PySem.W.isFn K (.ref f) = true)
    (h : ∀ (kV doc pm : Value) (an : Option Addr) (cdv ct : Value) (us : List Value), us.length = ps.length → bindArgs (PySem.W.fnOf m qual (defArgs st) (defBody st) (defScope st) .none kV doc pm an cdv ct) ⟨us, []⟩ = pure (ps.zip us)) :
    Md K C m qual st f (PySem.W.fnOf m qual (defArgs st) (defBody st) (defScope st) .none kV doc pm an cdv ct) ps := ⟨fun_mk l c k, (fun_mk l c k).binds h, ⟨a, i, k⟩, i⟩
section
variable {X : Cx}
theorem makeD {x m qual : Str} {C f : Addr} {fd : FuncData} {st : Stmt} {ps : List Str} {k : Nat} {sp : Sp} {e : Expr} {es : List Expr} {t : TA} {p pos : Pos} (c : Cl X.K X.mg x C) (M : Mk X.K C f) (D : Md X.K C m qual st f fd ps) (G : FnOk X.prog X.w X.K X.mg X.base CX0 k f fd ps sp) (hr : Room (k + 1) X.A) (ha : PA X (e :: es) t)
    (hg : Gl X x := by rfl) (hdb : (x == ("__debug__" : Str)) = false := by decide) (he : starEach (e :: es) X.env = (false, eval e X.env) :: starEach es X.env := by rfl) (hpl : (backTo pos (starEach es X.env)).any (·.1) = false := by rfl) :
    PE X (.Call (.Name x p) (e :: es) [] pos) (tMake C sp [] E0 t) := pe_make M G hr hg c.m D.b .nil pass0 ha hdb he hpl
end
end L2

set_option maxRecDepth 100000
namespace L2
open PySem PySem.Spec PyProof.Rows

/-! ### exceptions on their way -/
section
variable {M : Model} {A : Around} {E : Value → Shared → Prop} {s : Shared}
/-- how the heap lies behind a frame that an exception left: f the frames, e the exception, T its first entry now -/
structure Left (h h' : Heap) (f : List Addr) (e T : Addr) (oe : Obj) (old : Option Value) : Prop where
  new : h.objs.size ≤ T
  keep : ∀ b o, h.get? b = some o → b ≠ e → old ≠ some (.ref b) → b ∉ f → h'.get? b = some o
  slot : ∀ b o, h.get? b = some o → b ∈ f → ∃ sl, h'.get? b = some { o with slots := sl }
  there : ∀ b o, h.get? b = some o → ∃ o', h'.get? b = some o'
  exc : ∃ vs oT ts, h'.get? e = some { oe with data := .fields vs } ∧ 1 < vs.size ∧ vs[1]? = some (.ref T) ∧ T ≠ e ∧ h'.get? T = some oT ∧ oT.data = .fields ts ∧ ts[3]? = some .none

theorem mapF_eq {o : Obj} {vs : Array Value} (hd : o.data = .fields vs) (g : Array Value → Array Value) : Obj.mapFields g o = { o with data := .fields (g vs) } := by
  obtain ⟨a, b, c, d⟩ := o
  cases hd
  rfl

theorem entry_core {base : Heap} {env : Env} {outer : List Env} {L e : Addr} {oe : Obj} {vs : Array Value} {head : Value} {hn : Bool} {old : Option Value} {Q : Unit → Shared → Prop}
    (hfr : A.frames = some (env :: outer)) (hl : s.heap.FunFrames base (env :: outer)) (hf : env.frame = some L) (he : s.heap.get? e = some oe) (hd : oe.data = .fields vs) (hsz : 1 < vs.size)
    (h : ∀ h' T, Left s.heap h' ((env :: outer).filterMap (·.frame)) e T oe old → Q () { s with heap := h' }) :
    wpAny M A (do let a ← frameOf env; let pl ← entryPlaceOf L hn; let b ← EntryCells.newEntry head a .none (rawInt L) .none pl; setField (.ref e) 1 b)
      (fun _ s' => wpAny M A (setFlight (.ref e) none) Q E s') E s := by
  have nfr : ∀ b o ws, s.heap.get? b = some o → o.data = .fields ws → b ∉ (env :: outer).filterMap (·.frame) := fun b o ws q1 q2 hm => by
    obtain ⟨_, o', q3, q4⟩ := hl.mem hm
    rw [q1] at q3; cases q3; exact q4 ws q2
  refine wpAny_bind (wpAny_frameOf_fun hfr hl hf fun g1 q1 => ?_)
  refine wpAny_bind (wpAny_entryPlaceOf fun pl isp => ?_)
  unfold EntryCells.newEntry newFields
  refine wpAny_bind (wpAny_newObj_type ?_ (isp.sizeOk5 _ _ _ _ _))
  obtain ⟨qs, qk, qu⟩ := q1
  have e1 : g1.get? e = some oe := (qk e (nfr e oe vs he hd)).trans he
  generalize hto : ({ cls := .type "traceback", dict := none, data := .fields ([head, .ref L, .none, rawInt L, .none] ++ (if pl.isEmpty then List.replicate 6 Value.none else pl)).toArray } : Obj) = oT
  have dT : ∃ ts, oT.data = .fields ts ∧ 3 < ts.size := by
    refine ⟨([head, .ref L, .none, rawInt L, .none] ++ (if pl.isEmpty then List.replicate 6 Value.none else pl)).toArray, by rw [← hto], ?_⟩
    simp only [List.size_toArray, List.length_append, List.length_cons, List.length_nil]; omega
  have nf : oT.isFreed = false := by rw [← hto]; rfl
  obtain ⟨ts, dT, d3⟩ := dT
  have e2 := Heap.get?_push_of_some (h := g1) oT e1
  refine wpAny_setField e2 hd hsz ?_
  have ne : g1.objs.size ≠ e := Nat.ne_of_gt (Heap.lt_size e1)
  have d4 := Obj.data_mapFields hd (·.setIfInBounds 1 (Value.ref g1.objs.size))
  have e3 := Heap.get?_update_self (Obj.mapFields (·.setIfInBounds 1 (Value.ref g1.objs.size))) e2 (Obj.isFreed_of_fields d4)
  have t3 : ((g1.push oT).update e (Obj.mapFields (·.setIfInBounds 1 (Value.ref g1.objs.size)))).get? g1.objs.size = some oT := (Heap.get?_update_other _ _ (Ne.symm ne)).trans (Heap.get?_push_size g1 nf)
  unfold setFlight
  refine wpAny_bind (wpAny_field e3 d4 (x := .ref g1.objs.size) (by simp [hsz]) ?_)
  rw [if_pos (show (Value.ref g1.objs.size != Value.none) = true from by simp)]
  refine wpAny_setField t3 dT d3 (h _ g1.objs.size ?_)
  have keep : ∀ b o, b ≠ e → g1.get? b = some o → (((g1.push oT).update e (Obj.mapFields (·.setIfInBounds 1 (Value.ref g1.objs.size)))).update g1.objs.size (Obj.mapFields (·.setIfInBounds 3 ((none : Option Addr).elim Value.none fun f => rawInt f)))).get? b = some o := fun b o n1 n2 => by
    rw [Heap.get?_update_other _ _ (Nat.ne_of_gt (Heap.lt_size n2)), Heap.get?_update_other _ _ (Ne.symm n1)]
    exact Heap.get?_push_of_some _ n2
  have ee : (((g1.push oT).update e (Obj.mapFields (·.setIfInBounds 1 (Value.ref g1.objs.size)))).update g1.objs.size (Obj.mapFields (·.setIfInBounds 3 ((none : Option Addr).elim Value.none fun f => rawInt f)))).get? e = some { oe with data := .fields (vs.setIfInBounds 1 (Value.ref g1.objs.size)) } := by
    rw [Heap.get?_update_other _ _ ne, e3, mapF_eq hd]
  refine ⟨Nat.le_of_eq qs.symm, fun b o hb n1 n2 n3 => keep b o n1 ((qk b n3).trans hb), fun b o hb hm => ?_, fun b o hb => ?_, _, _, _, ee, by simpa using hsz, by simp [hsz], ne, Heap.get?_update_self _ t3 (Obj.isFreed_of_fields (Obj.data_mapFields dT _)), Obj.data_mapFields dT _, by simp [d3]⟩
  · obtain ⟨sl, hs⟩ := qu b o hb
    refine ⟨sl, keep b _ (fun z => ?_) hs⟩
    subst z
    rw [he] at hb; cases hb
    exact nfr b _ vs he hd hm
  · obtain ⟨sl, hs⟩ := qu b o hb
    by_cases z : b = e
    · subst z; exact ⟨_, ee⟩
    · exact ⟨_, keep b _ z hs⟩

/-- noteFrame, then setFlight none: at a def's end, at a try -/
theorem leave_core {base : Heap} {env : Env} {outer : List Env} {L e : Addr} {oe : Obj} {vs : Array Value} {Q : Unit → Shared → Prop}
    (hfr : A.frames = some (env :: outer)) (hl : s.heap.FunFrames base (env :: outer)) (hf : env.frame = some L) (he : s.heap.get? e = some oe) (hd : oe.data = .fields vs) (hsz : 1 < vs.size)
    (ht : vs[1]? = some .none ∨ ∃ T oT ts, vs[1]? = some (.ref T) ∧ T ≠ e ∧ s.heap.get? T = some oT ∧ oT.data = .fields ts ∧ ts[3]? = some .none)
    (h : ∀ h' T, Left s.heap h' ((env :: outer).filterMap (·.frame)) e T oe vs[1]? → Q () { s with heap := h' }) :
    wpAny M A (noteFrame (.ref e) env) (fun _ s' => wpAny M A (setFlight (.ref e) none) Q E s') E s := by
  unfold noteFrame
  simp only [hf]
  rcases ht with h1 | ⟨T, oT, ts, h1, hTe, hT, dT, h3⟩
  · refine wpAny_bind (wpAny_field he hd h1 ?_)
    rw [if_neg (by decide)]
    exact entry_core (old := vs[1]?) hfr hl hf he hd hsz h
  · refine wpAny_bind (wpAny_field he hd h1 ?_)
    rw [if_pos (show (Value.ref T != Value.none) = true from by simp)]
    refine wpAny_bind (wpAny_field hT dT h3 ?_)
    rw [if_neg (show ¬ ((Value.none == rawInt L) = true) from by simp [rawInt])]
    have h4 := (Array.getElem?_eq_some_iff.mp h3).1
    refine wpAny_bind (wpAny_setField hT dT h4 ?_)
    have other : ∀ b, b ≠ T → (s.heap.update T (Obj.mapFields (·.setIfInBounds 3 Value.none))).get? b = s.heap.get? b := fun b hb => Heap.get?_update_other _ _ (Ne.symm hb)
    have nT : ∀ b ∈ (env :: outer).filterMap (·.frame), b ≠ T := fun b hm z => by
      obtain ⟨_, o', q3, q4⟩ := hl.mem hm
      subst z
      rw [hT] at q3; cases q3; exact q4 ts dT
    have sT : (s.heap.update T (Obj.mapFields (·.setIfInBounds 3 Value.none))).get? T = some { oT with data := .fields (ts.setIfInBounds 3 .none) } := by
      rw [Heap.get?_update_self _ hT (Obj.isFreed_of_fields (Obj.data_mapFields dT _)), mapF_eq dT]
    have hl' : (s.heap.update T (Obj.mapFields (·.setIfInBounds 3 Value.none))).FunFrames base (env :: outer) := hl.of_keeps fun b o hb hnf => ⟨o, (other b fun z => by subst z; rw [hT] at hb; cases hb; exact hnf ts dT).trans hb, rfl⟩
    refine entry_core (s := { s with heap := s.heap.update T (Obj.mapFields (·.setIfInBounds 3 Value.none)) }) (old := vs[1]?) hfr hl' hf ((other e (Ne.symm hTe)).trans he) hd hsz fun h' T' q => h h' T' ?_
    obtain ⟨q1, q2, q3, q4, q5⟩ := q
    refine ⟨by rwa [show (s.heap.update T (Obj.mapFields (·.setIfInBounds 3 Value.none))).objs.size = s.heap.objs.size from Heap.size_update _ _ _] at q1, fun b o hb n1 n2 n3 => ?_, fun b o hb hm => q3 b o ((other b (nT b hm)).trans hb) hm, fun b o hb => ?_, q5⟩
    · exact q2 b o ((other b fun z => n2 (by rw [h1, z])).trans hb) n1 n2 n3
    · by_cases z : b = T
      · subst z; exact q4 _ _ sT
      · exact q4 b o ((other b z).trans hb)
end
end L2

set_option Elab.async false
set_option linter.all false
set_option maxRecDepth 100000
set_option maxHeartbeats 4000000
namespace L2
open PySem PySem.Spec PyProof.Rows Builtin Builtin.ObjectAttr

/-! ### an exception of an own class: its fields -/
def ownVE : List Value → Bool
  | .ref _ :: r => ownVE r
  | .type n :: r => Value.type n :: r == [.type "ValueError", .type "Exception", .type "BaseException", .type "object"]
  | _ => false
theorem ownVE_passes (self : Value) : ∀ {l : List Value}, ownVE l = true → refuseLoop self "__setattr__" l = pure () := by
  intro l
  induction l with
  | nil => intro e; cases e
  | cons c r ih =>
    intro e
    cases c with
    | ref a => rw [refuseLoop_ref]; exact ih e
    | type n => rw [show (Value.type n :: r) = [.type "ValueError", .type "Exception", .type "BaseException", .type "object"] from beq_iff_eq.mp e]; exact PySem.F.store_ValueError.passes self
    | _ => cases e
/-- what of the text an exception class must have -/
structure Exc (K : PySem.W.Frag) (C : Addr) : Prop where
  mro : (PySem.W.clsIn K C).any (fun cd => ownVE cd.mro) = true
  hd : PySem.W.hasDictIn K C = true
  kts : PySem.W.ktsIn K C "ValueError" = true
  sa : PySem.W.findIn K (.ref C) "__setattr__" = some (some (.builtin "object.__setattr__"))
  ga : PySem.W.findIn K (.ref C) "__getattribute__" = some (some (.builtin "BaseException.__getattribute__"))
  gt : PySem.W.findIn K (.ref C) "__getattr__" = some none
  be : PySem.W.mroIn K C (.type "BaseException") = some true
  ob : PySem.W.mroIn K C (.type "object") = some true
  ty : PySem.W.typeIn K (.ref C) = some (.type "type")

section
variable {prog : Program} {w : World} {A : Around} {E : Value → Shared → Prop} {s : Shared} {K : PySem.W.Frag} {x C : Addr} {name : Str} {v : Value}
theorem exc_osa {R : Result → Shared → Prop} {ox : Obj} {od : Option Obj} {tk : Tok} (X : K.In s.heap) (I : PySem.W.InstAt s.heap x ox C od) (c : Exc K C) (ht : PySem.W.findIn K (.ref C) name = some none)
    (h : wpAny (model prog w) A.in1 (storeInOwnDict (.ref x) (.ref C) (.str name tk) name v false)
      (fun fin s' => match fin with | .done f => R (.ok f) s' | .again c' => c'.quiet = true ∧ codeAny (model prog w) A c' R s') (fun e s' => R (.error e) s') s) :
    codeAny (model prog w) A (.call (.builtin "object.__setattr__") ⟨[.ref x, .str name tk, v], []⟩) R s := by
  have SF := PySem.F.store_object
  obtain ⟨cd, hc, ho⟩ := PySem.W.any_some c.mro
  have sub : PySem.W.Looks (model prog w) s.heap (isInstance (.ref x) (.type "object")) true := I.type.andThen (PySem.W.looks_mroIn X c.ob)
  refine codeAny_call_builtin SF.slot.plain SF.entry (@PySem.W.check_slot (model prog w) _ _ s "object.__setattr__" "object" "__setattr__" (.ref x) [.str name tk, v] [] _ SF.kind SF.split sub (SF.args (.ref x) (.str name tk) v) ?_)
  have hm : PySem.W.Looks (model prog w) s.heap (mroOf (.ref C)) cd.mro := (PySem.W.looks_clsIn X hc).andThen .now
  rw [PySem.W.osa_eq, refuse_eq]
  refine wpAny_bind (wpAny_bind (I.type.here (wpAny_bind (hm.here ?_))))
  rw [ownVE_passes _ ho]
  exact wpAny_pure (wpAny_bind (I.type.here (wpAny_bind ((PySem.W.looks_findIn X ht).here (wpAny_bind (wpAny_pure h))))))

/-- e.name = v, the first field: the dict is made -/
theorem exc_set0 {Q : Unit → Shared → Prop} {ox : Obj} {vs : Array Value} (X : K.In s.heap) (c : Exc K C) (hx : s.heap.get? x = some ox) (hcl : ox.cls = .ref C) (hda : ox.data = .fields vs) (hdi : ox.dict = none)
    (ht : PySem.W.findIn K (.ref C) name = some none)
    (h : ∀ h' tk', h'.get? x = some { ox with dict := some s.heap.objs.size } → h'.Ns1 s.heap.objs.size (fun y => if y = name then some v else none) → (∀ b o, b ≠ x → s.heap.get? b = some o → h'.get? b = some o) → Q () { s with heap := h', toks := tk' }) :
    wpAny (model prog w) A (setAttr (.ref x) name v) Q E s := by
  obtain ⟨oc, odi, oda, osl⟩ := ox
  dsimp only at hcl hda hdi
  subst hcl hda hdi
  have I : PySem.W.InstAt s.heap x ⟨.ref C, none, .fields vs, osl⟩ C none := ⟨hx, rfl, rfl, True.intro⟩
  refine PySem.W.set_plain X I c.sa (exc_osa (s := { s with toks := s.toks + 1 }) X I c ht ?_)
  obtain ⟨cd, hc, hd'⟩ := PySem.W.any_some c.hd
  refine wpAny_bind (wpAny_pure (wpAny_bind (wpAny_bind (wpAny_loadPart hx (wpAny_bind (PySem.W.Looks.here (s := { s with toks := s.toks + 1 }) (PySem.W.looks_clsIn X hc) ?_))))))
  rw [hd']
  have x1 : (s.heap.push { cls := .type "dict", data := .dict #[] }).get? x = some ⟨.ref C, none, .fields vs, osl⟩ := Heap.get?_push_of_some _ hx
  have ne : x ≠ s.heap.objs.size := Nat.ne_of_lt (Heap.lt_size hx)
  simp only [Bool.not_true, Bool.false_eq_true, if_false]
  rw [if_neg (by simp [typeHasDict])]
  refine wpAny_bind (wpAny_alloc ?_)
  refine wpAny_bind (wpAny_update x1 (wpAny_pure ?_))
  have gd : ((s.heap.push { cls := .type "dict", data := .dict #[] }).update x fun o => { o with dict := some s.heap.objs.size }).get? s.heap.objs.size = some { cls := .type "dict", data := .dict #[] } :=
    (Heap.get?_update_ne _ _ _ _ (Ne.symm ne)).trans (Heap.get?_push_at rfl rfl)
  have nd : ((s.heap.push { cls := .type "dict", data := .dict #[] }).update x fun o => { o with dict := some s.heap.objs.size }).Ns s.heap.objs.size (fun _ => none) :=
    ⟨_, #[], _, gd, rfl, fun e he => absurd he (by simp), fun _ => rfl⟩
  show wpAny _ _ (storeInDict s.heap.objs.size (.str name s.toks) name v) _ _ _
  unfold storeInDict newKeyGuard
  refine wpAny_bind (wpAny_pure (wpAny_bind (wpAny_nsSet1 (Heap.Ns1.of_empty nd) fun h' n2 s2 => ?_)))
  obtain ⟨oD, esD, epD, oD1, oD2, oD3⟩ := n2.count (Within.cons name v Within.nil)
  refine wpAny_bind (wpAny_lookBehind oD1 (by rw [oD2]; exact pastItsLine_dict (Nat.le_trans oD3 (by rw [List.length_cons, List.length_nil, sizeLine_eq]; omega))) ?_)
  refine wpAny_pure (h h' _ ?_ n2 fun b o hb e => ?_)
  · exact (s2.2 x ne).trans (Heap.get?_update_self _ x1 rfl)
  · exact (s2.2 b (Nat.ne_of_lt (Heap.lt_size e))).trans ((Heap.get?_update_ne _ _ _ _ hb).trans (Heap.get?_push_of_some _ e))

/-- e.name = v, a further field -/
theorem exc_set1 {Q : Unit → Shared → Prop} {ox : Obj} {vs : Array Value} {dx : Addr} {mA : Str → Option Value} {ns : List Str} (X : K.In s.heap) (c : Exc K C) (hx : s.heap.get? x = some ox) (hcl : ox.cls = .ref C) (hda : ox.data = .fields vs) (hdi : ox.dict = some dx)
    (hn : s.heap.Ns1 dx mA) (hw : Within mA ns) (hz : ns.length ≤ 1000) (ht : PySem.W.findIn K (.ref C) name = some none)
    (h : ∀ h' tk', h'.Ns1 dx (fun y => if y = name then some v else mA y) → (∀ b o, b ≠ dx → s.heap.get? b = some o → h'.get? b = some o) → Q () { s with heap := h', toks := tk' }) :
    wpAny (model prog w) A (setAttr (.ref x) name v) Q E s := by
  obtain ⟨oc, odi, oda, osl⟩ := ox
  dsimp only at hcl hda hdi
  subst hcl hda hdi
  obtain ⟨od, hod, _⟩ := lookIn_ns hn
  have I : PySem.W.InstAt s.heap x ⟨.ref C, some dx, .fields vs, osl⟩ C (some od) := ⟨hx, rfl, rfl, hod⟩
  refine PySem.W.set_plain X I c.sa (exc_osa (s := { s with toks := s.toks + 1 }) X I c ht ?_)
  obtain ⟨cd, hc, hd'⟩ := PySem.W.any_some c.hd
  refine wpAny_bind (wpAny_pure (wpAny_bind (wpAny_bind (wpAny_loadPart hx (wpAny_bind (PySem.W.Looks.here (s := { s with toks := s.toks + 1 }) (PySem.W.looks_clsIn X hc) ?_))))))
  rw [hd']
  refine wpAny_pure (a := some dx) (wpAny_bind (wpAny_pure (wpAny_bind ?_)))
  refine wpAny_nsSet1 (s := { s with toks := s.toks + 1 }) hn fun h' n2 s2 => ?_
  obtain ⟨oD, esD, epD, oD1, oD2, oD3⟩ := n2.count (Within.cons name v hw)
  refine wpAny_bind (wpAny_lookBehind oD1 (by rw [oD2]; exact pastItsLine_dict (Nat.le_trans oD3 (by rw [List.length_cons, sizeLine_eq]; omega))) ?_)
  exact wpAny_pure (h h' _ n2 fun b o hb e => (s2.2 b hb).trans e)

/-- e.name -/
theorem exc_get {Q : Value → Shared → Prop} {ox od : Obj} {expr : Bool} (X : K.In s.heap) (c : Exc K C) (I : PySem.W.InstAt s.heap x ox C (some od)) (hf : PySem.W.findObj K C (some od) name = some (.value v))
    (hh : PySem.W.handedIn v = true) (h : ∀ tk', Q v { s with toks := tk' }) : wpAny (model prog w) A (getAttr (.ref x) name expr) Q E s := by
  have FB := PySem.F.excAttr_ValueError
  obtain ⟨h0, g, d, t, os⟩ := s
  have L0 := I.type (M := model prog w)
  have L1 := PySem.W.looks_findIn (M := model prog w) X c.ga
  have L2 := PySem.W.looks_findIn (M := model prog w) X c.gt
  have L3 := PySem.W.looks_find (M := model prog w) X I hf
  have sub : PySem.W.Looks (model prog w) h0 (isInstance (.ref x) (.type "BaseException")) true := L0.andThen (PySem.W.looks_mroIn X c.be)
  have k1 : builtinKind "BaseException.__getattribute__" = some .slot := by decide +kernel
  have k2 : splitId "BaseException.__getattribute__" = some ("BaseException", "__getattribute__") := by decide +kernel
  unfold getAttr getAttrBy
  refine wpAny_bind (wpAny_mkText (wpAny_holding (wpAny_bind (L0.at (wpAny_bind (L1.at ?_))))))
  dsimp only
  have ne : (Value.builtin "BaseException.__getattribute__" == Value.builtin "object.__getattribute__") = false := by decide +kernel
  rw [ne, Bool.and_false, if_neg Bool.false_ne_true]
  unfold getAttrByItsOwn hookBefore
  refine wpAny_bind ?_
  rw [if_pos (by rfl)]
  refine L2.at ?_
  unfold callGetattribute boundAndCalled
  rw [if_neg (by cases expr <;> decide)]
  refine wpAny_bind (wpAny_attempt (wpAny_holding ?_))
  rw [FB.ga.bind (.ref x)]
  refine wpAny_bind (wpAny_pure (wpAny_call ?_))
  refine codeAny_call_builtin FB.ga.plain PySem.F.entry_bexc_ga (@PySem.W.check_slot (model prog w) _ _ _ "BaseException.__getattribute__" "BaseException" "__getattribute__" (.ref x) [.str name t] [] _ k1 k2 sub (PySem.F.args_bexc_ga (.ref x) (.str name t)) ?_)
  unfold Builtin.«object.__getattribute__»
  refine wpAny_bind (wpAny_pure (wpAny_bind (wpAny_pure (wpAny_bind (L0.at (wpAny_bind (L3.at ?_)))))))
  refine wpAny_pure ?_
  show wpAny _ _ (handedOut v) _ _ _
  rw [PySem.W.handedOut_of hh]; exact wpAny_pure (h _)
end
end L2

set_option Elab.async false
set_option linter.all false
set_option maxRecDepth 100000
set_option maxHeartbeats 4000000
namespace L2
open PySem PySem.Spec PyProof.Rows

/-! ### making an exception of an own class that has its own __init__ -/
abbrev mroVE : List Value := [.type "ValueError", .type "Exception", .type "BaseException", .type "object"]
def excMk (K : PySem.W.Frag) (C : Addr) : Bool := match K.lookup C with
  | some ⟨.type "type", _, .cls cd, sl⟩ => (match cd.mro, sl.toList with
    | .ref C' :: bm, [_, _, _, _, some (.builtin n), _] => C' == C && n == "ValueError.__new__" && !cd.hasDel && PySem.W.tailIn K mroVE bm
    | _, _ => false)
  | _ => false
theorem excMk_of {K : PySem.W.Frag} {h : Heap} {C : Addr} (X : K.In h) (q : excMk K C = true) : ∃ nm qn N bs bm hdct sn sub ab col dd k0 k1 k2 k3 k5,
    h.get? C = some (excClassObj nm qn C N bs bm hdct sn sub ab col dd k0 k1 k2 k3 k5 "ValueError.__new__") ∧ OwnTail h mroVE bm := by
  unfold excMk at q
  split at q
  · rename_i dd cd sl ho
    split at q
    · rename_i C' bm k0 k1 k2 k3 n k5 hm hs
      simp only [Bool.and_eq_true, beq_iff_eq, Bool.not_eq_true'] at q
      obtain ⟨⟨⟨rfl, rfl⟩, hdel⟩, ht⟩ := q
      obtain ⟨nm, bs, mro, ns, qn, hd, sn, sub, ab, col, del⟩ := cd
      dsimp only at hm hdel
      subst hm hdel
      obtain ⟨l⟩ := sl
      dsimp only at hs
      subst hs
      exact ⟨nm, qn, ns, bs, bm, hd, sn, sub, ab, col, dd, k0, k1, k2, k3, k5, X _ _ ho, PySem.W.tail_of_in X ht⟩
    · cases q
  · cases q

abbrev excObj (C t : Addr) : Obj := { cls := .ref C, data := .fields #[.ref t, .none, .none, .none, .bool false, .none] }
section
variable {prog : Program} {w : World} {A : Around} {K : PySem.W.Frag} {C fI : Addr} {R : Result → Shared → Prop} {h : Heap} {g : Array GenState} {d : Drawn} {t : Nat} {os : OsState}
theorem exc_tcall {rest : List Value} {Q : Fin → Shared → Prop} {E : Value → Shared → Prop} (X : K.In h) (m : excMk K C = true) (hi : PySem.W.findIn K (.ref C) "__init__" = some (some (.ref fI))) (hf : PySem.W.typeIn K (.ref fI) = some (.type "function")) (hrest : rest.length ≤ sizeLine)
    (hq : wpAny (model prog w) A (call (.ref fI) (.ref (h.objs.size + 1) :: rest)) (fun r s' => r = .none ∧ Q (.done (.ret (.ref (h.objs.size + 1)))) s') E
      ⟨(h.push { cls := .type "tuple", data := .seq rest.toArray }).push { cls := .ref C, data := .fields #[.ref h.objs.size, .none, .none, .none, .bool false, .none] }, g, d, t, os⟩) :
    wpAny (model prog w) A (Builtin.«type.__call__» ⟨.ref C :: rest, []⟩) Q E ⟨h, g, d, t, os⟩ := by
  have F := PySem.F.excBase_ValueError
  obtain ⟨nm, qn, N, bs, bm, hdct, sn, sub, ab, col, dd, k0, k1, k2, k3, k5, hC, T⟩ := excMk_of X m
  repeat (first | with_reducible refine wpAny_loadPart_at hC ?_ | with_reducible refine wpAny_madeBy_exc hC ?_ | wp_step)
  refine codeAny_call_builtin_code (Code.quiet_builtin _ F.quiet) (wpAny_check_new_subT F T hC ?_)
  refine codeAny_exc_new_subT F T hC ?_ hrest
  show wpAny _ _ _ _ _ _
  have kk : ∀ b o, h.get? b = some o → ((h.push { cls := .type "tuple", data := .seq rest.toArray }).push { cls := .ref C, data := .fields #[.ref h.objs.size, .none, .none, .none, .bool false, .none] }).get? b = some o := fun b o e => Heap.get?_push_of_some _ (Heap.get?_push_of_some _ e)
  have c1 := kk _ _ hC
  have hg : ((h.push { cls := .type "tuple", data := .seq rest.toArray }).push { cls := .ref C, data := .fields #[.ref h.objs.size, .none, .none, .none, .bool false, .none] }).get? (h.objs.size + 1) = some { cls := .ref C, data := .fields #[.ref h.objs.size, .none, .none, .none, .bool false, .none] } := by heap_get
  have cc : (Value.ref C :: bm).contains (.ref C) = true := by simp
  unfold isInstance
  repeat (first | with_reducible refine wpAny_loadPart_at hg ?_ | (with_reducible refine wpAny_isSubtype_exc c1 ?_; rw [cc]) | wp_step)
  show wpAny _ _ (typeLookup (.ref C) _) _ _ _
  have i1 := (PySem.W.looks_findIn (M := model prog w) X hi).keeps kk
  have b1 := (PySem.W.bind_fn (M := model prog w) X (.ref (h.objs.size + 1)) hf).keeps kk
  refine i1.at (wpAny_holding (wpAny_bind (b1.at (wpAny_bind (wpAny_mono hq (fun r s' z => ?_) fun _ _ z => z)))))
  obtain ⟨rfl, z⟩ := z
  exact wpAny_pure (wpAny_pure z)
theorem exc_make {rest : List Value} {Q : Value → Shared → Prop} {E : Value → Shared → Prop} (X : K.In h) (m : excMk K C = true) (hi : PySem.W.findIn K (.ref C) "__init__" = some (some (.ref fI))) (hf : PySem.W.typeIn K (.ref fI) = some (.type "function")) (hrest : rest.length ≤ sizeLine)
    (hq : wpAny (model prog w) (A.under (.builtin "type.__call__" ⟨.ref C :: rest, []⟩)) (call (.ref fI) (.ref (h.objs.size + 1) :: rest)) (fun r s' => r = .none ∧ Q (.ref (h.objs.size + 1)) s') E
      ⟨(h.push { cls := .type "tuple", data := .seq rest.toArray }).push { cls := .ref C, data := .fields #[.ref h.objs.size, .none, .none, .none, .bool false, .none] }, g, d, t, os⟩) :
    wpAny (model prog w) A (call (.ref C) rest) Q E ⟨h, g, d, t, os⟩ := by
  obtain ⟨nm, qn, N, bs, bm, hdct, sn, sub, ab, col, dd, k0, k1, k2, k3, k5, hC, T⟩ := excMk_of X m
  have f1 := tc_lookup
  have f2 := tc_bind (.ref C)
  have hT : (⟨h, g, d, t, os⟩ : Shared).TypeIs (.ref C) "type" := ⟨_, hC, rfl⟩
  refine wpAny_call (codeAny_of_tree ?_)
  show wpAny _ _ (callAny (.ref C) _) _ _ _
  repeat (any_goals (first | assumption | with_reducible refine wpAny_loadPart_at hC ?_ | wp_step))
  refine ⟨rfl, ?_⟩
  exact codeAny_call_builtin_at (Code.quiet_builtin _ (by decide +kernel)) entry_typeCall (wpAny_check_type_call_sub hC (exc_tcall X m hi hf hrest hq))
end

section
variable {M : Model} {A : Around} {E : Value → Shared → Prop} {s : Shared} {env : Env}
/-- raise of a made exception -/
theorem raise_stmt {K : PySem.W.Frag} {x : Sem Value} {Q : Flow → Shared → Prop} (hh : A.handled = none)
    (h : wpAny M A x (fun v s₁ => ∃ e oe vs C, v = .ref e ∧ K.In s₁.heap ∧ Exc K C ∧ s₁.heap.get? e = some oe ∧ oe.cls = .ref C ∧ oe.data = .fields vs ∧ vs[1]? = some .none ∧ E (.ref e) s₁) E s) :
    wpAny M A (raiseStmt env (some x) none) Q E s := by
  unfold raiseStmt
  refine wpAny_bind (wpAny_mono h (fun v s₁ q => ?_) fun _ _ x => x)
  obtain ⟨e, oe, vs, C, rfl, X, c, he, hcl, hda, h1, hE⟩ := q
  obtain ⟨oc, odi, oda, osl⟩ := oe
  dsimp only at hcl hda
  subst hcl hda
  obtain ⟨nm, qn, N, bs, bm, hdct, sn, sub, ab, col, dd, k0, k1, k2, k3, k5, newId, hC, hb, _⟩ := PySem.W.kts_cls X c.kts
  obtain ⟨hp, g, d, tk, os⟩ := s₁
  have hcB : (Value.ref C :: bm).contains (.type "BaseException") = true := by rw [List.contains_cons, hb, Bool.or_true]
  repeat (first | with_reducible refine wpAny_loadPart_at he ?_ | with_reducible refine wpAny_loadPart_at hC ?_ | (with_reducible refine wpAny_isSubtype_exc hC ?_; rw [hcB]) | with_reducible refine wpAny_field he rfl h1 ?_ | wp_step)
  exact wpAny_raiseNew_none hh hE
/-- an except clause's class, an own one -/
theorem exc_match {K : PySem.W.Frag} {e C D : Addr} {oe : Obj} {b : Bool} {Q : Bool → Shared → Prop} (X : K.In s.heap) (d : Exc K D) (he : s.heap.get? e = some oe) (hcl : oe.cls = .ref C) (hm : PySem.W.mroIn K C (.ref D) = some b) (h : Q b s) :
    wpAny M A (excMatches (.ref e) (.ref D)) Q E s := by
  obtain ⟨nm, qn, N, bs, bm, hdct, sn, sub, ab, col, dd, k0, k1, k2, k3, k5, newId, hD, hb, _⟩ := PySem.W.kts_cls X d.kts
  have L := PySem.W.looks_mroIn (M := M) X hm
  obtain ⟨hp, g, dr, tk, os⟩ := s
  have hcB : (Value.ref D :: bm).contains (.type "BaseException") = true := by rw [List.contains_cons, hb, Bool.or_true]
  have f := tc_notTuple
  unfold excMatches
  repeat (first | (with_reducible refine wpAny_loadPart_at he ?_; rw [hcl]) | with_reducible refine wpAny_loadPart_at hD ?_ | (with_reducible refine wpAny_isSubtype_exc hD ?_; rw [hcB]) | with_reducible refine L.at ?_ | wp_step)
  cases b <;> (wp_walk; exact h)
end
end L2

set_option Elab.async false
set_option linter.all false
set_option maxRecDepth 100000
set_option maxHeartbeats 4000000
namespace L2
open PySem PySem.Spec PyProof.Rows

/-! ### exceptions in the layer: the object and its dict are tracked -/
/-- fr: just made, without a traceback yet -/
def excIs (e C : Addr) (od : Option Addr) (fr : Bool) (h : Heap) : Prop := ∃ oe vs, h.get? e = some oe ∧ oe.cls = .ref C ∧ oe.dict = od ∧ oe.data = .fields vs ∧ 1 < vs.size ∧ (fr = true → vs[1]? = some .none)
abbrev ExcO (e C : Addr) (od : Option Addr) (fr : Bool) : HO := .ext (excIs e C od fr)
def xdIs (d : Addr) (fs : List (Str × V)) (h : Heap) : Prop := ∃ mA, h.Ns1 d mA ∧ (∀ f, RelO (fs.lookup f) (mA f)) ∧ PySem.Within mA (fs.map (·.1)) ∧ fs.length ≤ 1000
abbrev XD (d : Addr) (fs : List (Str × V)) : HO := .ext (xdIs d fs)
section
variable {P : Program} {w : World} {H : Hp} {h : Heap}
theorem exc_ok {e C : Addr} {od : Option Addr} {fr : Bool} (q : excIs e C od fr h) : ObjOk P w H h e (ExcO e C od fr) :=
  ⟨q, let ⟨oe, _, a, _⟩ := q; ⟨oe, a⟩, fun h1 h2 ⟨oe, vs, a, b⟩ k => ⟨oe, vs, k _ a, b⟩⟩
theorem xd_ok {d : Addr} {fs : List (Str × V)} (q : xdIs d fs h) : ObjOk P w H h d (XD d fs) :=
  ⟨q, let ⟨_, ⟨o, _, _, a, _⟩, _⟩ := q; ⟨o, a⟩, fun h1 h2 ⟨mA, ⟨o, es, ep, a, r⟩, b⟩ k => ⟨mA, ⟨o, es, ep, k _ a, r⟩, b⟩⟩
theorem exc_at {e C : Addr} {od : Option Addr} {fr : Bool} (ok : HOk P w H h) (q : H e = some (ExcO e C od fr)) : excIs e C od fr h := (ok e _ q).1
theorem xd_at {d : Addr} {fs : List (Str × V)} (ok : HOk P w H h) (q : H d = some (XD d fs)) : xdIs d fs h := (ok d _ q).1
end

section
variable {X : Cx} {pins : List (Addr × Obj)} {σ : St} {H : Hp} {s : Shared} {a C dx : Addr} {fs : List (Str × V)} {f : Str} {v : V} {A : Around} {E : Value → Shared → Prop}
theorem eset0_ok {y : V} {u : Value} {Q : Unit → Shared → Prop} (I : Inv X pins σ H s) (e : H a = some (ExcO a C none true)) (c : Exc X.K C) (n : NoAttr X.K C f) (ry : RelV y u)
    (h : ∀ dx s', H dx = none → dx ≠ a → Inv X pins σ (upd (upd H dx (XD dx [(f, y)])) a (ExcO a C (some dx) true)) s' → Q () s') : wpAny (model X.prog X.w) A (setAttr (.ref a) f u) Q E s := by
  obtain ⟨oe, vs, h1, h2, h3, h4, h5, h6⟩ := exc_at I.hok e
  refine exc_set0 I.kIn c h1 h2 h4 h3 n fun h' tk' q1 q2 q3 => ?_
  have na : a ≠ s.heap.objs.size := Nat.ne_of_lt (Heap.lt_size h1)
  have nz : H s.heap.objs.size = none := I.hok.fresh (Nat.le_refl _)
  have lo : ∀ b o, s.heap.get? b = some o → b ≠ s.heap.objs.size := fun b o z => Nat.ne_of_lt (Heap.lt_size z)
  refine h s.heap.objs.size _ nz (Ne.symm na) (I.un (t' := tk') ⟨fun b o z n1 _ _ => q3 b o (fun z' => ?_) z, fun b o z n1 _ _ => ⟨o.slots, q3 b o (fun z' => ?_) z⟩, fun b o z n1 _ => ?_, fun b o z _ => ?_, fun b xs z => ?_, fun b o' xs z => ?_, fun b ps z => ?_⟩ fun b u' z => ?_)
  · rw [z', e] at n1; cases n1
  · rw [z', e] at n1; cases n1
  · rw [upd_ne (fun z' => by rw [z', e] at n1; cases n1), upd_ne (lo b o z)]; exact n1
  · by_cases z' : b = a
    · rw [z']; exact ⟨_, q1⟩
    · exact ⟨o, q3 b o z' z⟩
  · rw [upd_ne (fun z' => by rw [z', e] at z; cases z), upd_ne (ne_of_none z nz)]; exact z
  · rw [upd_ne (fun z' => by rw [z', e] at z; cases z), upd_ne (ne_of_none z nz)]; exact z
  · exact ⟨#[], by rw [upd_ne (fun z' => by rw [z', e] at z; cases z), upd_ne (ne_of_none z nz)]; simpa using z⟩
  · by_cases z1 : b = a
    · subst z1
      rw [upd_same] at z
      cases z
      exact exc_ok ⟨_, vs, q1, h2, rfl, h4, h5, h6⟩
    · rw [upd_ne z1] at z
      by_cases z2 : b = s.heap.objs.size
      · subst z2
        rw [upd_same] at z
        cases z
        refine xd_ok ⟨_, q2, fun g => ?_, fun g hg => ?_, by simp⟩
        · show RelO (([(f, y)] : List (Str × V)).lookup g) (if g = f then some u else none)
          by_cases gf : g = f
          · subst gf; rw [if_pos rfl]; simp only [List.lookup, beq_self_eq_true]; exact ry
          · have : (g == f) = false := beq_eq_false_iff_ne.mpr gf
            simp [List.lookup, this, gf, RelO]
        · by_cases gf : g = f
          · simp [gf]
          · exact absurd (by show (if g = f then some u else none) = none; rw [if_neg gf]) hg
      · rw [upd_ne z2] at z
        refine (I.hok b u' z).stay (fun c' v' hc' r => q3 c' v' ?_ r) (fun c' r => ?_) fun c' xs r => ?_
        · rcases hc' with rfl | hc'
          · exact z1
          · intro z'; rw [z', e] at hc'; cases hc'
        · rw [upd_ne (fun z' => by rw [z', e] at r; cases r), upd_ne (ne_of_none r nz)]; exact r
        · rw [upd_ne (fun z' => by rw [z', e] at r; cases r), upd_ne (ne_of_none r nz)]; exact r
theorem eset1_ok {y : V} {u : Value} {Q : Unit → Shared → Prop} (I : Inv X pins σ H s) (e : H a = some (ExcO a C (some dx) true)) (ed : H dx = some (XD dx fs)) (hl : fs.length < 1000) (c : Exc X.K C) (n : NoAttr X.K C f) (ry : RelV y u)
    (h : ∀ s', Inv X pins σ (upd H dx (XD dx (putF f y fs))) s' → Q () s') : wpAny (model X.prog X.w) A (setAttr (.ref a) f u) Q E s := by
  obtain ⟨oe, vs, h1, h2, h3, h4, h5, h6⟩ := exc_at I.hok e
  obtain ⟨mA, n1, r, wi, _⟩ := xd_at I.hok ed
  refine exc_set1 I.kIn c h1 h2 h4 h3 n1 wi (by rw [List.length_map]; omega) n fun h' tk' q1 q2 => h _ ?_
  refine I.write (x := dx) (e := dx) (t' := tk') (by rw [ed]; exact True.intro) (.inl rfl) q2 (let ⟨o, _, _, z, _⟩ := q1; ⟨o, z⟩) (xd_ok ⟨_, q1, fun g => ?_, fun g hg => ?_, ?_⟩)
  · show RelO ((putF f y fs).lookup g) (if g = f then some u else mA g)
    rw [lookup_putF]
    by_cases q : g = f
    · rw [if_pos q, if_pos q]; exact ry
    · rw [if_neg q, if_neg q]; exact r g
  · by_cases q : g = f
    · rw [q]; exact (keys_putF f y fs).1
    · refine (keys_putF f y fs).2 g (wi g fun z => hg ?_)
      show (if g = f then some u else mA g) = none
      rw [if_neg q]; exact z
  · have := length_putF f y fs; omega
theorem eget_ok {b fr : Bool} {Q : Value → Shared → Prop} (I : Inv X pins σ H s) (e : H a = some (ExcO a C (some dx) fr)) (ed : H dx = some (XD dx fs)) (c : Exc X.K C) (n : NoAttr X.K C f) (l : fs.lookup f = some v)
    (h : ∀ u s', Inv X pins σ H s' → RelV v u → Q u s') : wpAny (model X.prog X.w) A (getAttr (.ref a) f b) Q E s := by
  obtain ⟨oe, vs, h1, h2, h3, h4, _⟩ := exc_at I.hok e
  obtain ⟨mA, n1, r, wi, _⟩ := xd_at I.hok ed
  obtain ⟨u, hu, ru⟩ := RelO.some_of (v := v) (o := mA f) (by rw [← l]; exact r f)
  obtain ⟨od, ho, hlk⟩ := lookIn_ns n1
  obtain ⟨oc, odi, oda, osl⟩ := oe
  dsimp only at h2 h3 h4
  subst h2 h3 h4
  have J : PySem.W.InstAt s.heap a ⟨.ref C, some dx, .fields vs, osl⟩ C (some od) := ⟨h1, rfl, rfl, ho⟩
  exact exc_get I.kIn c J (PySem.W.findObj_own c.hd n rfl (by rw [hlk, hu])) (handed_of ru) fun tk => h u _ (I.tok tk) ru
/-- isinstance that is true -/
theorem eisi_ok {fr : Bool} {od : Option Addr} {d : Value} {Q : Value → Shared → Prop} (I : Inv X pins σ H s) (e : H a = some (ExcO a C od fr)) (hk : PySem.W.kitOne X.K (.ref C) d = some true) (h : ∀ tk, Q (.bool true) { s with toks := tk }) :
    wpAny (model X.prog X.w) A (call (.builtin "isinstance") [.ref a, d]) Q E s := by
  obtain ⟨oe, vs, h1, h2, _⟩ := exc_at I.hok e
  refine PySem.call_isinstance (S := fun _ R s' => (X.K.In s'.heap ∧ ∃ oe, s'.heap.get? a = some oe ∧ oe.cls = .ref C) ∧ ∀ tk, R (.ok (.ret (.bool true))) { s' with toks := tk })
    (fun prog w A R s' hs => PySem.isinstance_outer ?_ (fun z => nomatch z)) ⟨⟨I.kIn, oe, h1, h2⟩, h⟩
  obtain ⟨h0, g, dr, tt, os⟩ := s'
  obtain ⟨⟨KX, oe', q1, q2⟩, hq⟩ := hs
  have LT : PySem.W.Looks (model prog w) h0 (typeOf (.ref a)) (.ref C) := q2 ▸ (PySem.W.Looks.ld q1).andThen .now
  unfold PySem.W.kitOne at hk
  unfold Builtin.«isinstance.nested»
  refine wpAny_bind (LT.at ?_)
  by_cases q : (Value.ref C == d) = true
  · rw [if_pos q]
    first
      | exact wpAny_bind (wpAny_rule (wpAny_pure (hq tt)))
      | exact wpAny_bind (wpAny_rule (hq tt))
  · rw [if_neg q] at hk
    rw [if_neg q]
    obtain ⟨hty, his, hsub⟩ := PySem.W.kit_cls (M := model prog w) KX hk
    have LI : PySem.W.Looks (model prog w) h0 (isInstance (.ref a) d) true := LT.andThen hsub
    refine wpAny_bind (hty.at ?_)
    rw [if_pos (by decide)]
    k_delta "plainIsInstance"
    refine wpAny_bind (wpAny_bind (his.at ?_))
    simp only [Bool.not_true, Bool.false_eq_true, if_false]
    refine wpAny_bind (LI.at ?_)
    first
      | exact wpAny_pure (wpAny_pure (hq tt))
      | (simp only [if_true]; first | exact wpAny_pure (wpAny_pure (hq tt)) | exact wpAny_pure (hq tt) | exact wpAny_bind (wpAny_pure (wpAny_pure (hq tt))))
end
end L2

set_option Elab.async false
set_option linter.all false
set_option maxRecDepth 100000
set_option maxHeartbeats 4000000
namespace L2
open PySem PySem.Spec PyProof.Rows

/-! ### an exception on its way through the frames -/
/-- all of it is newer than n -/
structure Fly (n : Nat) (H : Hp) (h : Heap) (a : Addr) : Prop where
  ge : n ≤ a
  tr : ∃ C od, H a = some (ExcO a C od false)
  ob : ∃ oe vs, h.get? a = some oe ∧ oe.data = .fields vs ∧ 1 < vs.size ∧ (vs[1]? = some .none ∨ ∃ T oT ts, vs[1]? = some (.ref T) ∧ n ≤ T ∧ H T = none ∧ T ≠ a ∧ h.get? T = some oT ∧ oT.data = .fields ts ∧ ts[3]? = some .none)
theorem Fly.mono {m n : Nat} {H : Hp} {h : Heap} {a : Addr} (F : Fly n H h a) (l : m ≤ n) : Fly m H h a := by
  obtain ⟨oe, vs, h1, h2, h3, h4⟩ := F.ob
  refine ⟨Nat.le_trans l F.ge, F.tr, oe, vs, h1, h2, h3, ?_⟩
  rcases h4 with z | ⟨T, oT, ts, z1, z2, z⟩
  · exact .inl z
  · exact .inr ⟨T, oT, ts, z1, Nat.le_trans l z2, z⟩
/-- how an exception lies behind a call -/
def CX1 (P : Program) (w : World) : CXT := fun outer H s E e s' => ∃ a H', e = .ref a ∧ s'.os = s.os ∧ AllBare s'.gens ∧ Un (frs outer) [] H H' s.heap s'.heap ∧ HOk P w H' s'.heap ∧ Fly s.heap.objs.size H' s'.heap a ∧ E e none H'
/-- older than n: the frame, its cells, the pins -/
structure Old (X : Cx) (pins : List (Addr × Obj)) (n : Nat) : Prop where
  st : X.s₀.heap.objs.size ≤ n
  loc : X.env.locals < n
  cell : ∀ x c, X.env.cells.lookup x = some c → c < n
  pin : ∀ p ∈ X.pn ++ pins, p.1 < n
theorem Inv.old {X : Cx} {pins : List (Addr × Obj)} {σ : St} {H : Hp} {s : Shared} (I : Inv X pins σ H s) : Old X pins s.heap.objs.size :=
  ⟨I.sz, I.lt, fun x c e => let ⟨_, _, z, _⟩ := I.cell x c e; Heap.lt_size z, fun p hp => Heap.lt_size (I.pin p hp).1⟩

def oldOf : Option Value → List Addr
  | some (.ref b) => [b]
  | _ => []
section
variable {X : Cx} {pins : List (Addr × Obj)} {σ : St} {H : Hp} {s : Shared} {a T : Addr} {n : Nat} {h' : Heap} {oe : Obj} {vs : Array Value}
theorem Inv.left (I : Inv X pins σ H s) (F : Fly n H s.heap a) (O : Old X pins n) (he : s.heap.get? a = some oe) (hd : oe.data = .fields vs) (L : Left s.heap h' (frs X.stack) a T oe vs[1]?) :
    Inv X pins σ H { s with heap := h' } ∧ Fly n H h' a := by
  obtain ⟨C, od, tr⟩ := F.tr
  obtain ⟨oe', vs', q1, q2, q3, q4⟩ := F.ob
  rw [he] at q1; cases q1
  rw [hd] at q2; cases q2
  obtain ⟨ws, oT, ts, e1, e2, e3, e4, e5, e6, e7⟩ := L.exc
  have old : ∀ b, vs[1]? = some (.ref b) → n ≤ b ∧ H b = none ∧ b ≠ a := fun b z => by
    rcases q4 with q | ⟨T', _, _, q, r1, r2, r3, _⟩
    · rw [q] at z; cases z
    · rw [q] at z; cases z; exact ⟨r1, r2, r3⟩
  have hok : HOk X.prog X.w H h' := fun b u hb => by
    by_cases z : b = a
    · subst z
      rw [tr] at hb; cases hb
      obtain ⟨oe', vs', p1, p2, p3, p4, p5, p6⟩ := exc_at I.hok tr
      rw [he] at p1; cases p1
      exact exc_ok ⟨_, ws, e1, p2, p3, rfl, e2, fun z => nomatch z⟩
    · have nn : ∀ c, H c ≠ none → c ∉ frs X.stack := fun c hc hm => hc (I.stkFree c hm)
      refine (I.hok b u hb).stay (fun c v hc r => L.keep c v r ?_ (fun z' => ?_) ?_) (fun _ z => z) fun _ _ z => z
      · rcases hc with rfl | hc
        · exact z
        · intro z'; rw [z', tr] at hc; cases hc
      · have := (old c z').2.1
        rcases hc with rfl | hc
        · rw [this] at hb; cases hb
        · rw [this] at hc; cases hc
      · rcases hc with rfl | hc
        · exact nn c (by rw [hb]; exact fun z => nomatch z)
        · exact nn c (by rw [hc]; exact fun z => nomatch z)
  refine ⟨?_, F.ge, ⟨C, od, tr⟩, _, ws, e1, rfl, e2, .inr ⟨T, oT, ts, e3, Nat.le_trans (Nat.le_trans F.ge (Nat.le_of_lt (Heap.lt_size he))) L.new, I.hok.fresh L.new, e4, e5, e6, e7⟩⟩
  have hch : ∀ b, b ∈ oldOf vs[1]? ↔ vs[1]? = some (.ref b) := fun b => by
    rcases q4 with q | ⟨T', _, _, q, _⟩
    · rw [q]; simp [oldOf]
    · rw [q]; simp [oldOf, eq_comm]
  have U : Un (frs X.stack) (oldOf vs[1]?) H H s.heap h' := by
    refine ⟨fun b o z n1 n2 n3 => L.keep b o z (fun z' => ?_) (fun z' => n3 ((hch b).mpr z')) n2, fun b o z n1 n2 n3 => L.slot b o z n2, fun _ _ _ n1 _ => n1, fun b o z _ => L.there b o z, fun _ _ z => z, fun _ _ _ z => z, fun b ps z => ⟨#[], by rw [z]; simp⟩⟩
    rw [z', tr] at n1; cases n1
  exact I.call (g' := s.gens) (t' := s.toks) (d' := s.drawn) (ch := oldOf vs[1]?) U hok I.bare fun b hb => by
    have g := (old b ((hch b).mp hb)).1
    refine ⟨.inr (Nat.le_trans O.st g), Nat.ne_of_gt (Nat.lt_of_lt_of_le O.loc g), fun x c e => Nat.ne_of_lt (Nat.lt_of_lt_of_le (O.cell x c e) g), fun p hp => Nat.ne_of_lt (Nat.lt_of_lt_of_le (O.pin p hp) g)⟩
end

/-- an exception that is E reaches what X wants of exceptions -/
def Lands (X : Cx) (E : XK) : Prop := ∀ (pins : List (Addr × Obj)) (σ : St) (H : Hp) (s : Shared) (a : Addr) (n : Nat), Inv X pins σ H s → Fly n H s.heap a → Old X pins n → E (.ref a) none H → X.xe (.ref a) s
theorem Lands.passes {X : Cx} {E : XK} (h : Lands X E) : Passes (CX1 X.prog X.w) X E := fun pins σ H s e s' I q => by
  obtain ⟨a, H', rfl, o1, o2, u, ok, F, q⟩ := q
  exact h pins σ H' s' a _ (I.call' (ch := []) o1 u ok o2 fun _ z => nomatch z) F I.old q

theorem lands_def {P : Program} {w : World} {K : PySem.W.Frag} {mg : Str → Option Value} {base : Heap} {N : List Str} {qual : Str} {scope : Scope} {f : Addr} {cd : Value} {A : Around} {outer : List Env} {s₀ : Shared} {H₀ : Hp} {E : XK} :
    Lands (cxOf (CX1 P w) P w K mg base N qual scope f cd A outer s₀ H₀ E) E := fun pins σ H s a n I F O q => by
  obtain ⟨oe, vs, h1, h2, h3, h4⟩ := id F.ob
  show wpAny _ _ (leaving _ _) _ _ s
  unfold leaving
  refine wpAny_bind (leave_core (base := base) (vs := vs) I.ok.frames I.stack rfl h1 h2 h3 ?_ fun h' T L => ?_)
  · rcases h4 with z | ⟨T, oT, ts, z1, _, _, z2, z3, z4, z5⟩
    · exact .inl z
    · exact .inr ⟨T, oT, ts, z1, z2, z3, z4, z5⟩
  · obtain ⟨J, F'⟩ := I.left (T := T) F O h1 h2 L
    exact ⟨a, H, rfl, J.os, J.bare, J.base, J.hok, F'.mono O.st, q⟩

/-! ### two promises of one def -/
theorem FnOk.or {P : Program} {w : World} {K : PySem.W.Frag} {mg : Str → Option Value} {base : Heap} {CX : CXT} {k : Nat} {f : Addr} {fd : FuncData} {ps : List Str} {sp sp' : Sp} (F : FnOk P w K mg base CX k f fd ps sp) (F' : FnOk P w K mg base CX k f fd ps sp') :
    FnOk P w K mg base CX k f fd ps (fun vs H Q E => sp vs H Q E ∨ sp' vs H Q E) :=
  ⟨fun vs H Q E q => q.elim (F.len vs H Q E) (F'.len vs H Q E), fun A outer s H args us vs Q E hr e0 hb r q => q.elim (F.run A outer s H args us vs Q E hr e0 hb r) (F'.run A outer s H args us vs Q E hr e0 hb r)⟩
theorem FnOk.up {P : Program} {w : World} {K : PySem.W.Frag} {mg : Str → Option Value} {base : Heap} {CX : CXT} {k : Nat} {f : Addr} {fd : FuncData} {ps : List Str} {sp : Sp} (F : FnOk P w K mg base CX0 k f fd ps sp) : FnOk P w K mg base CX k f fd ps sp :=
  ⟨F.len, fun A outer s H args us vs Q E hr e0 hb r q => codeAny_mono (F.run A outer s H args us vs Q E hr e0 hb r q) fun res s' z => by
    cases res with
    | error e => exact z.elim
    | ok fl => cases fl <;> exact z⟩

/-! ### the fields of exceptions -/
section
variable {X : Cx} {o e value : Expr} {pos pos' : Pos} {ta tv : TE} {f : Str}
def sEF (K : PySem.W.Frag) (ta tv : TE) (f : Str) : TS := fun D σ H => tv σ H fun y H1 => ta σ H1 fun x H2 => ∃ a C, x = .ref a ∧ Exc K C ∧ NoAttr K C f ∧
  ((H2 a = some (ExcO a C none true) ∧ ∀ dx, H2 dx = none → dx ≠ a → D.nx σ (upd (upd H2 dx (XD dx [(f, y)])) a (ExcO a C (some dx) true)))
   ∨ ∃ dx fs, H2 a = some (ExcO a C (some dx) true) ∧ H2 dx = some (XD dx fs) ∧ fs.length < 1000 ∧ D.nx σ (upd H2 dx (XD dx (putF f y fs))))
theorem ps_efld (ha : PE X o ta) (hv : PE X value tv) (hs : swapsWith value (some (.Attribute o f pos')) pos.line X.env = pure false := by rfl) : PS X (.Assign [.Attribute o f pos'] value pos) (sEF X.K ta tv f) := by
  intro pins s σ H D I h
  refine plainObj_wpAny_Assign_Attribute (thn (hv pins s σ H _ I h) fun u s1 ⟨y, H1, I1, ry, q⟩ => thn (ha pins s1 σ H1 _ I1 q) fun ov s2 ⟨x, H2, I2, rx, a, C, ex, c, n, q2⟩ => ?_) hs
  subst ex
  obtain rfl : ov = Value.ref a := rx
  rcases q2 with ⟨ea, q2⟩ | ⟨dx, fs, ea, ed, hl, q2⟩
  · exact eset0_ok I2 ea c n ry fun dx s3 n1 n2 I3 => ⟨σ, _, I3, q2 dx n1 n2⟩
  · exact eset1_ok I2 ea ed hl c n ry fun s3 I3 => ⟨σ, _, I3, q2⟩
def tEF (K : PySem.W.Frag) (ta : TE) (f : Str) : TE := fun σ H Q => ta σ H fun x H1 => ∃ a C dx fr fs v, x = .ref a ∧ H1 a = some (ExcO a C (some dx) fr) ∧ H1 dx = some (XD dx fs) ∧ Exc K C ∧ NoAttr K C f ∧ fs.lookup f = some v ∧ Q v H1
theorem pe_efld (he : PE X e ta) (hb : attributeBase e f X.env (eval e X.env) = eval e X.env := by rfl) : PE X (.Attribute e f pos) (tEF X.K ta f) := by
  intro pins s σ H Q I h
  refine attr_of hb (thn (he pins s σ H _ I h) fun u s1 ⟨x, H1, I1, rx, a, C, dx, fr, fs, v, ex, ea, ed, c, n, l, q⟩ => ?_)
  subst ex
  obtain rfl : u = Value.ref a := rx
  exact eget_ok I1 ea ed c n l fun u' s2 I2 ru => ⟨v, H1, I2, ru, q⟩
/-- isinstance of an exception, where it is so -/
def rIsE (K : PySem.W.Frag) : List V → Hp → VK → Prop := fun xs H Q => ∃ a d u C od fr, xs = [.ref a, d] ∧ RelV d u ∧ (∀ u', RelV d u' → u' = u) ∧ H a = some (ExcO a C od fr) ∧ PySem.W.kitOne K (.ref C) u = some true ∧ Q (.bl true) H
theorem call_isE : CallR X (.builtin "isinstance") (rIsE X.K) := by
  intro pins s σ H xs us Q I r h
  obtain ⟨a, d, u, C, od, fr, rfl, rd, one, ea, hk, q⟩ := h
  obtain ⟨u1, u2, rfl, r1, r2⟩ := vals2 r
  obtain rfl : u1 = Value.ref a := r1
  obtain rfl := one _ r2
  exact eisi_ok I ea hk fun tk => ⟨.bl true, H, I.tok tk, rfl, q⟩
/-- an own class as a value -/
theorem pe_gref {x : Str} (C : Addr) {pos : Pos} (hm : X.mg x = some (.ref C)) (hg : Gl X x := by rfl) (hd : (x == ("__debug__" : Str)) = false := by decide) : PE X (.Name x pos) (tC (.ref C)) := pe_glob hg hm rfl hd
end

/-! ### raise -/
structure MkE (K : PySem.W.Frag) (C f : Addr) : Prop where
  exc : Exc K C
  mke : excMk K C = true
  init : PySem.W.findIn K (.ref C) "__init__" = some (some (.ref f))
  fn : PySem.W.isFn K (.ref f) = true
  kp : PySem.W.keepIn K (.ref C) = true
def sRaise (C : Addr) (sp : Sp) (E : XK) (t : TA) : TS := fun D σ H => t σ H fun vs H1 => vs.length ≤ 1000 ∧ ∀ a, H1 a = none → sp (.ref a :: vs) (upd H1 a (ExcO a C none true)) (fun v H2 => v = .non ∧ ∃ od, H2 a = some (ExcO a C od true) ∧ E (.ref a) none (upd H2 a (ExcO a C od false))) E0
section
variable {X : Cx} {k : Nat} {f C : Addr} {fd : FuncData} {ps : List Str} {sp : Sp} {E : XK} {x : Str} {np cpos pos : Pos} {e : Expr} {es : List Expr} {t : TA}
theorem ps_raise (M : MkE X.K C f) (F : FnOk X.prog X.w X.K X.mg X.base CX0 k f fd ps sp) (hr : Room (k + 1) X.A) (hm : X.mg x = some (.ref C)) (hb : Binds X.K fd ps []) (hl : Lands X E) (ha : PA X (e :: es) t) (hg : Gl X x := by rfl)
    (hdb : (x == ("__debug__" : Str)) = false := by decide) (he : starEach (e :: es) X.env = (false, eval e X.env) :: starEach es X.env := by rfl) (hpl : (backTo cpos (starEach es X.env)).any (·.1) = false := by rfl) :
    PS X (.Raise (some (.Call (.Name x np) (e :: es) [] cpos)) none pos) (sRaise C sp E t) := by
  intro pins s σ H D I h
  rw [arm_exec_Raise]
  refine wpAny_bind (wpAny_standAt (raise_stmt (K := X.K) hr.hd ?_))
  refine wpAny_bind (wpAny_Call_Name_kw (ld_glob I hg hm ?_ hdb))
  refine PySem.W.callWith_K (h₀ := X.base) I.ok.mod.kin M.kp (thn (ha cpos pins s σ H _ I h) fun us s1 ⟨vs, H1, I1, r, hz, q⟩ => ⟨I1.kIn, ?_⟩) he hpl
  obtain ⟨h1, g1, d1, t1, o1⟩ := s1
  show wpAny _ _ (call (.ref C) us) _ _ _
  refine exc_make I1.kIn M.mke M.init (beq_iff_eq.mp M.fn) (by rw [← r.length, sizeLine_eq]; omega) ?_
  have nz : H1 (h1.objs.size + 1) = none := I1.hok.fresh (Nat.le_succ _)
  have q0 := q (h1.objs.size + 1) nz
  have I2 := I1.kept (h' := h1.push { cls := .type "tuple", data := .seq us.toArray }) (t' := t1) fun b u z => Heap.get?_push_of_some _ z
  have g2 : ((h1.push { cls := .type "tuple", data := .seq us.toArray }).push { cls := .ref C, data := .fields #[.ref h1.objs.size, .none, .none, .none, .bool false, .none] }).get? (h1.objs.size + 1) = some { cls := .ref C, data := .fields #[.ref h1.objs.size, .none, .none, .none, .bool false, .none] } := by heap_get
  have I3 := I2.laid (a := h1.objs.size + 1) (o := ExcO (h1.objs.size + 1) C none true) (t' := t1) (h' := (h1.push { cls := .type "tuple", data := .seq us.toArray }).push { cls := .ref C, data := .fields #[.ref h1.objs.size, .none, .none, .none, .bool false, .none] })
    (fun b u z => Heap.get?_push_of_some _ z) (Nat.le_of_eq (Heap.size_push _ _)) (exc_ok ⟨_, _, g2, rfl, rfl, rfl, by simp, fun _ => by simp⟩)
  have r2 : Vals (V.ref (h1.objs.size + 1) :: vs) (Value.ref (h1.objs.size + 1) :: us) := .cons rfl r
  have hln : ((Value.ref (h1.objs.size + 1) :: us) ++ []).length = ps.length := by rw [List.append_nil, ← r2.length]; exact F.len _ _ _ _ q0
  have hbn := hb _ (Value.ref (h1.objs.size + 1) :: us) I3.kIn hln
  rw [List.append_nil] at hbn
  refine wpAny_call (codeAny_mono (F.run _ X.stack _ _ ⟨Value.ref (h1.objs.size + 1) :: us, []⟩ (Value.ref (h1.objs.size + 1) :: us) _ _ E0 (hr.make C us []) (I3.env0.make C us []) hbn r2 q0) fun res s' z => ?_)
  cases res with
  | error e => exact z.elim
  | ok fl =>
    cases fl with
    | ret u =>
      obtain ⟨v, H', I4, rv, ev, od, ea, q4⟩ := I3.after z
      subst ev
      refine ⟨rv, ?_⟩
      refine wpAny_bind (wpAny_standAt (wpAny_pure ?_))
      obtain ⟨oe, ws, p1, p2, p3, p4, p5, p6⟩ := exc_at I4.hok ea
      refine ⟨h1.objs.size + 1, oe, ws, C, rfl, I4.kIn, M.exc, p1, p2, p4, p6 rfl, ?_⟩
      have I5 : Inv X pins σ (upd H' (h1.objs.size + 1) (ExcO (h1.objs.size + 1) C od false)) s' :=
        I4.write (x := h1.objs.size + 1) (e := h1.objs.size + 1) (h' := s'.heap) (t' := s'.toks) (by rw [ea]; exact True.intro) (.inl rfl) (fun _ _ _ z => z) ⟨oe, p1⟩ (exc_ok ⟨oe, ws, p1, p2, p3, p4, p5, fun z => nomatch z⟩)
      exact hl pins σ _ s' (h1.objs.size + 1) h1.objs.size I5 ⟨Nat.le_succ _, ⟨C, od, upd_same⟩, oe, ws, p1, p4, p5, .inl (p6 rfl)⟩ I1.old q4
    | next => exact False.elim z
    | brk => exact False.elim z
    | cont => exact False.elim z
end
end L2

set_option Elab.async false
set_option linter.all false
set_option maxRecDepth 100000
set_option maxHeartbeats 4000000
namespace L2
open PySem PySem.Spec PyProof.Rows

/-! ### try .. except C as e -/
/-- the body's context; the handler's -/
def Xt (X : Cx) (xe : Value → Shared → Prop) (pn : List (Addr × Obj)) : Cx := { X with xe := xe, pn := pn }
def Xh (X : Cx) (a : Addr) : Cx := { X with A := X.A.mark (some (.ref a)), calm := false, xe := fun _ _ => False }
section
variable {X : Cx} {pins : List (Addr × Obj)} {σ : St} {H : Hp} {s : Shared} {a : Addr} {n : Nat}
theorem Cx.Ok.t {xe : Value → Shared → Prop} {pn : List (Addr × Obj)} (ok : X.Ok) : (Xt X xe pn).Ok :=
  ⟨ok.mod, ok.kind, ok.glob, ok.blt, ok.above, ok.inj, ok.has, ok.cab, ok.hd, ok.frames, ok.stk, ok.exf, ok.bs, ok.bsz, ok.noex, ok.exfs, ok.funs, ok.frf⟩
theorem Cx.Ok.h (ok : X.Ok) : (Xh X a).Ok :=
  ⟨ok.mod, ok.kind, ok.glob, ok.blt, ok.above, ok.inj, ok.has, ok.cab, fun z => (by cases z), ok.frames, ok.stk, ok.exf, ok.bs, ok.bsz, ok.noex, ok.exfs, ok.funs, ok.frf⟩
theorem Inv.t {xe : Value → Shared → Prop} (I : Inv X pins σ H s) : Inv (Xt X xe (X.pn ++ pins)) [] σ H s :=
  ⟨I.ok.t, I.os, I.bare, I.base, I.loc, I.cell, I.free, I.freeC, fun p hp => I.pin p (by rw [List.append_nil] at hp; exact hp), I.hok, I.len⟩
theorem Inv.unt {xe : Value → Shared → Prop} {pins' : List (Addr × Obj)} (ok : X.Ok) (I : Inv (Xt X xe (X.pn ++ pins)) pins' σ H s) : Inv X pins σ H s :=
  ⟨ok, I.os, I.bare, I.base, I.loc, I.cell, I.free, I.freeC, fun p hp => I.pin p (List.mem_append_left _ hp), I.hok, I.len⟩
theorem Inv.h (I : Inv X pins σ H s) : Inv (Xh X a) pins σ H s := ⟨I.ok.h, I.os, I.bare, I.base, I.loc, I.cell, I.free, I.freeC, I.pin, I.hok, I.len⟩
theorem Inv.unh (ok : X.Ok) (I : Inv (Xh X a) pins σ H s) : Inv X pins σ H s := ⟨ok, I.os, I.bare, I.base, I.loc, I.cell, I.free, I.freeC, I.pin, I.hok, I.len⟩

theorem flight_ok {M : Model} {A : Around} {E : Value → Shared → Prop} {Q : Unit → Shared → Prop} (I : Inv X pins σ H s) (F : Fly n H s.heap a) (O : Old X pins n) (h : ∀ s', Inv X pins σ H s' → Fly n H s'.heap a → Q () s') :
    wpAny M A (setFlight (.ref a) none) Q E s := by
  obtain ⟨oe, vs, h1, h2, h3, h4⟩ := F.ob
  unfold setFlight
  rcases h4 with z | ⟨T, oT, ts, z1, z2, z3, z4, z5, z6, z7⟩
  · refine wpAny_bind (wpAny_field h1 h2 z ?_)
    rw [if_neg (by decide)]
    exact wpAny_pure (h s I F)
  · refine wpAny_bind (wpAny_field h1 h2 z1 ?_)
    rw [if_pos (show (Value.ref T != Value.none) = true from by simp)]
    have h5 := (Array.getElem?_eq_some_iff.mp z7).1
    refine wpAny_setField z5 z6 h5 ?_
    have other : ∀ b, b ≠ T → (s.heap.update T (Obj.mapFields (·.setIfInBounds 3 ((none : Option Addr).elim Value.none fun f => rawInt f)))).get? b = s.heap.get? b := fun b hb => Heap.get?_update_other _ _ (Ne.symm hb)
    have sT := Heap.get?_update_self (Obj.mapFields (·.setIfInBounds 3 ((none : Option Addr).elim Value.none fun f => rawInt f))) z5 (Obj.isFreed_of_fields (Obj.data_mapFields z6 _))
    refine h _ (I.turned (it := T) (t' := s.toks) (fun b o hb q => (other b hb).trans q) z3 (Nat.ne_of_gt (Nat.lt_of_lt_of_le O.loc z2)) (.inr (Nat.le_trans O.st z2)) (fun x c e => Nat.ne_of_lt (Nat.lt_of_lt_of_le (O.cell x c e) z2)) fun p hp => Nat.ne_of_lt (Nat.lt_of_lt_of_le (O.pin p hp) z2)) ?_
    exact ⟨F.ge, F.tr, oe, vs, (other a (Ne.symm z4)).trans h1, h2, h3, .inr ⟨T, _, _, z1, z2, z3, z4, sT, Obj.data_mapFields z6 _, by simp [h5]⟩⟩

/-- the name goes behind the suite -/
theorem gone_ok {M : Model} {A : Around} {E : Value → Shared → Prop} {j : Nat} {x : Str} {pos : Pos} {Q : Unit → Shared → Prop} (I : Inv X pins σ H s) (hN : X.N.Nodup) (hj : X.N[j]? = some x) (hk : X.env.scope.names.lookup x = some .local)
    (h : ∀ s', Inv X pins (σ.set j none) H s' → Q () s') : wpAny M A (do bindName X.env x .none; unbindBehindTheSuite X.env x pos) Q E s := by
  obtain ⟨m, hn, hl⟩ := id I.loc
  have hcls : (X.env.scope.kind == .class || (X.env.scope.kind == .module && X.env.locals != X.env.globals)) = false := by rw [I.ok.kind]; rfl
  have cne := I.cne
  refine wpAny_nameGoes_keeps hk hn hcls fun h' v hn' hs => ?_
  obtain ⟨oL, _, _, hoL, _⟩ := id hn
  have ap : ∀ b o, X.s₀.heap.get? b = some o → b ≠ X.env.locals := fun b o e => Nat.ne_of_lt (Nat.lt_of_lt_of_le (Heap.lt_size e) I.ok.above)
  refine h _ ⟨I.ok, I.os, I.bare, ⟨fun b o e n hb hx => ?_, fun b o e n hb hx => ?_, I.base.free, fun b o e hx => ?_, I.base.tups, I.base.frzs, I.base.tbls⟩, ⟨_, hn', fun i y w' e1 e2 e3 => ?_⟩, fun y c e => ?_, I.free, I.freeC, fun p hp => ?_, fun b ob e => ?_, by simpa using I.len⟩
  · exact (hs.2 b (ap b o e)).trans (I.base.keep b o e n hb hx)
  · obtain ⟨sl, q⟩ := I.base.slot b o e n hb hx
    exact ⟨sl, (hs.2 b (ap b o e)).trans q⟩
  · obtain ⟨o', q⟩ := I.base.there b o e hx
    exact ⟨o', (hs.2 b (ap b o e)).trans q⟩
  · have ij : i ≠ j := fun z => by
      subst z
      by_cases hi : i < σ.length
      · rw [List.getElem?_set_self hi] at e2; cases e2
      · rw [List.getElem?_eq_none (by rw [List.length_set]; omega)] at e2; cases e2
    rw [List.getElem?_set_ne (Ne.symm ij)] at e2
    obtain ⟨u', r', q⟩ := hl i y w' e1 e2 e3
    refine ⟨u', r', ?_⟩
    rcases q with ⟨k, e⟩ | ⟨k, c, e, z⟩
    · refine .inl ⟨k, ?_⟩
      have : y ≠ x := fun e => ij (nodup_ix hN e1 (e ▸ hj))
      simp [this, e]
    · exact .inr ⟨k, c, e, z.sameBut hs (cne y c e)⟩
  · obtain ⟨w', z⟩ := I.cell y c e
    exact ⟨w', z.sameBut hs (cne y c e)⟩
  · obtain ⟨e, n, ne, nf, d⟩ := I.pin p hp
    exact ⟨(hs.2 p.1 ne).trans e, n, ne, nf, d⟩
  · refine (I.hok b ob e).stay (fun c w' hc q => (hs.2 c ?_).trans q) (fun _ q => q) fun _ _ q => q
    rintro rfl
    rcases hc with rfl | hc
    · rw [I.free] at e; cases e
    · rw [I.free] at hc; cases hc
end

/-- a list of except clauses, at an exception of ours -/
def PH (X : Cx) (hs : List ExceptHandler) (t : Addr → TS) : Prop :=
  ∀ (pins : List (Addr × Obj)) (s : Shared) (σ : St) (H : Hp) (D : Ends) (a : Addr) (n : Nat), Inv X pins σ H s → Fly n H s.heap a → Old X pins n → t a D σ H → wpAny (model X.prog X.w) X.A (handleBy (.ref a) X.env hs) (SP X pins D) X.xe s
def behind (j : Nat) (D : Ends) : Ends := { nx := fun σ H => D.nx (σ.set j none) H, rt := D.rt, bk := fun σ H => D.bk (σ.set j none) H, ct := fun σ H => D.ct (σ.set j none) H }
/-- except C as x (x in slot j) -/
def tHd (K : PySem.W.Frag) (C' : Addr) (j : Nat) (ts tr : Addr → TS) : Addr → TS := fun a D σ H => ∃ C od b, H a = some (ExcO a C od false) ∧ PySem.W.mroIn K C (.ref C') = some b ∧
  if b = true then ts a (behind j D) (σ.set j (some (.ref a))) H else tr a D σ H
section
variable {X : Cx}
theorem ph_nil : PH X [] (fun _ _ _ _ => False) := fun _ _ _ _ _ _ _ _ _ _ h => h.elim
theorem ph_as (j : Nat) {x y : Str} {C' : Addr} {np pos : Pos} {b₀ : Stmt} {suite : List Stmt} {rest : List ExceptHandler} {ts tr : Addr → TS} (hN : X.N.Nodup) (c : Exc X.K C') (hm : X.mg x = some (.ref C')) (hs : ∀ a, PSs (Xh X a) (b₀ :: suite) (ts a)) (hr : PH X rest tr)
    (hj : X.N[j]? = some y := by rfl) (hk : X.env.scope.names.lookup y = some .local := by rfl) (hg : Gl X x := by rfl) (hd : (x == ("__debug__" : Str)) = false := by decide) :
    PH X (.ExceptHandler (some (.Name x np)) (some y) (b₀ :: suite) pos :: rest) (tHd X.K C' j ts tr) := by
  intro pins s σ H D a n I F O h
  obtain ⟨C, od, b, ea, hb, q⟩ := h
  obtain ⟨oe, vs, p1, p2, _⟩ := exc_at I.hok ea
  refine wpAny_handleBy_cons (codeAny_handlers_test (ld_glob (X := Xh X a) I.h hg hm ?_ hd)) (by intro z; cases z)
  refine exc_match I.kIn c p1 p2 hb ?_
  cases b with
  | false =>
    simp only [Bool.false_eq_true, if_false] at q ⊢
    exact hr pins s σ H D a n I F O q
  | true =>
    simp only [if_true] at q ⊢
    refine codeAny_handlers_suite_as (flight_ok I F O fun s1 I1 F1 => ?_)
    refine store_ok (X := Xh X a) (v := .ref a) I1.h hN hj (.inl hk) rfl (fun s2 I2 => ?_) (.inr hk)
    refine wpAny_mono (hs a pins s2 (σ.set j (some (.ref a))) H (behind j D) I2 q) (fun f s3 z => ?_) fun _ _ z => z.elim
    cases f with
    | next => obtain ⟨σ', H', J, z⟩ := z; exact gone_ok (J.unh I.ok) hN hj hk fun s4 J4 => ⟨_, H', J4, z⟩
    | brk => obtain ⟨σ', H', J, z⟩ := z; exact gone_ok (J.unh I.ok) hN hj hk fun s4 J4 => ⟨_, H', J4, z⟩
    | cont => obtain ⟨σ', H', J, z⟩ := z; exact gone_ok (J.unh I.ok) hN hj hk fun s4 J4 => ⟨_, H', J4, z⟩
    | ret u => obtain ⟨v, σ', H', J, rv, z⟩ := z; exact gone_ok (J.unh I.ok) hN hj hk fun s4 J4 => ⟨v, _, H', J4, rv, z⟩

/-- E: what is known of an exception that leaves the body; of the names nothing is known then -/
def sTry (tb : XK → TS) (th : Addr → TS) : TS := fun D σ H => ∃ E : XK, tb E D σ H ∧ ∀ a H', E (.ref a) none H' → th a D (List.replicate σ.length none) H'
theorem ps_try {body : List Stmt} {h₀ : ExceptHandler} {hs : List ExceptHandler} {pos : Pos} {tb : XK → TS} {th : Addr → TS} (hb : ∀ E xe pn, Lands (Xt X xe pn) E → PSs (Xt X xe pn) body (tb E)) (hh : PH X (h₀ :: hs) th)
    (hst : X.stack = X.env :: X.outer := by rfl) (hfr : X.env.frame = some X.env.locals := by rfl) : PS X (.Try body (h₀ :: hs) [] [] pos) (sTry tb th) := by
  intro pins s σ H D I ⟨E, q1, q2⟩
  refine wpAny_Try_except ?_
  let xe : Value → Shared → Prop := fun e s₁ => wpAny (model X.prog X.w) X.A (noteFrame e X.env) (fun _ s₂ => wpAny (model X.prog X.w) X.A (setFlight e none) (fun _ s₃ => wpAny (model X.prog X.w) X.A (handleBy e X.env (h₀ :: hs)) (SP X pins D) X.xe s₃) X.xe s₂) X.xe s₁
  have hl : Lands (Xt X xe (X.pn ++ pins)) E := fun pins' σ' H' s' a n I' F O q => by
    have J : Inv X pins σ' H' s' := I'.unt I.ok
    have O' : Old X pins n := ⟨O.st, O.loc, O.cell, fun p hp => O.pin p (List.mem_append_left _ hp)⟩
    obtain ⟨oe, vs, h1, h2, h3, h4⟩ := id F.ob
    show wpAny _ _ (noteFrame _ _) _ _ s'
    have hfs : X.A.frames = some (X.env :: X.outer) := by rw [J.ok.frames, hst]
    have hff : s'.heap.FunFrames X.base (X.env :: X.outer) := by have := J.stack; rwa [hst] at this
    refine leave_core (base := X.base) (vs := vs) hfs hff hfr h1 h2 h3 ?_ fun h' T L => ?_
    · rcases h4 with z | ⟨T, oT, ts, z1, _, _, z2, z3, z4, z5⟩
      · exact .inl z
      · exact .inr ⟨T, oT, ts, z1, z2, z3, z4, z5⟩
    · obtain ⟨J2, F2⟩ := J.left (T := T) F O' h1 h2 (by rw [hst]; exact L)
      have J3 : Inv X pins (List.replicate σ.length none) H' { s' with heap := h' } := J2.weak (by rw [List.length_replicate, I.len, J2.len]) fun i v z => by
        rw [List.getElem?_replicate] at z
        split at z <;> cases z
      exact hh pins _ _ H' D a n J3 F2 O' (q2 a H' q)
  refine wpAny_mono (hb E xe (X.pn ++ pins) hl [] s σ H D I.t q1) (fun f s1 z => ?_) fun _ _ z => z
  cases f with
  | next => obtain ⟨σ', H', J, z⟩ := z; exact wpAny_execs_nil ⟨σ', H', J.unt I.ok, z⟩
  | brk => obtain ⟨σ', H', J, z⟩ := z; exact ⟨σ', H', J.unt I.ok, z⟩
  | cont => obtain ⟨σ', H', J, z⟩ := z; exact ⟨σ', H', J.unt I.ok, z⟩
  | ret u => obtain ⟨v, σ', H', J, rv, z⟩ := z; exact ⟨v, σ', H', J.unt I.ok, rv, z⟩
end
end L2

set_option Elab.async false
set_option linter.all false
set_option maxRecDepth 100000
set_option maxHeartbeats 4000000
namespace L2
open PySem PySem.Spec PyProof.Rows PySem.SeqAt
open PySem.AutoSeq1 (wpAny_loadPart')

/-! ### a dict held against a text -/
theorem dict_declines (l : Addr) (od : Obj) (hc : od.cls = .type "dict") (b : Str) (u : Tok) :
    Meets (Builtin.«dict.__eq__» ⟨[.ref l, .str b u], []⟩) (fun _ R s => s.heap.get? l = some od ∧ R (.ok (.ret .notImplemented)) s) :=
  .of_wp fun prog w A R s h => by
    obtain ⟨hp, g, d, tk, os⟩ := s
    obtain ⟨hl, h⟩ := h
    obtain ⟨c, dd, da, sl⟩ := od
    dsimp only at hc
    subst hc
    have f1 := F.sub_str_dict
    wp_walk using wpAny_loadPart' hl, wpAny_load hl
    exact ⟨_, rfl, h⟩
theorem str_declines (l : Addr) (od : Obj) (es : Array DictEntry) (n : Nat) (hd : od.data = .dict es n) (b : Str) (u : Tok) :
    Meets (Builtin.«str.__eq__» ⟨[.str b u, .ref l], []⟩) (fun _ R s => s.heap.get? l = some od ∧ R (.ok (.ret .notImplemented)) s) :=
  .of_wp fun prog w A R s h => by
    obtain ⟨hp, g, d, tk, os⟩ := s
    obtain ⟨hl, h⟩ := h
    obtain ⟨c, dd, da, sl⟩ := od
    dsimp only at hd
    subst hd
    wp_walk using wpAny_loadPart' hl, wpAny_load hl
    exact ⟨_, rfl, h⟩
theorem RcAt.dict_text {A : Around} {s : Shared} {l : Addr} {od : Obj} {es : Array DictEntry} {n : Nat} (ho : s.heap.get? l = some od) (hc : od.cls = .type "dict") (hd : od.data = .dict es n) (b : Str) (u : Tok) (hu : A.units < cLine) : RcAt A s (.ref l) (.str b u) false := fun prog w E Q h =>
  rc_eq_decline_or (k := false) (show s.TypeIs (.ref l) "dict" from ⟨_, ho, hc⟩) (typeIs_str s b u) (by decide) F.sub_str_dict F.slot_dict_eq F.slot_str_eq_refl
    (fun _ hq => call_meets F.slot_dict_eq (show s.TypeIs (.ref l) "dict" from ⟨_, ho, hc⟩) F.entry_dict_eq (F.args_dict_eq_2 _ _) (dict_declines l od hc b u) ⟨ho, hq⟩)
    (fun _ hq => call_meets F.slot_str_eq_refl (typeIs_str s b u) F.entry_str_eq (F.args_str_eq_2 _ _) (str_declines l od es n hd b u) ⟨ho, hq⟩)
    (fun _ hq => wpAny_of_eq (rfl : isSame (.ref l) (.str b u) = pure false) hq) (.inr hu) h
/-- x == a text, x of a known kind -/
def rEqT : R2 := fun x y H Q => ∃ b t, y = .str b ∧ kindS H x = some t ∧ (∀ a o u, x = .ref a → H a ≠ some (.frz o u)) ∧ Q (.bl (decide (x = .str b))) H
theorem op_eqT {X : Cx} (hu : X.A.units + 64 < cLine) : OpR X (compareOp .Eq) rEqT := by
  intro pins s σ H x y v u Q I rx ry ⟨b, t, ey, hk, nf, q⟩
  subst ey
  have fin : ∀ e : Bool, RcD H x (.str b) e → e = decide (x = .str b) → wpAny (model X.prog X.w) X.A (compareOp .Eq v u) (EP X pins σ Q) X.xe s := fun e he ee => by
    subst ee
    exact op_eqD hu pins s σ H x (.str b) v u Q I rx ry ⟨_, he, q⟩
  cases x with
  | ref a =>
    have no : decide (V.ref a = V.str b) = false := decide_eq_false (fun z => nomatch z)
    unfold kindS at hk
    dsimp only at hk
    split at hk
    · rename_i xs e; exact fin _ (.lf e rfl) no.symm
    · rename_i xs e; exact fin _ (.tf e rfl) no.symm
    · rename_i kvs e
      rw [no] at q
      obtain ⟨_, _, vs, _, o, es, ep, ho, hex, hd, _⟩ := (show ObjOk X.prog X.w H s.heap a (.dK kvs) from I.hok a _ e)
      cases rx
      obtain ⟨tk, rfl⟩ := ry
      exact RcAt.dict_text ho hex.1 hd b tk (by omega) X.prog X.w X.xe _ ⟨.bl false, H, I, rfl, q⟩
    · rename_i o xs e; exact absurd e (nf a _ _ rfl)
    · cases hk
  | non => exact fin _ (.flat rfl rfl) (by simp [eqV])
  | bl b' => exact fin _ (.flat rfl rfl) (by simp [eqV])
  | int b' => exact fin _ (.flat rfl rfl) (by simp [eqV])
  | str b' => exact fin _ (.flat rfl rfl) (by simp only [eqV, V.str.injEq]; exact Bool.eq_iff_iff.mpr ⟨fun z => decide_eq_true (eq_of_beq z), fun z => beq_iff_eq.mpr (of_decide_eq_true z)⟩)
  | _ => cases hk

/-! ### a def whose refusals are told -/
theorem Fun.okX {P : Program} {w : World} {K : PySem.W.Frag} {mg : Str → Option Value} {base : Heap} {x qual : Str} {st : Stmt} {f : Addr} {fd : FuncData} {N ps : List Str} {k : Nat} {sp : Sp} (F : Fun K x qual st f fd) (S : FnScope N ps (defScope st)) (len : ∀ vs H Q E, sp vs H Q E → vs.length = ps.length)
    (hbody : ∀ (cdv : Value) (A : Around) (outer : List Env) (s : Shared) (H : Hp) (vs : List V) (Q : VK) (E : XK), Room k (A.deeper (envOfC qual (defScope st) s.heap.objs.size f cdv)) → sp vs H Q E →
      ∃ t, PSs (cxOf (CX1 P w) P w K mg base N qual (defScope st) f cdv A outer s H E) (defBody st) t ∧ t { nx := fun _ H' => Q .non H', rt := Q } (start N vs) H) : FnOk P w K mg base (CX1 P w) (k + 1) f fd ps sp := by
  obtain ⟨oc, od, kV, doc, pm, an, cdv, ct, osl, rfl, lk, hcd⟩ := F.ex
  exact fn_of lk hcd S len fun A outer s H vs Q E hr hsp => hbody cdv A outer s H vs Q E hr hsp
/-- an exception of the class at C with the one field f, thrown: all else stands -/
def Thr (H H' : Hp) (C : Addr) (f : Str) (v : V) (e : Addr) : Prop := ∃ dx, H' e = some (ExcO e C (some dx) false) ∧ H' dx = some (XD dx [(f, v)]) ∧ Same H H'
theorem thr_mk {H : Hp} {C e dx : Addr} {f : Str} {v : V} {o u : HO} (he : H e = none) (hd : upd H e o dx = none) (ne : dx ≠ e) : Thr H (upd (upd (upd (upd H e o) dx (XD dx [(f, v)])) e u) e (ExcO e C (some dx) false)) C f v e := by
  refine ⟨dx, upd_same, by rw [upd_ne ne, upd_ne ne, upd_same], fun b q hb => ?_⟩
  have nb : b ≠ e := ne_of_none hb he
  rw [upd_ne ne] at hd
  rw [upd_ne nb, upd_ne nb, upd_ne (ne_of_none hb hd), upd_ne nb]
  exact hb
theorem kit_self (K : PySem.W.Frag) (C : Addr) : PySem.W.kitOne K (.ref C) (.ref C) = some true := by
  unfold PySem.W.kitOne
  rw [if_pos (beq_self_eq_true _)]
end L2

set_option Elab.async false
set_option linter.all false
set_option maxRecDepth 100000
set_option maxHeartbeats 4000000
namespace L2
open PySem PySem.Spec PyProof.Rows

/-! ### enumerate over a list, unpacked -/
section
variable {X : Cx} {pins : List (Addr × Obj)} {σ : St} {H : Hp} {s : Shared} {h' : Heap}
/-- untracked records of ours have turned -/
theorem Inv.turnedL {t' : Nat} {ch : List Addr} (I : Inv X pins σ H s) (k : ∀ b o, b ∉ ch → s.heap.get? b = some o → h'.get? b = some o) (hf : ∀ b ∈ ch, FpOk X pins H b) : Inv X pins σ H { s with heap := h', toks := t' } := by
  have nit : ∀ b u, H b = some u → b ∉ ch := fun b u e z => by rw [(hf b z).1] at e; cases e
  refine I.step (g' := s.gens) (d' := s.drawn) (ch := ch) (fun b hb => ?_) (fun b o _ _ hc e _ => k b o hc e) (fun b o _ _ hc e _ => ⟨o.slots, k b o hc e⟩) (fun _ _ _ _ n => n)
    (fun b o hc e => ⟨o, k b o hc e⟩) (fun _ _ e => e) (fun _ _ _ e => e) (fun b ps e => ⟨#[], by rw [e]; simp⟩) (fun m hm => ?_) (fun b u e => ?_) I.bare
  · obtain ⟨f0, f1, f2, f3, f4, f5⟩ := hf b hb
    exact ⟨f3, f1, f4, f5⟩
  · obtain ⟨o, es, ep, ho, r⟩ := hm
    exact ⟨o, es, ep, k _ o (fun z => (hf _ z).2.1 rfl) ho, r⟩
  · refine (I.hok b u e).stay (fun c v hc q => k c v ?_ q) (fun _ q => q) fun _ _ q => q
    rcases hc with z | z
    · rw [z]; exact nit b u e
    · exact nit c _ z
end
def Ite (K : PySem.W.Frag) (a : Addr) : It :=
  ⟨fun i H => ∃ xs x, SqL K H a xs ∧ xs[i]? = some x, fun i H x H' => ∃ t y, x = .ref t ∧ H t = none ∧ H' = upd H t (.tup [.int (i : Int), y]) ∧ ∀ xs, SqL K H a xs → xs[i]? = some y, fun i H => ∃ xs, SqL K H a xs ∧ xs.length ≤ i⟩
theorem turn_enum {P : Program} {w : World} {K : PySem.W.Frag} {elts : List Expr} {x1 : Nat} {pos : Pos} (a it e : Addr) (hne : e ≠ it) : Turn P w K (.Tuple elts x1 pos) (Ite K a) [e, it] e (fun i h => (∃ old, IsEnum h e it (i : Nat) old) ∧ h.IsListIter it a i) where
  mem := by simp
  obj := fun i h st b hb => by
    obtain ⟨⟨old, he⟩, o, ho, hc, hd⟩ := st
    rcases List.mem_cons.mp hb with rfl | hb
    · exact ⟨_, he, fun v z => by
        have z' : Data.fields _ = Data.cell v := z
        cases z'⟩
    · rw [List.mem_singleton.mp hb]
      exact ⟨o, ho, fun v z => by rw [hd] at z; cases z⟩
  keep := fun i h h' st k => by
    obtain ⟨⟨old, he⟩, st⟩ := st
    exact ⟨⟨old, k e (by simp) _ he⟩, st.at fun o q => k it (by simp) o q⟩
  item := by
    intro X hP hw hK hc i pins s σ H E I hf st hg
    subst hP hw hK
    obtain ⟨xs, x, hq, hx⟩ := hg
    obtain ⟨⟨old, he⟩, hit⟩ := st
    obtain ⟨its, rv, p, hz⟩ := I.list hq
    obtain ⟨u, hu, ru⟩ := rv.get hx
    have hfr : H s.heap.objs.size = none := I.hok.fresh (Nat.le_refl _)
    obtain ⟨oi, hoi, _⟩ := id hit
    have lt1 : e < s.heap.objs.size := Heap.lt_size he
    have lt2 : it < s.heap.objs.size := Heap.lt_size hoi
    refine wpAny_pyNext_enum_item he hit p.isList (x := u) (by simpa using hu) hne fun h1 heo hit1 ht1 hz1 hk1 => ?_
    refine ⟨_, rfl, wpAny_letOwnedTupleGo_enum (s := { s with heap := h1, toks := s.toks + 1 }) heo fun h2 he2 hs2 => ?_⟩
    replace hs2 : Heap.SameBut e h1 h2 := hs2
    have I0 : Inv X pins σ (upd H s.heap.objs.size (.tup [.int (i : Int), x])) { s with heap := s.heap.push { cls := .type "tuple", data := .seq #[.int i s.toks, u] }, toks := s.toks + 1 } :=
      I.laid (fun b o q => Heap.get?_push_of_some _ q) (Nat.le_refl _) ⟨by show 2 ≤ sizeLine; decide, [.int i s.toks, u], .cons ⟨_, rfl⟩ (.cons ru .nil), ⟨_, Heap.get?_push_size _ rfl, rfl, _, rfl⟩⟩
    have I2 : Inv X pins σ (upd H s.heap.objs.size (.tup [.int (i : Int), x])) { s with heap := h2, toks := s.toks + 1 } := by
      refine Inv.turnedL (s := { s with heap := s.heap.push { cls := .type "tuple", data := .seq #[.int i s.toks, u] }, toks := s.toks + 1 }) (h' := h2) (ch := [e, it]) (t' := s.toks + 1) I0 (fun b o hb q => ?_) (fun b hb => ?_)
      · have nb1 : b ≠ e := fun z => hb (by simp [z])
        have nb2 : b ≠ it := fun z => hb (by simp [z])
        refine hs2.extBut b o nb1 ?_
        rcases Heap.get?_push_cases (show (s.heap.push { cls := .type "tuple", data := .seq #[.int i s.toks, u] }).get? b = some o from q) with ⟨rfl, rfl⟩ | q
        · exact ht1
        · exact hk1 b o nb1 nb2 q
      · refine ⟨?_, (hf b hb).2⟩
        have hb' : b < s.heap.objs.size := by
          rcases List.mem_cons.mp hb with rfl | hb
          · exact lt1
          · rw [List.mem_singleton.mp hb]; exact lt2
        rw [upd_ne (Nat.ne_of_lt hb')]
        exact (hf b hb).1
    refine ⟨.ref s.heap.objs.size, _, I2, rfl, ⟨_, x, rfl, hfr, rfl, fun ys hy => by rw [I.list_inj hy hq]; exact hx⟩, ⟨⟨u, ?_⟩, ?_⟩, fun b hb => ?_⟩
    · have : ((i + 1 : Nat) : Int) = (i : Int) + 1 := by push_cast; rfl
      rw [this]; exact he2
    · exact hit1.extBut hs2.extBut (Ne.symm hne)
    · have hb' : b < s.heap.objs.size := by
        rcases List.mem_cons.mp hb with rfl | hb
        · exact lt1
        · rw [List.mem_singleton.mp hb]; exact lt2
      rw [upd_ne (Nat.ne_of_lt hb')]
      exact (hf b hb).1
  done := by
    intro X hP hw hK hc i pins s σ H E I hf st hg
    subst hP hw hK
    obtain ⟨xs, hq, hx⟩ := hg
    obtain ⟨⟨old, he⟩, hit⟩ := st
    obtain ⟨its, rv, p, hz⟩ := I.list hq
    obtain ⟨f0, f1, f2, f3, f4, f5⟩ := hf it (by simp)
    have hl := rv.length
    exact wpAny_pyNext_enum_end (I.ok.hd hc) he hit p.isList (by simp; omega) fun h' eb => ⟨rfl, I.turned (t' := s.toks) (fun b o hb q => eb b o hb q) f0 f1 f3 f4 f5⟩
  self := fun _ _ _ _ _ st h => by
    obtain ⟨⟨old, he⟩, _⟩ := st
    exact wpAny_pyIter_enum he h
section
variable {X : Cx}
def iEnum (K : PySem.W.Frag) (ta : TA) : TI := fun σ H R => ta σ H fun vs H1 => ∃ a, vs = [.ref a] ∧ (∃ xs, SqL K H1 a xs) ∧ R (Ite K a) H1
theorem pi_enum {l : Expr} {ta : TA} {elts : List Expr} {x1 : Nat} {p pos tpos : Pos} (hg : Gl X "enumerate") (hm : X.mg "enumerate" = none) (ha : PA X [l] ta) (hs : starEach [l] X.env = [(false, eval l X.env)] := by rfl) : PI X (.Tuple elts x1 tpos) (.Call (.Name "enumerate" p) [l] [] pos) (iEnum X.K ta) := by
  intro pins s σ H R I h
  refine Call_ (ld_blt I hg hm boot_enumerate (PyProof.Rows.callWith_type1 (thn (ha pos pins s σ H _ I h) fun us s1 ⟨vs, H1, I1, r1, q1⟩ => ?_) hs rfl))
  obtain ⟨a, e, ⟨xs, hq⟩, q⟩ := q1
  subst e
  cases r1 with
  | cons r rr =>
    cases rr
    cases r
    obtain ⟨its, rv, pl, hz⟩ := I1.list hq
    refine call_enumerate_list pl.isList fun h' hE hI hsz hk => ?_
    refine wpAny_pyIter_enum hE ?_
    refine ⟨s1.heap.objs.size + 1, [s1.heap.objs.size + 1, s1.heap.objs.size], _, _, H1, rfl, I1.kept (t' := s1.toks) hk, turn_enum a s1.heap.objs.size (s1.heap.objs.size + 1) (Nat.succ_ne_self _), ⟨⟨_, hE⟩, hI⟩, fun b hb => ?_, q⟩
    have hb' : s1.heap.objs.size ≤ b := by
      rcases List.mem_cons.mp hb with rfl | hb
      · exact Nat.le_succ _
      · rw [List.mem_singleton.mp hb]; exact Nat.le_refl _
    exact I1.fpOk hb' (I1.hok.fresh hb')
end
section
variable {X : Cx}
/-- xs.index(y): the first that is like it -/
def rIndex : V → List V → Hp → VK → Prop := fun x vs H Q => ∃ l xs y j z, x = .ref l ∧ vs = [y] ∧ H l = some (.lst xs) ∧ flatV y = true ∧ xs.all flatV = true ∧ xs[j]? = some z ∧ eqV z y = true ∧ (∀ m z', m < j → xs[m]? = some z' → eqV z' y = false) ∧ Q (.int (j : Nat)) H
theorem Vals.getU {xs : List V} {us : List Value} (r : Vals xs us) {j : Nat} {u : Value} (h : us[j]? = some u) : ∃ x, xs[j]? = some x ∧ RelV x u := by
  have hl := r.length
  have hj : j < us.length := (List.getElem?_eq_some_iff.mp h).1
  obtain ⟨u', hu', ru⟩ := r.get (show xs[j]? = some xs[j] by simp)
  rw [h] at hu'
  cases hu'
  exact ⟨_, by simp, ru⟩
theorem mt_index : MtM X "list.index" rIndex := by
  intro pins s σ H x vs v us Q I rx rv h
  obtain ⟨l, xs, y, j, zj, rfl, rfl, hH, fy, fs, hj, hit, hno, q⟩ := h
  cases rx
  obtain ⟨u, rfl, ru⟩ := rv.one
  obtain ⟨z, its, n, r, hl, e⟩ := I.lstM hH
  have hlt : j < xs.length := (List.getElem?_eq_some_iff.mp hj).1
  have hlen := r.length
  have small : ((j : Nat) : Int) < 2 ^ 63 - 1 := by
    have : sizeLine < 2 ^ 62 := by decide
    omega
  have eqAt : ∀ m (hm : m < its.toArray.size), ∃ x, xs[m]? = some x ∧ eqU y its.toArray[m] = eqV x y := fun m hm => by
    have hm' : m < its.length := by simpa using hm
    obtain ⟨x, hx, rx⟩ := r.getU (show its[m]? = some its[m] by simp)
    have fx : flatV x = true := List.all_eq_true.mp fs x (List.mem_of_getElem? hx)
    refine ⟨x, hx, ?_⟩
    have := eqU_of (x := y) rx fx
    simpa using this
  have hja : j < its.toArray.size := by simp; omega
  refine call_meets F.slot_list_index ⟨_, e, rfl⟩ F.entry_list_index (F.args_list_index_2 _ _) (SeqAt.list_indexAt l its.toArray n none #[] u (eqU y) j hja small ?_ ?_) ⟨e, fun w hw => mem_eqAt ru fy r fs w (by simpa using hw), ⟨.int (j : Nat), H, I.tok _, ⟨_, rfl⟩, q⟩⟩
  · obtain ⟨x, hx, ex⟩ := eqAt j hja
    rw [hj] at hx
    cases hx
    rw [ex]; exact hit
  · intro m hm hmj
    obtain ⟨x, hx, ex⟩ := eqAt m hm
    rw [ex]; exact hno m x hmj hx
/-- xs.count(y) -/
def rCount : V → List V → Hp → VK → Prop := fun x vs H Q => ∃ l xs y, x = .ref l ∧ vs = [y] ∧ H l = some (.lst xs) ∧ flatV y = true ∧ xs.all flatV = true ∧ Q (.int (xs.countP (fun z => eqV z y) : Nat)) H
theorem count_eqU {x : V} : ∀ {xs : List V} {us : List Value}, Vals xs us → xs.all flatV = true → us.countP (eqU x) = xs.countP fun y => eqV y x
  | _, _, .nil, _ => rfl
  | y :: xs, u :: us, .cons r t, f => by
    rw [List.all_cons, Bool.and_eq_true] at f
    rw [List.countP_cons, List.countP_cons, eqU_of r f.1, count_eqU t f.2]
theorem mt_count : MtM X "list.count" rCount := by
  intro pins s σ H x vs v us Q I rx rv h
  obtain ⟨l, xs, y, rfl, rfl, hH, fy, fs, q⟩ := h
  cases rx
  obtain ⟨u, rfl, ru⟩ := rv.one
  obtain ⟨z, its, n, r, hl, e⟩ := I.lstM hH
  refine call_meets F.slot_list_count ⟨_, e, rfl⟩ F.entry_list_count (F.args_list_count_2 _ _) (SeqAt.list_countAt l its.toArray n none #[] u (eqU y)) ⟨e, fun w hw => mem_eqAt ru fy r fs w (by simpa using hw), ⟨.int _, H, I.tok _, ⟨_, rfl⟩, ?_⟩⟩
  rw [show its.toArray.toList.countP (eqU y) = its.countP (eqU y) by simp, count_eqU r fs]
  exact q
end
/-- over enumerate of a list that the body leaves as it is -/
theorem for_enum {K : PySem.W.Frag} {a : Addr} {xs : List V} {g : TG} {tb : TS} {D : Ends} {σ : St} {H : Hp} (Pv : Nat → St → Hp → Prop) (h0 : Pv 0 σ H) (hl : ∀ i σ H, i ≤ xs.length → Pv i σ H → SqL K H a xs)
    (hs : ∀ (i : Nat) x σ H t, xs[i]? = some x → Pv i σ H → H t = none → g (.ref t) σ (upd H t (.tup [.int (i : Int), x])) fun σ2 H2 => tb { D with nx := Pv (i + 1), ct := Pv (i + 1), bk := D.nx } σ2 H2) (hd : ∀ σ H, Pv xs.length σ H → D.nx σ H) :
    ∃ W : Nat → Nat → St → Hp → Prop, (∃ m, W 0 m σ H) ∧ ∀ i m σ H, W i m σ H →
      ((Ite K a).stop i H ∧ D.nx σ H) ∨ ((Ite K a).go i H ∧ ∃ N : St → Hp → Prop, (∀ σ' H', N σ' H' → ∃ m', m' < m ∧ W (i + 1) m' σ' H') ∧ ∀ x H', (Ite K a).yld i H x H' → g x σ H' fun σ2 H2 => tb { D with nx := N, ct := N, bk := D.nx } σ2 H2) := by
  refine ⟨fun i m σ H => m = xs.length - i ∧ i ≤ xs.length ∧ Pv i σ H, ⟨xs.length, by simp, Nat.zero_le _, h0⟩, ?_⟩
  rintro i m σ H ⟨rfl, hi, p⟩
  have q := hl i σ H hi p
  by_cases hlt : i < xs.length
  · refine .inr ⟨⟨xs, xs[i], q, by simp [hlt]⟩, Pv (i + 1), fun σ' H' p' => ⟨xs.length - (i + 1), by omega, rfl, hlt, p'⟩, fun x H' y => ?_⟩
    obtain ⟨t, y', e, ht, e', hy⟩ := y
    subst e e'
    exact hs i y' σ _ t (hy xs q) p ht
  · have e : i = xs.length := by omega
    subst e
    exact .inl ⟨⟨xs, q, Nat.le_refl _⟩, hd σ H p⟩
end L2
namespace L2
open PySem PySem.Spec PyProof.Rows
/-- a comprehension over enumerate of a list -/
theorem comp_enum {K : PySem.W.Frag} {a D : Addr} {xs : List V} {g : TG} {tf : TT} {te : TE} {R : Hp → Prop} {σ : St} {H : Hp} (Pv : Nat → St → Hp → Prop) (h0 : Pv 0 σ H) (hl : ∀ i σ H, i ≤ xs.length → Pv i σ H → SqL K H a xs)
    (hs : ∀ (i : Nat) x σ H t, xs[i]? = some x → Pv i σ H → H t = none → g (.ref t) σ (upd H t (.tup [.int (i : Int), x])) fun σ2 H2 => tf σ2 H2 fun ok H3 => if ok = true then te σ2 H3 fun v H4 => ∃ ys, H4 D = some (.lst ys) ∧ ys.length < sizeLine ∧ Pv (i + 1) σ2 (upd H4 D (.lst (ys ++ [v]))) else Pv (i + 1) σ2 H3) (hd : ∀ σ H, Pv xs.length σ H → R H) :
    tCompL (Ite K a) g tf te D R σ H := by
  refine ⟨fun i m σ H => m = xs.length - i ∧ i ≤ xs.length ∧ Pv i σ H, ⟨xs.length, by simp, Nat.zero_le _, h0⟩, ?_⟩
  rintro i m σ H ⟨rfl, hi, p⟩
  have q := hl i σ H hi p
  by_cases hlt : i < xs.length
  · refine .inr ⟨⟨xs, xs[i], q, by simp [hlt]⟩, Pv (i + 1), fun σ' H' p' => ⟨xs.length - (i + 1), by omega, rfl, hlt, p'⟩, fun x H' y => ?_⟩
    obtain ⟨t, y', e, ht, e', hy⟩ := y
    subst e e'
    exact hs i y' σ _ t (hy xs q) p ht
  · have e : i = xs.length := by omega
    subst e
    exact .inl ⟨⟨xs, q, Nat.le_refl _⟩, hd σ H p⟩
theorem pg_tupK {X : Cx} {K : PySem.W.Frag} {es : List Expr} {k : Nat} {pos : Pos} {t : TGs} {n : Nat} (hK : X.K = K) (hc : X.calm = true) (h : PGs X es t)
    (hn : (assignEach es X.env).length = n := by rfl) (hst : (assignEach es X.env).findIdx? (·.1) = none := by rfl) : PG X (.Tuple es k pos) (gTup K n t) := by
  subst hK
  exact pg_tup hc h hn hst
end L2

set_option Elab.async false
set_option linter.all false
set_option maxRecDepth 100000
set_option maxHeartbeats 4000000
namespace L2
open PySem PySem.Spec PyProof.Rows PySem.SeqAt

/-! ### != of things that may be an empty dict, held against itself -/
def rNeX : R2 := fun x y H Q => (∃ b, RcD H x y b ∧ Q (.bl (!b)) H) ∨ (∃ a, x = .ref a ∧ y = .ref a ∧ H a = some (.dK []) ∧ Q (.bl false) H)
theorem op_neX {X : Cx} (hu : X.A.units + 64 < cLine) : OpR X (compareOp .NotEq) rNeX := by
  intro pins s σ H x y v u Q I rx ry h
  rcases h with h | ⟨a, rfl, rfl, ha, q⟩
  · exact op_neD hu pins s σ H x y v u Q I rx ry h
  · cases rx; cases ry
    obtain ⟨_, hs, vs, hk, hd⟩ := I.hok a _ ha
    have e : vs = [] := by cases hk; rfl
    subst e
    exact PySem.W.keq_ne (r := true) hs hs hd hd (by omega) (fun _ => .nil) ⟨.bl false, H, I, rfl, q⟩
end L2

set_option Elab.async false
set_option linter.all false
set_option maxRecDepth 100000
set_option maxHeartbeats 4000000
namespace My
open PySem L2
/-! what is said of values -/
def wholeV : V → Bool
  | .int _ => true
  | _ => false
def withinV (l m : Int) : V → Bool
  | .int i => decide (l ≤ i) && decide (i ≤ m)
  | _ => false
def numV : V → Bool := withinV 0 1000000000000000000
theorem kind_int {H : Hp} {x : V} {t : String} (h : kindS H x = some t) : subT t "int" = (wholeV x || (match x with | .bl _ => true | _ => false)) := by
  cases x with
  | ref b =>
    unfold kindS at h
    dsimp only at h
    split at h <;> cases h <;> rfl
  | _ => cases h <;> rfl
theorem kind_bool {H : Hp} {x : V} {t : String} (h : kindS H x = some t) : subT t "bool" = (match x with | .bl _ => true | _ => false) := by
  cases x with
  | ref b =>
    unfold kindS at h
    dsimp only at h
    split at h <;> cases h <;> rfl
  | _ => cases h <;> rfl
/-! the bag of draws: what a drawer leaves of it -/
def bagL (x y z : Int) (L : Addr) : HO := .lst [.int x, .int y, .int z, .ref L]
structure BagAt (H : Hp) (p : Addr) (x y z : Int) (L : Addr) (ns : List Int) : Prop where
  at_ : H p = some (bagL x y z L)
  li : H L = some (.lst (ns.map V.int))
  x0 : 0 ≤ x
  y0 : 0 ≤ y
  y1 : y < 2147483647
  z0 : 0 ≤ z
  nn : ∀ n ∈ ns, 0 ≤ n
def Bag (H : Hp) (p L : Addr) : Prop := ∃ x y z ns, BagAt H p x y z L ns
theorem bag_ne {L : Addr} {x y z : Int} {ns : List Int} : HO.lst (ns.map V.int) ≠ bagL x y z L := by
  intro e
  have e : ns.map V.int = [.int x, .int y, .int z, .ref L] := HO.lst.inj e
  match ns, e with
  | [_, _, _, _], e => simp at e
theorem BagAt.ne {H : Hp} {p L : Addr} {x y z : Int} {ns : List Int} (B : BagAt H p x y z L ns) : L ≠ p := ne_of B.li B.at_ bag_ne
theorem Bag.keep {H H' : Hp} {p L : Addr} (B : Bag H p L) (h1 : H' p = H p) (h2 : H' L = H L) : Bag H' p L := by
  obtain ⟨x, y, z, ns, B⟩ := B
  exact ⟨x, y, z, ns, h1.trans B.at_, h2.trans B.li, B.x0, B.y0, B.y1, B.z0, B.nn⟩
theorem Bag.same {H H' : Hp} {p L : Addr} (B : Bag H p L) (s : Same H H') : Bag H' p L := by
  obtain ⟨x, y, z, ns, B⟩ := B
  exact ⟨x, y, z, ns, s _ _ B.at_, s _ _ B.li, B.x0, B.y0, B.y1, B.z0, B.nn⟩
/-- the bag is drawn from: only the bag's own list is written -/
def spLbag (K : PySem.W.Frag) : Sp := fun vs H Q _ => ∃ (l : Addr) (ns : List Int), vs = [.ref l] ∧ SqL K H l (ns.map V.int) ∧ ns.length ≤ 63 ∧
  ∀ p L H', H p = none → H L = none → Same H H' → Bag H' p L → Q (.ref p) H'
def spLtake : Sp := fun vs H Q _ => ∃ (p L : Addr) (m : Int), vs = [.ref p, .int m] ∧ Bag H p L ∧ 0 < m ∧ m < 2 ^ 200 ∧
  ∀ (v : Int) (H' : Hp), 0 ≤ v → v < m → Bag H' p L → OnlyAt p H H' → Q (.int v) H'
/-- the law's promise: of a list of at most 63 ints True comes out -/
def spLaw (K : PySem.W.Frag) : Sp := fun vs H Q _ => ∃ (l : Addr) (ns : List Int), vs = [.ref l] ∧ SqL K H l (ns.map V.int) ∧ ns.length ≤ 63 ∧ ∀ H', Q (.bl true) H'
theorem Bag.ne {H : Hp} {p L : Addr} (B : Bag H p L) : L ≠ p := by
  obtain ⟨x, y, z, ns, B⟩ := B
  exact B.ne
theorem Bag.new {H : Hp} {p L q : Addr} {u : HO} (B : Bag H p L) (h : H q = none) : Bag (upd H q u) p L := B.same (Same.new h)
theorem Bag.neq {H : Hp} {p L q : Addr} (B : Bag H p L) (h : H q = none) : q ≠ p ∧ q ≠ L := by
  obtain ⟨x, y, z, ns, B⟩ := B
  exact ⟨(ne_of_none B.at_ h).symm, (ne_of_none B.li h).symm⟩
/-! kinds that stay -/
theorem kind_same {H H' : Hp} {x : V} {t : String} (h : kindS H x = some t) (s : Same H H') : kindS H' x = some t := by
  cases x with
  | ref a =>
    unfold kindS at h ⊢
    dsimp only at h ⊢
    split at h
    · rename_i e; rw [s _ _ e]; exact h
    · rename_i e; rw [s _ _ e]; exact h
    · rename_i e; rw [s _ _ e]; exact h
    · rename_i e; rw [s _ _ e]; exact h
    · cases h
  | _ => exact h
/-- a thing whose kind is known, and the kinds of what a tuple holds -/
def KnD (H : Hp) (y : V) : Prop := ∃ t, kindS H y = some t ∧ (∀ a xs, y = .ref a → H a = some (.tup xs) → ∀ z ∈ xs, ∃ t', kindS H z = some t') ∧ ∀ a o u, y = .ref a → H a ≠ some (.frz o u)
def pairX : List V → Bool
  | [x, y] => numV x && numV y
  | _ => false
def pairB (H : Hp) : V → Bool
  | .ref a => match H a with
    | some (.tup xs) => pairX xs
    | _ => false
  | _ => false
theorem pairB_tup {H : Hp} {a : Addr} {xs : List V} (e : H a = some (.tup xs)) : pairB H (.ref a) = pairX xs := by
  unfold pairB; dsimp only; rw [e]
theorem pairB_same {H H' : Hp} {y : V} (k : KnD H y) (s : Same H H') : pairB H' y = pairB H y := by
  obtain ⟨t, hk, _, hf⟩ := k
  cases y with
  | ref a =>
    unfold kindS at hk
    dsimp only at hk
    unfold pairB
    dsimp only
    split at hk
    · rename_i e; rw [s _ _ e, e]
    · rename_i e; rw [s _ _ e, e]
    · rename_i e; rw [s _ _ e, e]
    · rename_i e; rw [s _ _ e, e]
    · cases hk
  | _ => rfl
theorem KnD.same {H H' : Hp} {y : V} (k : KnD H y) (s : Same H H') : KnD H' y := by
  obtain ⟨t, hk, hz, hf⟩ := k
  refine ⟨t, kind_same hk s, fun a xs ea e z hz' => ?_, fun a o u ea e => ?_⟩
  · subst ea
    unfold kindS at hk
    dsimp only at hk
    split at hk
    · rename_i e'; rw [s _ _ e'] at e; cases e
    · rename_i xs' e'
      rw [s _ _ e'] at e; cases e
      obtain ⟨t', k'⟩ := hz a _ rfl e' z hz'
      exact ⟨t', kind_same k' s⟩
    · rename_i e'; rw [s _ _ e'] at e; cases e
    · rename_i e'; rw [s _ _ e'] at e; cases e
    · cases hk
  · subst ea
    unfold kindS at hk
    dsimp only at hk
    split at hk
    · rename_i e'; rw [s _ _ e'] at e; cases e
    · rename_i e'; rw [s _ _ e'] at e; cases e
    · rename_i e'; rw [s _ _ e'] at e; cases e
    · rename_i e'; exact hf a _ _ rfl e'
    · cases hk
/-! homes: pairs of numbers -/
abbrev Pr := List (Int × Int)
def kvsOf (ps : Pr) : List (Key × V) := ps.map fun p => (Sum.inl p.1, V.int p.2)
def PairsI (H : Hp) (ys : List V) (ps : Pr) : Prop := Paired (fun y (p : Int × Int) => ∃ t, y = .ref t ∧ H t = some (.tup [.int p.1, .int p.2])) ys ps
def isNum (n : Int) : Prop := 0 ≤ n ∧ n ≤ 1000000000000000000
theorem num_iff {n : Int} : numV (.int n) = true ↔ isNum n := by
  show (decide (0 ≤ n) && decide (n ≤ 1000000000000000000)) = true ↔ _
  rw [Bool.and_eq_true, decide_eq_true_eq, decide_eq_true_eq]; exact Iff.rfl
theorem num_int {x : V} (h : numV x = true) : ∃ n, x = .int n ∧ isNum n := by
  cases x with
  | int n => exact ⟨n, rfl, num_iff.mp h⟩
  | _ => exact absurd (show false = true from h) Bool.false_ne_true
structure GoodPs (ps : Pr) : Prop where
  len : ps.length ≤ 64
  nd : (ps.map (·.1)).Nodup
  nums : ∀ p ∈ ps, isNum p.1 ∧ isNum p.2
theorem PairsI.same {H H' : Hp} {ys : List V} {ps : Pr} (h : PairsI H ys ps) (s : Same H H') : PairsI H' ys ps := Paired.imp' (fun _ _ ⟨t, e, q⟩ => ⟨t, e, s _ _ q⟩) h
theorem PairsI.keys {H : Hp} {ys : List V} {ps : Pr} (h : PairsI H ys ps) : PairsIn H ys (kvsOf ps) := by
  unfold PairsI at h
  induction h with
  | nil => exact .nil
  | cons a _ ih => exact .cons a ih
theorem pairX_iff {xs : List V} : pairX xs = true ↔ ∃ k m, xs = [.int k, .int m] ∧ isNum k ∧ isNum m := by
  match xs with
  | [] => exact ⟨fun h => absurd (show false = true from h) Bool.false_ne_true, fun ⟨_, _, h, _⟩ => by cases h⟩
  | [_] => exact ⟨fun h => absurd (show false = true from h) Bool.false_ne_true, fun ⟨_, _, h, _⟩ => by cases h⟩
  | [x, y] =>
    show (numV x && numV y) = true ↔ _
    rw [Bool.and_eq_true]
    constructor
    · rintro ⟨h1, h2⟩
      obtain ⟨k, rfl, hk⟩ := num_int h1
      obtain ⟨m, rfl, hm⟩ := num_int h2
      exact ⟨k, m, rfl, hk, hm⟩
    · rintro ⟨k, m, e, hk, hm⟩
      cases e
      exact ⟨num_iff.mpr hk, num_iff.mpr hm⟩
  | _ :: _ :: _ :: _ => exact ⟨fun h => absurd (show false = true from h) Bool.false_ne_true, fun ⟨_, _, h, _⟩ => by cases h⟩
theorem pairB_iff {H : Hp} {y : V} : pairB H y = true ↔ ∃ t k m, y = .ref t ∧ H t = some (.tup [.int k, .int m]) ∧ isNum k ∧ isNum m := by
  cases y with
  | ref a =>
    constructor
    · intro h
      unfold pairB at h
      dsimp only at h
      split at h
      · rename_i xs e
        obtain ⟨k, m, rfl, hk, hm⟩ := pairX_iff.mp h
        exact ⟨a, k, m, rfl, e, hk, hm⟩
      · exact absurd h Bool.false_ne_true
    · rintro ⟨t, k, m, e, h, hk, hm⟩
      cases e
      rw [pairB_tup h]
      exact pairX_iff.mpr ⟨k, m, rfl, hk, hm⟩
  | _ => exact ⟨fun h => absurd (show false = true from h) Bool.false_ne_true, fun ⟨_, _, _, h, _⟩ => by cases h⟩
theorem pairs_of {H : Hp} : ∀ {ys : List V}, (∀ y ∈ ys, pairB H y = true) → ∃ ps : Pr, PairsI H ys ps ∧ ∀ p ∈ ps, isNum p.1 ∧ isNum p.2
  | [], _ => ⟨[], .nil, fun p h => by simp at h⟩
  | y :: r, h => by
    obtain ⟨ps, h1, h2⟩ := pairs_of fun z hz => h z (List.mem_cons_of_mem _ hz)
    obtain ⟨t, k, m, e, ht, hk, hm⟩ := pairB_iff.mp (h y List.mem_cons_self)
    refine ⟨(k, m) :: ps, .cons ⟨t, e, ht⟩ h1, fun p hp => ?_⟩
    rcases List.mem_cons.mp hp with rfl | hp
    · exact ⟨hk, hm⟩
    · exact h2 p hp
theorem PairsI.ok {H : Hp} {ys : List V} {ps : Pr} (h : PairsI H ys ps) (hn : ∀ p ∈ ps, isNum p.1 ∧ isNum p.2) : ∀ y ∈ ys, pairB H y = true := by
  unfold PairsI at h
  induction h with
  | nil => intro y hy; simp at hy
  | @cons y p _ _ hy _ ih =>
    intro z hz
    rcases List.mem_cons.mp hz with rfl | hz
    · obtain ⟨t, e, ht⟩ := hy
      obtain ⟨h1, h2⟩ := hn p List.mem_cons_self
      exact pairB_iff.mpr ⟨t, p.1, p.2, e, ht, h1, h2⟩
    · exact ih (fun q hq => hn q (List.mem_cons_of_mem _ hq)) z hz
theorem PairsI.inj {H : Hp} {ys : List V} {ps qs : Pr} (h : PairsI H ys ps) (h' : PairsI H ys qs) : ps = qs := by
  unfold PairsI at h h'
  induction h generalizing qs with
  | nil => cases h'; rfl
  | @cons y p _ _ hy _ ih =>
    cases h' with
    | @cons _ q _ _ hq hr =>
      obtain ⟨t, e, ht⟩ := hy
      obtain ⟨t', e', ht'⟩ := hq
      rw [e] at e'
      cases e'
      rw [ht] at ht'
      have e1 : p = q := by
        obtain ⟨a, b⟩ := p
        obtain ⟨c, d⟩ := q
        simp only [Option.some.injEq, HO.tup.injEq, List.cons.injEq, V.int.injEq, and_true] at ht'
        rw [ht'.1, ht'.2]
      rw [e1, ih hr]
theorem PairsI.get {H : Hp} {ys : List V} {ps : Pr} (h : PairsI H ys ps) {i : Nat} {y : V} (hi : ys[i]? = some y) : ∃ p t, ps[i]? = some p ∧ y = .ref t ∧ H t = some (.tup [.int p.1, .int p.2]) := by
  unfold PairsI at h
  induction h generalizing i with
  | nil => simp at hi
  | @cons z p _ _ hz _ ih =>
    cases i with
    | zero =>
      have : z = y := by simpa using hi
      subst this
      obtain ⟨t, e, ht⟩ := hz
      exact ⟨p, t, rfl, e, ht⟩
    | succ i => exact ih (by simpa using hi)
theorem PairsI.len {H : Hp} {ys : List V} {ps : Pr} (h : PairsI H ys ps) : ys.length = ps.length := Paired.length h
theorem PairsI.refs {H : Hp} {ys : List V} {ps : Pr} (h : PairsI H ys ps) : ∀ y ∈ ys, ∃ t, y = .ref t := by
  unfold PairsI at h
  induction h with
  | nil => intro y hy; simp at hy
  | cons a _ ih =>
    intro y hy
    rcases List.mem_cons.mp hy with rfl | hy
    · obtain ⟨t, e, _⟩ := a; exact ⟨t, e⟩
    · exact ih y hy
theorem putK_kvs {ps : Pr} {k m : Int} (h : ¬ k ∈ ps.map (·.1)) : putK (kvsOf ps) (Sum.inl k : Key) (V.int m) = kvsOf (ps ++ [(k, m)]) := by
  unfold putK
  rw [if_neg]
  · unfold kvsOf; rw [List.map_append]; rfl
  · intro e
    obtain ⟨q, hq, e⟩ := List.any_eq_true.mp e
    obtain ⟨r, hr, rfl⟩ := List.mem_map.mp hq
    have e : (Sum.inl r.1 : Key) = Sum.inl k := of_decide_eq_true e
    exact h (List.mem_map.mpr ⟨r, hr, Sum.inl.inj e⟩)
theorem merge_go : ∀ (qs ps : Pr), ((ps ++ qs).map (·.1)).Nodup → mergeK (kvsOf ps) (kvsOf qs) = kvsOf (ps ++ qs)
  | [], ps, _ => by rw [List.append_nil]; rfl
  | q :: qs, ps, h => by
    show mergeK (putK (kvsOf ps) (Sum.inl q.1 : Key) (V.int q.2)) (kvsOf qs) = _
    have hn : ¬ q.1 ∈ ps.map (·.1) := by
      rw [List.map_append, List.map_cons, List.nodup_append] at h
      exact fun z => h.2.2 _ z _ List.mem_cons_self rfl
    rw [putK_kvs hn, merge_go qs (ps ++ [(q.1, q.2)]) (by rw [List.append_assoc]; exact h), List.append_assoc]
    rfl
theorem merge_kvs {ps : Pr} (h : (ps.map (·.1)).Nodup) : mergeK [] (kvsOf ps) = kvsOf ps := merge_go ps [] h
theorem val_kvs (k : Int) : ∀ ps : Pr, valV (kvsOf ps) (Sum.inl k : Key) = (ps.lookup k).map V.int
  | [] => rfl
  | (p, m) :: r => by
    show valV ((Sum.inl p, V.int m) :: kvsOf r) _ = _
    by_cases e : p = k
    · rw [valV_pos (by rw [e])]
      subst e
      simp [List.lookup_cons]
    · rw [valV_neg (fun z => e (Sum.inl.inj z)), val_kvs k r]
      have : (k == p) = false := by simpa using fun z => e z.symm
      simp only [List.lookup_cons, this]
/-! where a key is at home, how far it is, who goes ahead -/
def homeOf (n : Int) (ps : Pr) (k : Int) : Int := ((ps.lookup k).getD k) % n
def farOf (n : Int) (wr : Bool) (ps : Pr) (k r : Int) : Option Int :=
  if wr then some ((r - homeOf n ps k) % n) else if 0 ≤ r - homeOf n ps k then some (r - homeOf n ps k) else none
def farV : Option Int → V
  | some f => .int f
  | none => .non
def aheadOf (n : Int) (wr : Bool) (ps : Pr) (r one other : Int) : Bool :=
  match farOf n wr ps one r, farOf n wr ps other r with
  | none, _ => false
  | some _, none => true
  | some x, some y => decide (y < x) || (decide (x = y) && decide (one < other))
theorem home_nn {n : Int} (h : 1 ≤ n) (ps : Pr) (k : Int) : 0 ≤ homeOf n ps k ∧ homeOf n ps k < n := ⟨Int.emod_nonneg _ (by omega), Int.emod_lt_of_pos _ (by omega)⟩
/-! a plan, as it lies -/
def flds (n : Int) (wr : Bool) (hl hd : Addr) : List (Str × V) := putF "home_numbers" (.ref hd) (putF "homes" (.ref hl) (putF "wraps" (.bl wr) (putF "rooms" (.int n) [])))
theorem nrw : ¬ (("wraps" : Str) = "rooms") := by decide +kernel
theorem nhr : ¬ (("homes" : Str) = "rooms") := by decide +kernel
theorem nhw : ¬ (("homes" : Str) = "wraps") := by decide +kernel
theorem nnr : ¬ (("home_numbers" : Str) = "rooms") := by decide +kernel
theorem nnw : ¬ (("home_numbers" : Str) = "wraps") := by decide +kernel
theorem nnh : ¬ (("home_numbers" : Str) = "homes") := by decide +kernel
theorem flds_rooms (n : Int) (wr : Bool) (hl hd : Addr) : (flds n wr hl hd).lookup ("rooms" : Str) = some (.int n) := by
  unfold flds
  rw [lookup_putF, if_neg fun z => nnr z.symm, lookup_putF, if_neg fun z => nhr z.symm, lookup_putF, if_neg fun z => nrw z.symm, lookup_putF, if_pos rfl]
theorem flds_wraps (n : Int) (wr : Bool) (hl hd : Addr) : (flds n wr hl hd).lookup ("wraps" : Str) = some (.bl wr) := by
  unfold flds
  rw [lookup_putF, if_neg fun z => nnw z.symm, lookup_putF, if_neg fun z => nhw z.symm, lookup_putF, if_pos rfl]
theorem flds_homes (n : Int) (wr : Bool) (hl hd : Addr) : (flds n wr hl hd).lookup ("homes" : Str) = some (.ref hl) := by
  unfold flds
  rw [lookup_putF, if_neg fun z => nnh z.symm, lookup_putF, if_pos rfl]
theorem flds_numbers (n : Int) (wr : Bool) (hl hd : Addr) : (flds n wr hl hd).lookup ("home_numbers" : Str) = some (.ref hd) := by
  unfold flds
  rw [lookup_putF, if_pos rfl]
theorem flds_no (n : Int) (wr : Bool) (hl hd : Addr) {m : Str} (h1 : ¬ m = "home_numbers") (h2 : ¬ m = "homes") (h3 : ¬ m = "wraps") (h4 : ¬ m = "rooms") : (flds n wr hl hd).lookup m = none := by
  unfold flds
  rw [lookup_putF, if_neg h1, lookup_putF, if_neg h2, lookup_putF, if_neg h3, lookup_putF, if_neg h4]
  rfl
structure PlanAt (H : Hp) (C p : Addr) (n : Int) (wr : Bool) (ys : List V) (ps : Pr) : Prop where
  ob : ∃ dx hl hd, H p = some (.ins C dx (flds n wr hl hd)) ∧ H hl = some (.lst ys) ∧ H hd = some (.dK (kvsOf ps))
  n1 : 1 ≤ n
  n2 : n ≤ 64
  refs : ∀ y ∈ ys, ∃ t, y = .ref t
structure PlanX (H : Hp) (C p dx hl hd : Addr) (n : Int) (wr : Bool) (ys : List V) (ps : Pr) : Prop where
  ob : H p = some (.ins C dx (flds n wr hl hd))
  ol : H hl = some (.lst ys)
  od : H hd = some (.dK (kvsOf ps))
  n1 : 1 ≤ n
  n2 : n ≤ 64
  refs : ∀ y ∈ ys, ∃ t, y = .ref t
theorem PlanX.plan {H : Hp} {C p dx hl hd : Addr} {n : Int} {wr : Bool} {ys : List V} {ps : Pr} (P : PlanX H C p dx hl hd n wr ys ps) : PlanAt H C p n wr ys ps := ⟨⟨dx, hl, hd, P.ob, P.ol, P.od⟩, P.n1, P.n2, P.refs⟩
theorem PlanX.same {H H' : Hp} {C p dx hl hd : Addr} {n : Int} {wr : Bool} {ys : List V} {ps : Pr} (P : PlanX H C p dx hl hd n wr ys ps) (s : Same H H') : PlanX H' C p dx hl hd n wr ys ps := ⟨s _ _ P.ob, s _ _ P.ol, s _ _ P.od, P.n1, P.n2, P.refs⟩
theorem PlanX.keep {H H' : Hp} {C p dx hl hd b : Addr} {n : Int} {wr : Bool} {ys : List V} {ps : Pr} (P : PlanX H C p dx hl hd n wr ys ps) (n1 : p ≠ b) (n2 : hl ≠ b) (n3 : hd ≠ b) (k : KeepBut b H H') : PlanX H' C p dx hl hd n wr ys ps := ⟨k _ _ n1 P.ob, k _ _ n2 P.ol, k _ _ n3 P.od, P.n1, P.n2, P.refs⟩
theorem PlanAt.same {H H' : Hp} {C p : Addr} {n : Int} {wr : Bool} {ys : List V} {ps : Pr} (P : PlanAt H C p n wr ys ps) (s : Same H H') : PlanAt H' C p n wr ys ps := by
  obtain ⟨⟨dx, hl, hd, h1, h2, h3⟩, n1, n2, rf⟩ := P
  exact ⟨⟨dx, hl, hd, s _ _ h1, s _ _ h2, s _ _ h3⟩, n1, n2, rf⟩
theorem bag_refs {H : Hp} {b L l : Addr} {ys : List V} (B : Bag H b L) (h : H l = some (.lst ys)) (rf : ∀ y ∈ ys, ∃ t, y = .ref t) : l ≠ b := by
  obtain ⟨x, y, z, ns, B⟩ := B
  refine ne_of h B.at_ fun e => ?_
  have e : ys = [.int x, .int y, .int z, .ref L] := HO.lst.inj e
  obtain ⟨t, q⟩ := rf (.int x) (by rw [e]; exact List.mem_cons_self)
  cases q
theorem PlanX.draw {H H' : Hp} {C p dx hl hd b L : Addr} {n : Int} {wr : Bool} {ys : List V} {ps : Pr} (P : PlanX H C p dx hl hd n wr ys ps) (B : Bag H b L) (k : KeepBut b H H') : PlanX H' C p dx hl hd n wr ys ps := by
  have n2' := bag_refs B P.ol P.refs
  obtain ⟨x, y, z, ns, B⟩ := B
  exact P.keep (ne_of P.ob B.at_ (by intro z; cases z)) n2' (ne_of P.od B.at_ (by intro z; cases z)) k
theorem PlanAt.keep {H H' : Hp} {C p b L : Addr} {n : Int} {wr : Bool} {ys : List V} {ps : Pr} (P : PlanAt H C p n wr ys ps) (B : Bag H b L) (k : KeepBut b H H') : PlanAt H' C p n wr ys ps := by
  obtain ⟨⟨dx, hl, hd, h1, h2, h3⟩, n1, n2, rf⟩ := P
  have n2' := bag_refs B h2 rf
  obtain ⟨x, y, z, ns, B⟩ := B
  exact ⟨⟨dx, hl, hd, k _ _ (ne_of h1 B.at_ (by intro z; cases z)) h1, k _ _ n2' h2, k _ _ (ne_of h3 B.at_ (by intro z; cases z)) h3⟩, n1, n2, rf⟩
/-! a case of the law's own: rooms, wrapping, homes -/
structure CaseAt (H : Hp) (c l : Addr) (n : Int) (wr : Bool) (ys : List V) (ps : Pr) : Prop where
  ca : H c = some (.lst [.int n, .bl wr, .ref l])
  li : H l = some (.lst ys)
  pr : PairsI H ys ps
  n1 : 1 ≤ n
  n2 : n ≤ 64
theorem CaseAt.same {H H' : Hp} {c l : Addr} {n : Int} {wr : Bool} {ys : List V} {ps : Pr} (P : CaseAt H c l n wr ys ps) (s : Same H H') : CaseAt H' c l n wr ys ps :=
  ⟨s _ _ P.ca, s _ _ P.li, P.pr.same s, P.n1, P.n2⟩
theorem PairsI.keep {H H' : Hp} {b L : Addr} {ys : List V} {ps : Pr} (h : PairsI H ys ps) (B : Bag H b L) (k : KeepBut b H H') : PairsI H' ys ps := by
  obtain ⟨x, y, z, ns, B⟩ := B
  exact Paired.imp' (fun _ _ ⟨t, e, q⟩ => ⟨t, e, k _ _ (ne_of q B.at_ (by intro z; cases z)) q⟩) h
theorem CaseAt.neb {H : Hp} {c l b L : Addr} {n : Int} {wr : Bool} {ys : List V} {ps : Pr} (P : CaseAt H c l n wr ys ps) (B : Bag H b L) : c ≠ b ∧ l ≠ b := by
  refine ⟨?_, bag_refs B P.li P.pr.refs⟩
  obtain ⟨x, y, z, ns, B⟩ := B
  refine ne_of P.ca B.at_ fun e => ?_
  have e : [V.int n, .bl wr, .ref l] = [.int x, .int y, .int z, .ref L] := HO.lst.inj e
  simp at e
theorem CaseAt.keep {H H' : Hp} {c l b L : Addr} {n : Int} {wr : Bool} {ys : List V} {ps : Pr} (P : CaseAt H c l n wr ys ps) (B : Bag H b L) (k : KeepBut b H H') : CaseAt H' c l n wr ys ps :=
  ⟨k _ _ (P.neb B).1 P.ca, k _ _ (P.neb B).2 P.li, P.pr.keep B k, P.n1, P.n2⟩
theorem CaseAt.ncl {H : Hp} {c l : Addr} {n : Int} {wr : Bool} {ys : List V} {ps : Pr} (P : CaseAt H c l n wr ys ps) : c ≠ l := by
  refine ne_of P.ca P.li fun e => ?_
  have e : [V.int n, .bl wr, .ref l] = ys := HO.lst.inj e
  obtain ⟨t, q⟩ := P.pr.refs (.int n) (by rw [← e]; exact List.mem_cons_self)
  cases q
/-- a key as the law draws it -/
def lawKey (k : Int) : Prop := (0 ≤ k ∧ k ≤ 70000000000000000) ∨ (999999999999999000 ≤ k ∧ k ≤ 1000000000000000000)
theorem lawKey.num {k : Int} (h : lawKey k) : isNum k := by rcases h with h | h <;> exact ⟨by omega, by omega⟩
/-! ints in lists -/
theorem flat_ints (ks : List Int) : (ks.map V.int).all flatV = true := by
  rw [List.all_eq_true]
  intro x hx
  obtain ⟨k, _, rfl⟩ := List.mem_map.mp hx
  rfl
theorem inV_ints (k : Int) (ks : List Int) : inV (.int k) (ks.map V.int) = decide (k ∈ ks) := by
  unfold inV
  rw [List.any_map, Bool.eq_iff_iff, List.any_eq_true, decide_eq_true_eq]
  constructor
  · rintro ⟨x, hx, e⟩
    have e : (x == k) = true := e
    rw [← beq_iff_eq.mp e]; exact hx
  · intro h
    exact ⟨k, h, beq_self_eq_true k⟩
theorem cut_take (xs : List V) {j : Int} (h : 0 ≤ j) : cutV xs none (some j) = xs.take j.toNat := by
  unfold cutV
  have e : HT.sIx xs.length xs.length (some j) = min j.toNat xs.length := by
    have := HT.sIx_nat xs.length xs.length j.toNat
    rw [show ((j.toNat : Nat) : Int) = j by omega] at this
    exact this
  rw [e, HT.sIx_none, List.drop_zero, Nat.sub_zero]
  by_cases hj : j.toNat ≤ xs.length
  · rw [Nat.min_eq_left hj]
  · rw [Nat.min_eq_right (by omega), List.take_of_length_le (Nat.le_refl _), List.take_of_length_le (by omega)]
theorem PairsI.upd2 {H : Hp} {l t : Addr} {ys zs : List V} {ps : Pr} {a b : Int} (h : PairsI H ys ps) (hl : H l = some (.lst zs)) (ht : H t = none) (ws : List V) : PairsI (upd (upd H t (.tup [.int a, .int b])) l (.lst ws)) ys ps :=
  Paired.imp' (fun _ _ ⟨u, e, q⟩ => ⟨u, e, by rw [upd_ne (ne_of q hl (by intro z; cases z)), upd_ne (ne_of_none q ht)]; exact q⟩) h
theorem CaseAt.add {H : Hp} {c l t : Addr} {n : Int} {wr : Bool} {ys : List V} {ps : Pr} (P : CaseAt H c l n wr ys ps) (ht : H t = none) (a b : Int) :
    CaseAt (upd (upd H t (.tup [.int a, .int b])) l (.lst (ys ++ [.ref t]))) c l n wr (ys ++ [.ref t]) (ps ++ [(a, b)]) := by
  have ntl : t ≠ l := (ne_of_none P.li ht).symm
  refine ⟨by rw [upd_ne P.ncl, upd_ne (ne_of_none P.ca ht)]; exact P.ca, upd_same, ?_, P.n1, P.n2⟩
  exact Paired.snoc (P.pr.upd2 P.li ht _) ⟨t, rfl, by rw [upd_ne ntl, upd_same]⟩
theorem CaseAt.front {H : Hp} {c l t : Addr} {n : Int} {wr : Bool} {ys : List V} {ps : Pr} (P : CaseAt H c l n wr ys ps) (ht : H t = none) (a b : Int) :
    CaseAt (upd (upd H t (.tup [.int a, .int b])) l (.lst (.ref t :: ys))) c l n wr (.ref t :: ys) ((a, b) :: ps) := by
  have ntl : t ≠ l := (ne_of_none P.li ht).symm
  refine ⟨by rw [upd_ne P.ncl, upd_ne (ne_of_none P.ca ht)]; exact P.ca, upd_same, ?_, P.n1, P.n2⟩
  exact Paired.cons ⟨t, rfl, by rw [upd_ne ntl, upd_same]⟩ (P.pr.upd2 P.li ht _)
/-- what stands while the law draws its keys -/
structure KI (H H1 : Hp) (p L c l f hh : Addr) (n : Int) (wr : Bool) (g1 g2 : Int) (ks : List Int) (ys : List V) (ps : Pr) : Prop where
  bg : Bag H1 p L
  ca : CaseAt H1 c l n wr ys ps
  fo : H1 f = some (.lst (ks.map V.int))
  ho : H1 hh = some (.lst [.int g1, .int g2])
  nd : ks.Nodup
  lk : ∀ k ∈ ks, lawKey k
  kp : ∀ b o, b ≠ p → b ≠ l → H b = some o → H1 b = some o
section
variable {H H1 H2 : Hp} {p L c l f hh : Addr} {n : Int} {wr : Bool} {g1 g2 : Int} {ks : List Int} {ys : List V} {ps : Pr}
theorem KI.draw (I : KI H H1 p L c l f hh n wr g1 g2 ks ys ps) (nf : f ≠ p) (nh : hh ≠ p) (k : KeepBut p H1 H2) (B : Bag H2 p L) : KI H H2 p L c l f hh n wr g1 g2 ks ys ps :=
  ⟨B, I.ca.keep I.bg k, k _ _ nf I.fo, k _ _ nh I.ho, I.nd, I.lk, fun b o hb hb' e => k b o hb (I.kp b o hb hb' e)⟩
theorem KI.new {q : Addr} {u : HO} (I : KI H H1 p L c l f hh n wr g1 g2 ks ys ps) (h : H1 q = none) : KI H (upd H1 q u) p L c l f hh n wr g1 g2 ks ys ps :=
  ⟨I.bg.new h, I.ca.same (Same.new h), Same.new h _ _ I.fo, Same.new h _ _ I.ho, I.nd, I.lk, fun b o hb hb' e => Same.new h b o (I.kp b o hb hb' e)⟩
theorem KI.put {k : Int} (I : KI H H1 p L c l f hh n wr g1 g2 ks ys ps) (nfp : f ≠ p) (nfL : f ≠ L) (nfc : f ≠ c) (nfl : f ≠ l) (nfh : f ≠ hh) (hf : H f = none) (hk : lawKey k) (hn : ¬ k ∈ ks) :
    KI H (upd H1 f (.lst (ks.map V.int ++ [.int k]))) p L c l f hh n wr g1 g2 (ks ++ [k]) ys ps := by
  refine ⟨I.bg.keep (upd_ne nfp.symm) (upd_ne nfL.symm), ⟨by rw [upd_ne nfc.symm]; exact I.ca.ca, by rw [upd_ne nfl.symm]; exact I.ca.li, ?_, I.ca.n1, I.ca.n2⟩, by rw [upd_same, List.map_append]; rfl, by rw [upd_ne nfh.symm]; exact I.ho, nd_snoc I.nd hn, ?_, ?_⟩
  · exact Paired.imp' (fun _ _ ⟨t, e, q⟩ => ⟨t, e, by rw [upd_ne (ne_of q I.fo (by intro z; cases z))]; exact q⟩) I.ca.pr
  · intro x hx
    rcases List.mem_append.mp hx with hx | hx
    · exact I.lk x hx
    · rw [List.mem_singleton.mp hx]; exact hk
  · intro b o hb hb' e
    rw [upd_ne (ne_of_none e hf)]
    exact I.kp b o hb hb' e
theorem KI.add {t : Addr} (I : KI H H1 p L c l f hh n wr g1 g2 ks ys ps) (ht : H1 t = none) (nfl : f ≠ l) (nhl : hh ≠ l) (nLl : L ≠ l) (a b : Int) (zs : List V) (qs : Pr)
    (P : CaseAt (upd (upd H1 t (.tup [.int a, .int b])) l (.lst zs)) c l n wr zs qs) : KI H (upd (upd H1 t (.tup [.int a, .int b])) l (.lst zs)) p L c l f hh n wr g1 g2 ks zs qs := by
  have nb := I.ca.neb I.bg
  refine ⟨(I.bg.new ht).keep (upd_ne nb.2.symm) (upd_ne nLl), P, ?_, ?_, I.nd, I.lk, ?_⟩
  · rw [upd_ne nfl, upd_ne (ne_of_none I.fo ht)]; exact I.fo
  · rw [upd_ne nhl, upd_ne (ne_of_none I.ho ht)]; exact I.ho
  · intro x o hx hx' e
    have e1 := I.kp x o hx hx' e
    rw [upd_ne hx', upd_ne (ne_of_none e1 ht)]
    exact e1
end
/-- what the keys and homes are that the law has drawn -/
structure Drawn (ks : List Int) (ps : Pr) : Prop where
  len : ps.length ≤ 14
  nd : (ps.map (·.1)).Nodup
  key : ∀ q ∈ ps, q.1 ∈ ks ∨ (300000000000000000 ≤ q.1 ∧ q.1 ≤ 300000000000000200)
  num : ∀ q ∈ ps, lawKey q.2
theorem Drawn.good {ks : List Int} {ps : Pr} (D : Drawn ks ps) (h : ∀ k ∈ ks, lawKey k) : GoodPs ps := by
  refine ⟨by have := D.len; omega, D.nd, fun q hq => ⟨?_, (D.num q hq).num⟩⟩
  rcases D.key q hq with z | z
  · exact (h _ z).num
  · exact ⟨by omega, by omega⟩

theorem bag_ints {H : Hp} {b L f : Addr} {ks : List Int} (B : Bag H b L) (h : H f = some (.lst (ks.map V.int))) : f ≠ b := by
  obtain ⟨x, y, z, ns, B⟩ := B
  exact ne_of h B.at_ bag_ne
theorem KeepBut.upd {H : Hp} {q : Addr} {o : HO} : KeepBut q H (upd H q o) := fun b u hb e => by rw [upd_ne hb]; exact e
/-! kinds of things, each -/
theorem KnD.flat {H : Hp} {x : V} {t : String} (hk : kindS H x = some t) (nr : ∀ a, x ≠ .ref a) : KnD H x := ⟨t, hk, (fun b xs e => absurd e (nr b)), fun b o u e => absurd e (nr b)⟩
theorem KnD.lst {H : Hp} {b : Addr} {xs : List V} (e : H b = some (.lst xs)) : KnD H (.ref b) :=
  ⟨"list", kind_lst e, (fun b' xs' eb e' => by cases eb; rw [e] at e'; cases e'), fun b' o u eb e' => by cases eb; rw [e] at e'; cases e'⟩
theorem KnD.dK {H : Hp} {b : Addr} {xs : List (Key × V)} (e : H b = some (.dK xs)) : KnD H (.ref b) :=
  ⟨"dict", kind_dK e, (fun b' xs' eb e' => by cases eb; rw [e] at e'; cases e'), fun b' o u eb e' => by cases eb; rw [e] at e'; cases e'⟩
theorem KnD.tup {H : Hp} {b : Addr} {xs : List V} (e : H b = some (.tup xs)) (hz : ∀ z ∈ xs, ∃ t', kindS H z = some t') : KnD H (.ref b) :=
  ⟨"tuple", kind_tup e, (fun b' xs' eb e' z hz' => by cases eb; rw [e] at e'; cases e'; exact hz z hz'), fun b' o u eb e' => by cases eb; rw [e] at e'; cases e'⟩
theorem KnD.kind {H : Hp} {x : V} (h : KnD H x) : ∃ t, kindS H x = some t := let ⟨t, e, _⟩ := h; ⟨t, e⟩
theorem KnD.nf {H : Hp} {x : V} (h : KnD H x) : ∀ a o u, x = .ref a → H a ≠ some (.frz o u) := let ⟨_, _, _, e⟩ := h; e
/-- what an odd thing is: no number but perhaps these -/
structure OddV (H : Hp) (f : Int) (x : V) : Prop where
  kn : KnD H x
  st : ∀ b, x = .str b → b = "3" ∨ b = ""
  it : ∀ i, x = .int i → i = -1 ∨ i = -1 - f ∨ i = f ∨ i = 1000000000000000001 ∨ i = 1000000000000000001 + f
theorem OddV.other {H : Hp} {f : Int} {x : V} (kn : KnD H x) (h1 : ∀ b, x ≠ .str b) (h2 : ∀ i, x ≠ .int i) : OddV H f x := ⟨kn, fun b e => absurd e (h1 b), fun i e => absurd e (h2 i)⟩
theorem OddV.int {H : Hp} {f i : Int} (h : i = -1 ∨ i = -1 - f ∨ i = f ∨ i = 1000000000000000001 ∨ i = 1000000000000000001 + f) : OddV H f (.int i) := ⟨KnD.flat rfl (fun _ z => nomatch z), fun b e => (by cases e), fun j e => by cases e; exact h⟩
theorem OddV.str {H : Hp} {f : Int} {b : Str} (h : b = "3" ∨ b = "") : OddV H f (.str b) := ⟨KnD.flat rfl (fun _ z => nomatch z), fun c e => (by cases e; exact h), fun j e => by cases e⟩
theorem OddV.not {H : Hp} {x : V} (h : OddV H 100000000000000000000 x) : numV x = false := by
  cases x with
  | int i =>
    have : ¬ isNum i := fun hn => by
      have h0 := hn.1
      have h1 := hn.2
      rcases h.it i rfl with z | z | z | z | z <;> omega
    cases e : numV (.int i) with
    | false => rfl
    | true => exact absurd (num_iff.mp e) this
  | _ => rfl
/-- the fifteen odd things -/
theorem odd15 {H : Hp} {f : Int} {a1 a2 a3 a4 a5 : Addr} (f1 : H a1 = some (.lst [.int 3])) (f2 : H a2 = some (.tup [.int 3, .int 4])) (f3 : H a3 = some (.dK [])) (f4 : H a4 = some (.tup [])) (f5 : H a5 = some (.lst [])) {x : V}
    (h : x ∈ ([V.bl true, V.bl false, V.non, V.int (-1), V.int (-1 - f), V.int f, V.str "3", V.str "", V.ref a1, V.ref a2, V.ref a3, V.int (1000000000000000000 + 1), V.int (1000000000000000000 + 1 + f), V.ref a4, V.ref a5] : List V)) : OddV H f x := by
  simp only [List.mem_cons, List.not_mem_nil, or_false] at h
  rcases h with rfl | rfl | rfl | rfl | rfl | rfl | rfl | rfl | rfl | rfl | rfl | rfl | rfl | rfl | rfl
  · exact .other (.flat rfl fun _ z => nomatch z) (fun _ z => nomatch z) fun _ z => nomatch z
  · exact .other (.flat rfl fun _ z => nomatch z) (fun _ z => nomatch z) fun _ z => nomatch z
  · exact .other (.flat rfl fun _ z => nomatch z) (fun _ z => nomatch z) fun _ z => nomatch z
  · exact .int (.inl rfl)
  · exact .int (.inr (.inl rfl))
  · exact .int (.inr (.inr (.inl rfl)))
  · exact .str (.inl rfl)
  · exact .str (.inr rfl)
  · exact .other (.lst f1) (fun _ z => nomatch z) fun _ z => nomatch z
  · refine .other (.tup f2 fun z hz => ?_) (fun _ z => nomatch z) fun _ z => nomatch z
    simp only [List.mem_cons, List.not_mem_nil, or_false] at hz
    rcases hz with rfl | rfl <;> exact ⟨_, rfl⟩
  · exact .other (.dK f3) (fun _ z => nomatch z) fun _ z => nomatch z
  · exact .int (.inr (.inr (.inr (.inl (by omega)))))
  · exact .int (.inr (.inr (.inr (.inr (by omega)))))
  · exact .other (.tup f4 fun z hz => by simp at hz) (fun _ z => nomatch z) fun _ z => nomatch z
  · exact .other (.lst f5) (fun _ z => nomatch z) fun _ z => nomatch z
theorem kind_keep {H H' : Hp} {p : Addr} {x : V} {t : String} (h : kindS H x = some t) (np : ∀ b, x = .ref b → b ≠ p) (k : KeepBut p H H') : kindS H' x = some t := by
  cases x with
  | ref a =>
    have na := np a rfl
    unfold kindS at h ⊢
    dsimp only at h ⊢
    split at h
    · rename_i e; rw [k _ _ na e]; exact h
    · rename_i e; rw [k _ _ na e]; exact h
    · rename_i e; rw [k _ _ na e]; exact h
    · rename_i e; rw [k _ _ na e]; exact h
    · cases h
  | _ => exact h
theorem KnD.nf_same {H H' : Hp} {y : V} (k : KnD H y) (s : Same H H') : ∀ a o u, y = .ref a → H' a ≠ some (.frz o u) := (k.same s).nf
theorem PairsI.app {H : Hp} {ts ys : List V} {qs ps : Pr} (h : PairsI H ts qs) (h' : PairsI H ys ps) : PairsI H (ts ++ ys) (qs ++ ps) := by
  unfold PairsI at h h' ⊢
  induction h with
  | nil => exact h'
  | cons a _ ih => exact .cons a ih
/-- what stands once the plan is made -/
structure F13 (H : Hp) (C p L c l f x d a1 b1 : Addr) (n : Int) (wr : Bool) (ys : List V) (ps : Pr) (ks : List Int) : Prop where
  bg : Bag H p L
  ca : CaseAt H c l n wr ys ps
  fo : H f = some (.lst (ks.map V.int))
  pl : PlanX H C x d a1 b1 n wr ys ps
section
variable {H H' : Hp} {C p L c l f x d a1 b1 : Addr} {n : Int} {wr : Bool} {ys : List V} {ps : Pr} {ks : List Int}
theorem F13.same (F : F13 H C p L c l f x d a1 b1 n wr ys ps ks) (s : Same H H') : F13 H' C p L c l f x d a1 b1 n wr ys ps ks := ⟨F.bg.same s, F.ca.same s, s _ _ F.fo, F.pl.same s⟩
theorem F13.draw (F : F13 H C p L c l f x d a1 b1 n wr ys ps ks) (k : KeepBut p H H') (B : Bag H' p L) : F13 H' C p L c l f x d a1 b1 n wr ys ps ks := ⟨B, F.ca.keep F.bg k, k _ _ (bag_ints F.bg F.fo) F.fo, F.pl.draw F.bg k⟩
end
/-- what the list at q holds is written: nothing else is -/
theorem F13.upd {H : Hp} {C p L c l f x d a1 b1 q : Addr} {n : Int} {wr : Bool} {ys : List V} {ps : Pr} {ks : List Int} (F : F13 H C p L c l f x d a1 b1 n wr ys ps ks) {zs ws : List V} (hq : H q = some (.lst zs)) (n1 : q ≠ p) (n2 : q ≠ L) (n3 : q ≠ c) (n4 : q ≠ l) (n5 : q ≠ f) (n6 : q ≠ a1) :
    F13 (upd H q (.lst ws)) C p L c l f x d a1 b1 n wr ys ps ks :=
  ⟨F.bg.keep (upd_ne n1.symm) (upd_ne n2.symm), ⟨by rw [upd_ne n3.symm]; exact F.ca.ca, by rw [upd_ne n4.symm]; exact F.ca.li, Paired.imp' (fun _ _ ⟨t, e, h⟩ => ⟨t, e, by rw [upd_ne (ne_of h hq (by intro z; cases z))]; exact h⟩) F.ca.pr, F.ca.n1, F.ca.n2⟩, by rw [upd_ne n5.symm]; exact F.fo,
    F.pl.keep (ne_of F.pl.ob hq (by intro z; cases z)) n6.symm (ne_of F.pl.od hq (by intro z; cases z)) KeepBut.upd⟩
/-- a thing whose kind is known and that lies elsewhere than p and q -/
def Sol (H : Hp) (p q : Addr) (v : V) : Prop := ∃ t, kindS H v = some t ∧ ∀ b, v = .ref b → b ≠ p ∧ b ≠ q
theorem Sol.same {H H' : Hp} {p q : Addr} {v : V} (h : Sol H p q v) (s : Same H H') : Sol H' p q v := let ⟨t, e, n⟩ := h; ⟨t, kind_same e s, n⟩
theorem Sol.draw {H H' : Hp} {p q : Addr} {v : V} (h : Sol H p q v) (k : KeepBut p H H') : Sol H' p q v := let ⟨t, e, n⟩ := h; ⟨t, kind_keep e (fun b z => (n b z).1) k, n⟩
theorem Sol.upd {H : Hp} {p q : Addr} {v : V} {o : HO} (h : Sol H p q v) : Sol (upd H q o) p q v := let ⟨t, e, n⟩ := h; ⟨t, kind_keep e (fun b z => (n b z).2) KeepBut.upd, n⟩
theorem Sol.flat {H : Hp} {p q : Addr} {v : V} {t : String} (e : kindS H v = some t) (nr : ∀ b, v ≠ .ref b) : Sol H p q v := ⟨t, e, fun b z => absurd z (nr b)⟩
end My

set_option Elab.async false
set_option linter.all false
set_option maxRecDepth 100000
set_option maxHeartbeats 4000000
namespace My
open PySem L2

def top (i : Nat) : Stmt := PySem.Challenge.pw_homeward_k13_homes_and_fars.main.body.getD i (.Pass ⟨0, 0, 0, 0⟩)
abbrev s__wall : Stmt := top 0
abbrev s_Wrong_init : Stmt := inClass (top 3) 0
abbrev s_is_whole : Stmt := top 8
abbrev s_is_whole_within : Stmt := top 9
abbrev s_is_number : Stmt := top 10
abbrev s_are_parted : Stmt := top 11
abbrev s_is_number_pair : Stmt := top 12
abbrev s_is_home_list : Stmt := top 13
abbrev s_Plan_init : Stmt := inClass (top 14) 0
abbrev s_Plan_is_room : Stmt := inClass (top 14) 2
abbrev s_Plan_home : Stmt := inClass (top 14) 4
abbrev s_Plan_far : Stmt := inClass (top 14) 5
abbrev s_Lbag : Stmt := top 16
abbrev s_Ltake : Stmt := top 17
abbrev s_Lcase : Stmt := top 18
abbrev s_Lkey : Stmt := top 19
abbrev s_Lkeys : Stmt := top 20
abbrev s_Lhome : Stmt := top 21
abbrev s_Lfar : Stmt := top 22
abbrev s_Lodd : Stmt := top 23
abbrev s_Lwhole : Stmt := top 24
abbrev s_Lwrong : Stmt := top 25
abbrev s_Lbad : Stmt := top 26
abbrev s_law : Stmt := top 27
structure Adr where
  f__wall : Addr
  d__wall : FuncData
  f_Wrong_init : Addr
  d_Wrong_init : FuncData
  f_is_whole : Addr
  d_is_whole : FuncData
  f_is_whole_within : Addr
  d_is_whole_within : FuncData
  f_is_number : Addr
  d_is_number : FuncData
  f_are_parted : Addr
  d_are_parted : FuncData
  f_is_number_pair : Addr
  d_is_number_pair : FuncData
  f_is_home_list : Addr
  d_is_home_list : FuncData
  f_Plan_init : Addr
  d_Plan_init : FuncData
  f_Plan_is_room : Addr
  d_Plan_is_room : FuncData
  f_Plan_home : Addr
  d_Plan_home : FuncData
  f_Plan_far : Addr
  d_Plan_far : FuncData
  f_Lbag : Addr
  d_Lbag : FuncData
  f_Ltake : Addr
  d_Ltake : FuncData
  f_Lcase : Addr
  d_Lcase : FuncData
  f_Lkey : Addr
  d_Lkey : FuncData
  f_Lkeys : Addr
  d_Lkeys : FuncData
  f_Lhome : Addr
  d_Lhome : FuncData
  f_Lfar : Addr
  d_Lfar : FuncData
  f_Lodd : Addr
  d_Lodd : FuncData
  f_Lwhole : Addr
  d_Lwhole : FuncData
  f_Lwrong : Addr
  d_Lwrong : FuncData
  f_Lbad : Addr
  d_Lbad : FuncData
  f_law : Addr
  d_law : FuncData
  t_MOST_NUMBER : Tok
  t_MOST_ROOMS : Tok
  t_MOST_HOMES : Tok
  C_Plan : Addr
  C_HomeError : Addr
  C_Wrong : Addr
structure Txt (K : PySem.W.Frag) (mg : Str → Option Value) (a : Adr) : Prop where
  d__wall : Df K mg "_wall" "_wall" s__wall a.f__wall a.d__wall ["k"]
  d_Wrong_init : Md K a.C_Wrong "__init__" "Wrong.__init__" s_Wrong_init a.f_Wrong_init a.d_Wrong_init ["self", "at"]
  d_is_whole : Df K mg "is_whole" "is_whole" s_is_whole a.f_is_whole a.d_is_whole ["thing"]
  d_is_whole_within : Df K mg "is_whole_within" "is_whole_within" s_is_whole_within a.f_is_whole_within a.d_is_whole_within ["thing", "least", "most"]
  d_is_number : Df K mg "is_number" "is_number" s_is_number a.f_is_number a.d_is_number ["thing"]
  d_are_parted : Df K mg "are_parted" "are_parted" s_are_parted a.f_are_parted a.d_are_parted ["numbers"]
  d_is_number_pair : Df K mg "is_number_pair" "is_number_pair" s_is_number_pair a.f_is_number_pair a.d_is_number_pair ["thing"]
  d_is_home_list : Df K mg "is_home_list" "is_home_list" s_is_home_list a.f_is_home_list a.d_is_home_list ["thing"]
  d_Plan_init : Md K a.C_Plan "__init__" "Plan.__init__" s_Plan_init a.f_Plan_init a.d_Plan_init ["self", "rooms", "wraps", "homes"]
  d_Plan_is_room : Md K a.C_Plan "is_room" "Plan.is_room" s_Plan_is_room a.f_Plan_is_room a.d_Plan_is_room ["self", "thing"]
  d_Plan_home : Md K a.C_Plan "home" "Plan.home" s_Plan_home a.f_Plan_home a.d_Plan_home ["self", "key"]
  d_Plan_far : Md K a.C_Plan "far" "Plan.far" s_Plan_far a.f_Plan_far a.d_Plan_far ["self", "key", "room"]
  d_Lbag : Df K mg "_law_bag" "_law_bag" s_Lbag a.f_Lbag a.d_Lbag ["_law_script"]
  d_Ltake : Df K mg "_law_take" "_law_take" s_Ltake a.f_Ltake a.d_Ltake ["_law_bag_here", "_law_many"]
  d_Lcase : Df K mg "_law_case" "_law_case" s_Lcase a.f_Lcase a.d_Lcase ["_law_bag_here", "_law_most"]
  d_Lkey : Df K mg "_law_key" "_law_key" s_Lkey a.f_Lkey a.d_Lkey ["_law_bag_here", "_law_rooms", "_law_home_here"]
  d_Lkeys : Df K mg "_law_keys" "_law_keys" s_Lkeys a.f_Lkeys a.d_Lkeys ["_law_bag_here", "_law_case_here", "_law_many"]
  d_Lhome : Df K mg "_law_home" "_law_home" s_Lhome a.f_Lhome a.d_Lhome ["_law_case_here", "_law_key_here"]
  d_Lfar : Df K mg "_law_far" "_law_far" s_Lfar a.f_Lfar a.d_Lfar ["_law_case_here", "_law_key_here", "_law_room"]
  d_Lodd : Df K mg "_law_odd" "_law_odd" s_Lodd a.f_Lodd a.d_Lodd ["_law_bag_here", "_law_far_here"]
  d_Lwhole : Df K mg "_law_whole" "_law_whole" s_Lwhole a.f_Lwhole a.d_Lwhole ["_law_thing"]
  d_Lwrong : Df K mg "_law_wrong" "_law_wrong" s_Lwrong a.f_Lwrong a.d_Lwrong ["_law_asked", "_law_key_here", "_law_room"]
  d_Lbad : Df K mg "_law_bad" "_law_bad" s_Lbad a.f_Lbad a.d_Lbad ["_law_bag_here"]
  d_law : Df K mg "law" "law" s_law a.f_law a.d_law ["_law_script"]
  c_MOST_NUMBER : mg "MOST_NUMBER" = some (.int 1000000000000000000 a.t_MOST_NUMBER)
  c_MOST_ROOMS : mg "MOST_ROOMS" = some (.int 64 a.t_MOST_ROOMS)
  c_MOST_HOMES : mg "MOST_HOMES" = some (.int 64 a.t_MOST_HOMES)
  z_abs : mg "abs" = none
  z_all : mg "all" = none
  z_bool : mg "bool" = none
  z_dict : mg "dict" = none
  z_int : mg "int" = none
  z_isinstance : mg "isinstance" = none
  z_len : mg "len" = none
  z_list : mg "list" = none
  z_range : mg "range" = none
  z_set : mg "set" = none
  z_tuple : mg "tuple" = none
  cl_Plan : Cl K mg "Plan" a.C_Plan
  mk_Plan : Mk K a.C_Plan a.f_Plan_init
  n_Plan_rooms : NoAttr K a.C_Plan "rooms"
  n_Plan_wraps : NoAttr K a.C_Plan "wraps"
  n_Plan_homes : NoAttr K a.C_Plan "homes"
  n_Plan_home_numbers : NoAttr K a.C_Plan "home_numbers"
  g_HomeError : mg "HomeError" = some (.ref a.C_HomeError)
  ex_HomeError : Exc K a.C_HomeError
  kv_HomeError : PySem.W.kitOne K (.ref a.C_HomeError) (.type "ValueError") = some true
  r_HomeError_HomeError : PySem.W.mroIn K a.C_HomeError (.ref a.C_HomeError) = some true
  r_HomeError_Wrong : PySem.W.mroIn K a.C_HomeError (.ref a.C_Wrong) = some false
  g_Wrong : mg "Wrong" = some (.ref a.C_Wrong)
  ex_Wrong : Exc K a.C_Wrong
  kv_Wrong : PySem.W.kitOne K (.ref a.C_Wrong) (.type "ValueError") = some true
  me_Wrong : MkE K a.C_Wrong a.f_Wrong_init
  n_Wrong_at : NoAttr K a.C_Wrong "at"
  r_Wrong_HomeError : PySem.W.mroIn K a.C_Wrong (.ref a.C_HomeError) = some true
  r_Wrong_Wrong : PySem.W.mroIn K a.C_Wrong (.ref a.C_Wrong) = some true
section
variable {P : Program} {w : World} {K : PySem.W.Frag} {mg : Str → Option Value} {base : Heap} {a : Adr}
theorem sc_Wrong_init : FnScope ["self", "at"] ["self", "at"] (defScope s_Wrong_init) := ⟨rfl, rfl, rfl, by decide +kernel, rfl, by decide +kernel, by decide +kernel⟩
/-! Wrong_init -/
def sp_Wrong_init (C : Addr) : Sp := fun vs H Q _ => ∃ (e : Addr) (v : V), vs = [.ref e, v] ∧ H e = some (ExcO e C none true) ∧ ∀ dx, H dx = none → dx ≠ e → Q .non (upd (upd H dx (XD dx [("at", v)])) e (ExcO e C (some dx) true))
theorem ok_Wrong_init (T : Txt K mg a) : FnOk P w K mg base CX0 1 a.f_Wrong_init a.d_Wrong_init ["self", "at"] (sp_Wrong_init a.C_Wrong) := by
  refine T.d_Wrong_init.F.ok sc_Wrong_init (fun vs H Q E h => ?_) (fun cdv A outer s H vs Q E hr h => ?_)
  · obtain ⟨e, v, rfl, _⟩ := h
    rfl
  · obtain ⟨e, v, rfl, he, k⟩ := h
    refine ⟨_, (pss_one (ps_efld (pv 0) (pv 1))), ?_⟩
    exact ⟨_, rfl, _, rfl, e, a.C_Wrong, rfl, T.ex_Wrong, T.n_Wrong_at, .inl ⟨he, fun dx h1 h2 => k dx h1 h2⟩⟩
theorem sc_is_whole : FnScope ["thing"] ["thing"] (defScope s_is_whole) := ⟨rfl, rfl, rfl, by decide +kernel, rfl, by decide +kernel, by decide +kernel⟩
/-! is_whole -/
def sp_is_whole : Sp := fun vs H Q _ => ∃ x t, vs = [x] ∧ kindS H x = some t ∧ Q (.bl (wholeV x)) H
theorem ok_is_whole (T : Txt K mg a) : FnOk P w K mg base CX0 1 a.f_is_whole a.d_is_whole ["thing"] sp_is_whole := by
  refine T.d_is_whole.F.ok sc_is_whole (fun vs H Q E h => ?_) (fun cdv A outer s H vs Q E hr h => ?_)
  · obtain ⟨x, t, rfl, _⟩ := h
    rfl
  · obtain ⟨x, t, rfl, hk, q⟩ := h
    refine ⟨_, (pss_one (ps_ret (pe_and (cbi call_isi T.z_isinstance (pa_cons (pv 0) (pa_cons (pe_cls "int" T.z_int) pa_nil))) (pe_one (pe_not (cbi call_isi T.z_isinstance (pa_cons (pv 0) (pa_cons (pe_cls "bool" T.z_bool) pa_nil)))))))), ?_⟩
    refine ⟨_, rfl, x, _, t, rfl, hk, by decide, _, rfl, ?_⟩
    have e1 := kind_int hk
    have e2 := kind_bool hk
    rw [e1]
    refine ite2 (fun h1 => ⟨_, rfl, x, _, t, rfl, hk, by decide, _, rfl, ?_⟩) (fun h1 => ?_)
    · rw [e2]
      cases x <;> first | exact q | (simp [wholeV] at h1)
    · have : wholeV x = false := by
        cases e : wholeV x with
        | false => rfl
        | true => rw [e] at h1; exact absurd rfl h1
      rw [this] at q
      exact q
theorem sc_is_whole_within : FnScope ["thing", "least", "most"] ["thing", "least", "most"] (defScope s_is_whole_within) := ⟨rfl, rfl, rfl, by decide +kernel, rfl, by decide +kernel, by decide +kernel⟩
/-! is_whole_within -/
def sp_is_whole_within : Sp := fun vs H Q _ => ∃ x t l m, vs = [x, .int l, .int m] ∧ kindS H x = some t ∧ Q (.bl (withinV l m x)) H
theorem ok_is_whole_within (T : Txt K mg a) : FnOk P w K mg base CX0 2 a.f_is_whole_within a.d_is_whole_within ["thing", "least", "most"] sp_is_whole_within := by
  refine T.d_is_whole_within.F.ok sc_is_whole_within (fun vs H Q E h => ?_) (fun cdv A outer s H vs Q E hr h => ?_)
  · obtain ⟨x, t, l, m, rfl, _⟩ := h
    rfl
  · obtain ⟨x, t, l, m, rfl, hk, q⟩ := h
    refine ⟨_, (pss_one (ps_ret (pe_and (callD T.d_is_whole (ok_is_whole T) (hr.mono (by decide)) (pa_cons (pv 0) pa_nil)) (pe_one (pe_chain op_le op_le (pv 1) (pv 0) (pv 2)))))), ?_⟩
    refine ⟨_, rfl, x, t, rfl, hk, _, rfl, ?_⟩
    cases x with
    | int i =>
      refine iteT ⟨_, rfl, _, rfl, _, _, rfl, rfl, _, rfl, ?_⟩
      by_cases h1 : l ≤ i
      · rw [decide_eq_true h1]
        refine iteT ⟨_, rfl, _, _, rfl, rfl, ?_⟩
        have q : Q (.bl (decide (l ≤ i) && decide (i ≤ m))) H := q
        rw [decide_eq_true h1, Bool.true_and] at q
        exact q
      · rw [decide_eq_false h1]
        refine iteF ?_
        have q : Q (.bl (decide (l ≤ i) && decide (i ≤ m))) H := q
        rw [decide_eq_false h1, Bool.false_and] at q
        exact q
    | _ => exact iteF q
theorem sc_are_parted : FnScope ["numbers"] ["numbers"] (defScope s_are_parted) := ⟨rfl, rfl, rfl, by decide +kernel, rfl, by decide +kernel, by decide +kernel⟩
/-! are_parted -/
def sp_are_parted (K : PySem.W.Frag) : Sp := fun vs H Q _ => ∃ (l : Addr) (ns : List Int), vs = [.ref l] ∧ SqL K H l (ns.map V.int) ∧ ns.length ≤ 200 ∧ ∀ b H', (b = true ↔ ns.Nodup) → Same H H' → Q (.bl b) H'
theorem ok_are_parted (T : Txt K mg a) : FnOk P w K mg base CX0 1 a.f_are_parted a.d_are_parted ["numbers"] (sp_are_parted K) := by
  refine T.d_are_parted.F.ok sc_are_parted (fun vs H Q E h => ?_) (fun cdv A outer s H vs Q E hr h => ?_)
  · obtain ⟨l, ns, rfl, _⟩ := h
    rfl
  · obtain ⟨l, ns, rfl, hS, hl, k⟩ := h
    refine ⟨_, (pss_one (ps_ret (pe_cmpR op_eq (cbi call_lenS T.z_len (pa_cons (cty (call_setI rfl) T.z_set (pa_cons (pv 0) pa_nil)) pa_nil)) (cbi call_len_seq T.z_len (pa_cons (pv 0) pa_nil)) (nomark _)))), ?_⟩
    refine ⟨_, rfl, l, ns, rfl, hS, by omega, fun p S hp => ⟨p, S, _, rfl, upd_same, ?_⟩⟩
    refine ⟨_, rfl, l, _, rfl, .inl ((Same.new hp).seq hS), rfl, ?_⟩
    refine k _ _ ?_ (Same.new hp)
    rw [decide_eq_true_eq, List.length_map, ← distinct_iff]
    constructor
    · intro e; have := V.int.inj e; omega
    · intro e; rw [e]
theorem sc_is_number : FnScope ["thing"] ["thing"] (defScope s_is_number) := ⟨rfl, rfl, rfl, by decide +kernel, rfl, by decide +kernel, by decide +kernel⟩
/-! is_number -/
def sp_is_number : Sp := fun vs H Q _ => ∃ x t, vs = [x] ∧ kindS H x = some t ∧ Q (.bl (numV x)) H
theorem ok_is_number (T : Txt K mg a) : FnOk P w K mg base CX0 3 a.f_is_number a.d_is_number ["thing"] sp_is_number := by
  refine T.d_is_number.F.ok sc_is_number (fun vs H Q E h => ?_) (fun cdv A outer s H vs Q E hr h => ?_)
  · obtain ⟨x, t, rfl, _⟩ := h
    rfl
  · obtain ⟨x, t, rfl, hk, q⟩ := h
    refine ⟨_, (pss_one (ps_ret (callD T.d_is_whole_within (ok_is_whole_within T) (hr.mono (by decide)) (pa_cons (pv 0) (pa_cons pe_int (pa_cons (pe_gint T.c_MOST_NUMBER) pa_nil)))))), ?_⟩
    exact ⟨_, rfl, x, t, _, _, rfl, hk, q⟩
theorem sc_is_number_pair : FnScope ["thing"] ["thing"] (defScope s_is_number_pair) := ⟨rfl, rfl, rfl, by decide +kernel, rfl, by decide +kernel, by decide +kernel⟩
/-! is_number_pair -/
def sp_is_number_pair : Sp := fun vs H Q _ => ∃ x, vs = [x] ∧ KnD H x ∧ Q (.bl (pairB H x)) H
theorem ok_is_number_pair (T : Txt K mg a) : FnOk P w K mg base CX0 4 a.f_is_number_pair a.d_is_number_pair ["thing"] sp_is_number_pair := by
  refine T.d_is_number_pair.F.ok sc_is_number_pair (fun vs H Q E h => ?_) (fun cdv A outer s H vs Q E hr h => ?_)
  · obtain ⟨x, rfl, _⟩ := h
    rfl
  · obtain ⟨x, rfl, ⟨t, hk, hz, hf⟩, q⟩ := h
    refine ⟨_, (pss_one (ps_ret (pe_and (cbi call_isi T.z_isinstance (pa_cons (pv 0) (pa_cons (pe_cls "tuple" T.z_tuple) pa_nil))) (pe_and (pe_cmpR op_eq (cbi call_len_seq T.z_len (pa_cons (pv 0) pa_nil)) pe_int (nomark _)) (pe_and (callD T.d_is_number (ok_is_number T) (hr.mono (by decide)) (pa_cons (ix ix_tup (pv 0) pe_int) pa_nil)) (pe_one (callD T.d_is_number (ok_is_number T) (hr.mono (by decide)) (pa_cons (ix ix_tup (pv 0) pe_int) pa_nil)))))))), ?_⟩
    refine ⟨_, rfl, x, _, t, rfl, hk, by decide, _, rfl, ?_⟩
    cases x with
    | ref a =>
      unfold kindS at hk
      dsimp only at hk
      split at hk
      · rename_i xs e
        cases hk
        refine iteF ?_
        have : pairB H (.ref a) = false := by unfold pairB; dsimp only; rw [e]
        rw [this] at q
        exact q
      · rename_i xs e
        cases hk
        refine iteT ⟨_, rfl, a, xs, rfl, .inr (SqT.of e), rfl, _, rfl, ?_⟩
        rw [pairB_tup e] at q
        match xs, e, q with
        | [], e, q => exact iteF q
        | [_], e, q => exact iteF q
        | [x1, x2], e, q =>
          obtain ⟨t1, k1⟩ := hz a _ rfl e x1 (by simp)
          obtain ⟨t2, k2⟩ := hz a _ rfl e x2 (by simp)
          refine iteT ⟨_, rfl, a, _, 0, x1, rfl, rfl, SqT.of e, rfl, x1, t1, rfl, k1, _, rfl, ?_⟩
          have q : Q (.bl (numV x1 && numV x2)) H := q
          cases h1 : numV x1 with
          | false =>
            rw [h1, Bool.false_and] at q
            exact iteF q
          | true =>
            rw [h1, Bool.true_and] at q
            exact iteT ⟨_, rfl, a, _, 1, x2, rfl, rfl, SqT.of e, rfl, x2, t2, rfl, k2, q⟩
        | _ :: _ :: _ :: _, e, q =>
          refine ite2 (fun h1 => ?_) (fun _ => q)
          have h1 := V.int.inj (of_decide_eq_true h1)
          simp only [List.length_cons] at h1
          omega
      · rename_i xs e
        cases hk
        refine iteF ?_
        have : pairB H (.ref a) = false := by unfold pairB; dsimp only; rw [e]
        rw [this] at q
        exact q
      · rename_i o xs e
        exact absurd e (hf a _ _ rfl)
      · cases hk
    | non => cases hk; exact iteF q
    | bl b => cases hk; exact iteF q
    | int b => cases hk; exact iteF q
    | str b => cases hk; exact iteF q
    | _ => cases hk
theorem sc_is_home_list : FnScope ["thing"] ["thing"] (defScope s_is_home_list) := ⟨rfl, rfl, rfl, by decide +kernel, rfl, by decide +kernel, by decide +kernel⟩
/-! is_home_list -/
/-- homes as a plan asks for them -/
def HomesOk (H : Hp) (x : V) : Prop := ∃ a ys ps, x = .ref a ∧ H a = some (.lst ys) ∧ PairsI H ys ps ∧ GoodPs ps
def sp_is_home_list : Sp := fun vs H Q _ => ∃ x, vs = [x] ∧ KnD H x ∧ (∀ a ys, x = .ref a → H a = some (.lst ys) → ∀ y ∈ ys, KnD H y) ∧ ∀ b H', (b = true ↔ HomesOk H x) → Same H H' → Q (.bl b) H'
theorem ok_is_home_list (T : Txt K mg a) : FnOk P w K mg base CX0 5 a.f_is_home_list a.d_is_home_list ["thing"] sp_is_home_list := by
  refine T.d_is_home_list.F.ok sc_is_home_list (fun vs H Q E h => ?_) (fun cdv A outer s H vs Q E hr h => ?_)
  · obtain ⟨x, rfl, _⟩ := h
    rfl
  · obtain ⟨x, rfl, ⟨t, hk, _, hf⟩, hys, k⟩ := h
    refine ⟨_, (pss_cons (ps_if (pw_or (pt_not (pt_val (cbi call_isi T.z_isinstance (pa_cons (pv 0) (pa_cons (pe_cls "list" T.z_list) pa_nil))))) (pw_or1 (pt_cmpR op_gt (cbi call_len_seq T.z_len (pa_cons (pv 0) pa_nil)) (pe_gint T.c_MOST_HOMES) (nomark _)))).pt
      (pss_one (ps_ret pe_bl))
      pss_nil)
      (pss_one (ps_ret (pe_and (cbi (call_allB rfl) T.z_all (pa_cons (pe_comp ["pair"] [none] (pi_list (pv 0)) (fun C s0 H0 ex => (gnm 0 (show (["pair"] : List Str).Nodup by decide +kernel))) (fun C s0 H0 ex => pf_nil) (fun C s0 H0 ex => (callD T.d_is_number_pair (ok_is_number_pair T) (hr.mono (by decide)) (pa_cons (pv 0) pa_nil)))) pa_nil)) (pe_one (callD T.d_are_parted (ok_are_parted T) (hr.mono (by decide)) (pa_cons (pe_comp ["pair"] [none] (pi_list (pv 0)) (fun C s0 H0 ex => (gnm 0 (show (["pair"] : List Str).Nodup by decide +kernel))) (fun C s0 H0 ex => pf_nil) (fun C s0 H0 ex => (ixT (K := K) rfl (pv 0) pe_int))) pa_nil))))))), ?_⟩
    refine ⟨_, rfl, x, _, t, rfl, hk, by decide, _, rfl, ?_⟩
    by_cases hlist : ∃ a ys, x = .ref a ∧ H a = some (.lst ys)
    · obtain ⟨a, ys, rfl, ha⟩ := hlist
      have et : t = "list" := by
        rw [kind_lst ha] at hk
        exact (Option.some.inj hk).symm
      subst et
      have hys := hys a ys rfl ha
      refine iteF ⟨_, rfl, a, ys, rfl, .inl (SqL.of ha), _, _, rfl, rfl, _, rfl, ?_⟩
      refine ite2 (fun h1 => ?_) (fun h1 => ?_)
      · have h1 : (64 : Int) < ys.length := of_decide_eq_true h1
        refine k false H ⟨fun e => absurd e Bool.false_ne_true, ?_⟩ (Same.refl H)
        rintro ⟨a', ys', ps, e, h', hp, g⟩
        cases e
        rw [ha] at h'
        cases h'
        have := hp.len
        have := g.len
        omega
      · have h1 : ¬ (64 : Int) < ys.length := fun z => h1 (decide_eq_true z)
        have hl : ys.length ≤ 64 := by omega
        refine ⟨_, rfl, a, rfl, ⟨_, SqL.of ha⟩, fun D hD => ?_⟩
        refine comp_list (K := K) (xs := ys) (fun i σ H1 => ∃ v, σ = [v] ∧ H1 = upd H D (.lst (((ys.take i).map (pairB H)).map V.bl))) ⟨none, rfl, rfl⟩ ?_ ?_ ?_
        · rintro i σ H1 _ ⟨v, rfl, rfl⟩
          exact SqL.of (Same.new hD _ _ ha)
        · rintro i y σ H1 hi ⟨v, rfl, rfl⟩
          have ky := hys y (List.mem_of_getElem? hi)
          have S := Same.new (u := .lst (((ys.take i).map (pairB H)).map V.bl)) hD
          refine ⟨_, rfl, y, rfl, ky.same S, _, upd_same, ?_, _, rfl, ?_⟩
          · rw [List.length_map, List.length_map, List.length_take]
            exact small1000 (by omega)
          · rw [upd_upd, pairB_same ky S]
            congr 1
            rw [List.take_add_one, hi]
            simp
        · rintro σ H1 ⟨v, rfl, rfl⟩
          rw [List.take_of_length_le (Nat.le_refl _)]
          refine ⟨D, ys.map (pairB H), rfl, SqL.of upd_same, _, rfl, ?_⟩
          have S := Same.new (u := .lst ((ys.map (pairB H)).map V.bl)) hD
          refine ite2 (fun h2 => ?_) (fun h2 => ?_)
          · have hall : ∀ y ∈ ys, pairB H y = true := fun y hy => by
              have := List.all_eq_true.mp h2 (pairB H y) (List.mem_map_of_mem hy)
              simpa using this
            obtain ⟨ps, hp, hn⟩ := pairs_of hall
            refine ⟨_, rfl, a, rfl, ⟨_, SqL.of (S _ _ ha)⟩, fun D2 hD2 => ?_⟩
            have hp1 := hp.same S
            refine comp_list (K := K) (xs := ys) (fun i σ H1 => ∃ v, σ = [v] ∧ H1 = upd (upd H D (.lst ((ys.map (pairB H)).map V.bl))) D2 (.lst (((ps.take i).map (·.1)).map V.int))) ⟨none, rfl, rfl⟩ ?_ ?_ ?_
            · rintro i σ H1 _ ⟨v, rfl, rfl⟩
              exact SqL.of (Same.new hD2 _ _ (S _ _ ha))
            · rintro i y σ H1 hi ⟨v, rfl, rfl⟩
              obtain ⟨p, t, hpi, rfl, ht⟩ := hp1.get hi
              refine ⟨_, rfl, t, _, 0, .int p.1, rfl, rfl, SqT.of (Same.new hD2 _ _ ht), rfl, _, upd_same, ?_, _, rfl, ?_⟩
              · rw [List.length_map, List.length_map, List.length_take]
                have := hp.len
                exact small1000 (by omega)
              · rw [upd_upd]
                congr 1
                rw [List.take_add_one, hpi]
                simp
            · rintro σ H1 ⟨v, rfl, rfl⟩
              rw [hp.len, List.take_of_length_le (Nat.le_refl _)]
              refine ⟨D2, ps.map (·.1), rfl, SqL.of upd_same, by rw [List.length_map]; have := hp.len; omega, fun b H' hb s' => ?_⟩
              refine k b H' ?_ ((S.trans (Same.new hD2)).trans s')
              rw [hb]
              constructor
              · intro nd
                exact ⟨a, ys, ps, rfl, ha, hp, by have := hp.len; omega, nd, hn⟩
              · rintro ⟨a', ys', ps', e, h', hp', g⟩
                cases e
                rw [ha] at h'
                cases h'
                rw [hp.inj hp']
                exact g.nd
          · refine k false _ ⟨fun e => absurd e Bool.false_ne_true, ?_⟩ S
            rintro ⟨a', ys', ps, e, h', hp, g⟩
            cases e
            rw [ha] at h'
            cases h'
            exfalso
            refine h2 (List.all_eq_true.mpr fun b hb => ?_)
            obtain ⟨y, hy, rfl⟩ := List.mem_map.mp hb
            exact hp.ok g.nums y hy
    · have ef : subT t "list" = false := by
        cases x with
        | ref a =>
          unfold kindS at hk
          dsimp only at hk
          split at hk
          · rename_i ys e; exact absurd ⟨a, ys, rfl, e⟩ hlist
          · cases hk; rfl
          · cases hk; rfl
          · rename_i e; exact absurd e (hf a _ _ rfl)
          · cases hk
        | non => cases hk; rfl
        | bl b => cases hk; rfl
        | int b => cases hk; rfl
        | str b => cases hk; rfl
        | _ => cases hk
      rw [ef]
      refine iteT ?_
      refine k false H ⟨fun e => absurd e Bool.false_ne_true, ?_⟩ (Same.refl H)
      rintro ⟨a, ys, ps, e, h', _⟩
      exact absurd ⟨a, ys, e, h'⟩ hlist
theorem sc_Plan_init : FnScope ["self", "rooms", "wraps", "homes"] ["self", "rooms", "wraps", "homes"] (defScope s_Plan_init) := ⟨rfl, rfl, rfl, by decide +kernel, rfl, by decide +kernel, by decide +kernel⟩
/-! Plan_init -/
def sp_Plan_init (C : Addr) : Sp := fun vs H Q _ => ∃ (p dx h : Addr) (n : Int) (wr : Bool) (ys : List V) (ps : Pr), vs = [.ref p, .int n, .bl wr, .ref h] ∧ H p = some (.ins C dx []) ∧ 1 ≤ n ∧ n ≤ 64 ∧ H h = some (.lst ys) ∧ PairsI H ys ps ∧ GoodPs ps ∧
  ∀ hl hd H', PlanX H' C p dx hl hd n wr ys ps → H hl = none → H hd = none → KeepBut p H H' → Q .non H'
theorem ok_Plan_init (T : Txt K mg a) : FnOk P w K mg base CX0 6 a.f_Plan_init a.d_Plan_init ["self", "rooms", "wraps", "homes"] (sp_Plan_init a.C_Plan) := by
  refine T.d_Plan_init.F.ok sc_Plan_init (fun vs H Q E h => ?_) (fun cdv A outer s H vs Q E hr h => ?_)
  · obtain ⟨p, dx, h, n, wr, ys, ps, rfl, _⟩ := h
    rfl
  · obtain ⟨p, dx, h, n, wr, ys, ps, rfl, hp, n1, n2, hh, pr, gp, k⟩ := h
    refine ⟨_, (pss_cons (ps_if (pt_not (pt_val (callD T.d_is_whole_within (ok_is_whole_within T) (hr.mono (by decide)) (pa_cons (pv 1) (pa_cons pe_int (pa_cons (pe_gint T.c_MOST_ROOMS) pa_nil))))))
      (pss_one ps_never)
      pss_nil)
      (pss_cons (ps_if (pt_not (pt_val (cbi call_isi T.z_isinstance (pa_cons (pv 2) (pa_cons (pe_cls "bool" T.z_bool) pa_nil)))))
      (pss_one ps_never)
      pss_nil)
      (pss_cons (ps_if (pt_not (pt_val (callD T.d_is_home_list (ok_is_home_list T) (hr.mono (by decide)) (pa_cons (pv 3) pa_nil))))
      (pss_one ps_never)
      pss_nil)
      (pss_cons (ps_fld (pv 0) (pv 1) rfl)
      (pss_cons (ps_fld (pv 0) (pv 2) rfl)
      (pss_cons (ps_fld (pv 0) (cty call_list_of T.z_list (pa_cons (pv 3) pa_nil)) rfl)
      (pss_one (ps_fld (pv 0) (cty (call_dictP rfl) T.z_dict (pa_cons (pv 3) pa_nil)) rfl)))))))), ?_⟩
    have e1 : withinV 1 64 (.int n) = true := by
      show (decide (1 ≤ n) && decide (n ≤ 64)) = true
      rw [decide_eq_true n1, decide_eq_true n2]; rfl
    refine ⟨_, rfl, .int n, "int", 1, 64, rfl, rfl, _, rfl, ?_⟩
    rw [e1]
    refine iteF ?_
    refine ⟨_, rfl, .bl wr, _, "bool", rfl, rfl, by decide, _, rfl, ?_⟩
    refine iteF ?_
    have kh : KnD H (.ref h) := ⟨"list", kind_lst hh, (fun b xs eb e => by cases eb; rw [hh] at e; cases e), (fun b o u eb e => by cases eb; rw [hh] at e; cases e)⟩
    have ky : ∀ b zs, V.ref h = .ref b → H b = some (.lst zs) → ∀ y ∈ zs, KnD H y := fun b zs eb e y hy => by
      cases eb
      rw [hh] at e
      cases e
      obtain ⟨t, k', m, rfl, ht, _⟩ := pairB_iff.mp (pr.ok gp.nums y hy)
      refine ⟨"tuple", kind_tup ht, fun b xs eb e z hz => ?_, (fun b o u eb e => by cases eb; rw [ht] at e; cases e)⟩
      cases eb
      rw [ht] at e
      cases e
      simp only [List.mem_cons, List.not_mem_nil, or_false] at hz
      rcases hz with rfl | rfl
      · exact ⟨_, rfl⟩
      · exact ⟨_, rfl⟩
    refine ⟨_, rfl, .ref h, rfl, kh, ky, fun b H1 hb s1 => ⟨_, rfl, ?_⟩⟩
    have eb : b = true := hb.mpr ⟨h, ys, ps, rfl, hh, pr, gp⟩
    rw [eb]
    refine iteF ?_
    have hp1 := s1 _ _ hp
    have hh1 := s1 _ _ hh
    have pr1 := pr.same s1
    have nhp : h ≠ p := ne_of hh1 hp1 (by intro z; cases z)
    have up : ∀ (o : HO) {x : Addr} {u : HO}, x ≠ p → H1 x = some u → upd H1 p o x = some u := fun o x u hx e => by rw [upd_ne hx]; exact e
    have few : ∀ (f1 f2 f3 : Str) (v1 v2 v3 : V), (putF f3 v3 (putF f2 v2 (putF f1 v1 []))).length < 1000 := fun f1 f2 f3 v1 v2 v3 => by
      have q1 := length_putF f3 v3 (putF f2 v2 (putF f1 v1 []))
      have q2 := length_putF f2 v2 (putF f1 v1 [])
      have q3 := length_putF f1 v1 []
      simp only [List.length_nil] at q3
      omega
    refine ⟨_, rfl, _, rfl, p, a.C_Plan, dx, [], rfl, hp1, T.cl_Plan.cl, T.n_Plan_rooms, by show 0 < 1000; decide, ?_⟩
    refine ⟨_, rfl, _, rfl, p, a.C_Plan, dx, _, rfl, upd_same, T.cl_Plan.cl, T.n_Plan_wraps, by show 1 < 1000; decide, ?_⟩
    rw [upd_upd]
    refine ⟨_, rfl, h, ys, rfl, .inl (SqL.of (up _ nhp hh1)), fun hl hhl => ⟨_, rfl, ?_⟩⟩
    have nlp : hl ≠ p := fun z => by rw [z, upd_same] at hhl; cases hhl
    have hl1 : H1 hl = none := by rw [upd_ne nlp] at hhl; exact hhl
    refine ⟨p, a.C_Plan, dx, _, rfl, by rw [upd_ne nlp.symm, upd_same], T.cl_Plan.cl, T.n_Plan_homes, ?_, ?_⟩
    · have q2 := length_putF "wraps" (.bl wr) (putF "rooms" (.int n) [])
      have q3 := length_putF "rooms" (.int n) []
      simp only [List.length_nil] at q3
      omega
    have nhl : h ≠ hl := ne_of_none hh1 hl1
    refine ⟨_, rfl, h, ys, kvsOf ps, rfl, by rw [upd_ne nhp, upd_ne nhl, upd_ne nhp]; exact hh1, ?_, fun hd hhd => ⟨_, rfl, ?_⟩⟩
    · refine (Paired.imp' (fun y kv ⟨t, e, q⟩ => ⟨t, e, ?_⟩) pr1.keys : PairsIn _ _ _)
      have ntp : t ≠ p := ne_of q hp1 (by intro z; cases z)
      have ntl : t ≠ hl := ne_of_none q hl1
      rw [upd_ne ntp, upd_ne ntl, upd_ne ntp]
      exact q
    have ndp : hd ≠ p := fun z => by rw [z, upd_same] at hhd; cases hhd
    rw [upd_ne ndp] at hhd
    have ndl : hd ≠ hl := fun z => by rw [z, upd_same] at hhd; cases hhd
    rw [upd_ne ndl, upd_ne ndp] at hhd
    refine ⟨p, a.C_Plan, dx, _, rfl, by rw [upd_ne ndp.symm, upd_same], T.cl_Plan.cl, T.n_Plan_home_numbers, few _ _ _ _ _ _, ?_⟩
    rw [merge_kvs gp.nd]
    have back : ∀ {x : Addr}, H1 x = none → H x = none := fun {x} e => s1.free e
    refine k hl hd _ ⟨upd_same, ?_, ?_, n1, n2, pr.refs⟩ (back hl1) (back hhd) fun b o hbp e => ?_
    · rw [upd_ne nlp, upd_ne ndl.symm, upd_ne nlp, upd_same]
    · rw [upd_ne ndp, upd_same]
    · have e1 := s1 _ _ e
      rw [upd_ne hbp, upd_ne (ne_of_none e1 hhd), upd_ne hbp, upd_ne (ne_of_none e1 hl1), upd_ne hbp]
      exact e1
theorem sc_Plan_home : FnScope ["self", "key"] ["self", "key"] (defScope s_Plan_home) := ⟨rfl, rfl, rfl, by decide +kernel, rfl, by decide +kernel, by decide +kernel⟩
/-! Plan_home -/
def sp_Plan_home (C : Addr) : Sp := fun vs H Q _ => ∃ (p : Addr) (k n : Int) (wr : Bool) (ys : List V) (ps : Pr), vs = [.ref p, .int k] ∧ PlanAt H C p n wr ys ps ∧ isNum k ∧ Q (.int (homeOf n ps k)) H
theorem ok_Plan_home (T : Txt K mg a) : FnOk P w K mg base CX0 4 a.f_Plan_home a.d_Plan_home ["self", "key"] (sp_Plan_home a.C_Plan) := by
  refine T.d_Plan_home.F.ok sc_Plan_home (fun vs H Q E h => ?_) (fun cdv A outer s H vs Q E hr h => ?_)
  · obtain ⟨p, k, n, wr, ys, ps, rfl, _⟩ := h
    rfl
  · obtain ⟨p, k, n, wr, ys, ps, rfl, P, hk, q⟩ := h
    refine ⟨_, (pss_cons (ps_if (pt_not (pt_val (callD T.d_is_number (ok_is_number T) (hr.mono (by decide)) (pa_cons (pv 1) pa_nil))))
      (pss_one ps_never)
      pss_nil)
      (pss_one (ps_ret (pe_op op_mod (pe_dget2 (hu_of hr) (pe_fld (pv 0) rfl) (pv 1) (pv 1) ⟨rfl, rfl, rfl, rfl⟩) (pe_fld (pv 0) rfl))))), ?_⟩
    obtain ⟨⟨dx, hl, hd, h1, h2, h3⟩, n1, n2, rf⟩ := P
    refine ⟨_, rfl, .int k, "int", rfl, rfl, _, rfl, ?_⟩
    rw [num_iff.mpr hk]
    refine iteF ⟨_, rfl, p, a.C_Plan, dx, _, _, rfl, h1, T.cl_Plan.cl, T.n_Plan_home_numbers, flds_numbers _ _ _ _, hd, rfl, .inl ⟨_, .inl h3⟩, _, rfl, _, rfl, _, DGet.k (k := Sum.inl k) h3, ?_⟩
    have e : (valV (kvsOf ps) (Sum.inl k : Key)).getD (V.int k) = V.int ((ps.lookup k).getD k) := by
      rw [val_kvs]
      cases ps.lookup k <;> rfl
    rw [e]
    exact ⟨_, rfl, p, a.C_Plan, dx, _, _, rfl, h1, T.cl_Plan.cl, T.n_Plan_rooms, flds_rooms _ _ _ _, _, _, rfl, rfl, (by show 0 < n; omega), q⟩
def spr_Plan_home (Cw : Addr) : Sp := fun vs H _ E => ∃ (p : Addr) (x : V) (t : String), vs = [.ref p, x] ∧ kindS H x = some t ∧ numV x = false ∧ ∀ e H', Thr H H' Cw "at" (.int 0) e → E (.ref e) none H'
theorem okr_Plan_home (T : Txt K mg a) : FnOk P w K mg base (CX1 P w) 4 a.f_Plan_home a.d_Plan_home ["self", "key"] (spr_Plan_home a.C_Wrong) := by
  refine T.d_Plan_home.F.okX sc_Plan_home (fun vs H Q E h => ?_) (fun cdv A outer s H vs Q E hr h => ?_)
  · obtain ⟨p, x, t, rfl, _⟩ := h
    rfl
  · obtain ⟨p, x, t, rfl, hk, hn, k⟩ := h
    refine ⟨_, (pss_cons (ps_if (pt_not (pt_val (callD T.d_is_number (ok_is_number T) (hr.mono (by decide)) (pa_cons (pv 1) pa_nil))))
      (pss_one (ps_raise T.me_Wrong (ok_Wrong_init T) (hr.mono (by decide)) T.g_Wrong T.d_Wrong_init.b lands_def (pa_cons pe_int pa_nil)))
      pss_nil)
      (pss_one (ps_ret (pe_op op_mod (pe_dget2 (hu_of hr) (pe_fld (pv 0) rfl) (pv 1) (pv 1) ⟨rfl, rfl, rfl, rfl⟩) (pe_fld (pv 0) rfl))))), ?_⟩
    refine ⟨_, rfl, x, t, rfl, hk, _, rfl, ?_⟩
    rw [hn]
    exact iteT ⟨by decide, fun e he => ⟨e, .int 0, rfl, upd_same, fun dx h1 h2 => ⟨rfl, some dx, upd_same, k _ _ (thr_mk he h1 h2)⟩⟩⟩
theorem okx_Plan_home (T : Txt K mg a) : FnOk P w K mg base (CX1 P w) 4 a.f_Plan_home a.d_Plan_home ["self", "key"] (fun vs H Q E => sp_Plan_home a.C_Plan vs H Q E ∨ spr_Plan_home a.C_Wrong vs H Q E) := (ok_Plan_home T).up.or (okr_Plan_home T)
theorem sc_Plan_is_room : FnScope ["self", "thing"] ["self", "thing"] (defScope s_Plan_is_room) := ⟨rfl, rfl, rfl, by decide +kernel, rfl, by decide +kernel, by decide +kernel⟩
/-! Plan_is_room -/
def sp_Plan_is_room (C : Addr) : Sp := fun vs H Q _ => ∃ (p : Addr) (x : V) (t : String) (n : Int) (wr : Bool) (ys : List V) (ps : Pr), vs = [.ref p, x] ∧ PlanAt H C p n wr ys ps ∧ kindS H x = some t ∧ Q (.bl (withinV 0 (n - 1) x)) H
theorem ok_Plan_is_room (T : Txt K mg a) : FnOk P w K mg base CX0 3 a.f_Plan_is_room a.d_Plan_is_room ["self", "thing"] (sp_Plan_is_room a.C_Plan) := by
  refine T.d_Plan_is_room.F.ok sc_Plan_is_room (fun vs H Q E h => ?_) (fun cdv A outer s H vs Q E hr h => ?_)
  · obtain ⟨p, x, t, n, wr, ys, ps, rfl, _⟩ := h
    rfl
  · obtain ⟨p, x, t, n, wr, ys, ps, rfl, P, hk, q⟩ := h
    refine ⟨_, (pss_one (ps_ret (callD T.d_is_whole_within (ok_is_whole_within T) (hr.mono (by decide)) (pa_cons (pv 1) (pa_cons pe_int (pa_cons (pe_op op_sub (pe_fld (pv 0) rfl) pe_int) pa_nil)))))), ?_⟩
    obtain ⟨⟨dx, hl, hd, h1, h2, h3⟩, n1, n2, rf⟩ := P
    exact ⟨_, rfl, _, rfl, p, a.C_Plan, dx, _, _, rfl, h1, T.cl_Plan.cl, T.n_Plan_rooms, flds_rooms _ _ _ _, _, _, rfl, rfl, x, t, _, _, rfl, hk, q⟩
theorem sc_Plan_far : FnScope ["self", "key", "room", "steps"] ["self", "key", "room"] (defScope s_Plan_far) := ⟨rfl, rfl, rfl, by decide +kernel, rfl, by decide +kernel, by decide +kernel⟩
/-! Plan_far -/
def sp_Plan_far (C : Addr) : Sp := fun vs H Q _ => ∃ (p : Addr) (k r n : Int) (wr : Bool) (ys : List V) (ps : Pr), vs = [.ref p, .int k, .int r] ∧ PlanAt H C p n wr ys ps ∧ isNum k ∧ 0 ≤ r ∧ r < n ∧ Q (farV (farOf n wr ps k r)) H
theorem within_room {n r : Int} (h0 : 0 ≤ r) (h1 : r < n) : withinV 0 (n - 1) (.int r) = true := by
  show (decide (0 ≤ r) && decide (r ≤ n - 1)) = true
  rw [decide_eq_true h0, decide_eq_true (show r ≤ n - 1 by omega)]; rfl
theorem ok_Plan_far (T : Txt K mg a) : FnOk P w K mg base CX0 5 a.f_Plan_far a.d_Plan_far ["self", "key", "room"] (sp_Plan_far a.C_Plan) := by
  refine T.d_Plan_far.F.ok sc_Plan_far (fun vs H Q E h => ?_) (fun cdv A outer s H vs Q E hr h => ?_)
  · obtain ⟨p, k, r, n, wr, ys, ps, rfl, _⟩ := h
    rfl
  · obtain ⟨p, k, r, n, wr, ys, ps, rfl, P, hk, r0, r1, q⟩ := h
    refine ⟨_, (pss_cons (ps_if (pt_not (pt_val (callD T.d_is_number (ok_is_number T) (hr.mono (by decide)) (pa_cons (pv 1) pa_nil))))
      (pss_one ps_never)
      pss_nil)
      (pss_cons (ps_if (pt_not (pt_val (pe_meth (pv 0) T.cl_Plan.cl T.d_Plan_is_room.me (ok_Plan_is_room T) (hr.mono (by decide)) T.d_Plan_is_room.b .nil pass0 (pa_cons (pv 2) pa_nil))))
      (pss_one ps_never)
      pss_nil)
      (pss_cons (sset 3 sc_Plan_far.nd (pe_op op_sub (pv 2) (pe_meth (pv 0) T.cl_Plan.cl T.d_Plan_home.me (ok_Plan_home T) (hr.mono (by decide)) T.d_Plan_home.b .nil pass0 (pa_cons (pv 1) pa_nil))))
      (pss_cons (ps_if (pt_val (pe_fld (pv 0) rfl))
      (pss_one (ps_ret (pe_op op_mod (pv 3) (pe_fld (pv 0) rfl))))
      pss_nil)
      (pss_one (ps_ret (pe_ifExp (pt_cmpR op_ge (pv 3) pe_int (nomark _)) (pv 3) pe_non))))))), ?_⟩
    obtain ⟨⟨dx, hl, hd, h1, h2, h3⟩, n1, n2, rf⟩ := id P
    refine ⟨_, rfl, .int k, "int", rfl, rfl, _, rfl, ?_⟩
    rw [num_iff.mpr hk]
    have nm : ∀ m : Str, ¬ m = "home_numbers" → ¬ m = "homes" → ¬ m = "wraps" → ¬ m = "rooms" → (flds n wr hl hd).lookup m = none := fun m => flds_no n wr hl hd
    refine iteF ⟨_, rfl, p, dx, _, rfl, h1, nm _ (by decide +kernel) (by decide +kernel) (by decide +kernel) (by decide +kernel), _, rfl, p, .int r, "int", n, wr, ys, ps, rfl, P, rfl, _, rfl, ?_⟩
    rw [within_room r0 r1]
    refine iteF ⟨_, rfl, _, rfl, p, dx, _, rfl, h1, nm _ (by decide +kernel) (by decide +kernel) (by decide +kernel) (by decide +kernel), _, rfl, p, k, n, wr, ys, ps, rfl, P, hk, _, _, rfl, rfl, ?_⟩
    refine ⟨_, rfl, p, a.C_Plan, dx, _, _, rfl, h1, T.cl_Plan.cl, T.n_Plan_wraps, flds_wraps _ _ _ _, _, rfl, ?_⟩
    refine ite2 (fun hw => ?_) (fun hw => ?_)
    · refine ⟨_, rfl, _, rfl, p, a.C_Plan, dx, _, _, rfl, h1, T.cl_Plan.cl, T.n_Plan_rooms, flds_rooms _ _ _ _, _, _, rfl, rfl, (by show 0 < n; omega), ?_⟩
      have e : farOf n wr ps k r = some ((r - homeOf n ps k) % n) := by unfold farOf; rw [if_pos hw]
      rw [e] at q
      exact q
    · refine ⟨_, rfl, _, _, rfl, rfl, _, rfl, ?_⟩
      refine ite2 (fun h0 => ?_) (fun h0 => ?_)
      · have h0 : 0 ≤ r - homeOf n ps k := of_decide_eq_true h0
        have e : farOf n wr ps k r = some (r - homeOf n ps k) := by unfold farOf; rw [if_neg hw, if_pos h0]
        rw [e] at q
        exact ⟨_, rfl, q⟩
      · have h0 : ¬ 0 ≤ r - homeOf n ps k := fun z => h0 (decide_eq_true z)
        have e : farOf n wr ps k r = none := by unfold farOf; rw [if_neg hw, if_neg h0]
        rw [e] at q
        exact q
def spr_Plan_far (Cp Cw : Addr) : Sp := fun vs H _ E => ∃ (p : Addr) (x y : V) (t u : String) (n : Int) (wr : Bool) (ys : List V) (ps : Pr), vs = [.ref p, x, y] ∧ PlanAt H Cp p n wr ys ps ∧ kindS H x = some t ∧ kindS H y = some u ∧ (numV x = false ∨ withinV 0 (n - 1) y = false) ∧
  ∀ e H', Thr H H' Cw "at" (.int (if numV x = true then 1 else 0)) e → E (.ref e) none H'
theorem okr_Plan_far (T : Txt K mg a) : FnOk P w K mg base (CX1 P w) 5 a.f_Plan_far a.d_Plan_far ["self", "key", "room"] (spr_Plan_far a.C_Plan a.C_Wrong) := by
  refine T.d_Plan_far.F.okX sc_Plan_far (fun vs H Q E h => ?_) (fun cdv A outer s H vs Q E hr h => ?_)
  · obtain ⟨p, x, y, t, u, n, wr, ys, ps, rfl, _⟩ := h
    rfl
  · obtain ⟨p, x, y, t, u, n, wr, ys, ps, rfl, P', hk, hk2, hn, k⟩ := h
    refine ⟨_, (pss_cons (ps_if (pt_not (pt_val (callD T.d_is_number (ok_is_number T) (hr.mono (by decide)) (pa_cons (pv 1) pa_nil))))
      (pss_one (ps_raise T.me_Wrong (ok_Wrong_init T) (hr.mono (by decide)) T.g_Wrong T.d_Wrong_init.b lands_def (pa_cons pe_int pa_nil)))
      pss_nil)
      (pss_cons (ps_if (pt_not (pt_val (pe_meth (pv 0) T.cl_Plan.cl T.d_Plan_is_room.me (ok_Plan_is_room T) (hr.mono (by decide)) T.d_Plan_is_room.b .nil pass0 (pa_cons (pv 2) pa_nil))))
      (pss_one (ps_raise T.me_Wrong (ok_Wrong_init T) (hr.mono (by decide)) T.g_Wrong T.d_Wrong_init.b lands_def (pa_cons pe_int pa_nil)))
      pss_nil)
      (pss_cons (sset 3 sc_Plan_far.nd (pe_op op_sub (pv 2) (pe_meth (pv 0) T.cl_Plan.cl T.d_Plan_home.me (ok_Plan_home T) (hr.mono (by decide)) T.d_Plan_home.b .nil pass0 (pa_cons (pv 1) pa_nil))))
      (pss_cons (ps_if (pt_val (pe_fld (pv 0) rfl))
      (pss_one (ps_ret (pe_op op_mod (pv 3) (pe_fld (pv 0) rfl))))
      pss_nil)
      (pss_one (ps_ret (pe_ifExp (pt_cmpR op_ge (pv 3) pe_int (nomark _)) (pv 3) pe_non))))))), ?_⟩
    refine ⟨_, rfl, x, t, rfl, hk, _, rfl, ?_⟩
    cases hx : numV x with
    | false =>
      rw [hx] at k
      exact iteT ⟨by decide, fun e he => ⟨e, .int 0, rfl, upd_same, fun dx h1 h2 => ⟨rfl, some dx, upd_same, k _ _ (thr_mk he h1 h2)⟩⟩⟩
    | true =>
      rw [hx] at k
      refine iteF ?_
      obtain ⟨dx, hl, hd, h1, _⟩ := id P'.ob
      have hy : withinV 0 (n - 1) y = false := hn.resolve_left (by rw [hx]; decide)
      refine ⟨_, rfl, p, dx, _, rfl, h1, flds_no _ _ _ _ (by decide +kernel) (by decide +kernel) (by decide +kernel) (by decide +kernel), _, rfl, p, y, u, n, wr, ys, ps, rfl, P', hk2, _, rfl, ?_⟩
      rw [hy]
      exact iteT ⟨by decide, fun e he => ⟨e, .int 1, rfl, upd_same, fun dx h1 h2 => ⟨rfl, some dx, upd_same, k _ _ (thr_mk he h1 h2)⟩⟩⟩
theorem okx_Plan_far (T : Txt K mg a) : FnOk P w K mg base (CX1 P w) 5 a.f_Plan_far a.d_Plan_far ["self", "key", "room"] (fun vs H Q E => sp_Plan_far a.C_Plan vs H Q E ∨ spr_Plan_far a.C_Plan a.C_Wrong vs H Q E) := (ok_Plan_far T).up.or (okr_Plan_far T)
theorem sc_Lbag : FnScope ["_law_script"] ["_law_script"] (defScope s_Lbag) := ⟨rfl, rfl, rfl, by decide +kernel, rfl, by decide +kernel, by decide +kernel⟩
/-! Lbag -/
theorem ok_Lbag (T : Txt K mg a) : FnOk P w K mg base CX0 1 a.f_Lbag a.d_Lbag ["_law_script"] (spLbag K) := by
  refine T.d_Lbag.F.ok sc_Lbag (fun vs H Q E h => ?_) (fun cdv A outer s H vs Q E hr h => ?_)
  · obtain ⟨l, ns, rfl, _⟩ := h
    rfl
  · obtain ⟨l, ns, rfl, hS, hl, k⟩ := h
    refine ⟨_, (pss_one (ps_ret (pe_lst (pa_cons pe_int (pa_cons pe_int (pa_cons pe_int (pa_cons (pe_comp ["_law_cell"] [none] (pi_list (pe_slice sl_list (pv 0) po_none (po_some pe_int))) (fun C s0 H0 ex => (gnm 0 (show (["_law_cell"] : List Str).Nodup by decide +kernel))) (fun C s0 H0 ex => pf_nil) (fun C s0 H0 ex => (cbi call_abs T.z_abs (pa_cons (pv 0) pa_nil)))) pa_nil))))))), ?_⟩
    refine ⟨_, rfl, _, rfl, l, _, rfl, hS, fun c hc => ?_⟩
    have ec : cutV (ns.map V.int) none (some 63) = ns.map V.int := by
      unfold cutV
      have e63 : HT.sIx (ns.map V.int).length (ns.map V.int).length (some (63 : Int)) = min 63 (ns.map V.int).length := HT.sIx_nat _ _ 63
      rw [e63, HT.sIx_none, List.drop_zero, Nat.sub_zero]
      apply List.take_of_length_le
      rw [List.length_map]
      omega
    rw [ec]
    refine ⟨c, rfl, ⟨_, SqL.of upd_same⟩, fun D hD => ?_⟩
    have nD : D ≠ c := fun z => by rw [z, upd_same] at hD; cases hD
    have hD' : H D = none := by rw [upd_ne nD] at hD; exact hD
    refine comp_list (K := K) (xs := ns.map V.int) (fun i σ H1 => ∃ v, σ = [v] ∧ H1 = upd (upd H c (.lst (ns.map V.int))) D (.lst (((ns.take i).map fun n => if n < 0 then -n else n).map V.int))) ⟨none, rfl, rfl⟩ ?_ ?_ ?_
    · rintro i σ H1 _ ⟨v, rfl, rfl⟩
      refine SqL.of ?_
      rw [upd_ne nD.symm, upd_same]
    · rintro i x σ H1 hi ⟨v, rfl, rfl⟩
      obtain ⟨n, hn, rfl⟩ : ∃ n, ns[i]? = some n ∧ V.int n = x := by
        rw [List.getElem?_map] at hi
        cases e : ns[i]? with
        | none => rw [e] at hi; cases hi
        | some z => rw [e] at hi; exact ⟨z, rfl, Option.some.inj hi⟩
      refine ⟨_, rfl, _, rfl, _, upd_same, ?_, _, rfl, ?_⟩
      · rw [List.length_map, List.length_map, List.length_take]
        exact small1000 (by omega)
      · rw [upd_upd]
        congr 1
        rw [List.take_add_one, hn]
        simp
    · rintro σ H1 ⟨v, rfl, rfl⟩
      rw [List.length_map, List.take_of_length_le (Nat.le_refl _)]
      refine ⟨by show 4 ≤ sizeLine; decide, fun p hp => ?_⟩
      have npD : p ≠ D := fun z => by rw [z, upd_same] at hp; cases hp
      rw [upd_ne npD] at hp
      have npc : p ≠ c := fun z => by rw [z, upd_same] at hp; cases hp
      rw [upd_ne npc] at hp
      refine k p D _ hp hD' (fun b o e => ?_) ⟨0, 1234567891, 0, ns.map fun n => if n < 0 then -n else n, upd_same, ?_, by decide, by decide, by decide, by decide, ?_⟩
      · rw [upd_ne (ne_of_none e hp), upd_ne (ne_of_none e hD'), upd_ne (ne_of_none e hc)]
        exact e
      · rw [upd_ne npD.symm, upd_same]
      · intro n hn
        obtain ⟨m, _, rfl⟩ := List.mem_map.mp hn
        split <;> omega
theorem sc_Ltake : FnScope ["_law_bag_here", "_law_many", "_law_cell", "_law_value", "_law_first", "_law_second"] ["_law_bag_here", "_law_many"] (defScope s_Ltake) := ⟨rfl, rfl, rfl, by decide +kernel, rfl, by decide +kernel, by decide +kernel⟩
/-! Ltake -/
theorem ok_Ltake (T : Txt K mg a) : FnOk P w K mg base CX0 1 a.f_Ltake a.d_Ltake ["_law_bag_here", "_law_many"] spLtake := by
  refine T.d_Ltake.F.ok sc_Ltake (fun vs H Q E h => ?_) (fun cdv A outer s H vs Q E hr h => ?_)
  · obtain ⟨p, L, m, rfl, _⟩ := h
    rfl
  · obtain ⟨p, L, m, rfl, ⟨x, y, z, ns, B⟩, hm0, hm1, k⟩ := h
    refine ⟨_, (pss_mid (ps_if (pt_cmpR op_eq (ix ix_list (pv 0) pe_int) pe_int (nomark _))
      (pss_cons (sset 2 sc_Ltake.nd pe_int)
      (pss_mid (ps_if (pt_cmpR op_lt (ix ix_list (pv 0) pe_int) (cbi call_len_seq T.z_len (pa_cons (ix ix_list (pv 0) pe_int) pa_nil)) (nomark _))
      (pss_one (sset 2 sc_Ltake.nd (ix ix_list (ix ix_list (pv 0) pe_int) (ix ix_list (pv 0) pe_int))))
      pss_nil)
      (pss_cons (ps_augS (pv 0) pe_int get_list pe_int ip_add set_list)
      (pss_mid (ps_if (pt_cmpR op_ge (pv 2) pe_int (nomark _))
      (pss_one (ps_asg (pv 2) (pg_sub (pv 0) pe_int set_list)))
      pss_nil)
      (pss_one (ps_asg (pe_op op_mod (pe_op op_add (pe_op op_add (pe_op op_mul (ix ix_list (pv 0) pe_int) pe_int) (pe_op op_mod (pv 2) pe_int)) (pe_op op_mul pe_int (ix ix_list (pv 0) pe_int))) pe_int) (pg_sub (pv 0) pe_int set_list)))))))
      pss_nil)
      (pss_cons (ps_if (pt_cmpR op_gt (ix ix_list (pv 0) pe_int) pe_int (nomark _))
      (pss_cons (sset 3 sc_Ltake.nd (pe_op op_mod (ix ix_list (pv 0) pe_int) (pv 1)))
      (pss_cons (ps_asg (pe_op op_fdivB (ix ix_list (pv 0) pe_int) (pv 1)) (pg_sub (pv 0) pe_int set_list))
      (pss_one (ps_ret (pv 3)))))
      pss_nil)
      (pss_cons (sset 4 sc_Ltake.nd (pe_op op_mod (pe_op op_mul (pe_op op_add (ix ix_list (pv 0) pe_int) pe_int) pe_int) pe_int))
      (pss_cons (sset 5 sc_Ltake.nd (pe_op op_mod (pe_op op_mul (pe_op op_mod (pe_op op_mul (pv 4) (pv 4)) pe_int) pe_int) pe_int))
      (pss_cons (ps_if (pt_cmpR op_gt (pv 1) pe_int (nomark _))
      (pss_one (ps_ret (pe_op op_mod (pe_op op_add (pe_op op_mul (pv 5) pe_int) (pv 4)) (pv 1))))
      pss_nil)
      (pss_one (ps_ret (pe_op op_mod (pe_op op_fdivB (pv 5) pe_int) (pv 1))))))))), ?_⟩
    have nLp := B.ne
    have nn := B.nn
    have x0 := B.x0
    have y0 := B.y0
    have y1 := B.y1
    have z0 := B.z0
    have bagOk : ∀ {x' y' z' : Int}, 0 ≤ x' → 0 ≤ y' → y' < 2147483647 → 0 ≤ z' → Bag (upd H p (bagL x' y' z' L)) p L := fun {x' y' z'} h1 h2 h3 h4 =>
      ⟨x', y', z', ns, upd_same, by rw [upd_ne nLp]; exact B.li, h1, h2, h3, h4, nn⟩
    have atp : ∀ {x' y' z' : Int}, upd H p (bagL x' y' z' L) p = some (.lst [.int x', .int y', .int z', .ref L]) := upd_same
    have upp : ∀ {x' y' z' x'' y'' z'' : Int}, upd (upd H p (bagL x' y' z' L)) p (.lst [.int x'', .int y'', .int z'', .ref L]) = upd H p (bagL x'' y'' z'' L) := upd_upd
    have hH : upd H p (bagL x y z L) = H := upd_self B.at_
    refine ⟨fun σ' H' => ∃ (x' y' z' : Int) (c : Option V), σ' = [some (.ref p), some (.int m), c, none, none, none] ∧ H' = upd H p (bagL x' y' z' L) ∧ 0 ≤ x' ∧ 0 ≤ y' ∧ y' < 2147483647 ∧ 0 ≤ z', ?_, ?_⟩
    · refine ⟨_, rfl, p, _, _, _, rfl, rfl, SqL.of B.at_, rfl, rfl, _, rfl, ?_⟩
      refine ite2 (fun h1 => ?_) (fun h1 => ?_)
      · -- the cell
        refine ⟨fun σ' H' => ∃ c : Int, 0 ≤ c ∧ σ' = [some (.ref p), some (.int m), some (.int c), none, none, none] ∧ H' = H, ?_, ?_⟩
        · refine ⟨_, rfl, p, _, _, _, rfl, rfl, SqL.of B.at_, rfl, _, rfl, p, _, _, _, rfl, rfl, SqL.of B.at_, rfl, L, _, rfl, .inl (SqL.of B.li), _, _, rfl, rfl, _, rfl, ?_⟩
          refine ite2 (fun h2 => ?_) (fun h2 => ?_)
          · have h2 : z < ((ns.map V.int).length : Int) := of_decide_eq_true h2
            obtain ⟨v, e1, e2⟩ := atI_in z0 h2
            obtain ⟨n, hn, rfl⟩ : ∃ n, ns[z.toNat]? = some n ∧ V.int n = v := by
              rw [List.getElem?_map] at e1
              cases e : ns[z.toNat]? with
              | none => rw [e] at e1; cases e1
              | some w' => rw [e] at e1; exact ⟨w', rfl, Option.some.inj e1⟩
            refine ⟨_, rfl, p, _, _, _, rfl, rfl, SqL.of B.at_, rfl, _, rfl, p, _, _, _, rfl, rfl, SqL.of B.at_, rfl, L, _, _, _, rfl, rfl, SqL.of B.li, e2, ?_⟩
            exact ⟨n, nn n (List.mem_of_getElem? hn), rfl, rfl⟩
          · exact ⟨0, by decide, rfl, rfl⟩
        · rintro σ' H' ⟨c, hc, rfl, rfl⟩
          -- the count, then the great cell, then the second
          refine ⟨_, rfl, p, _, _, _, rfl, rfl, B.at_, by decide, rfl, _, _, rfl, rfl, p, _, _, _, rfl, rfl, B.at_, rfl, ?_⟩
          refine ⟨fun σ' H1 => ∃ x' : Int, 0 ≤ x' ∧ σ' = [some (.ref p), some (.int m), some (.int c), none, none, none] ∧ H1 = upd H' p (bagL x' y (z + 1) L), ?_, ?_⟩
          · refine ⟨_, rfl, _, _, rfl, rfl, _, rfl, ?_⟩
            refine ite2 (fun h2 => ?_) (fun h2 => ?_)
            · refine ⟨_, rfl, _, rfl, p, _, _, _, rfl, rfl, upd_same, rfl, ?_⟩
              exact ⟨c, hc, rfl, upd_upd⟩
            · exact ⟨x, x0, rfl, rfl⟩
          · rintro σ' H1 ⟨x', hx', rfl, rfl⟩
            refine ⟨_, rfl, p, _, _, _, rfl, rfl, SqL.of atp, rfl, _, _, rfl, rfl, .inl ⟨by omega, by omega⟩, _, rfl, _, _, rfl, rfl, (by show (0 : Int) < 2147483647; decide), _, _, rfl, rfl, _, rfl, p, _, _, _, rfl, rfl, SqL.of atp, rfl, _, _, rfl, rfl, .inl ⟨by decide, by decide⟩, _, _, rfl, rfl, _, _, rfl, rfl, (by show (0 : Int) < 2147483647; decide), _, rfl, p, _, _, _, rfl, rfl, atp, rfl, ?_⟩
            exact ⟨x', _, z + 1, _, rfl, upp, hx', Int.emod_nonneg _ (by decide), Int.emod_lt_of_pos _ (by decide), by omega⟩
      · exact ⟨x, y, z, _, rfl, hH.symm, x0, y0, y1, z0⟩
    · rintro σ' H' ⟨x', y', z', c, rfl, rfl, hx', hy', hy1', hz'⟩
      refine ⟨_, rfl, p, _, _, _, rfl, rfl, SqL.of atp, rfl, _, _, rfl, rfl, _, rfl, ?_⟩
      refine ite2 (fun h1 => ?_) (fun h1 => ?_)
      · refine ⟨_, rfl, p, _, _, _, rfl, rfl, SqL.of atp, rfl, _, rfl, _, _, rfl, rfl, hm0, _, rfl, p, _, _, _, rfl, rfl, SqL.of atp, rfl, _, rfl, _, _, rfl, rfl, ⟨hm0, hm1⟩, _, rfl, p, _, _, _, rfl, rfl, atp, rfl, _, rfl, ?_⟩
        have h1 : 0 < x' := of_decide_eq_true h1
        have q := k (x' % m) _ (Int.emod_nonneg _ (by omega)) (Int.emod_lt_of_pos _ hm0) (bagOk (Int.ediv_nonneg hx' (by omega : 0 ≤ m)) hy' hy1' hz') fun b hb => upd_ne hb
        rw [← upp (x' := x') (y' := y') (z' := z')] at q
        exact q
      · refine ⟨_, rfl, p, _, _, _, rfl, rfl, SqL.of atp, rfl, _, _, rfl, rfl, _, _, rfl, rfl, .inr ⟨by decide, by decide⟩, _, _, rfl, rfl, (by show (0 : Int) < 1000000007; decide), ?_⟩
        have f0 : 0 ≤ (y' + 1) * 39373 % 1000000007 := Int.emod_nonneg _ (by decide)
        have f1 : (y' + 1) * 39373 % 1000000007 < 1000000007 := Int.emod_lt_of_pos _ (by decide)
        generalize hf : (y' + 1) * 39373 % 1000000007 = f at f0 f1
        refine ⟨_, rfl, _, rfl, _, _, rfl, rfl, .inl ⟨?_, ?_⟩, _, _, rfl, rfl, (by show (0 : Int) < 998244353; decide), _, _, rfl, rfl, .inr ⟨by decide, by decide⟩, _, _, rfl, rfl, (by show (0 : Int) < 998244353; decide), ?_⟩
        · show -(2 ^ 64) < (y' + 1) * 39373 % 1000000007
          omega
        · show (y' + 1) * 39373 % 1000000007 < 2 ^ 64
          omega
        refine ⟨_, rfl, _, _, rfl, rfl, _, rfl, ?_⟩
        refine ite2 (fun h2 => ?_) (fun h2 => ?_)
        · refine ⟨_, rfl, _, _, rfl, rfl, .inr ⟨by decide, by decide⟩, _, rfl, _, _, rfl, rfl, _, rfl, _, _, rfl, rfl, hm0, ?_⟩
          exact k _ _ (Int.emod_nonneg _ (by omega)) (Int.emod_lt_of_pos _ hm0) (bagOk hx' hy' hy1' hz') fun b hb => upd_ne hb
        · refine ⟨_, rfl, _, _, rfl, rfl, ⟨by decide, by decide⟩, _, rfl, _, _, rfl, rfl, hm0, ?_⟩
          exact k _ _ (Int.emod_nonneg _ (by omega)) (Int.emod_lt_of_pos _ hm0) (bagOk hx' hy' hy1' hz') fun b hb => upd_ne hb
theorem sc_Lcase : FnScope ["_law_bag_here", "_law_most", "_law_way", "_law_rooms"] ["_law_bag_here", "_law_most"] (defScope s_Lcase) := ⟨rfl, rfl, rfl, by decide +kernel, rfl, by decide +kernel, by decide +kernel⟩
/-! Lcase -/
def spLcase : Sp := fun vs H Q _ => ∃ (p L : Addr) (m : Int), vs = [.ref p, .int m] ∧ Bag H p L ∧ 8 ≤ m ∧ m ≤ 64 ∧
  ∀ (c l : Addr) (n : Int) (wr : Bool) (H' : Hp), n ≤ m → L ≠ l → Bag H' p L → CaseAt H' c l n wr [] [] → KeepBut p H H' → Q (.ref c) H'
theorem ok_Lcase (T : Txt K mg a) : FnOk P w K mg base CX0 2 a.f_Lcase a.d_Lcase ["_law_bag_here", "_law_most"] spLcase := by
  refine T.d_Lcase.F.ok sc_Lcase (fun vs H Q E h => ?_) (fun cdv A outer s H vs Q E hr h => ?_)
  · obtain ⟨p, L, m, rfl, _⟩ := h
    rfl
  · obtain ⟨p, L, m, rfl, B, m0, m1, k⟩ := h
    refine ⟨_, (pss_cons (sset 2 sc_Lcase.nd (callD T.d_Ltake (ok_Ltake T) (hr.mono (by decide)) (pa_cons (pv 0) (pa_cons pe_int pa_nil))))
      (pss_cons (sset 3 sc_Lcase.nd (pv 1))
      (pss_mid (ps_if (pt_cmpR op_lt (pv 2) pe_int (nomark _))
      (pss_one (sset 3 sc_Lcase.nd (pe_op op_add pe_int (callD T.d_Ltake (ok_Ltake T) (hr.mono (by decide)) (pa_cons (pv 0) (pa_cons (ix ix_list (pe_lst (pa_cons pe_int (pa_cons pe_int (pa_cons (pv 1) pa_nil)))) (pv 2)) pa_nil))))))
      pss_nil)
      (pss_one (ps_ret (pe_lst (pa_cons (pv 3) (pa_cons (pe_cmpR op_eq (callD T.d_Ltake (ok_Ltake T) (hr.mono (by decide)) (pa_cons (pv 0) (pa_cons pe_int pa_nil))) pe_int (nomark _)) (pa_cons (pe_lst pa_nil) pa_nil))))))))), ?_⟩
    refine ⟨_, rfl, p, L, 4, rfl, B, by decide, by decide, fun way H1 w0 w1 B1 O1 => ?_⟩
    refine ⟨_, rfl, ?_⟩
    refine ⟨fun σ' H' => ∃ n : Int, 1 ≤ n ∧ n ≤ m ∧ σ' = [some (.ref p), some (.int m), some (.int way), some (.int n)] ∧ Bag H' p L ∧ KeepBut p H H', ?_, ?_⟩
    · refine ⟨_, rfl, _, _, rfl, rfl, _, rfl, ?_⟩
      refine ite2 (fun h1 => ?_) (fun h1 => ?_)
      · have h1 : way < 3 := of_decide_eq_true h1
        refine ⟨_, rfl, _, rfl, by show 3 ≤ sizeLine; decide, fun l hl => ?_⟩
        obtain ⟨f, hf, ef⟩ := atI_mem (xs := [V.int 4, V.int 8, V.int m]) w0 h1
        refine ⟨_, rfl, l, _, _, f, rfl, rfl, SqL.of upd_same, ef, ?_⟩
        obtain ⟨g, rfl, g0, g1⟩ : ∃ g : Int, f = .int g ∧ 0 < g ∧ g ≤ m := by
          simp only [List.mem_cons, List.not_mem_nil, or_false] at hf
          rcases hf with rfl | rfl | rfl
          · exact ⟨_, rfl, by decide, by omega⟩
          · exact ⟨_, rfl, by decide, by omega⟩
          · exact ⟨_, rfl, by omega, by omega⟩
        refine ⟨p, L, g, rfl, B1.new hl, g0, by omega, fun v H2 v0 v1 B2 O2 => ⟨_, _, rfl, rfl, ?_⟩⟩
        exact ⟨1 + v, by omega, by omega, rfl, B2, O1.keep.trans ((KeepBut.new hl).trans O2.keep)⟩
      · exact ⟨m, by omega, by omega, rfl, B1, O1.keep⟩
    · rintro σ' H' ⟨n, n1, n2, rfl, B', K'⟩
      refine ⟨_, rfl, _, rfl, p, L, 2, rfl, B', by decide, by decide, fun v H2 v0 v1 B2 O2 => ⟨rfl, ?_⟩⟩
      refine ⟨by show 0 ≤ sizeLine; decide, fun l hl => ⟨by show 3 ≤ sizeLine; decide, fun c hc => ?_⟩⟩
      exact k c l n _ _ n2 (B2.neq hl).2.symm ((B2.new hl).new hc) ⟨upd_same, Same.new hc _ _ upd_same, .nil, n1, by omega⟩ (K'.trans (O2.keep.trans ((KeepBut.new hl).trans (KeepBut.new hc))))
theorem sc_Lkey : FnScope ["_law_bag_here", "_law_rooms", "_law_home_here", "_law_way"] ["_law_bag_here", "_law_rooms", "_law_home_here"] (defScope s_Lkey) := ⟨rfl, rfl, rfl, by decide +kernel, rfl, by decide +kernel, by decide +kernel⟩
/-! Lkey -/
def spLkey : Sp := fun vs H Q _ => ∃ (p L : Addr) (n h : Int), vs = [.ref p, .int n, .int h] ∧ Bag H p L ∧ 1 ≤ n ∧ n ≤ 64 ∧ 0 ≤ h ∧ h < n ∧
  ∀ (k : Int) (H' : Hp), lawKey k → Bag H' p L → KeepBut p H H' → Q (.int k) H'
theorem ok_Lkey (T : Txt K mg a) : FnOk P w K mg base CX0 2 a.f_Lkey a.d_Lkey ["_law_bag_here", "_law_rooms", "_law_home_here"] spLkey := by
  refine T.d_Lkey.F.ok sc_Lkey (fun vs H Q E h => ?_) (fun cdv A outer s H vs Q E hr h => ?_)
  · obtain ⟨p, L, n, h, rfl, _⟩ := h
    rfl
  · obtain ⟨p, L, n, h, rfl, B, n1, n2, h0, h1, k⟩ := h
    refine ⟨_, (pss_cons (sset 3 sc_Lkey.nd (callD T.d_Ltake (ok_Ltake T) (hr.mono (by decide)) (pa_cons (pv 0) (pa_cons pe_int pa_nil))))
      (pss_cons (ps_if (pt_cmpR op_eq (pv 3) pe_int (nomark _))
      (pss_one (ps_ret (pe_op op_sub (pe_op op_sub (pe_powc 1000000000000000000) (pe_op op_mod (pe_op op_sub (pe_powc 1000000000000000000) (pv 2)) (pv 1))) (pe_op op_mul (pv 1) (callD T.d_Ltake (ok_Ltake T) (hr.mono (by decide)) (pa_cons (pv 0) (pa_cons pe_int pa_nil)))))))
      pss_nil)
      (pss_one (ps_ret (pe_op op_add (pv 2) (pe_op op_mul (pv 1) (callD T.d_Ltake (ok_Ltake T) (hr.mono (by decide)) (pa_cons (pv 0) (pa_cons (ix ix_list (pe_lst (pa_cons pe_int (pa_cons pe_int (pa_cons pe_int (pa_cons pe_int (pa_cons (pe_powc 1000000000000000) pa_nil)))))) (pe_op op_sub (pv 3) pe_int)) pa_nil))))))))), ?_⟩
    refine ⟨_, rfl, p, L, 6, rfl, B, by decide, by decide, fun way H1 w0 w1 B1 O1 => ?_⟩
    refine ⟨_, rfl, rfl, _, rfl, ?_⟩
    refine ite2 (fun hw => ?_) (fun hw => ?_)
    · refine ⟨_, rfl, _, _, rfl, rfl, _, rfl, _, _, rfl, rfl, (by show 0 < n; omega), _, _, rfl, rfl, _, rfl, _, rfl, p, L, 9, rfl, B1, by decide, by decide, fun v H2 v0 v1 B2 O2 => ?_⟩
      refine ⟨_, _, rfl, rfl, .inl ⟨by omega, by omega⟩, _, _, rfl, rfl, ?_⟩
      have e0 : 0 ≤ (1000000000000000000 - h) % n := Int.emod_nonneg _ (by omega)
      have e1 : (1000000000000000000 - h) % n < n := Int.emod_lt_of_pos _ (by omega)
      have e2 : 0 ≤ n * v := Int.mul_nonneg (by omega) v0
      have e3 : n * v ≤ 64 * 8 := by
        have q1 : n * v ≤ 64 * v := Int.mul_le_mul_of_nonneg_right n2 v0
        omega
      refine k _ H2 (.inr ⟨?_, ?_⟩) B2 (O1.keep.trans O2.keep)
      · show 999999999999999000 ≤ 1000000000000000000 - (1000000000000000000 - h) % n - n * v
        omega
      · show 1000000000000000000 - (1000000000000000000 - h) % n - n * v ≤ 1000000000000000000
        omega
    · have hw : ¬ way = 0 := fun z => hw (decide_eq_true (by rw [z]))
      refine ⟨_, rfl, _, rfl, _, rfl, by show 5 ≤ sizeLine; decide, fun l hl => ?_⟩
      obtain ⟨f, hf, ef⟩ := atI_mem (xs := [V.int 9, V.int 9, V.int 9, V.int 9, V.int 1000000000000000]) (i := way - 1) (by omega) (by show way - 1 < 5; omega)
      refine ⟨_, rfl, _, _, rfl, rfl, l, _, _, f, rfl, rfl, SqL.of upd_same, ef, ?_⟩
      obtain ⟨g, rfl, g0, g1⟩ : ∃ g : Int, f = .int g ∧ 0 < g ∧ g ≤ 1000000000000000 := by
        simp only [List.mem_cons, List.not_mem_nil, or_false] at hf
        rcases hf with rfl | rfl | rfl | rfl | rfl
        all_goals exact ⟨_, rfl, by decide, by decide⟩
      refine ⟨p, L, g, rfl, B1.new hl, g0, by omega, fun v H2 v0 v1 B2 O2 => ?_⟩
      refine ⟨_, _, rfl, rfl, .inl ⟨by omega, by omega⟩, _, _, rfl, rfl, ?_⟩
      have e2 : 0 ≤ n * v := Int.mul_nonneg (by omega) v0
      have e3 : n * v ≤ 64 * 1000000000000000 := by
        have q1 : n * v ≤ 64 * v := Int.mul_le_mul_of_nonneg_right n2 v0
        omega
      refine k _ H2 (.inl ⟨?_, ?_⟩) B2 (O1.keep.trans ((KeepBut.new hl).trans O2.keep))
      · show 0 ≤ h + n * v
        omega
      · show h + n * v ≤ 70000000000000000
        omega
theorem sc_Lkeys : FnScope ["_law_bag_here", "_law_case_here", "_law_many", "_law_rooms", "_law_way", "_law_homes", "_law_found", "_law_k", "_law_home_here", "_law_key_here", "_law_told"] ["_law_bag_here", "_law_case_here", "_law_many"] (defScope s_Lkeys) := ⟨rfl, rfl, rfl, by decide +kernel, rfl, by decide +kernel, by decide +kernel⟩
/-! Lkeys -/
def spLkeys : Sp := fun vs H Q _ => ∃ (p L c l : Addr) (m n : Int) (wr : Bool), vs = [.ref p, .ref c, .int m] ∧ Bag H p L ∧ L ≠ l ∧ CaseAt H c l n wr [] [] ∧ 0 ≤ m ∧ m ≤ 100 ∧
  ∀ (f : Addr) (ks : List Int) (ys : List V) (ps : Pr) (H' : Hp), H' f = some (.lst (ks.map V.int)) → H f = none → ks.Nodup → (∀ k ∈ ks, lawKey k) → (ks.length : Int) ≤ m → (1 ≤ m → ks ≠ []) → Bag H' p L → CaseAt H' c l n wr ys ps → Drawn ks ps →
    (∀ b o, b ≠ p → b ≠ l → H b = some o → H' b = some o) → Q (.ref f) H'
theorem ok_Lkeys (T : Txt K mg a) : FnOk P w K mg base CX0 3 a.f_Lkeys a.d_Lkeys ["_law_bag_here", "_law_case_here", "_law_many"] spLkeys := by
  refine T.d_Lkeys.F.ok sc_Lkeys (fun vs H Q E h => ?_) (fun cdv A outer s H vs Q E hr h => ?_)
  · obtain ⟨p, L, c, l, m, n, wr, rfl, _⟩ := h
    rfl
  · obtain ⟨p, L, c, l, m, n, wr, rfl, B, nLl, P, m0, m1, k⟩ := h
    refine ⟨_, (pss_cons (sset 3 sc_Lkeys.nd (ix ix_list (pv 1) pe_int))
      (pss_cons (sset 4 sc_Lkeys.nd (callD T.d_Ltake (ok_Ltake T) (hr.mono (by decide)) (pa_cons (pv 0) (pa_cons pe_int pa_nil))))
      (pss_cons (sset 5 sc_Lkeys.nd (pe_lst (pa_cons (callD T.d_Ltake (ok_Ltake T) (hr.mono (by decide)) (pa_cons (pv 0) (pa_cons (pv 3) pa_nil))) (pa_cons (callD T.d_Ltake (ok_Ltake T) (hr.mono (by decide)) (pa_cons (pv 0) (pa_cons (pv 3) pa_nil))) pa_nil))))
      (pss_cons (sset 6 sc_Lkeys.nd (pe_lst pa_nil))
      (pss_cons (sfor (pi_range1 rfl T.z_range (pa_cons (pv 2) pa_nil)) (gnm 7 sc_Lkeys.nd)
      (pss_cons (sset 8 sc_Lkeys.nd (callD T.d_Ltake (ok_Ltake T) (hr.mono (by decide)) (pa_cons (pv 0) (pa_cons (pv 3) pa_nil))))
      (pss_mid (ps_if (pt_cmpR op_eq (pv 4) pe_int (nomark _))
      (pss_one (sset 8 sc_Lkeys.nd (pe_op op_sub (pe_op op_sub (pv 3) pe_int) (pe_op op_fdivB (pv 8) pe_int))))
      pss_nil)
      (pss_mid (ps_if (pt_cmpR op_eq (pv 4) pe_int (nomark _))
      (pss_one (sset 8 sc_Lkeys.nd (ix ix_list (pv 5) (pe_op op_mod (pv 8) pe_int))))
      pss_nil)
      (pss_mid (ps_if (pw_and (pt_cmpR op_eq (pv 4) pe_int (nomark _)) (pw_and1 (pt_cmpR op_gt (pe_op op_mod (pv 8) pe_int) pe_int (nomark _)))).pt
      (pss_one (sset 8 sc_Lkeys.nd (ix ix_list (pv 5) pe_int)))
      pss_nil)
      (pss_cons (sset 9 sc_Lkeys.nd (callD T.d_Lkey (ok_Lkey T) (hr.mono (by decide)) (pa_cons (pv 0) (pa_cons (pv 3) (pa_cons (pv 8) pa_nil)))))
      (pss_one (ps_if (pt_cmpR op_notIn_seq (pv 9) (pv 6) (by with_unfolding_all rfl))
      (pss_one (ps_expr (pe_bm PySem.F.plainAttrs_list PySem.F.slot_list_append PySem.F.type_list_append mt_append (pv 6) (pa_cons (pv 9) pa_nil))))
      pss_nil))))))))
      (pss_cons (sset 10 sc_Lkeys.nd (callD T.d_Ltake (ok_Ltake T) (hr.mono (by decide)) (pa_cons (pv 0) (pa_cons pe_int pa_nil))))
      (pss_cons (sfor (pi_list (pe_slice sl_list (pv 6) po_none (po_some (ix ix_list (pe_lst (pa_cons pe_int (pa_cons pe_int (pa_cons pe_int (pa_cons pe_int (pa_cons pe_int (pa_cons pe_int (pa_cons pe_int (pa_cons pe_int (pa_cons pe_int (pa_cons pe_int pa_nil))))))))))) (pv 10))))) (gnm 9 sc_Lkeys.nd)
      (pss_one (ps_expr (pe_bm PySem.F.plainAttrs_list PySem.F.slot_list_append PySem.F.type_list_append mt_append (ix ix_list (pv 1) pe_int) (pa_cons (pe_tup (pa_cons (pv 9) (pa_cons (callD T.d_Lkey (ok_Lkey T) (hr.mono (by decide)) (pa_cons (pv 0) (pa_cons (pv 3) (pa_cons (callD T.d_Ltake (ok_Ltake T) (hr.mono (by decide)) (pa_cons (pv 0) (pa_cons (pv 3) pa_nil))) pa_nil)))) pa_nil))) pa_nil)))))
      (pss_cons (sfor (pi_range1 rfl T.z_range (pa_cons (pe_op op_mod (pv 10) pe_int) pa_nil)) (gnm 7 sc_Lkeys.nd)
      (pss_one (ps_expr (pe_bm PySem.F.plainAttrs_list PySem.F.slot_list_insert PySem.F.type_list_insert mt_insert (ix ix_list (pv 1) pe_int) (pa_cons pe_int (pa_cons (pe_tup (pa_cons (pe_op op_add (pe_op op_add (pe_op op_mul pe_int (pe_powc 100000000000000000)) (pe_op op_mul pe_int (pv 7))) (pv 10)) (pa_cons (callD T.d_Lkey (ok_Lkey T) (hr.mono (by decide)) (pa_cons (pv 0) (pa_cons (pv 3) (pa_cons pe_int pa_nil)))) pa_nil))) pa_nil))))))
      (pss_one (ps_ret (pv 6))))))))))), ?_⟩
    have n1 := P.n1
    have n2 := P.n2
    refine ⟨_, rfl, c, _, 0, _, rfl, rfl, SqL.of P.ca, rfl, ?_⟩
    refine ⟨_, rfl, p, L, 4, rfl, B, by decide, by decide, fun way H1 w0 w1 B1 O1 => ?_⟩
    refine ⟨_, rfl, _, rfl, p, L, n, rfl, B1, by omega, by omega, fun g1 H2 a0 a1 B2 O2 => ?_⟩
    refine ⟨_, rfl, _, rfl, p, L, n, rfl, B2, by omega, by omega, fun g2 H3 b0 b1 B3 O3 => ?_⟩
    refine ⟨by show 2 ≤ sizeLine; decide, fun hh hhh => ?_⟩
    refine ⟨by show 0 ≤ sizeLine; decide, fun f hf => ?_⟩
    have K3 : KeepBut p H H3 := O1.keep.trans (O2.keep.trans O3.keep)
    have P3 : CaseAt H3 c l n wr [] [] := P.keep B K3
    have nhp := (B3.neq hhh).1
    have Bh := B3.new (u := .lst [.int g1, .int g2]) hhh
    have nfp := (Bh.neq hf).1
    have nfL := (Bh.neq hf).2
    have nfh : f ≠ hh := fun z => by rw [z, upd_same] at hf; cases hf
    have Ph := P3.same (Same.new (u := .lst [.int g1, .int g2]) hhh)
    have nfc : f ≠ c := (ne_of_none Ph.ca hf).symm
    have nfl : f ≠ l := (ne_of_none Ph.li hf).symm
    have nhl : hh ≠ l := (ne_of_none P3.li hhh).symm
    have hf3 : H3 f = none := by rw [upd_ne nfh] at hf; exact hf
    have none0 : ∀ {x : Addr}, x ≠ p → H3 x = none → H x = none := fun {x} hx e => by
      rw [← O1 x hx, ← O2 x hx, ← O3 x hx]; exact e
    have hf0 : H f = none := none0 nfp hf3
    have I0 : KI H (upd (upd H3 hh (.lst [.int g1, .int g2])) f (.lst [])) p L c l f hh n wr g1 g2 [] [] [] :=
      ⟨Bh.new hf, Ph.same (Same.new hf), upd_same, Same.new hf _ _ upd_same, List.nodup_nil, fun _ h => by simp at h, fun b o hb _ e => Same.new hf b o (Same.new hhh b o (K3 b o hb e))⟩
    refine ⟨_, rfl, m, rfl, by omega, by omega, for_range (n := m.toNat) (fun i σ H4 => ∃ (ks : List Int) (v7 v8 v9 : Option V), σ = [some (.ref p), some (.ref c), some (.int m), some (.int n), some (.int way), some (.ref hh), some (.ref f), v7, v8, v9, none] ∧ KI H H4 p L c l f hh n wr g1 g2 ks [] [] ∧ ks.length ≤ i ∧ (1 ≤ i → ks ≠ []))
      ⟨[], _, _, _, rfl, I0, Nat.le_refl _, fun h => absurd h (by decide)⟩ ?_ ?_⟩
    · rintro i σ H4 hi ⟨ks, v7, v8, v9, rfl, I, hlen, hne⟩
      refine ⟨_, rfl, _, rfl, p, L, n, rfl, I.bg, by omega, by omega, fun h H5 h0 h1 B5 O5 => ?_⟩
      have I5 := I.draw nfp nhp O5.keep B5
      refine ⟨fun σ' H' => H' = H5 ∧ ∃ h : Int, 0 ≤ h ∧ h < n ∧ σ' = [some (.ref p), some (.ref c), some (.int m), some (.int n), some (.int way), some (.ref hh), some (.ref f), some (.int (0 + i)), some (.int h), v9, none], ?_, ?_⟩
      · refine ⟨_, rfl, rfl, _, rfl, ?_⟩
        refine ite2 (fun _ => ?_) (fun _ => ⟨rfl, h, h0, h1, rfl⟩)
        refine ⟨_, rfl, _, _, rfl, rfl, _, rfl, _, _, rfl, rfl, ⟨by decide, by decide⟩, _, _, rfl, rfl, ?_⟩
        refine ⟨rfl, _, ?_, ?_, rfl⟩
        · show 0 ≤ n - 1 - h / 3
          omega
        · show n - 1 - h / 3 < n
          omega
      rintro σ' H' ⟨rfl, h, h0, h1, rfl⟩
      refine ⟨fun σ' H'' => H'' = H' ∧ ∃ h : Int, 0 ≤ h ∧ h < n ∧ σ' = [some (.ref p), some (.ref c), some (.int m), some (.int n), some (.int way), some (.ref hh), some (.ref f), some (.int (0 + i)), some (.int h), v9, none], ?_, ?_⟩
      · refine ⟨_, rfl, rfl, _, rfl, ?_⟩
        refine ite2 (fun _ => ?_) (fun _ => ⟨rfl, h, h0, h1, rfl⟩)
        obtain ⟨v, hv, ev⟩ := atI_mem (xs := [V.int g1, V.int g2]) (i := h % 2) (Int.emod_nonneg _ (by decide)) (by show h % 2 < 2; omega)
        refine ⟨_, rfl, _, rfl, _, _, rfl, rfl, (by show (0 : Int) < 2; decide), hh, _, _, v, rfl, rfl, SqL.of I5.ho, ev, ?_⟩
        simp only [List.mem_cons, List.not_mem_nil, or_false] at hv
        rcases hv with rfl | rfl
        · exact ⟨rfl, g1, a0, a1, rfl⟩
        · exact ⟨rfl, g2, b0, b1, rfl⟩
      rintro σ' H'' ⟨rfl, h, h0, h1, rfl⟩
      refine ⟨fun σ' H5 => H5 = H'' ∧ ∃ h : Int, 0 ≤ h ∧ h < n ∧ σ' = [some (.ref p), some (.ref c), some (.int m), some (.int n), some (.int way), some (.ref hh), some (.ref f), some (.int (0 + i)), some (.int h), v9, none], ?_, ?_⟩
      · refine ⟨_, rfl, rfl, _, rfl, ?_⟩
        refine ite2 (fun _ => ?_) (fun _ => ?_)
        · refine ⟨_, rfl, _, _, rfl, rfl, (by show (0 : Int) < 3; decide), _, _, rfl, rfl, _, rfl, ?_⟩
          refine ite2 (fun _ => ?_) (fun _ => ⟨rfl, h, h0, h1, rfl⟩)
          exact ⟨_, rfl, hh, _, 0, _, rfl, rfl, SqL.of I5.ho, rfl, rfl, g1, a0, a1, rfl⟩
        · exact ⟨rfl, h, h0, h1, rfl⟩
      rintro σ' H5 ⟨rfl, h, h0, h1, rfl⟩
      refine ⟨_, rfl, _, rfl, _, rfl, p, L, n, h, rfl, I5.bg, n1, n2, h0, h1, fun kk H6 lk B6 K6 => ?_⟩
      have I6 := I5.draw nfp nhp K6 B6
      refine ⟨_, rfl, _, rfl, f, _, rfl, .inl (SqL.of I6.fo), rfl, flat_ints ks, _, rfl, ?_⟩
      rw [inV_ints]
      by_cases hm : kk ∈ ks
      · rw [decide_eq_true hm]
        refine iteF ⟨ks, _, _, _, rfl, I6, by omega, fun _ e => ?_⟩
        rw [e] at hm
        exact absurd hm (by simp)
      · rw [decide_eq_false hm]
        refine iteT ⟨_, rfl, .inl ⟨rfl, _, SqL.of I6.fo⟩, _, rfl, f, _, _, rfl, rfl, I6.fo, by rw [List.length_map]; exact small1000 (by omega), ?_⟩
        refine ⟨ks ++ [kk], _, _, _, rfl, I6.put nfp nfL nfc nfl nfh hf0 lk hm, by rw [List.length_append]; simp; omega, fun _ e => ?_⟩
        simp at e
    · rintro σ H4 ⟨ks, v7, v8, v9, rfl, I, hlen, hne⟩
      refine ⟨_, rfl, p, L, 10, rfl, I.bg, by decide, by decide, fun told H5 t0 t1 B5 O5 => ?_⟩
      have I5 := I.draw nfp nhp O5.keep B5
      refine ⟨_, rfl, by show 10 ≤ sizeLine; decide, fun q hq => ?_⟩
      have I6 := I5.new (u := .lst [.int 0, .int 0, .int 0, .int 0, .int 1, .int 1, .int 2, .int 3, .int 3, .int 12]) hq
      obtain ⟨v, hv, ev⟩ := atI_mem (xs := [V.int 0, .int 0, .int 0, .int 0, .int 1, .int 1, .int 2, .int 3, .int 3, .int 12]) t0 t1
      obtain ⟨j, rfl, j0, j1⟩ : ∃ j : Int, v = .int j ∧ 0 ≤ j ∧ j ≤ 12 := by
        simp only [List.mem_cons, List.not_mem_nil, or_false] at hv
        rcases hv with rfl | rfl | rfl | rfl | rfl | rfl | rfl | rfl | rfl | rfl
        all_goals exact ⟨_, rfl, by decide, by decide⟩
      refine ⟨_, rfl, q, _, _, _, rfl, rfl, SqL.of upd_same, ev, j, rfl, f, _, rfl, SqL.of I6.fo, fun sl hsl => ?_⟩
      rw [cut_take _ j0, ← List.map_take]
      have I7 := I6.new (u := .lst ((ks.take j.toNat).map V.int)) hsl
      have nsp := (I6.bg.neq hsl).1
      have nsl : sl ≠ l := (ne_of_none I6.ca.li hsl).symm
      have hlj : (ks.take j.toNat).length ≤ 12 := by rw [List.length_take]; omega
      refine ⟨sl, rfl, ⟨_, SqL.of upd_same⟩, for_list (K := K) (a := sl) (xs := (ks.take j.toNat).map V.int) (fun i σ H8 => ∃ (v9 : Option V) (ys : List V) (ps : Pr), σ = [some (.ref p), some (.ref c), some (.int m), some (.int n), some (.int way), some (.ref hh), some (.ref f), v7, v8, v9, some (.int told)] ∧
          KI H H8 p L c l f hh n wr g1 g2 ks ys ps ∧ ps.map (·.1) = (ks.take j.toNat).take i ∧ (∀ q ∈ ps, lawKey q.2) ∧ H8 sl = some (.lst ((ks.take j.toNat).map V.int)))
        ⟨_, [], [], rfl, I7, by simp, fun _ h => by simp at h, upd_same⟩ ?_ ?_ ?_⟩
      · rintro i σ H8 _ ⟨_, _, _, _, _, _, _, e⟩
        exact SqL.of e
      · rintro i x σ H8 hi ⟨v9, ys, ps, rfl, I8, hps, hq2, hs8⟩
        obtain ⟨key, hkey, rfl⟩ : ∃ z, (ks.take j.toNat)[i]? = some z ∧ V.int z = x := by
          rw [List.getElem?_map] at hi
          cases e : (ks.take j.toNat)[i]? with
          | none => rw [e] at hi; cases hi
          | some z => rw [e] at hi; exact ⟨z, rfl, Option.some.inj hi⟩
        refine ⟨_, rfl, c, _, 2, _, rfl, rfl, SqL.of I8.ca.ca, rfl, .inl ⟨rfl, _, SqL.of I8.ca.li⟩, _, rfl, _, rfl, _, rfl, _, rfl, _, rfl, p, L, n, rfl, I8.bg, by omega, by omega, fun h H9 h0 h1 B9 O9 => ?_⟩
        have I9 := I8.draw nfp nhp O9.keep B9
        refine ⟨p, L, n, h, rfl, I9.bg, n1, n2, h0, h1, fun kk H10 lk B10 K10 => ?_⟩
        have I10 := I9.draw nfp nhp K10 B10
        refine ⟨by show 2 ≤ sizeLine; decide, fun t ht => ?_⟩
        have hyl : ys.length ≤ 12 := by
          have q1 := I8.ca.pr.len
          have q2 := congrArg List.length hps
          rw [List.length_map, List.length_take] at q2
          omega
        refine ⟨l, ys, .ref t, rfl, rfl, Same.new ht _ _ I10.ca.li, small1000 (by omega), ?_⟩
        have I11 := I10.add ht nfl nhl nLl key kk _ _ (I10.ca.add ht key kk)
        refine ⟨_, _, _, rfl, I11, ?_, ?_, ?_⟩
        · rw [List.map_append, hps, List.take_add_one, hkey]
          rfl
        · intro q hq
          rcases List.mem_append.mp hq with hq | hq
          · exact hq2 q hq
          · rw [List.mem_singleton.mp hq]; exact lk
        · have e9 := O9.keep _ _ nsp hs8
          have e10 := K10 _ _ nsp e9
          rw [upd_ne nsl, upd_ne (ne_of_none e10 ht)]
          exact e10
      · rintro σ H8 ⟨v9, ys, ps, rfl, I8, hps, hq2, hs8⟩
        rw [List.length_map, List.take_of_length_le (Nat.le_refl _)] at hps
        have hpl : ps.length ≤ 12 := by
          have q2 := congrArg List.length hps
          rw [List.length_map] at q2
          omega
        have hnd : (ps.map (·.1)).Nodup := by
          rw [hps]
          exact I8.nd.sublist (List.take_sublist _ _)
        refine ⟨_, rfl, _, _, rfl, rfl, (by show (0 : Int) < 3; decide), told % 3, rfl, ?_, ?_, for_range (n := (told % 3).toNat) (fun i σ H8 => ∃ (v7 : Option V) (ys : List V) (ps : Pr), σ = [some (.ref p), some (.ref c), some (.int m), some (.int n), some (.int way), some (.ref hh), some (.ref f), v7, v8, v9, some (.int told)] ∧
            KI H H8 p L c l f hh n wr g1 g2 ks ys ps ∧ ps.length ≤ 12 + i ∧ (ps.map (·.1)).Nodup ∧ (∀ q ∈ ps, lawKey q.2) ∧ (∀ q ∈ ps, q.1 ∈ ks ∨ (300000000000000000 ≤ q.1 ∧ q.1 < 300000000000000000 + 64 * (i : Int) + told)))
          ⟨_, ys, ps, rfl, I8, by omega, hnd, hq2, fun q hq => .inl ?_⟩ ?_ ?_⟩
        · have := Int.emod_nonneg told (show (3 : Int) ≠ 0 by decide)
          omega
        · have := Int.emod_lt_of_pos told (show (0 : Int) < 3 by decide)
          omega
        · have : q.1 ∈ ps.map (·.1) := List.mem_map.mpr ⟨q, hq, rfl⟩
          rw [hps] at this
          exact List.mem_of_mem_take this
        · rintro i σ H9 hi ⟨v7, ys, ps, rfl, I9, hlen9, hnd9, hq9, hk9⟩
          have hi3 : i < 3 := by
            have := Int.emod_lt_of_pos told (show (0 : Int) < 3 by decide)
            omega
          refine ⟨_, rfl, c, _, 2, _, rfl, rfl, SqL.of I9.ca.ca, rfl, .inl ⟨rfl, _, SqL.of I9.ca.li⟩, _, _, rfl, rfl, .inl ⟨by decide, by decide⟩, _, rfl, _, _, rfl, rfl, .inl ⟨by decide, by decide⟩, _, _, rfl, rfl, _, rfl, _, _, rfl, rfl, _, rfl, _, rfl, p, L, n, 0, rfl, I9.bg, n1, n2, by decide, by omega, fun kk H10 lk B10 K10 => ?_⟩
          have I10 := I9.draw nfp nhp K10 B10
          refine ⟨by show 2 ≤ sizeLine; decide, fun t ht => ?_⟩
          have hyl := I9.ca.pr.len
          refine ⟨l, ys, .ref t, 0, rfl, rfl, Same.new ht _ _ I10.ca.li, by decide, by decide, small1000 (by omega), ?_⟩
          have I11 := I10.add ht nfl nhl nLl (3 * 100000000000000000 + 64 * (0 + (i : Int)) + told) kk _ _ (I10.ca.front ht (3 * 100000000000000000 + 64 * (0 + (i : Int)) + told) kk)
          have hnew : ¬ (3 * 100000000000000000 + 64 * (0 + (i : Int)) + told) ∈ ps.map (·.1) := fun z => by
            obtain ⟨q, hq, e⟩ := List.mem_map.mp z
            rcases hk9 q hq with hh | hh
            · have := I9.lk _ hh
              rw [e] at this
              rcases this with w | w <;> omega
            · omega
          refine ⟨_, _, _, rfl, I11, by rw [List.length_cons]; omega, by rw [List.map_cons]; exact List.nodup_cons.mpr ⟨hnew, hnd9⟩, ?_, ?_⟩
          · intro q hq
            rcases List.mem_cons.mp hq with rfl | hq
            · exact lk
            · exact hq9 q hq
          · intro q hq
            rcases List.mem_cons.mp hq with rfl | hq
            · refine .inr ⟨?_, ?_⟩
              · show 300000000000000000 ≤ 3 * 100000000000000000 + 64 * (0 + (i : Int)) + told
                omega
              · show 3 * 100000000000000000 + 64 * (0 + (i : Int)) + told < 300000000000000000 + 64 * ((i + 1 : Nat) : Int) + told
                omega
            · rcases hk9 q hq with z | z
              · exact .inl z
              · exact .inr ⟨z.1, by omega⟩
        · rintro σ H9 ⟨v7, ys, ps, rfl, I9, hlen9, hnd9, hq9, hk9⟩
          have h3 : (told % 3).toNat ≤ 2 := by
            have := Int.emod_lt_of_pos told (show (0 : Int) < 3 by decide)
            omega
          refine ⟨_, rfl, k f ks ys ps H9 I9.fo hf0 I9.nd I9.lk (by omega) (fun hm => hne (by omega)) I9.bg I9.ca ⟨by omega, hnd9, fun q hq => ?_, hq9⟩ I9.kp⟩
          rcases hk9 q hq with z | z
          · exact .inl z
          · exact .inr ⟨z.1, by omega⟩
theorem sc_Lhome : FnScope ["_law_case_here", "_law_key_here"] ["_law_case_here", "_law_key_here"] (defScope s_Lhome) := ⟨rfl, rfl, rfl, by decide +kernel, rfl, by decide +kernel, by decide +kernel⟩
/-! Lhome -/
def spLhome : Sp := fun vs H Q _ => ∃ (c l : Addr) (k n : Int) (wr : Bool) (ys : List V) (ps : Pr), vs = [.ref c, .int k] ∧ CaseAt H c l n wr ys ps ∧ (ps.map (·.1)).Nodup ∧ ∀ H', Same H H' → Q (.int (homeOf n ps k)) H'
theorem ok_Lhome (T : Txt K mg a) : FnOk P w K mg base CX0 1 a.f_Lhome a.d_Lhome ["_law_case_here", "_law_key_here"] spLhome := by
  refine T.d_Lhome.F.ok sc_Lhome (fun vs H Q E h => ?_) (fun cdv A outer s H vs Q E hr h => ?_)
  · obtain ⟨c, l, k, n, wr, ys, ps, rfl, _⟩ := h
    rfl
  · obtain ⟨c, l, k, n, wr, ys, ps, rfl, P, nd, q⟩ := h
    refine ⟨_, (pss_one (ps_ret (pe_op op_mod (pe_dget2 (hu_of hr) (cty (call_dictP rfl) T.z_dict (pa_cons (ix ix_list (pv 0) pe_int) pa_nil)) (pv 1) (pv 1) ⟨rfl, rfl, rfl, rfl⟩) (ix ix_list (pv 0) pe_int)))), ?_⟩
    refine ⟨_, rfl, c, _, 2, _, rfl, rfl, SqL.of P.ca, rfl, l, ys, kvsOf ps, rfl, P.li, P.pr.keys, fun d hd => ?_⟩
    rw [merge_kvs nd]
    have S := Same.new (u := .dK (kvsOf ps)) hd
    refine ⟨d, rfl, .inl ⟨_, .inl upd_same⟩, _, rfl, _, rfl, _, DGet.k (k := Sum.inl k) upd_same, ?_⟩
    have e : (valV (kvsOf ps) (Sum.inl k : Key)).getD (V.int k) = V.int ((ps.lookup k).getD k) := by
      rw [val_kvs]
      cases ps.lookup k <;> rfl
    rw [e]
    have n1 := P.n1
    exact ⟨_, rfl, c, _, 0, _, rfl, rfl, SqL.of (S _ _ P.ca), rfl, _, _, rfl, rfl, (by show 0 < n; omega), q _ S⟩
theorem sc_Lfar : FnScope ["_law_case_here", "_law_key_here", "_law_room", "_law_way"] ["_law_case_here", "_law_key_here", "_law_room"] (defScope s_Lfar) := ⟨rfl, rfl, rfl, by decide +kernel, rfl, by decide +kernel, by decide +kernel⟩
/-! Lfar -/
def spLfar : Sp := fun vs H Q _ => ∃ (c l : Addr) (k r n : Int) (wr : Bool) (ys : List V) (ps : Pr), vs = [.ref c, .int k, .int r] ∧ CaseAt H c l n wr ys ps ∧ (ps.map (·.1)).Nodup ∧ ∀ H', Same H H' → Q (farV (farOf n wr ps k r)) H'
theorem ok_Lfar (T : Txt K mg a) : FnOk P w K mg base CX0 2 a.f_Lfar a.d_Lfar ["_law_case_here", "_law_key_here", "_law_room"] spLfar := by
  refine T.d_Lfar.F.ok sc_Lfar (fun vs H Q E h => ?_) (fun cdv A outer s H vs Q E hr h => ?_)
  · obtain ⟨c, l, k, r, n, wr, ys, ps, rfl, _⟩ := h
    rfl
  · obtain ⟨c, l, k, r, n, wr, ys, ps, rfl, P, nd, q⟩ := h
    refine ⟨_, (pss_cons (sset 3 sc_Lfar.nd (pe_op op_sub (pv 2) (callD T.d_Lhome (ok_Lhome T) (hr.mono (by decide)) (pa_cons (pv 0) (pa_cons (pv 1) pa_nil)))))
      (pss_cons (ps_if (pt_val (ix ix_list (pv 0) pe_int))
      (pss_one (ps_ret (pe_op op_mod (pv 3) (ix ix_list (pv 0) pe_int))))
      pss_nil)
      (pss_one (ps_ret (ix ix_list (pe_lst (pa_cons (pv 3) (pa_cons pe_non pa_nil))) (cty call_int1 T.z_int (pa_cons (pe_cmpR op_lt (pv 3) pe_int (nomark _)) pa_nil))))))), ?_⟩
    refine ⟨_, rfl, _, rfl, _, rfl, c, l, k, n, wr, ys, ps, rfl, P, nd, fun H1 s1 => ⟨_, _, rfl, rfl, ?_⟩⟩
    have P1 := P.same s1
    have n1 := P.n1
    refine ⟨_, rfl, c, _, 1, _, rfl, rfl, SqL.of P1.ca, rfl, _, rfl, ?_⟩
    refine ite2 (fun hw => ?_) (fun hw => ?_)
    · refine ⟨_, rfl, _, rfl, c, _, 0, _, rfl, rfl, SqL.of P1.ca, rfl, _, _, rfl, rfl, (by show 0 < n; omega), ?_⟩
      have e : farOf n wr ps k r = some ((r - homeOf n ps k) % n) := by unfold farOf; rw [if_pos hw]
      rw [e] at q
      exact q _ s1
    · refine ⟨_, rfl, by show 2 ≤ sizeLine; decide, fun d hd => ?_⟩
      have S := s1.trans (Same.new (u := .lst [.int (r - homeOf n ps k), .non]) hd)
      refine ⟨_, rfl, _, _, rfl, rfl, .inr ⟨_, rfl, ?_⟩⟩
      by_cases h0 : r - homeOf n ps k < 0
      · rw [decide_eq_true h0]
        have e : farOf n wr ps k r = none := by unfold farOf; rw [if_neg hw, if_neg (by omega)]
        rw [e] at q
        exact ⟨d, _, 1, _, rfl, rfl, SqL.of upd_same, rfl, q _ S⟩
      · rw [decide_eq_false h0]
        have e : farOf n wr ps k r = some (r - homeOf n ps k) := by unfold farOf; rw [if_neg hw, if_pos (by omega)]
        rw [e] at q
        exact ⟨d, _, 0, _, rfl, rfl, SqL.of upd_same, rfl, q _ S⟩
theorem sc_Lwhole : FnScope ["_law_thing"] ["_law_thing"] (defScope s_Lwhole) := ⟨rfl, rfl, rfl, by decide +kernel, rfl, by decide +kernel, by decide +kernel⟩
/-! Lwhole -/
def spLwhole : Sp := fun vs H Q _ => ∃ x t, vs = [x] ∧ kindS H x = some t ∧ Q (.bl (wholeV x)) H
theorem ok_Lwhole (T : Txt K mg a) : FnOk P w K mg base CX0 1 a.f_Lwhole a.d_Lwhole ["_law_thing"] spLwhole := by
  refine T.d_Lwhole.F.ok sc_Lwhole (fun vs H Q E h => ?_) (fun cdv A outer s H vs Q E hr h => ?_)
  · obtain ⟨x, t, rfl, _⟩ := h
    rfl
  · obtain ⟨x, t, rfl, hk, q⟩ := h
    refine ⟨_, (pss_one (ps_ret (pe_and (cbi call_isi T.z_isinstance (pa_cons (pv 0) (pa_cons (pe_cls "int" T.z_int) pa_nil))) (pe_one (pe_not (cbi call_isi T.z_isinstance (pa_cons (pv 0) (pa_cons (pe_cls "bool" T.z_bool) pa_nil)))))))), ?_⟩
    refine ⟨_, rfl, x, _, t, rfl, hk, by decide, _, rfl, ?_⟩
    have e1 := kind_int hk
    have e2 := kind_bool hk
    rw [e1]
    refine ite2 (fun h1 => ⟨_, rfl, x, _, t, rfl, hk, by decide, _, rfl, ?_⟩) (fun h1 => ?_)
    · rw [e2]
      cases x <;> first | exact q | (simp [wholeV] at h1)
    · have : wholeV x = false := by
        cases e : wholeV x with
        | false => rfl
        | true => rw [e] at h1; exact absurd rfl h1
      rw [this] at q
      exact q
theorem sc_Lwrong : FnScope ["_law_asked", "_law_key_here", "_law_room", "e"] ["_law_asked", "_law_key_here", "_law_room"] (defScope s_Lwrong) := ⟨rfl, rfl, rfl, by decide +kernel, rfl, by decide +kernel, by decide +kernel⟩
/-! Lwrong -/
def spLwrong (C : Addr) : Sp := fun vs H Q _ => ∃ (p : Addr) (x y : V) (t u : String) (n : Int) (wr : Bool) (ys : List V) (ps : Pr), vs = [.ref p, x, y] ∧ PlanAt H C p n wr ys ps ∧ kindS H x = some t ∧ kindS H y = some u ∧ (∀ a o w, y = .ref a → H a ≠ some (.frz o w)) ∧
  (numV x = false ∨ (y ≠ .str "home" ∧ withinV 0 (n - 1) y = false)) ∧ ∀ H', Same H H' → Q (.int (if numV x = true then 1 else 0)) H'
theorem ok_Lwrong (T : Txt K mg a) : FnOk P w K mg base CX0 6 a.f_Lwrong a.d_Lwrong ["_law_asked", "_law_key_here", "_law_room"] (spLwrong a.C_Plan) := by
  refine T.d_Lwrong.F.ok sc_Lwrong (fun vs H Q E h => ?_) (fun cdv A outer s H vs Q E hr h => ?_)
  · obtain ⟨p, x, y, t, u, n, wr, ys, ps, rfl, _⟩ := h
    rfl
  · obtain ⟨p, x, y, t, u, n, wr, ys, ps, rfl, P', hk, hk2, nf, hn, k⟩ := h
    refine ⟨_, (pss_mid (ps_try (fun E' xe pn hl => (pss_one (ps_if (pt_cmpR (op_eqT hr.u64) (pv 2) pe_str (nomark _))
      (pss_one (ps_expr (pe_meth (pv 0) T.cl_Plan.cl T.d_Plan_home.me (okx_Plan_home T) (hr.mono (by decide)) T.d_Plan_home.b .nil hl.passes (pa_cons (pv 1) pa_nil))))
      (pss_one (ps_expr (pe_meth (pv 0) T.cl_Plan.cl T.d_Plan_far.me (okx_Plan_far T) (hr.mono (by decide)) T.d_Plan_far.b .nil hl.passes (pa_cons (pv 1) (pa_cons (pv 2) pa_nil))))))))
      (ph_as 3 sc_Lwrong.nd T.ex_HomeError T.g_HomeError (fun ea => (pss_one (ps_if (pt_val (cbi call_isE T.z_isinstance (pa_cons (pv 3) (pa_cons (pe_gref a.C_Wrong T.g_Wrong) pa_nil))))
      (pss_one (ps_ret (pe_efld (pv 3))))
      pss_nil)))
      ph_nil))
      (pss_one (ps_ret (pe_un un_neg pe_int)))), ?_⟩
    refine ⟨fun _ _ => False, ⟨fun ev _ H' => ∃ e, ev = .ref e ∧ Thr H H' a.C_Wrong "at" (.int (if numV x = true then 1 else 0)) e, ?_, ?_⟩, fun _ _ z => z.elim⟩
    · refine ⟨_, rfl, "home", u, rfl, hk2, nf, _, rfl, ?_⟩
      obtain ⟨dx, hl, hd, h1, _⟩ := id P'.ob
      refine ite2 (fun hy => ?_) (fun hy => ?_)
      · have hy : y = .str "home" := of_decide_eq_true hy
        have hx : numV x = false := hn.resolve_right fun z => z.1 hy
        refine ⟨_, rfl, p, dx, _, rfl, h1, flds_no _ _ _ _ (by decide +kernel) (by decide +kernel) (by decide +kernel) (by decide +kernel), _, rfl, .inr ⟨p, x, t, rfl, hk, hx, fun e H' th => ⟨e, rfl, ?_⟩⟩⟩
        rw [if_neg (by rw [hx]; decide)]
        exact th
      · refine ⟨_, rfl, p, dx, _, rfl, h1, flds_no _ _ _ _ (by decide +kernel) (by decide +kernel) (by decide +kernel) (by decide +kernel), _, rfl, _, rfl, .inr ⟨p, x, y, t, u, n, wr, ys, ps, rfl, P', hk, hk2, hn.imp id And.right, fun e H' th => ⟨e, rfl, th⟩⟩⟩
    · rintro ea H' ⟨e, ee, dx, he, hd, S⟩
      cases ee
      refine ⟨a.C_Wrong, some dx, true, he, T.r_Wrong_HomeError, ?_⟩
      refine iteT ?_
      refine ⟨_, rfl, ea, .ref a.C_Wrong, .ref a.C_Wrong, a.C_Wrong, some dx, false, rfl, rfl, fun _ z => z, he, kit_self _ _, _, rfl, ?_⟩
      exact iteT ⟨_, rfl, ea, a.C_Wrong, dx, false, _, _, rfl, he, hd, T.ex_Wrong, T.n_Wrong_at, rfl, k H' S⟩
theorem sc_Lodd : FnScope ["_law_bag_here", "_law_far_here", "_law_some"] ["_law_bag_here", "_law_far_here"] (defScope s_Lodd) := ⟨rfl, rfl, rfl, by decide +kernel, rfl, by decide +kernel, by decide +kernel⟩
/-! Lodd -/
def spLodd : Sp := fun vs H Q _ => ∃ (p L : Addr) (f : Int), vs = [.ref p, .int f] ∧ Bag H p L ∧
  ∀ (x : V) (H' : Hp), OddV H' f x → (∀ b, x = .ref b → b ≠ p) → Bag H' p L → KeepBut p H H' → Q x H'
theorem ok_Lodd (T : Txt K mg a) : FnOk P w K mg base CX0 2 a.f_Lodd a.d_Lodd ["_law_bag_here", "_law_far_here"] spLodd := by
  refine T.d_Lodd.F.ok sc_Lodd (fun vs H Q E h => ?_) (fun cdv A outer s H vs Q E hr h => ?_)
  · obtain ⟨p, L, f, rfl, _⟩ := h
    rfl
  · obtain ⟨p, L, f, rfl, B, k⟩ := h
    refine ⟨_, (pss_cons (sset 2 sc_Lodd.nd (pe_lst (pa_cons pe_bl (pa_cons pe_bl (pa_cons pe_non (pa_cons (pe_un un_neg pe_int) (pa_cons (pe_op op_sub (pe_un un_neg pe_int) (pv 1)) (pa_cons (pv 1) (pa_cons pe_str (pa_cons pe_str (pa_cons (pe_lst (pa_cons pe_int pa_nil)) (pa_cons (pe_tup (pa_cons pe_int (pa_cons pe_int pa_nil))) (pa_cons pe_dnewK (pa_cons (pe_op op_add (pe_powc 1000000000000000000) pe_int) (pa_cons (pe_op op_add (pe_op op_add (pe_powc 1000000000000000000) pe_int) (pv 1)) (pa_cons (pe_tup pa_nil) (pa_cons (pe_lst pa_nil) pa_nil)))))))))))))))))
      (pss_one (ps_ret (ix ix_list (pv 2) (callD T.d_Ltake (ok_Ltake T) (hr.mono (by decide)) (pa_cons (pv 0) (pa_cons pe_int pa_nil))))))), ?_⟩
    refine ⟨_, rfl, _, rfl, _, rfl, _, _, rfl, rfl, _, rfl, ?_⟩
    refine ⟨by show 1 ≤ sizeLine; decide, fun a1 h1 => ⟨by show 2 ≤ sizeLine; decide, fun a2 h2 => fun a3 h3 => ?_⟩⟩
    refine ⟨_, _, rfl, rfl, _, _, rfl, rfl, _, rfl, _, _, rfl, rfl, ?_⟩
    refine ⟨by show 0 ≤ sizeLine; decide, fun a4 h4 => ⟨by show 0 ≤ sizeLine; decide, fun a5 h5 => ⟨by show 15 ≤ sizeLine; decide, fun q hq => ?_⟩⟩⟩
    have B1 := B.new (u := .lst [.int 3]) h1
    have B2 := B1.new (u := .tup [.int 3, .int 4]) h2
    have B3 := B2.new (u := .dK []) h3
    have B4 := B3.new (u := .tup []) h4
    have B5 := B4.new (u := .lst []) h5
    have n1 := (B.neq h1).1
    have n2 := (B1.neq h2).1
    have n3 := (B2.neq h3).1
    have n4 := (B3.neq h4).1
    have n5 := (B4.neq h5).1
    have nq := (B5.neq hq).1
    refine ⟨_, rfl, _, rfl, p, L, 15, rfl, B5.new hq, by decide, by decide, fun ix H4 i0 i1 B6 O4 => ?_⟩
    have fq := (O4 q nq).trans upd_same
    have f5 := (O4 a5 n5).trans (Same.new hq a5 _ upd_same)
    have f4 := (O4 a4 n4).trans (Same.new hq a4 _ (Same.new h5 a4 _ upd_same))
    have f3 := (O4 a3 n3).trans (Same.new hq a3 _ (Same.new h5 a3 _ (Same.new h4 a3 _ upd_same)))
    have f2 := (O4 a2 n2).trans (Same.new hq a2 _ (Same.new h5 a2 _ (Same.new h4 a2 _ (Same.new h3 a2 _ upd_same))))
    have f1 := (O4 a1 n1).trans (Same.new hq a1 _ (Same.new h5 a1 _ (Same.new h4 a1 _ (Same.new h3 a1 _ (Same.new h2 a1 _ upd_same)))))
    obtain ⟨v, hv, ev⟩ := atI_mem i0 (show ix < (([V.bl true, V.bl false, V.non, V.int (-1), V.int (-1 - f), V.int f, V.str "3", V.str "", V.ref a1, V.ref a2, V.ref a3, V.int (1000000000000000000 + 1), V.int (1000000000000000000 + 1 + f), V.ref a4, V.ref a5] : List V).length : Int) from i1)
    have Kf : KeepBut p H H4 := ((((((KeepBut.new h1).trans (KeepBut.new h2)).trans (KeepBut.new h3)).trans (KeepBut.new h4)).trans (KeepBut.new h5)).trans (KeepBut.new hq)).trans O4.keep
    refine ⟨q, _, _, v, rfl, rfl, SqL.of fq, ev, ?_⟩
    refine k v H4 (odd15 f1 f2 f3 f4 f5 hv) (fun b e => ?_) B6 Kf
    subst e
    simp only [List.mem_cons, List.not_mem_nil, or_false, reduceCtorEq, false_or, V.ref.injEq] at hv
    rcases hv with rfl | rfl | rfl | rfl | rfl <;> assumption
theorem sc_Lbad : FnScope ["_law_bag_here", "_law_odd_here"] ["_law_bag_here"] (defScope s_Lbad) := ⟨rfl, rfl, rfl, by decide +kernel, rfl, by decide +kernel, by decide +kernel⟩
/-! Lbad -/
/-- a thing that is no key and no room -/
structure BadV (H : Hp) (x : V) : Prop where
  kn : KnD H x
  no : numV x = false
  nh : x ≠ .str "home"
def spLbad : Sp := fun vs H Q _ => ∃ (p L : Addr), vs = [.ref p] ∧ Bag H p L ∧ ∀ (x : V) (H' : Hp), BadV H' x → (∀ b, x = .ref b → b ≠ p) → Bag H' p L → KeepBut p H H' → Q x H'
theorem ok_Lbad (T : Txt K mg a) : FnOk P w K mg base CX0 3 a.f_Lbad a.d_Lbad ["_law_bag_here"] spLbad := by
  refine T.d_Lbad.F.ok sc_Lbad (fun vs H Q E h => ?_) (fun cdv A outer s H vs Q E hr h => ?_)
  · obtain ⟨p, L, rfl, _⟩ := h
    rfl
  · obtain ⟨p, L, rfl, B, k⟩ := h
    refine ⟨_, (pss_cons (sset 1 sc_Lbad.nd (callD T.d_Lodd (ok_Lodd T) (hr.mono (by decide)) (pa_cons (pv 0) (pa_cons (pe_powc 100000000000000000000) pa_nil))))
      (pss_cons (ps_if (pw_and (pt_val (callD T.d_Lwhole (ok_Lwhole T) (hr.mono (by decide)) (pa_cons (pv 1) pa_nil))) (pw_and1 (pt_chain op_le op_le pe_int (pv 1) (pe_powc 1000000000000000000)))).pt
      (pss_one (ps_ret (pe_un un_neg pe_int)))
      pss_nil)
      (pss_one (ps_ret (pv 1))))), ?_⟩
    refine ⟨_, rfl, p, L, 100000000000000000000, rfl, B, fun x H1 od np B1 K1 => ?_⟩
    have bad := od.not
    have kn := od.kn
    have fin := k x H1 ⟨kn, bad, fun e => by
      rcases od.st _ e with z | z
      · exact absurd z (by decide +kernel)
      · exact absurd z (by decide +kernel)⟩ np B1 K1
    obtain ⟨t, hk, _⟩ := id kn
    refine ⟨_, rfl, x, t, rfl, hk, _, rfl, ?_⟩
    refine ite2 (fun hw => ?_) (fun _ => iteF ⟨_, rfl, fin⟩)
    cases x with
    | int i =>
      refine ⟨_, rfl, _, _, rfl, rfl, _, rfl, ?_⟩
      refine ite2 (fun h1 => ?_) (fun _ => ⟨_, rfl, iteF ⟨_, rfl, fin⟩⟩)
      refine ⟨_, _, rfl, rfl, _, rfl, ?_⟩
      refine ite2 (fun h2 => ?_) (fun _ => ⟨_, rfl, fin⟩)
      have h1 : 0 ≤ i := of_decide_eq_true h1
      have h2 : i ≤ 1000000000000000000 := of_decide_eq_true h2
      rw [num_iff.mpr ⟨h1, h2⟩] at bad
      cases bad
    | _ => exact absurd (show false = true from hw) Bool.false_ne_true
theorem sc_law : FnScope ["_law_script", "_law_bag_here", "_law_case_here", "_law_many", "_law_keys_here", "_law_k", "_law_plan", "_law_key_here", "_law_home_here", "_law_room", "_law_found", "_law_due", "_law_odd_here", "_law_way", "_law_far_here"] ["_law_script"] (defScope s_law) := ⟨rfl, rfl, rfl, by decide +kernel, rfl, by decide +kernel, by decide +kernel⟩
/-! law -/
theorem scal_far (x : Option Int) : scal (farV x) (farV x) = true := by cases x <;> rfl
theorem far_kind (H : Hp) (x : Option Int) : ∃ t, kindS H (farV x) = some t := by cases x <;> exact ⟨_, rfl⟩
theorem far_odd (x : Option Int) : decide (V.bl (decide (farV x = .non)) = V.bl (wholeV (farV x))) = false := by cases x <;> rfl
theorem ok_law (T : Txt K mg a) : FnOk P w K mg base CX0 8 a.f_law a.d_law ["_law_script"] (spLaw K) := by
  refine T.d_law.F.ok sc_law (fun vs H Q E h => ?_) (fun cdv A outer s H vs Q E hr h => ?_)
  · obtain ⟨ls, ns, rfl, _⟩ := h
    rfl
  · obtain ⟨ls, ns, rfl, hS, hl, k⟩ := h
    refine ⟨_, (pss_cons (sset 1 sc_law.nd (callD T.d_Lbag (ok_Lbag T) (hr.mono (by decide)) (pa_cons (pv 0) pa_nil)))
      (pss_cons (sset 2 sc_law.nd (callD T.d_Lcase (ok_Lcase T) (hr.mono (by decide)) (pa_cons (pv 1) (pa_cons pe_int pa_nil))))
      (pss_cons (sset 3 sc_law.nd (ix ix_list (pe_lst (pa_cons pe_int (pa_cons pe_int (pa_cons pe_int (pa_cons pe_int pa_nil))))) (callD T.d_Ltake (ok_Ltake T) (hr.mono (by decide)) (pa_cons (pv 1) (pa_cons pe_int pa_nil)))))
      (pss_cons (sset 4 sc_law.nd (callD T.d_Lkeys (ok_Lkeys T) (hr.mono (by decide)) (pa_cons (pv 1) (pa_cons (pv 2) (pa_cons pe_int pa_nil)))))
      (pss_cons (sfor (pi_range1 rfl T.z_range (pa_cons (pv 3) pa_nil)) (gnm 5 sc_law.nd)
      (pss_one (ps_expr (pe_bm PySem.F.plainAttrs_list PySem.F.slot_list_insert PySem.F.type_list_insert mt_insert (ix ix_list (pv 2) pe_int) (pa_cons (pv 5) (pa_cons (pe_tup (pa_cons (pe_op op_add (pe_op op_mul pe_int (pe_powc 100000000000000000)) (pv 5)) (pa_cons (callD T.d_Ltake (ok_Ltake T) (hr.mono (by decide)) (pa_cons (pv 1) (pa_cons (pe_powc 1000000000000000000) pa_nil))) pa_nil))) pa_nil))))))
      (pss_cons (sset 6 sc_law.nd (makeD T.cl_Plan T.mk_Plan T.d_Plan_init (ok_Plan_init T) (hr.mono (by decide)) (pa_cons (ix ix_list (pv 2) pe_int) (pa_cons (ix ix_list (pv 2) pe_int) (pa_cons (cty call_list_of T.z_list (pa_cons (ix ix_list (pv 2) pe_int) pa_nil)) pa_nil)))))
      (pss_cons (sfor (pi_list (pe_op op_cat (pe_op op_cat (pv 4) (pe_lst (pa_cons pe_int (pa_cons (pe_powc 1000000000000000000) pa_nil)))) (pe_comp ["_law_row"] [none] (pi_list (pe_slice sl_list (ix ix_list (pv 2) pe_int) (po_some (pe_op op_fdivB (pv 3) pe_int)) (po_some (pe_op op_add (pe_op op_fdivB (pv 3) pe_int) pe_int)))) (fun C s0 H0 ex => (gnm 0 (show (["_law_row"] : List Str).Nodup by decide +kernel))) (fun C s0 H0 ex => pf_nil) (fun C s0 H0 ex => (ixT (K := K) rfl (pv 0) pe_int))))) (gnm 7 sc_law.nd)
      (pss_cons (sset 8 sc_law.nd (pe_meth (pv 6) T.cl_Plan.cl T.d_Plan_home.me (ok_Plan_home T) (hr.mono (by decide)) T.d_Plan_home.b .nil pass0 (pa_cons (pv 7) pa_nil)))
      (pss_cons (ps_if (pw_or (pt_not (pt_val (callD T.d_Lwhole (ok_Lwhole T) (hr.mono (by decide)) (pa_cons (pv 8) pa_nil)))) (pw_or1 (pt_cmpR op_ne (pv 8) (callD T.d_Lhome (ok_Lhome T) (hr.mono (by decide)) (pa_cons (pv 2) (pa_cons (pv 7) pa_nil))) (nomark _)))).pt
      (pss_one (ps_ret pe_bl))
      pss_nil)
      (pss_one (sfor (pi_range1 rfl T.z_range (pa_cons (ix ix_list (pv 2) pe_int) pa_nil)) (gnm 9 sc_law.nd)
      (pss_cons (sset 10 sc_law.nd (pe_meth (pv 6) T.cl_Plan.cl T.d_Plan_far.me (ok_Plan_far T) (hr.mono (by decide)) T.d_Plan_far.b .nil pass0 (pa_cons (pv 7) (pa_cons (pv 9) pa_nil))))
      (pss_cons (sset 11 sc_law.nd (callD T.d_Lfar (ok_Lfar T) (hr.mono (by decide)) (pa_cons (pv 2) (pa_cons (pv 7) (pa_cons (pv 9) pa_nil)))))
      (pss_one (ps_if (pw_or (pt_cmpR op_ne (pv 10) (pv 11) (nomark _)) (pw_or1 (pt_cmpR op_eq (pe_cmpR op_isN (pv 10) pe_non (nomark _)) (callD T.d_Lwhole (ok_Lwhole T) (hr.mono (by decide)) (pa_cons (pv 10) pa_nil)) (nomark _)))).pt
      (pss_one (ps_ret pe_bl))
      pss_nil)))))))))
      (pss_cons (sfor (pi_range1 rfl T.z_range (pa_cons pe_int pa_nil)) (gnm 5 sc_law.nd)
      (pss_cons (sset 12 sc_law.nd (callD T.d_Lbad (ok_Lbad T) (hr.mono (by decide)) (pa_cons (pv 1) pa_nil)))
      (pss_cons (ps_if (pw_or (pt_cmpR op_ne (callD T.d_Lwrong (ok_Lwrong T) (hr.mono (by decide)) (pa_cons (pv 6) (pa_cons (pv 12) (pa_cons pe_str pa_nil)))) pe_int (nomark _)) (pw_or1 (pt_cmpR op_ne (callD T.d_Lwrong (ok_Lwrong T) (hr.mono (by decide)) (pa_cons (pv 6) (pa_cons (pv 12) (pa_cons (callD T.d_Lbad (ok_Lbad T) (hr.mono (by decide)) (pa_cons (pv 1) pa_nil)) pa_nil)))) pe_int (nomark _)))).pt
      (pss_one (ps_ret pe_bl))
      pss_nil)
      (pss_cons (sset 13 sc_law.nd (callD T.d_Ltake (ok_Ltake T) (hr.mono (by decide)) (pa_cons (pv 1) (pa_cons pe_int pa_nil))))
      (pss_cons (sset 14 sc_law.nd (ix ix_list (pe_lst (pa_cons (ix ix_list (pv 2) pe_int) (pa_cons (pe_un un_neg pe_int) (pa_cons (pe_op op_add (ix ix_list (pv 2) pe_int) (callD T.d_Ltake (ok_Ltake T) (hr.mono (by decide)) (pa_cons (pv 1) (pa_cons (pe_powc 100000000000000000000) pa_nil)))) (pa_cons pe_bl (pa_cons pe_non (pa_cons pe_str (pa_cons (pe_lst (pa_cons pe_int pa_nil)) pa_nil)))))))) (pv 13)))
      (pss_one (ps_if (pw_or (pt_cmpR op_ne (callD T.d_Lwrong (ok_Lwrong T) (hr.mono (by decide)) (pa_cons (pv 6) (pa_cons (ix ix_list (pv 4) pe_int) (pa_cons (pv 14) pa_nil)))) pe_int (nomark _)) (pw_or1 (pt_cmpR op_ne (callD T.d_Lwrong (ok_Lwrong T) (hr.mono (by decide)) (pa_cons (pv 6) (pa_cons (pv 12) (pa_cons pe_int pa_nil)))) pe_int (nomark _)))).pt
      (pss_one (ps_ret pe_bl))
      pss_nil)))))))
      (pss_one (ps_ret pe_bl)))))))))), ?_⟩
    refine ⟨_, rfl, ls, ns, rfl, hS, hl, fun p L H1 hp hL s1 B1 => ?_⟩
    refine ⟨_, rfl, p, L, 64, rfl, B1, by decide, by decide, fun c l n wr H2 hn nLl B2 P2 K2 => ?_⟩
    have n1 := P2.n1
    have n2 := P2.n2
    refine ⟨by show 4 ≤ sizeLine; decide, fun q hq => ?_⟩
    have nqp := (B2.neq hq).1
    have Bq := B2.new (u := .lst [.int 0, .int 0, .int 30, .int 50]) hq
    have Pq := P2.same (Same.new (u := .lst [.int 0, .int 0, .int 30, .int 50]) hq)
    refine ⟨_, rfl, p, L, 4, rfl, Bq, by decide, by decide, fun v H3 v0 v1 B3 O3 => ?_⟩
    have P3 := Pq.keep Bq O3.keep
    have hq3 : H3 q = some (.lst [.int 0, .int 0, .int 30, .int 50]) := (O3 q nqp).trans upd_same
    obtain ⟨mv, hmv, emv⟩ := atI_mem (xs := [V.int 0, V.int 0, V.int 30, V.int 50]) v0 v1
    obtain ⟨many, rfl, m0, m1⟩ : ∃ m : Int, mv = .int m ∧ 0 ≤ m ∧ m ≤ 50 := by
      simp only [List.mem_cons, List.not_mem_nil, or_false] at hmv
      rcases hmv with rfl | rfl | rfl | rfl
      all_goals exact ⟨_, rfl, by decide, by decide⟩
    refine ⟨q, _, _, _, rfl, rfl, SqL.of hq3, emv, ?_⟩
    refine ⟨_, rfl, _, rfl, p, L, c, l, 8, n, wr, rfl, B3, nLl, P3, by decide, by decide, fun f ks ys ps H4 hf4 hf0 ndk lks hlen hne B4 P4 D4 kp4 => ?_⟩
    have nek : ks ≠ [] := hne (by decide)
    have nk : ∀ k ∈ ks, isNum k := fun k hk => (lks k hk).num
    have nfl : f ≠ l := by
      refine (ne_of_none P3.li hf0).symm
    have nfc : f ≠ c := (ne_of_none P3.ca hf0).symm
    have ncl := P4.ncl
    have nlp := (P4.neb B4).2
    have ncp := (P4.neb B4).1
    -- the homes that stand ahead
    refine ⟨_, rfl, many, rfl, by omega, by omega, for_range (n := many.toNat) (fun i σ H5 => ∃ (v5 : Option V) (ts : List V) (qs : Pr), σ = [some (.ref ls), some (.ref p), some (.ref c), some (.int many), some (.ref f), v5, none, none, none, none, none, none, none, none, none] ∧ Bag H5 p L ∧
      H5 c = some (.lst [.int n, .bl wr, .ref l]) ∧ H5 l = some (.lst (ts ++ ys)) ∧ PairsI H5 ts qs ∧ PairsI H5 ys ps ∧ H5 f = some (.lst (ks.map V.int)) ∧ qs.length = i ∧ (∀ (j : Nat) (w : Int × Int), qs[j]? = some w → w.1 = 500000000000000000 + (j : Int) ∧ isNum w.2))
      ⟨_, [], [], rfl, B4, P4.ca, P4.li, .nil, P4.pr, hf4, rfl, fun j w e => by simp at e⟩ ?_ ?_⟩
    · rintro i σ H5 hi ⟨v5, ts, qs, rfl, B5, c5, l5, pr5, pq5, f5, hqs, hqv⟩
      refine ⟨_, rfl, c, _, 2, _, rfl, rfl, SqL.of c5, rfl, .inl ⟨rfl, _, SqL.of l5⟩, _, rfl, _, _, rfl, rfl, .inl ⟨by decide, by decide⟩, _, rfl, _, _, rfl, rfl, _, rfl, p, L, 1000000000000000000, rfl, B5, by decide, by decide, fun w H6 w0 w1 B6 O6 => ?_⟩
      refine ⟨by show 2 ≤ sizeLine; decide, fun t ht => ?_⟩
      have pr6 := pr5.keep B5 O6.keep
      have pq6 := pq5.keep B5 O6.keep
      have l6 := O6.keep _ _ nlp l5
      have c6 := O6.keep _ _ ncp c5
      have f6 := O6.keep _ _ (bag_ints B5 f5) f5
      have htl : ts.length = i := by rw [pr5.len]; exact hqs
      have hyl : ys.length ≤ 14 := by rw [P4.pr.len]; exact D4.len
      refine ⟨l, ts ++ ys, .ref t, _, rfl, rfl, Same.new ht _ _ l6, by omega, by omega, small1000 (by rw [List.length_append]; omega), ?_⟩
      have e1 : (ts ++ ys).take (0 + (i : Int)).toNat ++ V.ref t :: (ts ++ ys).drop (0 + (i : Int)).toNat = (ts ++ [.ref t]) ++ ys := by
        rw [show (0 + (i : Int)).toNat = ts.length by omega, List.take_left' rfl, List.drop_left' rfl]
        simp
      rw [e1]
      have ntl : t ≠ l := (ne_of_none l6 ht).symm
      refine ⟨_, ts ++ [.ref t], qs ++ [(5 * 100000000000000000 + (0 + (i : Int)), w)], rfl, ?_, ?_, upd_same, ?_, pq6.upd2 l6 ht _, ?_, by rw [List.length_append]; simp; omega, ?_⟩
      · exact (B6.new ht).keep (upd_ne nlp.symm) (upd_ne nLl)
      · rw [upd_ne ncl, upd_ne (ne_of_none c6 ht)]; exact c6
      · exact Paired.snoc (pr6.upd2 l6 ht _) ⟨t, rfl, by rw [upd_ne ntl, upd_same]⟩
      · rw [upd_ne nfl, upd_ne (ne_of_none f6 ht)]; exact f6
      · intro j z hz
        by_cases hj : j < qs.length
        · rw [List.getElem?_append_left hj] at hz
          exact hqv j z hz
        · rw [List.getElem?_append_right (by omega)] at hz
          have : j - qs.length = 0 := by
            have := (List.getElem?_eq_some_iff.mp hz).1
            simp at this
            omega
          rw [this] at hz
          have e2 : (5 * 100000000000000000 + (0 + (i : Int)), w) = z := by simpa using hz
          subst e2
          exact ⟨by show 5 * 100000000000000000 + (0 + (i : Int)) = _; omega, ⟨w0, by show w ≤ _; omega⟩⟩
    rintro σ H5 ⟨v5, ts, qs, rfl, B5, c5, l5, pr5, pq5, f5, hqs, hqv⟩
    have P5 : CaseAt H5 c l n wr (ts ++ ys) (qs ++ ps) := ⟨c5, l5, pr5.app pq5, n1, n2⟩
    have qk : ∀ w ∈ qs, 500000000000000000 ≤ w.1 ∧ w.1 < 500000000000000100 ∧ isNum w.2 := fun w hw => by
      obtain ⟨j, hj⟩ := List.getElem?_of_mem hw
      have h1 := hqv j w hj
      have h2 := (List.getElem?_eq_some_iff.mp hj).1
      exact ⟨by omega, by omega, h1.2⟩
    have gp : GoodPs (qs ++ ps) := by
      have gd := D4.good lks
      refine ⟨?_, ?_, fun w hw => ?_⟩
      · rw [List.length_append]
        have := D4.len
        omega
      · rw [List.map_append, List.nodup_append]
        refine ⟨?_, D4.nd, fun a ha b hb e => ?_⟩
        · refine List.pairwise_iff_getElem.mpr fun i j hi hj hij e => ?_
          rw [List.length_map] at hi hj
          have e1 := hqv i qs[i] (by simp [hi])
          have e2 := hqv j qs[j] (by simp [hj])
          have e3 : qs[i].1 = qs[j].1 := by simpa using e
          omega
        · obtain ⟨w, hw, rfl⟩ := List.mem_map.mp ha
          obtain ⟨u, hu, rfl⟩ := List.mem_map.mp hb
          have h1 := qk w hw
          rcases D4.key u hu with z | z
          · rcases lks _ z with z' | z' <;> omega
          · omega
      · rcases List.mem_append.mp hw with hw | hw
        · have h1 := qk w hw
          exact ⟨⟨by omega, by omega⟩, h1.2.2⟩
        · exact gd.nums w hw
    generalize ts ++ ys = zs at P5
    generalize qs ++ ps = rs at P5 gp
    clear pr5 pq5 l5 c5 hqv qk hqs
    -- the plan
    refine ⟨_, rfl, c, _, 0, _, rfl, rfl, SqL.of P5.ca, rfl, _, rfl, c, _, 1, _, rfl, rfl, SqL.of P5.ca, rfl, _, rfl, c, _, 2, _, rfl, rfl, SqL.of P5.ca, rfl, l, zs, rfl, .inl (SqL.of P5.li), fun g hg => ?_⟩
    have Sg := Same.new (u := .lst zs) hg
    refine fun x d nx nd ne => ?_
    have S6 : Same (upd H5 g (.lst zs)) (upd (upd (upd H5 g (.lst zs)) d (.own x)) x (.ins a.C_Plan d [])) := fun b u e => by rw [upd_ne (ne_of_none e nx), upd_ne (ne_of_none e nd)]; exact e
    refine ⟨x, d, g, n, wr, zs, rs, rfl, upd_same, n1, n2, S6 _ _ upd_same, (P5.pr.same Sg).same S6, gp, fun a1 b1 H6 X1 ha1 hb1 K6 => ⟨rfl, ?_⟩⟩
    have S6' : Same H5 H6 := fun b u e => K6 b u (ne_of_none (Sg _ _ e) nx) (S6 b u (Sg _ _ e))
    have F6 : F13 H6 a.C_Plan p L c l f x d a1 b1 n wr zs rs ks := ⟨B5.same S6', P5.same S6', S6' _ _ f5, X1⟩
    clear X1 S6' K6 hb1 ha1
    -- all keys that are asked
    refine ⟨_, rfl, by show 2 ≤ sizeLine; decide, fun q1 hq1 => ?_⟩
    have F7 := F6.same (Same.new (u := .lst [.int 0, .int 1000000000000000000]) hq1)
    refine ⟨f, q1, _, _, rfl, rfl, F7.fo, upd_same, ?_, fun q2 hq2 => ?_⟩
    · have : (1000 : Nat) < sizeLine := small1000 (Nat.le_refl _)
      rw [List.length_map]
      simp only [List.length_cons, List.length_nil]
      omega
    have F8 := F7.same (Same.new (u := .lst (ks.map V.int ++ [.int 0, .int 1000000000000000000])) hq2)
    have hq28 : upd (upd H6 q1 (.lst [.int 0, .int 1000000000000000000])) q2 (.lst (ks.map V.int ++ [.int 0, .int 1000000000000000000])) q2 = some (.lst (ks.map V.int ++ [.int 0, .int 1000000000000000000])) := upd_same
    generalize upd (upd H6 q1 (.lst [.int 0, .int 1000000000000000000])) q2 (.lst (ks.map V.int ++ [.int 0, .int 1000000000000000000])) = H8 at F8 hq28 ⊢
    refine ⟨_, rfl, c, _, 2, _, rfl, rfl, SqL.of F8.ca.ca, rfl, _, rfl, _, _, rfl, rfl, ⟨by decide, by decide⟩, _, rfl, _, rfl, _, _, rfl, rfl, ⟨by decide, by decide⟩, _, _, rfl, rfl, _, rfl, l, zs, rfl, SqL.of F8.ca.li, fun sl hsl => ?_⟩
    have F9 := F8.same (Same.new (u := .lst (cutV zs (some (many / 2)) (some (many / 2 + 5)))) hsl)
    have hq29 := Same.new (u := .lst (cutV zs (some (many / 2)) (some (many / 2 + 5)))) hsl _ _ hq28
    have hsl9 : upd H8 sl (.lst (cutV zs (some (many / 2)) (some (many / 2 + 5)))) sl = some (.lst (cutV zs (some (many / 2)) (some (many / 2 + 5)))) := upd_same
    have hmem : ∀ y ∈ cutV zs (some (many / 2)) (some (many / 2 + 5)), y ∈ zs := fun y hy => List.mem_of_mem_drop (List.mem_of_mem_take hy)
    have hcl := cutV_length zs (some (many / 2)) (some (many / 2 + 5))
    have hzl : zs.length ≤ 64 := by rw [P5.pr.len]; exact gp.len
    generalize cutV zs (some (many / 2)) (some (many / 2 + 5)) = cs at F9 hq29 hsl9 hmem hcl
    generalize upd H8 sl (.lst cs) = H9 at F9 hq29 hsl9 ⊢
    refine ⟨sl, rfl, ⟨_, SqL.of hsl9⟩, fun D hD => ?_⟩
    refine comp_list (K := K) (xs := cs) (fun i σ H10 => ∃ (v : Option V) (us : List Int), σ = [v] ∧ H10 D = some (.lst (us.map V.int)) ∧ us.length ≤ i ∧ (∀ u ∈ us, isNum u) ∧ Same H9 H10) ⟨none, [], rfl, upd_same, Nat.le_refl _, (fun u hu => by simp at hu), Same.new hD⟩ ?_ ?_ ?_
    · rintro i σ H10 _ ⟨v, us, rfl, _, _, _, S10⟩
      exact SqL.of (S10 _ _ hsl9)
    · rintro i y σ H10 hi ⟨v, us, rfl, hus, hul, hun, S10⟩
      have hy := hmem y (List.mem_of_getElem? hi)
      obtain ⟨j, hj⟩ := List.getElem?_of_mem hy
      obtain ⟨w, t, hw, rfl, ht⟩ := F9.ca.pr.get hj
      have hil : i < cs.length := (List.getElem?_eq_some_iff.mp hi).1
      refine ⟨_, rfl, t, _, 0, _, rfl, rfl, SqT.of (S10 _ _ ht), rfl, _, hus, small1000 (by rw [List.length_map]; omega), _, us ++ [w.1], rfl, ?_, by rw [List.length_append]; simp; omega, fun u hu => ?_, fun b o e => ?_⟩
      · rw [upd_same, List.map_append]; rfl
      · rcases List.mem_append.mp hu with hu | hu
        · exact hun u hu
        · rw [List.mem_singleton.mp hu]; exact (gp.nums w (List.mem_of_getElem? hw)).1
      · rw [upd_ne (ne_of_none e hD)]
        exact S10 _ _ e
    rintro σ H10 ⟨v', us, rfl, hus, hul, hun, S10⟩
    have F10 := F9.same S10
    refine ⟨q2, D, _, _, rfl, rfl, S10 _ _ hq29, hus, ?_, fun q3 hq3 => ?_⟩
    · have : (1000 : Nat) < sizeLine := small1000 (Nat.le_refl _)
      rw [List.length_append, List.length_map, List.length_map]
      simp only [List.length_cons, List.length_nil]
      omega
    have e3 : ks.map V.int ++ [.int 0, .int 1000000000000000000] ++ us.map V.int = (ks ++ [0, 1000000000000000000] ++ us).map V.int := by simp
    rw [e3]
    have an : ∀ k ∈ ks ++ [0, 1000000000000000000] ++ us, isNum k := fun k hk => by
      rcases List.mem_append.mp hk with hk | hk
      · rcases List.mem_append.mp hk with hk | hk
        · exact nk k hk
        · simp only [List.mem_cons, List.not_mem_nil, or_false] at hk
          rcases hk with rfl | rfl
          · exact ⟨by decide, by decide⟩
          · exact ⟨by decide, by decide⟩
      · exact hun k hk
    generalize ks ++ [0, 1000000000000000000] ++ us = al at an
    have F11 := F10.same (Same.new (u := .lst (al.map V.int)) hq3)
    have hq311 : upd H10 q3 (.lst (al.map V.int)) q3 = some (.lst (al.map V.int)) := upd_same
    generalize upd H10 q3 (.lst (al.map V.int)) = H11 at F11 hq311 ⊢
    have nm : ∀ m : Str, ¬ m = "home_numbers" → ¬ m = "homes" → ¬ m = "wraps" → ¬ m = "rooms" → (flds n wr a1 b1).lookup m = none := fun m => flds_no n wr a1 b1
    refine ⟨q3, rfl, ⟨_, SqL.of hq311⟩, for_list (K := K) (a := q3) (xs := al.map V.int) (fun i σ H12 => ∃ (v7 v8 v9 v10 v11 : Option V), σ = [some (.ref ls), some (.ref p), some (.ref c), some (.int many), some (.ref f), v5, some (.ref x), v7, v8, v9, v10, v11, none, none, none] ∧ Same H11 H12) ⟨_, _, _, _, _, rfl, Same.refl _⟩ ?_ ?_ ?_⟩
    · rintro i σ H12 _ ⟨v7, v8, v9, v10, v11, rfl, S12⟩
      exact SqL.of (S12 _ _ hq311)
    · rintro i y σ H12 hi ⟨v7, v8, v9, v10, v11, rfl, S12⟩
      obtain ⟨key, hkey, rfl⟩ : ∃ z, al[i]? = some z ∧ V.int z = y := by
        rw [List.getElem?_map] at hi
        cases e : al[i]? with
        | none => rw [e] at hi; cases hi
        | some z => rw [e] at hi; exact ⟨z, rfl, Option.some.inj hi⟩
      have hk := an key (List.mem_of_getElem? hkey)
      have F12 := F11.same S12
      refine ⟨_, rfl, x, d, _, rfl, F12.pl.ob, nm _ (by decide +kernel) (by decide +kernel) (by decide +kernel) (by decide +kernel), _, rfl, x, key, n, wr, zs, rs, rfl, F12.pl.plan, hk, ?_⟩
      refine ⟨_, rfl, _, "int", rfl, rfl, _, rfl, ?_⟩
      refine iteF ⟨_, rfl, _, rfl, _, rfl, c, l, key, n, wr, zs, rs, rfl, F12.ca, gp.nd, fun H13 s13 => ⟨rfl, _, rfl, ?_⟩⟩
      refine iteNS rfl ?_
      have F13' := F12.same s13
      refine ⟨_, rfl, c, _, 0, _, rfl, rfl, SqL.of F13'.ca.ca, rfl, n, rfl, by omega, by omega, for_range (n := n.toNat) (fun j σ H14 => ∃ (v9 v10 v11 : Option V), σ = [some (.ref ls), some (.ref p), some (.ref c), some (.int many), some (.ref f), v5, some (.ref x), some (.int key), some (.int (homeOf n rs key)), v9, v10, v11, none, none, none] ∧ Same H13 H14) ⟨_, _, _, rfl, Same.refl _⟩ ?_ ?_⟩
      · rintro j σ H14 hj ⟨v9, v10, v11, rfl, S14⟩
        have F14 := F13'.same S14
        have j0 : (0 : Int) ≤ 0 + (j : Int) := by omega
        have j1 : (0 : Int) + (j : Int) < n := by omega
        refine ⟨_, rfl, x, d, _, rfl, F14.pl.ob, nm _ (by decide +kernel) (by decide +kernel) (by decide +kernel) (by decide +kernel), _, rfl, _, rfl, x, key, _, n, wr, zs, rs, rfl, F14.pl.plan, hk, j0, j1, ?_⟩
        refine ⟨_, rfl, _, rfl, _, rfl, c, l, key, _, n, wr, zs, rs, rfl, F14.ca, gp.nd, fun H15 s15 => ?_⟩
        refine ⟨_, rfl, _, rfl, scal_far _, _, rfl, ?_⟩
        refine iteNS rfl ?_
        obtain ⟨tf, hkf⟩ := far_kind H15 (farOf n wr rs key (0 + (j : Int)))
        refine ⟨_, rfl, rfl, _, rfl, _, tf, rfl, hkf, rfl, _, rfl, ?_⟩
        rw [far_odd]
        exact iteF ⟨_, _, _, rfl, S14.trans s15⟩
      · rintro σ H14 ⟨v9, v10, v11, rfl, S14⟩
        exact ⟨_, _, _, _, _, rfl, S12.trans (s13.trans S14)⟩
    rintro σ H12 ⟨v7, v8, v9, v10, v11, rfl, S12⟩
    have F12 := F11.same S12
    -- what is no key and no room
    refine ⟨4, rfl, by decide, by decide, for_range (n := 4) (fun i σ H13 => ∃ (w5 w12 w13 w14 : Option V), σ = [some (.ref ls), some (.ref p), some (.ref c), some (.int many), some (.ref f), w5, some (.ref x), v7, v8, v9, v10, v11, w12, w13, w14] ∧ F13 H13 a.C_Plan p L c l f x d a1 b1 n wr zs rs ks) ⟨_, _, _, _, rfl, F12⟩ ?_ ?_⟩
    · rintro i σ H13 hi ⟨w5, w12, w13, w14, rfl, G1⟩
      refine ⟨_, rfl, p, L, rfl, G1.bg, fun od H14 bd np B14 K14 => ?_⟩
      have G2 := G1.draw K14 B14
      obtain ⟨to, hko⟩ := bd.kn.kind
      have z0 : (if numV od = true then (1 : Int) else 0) = 0 := if_neg (by rw [bd.no]; decide)
      refine ⟨_, rfl, _, rfl, x, od, .str "home", to, "str", n, wr, zs, rs, rfl, G2.pl.plan, hko, rfl, (fun a o w e => nomatch e), .inl bd.no, fun H15 s15 => ?_⟩
      rw [z0]
      refine ⟨rfl, _, rfl, iteNS rfl ?_⟩
      have G3 := G2.same s15
      have hko3 := kind_same hko s15
      refine ⟨_, rfl, _, rfl, _, rfl, p, L, rfl, G3.bg, fun y H16 by_ npy B16 K16 => ?_⟩
      have G4 := G3.draw K16 B16
      have hko4 := kind_keep hko3 np K16
      obtain ⟨ty, hky⟩ := by_.kn.kind
      refine ⟨x, od, y, to, ty, n, wr, zs, rs, rfl, G4.pl.plan, hko4, hky, by_.kn.nf, .inl bd.no, fun H17 s17 => ?_⟩
      rw [z0]
      refine ⟨rfl, _, rfl, iteNS rfl ?_⟩
      have G5 := G4.same s17
      have hko5 := kind_same hko4 s17
      refine ⟨_, rfl, p, L, 7, rfl, G5.bg, by decide, by decide, fun way H18 w0 w1 B18 O18 => ?_⟩
      have G6 := G5.draw O18.keep B18
      have hko6 := kind_keep hko5 np O18.keep
      refine ⟨_, rfl, c, _, 0, _, rfl, rfl, SqL.of G6.ca.ca, rfl, _, rfl, _, rfl, c, _, 0, _, rfl, rfl, SqL.of G6.ca.ca, rfl, _, rfl, p, L, 100000000000000000000, rfl, G6.bg, by decide, by decide, fun u H19 u0 u1 B19 O19 => ⟨_, _, rfl, rfl, ?_⟩⟩
      have G7 := G6.draw O19.keep B19
      have hko7 := kind_keep hko6 np O19.keep
      refine ⟨by show 1 ≤ sizeLine; decide, fun r1 hr1 => ⟨by show 7 ≤ sizeLine; decide, fun r2 hr2 => ?_⟩⟩
      have S20 : Same H19 (upd (upd H19 r1 (.lst [.int 0])) r2 (.lst [.int n, .int (-1), .int (n + u), .bl true, .non, .str "0", .ref r1])) := (Same.new hr1).trans (Same.new hr2)
      have G8 := G7.same S20
      have hko8 := kind_same hko7 S20
      have hr18 : upd (upd H19 r1 (.lst [.int 0])) r2 (.lst [.int n, .int (-1), .int (n + u), .bl true, .non, .str "0", .ref r1]) r1 = some (.lst [.int 0]) := Same.new hr2 _ _ upd_same
      obtain ⟨y2, hy2, ey2⟩ := atI_mem w0 (show way < (([V.int n, V.int (-1), V.int (n + u), V.bl true, V.non, V.str "0", V.ref r1] : List V).length : Int) from w1)
      refine ⟨_, rfl, r2, _, _, y2, rfl, rfl, SqL.of upd_same, ey2, ?_⟩
      generalize upd (upd H19 r1 (.lst [.int 0])) r2 (.lst [.int n, .int (-1), .int (n + u), .bl true, .non, .str "0", .ref r1]) = H20 at G8 hko8 hr18 ⊢
      obtain ⟨k0, hk0⟩ : ∃ k0, ks[0]? = some k0 := by
        cases ks with
        | nil => exact absurd rfl nek
        | cons x _ => exact ⟨x, rfl⟩
      have e0 : atI (ks.map V.int) 0 = some (.int k0) := atI_nat (j := 0) (by rw [List.getElem?_map, hk0]; rfl)
      have hn0 := nk k0 (List.mem_of_getElem? hk0)
      have z1 : (if numV (.int k0) = true then (1 : Int) else 0) = 1 := if_pos (num_iff.mpr hn0)
      obtain ⟨ty2, hky2, nf2, nh2, wi2⟩ : ∃ t, kindS H20 y2 = some t ∧ (∀ a o u, y2 = .ref a → H20 a ≠ some (.frz o u)) ∧ y2 ≠ .str "home" ∧ withinV 0 (n - 1) y2 = false := by
        have ii : ∀ i : Int, (i < 0 ∨ n - 1 < i) → withinV 0 (n - 1) (.int i) = false := fun i h => by
          show (decide (0 ≤ i) && decide (i ≤ n - 1)) = false
          rcases h with h | h
          · rw [decide_eq_false (by omega)]; rfl
          · rw [decide_eq_false (show ¬ i ≤ n - 1 by omega), Bool.and_false]
        simp only [List.mem_cons, List.not_mem_nil, or_false] at hy2
        rcases hy2 with rfl | rfl | rfl | rfl | rfl | rfl | rfl
        · exact ⟨_, rfl, (fun _ _ _ e => nomatch e), (fun e => nomatch e), ii _ (by omega)⟩
        · exact ⟨_, rfl, (fun _ _ _ e => nomatch e), (fun e => nomatch e), ii _ (by omega)⟩
        · exact ⟨_, rfl, (fun _ _ _ e => nomatch e), (fun e => nomatch e), ii _ (by omega)⟩
        · exact ⟨_, rfl, (fun _ _ _ e => nomatch e), (fun e => nomatch e), rfl⟩
        · exact ⟨_, rfl, (fun _ _ _ e => nomatch e), (fun e => nomatch e), rfl⟩
        · exact ⟨_, rfl, (fun _ _ _ e => nomatch e), (fun e => by have := V.str.inj e; exact absurd this (by decide +kernel)), rfl⟩
        · exact ⟨_, kind_lst hr18, (KnD.lst hr18).nf, (fun e => nomatch e), rfl⟩
      refine ⟨_, rfl, _, rfl, f, _, 0, _, rfl, rfl, SqL.of G8.fo, e0, _, rfl, x, .int k0, y2, "int", ty2, n, wr, zs, rs, rfl, G8.pl.plan, rfl, hky2, nf2, .inr ⟨nh2, wi2⟩, fun H21 s21 => ?_⟩
      rw [z1]
      refine ⟨rfl, _, rfl, iteNS rfl ?_⟩
      have G9 := G8.same s21
      refine ⟨_, rfl, _, rfl, x, od, .int 0, to, "int", n, wr, zs, rs, rfl, G9.pl.plan, kind_same hko8 s21, rfl, (fun _ _ _ e => nomatch e), .inl bd.no, fun H22 s22 => ?_⟩
      rw [z0]
      exact ⟨rfl, _, rfl, iteNS rfl ⟨_, _, _, _, rfl, G9.same s22⟩⟩
    · rintro σ H13 ⟨w5, w12, w13, w14, rfl, G⟩
      exact k H13
end
theorem all_mk {l : PySem.W.OpenLaw} {w : World} {K : PySem.W.Frag} {h : Heap} {mg : Str → Option Value} {fa : Addr} (X : K.In h) (G : h.Ns mainGlobals mg) (hfa : mg "law" = some (.ref fa))
    {C_Plan : Addr} (a_Plan : PySem.W.nsIn K mainGlobals "Plan" = some (some (.ref C_Plan)))
    (pg_Plan : PySem.W.plainGet K C_Plan Str.empty = true) (hd_Plan : PySem.W.hasDictIn K C_Plan = true) (po_Plan : PySem.W.plainOver K C_Plan = true) (sa_Plan : PySem.W.findIn K (.ref C_Plan) "__setattr__" = some (some (.builtin "object.__setattr__"))) (mk_Plan : PySem.W.makesIn K C_Plan = true) (kc_Plan : PySem.W.keepIn K (.ref C_Plan) = true)
    (n_Plan_rooms : PySem.W.findIn K (.ref C_Plan) "rooms" = some none)
    (n_Plan_wraps : PySem.W.findIn K (.ref C_Plan) "wraps" = some none)
    (n_Plan_homes : PySem.W.findIn K (.ref C_Plan) "homes" = some none)
    (n_Plan_home_numbers : PySem.W.findIn K (.ref C_Plan) "home_numbers" = some none)
    {C_HomeError : Addr} (a_HomeError : PySem.W.nsIn K mainGlobals "HomeError" = some (some (.ref C_HomeError)))
    {C_Wrong : Addr} (a_Wrong : PySem.W.nsIn K mainGlobals "Wrong" = some (some (.ref C_Wrong)))
    (x1_HomeError : (PySem.W.clsIn K C_HomeError).any (fun cd => ownVE cd.mro) = true)
    (x2_HomeError : PySem.W.hasDictIn K C_HomeError = true)
    (x3_HomeError : PySem.W.ktsIn K C_HomeError "ValueError" = true)
    (x4_HomeError : PySem.W.findIn K (.ref C_HomeError) "__setattr__" = some (some (.builtin "object.__setattr__")))
    (x5_HomeError : PySem.W.findIn K (.ref C_HomeError) "__getattribute__" = some (some (.builtin "BaseException.__getattribute__")))
    (x6_HomeError : PySem.W.findIn K (.ref C_HomeError) "__getattr__" = some none)
    (x7_HomeError : PySem.W.mroIn K C_HomeError (.type "BaseException") = some true)
    (x8_HomeError : PySem.W.mroIn K C_HomeError (.type "object") = some true)
    (x9_HomeError : PySem.W.typeIn K (.ref C_HomeError) = some (.type "type"))
    (xv_HomeError : PySem.W.kitOne K (.ref C_HomeError) (.type "ValueError") = some true)
    (r_HomeError_HomeError : PySem.W.mroIn K C_HomeError (.ref C_HomeError) = some true)
    (r_HomeError_Wrong : PySem.W.mroIn K C_HomeError (.ref C_Wrong) = some false)
    (x1_Wrong : (PySem.W.clsIn K C_Wrong).any (fun cd => ownVE cd.mro) = true)
    (x2_Wrong : PySem.W.hasDictIn K C_Wrong = true)
    (x3_Wrong : PySem.W.ktsIn K C_Wrong "ValueError" = true)
    (x4_Wrong : PySem.W.findIn K (.ref C_Wrong) "__setattr__" = some (some (.builtin "object.__setattr__")))
    (x5_Wrong : PySem.W.findIn K (.ref C_Wrong) "__getattribute__" = some (some (.builtin "BaseException.__getattribute__")))
    (x6_Wrong : PySem.W.findIn K (.ref C_Wrong) "__getattr__" = some none)
    (x7_Wrong : PySem.W.mroIn K C_Wrong (.type "BaseException") = some true)
    (x8_Wrong : PySem.W.mroIn K C_Wrong (.type "object") = some true)
    (x9_Wrong : PySem.W.typeIn K (.ref C_Wrong) = some (.type "type"))
    (xv_Wrong : PySem.W.kitOne K (.ref C_Wrong) (.type "ValueError") = some true)
    (xm_Wrong : excMk K C_Wrong = true)
    (xk_Wrong : PySem.W.keepIn K (.ref C_Wrong) = true)
    (n_Wrong_at : PySem.W.findIn K (.ref C_Wrong) "at" = some none)
    (r_Wrong_HomeError : PySem.W.mroIn K C_Wrong (.ref C_HomeError) = some true)
    (r_Wrong_Wrong : PySem.W.mroIn K C_Wrong (.ref C_Wrong) = some true)
    {f__wall : Addr} {od__wall an__wall : Option Addr} {sl__wall : Array (Option Value)} {oc__wall kV__wall dc__wall pm__wall cd__wall ct__wall : Value}
    (a__wall : PySem.W.nsIn K mainGlobals "_wall" = some (some (.ref f__wall))) (l__wall : K.lookup f__wall = some ⟨oc__wall, od__wall, .func (PySem.W.fnOf "_wall" "_wall" (defArgs s__wall) (defBody s__wall) (defScope s__wall) .none kV__wall dc__wall pm__wall an__wall cd__wall ct__wall), sl__wall⟩) (e__wall : PySem.W.codeIn K cd__wall "_wall" = true) (k__wall : PySem.W.keepIn K (.ref f__wall) = true)
    {f_Wrong_init : Addr} {od_Wrong_init an_Wrong_init : Option Addr} {sl_Wrong_init : Array (Option Value)} {oc_Wrong_init kV_Wrong_init dc_Wrong_init pm_Wrong_init cd_Wrong_init ct_Wrong_init : Value}
    (a_Wrong_init : PySem.W.findIn K (.ref C_Wrong) "__init__" = some (some (.ref f_Wrong_init))) (i_Wrong_init : PySem.W.isFn K (.ref f_Wrong_init) = true) (l_Wrong_init : K.lookup f_Wrong_init = some ⟨oc_Wrong_init, od_Wrong_init, .func (PySem.W.fnOf "__init__" "Wrong.__init__" (defArgs s_Wrong_init) (defBody s_Wrong_init) (defScope s_Wrong_init) .none kV_Wrong_init dc_Wrong_init pm_Wrong_init an_Wrong_init cd_Wrong_init ct_Wrong_init), sl_Wrong_init⟩) (e_Wrong_init : PySem.W.codeIn K cd_Wrong_init "Wrong.__init__" = true) (k_Wrong_init : PySem.W.keepIn K (.ref f_Wrong_init) = true)
    {f_is_whole : Addr} {od_is_whole an_is_whole : Option Addr} {sl_is_whole : Array (Option Value)} {oc_is_whole kV_is_whole dc_is_whole pm_is_whole cd_is_whole ct_is_whole : Value}
    (a_is_whole : PySem.W.nsIn K mainGlobals "is_whole" = some (some (.ref f_is_whole))) (l_is_whole : K.lookup f_is_whole = some ⟨oc_is_whole, od_is_whole, .func (PySem.W.fnOf "is_whole" "is_whole" (defArgs s_is_whole) (defBody s_is_whole) (defScope s_is_whole) .none kV_is_whole dc_is_whole pm_is_whole an_is_whole cd_is_whole ct_is_whole), sl_is_whole⟩) (e_is_whole : PySem.W.codeIn K cd_is_whole "is_whole" = true) (k_is_whole : PySem.W.keepIn K (.ref f_is_whole) = true)
    {f_is_whole_within : Addr} {od_is_whole_within an_is_whole_within : Option Addr} {sl_is_whole_within : Array (Option Value)} {oc_is_whole_within kV_is_whole_within dc_is_whole_within pm_is_whole_within cd_is_whole_within ct_is_whole_within : Value}
    (a_is_whole_within : PySem.W.nsIn K mainGlobals "is_whole_within" = some (some (.ref f_is_whole_within))) (l_is_whole_within : K.lookup f_is_whole_within = some ⟨oc_is_whole_within, od_is_whole_within, .func (PySem.W.fnOf "is_whole_within" "is_whole_within" (defArgs s_is_whole_within) (defBody s_is_whole_within) (defScope s_is_whole_within) .none kV_is_whole_within dc_is_whole_within pm_is_whole_within an_is_whole_within cd_is_whole_within ct_is_whole_within), sl_is_whole_within⟩) (e_is_whole_within : PySem.W.codeIn K cd_is_whole_within "is_whole_within" = true) (k_is_whole_within : PySem.W.keepIn K (.ref f_is_whole_within) = true)
    {f_is_number : Addr} {od_is_number an_is_number : Option Addr} {sl_is_number : Array (Option Value)} {oc_is_number kV_is_number dc_is_number pm_is_number cd_is_number ct_is_number : Value}
    (a_is_number : PySem.W.nsIn K mainGlobals "is_number" = some (some (.ref f_is_number))) (l_is_number : K.lookup f_is_number = some ⟨oc_is_number, od_is_number, .func (PySem.W.fnOf "is_number" "is_number" (defArgs s_is_number) (defBody s_is_number) (defScope s_is_number) .none kV_is_number dc_is_number pm_is_number an_is_number cd_is_number ct_is_number), sl_is_number⟩) (e_is_number : PySem.W.codeIn K cd_is_number "is_number" = true) (k_is_number : PySem.W.keepIn K (.ref f_is_number) = true)
    {f_are_parted : Addr} {od_are_parted an_are_parted : Option Addr} {sl_are_parted : Array (Option Value)} {oc_are_parted kV_are_parted dc_are_parted pm_are_parted cd_are_parted ct_are_parted : Value}
    (a_are_parted : PySem.W.nsIn K mainGlobals "are_parted" = some (some (.ref f_are_parted))) (l_are_parted : K.lookup f_are_parted = some ⟨oc_are_parted, od_are_parted, .func (PySem.W.fnOf "are_parted" "are_parted" (defArgs s_are_parted) (defBody s_are_parted) (defScope s_are_parted) .none kV_are_parted dc_are_parted pm_are_parted an_are_parted cd_are_parted ct_are_parted), sl_are_parted⟩) (e_are_parted : PySem.W.codeIn K cd_are_parted "are_parted" = true) (k_are_parted : PySem.W.keepIn K (.ref f_are_parted) = true)
    {f_is_number_pair : Addr} {od_is_number_pair an_is_number_pair : Option Addr} {sl_is_number_pair : Array (Option Value)} {oc_is_number_pair kV_is_number_pair dc_is_number_pair pm_is_number_pair cd_is_number_pair ct_is_number_pair : Value}
    (a_is_number_pair : PySem.W.nsIn K mainGlobals "is_number_pair" = some (some (.ref f_is_number_pair))) (l_is_number_pair : K.lookup f_is_number_pair = some ⟨oc_is_number_pair, od_is_number_pair, .func (PySem.W.fnOf "is_number_pair" "is_number_pair" (defArgs s_is_number_pair) (defBody s_is_number_pair) (defScope s_is_number_pair) .none kV_is_number_pair dc_is_number_pair pm_is_number_pair an_is_number_pair cd_is_number_pair ct_is_number_pair), sl_is_number_pair⟩) (e_is_number_pair : PySem.W.codeIn K cd_is_number_pair "is_number_pair" = true) (k_is_number_pair : PySem.W.keepIn K (.ref f_is_number_pair) = true)
    {f_is_home_list : Addr} {od_is_home_list an_is_home_list : Option Addr} {sl_is_home_list : Array (Option Value)} {oc_is_home_list kV_is_home_list dc_is_home_list pm_is_home_list cd_is_home_list ct_is_home_list : Value}
    (a_is_home_list : PySem.W.nsIn K mainGlobals "is_home_list" = some (some (.ref f_is_home_list))) (l_is_home_list : K.lookup f_is_home_list = some ⟨oc_is_home_list, od_is_home_list, .func (PySem.W.fnOf "is_home_list" "is_home_list" (defArgs s_is_home_list) (defBody s_is_home_list) (defScope s_is_home_list) .none kV_is_home_list dc_is_home_list pm_is_home_list an_is_home_list cd_is_home_list ct_is_home_list), sl_is_home_list⟩) (e_is_home_list : PySem.W.codeIn K cd_is_home_list "is_home_list" = true) (k_is_home_list : PySem.W.keepIn K (.ref f_is_home_list) = true)
    {f_Plan_init : Addr} {od_Plan_init an_Plan_init : Option Addr} {sl_Plan_init : Array (Option Value)} {oc_Plan_init kV_Plan_init dc_Plan_init pm_Plan_init cd_Plan_init ct_Plan_init : Value}
    (a_Plan_init : PySem.W.findIn K (.ref C_Plan) "__init__" = some (some (.ref f_Plan_init))) (i_Plan_init : PySem.W.isFn K (.ref f_Plan_init) = true) (l_Plan_init : K.lookup f_Plan_init = some ⟨oc_Plan_init, od_Plan_init, .func (PySem.W.fnOf "__init__" "Plan.__init__" (defArgs s_Plan_init) (defBody s_Plan_init) (defScope s_Plan_init) .none kV_Plan_init dc_Plan_init pm_Plan_init an_Plan_init cd_Plan_init ct_Plan_init), sl_Plan_init⟩) (e_Plan_init : PySem.W.codeIn K cd_Plan_init "Plan.__init__" = true) (k_Plan_init : PySem.W.keepIn K (.ref f_Plan_init) = true)
    {f_Plan_is_room : Addr} {od_Plan_is_room an_Plan_is_room : Option Addr} {sl_Plan_is_room : Array (Option Value)} {oc_Plan_is_room kV_Plan_is_room dc_Plan_is_room pm_Plan_is_room cd_Plan_is_room ct_Plan_is_room : Value}
    (a_Plan_is_room : PySem.W.findIn K (.ref C_Plan) "is_room" = some (some (.ref f_Plan_is_room))) (i_Plan_is_room : PySem.W.isFn K (.ref f_Plan_is_room) = true) (l_Plan_is_room : K.lookup f_Plan_is_room = some ⟨oc_Plan_is_room, od_Plan_is_room, .func (PySem.W.fnOf "is_room" "Plan.is_room" (defArgs s_Plan_is_room) (defBody s_Plan_is_room) (defScope s_Plan_is_room) .none kV_Plan_is_room dc_Plan_is_room pm_Plan_is_room an_Plan_is_room cd_Plan_is_room ct_Plan_is_room), sl_Plan_is_room⟩) (e_Plan_is_room : PySem.W.codeIn K cd_Plan_is_room "Plan.is_room" = true) (k_Plan_is_room : PySem.W.keepIn K (.ref f_Plan_is_room) = true)
    {f_Plan_home : Addr} {od_Plan_home an_Plan_home : Option Addr} {sl_Plan_home : Array (Option Value)} {oc_Plan_home kV_Plan_home dc_Plan_home pm_Plan_home cd_Plan_home ct_Plan_home : Value}
    (a_Plan_home : PySem.W.findIn K (.ref C_Plan) "home" = some (some (.ref f_Plan_home))) (i_Plan_home : PySem.W.isFn K (.ref f_Plan_home) = true) (l_Plan_home : K.lookup f_Plan_home = some ⟨oc_Plan_home, od_Plan_home, .func (PySem.W.fnOf "home" "Plan.home" (defArgs s_Plan_home) (defBody s_Plan_home) (defScope s_Plan_home) .none kV_Plan_home dc_Plan_home pm_Plan_home an_Plan_home cd_Plan_home ct_Plan_home), sl_Plan_home⟩) (e_Plan_home : PySem.W.codeIn K cd_Plan_home "Plan.home" = true) (k_Plan_home : PySem.W.keepIn K (.ref f_Plan_home) = true)
    {f_Plan_far : Addr} {od_Plan_far an_Plan_far : Option Addr} {sl_Plan_far : Array (Option Value)} {oc_Plan_far kV_Plan_far dc_Plan_far pm_Plan_far cd_Plan_far ct_Plan_far : Value}
    (a_Plan_far : PySem.W.findIn K (.ref C_Plan) "far" = some (some (.ref f_Plan_far))) (i_Plan_far : PySem.W.isFn K (.ref f_Plan_far) = true) (l_Plan_far : K.lookup f_Plan_far = some ⟨oc_Plan_far, od_Plan_far, .func (PySem.W.fnOf "far" "Plan.far" (defArgs s_Plan_far) (defBody s_Plan_far) (defScope s_Plan_far) .none kV_Plan_far dc_Plan_far pm_Plan_far an_Plan_far cd_Plan_far ct_Plan_far), sl_Plan_far⟩) (e_Plan_far : PySem.W.codeIn K cd_Plan_far "Plan.far" = true) (k_Plan_far : PySem.W.keepIn K (.ref f_Plan_far) = true)
    {f_Lbag : Addr} {od_Lbag an_Lbag : Option Addr} {sl_Lbag : Array (Option Value)} {oc_Lbag kV_Lbag dc_Lbag pm_Lbag cd_Lbag ct_Lbag : Value}
    (a_Lbag : PySem.W.nsIn K mainGlobals "_law_bag" = some (some (.ref f_Lbag))) (l_Lbag : K.lookup f_Lbag = some ⟨oc_Lbag, od_Lbag, .func (PySem.W.fnOf "_law_bag" "_law_bag" (defArgs s_Lbag) (defBody s_Lbag) (defScope s_Lbag) .none kV_Lbag dc_Lbag pm_Lbag an_Lbag cd_Lbag ct_Lbag), sl_Lbag⟩) (e_Lbag : PySem.W.codeIn K cd_Lbag "_law_bag" = true) (k_Lbag : PySem.W.keepIn K (.ref f_Lbag) = true)
    {f_Ltake : Addr} {od_Ltake an_Ltake : Option Addr} {sl_Ltake : Array (Option Value)} {oc_Ltake kV_Ltake dc_Ltake pm_Ltake cd_Ltake ct_Ltake : Value}
    (a_Ltake : PySem.W.nsIn K mainGlobals "_law_take" = some (some (.ref f_Ltake))) (l_Ltake : K.lookup f_Ltake = some ⟨oc_Ltake, od_Ltake, .func (PySem.W.fnOf "_law_take" "_law_take" (defArgs s_Ltake) (defBody s_Ltake) (defScope s_Ltake) .none kV_Ltake dc_Ltake pm_Ltake an_Ltake cd_Ltake ct_Ltake), sl_Ltake⟩) (e_Ltake : PySem.W.codeIn K cd_Ltake "_law_take" = true) (k_Ltake : PySem.W.keepIn K (.ref f_Ltake) = true)
    {f_Lcase : Addr} {od_Lcase an_Lcase : Option Addr} {sl_Lcase : Array (Option Value)} {oc_Lcase kV_Lcase dc_Lcase pm_Lcase cd_Lcase ct_Lcase : Value}
    (a_Lcase : PySem.W.nsIn K mainGlobals "_law_case" = some (some (.ref f_Lcase))) (l_Lcase : K.lookup f_Lcase = some ⟨oc_Lcase, od_Lcase, .func (PySem.W.fnOf "_law_case" "_law_case" (defArgs s_Lcase) (defBody s_Lcase) (defScope s_Lcase) .none kV_Lcase dc_Lcase pm_Lcase an_Lcase cd_Lcase ct_Lcase), sl_Lcase⟩) (e_Lcase : PySem.W.codeIn K cd_Lcase "_law_case" = true) (k_Lcase : PySem.W.keepIn K (.ref f_Lcase) = true)
    {f_Lkey : Addr} {od_Lkey an_Lkey : Option Addr} {sl_Lkey : Array (Option Value)} {oc_Lkey kV_Lkey dc_Lkey pm_Lkey cd_Lkey ct_Lkey : Value}
    (a_Lkey : PySem.W.nsIn K mainGlobals "_law_key" = some (some (.ref f_Lkey))) (l_Lkey : K.lookup f_Lkey = some ⟨oc_Lkey, od_Lkey, .func (PySem.W.fnOf "_law_key" "_law_key" (defArgs s_Lkey) (defBody s_Lkey) (defScope s_Lkey) .none kV_Lkey dc_Lkey pm_Lkey an_Lkey cd_Lkey ct_Lkey), sl_Lkey⟩) (e_Lkey : PySem.W.codeIn K cd_Lkey "_law_key" = true) (k_Lkey : PySem.W.keepIn K (.ref f_Lkey) = true)
    {f_Lkeys : Addr} {od_Lkeys an_Lkeys : Option Addr} {sl_Lkeys : Array (Option Value)} {oc_Lkeys kV_Lkeys dc_Lkeys pm_Lkeys cd_Lkeys ct_Lkeys : Value}
    (a_Lkeys : PySem.W.nsIn K mainGlobals "_law_keys" = some (some (.ref f_Lkeys))) (l_Lkeys : K.lookup f_Lkeys = some ⟨oc_Lkeys, od_Lkeys, .func (PySem.W.fnOf "_law_keys" "_law_keys" (defArgs s_Lkeys) (defBody s_Lkeys) (defScope s_Lkeys) .none kV_Lkeys dc_Lkeys pm_Lkeys an_Lkeys cd_Lkeys ct_Lkeys), sl_Lkeys⟩) (e_Lkeys : PySem.W.codeIn K cd_Lkeys "_law_keys" = true) (k_Lkeys : PySem.W.keepIn K (.ref f_Lkeys) = true)
    {f_Lhome : Addr} {od_Lhome an_Lhome : Option Addr} {sl_Lhome : Array (Option Value)} {oc_Lhome kV_Lhome dc_Lhome pm_Lhome cd_Lhome ct_Lhome : Value}
    (a_Lhome : PySem.W.nsIn K mainGlobals "_law_home" = some (some (.ref f_Lhome))) (l_Lhome : K.lookup f_Lhome = some ⟨oc_Lhome, od_Lhome, .func (PySem.W.fnOf "_law_home" "_law_home" (defArgs s_Lhome) (defBody s_Lhome) (defScope s_Lhome) .none kV_Lhome dc_Lhome pm_Lhome an_Lhome cd_Lhome ct_Lhome), sl_Lhome⟩) (e_Lhome : PySem.W.codeIn K cd_Lhome "_law_home" = true) (k_Lhome : PySem.W.keepIn K (.ref f_Lhome) = true)
    {f_Lfar : Addr} {od_Lfar an_Lfar : Option Addr} {sl_Lfar : Array (Option Value)} {oc_Lfar kV_Lfar dc_Lfar pm_Lfar cd_Lfar ct_Lfar : Value}
    (a_Lfar : PySem.W.nsIn K mainGlobals "_law_far" = some (some (.ref f_Lfar))) (l_Lfar : K.lookup f_Lfar = some ⟨oc_Lfar, od_Lfar, .func (PySem.W.fnOf "_law_far" "_law_far" (defArgs s_Lfar) (defBody s_Lfar) (defScope s_Lfar) .none kV_Lfar dc_Lfar pm_Lfar an_Lfar cd_Lfar ct_Lfar), sl_Lfar⟩) (e_Lfar : PySem.W.codeIn K cd_Lfar "_law_far" = true) (k_Lfar : PySem.W.keepIn K (.ref f_Lfar) = true)
    {f_Lodd : Addr} {od_Lodd an_Lodd : Option Addr} {sl_Lodd : Array (Option Value)} {oc_Lodd kV_Lodd dc_Lodd pm_Lodd cd_Lodd ct_Lodd : Value}
    (a_Lodd : PySem.W.nsIn K mainGlobals "_law_odd" = some (some (.ref f_Lodd))) (l_Lodd : K.lookup f_Lodd = some ⟨oc_Lodd, od_Lodd, .func (PySem.W.fnOf "_law_odd" "_law_odd" (defArgs s_Lodd) (defBody s_Lodd) (defScope s_Lodd) .none kV_Lodd dc_Lodd pm_Lodd an_Lodd cd_Lodd ct_Lodd), sl_Lodd⟩) (e_Lodd : PySem.W.codeIn K cd_Lodd "_law_odd" = true) (k_Lodd : PySem.W.keepIn K (.ref f_Lodd) = true)
    {f_Lwhole : Addr} {od_Lwhole an_Lwhole : Option Addr} {sl_Lwhole : Array (Option Value)} {oc_Lwhole kV_Lwhole dc_Lwhole pm_Lwhole cd_Lwhole ct_Lwhole : Value}
    (a_Lwhole : PySem.W.nsIn K mainGlobals "_law_whole" = some (some (.ref f_Lwhole))) (l_Lwhole : K.lookup f_Lwhole = some ⟨oc_Lwhole, od_Lwhole, .func (PySem.W.fnOf "_law_whole" "_law_whole" (defArgs s_Lwhole) (defBody s_Lwhole) (defScope s_Lwhole) .none kV_Lwhole dc_Lwhole pm_Lwhole an_Lwhole cd_Lwhole ct_Lwhole), sl_Lwhole⟩) (e_Lwhole : PySem.W.codeIn K cd_Lwhole "_law_whole" = true) (k_Lwhole : PySem.W.keepIn K (.ref f_Lwhole) = true)
    {f_Lwrong : Addr} {od_Lwrong an_Lwrong : Option Addr} {sl_Lwrong : Array (Option Value)} {oc_Lwrong kV_Lwrong dc_Lwrong pm_Lwrong cd_Lwrong ct_Lwrong : Value}
    (a_Lwrong : PySem.W.nsIn K mainGlobals "_law_wrong" = some (some (.ref f_Lwrong))) (l_Lwrong : K.lookup f_Lwrong = some ⟨oc_Lwrong, od_Lwrong, .func (PySem.W.fnOf "_law_wrong" "_law_wrong" (defArgs s_Lwrong) (defBody s_Lwrong) (defScope s_Lwrong) .none kV_Lwrong dc_Lwrong pm_Lwrong an_Lwrong cd_Lwrong ct_Lwrong), sl_Lwrong⟩) (e_Lwrong : PySem.W.codeIn K cd_Lwrong "_law_wrong" = true) (k_Lwrong : PySem.W.keepIn K (.ref f_Lwrong) = true)
    {f_Lbad : Addr} {od_Lbad an_Lbad : Option Addr} {sl_Lbad : Array (Option Value)} {oc_Lbad kV_Lbad dc_Lbad pm_Lbad cd_Lbad ct_Lbad : Value}
    (a_Lbad : PySem.W.nsIn K mainGlobals "_law_bad" = some (some (.ref f_Lbad))) (l_Lbad : K.lookup f_Lbad = some ⟨oc_Lbad, od_Lbad, .func (PySem.W.fnOf "_law_bad" "_law_bad" (defArgs s_Lbad) (defBody s_Lbad) (defScope s_Lbad) .none kV_Lbad dc_Lbad pm_Lbad an_Lbad cd_Lbad ct_Lbad), sl_Lbad⟩) (e_Lbad : PySem.W.codeIn K cd_Lbad "_law_bad" = true) (k_Lbad : PySem.W.keepIn K (.ref f_Lbad) = true)
    {f_law : Addr} {od_law an_law : Option Addr} {sl_law : Array (Option Value)} {oc_law kV_law dc_law pm_law cd_law ct_law : Value}
    (a_law : PySem.W.nsIn K mainGlobals "law" = some (some (.ref f_law))) (l_law : K.lookup f_law = some ⟨oc_law, od_law, .func (PySem.W.fnOf "law" "law" (defArgs s_law) (defBody s_law) (defScope s_law) .none kV_law dc_law pm_law an_law cd_law ct_law), sl_law⟩) (e_law : PySem.W.codeIn K cd_law "law" = true) (k_law : PySem.W.keepIn K (.ref f_law) = true)
    {t_MOST_NUMBER : Tok} (c_MOST_NUMBER : PySem.W.nsIn K mainGlobals "MOST_NUMBER" = some (some (.int 1000000000000000000 t_MOST_NUMBER)))
    {t_MOST_ROOMS : Tok} (c_MOST_ROOMS : PySem.W.nsIn K mainGlobals "MOST_ROOMS" = some (some (.int 64 t_MOST_ROOMS)))
    {t_MOST_HOMES : Tok} (c_MOST_HOMES : PySem.W.nsIn K mainGlobals "MOST_HOMES" = some (some (.int 64 t_MOST_HOMES)))
    (z_abs : PySem.W.nsIn K mainGlobals "abs" = some none)
    (z_all : PySem.W.nsIn K mainGlobals "all" = some none)
    (z_bool : PySem.W.nsIn K mainGlobals "bool" = some none)
    (z_dict : PySem.W.nsIn K mainGlobals "dict" = some none)
    (z_int : PySem.W.nsIn K mainGlobals "int" = some none)
    (z_isinstance : PySem.W.nsIn K mainGlobals "isinstance" = some none)
    (z_len : PySem.W.nsIn K mainGlobals "len" = some none)
    (z_list : PySem.W.nsIn K mainGlobals "list" = some none)
    (z_range : PySem.W.nsIn K mainGlobals "range" = some none)
    (z_set : PySem.W.nsIn K mainGlobals "set" = some none)
    (z_tuple : PySem.W.nsIn K mainGlobals "tuple" = some none)
    : ∃ fd : FuncData, (∀ (s : Shared) (v : Value), BindsTo s fd ⟨[v], []⟩ [("_law_script", v)]) ∧ ∀ base : Heap, K.In base → base.Ns mainGlobals mg → FnOk l.prog w K mg base CX0 8 fa fd ["_law_script"] (spLaw K) := by
  have e := hfa.symm.trans (PySem.W.mg_of X G a_law)
  cases e
  have D__wall := dfmk (mg := mg) (st := s__wall) (ps := ["k"]) l__wall e__wall k__wall (PySem.W.mg_of X G a__wall) fun _ _ _ _ _ _ us hl => match us, hl with | [_], _ => rfl
  have D_Wrong_init := mdmk (C := C_Wrong) (st := s_Wrong_init) (ps := ["self", "at"]) l_Wrong_init e_Wrong_init k_Wrong_init a_Wrong_init i_Wrong_init fun _ _ _ _ _ _ us hl => match us, hl with | [_, _], _ => rfl
  have D_is_whole := dfmk (mg := mg) (st := s_is_whole) (ps := ["thing"]) l_is_whole e_is_whole k_is_whole (PySem.W.mg_of X G a_is_whole) fun _ _ _ _ _ _ us hl => match us, hl with | [_], _ => rfl
  have D_is_whole_within := dfmk (mg := mg) (st := s_is_whole_within) (ps := ["thing", "least", "most"]) l_is_whole_within e_is_whole_within k_is_whole_within (PySem.W.mg_of X G a_is_whole_within) fun _ _ _ _ _ _ us hl => match us, hl with | [_, _, _], _ => rfl
  have D_is_number := dfmk (mg := mg) (st := s_is_number) (ps := ["thing"]) l_is_number e_is_number k_is_number (PySem.W.mg_of X G a_is_number) fun _ _ _ _ _ _ us hl => match us, hl with | [_], _ => rfl
  have D_are_parted := dfmk (mg := mg) (st := s_are_parted) (ps := ["numbers"]) l_are_parted e_are_parted k_are_parted (PySem.W.mg_of X G a_are_parted) fun _ _ _ _ _ _ us hl => match us, hl with | [_], _ => rfl
  have D_is_number_pair := dfmk (mg := mg) (st := s_is_number_pair) (ps := ["thing"]) l_is_number_pair e_is_number_pair k_is_number_pair (PySem.W.mg_of X G a_is_number_pair) fun _ _ _ _ _ _ us hl => match us, hl with | [_], _ => rfl
  have D_is_home_list := dfmk (mg := mg) (st := s_is_home_list) (ps := ["thing"]) l_is_home_list e_is_home_list k_is_home_list (PySem.W.mg_of X G a_is_home_list) fun _ _ _ _ _ _ us hl => match us, hl with | [_], _ => rfl
  have D_Plan_init := mdmk (C := C_Plan) (st := s_Plan_init) (ps := ["self", "rooms", "wraps", "homes"]) l_Plan_init e_Plan_init k_Plan_init a_Plan_init i_Plan_init fun _ _ _ _ _ _ us hl => match us, hl with | [_, _, _, _], _ => rfl
  have D_Plan_is_room := mdmk (C := C_Plan) (st := s_Plan_is_room) (ps := ["self", "thing"]) l_Plan_is_room e_Plan_is_room k_Plan_is_room a_Plan_is_room i_Plan_is_room fun _ _ _ _ _ _ us hl => match us, hl with | [_, _], _ => rfl
  have D_Plan_home := mdmk (C := C_Plan) (st := s_Plan_home) (ps := ["self", "key"]) l_Plan_home e_Plan_home k_Plan_home a_Plan_home i_Plan_home fun _ _ _ _ _ _ us hl => match us, hl with | [_, _], _ => rfl
  have D_Plan_far := mdmk (C := C_Plan) (st := s_Plan_far) (ps := ["self", "key", "room"]) l_Plan_far e_Plan_far k_Plan_far a_Plan_far i_Plan_far fun _ _ _ _ _ _ us hl => match us, hl with | [_, _, _], _ => rfl
  have D_Lbag := dfmk (mg := mg) (st := s_Lbag) (ps := ["_law_script"]) l_Lbag e_Lbag k_Lbag (PySem.W.mg_of X G a_Lbag) fun _ _ _ _ _ _ us hl => match us, hl with | [_], _ => rfl
  have D_Ltake := dfmk (mg := mg) (st := s_Ltake) (ps := ["_law_bag_here", "_law_many"]) l_Ltake e_Ltake k_Ltake (PySem.W.mg_of X G a_Ltake) fun _ _ _ _ _ _ us hl => match us, hl with | [_, _], _ => rfl
  have D_Lcase := dfmk (mg := mg) (st := s_Lcase) (ps := ["_law_bag_here", "_law_most"]) l_Lcase e_Lcase k_Lcase (PySem.W.mg_of X G a_Lcase) fun _ _ _ _ _ _ us hl => match us, hl with | [_, _], _ => rfl
  have D_Lkey := dfmk (mg := mg) (st := s_Lkey) (ps := ["_law_bag_here", "_law_rooms", "_law_home_here"]) l_Lkey e_Lkey k_Lkey (PySem.W.mg_of X G a_Lkey) fun _ _ _ _ _ _ us hl => match us, hl with | [_, _, _], _ => rfl
  have D_Lkeys := dfmk (mg := mg) (st := s_Lkeys) (ps := ["_law_bag_here", "_law_case_here", "_law_many"]) l_Lkeys e_Lkeys k_Lkeys (PySem.W.mg_of X G a_Lkeys) fun _ _ _ _ _ _ us hl => match us, hl with | [_, _, _], _ => rfl
  have D_Lhome := dfmk (mg := mg) (st := s_Lhome) (ps := ["_law_case_here", "_law_key_here"]) l_Lhome e_Lhome k_Lhome (PySem.W.mg_of X G a_Lhome) fun _ _ _ _ _ _ us hl => match us, hl with | [_, _], _ => rfl
  have D_Lfar := dfmk (mg := mg) (st := s_Lfar) (ps := ["_law_case_here", "_law_key_here", "_law_room"]) l_Lfar e_Lfar k_Lfar (PySem.W.mg_of X G a_Lfar) fun _ _ _ _ _ _ us hl => match us, hl with | [_, _, _], _ => rfl
  have D_Lodd := dfmk (mg := mg) (st := s_Lodd) (ps := ["_law_bag_here", "_law_far_here"]) l_Lodd e_Lodd k_Lodd (PySem.W.mg_of X G a_Lodd) fun _ _ _ _ _ _ us hl => match us, hl with | [_, _], _ => rfl
  have D_Lwhole := dfmk (mg := mg) (st := s_Lwhole) (ps := ["_law_thing"]) l_Lwhole e_Lwhole k_Lwhole (PySem.W.mg_of X G a_Lwhole) fun _ _ _ _ _ _ us hl => match us, hl with | [_], _ => rfl
  have D_Lwrong := dfmk (mg := mg) (st := s_Lwrong) (ps := ["_law_asked", "_law_key_here", "_law_room"]) l_Lwrong e_Lwrong k_Lwrong (PySem.W.mg_of X G a_Lwrong) fun _ _ _ _ _ _ us hl => match us, hl with | [_, _, _], _ => rfl
  have D_Lbad := dfmk (mg := mg) (st := s_Lbad) (ps := ["_law_bag_here"]) l_Lbad e_Lbad k_Lbad (PySem.W.mg_of X G a_Lbad) fun _ _ _ _ _ _ us hl => match us, hl with | [_], _ => rfl
  have D_law := dfmk (mg := mg) (st := s_law) (ps := ["_law_script"]) l_law e_law k_law (PySem.W.mg_of X G a_law) fun _ _ _ _ _ _ us hl => match us, hl with | [_], _ => rfl
  have T : Txt K mg ⟨f__wall, PySem.W.fnOf "_wall" "_wall" (defArgs s__wall) (defBody s__wall) (defScope s__wall) .none kV__wall dc__wall pm__wall an__wall cd__wall ct__wall, f_Wrong_init, PySem.W.fnOf "__init__" "Wrong.__init__" (defArgs s_Wrong_init) (defBody s_Wrong_init) (defScope s_Wrong_init) .none kV_Wrong_init dc_Wrong_init pm_Wrong_init an_Wrong_init cd_Wrong_init ct_Wrong_init, f_is_whole, PySem.W.fnOf "is_whole" "is_whole" (defArgs s_is_whole) (defBody s_is_whole) (defScope s_is_whole) .none kV_is_whole dc_is_whole pm_is_whole an_is_whole cd_is_whole ct_is_whole, f_is_whole_within, PySem.W.fnOf "is_whole_within" "is_whole_within" (defArgs s_is_whole_within) (defBody s_is_whole_within) (defScope s_is_whole_within) .none kV_is_whole_within dc_is_whole_within pm_is_whole_within an_is_whole_within cd_is_whole_within ct_is_whole_within, f_is_number, PySem.W.fnOf "is_number" "is_number" (defArgs s_is_number) (defBody s_is_number) (defScope s_is_number) .none kV_is_number dc_is_number pm_is_number an_is_number cd_is_number ct_is_number, f_are_parted, PySem.W.fnOf "are_parted" "are_parted" (defArgs s_are_parted) (defBody s_are_parted) (defScope s_are_parted) .none kV_are_parted dc_are_parted pm_are_parted an_are_parted cd_are_parted ct_are_parted, f_is_number_pair, PySem.W.fnOf "is_number_pair" "is_number_pair" (defArgs s_is_number_pair) (defBody s_is_number_pair) (defScope s_is_number_pair) .none kV_is_number_pair dc_is_number_pair pm_is_number_pair an_is_number_pair cd_is_number_pair ct_is_number_pair, f_is_home_list, PySem.W.fnOf "is_home_list" "is_home_list" (defArgs s_is_home_list) (defBody s_is_home_list) (defScope s_is_home_list) .none kV_is_home_list dc_is_home_list pm_is_home_list an_is_home_list cd_is_home_list ct_is_home_list, f_Plan_init, PySem.W.fnOf "__init__" "Plan.__init__" (defArgs s_Plan_init) (defBody s_Plan_init) (defScope s_Plan_init) .none kV_Plan_init dc_Plan_init pm_Plan_init an_Plan_init cd_Plan_init ct_Plan_init, f_Plan_is_room, PySem.W.fnOf "is_room" "Plan.is_room" (defArgs s_Plan_is_room) (defBody s_Plan_is_room) (defScope s_Plan_is_room) .none kV_Plan_is_room dc_Plan_is_room pm_Plan_is_room an_Plan_is_room cd_Plan_is_room ct_Plan_is_room, f_Plan_home, PySem.W.fnOf "home" "Plan.home" (defArgs s_Plan_home) (defBody s_Plan_home) (defScope s_Plan_home) .none kV_Plan_home dc_Plan_home pm_Plan_home an_Plan_home cd_Plan_home ct_Plan_home, f_Plan_far, PySem.W.fnOf "far" "Plan.far" (defArgs s_Plan_far) (defBody s_Plan_far) (defScope s_Plan_far) .none kV_Plan_far dc_Plan_far pm_Plan_far an_Plan_far cd_Plan_far ct_Plan_far, f_Lbag, PySem.W.fnOf "_law_bag" "_law_bag" (defArgs s_Lbag) (defBody s_Lbag) (defScope s_Lbag) .none kV_Lbag dc_Lbag pm_Lbag an_Lbag cd_Lbag ct_Lbag, f_Ltake, PySem.W.fnOf "_law_take" "_law_take" (defArgs s_Ltake) (defBody s_Ltake) (defScope s_Ltake) .none kV_Ltake dc_Ltake pm_Ltake an_Ltake cd_Ltake ct_Ltake, f_Lcase, PySem.W.fnOf "_law_case" "_law_case" (defArgs s_Lcase) (defBody s_Lcase) (defScope s_Lcase) .none kV_Lcase dc_Lcase pm_Lcase an_Lcase cd_Lcase ct_Lcase, f_Lkey, PySem.W.fnOf "_law_key" "_law_key" (defArgs s_Lkey) (defBody s_Lkey) (defScope s_Lkey) .none kV_Lkey dc_Lkey pm_Lkey an_Lkey cd_Lkey ct_Lkey, f_Lkeys, PySem.W.fnOf "_law_keys" "_law_keys" (defArgs s_Lkeys) (defBody s_Lkeys) (defScope s_Lkeys) .none kV_Lkeys dc_Lkeys pm_Lkeys an_Lkeys cd_Lkeys ct_Lkeys, f_Lhome, PySem.W.fnOf "_law_home" "_law_home" (defArgs s_Lhome) (defBody s_Lhome) (defScope s_Lhome) .none kV_Lhome dc_Lhome pm_Lhome an_Lhome cd_Lhome ct_Lhome, f_Lfar, PySem.W.fnOf "_law_far" "_law_far" (defArgs s_Lfar) (defBody s_Lfar) (defScope s_Lfar) .none kV_Lfar dc_Lfar pm_Lfar an_Lfar cd_Lfar ct_Lfar, f_Lodd, PySem.W.fnOf "_law_odd" "_law_odd" (defArgs s_Lodd) (defBody s_Lodd) (defScope s_Lodd) .none kV_Lodd dc_Lodd pm_Lodd an_Lodd cd_Lodd ct_Lodd, f_Lwhole, PySem.W.fnOf "_law_whole" "_law_whole" (defArgs s_Lwhole) (defBody s_Lwhole) (defScope s_Lwhole) .none kV_Lwhole dc_Lwhole pm_Lwhole an_Lwhole cd_Lwhole ct_Lwhole, f_Lwrong, PySem.W.fnOf "_law_wrong" "_law_wrong" (defArgs s_Lwrong) (defBody s_Lwrong) (defScope s_Lwrong) .none kV_Lwrong dc_Lwrong pm_Lwrong an_Lwrong cd_Lwrong ct_Lwrong, f_Lbad, PySem.W.fnOf "_law_bad" "_law_bad" (defArgs s_Lbad) (defBody s_Lbad) (defScope s_Lbad) .none kV_Lbad dc_Lbad pm_Lbad an_Lbad cd_Lbad ct_Lbad, fa, PySem.W.fnOf "law" "law" (defArgs s_law) (defBody s_law) (defScope s_law) .none kV_law dc_law pm_law an_law cd_law ct_law, t_MOST_NUMBER, t_MOST_ROOMS, t_MOST_HOMES, C_Plan, C_HomeError, C_Wrong⟩ := ⟨D__wall, D_Wrong_init, D_is_whole, D_is_whole_within, D_is_number, D_are_parted, D_is_number_pair, D_is_home_list, D_Plan_init, D_Plan_is_room, D_Plan_home, D_Plan_far, D_Lbag, D_Ltake, D_Lcase, D_Lkey, D_Lkeys, D_Lhome, D_Lfar, D_Lodd, D_Lwhole, D_Lwrong, D_Lbad, D_law, PySem.W.mg_of X G c_MOST_NUMBER, PySem.W.mg_of X G c_MOST_ROOMS, PySem.W.mg_of X G c_MOST_HOMES, PySem.W.mg_none_of X G z_abs, PySem.W.mg_none_of X G z_all, PySem.W.mg_none_of X G z_bool, PySem.W.mg_none_of X G z_dict, PySem.W.mg_none_of X G z_int, PySem.W.mg_none_of X G z_isinstance, PySem.W.mg_none_of X G z_len, PySem.W.mg_none_of X G z_list, PySem.W.mg_none_of X G z_range, PySem.W.mg_none_of X G z_set, PySem.W.mg_none_of X G z_tuple, ⟨⟨pg_Plan, hd_Plan, po_Plan, sa_Plan⟩, PySem.W.mg_of X G a_Plan⟩, ⟨mk_Plan, a_Plan_init, i_Plan_init, kc_Plan⟩, n_Plan_rooms, n_Plan_wraps, n_Plan_homes, n_Plan_home_numbers, PySem.W.mg_of X G a_HomeError, ⟨x1_HomeError, x2_HomeError, x3_HomeError, x4_HomeError, x5_HomeError, x6_HomeError, x7_HomeError, x8_HomeError, x9_HomeError⟩, xv_HomeError, r_HomeError_HomeError, r_HomeError_Wrong, PySem.W.mg_of X G a_Wrong, ⟨x1_Wrong, x2_Wrong, x3_Wrong, x4_Wrong, x5_Wrong, x6_Wrong, x7_Wrong, x8_Wrong, x9_Wrong⟩, xv_Wrong, ⟨⟨x1_Wrong, x2_Wrong, x3_Wrong, x4_Wrong, x5_Wrong, x6_Wrong, x7_Wrong, x8_Wrong, x9_Wrong⟩, xm_Wrong, a_Wrong_init, i_Wrong_init, xk_Wrong⟩, n_Wrong_at, r_Wrong_HomeError, r_Wrong_Wrong⟩
  exact ⟨PySem.W.fnOf "law" "law" (defArgs s_law) (defBody s_law) (defScope s_law) .none kV_law dc_law pm_law an_law cd_law ct_law, fun s v => .of_eq rfl, fun base _ _ => ok_law T⟩
theorem walk {l : PySem.W.OpenLaw} {q : Program} {loose : List Str} {XP : (Str → Option Value) → Heap → Prop} {YP : World → Heap → Prop} {d : DefRec} {K : Params → PySem.W.Frag} (hn : l.most = some 63) (hdf : d.params.defaults = [])
    (hY : ∀ (w : World) (h : Heap), YP w h → (K w.params).In h)
    (F : ∀ (w : World) (mg : Str → Option Value) (fa : Addr) (h : Heap), (K w.params).In h → h.Ns mainGlobals mg → mg d.name = some (.ref fa) →
      ∃ fd : FuncData, (∀ (s : Shared) (u : Value), BindsTo s fd ⟨[u], []⟩ [("_law_script", u)]) ∧ ∀ base : Heap, (K w.params).In base → base.Ns mainGlobals mg → FnOk l.prog w (K w.params) mg base CX0 8 fa fd ["_law_script"] (spLaw (K w.params))) :
    PySem.W.WalkO q loose XP YP l.row.toRowW d [] (fun f vs => PySem.call f vs) :=
  L2.walk_of (n := 63) (k := 8) (x := "_law_script") (CX := fun _ => CX0) (sp := fun w => spLaw (K w.params)) hn (by decide) hdf ⟨rfl, by decide, by decide⟩ hY F (fun _ _ a ns hl _ hS => ⟨a, ns, rfl, hS, hl, fun _ => rfl⟩) fun _ _ _ _ _ z => z
end My
open PySem PySem.W PyProof.Rows
set_option maxRecDepth 100000 in
set_option maxHeartbeats 0 in
theorem PySem.Challenge.cw_homeward_k13_homes_and_fars_holds : PySem.Challenge.rw_homeward_k13_homes_and_fars.Holds := by
  w_on; o_law; k_head; (case hw => w_witness2)
  k_fill
  refine My.walk (l := PySem.Challenge.rw_homeward_k13_homes_and_fars) rfl rfl (fun w h Y => PySem.W.kIn_of Y) ?F
  case F =>
    intro w mg fa h KX G hmg
    refine' My.all_mk KX G hmg ?a_Plan ?pg_Plan ?hd_Plan ?po_Plan ?sa_Plan ?mk_Plan ?kc_Plan ?n_Plan_rooms ?n_Plan_wraps ?n_Plan_homes ?n_Plan_home_numbers ?a_HomeError ?a_Wrong ?x1_HomeError ?x2_HomeError ?x3_HomeError ?x4_HomeError ?x5_HomeError ?x6_HomeError ?x7_HomeError ?x8_HomeError ?x9_HomeError ?xv_HomeError ?r_HomeError_HomeError ?r_HomeError_Wrong ?x1_Wrong ?x2_Wrong ?x3_Wrong ?x4_Wrong ?x5_Wrong ?x6_Wrong ?x7_Wrong ?x8_Wrong ?x9_Wrong ?xv_Wrong ?xm_Wrong ?xk_Wrong ?n_Wrong_at ?r_Wrong_HomeError ?r_Wrong_Wrong ?a__wall ?l__wall ?e__wall ?k__wall ?a_Wrong_init ?i_Wrong_init ?l_Wrong_init ?e_Wrong_init ?k_Wrong_init ?a_is_whole ?l_is_whole ?e_is_whole ?k_is_whole ?a_is_whole_within ?l_is_whole_within ?e_is_whole_within ?k_is_whole_within ?a_is_number ?l_is_number ?e_is_number ?k_is_number ?a_are_parted ?l_are_parted ?e_are_parted ?k_are_parted ?a_is_number_pair ?l_is_number_pair ?e_is_number_pair ?k_is_number_pair ?a_is_home_list ?l_is_home_list ?e_is_home_list ?k_is_home_list ?a_Plan_init ?i_Plan_init ?l_Plan_init ?e_Plan_init ?k_Plan_init ?a_Plan_is_room ?i_Plan_is_room ?l_Plan_is_room ?e_Plan_is_room ?k_Plan_is_room ?a_Plan_home ?i_Plan_home ?l_Plan_home ?e_Plan_home ?k_Plan_home ?a_Plan_far ?i_Plan_far ?l_Plan_far ?e_Plan_far ?k_Plan_far ?a_Lbag ?l_Lbag ?e_Lbag ?k_Lbag ?a_Ltake ?l_Ltake ?e_Ltake ?k_Ltake ?a_Lcase ?l_Lcase ?e_Lcase ?k_Lcase ?a_Lkey ?l_Lkey ?e_Lkey ?k_Lkey ?a_Lkeys ?l_Lkeys ?e_Lkeys ?k_Lkeys ?a_Lhome ?l_Lhome ?e_Lhome ?k_Lhome ?a_Lfar ?l_Lfar ?e_Lfar ?k_Lfar ?a_Lodd ?l_Lodd ?e_Lodd ?k_Lodd ?a_Lwhole ?l_Lwhole ?e_Lwhole ?k_Lwhole ?a_Lwrong ?l_Lwrong ?e_Lwrong ?k_Lwrong ?a_Lbad ?l_Lbad ?e_Lbad ?k_Lbad ?a_law ?l_law ?e_law ?k_law ?c_MOST_NUMBER ?c_MOST_ROOMS ?c_MOST_HOMES ?z_abs ?z_all ?z_bool ?z_dict ?z_int ?z_isinstance ?z_len ?z_list ?z_range ?z_set ?z_tuple
    (case a_Plan => k_is)
    (case pg_Plan => k_is)
    (case hd_Plan => k_is)
    (case po_Plan => k_is)
    (case sa_Plan => k_is)
    (case mk_Plan => k_is)
    (case kc_Plan => k_is)
    (case n_Plan_rooms => k_is)
    (case n_Plan_wraps => k_is)
    (case n_Plan_homes => k_is)
    (case n_Plan_home_numbers => k_is)
    (case a_HomeError => k_is)
    (case a_Wrong => k_is)
    (case x1_HomeError => first | k_is | kernel_rfl | rfl)
    (case x2_HomeError => first | k_is | kernel_rfl | rfl)
    (case x3_HomeError => first | k_is | kernel_rfl | rfl)
    (case x4_HomeError => first | k_is | kernel_rfl | rfl)
    (case x5_HomeError => first | k_is | kernel_rfl | rfl)
    (case x6_HomeError => first | k_is | kernel_rfl | rfl)
    (case x7_HomeError => first | k_is | kernel_rfl | rfl)
    (case x8_HomeError => first | k_is | kernel_rfl | rfl)
    (case x9_HomeError => first | k_is | kernel_rfl | rfl)
    (case xv_HomeError => first | k_is | kernel_rfl | rfl)
    (case r_HomeError_HomeError => first | k_is | kernel_rfl | rfl)
    (case r_HomeError_Wrong => first | k_is | kernel_rfl | rfl)
    (case x1_Wrong => first | k_is | kernel_rfl | rfl)
    (case x2_Wrong => first | k_is | kernel_rfl | rfl)
    (case x3_Wrong => first | k_is | kernel_rfl | rfl)
    (case x4_Wrong => first | k_is | kernel_rfl | rfl)
    (case x5_Wrong => first | k_is | kernel_rfl | rfl)
    (case x6_Wrong => first | k_is | kernel_rfl | rfl)
    (case x7_Wrong => first | k_is | kernel_rfl | rfl)
    (case x8_Wrong => first | k_is | kernel_rfl | rfl)
    (case x9_Wrong => first | k_is | kernel_rfl | rfl)
    (case xv_Wrong => first | k_is | kernel_rfl | rfl)
    (case xm_Wrong => first | k_is | kernel_rfl | rfl)
    (case xk_Wrong => first | k_is | kernel_rfl | rfl)
    (case n_Wrong_at => k_is)
    (case r_Wrong_HomeError => first | k_is | kernel_rfl | rfl)
    (case r_Wrong_Wrong => first | k_is | kernel_rfl | rfl)
    (case a__wall => k_is)
    (case l__wall => k_is)
    (case e__wall => k_is)
    (case k__wall => k_is)
    (case a_Wrong_init => k_is)
    (case i_Wrong_init => k_is)
    (case l_Wrong_init => k_is)
    (case e_Wrong_init => k_is)
    (case k_Wrong_init => k_is)
    (case a_is_whole => k_is)
    (case l_is_whole => k_is)
    (case e_is_whole => k_is)
    (case k_is_whole => k_is)
    (case a_is_whole_within => k_is)
    (case l_is_whole_within => k_is)
    (case e_is_whole_within => k_is)
    (case k_is_whole_within => k_is)
    (case a_is_number => k_is)
    (case l_is_number => k_is)
    (case e_is_number => k_is)
    (case k_is_number => k_is)
    (case a_are_parted => k_is)
    (case l_are_parted => k_is)
    (case e_are_parted => k_is)
    (case k_are_parted => k_is)
    (case a_is_number_pair => k_is)
    (case l_is_number_pair => k_is)
    (case e_is_number_pair => k_is)
    (case k_is_number_pair => k_is)
    (case a_is_home_list => k_is)
    (case l_is_home_list => k_is)
    (case e_is_home_list => k_is)
    (case k_is_home_list => k_is)
    (case a_Plan_init => k_is)
    (case i_Plan_init => k_is)
    (case l_Plan_init => k_is)
    (case e_Plan_init => k_is)
    (case k_Plan_init => k_is)
    (case a_Plan_is_room => k_is)
    (case i_Plan_is_room => k_is)
    (case l_Plan_is_room => k_is)
    (case e_Plan_is_room => k_is)
    (case k_Plan_is_room => k_is)
    (case a_Plan_home => k_is)
    (case i_Plan_home => k_is)
    (case l_Plan_home => k_is)
    (case e_Plan_home => k_is)
    (case k_Plan_home => k_is)
    (case a_Plan_far => k_is)
    (case i_Plan_far => k_is)
    (case l_Plan_far => k_is)
    (case e_Plan_far => k_is)
    (case k_Plan_far => k_is)
    (case a_Lbag => k_is)
    (case l_Lbag => k_is)
    (case e_Lbag => k_is)
    (case k_Lbag => k_is)
    (case a_Ltake => k_is)
    (case l_Ltake => k_is)
    (case e_Ltake => k_is)
    (case k_Ltake => k_is)
    (case a_Lcase => k_is)
    (case l_Lcase => k_is)
    (case e_Lcase => k_is)
    (case k_Lcase => k_is)
    (case a_Lkey => k_is)
    (case l_Lkey => k_is)
    (case e_Lkey => k_is)
    (case k_Lkey => k_is)
    (case a_Lkeys => k_is)
    (case l_Lkeys => k_is)
    (case e_Lkeys => k_is)
    (case k_Lkeys => k_is)
    (case a_Lhome => k_is)
    (case l_Lhome => k_is)
    (case e_Lhome => k_is)
    (case k_Lhome => k_is)
    (case a_Lfar => k_is)
    (case l_Lfar => k_is)
    (case e_Lfar => k_is)
    (case k_Lfar => k_is)
    (case a_Lodd => k_is)
    (case l_Lodd => k_is)
    (case e_Lodd => k_is)
    (case k_Lodd => k_is)
    (case a_Lwhole => k_is)
    (case l_Lwhole => k_is)
    (case e_Lwhole => k_is)
    (case k_Lwhole => k_is)
    (case a_Lwrong => k_is)
    (case l_Lwrong => k_is)
    (case e_Lwrong => k_is)
    (case k_Lwrong => k_is)
    (case a_Lbad => k_is)
    (case l_Lbad => k_is)
    (case e_Lbad => k_is)
    (case k_Lbad => k_is)
    (case a_law => k_is)
    (case l_law => k_is)
    (case e_law => k_is)
    (case k_law => k_is)
    (case c_MOST_NUMBER => k_is)
    (case c_MOST_ROOMS => k_is)
    (case c_MOST_HOMES => k_is)
    (case z_abs => k_is)
    (case z_all => k_is)
    (case z_bool => k_is)
    (case z_dict => k_is)
    (case z_int => k_is)
    (case z_isinstance => k_is)
    (case z_len => k_is)
    (case z_list => k_is)
    (case z_range => k_is)
    (case z_set => k_is)
    (case z_tuple => k_is)
#print axioms PySem.Challenge.cw_homeward_k13_homes_and_fars_holds

