import PyProof.Rows.All
import Wide.All
import OpenK.AllK
import Wide.FinOn
import Lean
import PyProof.EqAt
import PyProof.EqKinds
import PyProof.TupleCall
import PyProof.NeKinds
import PyProof.ZipIter
import PyProof.ListNew
import PyProof.ListRange
import KE.KRevIter
import PySem.Challenge.RW_numberpile_k15_rows_by_dealt_slots
set_option Elab.async false
set_option linter.all false
set_option maxRecDepth 100000
/-! THE HAND LAYER, for ints, bools, texts, own classes, LISTS and tuples (index, slices, in, append, pop ..), calls, loops. Paste it whole ahead of your own text; what your proof does not reach may be deleted. -/
namespace L2
open PySem PySem.Spec PyProof.Rows

/-- a key: an int or a str -/
abbrev Key := Sum Int Str
def keyIs : Key → Value → Bool
  | .inl k, v => Value.isInt k v
  | .inr x, v => Value.isStrOf x v
def keyH (w : World) : Key → Int
  | .inl k => hashInt k
  | .inr x => hashStr w x
theorem keyIs_shape : ∀ {k : Key} {v : Value}, keyIs k v = true → (∃ i t, k = Sum.inl i ∧ v = Value.int i t) ∨ (∃ x t, k = Sum.inr x ∧ v = Value.str x t)
  | .inl i, v, h => by
    obtain ⟨t, e⟩ := Value.isInt_shape (k := i) (v := v) h
    exact .inl ⟨i, t, rfl, e⟩
  | .inr x, v, h => by
    obtain ⟨t, e⟩ := Value.isStrOf_shape (x := x) (v := v) h
    exact .inr ⟨x, t, rfl, e⟩
theorem key_ll (a b : Int) : decide ((Sum.inl a : Key) = Sum.inl b) = (a == b) := by
  by_cases e : a = b
  · subst e; simp
  · have h : ¬ (Sum.inl a : Key) = Sum.inl b := fun q => e (Sum.inl.inj q)
    rw [decide_eq_false h]
    exact (beq_eq_false_iff_ne.mpr e).symm
theorem key_rr (a b : Str) : decide ((Sum.inr a : Key) = Sum.inr b) = decide (a = b) := by
  by_cases e : a = b
  · subst e; simp
  · have h : ¬ (Sum.inr a : Key) = Sum.inr b := fun q => e (Sum.inr.inj q)
    rw [decide_eq_false h, decide_eq_false e]
theorem key_lr (a : Int) (b : Str) : decide ((Sum.inl a : Key) = Sum.inr b) = false := decide_eq_false (fun q => nomatch q)
theorem key_rl (a : Str) (b : Int) : decide ((Sum.inr a : Key) = Sum.inl b) = false := decide_eq_false (fun q => nomatch q)

def mixKind (prog : Program) (w : World) : PySem.KeyKind prog w Key where
  is := keyIs
  hash := keyH w
  inj := fun v a b ha hb => by
    rcases keyIs_shape ha with ⟨i, t, rfl, rfl⟩ | ⟨x, t, rfl, rfl⟩
    · rcases keyIs_shape hb with ⟨j, u, rfl, e⟩ | ⟨y, u, rfl, e⟩
      · injection e with e1 _; rw [e1]
      · exact nomatch e
    · rcases keyIs_shape hb with ⟨j, u, rfl, e⟩ | ⟨y, u, rfl, e⟩
      · exact nomatch e
      · injection e with e1 _; rw [e1]
  byValue := fun k v h => by
    rcases keyIs_shape h with ⟨i, t, rfl, rfl⟩ | ⟨x, t, rfl, rfl⟩ <;> rfl
  pyHash := fun hv h => by
    rcases keyIs_shape hv with ⟨i, t, rfl, rfl⟩ | ⟨x, t, rfl, rfl⟩
    · exact wpAny_pyHash_int h
    · exact wpAny_pyHash_str h
  eqBool := fun hu hv h => by
    rcases keyIs_shape hu with ⟨i, t, rfl, rfl⟩ | ⟨x, t, rfl, rfl⟩
    · rcases keyIs_shape hv with ⟨j, u, rfl, rfl⟩ | ⟨y, u, rfl, rfl⟩
      · rw [key_ll] at h; exact wpAny_eqBool_int h
      · rw [key_lr] at h; exact SeqAt.EqAt.int_str i t y u _ _ _ _ h
    · rcases keyIs_shape hv with ⟨j, u, rfl, rfl⟩ | ⟨y, u, rfl, rfl⟩
      · rw [key_rl] at h; exact SeqAt.EqAt.str_int x t j u _ _ _ _ h
      · rw [key_rr] at h; exact wpAny_eqBool_str h
  «strs» := fun k x t v h => by
    rcases keyIs_shape h with ⟨i, u, rfl, e⟩ | ⟨y, u, rfl, e⟩
    · exact nomatch e
    · injection e with e1 _
      subst e1
      cases v <;> rfl

end L2

namespace L2
open PySem PySem.Spec PyProof.Rows

/-- a value, without the heap -/
inductive V where
  | non | bl (b : Bool) | int (i : Int) | str (x : Str) | byt (b : Array UInt8) | flt (b : UInt64) | ref (a : Addr) | ty (n : String)
  deriving DecidableEq

def RelV : V → Value → Prop
  | .non, u => u = Value.none
  | .bl b, u => u = Value.bool b
  | .int i, u => ∃ t, u = Value.int i t
  | .str x, u => ∃ t, u = Value.str x t
  | .byt b, u => ∃ t, u = Value.bytes b t
  | .flt b, u => ∃ t, u = Value.float b t
  | .ref a, u => u = Value.ref a
  | .ty n, u => u = Value.type n

abbrev Vals : List V → List Value → Prop := Paired RelV
theorem Vals.length {xs : List V} {us : List Value} (r : Vals xs us) : xs.length = us.length := Paired.length r
theorem Vals.get : ∀ {xs : List V} {us : List Value} {i : Nat} {x : V}, Vals xs us → xs[i]? = some x → ∃ u, us[i]? = some u ∧ RelV x u
  | _, _, _, _, .nil, e => by simp at e
  | _, _, 0, _, .cons r _, e => by simp at e; subst e; exact ⟨_, rfl, r⟩
  | _, _, i + 1, x, .cons _ t, e => by
    obtain ⟨u, h1, h2⟩ := Vals.get (i := i) (x := x) t (by simpa using e)
    exact ⟨u, by simpa using h1, h2⟩
theorem Vals.set {x : V} {u : Value} (r : RelV x u) : ∀ {xs : List V} {us : List Value} (i : Nat), Vals xs us → Vals (xs.set i x) (us.set i u)
  | _, _, _, .nil => .nil
  | _, _, 0, .cons _ t => .cons r t
  | _, _, i + 1, .cons q t => .cons q (Vals.set r i t)
theorem Vals.append : ∀ {xs ys : List V} {us ws : List Value}, Vals xs us → Vals ys ws → Vals (xs ++ ys) (us ++ ws)
  | _, _, _, _, .nil, s => s
  | _, _, _, _, .cons r t, s => .cons r (Vals.append t s)
theorem Vals.take : ∀ {xs : List V} {us : List Value} (n : Nat), Vals xs us → Vals (xs.take n) (us.take n)
  | _, _, 0, _ => .nil
  | _, _, _ + 1, .nil => .nil
  | _, _, n + 1, .cons r t => .cons r (Vals.take n t)
theorem Vals.drop : ∀ {xs : List V} {us : List Value} (n : Nat), Vals xs us → Vals (xs.drop n) (us.drop n)
  | _, _, 0, r => r
  | _, _, _ + 1, .nil => .nil
  | _, _, n + 1, .cons _ t => Vals.drop n t
def RelO : Option V → Option Value → Prop
  | some v, some u => RelV v u
  | none, none => True
  | _, _ => False
def KV {κ : Type} : List (κ × V) → List (κ × Value) → Prop := Paired fun (p : κ × V) (q : κ × Value) => p.1 = q.1 ∧ RelV p.2 q.2

/-- a key of a dict (00_mix): an int or a text -/
def kV : Key → V
  | .inl i => .int i
  | .inr x => .str x

/-- what stands at a tracked address -/
inductive HO where
  /-- a list -/
  | lst (xs : List V)
  /-- a tuple (never changes) -/
  | tup (xs : List V)
  /-- a dict whose keys are ints and texts; one whose keys are tuples of ints and texts (the empty one is both) -/
  | dK (kvs : List (Key × V)) | dT (kvs : List (List Key × V))
  /-- a set of ints: its members, its size -/
  | set (S : Int → Bool) (n : Nat)
  /-- an instance of the class at C, its dict at dx, its attributes -/
  | ins (C dx : Addr) (fs : List (Str × V))
  /-- the dict of the instance at x -/
  | own (x : Addr)
  /-- the dict of an exception -/
  | xd (fs : List (Str × V))
  /-- a bound method, f of x -/
  | met (f x : Addr)
  /-- a range object lo, lo + 1, .. below hi -/
  | rng (lo hi : Int)
  /-- a thing that is known to the object (the script; a dict while a loop walks it): read, never written while it is so -/
  | frz (o : Obj) (u : HO)
  /-- a code object's table -/
  | tbl (ps : Array Value)
  /-- any other thing, by what is true of its one object (a def of one's own: SetO a S n := HO.ext fun h => ..) -/
  | ext (φ : Heap → Prop)

abbrev Hp := Addr → Option HO
def upd (H : Hp) (a : Addr) (o : HO) : Hp := fun b => if b = a then some o else H b
theorem upd_same {H : Hp} {a : Addr} {o : HO} : upd H a o a = some o := by unfold upd; rw [if_pos rfl]
theorem upd_ne {H : Hp} {a b : Addr} {o : HO} (h : b ≠ a) : upd H a o b = H b := by unfold upd; rw [if_neg h]
theorem upd_upd {H : Hp} {a : Addr} {o u : HO} : upd (upd H a o) a u = upd H a u := by
  funext b; unfold upd; split <;> rfl
/-- two objects of different content stand apart -/
theorem ne_of {H : Hp} {a b : Addr} {o u : HO} (h : H a = some o) (h' : H b = some u) (d : o ≠ u) : a ≠ b := by
  intro e; subst e; rw [h] at h'; exact d (Option.some.inj h')
theorem ne_of_none {H : Hp} {a b : Addr} {o : HO} (h : H a = some o) (h' : H b = none) : a ≠ b := by
  intro e; subst e; rw [h] at h'; cases h'

section
variable (P : Program) (w : World)
def ObjOk (H : Hp) (h : Heap) (a : Addr) : HO → Prop
  | .lst xs => xs.length ≤ sizeLine ∧ ∃ (its : List Value) (n : Nat), Vals xs its ∧ h.get? a = some { cls := .type "list", data := .seq its.toArray n }
  | .tup xs => xs.length ≤ sizeLine ∧ ∃ its : List Value, Vals xs its ∧ IsTup h a its.toArray
  | .dK kvs => kvs.length ≤ sizeLine ∧ (a == sysModules) = false ∧ ∃ vs, KV kvs vs ∧ h.DictOf (mixKind P w) a vs
  | .dT _ => False
  | .set S n => h.SetOf (intKind P w) a S n
  | .ins C dx fs => H dx = some (.own a) ∧ fs.length ≤ 1000 ∧ dx ≠ a ∧ h.get? a = some (PySem.W.instObj C dx) ∧
      ∃ mA, h.Ns1 dx mA ∧ (∀ f, RelO (fs.lookup f) (mA f)) ∧ PySem.Within mA (fs.map (·.1))
  | .own _ => ∃ o, h.get? a = some o
  | .xd fs => ∃ mA, h.Ns1 a mA ∧ ∀ f, RelO (fs.lookup f) (mA f)
  | .rng lo hi => ∃ t u v, h.get? a = some { cls := .type "range", data := .fields #[.int lo t, .int hi u, .int 1 v] }
  | .frz o u => h.get? a = some o ∧ ObjOk H h a u
  | .tbl ps => h.get? a = some { cls := .none, data := .fields ps }
  | .met f x => h.get? a = some (PySem.W.methodObj (.ref f) (.ref x))
  | .ext φ => φ h ∧ (∃ o, h.get? a = some o) ∧ ∀ h1 h2 : Heap, φ h1 → (∀ o, h1.get? a = some o → h2.get? a = some o) → φ h2
/-- the abstract heap is held -/
def HOk (H : Hp) (h : Heap) : Prop := ∀ a o, H a = some o → ObjOk P w H h a o
end

section
variable {P : Program} {w : World} {H H' : Hp} {h h' : Heap} {a : Addr} {o : HO}
theorem ObjOk.lt (x : ObjOk P w H h a o) : a < h.objs.size := by
  cases o with
  | lst xs => obtain ⟨_, _, _, _, e⟩ := x; exact Heap.lt_size e
  | tup xs => obtain ⟨_, _, _, p⟩ := x; exact p.lt
  | dK kvs => obtain ⟨_, _, _, _, o, _, _, e, _⟩ := x; exact Heap.lt_size e
  | dT kvs => exact (show False from x).elim
  | set S n => obtain ⟨o, _, _, _, e, _⟩ := x; exact Heap.lt_size e
  | ins C dx fs => obtain ⟨_, _, _, e, _⟩ := x; exact Heap.lt_size e
  | own y => obtain ⟨_, e⟩ := x; exact Heap.lt_size e
  | xd fs => obtain ⟨_, ⟨_, _, _, e, _⟩, _⟩ := x; exact Heap.lt_size e
  | rng lo hi => obtain ⟨_, _, _, e⟩ := x; exact Heap.lt_size e
  | frz ob u => obtain ⟨e, _⟩ := x; exact Heap.lt_size e
  | tbl ps => exact Heap.lt_size (show h.get? a = some _ from x)
  | met f y => exact Heap.lt_size (show h.get? a = some _ from x)
  | ext φ => obtain ⟨_, ⟨_, e⟩, _⟩ := x; exact Heap.lt_size e
/-- what an object's description leans on: its own object, its own dict, the tuples -/
theorem ObjOk.stay (x : ObjOk P w H h a o) (k : ∀ b u, (b = a ∨ H b = some (.own a)) → h.get? b = some u → h'.get? b = some u)
    (ho : ∀ b, H b = some (.own a) → H' b = some (.own a)) (ht : ∀ b xs, H b = some (.tup xs) → H' b = some (.tup xs)) : ObjOk P w H' h' a o := by
  induction o with
  | lst xs => obtain ⟨z, its, n, r, e⟩ := x; exact ⟨z, its, n, r, k _ _ (.inl rfl) e⟩
  | tup xs => obtain ⟨z, its, r, ob, e, c⟩ := x; exact ⟨z, its, r, ob, k _ _ (.inl rfl) e, c⟩
  | dK kvs => obtain ⟨z, y, vs, r, ob, es, ep, e, c⟩ := x; exact ⟨z, y, vs, r, ob, es, ep, k _ _ (.inl rfl) e, c⟩
  | dT kvs => exact (show False from x).elim
  | set S n => obtain ⟨ob, es, ep, t, e, c⟩ := x; exact ⟨ob, es, ep, t, k _ _ (.inl rfl) e, c⟩
  | ins C dx fs =>
    obtain ⟨d, z, ne, e, mA, ⟨od, es, ep, e2, c⟩, r⟩ := x
    exact ⟨ho _ d, z, ne, k _ _ (.inl rfl) e, mA, ⟨od, es, ep, k _ _ (.inr d) e2, c⟩, r⟩
  | own y => obtain ⟨ob, e⟩ := x; exact ⟨ob, k _ _ (.inl rfl) e⟩
  | xd fs => obtain ⟨mA, ⟨od, es, ep, e, c⟩, r⟩ := x; exact ⟨mA, ⟨od, es, ep, k _ _ (.inl rfl) e, c⟩, r⟩
  | rng lo hi => obtain ⟨t, u, v, e⟩ := x; exact ⟨t, u, v, k _ _ (.inl rfl) e⟩
  | frz ob u ih => obtain ⟨e, q⟩ := x; exact ⟨k _ _ (.inl rfl) e, ih q⟩
  | tbl ps =>
    have e : h.get? a = some { cls := .none, data := .fields ps } := x
    show h'.get? a = some { cls := .none, data := .fields ps }
    exact k a _ (.inl rfl) e
  | met f y =>
    have e : h.get? a = some (PySem.W.methodObj (.ref f) (.ref y)) := x
    show h'.get? a = some (PySem.W.methodObj (.ref f) (.ref y))
    exact k a _ (.inl rfl) e
  | ext φ => obtain ⟨p, ⟨o, e⟩, st⟩ := x; exact ⟨st _ _ p fun o q => k _ _ (.inl rfl) q, ⟨o, k _ _ (.inl rfl) e⟩, st⟩
theorem HOk.lt (x : HOk P w H h) (e : H a = some o) : a < h.objs.size := (x a o e).lt
theorem HOk.fresh (x : HOk P w H h) (e : h.objs.size ≤ a) : H a = none := by
  cases q : H a with
  | none => rfl
  | some u => exact absurd (Nat.lt_of_lt_of_le (x.lt q) e) (Nat.lt_irrefl _)
/-- every object of the heap is kept -/
theorem HOk.kept (x : HOk P w H h) (k : ∀ b u, h.get? b = some u → h'.get? b = some u) : HOk P w H h' := fun a o e =>
  (x a o e).stay (fun b u _ q => k b u q) (fun _ q => q) fun _ _ q => q
/-- a new object is laid and tracked -/
theorem HOk.laid (x : HOk P w H h) (k : ∀ b u, h.get? b = some u → h'.get? b = some u) (hp : h.objs.size ≤ a) (new : ObjOk P w (upd H a o) h' a o) : HOk P w (upd H a o) h' := fun b u e => by
  have hn := x.fresh hp
  by_cases hb : b = a
  · subst hb; rw [upd_same] at e; cases e; exact new
  · rw [upd_ne hb] at e
    exact (x b u e).stay (fun c v _ q => k c v q) (fun c q => by rw [upd_ne (ne_of_none q hn)]; exact q) fun c xs q => by rw [upd_ne (ne_of_none q hn)]; exact q
end

/-- what may be read as u: it is u, or a known u -/
def Rd (H : Hp) (a : Addr) (u : HO) : Prop := H a = some u ∨ ∃ o, H a = some (.frz o u)
theorem Rd.ok {P : Program} {w : World} {H : Hp} {h : Heap} {a : Addr} {u : HO} (r : Rd H a u) (x : HOk P w H h) : ObjOk P w H h a u := by
  rcases r with r | ⟨o, r⟩
  · exact x a u r
  · obtain ⟨_, q⟩ := x a _ r
    exact q
/-- what may be written -/
def Mut : Option HO → Prop
  | some (.lst _) => True
  | some (.dK _) => True
  | some (.dT _) => True
  | some (.set _ _) => True
  | some (.ins _ _ _) => True
  | some (.ext _) => True
  | _ => False
section
variable {P : Program} {w : World} {H : Hp} {h h' : Heap} {x e : Addr} {o' : HO}
/-- the object at e is changed: x itself, or the dict of the instance x -/
theorem HOk.write (ok : HOk P w H h) (mu : Mut (H x)) (he : e = x ∨ H e = some (.own x)) (k : ∀ b u, b ≠ e → h.get? b = some u → h'.get? b = some u) (heo : ∃ u, h'.get? e = some u)
    (new : ObjOk P w (upd H x o') h' x o') : HOk P w (upd H x o') h' := fun b u q => by
  have nown : ∀ c y, H c = some (.own y) → c ≠ x := fun c y r z => by subst z; rw [r] at mu; exact mu
  have ntup : ∀ c xs, H c = some (.tup xs) → c ≠ x := fun c xs r z => by subst z; rw [r] at mu; exact mu
  by_cases hb : b = x
  · subst hb; rw [upd_same] at q; cases q; exact new
  · rw [upd_ne hb] at q
    by_cases hbe : b = e
    · have q' : H b = some (.own x) := by
        rcases he with z | z
        · exact absurd (hbe.trans z) hb
        · rw [hbe]; exact z
      rw [q] at q'; cases q'
      obtain ⟨v, hv⟩ := heo
      exact ⟨v, by rw [hbe]; exact hv⟩
    · refine (ok b u q).stay (fun c v hc r => k c v ?_ r) (fun c r => by rw [upd_ne (nown c b r)]; exact r) fun c xs r => by rw [upd_ne (ntup c xs r)]; exact r
      rcases hc with rfl | hc
      · exact hbe
      · rintro rfl
        rcases he with z | z
        · exact nown c b hc z
        · rw [hc] at z; cases z; exact hb rfl
end

/-! ### kept unless tracked; of the frames at fs (the callers') the slots may change (an exception that passes writes there); of the records at ex (iterators) nothing is said -/
structure Un (fs ex : List Addr) (H H' : Hp) (h h' : Heap) : Prop where
  keep : ∀ b o, h.get? b = some o → H b = none → b ∉ fs → b ∉ ex → h'.get? b = some o
  slot : ∀ b o, h.get? b = some o → H b = none → b ∈ fs → b ∉ ex → ∃ sl, h'.get? b = some { o with slots := sl }
  free : ∀ b o, h.get? b = some o → H b = none → b ∉ ex → H' b = none
  there : ∀ b o, h.get? b = some o → b ∉ ex → ∃ o', h'.get? b = some o'
  tups : ∀ b xs, H b = some (.tup xs) → H' b = some (.tup xs)
  frzs : ∀ b o u, H b = some (.frz o u) → H' b = some (.frz o u)
  tbls : ∀ b ps, H b = some (.tbl ps) → ∃ more, H' b = some (.tbl (ps ++ more))
section
variable {fs fs' ex ex' : List Addr} {H H1 H2 : Hp} {h h1 h2 h' : Heap} {a x e : Addr} {o : HO}
theorem Un.any (u : Un fs ex H H1 h h1) {b : Addr} {ob : Obj} (q : h.get? b = some ob) (n : H b = none) (hx : b ∉ ex) : ∃ sl, h1.get? b = some { ob with slots := sl } := by
  by_cases hb : b ∈ fs
  · exact u.slot b ob q n hb hx
  · exact ⟨ob.slots, u.keep b ob q n hb hx⟩
theorem Un.kept (k : ∀ b u, h.get? b = some u → h'.get? b = some u) : Un fs ex H H h h' :=
  ⟨fun b ob q _ _ _ => k b ob q, fun b ob q _ _ _ => ⟨ob.slots, k b ob q⟩, fun _ _ _ n _ => n, fun b ob q _ => ⟨ob, k b ob q⟩, fun _ _ q => q, fun _ _ _ q => q, fun _ ps q => ⟨#[], by rw [q]; simp⟩⟩
theorem Un.refl : Un fs ex H H h h := Un.kept fun _ _ q => q
theorem Un.laid (k : ∀ b u, h.get? b = some u → h'.get? b = some u) (hp : h.objs.size ≤ a) (hn : H a = none) : Un fs ex H (upd H a o) h h' where
  keep := fun b u q _ _ _ => k b u q
  slot := fun b u q _ _ _ => ⟨u.slots, k b u q⟩
  free := fun b u q n _ => by rw [upd_ne (Nat.ne_of_lt (Nat.lt_of_lt_of_le (Heap.lt_size q) hp))]; exact n
  there := fun b u q _ => ⟨u, k b u q⟩
  tups := fun b xs q => by rw [upd_ne (ne_of_none q hn)]; exact q
  frzs := fun b u xs q => by rw [upd_ne (ne_of_none q hn)]; exact q
  tbls := fun b ps q => ⟨#[], by rw [upd_ne (ne_of_none q hn), q]; simp⟩
theorem Un.write (mu : Mut (H x)) (he : e = x ∨ H e = some (.own x)) (k : ∀ b u, b ≠ e → h.get? b = some u → h'.get? b = some u) (heo : ∃ u, h'.get? e = some u) : Un fs ex H (upd H x o) h h' := by
  have hx : ∀ b, H b = none → b ≠ x := fun b n z => by subst z; rw [n] at mu; exact mu
  have hb : ∀ b, H b = none → b ≠ e := fun b n z => by
    subst z
    rcases he with r | r
    · exact hx b n r
    · rw [n] at r; cases r
  have hm : ∀ b u, H b = some u → ¬ Mut (some u) → b ≠ x := fun b u q nm z => by subst z; rw [q] at mu; exact nm mu
  refine ⟨fun b u q n _ _ => k b u (hb b n) q, fun b u q n _ _ => ⟨u.slots, k b u (hb b n) q⟩, fun b u q n _ => by rw [upd_ne (hx b n)]; exact n, fun b u q _ => ?_,
    fun b xs q => by rw [upd_ne (hm b _ q fun z => z)]; exact q, fun b u xs q => by rw [upd_ne (hm b _ q fun z => z)]; exact q, fun b ps q => ⟨#[], by rw [upd_ne (hm b _ q fun z => z), q]; simp⟩⟩
  by_cases hbe : b = e
  · subst hbe; exact heo
  · exact ⟨u, k b u hbe q⟩
end

/-! ### the heap without what is tracked -/
def trk (h : Heap) (H : Hp) : List Addr := (List.range h.objs.size).filter fun a => (H a).isSome
def hidT (h : Heap) (H : Hp) : Heap := PySem.W.hideAll h (trk h H)
theorem hidT_size (h : Heap) (H : Hp) : (hidT h H).objs.size = h.objs.size := PySem.W.hideAll_size _ _
theorem hidT_get {h : Heap} {H : Hp} {b : Addr} {o : Obj} (e : h.get? b = some o) (n : H b = none) : (hidT h H).get? b = some o :=
  PySem.W.hideAll_get _ e fun hm => by
    have q : (H b).isSome = true := (List.mem_filter.mp hm).2
    rw [n] at q; simp at q
theorem of_hidT {h : Heap} {H : Hp} {b : Addr} {o : Obj} (e : (hidT h H).get? b = some o) : h.get? b = some o ∧ H b = none := by
  have e' : h.get? b = some o := PySem.W.of_hideAll (trk h H) e
  refine ⟨e', ?_⟩
  cases q : H b with
  | none => rfl
  | some x =>
    have hm : b ∈ trk h H := List.mem_filter.mpr ⟨List.mem_range.mpr (Heap.lt_size e'), by simp [q]⟩
    have z : (hidT h H).get? b = none := PySem.W.hideAll_none (trk h H) hm
    rw [z] at e; cases e

/-! ### OpenK's ledger, filled with every new object but one -/
def allNews (g h : Heap) (L : Addr) : List (Addr × Obj) := (List.range h.objs.size).filterMap fun a => if a = L ∨ (g.get? a).isSome = true then none else (h.get? a).map fun o => (a, o)
def rest (g h : Heap) (L d : Addr) : List (Addr × Obj) := (allNews g h L).filter fun p => decide (p.1 ≠ d)
end L2

namespace L2
open PySem PySem.Spec PyProof.Rows

/-- the module's facts, over the base: the heap at the law's entry without what is tracked there -/
structure Mod (K : PySem.W.Frag) (mg : Str → Option Value) (base : Heap) : Prop where
  kin : K.In base
  glob : base.Ns mainGlobals mg
  blt : ∃ mb, base.Ns builtinsNs mb ∧ ∀ x : Str, x ≠ "__name__" → mb x = bootBuiltins x
  nolimit : base.NoLimit

/-- the context: a def's body (or a comprehension's block) running. base: fixed through the whole law; s₀, H₀: the entry; outer: the frames whose slots others may change (a def's callers); stack: all frames that run;
   ex: iterators that were made ahead of the entry and are walked here (a comprehension's); fn: the names whose cells were made at the entry (a def: all; a comprehension's block: its own); calm: not within an except suite; pn: pins that every state bears; xe: what is wanted of an exception that leaves the code -/
structure Cx where
  prog : Program
  w : World
  K : PySem.W.Frag
  mg : Str → Option Value
  base : Heap
  A : Around
  N : List Str
  s₀ : Shared
  H₀ : Hp
  env : Env
  outer : List Env
  stack : List Env
  ex : List Addr
  fn : Str → Bool
  calm : Bool
  pn : List (Addr × Obj)
  xe : Value → Shared → Prop
/-- the callers' frames -/
def frs (l : List Env) : List Addr := l.filterMap (·.frame)
abbrev Cx.fs (X : Cx) : List Addr := frs X.outer

def Vis (sc : Scope) (x : Str) : Prop := sc.names.lookup x = some .local ∨ sc.names.lookup x = some .cell ∨ sc.names.lookup x = some .free
def Loc (sc : Scope) (x : Str) : Prop := sc.names.lookup x = some .local ∨ sc.names.lookup x = some .cell
def Look (env : Env) (h : Heap) (m : Str → Option Value) (x : Str) (u : Value) : Prop :=
  (env.kindOf x = some .local ∧ m x = some u) ∨ ((env.kindOf x = some .cell ∨ env.kindOf x = some .free) ∧ ∃ c, env.cells.lookup x = some c ∧ h.IsCell c (some u))

structure Cx.Ok (X : Cx) : Prop where
  mod : Mod X.K X.mg X.base
  kind : X.env.scope.kind = .function
  glob : X.env.globals = mainGlobals
  blt : X.env.builtins = builtinsNs
  above : X.s₀.heap.objs.size ≤ X.env.locals
  inj : ∀ x y c, X.env.cells.lookup x = some c → X.env.cells.lookup y = some c → x = y
  has : ∀ x, (X.env.kindOf x = some .cell ∨ X.env.kindOf x = some .free) → ∃ c, X.env.cells.lookup x = some c
  cab : ∀ x c, X.fn x = true → X.env.cells.lookup x = some c → X.s₀.heap.objs.size ≤ c
  hd : X.calm = true → X.A.handled = none
  frames : X.A.frames = some X.stack
  stk : X.stack = X.outer ∨ (X.stack = X.env :: X.outer ∧ X.env.frame = some X.env.locals)
  exf : ∀ b ∈ X.ex, b ≠ X.env.locals ∧ ∀ x c, X.env.cells.lookup x = some c → c ≠ b
  bs : ∀ b o, X.base.get? b = some o → X.s₀.heap.get? b = some o ∧ X.H₀ b = none
  bsz : X.base.objs.size ≤ X.s₀.heap.objs.size
  noex : ∀ b o, X.base.get? b = some o → b ∉ X.ex
  exfs : ∀ b ∈ X.ex, b ∉ X.fs
  funs : X.s₀.heap.FunFrames X.base X.outer
  frf : ∀ b ∈ X.fs, X.H₀ b = none

structure Inv (X : Cx) (pins : List (Addr × Obj)) (σ : List (Option V)) (H : Hp) (s : Shared) : Prop where
  ok : X.Ok
  os : s.os = X.s₀.os
  bare : AllBare s.gens
  base : Un X.fs X.ex X.H₀ H X.s₀.heap s.heap
  loc : ∃ m, s.heap.Ns X.env.locals m ∧ ∀ (i : Nat) (x : Str) (v : V), X.N[i]? = some x → σ[i]? = some (some v) → Vis X.env.scope x → ∃ u, RelV v u ∧ Look X.env s.heap m x u
  cell : ∀ x c, X.env.cells.lookup x = some c → ∃ v, s.heap.IsCell c v
  free : H X.env.locals = none
  freeC : ∀ x c, X.env.cells.lookup x = some c → H c = none
  pin : ∀ p ∈ X.pn ++ pins, s.heap.get? p.1 = some p.2 ∧ H p.1 = none ∧ p.1 ≠ X.env.locals ∧ p.1 ∉ X.fs ∧ ∀ v, p.2.data ≠ .cell v
  hok : HOk X.prog X.w H s.heap
  len : σ.length = X.N.length

section
variable {X : Cx} {pins : List (Addr × Obj)} {σ : List (Option V)} {H H' : Hp} {s : Shared} {h' : Heap}

theorem Cx.Ok.nofr (ok : X.Ok) {b : Addr} {o : Obj} (e : X.base.get? b = some o) : b ∉ X.fs := fun hb => by
  have := (ok.funs.mem hb).1
  rw [e] at this; cases this
theorem Inv.bs (I : Inv X pins σ H s) : ∀ b o, X.base.get? b = some o → s.heap.get? b = some o ∧ H b = none := fun b o e =>
  ⟨I.base.keep b o (I.ok.bs b o e).1 (I.ok.bs b o e).2 (I.ok.nofr e) (I.ok.noex b o e), I.base.free b o (I.ok.bs b o e).1 (I.ok.bs b o e).2 (I.ok.noex b o e)⟩
theorem Inv.bk (I : Inv X pins σ H s) : ∀ b o, X.base.get? b = some o → s.heap.get? b = some o := fun b o e => (I.bs b o e).1
theorem Inv.mod (I : Inv X pins σ H s) : Mod X.K X.mg X.base := I.ok.mod
theorem Inv.kIn (I : Inv X pins σ H s) : X.K.In s.heap := I.ok.mod.kin.keeps I.bk
theorem Inv.lt (I : Inv X pins σ H s) : X.env.locals < s.heap.objs.size := let ⟨_, hn, _⟩ := I.loc; hn.lt
theorem Inv.sz (I : Inv X pins σ H s) : X.s₀.heap.objs.size ≤ s.heap.objs.size := Nat.le_trans I.ok.above (Nat.le_of_lt I.lt)
theorem Inv.nofs (I : Inv X pins σ H s) {a : Addr} (h : s.heap.objs.size ≤ a) : a ∉ X.fs := fun hb => by
  obtain ⟨_, o, ho, _⟩ := I.ok.funs.mem hb
  exact absurd (Nat.lt_of_lt_of_le (Heap.lt_size ho) (Nat.le_trans I.sz h)) (Nat.lt_irrefl _)
theorem Inv.cne (I : Inv X pins σ H s) : ∀ x c, X.env.cells.lookup x = some c → c ≠ X.env.locals := fun x c e z => by
  obtain ⟨v, o, ho, hd⟩ := I.cell x c e
  obtain ⟨m, ⟨o', es, ep, ho', hd', _⟩, _⟩ := I.loc
  rw [z, ho'] at ho; cases ho; rw [hd'] at hd; cases hd
theorem Inv.funs (I : Inv X pins σ H s) : s.heap.FunFrames X.base X.outer := by
  have all : ∀ (l : List Env), (∀ b ∈ frs l, b ∈ X.fs) → X.s₀.heap.FunFrames X.base l → s.heap.FunFrames X.base l := by
    intro l
    induction l with
    | nil => intro _ _; trivial
    | cons env r ih =>
      intro hs hl
      obtain ⟨hk, ⟨L, o, hf, hn, ho, hd⟩, hr⟩ := hl
      have hL : L ∈ X.fs := hs L (by unfold frs; rw [List.filterMap_cons, hf]; exact List.mem_cons_self)
      obtain ⟨sl, e⟩ := I.base.slot L o ho (I.ok.frf L hL) hL fun z => I.ok.exfs L z hL
      exact ⟨hk, ⟨L, _, hf, hn, e, hd⟩, ih (fun b hb => hs b (by unfold frs; rw [List.filterMap_cons, hf]; exact List.mem_cons_of_mem _ hb)) hr⟩
  exact all X.outer (fun _ hb => hb) I.ok.funs

/-- the frames that run, for a call -/
theorem Inv.stack (I : Inv X pins σ H s) : s.heap.FunFrames X.base X.stack := by
  rcases I.ok.stk with e | ⟨e, hf⟩
  · rw [e]; exact I.funs
  · rw [e]
    obtain ⟨m, hn, _⟩ := I.loc
    refine .cons (by rw [I.ok.kind]; decide) hf hn ?_ I.funs
    exact Heap.get?_none_of_le (Nat.le_trans I.ok.bsz I.ok.above)
theorem Inv.stkSub (I : Inv X pins σ H s) : ∀ b ∈ frs X.stack, b ∈ X.env.locals :: X.fs := fun b hb => by
  rcases I.ok.stk with e | ⟨e, hf⟩
  · rw [e] at hb; exact List.mem_cons_of_mem _ hb
  · rw [e] at hb
    unfold frs at hb
    rw [List.filterMap_cons, hf] at hb
    exact hb
theorem Inv.stkFree (I : Inv X pins σ H s) : ∀ b ∈ frs X.stack, H b = none := fun b hb => by
  rcases List.mem_cons.mp (I.stkSub b hb) with e | hb
  · rw [e]; exact I.free
  · obtain ⟨_, o, ho, _⟩ := I.ok.funs.mem hb
    exact I.base.free b o ho (I.ok.frf b hb) fun z => I.ok.exfs b z hb

/-- THE STEP: the untracked objects but the frame and the records at ch are kept (the callers' frames up to slots), the frame's map is kept, the new abstract heap is held -/
theorem Inv.step {g' : Array GenState} {t' : Nat} {d' : Drawn} {ch : List Addr} (I : Inv X pins σ H s)
    (hch : ∀ b ∈ ch, (b ∈ X.ex ∨ X.s₀.heap.objs.size ≤ b) ∧ b ≠ X.env.locals ∧ (∀ x c, X.env.cells.lookup x = some c → c ≠ b) ∧ ∀ p ∈ X.pn ++ pins, p.1 ≠ b)
    (keep : ∀ b o, b ≠ X.env.locals → b ∉ X.fs → b ∉ ch → s.heap.get? b = some o → H b = none → h'.get? b = some o)
    (slot : ∀ b o, b ≠ X.env.locals → b ∈ X.fs → b ∉ ch → s.heap.get? b = some o → H b = none → ∃ sl, h'.get? b = some { o with slots := sl }) (free : ∀ b o, b ∉ ch → s.heap.get? b = some o → H b = none → H' b = none)
    (there : ∀ b o, b ∉ ch → s.heap.get? b = some o → ∃ o', h'.get? b = some o')
    (tups : ∀ b xs, H b = some (.tup xs) → H' b = some (.tup xs)) (frzs : ∀ b o u, H b = some (.frz o u) → H' b = some (.frz o u)) (tbls : ∀ b ps, H b = some (.tbl ps) → ∃ more, H' b = some (.tbl (ps ++ more)))
    (ns : ∀ m, s.heap.Ns X.env.locals m → h'.Ns X.env.locals m) (hok : HOk X.prog X.w H' h') (hg : AllBare g') :
    Inv X pins σ H' { s with heap := h', gens := g', drawn := d', toks := t' } := by
  have neL : ∀ b o, X.s₀.heap.get? b = some o → b ≠ X.env.locals := fun b o e => Nat.ne_of_lt (Nat.lt_of_lt_of_le (Heap.lt_size e) I.ok.above)
  have neC : ∀ b o, X.s₀.heap.get? b = some o → b ∉ X.ex → b ∉ ch := fun b o e hx hb => by
    rcases (hch b hb).1 with z | z
    · exact hx z
    · exact absurd (Nat.lt_of_lt_of_le (Heap.lt_size e) z) (Nat.lt_irrefl _)
  have cellK : ∀ x c, X.env.cells.lookup x = some c → ∀ v, s.heap.IsCell c v → h'.IsCell c v := fun x c e v ⟨o, ho, hd⟩ => by
    have nch : c ∉ ch := fun z => (hch c z).2.2.1 x c e rfl
    by_cases hc : c ∈ X.fs
    · obtain ⟨sl, q⟩ := slot c o (I.cne x c e) hc nch ho (I.freeC x c e)
      exact ⟨_, q, hd⟩
    · exact ⟨o, keep c o (I.cne x c e) hc nch ho (I.freeC x c e), hd⟩
  refine ⟨I.ok, I.os, hg, ⟨fun b o e n hb hx => ?_, fun b o e n hb hx => ?_, fun b o e n hx => ?_, fun b o e hx => ?_, fun b xs e => tups b xs (I.base.tups b xs e), fun b o xs e => frzs b o xs (I.base.frzs b o xs e), fun b ps e => ?_⟩, ?_, fun x c e => ?_, ?_, fun x c e => ?_, fun p hp => ?_, hok, I.len⟩
  · exact keep b o (neL b o e) hb (neC b o e hx) (I.base.keep b o e n hb hx) (I.base.free b o e n hx)
  · obtain ⟨sl, e1⟩ := I.base.slot b o e n hb hx
    obtain ⟨sl', e2⟩ := slot b _ (neL b o e) hb (neC b o e hx) e1 (I.base.free b o e n hx)
    exact ⟨sl', e2⟩
  · obtain ⟨o', e1⟩ := I.base.there b o e hx
    exact free b o' (neC b o e hx) e1 (I.base.free b o e n hx)
  · obtain ⟨o', e1⟩ := I.base.there b o e hx
    exact there b o' (neC b o e hx) e1
  · obtain ⟨m1, e1⟩ := I.base.tbls b ps e
    obtain ⟨m2, e2⟩ := tbls b _ e1
    exact ⟨m1 ++ m2, by rw [e2, Array.append_assoc]⟩
  · obtain ⟨m, hn, hl⟩ := I.loc
    refine ⟨m, ns m hn, fun i x v e1 e2 e3 => ?_⟩
    obtain ⟨u, r, l⟩ := hl i x v e1 e2 e3
    refine ⟨u, r, ?_⟩
    rcases l with l | ⟨k, c, e, z⟩
    · exact .inl l
    · exact .inr ⟨k, c, e, cellK x c e _ z⟩
  · obtain ⟨v, z⟩ := I.cell x c e
    exact ⟨v, cellK x c e v z⟩
  · obtain ⟨m, ⟨o, _, _, ho, _⟩, _⟩ := I.loc
    exact free _ o (fun z => (hch _ z).2.1 rfl) ho I.free
  · obtain ⟨v, o, ho, hd⟩ := I.cell x c e
    exact free c o (fun z => (hch c z).2.2.1 x c e rfl) ho (I.freeC x c e)
  · obtain ⟨e, n, ne, nf, d⟩ := I.pin p hp
    have nch : p.1 ∉ ch := fun z => (hch p.1 z).2.2.2 p hp rfl
    exact ⟨keep p.1 p.2 ne nf nch e n, free p.1 p.2 nch e n, ne, nf, d⟩
/-- .. where the frame's own object is kept too -/
theorem Inv.un {t' : Nat} (I : Inv X pins σ H s) (u : Un X.fs [] H H' s.heap h') (hok : HOk X.prog X.w H' h') : Inv X pins σ H' { s with heap := h', toks := t' } := by
  obtain ⟨m, ⟨o, es, ep, ho, r⟩, _⟩ := id I.loc
  obtain ⟨sl, hL⟩ := u.any ho I.free (by simp)
  exact I.step (g' := s.gens) (d' := s.drawn) (ch := []) (fun _ z => nomatch z) (fun b o _ hb _ e n => u.keep b o e n hb (by simp)) (fun b o _ hb _ e n => u.slot b o e n hb (by simp)) (fun b o _ e n => u.free b o e n (by simp)) (fun b o _ e => u.there b o e (by simp)) u.tups u.frzs u.tbls (fun m' hm => by
    obtain ⟨o', es', ep', ho', r'⟩ := hm
    rw [ho] at ho'; cases ho'
    exact ⟨_, es', ep', hL, r'⟩) hok I.bare
/-- behind a call (or a comprehension's block): the slots of this frame may have changed too, the records at ch may have turned -/
theorem Inv.call {g' : Array GenState} {t' : Nat} {d' : Drawn} {ch : List Addr} (I : Inv X pins σ H s) (u : Un (frs X.stack) ch H H' s.heap h') (hok : HOk X.prog X.w H' h') (hg : AllBare g')
    (hch : ∀ b ∈ ch, (b ∈ X.ex ∨ X.s₀.heap.objs.size ≤ b) ∧ b ≠ X.env.locals ∧ (∀ x c, X.env.cells.lookup x = some c → c ≠ b) ∧ ∀ p ∈ X.pn ++ pins, p.1 ≠ b) :
    Inv X pins σ H' { s with heap := h', gens := g', drawn := d', toks := t' } := by
  obtain ⟨m, ⟨o, es, ep, ho, r⟩, _⟩ := id I.loc
  obtain ⟨sl, hL⟩ := u.any ho I.free fun z => (hch _ z).2.1 rfl
  exact I.step (ch := ch) hch (fun b o hL hb hc e n => u.keep b o e n (fun z => (List.mem_cons.mp (I.stkSub b z)).elim hL hb) hc) (fun b o _ _ hc e n => u.any e n hc) (fun b o hc e n => u.free b o e n hc) (fun b o hc e => u.there b o e hc) u.tups u.frzs u.tbls (fun m' hm => by
    obtain ⟨o', es', ep', ho', r'⟩ := hm
    rw [ho] at ho'; cases ho'
    exact ⟨_, es', ep', hL, r'⟩) hok hg
/-- an untracked record of ours (an iterator) has turned -/
theorem Inv.turned {t' : Nat} {it : Addr} (I : Inv X pins σ H s) (k : ∀ b o, b ≠ it → s.heap.get? b = some o → h'.get? b = some o) (hn : H it = none) (hL : it ≠ X.env.locals)
    (h1 : it ∈ X.ex ∨ X.s₀.heap.objs.size ≤ it) (h2 : ∀ x c, X.env.cells.lookup x = some c → c ≠ it) (h3 : ∀ p ∈ X.pn ++ pins, p.1 ≠ it) : Inv X pins σ H { s with heap := h', toks := t' } := by
  have nit : ∀ b u, H b = some u → b ≠ it := fun b u e z => by rw [z, hn] at e; cases e
  refine I.step (g' := s.gens) (d' := s.drawn) (ch := [it]) (fun b hb => ?_) (fun b o _ _ hc e _ => k b o (fun z => hc (by simp [z])) e) (fun b o _ _ hc e _ => ⟨o.slots, k b o (fun z => hc (by simp [z])) e⟩) (fun _ _ _ _ n => n)
    (fun b o hc e => ⟨o, k b o (fun z => hc (by simp [z])) e⟩) (fun _ _ e => e) (fun _ _ _ e => e) (fun b ps e => ⟨#[], by rw [e]; simp⟩) (fun m hm => ?_) (fun b u e => ?_) I.bare
  · have e : b = it := by simpa using hb
    subst e
    exact ⟨h1, hL, h2, h3⟩
  · obtain ⟨o, es, ep, ho, r⟩ := hm
    exact ⟨o, es, ep, k _ o (Ne.symm hL) ho, r⟩
  · refine (I.hok b u e).stay (fun c v hc q => k c v ?_ q) (fun _ q => q) fun _ _ q => q
    rcases hc with z | z
    · rw [z]; exact nit b u e
    · exact nit c _ z
theorem Inv.tok (I : Inv X pins σ H s) (t : Nat) : Inv X pins σ H { s with toks := t } := I.un (h' := s.heap) (t' := t) Un.refl I.hok
/-- all objects kept -/
theorem Inv.kept {t' : Nat} (I : Inv X pins σ H s) (k : ∀ b u, s.heap.get? b = some u → h'.get? b = some u) : Inv X pins σ H { s with heap := h', toks := t' } := I.un (Un.kept k) (I.hok.kept k)
/-- a new object laid and tracked -/
theorem Inv.laid {a : Addr} {o : HO} {t' : Nat} (I : Inv X pins σ H s) (k : ∀ b u, s.heap.get? b = some u → h'.get? b = some u) (hp : s.heap.objs.size ≤ a) (new : ObjOk X.prog X.w (upd H a o) h' a o) :
    Inv X pins σ (upd H a o) { s with heap := h', toks := t' } := I.un (Un.laid k hp (I.hok.fresh hp)) (I.hok.laid k hp new)
/-- an object written -/
theorem Inv.write {x e : Addr} {o : HO} {t' : Nat} (I : Inv X pins σ H s) (mu : Mut (H x)) (he : e = x ∨ H e = some (.own x)) (k : ∀ b u, b ≠ e → s.heap.get? b = some u → h'.get? b = some u) (heo : ∃ u, h'.get? e = some u)
    (new : ObjOk X.prog X.w (upd H x o) h' x o) : Inv X pins σ (upd H x o) { s with heap := h', toks := t' } := I.un (Un.write mu he k heo) (I.hok.write mu he k heo new)
theorem Inv.pins_of {pins' : List (Addr × Obj)} (I : Inv X pins σ H s) (h : ∀ p ∈ pins', s.heap.get? p.1 = some p.2 ∧ H p.1 = none ∧ p.1 ≠ X.env.locals ∧ p.1 ∉ X.fs ∧ ∀ v, p.2.data ≠ .cell v) : Inv X pins' σ H s :=
  ⟨I.ok, I.os, I.bare, I.base, I.loc, I.cell, I.free, I.freeC, fun p hp => (List.mem_append.mp hp).elim (fun z => I.pin p (List.mem_append_left _ z)) (h p), I.hok, I.len⟩

theorem nodup_ix {N : List Str} (hN : N.Nodup) {i j : Nat} {x : Str} (a : N[i]? = some x) (b : N[j]? = some x) : i = j := by
  obtain ⟨h1, e1⟩ := List.getElem?_eq_some_iff.mp a
  obtain ⟨h2, e2⟩ := List.getElem?_eq_some_iff.mp b
  exact (List.getElem_inj hN).mp (e1.trans e2.symm)

/-- a name is stored; what changed -/
theorem store_ok2 {M : Model} {A : Around} {E : Value → Shared → Prop} {i : Nat} {x : Str} {v : V} {u : Value} {Q : Unit → Shared → Prop} (I : Inv X pins σ H s) (hN : X.N.Nodup) (hi : X.N[i]? = some x) (hx : Loc X.env.scope x) (r : RelV v u)
    (h : ∀ s', Inv X pins (σ.set i (some v)) H s' → (∃ a, Heap.SameBut a s.heap s'.heap ∧ (a = X.env.locals ∨ X.env.cells.lookup x = some a)) → Q () s') (hf : X.fn x = true ∨ X.env.scope.names.lookup x = some .local := by first | exact .inl rfl | exact .inr rfl | assumption) : wpAny M A (storeName X.env x u) Q E s := by
  obtain ⟨m, hn, hl⟩ := id I.loc
  have hcls : (X.env.scope.kind == .class || (X.env.scope.kind == .module && X.env.locals != X.env.globals)) = false := by rw [I.ok.kind]; rfl
  have hiσ : i < σ.length := by rw [I.len]; exact (List.getElem?_eq_some_iff.mp hi).1
  have cne := I.cne
  have tracked : ∀ {a : Addr} {h' : Heap}, (∃ o, s.heap.get? a = some o ∧ H a = none) → Heap.SameBut a s.heap h' → HOk X.prog X.w H h' := fun {a h'} ha hs b ob e => by
    obtain ⟨_, _, hfree⟩ := ha
    refine (I.hok b ob e).stay (fun c w' hc q => (hs.2 c ?_).trans q) (fun _ q => q) fun _ _ q => q
    rintro rfl
    rcases hc with rfl | hc
    · rw [hfree] at e; cases e
    · rw [hfree] at hc; cases hc
  rcases hx with hk | hk
  · refine wpAny_storeName_local hk hn (fun h' hn' hs => ?_) hcls
    obtain ⟨oL, _, _, hoL, _⟩ := id hn
    refine h _ ⟨I.ok, I.os, I.bare, ⟨fun b o e n hb hx => ?_, fun b o e n hb hx => ?_, I.base.free, fun b o e hx => ?_, I.base.tups, I.base.frzs, I.base.tbls⟩, ⟨_, hn', fun j y v' e1 e2 e3 => ?_⟩, fun y c e => ?_, I.free, I.freeC, fun p hp => ?_, tracked ⟨oL, hoL, I.free⟩ hs, by simpa using I.len⟩ ⟨_, hs, .inl rfl⟩
    · exact (hs.2 b (Nat.ne_of_lt (Nat.lt_of_lt_of_le (Heap.lt_size e) I.ok.above))).trans (I.base.keep b o e n hb hx)
    · obtain ⟨sl, e1⟩ := I.base.slot b o e n hb hx
      exact ⟨sl, (hs.2 b (Nat.ne_of_lt (Nat.lt_of_lt_of_le (Heap.lt_size e) I.ok.above))).trans e1⟩
    · obtain ⟨o', e1⟩ := I.base.there b o e hx
      exact ⟨o', (hs.2 b (Nat.ne_of_lt (Nat.lt_of_lt_of_le (Heap.lt_size e) I.ok.above))).trans e1⟩
    · by_cases hj : j = i
      · subst hj
        rw [hi] at e1; cases e1
        rw [List.getElem?_set_self hiσ] at e2
        cases e2
        exact ⟨u, r, .inl ⟨hk, by simp⟩⟩
      · rw [List.getElem?_set_ne (Ne.symm hj)] at e2
        obtain ⟨u', r', q⟩ := hl j y v' e1 e2 e3
        refine ⟨u', r', ?_⟩
        rcases q with ⟨k, e⟩ | ⟨k, c, e, z⟩
        · refine .inl ⟨k, ?_⟩
          have : y ≠ x := fun e => hj (nodup_ix hN e1 (e ▸ hi))
          simp [this, e]
        · exact .inr ⟨k, c, e, z.sameBut hs (cne y c e)⟩
    · obtain ⟨w', z⟩ := I.cell y c e
      exact ⟨w', z.sameBut hs (cne y c e)⟩
    · obtain ⟨e, n, ne, nf, d⟩ := I.pin p hp
      exact ⟨(hs.2 p.1 ne).trans e, n, ne, nf, d⟩
  · have hfn : X.fn x = true := by
      rcases hf with z | z
      · exact z
      · rw [z] at hk; cases hk
    obtain ⟨c, hc⟩ := I.ok.has x (.inl hk)
    obtain ⟨w', z⟩ := I.cell x c hc
    refine wpAny_storeName_cell I.ok.kind hk hc z (fun h' hc' hs => ?_)
    obtain ⟨oc, hoc, hocd⟩ := id z
    refine h { s with heap := h' } ⟨I.ok, I.os, I.bare, ⟨fun b o e n hb hx => ?_, fun b o e n hb hx => ?_, I.base.free, fun b o e hx => ?_, I.base.tups, I.base.frzs, I.base.tbls⟩, ⟨m, hn.sameBut hs (Ne.symm (cne x c hc)), fun j y v' e1 e2 e3 => ?_⟩, fun y c' e => ?_, I.free, I.freeC, fun p hp => ?_, tracked ⟨oc, hoc, I.freeC x c hc⟩ hs, by simpa using I.len⟩ ⟨c, hs, .inr hc⟩
    · exact (hs.2 b (Nat.ne_of_lt (Nat.lt_of_lt_of_le (Heap.lt_size e) (I.ok.cab x c hfn hc)))).trans (I.base.keep b o e n hb hx)
    · obtain ⟨sl, e1⟩ := I.base.slot b o e n hb hx
      exact ⟨sl, (hs.2 b (Nat.ne_of_lt (Nat.lt_of_lt_of_le (Heap.lt_size e) (I.ok.cab x c hfn hc)))).trans e1⟩
    · obtain ⟨o', e1⟩ := I.base.there b o e hx
      exact ⟨o', (hs.2 b (Nat.ne_of_lt (Nat.lt_of_lt_of_le (Heap.lt_size e) (I.ok.cab x c hfn hc)))).trans e1⟩
    · by_cases hj : j = i
      · subst hj
        rw [hi] at e1; cases e1
        rw [List.getElem?_set_self hiσ] at e2
        cases e2
        exact ⟨u, r, .inr ⟨.inl hk, c, hc, hc'⟩⟩
      · rw [List.getElem?_set_ne (Ne.symm hj)] at e2
        obtain ⟨u', r', q⟩ := hl j y v' e1 e2 e3
        refine ⟨u', r', ?_⟩
        rcases q with q | ⟨k, c', e, z'⟩
        · exact .inl q
        · refine .inr ⟨k, c', e, z'.sameBut hs ?_⟩
          rintro rfl
          exact hj (nodup_ix hN e1 (I.ok.inj _ _ _ e hc ▸ hi))
    · by_cases hcc : c' = c
      · subst hcc; exact ⟨_, hc'⟩
      · obtain ⟨w2, z2⟩ := I.cell y c' e
        exact ⟨w2, z2.sameBut hs hcc⟩
    · obtain ⟨e, n, ne, nf, d⟩ := I.pin p hp
      refine ⟨(hs.2 p.1 ?_).trans e, n, ne, nf, d⟩
      intro q
      rw [q, hoc] at e
      have q' : oc = p.2 := Option.some.inj e
      exact d w' (by rw [← q']; exact hocd)
theorem store_ok {M : Model} {A : Around} {E : Value → Shared → Prop} {i : Nat} {x : Str} {v : V} {u : Value} {Q : Unit → Shared → Prop} (I : Inv X pins σ H s) (hN : X.N.Nodup) (hi : X.N[i]? = some x) (hx : Loc X.env.scope x) (r : RelV v u)
    (h : ∀ s', Inv X pins (σ.set i (some v)) H s' → Q () s') (hf : X.fn x = true ∨ X.env.scope.names.lookup x = some .local := by first | exact .inl rfl | exact .inr rfl | assumption) : wpAny M A (storeName X.env x u) Q E s :=
  store_ok2 I hN hi hx r (fun s' I' _ => h s' I') hf
/-- behind a call or a block, the state as it is -/
theorem Inv.call' {s' : Shared} {ch : List Addr} (I : Inv X pins σ H s) (ho : s'.os = s.os) (u : Un (frs X.stack) ch H H' s.heap s'.heap) (hok : HOk X.prog X.w H' s'.heap) (hg : AllBare s'.gens)
    (hch : ∀ b ∈ ch, (b ∈ X.ex ∨ X.s₀.heap.objs.size ≤ b) ∧ b ≠ X.env.locals ∧ (∀ x c, X.env.cells.lookup x = some c → c ≠ b) ∧ ∀ p ∈ X.pn ++ pins, p.1 ≠ b) : Inv X pins σ H' s' := by
  obtain ⟨h', g', d', t', o'⟩ := s'
  have e : o' = s.os := ho
  subst e
  exact I.call (g' := g') (t' := t') (d' := d') u hok hg hch
end

/-! ### the judgements -/
/-- an exception: its class, its own dict's address (where it has one), the abstract heap behind it -/
abbrev XK := Value → Option Addr → Hp → Prop
abbrev St := List (Option V)
abbrev VK := V → Hp → Prop
/-- an expression's reading; a test's; an argument list's -/
abbrev TE := St → Hp → VK → Prop
abbrev TT := St → Hp → (Bool → Hp → Prop) → Prop
abbrev TA := St → Hp → (List V → Hp → Prop) → Prop
/-- what is wanted behind a statement -/
structure Ends where
  nx : St → Hp → Prop
  rt : VK
  bk : St → Hp → Prop := fun _ _ => False
  ct : St → Hp → Prop := fun _ _ => False
abbrev TS := Ends → St → Hp → Prop

def EP (X : Cx) (pins : List (Addr × Obj)) (σ : St) (Q : VK) (u : Value) (s' : Shared) : Prop := ∃ v H', Inv X pins σ H' s' ∧ RelV v u ∧ Q v H'
def TP (X : Cx) (pins : List (Addr × Obj)) (σ : St) (Q : Bool → Hp → Prop) (b : Bool) (s' : Shared) : Prop := ∃ H', Inv X pins σ H' s' ∧ Q b H'
def AP (X : Cx) (pins : List (Addr × Obj)) (σ : St) (Q : List V → Hp → Prop) (us : List Value) (s' : Shared) : Prop := ∃ vs H', Inv X pins σ H' s' ∧ Vals vs us ∧ Q vs H'
def SP (X : Cx) (pins : List (Addr × Obj)) (D : Ends) (f : Flow) (s' : Shared) : Prop :=
  match f with
  | .next => ∃ σ' H', Inv X pins σ' H' s' ∧ D.nx σ' H'
  | .brk => ∃ σ' H', Inv X pins σ' H' s' ∧ D.bk σ' H'
  | .cont => ∃ σ' H', Inv X pins σ' H' s' ∧ D.ct σ' H'
  | .ret u => ∃ v σ' H', Inv X pins σ' H' s' ∧ RelV v u ∧ D.rt v H'

def PE (X : Cx) (e : Expr) (t : TE) : Prop :=
  ∀ (pins : List (Addr × Obj)) (s : Shared) (σ : St) (H : Hp) (Q : VK), Inv X pins σ H s → t σ H Q → wpAny (model X.prog X.w) X.A (eval e X.env) (EP X pins σ Q) X.xe s
def PT (X : Cx) (e : Expr) (t : TT) : Prop :=
  ∀ (pins : List (Addr × Obj)) (s : Shared) (σ : St) (H : Hp) (Q : Bool → Hp → Prop), Inv X pins σ H s → t σ H Q → wpAny (model X.prog X.w) X.A (isTrue e X.env (eval e X.env)) (TP X pins σ Q) X.xe s
/-- a test whatever its 'whole' is (and, or) -/
def PW (X : Cx) (e : Expr) (t : TT) : Prop :=
  ∀ (whole : Sem Value) (pins : List (Addr × Obj)) (s : Shared) (σ : St) (H : Hp) (Q : Bool → Hp → Prop), Inv X pins σ H s → t σ H Q → wpAny (model X.prog X.w) X.A (isTrue e X.env whole) (TP X pins σ Q) X.xe s
theorem PW.pt {X : Cx} {e : Expr} {t : TT} (h : PW X e t) : PT X e t := h _
/-- an argument list (no star), from the left -/
def PA (X : Cx) (es : List Expr) (t : TA) : Prop :=
  ∀ (pos : Pos) (pins : List (Addr × Obj)) (s : Shared) (σ : St) (H : Hp) (Q : List V → Hp → Prop), Inv X pins σ H s → t σ H Q → wpAny (model X.prog X.w) X.A (spliced (backTo pos (starEach es X.env))) (AP X pins σ Q) X.xe s
def PS (X : Cx) (st : Stmt) (t : TS) : Prop :=
  ∀ (pins : List (Addr × Obj)) (s : Shared) (σ : St) (H : Hp) (D : Ends), Inv X pins σ H s → t D σ H → wpAny (model X.prog X.w) X.A (exec st X.env) (SP X pins D) X.xe s
def PSs (X : Cx) (st : List Stmt) (t : TS) : Prop :=
  ∀ (pins : List (Addr × Obj)) (s : Shared) (σ : St) (H : Hp) (D : Ends), Inv X pins σ H s → t D σ H → wpAny (model X.prog X.w) X.A (execs st X.env) (SP X pins D) X.xe s
/-- weaken the end -/
theorem thn {α : Type} {t : Sem α} {Q Q' : α → Shared → Prop} {M : Model} {A : Around} {E : Value → Shared → Prop} {s : Shared} (h : wpAny M A t Q E s) (hQ : ∀ a s, Q a s → Q' a s) : wpAny M A t Q' E s := wpAny_mono h hQ fun _ _ x => x
end L2

namespace L2
open PySem PySem.Spec PyProof.Rows
section
variable {X : Cx}

/-- two expressions in a row -/
theorem bin {a b : Expr} {ta tb : TE} (ha : PE X a ta) (hb : PE X b tb) {pins : List (Addr × Obj)} {s : Shared} {σ : St} {H : Hp} {R : V → V → Hp → Prop} (I : Inv X pins σ H s) (h : ta σ H fun x H1 => tb σ H1 fun y H2 => R x y H2)
    {α : Type} {Q : α → Shared → Prop} {f : Value → Value → Sem α}
    (hf : ∀ v u s2 x y H2, Inv X pins σ H2 s2 → RelV x v → RelV y u → R x y H2 → wpAny (model X.prog X.w) X.A (f v u) Q X.xe s2) :
    wpAny (model X.prog X.w) X.A (eval a X.env) (fun v s₁ => wpAny (model X.prog X.w) X.A (eval b X.env) (fun u s₂ => wpAny (model X.prog X.w) X.A (f v u) Q X.xe s₂) X.xe s₁) X.xe s := by
  refine thn (ha pins s σ H _ I h) fun v s1 ⟨x, H1, I1, r1, q1⟩ => ?_
  refine thn (hb pins s1 σ H1 _ I1 q1) fun u s2 ⟨y, H2, I2, r2, q2⟩ => ?_
  exact hf v u s2 x y H2 I2 r1 r2 q2

/-! ### names and constants -/
def tVar (i : Nat) : TE := fun σ H Q => ∃ v, σ[i]? = some (some v) ∧ Q v H
def tC (v : V) : TE := fun _ H Q => Q v H
theorem pe_var {i : Nat} {x : Str} {pos : Pos} (hN : X.N[i]? = some x) (hv : Vis X.env.scope x) (hd : (x == ("__debug__" : Str)) = false := by decide) (hcd : (x == ("__classdict__" : Str)) = false := by decide) : PE X (.Name x pos) (tVar i) := by
  intro pins s σ H Q I h
  obtain ⟨v, e, h⟩ := h
  obtain ⟨m, hn, hl⟩ := I.loc
  obtain ⟨u, r, l⟩ := hl i x v hN e hv
  have fin : EP X pins σ Q u s := ⟨v, H, I, r, h⟩
  rcases l with ⟨hk, hm⟩ | ⟨hk, c, hc, hcell⟩
  · exact wpAny_Name (wpAny_loadName_local I.ok.kind hk hn hm fin) hd
  · rcases hk with hk | hk
    · exact wpAny_Name (wpAny_loadName_cell I.ok.kind hk hc hcell fin) hd
    · exact wpAny_Name (wpAny_loadName_free I.ok.kind hk hc hcell fin hcd) hd
theorem pe_int {i j pos} : PE X (.Constant (.int i) j pos) (tC (.int i)) := fun _ _ _ H _ I h => wpAny_Constant_int ⟨.int i, H, I.tok _, ⟨_, rfl⟩, h⟩
theorem pe_bl {b j pos} : PE X (.Constant (.bool b) j pos) (tC (.bl b)) := fun _ _ _ H _ I h => Constant_bool ⟨.bl b, H, I, rfl, h⟩
theorem pe_str {x j pos} : PE X (.Constant (.str x) j pos) (tC (.str x)) := fun _ _ _ H _ I h => Calls.Constant_str ⟨.str x, H, I.tok _, ⟨_, rfl⟩, h⟩

/-- a global name of the def -/
def Gl (X : Cx) (x : Str) : Prop := X.env.kindOf x = some .globalImplicit
theorem ld_glob {E : Value → Shared → Prop} {pins : List (Addr × Obj)} {s : Shared} {σ : St} {H : Hp} {x : Str} {u : Value} {pos : Pos} {Q : Value → Shared → Prop} (I : Inv X pins σ H s) (hg : Gl X x) (hm : X.mg x = some u) (h : Q u s)
    (hd : (x == ("__debug__" : Str)) = false := by decide) : wpAny (model X.prog X.w) X.A (eval (.Name x pos) X.env) Q E s :=
  Calls.Name_function_global I.ok.kind hg (Calls.loadGlobal_global (by rw [I.ok.glob]; exact I.mod.glob.keeps I.bk) hm h) hd
theorem ld_blt {E : Value → Shared → Prop} {pins : List (Addr × Obj)} {s : Shared} {σ : St} {H : Hp} {x : Str} {u : Value} {pos : Pos} {Q : Value → Shared → Prop} (I : Inv X pins σ H s) (hg : Gl X x) (hm : X.mg x = none) (hv : bootBuiltins x = some u) (h : Q u s)
    (hn : x ≠ "__name__" := by decide) (hd : (x == ("__debug__" : Str)) = false := by decide) : wpAny (model X.prog X.w) X.A (eval (.Name x pos) X.env) Q E s := by
  obtain ⟨mb, h1, h2⟩ := I.mod.blt
  exact Calls.Name_function_global I.ok.kind hg (Calls.loadGlobal_builtin (by rw [I.ok.glob]; exact I.mod.glob.keeps I.bk) hm (by rw [I.ok.blt]; exact h1.keeps I.bk) ((h2 x hn).trans hv) h) hd
/-- a module's constant, a class, a function, as a value -/
theorem pe_glob {x : Str} {v : V} {u : Value} {pos : Pos} (hg : Gl X x) (hm : X.mg x = some u) (r : RelV v u) (hd : (x == ("__debug__" : Str)) = false := by decide) : PE X (.Name x pos) (tC v) :=
  fun _ _ _ H _ I h => ld_glob I hg hm ⟨v, H, I, r, h⟩ hd
theorem pe_bltn {x : Str} {v : V} {u : Value} {pos : Pos} (hg : Gl X x) (hm : X.mg x = none) (hv : bootBuiltins x = some u) (r : RelV v u) (hn : x ≠ "__name__" := by decide) (hd : (x == ("__debug__" : Str)) = false := by decide) : PE X (.Name x pos) (tC v) :=
  fun _ _ _ H _ I h => ld_blt I hg hm hv ⟨v, H, I, r, h⟩ hn hd

/-! ### arithmetic -/
variable {a b : Expr} {ta tb : TE} {pos : Pos}
/-! ### comparisons -/
/-! ### and, or, not -/
variable {tA tB' : TT} {rest : List Expr}
def tOr (t u : TT) : TT := fun σ H Q => t σ H fun c H1 => if c = true then Q true H1 else u σ H1 Q
def tNot (t : TT) : TT := fun σ H Q => t σ H fun c H1 => Q (!c) H1
theorem pw_or1 (ha : PT X a tA) : PW X (.BoolOp .Or [a] pos) tA := by
  intro wh pins s σ H Q I h
  refine isTrue_or (thn (ha pins s σ H Q I h) fun c s1 e => ?_)
  cases c with
  | false => exact isTrue_or_nil e
  | true => exact e
theorem pw_or (ha : PT X a tA) (hb : PW X (.BoolOp .Or (b :: rest) pos) tB') : PW X (.BoolOp .Or (a :: b :: rest) pos) (tOr tA tB') := by
  intro wh pins s σ H Q I h
  refine isTrue_or (thn (ha pins s σ H _ I h) fun c s1 ⟨H1, I1, q1⟩ => ?_)
  cases c with
  | true => exact ⟨H1, I1, q1⟩
  | false => exact hb wh pins s1 σ H1 Q I1 q1
theorem pt_not (ha : PT X a tA) : PT X (.UnaryOp .Not a pos) (tNot tA) := by
  intro pins s σ H Q I h
  exact isTrue_not (ha pins s σ H (fun c H1 => Q (!c) H1) I h)
/-- .. as values (bools) -/
def tAndV (ta tb : TE) : TE := fun σ H Q => ta σ H fun x H1 => ∃ c, x = .bl c ∧ if c = true then tb σ H1 Q else Q (.bl false) H1
def tOrV (ta tb : TE) : TE := fun σ H Q => ta σ H fun x H1 => ∃ c, x = .bl c ∧ if c = true then Q (.bl true) H1 else tb σ H1 Q
def tNotV (ta : TE) : TE := fun σ H Q => ta σ H fun x H1 => ∃ c, x = .bl c ∧ Q (.bl (!c)) H1
theorem pe_one {op} {t : TE} (h : PE X a t) : PE X (.BoolOp op [a] pos) t := fun pins s σ H Q I hw => BoolOp_one (h pins s σ H Q I hw)
theorem pe_and (ha : PE X a ta) (hb : PE X (.BoolOp .And (b :: rest) pos) tb) : PE X (.BoolOp .And (a :: b :: rest) pos) (tAndV ta tb) := by
  intro pins s σ H Q I h
  refine BoolOp_and (thn (ha pins s σ H _ I h) fun v s1 ⟨x, H1, I1, r1, q1⟩ => ?_)
  obtain ⟨c, rfl, q1⟩ := q1
  cases r1
  refine wpAny_truthy_bool ?_
  cases c with
  | true => exact hb pins s1 σ H1 Q I1 q1
  | false => exact ⟨.bl false, H1, I1, rfl, q1⟩
theorem pe_or (ha : PE X a ta) (hb : PE X (.BoolOp .Or (b :: rest) pos) tb) : PE X (.BoolOp .Or (a :: b :: rest) pos) (tOrV ta tb) := by
  intro pins s σ H Q I h
  refine BoolOp_or (thn (ha pins s σ H _ I h) fun v s1 ⟨x, H1, I1, r1, q1⟩ => ?_)
  obtain ⟨c, rfl, q1⟩ := q1
  cases r1
  refine wpAny_truthy_bool ?_
  cases c with
  | false => exact hb pins s1 σ H1 Q I1 q1
  | true => exact ⟨.bl true, H1, I1, rfl, q1⟩
theorem pe_not (ha : PE X a ta) : PE X (.UnaryOp .Not a pos) (tNotV ta) := by
  intro pins s σ H Q I h
  refine UnaryOp_ (thn (ha pins s σ H _ I h) fun v s1 ⟨x, H1, I1, r1, q1⟩ => ?_)
  obtain ⟨c, rfl, q1⟩ := q1
  cases r1
  exact not_of (wpAny_truthy_bool ⟨.bl (!c), H1, I1, rfl, q1⟩)
end
end L2

namespace L2
open PySem PySem.Spec PyProof.Rows

/-! ### a list, a tuple that is read: tracked, frozen, or an object of the module -/
def SqL (K : PySem.W.Frag) (H : Hp) (a : Addr) (xs : List V) : Prop :=
  Rd H a (.lst xs) ∨
    ∃ (o : Obj) (its : Array Value) (n : Nat), K.lookup a = some o ∧ o.cls = .type "list" ∧ o.dict = none ∧ o.data = .seq its n ∧ its.size ≤ sizeLine ∧ Vals xs its.toList
def SqT (K : PySem.W.Frag) (H : Hp) (a : Addr) (xs : List V) : Prop :=
  Rd H a (.tup xs) ∨
    ∃ (o : Obj) (its : Array Value) (n : Nat), K.lookup a = some o ∧ o.cls = .type "tuple" ∧ o.data = .seq its n ∧ its.size ≤ sizeLine ∧ Vals xs its.toList
def absV : Value → Option V
  | .none => some .non
  | .bool b => some (.bl b)
  | .int i _ => some (.int i)
  | .str x _ => some (.str x)
  | .bytes b _ => some (.byt b)
  | .float b _ => some (.flt b)
  | .ref a => some (.ref a)
  | .type n => some (.ty n)
  | _ => none
theorem RelV.abs {x : V} {u : Value} (r : RelV x u) : absV u = some x := by
  cases x with
  | non => cases r; rfl
  | bl _ => cases r; rfl
  | int _ => obtain ⟨t, rfl⟩ := r; rfl
  | str _ => obtain ⟨t, rfl⟩ := r; rfl
  | byt _ => obtain ⟨t, rfl⟩ := r; rfl
  | flt _ => obtain ⟨t, rfl⟩ := r; rfl
  | ref _ => cases r; rfl
  | ty _ => cases r; rfl
theorem RelV.inj {x y : V} {u : Value} (r : RelV x u) (q : RelV y u) : x = y := Option.some.inj (r.abs.symm.trans q.abs)
theorem Vals.inj : ∀ {xs ys : List V} {us : List Value}, Vals xs us → Vals ys us → xs = ys
  | _, _, _, .nil, .nil => rfl
  | _, _, _, .cons r t, .cons r' t' => by rw [r.inj r', Vals.inj t t']
section
variable {X : Cx} {pins : List (Addr × Obj)} {σ : St} {H : Hp} {s : Shared} {a : Addr} {xs ys : List V}
theorem SqL.of {K : PySem.W.Frag} (h : H a = some (.lst xs)) : SqL K H a xs := .inl (.inl h)
theorem SqT.of {K : PySem.W.Frag} (h : H a = some (.tup xs)) : SqT K H a xs := .inl (.inl h)
theorem Inv.list (I : Inv X pins σ H s) (h : SqL X.K H a xs) : ∃ its : List Value, Vals xs its ∧ PlainL s.heap a its.toArray ∧ xs.length ≤ sizeLine := by
  rcases h with h | ⟨o, its, n, hk, hc, hd, hs, hz, r⟩
  · obtain ⟨z, its, n, r, e⟩ := h.ok I.hok
    exact ⟨its, r, ⟨_, n, e, rfl, rfl, rfl⟩, z⟩
  · refine ⟨its.toList, r, ⟨o, n, I.kIn a o hk, hc, hd, by simpa using hs⟩, ?_⟩
    have e := r.length
    simp only [Array.length_toList] at e
    omega
theorem Inv.tuple (I : Inv X pins σ H s) (h : SqT X.K H a xs) : ∃ its : List Value, Vals xs its ∧ IsTup s.heap a its.toArray ∧ xs.length ≤ sizeLine := by
  rcases h with h | ⟨o, its, n, hk, hc, hs, hz, r⟩
  · obtain ⟨z, its, r, p⟩ := h.ok I.hok
    exact ⟨its, r, p, z⟩
  · refine ⟨its.toList, r, ⟨o, I.kIn a o hk, hc, n, by simpa using hs⟩, ?_⟩
    have e := r.length
    simp only [Array.length_toList] at e
    omega
theorem Inv.list_inj (I : Inv X pins σ H s) (h : SqL X.K H a xs) (h' : SqL X.K H a ys) : xs = ys := by
  obtain ⟨its, r, ⟨o, n, e, _, _, d⟩, _⟩ := I.list h
  obtain ⟨its', r', ⟨o', n', e', _, _, d'⟩, _⟩ := I.list h'
  rw [e] at e'; cases e'
  rw [d] at d'
  injection d' with d1 _
  have : its = its' := by simpa using congrArg Array.toList d1
  subst this
  exact r.inj r'
end

/-! ### another wish about exceptions -/
abbrev Cx.wish (X : Cx) (E : Value → Shared → Prop) : Cx := { X with xe := E }
/-- no exception leaves -/
abbrev Cx.nox (X : Cx) : Cx := X.wish fun _ _ => False
theorem Cx.Ok.wish {X : Cx} (ok : X.Ok) (E : Value → Shared → Prop) : (X.wish E).Ok :=
  ⟨ok.mod, ok.kind, ok.glob, ok.blt, ok.above, ok.inj, ok.has, ok.cab, ok.hd, ok.frames, ok.stk, ok.exf, ok.bs, ok.bsz, ok.noex, ok.exfs, ok.funs, ok.frf⟩
theorem Cx.Ok.unwish {X : Cx} {E : Value → Shared → Prop} (ok : (X.wish E).Ok) : X.Ok :=
  ⟨ok.mod, ok.kind, ok.glob, ok.blt, ok.above, ok.inj, ok.has, ok.cab, ok.hd, ok.frames, ok.stk, ok.exf, ok.bs, ok.bsz, ok.noex, ok.exfs, ok.funs, ok.frf⟩
section
variable {X : Cx} {pins : List (Addr × Obj)} {σ : St} {H : Hp} {s : Shared} {E : Value → Shared → Prop}
theorem Inv.wish (I : Inv X pins σ H s) (E : Value → Shared → Prop) : Inv (X.wish E) pins σ H s := ⟨I.ok.wish E, I.os, I.bare, I.base, I.loc, I.cell, I.free, I.freeC, I.pin, I.hok, I.len⟩
theorem Inv.unwish (I : Inv (X.wish E) pins σ H s) : Inv X pins σ H s := ⟨I.ok.unwish, I.os, I.bare, I.base, I.loc, I.cell, I.free, I.freeC, I.pin, I.hok, I.len⟩
theorem SP.unwish {D : Ends} {f : Flow} {s' : Shared} (h : SP (X.wish E) pins D f s') : SP X pins D f s' := by
  cases f with
  | next => obtain ⟨σ', H', I, q⟩ := h; exact ⟨σ', H', I.unwish, q⟩
  | brk => obtain ⟨σ', H', I, q⟩ := h; exact ⟨σ', H', I.unwish, q⟩
  | cont => obtain ⟨σ', H', I, q⟩ := h; exact ⟨σ', H', I.unwish, q⟩
  | ret u => obtain ⟨v, σ', H', I, r, q⟩ := h; exact ⟨v, σ', H', I.unwish, r, q⟩
theorem PSs.nox {st : List Stmt} {t : TS} (h : PSs X.nox st t) : PSs X st t := fun pins s σ H D I hw =>
  wpAny_mono (h pins s σ H D (I.wish _) hw) (fun _ _ q => q.unwish) fun _ _ z => False.elim z
end

/-! ### blocks and small statements -/
section
variable {X : Cx} {st : Stmt} {rest : List Stmt} {t u : TS} {e : Expr} {te : TE} {pos : Pos}
def tNext : TS := fun D σ H => D.nx σ H
def tSeq (t u : TS) : TS := fun D σ H => t { D with nx := u D } σ H
theorem pss_nil : PSs X [] tNext := fun _ _ σ H _ I h => wpAny_execs_nil ⟨σ, H, I, h⟩
theorem pss_cons (h1 : PS X st t) (h2 : PSs X rest u) : PSs X (st :: rest) (tSeq t u) := by
  intro pins s σ H D I h
  refine wpAny_execs_cons (thn (h1 pins s σ H { D with nx := u D } I h) fun f s1 q => ?_)
  cases f with
  | next =>
    obtain ⟨σ', H', I', q⟩ := q
    exact h2 pins s1 σ' H' D I' q
  | ret v => exact q
  | brk => exact q
  | cont => exact q
theorem pss_one (h1 : PS X st t) : PSs X [st] t := by
  intro pins s σ H D I h
  refine wpAny_execs_cons (thn (h1 pins s σ H D I h) fun f s1 q => ?_)
  cases f with
  | next => exact wpAny_execs_nil q
  | ret v => exact q
  | brk => exact q
  | cont => exact q
/-- in a def's body nothing is shown -/
theorem Inv.quiet {pins : List (Addr × Obj)} {σ : St} {H : Hp} {s : Shared} (I : Inv X pins σ H s) : interactive X.env = false := by simp [interactive, I.ok.kind]
/-- an expression whose value is dropped -/
def tDrop (te : TE) : TS := fun D σ H => te σ H fun _ H1 => D.nx σ H1
theorem ps_expr (he : PE X e te) (hs : swapsWith e none pos.line X.env = pure false := by rfl) : PS X (.Expr e pos) (tDrop te) := by
  intro pins s σ H D I h
  exact wpAny_Expr_any (thn (he pins s σ H _ I h) fun v s1 ⟨x, H1, I1, r1, q1⟩ => ⟨σ, H1, I1, q1⟩) I.quiet hs
def tRet (te : TE) : TS := fun D σ H => te σ H D.rt
theorem ps_ret (he : PE X e te) : PS X (.Return (some e) pos) (tRet te) := by
  intro pins s σ H D I h
  exact wpAny_Return_some (thn (he pins s σ H _ I h) fun v s1 ⟨x, H1, I1, r1, q1⟩ => ⟨x, σ, H1, I1, r1, q1⟩)
def tIfS (c : TT) (t u : TS) : TS := fun D σ H => c σ H fun b H1 => if b = true then t D σ H1 else u D σ H1
theorem ps_if {c : Expr} {a b : List Stmt} {tc : TT} (hc : PT X c tc) (ha : PSs X a t) (hb : PSs X b u) : PS X (.If c a b pos) (tIfS tc t u) := by
  intro pins s σ H D I h
  refine wpAny_If (thn (hc pins s σ H _ I h) fun d s1 ⟨H1, I1, q1⟩ => ?_)
  cases d with
  | true => exact ha pins s1 σ H1 D I1 q1
  | false => exact hb pins s1 σ H1 D I1 q1
/-- code that the proof never comes to -/
def tNever : TS := fun _ _ _ => False
theorem ps_never : PS X st tNever := fun _ _ _ _ _ _ h => h.elim
end

/-! ### targets -/
abbrev TG := V → St → Hp → (St → Hp → Prop) → Prop
abbrev TGs := List V → St → Hp → (St → Hp → Prop) → Prop
def PG (X : Cx) (target : Expr) (t : TG) : Prop :=
  ∀ (pins : List (Addr × Obj)) (s : Shared) (σ : St) (H : Hp) (v : V) (u : Value) (Q : St → Hp → Prop), Inv X pins σ H s → RelV v u → t v σ H Q →
    wpAny (model X.prog X.w) X.A (assign target X.env u) (fun _ s' => ∃ σ' H', Inv X pins σ' H' s' ∧ Q σ' H') X.xe s
/-- several targets, one after another -/
def PGs (X : Cx) (ts : List Expr) (t : TGs) : Prop :=
  ∀ (pins : List (Addr × Obj)) (s : Shared) (σ : St) (H : Hp) (vs : List V) (us : List Value) (Q : St → Hp → Prop), Inv X pins σ H s → Vals vs us → t vs σ H Q →
    wpAny (model X.prog X.w) X.A (assignInOrder ((assignEach ts X.env).map (·.2)) us) (fun _ s' => ∃ σ' H', Inv X pins σ' H' s' ∧ Q σ' H') X.xe s
/-- o[i] = v, by values -/
abbrev TSet := V → V → V → Hp → (Hp → Prop) → Prop
def PSet (X : Cx) (t : TSet) : Prop :=
  ∀ (pins : List (Addr × Obj)) (s : Shared) (σ : St) (H : Hp) (o i v : V) (ov iv u : Value) (Q : Hp → Prop), Inv X pins σ H s → RelV o ov → RelV i iv → RelV v u → t o i v H Q →
    wpAny (model X.prog X.w) X.A (setItem ov iv u) (fun _ s' => ∃ H', Inv X pins σ H' s' ∧ Q H') X.xe s
/-- a op= b, by values -/
abbrev TIp := V → V → Hp → VK → Prop
def PIp (X : Cx) (op : Operator) (t : TIp) : Prop :=
  ∀ (pins : List (Addr × Obj)) (s : Shared) (σ : St) (H : Hp) (x y : V) (v u : Value) (Q : VK), Inv X pins σ H s → RelV x v → RelV y u → t x y H Q →
    wpAny (model X.prog X.w) X.A (inplaceOp op v u) (EP X pins σ Q) X.xe s
section
variable {X : Cx} {pos : Pos}
def gName (i : Nat) : TG := fun v σ H Q => Q (σ.set i (some v)) H
theorem pg_name {i : Nat} {x : Str} (hN : X.N.Nodup) (hi : X.N[i]? = some x) (hx : Loc X.env.scope x) (hf : X.fn x = true ∨ X.env.scope.names.lookup x = some .local := by first | exact .inl rfl | exact .inr rfl | assumption) : PG X (.Name x pos) (gName i) := by
  intro pins s σ H v u Q I r h
  exact wpAny_assign_Name (store_ok I hN hi hx r (fun s' I' => ⟨_, H, I', h⟩) hf)
def gNil : TGs := fun vs σ H Q => vs = [] ∧ Q σ H
def gCons (t : TG) (u : TGs) : TGs := fun vs σ H Q => ∃ v r, vs = v :: r ∧ t v σ H fun σ' H' => u r σ' H' Q
theorem pgs_nil : PGs X [] gNil := by
  intro pins s σ H vs us Q I r h
  obtain ⟨e, h⟩ := h
  subst e
  cases r
  exact assignInOrder_nil ⟨σ, H, I, h⟩
theorem pgs_cons {e : Expr} {es : List Expr} {t : TG} {u : TGs} (h1 : PG X e t) (h2 : PGs X es u)
    (hs : (assignEach (e :: es) X.env).map (·.2) = assign e X.env :: (assignEach es X.env).map (·.2) := by rfl) : PGs X (e :: es) (gCons t u) := by
  intro pins s σ H vs us Q I r h
  obtain ⟨v, vr, e1, h⟩ := h
  subst e1
  cases r with
  | cons r rr =>
    rw [hs]
    refine assignInOrder_cons (thn (h1 pins s σ H _ _ _ I r h) fun _ s1 ⟨σ1, H1, I1, q1⟩ => ?_)
    exact h2 pins s1 σ1 H1 _ _ Q I1 rr q1
/-- (a, b, ..) = a tuple of that length -/
def gTup (K : PySem.W.Frag) (n : Nat) (t : TGs) : TG := fun v σ H Q => ∃ a xs, v = .ref a ∧ SqT K H a xs ∧ xs.length = n ∧ t xs σ H Q
theorem pg_tup {es : List Expr} {k : Nat} {t : TGs} {n : Nat} (hc : X.calm = true) (h : PGs X es t)
    (hn : (assignEach es X.env).length = n := by rfl) (hst : (assignEach es X.env).findIdx? (·.1) = none := by rfl) : PG X (.Tuple es k pos) (gTup X.K n t) := by
  intro pins s σ H v u Q I r hw
  obtain ⟨a, xs, e1, hq, hl, hw⟩ := hw
  subst e1
  cases r
  obtain ⟨its, rv, ht, hz⟩ := I.tuple hq
  refine assign_Tuple_tuple (I.ok.hd hc) ht (by simp [hn, ← hl, rv.length]) hst fun h' hx => ?_
  have I1 : Inv X pins σ H { s with heap := h' } := I.kept (t' := s.toks) fun b o e => hx b o (Nat.ne_of_lt (Heap.lt_size e)) e
  exact h pins _ σ H xs _ Q I1 (by simpa using rv) hw
/-- o[i] = .. -/
def gSub (to ti : TE) (t : TSet) : TG := fun v σ H Q => to σ H fun o H1 => ti σ H1 fun i H2 => t o i v H2 fun H3 => Q σ H3
theorem pg_sub {o i : Expr} {to ti : TE} {t : TSet} (ho : PE X o to) (hi : PE X i ti) (hs : PSet X t)
    (ha : ∀ v, assign (.Subscript o i pos) X.env v = (do
      let ov ← holding [v] (eval o X.env)
      let iv ← holding [v, ov] (eval i X.env)
      standAt pos
      holding [v, ov, iv] (setItem ov iv v)
      release [v, ov, iv] []) := by intro _; rfl) : PG X (.Subscript o i pos) (gSub to ti t) := by
  intro pins s σ H v u Q I r h
  rw [ha]
  refine wpAny_bind (wpAny_holding (thn (ho pins s σ H _ I h) fun ov s1 ⟨x, H1, I1, r1, q1⟩ => ?_))
  refine wpAny_bind (wpAny_holding (thn (hi pins s1 σ H1 _ I1 q1) fun iv s2 ⟨y, H2, I2, r2, q2⟩ => ?_))
  refine wpAny_bind (wpAny_standAt (wpAny_bind (wpAny_holding (thn (hs pins s2 σ H2 x y v ov iv u _ I2 r1 r2 r q2) fun _ s3 ⟨H3, I3, q3⟩ => ?_))))
  exact wpAny_release ⟨σ, H3, I3, q3⟩
/-- target = value -/
def tAsg (te : TE) (g : TG) : TS := fun D σ H => te σ H fun x H1 => g x σ H1 D.nx
theorem ps_asg {tg e : Expr} {te : TE} {g : TG} (he : PE X e te) (hg : PG X tg g) (hs : swapsWithSole [tg] e pos.line X.env = pure false := by rfl) (hw : swappedStores [tg] e X.env = pure none := by rfl)
    (h1 : (assignEach [tg] X.env).map (·.2) = [assign tg X.env] := by rfl) : PS X (.Assign [tg] e pos) (tAsg te g) := by
  intro pins s σ H D I h
  refine wpAny_Assign_stores (thn (he pins s σ H _ I h) fun v s1 ⟨x, H1, I1, r1, q1⟩ => ?_) hs hw
  rw [h1]
  exact thn (hg pins s1 σ H1 x v _ I1 r1 q1) fun _ s2 q => q
/-- name = value -/
theorem ps_set {i : Nat} {x : Str} {e : Expr} {te : TE} {pos' : Pos} (hN : X.N.Nodup) (hi : X.N[i]? = some x) (hx : Loc X.env.scope x) (he : PE X e te) (hs : swapsWith e (some (.Name x pos')) pos.line X.env = pure false := by rfl) (hf : X.fn x = true ∨ X.env.scope.names.lookup x = some .local := by first | exact .inl rfl | exact .inr rfl | assumption) :
    PS X (.Assign [.Name x pos'] e pos) (tAsg te (gName i)) := by
  intro pins s σ H D I h
  refine wpAny_Assign_Name (thn (he pins s σ H _ I h) fun v s1 ⟨y, H1, I1, r1, q1⟩ => ?_) hs
  exact store_ok I1 hN hi hx r1 (fun s2 I2 => ⟨_, H1, I2, q1⟩) hf
/-- name op= e -/
def tAug (i : Nat) (te : TE) (ti : TIp) : TS := fun D σ H => ∃ x, σ[i]? = some (some x) ∧ te σ H fun y H1 => ti x y H1 fun z H2 => D.nx (σ.set i (some z)) H2
theorem ps_aug {i : Nat} {x : Str} {e : Expr} {te : TE} {op : Operator} {ti : TIp} {pos' : Pos} (hN : X.N.Nodup) (hi : X.N[i]? = some x) (hx : Loc X.env.scope x) (he : PE X e te) (ho : PIp X op ti) (hf : X.fn x = true ∨ X.env.scope.names.lookup x = some .local := by first | exact .inl rfl | exact .inr rfl | assumption) :
    PS X (.AugAssign (.Name x pos') op e pos) (tAug i te ti) := by
  intro pins s σ H D I h
  obtain ⟨v, e1, h⟩ := h
  obtain ⟨m, hn, hl⟩ := I.loc
  have vis : Vis X.env.scope x := by rcases hx with k | k; exact .inl k; exact .inr (.inl k)
  obtain ⟨u, r, l⟩ := hl i x v hi e1 vis
  refine wpAny_AugAssign_Name ?_
  have go : wpAny (model X.prog X.w) X.A (eval e X.env) (fun w s₂ => wpAny (model X.prog X.w) X.A (inplaceOp op u w) (fun r s₃ => wpAny (model X.prog X.w) X.A (storeName X.env x r) (fun _ => SP X pins D .next) X.xe s₃) X.xe s₂) X.xe s := by
    refine thn (he pins s σ H _ I h) fun w s1 ⟨y, H1, I1, r1, q1⟩ => ?_
    refine thn (ho pins s1 σ H1 v y u w _ I1 r r1 q1) fun z s2 ⟨zv, H2, I2, r2, q2⟩ => ?_
    exact store_ok I2 hN hi hx r2 (fun s3 I3 => ⟨_, H2, I3, q2⟩) hf
  rcases l with ⟨hk, hm⟩ | ⟨hk, c, hc, hcell⟩
  · exact wpAny_loadName_local I.ok.kind hk hn hm go
  · rcases hk with hk | hk
    · exact wpAny_loadName_cell I.ok.kind hk hc hcell go
    · rcases hx with k | k
      · have : X.env.scope.names.lookup x = some .free := hk
        rw [k] at this; cases this
      · have : X.env.scope.names.lookup x = some .free := hk
        rw [k] at this; cases this
/-- ints -/
def ipI (f : Int → Int → Int) : TIp := fun x y H Q => ∃ i j, x = .int i ∧ y = .int j ∧ Q (.int (f i j)) H
theorem ip_add : PIp X .Add (ipI fun i j => i + j) := by
  intro pins s σ H x y v u Q I r1 r2 h
  obtain ⟨i, j, e1, e2, q⟩ := h
  subst e1; subst e2
  obtain ⟨t, rfl⟩ := r1
  obtain ⟨t', rfl⟩ := r2
  exact iadd_int ⟨.int _, H, I.tok _, ⟨_, rfl⟩, q⟩
end

/-! ### while -/
section
variable {X : Cx} {pos : Pos}
/-- the invariant W with its measure -/
def tWhile (c : TT) (tb : TS) : TS := fun D σ H => ∃ W : Nat → St → Hp → Prop, (∃ m, W m σ H) ∧ ∀ m σ H, W m σ H →
  c σ H fun b H1 => if b = true then ∃ N : St → Hp → Prop, (∀ σ' H', N σ' H' → ∃ m', m' < m ∧ W m' σ' H') ∧ tb { D with nx := N, ct := N, bk := D.nx } σ H1 else D.nx σ H1
theorem ps_while {c : Expr} {body : List Stmt} {tc : TT} {tb : TS} (hp : PassesOwn (model X.prog X.w) X.A X.env X.xe) (hc : PT X c tc) (hb : PSs X body tb) : PS X (.While c body [] pos) (tWhile tc tb) := by
  intro pins s σ H D I h
  obtain ⟨W, ⟨m0, w0⟩, turn⟩ := h
  refine wpAny_While (codeAny_whileLoop (fun n s' => ∃ σ' H', Inv X pins σ' H' s' ∧ W n σ' H') ?_ m0 ⟨σ, H, I, w0⟩)
  rintro n s1 ⟨σ1, H1, I1, w1⟩
  refine wpAny_passesOwn hp (thn (hc pins s1 σ1 H1 _ I1 (turn n σ1 H1 w1)) fun b s2 ⟨H2, I2, q2⟩ => ?_)
  cases b with
  | true =>
    obtain ⟨N, hN, q2⟩ := q2
    rw [if_pos rfl]
    refine wpAny_passesOwn hp (thn (hb pins s2 σ1 H2 _ I2 q2) fun f s3 q3 => ?_)
    cases f with
    | next =>
      obtain ⟨σ3, H3, I3, n3⟩ := q3
      obtain ⟨m', hm, w3⟩ := hN σ3 H3 n3
      exact ⟨m', hm, σ3, H3, I3, w3⟩
    | cont =>
      obtain ⟨σ3, H3, I3, n3⟩ := q3
      obtain ⟨m', hm, w3⟩ := hN σ3 H3 n3
      exact ⟨m', hm, σ3, H3, I3, w3⟩
    | brk => exact q3
    | ret v => exact q3
  | false =>
    rw [if_neg Bool.false_ne_true]
    exact wpAny_execs_nil ⟨σ1, H2, I2, q2⟩
end

/-! ### what a loop or a comprehension walks -/
/-- at turn i: it yields x (the heap may grow), or it stops -/
structure It where
  go : Nat → Hp → Prop
  yld : Nat → Hp → V → Hp → Prop
  stop : Nat → Hp → Prop
/-- the iterator's own objects may turn: they are not the frame's, not pinned, younger than the entry (or a comprehension's own) -/
def FpOk (X : Cx) (pins : List (Addr × Obj)) (H : Hp) (b : Addr) : Prop :=
  H b = none ∧ b ≠ X.env.locals ∧ b ∉ X.fs ∧ (b ∈ X.ex ∨ X.s₀.heap.objs.size ≤ b) ∧ (∀ x c, X.env.cells.lookup x = some c → c ≠ b) ∧ ∀ p ∈ X.pn ++ pins, p.1 ≠ b
theorem Inv.fpOk {X : Cx} {pins : List (Addr × Obj)} {σ : St} {H H' : Hp} {s : Shared} {b : Addr} (I : Inv X pins σ H s) (hb : s.heap.objs.size ≤ b) (hn : H' b = none) : FpOk X pins H' b := by
  refine ⟨hn, Nat.ne_of_gt (Nat.lt_of_lt_of_le I.lt hb), I.nofs hb, .inr (Nat.le_trans I.sz hb), fun x c e z => ?_, fun p hp z => ?_⟩
  · obtain ⟨v, q⟩ := I.cell x c e
    exact absurd (Nat.lt_of_lt_of_le q.lt (by rw [z]; exact hb)) (Nat.lt_irrefl _)
  · exact absurd (Nat.lt_of_lt_of_le (Heap.lt_size (I.pin p hp).1) (by rw [z]; exact hb)) (Nat.lt_irrefl _)
structure Turn (P : Program) (w : World) (K : PySem.W.Frag) (tg : Expr) (J : It) (fp : List Addr) (it : Addr) (tn : Nat → Heap → Prop) : Prop where
  mem : it ∈ fp
  obj : ∀ i h, tn i h → ∀ b ∈ fp, ∃ o, h.get? b = some o ∧ ∀ v, o.data ≠ .cell v
  keep : ∀ i h h', tn i h → (∀ b ∈ fp, ∀ o, h.get? b = some o → h'.get? b = some o) → tn i h'
  item : ∀ (X : Cx), X.prog = P → X.w = w → X.K = K → X.calm = true → ∀ (i : Nat) (pins : List (Addr × Obj)) (s : Shared) (σ : St) (H : Hp) (E : Value → Shared → Prop), Inv X pins σ H s → (∀ b ∈ fp, FpOk X pins H b) → tn i s.heap → J.go i H →
    wpAny (model P w) X.A (pyNext (.ref it)) (fun r s1 => ∃ u, r = some u ∧
      wpAny (model P w) X.A (letOwnedTupleGo tg (.ref it) u) (fun _ s2 => ∃ x H', Inv X pins σ H' s2 ∧ RelV x u ∧ J.yld i H x H' ∧ tn (i + 1) s2.heap ∧ ∀ b ∈ fp, H' b = none) E s1) E s
  done : ∀ (X : Cx), X.prog = P → X.w = w → X.K = K → X.calm = true → ∀ (i : Nat) (pins : List (Addr × Obj)) (s : Shared) (σ : St) (H : Hp) (E : Value → Shared → Prop), Inv X pins σ H s → (∀ b ∈ fp, FpOk X pins H b) → tn i s.heap → J.stop i H →
    wpAny (model P w) X.A (pyNext (.ref it)) (fun r s1 => r = none ∧ Inv X pins σ H s1) E s
  self : ∀ (A : Around) (i : Nat) (s : Shared) (Q : Value → Shared → Prop) (E : Value → Shared → Prop), tn i s.heap → Q (.ref it) s → wpAny (model P w) A (pyIter (.ref it)) Q E s
abbrev TI := St → Hp → (It → Hp → Prop) → Prop
/-- an iterator has come -/
def PIE (X : Cx) (pins : List (Addr × Obj)) (σ : St) (tg : Expr) (R : It → Hp → Prop) (itv : Value) (s2 : Shared) : Prop :=
  ∃ (it : Addr) (fp : List Addr) (tn : Nat → Heap → Prop) (J : It) (H' : Hp), itv = .ref it ∧ Inv X pins σ H' s2 ∧ Turn X.prog X.w X.K tg J fp it tn ∧ tn 0 s2.heap ∧ (∀ b ∈ fp, FpOk X pins H' b) ∧ R J H'
def PI (X : Cx) (tg iter : Expr) (wi : TI) : Prop :=
  ∀ (pins : List (Addr × Obj)) (s : Shared) (σ : St) (H : Hp) (R : It → Hp → Prop), Inv X pins σ H s → wi σ H R →
    wpAny (model X.prog X.w) X.A (eval iter X.env) (fun v s1 => wpAny (model X.prog X.w) X.A (pyIter v) (PIE X pins σ tg R) X.xe s1) X.xe s

/-- the step ahead of the store is nothing for an iterator that keeps no tuple -/
theorem go_of {M : Model} {A : Around} {E : Value → Shared → Prop} {s : Shared} {tg : Expr} {it : Addr} {u : Value} {o : Obj} {n : String} {vs : Array Value} {Q : Unit → Shared → Prop} (ho : s.heap.get? it = some o) (hc : o.cls = .type n) (hd : o.data = .fields vs)
    (hn : ["enumerate", "zip", "dict_itemiterator", "dict_reverseitemiterator", "odict_iterator", "itertools.zip_longest", "itertools.pairwise"].contains n = false) (hQ : Q () s) : wpAny M A (letOwnedTupleGo tg (.ref it) u) Q E s := by
  unfold letOwnedTupleGo
  cases tg <;> first
    | exact wpAny_pure hQ
    | (cases u <;> first
        | exact wpAny_pure hQ
        | (refine wpAny_bind (wpAny_load ho ?_)
           rw [hc, hd]
           show wpAny M A (if (["enumerate", "zip", "dict_itemiterator", "dict_reverseitemiterator", "odict_iterator", "itertools.zip_longest", "itertools.pairwise"].contains n && vs[0]? == some (rawInt _)) = true then _ else _) Q E s
           rw [if_neg (by intro h; rw [hn, Bool.false_and] at h; cases h)]
           exact wpAny_pure hQ))

/-- the list at a, as it stands at each turn (a loop may append to it) -/
def Itl (K : PySem.W.Frag) (a : Addr) : It :=
  ⟨fun i H => ∃ xs x, SqL K H a xs ∧ xs[i]? = some x, fun i H x H' => H' = H ∧ ∀ xs, SqL K H a xs → xs[i]? = some x, fun i H => ∃ xs, SqL K H a xs ∧ xs.length ≤ i⟩
/-- lo, lo + 1, .. (n of them) -/
def Itr (lo : Int) (n : Nat) : It := ⟨fun i _ => i < n, fun i H x H' => H' = H ∧ x = .int (lo + i), fun i _ => n ≤ i⟩
theorem turn_list {P : Program} {w : World} {K : PySem.W.Frag} {tg : Expr} (a it : Addr) : Turn P w K tg (Itl K a) [it] it (fun i h => h.IsListIter it a i) where
  mem := by simp
  obj := fun i h st b hb => by
    have e : b = it := by simpa using hb
    subst e
    obtain ⟨o, e, c, d⟩ := st
    exact ⟨o, e, fun v z => by rw [d] at z; cases z⟩
  keep := fun i h h' st k => st.at fun o e => k it (by simp) o e
  item := by
    intro X hP hw hK hc i pins s σ H E I hf st hg
    subst hP hw hK
    obtain ⟨xs, x, hq, hx⟩ := hg
    obtain ⟨its, rv, p, hz⟩ := I.list hq
    obtain ⟨u, hu, ru⟩ := rv.get hx
    obtain ⟨f0, f1, f2, f3, f4, f5⟩ := hf it (by simp)
    refine wpAny_pyNext_list_item st p.isList (x := u) (by simpa using hu) fun h' st' sb => ?_
    have I1 : Inv X pins σ H { s with heap := h' } := I.turned (t' := s.toks) (fun b o hb e => (sb.2 b hb).trans e) f0 f1 f3 f4 f5
    obtain ⟨o, e, c, d⟩ := id st'
    exact ⟨u, rfl, go_of (s := { s with heap := h' }) e c d (by decide) ⟨x, H, I1, ru, ⟨rfl, fun ys hy => by rw [I.list_inj hy hq]; exact hx⟩, st', fun b hb => (hf b hb).1⟩⟩
  done := by
    intro X hP hw hK hc i pins s σ H E I hf st hg
    subst hP hw hK
    obtain ⟨xs, hq, hx⟩ := hg
    obtain ⟨its, rv, p, hz⟩ := I.list hq
    obtain ⟨f0, f1, f2, f3, f4, f5⟩ := hf it (by simp)
    have hl := rv.length
    exact wpAny_pyNext_list_end (I.ok.hd hc) st p.isList (by simp; omega) fun h' eb => ⟨rfl, I.turned (t' := s.toks) (fun b o hb e => eb b o hb e) f0 f1 f3 f4 f5⟩
  self := fun _ _ _ _ _ st h => wpAny_pyIter_listiter st h
theorem turn_range {P : Program} {w : World} {K : PySem.W.Frag} {tg : Expr} (it : Addr) (lo : Int) (n : Nat) : Turn P w K tg (Itr lo n) [it] it (fun i h => IsRangeIter h it (lo + (i : Nat) * 1) ((n : Int) - (i : Nat)) 1) where
  mem := by simp
  obj := fun i h st b hb => by
    have e : b = it := by simpa using hb
    subst e
    exact ⟨_, st, fun v z => by
      have z' : Data.fields _ = Data.cell v := z
      cases z'⟩
  keep := fun i h h' st k => k it (by simp) _ st
  item := by
    intro X hP hw hK hc i pins s σ H E I hf st hg
    subst hP hw hK
    obtain ⟨f0, f1, f2, f3, f4, f5⟩ := hf it (by simp)
    have W := Walks.range (prog := X.prog) (w := X.w) (I.ok.hd hc) it lo 1 n
    refine W.item i s _ _ hg st fun v h' tk hv st' kk => ?_
    obtain ⟨t, rfl⟩ := hv
    have I1 : Inv X pins σ H { s with heap := h', toks := tk } := I.turned (fun b o hb e => kk b o (by simpa using hb) e) f0 f1 f3 f4 f5
    refine ⟨_, rfl, go_of (s := { s with heap := h', toks := tk }) (n := "range_iterator") st' rfl rfl (by decide) ⟨.int (lo + i), H, I1, ⟨t, ?_⟩, ⟨rfl, rfl⟩, st', fun b hb => (hf b hb).1⟩⟩
    rw [Int.mul_one]
  done := by
    intro X hP hw hK hc i pins s σ H E I hf st hg
    subst hP hw hK
    obtain ⟨f0, f1, f2, f3, f4, f5⟩ := hf it (by simp)
    exact wpAny_pyNext_range_end (I.ok.hd hc) st (by have : n ≤ i := hg; omega) fun h' eb => ⟨rfl, I.turned (t' := s.toks) (fun b o hb e => eb b o hb e) f0 f1 f3 f4 f5⟩
  self := fun _ _ _ _ _ st h => wpAny_pyIter_rangeiter st h
end L2

namespace L2
open PySem PySem.Spec PyProof.Rows
section
variable {X : Cx} {tg : Expr}
def iList (K : PySem.W.Frag) (tl : TE) : TI := fun σ H R => tl σ H fun x H1 => ∃ a, x = .ref a ∧ (∃ xs, SqL K H1 a xs) ∧ R (Itl K a) H1
theorem pi_list {l : Expr} {tl : TE} (hl : PE X l tl) : PI X tg l (iList X.K tl) := by
  intro pins s σ H R I h
  refine thn (hl pins s σ H _ I h) fun v s1 ⟨x, H1, I1, r1, q1⟩ => ?_
  obtain ⟨a, e, ⟨xs, hq⟩, q⟩ := q1
  subst e
  cases r1
  obtain ⟨its, rv, p, hz⟩ := I1.list hq
  refine wpAny_pyIter_list p.isList ?_
  refine ⟨s1.heap.objs.size, [s1.heap.objs.size], _, _, H1, rfl, I1.kept (t' := s1.toks) fun b o e => Heap.get?_push_of_some _ e, turn_list a _, ⟨_, Heap.get?_push_size _ rfl, rfl, rfl⟩, fun b hb => ?_, q⟩
  have e : b = s1.heap.objs.size := by simpa using hb
  subst e
  exact I1.fpOk (Nat.le_refl _) (I1.hok.fresh (Nat.le_refl _))
/-- a range object just made, walked -/
theorem range_it {pins : List (Addr × Obj)} {σ : St} {H : Hp} {s : Shared} {R : It → Hp → Prop} {E : Value → Shared → Prop} {lo hi : Int} {t u v : Tok} {tk : Nat} (I : Inv X pins σ H s) (h1 : -(2 ^ 62) ≤ lo) (h2 : lo < 2 ^ 62) (h3 : -(2 ^ 62) ≤ hi) (h4 : hi < 2 ^ 62)
    (q : R (Itr lo (hi - lo).toNat) H) : wpAny (model X.prog X.w) X.A (pyIter (.ref s.heap.objs.size)) (PIE X pins σ tg R) E { s with heap := s.heap.push { cls := .type "range", data := .fields #[.int lo t, .int hi u, .int 1 v] }, toks := tk } := by
  refine wpAny_pyIter_range (IsRange.new ..) (small_one h1 h2 h3 h4) ?_
  have I1 : Inv X pins σ H { s with heap := s.heap.push { cls := .type "range", data := .fields #[.int lo t, .int hi u, .int 1 v] }, toks := tk } := I.kept fun b o e => Heap.get?_push_of_some _ e
  refine ⟨(s.heap.push { cls := .type "range", data := .fields #[.int lo t, .int hi u, .int 1 v] }).objs.size, [(s.heap.push { cls := .type "range", data := .fields #[.int lo t, .int hi u, .int 1 v] }).objs.size], _, _, H, rfl,
    I1.kept (t' := tk) fun b o e => Heap.get?_push_of_some _ e, turn_range _ lo (hi - lo).toNat, ?_, fun b hb => ?_, q⟩
  · have e1 : lo + ((0 : Nat) : Int) * 1 = lo := by simp
    have e2 : (((hi - lo).toNat : Nat) : Int) - ((0 : Nat) : Int) = Builtin.Range.rangeSize lo hi 1 := by rw [rangeSize_one]; split <;> omega
    show IsRangeIter _ _ (lo + ((0 : Nat) : Int) * 1) ((((hi - lo).toNat : Nat) : Int) - ((0 : Nat) : Int)) 1
    rw [e1, e2]
    exact Heap.get?_push_size _ rfl
  · have e : b = (s.heap.push { cls := .type "range", data := .fields #[.int lo t, .int hi u, .int 1 v] }).objs.size := by simpa using hb
    subst e
    exact I1.fpOk (Nat.le_refl _) (I1.hok.fresh (Nat.le_refl _))
def iRng1 (ta : TA) : TI := fun σ H R => ta σ H fun vs H1 => ∃ j : Int, vs = [.int j] ∧ -(2 ^ 62) ≤ j ∧ j < 2 ^ 62 ∧ R (Itr 0 j.toNat) H1
theorem pi_range1 {a : Expr} {ta : TA} {p pos : Pos} (hg : Gl X "range") (hm : X.mg "range" = none) (ha : PA X [a] ta) (hs : starEach [a] X.env = [(false, eval a X.env)] := by rfl) : PI X tg (.Call (.Name "range" p) [a] [] pos) (iRng1 ta) := by
  intro pins s σ H R I h
  refine Call_ (ld_blt I hg hm boot_range (PyProof.Rows.callWith_type1 (thn (ha pos pins s σ H _ I h) fun us s1 ⟨vs, H1, I1, r1, q1⟩ => ?_) hs rfl))
  obtain ⟨j, e, q1, q2, q⟩ := q1
  subst e
  cases r1 with
  | cons r rr =>
    cases rr
    obtain ⟨t, rfl⟩ := r
    exact call_range_1 (range_it I1 (by omega) (by omega) q1 q2 (by simpa using q))
/-! ### for -/
/-- W: the invariant by the turn and a measure; N: what the body is to reach -/
def tFor (wi : TI) (g : TG) (tb : TS) : TS := fun D σ H => wi σ H fun J H1 => ∃ W : Nat → Nat → St → Hp → Prop, (∃ m, W 0 m σ H1) ∧ ∀ i m σ H, W i m σ H →
  (J.stop i H ∧ D.nx σ H) ∨ (J.go i H ∧ ∃ N : St → Hp → Prop, (∀ σ' H', N σ' H' → ∃ m', m' < m ∧ W (i + 1) m' σ' H') ∧ ∀ x H', J.yld i H x H' → g x σ H' fun σ2 H2 => tb { D with nx := N, ct := N, bk := D.nx } σ2 H2)
/-- the records at fp as they stand -/
def pinsAt (fp : List Addr) (h : Heap) : List (Addr × Obj) := fp.filterMap fun b => (h.get? b).map fun o => (b, o)
theorem mem_pinsAt {fp : List Addr} {h : Heap} {b : Addr} {o : Obj} (hb : b ∈ fp) (e : h.get? b = some o) : (b, o) ∈ pinsAt fp h := List.mem_filterMap.mpr ⟨b, hb, by rw [e]; rfl⟩
theorem of_pinsAt {fp : List Addr} {h : Heap} {p : Addr × Obj} (hp : p ∈ pinsAt fp h) : p.1 ∈ fp ∧ h.get? p.1 = some p.2 := by
  obtain ⟨b, hb, e⟩ := List.mem_filterMap.mp hp
  cases q : h.get? b with
  | none => rw [q] at e; cases e
  | some o =>
    rw [q] at e
    have e' : (b, o) = p := Option.some.inj e
    subst e'
    exact ⟨hb, q⟩
theorem Inv.pinned {pins : List (Addr × Obj)} {σ : St} {H : Hp} {s : Shared} {fp : List Addr} (I : Inv X pins σ H s) (hf : ∀ b ∈ fp, FpOk X pins H b) (ho : ∀ b ∈ fp, ∃ o, s.heap.get? b = some o ∧ ∀ v, o.data ≠ .cell v) : Inv X (pins ++ pinsAt fp s.heap) σ H s :=
  I.pins_of fun p hp => (List.mem_append.mp hp).elim (fun z => I.pin p (List.mem_append_right _ z)) fun z => by
    obtain ⟨hb, e⟩ := of_pinsAt z
    obtain ⟨f0, f1, f2, _⟩ := hf p.1 hb
    obtain ⟨o, e', d⟩ := ho p.1 hb
    rw [e] at e'; cases e'
    exact ⟨e, f0, f1, f2, d⟩
theorem Inv.unpinned {pins pl : List (Addr × Obj)} {σ : St} {H : Hp} {s : Shared} (I : Inv X (pins ++ pl) σ H s) : Inv X pins σ H s := I.pins_of fun p hp => I.pin p (List.mem_append_right _ (List.mem_append_left _ hp))
theorem ps_for {iter : Expr} {body : List Stmt} {wi : TI} {g : TG} {tb : TS} {pos : Pos} (hp : PassesOwn (model X.prog X.w) X.A X.env X.xe) (hc : X.calm = true) (hi : PI X tg iter wi) (hg : PG X tg g) (hb : PSs X body tb)
    (hs : ∀ x, foldedSetIterable iter X.env x = pure x := by intro _; rfl) : PS X (.For tg iter body [] pos) (tFor wi g tb) := by
  intro pins s σ H D I h
  refine wpAny_For (thn (hi pins s σ H _ I h) fun v s1 h1 => thn h1 fun itv s2 h2 => ?_) hs
  obtain ⟨it, fp, tn, J, H2, e, I2, T, st2, f2, W, ⟨m0, w0⟩, turn⟩ := h2
  subst e
  -- what stays true of the iterator's objects through the loop
  have stat : ∀ {H' : Hp}, (∀ b ∈ fp, H' b = none) → ∀ b ∈ fp, FpOk X pins H' b := fun hn b hb => ⟨hn b hb, (f2 b hb).2⟩
  refine codeAny_forLoop_any (fun n s' => ∃ i σ' H', Inv X pins σ' H' s' ∧ tn i s'.heap ∧ (∀ b ∈ fp, H' b = none) ∧ W i n σ' H') ?_ m0 ⟨0, σ, H2, I2, st2, fun b hb => (f2 b hb).1, w0⟩
  rintro n s3 ⟨i, σ3, H3, I3, st3, fr3, w3⟩
  rcases turn i n σ3 H3 w3 with ⟨stop, qn⟩ | ⟨go, N, hN, step⟩
  · refine wpAny_passesOwn hp (thn (T.done X rfl rfl rfl hc i pins s3 σ3 H3 X.xe I3 (stat fr3) st3 stop) fun r s4 ⟨hr, I4⟩ => ?_)
    subst hr
    exact wpAny_execs_nil ⟨σ3, H3, I4, qn⟩
  · refine wpAny_passesOwn hp (thn (T.item X rfl rfl rfl hc i pins s3 σ3 H3 X.xe I3 (stat fr3) st3 go) fun r s4 ⟨u, hr, h4⟩ => ?_)
    subst hr
    refine wpAny_passesOwn hp (thn h4 fun _ s5 ⟨x, H5, I5, r5, y5, st5, fr5⟩ => ?_)
    have I5' := I5.pinned (stat fr5) (T.obj _ _ st5)
    refine wpAny_passesOwn hp (thn (hg _ s5 σ3 H5 x u _ I5' r5 (step x H5 y5)) fun _ s6 ⟨σ6, H6, I6, q6⟩ => ?_)
    refine wpAny_passesOwn hp (thn (hb _ s6 σ6 H6 _ I6 q6) fun f s7 q7 => ?_)
    have again : ∀ {σ7 : St} {H7 : Hp}, Inv X (pins ++ pinsAt fp s5.heap) σ7 H7 s7 → N σ7 H7 → ∃ m, m < n ∧ ∃ i σ' H', Inv X pins σ' H' s7 ∧ tn i s7.heap ∧ (∀ b ∈ fp, H' b = none) ∧ W i m σ' H' := fun {σ7 H7} I7 n7 => by
      obtain ⟨m', hm, w7⟩ := hN σ7 H7 n7
      refine ⟨m', hm, i + 1, σ7, H7, I7.unpinned, T.keep _ _ _ st5 fun b hb o e => (I7.pin (b, o) (List.mem_append_right _ (List.mem_append_right _ (mem_pinsAt hb e)))).1, fun b hb => ?_, w7⟩
      obtain ⟨o, e, d⟩ := T.obj _ _ st5 b hb
      exact (I7.pin (b, o) (List.mem_append_right _ (List.mem_append_right _ (mem_pinsAt hb e)))).2.1
    cases f with
    | next => obtain ⟨σ7, H7, I7, n7⟩ := q7; exact again I7 n7
    | cont => obtain ⟨σ7, H7, I7, n7⟩ := q7; exact again I7 n7
    | brk => obtain ⟨σ7, H7, I7, q7⟩ := q7; exact ⟨σ7, H7, I7.unpinned, q7⟩
    | ret v => obtain ⟨x7, σ7, H7, I7, r7, q7⟩ := q7; exact ⟨x7, σ7, H7, I7.unpinned, r7, q7⟩
end

/-! ### the forms one uses -/
/-- over a list that the body leaves as it is -/
theorem for_list {K : PySem.W.Frag} {a : Addr} {xs : List V} {g : TG} {tb : TS} {D : Ends} {σ : St} {H : Hp} (Pv : Nat → St → Hp → Prop) (h0 : Pv 0 σ H) (hl : ∀ i σ H, i ≤ xs.length → Pv i σ H → SqL K H a xs)
    (hs : ∀ i x σ H, xs[i]? = some x → Pv i σ H → g x σ H fun σ2 H2 => tb { D with nx := Pv (i + 1), ct := Pv (i + 1), bk := D.nx } σ2 H2) (hd : ∀ σ H, Pv xs.length σ H → D.nx σ H) :
    ∃ W : Nat → Nat → St → Hp → Prop, (∃ m, W 0 m σ H) ∧ ∀ i m σ H, W i m σ H →
      ((Itl K a).stop i H ∧ D.nx σ H) ∨ ((Itl K a).go i H ∧ ∃ N : St → Hp → Prop, (∀ σ' H', N σ' H' → ∃ m', m' < m ∧ W (i + 1) m' σ' H') ∧ ∀ x H', (Itl K a).yld i H x H' → g x σ H' fun σ2 H2 => tb { D with nx := N, ct := N, bk := D.nx } σ2 H2) := by
  refine ⟨fun i m σ H => m = xs.length - i ∧ i ≤ xs.length ∧ Pv i σ H, ⟨xs.length, by simp, Nat.zero_le _, h0⟩, ?_⟩
  rintro i m σ H ⟨rfl, hi, p⟩
  have q := hl i σ H hi p
  by_cases hlt : i < xs.length
  · refine .inr ⟨⟨xs, xs[i], q, by simp [hlt]⟩, Pv (i + 1), fun σ' H' p' => ⟨xs.length - (i + 1), by omega, rfl, hlt, p'⟩, fun x H' y => ?_⟩
    obtain ⟨e, y⟩ := y
    subst e
    exact hs i x σ _ (y xs q) p
  · have e : i = xs.length := by omega
    subst e
    exact .inl ⟨⟨xs, q, Nat.le_refl _⟩, hd σ H p⟩
theorem for_range {lo : Int} {n : Nat} {g : TG} {tb : TS} {D : Ends} {σ : St} {H : Hp} (Pv : Nat → St → Hp → Prop) (h0 : Pv 0 σ H)
    (hs : ∀ i σ H, i < n → Pv i σ H → g (.int (lo + i)) σ H fun σ2 H2 => tb { D with nx := Pv (i + 1), ct := Pv (i + 1), bk := D.nx } σ2 H2) (hd : ∀ σ H, Pv n σ H → D.nx σ H) :
    ∃ W : Nat → Nat → St → Hp → Prop, (∃ m, W 0 m σ H) ∧ ∀ i m σ H, W i m σ H →
      ((Itr lo n).stop i H ∧ D.nx σ H) ∨ ((Itr lo n).go i H ∧ ∃ N : St → Hp → Prop, (∀ σ' H', N σ' H' → ∃ m', m' < m ∧ W (i + 1) m' σ' H') ∧ ∀ x H', (Itr lo n).yld i H x H' → g x σ H' fun σ2 H2 => tb { D with nx := N, ct := N, bk := D.nx } σ2 H2) := by
  refine ⟨fun i m σ H => m = n - i ∧ i ≤ n ∧ Pv i σ H, ⟨n, by simp, Nat.zero_le _, h0⟩, ?_⟩
  rintro i m σ H ⟨rfl, hi, p⟩
  by_cases hlt : i < n
  · refine .inr ⟨hlt, Pv (i + 1), fun σ' H' p' => ⟨n - (i + 1), by omega, rfl, hlt, p'⟩, fun x H' y => ?_⟩
    obtain ⟨e, y⟩ := y
    subst e y
    exact hs i σ _ hlt p
  · have e : i = n := by omega
    subst e
    exact .inl ⟨Nat.le_refl _, hd σ H p⟩
/-- while, by a word and a measure of the state -/
theorem while_by {c : TT} {tb : TS} {D : Ends} {σ : St} {H : Hp} (Pv : St → Hp → Prop) (μ : St → Hp → Nat) (h0 : Pv σ H)
    (hs : ∀ σ H, Pv σ H → c σ H fun b H1 => if b = true then tb { D with nx := fun σ' H' => Pv σ' H' ∧ μ σ' H' < μ σ H, ct := fun σ' H' => Pv σ' H' ∧ μ σ' H' < μ σ H, bk := D.nx } σ H1 else D.nx σ H1)
    (mono : ∀ σ H Q Q', (∀ b H1, Q b H1 → Q' b H1) → c σ H Q → c σ H Q') : tWhile c tb D σ H := by
  refine ⟨fun m σ H => m = μ σ H ∧ Pv σ H, ⟨_, rfl, h0⟩, ?_⟩
  rintro m σ H ⟨rfl, p⟩
  refine mono σ H _ _ (fun b H1 q => ?_) (hs σ H p)
  cases b with
  | true => exact ⟨_, fun σ' H' ⟨p', l⟩ => ⟨_, l, rfl, p'⟩, q⟩
  | false => exact q
end L2

namespace L2
open PySem PySem.Spec PyProof.Rows

abbrev R2 := V → V → Hp → VK → Prop
/-- a two-place operation on values: f is binaryOp op, inplaceOp op or compareOp op -/
def OpR (X : Cx) (f : Value → Value → Sem Value) (r : R2) : Prop :=
  ∀ (pins : List (Addr × Obj)) (s : Shared) (σ : St) (H : Hp) (x y : V) (v u : Value) (Q : VK), Inv X pins σ H s → RelV x v → RelV y u → r x y H Q →
    wpAny (model X.prog X.w) X.A (f v u) (EP X pins σ Q) X.xe s
/-- a call of a value that is known (a builtin, a type) with values -/
def CallR (X : Cx) (f : Value) (r : List V → Hp → VK → Prop) : Prop :=
  ∀ (pins : List (Addr × Obj)) (s : Shared) (σ : St) (H : Hp) (xs : List V) (us : List Value) (Q : VK), Inv X pins σ H s → Vals xs us → r xs H Q →
    wpAny (model X.prog X.w) X.A (call f us) (EP X pins σ Q) X.xe s
/-- a value's truth -/
def TruR (X : Cx) (r : V → Hp → (Bool → Hp → Prop) → Prop) : Prop :=
  ∀ (pins : List (Addr × Obj)) (s : Shared) (σ : St) (H : Hp) (x : V) (v : Value) (Q : Bool → Hp → Prop), Inv X pins σ H s → RelV x v → r x H Q →
    wpAny (model X.prog X.w) X.A (truthy v) (TP X pins σ Q) X.xe s

def tOp (r : R2) (ta tb : TE) : TE := fun σ H Q => ta σ H fun x H1 => tb σ H1 fun y H2 => r x y H2 Q
/-- ints in, under C, and a value out -/
def rI (C : Int → Int → Prop) (g : Int → Int → V) : R2 := fun x y H Q => ∃ i j, x = .int i ∧ y = .int j ∧ C i j ∧ Q (g i j) H
def rI0 (g : Int → Int → V) : R2 := fun x y H Q => ∃ i j, x = .int i ∧ y = .int j ∧ Q (g i j) H
section
variable {X : Cx} {a b c : Expr} {ta tb tc : TE} {pos : Pos}

theorem binT (ha : PE X a ta) (hb : PE X b tb) {pins : List (Addr × Obj)} {s : Shared} {σ : St} {H : Hp} {R : V → V → Hp → Prop} (I : Inv X pins σ H s)
    (h : ta σ H fun x H1 => tb σ H1 fun y H2 => R x y H2) {Q : Value → Shared → Prop} {f : Value → Value → Sem Value}
    (hf : ∀ v u s2 x y H2, Inv X pins σ H2 s2 → RelV x v → RelV y u → R x y H2 → wpAny (model X.prog X.w) X.A (f v u) Q X.xe s2) :
    wpAny (model X.prog X.w) X.A (eval a X.env) (fun v s₁ => wpAny (model X.prog X.w) X.A (eval b X.env) (fun u s₂ => wpAny (model X.prog X.w) X.A (f v u) Q X.xe s₂) X.xe s₁) X.xe s := by
  refine thn (ha pins s σ H _ I h) fun v s1 ⟨x, H1, I1, r1, q1⟩ => ?_
  refine thn (hb pins s1 σ H1 _ I1 q1) fun u s2 ⟨y, H2, I2, r2, q2⟩ => ?_
  exact hf v u s2 x y H2 I2 r1 r2 q2

theorem pe_op {op : Operator} {r : R2} (ho : OpR X (binaryOp op) r) (ha : PE X a ta) (hb : PE X b tb) : PE X (.BinOp a op b pos) (tOp r ta tb) := by
  intro pins s σ H Q I h
  exact wpAny_BinOp (binT ha hb I h fun v u s2 x y H2 I2 rx ry q => ho pins s2 σ H2 x y v u Q I2 rx ry q)
/-! ### ints -/
theorem opI {f : Value → Value → Sem Value} {C : Int → Int → Prop} {g : Int → Int → Int}
    (rule : ∀ (i j : Int) (t u : Tok) (s : Shared) (Q : Value → Shared → Prop) (E : Value → Shared → Prop), C i j → Q (.int (g i j) s.toks) { s with toks := s.toks + 1 } → wpAny (model X.prog X.w) X.A (f (.int i t) (.int j u)) Q E s) :
    OpR X f (rI C fun i j => .int (g i j)) := by
  intro pins s σ H x y v u Q I rx ry h
  obtain ⟨i, j, rfl, rfl, hc, q⟩ := h
  obtain ⟨t, rfl⟩ := rx
  obtain ⟨t', rfl⟩ := ry
  exact rule i j t t' s _ _ hc ⟨.int (g i j), H, I.tok _, ⟨_, rfl⟩, q⟩
theorem opI0 {f : Value → Value → Sem Value} {g : Int → Int → Int}
    (rule : ∀ (i j : Int) (t u : Tok) (s : Shared) (Q : Value → Shared → Prop) (E : Value → Shared → Prop), Q (.int (g i j) s.toks) { s with toks := s.toks + 1 } → wpAny (model X.prog X.w) X.A (f (.int i t) (.int j u)) Q E s) :
    OpR X f (rI0 fun i j => .int (g i j)) := by
  intro pins s σ H x y v u Q I rx ry h
  obtain ⟨i, j, rfl, rfl, q⟩ := h
  obtain ⟨t, rfl⟩ := rx
  obtain ⟨t', rfl⟩ := ry
  exact rule i j t t' s _ _ ⟨.int (g i j), H, I.tok _, ⟨_, rfl⟩, q⟩
theorem opB0 {f : Value → Value → Sem Value} {g : Int → Int → Bool}
    (rule : ∀ (i j : Int) (t u : Tok) (s : Shared) (Q : Value → Shared → Prop) (E : Value → Shared → Prop), Q (.bool (g i j)) s → wpAny (model X.prog X.w) X.A (f (.int i t) (.int j u)) Q E s) :
    OpR X f (rI0 fun i j => .bl (g i j)) := by
  intro pins s σ H x y v u Q I rx ry h
  obtain ⟨i, j, rfl, rfl, q⟩ := h
  obtain ⟨t, rfl⟩ := rx
  obtain ⟨t', rfl⟩ := ry
  exact rule i j t t' s _ _ ⟨.bl (g i j), H, I, rfl, q⟩

def CDiv (i j : Int) : Prop := 0 < j ∧ j < 1073741824
def CMul (i j : Int) : Prop := (-(2 ^ 64) < i ∧ i < 2 ^ 64) ∨ (-(2 ^ 64) < j ∧ j < 2 ^ 64)
theorem CMul.ok {i j : Int} (h : CMul i j) : IntMulOk i j := by
  rcases h with ⟨h1, h2⟩ | ⟨h1, h2⟩
  · exact .of_left (intBits_le_64 h1 h2)
  · exact .of_right (intBits_le_64 h1 h2)
theorem op_add : OpR X (binaryOp .Add) (rI0 fun i j => .int (i + j)) := opI0 fun _ _ _ _ _ _ _ q => add_int q
theorem op_sub : OpR X (binaryOp .Sub) (rI0 fun i j => .int (i - j)) := opI0 fun _ _ _ _ _ _ _ q => sub_int q
theorem op_mul : OpR X (binaryOp .Mult) (rI CMul fun i j => .int (i * j)) := opI fun _ _ _ _ _ _ _ hc q => mul_int q hc.ok
/-- // by a positive divisor -/
theorem op_fdiv : OpR X (binaryOp .FloorDiv) (rI CDiv fun i j => .int (i / j)) := opI fun i j _ _ _ _ _ hc q => by
  have h1 : (0 : Int) < j := hc.1
  have h2 : j < 1073741824 := hc.2
  exact floordiv_int (by omega) (by rw [Int.fdiv_eq_ediv_of_nonneg i (by omega)]; exact q) (.inl (PyProof.noPylong_small (by omega)))
/-- % by a positive divisor of any size -/
theorem op_mod : OpR X (binaryOp .Mod) (rI (fun _ j => 0 < j) fun i j => .int (i % j)) := opI fun i j _ _ _ _ _ hc q => by
  have h1 : (0 : Int) < j := hc
  exact mod_int' (by omega) (by rw [Int.fmod_eq_emod_of_nonneg i (by omega)]; exact q)
theorem iop_fdiv : OpR X (inplaceOp .FloorDiv) (rI CDiv fun i j => .int (i / j)) := opI fun i j _ _ _ _ _ hc q => by
  have h1 : (0 : Int) < j := hc.1
  have h2 : j < 1073741824 := hc.2
  exact ifloordiv_int (by omega) (by rw [Int.fdiv_eq_ediv_of_nonneg i (by omega)]; exact q) (.inl (PyProof.noPylong_small (by omega)))
/-! ### bools among ints: n += (a < b) -/
end

/-! ### comparisons -/
/-- the scalars that == tells apart as data does -/
def scal : V → V → Bool
  | .non, .non => true | .non, .int _ => true | .int _, .non => true | .non, .bl _ => true | .bl _, .non => true | .non, .str _ => true | .str _, .non => true
  | .int _, .int _ => true | .bl _, .bl _ => true | .str _, .str _ => true | .byt _, .byt _ => true
  | .int _, .str _ => true | .str _, .int _ => true | .bl _, .str _ => true | .str _, .bl _ => true
  | _, _ => false
def rEq : R2 := fun x y H Q => scal x y = true ∧ Q (.bl (decide (x = y))) H
def rNe : R2 := fun x y H Q => scal x y = true ∧ Q (.bl (!decide (x = y))) H

theorem dec_int {i j : Int} : decide (V.int i = V.int j) = (i == j) := by
  rw [Bool.eq_iff_iff]
  simp
theorem dec_bl {i j : Bool} : decide (V.bl i = V.bl j) = (i == j) := by
  rw [Bool.eq_iff_iff]
  simp
theorem dec_str {i j : Str} : decide (V.str i = V.str j) = (i == j) := by
  rw [Bool.eq_iff_iff]
  simp
theorem dec_byt {i j : Array UInt8} : decide (V.byt i = V.byt j) = (i.toList == j.toList) := by
  rw [Bool.eq_iff_iff]
  cases i
  cases j
  simp

section
variable {X : Cx} {a b c : Expr} {ta tb tc : TE} {pos : Pos}
theorem fin_bl {pins : List (Addr × Obj)} {σ : St} {H : Hp} {s : Shared} {Q : VK} {k k' : Bool} (I : Inv X pins σ H s) (q : Q (.bl k) H) (e : k = k') : EP X pins σ Q (.bool k') s := by
  subst e
  exact ⟨.bl k, H, I, rfl, q⟩
theorem op_eq : OpR X (compareOp .Eq) rEq := by
  intro pins s σ H x y v u Q I rx ry h
  obtain ⟨hs, q⟩ := h
  cases x with
  | non =>
    cases rx
    cases y with
    | non => cases ry; exact PySem.EqNone.eq_none_none (fin_bl I q (by simp))
    | bl j => cases ry; exact PySem.EqNone.eq_none_bool (fin_bl I q (by simp))
    | int j => obtain ⟨t', rfl⟩ := ry; exact PySem.EqNone.eq_none_int (fin_bl I q (by simp))
    | str j => obtain ⟨t', rfl⟩ := ry; exact PySem.EqNone.eq_none_str (fin_bl I q (by simp))
    | _ => exact absurd (show false = true from hs) Bool.false_ne_true
  | bl i =>
    cases rx
    cases y with
    | non => cases ry; exact PySem.EqNone.eq_bool_none (fin_bl I q (by simp))
    | bl j => cases ry; exact eq_bool (fin_bl I q dec_bl)
    | str j => obtain ⟨t', rfl⟩ := ry; exact PySem.EqMixed.eq_bool_str (fin_bl I q (by simp))
    | _ => exact absurd (show false = true from hs) Bool.false_ne_true
  | int i =>
    obtain ⟨t, rfl⟩ := rx
    cases y with
    | non => cases ry; exact PySem.EqNone.eq_int_none (fin_bl I q (by simp))
    | int j => obtain ⟨t', rfl⟩ := ry; exact eq_int (fin_bl I q dec_int)
    | str j => obtain ⟨t', rfl⟩ := ry; exact PySem.EqMixed.eq_int_str (fin_bl I q (by simp))
    | _ => exact absurd (show false = true from hs) Bool.false_ne_true
  | str i =>
    obtain ⟨t, rfl⟩ := rx
    cases y with
    | non => cases ry; exact PySem.EqNone.eq_str_none (fin_bl I q (by simp))
    | bl j => cases ry; exact PySem.EqMixed.eq_str_bool (fin_bl I q (by simp))
    | int j => obtain ⟨t', rfl⟩ := ry; exact PySem.EqMixed.eq_str_int (fin_bl I q (by simp))
    | str j => obtain ⟨t', rfl⟩ := ry; exact eq_str (fin_bl I q dec_str)
    | _ => exact absurd (show false = true from hs) Bool.false_ne_true
  | byt i =>
    obtain ⟨t, rfl⟩ := rx
    cases y with
    | byt j => obtain ⟨t', rfl⟩ := ry; exact PySem.W.eq_bytes (fin_bl I q dec_byt)
    | _ => exact absurd (show false = true from hs) Bool.false_ne_true
  | _ => cases y <;> exact absurd (show false = true from hs) Bool.false_ne_true
theorem op_ne : OpR X (compareOp .NotEq) rNe := by
  intro pins s σ H x y v u Q I rx ry h
  obtain ⟨hs, q⟩ := h
  cases x with
  | non =>
    cases rx
    cases y with
    | non => cases ry; exact PySem.EqNone.ne_none_none (fin_bl I q (by simp))
    | bl j => cases ry; exact PySem.EqNone.ne_none_bool (fin_bl I q (by simp))
    | int j => obtain ⟨t', rfl⟩ := ry; exact PySem.EqNone.ne_none_int (fin_bl I q (by simp))
    | str j => obtain ⟨t', rfl⟩ := ry; exact PySem.EqNone.ne_none_str (fin_bl I q (by simp))
    | _ => exact absurd (show false = true from hs) Bool.false_ne_true
  | bl i =>
    cases rx
    cases y with
    | non => cases ry; exact PySem.EqNone.ne_bool_none (fin_bl I q (by simp))
    | bl j => cases ry; exact ne_bool (fin_bl I q (congrArg not dec_bl))
    | str j => obtain ⟨t', rfl⟩ := ry; exact PySem.EqMixed.ne_bool_str (fin_bl I q (by simp))
    | _ => exact absurd (show false = true from hs) Bool.false_ne_true
  | int i =>
    obtain ⟨t, rfl⟩ := rx
    cases y with
    | non => cases ry; exact PySem.EqNone.ne_int_none (fin_bl I q (by simp))
    | int j => obtain ⟨t', rfl⟩ := ry; exact ne_int (fin_bl I q (congrArg not dec_int))
    | str j => obtain ⟨t', rfl⟩ := ry; exact PySem.EqMixed.ne_int_str (fin_bl I q (by simp))
    | _ => exact absurd (show false = true from hs) Bool.false_ne_true
  | str i =>
    obtain ⟨t, rfl⟩ := rx
    cases y with
    | non => cases ry; exact PySem.EqNone.ne_str_none (fin_bl I q (by simp))
    | bl j => cases ry; exact PySem.EqMixed.ne_str_bool (fin_bl I q (by simp))
    | int j => obtain ⟨t', rfl⟩ := ry; exact PySem.EqMixed.ne_str_int (fin_bl I q (by simp))
    | str j => obtain ⟨t', rfl⟩ := ry; exact ne_str (fin_bl I q (congrArg not dec_str))
    | _ => exact absurd (show false = true from hs) Bool.false_ne_true
  | byt i =>
    obtain ⟨t, rfl⟩ := rx
    cases y with
    | byt j => obtain ⟨t', rfl⟩ := ry; exact PySem.W.ne_bytes (fin_bl I q (congrArg not dec_byt))
    | _ => exact absurd (show false = true from hs) Bool.false_ne_true
  | _ => cases y <;> exact absurd (show false = true from hs) Bool.false_ne_true

theorem op_lt : OpR X (compareOp .Lt) (rI0 fun i j => .bl (decide (i < j))) := opB0 fun _ _ _ _ _ _ _ q => lt_int q
theorem op_le : OpR X (compareOp .LtE) (rI0 fun i j => .bl (decide (i ≤ j))) := opB0 fun _ _ _ _ _ _ _ q => le_int q
theorem op_gt : OpR X (compareOp .Gt) (rI0 fun i j => .bl (decide (j < i))) := opB0 fun _ _ _ _ _ _ _ q => gt_int q
theorem op_ge : OpR X (compareOp .GtE) (rI0 fun i j => .bl (decide (j ≤ i))) := opB0 fun _ _ _ _ _ _ _ q => ge_int q
theorem nomark (b : Expr) {op : CmpOp} (h : op ≠ .In := by decide) (h2 : op ≠ .NotIn := by decide) : behindInMarks op b = false := by
  have e1 : (op == CmpOp.In) = false := by cases op <;> first | rfl | exact absurd rfl h
  have e2 : (op == CmpOp.NotIn) = false := by cases op <;> first | rfl | exact absurd rfl h2
  cases b <;> simp [behindInMarks, e1, e2]
/-- a comparison as a value; hm: nomark b, or (for in, not in) by with_unfolding_all rfl -/
theorem pe_cmpR {op : CmpOp} {r : R2} (ho : OpR X (compareOp op) r) (ha : PE X a ta) (hb : PE X b tb) (hm : behindInMarks op b = false) : PE X (.Compare a [op] [b] pos) (tOp r ta tb) := by
  intro pins s σ H Q I h
  exact wpAny_Compare1 (binT ha hb I h fun v u s2 x y H2 I2 rx ry q => ho pins s2 σ H2 x y v u Q I2 rx ry q) hm
/-- a reading of a value as a test -/
def tTest (t : TE) : TT := fun σ H Q => t σ H fun x H' => ∃ k, x = .bl k ∧ Q k H'
theorem pt_cmpR {op : CmpOp} {r : R2} (ho : OpR X (compareOp op) r) (ha : PE X a ta) (hb : PE X b tb) (hm : behindInMarks op b = false) : PT X (.Compare a [op] [b] pos) (tTest (tOp r ta tb)) := by
  intro pins s σ H Q I h
  refine wpAny_isTrue_Compare1 (thn (ha pins s σ H _ I h) fun v s1 ⟨x, H1, I1, r1, q1⟩ => thn (hb pins s1 σ H1 _ I1 q1) fun u s2 ⟨y, H2, I2, r2, q2⟩ =>
    thn (ho pins s2 σ H2 x y v u _ I2 r1 r2 q2) fun c s3 ⟨z, H3, I3, r3, k, e, q3⟩ => ?_) hm
  subst e
  cases r3
  exact wpAny_truthy_bool ⟨H3, I3, q3⟩
/-- a op1 b op2 c -/
def tChain (r r' : R2) (ta tb tc : TE) : TE := fun σ H Q => ta σ H fun x H1 => tb σ H1 fun y H2 => r x y H2 fun z H3 => ∃ k, z = .bl k ∧
  (if k = true then tc σ H3 fun w' H4 => r' y w' H4 Q else Q (.bl false) H3)
theorem pe_chain {op op' : CmpOp} {r r' : R2} (ho : OpR X (compareOp op) r) (ho' : OpR X (compareOp op') r') (ha : PE X a ta) (hb : PE X b tb) (hc : PE X c tc)
    (hm : lastMarks [op, op'] [b, c] = false := by with_unfolding_all rfl) : PE X (.Compare a [op, op'] [b, c] pos) (tChain r r' ta tb tc) := by
  intro pins s σ H Q I h
  refine Compare_chain (thn (ha pins s σ H _ I h) fun v s1 ⟨x, H1, I1, r1, q1⟩ => chain_link (thn (hb pins s1 σ H1 _ I1 q1) fun u s2 ⟨y, H2, I2, r2, q2⟩ =>
    thn (ho pins s2 σ H2 x y v u _ I2 r1 r2 q2) fun d s3 ⟨z, H3, I3, r3, k, e, q3⟩ => ?_)) hm
  subst e
  cases r3
  refine wpAny_truthy_bool ?_
  cases k with
  | false => exact ite_ff ⟨.bl false, H3, I3, rfl, q3⟩
  | true => exact ite_tt (chain_last (thn (hc pins s3 σ H3 _ I3 q3) fun w' s4 ⟨z', H4, I4, r4, q4⟩ => ho' pins s4 σ H4 y z' u w' Q I4 r2 r4 q4))
theorem pt_chain {op op' : CmpOp} {r r' : R2} (ho : OpR X (compareOp op) r) (ho' : OpR X (compareOp op') r') (ha : PE X a ta) (hb : PE X b tb) (hc : PE X c tc)
    (hm : lastMarks [op, op'] [b, c] = false := by with_unfolding_all rfl) : PT X (.Compare a [op, op'] [b, c] pos) (tTest (tChain r r' ta tb tc)) := by
  intro pins s σ H Q I h
  refine isTrue_chain (thn (ha pins s σ H _ I h) fun v s1 ⟨x, H1, I1, r1, q1⟩ => test_link (thn (hb pins s1 σ H1 _ I1 q1) fun u s2 ⟨y, H2, I2, r2, q2⟩ =>
    thn (ho pins s2 σ H2 x y v u _ I2 r1 r2 q2) fun d s3 ⟨z, H3, I3, r3, k, e, q3⟩ => ?_)) hm
  subst e
  cases r3
  refine wpAny_truthy_bool ?_
  cases k with
  | false =>
    obtain ⟨k', e', q'⟩ := q3
    cases e'
    exact ite_ff ⟨H3, I3, q'⟩
  | true =>
    refine ite_tt (test_last (thn (hc pins s3 σ H3 _ I3 q3) fun w' s4 ⟨z', H4, I4, r4, q4⟩ => thn (ho' pins s4 σ H4 y z' u w' _ I4 r2 r4 q4) fun d' s5 ⟨z2, H5, I5, r5, k2, e2, q5⟩ => ?_))
    subst e2
    cases r5
    exact wpAny_truthy_bool ⟨H5, I5, q5⟩

/-! ### truth -/
/-- a value's truth by the abstract heap -/
def TruV (K : PySem.W.Frag) (x : V) (H : Hp) (k : Bool) : Prop :=
  match x with
  | .non => k = false
  | .bl b => k = b
  | .int i => k = (i != 0)
  | .str y => y.length ≤ sizeLine ∧ k = ((y.length : Int) != 0)
  | .byt y => y.size ≤ sizeLine ∧ k = ((y.size : Int) != 0)
  | .ref p => (∃ xs, SqL K H p xs ∧ k = !xs.isEmpty) ∨ (∃ xs, SqT K H p xs ∧ k = !xs.isEmpty) ∨ ∃ kvs, H p = some (.dK kvs) ∧ k = !kvs.isEmpty
  | _ => False
theorem isEmpty_kv {κ : Type} {kvs : List (κ × V)} {vs : List (κ × Value)} (r : KV kvs vs) : (!vs.isEmpty) = !kvs.isEmpty := by
  cases r <;> rfl
theorem isEmpty_of {xs : List V} {its : List Value} (r : Vals xs its) : (!its.toArray.isEmpty) = !xs.isEmpty := by
  cases r <;> simp
theorem line63 : (sizeLine : Nat) < 2 ^ 63 := by rw [sizeLine_eq]; decide
theorem tru_ok : TruR X (fun x H Q => ∃ k, TruV X.K x H k ∧ Q k H) := by
  intro pins s σ H x v Q I rx h
  obtain ⟨k, e, q⟩ := h
  have hl := line63
  have hs : sizeLine = 16777216 := sizeLine_eq
  cases x with
  | non =>
    cases rx
    have e' : k = false := e
    subst e'
    exact truthy_none ⟨H, I, q⟩
  | bl b =>
    cases rx
    have e' : k = b := e
    subst e'
    exact wpAny_truthy_bool ⟨H, I, q⟩
  | int i =>
    obtain ⟨t, rfl⟩ := rx
    have e' : k = (i != 0) := e
    subst e'
    exact PySem.P.truthy_int ⟨H, I, q⟩
  | str y =>
    obtain ⟨t, rfl⟩ := rx
    obtain ⟨hy, e'⟩ : y.length ≤ sizeLine ∧ k = ((y.length : Int) != 0) := e
    subst e'
    exact PySem.P.truthy_str (by omega) ⟨H, I.tok _, q⟩
  | byt y =>
    obtain ⟨t, rfl⟩ := rx
    obtain ⟨hy, e'⟩ : y.size ≤ sizeLine ∧ k = ((y.size : Int) != 0) := e
    subst e'
    exact PySem.W.truthy_bytes (by omega) ⟨H, I.tok _, q⟩
  | ref p =>
    cases rx
    have e' : (∃ xs, SqL X.K H p xs ∧ k = !xs.isEmpty) ∨ (∃ xs, SqT X.K H p xs ∧ k = !xs.isEmpty) ∨ ∃ kvs, H p = some (.dK kvs) ∧ k = !kvs.isEmpty := e
    rcases e' with ⟨xs, hx, e'⟩ | ⟨xs, hx, e'⟩ | ⟨kvs, hx, e'⟩
    · subst e'
      obtain ⟨its, r, pl, hz⟩ := I.list hx
      have hlen := r.length
      exact wpAny_truthy_list pl.isList (by simp only [List.size_toArray]; omega) ⟨H, I.tok _, by rw [isEmpty_of r]; exact q⟩
    · subst e'
      obtain ⟨its, r, pl, hz⟩ := I.tuple hx
      have hlen := r.length
      exact truthy_tuple pl (by simp only [List.size_toArray]; omega) ⟨H, I.tok _, by rw [isEmpty_of r]; exact q⟩
    · subst e'
      obtain ⟨hz, hS, vs, r, m⟩ : kvs.length ≤ sizeLine ∧ (p == sysModules) = false ∧ ∃ vs, KV kvs vs ∧ s.heap.DictOf (mixKind X.prog X.w) p vs := I.hok p _ hx
      have hlen : kvs.length = vs.length := Paired.length r
      exact wpAny_truthy_dict hS m (by omega) ⟨H, I.tok _, by rw [isEmpty_kv r]; exact q⟩
  | _ => exact (show False from e).elim
/-- any expression whose test is its value's truth (a name, a call, a subscript, a field ..: he by fun _ => rfl) -/
theorem pt_truth (ha : PE X a ta) (he : ∀ whole, isTrue a X.env whole = (do let v ← whole; standAt a.pos; holding [v] (truthy v))) :
    PT X a (fun σ H Q => ta σ H fun x H' => ∃ k, TruV X.K x H' k ∧ Q k H') := by
  intro pins s σ H Q I h
  exact isTrue_plain (thn (ha pins s σ H _ I h) fun v s1 ⟨x, H1, I1, r1, q1⟩ => tru_ok pins s1 σ H1 x v Q I1 r1 q1) (he _)

/-! ### strs and bytes -/
/-! ### scalar builtins, by CallR -/
theorem vals1 {x : V} {us : List Value} (r : Vals [x] us) : ∃ u, us = [u] ∧ RelV x u := by
  cases r with
  | cons r1 r2 => cases r2; exact ⟨_, rfl, r1⟩
theorem vals2 {x y : V} {us : List Value} (r : Vals [x, y] us) : ∃ u w', us = [u, w'] ∧ RelV x u ∧ RelV y w' := by
  cases r with
  | cons r1 r2 =>
    cases r2 with
    | cons r3 r4 => cases r4; exact ⟨_, _, rfl, r1, r3⟩
end
end L2

namespace L2
open PySem PySem.Spec PyProof.Rows

/-! ### an instance, its attributes a map -/
structure ObjM (h : Heap) (x dx C : Addr) (mA : Str → Option Value) : Prop where
  obj : h.get? x = some (PySem.W.instObj C dx)
  ns : h.Ns1 dx mA
  ne : dx ≠ x

theorem lookIn_ns {h : Heap} {dx : Addr} {mA : Str → Option Value} (n : h.Ns1 dx mA) : ∃ od, h.get? dx = some od ∧ ∀ name, PySem.W.lookIn name od = some (mA name) := by
  obtain ⟨o, es, ep, ho, hd, hk, _, hm⟩ := n
  refine ⟨o, ho, fun name => ?_⟩
  have e := hm name
  unfold nsFind findBy at e
  rw [← Array.find?_toList] at e
  unfold PySem.W.lookIn
  rw [hd]
  dsimp only
  split
  · rename_i y q
    rw [q] at e
    exact congrArg some e
  · rename_i q
    rw [q] at e
    have a : es.toList.any (·.refKey) = false := by
      rw [List.any_eq_false]
      intro y hy
      obtain ⟨z, t, hkey⟩ := hk y (Array.mem_toList_iff.mp hy)
      simp [DictEntry.refKey, hkey]
    have a' : ¬ es.toList.any (·.refKey) = true := by rw [a]; exact Bool.false_ne_true
    rw [if_neg a']
    exact congrArg some e

theorem ObjM.look {h : Heap} {x dx C : Addr} {mA : Str → Option Value} (I : ObjM h x dx C mA) : ∃ od, PySem.W.InstAt h x (PySem.W.instObj C dx) C (some od) ∧ ∀ name, PySem.W.lookIn name od = some (mA name) :=
  let ⟨od, ho, hl⟩ := lookIn_ns I.ns
  ⟨od, ⟨I.obj, rfl, rfl, ho⟩, hl⟩

section
variable {prog : Program} {w : World} {A : Around} {E : Value → Shared → Prop} {s : Shared} {K : PySem.W.Frag} {x dx C f : Addr} {mA : Str → Option Value} {name : Str} {v : Value}

theorem get_map {expr : Bool} {Q : Value → Shared → Prop} (X : K.In s.heap) (I : ObjM s.heap x dx C mA) (hg : PySem.W.plainGet K C name = true) (hh : PySem.W.hasDictIn K C = true)
    (ha : PySem.W.findIn K (.ref C) name = some none) (hv : mA name = some v) (hv' : PySem.W.handedIn v = true) (h : Q v { s with toks := s.toks + 1 }) :
    wpAny (model prog w) A (getAttr (.ref x) name expr) Q E s := by
  obtain ⟨od, J, hl⟩ := I.look
  exact PySem.W.get_value X J (PySem.W.plainGet_of hg).1 (PySem.W.findObj_own hh ha rfl (by rw [hl, hv])) hv' h

theorem get_meth {pl : Sem Bool} {Q : Value × List Value → Shared → Prop} (X : K.In s.heap) (I : ObjM s.heap x dx C mA) (hg : PySem.W.plainGet K C name = true)
    (hf : PySem.W.findIn K (.ref C) name = some (some (.ref f))) (ht : PySem.W.isFn K (.ref f) = true) (hv : mA name = none) (h : Q (.ref f, [.ref x]) s) :
    wpAny (model prog w) A (getMethod (.ref x) name pl) Q E s := by
  obtain ⟨od, J, hl⟩ := I.look
  exact PySem.W.method_fn X J (PySem.W.plainGet_of hg).1 (PySem.W.plainGet_of hg).2 hf (beq_iff_eq.mp ht) (by show (PySem.W.lookIn name od).map (·.isSome) = some false; rw [hl, hv]; rfl) h

theorem set_map {ns : List Str} {Q : Unit → Shared → Prop} (X : K.In s.heap) (I : ObjM s.heap x dx C mA)
    (hs : PySem.W.findIn K (.ref C) "__setattr__" = some (some (.builtin "object.__setattr__"))) (hp : PySem.W.plainOver K C = true) (ht : PySem.W.takerIn K C name = some none) (hh : PySem.W.hasDictIn K C = true)
    (hw : PySem.Within mA ns) (hsz : ns.length ≤ sizeLine)
    (h : ∀ h', ObjM h' x dx C (fun y => if y = name then some v else mA y) → Heap.SameBut dx s.heap h' → Q () { s with heap := h', toks := s.toks + 2 }) :
    wpAny (model prog w) A (setAttr (.ref x) name v) Q E s := by
  obtain ⟨od, J, hl⟩ := I.look
  refine PySem.W.set_plain X J hs (PySem.W.osa_open (s := { s with toks := s.toks + 1 }) (r := none) X J hp ht fun b => ?_)
  obtain ⟨cd, hc, hd'⟩ := PySem.W.any_some hh
  have hx : s.heap.get? x = some ⟨.ref C, some dx, .plain, #[]⟩ := I.obj
  refine wpAny_bind (wpAny_pure (wpAny_bind (wpAny_bind (wpAny_loadPart hx (wpAny_bind (PySem.W.Looks.here (s := { s with toks := s.toks + 1 }) (PySem.W.looks_clsIn X hc) ?_))))))
  rw [hd']
  refine wpAny_pure (a := some dx) (wpAny_bind (wpAny_pure (wpAny_bind ?_)))
  refine wpAny_nsSet1 (s := { s with toks := s.toks + 1 }) I.ns fun h' hn2 hs2 => ?_
  obtain ⟨oD, esD, epD, hoD, hdD, hcD⟩ := hn2.count (PySem.Within.cons name v hw)
  refine wpAny_bind (wpAny_lookBehind hoD (by rw [hdD]; exact pastItsLine_dict (Nat.le_trans hcD (by rw [List.length_cons]; omega))) ?_)
  exact wpAny_pure (h _ ⟨(hs2.2 _ (Ne.symm I.ne)).trans I.obj, hn2, I.ne⟩ hs2)

/-- C(..): the dict at the heap's end, the instance behind it; then its __init__ -/
theorem make_map {R : Result → Shared → Prop} {vs : List Value} {kw : List (Str × Value)} (X : K.In s.heap) (hm : PySem.W.makesIn K C = true)
    (hi : PySem.W.findIn K (.ref C) "__init__" = some (some (.ref f))) (hf : PySem.W.typeIn K (.ref f) = some (.type "function"))
    (h : codeAny (model prog w) (A.under (.builtin "type.__call__" ⟨.ref C :: vs, kw⟩)) (.call (.ref f) ⟨.ref (s.heap.objs.size + 1) :: vs, kw⟩) (PySem.W.InitBack (s.heap.objs.size + 1) R)
      { s with heap := (s.heap.push PySem.W.emptyDict).push (PySem.W.instObj C s.heap.objs.size) }) :
    codeAny (model prog w) A (.call (.ref C) ⟨vs, kw⟩) R s := by
  obtain ⟨hh, g, d, t, os⟩ := s
  exact PySem.W.make_core (PySem.W.makes_of X hm) (PySem.W.looks_findIn X hi) (fun self => PySem.W.bind_fn X self hf) (.inl rfl) h
end

/-! ### the attributes as a list of pairs -/
def putF (f : Str) (v : V) : List (Str × V) → List (Str × V)
  | [] => [(f, v)]
  | (g, x) :: r => if g = f then (g, v) :: r else (g, x) :: putF f v r
theorem lookup_putF (f g : Str) (v : V) : ∀ fs : List (Str × V), (putF f v fs).lookup g = if g = f then some v else fs.lookup g
  | [] => by
    show List.lookup g [(f, v)] = _
    by_cases h : g = f
    · have hb : (g == f) = true := beq_iff_eq.mpr h
      simp only [List.lookup, hb, if_pos h]
    · have hb : (g == f) = false := beq_eq_false_iff_ne.mpr h
      simp only [List.lookup, hb, if_neg h]
  | (k, x) :: r => by
    have ih := lookup_putF f g v r
    rw [show putF f v ((k, x) :: r) = (if k = f then (k, v) :: r else (k, x) :: putF f v r) from rfl]
    by_cases hk : k = f
    · rw [if_pos hk]
      by_cases h : g = k
      · have hb : (g == k) = true := beq_iff_eq.mpr h
        simp only [List.lookup, hb, if_pos (h.trans hk)]
      · have hb : (g == k) = false := beq_eq_false_iff_ne.mpr h
        simp only [List.lookup, hb, if_neg (fun e : g = f => h (e.trans hk.symm))]
    · rw [if_neg hk]
      by_cases h : g = k
      · have hb : (g == k) = true := beq_iff_eq.mpr h
        simp only [List.lookup, hb, if_neg (fun e : g = f => hk (h.symm.trans e))]
      · have hb : (g == k) = false := beq_eq_false_iff_ne.mpr h
        simp only [List.lookup, hb]
        exact ih
theorem keys_putF (f : Str) (v : V) : ∀ fs : List (Str × V), f ∈ (putF f v fs).map (·.1) ∧ ∀ g, g ∈ fs.map (·.1) → g ∈ (putF f v fs).map (·.1)
  | [] => ⟨by simp [putF], fun g h => by simp at h⟩
  | (k, x) :: r => by
    obtain ⟨i1, i2⟩ := keys_putF f v r
    rw [show putF f v ((k, x) :: r) = (if k = f then (k, v) :: r else (k, x) :: putF f v r) from rfl]
    by_cases hk : k = f
    · rw [if_pos hk]
      subst hk
      exact ⟨by simp, fun g h => by simpa using h⟩
    · rw [if_neg hk]
      refine ⟨?_, fun g h => ?_⟩
      · rw [List.map_cons]
        exact List.mem_cons_of_mem _ i1
      · rw [List.map_cons] at h ⊢
        rcases List.mem_cons.mp h with e | e
        · exact List.mem_cons.mpr (.inl e)
        · exact List.mem_cons_of_mem _ (i2 g e)
theorem length_putF (f : Str) (v : V) : ∀ fs : List (Str × V), (putF f v fs).length ≤ fs.length + 1
  | [] => by simp [putF]
  | (k, x) :: r => by
    have ih := length_putF f v r
    rw [show putF f v ((k, x) :: r) = (if k = f then (k, v) :: r else (k, x) :: putF f v r) from rfl]
    by_cases hk : k = f
    · rw [if_pos hk, List.length_cons, List.length_cons]; omega
    · rw [if_neg hk, List.length_cons, List.length_cons]; omega

theorem RelO.some_of {v : V} {o : Option Value} (r : RelO (some v) o) : ∃ u, o = some u ∧ RelV v u := by
  cases o with
  | none => exact (show False from r).elim
  | some u => exact ⟨u, rfl, r⟩
theorem RelO.none_of {o : Option Value} (r : RelO none o) : o = none := by
  cases o with
  | none => rfl
  | some u => exact (show False from r).elim
theorem handed_of {v : V} {u : Value} (r : RelV v u) : PySem.W.handedIn u = true := by
  cases v with
  | non => cases (show u = Value.none from r); rfl
  | bl b => cases (show u = Value.bool b from r); rfl
  | int i => obtain ⟨t, e⟩ := (show ∃ t, u = Value.int i t from r); cases e; rfl
  | str x => obtain ⟨t, e⟩ := (show ∃ t, u = Value.str x t from r); cases e; rfl
  | byt b => obtain ⟨t, e⟩ := (show ∃ t, u = Value.bytes b t from r); cases e; rfl
  | flt b => obtain ⟨t, e⟩ := (show ∃ t, u = Value.float b t from r); cases e; rfl
  | ref a => cases (show u = Value.ref a from r); rfl
  | ty n => cases (show u = Value.type n from r); rfl

section
variable {P : Program} {w : World} {H H' : Hp} {h h' : Heap} {a C dx : Addr} {fs fs' : List (Str × V)}
theorem ins_get (hok : HOk P w H h) (e : H a = some (.ins C dx fs)) : ∃ mA, ObjM h a dx C mA ∧ (∀ f, RelO (fs.lookup f) (mA f)) ∧ PySem.Within mA (fs.map (·.1)) ∧ fs.length ≤ 1000 ∧ H dx = some (.own a) := by
  obtain ⟨d, z, ne, ob, mA, n, r, q⟩ := (show ObjOk P w H h a (.ins C dx fs) from hok a _ e)
  exact ⟨mA, ⟨ob, n, ne⟩, r, q, z, d⟩
end

/-! ### what of the text a class must have -/
structure Cls (K : PySem.W.Frag) (C : Addr) : Prop where
  pg : PySem.W.plainGet K C Str.empty = true
  hd : PySem.W.hasDictIn K C = true
  po : PySem.W.plainOver K C = true
  sa : PySem.W.findIn K (.ref C) "__setattr__" = some (some (.builtin "object.__setattr__"))
theorem Cls.get {K : PySem.W.Frag} {C : Addr} (c : Cls K C) (f : Str) : PySem.W.plainGet K C f = true := c.pg
/-- no class of it has the name -/
def NoAttr (K : PySem.W.Frag) (C : Addr) (f : Str) : Prop := PySem.W.findIn K (.ref C) f = some none
theorem NoAttr.taker {K : PySem.W.Frag} {C : Addr} {f : Str} (n : NoAttr K C f) : PySem.W.takerIn K C f = some none := by
  unfold PySem.W.takerIn
  rw [show PySem.W.findIn K (.ref C) f = some none from n]
  rfl
/-- a method: a plain def of the class or of one above it -/
structure Meth (K : PySem.W.Frag) (C : Addr) (m : Str) (f : Addr) : Prop where
  at_ : PySem.W.findIn K (.ref C) m = some (some (.ref f))
  fn : PySem.W.isFn K (.ref f) = true
  kp : PySem.W.keepIn K (.ref f) = true

section
variable {X : Cx} {pins : List (Addr × Obj)} {σ : St} {H : Hp} {s : Shared} {a C dx : Addr} {fs : List (Str × V)} {f : Str} {v : V} {A : Around} {E : Value → Shared → Prop}

theorem getattr_ok {b : Bool} {Q : Value → Shared → Prop} (I : Inv X pins σ H s) (e : H a = some (.ins C dx fs)) (c : Cls X.K C) (n : NoAttr X.K C f) (l : fs.lookup f = some v)
    (h : ∀ u s', Inv X pins σ H s' → RelV v u → Q u s') : wpAny (model X.prog X.w) A (getAttr (.ref a) f b) Q E s := by
  obtain ⟨mA, O, r, _, _, _⟩ := ins_get I.hok e
  obtain ⟨u, hu, ru⟩ := RelO.some_of (v := v) (o := mA f) (by rw [← l]; exact r f)
  exact get_map I.kIn O (c.get f) c.hd n hu (handed_of ru) (h u _ (I.tok _) ru)

theorem getmeth_ok {m : Str} {g : Addr} {pl : Sem Bool} {Q : Value × List Value → Shared → Prop} (I : Inv X pins σ H s) (e : H a = some (.ins C dx fs)) (c : Cls X.K C) (k : Meth X.K C m g) (l : fs.lookup m = none)
    (h : Q (.ref g, [.ref a]) s) : wpAny (model X.prog X.w) A (getMethod (.ref a) m pl) Q E s := by
  obtain ⟨mA, O, r, _, _, _⟩ := ins_get I.hok e
  have hn : mA m = none := RelO.none_of (by rw [← l]; exact r m)
  exact get_meth I.kIn O (c.get m) k.at_ k.fn hn h

theorem setattr_ok {y : V} {u : Value} {Q : Unit → Shared → Prop} (I : Inv X pins σ H s) (e : H a = some (.ins C dx fs)) (c : Cls X.K C) (n : NoAttr X.K C f) (hl : fs.length < 1000) (ry : RelV y u)
    (h : ∀ s', Inv X pins σ (upd H a (.ins C dx (putF f y fs))) s' → Q () s') : wpAny (model X.prog X.w) A (setAttr (.ref a) f u) Q E s := by
  obtain ⟨mA, O, r, wi, _, ho⟩ := ins_get I.hok e
  have hz : (fs.map (·.1)).length ≤ sizeLine := by rw [List.length_map, sizeLine_eq]; omega
  refine set_map I.kIn O c.sa c.po n.taker c.hd wi hz fun h' O' sb => h _ ?_
  have hd : ∃ o, h'.get? dx = some o := let ⟨o, _, _, e', _⟩ := O'.ns; ⟨o, e'⟩
  refine I.write (x := a) (e := dx) (by rw [e]; exact True.intro) (.inr ho) (fun b q hb z => (sb.2 b hb).trans z) hd ?_
  refine ⟨by rw [upd_ne O.ne]; exact ho, ?_, O.ne, O'.obj, _, O'.ns, fun g => ?_, fun g hg => ?_⟩
  · have := length_putF f y fs; omega
  · show RelO ((putF f y fs).lookup g) (if g = f then some u else mA g)
    rw [lookup_putF]
    by_cases q : g = f
    · rw [if_pos q, if_pos q]; exact ry
    · rw [if_neg q, if_neg q]; exact r g
  · by_cases q : g = f
    · rw [q]; exact (keys_putF f y fs).1
    · refine (keys_putF f y fs).2 g (wi g fun z => hg ?_)
      show (if g = f then some u else mA g) = none
      rw [if_neg q]; exact z

/-- a new instance, tracked, without attributes -/
theorem Inv.made (I : Inv X pins σ H s) : Inv X pins σ (upd (upd H s.heap.objs.size (.own (s.heap.objs.size + 1))) (s.heap.objs.size + 1) (.ins C s.heap.objs.size []))
    { s with heap := (s.heap.push PySem.W.emptyDict).push (PySem.W.instObj C s.heap.objs.size) } := by
  have e1 : (s.heap.push PySem.W.emptyDict).get? s.heap.objs.size = some PySem.W.emptyDict := Heap.get?_push_size s.heap rfl
  have e2 : ((s.heap.push PySem.W.emptyDict).push (PySem.W.instObj C s.heap.objs.size)).get? (s.heap.objs.size + 1) = some (PySem.W.instObj C s.heap.objs.size) := by
    have := Heap.get?_push_size (s.heap.push PySem.W.emptyDict) (o := PySem.W.instObj C s.heap.objs.size) rfl
    rwa [Heap.size_push] at this
  have e3 : (s.heap.push PySem.W.emptyDict).Ns s.heap.objs.size (fun _ => none) := ⟨PySem.W.emptyDict, #[], _, e1, rfl, (fun e he => absurd he (by simp)), fun _ => rfl⟩
  have I1 := I.laid (a := s.heap.objs.size) (o := .own (s.heap.objs.size + 1)) (h' := s.heap.push PySem.W.emptyDict) (t' := s.toks) (fun b u q => Heap.get?_push_of_some _ q) (Nat.le_refl _) ⟨_, e1⟩
  refine I1.laid (a := s.heap.objs.size + 1) (o := .ins C s.heap.objs.size []) (t' := s.toks) (fun b u q => Heap.get?_push_of_some _ q) (Nat.le_of_eq (Heap.size_push _ _)) ?_
  have ne : s.heap.objs.size ≠ s.heap.objs.size + 1 := Nat.ne_of_lt (Nat.lt_succ_self _)
  refine ⟨by rw [upd_ne ne, upd_same], Nat.zero_le _, ne, e2, fun _ => none, (Heap.Ns1.of_empty e3).at fun o q => Heap.get?_push_of_some _ q, fun _ => True.intro, fun y hy => absurd rfl hy⟩

/-- e.f where nothing but the object is asked: through attributeBase (super) and the last hold -/
theorem attr_of {prog : Program} {w : World} {env : Env} {e : Expr} {f : Str} {pos : Pos} {s : Shared} {Q : Value → Shared → Prop} (hb : attributeBase e f env (eval e env) = eval e env)
    (h : wpAny (model prog w) A (eval e env) (fun o s₁ => wpAny (model prog w) A (getAttr o f true) Q E s₁) E s) : wpAny (model prog w) A (eval (.Attribute e f pos) env) Q E s :=
  Attribute_any_ h (by rw [arm_eval_Attribute, hb])
end

/-! ### readings and rules -/
/-- e.f, an attribute of the instance -/
def tFld (K : PySem.W.Frag) (ta : TE) (f : Str) : TE := fun σ H Q => ta σ H fun x H1 => ∃ a C dx fs v, x = .ref a ∧ H1 a = some (.ins C dx fs) ∧ Cls K C ∧ NoAttr K C f ∧ fs.lookup f = some v ∧ Q v H1
/-- e.f = value -/
def sFld (K : PySem.W.Frag) (ta tv : TE) (f : Str) : TS := fun D σ H => tv σ H fun y H1 => ta σ H1 fun x H2 => ∃ a C dx fs, x = .ref a ∧ H2 a = some (.ins C dx fs) ∧ Cls K C ∧ NoAttr K C f ∧ fs.length < 1000 ∧
  D.nx σ (upd H2 a (.ins C dx (putF f y fs)))
section
variable {X : Cx} {o e value : Expr} {f : Str} {pos pos' tpos : Pos} {ta tv : TE}
theorem pe_fld (he : PE X e ta) (hb : attributeBase e f X.env (eval e X.env) = eval e X.env) : PE X (.Attribute e f pos) (tFld X.K ta f) := by
  intro pins s σ H Q I h
  refine attr_of hb (thn (he pins s σ H _ I h) fun u s1 ⟨x, H1, I1, rx, a, C, dx, fs, v, ex, ea, c, n, l, q⟩ => ?_)
  subst ex
  obtain rfl : u = Value.ref a := rx
  exact getattr_ok I1 ea c n l fun u' s2 I2 ru => ⟨v, H1, I2, ru, q⟩
theorem ps_fld (ha : PE X o ta) (hv : PE X value tv) (hs : swapsWith value (some (.Attribute o f pos')) pos.line X.env = pure false) : PS X (.Assign [.Attribute o f pos'] value pos) (sFld X.K ta tv f) := by
  intro pins s σ H D I h
  refine plainObj_wpAny_Assign_Attribute (thn (hv pins s σ H _ I h) fun u s1 ⟨y, H1, I1, ry, q⟩ => thn (ha pins s1 σ H1 _ I1 q) fun ov s2 ⟨x, H2, I2, rx, a, C, dx, fs, ex, ea, c, n, l, q2⟩ => ?_) hs
  subst ex
  obtain rfl : ov = Value.ref a := rx
  exact setattr_ok I2 ea c n l ry fun s3 I3 => ⟨σ, _, I3, q2⟩
end

/-! ### isinstance -/
section
variable {X : Cx} {pins : List (Addr × Obj)} {σ : St} {H : Hp} {s : Shared} {A : Around} {E : Value → Shared → Prop} {Q : Value → Shared → Prop} {c : Value} {b : Bool}
/-- the type of a value, as the fragment's deciders take it; for an instance its class -/
inductive TyOf (K : PySem.W.Frag) (H : Hp) : V → Value → Prop where
  | non : TyOf K H .non (.type "NoneType")
  | bl (x : Bool) : TyOf K H (.bl x) (.type "bool")
  | int (i : Int) : TyOf K H (.int i) (.type "int")
  | str (x : Str) : TyOf K H (.str x) (.type "str")
  | flt (x : UInt64) : TyOf K H (.flt x) (.type "float")
  | lst {a : Addr} {xs : List V} (e : H a = some (.lst xs)) : TyOf K H (.ref a) (.type "list")
  | frz {a : Addr} {o : Obj} {xs : List V} (e : H a = some (.frz o (.lst xs))) : TyOf K H (.ref a) (.type "list")
  | tup {a : Addr} {xs : List V} (e : H a = some (.tup xs)) : TyOf K H (.ref a) (.type "tuple")
  | dK {a : Addr} {kvs : List (Key × V)} (e : H a = some (.dK kvs)) : TyOf K H (.ref a) (.type "dict")
  | dT {a : Addr} {kvs : List (List Key × V)} (e : H a = some (.dT kvs)) : TyOf K H (.ref a) (.type "dict")
  | ins {a C dx : Addr} {fs : List (Str × V)} (e : H a = some (.ins C dx fs)) (cl : Cls K C) (ha : PySem.W.findIn K (.ref C) "__class__" = some (some (.builtin "object.__class__")))
      (hn : PySem.W.specialIn K (.builtin "object.__class__") "__get__" = some (some (.builtin "getset_descriptor.__get__"))) (htk : PySem.W.takesIn K (.builtin "object.__class__") = some true)
      (hm : PySem.W.mroIn K C (.type "object") = some true) : TyOf K H (.ref a) (.ref C)
/-- isinstance(x, c) for one class c, a built-in or an own one: kitOne's answer -/
theorem isinst_ok {x : V} {u t : Value} (I : Inv X pins σ H s) (rx : RelV x u) (ty : TyOf X.K H x t) (e : PySem.W.kitOne X.K t c = some b) (h : ∀ tk, Q (.bool b) { s with toks := tk }) :
    wpAny (model X.prog X.w) A (call (.builtin "isinstance") [u, c]) Q E s := by
  cases ty with
  | non => cases (show u = Value.none from rx); exact PySem.W.kia_one PySem.W.kitx_none I.kIn True.intro e (fun z => nomatch z) h
  | bl y => cases (show u = Value.bool y from rx); exact PySem.W.kia_one PySem.W.kitx_bool I.kIn True.intro e (fun z => nomatch z) h
  | int i => obtain ⟨t, q⟩ := (show ∃ t, u = Value.int i t from rx); cases q; exact PySem.W.kia_one PySem.W.kitx_int I.kIn True.intro e (fun z => nomatch z) h
  | str y => obtain ⟨t, q⟩ := (show ∃ t, u = Value.str y t from rx); cases q; exact PySem.W.kia_one PySem.W.kitx_str I.kIn True.intro e (fun z => nomatch z) h
  | flt y => obtain ⟨t, q⟩ := (show ∃ t, u = Value.float y t from rx); cases q; exact PySem.W.kia_one PySem.W.kitx_float I.kIn True.intro e (fun z => nomatch z) h
  | @lst a xs ea =>
    cases (show u = Value.ref a from rx)
    obtain ⟨_, _, n, _, h1⟩ := (show ObjOk X.prog X.w H s.heap a (.lst xs) from I.hok a _ ea)
    exact PySem.W.kia_one PySem.W.kitx_list I.kIn ⟨_, h1, rfl⟩ e (fun z => nomatch z) h
  | @frz a ob xs ea =>
    cases (show u = Value.ref a from rx)
    obtain ⟨_, _, _, n, _, h1⟩ := (show ObjOk X.prog X.w H s.heap a (.frz ob (.lst xs)) from I.hok a _ ea)
    exact PySem.W.kia_one PySem.W.kitx_list I.kIn ⟨_, h1, rfl⟩ e (fun z => nomatch z) h
  | @tup a xs ea =>
    cases (show u = Value.ref a from rx)
    obtain ⟨_, _, _, p⟩ := (show ObjOk X.prog X.w H s.heap a (.tup xs) from I.hok a _ ea)
    obtain ⟨o, h1, h2, _⟩ := p
    exact PySem.W.kia_one PySem.W.kitx_tuple I.kIn ⟨o, h1, h2⟩ e (fun z => nomatch z) h
  | @dK a kvs ea =>
    cases (show u = Value.ref a from rx)
    obtain ⟨_, _, vs, _, p⟩ := (show ObjOk X.prog X.w H s.heap a (.dK kvs) from I.hok a _ ea)
    obtain ⟨o, es, ep, h1, h2, _⟩ := p
    exact PySem.W.kia_one PySem.W.kitx_dict I.kIn ⟨o, h1, h2.1⟩ e (fun z => nomatch z) h
  | @dT a kvs ea =>
    cases (show u = Value.ref a from rx)
    exact (show False from I.hok a _ ea).elim
  | @ins a C dx fs ea cl ha hn htk hm =>
    cases (show u = Value.ref a from rx)
    obtain ⟨mA, O, _⟩ := ins_get I.hok ea
    obtain ⟨od, J, _⟩ := O.look
    exact PySem.W.kia_one (PySem.W.kitx_own (cl.get _) cl.hd ha hn htk hm) I.kIn J e (fun z => nomatch z) h
end
end L2

namespace L2
open PySem PySem.Spec PyProof.Rows

/-! ### room -/
structure Room (k : Nat) (A : Around) : Prop where
  hd : A.handled = none
  dp : A.depth + 3 * k + 5 < recursionLimit
  un : A.units + 16 * k + 200 < cLine
theorem Room.mono {j k : Nat} {A : Around} (r : Room k A) (h : j ≤ k) : Room j A := ⟨r.hd, by have := r.dp; omega, by have := r.un; omega⟩
theorem Room.deeper {k : Nat} {A : Around} (r : Room (k + 1) A) (env : Env) : Room k (A.deeper env) :=
  ⟨r.hd, by have := r.dp; show A.depth + 1 + 3 * k + 5 < _; omega, by have := r.un; show A.units + 3 + 16 * k + 200 < _; omega⟩
theorem make_depth {A : Around} {C : Addr} {us : List Value} {kw : List (Str × Value)} : (A.under (.builtin "type.__call__" ⟨.ref C :: us, kw⟩)).depth = A.depth + 1 := by
  first | rfl | simp [Around.under, Code.weight, Code.isCreation, Code.isGuard, Code.isCaller, Code.frames, Code.isFrame, guardIds]
theorem make_units {A : Around} {C : Addr} {us : List Value} {kw : List (Str × Value)} : (A.under (.builtin "type.__call__" ⟨.ref C :: us, kw⟩)).units = A.units + 1 := by
  first | rfl | simp [Around.under, Code.cUnits, Code.frames, Code.isFrame]
theorem Room.make {k : Nat} {A : Around} (r : Room (k + 1) A) (C : Addr) (us : List Value) (kw : List (Str × Value)) : Room k (A.under (.builtin "type.__call__" ⟨.ref C :: us, kw⟩)) :=
  ⟨r.hd, by have := r.dp; rw [make_depth]; omega, by have := r.un; rw [make_units]; omega⟩
theorem Room.depth {k : Nat} {A : Around} (r : Room k A) : A.depth < recursionLimit := by have := r.dp; omega
theorem Room.units0 {k : Nat} {A : Around} (r : Room k A) : A.units < cLine := by have := r.un; omega

/-! ### argument lists and displays -/
def tNil : TA := fun _ H Q => Q [] H
def tCons (ta : TE) (tr : TA) : TA := fun σ H Q => ta σ H fun x H1 => tr σ H1 fun xs H2 => Q (x :: xs) H2
section
variable {X : Cx} {e : Expr} {es : List Expr} {te : TE} {t : TA} {pos : Pos}
theorem pa_nil : PA X [] tNil := fun _ _ _ _ H Q I h => Calls.spliced_nil ⟨[], H, I, .nil, h⟩
theorem pa_cons (ha : PE X e te) (hr : PA X es t) (hs : starEach (e :: es) X.env = (false, eval e X.env) :: starEach es X.env := by rfl) : PA X (e :: es) (tCons te t) := by
  intro pos pins s σ H Q I h
  rw [hs]
  show wpAny _ _ (spliced ((false, eval e X.env) :: backTo pos (starEach es X.env))) _ _ s
  refine Calls.spliced_cons (thn (ha pins s σ H _ I h) fun u s1 ⟨x, H1, I1, r1, q1⟩ => ?_)
  exact thn (hr pos pins s1 σ H1 _ I1 q1) fun us s2 ⟨xs, H2, I2, r2, q2⟩ => ⟨x :: xs, H2, I2, .cons r1 r2, q2⟩

/-- a tuple, a list of written items -/
def tTup (t : TA) : TE := fun σ H Q => t σ H fun xs H1 => xs.length ≤ sizeLine ∧ ∀ p, H1 p = none → Q (.ref p) (upd H1 p (.tup xs))
def tLst (t : TA) : TE := fun σ H Q => t σ H fun xs H1 => xs.length ≤ sizeLine ∧ ∀ p, H1 p = none → Q (.ref p) (upd H1 p (.lst xs))
theorem pe_tup {x1} (h : PA X es t) : PE X (.Tuple es x1 pos) (tTup t) := by
  intro pins s σ H Q I hq
  refine wpAny_Tuple_spliced (thn (h pos pins s σ H _ I hq) fun us s1 ⟨xs, H1, I1, r, z, q⟩ => ⟨by rw [← r.length]; exact z, ?_⟩)
  have hf : H1 s1.heap.objs.size = none := I1.hok.fresh (Nat.le_refl _)
  refine ⟨.ref s1.heap.objs.size, upd H1 s1.heap.objs.size (.tup xs), I1.laid (t' := s1.toks) (fun b u e => Heap.get?_push_of_some _ e) (Nat.le_refl _) ?_, rfl, q _ hf⟩
  exact ⟨z, us, r, ⟨_, Heap.get?_push_size _ rfl, rfl, _, rfl⟩⟩
theorem pe_lst (h : PA X es t) : PE X (.List es pos) (tLst t) := by
  intro pins s σ H Q I hq
  refine wpAny_List_spliced (thn (h pos pins s σ H _ I hq) fun us s1 ⟨xs, H1, I1, r, z, q⟩ => ⟨by rw [← r.length]; exact z, ?_⟩)
  have hf : H1 s1.heap.objs.size = none := I1.hok.fresh (Nat.le_refl _)
  refine ⟨.ref s1.heap.objs.size, upd H1 s1.heap.objs.size (.lst xs), I1.laid (t' := s1.toks) (fun b u e => Heap.get?_push_of_some _ e) (Nat.le_refl _) ?_, rfl, q _ hf⟩
  exact ⟨z, us, 0, r, Heap.get?_push_size _ rfl⟩
end

/-! ### what a def promises -/
/-- a def's promise: the bound arguments in the parameters' order, the heap, the wanted end, the wanted exception -/
abbrev Sp := List V → Hp → VK → XK → Prop
/-- how an exception lies behind a call (file 08 gives it): the callers' frames, abstract heap and state ahead of the call, the wish, the exception, the state -/
abbrev CXT := List Env → Hp → Shared → XK → Value → Shared → Prop

/-- the state at a call -/
structure Env0 (P : Program) (w : World) (K : PySem.W.Frag) (mg : Str → Option Value) (base : Heap) (A : Around) (outer : List Env) (s : Shared) (H : Hp) : Prop where
  frames : A.frames = some outer
  mod : Mod K mg base
  bs : ∀ b o, base.get? b = some o → s.heap.get? b = some o ∧ H b = none
  bsz : base.objs.size ≤ s.heap.objs.size
  funs : s.heap.FunFrames base outer
  frf : ∀ b ∈ frs outer, H b = none
  hok : HOk P w H s.heap
  bare : AllBare s.gens
/-- a call's end -/
def CE (outer : List Env) (P : Program) (w : World) (H : Hp) (s : Shared) (Q : VK) (u : Value) (s' : Shared) : Prop :=
  ∃ v H', s'.os = s.os ∧ AllBare s'.gens ∧ Un (frs outer) [] H H' s.heap s'.heap ∧ HOk P w H' s'.heap ∧ RelV v u ∧ Q v H'
def CR (CX : CXT) (outer : List Env) (P : Program) (w : World) (H : Hp) (s : Shared) (Q : VK) (E : XK) (r : Result) (s' : Shared) : Prop :=
  match r with
  | .ok (.ret u) => CE outer P w H s Q u s'
  | .ok _ => False
  | .error e => CX outer H s E e s'
structure FnOk (P : Program) (w : World) (K : PySem.W.Frag) (mg : Str → Option Value) (base : Heap) (CX : CXT) (k : Nat) (f : Addr) (fd : FuncData) (ps : List Str) (sp : Sp) : Prop where
  len : ∀ vs H Q E, sp vs H Q E → vs.length = ps.length
  run : ∀ (A : Around) (outer : List Env) (s : Shared) (H : Hp) (args : Args) (us : List Value) (vs : List V) (Q : VK) (E : XK), Room k A → Env0 P w K mg base A outer s H → BindsTo s fd args (ps.zip us) → Vals vs us → sp vs H Q E →
    codeAny (model P w) A (.call (.ref f) args) (CR CX outer P w H s Q E) s
theorem FnOk.mono {P : Program} {w : World} {K : PySem.W.Frag} {mg : Str → Option Value} {base : Heap} {CX : CXT} {j k : Nat} {f : Addr} {fd : FuncData} {ps : List Str} {sp : Sp} (F : FnOk P w K mg base CX j f fd ps sp) (h : j ≤ k) :
    FnOk P w K mg base CX k f fd ps sp := ⟨F.len, fun A outer s H args us vs Q E hr => F.run A outer s H args us vs Q E (hr.mono h)⟩
theorem Env0.make {P : Program} {w : World} {K : PySem.W.Frag} {mg : Str → Option Value} {base : Heap} {A : Around} {outer : List Env} {s : Shared} {H : Hp} (e : Env0 P w K mg base A outer s H) (C : Addr) (us : List Value) (kw : List (Str × Value)) :
    Env0 P w K mg base (A.under (.builtin "type.__call__" ⟨.ref C :: us, kw⟩)) outer s H := ⟨by first | exact e.frames | (simpa [Around.under, Code.envs, Code.isFrame, pushEnvs] using e.frames), e.mod, e.bs, e.bsz, e.funs, e.frf, e.hok, e.bare⟩
section
variable {X : Cx} {pins : List (Addr × Obj)} {σ : St} {H : Hp} {s s' : Shared}
/-- from a body: what a callee wants -/
theorem Inv.env0 (I : Inv X pins σ H s) : Env0 X.prog X.w X.K X.mg X.base X.A X.stack s H :=
  ⟨I.ok.frames, I.ok.mod, I.bs, Nat.le_trans I.ok.bsz I.sz, I.stack, I.stkFree, I.hok, I.bare⟩
/-- behind a call -/
theorem Inv.after {Q : VK} {u : Value} (I : Inv X pins σ H s) (h : CE X.stack X.prog X.w H s Q u s') : EP X pins σ Q u s' := by
  obtain ⟨v, H', os, bare, un, hok, r, q⟩ := h
  obtain ⟨hh, g, d, t, os'⟩ := s'
  obtain rfl : os' = s.os := os
  exact ⟨v, H', I.call (h' := hh) (g' := g) (d' := d) (t' := t) (ch := []) un hok bare (fun b z => absurd z (by simp)), r, q⟩
end

/-! ### calls -/
/-- f(..): the written arguments, then the defaults dvs; E: what is wanted of an exception -/
def tCall (sp : Sp) (dvs : List V) (E : XK) (t : TA) : TE := fun σ H Q => t σ H fun vs H1 => sp (vs ++ dvs) H1 Q E
/-- how the parameters are bound: us the positional arguments, kw the keywords' values by name, ds the defaults that fill up -/
def Binds (K : PySem.W.Frag) (fd : FuncData) (ps : List Str) (ds : List Value) : Prop :=
  ∀ (s : Shared) (us : List Value), K.In s.heap → (us ++ ds).length = ps.length → BindsTo s fd ⟨us, []⟩ (ps.zip (us ++ ds))
/-- every parameter is given -/
theorem Binds.all {K : PySem.W.Frag} {fd : FuncData} {ps : List Str} (h : ∀ us : List Value, us.length = ps.length → bindArgs fd ⟨us, []⟩ = pure (ps.zip us)) : Binds K fd ps [] := fun s us _ hl => by
  rw [List.append_nil] at hl ⊢
  exact .of_eq (h us hl)

/-- an exception of a callee reaches what this body wants of exceptions -/
def Passes (CX : CXT) (X : Cx) (E : XK) : Prop := ∀ (pins : List (Addr × Obj)) (σ : St) (H : Hp) (s : Shared) (e : Value) (s' : Shared), Inv X pins σ H s → CX X.stack H s E e s' → X.xe e s'

section
variable {X : Cx} {CX : CXT} {k : Nat} {f C : Addr} {fd : FuncData} {ps : List Str} {sp : Sp} {dvs : List V} {ds : List Value} {E : XK} {x m : Str} {p pos apos : Pos} {e o : Expr} {es : List Expr} {ta : TE} {t : TA}

/-- the callee runs -/
theorem run_fn {pins : List (Addr × Obj)} {σ : St} {H : Hp} {s : Shared} {Q : VK} {us : List Value} {vs : List V} (F : FnOk X.prog X.w X.K X.mg X.base CX k f fd ps sp) (hr : Room k X.A) (hb : Binds X.K fd ps ds) (hd : Vals dvs ds) (hx : Passes CX X E)
    (I : Inv X pins σ H s) (r : Vals vs us) (h : sp (vs ++ dvs) H Q E) : wpAny (model X.prog X.w) X.A (call (.ref f) us) (EP X pins σ Q) X.xe s := by
  have r2 : Vals (vs ++ dvs) (us ++ ds) := r.append hd
  have hl : (us ++ ds).length = ps.length := by rw [← r2.length]; exact F.len _ _ _ _ h
  refine wpAny_call (codeAny_mono (F.run X.A X.stack s H ⟨us, []⟩ (us ++ ds) (vs ++ dvs) Q E hr I.env0 (hb s us I.kIn hl) r2 h) fun r s' hq => ?_)
  cases r with
  | error e => exact hx pins σ H s e s' I hq
  | ok fl =>
    cases fl with
    | ret u => exact I.after hq
    | next => exact False.elim hq
    | brk => exact False.elim hq
    | cont => exact False.elim hq

theorem pe_call (F : FnOk X.prog X.w X.K X.mg X.base CX k f fd ps sp) (hr : Room k X.A) (hg : Gl X x) (hm : X.mg x = some (.ref f)) (hk : PySem.W.keepIn X.K (.ref f) = true) (hb : Binds X.K fd ps ds) (hd : Vals dvs ds) (hx : Passes CX X E)
    (ha : PA X (e :: es) t) (hdb : (x == ("__debug__" : Str)) = false := by decide) (he : starEach (e :: es) X.env = (false, eval e X.env) :: starEach es X.env := by rfl) (hpl : (backTo pos (starEach es X.env)).any (·.1) = false := by rfl) :
    PE X (.Call (.Name x p) (e :: es) [] pos) (tCall sp dvs E t) := by
  intro pins s σ H Q I h
  refine wpAny_Call_Name_kw (ld_glob I hg hm ?_ hdb)
  refine PySem.W.callWith_K (h₀ := X.base) I.ok.mod.kin hk (thn (ha pos pins s σ H _ I h) fun us s1 ⟨vs, H1, I1, r, q⟩ => ⟨I1.kIn, ?_⟩) he hpl
  exact run_fn F hr hb hd hx I1 r q
/-- what a class must have to be made -/
structure Mk (K : PySem.W.Frag) (C f : Addr) : Prop where
  makes : PySem.W.makesIn K C = true
  init : PySem.W.findIn K (.ref C) "__init__" = some (some (.ref f))
  fn : PySem.W.isFn K (.ref f) = true
  kp : PySem.W.keepIn K (.ref C) = true

theorem run_make {pins : List (Addr × Obj)} {σ : St} {H : Hp} {s : Shared} {Q : VK} {us : List Value} {vs : List V} (M : Mk X.K C f) (F : FnOk X.prog X.w X.K X.mg X.base CX k f fd ps sp) (hr : Room (k + 1) X.A) (hb : Binds X.K fd ps ds) (hd : Vals dvs ds)
    (hx : Passes CX X E) (I : Inv X pins σ H s) (r : Vals vs us)
    (h : ∀ x dx, H x = none → H dx = none → dx ≠ x → sp (.ref x :: (vs ++ dvs)) (upd (upd H dx (.own x)) x (.ins C dx [])) (fun v H2 => v = .non ∧ Q (.ref x) H2) E) :
    wpAny (model X.prog X.w) X.A (call (.ref C) us) (EP X pins σ Q) X.xe s := by
  have hq := h (s.heap.objs.size + 1) s.heap.objs.size (I.hok.fresh (Nat.le_succ _)) (I.hok.fresh (Nat.le_refl _)) (Nat.ne_of_lt (Nat.lt_succ_self _))
  have I2 := Inv.made (C := C) I
  have r2 : Vals (V.ref (s.heap.objs.size + 1) :: (vs ++ dvs)) (Value.ref (s.heap.objs.size + 1) :: (us ++ ds)) := .cons rfl (r.append hd)
  have hl : (Value.ref (s.heap.objs.size + 1) :: us ++ ds).length = ps.length := by
    have e := r2.length
    rw [F.len _ _ _ _ hq] at e
    exact e.symm
  refine wpAny_call (make_map (f := f) I.kIn M.makes M.init (beq_iff_eq.mp M.fn) (codeAny_mono (F.run _ X.stack _ _ ⟨Value.ref (s.heap.objs.size + 1) :: us, []⟩ (Value.ref (s.heap.objs.size + 1) :: (us ++ ds)) _ _ E (hr.make C us [])
    (I2.env0.make C us []) (hb _ (Value.ref (s.heap.objs.size + 1) :: us) I2.kIn hl) r2 hq) fun r s' hq' => ?_))
  cases r with
  | error e => exact hx pins σ _ _ e s' I2 hq'
  | ok fl =>
    cases fl with
    | ret u =>
      obtain ⟨v, H', I3, rv, ev, q3⟩ := I2.after hq'
      subst ev
      exact ⟨rv, ⟨V.ref (s.heap.objs.size + 1), H', I3, rfl, q3⟩⟩
    | next => exact False.elim hq'
    | brk => exact False.elim hq'
    | cont => exact False.elim hq'
end

/-! ### keywords -/
section
variable {X : Cx} {CX : CXT} {k : Nat} {f C : Addr} {fd : FuncData} {ps ks : List Str} {sp : Sp} {E : XK} {x m : Str} {p pos apos kpos : Pos} {e o : Expr} {es : List Expr} {kws : List Keyword} {te ta : TE} {t tk : TA} {nm : Option Str}
variable {g : List Value → List Value → List Value} {gV : List V → List V → List V}
end

/-! ### a def's body keeps its promise -/
/-- names: the parameters first -/
structure FnScope (N P : List Str) (sc : Scope) : Prop where
  kind : sc.kind = .function
  co : sc.isCoroutine = false
  gen : sc.isGenerator = false
  nd : N.Nodup
  pre : N.take P.length = P
  par : ∀ x ∈ P, sc.names.lookup x = some .local ∨ sc.names.lookup x = some .cell
  nofree : ∀ y ∈ sc.names, y.2 ≠ .free

theorem bindL_out {kindOf : Str → Option NameKind} {x : Str} : ∀ {binds : List (Str × Value)} {m : Str → Option Value}, (∀ v, (x, v) ∉ binds) → bindL kindOf binds m x = m x
  | [], _, _ => rfl
  | (n, v) :: r, m, h => by
    unfold bindL
    rw [bindL_out fun w hw => h w (List.mem_cons_of_mem _ hw)]
    split
    · have : x ≠ n := by rintro rfl; exact h v List.mem_cons_self
      simp [this]
    · rfl
theorem bindC_out {kindOf : Str → Option NameKind} {x : Str} : ∀ {binds : List (Str × Value)} {m : Str → Option Value}, (∀ v, (x, v) ∉ binds) → bindC kindOf binds m x = m x
  | [], _, _ => rfl
  | (n, v) :: r, m, h => by
    unfold bindC
    rw [bindC_out fun w hw => h w (List.mem_cons_of_mem _ hw)]
    split
    · rfl
    · have : x ≠ n := by rintro rfl; exact h v List.mem_cons_self
      simp [this]
theorem bindL_get {kindOf : Str → Option NameKind} {x : Str} {v : Value} : ∀ {P : List Str} {vs : List Value} {i : Nat} {m : Str → Option Value}, P.Nodup → P[i]? = some x → vs[i]? = some v → kindOf x = some .local →
    bindL kindOf (P.zip vs) m x = some v
  | [], _, _, _, _, h, _, _ => by simp at h
  | _ :: _, [], _, _, _, _, h, _ => by simp at h
  | p :: P, w :: vs, 0, m, nd, h1, h2, hk => by
    simp at h1 h2; subst h1; subst h2
    show bindL kindOf ((p, w) :: P.zip vs) m p = _
    unfold bindL
    rw [bindL_out fun v hv => (List.nodup_cons.mp nd).1 (List.of_mem_zip hv).1, if_pos hk]
    simp
  | p :: P, w :: vs, i + 1, m, nd, h1, h2, hk => by
    show bindL kindOf ((p, w) :: P.zip vs) m x = _
    unfold bindL
    exact bindL_get (i := i) (List.nodup_cons.mp nd).2 (by simpa using h1) (by simpa using h2) hk
theorem bindC_get {kindOf : Str → Option NameKind} {x : Str} {v : Value} : ∀ {P : List Str} {vs : List Value} {i : Nat} {m : Str → Option Value}, P.Nodup → P[i]? = some x → vs[i]? = some v → kindOf x ≠ some .local →
    bindC kindOf (P.zip vs) m x = some v
  | [], _, _, _, _, h, _, _ => by simp at h
  | _ :: _, [], _, _, _, _, h, _ => by simp at h
  | p :: P, w :: vs, 0, m, nd, h1, h2, hk => by
    simp at h1 h2; subst h1; subst h2
    show bindC kindOf ((p, w) :: P.zip vs) m p = _
    unfold bindC
    rw [bindC_out fun v hv => (List.nodup_cons.mp nd).1 (List.of_mem_zip hv).1, if_neg hk]
    simp
  | p :: P, w :: vs, i + 1, m, nd, h1, h2, hk => by
    show bindC kindOf ((p, w) :: P.zip vs) m x = _
    unfold bindC
    exact bindC_get (i := i) (List.nodup_cons.mp nd).2 (by simpa using h1) (by simpa using h2) hk

/-- the names' values at the entry -/
def start (N : List Str) (vs : List V) : St := vs.map some ++ List.replicate (N.length - vs.length) none

/-- the context of a def's body, at its entry; an exception leaves the frame, then lies as CX says -/
def cxOf (CX : CXT) (P : Program) (w : World) (K : PySem.W.Frag) (mg : Str → Option Value) (base : Heap) (N : List Str) (qual : Str) (scope : Scope) (f : Addr) (cd : Value) (A : Around) (outer : List Env) (s : Shared) (H : Hp) (E : XK) : Cx where
  prog := P
  w := w
  K := K
  mg := mg
  base := base
  A := A.deeper (envOfC qual scope s.heap.objs.size f cd)
  N := N
  s₀ := s
  H₀ := H
  env := envOfC qual scope s.heap.objs.size f cd
  outer := outer
  stack := envOfC qual scope s.heap.objs.size f cd :: outer
  ex := []
  calm := true
  fn := fun _ => true
  pn := []
  xe := fun e s' => wpAny (model P w) (A.deeper (envOfC qual scope s.heap.objs.size f cd)) (leaving (envOfC qual scope s.heap.objs.size f cd) e) (fun _ s'' => CX outer H s E e s'') (fun e' s'' => CX outer H s E e' s'') s'

theorem cell_has {sc : Scope} {n : Nat} {x : Str} (h : sc.names.lookup x = some .cell) : ∃ c, (cellsFrom n sc.names []).lookup x = some c := by
  have q := PySem.W.cellsFrom_some sc.names n [] (.inl h)
  exact Option.isSome_iff_exists.mp q

theorem inv_start {CX : CXT} {P : Program} {w : World} {K : PySem.W.Frag} {mg : Str → Option Value} {base : Heap} {N ps : List Str} {qual : Str} {scope : Scope} {f : Addr} {cd : Value} {A : Around} {outer : List Env} {s s1 : Shared} {H : Hp} {E : XK} {us : List Value} {vs : List V}
    (S : FnScope N ps scope) (hd : A.handled = none) (e0 : Env0 P w K mg base A outer s H) (hl : vs.length = ps.length) (r : Vals vs us)
    (x : InCallC s s.heap.objs.size (bindL (envOfC qual scope s.heap.objs.size f cd).kindOf (ps.zip us) fun _ => none) (cellsFrom (s.heap.objs.size + 1) scope.names []) (bindC (envOfC qual scope s.heap.objs.size f cd).kindOf (ps.zip us) fun _ => none) s1) :
    Inv (cxOf CX P w K mg base N qual scope f cd A outer s H E) [] (start N vs) H s1 := by
  have hpl : ps.length ≤ N.length := by have := congrArg List.length S.pre; rw [List.length_take] at this; omega
  obtain ⟨h1, tk, rfl, hk⟩ := x.done
  have noA : ∀ b : Addr, b ∉ (cxOf CX P w K mg base N qual scope f cd A outer s H E).ex := fun b z => absurd (show b ∈ ([] : List Addr) from z) (by simp)
  refine ⟨⟨e0.mod, S.kind, rfl, rfl, Nat.le_refl _, fun y z c h1 h2 => ?_, fun y hy => ?_, fun y c _ h => ?_, fun _ => hd, Around.frames_deeper e0.frames, .inr ⟨rfl, rfl⟩, fun b z => absurd z (noA b), e0.bs, e0.bsz, fun b _ _ => noA b, fun b z => absurd z (noA b), e0.funs, e0.frf⟩,
    rfl, e0.bare, Un.kept hk, ⟨_, x.toInCall.ns, fun i y v h1 h2 h3 => ?_⟩, fun y c h => ⟨_, x.cell y c h⟩, e0.hok.fresh (Nat.le_refl _), fun y c h => ?_, fun p hp => absurd (show p ∈ ([] : List (Addr × Obj)) from hp) (by simp), e0.hok.kept hk, ?_⟩
  · exact name_of_addr x.apart (PySem.mem_of_lookup h1) (PySem.mem_of_lookup h2)
  · have hy : scope.names.lookup y = some .cell ∨ scope.names.lookup y = some .free := hy
    rcases hy with hy | hy
    · exact cell_has hy
    · exact absurd rfl (S.nofree _ (PySem.mem_of_lookup hy))
  · exact Nat.le_of_lt (x.above y c (PySem.mem_of_lookup h))
  · have hi : i < vs.length := by
      unfold start at h2
      by_cases hi : i < vs.length
      · exact hi
      · rw [List.getElem?_append_right (by simpa using hi)] at h2
        rw [List.getElem?_replicate] at h2
        split at h2 <;> cases h2
    have ha : vs[i]? = some v := by
      unfold start at h2
      rw [List.getElem?_append_left (by simpa using hi), List.getElem?_map] at h2
      cases e : vs[i]? with
      | none => rw [e] at h2; cases h2
      | some a => rw [e] at h2; cases h2; rfl
    obtain ⟨u, hu, rv⟩ := r.get ha
    have hp : ps[i]? = some y := by
      rw [← S.pre, List.getElem?_take_of_lt (by omega)]; exact h1
    have ndP : ps.Nodup := by rw [← S.pre]; exact S.nd.sublist (List.take_sublist _ _)
    refine ⟨u, rv, ?_⟩
    rcases S.par y (List.mem_of_getElem? hp) with k | k
    · exact .inl ⟨k, bindL_get ndP hp hu k⟩
    · obtain ⟨c, e⟩ := cell_has (n := s.heap.objs.size + 1) k
      refine .inr ⟨.inl k, c, e, ?_⟩
      have q := x.cell y c e
      rw [bindC_get ndP hp hu (by show scope.names.lookup y ≠ _; rw [k]; decide)] at q
      exact q
  · exact e0.hok.fresh (Nat.le_of_lt (x.above y c (PySem.mem_of_lookup h)))
  · unfold start
    show _ = N.length
    rw [List.length_append, List.length_map, List.length_replicate]
    omega

/-- THE RULE: a def (or a method) of the text, by its body. The body's reading t is chosen for each entry; it is run at the parameters' values -/
theorem fn_of {CX : CXT} {P : Program} {w : World} {K : PySem.W.Frag} {mg : Str → Option Value} {base : Heap} {k : Nat} {f : Addr} {name qual : Str} {params : Arguments} {body : List Stmt} {scope : Scope} {dV kV doc pm cdv ct oc : Value} {an od : Option Addr}
    {osl : Array (Option Value)} {N ps : List Str} {sp : Sp} (lk : K.lookup f = some ⟨oc, od, .func (PySem.W.fnOf name qual params body scope dV kV doc pm an cdv ct), osl⟩) (hcd : PySem.W.codeIn K cdv qual = true) (S : FnScope N ps scope)
    (len : ∀ vs H Q E, sp vs H Q E → vs.length = ps.length)
    (hbody : ∀ (A : Around) (outer : List Env) (s : Shared) (H : Hp) (vs : List V) (Q : VK) (E : XK), Room k (A.deeper (envOfC qual scope s.heap.objs.size f cdv)) → sp vs H Q E →
      ∃ t, PSs (cxOf CX P w K mg base N qual scope f cdv A outer s H E) body t ∧ t { nx := fun _ H' => Q .non H', rt := Q } (start N vs) H) :
    FnOk P w K mg base CX (k + 1) f (PySem.W.fnOf name qual params body scope dV kV doc pm an cdv ct) ps sp := by
  refine ⟨len, fun A outer s H args us vs Q E hr e0 hb r hsp => ?_⟩
  have hl := len _ _ _ _ hsp
  have KX : K.In s.heap := e0.mod.kin.keeps fun b o e => (e0.bs b o e).1
  have lim : s.heap.NoLimit := e0.mod.nolimit.keeps fun b o e => (e0.bs b o e).1
  have hkind : ∀ y ∈ ps.zip us, scope.names.lookup y.1 = some .local ∨ (scope.names.lookup y.1 = some .cell ∧ ((cellsFrom (s.heap.objs.size + 1) scope.names []).lookup y.1).isSome = true) := fun ⟨n, v⟩ hy => by
    rcases S.par n (List.of_mem_zip hy).1 with q | q
    · exact .inl q
    · exact .inr ⟨q, PySem.W.cellsFrom_some _ _ _ (.inl q)⟩
  refine codeAny_call_function hr.depth (KX _ _ lk) rfl S.co S.gen rfl (PySem.W.codeRec_of KX hcd) (hb _ _ _ _ ?_)
  refine wpAny_newFunctionEnv_cells S.kind hkind fun env he s1 x => ?_
  subst he
  refine ⟨lim.keeps x.toInCall.keep, codeAny_func ?_⟩
  obtain ⟨t, ht, hq⟩ := hbody A outer s H vs Q E (hr.deeper _) hsp
  have I : Inv (cxOf CX P w K mg base N qual scope f cdv A outer s H E) [] (start N vs) H s1 := inv_start S hr.hd e0 hl r x
  refine wpAny_mono (ht [] s1 (start N vs) H _ I hq) (fun fl s' hs => ?_) fun e s' hs => hs
  have fin : ∀ {σ' : St} {H' : Hp} {v : V} {u : Value}, Inv (cxOf CX P w K mg base N qual scope f cdv A outer s H E) [] σ' H' s' → RelV v u → Q v H' → CE outer P w H s Q u s' :=
    fun {σ' H' v u} J rv q => ⟨v, H', J.os, J.bare, J.base, J.hok, rv, q⟩
  cases fl with
  | ret u =>
    obtain ⟨v, σ', H', J, rv, q⟩ := hs
    exact fin J rv q
  | next =>
    obtain ⟨σ', H', J, q⟩ := hs
    exact fin (v := V.non) (u := Value.none) J rfl q
  | brk =>
    obtain ⟨_, _, _, q⟩ := hs
    exact False.elim q
  | cont =>
    obtain ⟨_, _, _, q⟩ := hs
    exact False.elim q
end L2

namespace L2
open PySem PySem.Spec PyProof.Rows
section
variable {X : Cx} {x : Str} {p pos : Pos} {e : Expr} {es : List Expr} {t : TA} {id T : String} {r : List V → Hp → VK → Prop}

def tCB (r : List V → Hp → VK → Prop) (t : TA) : TE := fun σ H Q => t σ H fun vs H1 => r vs H1 Q
/-- f(e, ..), f a built-in function -/
theorem pe_callB (hc : CallR X (.builtin id) r) (hg : Gl X x) (hm : X.mg x = none) (hv : bootBuiltins x = some (.builtin id)) (ha : PA X (e :: es) t) (hn : x ≠ "__name__" := by decide) (hdb : (x == ("__debug__" : Str)) = false := by decide)
    (he : starEach (e :: es) X.env = (false, eval e X.env) :: starEach es X.env := by rfl) (hpl : (backTo pos (starEach es X.env)).any (·.1) = false := by rfl) : PE X (.Call (.Name x p) (e :: es) [] pos) (tCB r t) := by
  intro pins s σ H Q I h
  refine wpAny_Call_Name_kw (ld_blt I hg hm hv ?_ hn hdb)
  exact PyProof.Rows.callWith_builtin1 (thn (ha pos pins s σ H _ I h) fun us s1 ⟨vs, H1, I1, r1, q1⟩ => hc pins s1 σ H1 vs us Q I1 r1 q1) he hpl
/-- T(e, ..), T a built-in type -/
theorem pe_callTy (hc : CallR X (.type T) r) (hg : Gl X x) (hm : X.mg x = none) (hv : bootBuiltins x = some (.type T)) (ha : PA X (e :: es) t) (hn : x ≠ "__name__" := by decide) (hdb : (x == ("__debug__" : Str)) = false := by decide)
    (he : starEach (e :: es) X.env = (false, eval e X.env) :: starEach es X.env := by rfl) (hpl : (backTo pos (starEach es X.env)).any (·.1) = false := by rfl) : PE X (.Call (.Name x p) (e :: es) [] pos) (tCB r t) := by
  intro pins s σ H Q I h
  refine wpAny_Call_Name_kw (ld_blt I hg hm hv ?_ hn hdb)
  exact PyProof.Rows.callWith_type1 (thn (ha pos pins s σ H _ I h) fun us s1 ⟨vs, H1, I1, r1, q1⟩ => hc pins s1 σ H1 vs us Q I1 r1 q1) he hpl
end
end L2

namespace HT
open PySem PyProof.Rows

section
open PySem.SeqAt
open PySem.AutoSeq1 (wpAny_loadPart')
open PySem.MeetsSeq PySem.MeetsSeq2 PySem.MeetsSeq3

end

section
variable {prog : Program} {w : World} {A : Around} {E : Value → Shared → Prop} {s : Shared}

/-! ### t[a:b], not the whole -/
/-- a slice's bound as a place among n (d where it is left out) -/
def sIx (n d : Nat) : Option Int → Nat
  | none => d
  | some v => if v < 0 then (v + (n : Int)).toNat else min v.toNat n
theorem sIx_none (n d : Nat) : sIx n d none = d := rfl
theorem sIx_nat (n d k : Nat) : sIx n d (some (k : Int)) = min k n := by
  show (if (k : Int) < 0 then ((k : Int) + (n : Int)).toNat else min (k : Int).toNat n) = min k n
  rw [if_neg (by omega), Int.toNat_natCast]
end
end HT

namespace L2
open PySem PySem.Spec PyProof.Rows

/-! ### the parts of a slice -/
abbrev TO := St → Hp → (Option Int → Hp → Prop) → Prop
/-- a slice's part (left out, or an int) -/
def PO (X : Cx) (e : Option Expr) (t : TO) : Prop :=
  ∀ (pins : List (Addr × Obj)) (s : Shared) (σ : St) (H : Hp) (Q : Option Int → Hp → Prop), Inv X pins σ H s → t σ H Q →
    wpAny (model X.prog X.w) X.A (evalPart e X.env) (fun u s' => ∃ o H', Inv X pins σ H' s' ∧ IsPart u o ∧ Q o H') X.xe s
def tNoPart : TO := fun _ H Q => Q none H
def tPart (t : TE) : TO := fun σ H Q => t σ H fun x H1 => ∃ i, x = .int i ∧ Q (some i) H1

theorem intsAre_of {ns : List Int} : ∀ {us : List Value}, Vals (ns.map V.int) us → IntsAre us ns := by
  induction ns with
  | nil => intro us r; rw [List.map_nil] at r; cases r; exact .nil
  | cons n ns ih =>
    intro us r
    rw [List.map_cons] at r
    cases r with
    | cons r1 r2 =>
      obtain ⟨t, e⟩ := r1
      subst e
      exact .cons n t (ih r2)

section
variable {X : Cx} {e : Expr} {te : TE} {lo hi : Option Expr} {tl th : TO} {pos p2 : Pos}

theorem po_none : PO X none tNoPart := by
  intro pins s σ H Q I h
  rw [evalPart_none]
  exact wpAny_pure ⟨none, H, I, .none, h⟩
theorem po_some (h : PE X e te) : PO X (some e) (tPart te) := by
  intro pins s σ H Q I hw
  rw [evalPart_some]
  refine thn (h pins s σ H _ I hw) fun u s1 ⟨x, H1, I1, r1, q1⟩ => ?_
  obtain ⟨i, rfl, q⟩ := q1
  obtain ⟨t, rfl⟩ := r1
  exact ⟨some i, H1, I1, .int i t, q⟩

/-- what a slice of a value is, by values: the slice object stands at sl -/
def SlR (X : Cx) (r : V → Option Int → Option Int → Hp → VK → Prop) : Prop :=
  ∀ (pins : List (Addr × Obj)) (s : Shared) (σ : St) (H : Hp) (x : V) (v vl vu : Value) (lo hi : Option Int) (sl : Addr) (Q : VK), Inv X pins σ H s → RelV x v → s.heap.IsSliceOf sl vl vu .none → IsPart vl lo → IsPart vu hi → r x lo hi H Q →
    ∃ T id, typeLookup (.type T) "__getitem__" = pure (some (.builtin id)) ∧ s.TypeIs v T ∧ wpAny (model X.prog X.w) X.A (getItem v (.ref sl)) (EP X pins σ Q) X.xe s
def tSl (r : V → Option Int → Option Int → Hp → VK → Prop) (te : TE) (tl th : TO) : TE := fun σ H Q => te σ H fun x H1 => tl σ H1 fun l H2 => th σ H2 fun u H3 => r x l u H3 Q
/-- a[lo:hi], any a -/
theorem pe_slice {r : V → Option Int → Option Int → Hp → VK → Prop} (hr : SlR X r) (he : PE X e te) (hl : PO X lo tl) (hu : PO X hi th) : PE X (.Subscript e (.Slice lo hi none p2) pos) (tSl r te tl th) := by
  intro pins s σ H Q I h
  refine Subscript_ (thn (he pins s σ H _ I h) fun v s1 ⟨x, H1, I1, r1, q1⟩ => ?_)
  refine wpAny_Slice (thn (hl pins s1 σ H1 _ I1 q1) fun vl s2 ⟨l, H2, I2, pl, q2⟩ => thn (hu pins s2 σ H2 _ I2 q2) fun vu s3 ⟨u, H3, I3, pu, q3⟩ => ?_)
  rw [evalPart_none]
  refine wpAny_pure ?_
  have I4 : Inv X pins σ H3 { s3 with heap := s3.heap.push { cls := .type "slice", data := .fields #[vl, vu, .none] } } := I3.kept (t' := s3.toks) fun b ob q => Heap.get?_push_of_some _ q
  obtain ⟨T, id, hT, ht, hg⟩ := hr pins { s3 with heap := s3.heap.push { cls := .type "slice", data := .fields #[vl, vu, .none] } } σ H3 x v vl vu l u s3.heap.objs.size Q I4 r1 (Heap.IsSliceOf.new ..) pl pu q3
  show wpAny (model X.prog X.w) X.A (subscriptTail e (.Slice lo hi none p2) v (.ref s3.heap.objs.size)) (EP X pins σ Q) X.xe { s3 with heap := s3.heap.push { cls := .type "slice", data := .fields #[vl, vu, .none] } }
  exact tail_any (ops := [.ref s3.heap.objs.size, v]) ht hT hg (by with_unfolding_all rfl)

/-- the items of xs[lo:hi] -/
def cutV (xs : List V) (lo hi : Option Int) : List V := (xs.drop (HT.sIx xs.length 0 lo)).take (HT.sIx xs.length xs.length hi - HT.sIx xs.length 0 lo)
theorem cutV_length (xs : List V) (lo hi : Option Int) : (cutV xs lo hi).length ≤ xs.length := by
  unfold cutV
  rw [List.length_take, List.length_drop]
  omega
/-! ### t < u, t + u -/
end
end L2

namespace L2
open PySem PySem.Spec PyProof.Rows

/-! ### places -/
/-- the place that an index of any sign means -/
def ixN (n : Nat) (i : Int) : Option Nat := if 0 ≤ i then (if i < n then some i.toNat else none) else if -(n : Int) ≤ i then some (i + n).toNat else none
def atI {α : Type} (xs : List α) (i : Int) : Option α := (ixN xs.length i).bind fun j => xs[j]?
theorem ixN_seq {n : Nat} {i : Int} {j : Nat} (h : ixN n i = some j) : seqIndex? i n = some j ∧ j < n ∧ -(n : Int) ≤ i ∧ i < n := by
  unfold ixN at h
  by_cases h0 : 0 ≤ i
  · rw [if_pos h0] at h
    by_cases h1 : i < n
    · rw [if_pos h1] at h
      have e : i.toNat = j := Option.some.inj h
      exact ⟨by rw [seqIndex_of h0 h1, e], by omega, by omega, h1⟩
    · rw [if_neg h1] at h; cases h
  · rw [if_neg h0] at h
    by_cases h1 : -(n : Int) ≤ i
    · rw [if_pos h1] at h
      have e : (i + n).toNat = j := Option.some.inj h
      exact ⟨by rw [seqIndex_neg (by omega) h1, e], by omega, h1, by omega⟩
    · rw [if_neg h1] at h; cases h
theorem atI_get {α : Type} {xs : List α} {i : Int} {v : α} (h : atI xs i = some v) : ∃ j, seqIndex? i xs.length = some j ∧ xs[j]? = some v ∧ j < xs.length ∧ -(xs.length : Int) ≤ i ∧ i < xs.length := by
  unfold atI at h
  cases e : ixN xs.length i with
  | none => rw [e] at h; cases h
  | some j =>
    rw [e] at h
    obtain ⟨h1, h2, h3, h4⟩ := ixN_seq e
    exact ⟨j, h1, h, h2, h3, h4⟩
theorem atI_nat {α : Type} {xs : List α} {j : Nat} {v : α} (h : xs[j]? = some v) : atI xs (j : Int) = some v := by
  have hj : j < xs.length := (List.getElem?_eq_some_iff.mp h).1
  have e : ixN xs.length (j : Int) = some j := by
    unfold ixN
    rw [if_pos (by omega), if_pos (by omega)]; simp
  unfold atI; rw [e]; exact h
/-! ### what may be subscripted -/
/-- what stands as an index of a plain subscript -/
def PlainIx (b : Expr) : Prop := ∀ o i, subscripted b false o i = operate [o, i] (getItem o i)
/-- a subscript by values -/
def IxR (X : Cx) (r : R2) : Prop :=
  ∀ (value slice : Expr) (pins : List (Addr × Obj)) (s : Shared) (σ : St) (H : Hp) (x y : V) (v u : Value) (Q : VK), Inv X pins σ H s → RelV x v → RelV y u → r x y H Q →
    subscripted slice false v u = operate [v, u] (getItem v u) → wpAny (model X.prog X.w) X.A (subscriptTail value slice v u) (EP X pins σ Q) X.xe s
/-- a call of a builtin's method by values: the receiver, the arguments -/
def MtR (X : Cx) (id : String) (r : V → List V → Hp → VK → Prop) : Prop :=
  ∀ (pins : List (Addr × Obj)) (s : Shared) (σ : St) (H : Hp) (x : V) (xs : List V) (v : Value) (us : List Value) (Q : VK), Inv X pins σ H s → RelV x v → Vals xs us → r x xs H Q →
    wpAny (model X.prog X.w) X.A (call (.builtin id) (v :: us)) (EP X pins σ Q) X.xe s
section
variable {X : Cx} {a b : Expr} {ta tb : TE} {pos : Pos}
/-- a[b] -/
theorem pe_ix {r : R2} (hr : IxR X r) (ha : PE X a ta) (hb : PE X b tb) (hs : PlainIx b) : PE X (.Subscript a b pos) (tOp r ta tb) := by
  intro pins s σ H Q I h
  exact Subscript_ (binT ha hb I h fun v u s2 x y H2 I2 rx ry q => hr a b pins s2 σ H2 x y v u Q I2 rx ry q (hs _ _))

def rIxL (K : PySem.W.Frag) : R2 := fun x y H Q => ∃ p xs i v, x = .ref p ∧ y = .int i ∧ SqL K H p xs ∧ atI xs i = some v ∧ Q v H
def rIxT (K : PySem.W.Frag) : R2 := fun x y H Q => ∃ p xs i v, x = .ref p ∧ y = .int i ∧ SqT K H p xs ∧ atI xs i = some v ∧ Q v H
theorem ix_list : IxR X (rIxL X.K) := by
  intro value slice pins s σ H x y v u Q I rx ry h hs
  obtain ⟨p, xs, i, z, rfl, rfl, hq, he, q⟩ := h
  cases rx
  obtain ⟨t, rfl⟩ := ry
  obtain ⟨its, r, pl, hz⟩ := I.list hq
  obtain ⟨j, h1, h2, h3, h4, h5⟩ := atI_get he
  obtain ⟨w, ew, rw'⟩ := r.get h2
  have hl := r.length
  have hn := line63
  have fin : EP X pins σ Q w s := ⟨z, H, I, rw', q⟩
  by_cases h0 : 0 ≤ i
  · have hj : i.toNat = j := by
      rw [seqIndex_of h0 h5] at h1
      exact Option.some.inj h1
    exact item_listR pl.isList h0 (by omega) (by rw [hj]; simpa using ew) fin hs
  · have hj : (i + (its.toArray.size : Int)).toNat = j := by
      rw [seqIndex_neg (by omega) h4] at h1
      rw [List.size_toArray, ← hl]
      exact Option.some.inj h1
    exact subscriptTail_builtinR (x := w) pl.isList.typeIs slot_list_getitem.lookup
      (wpAny_getItem_list_neg (Q := fun r s' => r = w ∧ EP X pins σ Q r s') pl.isList (by omega) (by rw [List.size_toArray] <;> omega) (by omega) (by rw [hj]; simpa using ew) ⟨rfl, fin⟩) hs
theorem ix_tup : IxR X (rIxT X.K) := by
  intro value slice pins s σ H x y v u Q I rx ry h hs
  obtain ⟨p, xs, i, z, rfl, rfl, hq, he, q⟩ := h
  cases rx
  obtain ⟨t, rfl⟩ := ry
  obtain ⟨its, r, pl, hz⟩ := I.tuple hq
  obtain ⟨j, h1, h2, h3, h4, h5⟩ := atI_get he
  obtain ⟨w, ew, rw'⟩ := r.get h2
  have hl := r.length
  have hn := line63
  have fin : EP X pins σ Q w s := ⟨z, H, I, rw', q⟩
  exact subscriptTail_builtinR (x := w) pl.typeIs slot_tuple_getitem.lookup
    (getItem_tuple (j := j) (Q := fun r s' => r = w ∧ EP X pins σ Q r s') pl (by omega) (by omega) (by rw [List.size_toArray, ← hl]; exact h1) (by simpa using ew) ⟨rfl, fin⟩) hs
/-! ### xs[i] = v, any sign -/
/-- the list's object behind a store -/
theorem mapSeq_set (its : List Value) (n j : Nat) (u : Value) : Obj.mapSeq (·.setIfInBounds j u) { cls := .type "list", data := .seq its.toArray n } = { cls := .type "list", data := .seq (its.set j u).toArray n } := by
  simp [Obj.mapSeq]
theorem Inv.lst {pins : List (Addr × Obj)} {σ : St} {H : Hp} {s : Shared} {p : Addr} {xs : List V} (I : Inv X pins σ H s) (h : H p = some (.lst xs)) :
    ∃ (its : List Value) (n : Nat), Vals xs its ∧ s.heap.get? p = some { cls := .type "list", data := .seq its.toArray n } ∧ xs.length ≤ sizeLine := by
  obtain ⟨z, its, n, r, e⟩ := I.hok p _ h
  exact ⟨its, n, r, e, z⟩
/-- the list at p is written by an update of its object -/
theorem Inv.lstUpd {pins : List (Addr × Obj)} {σ : St} {H : Hp} {s : Shared} {p : Addr} {xs ys : List V} {its its' : List Value} {n n' : Nat} {f : Obj → Obj} (I : Inv X pins σ H s) (h : H p = some (.lst xs))
    (ho : s.heap.get? p = some { cls := .type "list", data := .seq its.toArray n }) (hf : f { cls := .type "list", data := .seq its.toArray n } = { cls := .type "list", data := .seq its'.toArray n' }) (r : Vals ys its') (hz : ys.length ≤ sizeLine) (t : Nat) :
    Inv X pins σ (upd H p (.lst ys)) { s with heap := s.heap.update p f, toks := t } := by
  have e : (s.heap.update p f).get? p = some { cls := .type "list", data := .seq its'.toArray n' } := by
    rw [Heap.get?_update_self f ho (by rw [hf] <;> rfl), hf]
  refine I.write (x := p) (e := p) (by rw [h]; trivial) (.inl rfl) (fun b u hb q => (Heap.get?_update_other _ _ (Ne.symm hb)).trans q) ⟨_, e⟩ ?_
  exact ⟨hz, its', n', r, e⟩
def rSetL : V → V → V → Hp → (Hp → Prop) → Prop := fun o i v H Q => ∃ p xs k j, o = .ref p ∧ i = .int k ∧ H p = some (.lst xs) ∧ ixN xs.length k = some j ∧ Q (upd H p (.lst (xs.set j v)))
theorem set_list : PSet X rSetL := by
  intro pins s σ H o i v ov iv u Q I ro ri rv h
  obtain ⟨p, xs, k, j, rfl, rfl, hp, hj, q⟩ := h
  cases ro
  obtain ⟨t, rfl⟩ := ri
  obtain ⟨its, n, r, ho, hz⟩ := I.lst hp
  obtain ⟨h1, h2, h3, h4⟩ := ixN_seq hj
  have hl := r.length
  have hn := line63
  have I' : Inv X pins σ (upd H p (.lst (xs.set j v))) { s with heap := s.heap.update p (Obj.mapSeq (·.setIfInBounds j u)) } :=
    I.lstUpd hp ho (mapSeq_set its n j u) (r.set rv j) (by rw [List.length_set]; exact hz) s.toks
  by_cases h0 : 0 ≤ k
  · have hk : k.toNat = j := by
      rw [seqIndex_of h0 h4] at h1
      exact Option.some.inj h1
    exact PySem.W.ki_setAt ho h0 (by omega) (by rw [List.size_toArray, ← hl]; exact h4) (by rw [hk]; exact ⟨_, I', q⟩)
  · have hk : (k + (its.toArray.size : Int)).toNat = j := by
      rw [seqIndex_neg (by omega) h3] at h1
      rw [List.size_toArray, ← hl]
      exact Option.some.inj h1
    exact PySem.W.ki_setBack ho (by omega) (by rw [List.size_toArray, ← hl]; exact h3) (by omega) (by rw [hk]; exact ⟨_, I', q⟩)

/-! ### slices -/
theorem slice_bounds (lo hi : Option Int) (n : Nat) : (sliceBounds lo hi none n).1 = ((HT.sIx n 0 lo : Nat) : Int) ∧ (sliceBounds lo hi none n).2.1 = ((HT.sIx n n hi : Nat) : Int) ∧ (sliceBounds lo hi none n).2.2 = 1 := by
  refine ⟨?_, ?_, rfl⟩
  · cases lo with
    | none => simp [sliceBounds, HT.sIx]
    | some i =>
      simp only [sliceBounds, HT.sIx, Option.getD_none, show (1 : Int) > 0 by decide, if_true]
      by_cases h : i < 0
      · simp only [h, if_true] <;> omega
      · simp only [h, if_false] <;> omega
  · cases hi with
    | none => simp [sliceBounds, HT.sIx]
    | some i =>
      simp only [sliceBounds, HT.sIx, Option.getD_none, show (1 : Int) > 0 by decide, if_true]
      by_cases h : i < 0
      · simp only [h, if_true] <;> omega
      · simp only [h, if_false] <;> omega
theorem slicePick_cut (its : List Value) (lo hi : Option Int) : slicePick its.toArray lo hi none = ((its.drop (HT.sIx its.length 0 lo)).take (HT.sIx its.length its.length hi - HT.sIx its.length 0 lo)).toArray := by
  obtain ⟨h1, h2, h3⟩ := slice_bounds lo hi its.toArray.size
  unfold slicePick
  rw [h1, h2, h3]
  simp only [sliceRange_one, pick_run, List.size_toArray] <;> rfl
/-- xs[lo:hi] of a list: a new list -/
def rSlL (K : PySem.W.Frag) : V → Option Int → Option Int → Hp → VK → Prop := fun x lo hi H Q => ∃ a xs, x = .ref a ∧ SqL K H a xs ∧ ∀ p, H p = none → Q (.ref p) (upd H p (.lst (cutV xs lo hi)))
theorem sl_list : SlR X (rSlL X.K) := by
  intro pins s σ H x v vl vu lo hi sl Q I rx hs pl pu h
  obtain ⟨a, xs, rfl, hx, q⟩ := h
  cases rx
  obtain ⟨its, r, ht, hz⟩ := I.list hx
  have hlen := r.length
  refine ⟨"list", _, slot_list_getitem.lookup, ht.isList.typeIs, ?_⟩
  refine wpAny_getItem_list_slice ht.isList hs pl pu .none (by simp) ?_ (by rw [List.size_toArray] <;> omega)
  rw [slicePick_cut, ← hlen]
  refine ⟨.ref s.heap.objs.size, _, I.laid (t' := s.toks) (o := .lst (cutV xs lo hi)) (fun b ob q => Heap.get?_push_of_some _ q) (Nat.le_refl _) ?_, rfl, q _ (I.hok.fresh (Nat.le_refl _))⟩
  exact ⟨Nat.le_trans (cutV_length xs lo hi) hz, _, 0, (r.drop (HT.sIx xs.length 0 lo)).take (HT.sIx xs.length xs.length hi - HT.sIx xs.length 0 lo), Heap.get?_push_size _ rfl⟩

/-! ### in, not in: flat items -/
def flatV : V → Bool
  | .non => true
  | .bl _ => true
  | .int _ => true
  | .str _ => true
  | _ => false
/-- == of flat values -/
def eqV : V → V → Bool
  | .non, .non => true
  | .bl a, .bl b => a == b
  | .bl a, .int b => (if a then 1 else 0) == b
  | .int a, .bl b => a == (if b then 1 else 0)
  | .int a, .int b => a == b
  | .str a, .str b => a == b
  | _, _ => false
theorem eqAt_V {A : Around} {s : Shared} {y x : V} {u v : Value} (ry : RelV y u) (rx : RelV x v) (fy : flatV y = true) (fx : flatV x = true) : SeqAt.EqAt A s u v (eqV y x) := by
  cases y with
  | non =>
    cases ry
    cases x with
    | non => cases rx; exact SeqAt.EqAt.same _
    | bl b => cases rx; exact SeqAt.EqAt.none_bool b
    | int b => obtain ⟨t, rfl⟩ := rx; exact SeqAt.EqAt.none_int b t
    | str b => obtain ⟨t, rfl⟩ := rx; exact SeqAt.EqAt.none_str b t
    | _ => exact absurd (show false = true from fx) Bool.false_ne_true
  | bl a =>
    cases ry
    cases x with
    | non => cases rx; exact SeqAt.EqAt.bool_none a
    | bl b => cases rx; exact SeqAt.EqAt.bool_bool a b
    | int b => obtain ⟨t, rfl⟩ := rx; exact SeqAt.EqAt.bool_int a b t
    | str b => obtain ⟨t, rfl⟩ := rx; exact SeqAt.EqAt.bool_str a b t
    | _ => exact absurd (show false = true from fx) Bool.false_ne_true
  | int a =>
    obtain ⟨t', rfl⟩ := ry
    cases x with
    | non => cases rx; exact SeqAt.EqAt.int_none a t'
    | bl b => cases rx; exact SeqAt.EqAt.int_bool a t' b
    | int b => obtain ⟨t, rfl⟩ := rx; exact SeqAt.EqAt.int_int a t' b t
    | str b => obtain ⟨t, rfl⟩ := rx; exact SeqAt.EqAt.int_str a t' b t
    | _ => exact absurd (show false = true from fx) Bool.false_ne_true
  | str a =>
    obtain ⟨t', rfl⟩ := ry
    cases x with
    | non => cases rx; exact SeqAt.EqAt.str_none a t'
    | bl b => cases rx; exact SeqAt.EqAt.str_bool a t' b
    | int b => obtain ⟨t, rfl⟩ := rx; exact SeqAt.EqAt.str_int a t' b t
    | str b => obtain ⟨t, rfl⟩ := rx; exact SeqAt.EqAt.str_str a t' b t
    | _ => exact absurd (show false = true from fx) Bool.false_ne_true
  | _ => exact absurd (show false = true from fy) Bool.false_ne_true
/-! ### len, list(x), tuple(x) of any list or tuple that is read -/
theorem call_len_seq : CallR X (.builtin "len") (fun xs H Q => ∃ p ys, xs = [.ref p] ∧ (SqL X.K H p ys ∨ SqT X.K H p ys) ∧ Q (.int ys.length) H) := by
  intro pins s σ H xs us Q I r h
  obtain ⟨p, ys, rfl, hq, q⟩ := h
  obtain ⟨u, rfl, rx⟩ := vals1 r
  cases rx
  have hn := line63
  rcases hq with hq | hq
  · obtain ⟨its, r', pl, hz⟩ := I.list hq
    have hlen := r'.length
    exact Calls.call_len_list pl.isList (by simp only [List.size_toArray] <;> omega) ⟨.int ys.length, H, I.tok _, ⟨s.toks + 1, by rw [List.size_toArray, hlen]⟩, q⟩
  · obtain ⟨its, r', pl, hz⟩ := I.tuple hq
    have hlen := r'.length
    exact len_tuple pl (by simp only [List.size_toArray] <;> omega) ⟨.int ys.length, H, I.tok _, ⟨s.toks + 1, by rw [List.size_toArray, hlen]⟩, q⟩
theorem call_list_of : CallR X (.type "list") (fun xs H Q => ∃ p ys, xs = [.ref p] ∧ (SqL X.K H p ys ∨ SqT X.K H p ys) ∧ ∀ l, H l = none → Q (.ref l) (upd H l (.lst ys))) := by
  intro pins s σ H xs us Q I r h
  obtain ⟨p, ys, rfl, hq, q⟩ := h
  obtain ⟨u, rfl, rx⟩ := vals1 r
  cases rx
  have fin : ∀ (its : List Value), Vals ys its → ys.length ≤ sizeLine → ∀ (h' : Heap) (c' : Nat), (∀ b o', s.heap.get? b = some o' → h'.get? b = some o') →
      h'.get? s.heap.objs.size = some { cls := .type "list", dict := none, data := .seq its.toArray c', slots := #[] } → EP X pins σ Q (.ref s.heap.objs.size) { s with heap := h' } := fun its r' hz h' c' kp e =>
    ⟨.ref s.heap.objs.size, _, I.laid (t' := s.toks) kp (Nat.le_refl _) (show ObjOk X.prog X.w _ h' _ (.lst ys) from ⟨hz, its, c', r', e⟩), rfl, q _ (I.hok.fresh (Nat.le_refl _))⟩
  rcases hq with hq | hq
  · obtain ⟨its, r', pl, hz⟩ := I.list hq
    have hlen := r'.length
    obtain ⟨o, ho, hc, n, hd⟩ := pl.isList
    exact call_list_seq p (.inl rfl) ho hc hd (fun h' c' kp e => fin its r' hz h' c' kp e) (by simp only [List.size_toArray] <;> omega)
  · obtain ⟨its, r', pl, hz⟩ := I.tuple hq
    have hlen := r'.length
    obtain ⟨o, ho, hc, n, hd⟩ := pl
    exact call_list_seq p (.inr rfl) ho hc hd (fun h' c' kp e => fin its r' hz h' c' kp e) (by simp only [List.size_toArray] <;> omega)
/-! ### the call of a builtin's method: o.m(..) -/
/-- the value is of that builtin type -/
def tyV (K : PySem.W.Frag) (T : String) (x : V) (H : Hp) : Prop := match x with
  | .str _ => T = "str"
  | .int _ => T = "int"
  | .ref p => (T = "list" ∧ ∃ xs, SqL K H p xs) ∨ (T = "tuple" ∧ ∃ o, K.lookup p = some o ∧ o.cls = .type "tuple" ∧ o.dict = none) ∨
      (T = "dict" ∧ ((∃ kvs, H p = some (.dK kvs)) ∨ ∃ kvs, H p = some (.dT kvs))) ∨ (T = "set" ∧ ∃ S n, H p = some (.set S n))
  | _ => False
theorem tyV_is {pins : List (Addr × Obj)} {σ : St} {H : Hp} {s : Shared} {T : String} {x : V} {v : Value} (I : Inv X pins σ H s) (r : RelV x v) (ty : tyV X.K T x H) :
    s.TypeIs v T ∧ ∀ a, v = .ref a → ∃ ob, s.heap.get? a = some ob ∧ ob.dict = none := by
  cases x with
  | str z =>
    obtain ⟨t, rfl⟩ := r
    cases (show T = "str" from ty)
    exact ⟨typeIs_str s z t, fun _ e => nomatch e⟩
  | int i =>
    obtain ⟨t, rfl⟩ := r
    cases (show T = "int" from ty)
    exact ⟨typeIs_int s i t, fun _ e => nomatch e⟩
  | ref p =>
    cases r
    rcases ty with ⟨rfl, xs, hq⟩ | ⟨rfl, o, hk, hc, hd⟩ | ⟨rfl, hk⟩ | ⟨rfl, S, n, hk⟩
    · obtain ⟨its, _, pl, _⟩ := I.list hq
      refine ⟨pl.isList.typeIs, fun a e => ?_⟩
      cases e
      obtain ⟨o, n, e, c, hd, _⟩ := pl
      exact ⟨o, e, hd⟩
    · refine ⟨⟨o, I.kIn p o hk, hc⟩, fun a e => ?_⟩
      cases e
      exact ⟨o, I.kIn _ o hk, hd⟩
    · have z : ∃ o, s.heap.get? p = some o ∧ o.ExactDict := by
        rcases hk with ⟨kvs, hk⟩ | ⟨kvs, hk⟩
        · obtain ⟨_, _, _, _, o, _, _, e, ex, _⟩ := I.hok p _ hk
          exact ⟨o, e, ex⟩
        · exact (show False from I.hok p _ hk).elim
      obtain ⟨o, e, ex⟩ := z
      refine ⟨⟨o, e, ex.1⟩, fun a e2 => ?_⟩
      cases e2
      exact ⟨o, e, ex.2.1⟩
    · obtain ⟨o, _, _, _, e, ex, _⟩ := I.hok p _ hk
      refine ⟨⟨o, e, ex.1⟩, fun a e2 => ?_⟩
      cases e2
      exact ⟨o, e, ex.2.1⟩
  | _ => exact False.elim ty
def tBM0 (K : PySem.W.Frag) (T : String) (r : V → List V → Hp → VK → Prop) (to : TE) : TE := fun σ H Q => to σ H fun x H1 => tyV K T x H1 ∧ r x [] H1 Q
def tBM (K : PySem.W.Frag) (T : String) (r : V → List V → Hp → VK → Prop) (to : TE) (t : TA) : TE := fun σ H Q => to σ H fun x H1 => tyV K T x H1 ∧ t σ H1 fun xs H2 => r x xs H2 Q
variable {o e : Expr} {es : List Expr} {to : TE} {t : TA} {name : Str} {apos cpos : Pos} {T id : String} {r : V → List V → Hp → VK → Prop}
theorem pe_bm0 (pa : PlainAttrs T) (slot : Slot T name id) (hty : typeOf (.builtin id) = pure (.type "method_descriptor")) (hm : MtR X id r) (ho : PE X o to)
    (hbase : attributeBase o name X.env (eval o X.env) = eval o X.env := by rfl) (hline : (apos.endLine == cpos.line) = true := by rfl) : PE X (.Call (.Attribute o name apos) [] [] cpos) (tBM0 X.K T r to) := by
  intro pins s σ H Q I h
  refine wpAny_Call_method0_late hbase hline (thn (ho pins s σ H _ I h) fun v s1 ⟨x, H1, I1, r1, ty, q1⟩ => ?_)
  obtain ⟨h1, h2⟩ := tyV_is I1 r1 ty
  exact ⟨T, id, pa, slot, hty, h1, h2, Calls.callWith_builtin rfl (PySem.evalArgs_none (hm pins s1 σ H1 x [] v [] Q I1 r1 .nil q1))⟩
theorem pe_bm (pa : PlainAttrs T) (slot : Slot T name id) (hty : typeOf (.builtin id) = pure (.type "method_descriptor")) (hm : MtR X id r) (ho : PE X o to) (ha : PA X (e :: es) t)
    (hbase : attributeBase o name X.env (eval o X.env) = eval o X.env := by rfl)
    (hfew : ((backTo cpos (starEach (e :: es) X.env)).all (fun x => !x.1) && (backToKw cpos (keywordEach [] X.env)).all (fun x => x.1.isSome)
      && decide ((e :: es).length + ([] : List Keyword).length + (if ([] : List Keyword).isEmpty then 0 else 1) < 30)) = true := by rfl)
    (hline : (apos.endLine == cpos.line) = true := by rfl) (hs : starEach (e :: es) X.env = (false, eval e X.env) :: starEach es X.env := by rfl) (hplain : (backTo cpos (starEach es X.env)).any (·.1) = false := by rfl) :
    PE X (.Call (.Attribute o name apos) (e :: es) [] cpos) (tBM X.K T r to t) := by
  intro pins s σ H Q I h
  refine wpAny_Call_method_late hbase hfew hline rfl (thn (ho pins s σ H _ I h) fun v s1 ⟨x, H1, I1, r1, ty, q1⟩ => ?_)
  obtain ⟨h1, h2⟩ := tyV_is I1 r1 ty
  refine ⟨T, id, pa, slot, hty, h1, h2, ?_⟩
  have hA := ha cpos pins s1 σ H1 _ I1 q1
  rw [hs] at hA ⊢
  refine Calls.callWith_builtin (by show (false || (backTo cpos (starEach es X.env)).any (·.1)) = false; rw [hplain] <;> rfl) (Calls.evalArgs_plain ?_)
  exact thn hA fun us s2 ⟨vs, H2, I2, r2, q2⟩ => hm pins s2 σ H2 x vs v us Q I2 r1 r2 q2
end
end L2

namespace L2
open PySem PySem.Spec PyProof.Rows

def MtM (X : Cx) (id : String) (r : V → List V → Hp → VK → Prop) : Prop :=
  ∀ (pins : List (Addr × Obj)) (s : Shared) (σ : St) (H : Hp) (x : V) (xs : List V) (v : Value) (us : List Value) (Q : VK), Inv X pins σ H s → RelV x v → Vals xs us → r x xs H Q →
    wpAny (model X.prog X.w) X.A (call (.builtin id) (v :: us)) (EP X pins σ Q) X.xe s

/-! ### lists of values -/
theorem Vals.one : ∀ {x : V} {us : List Value}, Vals [x] us → ∃ u, us = [u] ∧ RelV x u
  | _, _, .cons r .nil => ⟨_, rfl, r⟩
theorem Vals.zero : ∀ {us : List Value}, Vals [] us → us = []
  | _, .nil => rfl
theorem Vals.dropLast {xs : List V} {us : List Value} (h : Vals xs us) : Vals xs.dropLast us.dropLast := by
  induction h with
  | nil => exact .nil
  | cons r t ih =>
    cases t with
    | nil => exact .nil
    | cons q t' => exact .cons r ih
theorem Vals.rep {xs : List V} {us : List Value} (h : Vals xs us) : ∀ k : Nat, Vals (List.replicate k xs).flatten (List.replicate k us).flatten
  | 0 => .nil
  | k + 1 => by
    rw [List.replicate_succ, List.replicate_succ, List.flatten_cons, List.flatten_cons]
    exact Vals.append h (Vals.rep h k)
theorem erase_last {α : Type} (l : List α) : l.eraseIdx (l.length - 1) = l.dropLast := by
  induction l with
  | nil => rfl
  | cons a r ih =>
    cases r with
    | nil => rfl
    | cons b r =>
      have e : (a :: b :: r).length - 1 = ((b :: r).length - 1) + 1 := by
        have h1 : (a :: b :: r).length = r.length + 2 := rfl
        have h2 : (b :: r).length = r.length + 1 := rfl
        omega
      rw [e, List.eraseIdx_cons_succ, ih]
      all_goals rfl
theorem foldl_rep (its : List Value) : ∀ (k : Nat) (acc : List Value),
    List.foldl (fun x1 x2 => x1 ++ x2) acc.toArray (List.replicate k its.toArray) = (acc ++ (List.replicate k its).flatten).toArray
  | 0, acc => by simp
  | k + 1, acc => by
    have e : acc.toArray ++ its.toArray = (acc ++ its).toArray := by simp
    have e2 : (acc ++ its) ++ (List.replicate k its).flatten = acc ++ (List.replicate (k + 1) its).flatten := by
      rw [List.replicate_succ, List.flatten_cons, List.append_assoc]
    rw [← e2, ← foldl_rep its k (acc ++ its), ← e, List.replicate_succ, List.foldl_cons]

section
variable {X : Cx} {pins : List (Addr × Obj)} {σ : St} {H : Hp} {s : Shared} {l b : Addr} {xs ys zs : List V}

/-! ### the two steps: a tracked list is rewritten, a new list is laid -/
theorem Inv.lset {its its' : List Value} {n : Nat} {f : Array Value → Array Value} {t' : Nat} (I : Inv X pins σ H s) (hH : H l = some (.lst xs))
    (e : s.heap.get? l = some { cls := .type "list", data := .seq its.toArray n }) (hf : f its.toArray = its'.toArray) (hv : Vals ys its') (hz : ys.length ≤ sizeLine) :
    Inv X pins σ (upd H l (.lst ys)) { s with heap := s.heap.update l (Obj.mapSeq f), toks := t' } := by
  have q := PySem.IsL.update e f
  rw [hf] at q
  refine I.write (x := l) (e := l) (by rw [hH]; exact trivial) (.inl rfl) (fun b' u hb hu => (Heap.get?_update_other s.heap (Obj.mapSeq f) (Ne.symm hb)).trans hu) ⟨_, q⟩ ?_
  exact ⟨hz, its', _, hv, q⟩
theorem Inv.lnew {its : List Value} {t' : Nat} (I : Inv X pins σ H s) (hv : Vals ys its) (hz : ys.length ≤ sizeLine) :
    Inv X pins σ (upd H s.heap.objs.size (.lst ys)) { s with heap := s.heap.push { cls := .type "list", data := .seq its.toArray }, toks := t' } :=
  I.laid (fun _ _ q => Heap.get?_push_of_some _ q) (Nat.le_refl _) ⟨hz, its, 0, hv, Heap.get?_push_size _ rfl⟩
theorem Inv.fresh (I : Inv X pins σ H s) : H s.heap.objs.size = none := I.hok.fresh (Nat.le_refl _)
theorem Inv.lstM (I : Inv X pins σ H s) (hH : H l = some (.lst xs)) : xs.length ≤ sizeLine ∧ ∃ (its : List Value) (n : Nat), Vals xs its ∧ xs.length = its.length ∧ s.heap.get? l = some { cls := .type "list", data := .seq its.toArray n } := by
  obtain ⟨z, its, n, r, e⟩ := I.hok l _ hH
  exact ⟨z, its, n, r, r.length, e⟩

theorem notLongL {n : Nat} (h : n ≤ sizeLine) : Builtin.List.listTooLong n = false := by
  unfold Builtin.List.listTooLong
  exact decide_eq_false (by omega)
end

section
variable {X : Cx}

/-! ### methods -/
def rAppend : V → List V → Hp → VK → Prop := fun x vs H Q => ∃ l xs y, x = .ref l ∧ vs = [y] ∧ H l = some (.lst xs) ∧ xs.length < sizeLine ∧ Q .non (upd H l (.lst (xs ++ [y])))
theorem mt_append : MtM X "list.append" rAppend := by
  intro pins s σ H x vs v us Q I rx rv h
  obtain ⟨l, xs, y, rfl, rfl, hH, hz, q⟩ := h
  cases rx
  obtain ⟨u, rfl, ru⟩ := rv.one
  obtain ⟨z, its, n, r, hl, e⟩ := I.lstM hH
  refine call_meets F.slot_list_append ⟨_, e, rfl⟩ F.entry_list_append (F.args_list_append_2 _ _) (PySem.list_append l its.toArray n u (by rw [List.size_toArray]; omega)) ⟨e, ?_⟩
  refine ⟨.non, _, I.lset (its' := its ++ [u]) hH e (by simp) (r.append (.cons ru .nil)) ?_, rfl, q⟩
  rw [List.length_append, List.length_singleton]
  omega

def rPop : V → List V → Hp → VK → Prop := fun x vs H Q => ∃ l xs y, x = .ref l ∧ vs = [] ∧ H l = some (.lst xs) ∧ xs[xs.length - 1]? = some y ∧ Q y (upd H l (.lst xs.dropLast))
theorem mt_pop : MtM X "list.pop" rPop := by
  intro pins s σ H x vs v us Q I rx rv h
  obtain ⟨l, xs, y, rfl, rfl, hH, hy, q⟩ := h
  cases rx
  have hus := rv.zero
  subst hus
  obtain ⟨z, its, n, r, hl, e⟩ := I.lstM hH
  obtain ⟨u, hu, ru⟩ := r.get hy
  have hy' : its.toArray[its.toArray.size - 1]? = some u := by
    show its.toArray[its.length - 1]? = some u
    rw [← Array.getElem?_toList, ← hl]
    exact hu
  refine call_meets F.slot_list_pop ⟨_, e, rfl⟩ F.entry_list_pop (F.args_list_pop_1 _) (MeetsSeq.list_pop_last l its.toArray n u hy' (by rw [List.size_toArray]; omega)) ⟨e, ?_⟩
  refine ⟨y, _, I.lset (its' := its.dropLast) hH e ?_ r.dropLast ?_, ru, q⟩
  · show its.toArray.eraseIdxIfInBounds (its.toArray.size - 1) = its.dropLast.toArray
    rw [List.size_toArray, List.eraseIdxIfInBounds_toArray, erase_last]
  · rw [List.length_dropLast]
    omega

/-! ### list + list, list += list, list * int -/
def rCat : R2 := fun x y H Q => ∃ l b xs zs, x = .ref l ∧ y = .ref b ∧ H l = some (.lst xs) ∧ H b = some (.lst zs) ∧ xs.length + zs.length ≤ sizeLine ∧ ∀ p, H p = none → Q (.ref p) (upd H p (.lst (xs ++ zs)))
theorem op_cat : OpR X (binaryOp .Add) rCat := by
  intro pins s σ H x y v u Q I rx ry h
  obtain ⟨l, b, xs, zs, rfl, rfl, hH, hB, hz, q⟩ := h
  cases rx
  cases ry
  obtain ⟨z, its, n, r, hl, e⟩ := I.lstM hH
  obtain ⟨z2, its2, n2, r2, hl2, e2⟩ := I.lstM hB
  refine PySem.P.add_list e e2 ?_ (by rw [List.size_toArray, List.size_toArray]; omega)
  have ea : its.toArray ++ its2.toArray = (its ++ its2).toArray := by simp
  rw [ea]
  exact ⟨.ref _, _, I.lnew (t' := s.toks) (r.append r2) (by rw [List.length_append]; omega), rfl, q _ I.fresh⟩
/-- a list times an int (a negative one is nothing) -/
def rRep : R2 := fun x y H Q => ∃ l k xs, x = .ref l ∧ y = .int k ∧ H l = some (.lst xs) ∧ -(2 ^ 63) ≤ k ∧ k < 2 ^ 63 ∧ xs.length * k.toNat ≤ sizeLine ∧
  ∀ p, H p = none → Q (.ref p) (upd H p (.lst (List.replicate k.toNat xs).flatten))
theorem len_rep {α : Type} (xs : List α) (k : Nat) : (List.replicate k xs).flatten.length = k * xs.length := by
  induction k with
  | zero => simp
  | succ k ih => rw [List.replicate_succ, List.flatten_cons, List.length_append, ih, Nat.succ_mul, Nat.add_comm]
theorem op_rep : OpR X (binaryOp .Mult) rRep := by
  intro pins s σ H x y v u Q I rx ry h
  obtain ⟨l, k, xs, rfl, rfl, hH, h1, h2, hz, q⟩ := h
  cases rx
  obtain ⟨t, rfl⟩ := ry
  obtain ⟨z, its, n, r, hl, e⟩ := I.lstM hH
  have hlen : its.toArray.size * k.toNat ≤ sizeLine := by rw [List.size_toArray, ← hl]; exact hz
  have hcap : ¬ its.toArray.size * k.toNat > (2 ^ 63 - 1) / 8 := by
    have : (sizeLine : Nat) ≤ (2 ^ 63 - 1) / 8 := by decide
    omega
  have hfit : ¬ (!Builtin.List.listFitsIndex k) = true := by
    rw [fitsIndex_both h1 h2]
    exact Bool.false_ne_true
  have hlong : ¬ Builtin.List.listTooLong (its.toArray.size * k.toNat) = true := by
    rw [notLongL hlen]
    exact Bool.false_ne_true
  have hnew : List.foldl (fun x1 x2 => x1 ++ x2) #[] (List.replicate (if its.toArray.isEmpty = true then 0 else k.toNat) its.toArray) = (List.replicate k.toNat its).flatten.toArray := by
    have f0 : ∀ m : Nat, List.foldl (fun x1 x2 => x1 ++ x2) #[] (List.replicate m its.toArray) = (List.replicate m its).flatten.toArray := fun m => by
      have := foldl_rep its m []
      rw [List.nil_append] at this
      exact this
    rw [f0]
    cases its with
    | nil => simp
    | cons a r' => rw [if_neg (by simp)]
  refine wpAny_binaryOp_repeat_ref (T := "list") (U := "int") (by decide) ⟨_, e, rfl⟩ (fun s' => typeIs_int s' k t) noFill_list_mul F.fills_int_mul F.slot_int_rmul repeat_list F.slot_int_index.lookup
    (call_meets F.slot_int_rmul (typeIs_int s k t) F.entry_int_rmul (F.args_int_rmul_2 _ _) (int___rmul___int_list k t l its.toArray n)
      ⟨e, rfl, ⟨_, e, rfl⟩, call_meets F.slot_list_mul ⟨_, e, rfl⟩ F.entry_list_mul (F.args_list_mul_2 _ _) (AutoListH.list___mul___list_int_3 l its.toArray n k t hfit hcap hlong) ⟨e, ?_⟩⟩)
  rw [hnew]
  exact ⟨.ref _, _, I.lnew (t' := s.toks) (r.rep k.toNat) (by rw [len_rep, Nat.mul_comm]; exact hz), rfl, q _ I.fresh⟩

/-! ### del xs[i] -/
end

/-! ### xs[a:b] = ys -/
section
variable {prog : Program} {w : World} {A : Around} {E : Value → Shared → Prop} {s : Shared}
end

section
variable {X : Cx}
end
end L2

namespace Att
open PySem PySem.W PySem.Calls PyProof.Rows

/-! ### the script -/
theorem ints_of_wellAll {P : Params} {h : Heap} : ∀ (ns : List Int) (vs : List Value), WellAll P h vs (ns.map WData.int) → IntsAre vs ns := by
  intro ns
  induction ns with
  | nil =>
    intro vs w
    rw [List.map_nil] at w
    cases w
    exact .nil
  | cons n ns ih =>
    intro vs w
    rw [List.map_cons] at w
    cases w with
    | cons a b =>
      cases a
      exact .cons _ _ (ih _ b)

theorem script_of {l : OpenLaw} {n : Nat} (hn : l.most = some n) {P : Params} {h : Heap} {args : List WData} {vals : List Value}
    (hpre : l.row.toRowW.claim.pre args = true) (hwl : WellAll P h vals args) :
    ∃ a vs ns, vals = [Value.ref a] ∧ args = [WData.list (ns.map WData.int)] ∧ h.get? a = some { cls := .type "list", data := .seq vs.toArray } ∧ IntsAre vs ns ∧ ns.length ≤ n := by
  have hsh : WShape.hasAll [] args [.list .int] = true := (pre_splitW hpre).1
  have hc : l.pre.holds [] { args := args } = true := (pre_splitW hpre).2
  obtain ⟨d, r, rfl, h1, h2⟩ := hasAllW_cons hsh
  obtain rfl := hasAllW_nil h2
  obtain ⟨xs, rfl, h3⟩ := hasW_list h1
  obtain ⟨ns, rfl⟩ := items_int h3
  have hlen : ns.length ≤ n := by
    unfold OpenLaw.pre at hc
    have h4 : (WTm.not (.lt (.lit (.int (n : Int))) (.len (.arg 0)))).holds [] { args := [.list (ns.map .int)] } = true := by
      have h4 := (holds_andW hc).1
      rw [hn] at h4
      exact h4
    have h5 := condW_of h4 (w_not (w_lt w_lit (w_len_list (w_arg rfl))))
    rw [List.length_map] at h5
    refine Nat.le_of_not_lt fun q => ?_
    have q' : (n : Int) < ((ns.length : Nat) : Int) := by omega
    first
      | (rw [decide_eq_true q'] at h5; exact absurd h5 (by decide))
      | (simp at h5; omega)
  cases hwl with
  | cons w1 w2 =>
    cases w2
    cases w1 with
    | list ho hall => exact ⟨_, _, ns, rfl, rfl, ho, ints_of_wellAll ns _ hall, hlen⟩

theorem post_true (l : OpenLaw) (args : List WData) : l.row.toRowW.claim.post args (.bool true) args = true :=
  postW_of (r := l.row.toRowW) (X := (true == true))
    (show WShape.has [] (.bool true) .bool = true by first | rfl | decide | simp [WShape.has, WShape.arms, WShape.armsAll])
    (show (WTm.eq .res (.lit (.bool true))).value [] { args := args, res := some (.bool true), after := args } = some (.bool (true == true)) from w_eq_bool (w_res rfl) w_lit) rfl

/-! ### the attachment: holds_open's last premise (the goal 'hc' behind k_head) from a wpAny of the law's body -/
/-- the same from a codeAny of the CALL (for a layer whose function contracts speak of calls) -/
theorem attach_call {l : OpenLaw} {n : Nat} {q : Program} {loose : List Str} {XP : (Str → Option Value) → Heap → Prop} {YP : World → Heap → Prop} {d : DefRec}
    (hn : l.most = some n) (hdf : d.params.defaults = [])
    (call : ∀ (w : World) (s₀ s₁ : Shared) (mg mb : Str → Option Value) (fa : Addr) (o : Obj) (pm cd doc : Value) (a : Addr) (vs : List Value) (ns : List Int),
      Ground q loose [] XP w s₀ mg mb s₁.heap → YP w s₁.heap →
      s₁.heap.get? fa = some o → o.data = .func (docDef d.name d.params d.body d.scope pm cd doc) → s₁.heap.CodeRec cd d.name → mg d.name = some (.ref fa) →
      s₁.heap.get? a = some { cls := .type "list", data := .seq vs.toArray } → IntsAre vs ns → ns.length ≤ n → s₁.gens = #[] →
      codeAny (model l.prog w) callerA (.call (.ref fa) ⟨[.ref a], []⟩) (fun r s' => r = .ok (.ret (.bool true)) ∧ OldK s₁.heap s'.heap ∧ s'.os = s₁.os ∧ AllBare s'.gens) s₁) :
    WalkO q loose XP YP l.row.toRowW d [] (fun f vs => PySem.call f vs) := by
  intro w s₀ s₁ mg mb G Y fa o pm cd doc dV kV ho hd hcd hD hmg hg args vals as hpre hlay hrd hwl hlo
  obtain rfl : dV = .none := Dflts.none hD hdf
  obtain rfl : kV = .none := Dflts.noKw hD
  obtain ⟨a, vs, ns, rfl, rfl, hobj, hints, hlen⟩ := script_of hn hpre hwl
  refine enter_call (codeAny_mono (call w s₀ s₁ mg mb fa o pm cd doc a vs ns G Y ho (fd_plain hd) hcd hmg hobj hints hlen hg) fun r s' hq => ?_)
  obtain ⟨rfl, h2, h3, h4⟩ := hq
  exact ⟨.inl ⟨.bool true, .bool true, [], rfl, fun _ => rfl, .bool true, post_true l _, fun _ => ⟨List.Pairwise.nil, fun _ hm => (nomatch hm)⟩⟩, h2, h3, h4⟩

/-! ### rules over ANY heap (no ledger) from facts about the written part K: the library's own take a ledger (News) for what they write -/
section
variable {prog : Program} {w : World} {A : Around} {E : Value → Shared → Prop} {s : Shared} {K : Frag}

/-! the whole heap as the ledger: makes every rule that writes through a ledger a rule over any heap -/
def ledger (h : Heap) (L d : Addr) : List (Addr × Obj) := (List.range h.objs.size).filterMap fun a => if a = L ∨ a = d then none else (h.get? a).map fun o => (a, o)
end
end Att

namespace L2
open PySem PySem.Spec PyProof.Rows

theorem vals_ints : ∀ {vs : List Value} {ns : List Int}, IntsAre vs ns → Vals (ns.map V.int) vs
  | _, _, .nil => .nil
  | _, _, .cons n t h => .cons ⟨t, rfl⟩ (vals_ints h)

/-- nothing is tracked but the script, known to the object (or it is an object of the module) -/
def Only (H : Hp) : Prop := ∀ b, H b = none ∨ ∃ o xs, H b = some (.frz o (.lst xs))

/-- THE HEAD: the law's promise, at the heap behind the top. F, the promise of the law's def, may use that base is part of the heap (so K.In base, base.Ns mainGlobals mg stand in Mod) -/
theorem law_call {P : Program} {w : World} {K : PySem.W.Frag} {mg mb : Str → Option Value} {CX : CXT} {k : Nat} {fa a : Addr} {fd : FuncData} {x : Str} {sp : Sp} {s₁ : Shared} {vs : List Value} {ns : List Int}
    (KX : K.In s₁.heap) (hns : s₁.heap.Ns mainGlobals mg) (hb : s₁.heap.Ns builtinsNs mb) (hbb : ∀ x : Str, x ≠ "__name__" → mb x = bootBuiltins x) (hlim : s₁.heap.NoLimit) (hg : s₁.gens = #[])
    (ha : s₁.heap.get? a = some { cls := .type "list", data := .seq vs.toArray }) (hi : IntsAre vs ns) (hl : ns.length ≤ sizeLine) (hr : Room k callerA)
    (F : ∀ base : Heap, K.In base → base.Ns mainGlobals mg → FnOk P w K mg base CX k fa fd [x] sp) (hbind : ∀ (s : Shared) (u : Value), BindsTo s fd ⟨[u], []⟩ [(x, u)])
    (hsp : ∀ H : Hp, Only H → SqL K H a (ns.map V.int) → sp [.ref a] H (fun v _ => v = .bl true) fun _ _ _ => False)
    (hCX : ∀ H e s', CX [] H s₁ (fun _ _ _ => False) e s' → False) :
    codeAny (model P w) callerA (.call (.ref fa) ⟨[.ref a], []⟩) (fun r s' => r = .ok (.ret (.bool true)) ∧ OldK s₁.heap s'.heap ∧ s'.os = s₁.os ∧ AllBare s'.gens) s₁ := by
  have rv := vals_ints hi
  have lenV := hi.length
  -- from an abstract heap in which nothing but the script may be tracked
  have core : ∀ H : Hp, Only H → SqL K H a (ns.map V.int) → HOk P w H s₁.heap → (∀ b, H b ≠ none → b = a) → (H a ≠ none → K.lookup a = none) →
      codeAny (model P w) callerA (.call (.ref fa) ⟨[.ref a], []⟩) (fun r s' => r = .ok (.ret (.bool true)) ∧ OldK s₁.heap s'.heap ∧ s'.os = s₁.os ∧ AllBare s'.gens) s₁ := by
    intro H hO hS hok hA hK
    have base_of : ∀ {b : Addr} {o : Obj}, s₁.heap.get? b = some o → H b = none → (hidT s₁.heap H).get? b = some o := fun e n => hidT_get e n
    have noA : ∀ {b : Addr} {o : Obj} {es : Array DictEntry} {ep : Nat}, s₁.heap.get? b = some o → o.data = .dict es ep → H b = none := fun {b o es ep} e d => by
      cases q : H b with
      | none => rfl
      | some u =>
        have e' : b = a := hA b (by rw [q]; simp)
        subst e'
        rw [ha] at e; cases e
        have d' : Data.seq vs.toArray _ = Data.dict es ep := d
        cases d'
    have nsK : ∀ {b : Addr} {m : Str → Option Value}, s₁.heap.Ns b m → (hidT s₁.heap H).Ns b m := fun {b m} ⟨o, es, ep, e, d, r⟩ => ⟨o, es, ep, base_of e (noA e d), d, r⟩
    have hKb : K.In (hidT s₁.heap H) := fun b o e => base_of (KX b o e) (by
      cases q : H b with
      | none => rfl
      | some u =>
        have e' : b = a := hA b (by rw [q]; simp)
        subst e'
        rw [hK (by rw [q]; simp)] at e; cases e)
    have hM : Mod K mg (hidT s₁.heap H) := ⟨hKb, nsK hns, ⟨mb, nsK hb, hbb⟩, let ⟨mc, h1, h2⟩ := hlim; ⟨mc, nsK h1, h2⟩⟩
    have e0 : Env0 P w K mg (hidT s₁.heap H) callerA [] s₁ H := ⟨rfl, hM, fun b o e => of_hidT e, Nat.le_of_eq (hidT_size _ _), trivial, fun b hb => absurd (show b ∈ ([] : List Addr) from hb) (by simp), hok, .of_eq hg⟩
    refine codeAny_mono ((F _ hKb (nsK hns)).run callerA [] s₁ H ⟨[.ref a], []⟩ [.ref a] [.ref a] _ _ hr e0 (hbind s₁ (.ref a)) (.cons rfl .nil) (hsp H hO hS)) fun r s' h => ?_
    cases r with
    | error e => exact (hCX H e s' h).elim
    | ok fl =>
      cases fl with
      | next => exact False.elim h
      | brk => exact False.elim h
      | cont => exact False.elim h
      | ret u =>
        obtain ⟨v, H', os, bare, un, hok', r', q⟩ := h
        have q' : v = .bl true := q
        subst q'
        obtain rfl : u = Value.bool true := r'
        refine ⟨rfl, OldK.of_keep fun b o e => ?_, os, bare⟩
        cases q : H b with
        | none => exact un.keep b o e q (by intro z; exact absurd (show b ∈ ([] : List Addr) from z) (by simp)) (by simp)
        | some u =>
          rcases hO b with z | ⟨ob, xs, z⟩
          · rw [q] at z; cases z
          · have z2 := un.frzs b ob _ z
            obtain ⟨e1, _⟩ := hok b _ z
            obtain ⟨e2, _⟩ := hok' b _ z2
            rw [e] at e1; cases e1
            exact e2
  cases hk : K.lookup a with
  | some o =>
    -- the script is one of the module's own objects
    have e := KX a o hk
    rw [ha] at e
    cases e
    refine core (fun _ => none) (fun _ => .inl rfl) (.inr ⟨_, vs.toArray, _, hk, rfl, rfl, rfl, by rw [List.size_toArray, lenV]; exact hl, by simpa using rv⟩) (fun b u z => by have z' : (none : Option HO) = some u := z; cases z') (fun b z => absurd rfl z) fun z => absurd rfl z
  | none =>
    refine core (fun b => if b = a then some (.frz { cls := .type "list", data := .seq vs.toArray } (.lst (ns.map V.int))) else none) (fun b => ?_) (.inl (.inr ⟨{ cls := .type "list", data := .seq vs.toArray }, if_pos rfl⟩)) (fun b u z => ?_) (fun b z => ?_) fun _ => hk
    · by_cases hb : b = a
      · exact .inr ⟨_, _, if_pos hb⟩
      · exact .inl (if_neg hb)
    · by_cases hb : b = a
      · have z' := (if_pos hb).symm.trans z
        cases z'
        subst hb
        exact ⟨ha, by rw [List.length_map]; exact hl, vs, _, rv, ha⟩
      · have z' := (if_neg hb).symm.trans z
        cases z'
    · by_cases hb : b = a
      · exact hb
      · exact absurd (if_neg hb) z
end L2

namespace L2
open PySem PySem.Spec PyProof.Rows

/-- the goal that k_head leaves (case hc), from the law's promise. F gives the function object fd (K's own) once, then the promise over every base -/
theorem walk_of {l : PySem.W.OpenLaw} {n k : Nat} {q : Program} {loose : List Str} {XP : (Str → Option Value) → Heap → Prop} {YP : World → Heap → Prop} {d : DefRec} {K : Params → PySem.W.Frag} {CX : World → CXT} {sp : World → Sp} {x : Str}
    (hn : l.most = some n) (hn2 : n ≤ sizeLine) (hdf : d.params.defaults = []) (hr : Room k callerA)
    (hY : ∀ (w : World) (h : Heap), YP w h → (K w.params).In h)
    (F : ∀ (w : World) (mg : Str → Option Value) (fa : Addr) (h : Heap), (K w.params).In h → h.Ns mainGlobals mg → mg d.name = some (.ref fa) →
      ∃ fd : FuncData, (∀ (s : Shared) (u : Value), BindsTo s fd ⟨[u], []⟩ [(x, u)]) ∧
        ∀ base : Heap, (K w.params).In base → base.Ns mainGlobals mg → FnOk l.prog w (K w.params) mg base (CX w) k fa fd [x] (sp w))
    (hsp : ∀ (w : World) (H : Hp) (a : Addr) (ns : List Int), ns.length ≤ n → Only H → SqL (K w.params) H a (ns.map V.int) → sp w [.ref a] H (fun v _ => v = .bl true) fun _ _ _ => False)
    (hCX : ∀ (w : World) (H : Hp) (s : Shared) (e : Value) (s' : Shared), CX w [] H s (fun _ _ _ => False) e s' → False) :
    PySem.W.WalkO q loose XP YP l.row.toRowW d [] (fun f vs => PySem.call f vs) := by
  refine Att.attach_call hn hdf fun w s₀ s₁ mg mb fa o pm cd doc a vs ns G Y ho hd hcd hmg hobj hints hlen hg => ?_
  have KX := hY w _ Y
  obtain ⟨fd, hb, hF⟩ := F w mg fa _ KX G.T.g hmg
  exact law_call KX G.T.g G.T.b G.T.builtins G.T.nolimit hg hobj hints (Nat.le_trans hlen hn2) hr hF hb (fun H hO hS => hsp w H a ns hlen hO hS) fun H e s' => hCX w H s₁ e s'
end L2


/-! SHORT WORDS over the layer: a def of the text, its body, what a loop and a test want. -/
namespace L2
open PySem PySem.Spec PyProof.Rows

/-! ### the text by places -/
/-- the j-th statement of a class's body -/
def inClass (s : Stmt) (j : Nat) : Stmt := match s with
  | .ClassDef _ _ _ body _ _ _ _ _ _ _ => body.getD j (.Pass ⟨0, 0, 0, 0⟩)
  | _ => .Pass ⟨0, 0, 0, 0⟩
def defArgs (s : Stmt) : Arguments := match s with
  | .FunctionDef _ a _ _ _ _ _ _ _ _ => a
  | _ => { posonlyargs := [], args := [], vararg := none, kwonlyargs := [], kw_defaults := [], kwarg := none, defaults := [] }
def defBody (s : Stmt) : List Stmt := match s with
  | .FunctionDef _ _ b _ _ _ _ _ _ _ => b
  | _ => []
def defScope (s : Stmt) : Scope := match s with
  | .FunctionDef _ _ _ _ _ _ sc _ _ _ => sc
  | _ => { kind := .function, names := [], isGenerator := false, isCoroutine := false }

/-! ### no exception leaves a def -/
abbrev CX0 : CXT := fun _ _ _ _ _ _ => False
abbrev E0 : XK := fun _ _ _ => False
theorem pass0 {X : Cx} : Passes CX0 X E0 := fun _ _ _ _ _ _ _ h => h.elim

/-! ### a def (or method) of the text as it stands behind the top -/
structure Fun (K : PySem.W.Frag) (x qual : Str) (st : Stmt) (f : Addr) (fd : FuncData) : Prop where
  ex : ∃ (oc : Value) (od : Option Addr) (kV doc pm : Value) (an : Option Addr) (cdv ct : Value) (osl : Array (Option Value)),
    fd = PySem.W.fnOf x qual (defArgs st) (defBody st) (defScope st) .none kV doc pm an cdv ct ∧ K.lookup f = some ⟨oc, od, .func fd, osl⟩ ∧ PySem.W.codeIn K cdv qual = true
  kp : PySem.W.keepIn K (.ref f) = true
section
variable {P : Program} {w : World} {K : PySem.W.Frag} {mg : Str → Option Value} {base : Heap}
/-- THE RULE for a def: its body as a term of rules, and the reading of that term -/
theorem Fun.ok {x qual : Str} {st : Stmt} {f : Addr} {fd : FuncData} {N ps : List Str} {k : Nat} {sp : Sp} (F : Fun K x qual st f fd) (S : FnScope N ps (defScope st)) (len : ∀ vs H Q E, sp vs H Q E → vs.length = ps.length)
    (hbody : ∀ (cdv : Value) (A : Around) (outer : List Env) (s : Shared) (H : Hp) (vs : List V) (Q : VK) (E : XK), Room k (A.deeper (envOfC qual (defScope st) s.heap.objs.size f cdv)) → sp vs H Q E →
      ∃ t, PSs (cxOf CX0 P w K mg base N qual (defScope st) f cdv A outer s H E).nox (defBody st) t ∧ t { nx := fun _ H' => Q .non H', rt := Q } (start N vs) H) : FnOk P w K mg base CX0 (k + 1) f fd ps sp := by
  obtain ⟨oc, od, kV, doc, pm, an, cdv, ct, osl, rfl, lk, hcd⟩ := F.ex
  refine fn_of lk hcd S len fun A outer s H vs Q E hr hsp => ?_
  obtain ⟨t, h, q⟩ := hbody cdv A outer s H vs Q E hr hsp
  exact ⟨t, h.nox, q⟩
/-- how its arguments bind (no defaults): h is «fun _ _ _ _ _ _ us hl => match us, hl with | [_, _], _ => rfl», one _ a parameter -/
theorem Fun.binds {x qual : Str} {st : Stmt} {f : Addr} {fd : FuncData} {ps : List Str} (F : Fun K x qual st f fd)
    (h : ∀ (kV doc pm : Value) (an : Option Addr) (cdv ct : Value) (us : List Value), us.length = ps.length → bindArgs (PySem.W.fnOf x qual (defArgs st) (defBody st) (defScope st) .none kV doc pm an cdv ct) ⟨us, []⟩ = pure (ps.zip us)) : Binds K fd ps [] := by
  obtain ⟨oc, od, kV, doc, pm, an, cdv, ct, osl, rfl, lk, hcd⟩ := F.ex
  exact .all (h kV doc pm an cdv ct)
theorem fun_mk {x qual : Str} {st : Stmt} {f : Addr} {oc : Value} {od an : Option Addr} {osl : Array (Option Value)} {kV doc pm cdv ct : Value} (l : K.lookup f = some ⟨oc, od, .func (PySem.W.fnOf x qual (defArgs st) (defBody st) (defScope st) .none kV doc pm an cdv ct), osl⟩)
    (c : PySem.W.codeIn K cdv qual = true) (k : PySem.W.keepIn K (.ref f) = true) : Fun K x qual st f (PySem.W.fnOf x qual (defArgs st) (defBody st) (defScope st) .none kV doc pm an cdv ct) := ⟨⟨oc, od, kV, doc, pm, an, cdv, ct, osl, rfl, l, c⟩, k⟩
end
theorem small1000 {n : Nat} (h : n ≤ 1000) : n < sizeLine := Nat.lt_of_le_of_lt h (by decide)

/-! ### expressions in short: the name that stands in the i-th slot -/
section
variable {X : Cx}
theorem pv (i : Nat) {x : Str} {pos : Pos} (hN : X.N[i]? = some x := by rfl) (hv : Vis X.env.scope x := by first | exact Or.inl rfl | exact Or.inr (Or.inl rfl) | exact Or.inr (Or.inr rfl)) (hd : (x == ("__debug__" : Str)) = false := by decide)
    (hcd : (x == ("__classdict__" : Str)) = false := by decide) : PE X (.Name x pos) (tVar i) := pe_var hN hv hd hcd
end

/-! ### tests -/
theorem iteF {A B : Prop} (h : B) : if false = true then A else B := by
  rw [if_neg Bool.false_ne_true]
  exact h
theorem iteT {A B : Prop} (h : A) : if true = true then A else B := by
  rw [if_pos rfl]
  exact h
theorem ite2 {c A B : Prop} [Decidable c] (h1 : c → A) (h2 : ¬ c → B) : if c then A else B := by
  by_cases h : c
  · rw [if_pos h]
    exact h1 h
  · rw [if_neg h]
    exact h2 h
theorem iteNS {c A B : Prop} [Decidable c] (hc : c) (h : B) : if (!decide c) = true then A else B := by
  rw [decide_eq_true hc]
  exact iteF h

/-! ### heaps -/
/-- all that was tracked is as it was -/
def Same (H H' : Hp) : Prop := ∀ b o, H b = some o → H' b = some o
theorem Same.refl (H : Hp) : Same H H := fun _ _ h => h
theorem Same.trans {H H1 H2 : Hp} (a : Same H H1) (b : Same H1 H2) : Same H H2 := fun c o h => b c o (a c o h)
theorem Same.free {H H' : Hp} (e : Same H H') {l : Addr} (h : H' l = Option.none) : H l = Option.none := by
  cases q : H l with
  | none => rfl
  | some o =>
    rw [e l o q] at h
    cases h
theorem Same.seq {K : PySem.W.Frag} {H H' : Hp} {a : Addr} {xs : List V} (e : Same H H') (h : SqL K H a xs) : SqL K H' a xs := by
  rcases h with (h | ⟨o, h⟩) | h
  · exact .inl (.inl (e _ _ h))
  · exact .inl (.inr ⟨o, e _ _ h⟩)
  · exact .inr h

end L2

set_option Elab.async false
set_option linter.all false
set_option maxRecDepth 100000
namespace L2
open PySem PySem.Spec PyProof.Rows

/-! ### comprehensions -/
theorem clos_ok {env : Env} : ∀ (names : List (Str × NameKind)) (acc : List (Str × Addr)),
    (∀ y ∈ names, y.2 = .free → ∃ c, env.cells.lookup y.1 = some c) → (∀ n c, acc.lookup n = some c → env.cells.lookup n = some c) →
    ∃ cl, (forIn names acc (fun (x : Str × NameKind) (r : List (Str × Addr)) => if (x.2 == NameKind.free) = true then (do let a ← cellOf env x.1; pure (ForInStep.yield ((x.1, a) :: r))) else pure (ForInStep.yield r)) : Sem (List (Str × Addr))) = pure cl ∧
      (∀ n c, cl.lookup n = some c → env.cells.lookup n = some c) ∧ (∀ y ∈ names, y.2 = .free → ∃ c, cl.lookup y.1 = some c) ∧ ∀ n c, acc.lookup n = some c → ∃ c, cl.lookup n = some c
  | [], acc, _, h => ⟨acc, rfl, h, (fun y z => absurd z (by simp)), fun _ c z => ⟨c, z⟩⟩
  | (n, k) :: r, acc, hf, h => by
    by_cases hk : k = .free
    · obtain ⟨c, hc⟩ := hf (n, k) List.mem_cons_self hk
      obtain ⟨cl, e, a, b, d⟩ := clos_ok (env := env) r ((n, c) :: acc) (fun y hy => hf y (List.mem_cons_of_mem _ hy)) (fun m c' e => by
        by_cases hm : m = n
        · subst hm
          rw [List.lookup_cons, beq_self_eq_true] at e
          cases e
          exact hc
        · have : (m == n) = false := beq_eq_false_iff_ne.mpr hm
          rw [List.lookup_cons, this] at e
          exact h m c' e)
      have hcell : cellOf env n = pure c := by unfold cellOf; rw [hc]
      refine ⟨cl, ?_, a, fun y hy hk' => ?_, fun m c' e => ?_⟩
      · rw [List.forIn_cons]
        subst hk
        show (do let x ← (do let a ← cellOf env n; pure (ForInStep.yield ((n, a) :: acc))); _) = _
        rw [hcell]
        exact e
      · rcases List.mem_cons.mp hy with z | z
        · subst z
          exact d n c (by rw [List.lookup_cons, beq_self_eq_true])
        · exact b y z hk'
      · by_cases hm : m = n
        · subst hm
          exact d m c (by rw [List.lookup_cons, beq_self_eq_true])
        · have : (m == n) = false := beq_eq_false_iff_ne.mpr hm
          exact d m c' (by rw [List.lookup_cons, this]; exact e)
    · obtain ⟨cl, e, a, b, d⟩ := clos_ok (env := env) r acc (fun y hy => hf y (List.mem_cons_of_mem _ hy)) h
      refine ⟨cl, ?_, a, fun y hy hk' => ?_, d⟩
      · rw [List.forIn_cons]
        have hb : (k == NameKind.free) = false := by simpa using hk
        dsimp only
        rw [hb]
        exact e
      · rcases List.mem_cons.mp hy with z | z
        · subst z
          exact absurd hk' hk
        · exact b y z hk'
theorem closureFor_ok {scope : Scope} {env : Env} (hf : ∀ y ∈ scope.names, y.2 = .free → ∃ c, env.cells.lookup y.1 = some c) :
    ∃ cl, closureFor scope env = pure cl ∧ (∀ n c, cl.lookup n = some c → env.cells.lookup n = some c) ∧ (∀ y ∈ scope.names, y.2 = .free → ∃ c, cl.lookup y.1 = some c) := by
  obtain ⟨cl, e, a, b, _⟩ := clos_ok (env := env) scope.names [] hf (fun _ _ z => by cases z)
  refine ⟨cl, ?_, a, b⟩
  have e' : closureFor scope env = (forIn scope.names [] (fun (x : Str × NameKind) (r : List (Str × Addr)) => if (x.2 == NameKind.free) = true then (do let a ← cellOf env x.1; pure (ForInStep.yield ((x.1, a) :: r))) else pure (ForInStep.yield r)) : Sem (List (Str × Addr))) >>= fun r => pure r := by
    unfold closureFor
    rfl
  rw [e', e]
  rfl

section
variable {prog : Program} {w : World} {A : Around} {R : Result → Shared → Prop} {s : Shared}
theorem compLoop_go {elt target iter : Expr} {ifs : List Expr} {scope : Scope} {pos : Pos} {it acc : Value} {env : Env} (I : Nat → Shared → Prop)
    (turn : ∀ n s, I n s → wpAny (model prog w) A (pyNext it) (fun r s1 => match r with
      | none => R (.ok .next) s1
      | some v => wpAny (model prog w) A (letOwnedTupleGo target it v) (fun _ s1' => wpAny (model prog w) A (assign target env v) (fun _ s2 =>
          wpAny (model prog w) A (forIn ifs true fun c r => if r = true then do let ok ← isTrue c env (eval c env); pure (ForInStep.yield ok) else pure (ForInStep.yield r)) (fun ok s3 =>
            if ok = true then wpAny (model prog w) A (eval elt env) (fun x s4 =>
              wpAny (model prog w) A (call (.builtin "list.append") [acc, x]) (fun _ s5 => ∃ m, m < n ∧ I m s5) (fun _ _ => False) s4) (fun _ _ => False) s3
            else ∃ m, m < n ∧ I m s3) (fun _ _ => False) s2) (fun _ _ => False) s1') (fun _ _ => False) s1) (fun _ _ => False) s)
    (n : Nat) (h : I n s) :
    codeAny (model prog w) A (.compLoop (.ListComp elt [⟨target, iter, ifs, 0⟩] scope pos) 0 it acc env) R s := by
  refine codeAny_loop rfl I (fun n s hI => ?_) n h
  show wpAny _ A ((compTurn (.ListComp elt [⟨target, iter, ifs, 0⟩] scope pos) 0 it acc env).onRaise (fun x => do noteFrame x env; theTreesLotGoes x)) _ _ s
  refine wpAny_noted ?_
  rw [compTurn_list]
  refine wpAny_bind (wpAny_standAt (wpAny_bind (wpAny_mono (turn n s hI) (fun r s1 h1 => ?_) fun _ _ h' => h'.elim)))
  cases r with
  | none => exact wpAny_pure h1
  | some v =>
    refine wpAny_bind (wpAny_mono h1 (fun _ s1' h1' => ?_) fun _ _ h' => h'.elim)
    refine wpAny_bind (wpAny_mono h1' (fun _ s2 h2 => wpAny_bind (wpAny_mono h2 (fun ok s3 h3 => ?_) fun _ _ h' => h'.elim)) fun _ _ h' => h'.elim)
    cases ok with
    | false => exact wpAny_pure ⟨rfl, h3⟩
    | true =>
      exact wpAny_bind (wpAny_bind (wpAny_mono h3 (fun x s4 h4 => wpAny_bind (wpAny_mono h4 (fun _ s5 h5 => wpAny_pure (wpAny_pure ⟨rfl, h5⟩)) fun _ _ h' => h'.elim)) fun _ _ h' => h'.elim))
end

/-- the context of a comprehension's block -/
def cxComp (X : Cx) (N : List Str) (scope : Scope) (cl : List (Str × Addr)) (s : Shared) (H : Hp) (fp : List Addr) : Cx :=
  { X with N := N, s₀ := s, H₀ := H, env := compEnvC scope cl s.heap.objs.size X.env, outer := X.stack, stack := X.stack, ex := fp, fn := fun _ => false, pn := [], xe := fun _ _ => False }

/-- captured names: the slot outside, the name -/
def CapOk (X : Cx) (scope : Scope) : List (Nat × Str) → Prop
  | [] => True
  | p :: r => (X.N[p.1]? = some p.2 ∧ (X.env.scope.names.lookup p.2 = some .cell ∨ X.env.scope.names.lookup p.2 = some .free) ∧ scope.names.lookup p.2 = some .free) ∧ CapOk X scope r
theorem CapOk.get {X : Cx} {scope : Scope} : ∀ {caps : List (Nat × Str)} {k : Nat} {p : Nat × Str}, CapOk X scope caps → caps[k]? = some p →
    X.N[p.1]? = some p.2 ∧ (X.env.scope.names.lookup p.2 = some .cell ∨ X.env.scope.names.lookup p.2 = some .free) ∧ scope.names.lookup p.2 = some .free
  | [], _, _, _, e => by simp at e
  | _ :: _, 0, _, h, e => by simp at e; subst e; exact h.1
  | _ :: _, k + 1, p, h, e => CapOk.get (k := k) h.2 (by simpa using e)
def capV (caps : List (Nat × Str)) (σ : St) : St := caps.map fun p => (σ[p.1]?).getD none

def PTs (X : Cx) (ifs : List Expr) (t : TT) : Prop :=
  ∀ (pins : List (Addr × Obj)) (s : Shared) (σ : St) (H : Hp) (Q : Bool → Hp → Prop), Inv X pins σ H s → t σ H Q →
    wpAny (model X.prog X.w) X.A (forIn ifs true fun c r => if r = true then do let ok ← isTrue c X.env (eval c X.env); pure (ForInStep.yield ok) else pure (ForInStep.yield r)) (TP X pins σ Q) X.xe s

theorem pts_one {X : Cx} {c : Expr} {t : TT} (hc : PT X c t) : PTs X [c] t := fun pins s σ H Q I h => wpAny_tests_one (hc pins s σ H Q I h)

structure CompSc (scope : Scope) (x : Str) : Prop where
  kind : scope.kind = .function
  nocell : ∀ y ∈ scope.names, y.2 ≠ .cell
  locs : ∀ y ∈ scope.names, y.2 = .local → scope.names.lookup y.1 = some .local
  own : scope.names.lookup x = some .local

def tCompB (J : It) (cv : St) (tt : TT) (te : TE) (D : Addr) (H1 : Hp) (Q : VK) : Prop := ∃ W : Nat → Nat → Hp → Prop, (∃ m, W 0 m (upd H1 D (.lst []))) ∧ ∀ i m H', W i m H' →
  (J.stop i H' ∧ Q (.ref D) H') ∨ (J.go i H' ∧ ∀ x H2, J.yld i H' x H2 → tt (some x :: cv) H2 fun b H3 => if b = true then te (some x :: cv) H3 fun v H4 => ∃ ys, H4 D = some (.lst ys) ∧ ys.length < sizeLine ∧ ∃ m', m' < m ∧ W (i + 1) m' (upd H4 D (.lst (ys ++ [v])))
    else ∃ m', m' < m ∧ W (i + 1) m' H3)
def tYes : TT := fun _ H Q => Q true H
def tComp (wi : TI) (caps : List (Nat × Str)) (tt : TT) (te : TE) : TE := fun σ H Q => wi σ H fun J H1 => ∀ D, H1 D = none → tCompB J (capV caps σ) tt te D H1 Q
def freeB (sc out : Scope) : Bool := sc.names.all fun y => y.2 != .free || (match out.names.lookup y.1 with | some .cell => true | some .free => true | _ => false)
theorem freeB_ok {sc out : Scope} (h : freeB sc out = true) : ∀ y ∈ sc.names, y.2 = .free → out.names.lookup y.1 = some .cell ∨ out.names.lookup y.1 = some .free := fun y hy hk => by
  have := List.all_eq_true.mp h y hy
  rw [hk] at this
  have e : (NameKind.free != NameKind.free) = false := rfl
  rw [e, Bool.false_or] at this
  cases q : out.names.lookup y.1 with
  | none => rw [q] at this; cases this
  | some k =>
    rw [q] at this
    cases k with
    | cell => exact .inl rfl
    | free => exact .inr rfl
    | _ => cases this

theorem pts_nil {X : Cx} : PTs X [] tYes := fun _ _ _ H _ I h => wpAny_tests_nil ⟨H, I, h⟩
theorem lookup_relabel {env : Env} : ∀ {names : List (Str × NameKind)} {x : Str} {k : NameKind}, (names.map fun (n, k) => if (k == NameKind.free && env.scope.kind == .function && env.kindOf n == some .cell) then (n, NameKind.cell) else (n, k)).lookup x = some k →
    ∃ k', (x, k') ∈ names ∧ (k = k' ∨ (k' = .free ∧ k = .cell))
  | [], _, _, h => by simp at h
  | (n, k0) :: r, x, k, h => by
    have ih := @lookup_relabel env r x k
    rw [List.map_cons] at h
    by_cases hx : x = n
    · subst hx
      by_cases hc : (k0 == NameKind.free && env.scope.kind == .function && env.kindOf x == some .cell) = true
      · have h' : some NameKind.cell = some k := by
          dsimp only at h
          rw [if_pos hc, List.lookup_cons, beq_self_eq_true] at h
          exact h
        cases h'
        refine ⟨k0, List.mem_cons_self, .inr ⟨?_, rfl⟩⟩
        rw [Bool.and_eq_true, Bool.and_eq_true] at hc
        simpa using hc.1.1
      · have h' : some k0 = some k := by
          dsimp only at h
          rw [if_neg hc, List.lookup_cons, beq_self_eq_true] at h
          exact h
        cases h'
        exact ⟨k0, List.mem_cons_self, .inl rfl⟩
    · have hb : (x == n) = false := beq_eq_false_iff_ne.mpr hx
      have h' : (r.map fun (n, k) => if (k == NameKind.free && env.scope.kind == .function && env.kindOf n == some .cell) then (n, NameKind.cell) else (n, k)).lookup x = some k := by
        dsimp only at h
        by_cases hc : (k0 == NameKind.free && env.scope.kind == .function && env.kindOf n == some .cell) = true
        · rw [if_pos hc, List.lookup_cons, hb] at h
          exact h
        · rw [if_neg hc, List.lookup_cons, hb] at h
          exact h
      obtain ⟨k', m, e⟩ := ih h'
      exact ⟨k', List.mem_cons_of_mem _ m, e⟩
theorem relabel_free {env : Env} {scope : Scope} {x : Str} (h : scope.names.lookup x = some .free) : (relabel scope env).names.lookup x = some .cell ∨ (relabel scope env).names.lookup x = some .free := by
  have go : ∀ names : List (Str × NameKind), names.lookup x = some .free → (names.map fun (n, k) => if (k == NameKind.free && env.scope.kind == .function && env.kindOf n == some .cell) then (n, NameKind.cell) else (n, k)).lookup x = some .cell ∨
      (names.map fun (n, k) => if (k == NameKind.free && env.scope.kind == .function && env.kindOf n == some .cell) then (n, NameKind.cell) else (n, k)).lookup x = some .free := by
    intro names
    induction names with
    | nil => intro h; cases h
    | cons p r ih =>
      obtain ⟨n, k⟩ := p
      intro h
      rw [List.map_cons]
      dsimp only
      by_cases hx : x = n
      · subst hx
        rw [List.lookup_cons, beq_self_eq_true] at h
        cases h
        by_cases hc : (NameKind.free == NameKind.free && env.scope.kind == .function && env.kindOf x == some .cell) = true
        · rw [if_pos hc, List.lookup_cons, beq_self_eq_true]; exact .inl rfl
        · rw [if_neg hc, List.lookup_cons, beq_self_eq_true]; exact .inr rfl
      · have hb : (x == n) = false := beq_eq_false_iff_ne.mpr hx
        rw [List.lookup_cons, hb] at h
        by_cases hc : (k == NameKind.free && env.scope.kind == .function && env.kindOf n == some .cell) = true
        · rw [if_pos hc, List.lookup_cons, hb]; exact ih h
        · rw [if_neg hc, List.lookup_cons, hb]; exact ih h
  exact go _ h

section
variable {X : Cx} {pins : List (Addr × Obj)} {σ : St} {H : Hp} {s : Shared}
/-- the block's context is well laid -/
theorem inv_comp {x : Str} {caps : List (Nat × Str)} {scope : Scope} {cl : List (Str × Addr)} {fp : List Addr} {h1 : Heap} {tk : Nat} (I : Inv X pins σ H s) (S : CompSc scope x) (hcap : CapOk X scope caps)
    (hcl : ∀ n c, cl.lookup n = some c → X.env.cells.lookup n = some c) (hcl2 : ∀ y ∈ scope.names, y.2 = .free → ∃ c, cl.lookup y.1 = some c) (hfp : ∀ b ∈ fp, FpOk X pins H b ∧ b < s.heap.objs.size)
    (hk : ∀ b o, s.heap.get? b = some o → h1.get? b = some o) (hns : h1.Ns s.heap.objs.size fun _ => none) :
    Inv (cxComp X (x :: caps.map (·.2)) scope cl s H fp) [] (none :: capV caps σ) H { s with heap := h1, toks := tk } := by
  have nn : ∀ p, p ∈ (cxComp X (x :: caps.map (·.2)) scope cl s H fp).pn ++ [] → False := fun p hp => by
    have hp' : p ∈ ([] : List (Addr × Obj)) := by simpa [cxComp] using hp
    cases hp'
  refine ⟨⟨I.ok.mod, S.kind, I.ok.glob, I.ok.blt, Nat.le_refl _, fun a b c e1 e2 => I.ok.inj a b c (hcl a c e1) (hcl b c e2), fun y hy => ?_, fun _ _ z => (by cases z), I.ok.hd, I.ok.frames, .inl rfl, fun b hb => ⟨Nat.ne_of_lt (hfp b hb).2, fun y c e => (hfp b hb).1.2.2.2.2.1 y c (hcl y c e)⟩, I.bs,
      Nat.le_trans I.ok.bsz I.sz, fun b o e hb => ?_, fun b hb z => ?_, I.stack, I.stkFree⟩, I.os.symm ▸ rfl, I.bare, Un.kept hk, ⟨_, hns, fun i y v e1 e2 e3 => ?_⟩, fun y c e => ?_, I.hok.fresh (Nat.le_refl _), fun y c e => I.freeC y c (hcl y c e), fun p hp => (nn p hp).elim, I.hok.kept hk, ?_⟩
  · have hy' : ∃ k', (y, k') ∈ scope.names ∧ k' = .free := by
      rcases hy with hy | hy
      · obtain ⟨k', m, e⟩ := lookup_relabel (env := X.env) (names := scope.names) hy
        rcases e with e | e
        · exact absurd e.symm (S.nocell _ m)
        · exact ⟨k', m, e.1⟩
      · obtain ⟨k', m, e⟩ := lookup_relabel (env := X.env) (names := scope.names) hy
        rcases e with e | e
        · exact ⟨k', m, e.symm⟩
        · cases e.2
    obtain ⟨k', m, rfl⟩ := hy'
    exact hcl2 _ m rfl
  · rcases (hfp b hb).1.2.2.2.1 with z | z
    · exact I.ok.noex b o e z
    · exact absurd (Nat.lt_of_lt_of_le (Heap.lt_size e) (Nat.le_trans I.ok.bsz z)) (Nat.lt_irrefl _)
  · rcases List.mem_cons.mp (I.stkSub b z) with q | q
    · exact (hfp b hb).1.2.1 q
    · exact (hfp b hb).1.2.2.1 q
  · cases i with
    | zero => simp at e2
    | succ k =>
      have e1' : (caps.map (·.2))[k]? = some y := by simpa [cxComp] using e1
      have e2' : (capV caps σ)[k]? = some (some v) := by simpa using e2
      rw [List.getElem?_map] at e1'
      unfold capV at e2'
      rw [List.getElem?_map] at e2'
      cases q : caps[k]? with
      | none => rw [q] at e1'; cases e1'
      | some p =>
        rw [q] at e1' e2'
        have ey : p.2 = y := Option.some.inj e1'
        have ev : (σ[p.1]?).getD none = some v := Option.some.inj e2'
        obtain ⟨c1, c2, c3⟩ := hcap.get q
        rw [ey] at c1 c2 c3
        have ev' : σ[p.1]? = some (some v) := by
          cases r : σ[p.1]? with
          | none => rw [r] at ev; cases ev
          | some o => rw [r] at ev; exact congrArg some ev
        obtain ⟨m, hn, hl⟩ := I.loc
        obtain ⟨u, ru, lk⟩ := hl p.1 y v c1 ev' (c2.elim (fun z => .inr (.inl z)) fun z => .inr (.inr z))
        refine ⟨u, ru, .inr ⟨relabel_free c3, ?_⟩⟩
        rcases lk with ⟨kk, _⟩ | ⟨_, c, ec, oc, hoc, hd⟩
        · have kk' : X.env.scope.names.lookup y = some .local := kk
          rcases c2 with z | z <;> (rw [z] at kk'; cases kk')
        · obtain ⟨c', hc'⟩ := hcl2 (y, .free) (PySem.mem_of_lookup c3) rfl
          have := hcl _ _ hc'
          rw [ec] at this
          cases this
          exact ⟨c, hc', oc, hk _ _ hoc, hd⟩
  · obtain ⟨v, oc, hoc, hd⟩ := I.cell y c (hcl y c e)
    exact ⟨v, oc, hk _ _ hoc, hd⟩
  · show _ = (x :: caps.map (·.2)).length
    unfold capV
    simp

theorem comp_run {elt iter : Expr} {ifs : List Expr} {x : Str} {px pos ipos : Pos} {caps : List (Nat × Str)} {scope : Scope} {wi : TI} {tt : TT} {te : TE} {use : Option (Value → Sem Unit)} {Q : VK} {QQ : Value → Shared → Prop}
    (hc : X.calm = true) (hi : PI X (.Name x px) iter wi) (S : CompSc scope x) (hcap : CapOk X scope caps) (hfree : ∀ y ∈ scope.names, y.2 = .free → X.env.scope.names.lookup y.1 = some .cell ∨ X.env.scope.names.lookup y.1 = some .free)
    (ht : ∀ cl s H fp, PTs (cxComp X (x :: caps.map (·.2)) scope cl s H fp) ifs tt) (he : ∀ cl s H fp, PE (cxComp X (x :: caps.map (·.2)) scope cl s H fp) elt te)
    (hs : ∀ v, foldedSetIterable iter X.env v = pure v) (nd : (x :: caps.map (·.2)).Nodup)
    (I : Inv X pins σ H s) (h : tComp wi caps tt te σ H Q)
    (fin : ∀ (D C : Addr) (H' : Hp) (s' : Shared) (m : Str → Option Value), Inv X pins σ H' s' → s'.heap.Ns C m → FpOk X pins H' C → Q (.ref D) H' → compPost (model X.prog X.w) X.A X.xe use QQ (.ref D) C (.ok .next) s') :
    wpAny (model X.prog X.w) X.A (comprehension (.ListComp elt [⟨.Name x px, iter, ifs, 0⟩] scope pos) scope X.env ipos (newList []) false (eval iter X.env) use) QQ X.xe s := by
  obtain ⟨cl, ecl, hcl, hcl2⟩ := closureFor_ok (scope := scope) (env := X.env) (fun y hy hk => I.ok.has y.1 (hfree y hy hk))
  refine wpAny_comprehension_free (g := ⟨.Name x px, iter, ifs, 0⟩) (gs := []) rfl hs ecl S.kind S.locs (thn (hi pins s σ H _ I h) fun v s1 h1 => thn h1 fun itv s2 h2 => ?_)
  obtain ⟨it, fp, tn, J, H2, e, I2, T, st2, f2, hD⟩ := h2
  subst e
  refine wpAny_newObj_type (wpAny_newFunctionEnv S.nocell (by intro y hy; simp at hy) (fun h3 hns3 hsb3 => ?_) S.kind) (by size_fits)
  have I3 : Inv X pins σ (upd H2 s2.heap.objs.size (.lst [])) { s2 with heap := s2.heap.push { cls := .type "list", data := .seq ([] : List Value).toArray }, toks := s2.toks } := I2.lnew (ys := []) (its := []) .nil (Nat.zero_le _)
  generalize hS3 : ({ s2 with heap := s2.heap.push { cls := .type "list", data := .seq ([] : List Value).toArray }, toks := s2.toks } : Shared) = s3 at I3
  have hh3 : s3.heap = s2.heap.push { cls := .type "list", data := .seq ([] : List Value).toArray } := by rw [← hS3]
  obtain ⟨W, ⟨m0, w0⟩, turn⟩ := hD s2.heap.objs.size I2.fresh
  dsimp only at hns3 hsb3 ⊢
  have hk3 : ∀ b o, s3.heap.get? b = some o → h3.get? b = some o := fun b o eb => by
    rw [hh3] at eb
    exact hsb3.extBut b o (Nat.ne_of_lt (Heap.lt_size eb)) (Heap.get?_push_of_some _ eb)
  have hD0 : ∀ b ∈ fp, b ≠ s2.heap.objs.size := fun b hb => by
    obtain ⟨o, eo, _⟩ := T.obj _ _ st2 b hb
    exact Nat.ne_of_lt (Heap.lt_size eo)
  have hfp : ∀ b ∈ fp, FpOk X pins (upd H2 s2.heap.objs.size (.lst [])) b ∧ b < s3.heap.objs.size := fun b hb => by
    obtain ⟨o, eo, _⟩ := T.obj _ _ st2 b hb
    refine ⟨⟨by rw [upd_ne (hD0 b hb)]; exact (f2 b hb).1, (f2 b hb).2⟩, ?_⟩
    rw [hh3]
    exact Nat.lt_of_lt_of_le (Heap.lt_size eo) (by rw [Heap.size_push]; exact Nat.le_succ _)
  have hns3' : h3.Ns s3.heap.objs.size fun _ => none := by
    rw [hh3]
    exact hns3
  have I4 := inv_comp (x := x) (caps := caps) (scope := scope) (cl := cl) (fp := fp) (h1 := h3) (tk := s3.toks) I3 S hcap hcl hcl2 hfp hk3 hns3'
  have tn3 : tn 0 h3 := T.keep _ _ _ st2 fun b hb o eo => hk3 b o (by rw [hh3]; exact Heap.get?_push_of_some _ eo)
  generalize hY : cxComp X (x :: caps.map (·.2)) scope cl s3 (upd H2 s2.heap.objs.size (.lst [])) fp = Y at I4
  have fpY : ∀ {H' : Hp}, (∀ b ∈ fp, H' b = none) → ∀ b ∈ fp, FpOk Y [] H' b := fun hn b hb => by
    subst hY
    refine ⟨hn b hb, Nat.ne_of_lt (hfp b hb).2, fun z => ?_, .inl hb, fun y c e => (hfp b hb).1.2.2.2.2.1 y c (hcl y c e), fun p hp => ?_⟩
    · rcases List.mem_cons.mp (I3.stkSub b z) with q | q
      · exact (hfp b hb).1.2.1 q
      · exact (hfp b hb).1.2.2.1 q
    · have hp' : p ∈ ([] : List (Addr × Obj)) := by simpa [cxComp] using hp
      cases hp'
  have fr4 : ∀ b ∈ fp, (upd H2 s2.heap.objs.size (.lst [])) b = none := fun b hb => (hfp b hb).1.1
  have eE : Y.env = compEnvC scope cl s3.heap.objs.size X.env := by subst hY; rfl
  have eP : Y.prog = X.prog := by subst hY; rfl
  have eW : Y.w = X.w := by subst hY; rfl
  have eK : Y.K = X.K := by subst hY; rfl
  have eA : Y.A = X.A := by subst hY; rfl
  have eC : Y.calm = true := by subst hY; exact hc
  have eX : Y.xe = fun _ _ => False := by subst hY; rfl
  have PT_ : PTs Y ifs tt := by subst hY; exact ht cl _ _ _
  have PE_ : PE Y elt te := by subst hY; exact he cl _ _ _
  have PG_ : PG Y (.Name x px) (gName 0) := by
    subst hY
    exact pg_name nd rfl (.inl (lookup_relabel_local S.own)) (.inr (lookup_relabel_local S.own))
  have back : ∀ {y : Option V} {H' : Hp} {s' : Shared}, Inv Y [] (y :: capV caps σ) H' s' → Inv X pins σ H' s' ∧ (∃ m, s'.heap.Ns s3.heap.objs.size m) ∧ FpOk X pins H' s3.heap.objs.size := fun {y H' s'} J' => by
    subst hY
    have J1 : Inv X pins σ H' s' := I3.call' (ch := fp) J'.os J'.base J'.hok J'.bare fun b hb => ⟨(hfp b hb).1.2.2.2.1, (hfp b hb).1.2.1, (hfp b hb).1.2.2.2.2.1, (hfp b hb).1.2.2.2.2.2⟩
    obtain ⟨m, hn, _⟩ := J'.loc
    exact ⟨J1, ⟨m, hn⟩, I3.fpOk (Nat.le_refl _) J'.free⟩
  have loop : ∀ (s4 : Shared) , Inv Y [] (none :: capV caps σ) (upd H2 s2.heap.objs.size (.lst [])) s4 → tn 0 s4.heap →
      codeAny (model X.prog X.w) X.A (.compLoop (.ListComp elt [⟨.Name x px, iter, ifs, 0⟩] scope pos) 0 (.ref it) (.ref s2.heap.objs.size) Y.env)
        (compPost (model X.prog X.w) X.A X.xe use QQ (.ref s2.heap.objs.size) s3.heap.objs.size) s4 := by
    intro s4 I4 tn4
    refine compLoop_go (fun n s' => ∃ i y H', Inv Y [] (y :: capV caps σ) H' s' ∧ tn i s'.heap ∧ (∀ b ∈ fp, H' b = none) ∧ W i n H') ?_ m0 ⟨0, none, _, I4, tn4, fr4, w0⟩
    rintro n s5 ⟨i, y, H5, I5, st5, fr5, w5⟩
    rcases turn i n H5 w5 with ⟨stop, qn⟩ | ⟨go, step⟩
    · have := T.done Y eP eW eK eC i [] s5 _ H5 (fun _ _ => False) I5 (fpY fr5) st5 stop
      rw [eA] at this
      refine thn this fun r s6 ⟨hr, I6⟩ => ?_
      subst hr
      obtain ⟨J1, ⟨m, hn⟩, fC⟩ := back I6
      exact fin _ _ H5 s6 m J1 hn fC qn
    · have := T.item Y eP eW eK eC i [] s5 _ H5 (fun _ _ => False) I5 (fpY fr5) st5 go
      rw [eA] at this
      refine thn this fun r s6 ⟨u, hr, h6⟩ => ?_
      subst hr
      refine thn h6 fun _ s7 ⟨z, H7, I7, r7, y7, st7, fr7⟩ => ?_
      have I7' := I7.pinned (fpY fr7) (T.obj _ _ st7)
      have a1 := PG_ _ s7 _ H7 z u _ I7' r7 (show gName 0 z (y :: capV caps σ) H7 (fun σ' H' => σ' = some z :: capV caps σ ∧ H' = H7) from ⟨rfl, rfl⟩)
      rw [eP, eW, eA, eX] at a1
      refine thn a1 fun _ s8 ⟨σ8, H8, I8, e8, e8'⟩ => ?_
      subst e8 e8'
      have a2 := PT_ _ s8 _ H8 _ I8 (step z H8 y7)
      rw [eP, eW, eA, eX] at a2
      refine thn a2 fun ok s9 ⟨H9, I9, q9⟩ => ?_
      have again : ∀ {H' : Hp} {s' : Shared} {m' : Nat}, Inv Y ([] ++ pinsAt fp s7.heap) (some z :: capV caps σ) H' s' → m' < n → W (i + 1) m' H' → ∃ m, m < n ∧ ∃ i y H', Inv Y [] (y :: capV caps σ) H' s' ∧ tn i s'.heap ∧ (∀ b ∈ fp, H' b = none) ∧ W i m H' := fun {H' s' m'} J lt w' => by
        refine ⟨m', lt, i + 1, some z, H', J.unpinned, T.keep _ _ _ st7 fun b hb o e => (J.pin (b, o) (List.mem_append_right _ (List.mem_append_right _ (mem_pinsAt hb e)))).1, fun b hb => ?_, w'⟩
        obtain ⟨o, e, d⟩ := T.obj _ _ st7 b hb
        exact (J.pin (b, o) (List.mem_append_right _ (List.mem_append_right _ (mem_pinsAt hb e)))).2.1
      cases ok with
      | false =>
        obtain ⟨m', lt, w'⟩ := q9
        exact again I9 lt w'
      | true =>
        have a3 := PE_ _ s9 _ H9 _ I9 q9
        rw [eP, eW, eA, eX] at a3
        refine thn a3 fun uv s10 ⟨v, H10, I10, r10, ys, hys, hlt, m', lt, w'⟩ => ?_
        have a4 := mt_append (X := Y) _ s10 _ H10 (.ref s2.heap.objs.size) [v] (.ref s2.heap.objs.size) [uv] (fun v' H' => H' = upd H10 s2.heap.objs.size (.lst (ys ++ [v]))) I10 rfl (.cons r10 .nil) ⟨_, ys, v, rfl, rfl, hys, hlt, rfl⟩
        rw [eP, eW, eA, eX] at a4
        refine thn a4 fun _ s11 ⟨v11, H11, I11, _, e11⟩ => ?_
        subst e11
        exact again I11 lt w'
  have L := loop { s3 with heap := h3, toks := s3.toks } I4 tn3
  rw [eE] at L
  refine codeAny_compStart_list L (T.self _ 0 _ _ _ (by exact tn3) L)
end
end L2

set_option Elab.async false
set_option linter.all false
set_option maxRecDepth 100000
namespace L2
open PySem PySem.Spec PyProof.Rows
section
variable {X : Cx} {pins : List (Addr × Obj)} {σ : St} {H : Hp} {s : Shared}
theorem pe_comp {elt iter : Expr} {ifs : List Expr} {x : Str} {px pos : Pos} {caps : List (Nat × Str)} {scope : Scope} {wi : TI} {tt : TT} {te : TE}
    (hc : X.calm = true) (hi : PI X (.Name x px) iter wi) (S : CompSc scope x) (hcap : CapOk X scope caps) (hfree : freeB scope X.env.scope = true)
    (nd : (x :: caps.map (·.2)).Nodup)
    (ht : ∀ cl s H fp, PTs (cxComp X (x :: caps.map (·.2)) scope cl s H fp) ifs tt) (he : ∀ cl s H fp, PE (cxComp X (x :: caps.map (·.2)) scope cl s H fp) elt te)
    (hs : ∀ v, foldedSetIterable iter X.env v = pure v := by intro _; rfl) :
    PE X (.ListComp elt [⟨.Name x px, iter, ifs, 0⟩] scope pos) (tComp wi caps tt te) := by
  intro pins s σ H Q I h
  rw [eval_ListComp]
  refine comp_run (use := none) hc hi S hcap (freeB_ok hfree) ht he hs nd I h fun D C H' s' m I' hn fC q => ?_
  refine ⟨m, hn, fun h' sb => ⟨.ref D, H', ?_, rfl, q⟩⟩
  exact I'.turned (it := C) (t' := s'.toks) (fun b o hb e => sb.extBut b o hb e) fC.1 fC.2.1 fC.2.2.2.1 fC.2.2.2.2.1 fC.2.2.2.2.2
theorem ps_setComp {elt iter : Expr} {ifs : List Expr} {x y : Str} {px py pos spos : Pos} {caps : List (Nat × Str)} {scope : Scope} {wi : TI} {tt : TT} {te : TE} {i : Nat} (hN : X.N.Nodup) (hi' : X.N[i]? = some y) (hx : Loc X.env.scope y)
    (hc : X.calm = true) (hi : PI X (.Name x px) iter wi) (S : CompSc scope x) (hcap : CapOk X scope caps) (hfree : freeB scope X.env.scope = true)
    (nd : (x :: caps.map (·.2)).Nodup)
    (ht : ∀ cl s H fp, PTs (cxComp X (x :: caps.map (·.2)) scope cl s H fp) ifs tt) (he : ∀ cl s H fp, PE (cxComp X (x :: caps.map (·.2)) scope cl s H fp) elt te)
    (hs : ∀ v, foldedSetIterable iter X.env v = pure v := by intro _; rfl)
    (hsw : swapsWith (.ListComp elt [⟨.Name x px, iter, ifs, 0⟩] scope pos) (some (.Name y py)) spos.line X.env = pure true := by rfl)
    (hf : X.fn y = true ∨ X.env.scope.names.lookup y = some .local := by first | exact .inl rfl | exact .inr rfl | assumption) :
    PS X (.Assign [.Name y py] (.ListComp elt [⟨.Name x px, iter, ifs, 0⟩] scope pos) spos) (tAsg (tComp wi caps tt te) (gName i)) := by
  intro pins s σ H D I h
  rw [exec_Assign_Name_used _ _ _ _ hsw]
  refine wpAny_bind (wpAny_standAt (wpAny_bind ?_))
  show wpAny _ X.A (do let _ ← comprehension (.ListComp elt [⟨.Name x px, iter, ifs, 0⟩] scope pos) scope X.env _ (newList []) false (eval iter X.env) (some (assign (.Name y py) X.env))) _ _ s
  refine wpAny_bind (wpAny_mono (comp_run (use := some (assign (.Name y py) X.env)) (QQ := fun _ s' => SP X pins D .next s') hc hi S hcap (freeB_ok hfree) ht he hs nd I h fun D' C H' s' m I' hn fC q => ?_)
    (fun _ s' hq => wpAny_pure (wpAny_pure hq)) fun _ _ e => e)
  show wpAny _ X.A (assign (.Name y py) X.env (.ref D')) _ _ s'
  refine wpAny_assign_Name (store_ok2 I' hN hi' hx (v := .ref D') rfl (fun s2 I2 hh => ?_) hf)
  obtain ⟨a, sb, ha⟩ := hh
  have hCa : C ≠ a := by
    rcases ha with e | e
    · rw [e]; exact fC.2.1
    · exact fun z => fC.2.2.2.2.1 y a e z.symm
  refine ⟨m, hn.sameBut sb hCa, fun h' sb' => ⟨σ.set i (some (.ref D')), H', ?_, q⟩⟩
  exact I2.turned (it := C) (t' := s2.toks) (fun b o hb e => sb'.extBut b o hb e) fC.1 fC.2.1 fC.2.2.2.1 fC.2.2.2.2.1 fC.2.2.2.2.2

/-! ### a comprehension whose parts leave the heap as it is -/
theorem comp_filter {J : It} {xs : List V} {D : Addr} {H1 : Hp} {tt : TT} {te : TE} {cv : St} {Q : VK} (p : V → Bool) (f : V → V) (hz : xs.length ≤ sizeLine)
    (hgo : ∀ i x ys, xs[i]? = some x → J.go i (upd H1 D (.lst ys)) ∧ ∀ y H2, J.yld i (upd H1 D (.lst ys)) y H2 → y = x ∧ H2 = upd H1 D (.lst ys))
    (hst : ∀ ys, J.stop xs.length (upd H1 D (.lst ys)))
    (ht : ∀ x, x ∈ xs → ∀ (ys : List V) (R : Bool → Hp → Prop), R (p x) (upd H1 D (.lst ys)) → tt (some x :: cv) (upd H1 D (.lst ys)) R)
    (he : ∀ x, x ∈ xs → p x = true → ∀ (ys : List V) (R : VK), R (f x) (upd H1 D (.lst ys)) → te (some x :: cv) (upd H1 D (.lst ys)) R)
    (q : Q (.ref D) (upd H1 D (.lst ((xs.filter p).map f)))) :
    tCompB J cv tt te D H1 Q := by
  refine ⟨fun i m H' => m = xs.length - i ∧ i ≤ xs.length ∧ H' = upd H1 D (.lst (((xs.take i).filter p).map f)), ⟨xs.length, by simp, Nat.zero_le _, by simp⟩, ?_⟩
  rintro i m H' ⟨rfl, hi, rfl⟩
  by_cases hlt : i < xs.length
  · have ex : xs[i]? = some xs[i] := List.getElem?_eq_getElem hlt
    obtain ⟨g, y⟩ := hgo i xs[i] (((xs.take i).filter p).map f) ex
    have hm : xs[i] ∈ xs := List.getElem_mem hlt
    refine .inr ⟨g, fun x H2 hy => ?_⟩
    obtain ⟨rfl, rfl⟩ := y x H2 hy
    have et := take_succ_filter p xs i xs[i] ex
    refine ht _ hm _ _ ?_
    cases hp : p xs[i] with
    | false =>
      rw [if_neg (by simp)]
      refine ⟨xs.length - (i + 1), by omega, rfl, hlt, ?_⟩
      rw [et, hp]
      simp
    | true =>
      rw [if_pos rfl]
      refine he _ hm hp _ _ ⟨_, upd_same, ?_, xs.length - (i + 1), by omega, rfl, hlt, ?_⟩
      · have : ((xs.take i).filter p).length ≤ (xs.take i).length := List.length_filter_le _ _
        rw [List.length_map]
        rw [List.length_take] at this
        omega
      · rw [upd_upd, et, hp]
        simp
  · have e : i = xs.length := by omega
    subst e
    refine .inl ⟨hst _, ?_⟩
    rw [List.take_length]
    exact q
theorem comp_map {J : It} {xs : List V} {D : Addr} {H1 : Hp} {te : TE} {cv : St} {Q : VK} (f : V → V) (hz : xs.length ≤ sizeLine)
    (hgo : ∀ i x ys, xs[i]? = some x → J.go i (upd H1 D (.lst ys)) ∧ ∀ y H2, J.yld i (upd H1 D (.lst ys)) y H2 → y = x ∧ H2 = upd H1 D (.lst ys))
    (hst : ∀ ys, J.stop xs.length (upd H1 D (.lst ys)))
    (he : ∀ x, x ∈ xs → ∀ (ys : List V) (R : VK), R (f x) (upd H1 D (.lst ys)) → te (some x :: cv) (upd H1 D (.lst ys)) R)
    (q : Q (.ref D) (upd H1 D (.lst (xs.map f)))) :
    tCompB J cv tYes te D H1 Q :=
  comp_filter (tt := tYes) (fun _ => true) f hz hgo hst (fun _ _ _ _ r => r) (fun x hx _ => he x hx) (by rw [List.filter_eq_self.mpr (fun _ _ => rfl)]; exact q)
/-- the iterators that were met -/
theorem itr_walk {lo : Int} {n : Nat} {D : Addr} {H1 : Hp} : (∀ i x ys, ((List.range n).map fun k => V.int (lo + (k : Nat)))[i]? = some x → (Itr lo n).go i (upd H1 D (.lst ys)) ∧ ∀ y H2, (Itr lo n).yld i (upd H1 D (.lst ys)) y H2 → y = x ∧ H2 = upd H1 D (.lst ys)) ∧
    ∀ ys, (Itr lo n).stop ((List.range n).map fun k => V.int (lo + (k : Nat))).length (upd H1 D (.lst ys)) := by
  refine ⟨fun i x ys e => ?_, fun ys => by show n ≤ _; simp⟩
  rw [List.getElem?_map] at e
  have hi : i < n := by
    by_cases hi : i < n
    · exact hi
    · rw [List.getElem?_eq_none (by simpa using hi)] at e
      cases e
  rw [List.getElem?_range hi] at e
  have e' : V.int (lo + (i : Nat)) = x := Option.some.inj e
  subst e'
  exact ⟨hi, fun y H2 h => ⟨h.2, h.1⟩⟩
theorem itl_walk {K : PySem.W.Frag} {a D : Addr} {xs : List V} {H1 : Hp} (h : SqL K H1 a xs) (hD : H1 D = none) : (∀ i x ys, xs[i]? = some x → (Itl K a).go i (upd H1 D (.lst ys)) ∧ ∀ y H2, (Itl K a).yld i (upd H1 D (.lst ys)) y H2 → y = x ∧ H2 = upd H1 D (.lst ys)) ∧
    ∀ ys, (Itl K a).stop xs.length (upd H1 D (.lst ys)) := by
  have up : ∀ ys, SqL K (upd H1 D (.lst ys)) a xs := fun ys => Same.seq (fun b o q => by rw [upd_ne (ne_of_none q hD)]; exact q) h
  refine ⟨fun i x ys e => ⟨⟨xs, x, up ys, e⟩, fun y H2 hh => ⟨?_, hh.1⟩⟩, fun ys => ⟨xs, up ys, Nat.le_refl _⟩⟩
  have := hh.2 xs (up ys)
  rw [e] at this
  exact (Option.some.inj this).symm
end

/-! ### a word between two statements -/
def tCut (t u : TS) : TS := fun D σ H => ∃ R : St → Hp → Prop, t { D with nx := R } σ H ∧ ∀ σ' H', R σ' H' → u D σ' H'
theorem pss_cut {X : Cx} {st : Stmt} {rest : List Stmt} {t u : TS} (h1 : PS X st t) (h2 : PSs X rest u) : PSs X (st :: rest) (tCut t u) := by
  intro pins s σ H D I ⟨R, h, k⟩
  have h3 : PSs X rest (fun D' σ' H' => D' = D ∧ R σ' H') := fun pins s σ H D' I' ⟨e, r⟩ => e ▸ h2 pins s σ H D I' (k σ H r)
  exact pss_cons (t := fun D' σ' H' => D' = { D with nx := fun σ' H' => D = D ∧ R σ' H' } ∧ σ' = σ ∧ H' = H) (fun pins' s' σ' H' D' I' ⟨e, e1, e2⟩ => by
    subst e e1 e2
    refine thn (h1 pins' s' _ _ { D with nx := R } I' h) fun f s2 hf => ?_
    cases f with
    | next => obtain ⟨σ2, H2, I2, r⟩ := hf; exact ⟨σ2, H2, I2, rfl, r⟩
    | _ => exact hf) h3 pins s σ H D I ⟨rfl, rfl, rfl⟩

/-! ### heaps -/
theorem upd_old {H : Hp} {a p : Addr} {o u : HO} (h : H a = some o) (hp : H p = none) : upd H p u a = some o := by rw [upd_ne (ne_of_none h hp)]; exact h
theorem SqL.up {K : PySem.W.Frag} {H : Hp} {a p : Addr} {xs : List V} {u : HO} (h : SqL K H a xs) (hp : H p = none) : SqL K (upd H p u) a xs := Same.seq (fun _ _ q => upd_old q hp) h
theorem same_up {H : Hp} {p : Addr} {u : HO} (hp : H p = none) : Same H (upd H p u) := fun _ _ q => upd_old q hp

/-! ### what a def promises of the heap: all else that it made is forgotten -/
def flatO : HO → Bool
  | .ins _ _ _ => false
  | .frz _ _ => false
  | _ => true
def fixO : HO → Bool
  | .tup _ => true
  | .frz _ _ => true
  | .tbl _ => true
  | .own _ => true
  | _ => false
structure Less (H H2 H' : Hp) : Prop where
  sub : Same H2 H'
  dep : ∀ a o, H2 a = some o → H a = some o ∨ flatO o = true ∨ ∃ C dx fs, o = .ins C dx fs ∧ H2 dx = some (.own a)
  kept : ∀ a o, H a = some o → fixO o = true → H2 a = some o
theorem Less.same {H H' : Hp} (s : Same H H') : Less H H H' := ⟨s, fun _ _ e => .inl e, fun _ _ e _ => e⟩
theorem Less.refl {H : Hp} : Less H H H := .same (Same.refl H)
theorem Less.new {H H' : Hp} {p : Addr} {o : HO} (s : Same H H') (hp : H p = none) (e : H' p = some o) (f : flatO o = true) : Less H (upd H p o) H' := by
  refine ⟨fun a u q => ?_, fun a u q => ?_, fun a u q _ => upd_old q hp⟩
  · by_cases h : a = p
    · subst h; rw [upd_same] at q; cases q; exact e
    · rw [upd_ne h] at q; exact s a u q
  · by_cases h : a = p
    · subst h; rw [upd_same] at q; cases q; exact .inr (.inl f)
    · rw [upd_ne h] at q; exact .inl q
theorem ObjOk.less {P : Program} {w : World} {H H2 H' : Hp} {h h0 : Heap} {a : Addr} {o : HO} (L : Less H H2 H') (d : ObjOk P w H h0 a o) (x : ObjOk P w H' h a o) : ObjOk P w H2 h a o := by
  induction o with
  | ins C dx fs =>
    obtain ⟨_, z, ne, e1, e2⟩ := x
    exact ⟨L.kept _ _ d.1 rfl, z, ne, e1, e2⟩
  | frz ob u ih => exact ⟨x.1, ih d.2 x.2⟩
  | _ => exact x
theorem HOk.less {P : Program} {w : World} {H H2 H' : Hp} {h h0 : Heap} (L : Less H H2 H') (ok0 : HOk P w H h0) (ok : HOk P w H' h) : HOk P w H2 h := fun a o e => by
  have x := ok a o (L.sub a o e)
  rcases L.dep a o e with q | q | ⟨C, dx, fs, rfl, q⟩
  · exact ObjOk.less L (ok0 a o q) x
  · cases o with
    | ins C dx fs => cases q
    | frz ob u => cases q
    | _ => exact x
  · obtain ⟨_, z⟩ := x
    exact ⟨q, z⟩
theorem Un.less {fs : List Addr} {H H2 H' : Hp} {h h' : Heap} (L : Less H H2 H') (u : Un fs [] H H' h h') : Un fs [] H H2 h h' :=
  { keep := u.keep, slot := u.slot, there := u.there
    free := fun b o e n hx => by
      have q := u.free b o e n hx
      cases z : H2 b with
      | none => rfl
      | some v => rw [L.sub b v z] at q; cases q
    tups := fun b xs e => L.kept b _ e rfl
    frzs := fun b o v e => L.kept b _ e rfl
    tbls := fun b ps e => ⟨#[], by rw [L.kept b _ e rfl]; simp⟩ }
theorem FnOk.drop {P : Program} {w : World} {K : PySem.W.Frag} {mg : Str → Option Value} {base : Heap} {CX : CXT} {k : Nat} {f : Addr} {fd : FuncData} {ps : List Str} {sp sp' : Sp} (F : FnOk P w K mg base CX k f fd ps sp)
    (h : ∀ vs H Q E, sp' vs H Q E → sp vs H (fun v H' => ∃ H2, Less H H2 H' ∧ Q v H2) E) : FnOk P w K mg base CX k f fd ps sp' := by
  refine ⟨fun vs H Q E z => F.len vs H _ E (h vs H Q E z), fun A outer s H args us vs Q E hr e0 hb r z => ?_⟩
  refine codeAny_mono (F.run A outer s H args us vs _ E hr e0 hb r (h vs H Q E z)) fun q s' hq => ?_
  cases q with
  | error e => exact hq
  | ok fl =>
    cases fl with
    | ret u =>
      obtain ⟨v, H', o1, o2, o3, o4, o5, H2, L, q2⟩ := hq
      exact ⟨v, H2, o1, o2, Un.less L o3, HOk.less L e0.hok o4, o5, q2⟩
    | _ => exact hq

/-- a def of the text, as it is called -/
structure Cal (P : Program) (w : World) (K : PySem.W.Frag) (mg : Str → Option Value) (base : Heap) (k : Nat) (x : Str) (ps : List Str) (sp : Sp) : Prop where
  ex : ∃ f fd, mg x = some (.ref f) ∧ PySem.W.keepIn K (.ref f) = true ∧ Binds K fd ps [] ∧ FnOk P w K mg base CX0 k f fd ps sp
structure Def (K : PySem.W.Frag) (mg : Str → Option Value) (x : Str) (st : Stmt) (ps : List Str) : Prop where
  ex : ∃ f fd, Fun K x x st f fd ∧ Binds K fd ps [] ∧ mg x = some (.ref f)
section
variable {P : Program} {w : World} {K : PySem.W.Frag} {mg : Str → Option Value} {base : Heap}
theorem Cal.mono {j k : Nat} {x : Str} {ps : List Str} {sp : Sp} (C : Cal P w K mg base j x ps sp) (h : j ≤ k) : Cal P w K mg base k x ps sp :=
  let ⟨f, fd, a, b, c, d⟩ := C.ex
  ⟨f, fd, a, b, c, d.mono h⟩
theorem Fun.okD {x qual : Str} {st : Stmt} {f : Addr} {fd : FuncData} {N ps : List Str} {k : Nat} {sp : Sp} (F : Fun K x qual st f fd) (S : FnScope N ps (defScope st)) (len : ∀ vs H Q E, sp vs H Q E → vs.length = ps.length)
    (hbody : ∀ (cdv : Value) (A : Around) (outer : List Env) (s : Shared) (H : Hp) (vs : List V) (Q : VK) (E : XK), Room k (A.deeper (envOfC qual (defScope st) s.heap.objs.size f cdv)) → sp vs H Q E →
      ∃ t, PSs (cxOf CX0 P w K mg base N qual (defScope st) f cdv A outer s H E).nox (defBody st) t ∧ t { nx := fun _ H' => ∃ H2, Less H H2 H' ∧ Q .non H2, rt := fun v H' => ∃ H2, Less H H2 H' ∧ Q v H2 } (start N vs) H) : FnOk P w K mg base CX0 (k + 1) f fd ps sp := by
  refine FnOk.drop (sp := fun vs H Q E => ∃ Q0, sp vs H Q0 E ∧ Q = fun v H' => ∃ H2, Less H H2 H' ∧ Q0 v H2) (F.ok S (fun vs H Q E ⟨Q0, z, _⟩ => len vs H Q0 E z) fun cdv A outer s H vs Q E hr ⟨Q0, z, e⟩ => ?_) fun vs H Q E z => ⟨Q, z, rfl⟩
  subst e
  exact hbody cdv A outer s H vs Q0 E hr z
theorem Def.ok {x : Str} {st : Stmt} {N ps : List Str} {k : Nat} {sp : Sp} (D : Def K mg x st ps) (S : FnScope N ps (defScope st)) (len : ∀ vs H Q E, sp vs H Q E → vs.length = ps.length)
    (hbody : ∀ (f : Addr) (cdv : Value) (A : Around) (outer : List Env) (s : Shared) (H : Hp) (vs : List V) (Q : VK) (E : XK), Room k (A.deeper (envOfC x (defScope st) s.heap.objs.size f cdv)) → sp vs H Q E →
      ∃ t, PSs (cxOf CX0 P w K mg base N x (defScope st) f cdv A outer s H E).nox (defBody st) t ∧ t { nx := fun _ H' => ∃ H2, Less H H2 H' ∧ Q .non H2, rt := fun v H' => ∃ H2, Less H H2 H' ∧ Q v H2 } (start N vs) H) : Cal P w K mg base (k + 1) x ps sp := by
  obtain ⟨f, fd, F, b, m⟩ := D.ex
  exact ⟨f, fd, m, F.kp, b, F.okD S len (hbody f)⟩
theorem def_mk {h : Heap} {x : Str} {st : Stmt} {ps : List Str} {f : Addr} {oc : Value} {od an : Option Addr} {osl : Array (Option Value)} {kV doc pm cdv ct : Value} (X : K.In h) (G : h.Ns mainGlobals mg) (a : PySem.W.nsIn K mainGlobals x = some (some (.ref f)))
    (l : K.lookup f = some ⟨oc, od, .func (PySem.W.fnOf x x (defArgs st) (defBody st) (defScope st) .none kV doc pm an cdv ct), osl⟩) (c : PySem.W.codeIn K cdv x = true) (k : PySem.W.keepIn K (.ref f) = true)
    (hb : ∀ (kV doc pm : Value) (an : Option Addr) (cdv ct : Value) (us : List Value), us.length = ps.length → bindArgs (PySem.W.fnOf x x (defArgs st) (defBody st) (defScope st) .none kV doc pm an cdv ct) ⟨us, []⟩ = pure (ps.zip us)) : Def K mg x st ps :=
  ⟨f, _, fun_mk l c k, (fun_mk l c k).binds hb, PySem.W.mg_of X G a⟩
end
section
variable {X : Cx} {k : Nat} {x : Str} {ps : List Str} {sp : Sp} {p pos : Pos} {e : Expr} {es : List Expr} {t : TA}
theorem pe_def (C : Cal X.prog X.w X.K X.mg X.base k x ps sp) (hr : Room k X.A) (hg : Gl X x) (ha : PA X (e :: es) t) (hdb : (x == ("__debug__" : Str)) = false := by decide) (he : starEach (e :: es) X.env = (false, eval e X.env) :: starEach es X.env := by rfl) (hpl : (backTo pos (starEach es X.env)).any (·.1) = false := by rfl) :
    PE X (.Call (.Name x p) (e :: es) [] pos) (tCall sp [] E0 t) :=
  let ⟨_, _, a, b, c, d⟩ := C.ex
  pe_call d hr hg a b c .nil pass0 ha hdb he hpl
end

/-! ### sum, isinstance, == of lists and tuples -/
section
variable {X : Cx}
theorem call_sum (hc : X.calm = true) : CallR X (.builtin "sum") (fun xs H Q => ∃ (a : Addr) (ns : List Int), xs = [.ref a] ∧ SqL X.K H a (ns.map V.int) ∧ Q (.int ns.sum) H) := by
  rintro pins s σ H xs us Q I r ⟨a, ns, rfl, h, q⟩
  obtain ⟨u, rfl, ru⟩ := vals1 r
  cases (show u = .ref a from ru)
  obtain ⟨its, hv, pl, hz⟩ := I.list h
  have hi := intsAre_of hv
  obtain ⟨ys, e⟩ := hi.allInts.items
  have hl : s.heap.IsList a (intItems ys) := e ▸ pl.isList
  refine sum_intListG (I.ok.hd hc) hl fun h' tk t' hk => ?_
  have es : preSum (numAt ys) ys.size = ns.sum := by
    rw [preSum_eq, List.take_of_length_le (by simp), ← nums_intItems, ← e]
    exact congrArg List.sum hi.numsOf
  rw [es]
  exact ⟨.int ns.sum, H, I.kept hk, ⟨_, rfl⟩, q⟩
theorem call_isinst : CallR X (.builtin "isinstance") (fun xs H Q => ∃ x T t b, xs = [x, .ty T] ∧ TyOf X.K H x t ∧ PySem.W.kitOne X.K t (.type T) = some b ∧ Q (.bl b) H) := by
  rintro pins s σ H xs us Q I r ⟨x, T, t, b, rfl, ty, e, q⟩
  obtain ⟨u, v, rfl, ru, rv⟩ := vals2 r
  cases (show v = .type T from rv)
  exact isinst_ok I ru ty e fun tk => ⟨.bl b, H, I.tok tk, rfl, q⟩

theorem eqV_all : ∀ (ns ms : List Int), ns.length = ms.length → ((List.range ns.length).all fun j => decide (ns[j]? = ms[j]?)) = decide (ns = ms) := fun ns ms h => by
  by_cases e : ns = ms
  · subst e; simp
  · rw [decide_eq_false e]
    rw [List.all_eq_false]
    have : ∃ j : Nat, ns[j]? ≠ ms[j]? := by
      by_cases hh : ∃ j : Nat, ns[j]? ≠ ms[j]?
      · exact hh
      · exact absurd (List.ext_getElem? fun j => by
          by_cases z : ns[j]? = ms[j]?
          · exact z
          · exact absurd ⟨j, z⟩ hh) e
    obtain ⟨j, hj⟩ := this
    refine ⟨j, ?_, by simpa using hj⟩
    rw [List.mem_range]
    by_cases hlt : j < ns.length
    · exact hlt
    · exact absurd (by rw [List.getElem?_eq_none (by omega), List.getElem?_eq_none (by omega)]) hj
theorem ints_at {vs : List Value} {ns : List Int} (h : IntsAre vs ns) : ∀ j (hj : j < vs.length), ∃ n t, vs[j] = .int n t ∧ ns[j]? = some n := by
  induction h with
  | nil => intro j hj; simp at hj
  | cons n t _ ih =>
    intro j hj
    cases j with
    | zero => exact ⟨n, t, rfl, rfl⟩
    | succ j => exact ih j (by simpa using hj)
theorem ints_eqAt {A : Around} {s : Shared} {vs us : List Value} {ns ms : List Int} (h : IntsAre vs ns) (g : IntsAre us ms) : ∀ j (h1 : j < vs.toArray.size) (h2 : j < us.toArray.size), SeqAt.EqAt A s vs.toArray[j] us.toArray[j] (decide (ns[j]? = ms[j]?)) := fun j h1 h2 => by
  obtain ⟨n, t, e, en⟩ := ints_at h j (by simpa using h1)
  obtain ⟨m, u, e', em⟩ := ints_at g j (by simpa using h2)
  have x1 : vs.toArray[j] = .int n t := by simpa using e
  have x2 : us.toArray[j] = .int m u := by simpa using e'
  rw [x1, x2, en, em]
  have := eqAt_V (A := A) (s := s) (y := .int n) (x := .int m) (u := .int n t) (v := .int m u) ⟨t, rfl⟩ ⟨u, rfl⟩ rfl rfl
  have z : eqV (.int n) (.int m) = decide (some n = some m) := by
    show (n == m) = _
    by_cases q : n = m
    · subst q; simp
    · rw [decide_eq_false (by simpa using q)]; simpa using q
  rw [← z]
  exact this
def rEqLI (K : PySem.W.Frag) (neg : Bool) : R2 := fun x y H Q => ∃ (a b : Addr) (ns ms : List Int), x = .ref a ∧ y = .ref b ∧ SqL K H a (ns.map V.int) ∧ SqL K H b (ms.map V.int) ∧ Q (.bl (if neg then !decide (ns = ms) else decide (ns = ms))) H
theorem op_eqLI (hu : X.A.units < cLine) : OpR X (compareOp .Eq) (rEqLI X.K false) := by
  rintro pins s σ H x y v u Q I rx ry ⟨a, b, ns, ms, rfl, rfl, ha, hb, q⟩
  cases (show v = .ref a from rx)
  cases (show u = .ref b from ry)
  obtain ⟨is1, v1, p1, _⟩ := I.list ha
  obtain ⟨is2, v2, p2, _⟩ := I.list hb
  have i1 := intsAre_of v1
  have i2 := intsAre_of v2
  have l1 : is1.length = ns.length := by have := v1.length; simpa using this.symm
  have l2 : is2.length = ms.length := by have := v2.length; simpa using this.symm
  by_cases hl : ns.length = ms.length
  · refine SeqAt.eq_listAt p1.isList p2.isList (by simpa [l1, l2] using hl) hu (ints_eqAt i1 i2) ?_
    have : is1.toArray.size = ns.length := by simpa using l1
    rw [this, eqV_all _ _ hl]
    exact ⟨.bl _, H, I, rfl, q⟩
  · refine SeqAt.eq_list_lengthsAt p1.isList p2.isList (by simpa [l1, l2] using hl) hu ?_
    have : decide (ns = ms) = false := decide_eq_false fun e => hl (by rw [e])
    rw [this] at q
    exact ⟨.bl _, H, I, rfl, q⟩
theorem op_neLI (hu : X.A.units < cLine) : OpR X (compareOp .NotEq) (rEqLI X.K true) := by
  rintro pins s σ H x y v u Q I rx ry ⟨a, b, ns, ms, rfl, rfl, ha, hb, q⟩
  cases (show v = .ref a from rx)
  cases (show u = .ref b from ry)
  obtain ⟨is1, v1, p1, _⟩ := I.list ha
  obtain ⟨is2, v2, p2, _⟩ := I.list hb
  have i1 := intsAre_of v1
  have i2 := intsAre_of v2
  have l1 : is1.length = ns.length := by have := v1.length; simpa using this.symm
  have l2 : is2.length = ms.length := by have := v2.length; simpa using this.symm
  by_cases hl : ns.length = ms.length
  · refine SeqAt.RcNeAt.lists p1.isList p2.isList (by simpa [l1, l2] using hl) hu (ints_eqAt i1 i2) _ _ _ _ ?_
    have : is1.toArray.size = ns.length := by simpa using l1
    rw [this, eqV_all _ _ hl]
    exact ⟨.bl _, H, I, rfl, q⟩
  · refine SeqAt.RcNeAt.lists_lengths p1.isList p2.isList (by simpa [l1, l2] using hl) hu _ _ _ _ ?_
    have : decide (ns = ms) = false := decide_eq_false fun e => hl (by rw [e])
    rw [this] at q
    exact ⟨.bl _, H, I, rfl, q⟩
end
end L2

set_option Elab.async false
set_option linter.all false
set_option maxRecDepth 100000
namespace L2
open PySem PySem.Spec PyProof.Rows
theorem b_len : bootBuiltins "len" = some (.builtin "len") := by decide +kernel
theorem b_sum : bootBuiltins "sum" = some (.builtin "sum") := by decide +kernel
theorem b_isinstance : bootBuiltins "isinstance" = some (.builtin "isinstance") := by decide +kernel
theorem b_list : bootBuiltins "list" = some (.type "list") := by decide +kernel
theorem b_tuple : bootBuiltins "tuple" = some (.type "tuple") := by decide +kernel
theorem b_int : bootBuiltins "int" = some (.type "int") := by decide +kernel
theorem b_bool : bootBuiltins "bool" = some (.type "bool") := by decide +kernel
theorem b_reversed : bootBuiltins "reversed" = some (.type "reversed") := by decide +kernel
theorem b_enumerate : bootBuiltins "enumerate" = some (.type "enumerate") := by decide +kernel
/-- the built-in names stand as they are -/
structure BI (mg : Str → Option Value) : Prop where
  len : mg "len" = none
  sum : mg "sum" = none
  isinstance : mg "isinstance" = none
  divmod : mg "divmod" = none
  list : mg "list" = none
  tuple : mg "tuple" = none
  int : mg "int" = none
  bool : mg "bool" = none
  range : mg "range" = none
  reversed : mg "reversed" = none
  zip : mg "zip" = none
  min : mg "min" = none
  max : mg "max" = none
  enumerate : mg "enumerate" = none
  str : mg "str" = none
  sorted : mg "sorted" = none
  set : mg "set" = none
theorem hU {A : Around} {k : Nat} (hr : Room k A) : A.units < cLine := hr.units0
theorem kit_int_int {K : PySem.W.Frag} : PySem.W.kitOne K (.type "int") (.type "int") = some true := by rfl
theorem kit_int_bool {K : PySem.W.Frag} : PySem.W.kitOne K (.type "int") (.type "bool") = some false := by rfl
theorem kit_tuple {K : PySem.W.Frag} : PySem.W.kitOne K (.type "tuple") (.type "tuple") = some true := by rfl
theorem kit_list {K : PySem.W.Frag} : PySem.W.kitOne K (.type "list") (.type "list") = some true := by rfl
theorem getI {ns : List Int} {i : Nat} (h : i < ns.length) : (ns.map V.int)[i]? = some (.int (ns.getD i 0)) := by
  rw [List.getElem?_map, List.getElem?_eq_getElem h]
  show some (V.int ns[i]) = _
  rw [List.getD_eq_getElem?_getD, List.getElem?_eq_getElem h]
  rfl
theorem atN {ns : List Int} {i : Nat} (h : i < ns.length) : atI (ns.map V.int) (i : Int) = some (.int (ns.getD i 0)) := atI_nat (getI h)
theorem atZ {ns : List Int} {i : Int} (h0 : 0 ≤ i) (h : i < (ns.length : Int)) : atI (ns.map V.int) i = some (.int (ns.getD i.toNat 0)) := by
  have e : i = ((i.toNat : Nat) : Int) := by omega
  have := atN (ns := ns) (i := i.toNat) (by omega)
  rw [← e] at this
  exact this
theorem ixZ {n : Nat} {i : Int} (h0 : 0 ≤ i) (h : i < (n : Int)) : ixN n i = some i.toNat := by
  unfold ixN
  rw [if_pos h0, if_pos h]
theorem map_set (ns : List Int) (i : Nat) (v : Int) : (ns.map V.int).set i (.int v) = (ns.set i v).map V.int := by rw [List.map_set]
theorem mem_at {ns : List Int} {i : Nat} {y : V} (h : (ns.map V.int)[i]? = some y) : ∃ n, n ∈ ns ∧ y = .int n := by
  rw [List.getElem?_map] at h
  cases e : ns[i]? with
  | none => rw [e] at h; cases h
  | some n => rw [e] at h; exact ⟨n, List.mem_of_getElem? e, (Option.some.inj h).symm⟩
theorem pe_gint {X : Cx} {x : Str} {i : Int} {pos : Pos} (hg : Gl X x) (hm : ∃ t, X.mg x = some (.int i t)) (hd : (x == ("__debug__" : Str)) = false := by decide) : PE X (.Name x pos) (tC (.int i)) :=
  let ⟨t, e⟩ := hm
  pe_glob hg e (v := .int i) ⟨t, rfl⟩ hd
theorem pe_bty {X : Cx} {x : Str} {T : String} {pos : Pos} (hg : Gl X x) (hm : X.mg x = none) (hv : bootBuiltins x = some (.type T)) (hn : x ≠ "__name__" := by decide) (hd : (x == ("__debug__" : Str)) = false := by decide) : PE X (.Name x pos) (tC (.ty T)) :=
  pe_bltn hg hm hv (v := .ty T) rfl hn hd
theorem szl {n : Nat} (h : n ≤ 1000) : n ≤ sizeLine := Nat.le_of_lt (small1000 h)
end L2
namespace Np
open L2
/-! ### the mathematics -/
structure GoodC (ns : List Int) : Prop where
  len0 : 1 ≤ ns.length
  len1 : ns.length ≤ 100
  rng : ∀ c ∈ ns, 0 ≤ c ∧ c ≤ 999
  pos : 0 < ns.sum
theorem sum_nn : ∀ {ns : List Int}, (∀ c ∈ ns, 0 ≤ c ∧ c ≤ 999) → 0 ≤ ns.sum ∧ ns.sum ≤ 999 * (ns.length : Int)
  | [], _ => by simp
  | c :: r, h => by
    have h1 := h c List.mem_cons_self
    have h2 := sum_nn (ns := r) fun x hx => h x (List.mem_cons_of_mem _ hx)
    rw [List.sum_cons, List.length_cons]
    omega
theorem GoodC.le {ns : List Int} (g : GoodC ns) : ns.sum ≤ 99900 := by
  have := (sum_nn g.rng).2
  have := g.len1
  omega
theorem GoodC.mk' {ns : List Int} (h0 : 1 ≤ ns.length) (h1 : ns.length ≤ 100) (h : ∀ c ∈ ns, 0 ≤ c ∧ c ≤ 999) (hs : ns.sum ≠ 0) : GoodC ns := ⟨h0, h1, h, by have := (sum_nn h).1; omega⟩
/-- the first of the sign k -/
def first (ns : List Int) (k : Nat) : Int := (ns.take k).sum
theorem first_zero (ns : List Int) : first ns 0 = 0 := by simp [first]
theorem first_succ {ns : List Int} {k : Nat} (h : k < ns.length) : first ns (k + 1) = first ns k + ns.getD k 0 := by
  unfold first
  rw [List.take_succ, List.sum_append, List.getD_eq_getElem?_getD, List.getElem?_eq_getElem h]
  simp
theorem first_len (ns : List Int) : first ns ns.length = ns.sum := by unfold first; rw [List.take_length]
theorem getD_mem {ns : List Int} {k : Nat} (h : k < ns.length) : ns.getD k 0 ∈ ns := by
  rw [List.getD_eq_getElem?_getD, List.getElem?_eq_getElem h]
  exact List.getElem_mem h
theorem GoodC.at {ns : List Int} (g : GoodC ns) (k : Nat) : 0 ≤ ns.getD k 0 ∧ ns.getD k 0 ≤ 999 := by
  by_cases h : k < ns.length
  · exact g.rng _ (getD_mem h)
  · rw [List.getD_eq_getElem?_getD, List.getElem?_eq_none (by omega)]
    exact ⟨Int.le_refl _, by decide⟩
theorem first_mono {ns : List Int} (h : ∀ c ∈ ns, 0 ≤ c ∧ c ≤ 999) {i j : Nat} (hij : i ≤ j) (hj : j ≤ ns.length) : first ns i ≤ first ns j := by
  induction j with
  | zero =>
    have : i = 0 := by omega
    subst this; exact Int.le_refl _
  | succ j ih =>
    rcases Nat.lt_or_ge i (j + 1) with q | q
    · have := ih (by omega) (by omega)
      rw [first_succ (by omega)]
      have := (h _ (getD_mem (ns := ns) (k := j) (by omega))).1
      omega
    · have : i = j + 1 := by omega
      subst this; exact Int.le_refl _
/-- the sign of a slot -/
def signOf : List Int → Int → Nat
  | [], _ => 0
  | c :: r, s => if s < c then 0 else signOf r (s - c) + 1
theorem signOf_ok : ∀ {ns : List Int} {s : Int}, 0 ≤ s → s < ns.sum → signOf ns s < ns.length ∧ first ns (signOf ns s) ≤ s ∧ s < first ns (signOf ns s) + ns.getD (signOf ns s) 0
  | [], s, h0, h => by simp at h; omega
  | c :: r, s, h0, h => by
    unfold signOf
    by_cases q : s < c
    · rw [if_pos q]
      exact ⟨by simp, by simp [first]; exact h0, by simp [first]; exact q⟩
    · rw [if_neg q]
      rw [List.sum_cons] at h
      obtain ⟨a, b, d⟩ := signOf_ok (ns := r) (s := s - c) (by omega) (by omega)
      have e : first (c :: r) (signOf r (s - c) + 1) = c + first r (signOf r (s - c)) := by simp [first]
      have e' : (c :: r).getD (signOf r (s - c) + 1) 0 = r.getD (signOf r (s - c)) 0 := by simp
      rw [e, e', List.length_cons]
      omega
theorem signOf_unique {ns : List Int} (h : ∀ c ∈ ns, 0 ≤ c ∧ c ≤ 999) {s : Int} {k : Nat} (hk : k < ns.length) (h1 : first ns k ≤ s) (h2 : s < first ns (k + 1)) : signOf ns s = k := by
  have h0 : 0 ≤ s := by
    have := first_mono h (Nat.zero_le k) (by omega)
    rw [first_zero] at this
    omega
  have hs : s < ns.sum := by
    have := first_mono h (show k + 1 ≤ ns.length from hk) (Nat.le_refl _)
    rw [first_len] at this
    omega
  obtain ⟨a, b, d⟩ := signOf_ok h0 hs
  rw [← first_succ a] at d
  rcases Nat.lt_trichotomy (signOf ns s) k with q | q | q
  · have := first_mono h (show signOf ns s + 1 ≤ k from q) (by omega)
    omega
  · exact q
  · have := first_mono h (show k + 1 ≤ signOf ns s from q) (by omega)
    omega
/-- what the draws make -/
def draw (cell k bound : Int) : Int := ((cell % 1000003 * 48271 + k * 69621 + 11) % 2147483647) * (((cell % 7919 + 1) * (k * k + 31 * k + 7) % 65537) + 1) / 4099 % bound
theorem draw_rng (cell k : Int) {bound : Int} (h : 0 < bound) : 0 ≤ draw cell k bound ∧ draw cell k bound < bound := ⟨Int.emod_nonneg _ (by omega), Int.emod_lt_of_pos _ h⟩
def lawTop (cell : Int) : Int := if cell % 4 = 0 then 2 else if cell % 4 = 1 then 10 else if cell % 4 = 2 then 1000 else 4
theorem lawTop_rng (cell : Int) : 2 ≤ lawTop cell ∧ lawTop cell ≤ 1000 := by unfold lawTop; split <;> (try split) <;> (try split) <;> omega
def lawC0 (cell many : Int) : List Int := (List.range many.toNat).map fun k => draw (cell / 4) ((k : Nat) : Int) (lawTop cell)
def lawCounts (cell many : Int) : List Int := if (lawC0 cell many).sum = 0 then (lawC0 cell many).set ((cell / 4) % many).toNat 1 else lawC0 cell many
theorem lawC0_len (cell many : Int) : (lawC0 cell many).length = many.toNat := by simp [lawC0]
theorem lawC0_rng (cell many : Int) : ∀ c ∈ lawC0 cell many, 0 ≤ c ∧ c ≤ 999 := fun c hc => by
  obtain ⟨k, _, rfl⟩ := List.mem_map.mp hc
  have h := lawTop_rng cell
  have := draw_rng (cell / 4) ((k : Nat) : Int) (bound := lawTop cell) (by omega)
  omega
theorem sum_set_pos {ns : List Int} (h : ∀ c ∈ ns, 0 ≤ c ∧ c ≤ 999) {i : Nat} (hi : i < ns.length) : 0 < (ns.set i 1).sum := by
  induction ns generalizing i with
  | nil => simp at hi
  | cons c r ih =>
    have hr := (sum_nn (ns := r) fun x hx => h x (List.mem_cons_of_mem _ hx)).1
    have hc := (h c List.mem_cons_self).1
    cases i with
    | zero => rw [List.set_cons_zero, List.sum_cons]; omega
    | succ i =>
      have := ih (fun x hx => h x (List.mem_cons_of_mem _ hx)) (i := i) (by simpa using hi)
      rw [List.set_cons_succ, List.sum_cons]; omega
theorem lawCounts_len (cell many : Int) : (lawCounts cell many).length = many.toNat := by
  unfold lawCounts; split <;> simp [lawC0_len]
theorem lawCounts_good (cell : Int) {many : Int} (h1 : 1 ≤ many) (h2 : many ≤ 100) : GoodC (lawCounts cell many) := by
  have hl := lawC0_len cell many
  have hr := lawC0_rng cell many
  unfold lawCounts
  split
  · have hi : ((cell / 4) % many).toNat < (lawC0 cell many).length := by
      have a := Int.emod_nonneg (cell / 4) (show many ≠ 0 by omega)
      have b := Int.emod_lt_of_pos (cell / 4) (show 0 < many by omega)
      omega
    refine ⟨by rw [List.length_set]; omega, by rw [List.length_set]; omega, fun c hc => ?_, sum_set_pos hr hi⟩
    rcases List.mem_or_eq_of_mem_set hc with q | q
    · exact hr c q
    · subst q; exact ⟨by decide, by decide⟩
  · rename_i hne
    exact .mk' (by omega) (by omega) hr hne
def cellAt (ns : List Int) (k : Int) : Int := ns.getD k.toNat 0
end Np
namespace Np
open L2
def takeS (ns : List Int) (p : Int) : Nat := signOf ns (p % ns.sum)
theorem take_ok {ns : List Int} (g : GoodC ns) (p : Int) : takeS ns p < ns.length ∧ first ns (takeS ns p) ≤ p % ns.sum ∧ p % ns.sum < first ns (takeS ns p) + ns.getD (takeS ns p) 0 :=
  signOf_ok (Int.emod_nonneg p (by have := g.pos; omega)) (Int.emod_lt_of_pos p g.pos)
theorem take_pos {ns : List Int} (g : GoodC ns) (p : Int) : 0 < ns.getD (takeS ns p) 0 := by
  obtain ⟨_, b, c⟩ := take_ok g p
  omega
def heldN (ns : List Int) : List Int := ((List.range ns.length).filter fun k => decide (0 < ns.getD k 0)).map fun k => ((k : Nat) : Int)
theorem held_mem {ns : List Int} {x : Int} : x ∈ heldN ns ↔ ∃ k : Nat, k < ns.length ∧ 0 < ns.getD k 0 ∧ x = (k : Int) := by
  unfold heldN
  rw [List.mem_map]
  constructor
  · rintro ⟨k, hk, rfl⟩
    rw [List.mem_filter, List.mem_range] at hk
    exact ⟨k, hk.1, of_decide_eq_true hk.2, rfl⟩
  · rintro ⟨k, h1, h2, rfl⟩
    exact ⟨k, List.mem_filter.mpr ⟨List.mem_range.mpr h1, decide_eq_true h2⟩, rfl⟩
theorem held_len (ns : List Int) : (heldN ns).length ≤ ns.length := by
  unfold heldN
  rw [List.length_map]
  have := List.length_filter_le (fun k => decide (0 < ns.getD k 0)) (List.range ns.length)
  rw [List.length_range] at this
  exact this
theorem held_pos {ns : List Int} (g : GoodC ns) : 0 < (heldN ns).length := by
  have : ((takeS ns 0 : Nat) : Int) ∈ heldN ns := held_mem.mpr ⟨_, (take_ok g 0).1, take_pos g 0, rfl⟩
  exact List.length_pos_of_mem this
theorem held_at {ns : List Int} (i : Nat) (h : i < (heldN ns).length) : ∃ k : Nat, (heldN ns).getD i 0 = (k : Int) ∧ k < ns.length ∧ 0 < ns.getD k 0 := by
  obtain ⟨k, a, b, c⟩ := held_mem.mp (getD_mem h)
  exact ⟨k, c, a, b⟩
def heldP (ns : List Int) : V → Bool
  | .int k => decide (0 < ns.getD k.toNat 0)
  | _ => false
theorem held_comp {ns : List Int} : ((((List.range ns.length).map fun k => V.int (0 + (k : Nat))).filter (heldP ns)).map id) = (heldN ns).map V.int := by
  unfold heldN
  rw [List.map_id, List.filter_map, List.map_map]
  have e : (List.filter (heldP ns ∘ fun k : Nat => V.int (0 + (k : Int))) (List.range ns.length)) = List.filter (fun k => decide (0 < ns.getD k 0)) (List.range ns.length) := by
    refine List.filter_congr fun k _ => ?_
    show decide (0 < ns.getD (0 + (k : Int)).toNat 0) = _
    rw [Int.zero_add, Int.toNat_natCast]
  rw [e]
  refine List.map_congr_left fun k _ => ?_
  show V.int (0 + (k : Int)) = V.int (k : Int)
  rw [Int.zero_add]
end Np
namespace L2
end L2
namespace L2
open PySem PySem.Spec PyProof.Rows
section
variable {X : Cx} {K : PySem.W.Frag}
theorem ix_listK (e : X.K = K) : IxR X (rIxL K) := e ▸ ix_list
theorem call_lenK (e : X.K = K) : CallR X (.builtin "len") (fun xs H Q => ∃ p ys, xs = [.ref p] ∧ (SqL K H p ys ∨ SqT K H p ys) ∧ Q (.int ys.length) H) := e ▸ call_len_seq
end
end L2

set_option Elab.async false
set_option linter.all false
set_option maxRecDepth 100000
namespace L2
open PySem PySem.Spec PyProof.Rows
/-! ### reversed(a list) -/
def Itv (K : PySem.W.Frag) (a : Addr) (n : Nat) : It :=
  ⟨fun i H => ∃ xs x, SqL K H a xs ∧ i < n ∧ xs[n - 1 - i]? = some x, fun i H x H' => H' = H ∧ ∀ xs, SqL K H a xs → xs[n - 1 - i]? = some x, fun i _ => i = n⟩
theorem turn_rev {P : Program} {w : World} {K : PySem.W.Frag} {tg : Expr} (a it : Addr) (n : Nat) : Turn P w K tg (Itv K a n) [it] it (fun i h => i ≤ n ∧ h.IsRevIter it a ((n : Int) - 1 - (i : Nat))) where
  mem := by simp
  obj := fun i h st b hb => by
    have e : b = it := by simpa using hb
    subst e
    obtain ⟨_, o, e, c, d⟩ := st
    exact ⟨o, e, fun v z => by rw [d] at z; cases z⟩
  keep := fun i h h' st k => ⟨st.1, st.2.at fun o e => k it (by simp) o e⟩
  item := by
    intro X hP hw hK hc i pins s σ H E I hf st hg
    subst hP hw hK
    obtain ⟨xs, x, hq, hi, hx⟩ := hg
    obtain ⟨its, rv, p, hz⟩ := I.list hq
    obtain ⟨u, hu, ru⟩ := rv.get hx
    obtain ⟨f0, f1, f2, f3, f4, f5⟩ := hf it (by simp)
    have e1 : (n : Int) - 1 - (i : Nat) = ((n - 1 - i : Nat) : Int) := by omega
    have hit := st.2
    rw [e1] at hit
    refine wpAny_pyNext_rev_item hit p.isList (x := u) (by simpa using hu) fun h' st' sb => ?_
    have I1 : Inv X pins σ H { s with heap := h' } := I.turned (t' := s.toks) (fun b o hb e => (sb.2 b hb).trans e) f0 f1 f3 f4 f5
    have e2 : ((n - 1 - i : Nat) : Int) - 1 = (n : Int) - 1 - ((i + 1 : Nat) : Int) := by omega
    rw [e2] at st'
    obtain ⟨o, e, c, d⟩ := id st'
    exact ⟨u, rfl, go_of (s := { s with heap := h' }) e c d (by decide) ⟨x, H, I1, ru, ⟨rfl, fun ys hy => by rw [I.list_inj hy hq]; exact hx⟩, ⟨hi, st'⟩, fun b hb => (hf b hb).1⟩⟩
  done := by
    intro X hP hw hK hc i pins s σ H E I hf st hg
    subst hP hw hK
    obtain ⟨f0, f1, f2, f3, f4, f5⟩ := hf it (by simp)
    have hg' : i = n := hg
    subst hg'
    have e : (i : Int) - 1 - (i : Nat) = -1 := by omega
    have hit := st.2
    rw [e] at hit
    exact wpAny_pyNext_rev_end (I.ok.hd hc) hit fun h' eb => ⟨rfl, I.turned (t' := s.toks) (fun b o hb e => eb b o hb e) f0 f1 f3 f4 f5⟩
  self := fun _ _ _ _ _ st h => wpAny_pyIter_revIter st.2 h
section
variable {X : Cx} {tg : Expr}
def iRev (K : PySem.W.Frag) (ta : TA) : TI := fun σ H R => ta σ H fun vs H1 => ∃ a xs, vs = [.ref a] ∧ SqL K H1 a xs ∧ R (Itv K a xs.length) H1
theorem pi_rev {a : Expr} {ta : TA} {p pos : Pos} (hg : Gl X "reversed") (hm : X.mg "reversed" = none) (ha : PA X [a] ta) (hs : starEach [a] X.env = [(false, eval a X.env)] := by rfl) : PI X tg (.Call (.Name "reversed" p) [a] [] pos) (iRev X.K ta) := by
  intro pins s σ H R I h
  refine Call_ (ld_blt I hg hm b_reversed (PyProof.Rows.callWith_type1 (thn (ha pos pins s σ H _ I h) fun us s1 ⟨vs, H1, I1, r1, q1⟩ => ?_) hs rfl))
  obtain ⟨l, xs, e, hq, q⟩ := q1
  subst e
  obtain ⟨u, rfl, ru⟩ := vals1 r1
  cases (show u = .ref l from ru)
  obtain ⟨its, rv, pl, hz⟩ := I1.list hq
  refine call_reversed_list pl.isList ?_
  have en : (its.toArray.size : Int) = (xs.length : Int) := by rw [List.size_toArray, rv.length]
  rw [en]
  have hit : ({ s1 with heap := s1.heap.push (revObj l ((xs.length : Int) - 1)) } : Shared).heap.IsRevIter s1.heap.objs.size l ((xs.length : Int) - 1) := ⟨_, Heap.get?_push_size _ rfl, rfl, rfl⟩
  refine wpAny_pyIter_revIter hit ?_
  refine ⟨s1.heap.objs.size, [s1.heap.objs.size], _, _, H1, rfl, I1.kept (t' := s1.toks) fun b o e => Heap.get?_push_of_some _ e, turn_rev l _ xs.length, ⟨Nat.zero_le _, ?_⟩, fun b hb => ?_, q⟩
  · have e0 : (xs.length : Int) - 1 - ((0 : Nat) : Int) = (xs.length : Int) - 1 := by omega
    rw [e0]
    exact hit
  · have e : b = s1.heap.objs.size := by simpa using hb
    subst e
    exact I1.fpOk (Nat.le_refl _) (I1.hok.fresh (Nat.le_refl _))
end
theorem for_rev {K : PySem.W.Frag} {a : Addr} {xs : List V} {g : TG} {tb : TS} {D : Ends} {σ : St} {H : Hp} (Pv : Nat → St → Hp → Prop) (h0 : Pv 0 σ H) (hl : ∀ i σ H, i ≤ xs.length → Pv i σ H → SqL K H a xs)
    (hs : ∀ i x σ H, xs.reverse[i]? = some x → Pv i σ H → g x σ H fun σ2 H2 => tb { D with nx := Pv (i + 1), ct := Pv (i + 1), bk := D.nx } σ2 H2) (hd : ∀ σ H, Pv xs.length σ H → D.nx σ H) :
    ∃ W : Nat → Nat → St → Hp → Prop, (∃ m, W 0 m σ H) ∧ ∀ i m σ H, W i m σ H →
      ((Itv K a xs.length).stop i H ∧ D.nx σ H) ∨ ((Itv K a xs.length).go i H ∧ ∃ N : St → Hp → Prop, (∀ σ' H', N σ' H' → ∃ m', m' < m ∧ W (i + 1) m' σ' H') ∧ ∀ x H', (Itv K a xs.length).yld i H x H' → g x σ H' fun σ2 H2 => tb { D with nx := N, ct := N, bk := D.nx } σ2 H2) := by
  refine ⟨fun i m σ H => m = xs.length - i ∧ i ≤ xs.length ∧ Pv i σ H, ⟨xs.length, by simp, Nat.zero_le _, h0⟩, ?_⟩
  rintro i m σ H ⟨rfl, hi, p⟩
  have q := hl i σ H hi p
  by_cases hlt : i < xs.length
  · have ex : xs[xs.length - 1 - i]? = some (xs[xs.length - 1 - i]'(by omega)) := List.getElem?_eq_getElem (by omega)
    refine .inr ⟨⟨xs, _, q, hlt, ex⟩, Pv (i + 1), fun σ' H' p' => ⟨xs.length - (i + 1), by omega, rfl, hlt, p'⟩, fun x H' y => ?_⟩
    obtain ⟨e, y⟩ := y
    subst e
    refine hs i x σ _ ?_ p
    rw [List.getElem?_reverse hlt]
    exact y xs q
  · have e : i = xs.length := by omega
    subst e
    exact .inl ⟨rfl, hd σ H p⟩
theorem Less.add {H H2 H' : Hp} {p : Addr} {o : HO} (L : Less H H2 H') (hp : H2 p = none) (e : H' p = some o) (f : flatO o = true) : Less H (upd H2 p o) H' := by
  refine ⟨fun a u q => ?_, fun a u q => ?_, fun a u q z => upd_old (L.kept a u q z) hp⟩
  · by_cases h : a = p
    · subst h; rw [upd_same] at q; cases q; exact e
    · rw [upd_ne h] at q; exact L.sub a u q
  · by_cases h : a = p
    · subst h; rw [upd_same] at q; cases q; exact .inr (.inl f)
    · rw [upd_ne h] at q
      rcases L.dep a u q with z | z | ⟨C, dx, fs, z, z'⟩
      · exact .inl z
      · exact .inr (.inl z)
      · exact .inr (.inr ⟨C, dx, fs, z, upd_old z' hp⟩)
end L2
namespace Np
open L2
/-! ### rows -/
def OkS (ns : List Int) (k : Int) : Prop := 0 ≤ k ∧ k < (ns.length : Int) ∧ 0 < ns.getD k.toNat 0
end Np
namespace Np
open L2
end Np

set_option Elab.async false
set_option linter.all false
set_option maxRecDepth 100000
namespace L2
open PySem PySem.Spec PyProof.Rows
/-! ### defs with defaults; methods; classes that are called -/
structure FunD (K : PySem.W.Frag) (x qual : Str) (st : Stmt) (dv : Value) (f : Addr) (fd : FuncData) : Prop where
  ex : ∃ (oc : Value) (od : Option Addr) (kV doc pm : Value) (an : Option Addr) (cdv ct : Value) (osl : Array (Option Value)),
    fd = PySem.W.fnOf x qual (defArgs st) (defBody st) (defScope st) dv kV doc pm an cdv ct ∧ K.lookup f = some ⟨oc, od, .func fd, osl⟩ ∧ PySem.W.codeIn K cdv qual = true
section
variable {P : Program} {w : World} {K : PySem.W.Frag} {mg : Str → Option Value} {base : Heap}
theorem fund_mk {x qual : Str} {st : Stmt} {f : Addr} {oc : Value} {od an : Option Addr} {osl : Array (Option Value)} {dv kV doc pm cdv ct : Value} (l : K.lookup f = some ⟨oc, od, .func (PySem.W.fnOf x qual (defArgs st) (defBody st) (defScope st) dv kV doc pm an cdv ct), osl⟩)
    (c : PySem.W.codeIn K cdv qual = true) : FunD K x qual st dv f (PySem.W.fnOf x qual (defArgs st) (defBody st) (defScope st) dv kV doc pm an cdv ct) := ⟨oc, od, kV, doc, pm, an, cdv, ct, osl, rfl, l, c⟩
theorem FunD.ok {x qual : Str} {st : Stmt} {dv : Value} {f : Addr} {fd : FuncData} {N ps : List Str} {k : Nat} {sp : Sp} (F : FunD K x qual st dv f fd) (S : FnScope N ps (defScope st)) (len : ∀ vs H Q E, sp vs H Q E → vs.length = ps.length)
    (hbody : ∀ (cdv : Value) (A : Around) (outer : List Env) (s : Shared) (H : Hp) (vs : List V) (Q : VK) (E : XK), Room k (A.deeper (envOfC qual (defScope st) s.heap.objs.size f cdv)) → sp vs H Q E →
      ∃ t, PSs (cxOf CX0 P w K mg base N qual (defScope st) f cdv A outer s H E).nox (defBody st) t ∧ t { nx := fun _ H' => Q .non H', rt := Q } (start N vs) H) : FnOk P w K mg base CX0 (k + 1) f fd ps sp := by
  obtain ⟨oc, od, kV, doc, pm, an, cdv, ct, osl, rfl, lk, hcd⟩ := F.ex
  refine fn_of lk hcd S len fun A outer s H vs Q E hr hsp => ?_
  obtain ⟨t, h, q⟩ := hbody cdv A outer s H vs Q E hr hsp
  exact ⟨t, h.nox, q⟩
theorem FunD.okD {x qual : Str} {st : Stmt} {dv : Value} {f : Addr} {fd : FuncData} {N ps : List Str} {k : Nat} {sp : Sp} (F : FunD K x qual st dv f fd) (S : FnScope N ps (defScope st)) (len : ∀ vs H Q E, sp vs H Q E → vs.length = ps.length)
    (hbody : ∀ (cdv : Value) (A : Around) (outer : List Env) (s : Shared) (H : Hp) (vs : List V) (Q : VK) (E : XK), Room k (A.deeper (envOfC qual (defScope st) s.heap.objs.size f cdv)) → sp vs H Q E →
      ∃ t, PSs (cxOf CX0 P w K mg base N qual (defScope st) f cdv A outer s H E).nox (defBody st) t ∧ t { nx := fun _ H' => ∃ H2, Less H H2 H' ∧ Q .non H2, rt := fun v H' => ∃ H2, Less H H2 H' ∧ Q v H2 } (start N vs) H) : FnOk P w K mg base CX0 (k + 1) f fd ps sp := by
  refine FnOk.drop (sp := fun vs H Q E => ∃ Q0, sp vs H Q0 E ∧ Q = fun v H' => ∃ H2, Less H H2 H' ∧ Q0 v H2) (F.ok S (fun vs H Q E ⟨Q0, z, _⟩ => len vs H Q0 E z) fun cdv A outer s H vs Q E hr ⟨Q0, z, e⟩ => ?_) fun vs H Q E z => ⟨Q, z, rfl⟩
  subst e
  exact hbody cdv A outer s H vs Q0 E hr z
/-- what may be called by a name (a def or a class), with one argument at least -/
structure CalA (P : Program) (w : World) (K : PySem.W.Frag) (mg : Str → Option Value) (base : Heap) (k : Nat) (x : Str) (sp : Sp) : Prop where
  ex : ∃ f, mg x = some (.ref f) ∧ PySem.W.keepIn K (.ref f) = true ∧ ∀ (X : Cx), X.prog = P → X.w = w → X.K = K → X.mg = mg → X.base = base → Room k X.A → ∀ (pins : List (Addr × Obj)) (σ : St) (H : Hp) (s : Shared) (Q : VK) (vs : List V) (us : List Value),
    Inv X pins σ H s → Vals vs us → sp vs H Q E0 → wpAny (model X.prog X.w) X.A (call (.ref f) us) (EP X pins σ Q) X.xe s
theorem CalA.mono {j k : Nat} {x : Str} {sp : Sp} (C : CalA P w K mg base j x sp) (h : j ≤ k) : CalA P w K mg base k x sp :=
  let ⟨f, a, b, c⟩ := C.ex
  ⟨f, a, b, fun X h1 h2 h3 h4 h5 hr => c X h1 h2 h3 h4 h5 (hr.mono h)⟩
/-- a method of a class -/
structure CalM (P : Program) (w : World) (K : PySem.W.Frag) (mg : Str → Option Value) (base : Heap) (k : Nat) (C : Addr) (m : Str) (ps : List Str) (sp : Sp) : Prop where
  ex : ∃ f fd, Meth K C m f ∧ Binds K fd ps [] ∧ FnOk P w K mg base CX0 k f fd ps sp
theorem CalM.mono {j k : Nat} {C : Addr} {m : Str} {ps : List Str} {sp : Sp} (F : CalM P w K mg base j C m ps sp) (h : j ≤ k) : CalM P w K mg base k C m ps sp :=
  let ⟨f, fd, a, b, c⟩ := F.ex
  ⟨f, fd, a, b, c.mono h⟩
structure DefM (K : PySem.W.Frag) (C : Addr) (m qual : Str) (st : Stmt) (ps : List Str) : Prop where
  ex : ∃ f fd, FunD K m qual st .none f fd ∧ Binds K fd ps [] ∧ Meth K C m f
theorem DefM.ok {C : Addr} {m qual : Str} {st : Stmt} {N ps : List Str} {k : Nat} {sp : Sp} (D : DefM K C m qual st ps) (S : FnScope N ps (defScope st)) (len : ∀ vs H Q E, sp vs H Q E → vs.length = ps.length)
    (hbody : ∀ (f : Addr) (cdv : Value) (A : Around) (outer : List Env) (s : Shared) (H : Hp) (vs : List V) (Q : VK) (E : XK), Room k (A.deeper (envOfC qual (defScope st) s.heap.objs.size f cdv)) → sp vs H Q E →
      ∃ t, PSs (cxOf CX0 P w K mg base N qual (defScope st) f cdv A outer s H E).nox (defBody st) t ∧ t { nx := fun _ H' => ∃ H2, Less H H2 H' ∧ Q .non H2, rt := fun v H' => ∃ H2, Less H H2 H' ∧ Q v H2 } (start N vs) H) : CalM P w K mg base (k + 1) C m ps sp := by
  obtain ⟨f, fd, F, b, m⟩ := D.ex
  exact ⟨f, fd, m, b, F.okD S len (hbody f)⟩
/-- an __init__, and what it is to be called with (the defaults that fill up) -/
structure DefI (K : PySem.W.Frag) (C : Addr) (qual : Str) (st : Stmt) (ps : List Str) (dvs : List V) : Prop where
  ex : ∃ dv f fd ds, FunD K "__init__" qual st dv f fd ∧ Binds K fd ps [] ∧ Binds K fd ps ds ∧ Vals dvs ds ∧ Mk K C f
theorem DefI.ok {C : Addr} {x qual : Str} {st : Stmt} {N ps : List Str} {dvs : List V} {k : Nat} {sp sp1 sp2 : Sp} (D : DefI K C qual st ps dvs) (hm : mg x = some (.ref C)) (S : FnScope N ps (defScope st)) (len : ∀ vs H Q E, sp vs H Q E → vs.length = ps.length)
    (hbody : ∀ (f : Addr) (cdv : Value) (A : Around) (outer : List Env) (s : Shared) (H : Hp) (vs : List V) (Q : VK) (E : XK), Room k (A.deeper (envOfC qual (defScope st) s.heap.objs.size f cdv)) → sp vs H Q E →
      ∃ t, PSs (cxOf CX0 P w K mg base N qual (defScope st) f cdv A outer s H E).nox (defBody st) t ∧ t { nx := fun _ H' => Q .non H', rt := Q } (start N vs) H)
    (h1 : ∀ vs H Q, sp1 vs H Q E0 → ∀ x dx, H x = none → H dx = none → dx ≠ x → sp (.ref x :: vs) (upd (upd H dx (.own x)) x (.ins C dx [])) (fun v H2 => v = .non ∧ Q (.ref x) H2) E0)
    (h2 : ∀ vs H Q, sp2 vs H Q E0 → ∀ x dx, H x = none → H dx = none → dx ≠ x → sp (.ref x :: (vs ++ dvs)) (upd (upd H dx (.own x)) x (.ins C dx [])) (fun v H2 => v = .non ∧ Q (.ref x) H2) E0) :
    CalA P w K mg base (k + 2) x sp1 ∧ CalA P w K mg base (k + 2) x sp2 := by
  obtain ⟨dv, f, fd, ds, F, b, b2, hd, M⟩ := D.ex
  have G : FnOk P w K mg base CX0 (k + 1) f fd ps sp := F.ok S len (hbody f)
  refine ⟨⟨C, hm, M.kp, fun X e1 e2 e3 e4 e5 hr pins σ H s Q vs us I r h => ?_⟩, ⟨C, hm, M.kp, fun X e1 e2 e3 e4 e5 hr pins σ H s Q vs us I r h => ?_⟩⟩
  · subst e1 e2 e3 e4 e5
    exact run_make M G hr b .nil pass0 I r (fun x dx n1 n2 n3 => by rw [List.append_nil]; exact h1 vs H Q h x dx n1 n2 n3)
  · subst e1 e2 e3 e4 e5
    exact run_make M G hr b2 hd pass0 I r (fun x dx n1 n2 n3 => h2 vs H Q h x dx n1 n2 n3)
end
section
variable {X : Cx} {k : Nat} {x m : Str} {ps : List Str} {sp : Sp} {p pos apos : Pos} {e o : Expr} {es : List Expr} {t : TA} {ta : TE}
theorem pe_cal (C : CalA X.prog X.w X.K X.mg X.base k x sp) (hr : Room k X.A) (hg : Gl X x) (ha : PA X (e :: es) t) (hdb : (x == ("__debug__" : Str)) = false := by decide) (he : starEach (e :: es) X.env = (false, eval e X.env) :: starEach es X.env := by rfl) (hpl : (backTo pos (starEach es X.env)).any (·.1) = false := by rfl) :
    PE X (.Call (.Name x p) (e :: es) [] pos) (fun σ H Q => t σ H fun vs H1 => sp vs H1 Q E0) := by
  obtain ⟨f, hm, hk, run⟩ := C.ex
  intro pins s σ H Q I h
  refine wpAny_Call_Name_kw (ld_glob I hg hm ?_ hdb)
  refine PySem.W.callWith_K (h₀ := X.base) I.ok.mod.kin hk (thn (ha pos pins s σ H _ I h) fun us s1 ⟨vs, H1, I1, r, q⟩ => ⟨I1.kIn, ?_⟩) he hpl
  exact run X rfl rfl rfl rfl rfl hr pins σ H1 s1 Q vs us I1 r q
def tMethD (Cs : Addr → Prop) (m : Str) (spm : Addr → Sp) (ta : TE) (t : TA) : TE := fun σ H Q => ta σ H fun x H1 => ∃ a C dx fs, x = .ref a ∧ H1 a = some (.ins C dx fs) ∧ Cs C ∧ fs.lookup m = none ∧ t σ H1 fun vs H2 => spm C (x :: vs) H2 Q E0
theorem pe_methD {pl : Sem Bool} {Cs : Addr → Prop} {spm : Addr → Sp} (he : PE X o ta) (hC : ∀ C, Cs C → Cls X.K C ∧ CalM X.prog X.w X.K X.mg X.base k C m ps (spm C)) (hr : Room k X.A) (ha : PA X (e :: es) t)
    (hst : starEach (e :: es) X.env = (false, eval e X.env) :: starEach es X.env := by rfl) (hpl : (backTo pos (starEach es X.env)).any (·.1) = false := by rfl)
    (ht : eval (.Call (.Attribute o m apos) (e :: es) [] pos) X.env = (do
      let ov ← eval o X.env
      standAt apos.atName
      let (f, first) ← holding [ov] (getMethod ov m pl)
      callWith pos f first (backTo pos (starEach (e :: es) X.env)) (backToKw pos (keywordEach [] X.env))) := by rfl) :
    PE X (.Call (.Attribute o m apos) (e :: es) [] pos) (tMethD Cs m spm ta t) := by
  intro pins s σ H Q I h
  refine PySem.W.methodCall_KW (pl := pl) (thn (he pins s σ H _ I h) fun u s1 ⟨x, H1, I1, rx, a, C, dx, fs, ex, ea, hc, l, q⟩ => ?_) ht
  subst ex
  obtain rfl : u = Value.ref a := rx
  obtain ⟨c, f, fd, hm, hb, F⟩ := hC C hc
  refine getmeth_ok I1 ea c hm l ?_
  refine PySem.W.callWith_K (first := [.ref a]) (h₀ := X.base) I.ok.mod.kin hm.kp (thn (ha pos pins s1 σ H1 _ I1 q) fun us s2 ⟨vs, H2, I2, r, q2⟩ => ⟨I2.kIn, ?_⟩) hst hpl
  exact run_fn (us := .ref a :: us) (vs := .ref a :: vs) (dvs := []) (ds := []) F hr hb .nil pass0 I2 (.cons rfl r) (by rw [List.append_nil]; exact q2)
end
theorem putF_ne {f g : Str} {v x : V} {r : List (Str × V)} (h : ¬ g = f) : putF f v ((g, x) :: r) = (g, x) :: putF f v r := by
  show (if g = f then _ else _) = _
  rw [if_neg h]
end L2

set_option Elab.async false
set_option linter.all false
set_option maxRecDepth 100000
namespace Np
open L2 PySem
/-! ### models -/
structure Cl where
  P : Addr
  L : Addr
  F : Addr
  M : Addr
  S : Addr
  O : Addr
theorem look_cons {f g : Str} {v : V} {r : List (Str × V)} (h : ¬ f = g) : List.lookup f ((g, v) :: r) = List.lookup f r := by
  rw [List.lookup_cons, beq_eq_false_iff_ne.mpr h]
theorem look_here {f : Str} {v : V} {r : List (Str × V)} : List.lookup f ((f, v) :: r) = some v := by rw [List.lookup_cons, beq_self_eq_true]
def ones (m : Int) : List Int := List.replicate m.toNat 1
/-- behind the making of an object -/
theorem mk_same {H H' : Hp} {x dx : Addr} {o : HO} (nx : H x = none) (ndx : H dx = none) (k : ∀ b u, (upd (upd H dx (.own x)) x o) b = some u → b ≠ x → H' b = some u) : Same H H' := fun b u e =>
  k b u (by rw [upd_ne (ne_of_none e nx), upd_ne (ne_of_none e ndx)]; exact e) (ne_of_none e nx)
theorem mk_free {H : Hp} {x dx l : Addr} {o : HO} (e : (upd (upd H dx (.own x)) x o) l = none) : H l = none := by
  by_cases h1 : l = x
  · subst h1; rw [upd_same] at e; cases e
  · rw [upd_ne h1] at e
    by_cases h2 : l = dx
    · subst h2; rw [upd_same] at e; cases e
    · rw [upd_ne h2] at e; exact e
end Np
namespace Np
open L2 PySem
end Np
namespace Np
open L2 PySem
inductive Mo where
  | pl (ns : List Int)
  | le (m s : Int) (t : List Int)
  | fo (m s : Int) (cur : Option Nat) (b : List Int) (ts : List (List Int))
def Mo.many : Mo → Int
  | .pl ns => (ns.length : Int)
  | .le m _ _ => m
  | .fo m _ _ _ _ => m
def Mo.tells : Mo → List Int
  | .pl ns => ns
  | .le _ _ t => t
  | .fo _ _ cur b ts => match cur with | none => b | some i => ts.getD i []
def Mo.fresh : Mo → Mo
  | .pl ns => .pl ns
  | .le m s _ => .le m s (ones m)
  | .fo m s _ _ _ => .fo m s none (ones m) (List.replicate m.toNat (ones m))
end Np
namespace Np
open L2 PySem
end Np
namespace Np
open L2 PySem
theorem cut_ints (ns : List Int) (lo hi : Option Int) : ∃ ms : List Int, cutV (ns.map V.int) lo hi = ms.map V.int ∧ ms.length ≤ ns.length := by
  refine ⟨(ns.drop (HT.sIx (ns.map V.int).length 0 lo)).take (HT.sIx (ns.map V.int).length (ns.map V.int).length hi - HT.sIx (ns.map V.int).length 0 lo), ?_, ?_⟩
  · unfold cutV
    rw [List.map_take, List.map_drop]
  · rw [List.length_take, List.length_drop]
    omega
end Np

namespace L2
open PySem PySem.Spec PyProof.Rows
end L2

set_option Elab.async false
set_option linter.all false
set_option maxRecDepth 100000
namespace L2
open PySem PySem.Spec PyProof.Rows
end L2
namespace Np
open L2 PySem
theorem getD_map_ref {ls : List Addr} {i : Nat} (h : i < ls.length) : (ls.map V.ref)[i]? = some (.ref (ls.getD i 0)) := by
  rw [List.getElem?_map, List.getElem?_eq_getElem h, List.getD_eq_getElem?_getD, List.getElem?_eq_getElem h]
  rfl
theorem getD_in {α : Type} {ls : List α} {d : α} {i : Nat} (h : i < ls.length) : ls.getD i d ∈ ls := by
  rw [List.getD_eq_getElem?_getD, List.getElem?_eq_getElem h]
  exact List.getElem_mem h
theorem getD_ne {ls : List Addr} {i j : Nat} (nd : ls.Nodup) (hi : i < ls.length) (hj : j < ls.length) (n : i ≠ j) : ls.getD i 0 ≠ ls.getD j 0 := fun e => by
  rw [List.getD_eq_getElem?_getD, List.getElem?_eq_getElem hi, List.getD_eq_getElem?_getD, List.getElem?_eq_getElem hj] at e
  exact n ((List.getElem_inj nd).mp e)
theorem getD_set_same {α : Type} {ls : List α} {d v : α} {i : Nat} (h : i < ls.length) : (ls.set i v).getD i d = v := by
  rw [List.getD_eq_getElem?_getD, List.getElem?_set_self h]
  rfl
theorem getD_set_other {α : Type} {ls : List α} {d v : α} {i j : Nat} (n : i ≠ j) : (ls.set i v).getD j d = ls.getD j d := by
  rw [List.getD_eq_getElem?_getD, List.getElem?_set_ne n, List.getD_eq_getElem?_getD]
section
variable {T : Cl} {H H' : Hp} {x bh l0 k0 : Addr} {ls ks : List Addr} {m st : Int} {cur : Option Nat} {b0 : List Int} {ts : List (List Int)}
end
end Np

set_option Elab.async false
set_option linter.all false
set_option maxRecDepth 100000
namespace L2
open PySem PySem.Spec PyProof.Rows
/-! ### list(zip(a, b)): behind the first pair the zip's own tuple is held by the list, so each further pair is a new one -/
section
variable {prog : Program} {w : World} {A : Around} {E : Value → Shared → Prop} {s : Shared}
end
end L2
namespace L2
open PySem PySem.Spec PyProof.Rows
section
variable {prog : Program} {w : World} {A : Around} {R : Result → Shared → Prop} {s : Shared}
end
end L2
namespace L2
open PySem PySem.Spec PyProof.Rows
section
variable {prog : Program} {w : World} {A : Around} {E : Value → Shared → Prop} {s : Shared}
end
end L2

namespace L2
open PySem PySem.Spec PyProof.Rows
section
variable {X : Cx} {pins : List (Addr × Obj)} {σ : St} {H H' : Hp} {s : Shared} {h' : Heap}
end
end L2

set_option Elab.async false
set_option linter.all false
set_option maxRecDepth 100000
namespace Np
open L2 PySem
end Np

set_option Elab.async false
set_option linter.all false
set_option maxRecDepth 100000
namespace L2
open PySem PySem.Spec PyProof.Rows
section
variable {X : Cx} {tg : Expr}
/-! ### list(range(n)) -/
end
end L2
namespace L2
open PySem PySem.Spec PyProof.Rows
/-! ### reversed(range(n)) -/
section
variable {prog : Program} {w : World} {A : Around} {E : Value → Shared → Prop} {s : Shared}
end
section
variable {X : Cx} {tg : Expr}
end
end L2

set_option Elab.async false
set_option linter.all false
set_option maxRecDepth 100000
namespace L2
open PySem PySem.Spec PyProof.Rows
theorem Def.okH {P : Program} {w : World} {K : PySem.W.Frag} {mg : Str → Option Value} {base : Heap} {x : Str} {st : Stmt} {N ps : List Str} {k : Nat} {sp : Sp} (D : Def K mg x st ps) (S : FnScope N ps (defScope st)) (len : ∀ vs H Q E, sp vs H Q E → vs.length = ps.length)
    (hbody : ∀ (f : Addr) (cdv : Value) (A : Around) (outer : List Env) (s : Shared) (H : Hp) (vs : List V) (Q : VK) (E : XK), Room k (A.deeper (envOfC x (defScope st) s.heap.objs.size f cdv)) → sp vs H Q E →
      ∃ t, PSs (cxOf CX0 P w K mg base N x (defScope st) f cdv A outer s H E).nox (defBody st) t ∧ t { nx := fun _ H' => Q .non H', rt := Q } (start N vs) H) : Cal P w K mg base (k + 1) x ps sp := by
  obtain ⟨f, fd, F, b, m⟩ := D.ex
  exact ⟨f, fd, m, F.kp, b, F.ok S len (hbody f)⟩
end L2
namespace Np
open L2 PySem
def pickV (hs : List Int) : V → V
  | .int n => .int (hs.getD (n % (hs.length : Int)).toNat 0)
  | v => v
theorem pick_map (hs ms : List Int) : (ms.map V.int).map (pickV hs) = (ms.map fun n => hs.getD (n % (hs.length : Int)).toNat 0).map V.int := by
  rw [List.map_map, List.map_map]; rfl
end Np

set_option Elab.async false
set_option linter.all false
set_option maxRecDepth 100000
set_option maxHeartbeats 4000000
namespace L2
open PySem
/-! ### an exception of the text's own classes, as it lies in the heap -/
def excO (cls t tb : Value) : Obj := { cls := cls, data := .fields #[t, tb, .none, .none, .bool false, .none] }
structure Fly (h : Heap) (e : Addr) (cls : Value) (T : Addr) : Prop where
  ob : ∃ t, h.get? e = some (excO cls t (.ref T))
  ne : T ≠ e
  tb : ∃ oT ts, h.get? T = some oT ∧ oT.data = .fields ts ∧ ts[3]? = some Value.none
/-- what a note in an exception's trace changes: the records at as, the slots of the frames at fs -/
structure Trod (as fs : List Addr) (h h' : Heap) : Prop where
  keep : ∀ b o, b ∉ as → b ∉ fs → h.get? b = some o → h'.get? b = some o
  slot : ∀ b o, b ∉ as → h.get? b = some o → ∃ sl, h'.get? b = some { o with slots := sl }
  there : ∀ b o, h.get? b = some o → ∃ o', h'.get? b = some o'
  size : h.objs.size ≤ h'.objs.size
theorem Trod.trans {as fs : List Addr} {h h1 h2 : Heap} (x : Trod as fs h h1) (y : Trod as fs h1 h2) : Trod as fs h h2 where
  keep := fun b o ha hf e => y.keep b o ha hf (x.keep b o ha hf e)
  slot := fun b o ha e => by
    obtain ⟨s1, e1⟩ := x.slot b o ha e
    obtain ⟨s2, e2⟩ := y.slot b _ ha e1
    exact ⟨s2, e2⟩
  there := fun b o e => let ⟨o1, e1⟩ := x.there b o e; y.there b o1 e1
  size := Nat.le_trans x.size y.size
theorem Trod.mono {as as' fs fs' : List Addr} {h h' : Heap} (x : Trod as fs h h') (ha : ∀ b ∈ as, b ∈ as') (hf : ∀ b ∈ fs, b ∈ fs') : Trod as' fs' h h' :=
  ⟨fun b o na nf e => x.keep b o (fun z => na (ha b z)) (fun z => nf (hf b z)) e, fun b o na e => x.slot b o (fun z => na (ha b z)) e, x.there, x.size⟩
theorem Trod.put {h : Heap} {a : Addr} {o : Obj} {vs : Array Value} {fs : List Addr} (e : h.get? a = some o) (d : o.data = .fields vs) (f : Array Value → Array Value) : Trod [a] fs h (h.update a (Obj.mapFields f)) where
  keep := fun b u na _ q => (Heap.get?_update_other _ _ (fun z => na (by simp [z]))).trans q
  slot := fun b u na q => ⟨u.slots, (Heap.get?_update_other _ _ (fun z => na (by simp [z]))).trans q⟩
  there := fun b u q => by
    by_cases hb : b = a
    · subst hb
      exact ⟨_, Heap.get?_update_self _ e (Obj.isFreed_of_fields (Obj.data_mapFields d f))⟩
    · exact ⟨u, (Heap.get?_update_other _ _ (Ne.symm hb)).trans q⟩
  size := Nat.le_of_eq (Heap.size_after_update ..).symm

section
variable {M : Model} {A : Around} {E : Value → Shared → Prop} {s : Shared} {e : Addr} {cls t tb0 : Value} {Q : Unit → Shared → Prop}
theorem flight_off {T : Addr} {h : Heap} {oT : Obj} {ts : Array Value} (e1 : h.get? e = some (excO cls t (.ref T))) (e2 : h.get? T = some oT) (d : oT.data = .fields ts) (hz : 3 < ts.size) (ne : T ≠ e)
    (q : ∀ h', Trod [T] [] h h' → Fly h' e cls T → Q () { s with heap := h' }) : wpAny M A (setFlight (.ref e) none) Q E { s with heap := h } := by
  unfold setFlight
  refine wpAny_bind (wpAny_field e1 rfl (x := .ref T) rfl ?_)
  rw [if_pos (by simp)]
  refine wpAny_setField e2 d hz (q _ (Trod.put e2 d _) ⟨⟨t, (Heap.get?_update_other _ _ ne).trans e1⟩, ne, _, _, Heap.get?_update_self _ e2 (Obj.isFreed_of_fields (Obj.data_mapFields d _)), Obj.data_mapFields d _, ?_⟩)
  rw [Array.getElem?_setIfInBounds_self_of_lt hz]
  rfl
theorem tail_x {g : Heap} {ob : Obj} {ts : Array Value} (he : g.get? e = some (excO cls t tb0)) (d : ob.data = .fields ts) (hz : 3 < ts.size)
    (q : ∀ h', Trod [e] [] g h' → Fly h' e cls g.objs.size → Q () { s with heap := h' }) :
    wpAny M A (setField (.ref e) 1 (.ref g.objs.size)) (fun _ s' => wpAny M A (setFlight (.ref e) none) Q E s') E { s with heap := g.push ob } := by
  have hne : g.objs.size ≠ e := Nat.ne_of_gt (Heap.lt_size he)
  have h2 : (g.push ob).get? e = some (excO cls t tb0) := Heap.get?_push_of_some ob he
  refine wpAny_setField h2 rfl (by simp) ?_
  have h3 : ((g.push ob).update e (Obj.mapFields (·.setIfInBounds 1 (Value.ref g.objs.size)))).get? e = some (excO cls t (.ref g.objs.size)) :=
    (Heap.get?_update_self _ h2 rfl).trans rfl
  have hT : ((g.push ob).update e (Obj.mapFields (·.setIfInBounds 1 (Value.ref g.objs.size)))).get? g.objs.size = some ob :=
    (Heap.get?_update_other _ _ (Ne.symm hne)).trans (Heap.get?_push_size g (Obj.isFreed_of_fields d))
  refine flight_off (s := s) h3 hT d hz hne fun h' tr fl => q h' ⟨fun b o na nf q => ?_, fun b o na q => ?_, fun b o q => ?_, ?_⟩ fl
  all_goals have old : ∀ b o, b ≠ e → g.get? b = some o → ((g.push ob).update e (Obj.mapFields (·.setIfInBounds 1 (Value.ref g.objs.size)))).get? b = some o := fun b o nb q => (Heap.get?_update_other _ _ (Ne.symm nb)).trans (Heap.get?_push_of_some ob q)
  · exact tr.keep b o (by simpa using Nat.ne_of_lt (Heap.lt_size q)) (by simp) (old b o (by simpa using na) q)
  · exact tr.slot b o (by simpa using Nat.ne_of_lt (Heap.lt_size q)) (old b o (by simpa using na) q)
  · by_cases hb : b = e
    · subst hb; exact tr.there _ _ h3
    · exact tr.there _ _ (old b o hb q)
  · have := tr.size
    rw [Heap.size_after_update, Heap.size_push] at this
    omega
theorem entry_x {base : Heap} {env : Env} {outer : List Env} {L : Addr} {head : Value} {had : Bool} (hfr : A.frames = some (env :: outer)) (hl : s.heap.FunFrames base (env :: outer)) (hf : env.frame = some L)
    (he : s.heap.get? e = some (excO cls t tb0)) (q : ∀ h' T, Trod [e] ((env :: outer).filterMap (·.frame)) s.heap h' → s.heap.objs.size ≤ T → Fly h' e cls T → Q () { s with heap := h' }) :
    wpAny M A (do let fo ← frameOf env; let pl ← entryPlaceOf L had; let x ← EntryCells.newEntry head fo .none (rawInt L) .none pl; setField (.ref e) 1 x) (fun _ s' => wpAny M A (setFlight (.ref e) none) Q E s') E s := by
  have ne : e ∉ (env :: outer).filterMap (·.frame) := fun hm => by
    obtain ⟨_, o, ho, nf⟩ := hl.mem hm
    rw [he] at ho
    cases ho
    exact nf _ rfl
  refine wpAny_bind (wpAny_frameOf_fun hfr hl hf fun g sg => wpAny_bind (wpAny_entryPlaceOf fun pl hp => ?_))
  unfold EntryCells.newEntry newFields
  refine wpAny_bind (wpAny_newObj_type ?_ (hp.sizeOk5 _ _ _ _ _))
  refine tail_x (s := s) ((sg.2.1 e ne).trans he) rfl (by simp only [List.size_toArray, List.length_append, List.length_cons, List.length_nil] <;> omega) fun h' tr fl => ?_
  refine q h' _ ⟨fun b o na nf eb => tr.keep b o na (by simp) ((sg.2.1 b nf).trans eb), fun b o na eb => ?_, fun b o eb => ?_, ?_⟩ (Nat.le_of_eq sg.1.symm) fl
  · obtain ⟨sl, e1⟩ := sg.2.2 b o eb
    obtain ⟨sl', e2⟩ := tr.slot b _ na e1
    exact ⟨sl', e2⟩
  · obtain ⟨sl, e1⟩ := sg.2.2 b o eb
    exact tr.there b _ e1
  · exact Nat.le_trans (Nat.le_of_eq sg.1.symm) tr.size
/-- the first frame that an exception leaves (or is looked at in) -/
theorem note_first {base : Heap} {env : Env} {outer : List Env} {L : Addr} (hfr : A.frames = some (env :: outer)) (hl : s.heap.FunFrames base (env :: outer)) (hf : env.frame = some L)
    (he : s.heap.get? e = some (excO cls t .none)) (q : ∀ h' T, Trod [e] ((env :: outer).filterMap (·.frame)) s.heap h' → s.heap.objs.size ≤ T → Fly h' e cls T → Q () { s with heap := h' }) :
    wpAny M A (noteFrame (.ref e) env) (fun _ s' => wpAny M A (setFlight (.ref e) none) Q E s') E s := by
  unfold noteFrame
  simp only [hf]
  refine wpAny_bind (wpAny_field he rfl (x := .none) rfl ?_)
  rw [if_neg (by decide)]
  exact entry_x hfr hl hf he q
theorem note_next {base : Heap} {env : Env} {outer : List Env} {L T0 : Addr} (hfr : A.frames = some (env :: outer)) (hl : s.heap.FunFrames base (env :: outer)) (hf : env.frame = some L)
    (fl : Fly s.heap e cls T0) (q : ∀ h' T, Trod [e, T0] ((env :: outer).filterMap (·.frame)) s.heap h' → s.heap.objs.size ≤ T → Fly h' e cls T → Q () { s with heap := h' }) :
    wpAny M A (noteFrame (.ref e) env) (fun _ s' => wpAny M A (setFlight (.ref e) none) Q E s') E s := by
  obtain ⟨⟨t, he⟩, ne, oT, ts, eT, dT, h3⟩ := fl
  unfold noteFrame
  simp only [hf]
  refine wpAny_bind (wpAny_field he rfl (x := .ref T0) rfl ?_)
  rw [if_pos (by simp)]
  refine wpAny_bind (wpAny_field eT dT h3 ?_)
  rw [if_neg (by simp [rawInt])]
  have hz := (Array.getElem?_eq_some_iff.mp h3).1
  refine wpAny_bind (wpAny_setField eT dT hz ?_)
  have tr := Trod.put (fs := (env :: outer).filterMap (·.frame)) eT dT (·.setIfInBounds 3 Value.none)
  have nT : ∀ b o, s.heap.get? b = some o → (∀ vs, o.data ≠ .fields vs) → b ∉ [T0] := fun b o eb nf hb => by
    have hb : b = T0 := by simpa using hb
    subst hb
    rw [eT] at eb
    cases eb
    exact nf _ dT
  refine entry_x (base := base) hfr (hl.of_keeps fun b o eb nf => ?_) hf (cls := cls) (t := t) (tb0 := .ref T0) ((Heap.get?_update_other _ _ ne).trans he) fun h' T tr2 sz f2 => ?_
  · obtain ⟨sl, e1⟩ := tr.slot b o (nT b o eb nf) eb
    exact ⟨_, e1, rfl⟩
  · refine q h' T ((tr.mono (by simp) (fun _ z => z)).trans (tr2.mono (by simp) (fun _ z => z))) ?_ f2
    rw [Heap.size_after_update] at sz
    exact sz
theorem leave_first {base : Heap} {env : Env} {outer : List Env} {L : Addr} (hfr : A.frames = some (env :: outer)) (hl : s.heap.FunFrames base (env :: outer)) (hf : env.frame = some L)
    (he : s.heap.get? e = some (excO cls t .none)) (q : ∀ h' T, Trod [e] ((env :: outer).filterMap (·.frame)) s.heap h' → s.heap.objs.size ≤ T → Fly h' e cls T → Q () { s with heap := h' }) :
    wpAny M A (leaving env (.ref e)) Q E s := wpAny_bind (note_first hfr hl hf he q)
end
/-- whether an own exception is of an own class -/
theorem matches_own {M : Model} {A : Around} {E : Value → Shared → Prop} {nm' q' : Str} {C D N' : Addr} {bs' bm' : List Value} {hdct' : Bool} {sn' : List Str} {sub' : List Value} {ab' : Bool} {col' : Option Bool} {dd' : Option Addr} {j0 j1 j2 j3 j5 : Option Value} {newId' : String}
    {h : Heap} {g : Array GenState} {d : Drawn} {t : Nat} {os : OsState} {e : Addr} {oe : Obj} {Q : Bool → Shared → Prop} {b : Bool}
    (hC : ∀ (Q : Bool → Shared → Prop), Q b ⟨h, g, d, t, os⟩ → wpAny M A (isSubtype (.ref C) (.ref D)) Q E ⟨h, g, d, t, os⟩) (hD : h.get? D = some (excClassObj nm' q' D N' bs' bm' hdct' sn' sub' ab' col' dd' j0 j1 j2 j3 j5 newId'))
    (he : h.get? e = some oe) (hcls : oe.cls = .ref C) (hbase : bm'.contains (.type "BaseException") = true) (hq : Q b ⟨h, g, d, t, os⟩) :
    wpAny M A (excMatches (.ref e) (.ref D)) Q E ⟨h, g, d, t, os⟩ := by
  have hcB : (Value.ref D :: bm').contains (.type "BaseException") = true := by rw [List.contains_cons, hbase, Bool.or_true]
  have f := tc_notTuple
  unfold excMatches
  repeat (first | (with_reducible refine wpAny_loadPart_at he ?_; rw [hcls]) | with_reducible refine wpAny_loadPart_at hD ?_ | (with_reducible refine wpAny_isSubtype_exc hD ?_; rw [hcB]) | with_reducible refine hC _ ?_ | wp_step)
  cases b <;> (wp_walk; exact hq)
end L2
namespace L2
open PySem
section
variable {prog : Program} {w : World} {A : Around} {E : Value → Shared → Prop} {s : Shared} {e : Addr} {cls t tb : Value}
end
end L2
namespace L2
open PySem PySem.Spec PyProof.Rows
/-! ### an exception that leaves a call -/
structure Ec where
  pileError : Addr
  noShares : Addr
  noPile : Addr
  noSign : Addr
  noSlot : Addr
  noMore : Addr
  noText : Addr
  notLeaf : Addr
abbrev bmV : List Value := [.type "ValueError", .type "Exception", .type "BaseException", .type "object"]
theorem exc_obj {K : PySem.W.Frag} {h : Heap} {C : Addr} {bmB : List Value} {nid : String} (X : K.In h) (q : PySem.W.excIn K C bmB nid = true) :
    ∃ bm N nm qn bs hdct sn sub ab col dd k0 k1 k2 k3 k5 mN, h.get? C = some (excClassObj nm qn C N bs bm hdct sn sub ab col dd k0 k1 k2 k3 k5 nid) ∧ h.Ns N mN ∧ mN "__init__" = none ∧ OwnTail h bmB bm := by
  unfold PySem.W.excIn at q
  split at q
  · rename_i dd cd sl lk
    split at q
    · rename_i C2 bm k0 k1 k2 k3 n k5 em es
      simp only [Bool.and_eq_true, beq_iff_eq, Bool.not_eq_true'] at q
      obtain ⟨⟨⟨⟨⟨e1, e2⟩, nd⟩, tl⟩, ok⟩, ni⟩ := q
      subst e1 e2
      obtain ⟨nm, bs, mro, ns, qn, hd, sn, sub, ab, col, del⟩ := cd
      dsimp only at em nd ok ni
      subst em nd
      obtain ⟨l⟩ := sl
      dsimp only at es
      subst es
      exact ⟨bm, ns, nm, qn, bs, hd, sn, sub, ab, col, dd, k0, k1, k2, k3, k5, _, X _ _ lk, .of_isNs (PySem.W.isNs_of_in X ok), PySem.W.nsMap_none_of_in X ok ni, PySem.W.tail_of_in X tl⟩
    · cases q
  · cases q
theorem ObjOk.is {P : Program} {w : World} {H : Hp} {h : Heap} {a : Addr} {o : HO} (x : ObjOk P w H h a o) : ∃ u, h.get? a = some u := by
  cases o with
  | lst xs => obtain ⟨_, _, _, _, e⟩ := x; exact ⟨_, e⟩
  | tup xs => obtain ⟨_, _, _, p⟩ := x; obtain ⟨o, e, _⟩ := p; exact ⟨o, e⟩
  | dK kvs => obtain ⟨_, _, _, _, o, _, _, e, _⟩ := x; exact ⟨_, e⟩
  | dT kvs => exact (show False from x).elim
  | set S n => obtain ⟨o, _, _, _, e, _⟩ := x; exact ⟨_, e⟩
  | ins C dx fs => obtain ⟨_, _, _, e, _⟩ := x; exact ⟨_, e⟩
  | own y => obtain ⟨o, e⟩ := x; exact ⟨o, e⟩
  | xd fs => obtain ⟨_, ⟨_, _, _, e, _⟩, _⟩ := x; exact ⟨_, e⟩
  | rng lo hi => obtain ⟨_, _, _, e⟩ := x; exact ⟨_, e⟩
  | frz ob u => obtain ⟨e, _⟩ := x; exact ⟨_, e⟩
  | tbl ps => exact ⟨_, show h.get? a = some _ from x⟩
  | met f y => exact ⟨_, show h.get? a = some _ from x⟩
  | ext φ => obtain ⟨_, ⟨o, e⟩, _⟩ := x; exact ⟨o, e⟩
theorem HOk.none_of {P : Program} {w : World} {H : Hp} {h : Heap} {a : Addr} (ok : HOk P w H h) (e : h.get? a = none) : H a = none := by
  cases q : H a with
  | none => rfl
  | some o =>
    obtain ⟨u, eu⟩ := (ok a o q).is
    rw [e] at eu
    cases eu
section
variable {X : Cx} {pins : List (Addr × Obj)} {σ : St} {H H' : Hp} {s s' : Shared} {E : XK} {h' : Heap} {b : Addr}
/-- a record of ours that may turn: untracked, not the frame, not there at the entry -/
def FpX (X : Cx) (pins : List (Addr × Obj)) (H : Hp) (b : Addr) : Prop :=
  H b = none ∧ b ≠ X.env.locals ∧ X.s₀.heap.get? b = none ∧ (∀ x c, X.env.cells.lookup x = some c → c ≠ b) ∧ ∀ p ∈ X.pn ++ pins, p.1 ≠ b
theorem Inv.fpX (I : Inv X pins σ H s) (hex : X.ex = []) (hb : s.heap.get? b = none) (hn : H' b = none) : FpX X pins H' b := by
  refine ⟨hn, fun z => ?_, ?_, fun x c e z => ?_, fun p hp z => ?_⟩
  · obtain ⟨m, ⟨o, _, _, ho, _⟩, _⟩ := I.loc
    rw [z, ho] at hb
    cases hb
  · cases q : X.s₀.heap.get? b with
    | none => rfl
    | some o =>
      obtain ⟨o', e⟩ := I.base.there b o q (by rw [hex]; simp)
      rw [hb] at e
      cases e
  · obtain ⟨v, o, ho, _⟩ := I.cell x c e
    rw [z, hb] at ho
    cases ho
  · have := (I.pin p hp).1
    rw [z, hb] at this
    cases this
theorem Inv.trod {as : List Addr} (I : Inv X pins σ H s) (tr : Trod as (frs X.stack) s.heap h') (ha : ∀ b ∈ as, FpX X pins H b) : Inv X pins σ H { s with heap := h' } := by
  have nst : ∀ b, b ≠ X.env.locals → b ∉ X.fs → b ∉ frs X.stack := fun b n1 n2 z => (List.mem_cons.mp (I.stkSub b z)).elim n1 n2
  have neL : ∀ b o, X.s₀.heap.get? b = some o → b ≠ X.env.locals := fun b o e => Nat.ne_of_lt (Nat.lt_of_lt_of_le (Heap.lt_size e) I.ok.above)
  have nas : ∀ b o, X.s₀.heap.get? b = some o → b ∉ as := fun b o e z => by
    have := (ha b z).2.2.1
    rw [e] at this
    cases this
  have cellK : ∀ x c, X.env.cells.lookup x = some c → ∀ v, s.heap.IsCell c v → h'.IsCell c v := fun x c e v ⟨o, ho, hd⟩ => by
    obtain ⟨sl, q⟩ := tr.slot c o (fun z => (ha c z).2.2.2.1 x c e rfl) ho
    exact ⟨_, q, hd⟩
  have trkd : ∀ c u, H c = some u → c ∉ as ∧ c ∉ frs X.stack := fun c u e => ⟨(fun z => by rw [(ha c z).1] at e; cases e), (fun z => by rw [I.stkFree c z] at e; cases e)⟩
  refine ⟨I.ok, I.os, I.bare, ⟨fun b o e n hb hx => ?_, fun b o e n hb hx => ?_, fun b o e n hx => I.base.free b o e n hx, fun b o e hx => ?_, I.base.tups, I.base.frzs, I.base.tbls⟩, ?_, fun x c e => ?_, I.free, I.freeC, fun p hp => ?_, fun b u e => ?_, I.len⟩
  · exact tr.keep b o (nas b o e) (nst b (neL b o e) hb) (I.base.keep b o e n hb hx)
  · obtain ⟨sl, e1⟩ := I.base.slot b o e n hb hx
    obtain ⟨sl', e2⟩ := tr.slot b _ (nas b o e) e1
    exact ⟨sl', e2⟩
  · obtain ⟨o', e1⟩ := I.base.there b o e hx
    exact tr.there b o' e1
  · obtain ⟨m, hn, hl⟩ := I.loc
    have hn' : h'.Ns X.env.locals m := by
      obtain ⟨o, es, ep, ho, r⟩ := hn
      obtain ⟨sl, e⟩ := tr.slot _ o (fun z => (ha _ z).2.1 rfl) ho
      exact ⟨_, es, ep, e, r⟩
    refine ⟨m, hn', fun i x v e1 e2 e3 => ?_⟩
    obtain ⟨u, r, l⟩ := hl i x v e1 e2 e3
    refine ⟨u, r, ?_⟩
    rcases l with l | ⟨k, c, e, z⟩
    · exact .inl l
    · exact .inr ⟨k, c, e, cellK x c e _ z⟩
  · obtain ⟨v, z⟩ := I.cell x c e
    exact ⟨v, cellK x c e v z⟩
  · obtain ⟨e, n, ne, nf, d⟩ := I.pin p hp
    exact ⟨tr.keep p.1 p.2 (fun z => (ha _ z).2.2.2.2 p hp rfl) (nst _ ne nf) e, n, ne, nf, d⟩
  · refine (I.hok b u e).stay (fun c v hc q => ?_) (fun _ q => q) fun _ _ q => q
    have t : ∃ u, H c = some u := by
      rcases hc with z | z
      · exact ⟨u, by rw [z]; exact e⟩
      · exact ⟨_, z⟩
    obtain ⟨u', e'⟩ := t
    exact tr.keep c v (trkd c u' e').1 (trkd c u' e').2 q
/-- how an exception lies behind a call -/
def CXE (P : Program) (w : World) : CXT := fun outer H s E x s' => ∃ e C T H', x = .ref e ∧ s'.os = s.os ∧ AllBare s'.gens ∧ Un (frs outer) [] H H' s.heap s'.heap ∧ HOk P w H' s'.heap ∧ Fly s'.heap e (.ref C) T ∧
  (H' e = none ∧ H' T = none) ∧ (s.heap.get? e = none ∧ s.heap.get? T = none) ∧ E (.ref C) none H'
/-- .. and behind an expression, in this frame -/
def XP (X : Cx) (pins : List (Addr × Obj)) (σ : St) (E : XK) (x : Value) (s' : Shared) : Prop := ∃ e C T H', x = .ref e ∧ Inv X pins σ H' s' ∧ Fly s'.heap e (.ref C) T ∧ FpX X pins H' e ∧ FpX X pins H' T ∧ E (.ref C) none H'
theorem Inv.xp {x : Value} (I : Inv X pins σ H s) (hex : X.ex = []) (h : CXE X.prog X.w X.stack H s E x s') : XP X pins σ E x s' := by
  obtain ⟨e, C, T, H', rfl, os, bare, un, hok, fl, ⟨n1, n2⟩, ⟨m1, m2⟩, q⟩ := h
  exact ⟨e, C, T, H', rfl, I.call' os un hok bare (fun b z => absurd z (by simp)), fl, I.fpX hex m1 n1, I.fpX hex m2 n2, q⟩
end
section
variable {P : Program} {w : World} {K : PySem.W.Frag} {mg : Str → Option Value} {base : Heap} {N : List Str} {qual : Str} {scope : Scope} {f : Addr} {cd : Value} {A : Around} {outer : List Env} {s : Shared} {H : Hp} {E : XK}
/-- what a raise is to reach -/
def RaisesTo (X : Cx) (E : XK) : Prop := ∀ (pins : List (Addr × Obj)) (σ : St) (H : Hp) (s : Shared) (e C : Addr) (t : Value), Inv X pins σ H s → s.heap.get? e = some (excO (.ref C) t .none) → FpX X pins H e → E (.ref C) none H → X.xe (.ref e) s
theorem raise_x : RaisesTo (cxOf (CXE P w) P w K mg base N qual scope f cd A outer s H E) E := by
  intro pins σ H1 s1 e C t I he fe q
  refine leave_first (base := base) I.ok.frames I.stack rfl he fun h' T' tr sz fl' => ?_
  have I2 := I.trod tr (fun b hb => by
    have : b = e := by simpa using hb
    rw [this]; exact fe)
  exact ⟨e, C, T', H1, rfl, I2.os, I2.bare, I2.base, I2.hok, fl', ⟨fe.1, I.hok.fresh sz⟩, ⟨fe.2.2.1, Heap.get?_none_of_le (Nat.le_trans I.sz sz)⟩, q⟩
end
/-! ### raise -/
def tRaise (C : Addr) (E : XK) (t : TA) : TS := fun _ σ H => t σ H fun vs H1 => vs.length ≤ sizeLine ∧ E (.ref C) none H1
theorem ps_raise {X : Cx} {E : XK} {x : Str} {C : Addr} {e₀ : Expr} {es : List Expr} {t : TA} {np cpos pos : Pos} (hr : RaisesTo X E) (hc : X.calm = true) (hex : X.ex = []) (hg : Gl X x) (hm : X.mg x = some (.ref C)) (ho : PySem.W.excIn X.K C bmV "ValueError.__new__" = true) (ha : PA X (e₀ :: es) t)
    (hdb : (x == ("__debug__" : Str)) = false := by decide) (he : starEach (e₀ :: es) X.env = (false, eval e₀ X.env) :: starEach es X.env := by rfl) (hpl : (backTo cpos (starEach es X.env)).any (·.1) = false := by rfl) :
    PS X (.Raise (some (.Call (.Name x np) (e₀ :: es) [] cpos)) none pos) (tRaise C E t) := by
  intro pins s σ H D I h
  obtain ⟨bm, N, nm, qn, bs, hdct, sn, sub, ab, col, dd, k0, k1, k2, k3, k5, mN, hC, hN, hni, T⟩ := exc_obj I.ok.mod.kin ho
  refine wpAny_Raise_call_subU (C := C) (nm := nm) (q := qn) (N := N) (bs := bs) (bm := bm) (hdct := hdct) (sn := sn) (sub := sub) (ab := ab) (col := col) (dd := dd) (k0 := k0) (k1 := k1) (k2 := k2) (k3 := k3) (k5 := k5)
    PySem.F.excBase_ValueError (by decide) PySem.F.excBase_ValueError (mN := mN) (T.hasType (by decide)) (I.ok.hd hc) (by rw [he]; show (false || (backTo cpos (starEach es X.env)).any (·.1)) = false; rw [hpl]; rfl) hni (ld_glob I hg hm ⟨rfl, ?_⟩ hdb)
  have hz := ha cpos pins s σ H _ I h
  rw [he] at hz ⊢
  refine Calls.evalArgs_plain (thn hz fun us s2 ⟨vs, H1, I1, r, z, q⟩ => ⟨rfl, by rw [← r.length]; exact z, I1.bk _ _ hC, hN.keeps I1.bk, T.keeps I1.bk, fun h' e hm => ?_⟩)
  obtain ⟨tt, a, _, _⟩ := hm.there
  exact hr pins σ H1 _ e C (.ref tt) (I1.kept (t' := s2.toks) hm.keeps) a (I1.fpX hex hm.new (I1.hok.none_of hm.new)) q
end L2
namespace L2
open PySem PySem.Spec PyProof.Rows
/-! ### a def that may raise -/
section
variable {P : Program} {w : World} {K : PySem.W.Frag} {mg : Str → Option Value} {base : Heap} {k j : Nat} {f C : Addr} {fd : FuncData} {ps N : List Str} {sp : Sp} {x m qual : Str} {st : Stmt}
theorem FnOk.cal (F : FnOk P w K mg base (CXE P w) k f fd ps sp) : FnOk P w K mg base CX0 k f fd ps (fun vs H Q _ => sp vs H Q E0) :=
  ⟨fun vs H Q _ h => F.len vs H Q E0 h, fun A outer s H args us vs Q _ hr e0 hb r h => codeAny_mono (F.run A outer s H args us vs Q E0 hr e0 hb r h) fun q s' hq => by
    cases q with
    | error e =>
      obtain ⟨_, _, _, _, _, _, _, _, _, _, _, _, z⟩ := hq
      exact z.elim
    | ok fl => cases fl <;> exact hq⟩
structure CalMX (P : Program) (w : World) (K : PySem.W.Frag) (mg : Str → Option Value) (base : Heap) (k : Nat) (C : Addr) (m : Str) (ps : List Str) (sp : Sp) : Prop where
  ex : ∃ f fd, Meth K C m f ∧ Binds K fd ps [] ∧ FnOk P w K mg base (CXE P w) k f fd ps sp
theorem CalMX.mono (F : CalMX P w K mg base j C m ps sp) (h : j ≤ k) : CalMX P w K mg base k C m ps sp := let ⟨f, fd, a, b, c⟩ := F.ex; ⟨f, fd, a, b, c.mono h⟩
theorem CalMX.cal (F : CalMX P w K mg base k C m ps sp) : CalM P w K mg base k C m ps (fun vs H Q _ => sp vs H Q E0) := let ⟨f, fd, a, b, c⟩ := F.ex; ⟨f, fd, a, b, c.cal⟩
theorem DefM.okX (D : DefM K C m qual st ps) (S : FnScope N ps (defScope st)) (len : ∀ vs H Q E, sp vs H Q E → vs.length = ps.length)
    (hbody : ∀ (f : Addr) (cdv : Value) (A : Around) (outer : List Env) (s : Shared) (H : Hp) (vs : List V) (Q : VK) (E : XK), Room k (A.deeper (envOfC qual (defScope st) s.heap.objs.size f cdv)) → sp vs H Q E →
      ∃ t, PSs (cxOf (CXE P w) P w K mg base N qual (defScope st) f cdv A outer s H E) (defBody st) t ∧ t { nx := fun _ H' => Q .non H', rt := Q } (start N vs) H) : CalMX P w K mg base (k + 1) C m ps sp := by
  obtain ⟨f, fd, F, b, m⟩ := D.ex
  obtain ⟨oc, od, kV, doc, pm, an, cdv, ct, osl, rfl, lk, hcd⟩ := F.ex
  exact ⟨f, _, m, b, fn_of lk hcd S len fun A outer s H vs Q E hr hsp => hbody f cdv A outer s H vs Q E hr hsp⟩
end
/-! ### an expression that may raise -/
abbrev TX := St → Hp → VK → XK → Prop
def PX (X : Cx) (e : Expr) (t : TX) : Prop :=
  ∀ (pins : List (Addr × Obj)) (s : Shared) (σ : St) (H : Hp) (Q : VK) (E : XK), Inv X pins σ H s → t σ H Q E → wpAny (model X.prog X.w) X.A (eval e X.env) (EP X pins σ Q) (XP X pins σ E) s
section
variable {X : Cx} {k : Nat} {f C : Addr} {fd : FuncData} {ps : List Str} {sp : Sp} {E : XK} {x m : Str} {p pos apos : Pos} {e o : Expr} {es : List Expr} {ta te : TE} {t : TA} {tx : TX}
theorem run_fnX {pins : List (Addr × Obj)} {σ : St} {H : Hp} {s : Shared} {Q : VK} {us : List Value} {vs : List V} (F : FnOk X.prog X.w X.K X.mg X.base (CXE X.prog X.w) k f fd ps sp) (hr : Room k X.A) (hb : Binds X.K fd ps []) (hex : X.ex = [])
    (I : Inv X pins σ H s) (r : Vals vs us) (h : sp vs H Q E) : wpAny (model X.prog X.w) X.A (call (.ref f) us) (EP X pins σ Q) (XP X pins σ E) s := by
  have hl : (us ++ []).length = ps.length := by rw [List.append_nil, ← r.length]; exact F.len _ _ _ _ h
  have hb' := hb s us I.kIn hl
  rw [List.append_nil] at hb'
  refine wpAny_call (codeAny_mono (F.run X.A X.stack s H ⟨us, []⟩ us vs Q E hr I.env0 hb' r h) fun r s' hq => ?_)
  cases r with
  | error e => exact I.xp hex hq
  | ok fl =>
    cases fl with
    | ret u => exact I.after hq
    | next => exact False.elim hq
    | brk => exact False.elim hq
    | cont => exact False.elim hq
theorem px_methD {pl : Sem Bool} {Cs : Addr → Prop} {spm : Addr → Sp} (he : PE X.nox o ta) (hC : ∀ C, Cs C → Cls X.K C ∧ CalMX X.prog X.w X.K X.mg X.base k C m ps (spm C)) (hr : Room k X.A) (hex : X.ex = []) (ha : PA X.nox (e :: es) t)
    (hst : starEach (e :: es) X.env = (false, eval e X.env) :: starEach es X.env := by rfl) (hpl : (backTo pos (starEach es X.env)).any (·.1) = false := by rfl)
    (ht : eval (.Call (.Attribute o m apos) (e :: es) [] pos) X.env = (do
      let ov ← eval o X.env
      standAt apos.atName
      let (f, first) ← holding [ov] (getMethod ov m pl)
      callWith pos f first (backTo pos (starEach (e :: es) X.env)) (backToKw pos (keywordEach [] X.env))) := by rfl) :
    PX X (.Call (.Attribute o m apos) (e :: es) [] pos) (fun σ H Q E => ta σ H fun x H1 => ∃ a C dx fs, x = .ref a ∧ H1 a = some (.ins C dx fs) ∧ Cs C ∧ fs.lookup m = none ∧ t σ H1 fun vs H2 => spm C (x :: vs) H2 Q E) := by
  intro pins s σ H Q E I h
  refine PySem.W.methodCall_KW (pl := pl) (wpAny_mono (he pins s σ H _ (I.wish _) h) (fun u s1 ⟨x, H1, I1, rx, a, C, dx, fs, ex, ea, hc, l, q⟩ => ?_) fun _ _ z => z.elim) ht
  subst ex
  obtain rfl : u = Value.ref a := rx
  obtain ⟨c, f, fd, hm, hb, F⟩ := hC C hc
  refine getmeth_ok I1.unwish ea c hm l ?_
  refine PySem.W.callWith_K (first := [.ref a]) (h₀ := X.base) I.ok.mod.kin hm.kp (wpAny_mono (ha pos pins s1 σ H1 _ I1 q) (fun us s2 ⟨vs, H2, I2, r, q2⟩ => ⟨I2.unwish.kIn, ?_⟩) fun _ _ z => z.elim) hst hpl
  exact run_fnX (us := .ref a :: us) (vs := .ref a :: vs) F hr hb hex I2.unwish (.cons rfl r) q2
/-! ### a statement that may raise, its names as they stood ahead -/
abbrev TSX := Ends → XK → St → Hp → Prop
def PSx (X : Cx) (st : Stmt) (t : TSX) : Prop :=
  ∀ (pins : List (Addr × Obj)) (s : Shared) (σ : St) (H : Hp) (D : Ends) (E : XK), Inv X pins σ H s → t D E σ H → wpAny (model X.prog X.w) X.A (exec st X.env) (SP X pins D) (XP X pins σ E) s
theorem psx_expr (he : PX X e tx) (hs : swapsWith e none pos.line X.env = pure false := by rfl) : PSx X (.Expr e pos) (fun D E σ H => tx σ H (fun _ H1 => D.nx σ H1) E) := by
  intro pins s σ H D E I h
  exact wpAny_Expr_any (thn (he pins s σ H _ E I h) fun v s1 ⟨x, H1, I1, r1, q1⟩ => ⟨σ, H1, I1, q1⟩) I.quiet hs
end
/-! ### within an except suite -/
def Cx.inX (X : Cx) (e : Addr) (o : Obj) : Cx := { X with A := X.A.mark (some (.ref e)), calm := false, pn := X.pn ++ [(e, o)], xe := fun _ _ => False }
/-- what is being handled (if anything) has no context of its own and stays as it is -/
def HdX (X : Cx) : Prop := X.A.handled = none ∨ ∃ e cls t tb, X.A.handled = some (.ref e) ∧ (e, excO cls t tb) ∈ X.pn
section
variable {X : Cx} {pins : List (Addr × Obj)} {σ : St} {H : Hp} {s : Shared} {e : Addr} {o : Obj}
theorem inX_hd {cls t tb : Value} : HdX (X.inX e (excO cls t tb)) := .inr ⟨e, cls, t, tb, rfl, by simp [Cx.inX]⟩
theorem Inv.inX (I : Inv X pins σ H s) (he : s.heap.get? e = some o) (hd : ∃ vs, o.data = .fields vs) (hn : H e = none) : Inv (X.inX e o) pins σ H s := by
  obtain ⟨vs, hd⟩ := hd
  have ok := I.ok
  refine ⟨⟨ok.mod, ok.kind, ok.glob, ok.blt, ok.above, ok.inj, ok.has, ok.cab, (fun z => nomatch z), ok.frames, ok.stk, ok.exf, ok.bs, ok.bsz, ok.noex, ok.exfs, ok.funs, ok.frf⟩, I.os, I.bare, I.base, I.loc, I.cell, I.free, I.freeC, fun p hp => ?_, I.hok, I.len⟩
  rcases List.mem_append.mp hp with z | z
  · rcases List.mem_append.mp z with z | z
    · exact I.pin p (List.mem_append_left _ z)
    · have z : p = (e, o) := by simpa using z
      subst z
      refine ⟨he, hn, fun z => ?_, fun z => ?_, fun v z => ?_⟩
      · obtain ⟨m, ⟨o', es, ep, ho, hd', _⟩, _⟩ := I.loc
        rw [← show e = X.env.locals from z, he] at ho
        cases ho
        rw [hd] at hd'
        cases hd'
      · obtain ⟨_, o', ho, nf⟩ := I.funs.mem z
        rw [he] at ho
        cases ho
        exact nf _ hd
      · rw [hd] at z
        cases z
  · exact I.pin p (List.mem_append_right _ z)
theorem Inv.ofX (I : Inv (X.inX e o) pins σ H s) (hd : X.calm = true → X.A.handled = none) : Inv X pins σ H s := by
  have ok := I.ok
  exact ⟨⟨ok.mod, ok.kind, ok.glob, ok.blt, ok.above, ok.inj, ok.has, ok.cab, hd, ok.frames, ok.stk, ok.exf, ok.bs, ok.bsz, ok.noex, ok.exfs, ok.funs, ok.frf⟩, I.os, I.bare, I.base, I.loc, I.cell, I.free, I.freeC, fun p hp => I.pin p (by
    rcases List.mem_append.mp hp with z | z
    · exact List.mem_append_left _ (List.mem_append_left _ z)
    · exact List.mem_append_right _ z), I.hok, I.len⟩
theorem SP.ofX {D : Ends} {f : Flow} {s' : Shared} (hd : X.calm = true → X.A.handled = none) (h : SP (X.inX e o) pins D f s') : SP X pins D f s' := by
  cases f with
  | next => obtain ⟨σ', H', I, q⟩ := h; exact ⟨σ', H', I.ofX hd, q⟩
  | brk => obtain ⟨σ', H', I, q⟩ := h; exact ⟨σ', H', I.ofX hd, q⟩
  | cont => obtain ⟨σ', H', I, q⟩ := h; exact ⟨σ', H', I.ofX hd, q⟩
  | ret u => obtain ⟨v, σ', H', I, r, q⟩ := h; exact ⟨v, σ', H', I.ofX hd, r, q⟩
end
/-! ### try: one statement; except: one own class -/
def tTry (K : PySem.W.Frag) (D : Addr) (tb : TSX) (ts : TS) : TS := fun De σ H => tb De (fun cls _ H' => ∃ C, cls = .ref C ∧ PySem.W.mroIn K C (.ref D) = some true ∧ ts De σ H') σ H
theorem ps_try {X : Cx} {st b₀ : Stmt} {suite : List Stmt} {x : Str} {np hpos pos : Pos} {tb : TSX} {ts : TS} {D : Addr} (hst : X.stack = X.env :: X.outer ∧ X.env.frame = some X.env.locals) (hex : X.ex = []) (hb : PSx X st tb) (hg : Gl X x) (hm : X.mg x = some (.ref D)) (hD : PySem.W.excIn X.K D bmV "ValueError.__new__" = true)
    (hs : ∀ (e : Addr) (cls t tb : Value), HdX (X.inX e (excO cls t tb)) → PSs (X.inX e (excO cls t tb)) (b₀ :: suite) ts) (hdb : (x == ("__debug__" : Str)) = false := by decide) :
    PS X (.Try [st] [.ExceptHandler (some (.Name x np)) none (b₀ :: suite) hpos] [] [] pos) (tTry X.K D tb ts) := by
  intro pins s σ H De I h
  refine wpAny_Try_except (wpAny_execs_cons (wpAny_mono (hb pins s σ H De _ I h) (fun f s1 q => ?_) fun x s1 q => ?_))
  · cases f with
    | next => exact wpAny_execs_nil (wpAny_execs_nil q)
    | ret v => exact q
    | brk => exact q
    | cont => exact q
  · obtain ⟨e, C, T, H1, rfl, I1, fl, fe, fT, C', ec, sub, q⟩ := q
    cases ec
    have ae : ∀ b ∈ [e, T], FpX X pins H1 b := fun b hb => by
      rcases List.mem_cons.mp hb with z | z
      · rw [z]; exact fe
      · have : b = T := by simpa using z
        rw [this]; exact fT
    refine note_next (base := X.base) (env := X.env) (outer := X.outer) (by rw [← hst.1]; exact I1.ok.frames) (by rw [← hst.1]; exact I1.stack) hst.2 fl fun h2 T2 tr sz fl2 => ?_
    have I2 : Inv X pins σ H1 { s1 with heap := h2 } := I1.trod (by rw [hst.1]; exact tr) ae
    have fT2 : FpX X pins H1 T2 := I1.fpX hex (Heap.get?_none_of_le sz) (I1.hok.fresh sz)
    obtain ⟨bm, N, nm, qn, bs, hdct, sn, sub', ab, col, dd, k0, k1, k2, k3, k5, mN, hC, hN, hni, TL⟩ := exc_obj I.ok.mod.kin hD
    obtain ⟨⟨t2, he2⟩, ne2, oT, tts, eT, dT, h3⟩ := id fl2
    have I3 := I2.inX he2 ⟨_, rfl⟩ fe.1
    refine wpAny_handleBy_cons (codeAny_handlers_test (ld_glob (X := X.inX e (excO (.ref C) t2 (.ref T2))) I3 hg hm ?_ hdb)) (by intro q; cases q)
    refine matches_own (b := true) (C := C) (fun Q hq => PySem.W.looks_mroIn I2.kIn sub _ _ _ _ (fun _ _ q => q) hq) (I2.bk _ _ hC) he2 rfl (TL.hasType (by decide)) (codeAny_handlers_suite ?_)
    refine flight_off (s := s1) he2 eT dT (Array.getElem?_eq_some_iff.mp h3).1 ne2 fun h4 tr4 fl4 => ?_
    have I4 : Inv X pins σ H1 { s1 with heap := h4 } := I2.trod (tr4.mono (fun _ z => z) (fun _ z => absurd z (by simp))) (fun b hb => by
      have : b = T2 := by simpa using hb
      rw [this]; exact fT2)
    obtain ⟨t4, he4⟩ := fl4.ob
    exact wpAny_mono (hs e (.ref C) t4 (.ref T2) inX_hd pins _ σ H1 De (I4.inX he4 ⟨_, rfl⟩ fe.1) q) (fun f s5 q5 => q5.ofX I.ok.hd) fun _ _ z => z.elim
/-! ### a def that may be called while an exception is handled -/
section
variable {k j : Nat} {A : Around}
end
section
variable {P : Program} {w : World} {K : PySem.W.Frag} {mg : Str → Option Value} {base : Heap} {k j : Nat} {f C : Addr} {fd : FuncData} {ps N : List Str} {sp sp' : Sp} {x m qual : Str} {st : Stmt}
end
section
variable {X : Cx} {k : Nat} {f C : Addr} {fd : FuncData} {ps : List Str} {sp : Sp} {x m : Str} {p pos apos : Pos} {e o tg : Expr} {es : List Expr} {ta : TE} {t : TA}
end
end L2

set_option Elab.async false
set_option linter.all false
set_option maxRecDepth 100000
set_option maxHeartbeats 4000000
namespace Np
open L2 PySem
/-! ### tables kept beside a Follower -/
structure KeptAt (H : Hp) (D : Addr) (as : List Addr) (kt : List (List Int)) : Prop where
  ls : H D = some (.lst (as.map V.ref))
  len : as.length = kt.length
  at_ : ∀ i, i < kt.length → H (as.getD i 0) = some (.lst ((kt.getD i []).map V.int))
theorem KeptAt.frame {H H' : Hp} {D : Addr} {as : List Addr} {kt : List (List Int)} (k : KeptAt H D as kt) (s : ∀ b o, b ∈ D :: as → H b = some o → H' b = some o) : KeptAt H' D as kt :=
  ⟨s _ _ (by simp) k.ls, k.len, fun i hi => s _ _ (List.mem_cons_of_mem _ (getD_in (by rw [k.len]; exact hi))) (k.at_ i hi)⟩
theorem KeptAt.same {H H' : Hp} {D : Addr} {as : List Addr} {kt : List (List Int)} (k : KeptAt H D as kt) (s : Same H H') : KeptAt H' D as kt := k.frame fun b o _ e => s b o e
section
variable {T : Cl} {B H H' : Hp} {x : Addr} {own own' : List Addr} {M M' : Mo} {D : Addr} {as : List Addr} {kt : List (List Int)} {r : Addr} {rs : List Int}
end
end Np

set_option Elab.async false
set_option linter.all false
set_option maxRecDepth 100000
namespace L2
open PySem PySem.Spec PyProof.Rows
section
variable {X : Cx}
/-! ### == of lists of lists that are the same throughout -/
def DE (K : PySem.W.Frag) (H : Hp) : Nat → V → V → Prop
  | 0, x, y => ∃ i, x = .int i ∧ y = .int i
  | n + 1, x, y => (∃ i, x = .int i ∧ y = .int i) ∨ ∃ a b xs ys, x = .ref a ∧ y = .ref b ∧ SqL K H a xs ∧ SqL K H b ys ∧ xs.length = ys.length ∧ ∀ (i : Nat) (x y : V), xs[i]? = some x → ys[i]? = some y → DE K H n x y
def DR (K : PySem.W.Frag) (H : Hp) (n : Nat) (x y : V) : Prop := ∃ a b xs ys, x = .ref a ∧ y = .ref b ∧ SqL K H a xs ∧ SqL K H b ys ∧ xs.length = ys.length ∧ ∀ (i : Nat) (x y : V), xs[i]? = some x → ys[i]? = some y → DE K H n x y
theorem de_both {pins : List (Addr × Obj)} {s : Shared} {σ : St} {H : Hp} (I : Inv X pins σ H s) : ∀ (n : Nat),
    (∀ (A : Around) (x y : V) (u v : Value), A.units + n < cLine → DE X.K H n x y → RelV x u → RelV y v → SeqAt.EqAt A s u v true) ∧
    (∀ (A : Around) (x y : V) (u v : Value), A.units + n + 1 < cLine → DR X.K H n x y → RelV x u → RelV y v → SeqAt.RcAt A s u v true)
  | 0 => by
    have h0 : ∀ (A : Around) (x y : V) (u v : Value), A.units + 0 < cLine → DE X.K H 0 x y → RelV x u → RelV y v → SeqAt.EqAt A s u v true := by
      rintro A x y u v hu ⟨i, rfl, rfl⟩ ⟨t, rfl⟩ ⟨t', rfl⟩
      have := SeqAt.EqAt.int_int (A := A) (s := s) i t i t'
      rw [beq_self_eq_true] at this
      exact this
    exact ⟨h0, de_step I h0⟩
  | n + 1 => by
    obtain ⟨_, hr⟩ := de_both I n
    have h0 : ∀ (A : Around) (x y : V) (u v : Value), A.units + (n + 1) < cLine → DE X.K H (n + 1) x y → RelV x u → RelV y v → SeqAt.EqAt A s u v true := by
      intro A x y u v hu d rx ry
      rcases d with ⟨i, rfl, rfl⟩ | d
      · obtain ⟨t, rfl⟩ := rx
        obtain ⟨t', rfl⟩ := ry
        have := SeqAt.EqAt.int_int (A := A) (s := s) i t i t'
        rw [beq_self_eq_true] at this
        exact this
      have d' := d
      obtain ⟨a, b, xs, ys, rfl, rfl, _⟩ := d'
      cases (show u = .ref a from rx)
      cases (show v = .ref b from ry)
      by_cases e : a = b
      · subst e; exact SeqAt.EqAt.same _
      · exact SeqAt.EqAt.of_refs e (hr A _ _ _ _ hu d rfl rfl)
    exact ⟨h0, de_step I h0⟩
where
  de_step {pins : List (Addr × Obj)} {s : Shared} {σ : St} {H : Hp} {n : Nat} (I : Inv X pins σ H s) (h0 : ∀ (A : Around) (x y : V) (u v : Value), A.units + n < cLine → DE X.K H n x y → RelV x u → RelV y v → SeqAt.EqAt A s u v true) :
    ∀ (A : Around) (x y : V) (u v : Value), A.units + n + 1 < cLine → DR X.K H n x y → RelV x u → RelV y v → SeqAt.RcAt A s u v true := by
    rintro A x y u v hu ⟨a, b, xs, ys, rfl, rfl, ha, hb, hl, d⟩ rx ry
    cases (show u = .ref a from rx)
    cases (show v = .ref b from ry)
    obtain ⟨is1, v1, p1, _⟩ := I.list ha
    obtain ⟨is2, v2, p2, _⟩ := I.list hb
    have l1 : is1.length = xs.length := by have := v1.length; omega
    have l2 : is2.length = ys.length := by have := v2.length; omega
    have z := SeqAt.RcAt.lists (A := A) (e := fun _ => true) p1.isList p2.isList (by simpa [l1, l2] using hl) (by omega) fun j h1 h2 => by
      have g1 : j < xs.length := by simpa [l1] using h1
      have g2 : j < ys.length := by simpa [l2] using h2
      obtain ⟨w1, e1, r1⟩ := Vals.get v1 (List.getElem?_eq_getElem g1)
      obtain ⟨w2, e2, r2⟩ := Vals.get v2 (List.getElem?_eq_getElem g2)
      have x1 : is1.toArray[j] = w1 := by
        have : is1.toArray[j]? = some w1 := by simpa using e1
        rw [Array.getElem?_eq_getElem h1] at this
        exact Option.some.inj this
      have x2 : is2.toArray[j] = w2 := by
        have : is2.toArray[j]? = some w2 := by simpa using e2
        rw [Array.getElem?_eq_getElem h2] at this
        exact Option.some.inj this
      rw [x1, x2]
      exact h0 A.in1 _ _ _ _ (by show A.units + 1 + n < _; omega) (d j _ _ (List.getElem?_eq_getElem g1) (List.getElem?_eq_getElem g2)) r1 r2
    have e : ((List.range is1.toArray.size).all fun _ => true) = true := by simp
    rw [e] at z
    exact z
theorem hU100 {A : Around} {k : Nat} (hr : Room k A) : A.units + 100 < cLine := by have := hr.un; omega
end
end L2
namespace Np
open L2 PySem
/-! ### a comprehension that lays a table -/
structure TabAt (H1 H : Hp) (D : Addr) (as : List Addr) (rows : List (List Int)) : Prop where
  kp : KeptAt H D as rows
  sm : Same H1 H
  nd : (D :: as).Nodup
  fr : ∀ b ∈ D :: as, H1 b = none
theorem comp_tab {J : It} {n : Nat} {cv : St} {te : TE} {D : Addr} {H1 : Hp} {Q : VK} (xs : Nat → V) (row : Nat → List Int) (hz : n ≤ sizeLine) (hD : H1 D = none)
    (hgo : ∀ i H', i < n → Same H1 H' → J.go i H' ∧ ∀ y H2, J.yld i H' y H2 → y = xs i ∧ H2 = H')
    (hst : ∀ H', Same H1 H' → J.stop n H')
    (hs : ∀ i H' (R : VK), i < n → Same H1 H' → (∀ p, H' p = none → R (.ref p) (upd H' p (.lst ((row i).map V.int)))) → te (some (xs i) :: cv) H' R)
    (hd : ∀ as H', TabAt H1 H' D as ((List.range n).map row) → Q (.ref D) H') : tCompB J cv tYes te D H1 Q := by
  refine ⟨fun i m H' => m = n - i ∧ i ≤ n ∧ ∃ as, TabAt H1 H' D as ((List.range i).map row), ⟨n, by simp, Nat.zero_le _, [], ⟨upd_same, rfl, fun i hi => absurd hi (Nat.not_lt_zero _)⟩, same_up hD, by simp, fun b hb => by
    have : b = D := by simpa using hb
    rw [this]; exact hD⟩, ?_⟩
  rintro i m H' ⟨rfl, hi, as, T⟩
  have la : as.length = i := by rw [T.kp.len]; simp
  by_cases hlt : i < n
  · obtain ⟨g, y⟩ := hgo i H' hlt T.sm
    refine .inr ⟨g, fun x H2 hy => ?_⟩
    obtain ⟨rfl, rfl⟩ := y x H2 hy
    unfold tYes
    dsimp only
    rw [if_pos rfl]
    refine hs i _ _ hlt T.sm fun p hp => ?_
    have npD : p ≠ D := fun z => by rw [z, T.kp.ls] at hp; cases hp
    have hD' : upd H2 p (.lst ((row i).map V.int)) D = some (.lst (as.map V.ref)) := upd_old T.kp.ls hp
    refine ⟨_, hD', by rw [List.length_map]; omega, n - (i + 1), by omega, rfl, hlt, as ++ [p], ⟨by rw [upd_same, List.map_append]; rfl, by simp [la], fun j hj => ?_⟩, fun b o e => ?_, ?_, fun b hb => ?_⟩
    · rw [List.length_map, List.length_range] at hj
      by_cases hji : j < i
      · have a1 : (as ++ [p]).getD j 0 = as.getD j 0 := by rw [List.getD_eq_getElem?_getD, List.getElem?_append_left (by omega), List.getD_eq_getElem?_getD]
        have q := T.kp.at_ j (by simpa using hji)
        have nD : as.getD j 0 ≠ D := fun z => (List.nodup_cons.mp T.nd).1 (by rw [← z]; exact getD_in (by omega))
        have a2 : ((List.range (i + 1)).map row).getD j [] = row j := by rw [List.getD_eq_getElem?_getD, List.getElem?_map, List.getElem?_range (by omega)]; rfl
        have a3 : ((List.range i).map row).getD j [] = row j := by rw [List.getD_eq_getElem?_getD, List.getElem?_map, List.getElem?_range (by omega)]; rfl
        rw [a3] at q
        rw [a1, a2, upd_ne nD]
        exact upd_old q hp
      · have ej : j = i := by omega
        subst ej
        have a1 : (as ++ [p]).getD j 0 = p := by rw [List.getD_eq_getElem?_getD, List.getElem?_append_right (by omega), la, Nat.sub_self]; rfl
        have a2 : ((List.range (j + 1)).map row).getD j [] = row j := by rw [List.getD_eq_getElem?_getD, List.getElem?_map, List.getElem?_range (by omega)]; rfl
        rw [a1, a2, upd_ne npD]
        exact upd_same
    · rw [upd_ne (ne_of_none e hD)]
      exact upd_old (T.sm b o e) hp
    · rw [← List.cons_append]
      refine List.nodup_append.mpr ⟨T.nd, by simp, fun a ha b hb => ?_⟩
      have eb : b = p := by simpa using hb
      subst eb
      rcases List.mem_cons.mp ha with z | z
      · rw [z]; exact npD.symm
      · obtain ⟨j, hj, ej⟩ := List.getElem_of_mem z
        have q := T.kp.at_ j (by rw [← T.kp.len]; exact hj)
        rw [List.getD_eq_getElem?_getD, List.getElem?_eq_getElem hj] at q
        rw [← ej]
        exact ne_of_none q hp
    · rcases List.mem_cons.mp hb with z | z
      · rw [z]; exact hD
      · rcases List.mem_append.mp z with y | y
        · exact T.fr b (List.mem_cons_of_mem _ y)
        · have eb : b = p := by simpa using y
          rw [eb]
          exact T.sm.free hp
  · have e : i = n := by omega
    subst e
    exact .inl ⟨hst _ T.sm, hd as _ T⟩
theorem itl_same {K : PySem.W.Frag} {a : Addr} {xs : List V} {H1 : Hp} (h : SqL K H1 a xs) : (∀ i H', i < xs.length → Same H1 H' → (Itl K a).go i H' ∧ ∀ y H2, (Itl K a).yld i H' y H2 → y = xs.getD i .non ∧ H2 = H') ∧ ∀ H', Same H1 H' → (Itl K a).stop xs.length H' := by
  refine ⟨fun i H' hi s => ?_, fun H' s => ⟨xs, Same.seq s h, Nat.le_refl _⟩⟩
  have e : xs[i]? = some (xs.getD i .non) := by rw [List.getD_eq_getElem?_getD, List.getElem?_eq_getElem hi]; rfl
  refine ⟨⟨xs, _, Same.seq s h, e⟩, fun y H2 hh => ⟨?_, hh.1⟩⟩
  have := hh.2 xs (Same.seq s h)
  rw [e] at this
  exact (Option.some.inj this).symm
/-! ### tables that are read -/
structure TabL (K : PySem.W.Frag) (H : Hp) (a : Addr) (as : List Addr) (rows : List (List Int)) : Prop where
  ls : SqL K H a (as.map V.ref)
  len : as.length = rows.length
  at_ : ∀ i, i < rows.length → SqL K H (as.getD i 0) ((rows.getD i []).map V.int)
theorem KeptAt.tab {K : PySem.W.Frag} {H : Hp} {a : Addr} {as : List Addr} {rows : List (List Int)} (k : KeptAt H a as rows) : TabL K H a as rows := ⟨.of k.ls, k.len, fun i hi => .of (k.at_ i hi)⟩
theorem de_ints {K : PySem.W.Frag} {H : Hp} {a b : Addr} {ns : List Int} (ha : SqL K H a (ns.map V.int)) (hb : SqL K H b (ns.map V.int)) : DE K H 1 (.ref a) (.ref b) :=
  .inr ⟨a, b, _, _, rfl, rfl, ha, hb, rfl, fun i x y e1 e2 => by
    rw [e1] at e2
    obtain ⟨n, _, rfl⟩ := mem_at e1
    exact ⟨n, rfl, (Option.some.inj e2).symm⟩⟩
/-! ### hidden choices -/
structure Full (ns : List Int) : Prop where
  g : GoodC ns
  one : ∀ c ∈ ns, 1 ≤ c
structure Tabs (prior : List Int) (given back : List (List Int)) : Prop where
  p : Full prior
  g0 : given.length = prior.length
  gr : ∀ i, i < given.length → Full (given.getD i []) ∧ (given.getD i []).length = back.length
  br : ∀ i, i < back.length → Full (back.getD i []) ∧ (back.getD i []).length = prior.length
section
variable {prior : List Int} {given back : List (List Int)}
end
theorem getD_rng {α : Type} {n i : Nat} (f : Nat → List α) (h : i < n) : ((List.range n).map f).getD i [] = f i := by
  rw [List.getD_eq_getElem?_getD, List.getElem?_map, List.getElem?_range h]
  rfl
structure SlotsF (K : PySem.W.Frag) (C : Addr) : Prop where
  cl : Cls K C
  nKept : NoAttr K C "kept"
  nTotal : NoAttr K C "total"
  nSigns : NoAttr K C "signs"
  nPlaces : NoAttr K C "places"
  nNumbers : NoAttr K C "numbers"
end Np

set_option Elab.async false
set_option linter.all false
set_option maxRecDepth 100000
namespace Np
open L2 PySem
/-! ### deeds that are undone -/
structure Tl where
  cs : List Int
  pr : List Int
  given : List (List Int)
  back : List (List Int)
structure Tl.Ok (D : Tl) : Prop where
  gc : GoodC D.cs
  cl : D.cs.length = 4
  tt : Tabs D.pr D.given D.back
  bl : D.back.length = 4
/-! the tools in the heap -/
end Np

set_option Elab.async false
set_option linter.all false
set_option maxRecDepth 100000
namespace L2
open PySem PySem.Spec PyProof.Rows
section
variable {X : Cx}
theorem ip_fdiv : PIp X .FloorDiv (fun x y H Q => ∃ i j, x = .int i ∧ y = .int j ∧ CDiv i j ∧ Q (.int (i / j)) H) := by
  rintro pins s σ H x y v u Q I rx ry ⟨i, j, rfl, rfl, hc, q⟩
  exact iop_fdiv pins s σ H _ _ v u Q I rx ry ⟨i, j, rfl, rfl, hc, q⟩
end
end L2
namespace Np
open L2 PySem
/-! ### streams -/
def flushF (b bd : Int) : Nat → Int → List Int → Int × List Int
  | 0, n, ws => (n, ws)
  | f + 1, n, ws => if bd ≤ n then flushF b bd f (n / b) (ws ++ [n % b]) else (n, ws)
def flush (b bd n : Int) (ws : List Int) : Int × List Int := flushF b bd n.toNat n ws
section
variable {b bd : Int} (hb : 2 ≤ b) (hd : 0 < bd)
include hb
theorem div_less {n : Int} (h : 0 < n) : n / b < n := by
  have h2 := Int.ediv_mul_le n (show b ≠ 0 by omega)
  have h3 : 0 ≤ n / b := Int.ediv_nonneg (by omega) (by omega)
  rcases Int.lt_or_le (n / b) n with z | z
  · exact z
  · have h4 : n / b * 2 ≤ n / b * b := Int.mul_le_mul_of_nonneg_left hb h3
    omega
include hd
theorem flushF_fuel : ∀ (f : Nat) (n : Int) (ws : List Int), n.toNat ≤ f → ∀ f', n.toNat ≤ f' → flushF b bd f n ws = flushF b bd f' n ws
  | 0, n, ws, h, f', h' => by
    cases f' with
    | zero => rfl
    | succ f' =>
      show (n, ws) = flushF b bd (f' + 1) n ws
      unfold flushF
      rw [if_neg (by omega)]
  | f + 1, n, ws, h, f', h' => by
    by_cases c : bd ≤ n
    · have l := div_less hb (n := n) (by omega)
      have l0 : 0 ≤ n / b := Int.ediv_nonneg (by omega) (by omega)
      cases f' with
      | zero => omega
      | succ f' =>
        unfold flushF
        rw [if_pos c, if_pos c]
        exact flushF_fuel f _ _ (by omega) f' (by omega)
    · cases f' with
      | zero => unfold flushF; rw [if_neg c]
      | succ f' => unfold flushF; rw [if_neg c, if_neg c]
theorem flush_step {n : Int} {ws : List Int} (c : bd ≤ n) : flush b bd n ws = flush b bd (n / b) (ws ++ [n % b]) := by
  have l := div_less hb (n := n) (by omega)
  have l0 : 0 ≤ n / b := Int.ediv_nonneg (by omega) (by omega)
  unfold flush
  obtain ⟨f, e⟩ : ∃ f, n.toNat = f + 1 := ⟨n.toNat - 1, by omega⟩
  rw [e]
  conv => lhs; unfold flushF
  rw [if_pos c]
  exact flushF_fuel hb hd f _ _ (by omega) _ (Nat.le_refl _)
theorem flush_stop {n : Int} {ws : List Int} (c : ¬ bd ≤ n) : flush b bd n ws = (n, ws) := by
  unfold flush
  cases n.toNat with
  | zero => rfl
  | succ f => unfold flushF; rw [if_neg c]
theorem flush_ind (P : Int → List Int → Prop) (h0 : ∀ n ws, ¬ bd ≤ n → P n ws) (h1 : ∀ n ws, bd ≤ n → P (n / b) (ws ++ [n % b]) → P n ws) : ∀ (n : Int) (ws : List Int), P n ws := by
  have key : ∀ (f : Nat) (n : Int) (ws : List Int), n.toNat ≤ f → P n ws := by
    intro f
    induction f with
    | zero => intro n ws h; exact h0 n ws (by omega)
    | succ f ih =>
      intro n ws h
      by_cases c : bd ≤ n
      · have l := div_less hb (n := n) (by omega)
        have l0 : 0 ≤ n / b := Int.ediv_nonneg (by omega) (by omega)
        exact h1 n ws c (ih _ _ (by omega))
      · exact h0 n ws c
  exact fun n ws => key _ n ws (Nat.le_refl _)
theorem flush_len (n : Int) (ws : List Int) : ws.length ≤ (flush b bd n ws).2.length := by
  refine flush_ind hb hd (fun n ws => ws.length ≤ (flush b bd n ws).2.length) (fun n ws c => ?_) (fun n ws c ih => ?_) n ws
  · rw [flush_stop hb hd c]; exact Nat.le_refl _
  · rw [flush_step hb hd c]
    rw [List.length_append] at ih
    simp at ih
    omega
theorem flush_grow (n : Int) (ws : List Int) : ∀ j : Nat, n < bd * 2 ^ j → (flush b bd n ws).2.length ≤ ws.length + j := by
  refine flush_ind hb hd (fun n ws => ∀ j : Nat, n < bd * 2 ^ j → (flush b bd n ws).2.length ≤ ws.length + j) (fun n ws c j h => ?_) (fun n ws c ih j h => ?_) n ws
  · rw [flush_stop hb hd c]; simp
  · cases j with
    | zero => rw [Int.pow_zero, Int.mul_one] at h; omega
    | succ j =>
      rw [flush_step hb hd c]
      have h2 : n / b < bd * 2 ^ j := by
        refine Int.ediv_lt_of_lt_mul (by omega) ?_
        have e : bd * 2 ^ (j + 1) = bd * 2 ^ j * 2 := by rw [Int.pow_succ, Int.mul_assoc]
        have p : 0 ≤ bd * 2 ^ j := Int.mul_nonneg (by omega) (Int.le_of_lt (Int.pow_pos (by decide)))
        have q : bd * 2 ^ j * 2 ≤ bd * 2 ^ j * b := Int.mul_le_mul_of_nonneg_left hb p
        omega
      have := ih j h2
      rw [List.length_append] at this
      simp at this
      omega
theorem flush_words (n : Int) (ws : List Int) (h : ∀ w ∈ ws, 0 ≤ w ∧ w < b) : ∀ w ∈ (flush b bd n ws).2, 0 ≤ w ∧ w < b := by
  refine flush_ind hb hd (fun n ws => (∀ w ∈ ws, 0 ≤ w ∧ w < b) → ∀ w ∈ (flush b bd n ws).2, 0 ≤ w ∧ w < b) (fun n ws c h => ?_) (fun n ws c ih h => ?_) n ws h
  · rw [flush_stop hb hd c]; exact h
  · rw [flush_step hb hd c]
    refine ih fun w hw => ?_
    rcases List.mem_append.mp hw with z | z
    · exact h w z
    · have e : w = n % b := by simpa using z
      rw [e]
      exact ⟨Int.emod_nonneg _ (by omega), Int.emod_lt_of_pos _ (by omega)⟩
theorem flush_rng {m : Int} (e : bd = m * b) (n : Int) (ws : List Int) (h : m ≤ n) : m ≤ (flush b bd n ws).1 ∧ (flush b bd n ws).1 < bd := by
  refine flush_ind hb hd (fun n ws => m ≤ n → m ≤ (flush b bd n ws).1 ∧ (flush b bd n ws).1 < bd) (fun n ws c h => ?_) (fun n ws c ih h => ?_) n ws h
  · rw [flush_stop hb hd c]; exact ⟨h, by omega⟩
  · rw [flush_step hb hd c]
    exact ih ((Int.le_ediv_iff_mul_le (by omega)).mpr (by omega))
end
/-- words are taken off, the last first -/
def refill (b lo : Int) : List Int → Int → Option (Int × List Int)
  | [], n => if n < lo then none else some (n, [])
  | w :: r, n => if n < lo then refill b lo r (b * n + w) else some (n, w :: r)
theorem refill_stop {b lo n : Int} (h : lo ≤ n) : ∀ (r : List Int), refill b lo r n = some (n, r)
  | [] => by unfold refill; rw [if_neg (by omega)]
  | w :: r => by unfold refill; rw [if_neg (by omega)]
theorem refill_flush {b bd lo : Int} (hb : 2 ≤ b) (hd : 0 < bd) (hl : 0 < lo) (n : Int) (ws : List Int) (h : n < lo * b) : refill b lo (flush b bd n ws).2.reverse (flush b bd n ws).1 = refill b lo ws.reverse n := by
  refine flush_ind hb hd (fun n ws => n < lo * b → refill b lo (flush b bd n ws).2.reverse (flush b bd n ws).1 = refill b lo ws.reverse n) (fun n ws c h => ?_) (fun n ws c ih h => ?_) n ws h
  · rw [flush_stop hb hd c]
  · rw [flush_step hb hd c]
    have l1 : n / b < lo := Int.ediv_lt_of_lt_mul (by omega) h
    have l2 : lo * 1 ≤ lo * b := Int.mul_le_mul_of_nonneg_left (by omega) (by omega)
    rw [ih (by omega), List.reverse_append]
    show refill b lo (n % b :: ws.reverse) (n / b) = _
    conv => lhs; unfold refill
    rw [if_pos l1, Int.mul_ediv_add_emod]
section
variable {cs : List Int} {b g n : Int} {ws : List Int}
theorem sum_ge {cs : List Int} (g : GoodC cs) {k : Nat} (h : k < cs.length) : cs.getD k 0 ≤ cs.sum := by
  have h1 := first_mono g.rng (i := 0) (j := k) (Nat.zero_le _) (by omega)
  have h2 := first_mono g.rng (i := k + 1) (j := cs.length) (by omega) (Nat.le_refl _)
  rw [first_zero] at h1
  rw [first_succ h, first_len] at h2
  omega
end
/-! the object -/
section
variable (b g lo n n' : Int) (kl wl : Addr)
end
def lenAtH (H : Hp) (x : Addr) : Nat :=
  match H x with
  | some (.lst xs) => xs.length
  | _ => 0
theorem lenAtH_eq {H : Hp} {x : Addr} {xs : List V} (e : H x = some (.lst xs)) : lenAtH H x = xs.length := by unfold lenAtH; rw [e]
theorem take_rev_succ {ws : List Int} {l : Nat} (h : l < ws.length) : (ws.take (l + 1)).reverse = ws.getD l 0 :: (ws.take l).reverse := by
  rw [List.take_succ, List.getElem?_eq_getElem h, List.reverse_append, List.getD_eq_getElem?_getD, List.getElem?_eq_getElem h]
  rfl
theorem take_drop1 {ws : List Int} {j : Nat} (h : j + 1 ≤ ws.length) : (ws.take (j + 1)).dropLast = ws.take j := by
  rw [List.dropLast_eq_take, List.length_take, List.take_take]
  congr 1
  omega
end Np

set_option Elab.async false
set_option linter.all false
set_option maxRecDepth 100000
namespace L2
theorem us1 {α : Type} {P : List α → Prop} (h : ∀ a0, P [a0]) : ∀ us : List α, us.length = 1 → P us
  | [a0], _ => h a0
theorem us2 {α : Type} {P : List α → Prop} (h : ∀ a0 a1, P [a0, a1]) : ∀ us : List α, us.length = 2 → P us
  | [a0, a1], _ => h a0 a1
theorem us3 {α : Type} {P : List α → Prop} (h : ∀ a0 a1 a2, P [a0, a1, a2]) : ∀ us : List α, us.length = 3 → P us
  | [a0, a1, a2], _ => h a0 a1 a2
theorem us4 {α : Type} {P : List α → Prop} (h : ∀ a0 a1 a2 a3, P [a0, a1, a2, a3]) : ∀ us : List α, us.length = 4 → P us
  | [a0, a1, a2, a3], _ => h a0 a1 a2 a3
end L2
namespace Np
open L2 PySem
/-! ### two streams, and what is kept beside them -/
def ext (R H' : Hp) (l : List Addr) : Hp := fun b => if b ∈ l then H' b else R b
structure D11 where
  x : Addr
  kl : Addr
  wl : Addr
  s : Addr
  w : Addr
  r : Addr
  c : Addr
  cs : List Int
  b : Int
  g : Int
  n : Int
  ws : List Int
def D11.to (d : D11) (s w : Addr) (n : Int) (ws : List Int) : D11 := { d with s := s, w := w, n := n, ws := ws }
theorem lawCounts_sum (c : Int) {m : Int} (h0 : 1 ≤ m) (h1 : m ≤ 8) : (lawCounts c m).sum ≤ 8192 := by
  have g := lawCounts_good c h0 (show m ≤ 100 by omega)
  have l := lawCounts_len c m
  have := (sum_nn g.rng).2
  omega
end Np

set_option Elab.async false
set_option linter.all false
set_option maxRecDepth 100000
namespace L2
open PySem PySem.Spec PyProof.Rows
section
variable {X : Cx} {k : Nat} {m : Str} {ps : List Str} {pos apos : Pos} {e o : Expr} {ta : TE}
end
/-! ### a walk over a list while an exception is handled -/
section
variable {X : Cx}
end
end L2
namespace Np
open L2 PySem
/-! ### the history of a stream -/
/-! what a stream that has no words gives -/
/-! one stream and what stays beside it -/
section
variable {T : Cl} {R H H' : Hp} {x kl wl : Addr} {cs : List Int} {b g : Int} {s s' : Int × List Int}
end
end Np

set_option Elab.async false
set_option linter.all false
set_option maxRecDepth 100000
namespace L2
open PySem PySem.Spec PyProof.Rows
/-! ### enumerate of a list -/
def Ite (a : Addr) : It := ⟨fun i H => ∃ xs x, H a = some (.lst xs) ∧ xs[i]? = some x, fun i H y H' => ∃ p x, H p = none ∧ y = .ref p ∧ H' = upd H p (.tup [.int ((i : Nat) : Int), x]) ∧ ∀ xs, H a = some (.lst xs) → xs[i]? = some x, fun i H => ∃ xs, H a = some (.lst xs) ∧ xs.length ≤ i⟩
theorem turn_enum {P : Program} {w : World} {K : PySem.W.Frag} {elts : List Expr} {x1} {pos : Pos} (a e it : Addr) (hne : e ≠ it) : Turn P w K (.Tuple elts x1 pos) (Ite a) [e, it] e (fun i h => (∃ old, IsEnum h e it ((i : Nat) : Int) old) ∧ h.IsListIter it a i) where
  mem := by simp
  obj := fun i h st b hb => by
    obtain ⟨⟨old, he⟩, o, ei, c, d⟩ := st
    rcases List.mem_cons.mp hb with z | z
    · rw [z]
      exact ⟨_, he, fun v y => by
        have y' : Data.fields _ = Data.cell v := y
        cases y'⟩
    · have z : b = it := by simpa using z
      rw [z]
      exact ⟨o, ei, fun v y => by rw [d] at y; cases y⟩
  keep := fun i h h' st k => ⟨let ⟨old, he⟩ := st.1; ⟨old, k e (by simp) _ he⟩, st.2.at fun o q => k it (by simp) o q⟩
  item := by
    intro X hP hw hK hc i pins s σ H E I hf st hg
    subst hP hw hK
    obtain ⟨⟨old, he⟩, hit⟩ := st
    obtain ⟨xs, x, hq, hx⟩ := hg
    obtain ⟨hz, its, n, rv, hl0⟩ := (show ObjOk X.prog X.w H s.heap a (.lst xs) from I.hok a _ hq)
    have hl : s.heap.IsList a its.toArray := ⟨_, hl0, rfl, n, rfl⟩
    obtain ⟨u, hu, ru⟩ := rv.get hx
    obtain ⟨e0, e1, e2, e3, e4, e5⟩ := hf e (by simp)
    obtain ⟨f0, f1, f2, f3, f4, f5⟩ := hf it (by simp)
    have lte := Heap.lt_size he
    obtain ⟨oi, hoi, _⟩ := id hit
    have lti := Heap.lt_size hoi
    refine wpAny_pyNext_enum_item he hit hl (x := u) (by simpa using hu) hne fun h1 heo hit1 ht1 hz1 hk1 => ?_
    refine ⟨_, rfl, wpAny_letOwnedTupleGo_enum heo fun h2 he2 hs2 => ?_⟩
    replace hs2 : Heap.SameBut e h1 h2 := hs2
    have hp : H s.heap.objs.size = none := I.hok.fresh (Nat.le_refl _)
    have k2 : ∀ b o, b ≠ e → b ≠ it → s.heap.get? b = some o → h2.get? b = some o := fun b o n1 n2 q => (hs2.2 b n1).trans (hk1 b o n1 n2 q)
    have ht2 : h2.get? s.heap.objs.size = some { cls := .type "tuple", data := .seq #[.int (i : Int) s.toks, u] } := (hs2.2 _ (Nat.ne_of_gt lte)).trans ht1
    have nb : ∀ {b : Addr} {v : HO}, H b = some v → b ≠ s.heap.objs.size := fun q => ne_of_none q hp
    have up : ∀ {b : Addr} {v : HO}, H b = some v → (upd H s.heap.objs.size (.tup [.int ((i : Nat) : Int), x])) b = some v := fun q => by rw [upd_ne (nb q)]; exact q
    refine ⟨.ref s.heap.objs.size, upd H s.heap.objs.size (.tup [.int ((i : Nat) : Int), x]), ?_, rfl, ⟨_, x, hp, rfl, rfl, fun ys hy => ?_⟩, ⟨⟨u, ?_⟩, ?_⟩, fun b hb => ?_⟩
    · show Inv X pins σ _ { s with heap := h2, gens := s.gens, drawn := s.drawn, toks := s.toks + 1 }
      refine Inv.step (s := s) (h' := h2) (g' := s.gens) (d' := s.drawn) (t' := s.toks + 1) (ch := [e, it]) I (fun b hb => ?_) (fun b o _ _ hc q _ => k2 b o (fun z => hc (by simp [z])) (fun z => hc (by simp [z])) q) (fun b o _ _ hc q _ => ⟨o.slots, k2 b o (fun z => hc (by simp [z])) (fun z => hc (by simp [z])) q⟩)
        (fun b o _ q n => by rw [upd_ne (Nat.ne_of_lt (Heap.lt_size q))]; exact n) (fun b o hc q => ⟨o, k2 b o (fun z => hc (by simp [z])) (fun z => hc (by simp [z])) q⟩) (fun _ _ q => up q) (fun _ _ _ q => up q) (fun b ps q => ⟨#[], by rw [up q]; simp⟩) (fun m hm => ?_) (fun b v q => ?_) I.bare
      · rcases List.mem_cons.mp hb with z | z
        · rw [z]; exact ⟨e3, e1, e4, e5⟩
        · have z : b = it := by simpa using z
          rw [z]; exact ⟨f3, f1, f4, f5⟩
      · obtain ⟨o, es, ep, ho, r⟩ := hm
        exact ⟨o, es, ep, k2 _ o (Ne.symm e1) (Ne.symm f1) ho, r⟩
      · by_cases z : b = s.heap.objs.size
        · subst z
          rw [upd_same] at q
          cases q
          exact ⟨by show 2 ≤ sizeLine; decide, [.int (i : Int) s.toks, u], .cons ⟨_, rfl⟩ (.cons ru .nil), ⟨_, ht2, rfl, _, rfl⟩⟩
        · rw [upd_ne z] at q
          have ne1 : ∀ {c : Addr} {v : HO}, H c = some v → c ≠ e := fun q y => by rw [y, e0] at q; cases q
          have ne2 : ∀ {c : Addr} {v : HO}, H c = some v → c ≠ it := fun q y => by rw [y, f0] at q; cases q
          refine (I.hok b v q).stay (fun c o hc q2 => ?_) (fun c q2 => up q2) (fun c xs q2 => up q2)
          rcases hc with y | y
          · rw [y] at q2 ⊢; exact k2 _ _ (ne1 q) (ne2 q) q2
          · exact k2 _ _ (ne1 y) (ne2 y) q2
    · rw [hq] at hy
      cases hy
      exact hx
    · have ei : (((i + 1 : Nat) : Nat) : Int) = (i : Int) + 1 := by omega
      rw [ei]
      exact he2
    · exact hit1.at fun o q => (hs2.2 _ (Ne.symm hne)).trans q
    · rcases List.mem_cons.mp hb with z | z
      · rw [z, upd_ne (Nat.ne_of_lt lte)]; exact e0
      · have z : b = it := by simpa using z
        rw [z, upd_ne (Nat.ne_of_lt lti)]; exact f0
  done := by
    intro X hP hw hK hc i pins s σ H E I hf st hg
    subst hP hw hK
    obtain ⟨⟨old, he⟩, hit⟩ := st
    obtain ⟨xs, hq, hx⟩ := hg
    obtain ⟨hz, its, n, rv, hl0⟩ := (show ObjOk X.prog X.w H s.heap a (.lst xs) from I.hok a _ hq)
    have hl : s.heap.IsList a its.toArray := ⟨_, hl0, rfl, n, rfl⟩
    have ln := rv.length
    obtain ⟨f0, f1, f2, f3, f4, f5⟩ := hf it (by simp)
    exact wpAny_pyNext_enum_end (I.ok.hd hc) he hit hl (by simp; omega) fun h' eb => ⟨rfl, I.turned (t' := s.toks) (fun b o hb q => eb b o hb q) f0 f1 f3 f4 f5⟩
  self := fun _ _ _ _ _ st h => let ⟨_, he⟩ := st.1; wpAny_pyIter_enum he h
def iEnum (ta : TA) : TI := fun σ H R => ta σ H fun vs H1 => ∃ l xs, vs = [.ref l] ∧ H1 l = some (.lst xs) ∧ R (Ite l) H1
section
variable {X : Cx} {elts : List Expr} {pt : Pos}
theorem pi_enum {x1} {a : Expr} {ta : TA} {p pos : Pos} (hg : Gl X "enumerate") (hm : X.mg "enumerate" = none) (ha : PA X [a] ta) (hs : starEach [a] X.env = [(false, eval a X.env)] := by rfl) : PI X (.Tuple elts x1 pt) (.Call (.Name "enumerate" p) [a] [] pos) (iEnum ta) := by
  intro pins s σ H R I h
  refine Call_ (ld_blt I hg hm b_enumerate (PyProof.Rows.callWith_type1 (thn (ha pos pins s σ H _ I h) fun us s1 ⟨vs, H1, I1, r1, q1⟩ => ?_) hs rfl))
  obtain ⟨l, xs, e, hq, q⟩ := q1
  subst e
  obtain ⟨u, rfl, ru⟩ := vals1 r1
  cases (show u = .ref l from ru)
  obtain ⟨hz, its, n, rv, hl0⟩ := (show ObjOk X.prog X.w H1 s1.heap l (.lst xs) from I1.hok l _ hq)
  refine call_enumerate_1 (n := n) hl0 fun h' he hit hsz hk => ?_
  have hne : s1.heap.objs.size + 1 ≠ s1.heap.objs.size := Nat.succ_ne_self _
  refine wpAny_pyIter_enum he ?_
  refine ⟨s1.heap.objs.size + 1, [s1.heap.objs.size + 1, s1.heap.objs.size], _, _, H1, rfl, I1.kept (t' := s1.toks) hk, turn_enum l _ _ hne, ⟨⟨.none, he⟩, hit⟩, fun b hb => ?_, q⟩
  rcases List.mem_cons.mp hb with z | z
  · rw [z]; exact I1.fpOk (Nat.le_succ _) (I1.hok.fresh (Nat.le_succ _))
  · have z : b = s1.heap.objs.size := by simpa using z
    rw [z]; exact I1.fpOk (Nat.le_refl _) (I1.hok.fresh (Nat.le_refl _))
end
theorem for_enum {a : Addr} {xs : List V} {g : TG} {tb : TS} {D : Ends} {σ : St} {H : Hp} (Pv : Nat → St → Hp → Prop) (h0 : Pv 0 σ H) (hl : ∀ i σ H, i ≤ xs.length → Pv i σ H → H a = some (.lst xs))
    (hs : ∀ i x p σ H, xs[i]? = some x → Pv i σ H → H p = none → g (.ref p) σ (upd H p (.tup [.int ((i : Nat) : Int), x])) fun σ2 H2 => tb { D with nx := Pv (i + 1), ct := Pv (i + 1), bk := D.nx } σ2 H2) (hd : ∀ σ H, Pv xs.length σ H → D.nx σ H) :
    ∃ W : Nat → Nat → St → Hp → Prop, (∃ m, W 0 m σ H) ∧ ∀ i m σ H, W i m σ H →
      ((Ite a).stop i H ∧ D.nx σ H) ∨ ((Ite a).go i H ∧ ∃ N : St → Hp → Prop, (∀ σ' H', N σ' H' → ∃ m', m' < m ∧ W (i + 1) m' σ' H') ∧ ∀ x H', (Ite a).yld i H x H' → g x σ H' fun σ2 H2 => tb { D with nx := N, ct := N, bk := D.nx } σ2 H2) := by
  refine ⟨fun i m σ H => m = xs.length - i ∧ i ≤ xs.length ∧ Pv i σ H, ⟨xs.length, by simp, Nat.zero_le _, h0⟩, ?_⟩
  rintro i m σ H ⟨rfl, hi, p⟩
  have q := hl i σ H hi p
  by_cases hlt : i < xs.length
  · have ex : xs[i]? = some xs[i] := List.getElem?_eq_getElem hlt
    refine .inr ⟨⟨xs, _, q, ex⟩, Pv (i + 1), fun σ' H' p' => ⟨xs.length - (i + 1), by omega, rfl, hlt, p'⟩, ?_⟩
    rintro y H' ⟨b, x, hb, rfl, rfl, hx⟩
    have := hx xs q
    exact hs i x b σ H this p hb
  · have e : i = xs.length := by omega
    subst e
    exact .inl ⟨⟨xs, q, Nat.le_refl _⟩, hd σ H p⟩
end L2

set_option Elab.async false
set_option linter.all false
set_option maxRecDepth 100000
namespace L2
open PySem PySem.Spec PyProof.Rows
/-! ### a dict of ints: empty, in, a new key, len -/
section
variable {X : Cx}
end
end L2

set_option Elab.async false
set_option linter.all false
set_option maxRecDepth 100000
namespace Np
open L2 PySem
/-! ### the step -/
def stepF (w : Nat) : Nat → Nat → Nat
  | 0, s => s
  | f + 1, s => if 1 < Nat.gcd s w then stepF w f (s + 1) else s
def step0 (w : Nat) : Nat := w / 2 + w / 8 + 3
def stepOf (w : Nat) : Nat := stepF w (3 * w + 1 - step0 w) (step0 w)
theorem step0_le {w : Nat} (h : 1 ≤ w) : step0 w ≤ 3 * w + 1 := by unfold step0; omega
theorem gcd_last (w : Nat) : Nat.gcd (3 * w + 1) w = 1 := by
  rw [Nat.gcd_comm, Nat.gcd_rec, Nat.add_mod, Nat.mul_mod_left, Nat.zero_add, Nat.mod_mod]
  rcases Nat.lt_or_ge 1 w with h | h
  · rw [Nat.mod_eq_of_lt h, Nat.gcd_one_left]
  · rcases Nat.eq_zero_or_pos w with z | z
    · subst z; rfl
    · have : w = 1 := by omega
      subst this; rfl
theorem stepF_go {w s : Nat} (h : s ≤ 3 * w + 1) (c : 1 < Nat.gcd s w) : s < 3 * w + 1 ∧ stepF w (3 * w + 1 - s) s = stepF w (3 * w + 1 - (s + 1)) (s + 1) := by
  have ne : s ≠ 3 * w + 1 := fun z => by rw [z, gcd_last] at c; omega
  have lt : s < 3 * w + 1 := by omega
  refine ⟨lt, ?_⟩
  obtain ⟨f, e⟩ : ∃ f, 3 * w + 1 - s = f + 1 := ⟨3 * w + 1 - s - 1, by omega⟩
  have e2 : 3 * w + 1 - (s + 1) = f := by omega
  rw [e, e2]
  show (if 1 < Nat.gcd s w then stepF w f (s + 1) else s) = _
  rw [if_pos c]
theorem stepF_stop {w s f : Nat} (c : ¬ 1 < Nat.gcd s w) : stepF w f s = s := by
  cases f with
  | zero => rfl
  | succ f => show (if 1 < Nat.gcd s w then stepF w f (s + 1) else s) = s; rw [if_neg c]
theorem stepF_gcd {w : Nat} (hw : 1 ≤ w) : ∀ (f s : Nat), s + f = 3 * w + 1 → Nat.gcd (stepF w f s) w = 1
  | 0, s, h => by
    have : s = 3 * w + 1 := by omega
    show Nat.gcd s w = 1
    rw [this, gcd_last]
  | f + 1, s, h => by
    show Nat.gcd (if 1 < Nat.gcd s w then stepF w f (s + 1) else s) w = 1
    by_cases c : 1 < Nat.gcd s w
    · rw [if_pos c]; exact stepF_gcd hw f (s + 1) (by omega)
    · rw [if_neg c]
      have : 0 < Nat.gcd s w := Nat.gcd_pos_of_pos_right _ hw
      omega
theorem stepOf_gcd {w : Nat} (hw : 1 ≤ w) : Nat.gcd (stepOf w) w = 1 := stepF_gcd hw _ _ (by have := step0_le hw; omega)
/-! ### the deal -/
def dealF (cs : List Int) (st w : Nat) : Nat → List Int
  | 0 => List.replicate w 0
  | i + 1 => (dealF cs st w i).set (i * st % w) ((signOf cs (i : Int) : Nat) : Int)
def wN (cs : List Int) : Nat := cs.sum.toNat
def dealtN (cs : List Int) : List Int := dealF cs (stepOf (wN cs)) (wN cs) (wN cs)
theorem dealF_len (cs : List Int) (st w : Nat) : ∀ i, (dealF cs st w i).length = w
  | 0 => List.length_replicate ..
  | i + 1 => by show ((dealF cs st w i).set _ _).length = w; rw [List.length_set]; exact dealF_len cs st w i
theorem step_inj {st w i j : Nat} (g : Nat.gcd st w = 1) (hi : i < w) (hj : j < w) (e : i * st % w = j * st % w) : i = j := by
  have key : ∀ {i j : Nat}, i ≤ j → j < w → i * st % w = j * st % w → i = j := fun {i j} hij hj e => by
    have h1 : w ∣ j * st - i * st := Nat.dvd_of_mod_eq_zero (Nat.sub_mod_eq_zero_of_mod_eq e.symm)
    rw [← Nat.sub_mul] at h1
    have h2 : w ∣ j - i := Nat.Coprime.dvd_of_dvd_mul_right (show Nat.Coprime w st from by unfold Nat.Coprime; rw [Nat.gcd_comm]; exact g) h1
    rcases Nat.eq_zero_or_pos (j - i) with z | z
    · omega
    · have := Nat.le_of_dvd z h2
      omega
  rcases Nat.le_total i j with h | h
  · exact key h hj e
  · exact (key h hi e.symm).symm
theorem dealF_at {cs : List Int} {st w : Nat} (g : Nat.gcd st w = 1) : ∀ (i : Nat), i ≤ w → ∀ k, k < i → (dealF cs st w i).getD (k * st % w) 0 = ((signOf cs (k : Int) : Nat) : Int)
  | 0, _, k, h => absurd h (Nat.not_lt_zero _)
  | i + 1, hi, k, h => by
    have hw : 0 < w := by omega
    show ((dealF cs st w i).set (i * st % w) _).getD (k * st % w) 0 = _
    by_cases z : k = i
    · subst z
      exact getD_set_same (by rw [dealF_len]; exact Nat.mod_lt _ hw)
    · have ne : i * st % w ≠ k * st % w := fun e => z (step_inj g (by omega) (by omega) e.symm)
      rw [getD_set_other ne]
      exact dealF_at g i (by omega) k (by omega)
theorem perm_step {st w : Nat} (g : Nat.gcd st w = 1) : ((List.range w).map fun k => k * st % w).Perm (List.range w) := by
  have nd : ((List.range w).map fun k => k * st % w).Nodup := by
    refine List.pairwise_iff_getElem.mpr fun a b ha hb hab e => ?_
    rw [List.length_map, List.length_range] at ha hb
    rw [List.getElem_map, List.getElem_range, List.getElem_map, List.getElem_range] at e
    have := step_inj g ha hb e
    omega
  refine (List.perm_ext_iff_of_nodup nd List.nodup_range).mpr fun a => ⟨fun h => ?_, fun h => ?_⟩
  · obtain ⟨k, hk, rfl⟩ := List.mem_map.mp h
    have := List.mem_range.mp hk
    exact List.mem_range.mpr (Nat.mod_lt _ (by omega))
  · have sub : ∀ x ∈ ((List.range w).map fun k => k * st % w), x ∈ List.range w := fun x hx => by
      obtain ⟨k, hk, rfl⟩ := List.mem_map.mp hx
      have := List.mem_range.mp hk
      exact List.mem_range.mpr (Nat.mod_lt _ (by omega))
    false_or_by_contra
    rename_i hn
    have nd2 : (a :: ((List.range w).map fun k => k * st % w)).Nodup := List.nodup_cons.mpr ⟨hn, nd⟩
    have sub2 : (a :: ((List.range w).map fun k => k * st % w)) ⊆ List.range w := fun x hx => by
      rcases List.mem_cons.mp hx with z | z
      · rw [z]; exact h
      · exact sub x z
    have := List.Nodup.length_le_of_subset nd2 sub2
    rw [List.length_cons, List.length_map, List.length_range] at this
    omega
end Np

set_option Elab.async false
set_option linter.all false
set_option maxRecDepth 100000
namespace Np
open L2 PySem
theorem szl2 {n : Nat} (h : n ≤ 200000) : n ≤ sizeLine := by rw [sizeLine_eq]; omega
theorem szlt {n : Nat} (h : n ≤ 199999) : n < sizeLine := by rw [sizeLine_eq]; omega
/-! ### how many slots a sign has -/
theorem GoodC.wpos {cs : List Int} (g : GoodC cs) : 1 ≤ wN cs ∧ ((wN cs : Nat) : Int) = cs.sum ∧ wN cs ≤ 99900 := by
  have := g.pos
  have := g.le
  unfold wN
  omega
theorem sign_iff {cs : List Int} (g : GoodC cs) {i s : Nat} (hi : i < wN cs) (hs : s < cs.length) : signOf cs (i : Int) = s ↔ first cs s ≤ (i : Int) ∧ (i : Int) < first cs (s + 1) := by
  obtain ⟨w1, w2, w3⟩ := g.wpos
  obtain ⟨a, b, c⟩ := signOf_ok (ns := cs) (s := (i : Int)) (by omega) (by omega)
  constructor
  · intro e
    rw [← e]
    exact ⟨b, by rw [first_succ a]; exact c⟩
  · intro h
    exact signOf_unique g.rng hs h.1 h.2
theorem count_upto {cs : List Int} (g : GoodC cs) {s : Nat} (hs : s < cs.length) : ∀ i, i ≤ wN cs →
    (((List.range i).countP fun k => decide (signOf cs ((k : Nat) : Int) = s) : Nat) : Int) = min (i : Int) (first cs (s + 1)) - min (i : Int) (first cs s)
  | 0, _ => by
    have h1 := first_mono g.rng (i := 0) (j := s) (Nat.zero_le _) (by omega)
    have h2 := first_mono g.rng (i := 0) (j := s + 1) (Nat.zero_le _) (by omega)
    rw [first_zero] at h1 h2
    show ((0 : Nat) : Int) = _
    omega
  | i + 1, hi => by
    have ih := count_upto g hs i (by omega)
    have h3 := first_mono g.rng (i := s) (j := s + 1) (by omega) (by omega)
    have sg := sign_iff g (i := i) (s := s) (by omega) hs
    rw [List.range_succ, List.countP_append]
    by_cases c : signOf cs (i : Int) = s
    · have e : ([i].countP fun k => decide (signOf cs ((k : Nat) : Int) = s)) = 1 := by simp [c]
      rw [e]
      have := sg.mp c
      omega
    · have e : ([i].countP fun k => decide (signOf cs ((k : Nat) : Int) = s)) = 0 := by simp [c]
      rw [e]
      have : ¬ (first cs s ≤ (i : Int) ∧ (i : Int) < first cs (s + 1)) := fun z => c (sg.mpr z)
      omega
def posP (cs : List Int) (s : Nat) (p : Nat) : Bool := decide ((dealtN cs).getD p 0 = ((s : Nat) : Int))
def posU (cs : List Int) (s i : Nat) : List Nat := (List.range i).filter (posP cs s)
def posN (cs : List Int) (s : Nat) : List Nat := posU cs s (wN cs)
theorem dealtN_len (cs : List Int) : (dealtN cs).length = wN cs := dealF_len _ _ _ _
theorem dealtN_at {cs : List Int} (g : GoodC cs) {k : Nat} (hk : k < wN cs) : (dealtN cs).getD (k * stepOf (wN cs) % wN cs) 0 = ((signOf cs (k : Int) : Nat) : Int) :=
  dealF_at (stepOf_gcd g.wpos.1) _ (Nat.le_refl _) k hk
theorem posN_len {cs : List Int} (g : GoodC cs) {s : Nat} (hs : s < cs.length) : ((posN cs s).length : Int) = cs.getD s 0 := by
  obtain ⟨w1, w2, w3⟩ := g.wpos
  have e1 : (posN cs s).length = (List.range (wN cs)).countP (posP cs s) := by unfold posN posU; rw [List.countP_eq_length_filter]
  have e2 : (List.range (wN cs)).countP (posP cs s) = ((List.range (wN cs)).map fun k => k * stepOf (wN cs) % wN cs).countP (posP cs s) := (perm_step (stepOf_gcd w1)).countP_eq _ |>.symm
  have e3 : ((List.range (wN cs)).map fun k => k * stepOf (wN cs) % wN cs).countP (posP cs s) = (List.range (wN cs)).countP fun k => decide (signOf cs ((k : Nat) : Int) = s) := by
    rw [List.countP_map]
    refine List.countP_congr fun k hk => ?_
    have hk' := List.mem_range.mp hk
    show (decide ((dealtN cs).getD (k * stepOf (wN cs) % wN cs) 0 = ((s : Nat) : Int)) = true) ↔ _
    rw [dealtN_at g hk']
    simp
    omega
  have c := count_upto g hs (wN cs) (Nat.le_refl _)
  rw [e1, e2, e3, c]
  have h2 := first_mono g.rng (i := s + 1) (j := cs.length) (by omega) (Nat.le_refl _)
  have h3 := first_mono g.rng (i := s) (j := s + 1) (by omega) (by omega)
  rw [first_len] at h2
  have h4 := first_succ hs
  omega
/-- every slot has a sign that there is -/
theorem dealt_rng {cs : List Int} (g : GoodC cs) {p : Nat} (hp : p < wN cs) : ∃ s : Nat, (dealtN cs).getD p 0 = (s : Int) ∧ s < cs.length ∧ 0 < cs.getD s 0 := by
  obtain ⟨w1, w2, w3⟩ := g.wpos
  have hm : p ∈ (List.range (wN cs)).map fun k => k * stepOf (wN cs) % wN cs := (perm_step (stepOf_gcd w1)).mem_iff.mpr (List.mem_range.mpr hp)
  obtain ⟨k, hk, rfl⟩ := List.mem_map.mp hm
  have hk' := List.mem_range.mp hk
  obtain ⟨a, b, c⟩ := signOf_ok (ns := cs) (s := (k : Int)) (by omega) (by omega)
  exact ⟨_, dealtN_at g hk', a, by omega⟩
theorem posU_succ (cs : List Int) (s i : Nat) : posU cs s (i + 1) = posU cs s i ++ (if (dealtN cs).getD i 0 = ((s : Nat) : Int) then [i] else []) := by
  unfold posU
  rw [List.range_succ, List.filter_append]
  congr 1
  by_cases c : (dealtN cs).getD i 0 = ((s : Nat) : Int)
  · rw [if_pos c]
    simp only [List.filter_cons, posP, c]
    rfl
  · rw [if_neg c]
    simp only [List.filter_cons, posP, decide_eq_false c]
    rfl
theorem pos_at {cs : List Int} {s p : Nat} (hp : (dealtN cs).getD p 0 = ((s : Nat) : Int)) : ∀ d, (posU cs s (p + 1 + d)).getD (posU cs s p).length 0 = p ∧ (posU cs s p).length < (posU cs s (p + 1 + d)).length
  | 0 => by
    rw [Nat.add_zero, posU_succ, if_pos hp]
    refine ⟨?_, by simp⟩
    rw [List.getD_eq_getElem?_getD, List.getElem?_append_right (Nat.le_refl _), Nat.sub_self]
    rfl
  | d + 1 => by
    obtain ⟨a, b⟩ := pos_at hp d
    have e : p + 1 + (d + 1) = p + 1 + d + 1 := by omega
    rw [e, posU_succ]
    refine ⟨?_, by rw [List.length_append]; omega⟩
    rw [List.getD_eq_getElem?_getD, List.getElem?_append_left b, ← List.getD_eq_getElem?_getD]
    exact a
theorem posN_at {cs : List Int} {s p : Nat} (hp : p < wN cs) (e : (dealtN cs).getD p 0 = ((s : Nat) : Int)) : (posN cs s).getD (posU cs s p).length 0 = p ∧ (posU cs s p).length < (posN cs s).length := by
  obtain ⟨d, hd⟩ : ∃ d, wN cs = p + 1 + d := ⟨wN cs - (p + 1), by omega⟩
  unfold posN
  rw [hd]
  exact pos_at e d
theorem posN_mem {cs : List Int} {s j : Nat} (hj : j < (posN cs s).length) : (posN cs s).getD j 0 < wN cs ∧ (dealtN cs).getD ((posN cs s).getD j 0) 0 = ((s : Nat) : Int) := by
  have m : (posN cs s).getD j 0 ∈ posN cs s := getD_in hj
  unfold posN posU at m
  obtain ⟨a, b⟩ := List.mem_filter.mp m
  exact ⟨List.mem_range.mp a, of_decide_eq_true b⟩
theorem posN_inj {cs : List Int} {s i j : Nat} (hi : i < (posN cs s).length) (hj : j < (posN cs s).length) (e : (posN cs s).getD i 0 = (posN cs s).getD j 0) : i = j := by
  have nd : (posN cs s).Nodup := List.Pairwise.sublist List.filter_sublist List.nodup_range
  rw [List.getD_eq_getElem?_getD, List.getElem?_eq_getElem hi, List.getD_eq_getElem?_getD, List.getElem?_eq_getElem hj] at e
  exact (List.getElem_inj nd).mp e
def numN (cs : List Int) (p : Nat) : Int := cs.getD ((dealtN cs).getD p 0).toNat 0 + ((posU cs ((dealtN cs).getD p 0).toNat p).length : Int)
def numsU (cs : List Int) (i : Nat) : List Int := (List.range i).map (numN cs)
def placesU (cs : List Int) (i : Nat) : List (List Int) := (List.range cs.length).map fun s => (posU cs s i).map fun p => ((p : Nat) : Int)
theorem numsU_len (cs : List Int) (i : Nat) : (numsU cs i).length = i := by unfold numsU; rw [List.length_map, List.length_range]
theorem numsU_at {cs : List Int} {i p : Nat} (h : p < i) : (numsU cs i).getD p 0 = numN cs p := by
  unfold numsU
  rw [List.getD_eq_getElem?_getD, List.getElem?_map, List.getElem?_range h]
  rfl
theorem placesU_at {cs : List Int} {i s : Nat} (h : s < cs.length) : (placesU cs i).getD s [] = (posU cs s i).map fun p => ((p : Nat) : Int) := getD_rng _ h
theorem placesU_succ {cs : List Int} {i s : Nat} (hs : s < cs.length) (e : (dealtN cs).getD i 0 = ((s : Nat) : Int)) : placesU cs (i + 1) = (placesU cs i).set s (((posU cs s i).map fun p => ((p : Nat) : Int)) ++ [((i : Nat) : Int)]) := by
  unfold placesU
  refine List.ext_getElem (by simp) fun j h1 h2 => ?_
  rw [List.getElem_set, List.getElem_map, List.getElem_range, posU_succ]
  by_cases z : s = j
  · subst z
    rw [if_pos rfl, if_pos e, List.map_append]
    rfl
  · rw [if_neg z, if_neg (fun y => z (by have := e.symm.trans y; omega)), List.append_nil, List.getElem_map, List.getElem_range]
/-! ### the object -/
def fldO (w : Int) (kl sg pl nl : Addr) : List (Str × V) := [("kept", .ref kl), ("total", .int w), ("signs", .ref sg), ("places", .ref pl), ("numbers", .ref nl)]
section
variable (w : Int) (kl sg pl nl : Addr)
theorem lO_kept : (fldO w kl sg pl nl).lookup ("kept" : Str) = some (.ref kl) := look_here
theorem lO_total : (fldO w kl sg pl nl).lookup ("total" : Str) = some (.int w) := by unfold fldO; rw [look_cons (by decide +kernel), look_here]
theorem lO_signs : (fldO w kl sg pl nl).lookup ("signs" : Str) = some (.ref sg) := by unfold fldO; rw [look_cons (by decide +kernel), look_cons (by decide +kernel), look_here]
theorem lO_places : (fldO w kl sg pl nl).lookup ("places" : Str) = some (.ref pl) := by unfold fldO; rw [look_cons (by decide +kernel), look_cons (by decide +kernel), look_cons (by decide +kernel), look_here]
theorem lO_numbers : (fldO w kl sg pl nl).lookup ("numbers" : Str) = some (.ref nl) := by unfold fldO; rw [look_cons (by decide +kernel), look_cons (by decide +kernel), look_cons (by decide +kernel), look_cons (by decide +kernel), look_here]
theorem nO {f : Str} (h1 : ¬ f = "kept") (h2 : ¬ f = "total") (h3 : ¬ f = "signs") (h4 : ¬ f = "places") (h5 : ¬ f = "numbers") : (fldO w kl sg pl nl).lookup f = none := by unfold fldO; rw [look_cons h1, look_cons h2, look_cons h3, look_cons h4, look_cons h5]; rfl
theorem nO_check : (fldO w kl sg pl nl).lookup ("check_number" : Str) = none := nO _ _ _ _ _ (by decide +kernel) (by decide +kernel) (by decide +kernel) (by decide +kernel) (by decide +kernel)
theorem nO_raised : (fldO w kl sg pl nl).lookup ("raised" : Str) = none := nO _ _ _ _ _ (by decide +kernel) (by decide +kernel) (by decide +kernel) (by decide +kernel) (by decide +kernel)
theorem nO_lowered : (fldO w kl sg pl nl).lookup ("lowered" : Str) = none := nO _ _ _ _ _ (by decide +kernel) (by decide +kernel) (by decide +kernel) (by decide +kernel) (by decide +kernel)
theorem nO_laid : (fldO w kl sg pl nl).lookup ("laid" : Str) = none := nO _ _ _ _ _ (by decide +kernel) (by decide +kernel) (by decide +kernel) (by decide +kernel) (by decide +kernel)
theorem nO_taken : (fldO w kl sg pl nl).lookup ("taken" : Str) = none := nO _ _ _ _ _ (by decide +kernel) (by decide +kernel) (by decide +kernel) (by decide +kernel) (by decide +kernel)
theorem putO_total : putF "total" (.int w) ([("kept", .ref kl)] : List (Str × V)) = ([("kept", .ref kl), ("total", .int w)] : List (Str × V)) := by rw [putF_ne (by decide +kernel)]; rfl
theorem putO_signs : putF "signs" (.ref sg) ([("kept", .ref kl), ("total", .int w)] : List (Str × V)) = ([("kept", .ref kl), ("total", .int w), ("signs", .ref sg)] : List (Str × V)) := by rw [putF_ne (by decide +kernel), putF_ne (by decide +kernel)]; rfl
theorem putO_places : putF "places" (.ref pl) ([("kept", .ref kl), ("total", .int w), ("signs", .ref sg)] : List (Str × V)) = ([("kept", .ref kl), ("total", .int w), ("signs", .ref sg), ("places", .ref pl)] : List (Str × V)) := by rw [putF_ne (by decide +kernel), putF_ne (by decide +kernel), putF_ne (by decide +kernel)]; rfl
theorem putO_numbers : putF "numbers" (.ref nl) ([("kept", .ref kl), ("total", .int w), ("signs", .ref sg), ("places", .ref pl)] : List (Str × V)) = fldO w kl sg pl nl := by rw [putF_ne (by decide +kernel), putF_ne (by decide +kernel), putF_ne (by decide +kernel), putF_ne (by decide +kernel)]; rfl
end
structure SlAt (C : Addr) (H : Hp) (x : Addr) (cs : List Int) : Prop where
  gc : GoodC cs
  ex : ∃ dx kl sg pl nl as, H x = some (.ins C dx (fldO cs.sum kl sg pl nl)) ∧ H kl = some (.lst (cs.map V.int)) ∧ H sg = some (.lst ((dealtN cs).map V.int)) ∧ KeptAt H pl as (placesU cs (wN cs)) ∧ H nl = some (.lst ((numsU cs (wN cs)).map V.int))
theorem SlAt.same {C : Addr} {H H' : Hp} {x : Addr} {cs : List Int} (p : SlAt C H x cs) (s : Same H H') : SlAt C H' x cs :=
  let ⟨g, dx, kl, sg, pl, nl, as, a, b, c, d, e⟩ := p
  ⟨g, dx, kl, sg, pl, nl, as, s _ _ a, s _ _ b, s _ _ c, d.same s, s _ _ e⟩
theorem KeptAt.set {H : Hp} {D : Addr} {as : List Addr} {rows : List (List Int)} (k : KeptAt H D as rows) (nd : (D :: as).Nodup) {s : Nat} (hs : s < rows.length) (row : List Int) : KeptAt (upd H (as.getD s 0) (.lst (row.map V.int))) D as (rows.set s row) := by
  have hs' : s < as.length := by rw [k.len]; exact hs
  have nD : D ≠ as.getD s 0 := fun z => (List.nodup_cons.mp nd).1 (by rw [z]; exact getD_in hs')
  refine ⟨by rw [upd_ne nD]; exact k.ls, by rw [List.length_set]; exact k.len, fun i hi => ?_⟩
  rw [List.length_set] at hi
  by_cases z : s = i
  · subst z
    rw [upd_same, getD_set_same hs]
  · rw [upd_ne (getD_ne (List.nodup_cons.mp nd).2 (by rw [k.len]; exact hi) hs' (fun y => z y.symm)), getD_set_other z]
    exact k.at_ i hi
theorem getD_cast (ps : List Nat) (j : Nat) : (ps.map fun p => ((p : Nat) : Int)).getD j 0 = ((ps.getD j 0 : Nat) : Int) := by
  rw [List.getD_eq_getElem?_getD, List.getElem?_map, List.getD_eq_getElem?_getD]
  cases ps[j]? <;> rfl
/-! the law's own way -/
/-- an object of slots that stands on new things alone -/
def SlNew (C : Addr) (H H' : Hp) (x : Addr) (cs : List Int) : Prop := ∀ H'', (∀ b o, H' b = some o → H b = none ∨ b = x → H'' b = some o) → SlAt C H'' x cs
theorem SlNew.at {C : Addr} {H H' : Hp} {x : Addr} {cs : List Int} (p : SlNew C H H' x cs) : SlAt C H' x cs := p H' fun _ _ e _ => e
end Np

set_option Elab.async false
set_option linter.all false
set_option maxRecDepth 100000
namespace L2
open PySem PySem.Spec PyProof.Rows
section
variable {X : Cx}
/-- != of tuples that are the same throughout -/
def rNeTD (K : PySem.W.Frag) : R2 := fun x y H Q => ∃ n a b xs ys, n ≤ 20 ∧ x = .ref a ∧ y = .ref b ∧ SqT K H a xs ∧ SqT K H b ys ∧ xs.length = ys.length ∧ (∀ (i : Nat) (x y : V), xs[i]? = some x → ys[i]? = some y → DE K H n x y) ∧ Q (.bl false) H
theorem op_neTD (hu : X.A.units + 100 < cLine) : OpR X (compareOp .NotEq) (rNeTD X.K) := by
  rintro pins s σ H x y v u Q I rx ry ⟨n, a, b, xs, ys, hn, rfl, rfl, ha, hb, hl, d, q⟩
  cases (show v = .ref a from rx)
  cases (show u = .ref b from ry)
  obtain ⟨is1, v1, p1, _⟩ := I.tuple ha
  obtain ⟨is2, v2, p2, _⟩ := I.tuple hb
  have l1 : is1.length = xs.length := by have := v1.length; omega
  have l2 : is2.length = ys.length := by have := v2.length; omega
  have s1 : is1.toArray.size = xs.length := by simpa using l1
  have s2 : is2.toArray.size = xs.length := by rw [hl]; simpa using l2
  have z := SeqAt.RcNeAt.tuples (A := X.A) (e := fun _ => true) p1 p2 (by omega) fun j h1 h2 => by
    have g1 : j < xs.length := by omega
    have g2 : j < ys.length := by omega
    obtain ⟨w1, e1, r1⟩ := Vals.get v1 (List.getElem?_eq_getElem g1)
    obtain ⟨w2, e2, r2⟩ := Vals.get v2 (List.getElem?_eq_getElem g2)
    have x1 : is1.toArray[j] = w1 := by
      have : is1.toArray[j]? = some w1 := by simpa using e1
      rw [Array.getElem?_eq_getElem h1] at this
      exact Option.some.inj this
    have x2 : is2.toArray[j] = w2 := by
      have : is2.toArray[j]? = some w2 := by simpa using e2
      rw [Array.getElem?_eq_getElem h2] at this
      exact Option.some.inj this
    rw [x1, x2]
    exact (de_both I n).1 X.A.in1 _ _ _ _ (by show X.A.units + 1 + n < _; omega) (d j _ _ (List.getElem?_eq_getElem g1) (List.getElem?_eq_getElem g2)) r1 r2
  rw [s1, s2, Nat.min_self, beq_self_eq_true, Bool.and_true] at z
  have e : (!((List.range xs.length).all fun _ => true)) = false := by simp
  rw [e] at z
  exact z _ _ _ _ ⟨.bl false, H, I, rfl, q⟩
end
end L2
namespace Np
open L2 PySem
theorem de_int {K : PySem.W.Frag} {H : Hp} {n : Nat} (i : Int) : DE K H n (.int i) (.int i) := by
  cases n with
  | zero => exact ⟨i, rfl, rfl⟩
  | succ n => exact .inl ⟨i, rfl, rfl⟩
/-! ### rows by dealt slots -/
def layB (cs : List Int) (s : Nat) (n : Int) (bits : List Int) : Int × List Int :=
  (cs.sum + (((posN cs s).getD ((flush 2 (2 * cs.getD s 0) n bits).1 - cs.getD s 0).toNat 0 : Nat) : Int), (flush 2 (2 * cs.getD s 0) n bits).2)
def layRB (cs : List Int) : List Int → Int × List Int → Int × List Int
  | [], x => x
  | k :: r, x => layB cs k.toNat (layRB cs r x).1 (layRB cs r x).2
def preB (row : List Int) (x : Option (List Int × Int × List Int)) : Option (List Int × Int × List Int) := x.map fun y => (row ++ y.1, y.2)
def runB (cs : List Int) : Nat → Int → List Int → Option (List Int × Int × List Int)
  | 0, n, st => some ([], n, st)
  | m + 1, n, st => (refill 2 cs.sum st (numN cs (n - cs.sum).toNat)).bind fun y => preB [(dealtN cs).getD (n - cs.sum).toNat 0] (runB cs m y.1 y.2)
theorem preB_pre (a b : List Int) (x : Option (List Int × Int × List Int)) : preB a (preB b x) = preB (a ++ b) x := by
  cases x with
  | none => rfl
  | some y => show some (a ++ (b ++ y.1), y.2) = some (a ++ b ++ y.1, y.2); rw [List.append_assoc]
theorem preB_nil (x : Option (List Int × Int × List Int)) : preB [] x = x := by cases x <;> rfl
section
variable {cs : List Int} (gc : GoodC cs)
include gc
theorem numN_rng {p : Nat} (hp : p < wN cs) : 0 ≤ numN cs p ∧ numN cs p < cs.sum * 2 := by
  obtain ⟨s, es, hs, hc⟩ := dealt_rng gc hp
  obtain ⟨q1, q2⟩ := posN_at hp es
  have pl := posN_len gc hs
  have le := sum_ge gc hs
  have e : numN cs p = cs.getD s 0 + ((posU cs s p).length : Int) := by unfold numN; rw [es, Int.toNat_natCast]
  omega
theorem numN_pos {s j : Nat} (hs : s < cs.length) (hj : j < (posN cs s).length) : numN cs ((posN cs s).getD j 0) = cs.getD s 0 + (j : Int) := by
  obtain ⟨p1, p2⟩ := posN_mem hj
  obtain ⟨q1, q2⟩ := posN_at p1 p2
  have := posN_inj q2 hj q1
  unfold numN
  rw [p2, Int.toNat_natCast, this]
theorem layB_ok {s : Nat} (hs : s < cs.length) (hc : 0 < cs.getD s 0) {n : Int} (bits : List Int) (h0 : cs.sum ≤ n) (h1 : n < 2 * cs.sum) :
    cs.sum ≤ (layB cs s n bits).1 ∧ (layB cs s n bits).1 < 2 * cs.sum ∧ (dealtN cs).getD ((layB cs s n bits).1 - cs.sum).toNat 0 = ((s : Nat) : Int) ∧ refill 2 cs.sum (layB cs s n bits).2.reverse (numN cs ((layB cs s n bits).1 - cs.sum).toNat) = some (n, bits.reverse) ∧ cs.getD s 0 ≤ (flush 2 (2 * cs.getD s 0) n bits).1 ∧ (flush 2 (2 * cs.getD s 0) n bits).1 < 2 * cs.getD s 0 := by
  obtain ⟨w1, w2, w3⟩ := gc.wpos
  have le := sum_ge gc hs
  have pl := posN_len gc hs
  obtain ⟨f1, f2⟩ := flush_rng (b := 2) (bd := 2 * cs.getD s 0) (by decide) (by omega) (m := cs.getD s 0) (by omega) n bits (by omega)
  have rf := refill_flush (b := 2) (bd := 2 * cs.getD s 0) (lo := cs.sum) (by decide) (by omega) (by omega) n bits (by omega)
  rw [refill_stop h0] at rf
  have hj : ((flush 2 (2 * cs.getD s 0) n bits).1 - cs.getD s 0).toNat < (posN cs s).length := by omega
  have np := numN_pos gc hs hj
  obtain ⟨p1, p2⟩ := posN_mem hj
  have e1 : ((layB cs s n bits).1 - cs.sum).toNat = (posN cs s).getD ((flush 2 (2 * cs.getD s 0) n bits).1 - cs.getD s 0).toNat 0 := by unfold layB; omega
  rw [e1, p2, np]
  have e2 : cs.getD s 0 + ((((flush 2 (2 * cs.getD s 0) n bits).1 - cs.getD s 0).toNat : Nat) : Int) = (flush 2 (2 * cs.getD s 0) n bits).1 := by omega
  rw [e2]
  exact ⟨by unfold layB; omega, by unfold layB; omega, rfl, rf, f1, f2⟩
theorem layRB_ok {n : Int} {bits : List Int} (h0 : cs.sum ≤ n) (h1 : n < 2 * cs.sum) : ∀ {row : List Int}, (∀ k ∈ row, OkS cs k) → cs.sum ≤ (layRB cs row (n, bits)).1 ∧ (layRB cs row (n, bits)).1 < 2 * cs.sum ∧ runB cs row.length (layRB cs row (n, bits)).1 (layRB cs row (n, bits)).2.reverse = some (row, n, bits.reverse)
  | [], _ => ⟨h0, h1, rfl⟩
  | k :: r, h => by
    obtain ⟨i0, i1, i2⟩ := layRB_ok h0 h1 (row := r) fun x hx => h x (List.mem_cons_of_mem _ hx)
    obtain ⟨k0, k1, k2⟩ := h k List.mem_cons_self
    obtain ⟨a, b, c, d, _, _⟩ := layB_ok gc (s := k.toNat) (by omega) k2 (layRB cs r (n, bits)).2 i0 i1
    refine ⟨a, b, ?_⟩
    show (refill 2 cs.sum (layB cs k.toNat (layRB cs r (n, bits)).1 (layRB cs r (n, bits)).2).2.reverse (numN cs ((layB cs k.toNat (layRB cs r (n, bits)).1 (layRB cs r (n, bits)).2).1 - cs.sum).toNat)).bind _ = _
    rw [d]
    show preB [(dealtN cs).getD ((layB cs k.toNat (layRB cs r (n, bits)).1 (layRB cs r (n, bits)).2).1 - cs.sum).toNat 0] (runB cs r.length (layRB cs r (n, bits)).1 (layRB cs r (n, bits)).2.reverse) = _
    rw [i2, c, Int.toNat_of_nonneg k0]
    rfl
end
theorem refill_app {b lo : Int} : ∀ {S T : List Int} {n n' : Int} {r : List Int}, refill b lo S n = some (n', r) → refill b lo (S ++ T) n = some (n', r ++ T)
  | [], T, n, n', r, e => by
    unfold refill at e
    by_cases c : n < lo
    · rw [if_pos c] at e; cases e
    · rw [if_neg c] at e; cases e
      exact refill_stop (by omega) T
  | w :: S, T, n, n', r, e => by
    unfold refill at e
    rw [List.cons_append]
    unfold refill
    by_cases c : n < lo
    · rw [if_pos c] at e ⊢
      exact refill_app e
    · rw [if_neg c] at e ⊢
      cases e
      rfl
theorem runB_app {cs : List Int} {T : List Int} : ∀ {m : Nat} {n : Int} {S row : List Int} {n' : Int} {r : List Int}, runB cs m n S = some (row, n', r) → runB cs m n (S ++ T) = some (row, n', r ++ T)
  | 0, n, S, row, n', r, e => by
    unfold runB at e ⊢
    cases e
    rfl
  | m + 1, n, S, row, n', r, e => by
    unfold runB at e ⊢
    cases q : refill 2 cs.sum S (numN cs (n - cs.sum).toNat) with
    | none => rw [q] at e; cases e
    | some y =>
      obtain ⟨y1, y2⟩ := y
      rw [q] at e
      rw [refill_app (T := T) q]
      have e : preB [(dealtN cs).getD (n - cs.sum).toNat 0] (runB cs m y1 y2) = some (row, n', r) := e
      show preB [(dealtN cs).getD (n - cs.sum).toNat 0] (runB cs m y1 (y2 ++ T)) = _
      cases q2 : runB cs m y1 y2 with
      | none => rw [q2] at e; cases e
      | some z =>
        obtain ⟨z1, z2, z3⟩ := z
        rw [q2] at e
        rw [runB_app q2]
        cases e
        rfl
theorem runB_lack {cs : List Int} {m : Nat} {n n' : Int} {row bits : List Int} (e : runB cs m n bits.reverse = some (row, n', [])) (hb : bits ≠ []) : runB cs m n (bits.drop 1).reverse = none := by
  cases bits with
  | nil => exact absurd rfl hb
  | cons b r =>
    show runB cs m n r.reverse = none
    cases q : runB cs m n r.reverse with
    | none => rfl
    | some z =>
      obtain ⟨z1, z2, z3⟩ := z
      have := runB_app (T := [b]) q
      rw [List.reverse_cons, this] at e
      have e2 := (Prod.mk.inj (Prod.mk.inj (Option.some.inj e)).2).2
      simp at e2
theorem layRB_drop {cs : List Int} {row : List Int} {i : Nat} (h : i < row.length) (x : Int × List Int) : layRB cs (row.drop (row.length - (i + 1))) x = layB cs (row.getD (row.length - 1 - i) 0).toNat (layRB cs (row.drop (row.length - i)) x).1 (layRB cs (row.drop (row.length - i)) x).2 := by
  have e : row.length - (i + 1) = row.length - 1 - i := by omega
  have e2 : row.length - i = row.length - 1 - i + 1 := by omega
  rw [e, e2, List.drop_eq_getElem_cons (show row.length - 1 - i < row.length by omega), List.getD_eq_getElem?_getD, List.getElem?_eq_getElem (show row.length - 1 - i < row.length by omega)]
  rfl
theorem flush_len2 {cs : List Int} {s : Nat} (hc : 0 < cs.getD s 0) {n : Int} {bits : List Int} (h : n < 2 * cs.sum) (hs : cs.sum ≤ 8192) : (layB cs s n bits).2.length ≤ bits.length + 14 := by
  refine flush_grow (b := 2) (bd := 2 * cs.getD s 0) (by decide) (by omega) n bits 14 ?_
  have e3 : (2 : Int) ^ 14 = 16384 := by decide
  rw [e3]
  omega
theorem layRB_len {cs : List Int} (gc : GoodC cs) (hs : cs.sum ≤ 8192) {n : Int} (h0 : cs.sum ≤ n) (h1 : n < 2 * cs.sum) : ∀ {row : List Int}, (∀ k ∈ row, OkS cs k) → (layRB cs row (n, [])).2.length ≤ 14 * row.length ∧ ∀ b ∈ (layRB cs row (n, [])).2, 0 ≤ b ∧ b < 2
  | [], _ => ⟨Nat.zero_le _, fun b hb => by cases hb⟩
  | k :: r, h => by
    obtain ⟨i0, i1⟩ := layRB_len gc hs h0 h1 (row := r) fun x hx => h x (List.mem_cons_of_mem _ hx)
    obtain ⟨j0, j1, _⟩ := layRB_ok gc (bits := []) h0 h1 (row := r) fun x hx => h x (List.mem_cons_of_mem _ hx)
    obtain ⟨k0, k1, k2⟩ := h k List.mem_cons_self
    have := flush_len2 (cs := cs) (s := k.toNat) k2 (bits := (layRB cs r (n, [])).2) j1 hs
    refine ⟨by rw [List.length_cons]; show (layB cs k.toNat _ _).2.length ≤ _; omega, flush_words (b := 2) (bd := 2 * cs.getD k.toNat 0) (by decide) (by omega) _ _ i1⟩
def drawV2 (c : Int) : V → V
  | .int k => .int (draw c k 2)
  | y => y
def othersN (c m : Int) : List Int := (List.range m.toNat).map fun k => draw c ((k : Nat) : Int) 2
theorem others_map (c m : Int) : ((List.range m.toNat).map fun k => V.int (0 + (k : Nat))).map (drawV2 c) = (othersN c m).map V.int := by
  unfold othersN
  rw [List.map_map, List.map_map]
  refine List.map_congr_left fun k _ => ?_
  show V.int (draw c (0 + (k : Nat)) 2) = V.int (draw c (k : Nat) 2)
  rw [Int.zero_add]
theorem others_rng (c m : Int) : ∀ b ∈ othersN c m, 0 ≤ b ∧ b < 2 := fun b hb => by
  unfold othersN at hb
  obtain ⟨k, _, rfl⟩ := List.mem_map.mp hb
  exact draw_rng c _ (by decide)
theorem cut_one (ns : List Int) : cutV (ns.map V.int) (some 1) none = (ns.drop 1).map V.int := by
  unfold cutV
  rw [HT.sIx_none, List.length_map]
  have e : (1 : Int) = ((1 : Nat) : Int) := rfl
  rw [e, HT.sIx_nat]
  rcases Nat.lt_or_ge 1 ns.length with h | h
  · rw [Nat.min_eq_left (by omega), ← List.map_drop, List.take_of_length_le (by rw [List.length_map, List.length_drop]; omega)]
  · rw [Nat.min_eq_right h, ← List.map_drop, List.drop_of_length_le (by omega), List.drop_of_length_le h, Nat.sub_self]
    rfl
end Np

set_option maxHeartbeats 4000000
local macro_rules | `(tactic| walk_at "r") => `(tactic| repeat (first | refine ⟨_, rfl, ?_⟩ | refine ⟨_, _, rfl, rfl, ?_⟩ | refine ⟨rfl, ?_⟩ | refine ⟨⟨by first | decide | omega, by first | decide | omega⟩, ?_⟩ | refine ⟨(by show (0 : Int) < _; first | decide | omega), ?_⟩ | refine ⟨.inr ⟨by first | decide | omega, by first | decide | omega⟩, ?_⟩ | refine ⟨.inl ⟨by first | decide | omega, by first | decide | omega⟩, ?_⟩))
namespace T
open PySem L2 Np
def top (i : Nat) : Stmt := PySem.Challenge.pw_numberpile_k15_rows_by_dealt_slots.main.body.getD i (.Pass ⟨0, 0, 0, 0⟩)
structure GC (mg : Str → Option Value) : Prop where
  MOST_SIGNS : ∃ t, mg "MOST_SIGNS" = some (.int 100 t)
  MOST_COUNT : ∃ t, mg "MOST_COUNT" = some (.int 999 t)
structure TF (K : PySem.W.Frag) (mg : Str → Option Value) (T : Cl) : Prop where
  fO : SlotsF K T.O
  mO : mg "Slots" = some (.ref T.O)
def Av (T : Cl) (C : Addr) : Prop := C = T.O
structure XF (K : PySem.W.Frag) (mg : Str → Option Value) (ec : Ec) : Prop where
  mPileError : mg "PileError" = some (.ref ec.pileError)
  oPileError : PySem.W.excIn K ec.pileError bmV "ValueError.__new__" = true
  sPileError : PySem.W.mroIn K ec.pileError (.ref ec.pileError) = some true
  mNoShares : mg "NoShares" = some (.ref ec.noShares)
  oNoShares : PySem.W.excIn K ec.noShares bmV "ValueError.__new__" = true
  sNoShares : PySem.W.mroIn K ec.noShares (.ref ec.noShares) = some true
  pNoShares : PySem.W.mroIn K ec.noShares (.ref ec.pileError) = some true
  mNoPile : mg "NoPile" = some (.ref ec.noPile)
  oNoPile : PySem.W.excIn K ec.noPile bmV "ValueError.__new__" = true
  sNoPile : PySem.W.mroIn K ec.noPile (.ref ec.noPile) = some true
  pNoPile : PySem.W.mroIn K ec.noPile (.ref ec.pileError) = some true
  mNoSign : mg "NoSign" = some (.ref ec.noSign)
  oNoSign : PySem.W.excIn K ec.noSign bmV "ValueError.__new__" = true
  sNoSign : PySem.W.mroIn K ec.noSign (.ref ec.noSign) = some true
  pNoSign : PySem.W.mroIn K ec.noSign (.ref ec.pileError) = some true
  mNoSlot : mg "NoSlot" = some (.ref ec.noSlot)
  oNoSlot : PySem.W.excIn K ec.noSlot bmV "ValueError.__new__" = true
  sNoSlot : PySem.W.mroIn K ec.noSlot (.ref ec.noSlot) = some true
  pNoSlot : PySem.W.mroIn K ec.noSlot (.ref ec.pileError) = some true
  mNoMore : mg "NoMore" = some (.ref ec.noMore)
  oNoMore : PySem.W.excIn K ec.noMore bmV "ValueError.__new__" = true
  sNoMore : PySem.W.mroIn K ec.noMore (.ref ec.noMore) = some true
  pNoMore : PySem.W.mroIn K ec.noMore (.ref ec.pileError) = some true
abbrev s_check_counts : Stmt := top 11
theorem sc_check_counts : FnScope ["counts", "count"] ["counts"] (defScope s_check_counts) := ⟨rfl, rfl, rfl, by decide +kernel, rfl, by decide +kernel, by decide +kernel⟩
def sp_check_counts (K : PySem.W.Frag) (T : Cl) (ec : Ec) : Sp := fun vs H Q _ => ∃ (a : Addr) (ns : List Int), vs = [.ref a] ∧ SqL K H a (ns.map V.int) ∧ GoodC ns ∧ Q .non H
theorem ok_check_counts {P : Program} {w : World} {K : PySem.W.Frag} {mg : Str → Option Value} {base : Heap} {T : Cl} {ec : Ec} (z : BI mg) (g : GC mg) (tf : TF K mg T) (xf : XF K mg ec) (D : Def K mg "check_counts" s_check_counts ["counts"]) : Cal P w K mg base 1 "check_counts" ["counts"] (sp_check_counts K T ec) := by
  refine D.ok sc_check_counts (fun vs H Q E h => ?_) (fun f cdv A outer s H vs Q E hr h => ?_)
  · obtain ⟨a, ns, rfl, hS, g0, q⟩ := h; rfl
  obtain ⟨a, ns, rfl, hS, g0, q⟩ := h
  refine ⟨_, (pss_cons (ps_if (pt_not (pt_chain op_le op_le pe_int (pe_callB call_len_seq rfl z.len b_len (pa_cons (pv 0) pa_nil)) (pe_gint rfl g.MOST_SIGNS))) (pss_one ps_never) pss_nil)
      (pss_cons (ps_for PassesOwn.never rfl (pi_list (pv 0)) (pg_name (i := 1) sc_check_counts.nd rfl (Or.inl rfl)) (pss_one (ps_if (pt_not (pt_chain op_le op_le pe_int (pv 1) (pe_gint rfl g.MOST_COUNT))) (pss_one ps_never) pss_nil)))
      (pss_one (ps_if (pt_cmpR op_eq (pe_callB (call_sum rfl) rfl z.sum b_sum (pa_cons (pv 0) pa_nil)) pe_int (nomark _)) (pss_one ps_never) pss_nil)))), ?_⟩
  have hl : (ns.map V.int).length = ns.length := List.length_map _
  have l0 := g0.len0
  have l1 := g0.len1
  -- the length
  refine ⟨_, rfl, a, _, rfl, .inl hS, _, _, rfl, rfl, _, rfl, ?_⟩
  refine ite2 (fun _ => ?_) (fun c => absurd (decide_eq_true (by rw [hl]; omega)) c)
  refine ⟨_, _, rfl, rfl, _, rfl, ?_⟩
  have e1 : decide (((ns.map V.int).length : Int) ≤ 100) = true := decide_eq_true (by rw [hl]; omega)
  rw [e1]
  refine iteF ?_
  -- the loop
  refine ⟨_, rfl, a, rfl, ⟨_, hS⟩, for_list (K := K) (a := a) (xs := ns.map V.int) (fun i σ H2 => ∃ v, σ = [some (.ref a), v] ∧ H2 = H) ⟨none, rfl, rfl⟩ (fun i σ H2 _ ⟨_, _, e⟩ => e ▸ hS) ?_ ?_⟩
  · rintro i y σ H2 hi ⟨v, rfl, rfl⟩
    obtain ⟨n, hn, rfl⟩ := mem_at hi
    have hr := g0.rng n hn
    refine ⟨_, rfl, _, _, rfl, rfl, _, rfl, ?_⟩
    refine ite2 (fun _ => ?_) (fun c => absurd (decide_eq_true hr.1) c)
    refine ⟨_, _, rfl, rfl, _, rfl, ?_⟩
    have e1 : decide (n ≤ 999) = true := decide_eq_true hr.2
    rw [e1]
    refine iteF ?_
    exact ⟨_, rfl, rfl⟩
  · rintro σ H2 ⟨v, rfl, rfl⟩
    refine ⟨_, rfl, a, ns, rfl, hS, rfl, _, rfl, ?_⟩
    have e1 : decide (V.int ns.sum = V.int 0) = false := decide_eq_false (fun e => by have := V.int.inj e; have := g0.pos; omega)
    rw [e1]
    refine iteF ?_
    exact ⟨_, Less.refl, q⟩
abbrev s_check_sign : Stmt := top 12
theorem sc_check_sign : FnScope ["many", "sign"] ["many", "sign"] (defScope s_check_sign) := ⟨rfl, rfl, rfl, by decide +kernel, rfl, by decide +kernel, by decide +kernel⟩
def sp_check_sign (K : PySem.W.Frag) (T : Cl) (ec : Ec) : Sp := fun vs H Q _ => ∃ (m k : Int), vs = [.int m, .int k] ∧ 0 ≤ k ∧ k < m ∧ Q .non H
theorem ok_check_sign {P : Program} {w : World} {K : PySem.W.Frag} {mg : Str → Option Value} {base : Heap} {T : Cl} {ec : Ec} (z : BI mg) (g : GC mg) (tf : TF K mg T) (xf : XF K mg ec) (D : Def K mg "check_sign" s_check_sign ["many", "sign"]) : Cal P w K mg base 1 "check_sign" ["many", "sign"] (sp_check_sign K T ec) := by
  refine D.ok sc_check_sign (fun vs H Q E h => ?_) (fun f cdv A outer s H vs Q E hr h => ?_)
  · obtain ⟨m, k, rfl, h0, h1, q⟩ := h; rfl
  obtain ⟨m, k, rfl, h0, h1, q⟩ := h
  refine ⟨_, (pss_one (ps_if (pt_not (pt_chain op_le op_lt pe_int (pv 1) (pv 0))) (pss_one ps_never) pss_nil)), ?_⟩
  refine ⟨_, rfl, _, _, rfl, rfl, _, rfl, ?_⟩
  refine ite2 (fun _ => ?_) (fun c => absurd (decide_eq_true h0) c)
  refine ⟨_, rfl, _, _, rfl, rfl, _, rfl, ?_⟩
  have e1 : decide (k < m) = true := decide_eq_true h1
  rw [e1]
  refine iteF ?_
  exact ⟨_, Less.refl, q⟩
abbrev s_count_of : Stmt := top 13
theorem sc_count_of : FnScope ["counts", "sign"] ["counts", "sign"] (defScope s_count_of) := ⟨rfl, rfl, rfl, by decide +kernel, rfl, by decide +kernel, by decide +kernel⟩
def sp_count_of (K : PySem.W.Frag) (T : Cl) (ec : Ec) : Sp := fun vs H Q _ => ∃ (a : Addr) (ns : List Int) (k : Int), vs = [.ref a, .int k] ∧ SqL K H a (ns.map V.int) ∧ 0 ≤ k ∧ k < (ns.length : Int) ∧ 0 < ns.getD k.toNat 0 ∧ Q (.int (ns.getD k.toNat 0)) H
theorem ok_count_of {P : Program} {w : World} {K : PySem.W.Frag} {mg : Str → Option Value} {base : Heap} {T : Cl} {ec : Ec} (z : BI mg) (g : GC mg) (tf : TF K mg T) (xf : XF K mg ec) (D : Def K mg "count_of" s_count_of ["counts", "sign"]) (C_check_sign : Cal P w K mg base 1 "check_sign" ["many", "sign"] (sp_check_sign K T ec)) : Cal P w K mg base 2 "count_of" ["counts", "sign"] (sp_count_of K T ec) := by
  refine D.ok sc_count_of (fun vs H Q E h => ?_) (fun f cdv A outer s H vs Q E hr h => ?_)
  · obtain ⟨a, ns, k, rfl, hS, h0, h1, h2, q⟩ := h; rfl
  obtain ⟨a, ns, k, rfl, hS, h0, h1, h2, q⟩ := h
  refine ⟨_, (pss_cons (ps_expr (pe_def (C_check_sign.mono (by decide)) hr rfl (pa_cons (pe_callB call_len_seq rfl z.len b_len (pa_cons (pv 0) pa_nil)) (pa_cons (pv 1) pa_nil))))
      (pss_cons (ps_if (pt_cmpR op_eq (pe_ix ix_list (pv 0) (pv 1) (fun _ _ => rfl)) pe_int (nomark _)) (pss_one ps_never) pss_nil)
      (pss_one (ps_ret (pe_ix ix_list (pv 0) (pv 1) (fun _ _ => rfl)))))), ?_⟩
  refine ⟨_, rfl, a, _, rfl, .inl hS, _, rfl, _, _, rfl, h0, by rw [List.length_map]; exact h1, ?_⟩
  refine ⟨_, rfl, _, rfl, a, _, _, _, rfl, rfl, hS, atZ h0 h1, rfl, _, rfl, ?_⟩
  refine ite2 (fun e => absurd (V.int.inj (of_decide_eq_true e)) (by omega)) (fun _ => ?_)
  exact ⟨_, rfl, _, rfl, a, _, _, _, rfl, rfl, hS, atZ h0 h1, _, Less.refl, q⟩
abbrev s_whole : Stmt := top 14
theorem sc_whole : FnScope ["counts"] ["counts"] (defScope s_whole) := ⟨rfl, rfl, rfl, by decide +kernel, rfl, by decide +kernel, by decide +kernel⟩
def sp_whole (K : PySem.W.Frag) (T : Cl) (ec : Ec) : Sp := fun vs H Q _ => ∃ (a : Addr) (ns : List Int), vs = [.ref a] ∧ SqL K H a (ns.map V.int) ∧ GoodC ns ∧ Q (.int ns.sum) H
theorem ok_whole {P : Program} {w : World} {K : PySem.W.Frag} {mg : Str → Option Value} {base : Heap} {T : Cl} {ec : Ec} (z : BI mg) (g : GC mg) (tf : TF K mg T) (xf : XF K mg ec) (D : Def K mg "whole" s_whole ["counts"]) (C_check_counts : Cal P w K mg base 1 "check_counts" ["counts"] (sp_check_counts K T ec)) : Cal P w K mg base 2 "whole" ["counts"] (sp_whole K T ec) := by
  refine D.ok sc_whole (fun vs H Q E h => ?_) (fun f cdv A outer s H vs Q E hr h => ?_)
  · obtain ⟨a, ns, rfl, hS, g0, q⟩ := h; rfl
  obtain ⟨a, ns, rfl, hS, g0, q⟩ := h
  refine ⟨_, (pss_cons (ps_expr (pe_def (C_check_counts.mono (by decide)) hr rfl (pa_cons (pv 0) pa_nil)))
      (pss_one (ps_ret (pe_callB (call_sum rfl) rfl z.sum b_sum (pa_cons (pv 0) pa_nil))))), ?_⟩
  refine ⟨_, rfl, a, ns, rfl, hS, g0, ?_⟩
  refine ⟨_, rfl, a, ns, rfl, hS, ?_⟩
  exact ⟨_, Less.refl, q⟩
abbrev s_greatest_divisor : Stmt := top 16
theorem sc_greatest_divisor : FnScope ["one", "other", "rest"] ["one", "other"] (defScope s_greatest_divisor) := ⟨rfl, rfl, rfl, by decide +kernel, rfl, by decide +kernel, by decide +kernel⟩
def sp_greatest_divisor (K : PySem.W.Frag) (T : Cl) (ec : Ec) : Sp := fun vs H Q _ => ∃ (a b : Nat), vs = [.int (a : Int), .int (b : Int)] ∧ Q (.int ((Nat.gcd a b : Nat) : Int)) H
theorem ok_greatest_divisor {P : Program} {w : World} {K : PySem.W.Frag} {mg : Str → Option Value} {base : Heap} {T : Cl} {ec : Ec} (z : BI mg) (g : GC mg) (tf : TF K mg T) (xf : XF K mg ec) (D : Def K mg "greatest_divisor" s_greatest_divisor ["one", "other"]) : Cal P w K mg base 1 "greatest_divisor" ["one", "other"] (sp_greatest_divisor K T ec) := by
  refine D.ok sc_greatest_divisor (fun vs H Q E h => ?_) (fun f cdv A outer s H vs Q E hr h => ?_)
  · obtain ⟨a, b, rfl, q⟩ := h; rfl
  obtain ⟨a, b, rfl, q⟩ := h
  refine ⟨_, (pss_cons (ps_while PassesOwn.never (pt_cmpR op_gt (pv 1) pe_int (nomark _)) (pss_cons (ps_set (i := 2) sc_greatest_divisor.nd rfl (Or.inl rfl) (pe_op op_mod (pv 0) (pv 1)))
      (pss_cons (ps_set (i := 0) sc_greatest_divisor.nd rfl (Or.inl rfl) (pv 1))
      (pss_one (ps_set (i := 1) sc_greatest_divisor.nd rfl (Or.inl rfl) (pv 2))))))
      (pss_one (ps_ret (pv 0)))), ?_⟩
  refine while_by (fun σ H2 => ∃ (a' b' : Nat) (v : Option V), σ = [some (.int (a' : Int)), some (.int (b' : Int)), v] ∧ H2 = H ∧ Nat.gcd a' b' = Nat.gcd a b)
    (fun σ _ => match σ with | [_, some (.int b'), _] => b'.toNat | _ => 0) ⟨a, b, none, rfl, rfl, rfl⟩ ?_ ?_
  · rintro σ H2 ⟨a', b', v, rfl, rfl, e⟩
    refine ⟨_, rfl, _, _, rfl, rfl, _, rfl, ?_⟩
    refine ite2 (fun c => ?_) (fun c => ?_)
    · have c' : (0 : Int) < (b' : Int) := of_decide_eq_true c
      refine ⟨_, rfl, _, rfl, _, _, rfl, rfl, c', ?_⟩
      refine ⟨_, rfl, ?_⟩
      refine ⟨_, rfl, ?_⟩
      have em : (a' : Int) % (b' : Int) = ((a' % b' : Nat) : Int) := (Int.natCast_emod a' b').symm
      refine ⟨⟨b', a' % b', some (.int ((a' : Int) % (b' : Int))), ?_, rfl, ?_⟩, ?_⟩
      · rw [← em]
        rfl
      · rw [← e, Nat.gcd_comm a' b', Nat.gcd_rec b' a', Nat.gcd_comm]
      · show (((a' : Int) % (b' : Int))).toNat < ((b' : Int)).toNat
        have := Nat.mod_lt a' (show 0 < b' by omega)
        rw [em]
        omega
    · have c' : ¬ (0 : Int) < (b' : Int) := of_decide_eq_false (Bool.eq_false_iff.mpr c)
      have e0 : b' = 0 := by omega
      subst e0
      rw [Nat.gcd_zero_right] at e
      rw [← e] at q
      exact ⟨_, rfl, _, Less.refl, q⟩
  · rintro σ H2 Q1 Q2 hq ⟨v1, e1, i, j, x1, x2, k, x3, h⟩
    exact ⟨v1, e1, i, j, x1, x2, k, x3, hq _ _ h⟩
abbrev s_step_of : Stmt := top 17
theorem sc_step_of : FnScope ["total", "step"] ["total"] (defScope s_step_of) := ⟨rfl, rfl, rfl, by decide +kernel, rfl, by decide +kernel, by decide +kernel⟩
def sp_step_of (K : PySem.W.Frag) (T : Cl) (ec : Ec) : Sp := fun vs H Q _ => ∃ (w : Nat), vs = [.int (w : Int)] ∧ 1 ≤ w ∧ Q (.int ((stepOf w : Nat) : Int)) H
theorem ok_step_of {P : Program} {w : World} {K : PySem.W.Frag} {mg : Str → Option Value} {base : Heap} {T : Cl} {ec : Ec} (z : BI mg) (g : GC mg) (tf : TF K mg T) (xf : XF K mg ec) (D : Def K mg "step_of" s_step_of ["total"]) (C_greatest_divisor : Cal P w K mg base 1 "greatest_divisor" ["one", "other"] (sp_greatest_divisor K T ec)) : Cal P w K mg base 2 "step_of" ["total"] (sp_step_of K T ec) := by
  refine D.ok sc_step_of (fun vs H Q E h => ?_) (fun f cdv A outer s H vs Q E hr h => ?_)
  · obtain ⟨w, rfl, w1, q⟩ := h; rfl
  obtain ⟨w, rfl, w1, q⟩ := h
  refine ⟨_, (pss_cons (ps_set (i := 1) sc_step_of.nd rfl (Or.inl rfl) (pe_op op_add (pe_op op_add (pe_op op_fdiv (pv 0) pe_int) (pe_op op_fdiv (pv 0) pe_int)) pe_int))
      (pss_cons (ps_while PassesOwn.never (pt_cmpR op_gt (pe_def (C_greatest_divisor.mono (by decide)) hr rfl (pa_cons (pv 1) (pa_cons (pv 0) pa_nil))) pe_int (nomark _)) (pss_one (ps_aug (i := 1) sc_step_of.nd rfl (Or.inl rfl) pe_int ip_add)))
      (pss_one (ps_ret (pv 1))))), ?_⟩
  have l0 := step0_le w1
  refine ⟨_, rfl, _, _, rfl, rfl, ⟨by decide, by decide⟩, _, rfl, _, _, rfl, rfl, ⟨by decide, by decide⟩, _, _, rfl, rfl, _, _, rfl, rfl, ?_⟩
  have e0 : (w : Int) / 2 + (w : Int) / 8 + 3 = ((step0 w : Nat) : Int) := by unfold step0; omega
  dsimp only
  rw [e0]
  refine while_by (fun σ H2 => ∃ (s : Nat), σ = [some (.int (w : Int)), some (.int (s : Int))] ∧ H2 = H ∧ s ≤ 3 * w + 1 ∧ stepF w (3 * w + 1 - s) s = stepOf w)
    (fun σ _ => match σ with | [_, some (.int s)] => 3 * w + 1 - s.toNat | _ => 0) ⟨step0 w, rfl, rfl, l0, rfl⟩ ?_ ?_
  · rintro σ H2 ⟨s, rfl, rfl, hs, e⟩
    refine ⟨_, rfl, _, rfl, s, w, rfl, _, _, rfl, rfl, _, rfl, ?_⟩
    refine ite2 (fun c => ?_) (fun c => ?_)
    · have c' : (1 : Int) < ((Nat.gcd s w : Nat) : Int) := of_decide_eq_true c
      obtain ⟨g1, g2⟩ := stepF_go hs (show 1 < Nat.gcd s w by omega)
      refine ⟨_, rfl, _, _, rfl, rfl, ⟨s + 1, ?_, rfl, by omega, by rw [← g2]; exact e⟩, ?_⟩
      · rfl
      · show 3 * w + 1 - ((s : Int) + 1).toNat < 3 * w + 1 - ((s : Int)).toNat
        omega
    · have c' : ¬ (1 : Int) < ((Nat.gcd s w : Nat) : Int) := of_decide_eq_false (Bool.eq_false_iff.mpr c)
      rw [stepF_stop (by omega)] at e
      rw [← e] at q
      exact ⟨_, rfl, _, Less.refl, q⟩
  · rintro σ H2 Q1 Q2 hq ⟨v1, e1, v2, e2, a, b, e3, i, j, x1, x2, k, x3, h⟩
    exact ⟨v1, e1, v2, e2, a, b, e3, i, j, x1, x2, k, x3, hq _ _ h⟩
abbrev s_deal : Stmt := top 18
theorem sc_deal : FnScope ["counts", "total", "step", "signs", "slot", "sign", "count", "turn"] ["counts"] (defScope s_deal) := ⟨rfl, rfl, rfl, by decide +kernel, rfl, by decide +kernel, by decide +kernel⟩
def sp_deal (K : PySem.W.Frag) (T : Cl) (ec : Ec) : Sp := fun vs H Q _ => ∃ (a : Addr) (cs : List Int), vs = [.ref a] ∧ H a = some (.lst (cs.map V.int)) ∧ GoodC cs ∧ ∀ p, H p = none → Q (.ref p) (upd H p (.lst ((dealtN cs).map V.int)))
theorem ok_deal {P : Program} {w : World} {K : PySem.W.Frag} {mg : Str → Option Value} {base : Heap} {T : Cl} {ec : Ec} (z : BI mg) (g : GC mg) (tf : TF K mg T) (xf : XF K mg ec) (D : Def K mg "deal" s_deal ["counts"]) (C_whole : Cal P w K mg base 2 "whole" ["counts"] (sp_whole K T ec)) (C_step_of : Cal P w K mg base 2 "step_of" ["total"] (sp_step_of K T ec)) : Cal P w K mg base 3 "deal" ["counts"] (sp_deal K T ec) := by
  refine D.ok sc_deal (fun vs H Q E h => ?_) (fun f cdv A outer s H vs Q E hr h => ?_)
  · obtain ⟨a, cs, rfl, ha, gc, q⟩ := h; rfl
  obtain ⟨a, cs, rfl, ha, gc, q⟩ := h
  refine ⟨_, (pss_cons (ps_set (i := 1) sc_deal.nd rfl (Or.inl rfl) (pe_def (C_whole.mono (by decide)) hr rfl (pa_cons (pv 0) pa_nil)))
      (pss_cons (ps_set (i := 2) sc_deal.nd rfl (Or.inl rfl) (pe_def (C_step_of.mono (by decide)) hr rfl (pa_cons (pv 1) pa_nil)))
      (pss_cons (ps_set (i := 3) sc_deal.nd rfl (Or.inl rfl) (pe_op op_rep (pe_lst (pa_cons pe_int pa_nil)) (pv 1)))
      (pss_cons (ps_set (i := 4) sc_deal.nd rfl (Or.inl rfl) pe_int)
      (pss_cons (ps_for PassesOwn.never rfl (pi_enum rfl z.enumerate (pa_cons (pv 0) pa_nil)) (pg_tup rfl (pgs_cons (pg_name (i := 5) sc_deal.nd rfl (Or.inl rfl)) (pgs_cons (pg_name (i := 6) sc_deal.nd rfl (Or.inl rfl)) pgs_nil))) (pss_one (ps_for PassesOwn.never rfl (pi_range1 rfl z.range (pa_cons (pv 6) pa_nil)) (pg_name (i := 7) sc_deal.nd rfl (Or.inl rfl)) (pss_cons (ps_asg (pv 5) (pg_sub (pv 3) (pv 4) set_list))
      (pss_one (ps_set (i := 4) sc_deal.nd rfl (Or.inl rfl) (pe_op op_mod (pe_op op_add (pv 4) (pv 2)) (pv 1))))))))
      (pss_one (ps_ret (pv 3)))))))), ?_⟩
  obtain ⟨w1, w2, w3⟩ := gc.wpos
  refine ⟨_, rfl, a, cs, rfl, SqL.of ha, gc, ?_⟩
  rw [← w2]
  refine ⟨_, rfl, wN cs, rfl, w1, ?_⟩
  refine ⟨(by show 1 ≤ sizeLine; decide), fun u hu => ?_⟩
  refine ⟨_, rfl, u, _, _, rfl, rfl, upd_same, by omega, by omega, szl2 (by show 1 * _ ≤ _; rw [Int.toNat_natCast]; omega), fun D hD => ?_⟩
  have ez : (List.replicate ((wN cs : Nat) : Int).toNat ([.int 0] : List V)).flatten = (dealF cs (stepOf (wN cs)) (wN cs) 0).map V.int := by
    rw [Int.toNat_natCast]
    show _ = (List.replicate (wN cs) (0 : Int)).map V.int
    rw [List.map_replicate]
    generalize wN cs = n
    induction n with
    | zero => rfl
    | succ n ih => rw [List.replicate_succ, List.flatten_cons, ih, List.replicate_succ]; rfl
  rw [ez]
  have hDH : H D = none := (same_up hu).free hD
  have naD : a ≠ D := ne_of_none ha hDH
  have s1 := (same_up (u := .lst [.int 0]) hu).trans (same_up (u := .lst ((dealF cs (stepOf (wN cs)) (wN cs) 0).map V.int)) hD)
  have d1 : (upd (upd H u (.lst [.int 0])) D (.lst ((dealF cs (stepOf (wN cs)) (wN cs) 0).map V.int))) D = some (.lst ((dealF cs (stepOf (wN cs)) (wN cs) 0).map V.int)) := upd_same
  generalize upd (upd H u (.lst [.int 0])) D (.lst ((dealF cs (stepOf (wN cs)) (wN cs) 0).map V.int)) = H1 at s1 d1 ⊢
  have fN : ∀ s, s ≤ cs.length → 0 ≤ first cs s ∧ first cs s ≤ cs.sum := fun s hs => by
    have h1 := first_mono gc.rng (i := 0) (j := s) (Nat.zero_le _) hs
    have h2 := first_mono gc.rng (i := s) (j := cs.length) hs (Nat.le_refl _)
    rw [first_zero] at h1
    rw [first_len] at h2
    exact ⟨h1, h2⟩
  refine ⟨_, rfl, a, cs.map V.int, rfl, s1 _ _ ha, for_enum (a := a) (xs := cs.map V.int) (fun i σ H2 => ∃ (v5 v6 v7 : Option V), σ = [some (.ref a), some (.int ((wN cs : Nat) : Int)), some (.int ((stepOf (wN cs) : Nat) : Int)), some (.ref D), some (.int (((first cs i).toNat * stepOf (wN cs) % wN cs : Nat) : Int)), v5, v6, v7] ∧ Same H H2 ∧ H2 D = some (.lst ((dealF cs (stepOf (wN cs)) (wN cs) (first cs i).toNat).map V.int)))
    ⟨none, none, none, ?_, s1, ?_⟩ (fun i σ H2 _ ⟨_, _, _, _, s, _⟩ => s _ _ ha) ?_ ?_⟩
  · rw [first_zero]
    simp
    rfl
  · rw [first_zero]
    exact d1
  · rintro i y p σ H2 hi ⟨v5, v6, v7, rfl, s2, d2⟩ hp
    have hi' : i < cs.length := by
      have := (List.getElem?_eq_some_iff.mp hi).1
      simpa using this
    have ey : y = .int (cs.getD i 0) := by
      rw [getI hi'] at hi
      exact (Option.some.inj hi).symm
    subst ey
    have hc := gc.at i
    have f0 := fN i (by omega)
    have f1 := fN (i + 1) (by omega)
    have fs := first_succ hi'
    have s3 := s2.trans (same_up (u := .tup [.int ((i : Nat) : Int), .int (cs.getD i 0)]) hp)
    have d3 := upd_old (u := .tup [.int ((i : Nat) : Int), .int (cs.getD i 0)]) d2 hp
    have t3 : (upd H2 p (.tup [.int ((i : Nat) : Int), .int (cs.getD i 0)])) p = some (.tup [.int ((i : Nat) : Int), .int (cs.getD i 0)]) := upd_same
    generalize upd H2 p (.tup [.int ((i : Nat) : Int), .int (cs.getD i 0)]) = H3 at s3 d3 t3 ⊢
    refine ⟨p, _, rfl, SqT.of t3, rfl, _, _, rfl, _, _, rfl, rfl, ?_⟩
    refine ⟨_, rfl, cs.getD i 0, rfl, by omega, by omega, for_range (n := (cs.getD i 0).toNat) (fun j σ H4 => ∃ (v7 : Option V), σ = [some (.ref a), some (.int ((wN cs : Nat) : Int)), some (.int ((stepOf (wN cs) : Nat) : Int)), some (.ref D), some (.int ((((first cs i).toNat + j) * stepOf (wN cs) % wN cs : Nat) : Int)), some (.int ((i : Nat) : Int)), some (.int (cs.getD i 0)), v7] ∧ Same H H4 ∧ H4 D = some (.lst ((dealF cs (stepOf (wN cs)) (wN cs) ((first cs i).toNat + j)).map V.int))) ⟨v7, rfl, s3, d3⟩ ?_ ?_⟩
    · rintro j σ H4 hj ⟨v7', rfl, s4, d4⟩
      have lt : (first cs i).toNat + j < wN cs := by omega
      have sg : signOf cs ((((first cs i).toNat + j : Nat) : Nat) : Int) = i := (sign_iff gc lt hi').mpr ⟨by omega, by omega⟩
      have ml := Nat.mod_lt (((first cs i).toNat + j) * stepOf (wN cs)) (show 0 < wN cs by omega)
      have dl := dealF_len cs (stepOf (wN cs)) (wN cs) ((first cs i).toNat + j)
      generalize hk : (first cs i).toNat + j = k at lt sg ml dl d4 ⊢
      refine ⟨_, rfl, _, rfl, _, rfl, D, _, _, _, rfl, rfl, d4, ixZ (by omega) (by rw [List.length_map, dl]; omega), ?_⟩
      rw [Int.toNat_natCast, map_set]
      refine ⟨_, rfl, _, rfl, _, _, rfl, rfl, _, rfl, _, _, rfl, rfl, (by show (0 : Int) < ((wN cs : Nat) : Int); omega), ?_⟩
      have em : (((k * stepOf (wN cs) % wN cs : Nat) : Int) + ((stepOf (wN cs) : Nat) : Int)) % ((wN cs : Nat) : Int) = (((k + 1) * stepOf (wN cs) % wN cs : Nat) : Int) := by
        have e1 : ((k * stepOf (wN cs) % wN cs : Nat) : Int) + ((stepOf (wN cs) : Nat) : Int) = ((k * stepOf (wN cs) % wN cs + stepOf (wN cs) : Nat) : Int) := by omega
        rw [e1, ← Int.natCast_emod, Nat.mod_add_mod, ← Nat.succ_mul]
      dsimp only
      rw [em]
      have ek : (first cs i).toNat + (j + 1) = k + 1 := by omega
      rw [ek]
      refine ⟨_, rfl, fun b o e => by rw [upd_ne (ne_of_none e hDH)]; exact s4 b o e, ?_⟩
      rw [upd_same]
      show _ = some (HO.lst (((dealF cs (stepOf (wN cs)) (wN cs) k).set (k * stepOf (wN cs) % wN cs) ((signOf cs ((k : Nat) : Int) : Nat) : Int)).map V.int))
      rw [sg]
    · rintro σ H4 ⟨v7', rfl, s4, d4⟩
      have ef : (first cs i).toNat + (cs.getD i 0).toNat = (first cs (i + 1)).toNat := by omega
      rw [ef] at d4 ⊢
      exact ⟨_, _, _, rfl, s4, d4⟩
  · rintro σ H2 ⟨v5, v6, v7, rfl, s2, d2⟩
    rw [List.length_map, first_len] at d2
    exact ⟨_, rfl, _, Less.new s2 hDH d2 rfl, q D hDH⟩
abbrev s_Slots_init : Stmt := inClass (top 19) 0
theorem sc_Slots_init : FnScope ["self", "counts", "signs", "places", "numbers", "slot", "sign"] ["self", "counts"] (defScope s_Slots_init) := ⟨rfl, rfl, rfl, by decide +kernel, rfl, by decide +kernel, by decide +kernel⟩
def sp_Slots_init (K : PySem.W.Frag) (T : Cl) (ec : Ec) : Sp := fun vs H Q _ => ∃ (x dx a : Addr) (cs : List Int), vs = [.ref x, .ref a] ∧ H x = some (.ins T.O dx []) ∧ H a = some (.lst (cs.map V.int)) ∧ GoodC cs ∧
  ∀ H', SlNew T.O H H' x cs → (∀ b o, H b = some o → b ≠ x → H' b = some o) → Q .non H'
def sp_Slots (K : PySem.W.Frag) (T : Cl) : Sp := fun vs H Q _ => ∃ (a : Addr) (cs : List Int), vs = [.ref a] ∧ H a = some (.lst (cs.map V.int)) ∧ GoodC cs ∧ ∀ x H', H x = none → SlNew T.O H H' x cs → Same H H' → Q (.ref x) H'
theorem ok_Slots_init {P : Program} {w : World} {K : PySem.W.Frag} {mg : Str → Option Value} {base : Heap} {T : Cl} {ec : Ec} (z : BI mg) (g : GC mg) (tf : TF K mg T) (xf : XF K mg ec) (D : DefI K T.O "Slots.__init__" s_Slots_init ["self", "counts"] []) (C_deal : Cal P w K mg base 3 "deal" ["counts"] (sp_deal K T ec)) : CalA P w K mg base 5 "Slots" (sp_Slots K T) ∧ CalA P w K mg base 5 "Slots" (sp_Slots K T) := by
  refine D.ok (sp := sp_Slots_init K T ec) tf.mO sc_Slots_init (fun vs H Q E h => ?_) (fun f cdv A outer s H vs Q E hr h => ?_) (fun vs H Q h x dx nx ndx nd => ?_) (fun vs H Q h x dx nx ndx nd => ?_)
  · obtain ⟨x, dx, a, cs, rfl, hx, ha, gc, q⟩ := h; rfl
  · obtain ⟨x, dx, a, cs, rfl, hx, ha, gc, q⟩ := h
    refine ⟨_, (pss_cons (ps_set (i := 2) sc_Slots_init.nd rfl (Or.inl rfl) (pe_def (C_deal.mono (by decide)) hr rfl (pa_cons (pv 1) pa_nil)))
      (pss_cons (ps_setComp (i := 3) sc_Slots_init.nd rfl (Or.inl rfl) (caps := []) rfl (pi_list (pv 1)) ⟨rfl, by decide +kernel, by decide +kernel, rfl⟩ trivial rfl (by decide +kernel) (fun _ _ _ _ => pts_nil) (fun _ _ _ _ => (pe_lst pa_nil)))
      (pss_cons (ps_set (i := 4) sc_Slots_init.nd rfl (Or.inl rfl) (pe_lst pa_nil))
      (pss_cut (ps_for PassesOwn.never rfl (pi_enum rfl z.enumerate (pa_cons (pv 2) pa_nil)) (pg_tup rfl (pgs_cons (pg_name (i := 5) sc_Slots_init.nd rfl (Or.inl rfl)) (pgs_cons (pg_name (i := 6) sc_Slots_init.nd rfl (Or.inl rfl)) pgs_nil))) (pss_cons (ps_expr (pe_bm PySem.F.plainAttrs_list PySem.F.slot_list_append PySem.F.type_list_append mt_append (pv 4) (pa_cons (pe_op op_add (pe_ix ix_list (pv 1) (pv 6) (fun _ _ => rfl)) (pe_callB call_len_seq rfl z.len b_len (pa_cons (pe_ix ix_list (pv 3) (pv 6) (fun _ _ => rfl)) pa_nil))) pa_nil)))
      (pss_one (ps_expr (pe_bm PySem.F.plainAttrs_list PySem.F.slot_list_append PySem.F.type_list_append mt_append (pe_ix ix_list (pv 3) (pv 6) (fun _ _ => rfl)) (pa_cons (pv 5) pa_nil))))))
      (pss_cons (ps_fld (pv 0) (pe_callTy call_list_of rfl z.list b_list (pa_cons (pv 1) pa_nil)) rfl)
      (pss_cons (ps_fld (pv 0) (pe_callB call_len_seq rfl z.len b_len (pa_cons (pv 2) pa_nil)) rfl)
      (pss_cons (ps_fld (pv 0) (pv 2) rfl)
      (pss_cons (ps_fld (pv 0) (pv 3) rfl)
      (pss_one (ps_fld (pv 0) (pv 4) rfl)))))))))), ?_⟩
    obtain ⟨w1, w2, w3⟩ := gc.wpos
    have len1 := gc.len1
    have dl := dealtN_len cs
    refine ⟨_, rfl, a, cs, rfl, ha, gc, fun sg hsg => ?_⟩
    have s1 := same_up (u := .lst ((dealtN cs).map V.int)) hsg
    have g1 : (upd H sg (.lst ((dealtN cs).map V.int))) sg = some (.lst ((dealtN cs).map V.int)) := upd_same
    generalize upd H sg (.lst ((dealtN cs).map V.int)) = H1 at s1 g1 ⊢
    -- places
    refine ⟨_, rfl, a, rfl, ⟨_, SqL.of (s1 _ _ ha)⟩, fun pl hpl => ?_⟩
    have w := itl_same (K := K) (SqL.of (s1 _ _ ha))
    refine comp_tab (fun i => (cs.map V.int).getD i .non) (fun _ => []) (by rw [List.length_map]; exact szl (by omega)) hpl w.1 w.2 ?_ ?_
    · intro i H' R hi s r
      exact ⟨(by show 0 ≤ sizeLine; decide), r⟩
    intro as H2 T2
    have ep : ((List.range (cs.map V.int).length).map fun _ => ([] : List Int)) = placesU cs 0 := by rw [List.length_map]; rfl
    rw [ep] at T2
    have s2 := s1.trans T2.sm
    have g2 := T2.sm _ _ g1
    -- numbers
    refine ⟨(by show 0 ≤ sizeLine; decide), fun nl hnl => ?_⟩
    have s3 := s2.trans (same_up (u := .lst []) hnl)
    have g3 := upd_old (u := .lst []) g2 hnl
    have k3 := T2.kp.same (same_up (u := .lst []) hnl)
    have n3 : (upd H2 nl (.lst [])) nl = some (.lst []) := upd_same
    have tk : ∀ b ∈ pl :: as, ∃ o, H2 b = some o := fun b hb => by
      rcases List.mem_cons.mp hb with z | z
      · rw [z]; exact ⟨_, T2.kp.ls⟩
      · obtain ⟨j, hj, ej⟩ := List.getElem_of_mem z
        have := T2.kp.at_ j (by rw [← T2.kp.len]; exact hj)
        rw [List.getD_eq_getElem?_getD, List.getElem?_eq_getElem hj] at this
        rw [← ej]
        exact ⟨_, this⟩
    have nnl : ∀ b ∈ pl :: as, b ≠ nl := fun b hb => by obtain ⟨o, e⟩ := tk b hb; exact ne_of_none e hnl
    have nsg : sg ≠ nl := ne_of_none g2 hnl
    have nga : ∀ b ∈ pl :: as, b ≠ sg := fun b hb z => by have := T2.fr b hb; rw [z, g1] at this; cases this
    have hH : ∀ b ∈ pl :: as, H b = none := fun b hb => s1.free (T2.fr b hb)
    have hnH : H nl = none := s2.free hnl
    generalize upd H2 nl (.lst []) = H3 at s3 g3 k3 n3 ⊢
    refine ⟨fun σ H4 => ∃ (v5 v6 : Option V), σ = [some (.ref x), some (.ref a), some (.ref sg), some (.ref pl), some (.ref nl), v5, v6] ∧ Same H H4 ∧ H4 sg = some (.lst ((dealtN cs).map V.int)) ∧ KeptAt H4 pl as (placesU cs (wN cs)) ∧ H4 nl = some (.lst ((numsU cs (wN cs)).map V.int)), ?_, ?_⟩
    · refine ⟨_, rfl, sg, _, rfl, g3, for_enum (a := sg) (xs := (dealtN cs).map V.int) (fun i σ H4 => ∃ (v5 v6 : Option V), σ = [some (.ref x), some (.ref a), some (.ref sg), some (.ref pl), some (.ref nl), v5, v6] ∧ Same H H4 ∧ H4 sg = some (.lst ((dealtN cs).map V.int)) ∧ KeptAt H4 pl as (placesU cs i) ∧ H4 nl = some (.lst ((numsU cs i).map V.int)))
        ⟨none, none, rfl, s3, g3, k3, n3⟩ (fun i σ H4 _ ⟨_, _, _, _, e, _⟩ => e) ?_ ?_⟩
      · rintro i y p σ H4 hi ⟨v5, v6, rfl, s4, g4, k4, n4⟩ hp
        have hi' : i < wN cs := by
          have := (List.getElem?_eq_some_iff.mp hi).1
          rw [List.length_map, dl] at this
          exact this
        have ey : y = .int ((dealtN cs).getD i 0) := by
          rw [getI (by rw [dl]; exact hi')] at hi
          exact (Option.some.inj hi).symm
        subst ey
        obtain ⟨s, es, hs, hc⟩ := dealt_rng gc hi'
        have ln : (posU cs s i).length ≤ 99900 := by
          have : (posU cs s i).length ≤ (List.range i).length := List.length_filter_le _ _
          rw [List.length_range] at this
          omega
        rw [es]
        have s5 := s4.trans (same_up (u := .tup [.int ((i : Nat) : Int), .int ((s : Nat) : Int)]) hp)
        have g5 := upd_old (u := .tup [.int ((i : Nat) : Int), .int ((s : Nat) : Int)]) g4 hp
        have k5 := k4.same (same_up (u := .tup [.int ((i : Nat) : Int), .int ((s : Nat) : Int)]) hp)
        have n5 := upd_old (u := .tup [.int ((i : Nat) : Int), .int ((s : Nat) : Int)]) n4 hp
        have t5 : (upd H4 p (.tup [.int ((i : Nat) : Int), .int ((s : Nat) : Int)])) p = some (.tup [.int ((i : Nat) : Int), .int ((s : Nat) : Int)]) := upd_same
        generalize upd H4 p (.tup [.int ((i : Nat) : Int), .int ((s : Nat) : Int)]) = H5 at s5 g5 k5 n5 t5 ⊢
        refine ⟨p, _, rfl, SqT.of t5, rfl, _, _, rfl, _, _, rfl, rfl, ?_⟩
        have tb5 : TabL K H5 pl as (placesU cs i) := k5.tab
        have pln : (placesU cs i).length = cs.length := by unfold placesU; rw [List.length_map, List.length_range]
        have es2 : ((s : Nat) : Int).toNat = s := Int.toNat_natCast s
        have row5 : H5 (as.getD s 0) = some (.lst (((posU cs s i).map fun p => ((p : Nat) : Int)).map V.int)) := by
          have := k5.at_ s (by rw [pln]; exact hs)
          rw [placesU_at hs] at this
          exact this
        have ix5 : atI (as.map V.ref) ((s : Nat) : Int) = some (.ref (as.getD s 0)) := atI_nat (getD_map_ref (by rw [k5.len, pln]; exact hs))
        refine ⟨_, rfl, .inl ⟨rfl, _, SqL.of n5⟩, _, rfl, _, rfl, a, _, _, _, rfl, rfl, SqL.of (s5 _ _ ha), atN hs, _, rfl, _, rfl, pl, _, _, _, rfl, rfl, tb5.ls, ix5, _, _, rfl, .inl (SqL.of row5), _, _, rfl, rfl, ?_⟩
        refine ⟨nl, _, _, rfl, rfl, n5, szlt (by rw [List.length_map, numsU_len]; omega), ?_⟩
        have en : ((numsU cs i).map V.int) ++ [.int (cs.getD s 0 + ((((posU cs s i).map fun p => ((p : Nat) : Int)).map V.int).length : Int))] = (numsU cs (i + 1)).map V.int := by
          unfold numsU
          rw [List.range_succ, List.map_append, List.map_append]
          congr 1
          show _ = [V.int (numN cs i)]
          unfold numN
          rw [es, es2, List.length_map, List.length_map]
        dsimp only
        rw [en]
        have nas : as.getD s 0 ∈ pl :: as := List.mem_cons_of_mem _ (getD_in (by rw [k5.len, pln]; exact hs))
        have s6 : Same H (upd H5 nl (.lst ((numsU cs (i + 1)).map V.int))) := fun b o e => by rw [upd_ne (ne_of_none e hnH)]; exact s5 b o e
        have g6 : (upd H5 nl (.lst ((numsU cs (i + 1)).map V.int))) sg = some (.lst ((dealtN cs).map V.int)) := by rw [upd_ne nsg]; exact g5
        have k6 : KeptAt (upd H5 nl (.lst ((numsU cs (i + 1)).map V.int))) pl as (placesU cs i) := k5.frame fun b o hb e => by rw [upd_ne (nnl b hb)]; exact e
        have n6 : (upd H5 nl (.lst ((numsU cs (i + 1)).map V.int))) nl = some (.lst ((numsU cs (i + 1)).map V.int)) := upd_same
        have row6 : (upd H5 nl (.lst ((numsU cs (i + 1)).map V.int))) (as.getD s 0) = some (.lst (((posU cs s i).map fun p => ((p : Nat) : Int)).map V.int)) := by rw [upd_ne (nnl _ nas)]; exact row5
        generalize upd H5 nl (.lst ((numsU cs (i + 1)).map V.int)) = H6 at s6 g6 k6 n6 row6 ⊢
        refine ⟨_, rfl, _, rfl, pl, _, _, _, rfl, rfl, SqL.of k6.ls, ix5, .inl ⟨rfl, _, SqL.of row6⟩, _, rfl, as.getD s 0, _, _, rfl, rfl, row6, szlt (by rw [List.length_map, List.length_map]; omega), ?_⟩
        have er : (((posU cs s i).map fun p => ((p : Nat) : Int)).map V.int) ++ [.int ((i : Nat) : Int)] = (((posU cs s i).map fun p => ((p : Nat) : Int)) ++ [((i : Nat) : Int)]).map V.int := by rw [List.map_append]; rfl
        rw [er]
        have k7 := k6.set T2.nd (s := s) (by rw [pln]; exact hs) (((posU cs s i).map fun p => ((p : Nat) : Int)) ++ [((i : Nat) : Int)])
        rw [← placesU_succ hs es] at k7
        exact ⟨_, _, rfl, fun b o e => by rw [upd_ne (ne_of_none e (hH _ nas))]; exact s6 b o e, by rw [upd_ne (nga _ nas).symm]; exact g6, k7, by rw [upd_ne (nnl _ nas).symm]; exact n6⟩
      · rintro σ H4 ⟨v5, v6, rfl, s4, g4, k4, n4⟩
        rw [List.length_map, dl] at k4 n4
        exact ⟨v5, v6, rfl, s4, g4, k4, n4⟩
    rintro σ H4 ⟨v5, v6, rfl, s4, g4, k4, n4⟩
    have x4 := s4 _ _ hx
    -- kept
    refine ⟨_, rfl, a, _, rfl, .inl (SqL.of (s4 _ _ ha)), fun kl hkl => ?_⟩
    have s5 := same_up (u := .lst (cs.map V.int)) hkl
    have k5 : (upd H4 kl (.lst (cs.map V.int))) kl = some (.lst (cs.map V.int)) := upd_same
    generalize upd H4 kl (.lst (cs.map V.int)) = H5 at s5 k5 ⊢
    have x5 := s5 _ _ x4
    have nx : ∀ {b : Addr} {xs : List V}, H5 b = some (.lst xs) → b ≠ x := fun e => ne_of e x5 (by intro z; cases z)
    refine ⟨_, rfl, x, T.O, dx, _, rfl, x5, tf.fO.cl, tf.fO.nKept, (by show 0 < 1000; decide), ?_⟩
    have e0 : putF "kept" (.ref kl) ([] : List (Str × V)) = ([("kept", .ref kl)] : List (Str × V)) := rfl
    rw [e0]
    refine ⟨_, rfl, sg, _, rfl, .inl (SqL.of (by rw [upd_ne (nx (s5 _ _ g4))]; exact s5 _ _ g4)), _, rfl, x, T.O, dx, _, rfl, upd_same, tf.fO.cl, tf.fO.nTotal, (by show 1 < 1000; decide), ?_⟩
    rw [List.length_map, dl, w2, putO_total, upd_upd]
    refine ⟨_, rfl, _, rfl, x, T.O, dx, _, rfl, upd_same, tf.fO.cl, tf.fO.nSigns, (by show 2 < 1000; decide), ?_⟩
    rw [putO_signs, upd_upd]
    refine ⟨_, rfl, _, rfl, x, T.O, dx, _, rfl, upd_same, tf.fO.cl, tf.fO.nPlaces, (by show 3 < 1000; decide), ?_⟩
    rw [putO_places, upd_upd]
    refine ⟨_, rfl, _, rfl, x, T.O, dx, _, rfl, upd_same, tf.fO.cl, tf.fO.nNumbers, (by show 4 < 1000; decide), ?_⟩
    rw [putO_numbers, upd_upd]
    have k5' := k4.same s5
    refine q _ (fun H'' st => ?_) fun b o e n => ?_
    · have stn : ∀ b o, H5 b = some o → H b = none → H'' b = some o := fun b o e n => st b o (by
        have nb : b ≠ x := fun z => by rw [z, hx] at n; cases n
        rw [upd_ne nb]; exact e) (.inl n)
      exact ⟨gc, dx, kl, sg, pl, nl, as, st _ _ upd_same (.inr rfl), stn _ _ k5 (s4.free hkl), stn _ _ (s5 _ _ g4) hsg, k5'.frame fun b o hb e => stn _ _ e (hH b hb), stn _ _ (s5 _ _ n4) hnH⟩
    · rw [upd_ne n]
      exact s5 _ _ (s4 _ _ e)
  · obtain ⟨a, cs, rfl, ha, gc, q⟩ := h
    exact ⟨x, dx, a, cs, rfl, upd_same, by rw [upd_ne (ne_of_none ha nx), upd_ne (ne_of_none ha ndx)]; exact ha, gc, fun H' pa fr => ⟨rfl, q x H' nx (fun H'' st => pa H'' fun b o e n => st b o e (n.imp mk_free id)) (mk_same nx ndx fr)⟩⟩
  · obtain ⟨a, cs, rfl, ha, gc, q⟩ := h
    rw [List.append_nil]
    exact ⟨x, dx, a, cs, rfl, upd_same, by rw [upd_ne (ne_of_none ha nx), upd_ne (ne_of_none ha ndx)]; exact ha, gc, fun H' pa fr => ⟨rfl, q x H' nx (fun H'' st => pa H'' fun b o e n => st b o e (n.imp mk_free id)) (mk_same nx ndx fr)⟩⟩
abbrev s_Slots_check_number : Stmt := inClass (top 19) 1
theorem sc_Slots_check_number : FnScope ["self", "number"] ["self", "number"] (defScope s_Slots_check_number) := ⟨rfl, rfl, rfl, by decide +kernel, rfl, by decide +kernel, by decide +kernel⟩
def sp_Slots_check_number (K : PySem.W.Frag) (T : Cl) (ec : Ec) : Sp := fun vs H Q _ => ∃ (x : Addr) (cs : List Int) (n : Int), vs = [.ref x, .int n] ∧ SlAt T.O H x cs ∧ cs.sum ≤ n ∧ n < 2 * cs.sum ∧ Q .non H
theorem ok_Slots_check_number {P : Program} {w : World} {K : PySem.W.Frag} {mg : Str → Option Value} {base : Heap} {T : Cl} {ec : Ec} (z : BI mg) (g : GC mg) (tf : TF K mg T) (xf : XF K mg ec) (D : DefM K T.O "check_number" "Slots.check_number" s_Slots_check_number ["self", "number"]) : CalM P w K mg base 1 T.O "check_number" ["self", "number"] (sp_Slots_check_number K T ec) := by
  refine D.ok sc_Slots_check_number (fun vs H Q E h => ?_) (fun f cdv A outer s H vs Q E hr h => ?_)
  · obtain ⟨x, cs, n, rfl, ⟨gc, dx, kl, sg, pl, nl, as, hx, hk, hg, kp, hn⟩, h0, h1, q⟩ := h; rfl
  obtain ⟨x, cs, n, rfl, ⟨gc, dx, kl, sg, pl, nl, as, hx, hk, hg, kp, hn⟩, h0, h1, q⟩ := h
  refine ⟨_, (pss_one (ps_if (pt_not (pt_chain op_le op_lt (pe_fld (pv 0) rfl) (pv 1) (pe_op op_mul pe_int (pe_fld (pv 0) rfl)))) (pss_one ps_never) pss_nil)), ?_⟩
  have gl := gc.le
  have gp := gc.pos
  refine ⟨_, rfl, x, T.O, dx, _, _, rfl, hx, tf.fO.cl, tf.fO.nTotal, lO_total _ _ _ _ _, _, rfl, _, _, rfl, rfl, _, rfl, ?_⟩
  refine ite2 (fun _ => ?_) (fun c => absurd (decide_eq_true h0) c)
  refine ⟨_, rfl, x, T.O, dx, _, _, rfl, hx, tf.fO.cl, tf.fO.nTotal, lO_total _ _ _ _ _, _, _, rfl, rfl, .inl ⟨by decide, by decide⟩, _, _, rfl, rfl, _, rfl, ?_⟩
  have e1 : decide (n < 2 * cs.sum) = true := decide_eq_true h1
  rw [e1]
  refine iteF ?_
  exact ⟨_, Less.refl, q⟩
abbrev s_Slots_raised : Stmt := inClass (top 19) 3
theorem sc_Slots_raised : FnScope ["self", "sign", "number", "count"] ["self", "sign", "number"] (defScope s_Slots_raised) := ⟨rfl, rfl, rfl, by decide +kernel, rfl, by decide +kernel, by decide +kernel⟩
def sp_Slots_raised (K : PySem.W.Frag) (T : Cl) (ec : Ec) : Sp := fun vs H Q _ => ∃ (x : Addr) (cs : List Int) (s : Nat) (n : Int), vs = [.ref x, .int ((s : Nat) : Int), .int n] ∧ SlAt T.O H x cs ∧ s < cs.length ∧ 0 < cs.getD s 0 ∧ cs.getD s 0 ≤ n ∧ n < 2 * cs.getD s 0 ∧ Q (.int (cs.sum + (((posN cs s).getD (n - cs.getD s 0).toNat 0 : Nat) : Int))) H
theorem ok_Slots_raised {P : Program} {w : World} {K : PySem.W.Frag} {mg : Str → Option Value} {base : Heap} {T : Cl} {ec : Ec} (z : BI mg) (g : GC mg) (tf : TF K mg T) (xf : XF K mg ec) (D : DefM K T.O "raised" "Slots.raised" s_Slots_raised ["self", "sign", "number"]) (C_count_of : Cal P w K mg base 2 "count_of" ["counts", "sign"] (sp_count_of K T ec)) : CalM P w K mg base 3 T.O "raised" ["self", "sign", "number"] (sp_Slots_raised K T ec) := by
  refine D.ok sc_Slots_raised (fun vs H Q E h => ?_) (fun f cdv A outer s H vs Q E hr h => ?_)
  · obtain ⟨x, cs, s, n, rfl, ⟨gc, dx, kl, sg, pl, nl, as, hx, hk, hg, kp, hn⟩, hs, hc, h0, h1, q⟩ := h; rfl
  obtain ⟨x, cs, s, n, rfl, ⟨gc, dx, kl, sg, pl, nl, as, hx, hk, hg, kp, hn⟩, hs, hc, h0, h1, q⟩ := h
  refine ⟨_, (pss_cons (ps_set (i := 3) sc_Slots_raised.nd rfl (Or.inl rfl) (pe_def (C_count_of.mono (by decide)) hr rfl (pa_cons (pe_fld (pv 0) rfl) (pa_cons (pv 1) pa_nil))))
      (pss_cons (ps_if (pt_not (pt_chain op_le op_lt (pv 3) (pv 2) (pe_op op_mul pe_int (pv 3)))) (pss_one ps_never) pss_nil)
      (pss_one (ps_ret (pe_op op_add (pe_fld (pv 0) rfl) (pe_ix ix_list (pe_ix ix_list (pe_fld (pv 0) rfl) (pv 1) (fun _ _ => rfl)) (pe_op op_sub (pv 2) (pv 3)) (fun _ _ => rfl))))))), ?_⟩
  have hcc := gc.at s
  have es : ((s : Nat) : Int).toNat = s := Int.toNat_natCast s
  refine ⟨_, rfl, x, T.O, dx, _, _, rfl, hx, tf.fO.cl, tf.fO.nKept, lO_kept _ _ _ _ _, _, rfl, kl, cs, _, rfl, SqL.of hk, by omega, by omega, by rw [es]; exact hc, ?_⟩
  rw [es]
  refine ⟨_, rfl, _, rfl, _, _, rfl, rfl, _, rfl, ?_⟩
  refine ite2 (fun _ => ?_) (fun c => absurd (decide_eq_true h0) c)
  refine ⟨_, rfl, _, _, rfl, rfl, .inl ⟨by decide, by decide⟩, _, _, rfl, rfl, _, rfl, ?_⟩
  have e1 : decide (n < 2 * cs.getD s 0) = true := decide_eq_true h1
  rw [e1]
  refine iteF ?_
  have pln : (placesU cs (wN cs)).length = cs.length := by unfold placesU; rw [List.length_map, List.length_range]
  have row : H (as.getD s 0) = some (.lst (((posN cs s).map fun p => ((p : Nat) : Int)).map V.int)) := by
    have := kp.at_ s (by rw [pln]; exact hs)
    rw [placesU_at hs] at this
    exact this
  have ix : atI (as.map V.ref) ((s : Nat) : Int) = some (.ref (as.getD s 0)) := atI_nat (getD_map_ref (by rw [kp.len, pln]; exact hs))
  have pl2 := posN_len gc hs
  have hj : (n - cs.getD s 0).toNat < (posN cs s).length := by omega
  have at2 : atI (((posN cs s).map fun p => ((p : Nat) : Int)).map V.int) (n - cs.getD s 0) = some (.int (((posN cs s).getD (n - cs.getD s 0).toNat 0 : Nat) : Int)) := by
    rw [atZ (by omega) (by rw [List.length_map]; omega)]
    rw [getD_cast]
  refine ⟨_, rfl, x, T.O, dx, _, _, rfl, hx, tf.fO.cl, tf.fO.nTotal, lO_total _ _ _ _ _, _, rfl, x, T.O, dx, _, _, rfl, hx, tf.fO.cl, tf.fO.nPlaces, lO_places _ _ _ _ _, _, rfl, pl, _, _, _, rfl, rfl, SqL.of kp.ls, ix, _, rfl, _, rfl, _, _, rfl, rfl, as.getD s 0, _, _, _, rfl, rfl, SqL.of row, at2, _, _, rfl, rfl, ?_⟩
  exact ⟨_, Less.refl, q⟩
abbrev s_Slots_lowered : Stmt := inClass (top 19) 4
theorem sc_Slots_lowered : FnScope ["self", "number", "slot"] ["self", "number"] (defScope s_Slots_lowered) := ⟨rfl, rfl, rfl, by decide +kernel, rfl, by decide +kernel, by decide +kernel⟩
def sp_Slots_lowered (K : PySem.W.Frag) (T : Cl) (ec : Ec) : Sp := fun vs H Q _ => ∃ (x : Addr) (cs : List Int) (p : Nat), vs = [.ref x, .int (cs.sum + ((p : Nat) : Int))] ∧ SlAt T.O H x cs ∧ p < wN cs ∧ ∀ t, H t = none → Q (.ref t) (upd H t (.tup [.int ((dealtN cs).getD p 0), .int (numN cs p)]))
theorem ok_Slots_lowered {P : Program} {w : World} {K : PySem.W.Frag} {mg : Str → Option Value} {base : Heap} {T : Cl} {ec : Ec} (z : BI mg) (g : GC mg) (tf : TF K mg T) (xf : XF K mg ec) (D : DefM K T.O "lowered" "Slots.lowered" s_Slots_lowered ["self", "number"]) (C_Slots_check_number : CalM P w K mg base 1 T.O "check_number" ["self", "number"] (sp_Slots_check_number K T ec)) : CalM P w K mg base 2 T.O "lowered" ["self", "number"] (sp_Slots_lowered K T ec) := by
  refine D.ok sc_Slots_lowered (fun vs H Q E h => ?_) (fun f cdv A outer s H vs Q E hr h => ?_)
  · obtain ⟨x, cs, p, rfl, sl, hp, q⟩ := h; rfl
  obtain ⟨x, cs, p, rfl, sl, hp, q⟩ := h
  refine ⟨_, (pss_cons (ps_expr (pe_methD (Cs := fun C => C = T.O) (spm := fun _ => sp_Slots_check_number K T ec) (pv 0) (fun _ e => by subst e; exact ⟨tf.fO.cl, C_Slots_check_number.mono (by decide)⟩) hr (pa_cons (pv 1) pa_nil)))
      (pss_cons (ps_set (i := 2) sc_Slots_lowered.nd rfl (Or.inl rfl) (pe_op op_sub (pv 1) (pe_fld (pv 0) rfl)))
      (pss_one (ps_ret (pe_tup (pa_cons (pe_ix ix_list (pe_fld (pv 0) rfl) (pv 2) (fun _ _ => rfl)) (pa_cons (pe_ix ix_list (pe_fld (pv 0) rfl) (pv 2) (fun _ _ => rfl)) pa_nil))))))), ?_⟩
  have sl0 := sl
  obtain ⟨gc, dx, kl, sg, pl, nl, as, hx, hk, hg, kp, hn⟩ := sl
  obtain ⟨w1, w2, w3⟩ := gc.wpos
  refine ⟨_, rfl, x, T.O, dx, _, rfl, hx, rfl, nO_check _ _ _ _ _, _, rfl, x, cs, _, rfl, sl0, by omega, by omega, ?_⟩
  refine ⟨_, rfl, _, rfl, x, T.O, dx, _, _, rfl, hx, tf.fO.cl, tf.fO.nTotal, lO_total _ _ _ _ _, _, _, rfl, rfl, ?_⟩
  have e0 : cs.sum + ((p : Nat) : Int) - cs.sum = ((p : Nat) : Int) := by omega
  dsimp only
  rw [e0]
  refine ⟨_, rfl, x, T.O, dx, _, _, rfl, hx, tf.fO.cl, tf.fO.nSigns, lO_signs _ _ _ _ _, _, rfl, sg, _, _, _, rfl, rfl, SqL.of hg, atN (by rw [dealtN_len]; exact hp), ?_⟩
  refine ⟨_, rfl, x, T.O, dx, _, _, rfl, hx, tf.fO.cl, tf.fO.nNumbers, lO_numbers _ _ _ _ _, _, rfl, nl, _, _, _, rfl, rfl, SqL.of hn, atN (by rw [numsU_len]; exact hp), ?_⟩
  rw [numsU_at hp]
  refine ⟨(by show 2 ≤ sizeLine; decide), fun t ht => ?_⟩
  exact ⟨_, Less.new (same_up ht) ht upd_same rfl, q t ht⟩
abbrev s_Slots_laid : Stmt := inClass (top 19) 5
theorem sc_Slots_laid : FnScope ["self", "number", "row", "bits", "sign", "count"] ["self", "number", "row"] (defScope s_Slots_laid) := ⟨rfl, rfl, rfl, by decide +kernel, rfl, by decide +kernel, by decide +kernel⟩
def sp_Slots_laid (K : PySem.W.Frag) (T : Cl) (ec : Ec) : Sp := fun vs H Q _ => ∃ (x r : Addr) (cs : List Int) (n : Int) (rs : List Int), vs = [.ref x, .int n, .ref r] ∧ SlAt T.O H x cs ∧ SqL K H r (rs.map V.int) ∧ cs.sum ≤ 8192 ∧ cs.sum ≤ n ∧ n < 2 * cs.sum ∧ (∀ k ∈ rs, OkS cs k) ∧ rs.length ≤ 200 ∧
  ∀ l t, H l = none → (upd H l (.lst ((layRB cs rs (n, [])).2.map V.int))) t = none → Q (.ref t) (upd (upd H l (.lst ((layRB cs rs (n, [])).2.map V.int))) t (.tup [.int (layRB cs rs (n, [])).1, .ref l]))
theorem ok_Slots_laid {P : Program} {w : World} {K : PySem.W.Frag} {mg : Str → Option Value} {base : Heap} {T : Cl} {ec : Ec} (z : BI mg) (g : GC mg) (tf : TF K mg T) (xf : XF K mg ec) (D : DefM K T.O "laid" "Slots.laid" s_Slots_laid ["self", "number", "row"]) (C_Slots_check_number : CalM P w K mg base 1 T.O "check_number" ["self", "number"] (sp_Slots_check_number K T ec)) (C_count_of : Cal P w K mg base 2 "count_of" ["counts", "sign"] (sp_count_of K T ec)) (C_Slots_raised : CalM P w K mg base 3 T.O "raised" ["self", "sign", "number"] (sp_Slots_raised K T ec)) : CalM P w K mg base 4 T.O "laid" ["self", "number", "row"] (sp_Slots_laid K T ec) := by
  refine D.ok sc_Slots_laid (fun vs H Q E h => ?_) (fun f cdv A outer s H vs Q E hr h => ?_)
  · obtain ⟨x, r, cs, n, rs, rfl, sl, hR, c8, h0, h1, ok, hlen, q⟩ := h; rfl
  obtain ⟨x, r, cs, n, rs, rfl, sl, hR, c8, h0, h1, ok, hlen, q⟩ := h
  refine ⟨_, (pss_cons (ps_expr (pe_methD (Cs := fun C => C = T.O) (spm := fun _ => sp_Slots_check_number K T ec) (pv 0) (fun _ e => by subst e; exact ⟨tf.fO.cl, C_Slots_check_number.mono (by decide)⟩) hr (pa_cons (pv 1) pa_nil)))
      (pss_cons (ps_set (i := 3) sc_Slots_laid.nd rfl (Or.inl rfl) (pe_lst pa_nil))
      (pss_cons (ps_for PassesOwn.never rfl (pi_rev rfl z.reversed (pa_cons (pv 2) pa_nil)) (pg_name (i := 4) sc_Slots_laid.nd rfl (Or.inl rfl)) (pss_cons (ps_set (i := 5) sc_Slots_laid.nd rfl (Or.inl rfl) (pe_def (C_count_of.mono (by decide)) hr rfl (pa_cons (pe_fld (pv 0) rfl) (pa_cons (pv 4) pa_nil))))
      (pss_cons (ps_while PassesOwn.never (pt_cmpR op_ge (pv 1) (pe_op op_mul pe_int (pv 5)) (nomark _)) (pss_cons (ps_expr (pe_bm PySem.F.plainAttrs_list PySem.F.slot_list_append PySem.F.type_list_append mt_append (pv 3) (pa_cons (pe_op op_mod (pv 1) pe_int) pa_nil)))
      (pss_one (ps_aug (i := 1) sc_Slots_laid.nd rfl (Or.inl rfl) pe_int ip_fdiv))))
      (pss_one (ps_set (i := 1) sc_Slots_laid.nd rfl (Or.inl rfl) (pe_methD (Cs := fun C => C = T.O) (spm := fun _ => sp_Slots_raised K T ec) (pv 0) (fun _ e => by subst e; exact ⟨tf.fO.cl, C_Slots_raised.mono (by decide)⟩) hr (pa_cons (pv 4) (pa_cons (pv 1) pa_nil))))))))
      (pss_one (ps_ret (pe_tup (pa_cons (pv 1) (pa_cons (pv 3) pa_nil)))))))), ?_⟩
  obtain ⟨gc, dx, kl, sg, pl, nl, as, hx, hk, hg, kp, hn⟩ := id sl
  refine ⟨_, rfl, x, T.O, dx, _, rfl, hx, rfl, nO_check _ _ _ _ _, _, rfl, x, cs, n, rfl, sl, h0, h1, ?_⟩
  refine ⟨(by show 0 ≤ sizeLine; decide), fun l hl => ?_⟩
  have lm : ∀ i, i ≤ rs.length → ∀ k ∈ rs.drop (rs.length - i), OkS cs k := fun i _ k hk => ok k (List.mem_of_mem_drop hk)
  refine ⟨_, rfl, r, _, rfl, hR.up hl, for_rev (K := K) (a := r) (xs := rs.map V.int) (fun i σ H2 => ∃ (v4 v5 : Option V), σ = [some (.ref x), some (.int (layRB cs (rs.drop (rs.length - i)) (n, [])).1), some (.ref r), some (.ref l), v4, v5] ∧ H2 = upd H l (.lst ((layRB cs (rs.drop (rs.length - i)) (n, [])).2.map V.int))) ⟨none, none, ?_, ?_⟩ (fun i σ H2 _ ⟨_, _, _, e⟩ => e ▸ hR.up hl) ?_ ?_⟩
  · rw [Nat.sub_zero, List.drop_length]
    rfl
  · rw [Nat.sub_zero, List.drop_length]
    rfl
  · rintro i y σ H2 hi ⟨v4, v5, rfl, rfl⟩
    have hi' : i < rs.length := by
      have := (List.getElem?_eq_some_iff.mp hi).1
      rw [List.length_reverse, List.length_map] at this
      exact this
    have ey : y = .int (rs.getD (rs.length - 1 - i) 0) := by
      rw [List.getElem?_reverse (by rw [List.length_map]; exact hi'), List.length_map, getI (by omega)] at hi
      exact (Option.some.inj hi).symm
    subst ey
    obtain ⟨k0, k1, k2⟩ := ok (rs.getD (rs.length - 1 - i) 0) (Np.getD_mem (by omega))
    obtain ⟨j0, j1, _⟩ := layRB_ok gc (bits := []) h0 h1 (lm i (by omega))
    obtain ⟨jl, jb⟩ := layRB_len gc c8 h0 h1 (lm i (by omega))
    have jl2 : (rs.drop (rs.length - i)).length = i := by rw [List.length_drop]; omega
    rw [jl2] at jl
    rw [layRB_drop hi']
    generalize layRB cs (rs.drop (rs.length - i)) (n, []) = st at j0 j1 jl jb ⊢
    generalize rs.getD (rs.length - 1 - i) 0 = k at k0 k1 k2 ⊢
    obtain ⟨_, _, _, _, b4, b5⟩ := layB_ok gc (s := k.toNat) (by omega) k2 st.2 j0 j1
    have fl2 := flush_len2 (cs := cs) (s := k.toNat) k2 (bits := st.2) j1 c8
    have hcc := gc.at k.toNat
    have slU : ∀ v, SlAt T.O (upd H l v) x cs := fun v => sl.same (same_up hl)
    refine ⟨_, rfl, x, T.O, dx, _, _, rfl, upd_old hx hl, tf.fO.cl, tf.fO.nKept, lO_kept _ _ _ _ _, _, rfl, kl, cs, k, rfl, SqL.of (upd_old hk hl), k0, k1, k2, ?_⟩
    refine while_by (fun σ H3 => ∃ (n2 : Int) (bs2 : List Int), σ = [some (.ref x), some (.int n2), some (.ref r), some (.ref l), some (.int k), some (.int (cs.getD k.toNat 0))] ∧ H3 = upd H l (.lst (bs2.map V.int)) ∧ flush 2 (2 * cs.getD k.toNat 0) n2 bs2 = flush 2 (2 * cs.getD k.toNat 0) st.1 st.2 ∧ 0 ≤ n2)
      (fun σ H3 => match σ with | [_, some (.int m), _, _, _, _] => m.toNat | _ => 0) ⟨st.1, st.2, rfl, rfl, rfl, by have := gc.pos; omega⟩ ?_ ?_
    · rintro σ H3 ⟨n2, bs2, rfl, rfl, fl, nn⟩
      refine ⟨_, rfl, _, rfl, _, _, rfl, rfl, .inl ⟨by decide, by decide⟩, _, _, rfl, rfl, _, rfl, ?_⟩
      refine ite2 (fun c => ?_) (fun c => ?_)
      · have c' : 2 * cs.getD k.toNat 0 ≤ n2 := of_decide_eq_true c
        have stp := flush_step (b := 2) (bd := 2 * cs.getD k.toNat 0) (by decide) (by omega) (ws := bs2) c'
        have ln : (bs2 ++ [n2 % 2]).length ≤ (layB cs k.toNat st.1 st.2).2.length := by
          show _ ≤ (flush 2 (2 * cs.getD k.toNat 0) st.1 st.2).2.length
          rw [← fl, stp]
          exact flush_len (by decide) (by omega) _ _
        rw [List.length_append] at ln
        have ln' : bs2.length + 1 ≤ (layB cs k.toNat st.1 st.2).2.length := ln
        refine ⟨_, rfl, .inl ⟨rfl, _, SqL.of upd_same⟩, _, rfl, _, _, rfl, rfl, (by show (0 : Int) < 2; decide), l, _, _, rfl, rfl, upd_same, szlt (by rw [List.length_map]; omega), ?_⟩
        rw [upd_upd]
        refine ⟨_, rfl, _, _, rfl, rfl, ⟨by decide, by decide⟩, ?_⟩
        have dv := div_less (b := 2) (by decide) (n := n2) (by omega)
        refine ⟨⟨n2 / 2, bs2 ++ [n2 % 2], rfl, by rw [List.map_append]; rfl, by rw [← fl, stp], by omega⟩, ?_⟩
        show (n2 / 2).toNat < n2.toNat
        omega
      · have c' : ¬ 2 * cs.getD k.toNat 0 ≤ n2 := of_decide_eq_false (Bool.eq_false_iff.mpr c)
        rw [flush_stop (b := 2) (by decide) (by omega) (ws := bs2) c'] at fl
        rw [← fl] at b4 b5
        have ek : ((k.toNat : Nat) : Int) = k := Int.toNat_of_nonneg k0
        refine ⟨_, rfl, x, T.O, dx, _, rfl, upd_old hx hl, rfl, nO_raised _ _ _ _ _, _, rfl, _, rfl, x, cs, k.toNat, n2, by rw [ek], slU _, by omega, k2, b4, b5, ?_⟩
        have e1 : layB cs k.toNat st.1 st.2 = (cs.sum + (((posN cs k.toNat).getD (n2 - cs.getD k.toNat 0).toNat 0 : Nat) : Int), bs2) := by unfold layB; rw [← fl]
        rw [e1]
        exact ⟨_, _, rfl, rfl⟩
    · rintro σ H3 Q1 Q2 hq ⟨v1, e1, v2, e2, i1, j1, x1, x2, x3, i2, j2, y1, y2, k', y3, h⟩
      exact ⟨v1, e1, v2, e2, i1, j1, x1, x2, x3, i2, j2, y1, y2, k', y3, hq _ _ h⟩
  · rintro σ H2 ⟨v4, v5, rfl, rfl⟩
    rw [List.length_map, Nat.sub_self, List.drop_zero]
    refine ⟨_, rfl, _, rfl, (by show 2 ≤ sizeLine; decide), fun t ht => ?_⟩
    exact ⟨_, Less.add (Less.new ((same_up hl).trans (same_up ht)) hl (upd_old upd_same ht) rfl) ht upd_same rfl, q l t hl ht⟩
abbrev s_Slots_taken : Stmt := inClass (top 19) 6
theorem sc_Slots_taken : FnScope ["self", "number", "bits", "many", "left", "row", "turn", "found"] ["self", "number", "bits", "many"] (defScope s_Slots_taken) := ⟨rfl, rfl, rfl, by decide +kernel, rfl, by decide +kernel, by decide +kernel⟩
def sp_Slots_taken (K : PySem.W.Frag) (T : Cl) (ec : Ec) : Sp := fun vs H Q E => ∃ (x b : Addr) (cs : List Int) (n m : Int) (bs : List Int), vs = [.ref x, .int n, .ref b, .int m] ∧ SlAt T.O H x cs ∧ SqL K H b (bs.map V.int) ∧ cs.sum ≤ n ∧ n < 2 * cs.sum ∧ (∀ w ∈ bs, 0 ≤ w ∧ w < 2) ∧ 0 ≤ m ∧ m ≤ 1000 ∧
  ((runB cs m.toNat n bs.reverse = none ∧ ∀ H', Same H H' → E (.ref ec.noMore) none H') ∨ ∃ row n' st, runB cs m.toNat n bs.reverse = some (row, n', st) ∧ ∀ r l t H', Same H H' → H r = none → H l = none → H t = none → H' t = some (.tup [.ref r, .int n', .ref l]) → H' r = some (.lst (row.map V.int)) → H' l = some (.lst (st.reverse.map V.int)) → Q (.ref t) H')
theorem ok_Slots_taken {P : Program} {w : World} {K : PySem.W.Frag} {mg : Str → Option Value} {base : Heap} {T : Cl} {ec : Ec} (z : BI mg) (g : GC mg) (tf : TF K mg T) (xf : XF K mg ec) (D : DefM K T.O "taken" "Slots.taken" s_Slots_taken ["self", "number", "bits", "many"]) (C_Slots_check_number : CalM P w K mg base 1 T.O "check_number" ["self", "number"] (sp_Slots_check_number K T ec)) (C_Slots_lowered : CalM P w K mg base 2 T.O "lowered" ["self", "number"] (sp_Slots_lowered K T ec)) : CalMX P w K mg base 3 T.O "taken" ["self", "number", "bits", "many"] (sp_Slots_taken K T ec) := by
  refine D.okX sc_Slots_taken (fun vs H Q E h => ?_) (fun f cdv A outer s H vs Q E hr h => ?_)
  · obtain ⟨x, b, cs, n, m, bs, rfl, sl, hb, h0, h1, hw, m0, m1, q⟩ := h; rfl
  obtain ⟨x, b, cs, n, m, bs, rfl, sl, hb, h0, h1, hw, m0, m1, q⟩ := h
  refine ⟨_, (pss_cons (ps_expr (pe_methD (Cs := fun C => C = T.O) (spm := fun _ => sp_Slots_check_number K T ec) (pv 0) (fun _ e => by subst e; exact ⟨tf.fO.cl, C_Slots_check_number.mono (by decide)⟩) hr (pa_cons (pv 1) pa_nil)))
      (pss_cons (ps_set (i := 4) sc_Slots_taken.nd rfl (Or.inl rfl) (pe_callTy call_list_of rfl z.list b_list (pa_cons (pv 2) pa_nil)))
      (pss_cons (ps_set (i := 5) sc_Slots_taken.nd rfl (Or.inl rfl) (pe_lst pa_nil))
      (pss_cons (ps_for PassesOwn.leaving rfl (pi_range1 rfl z.range (pa_cons (pv 3) pa_nil)) (pg_name (i := 6) sc_Slots_taken.nd rfl (Or.inl rfl)) (pss_cons (ps_set (i := 7) sc_Slots_taken.nd rfl (Or.inl rfl) (pe_methD (Cs := fun C => C = T.O) (spm := fun _ => sp_Slots_lowered K T ec) (pv 0) (fun _ e => by subst e; exact ⟨tf.fO.cl, C_Slots_lowered.mono (by decide)⟩) hr (pa_cons (pv 1) pa_nil)))
      (pss_cons (ps_expr (pe_bm PySem.F.plainAttrs_list PySem.F.slot_list_append PySem.F.type_list_append mt_append (pv 5) (pa_cons (pe_ix ix_tup (pv 7) pe_int (fun _ _ => rfl)) pa_nil)))
      (pss_cons (ps_set (i := 1) sc_Slots_taken.nd rfl (Or.inl rfl) (pe_ix ix_tup (pv 7) pe_int (fun _ _ => rfl)))
      (pss_one (ps_while PassesOwn.leaving (pt_cmpR op_lt (pv 1) (pe_fld (pv 0) rfl) (nomark _)) (pss_cons (ps_if (pt_cmpR op_eq (pe_callB call_len_seq rfl z.len b_len (pa_cons (pv 4) pa_nil)) pe_int (nomark _)) (pss_one (ps_raise raise_x rfl rfl rfl xf.mNoMore xf.oNoMore (pa_cons pe_str pa_nil))) pss_nil)
      (pss_one (ps_set (i := 1) sc_Slots_taken.nd rfl (Or.inl rfl) (pe_op op_add (pe_op op_mul pe_int (pv 1)) (pe_bm0 PySem.F.plainAttrs_list PySem.F.slot_list_pop PySem.F.type_list_pop mt_pop (pv 4))))))))))))
      (pss_one (ps_ret (pe_tup (pa_cons (pv 5) (pa_cons (pv 1) (pa_cons (pv 4) pa_nil)))))))))), ?_⟩
  obtain ⟨gc, dx, kl, sg, pl, nl, as, hx, hk, hg, kp, hn⟩ := id sl
  obtain ⟨w1, w2, w3⟩ := gc.wpos
  refine ⟨_, rfl, x, T.O, dx, _, rfl, hx, rfl, nO_check _ _ _ _ _, _, rfl, x, cs, n, rfl, sl, h0, h1, ?_⟩
  refine ⟨_, rfl, b, _, rfl, .inl hb, fun l hl => ?_⟩
  refine ⟨(by show 0 ≤ sizeLine; decide), fun r hr' => ?_⟩
  have nrl : r ≠ l := fun z => by rw [z, upd_same] at hr'; cases hr'
  have hrH : H r = none := (same_up hl).free hr'
  have s1 := (same_up (u := .lst (bs.map V.int)) hl).trans (same_up (u := .lst []) hr')
  have l1 : (upd (upd H l (.lst (bs.map V.int))) r (.lst [])) l = some (.lst (bs.map V.int)) := upd_old upd_same hr'
  have r1 : (upd (upd H l (.lst (bs.map V.int))) r (.lst [])) r = some (.lst (([] : List Int).map V.int)) := upd_same
  generalize upd (upd H l (.lst (bs.map V.int))) r (.lst []) = H1 at s1 l1 r1 ⊢
  refine ⟨_, rfl, m, rfl, by omega, by omega, for_range (n := m.toNat) (fun i σ H2 => ∃ (ni : Int) (bi ri : List Int) (v6 v7 : Option V), σ = [some (.ref x), some (.int ni), some (.ref b), some (.int m), some (.ref l), some (.ref r), v6, v7] ∧ Same H H2 ∧ H2 l = some (.lst (bi.map V.int)) ∧ H2 r = some (.lst (ri.map V.int)) ∧ ri.length = i ∧ cs.sum ≤ ni ∧ ni < 2 * cs.sum ∧ (∀ w ∈ bi, 0 ≤ w ∧ w < 2) ∧ preB ri (runB cs (m.toNat - i) ni bi.reverse) = runB cs m.toNat n bs.reverse) ⟨n, bs, [], none, none, rfl, s1, l1, r1, rfl, h0, h1, hw, by rw [preB_nil]; rfl⟩ ?_ ?_⟩
  · rintro i σ H2 hi ⟨ni, bi, ri, v6, v7, rfl, s2, l2, r2, rl, n0, n1, wi, eq⟩
    obtain ⟨p, ep⟩ : ∃ p : Nat, ni = cs.sum + (p : Int) := ⟨(ni - cs.sum).toNat, by omega⟩
    have hp : p < wN cs := by omega
    have sl2 := sl.same s2
    have hx2 := s2 _ _ hx
    refine ⟨_, rfl, x, T.O, dx, _, rfl, hx2, rfl, nO_lowered _ _ _ _ _, _, rfl, x, cs, p, by rw [ep], sl2, hp, fun t ht => ?_⟩
    have s3 := same_up (u := .tup [.int ((dealtN cs).getD p 0), .int (numN cs p)]) ht
    have t3 : (upd H2 t (.tup [.int ((dealtN cs).getD p 0), .int (numN cs p)])) t = some (.tup [.int ((dealtN cs).getD p 0), .int (numN cs p)]) := upd_same
    generalize upd H2 t (.tup [.int ((dealtN cs).getD p 0), .int (numN cs p)]) = H3 at s3 t3 ⊢
    have l3 := s3 _ _ l2
    have r3 := s3 _ _ r2
    have ntr : t ≠ r := ne_of t3 r3 (by intro z; cases z)
    refine ⟨_, rfl, .inl ⟨rfl, _, SqL.of r3⟩, _, rfl, t, _, _, _, rfl, rfl, SqT.of t3, rfl, r, _, _, rfl, rfl, r3, szlt (by rw [List.length_map]; omega), ?_⟩
    have er : (ri.map V.int) ++ [.int ((dealtN cs).getD p 0)] = (ri ++ [(dealtN cs).getD p 0]).map V.int := by rw [List.map_append]; rfl
    rw [er]
    have s4 : Same H (upd H3 r (.lst ((ri ++ [(dealtN cs).getD p 0]).map V.int))) := fun c o e => by rw [upd_ne (ne_of_none e hrH)]; exact s3 _ _ (s2 _ _ e)
    have t4 : (upd H3 r (.lst ((ri ++ [(dealtN cs).getD p 0]).map V.int))) t = some (.tup [.int ((dealtN cs).getD p 0), .int (numN cs p)]) := by rw [upd_ne ntr]; exact t3
    have l4 : (upd H3 r (.lst ((ri ++ [(dealtN cs).getD p 0]).map V.int))) l = some (.lst (bi.map V.int)) := by rw [upd_ne nrl.symm]; exact l3
    have r4 : (upd H3 r (.lst ((ri ++ [(dealtN cs).getD p 0]).map V.int))) r = some (.lst ((ri ++ [(dealtN cs).getD p 0]).map V.int)) := upd_same
    generalize upd H3 r (.lst ((ri ++ [(dealtN cs).getD p 0]).map V.int)) = H4 at s4 t4 l4 r4 ⊢
    refine ⟨_, rfl, t, _, _, _, rfl, rfl, SqT.of t4, rfl, ?_⟩
    obtain ⟨q0, q1⟩ := numN_rng gc hp
    obtain ⟨mi, emi⟩ : ∃ mi, m.toNat - i = mi + 1 := ⟨m.toNat - i - 1, by omega⟩
    have emi2 : m.toNat - (i + 1) = mi := by omega
    have eq2 : (refill 2 cs.sum bi.reverse (numN cs p)).bind (fun y => preB (ri ++ [(dealtN cs).getD p 0]) (runB cs mi y.1 y.2)) = runB cs m.toNat n bs.reverse := by
      rw [← eq, emi]
      have ep2 : (ni - cs.sum).toNat = p := by omega
      show _ = preB ri ((refill 2 cs.sum bi.reverse (numN cs (ni - cs.sum).toNat)).bind fun y => preB [(dealtN cs).getD (ni - cs.sum).toNat 0] (runB cs mi y.1 y.2))
      rw [ep2]
      cases refill 2 cs.sum bi.reverse (numN cs p) with
      | none => rfl
      | some y => exact (preB_pre _ _ _).symm
    rw [emi2]
    refine while_by (fun σ H5 => ∃ (nj : Int) (j : Nat), σ = [some (.ref x), some (.int nj), some (.ref b), some (.int m), some (.ref l), some (.ref r), some (.int (0 + (i : Int))), some (.ref t)] ∧ Same H H5 ∧ H5 l = some (.lst ((bi.take j).map V.int)) ∧ H5 r = some (.lst ((ri ++ [(dealtN cs).getD p 0]).map V.int)) ∧ j ≤ bi.length ∧ refill 2 cs.sum (bi.take j).reverse nj = refill 2 cs.sum bi.reverse (numN cs p) ∧ nj < cs.sum * 2)
      (fun σ H5 => lenAtH H5 l) ⟨numN cs p, bi.length, rfl, s4, by rw [List.take_length]; exact l4, r4, Nat.le_refl _, by rw [List.take_length], q1⟩ ?_ ?_
    · rintro σ H5 ⟨nj, j, rfl, s5, l5, r5, hj, rf, nj1⟩
      have hx5 := s5 _ _ hx
      have lj : ((bi.take j).map V.int).length = j := by rw [List.length_map, List.length_take]; omega
      refine ⟨_, rfl, _, rfl, x, T.O, dx, _, _, rfl, hx5, tf.fO.cl, tf.fO.nTotal, lO_total _ _ _ _ _, _, _, rfl, rfl, _, rfl, ?_⟩
      refine ite2 (fun c => ?_) (fun c => ?_)
      · have c' : nj < cs.sum := of_decide_eq_true c
        refine ⟨_, rfl, l, _, rfl, .inl (SqL.of l5), ?_⟩
        rw [lj]
        refine ⟨rfl, _, rfl, ?_⟩
        refine ite2 (fun e => ?_) (fun e => ?_)
        · have e' : (j : Int) = 0 := V.int.inj (of_decide_eq_true e)
          have e2 : j = 0 := by omega
          subst e2
          have rn : refill 2 cs.sum bi.reverse (numN cs p) = none := by
            rw [← rf, List.take_zero]
            show refill 2 cs.sum [] nj = none
            unfold refill
            rw [if_pos c']
          rw [rn] at eq2
          rcases q with ⟨_, q⟩ | ⟨row, n', st, e3, _⟩
          · exact ⟨(by show 1 ≤ sizeLine; decide), q _ s5⟩
          · rw [← eq2] at e3; cases e3
        · have e' : j ≠ 0 := fun z => e (decide_eq_true (by rw [z]; rfl))
          obtain ⟨j', rfl⟩ : ∃ j', j = j' + 1 := ⟨j - 1, by omega⟩
          have gl : ((bi.take (j' + 1)).map V.int)[((bi.take (j' + 1)).map V.int).length - 1]? = some (.int (bi.getD j' 0)) := by
            rw [lj]
            have : j' + 1 - 1 = j' := by omega
            rw [this, getI (by rw [List.length_take]; omega), List.getD_eq_getElem?_getD, List.getElem?_take_of_lt (by omega), List.getD_eq_getElem?_getD]
          have ed : ((bi.take (j' + 1)).map V.int).dropLast = (bi.take j').map V.int := by rw [← List.map_dropLast, take_drop1 hj]
          have wj := wi (bi.getD j' 0) (Np.getD_mem (by omega))
          refine ⟨_, rfl, _, _, rfl, rfl, .inl ⟨by decide, by decide⟩, _, rfl, .inl ⟨rfl, _, SqL.of l5⟩, l, _, _, rfl, rfl, l5, gl, _, _, rfl, rfl, ?_⟩
          rw [ed]
          refine ⟨⟨2 * nj + bi.getD j' 0, j', rfl, fun c o e => by rw [upd_ne (ne_of_none e hl)]; exact s5 _ _ e, upd_same, by rw [upd_ne nrl]; exact r5, by omega, ?_, by omega⟩, ?_⟩
          · rw [← rf, take_rev_succ (by omega)]
            conv => rhs; unfold refill
            rw [if_pos c']
          · show lenAtH _ l < lenAtH H5 l
            rw [lenAtH_eq upd_same, lenAtH_eq l5, lj, List.length_map, List.length_take]
            omega
      · have c' : ¬ nj < cs.sum := of_decide_eq_false (Bool.eq_false_iff.mpr c)
        rw [refill_stop (by omega)] at rf
        rw [← rf] at eq2
        refine ⟨nj, bi.take j, ri ++ [(dealtN cs).getD p 0], _, _, rfl, s5, l5, r5, by rw [List.length_append, rl]; rfl, by omega, by omega, fun w hw' => wi w (List.mem_of_mem_take hw'), eq2⟩
    · rintro σ H5 Q1 Q2 hq ⟨v0, e0, v1, e1, a1, C1, d1, f1, w1', y1, y2, y3, y4, y5, i', j', x1, x2, k1, x3, h⟩
      exact ⟨v0, e0, v1, e1, a1, C1, d1, f1, w1', y1, y2, y3, y4, y5, i', j', x1, x2, k1, x3, hq _ _ h⟩
  · rintro σ H2 ⟨ni, bi, ri, v6, v7, rfl, s2, l2, r2, rl, n0, n1, wi, eq⟩
    rw [Nat.sub_self] at eq
    have eq : some (ri ++ [], ni, bi.reverse) = runB cs m.toNat n bs.reverse := eq
    rw [List.append_nil] at eq
    rcases q with ⟨e3, _⟩ | ⟨row, n', st, e3, q⟩
    · rw [e3] at eq; cases eq
    rw [e3] at eq
    obtain ⟨e4, e5⟩ := Prod.mk.inj (Option.some.inj eq)
    obtain ⟨e6, e7⟩ := Prod.mk.inj e5
    refine ⟨_, rfl, _, rfl, _, rfl, (by show 3 ≤ sizeLine; decide), fun t ht => ?_⟩
    rw [← e4, ← e6, ← e7, List.reverse_reverse] at q
    exact q r l t _ (s2.trans (same_up ht)) hrH hl (s2.free ht) upd_same (upd_old r2 ht) (upd_old l2 ht)
abbrev s_law_cell_at : Stmt := top 21
theorem sc_law_cell_at : FnScope ["script", "k"] ["script", "k"] (defScope s_law_cell_at) := ⟨rfl, rfl, rfl, by decide +kernel, rfl, by decide +kernel, by decide +kernel⟩
def sp_law_cell_at (K : PySem.W.Frag) (T : Cl) (ec : Ec) : Sp := fun vs H Q _ => ∃ (a : Addr) (ns : List Int) (k : Int), vs = [.ref a, .int k] ∧ SqL K H a (ns.map V.int) ∧ 0 ≤ k ∧ Q (.int (cellAt ns k)) H
theorem ok_law_cell_at {P : Program} {w : World} {K : PySem.W.Frag} {mg : Str → Option Value} {base : Heap} {T : Cl} {ec : Ec} (z : BI mg) (g : GC mg) (tf : TF K mg T) (xf : XF K mg ec) (D : Def K mg "_law_cell_at" s_law_cell_at ["script", "k"]) : Cal P w K mg base 1 "_law_cell_at" ["script", "k"] (sp_law_cell_at K T ec) := by
  refine D.ok sc_law_cell_at (fun vs H Q E h => ?_) (fun f cdv A outer s H vs Q E hr h => ?_)
  · obtain ⟨a, ns, k, rfl, hS, h0, q⟩ := h; rfl
  obtain ⟨a, ns, k, rfl, hS, h0, q⟩ := h
  refine ⟨_, (pss_cons (ps_if (pt_cmpR op_lt (pv 1) (pe_callB call_len_seq rfl z.len b_len (pa_cons (pv 0) pa_nil)) (nomark _)) (pss_one (ps_ret (pe_ix ix_list (pv 0) (pv 1) (fun _ _ => rfl)))) pss_nil)
      (pss_one (ps_ret pe_int))), ?_⟩
  have hl : (ns.map V.int).length = ns.length := List.length_map _
  refine ⟨_, rfl, _, rfl, a, _, rfl, .inl hS, _, _, rfl, rfl, _, rfl, ?_⟩
  refine ite2 (fun c => ?_) (fun c => ?_)
  · have c' : k < ((ns.map V.int).length : Int) := of_decide_eq_true c
    rw [hl] at c'
    exact ⟨_, rfl, _, rfl, a, _, _, _, rfl, rfl, hS, atZ h0 c', _, Less.refl, q⟩
  · have c' : ¬ k < ((ns.map V.int).length : Int) := of_decide_eq_false (Bool.eq_false_iff.mpr c)
    rw [hl] at c'
    have e : cellAt ns k = 0 := by
      unfold cellAt
      rw [List.getD_eq_getElem?_getD, List.getElem?_eq_none (by omega)]
      rfl
    rw [e] at q
    exact ⟨_, Less.refl, q⟩
abbrev s_law_whole : Stmt := top 22
theorem sc_law_whole : FnScope ["found"] ["found"] (defScope s_law_whole) := ⟨rfl, rfl, rfl, by decide +kernel, rfl, by decide +kernel, by decide +kernel⟩
def sp_law_whole (K : PySem.W.Frag) (T : Cl) (ec : Ec) : Sp := fun vs H Q _ => ∃ (i : Int), vs = [.int i] ∧ Q (.bl true) H
theorem ok_law_whole {P : Program} {w : World} {K : PySem.W.Frag} {mg : Str → Option Value} {base : Heap} {T : Cl} {ec : Ec} (z : BI mg) (g : GC mg) (tf : TF K mg T) (xf : XF K mg ec) (D : Def K mg "_law_whole" s_law_whole ["found"]) : Cal P w K mg base 1 "_law_whole" ["found"] (sp_law_whole K T ec) := by
  refine D.ok sc_law_whole (fun vs H Q E h => ?_) (fun f cdv A outer s H vs Q E hr h => ?_)
  · obtain ⟨i, rfl, q⟩ := h; rfl
  obtain ⟨i, rfl, q⟩ := h
  refine ⟨_, (pss_one (ps_ret (pe_and (pe_callB call_isinst rfl z.isinstance b_isinstance (pa_cons (pv 0) (pa_cons (pe_bty rfl z.int b_int) pa_nil))) (pe_one (pe_not (pe_callB call_isinst rfl z.isinstance b_isinstance (pa_cons (pv 0) (pa_cons (pe_bty rfl z.bool b_bool) pa_nil)))))))), ?_⟩
  refine ⟨_, rfl, _, _, _, _, rfl, .int i, kit_int_int, _, rfl, ?_⟩
  refine iteT ?_
  refine ⟨_, rfl, _, _, _, _, rfl, .int i, kit_int_bool, _, rfl, ?_⟩
  exact ⟨_, Less.refl, q⟩
abbrev s_law_draw : Stmt := top 23
theorem sc_law_draw : FnScope ["cell", "k", "bound", "one", "two"] ["cell", "k", "bound"] (defScope s_law_draw) := ⟨rfl, rfl, rfl, by decide +kernel, rfl, by decide +kernel, by decide +kernel⟩
def sp_law_draw (K : PySem.W.Frag) (T : Cl) (ec : Ec) : Sp := fun vs H Q _ => ∃ (c k b : Int), vs = [.int c, .int k, .int b] ∧ 0 ≤ k ∧ k ≤ 1000000 ∧ 0 < b ∧ Q (.int (draw c k b)) H
theorem ok_law_draw {P : Program} {w : World} {K : PySem.W.Frag} {mg : Str → Option Value} {base : Heap} {T : Cl} {ec : Ec} (z : BI mg) (g : GC mg) (tf : TF K mg T) (xf : XF K mg ec) (D : Def K mg "_law_draw" s_law_draw ["cell", "k", "bound"]) : Cal P w K mg base 1 "_law_draw" ["cell", "k", "bound"] (sp_law_draw K T ec) := by
  refine D.ok sc_law_draw (fun vs H Q E h => ?_) (fun f cdv A outer s H vs Q E hr h => ?_)
  · obtain ⟨c, k, b, rfl, h0, h1, hb, q⟩ := h; rfl
  obtain ⟨c, k, b, rfl, h0, h1, hb, q⟩ := h
  refine ⟨_, (pss_cons (ps_set (i := 3) sc_law_draw.nd rfl (Or.inl rfl) (pe_op op_mod (pe_op op_add (pe_op op_add (pe_op op_mul (pe_op op_mod (pv 0) pe_int) pe_int) (pe_op op_mul (pv 1) pe_int)) pe_int) pe_int))
      (pss_cons (ps_set (i := 4) sc_law_draw.nd rfl (Or.inl rfl) (pe_op op_mod (pe_op op_mul (pe_op op_add (pe_op op_mod (pv 0) pe_int) pe_int) (pe_op op_add (pe_op op_add (pe_op op_mul (pv 1) (pv 1)) (pe_op op_mul pe_int (pv 1))) pe_int)) pe_int))
      (pss_one (ps_ret (pe_op op_mod (pe_op op_fdiv (pe_op op_mul (pv 3) (pe_op op_add (pv 4) pe_int)) pe_int) (pv 2)))))), ?_⟩
  have r1 := Int.emod_nonneg c (show (1000003 : Int) ≠ 0 by decide)
  have r2 := Int.emod_lt_of_pos c (show (0 : Int) < 1000003 by decide)
  have r3 := Int.emod_nonneg c (show (7919 : Int) ≠ 0 by decide)
  have r4 := Int.emod_lt_of_pos c (show (0 : Int) < 7919 by decide)
  have r5 := Int.emod_nonneg (c % 1000003 * 48271 + k * 69621 + 11) (show (2147483647 : Int) ≠ 0 by decide)
  have r6 := Int.emod_lt_of_pos (c % 1000003 * 48271 + k * 69621 + 11) (show (0 : Int) < 2147483647 by decide)
  walk_at "r"
  exact ⟨_, Less.refl, q⟩
abbrev s_law_counts : Stmt := top 24
theorem sc_law_counts : FnScope ["cell", "many", "top", "counts"] ["cell", "many"] (defScope s_law_counts) := ⟨rfl, rfl, rfl, by decide +kernel, rfl, by decide +kernel, by decide +kernel⟩
def sp_law_counts (K : PySem.W.Frag) (T : Cl) (ec : Ec) : Sp := fun vs H Q _ => ∃ (c m : Int), vs = [.int c, .int m] ∧ 1 ≤ m ∧ m ≤ 100 ∧ ∀ p, H p = none → Q (.ref p) (upd H p (.lst ((lawCounts c m).map V.int)))
theorem ok_law_counts {P : Program} {w : World} {K : PySem.W.Frag} {mg : Str → Option Value} {base : Heap} {T : Cl} {ec : Ec} (z : BI mg) (g : GC mg) (tf : TF K mg T) (xf : XF K mg ec) (D : Def K mg "_law_counts" s_law_counts ["cell", "many"]) (C_law_draw : Cal P w K mg base 1 "_law_draw" ["cell", "k", "bound"] (sp_law_draw K T ec)) : Cal P w K mg base 2 "_law_counts" ["cell", "many"] (sp_law_counts K T ec) := by
  refine D.ok sc_law_counts (fun vs H Q E h => ?_) (fun f cdv A outer s H vs Q E hr h => ?_)
  · obtain ⟨c, m, rfl, h0, h1, q⟩ := h; rfl
  obtain ⟨c, m, rfl, h0, h1, q⟩ := h
  refine ⟨_, (pss_cons (ps_set (i := 2) sc_law_counts.nd rfl (Or.inr rfl) (pe_ix ix_list (pe_lst (pa_cons pe_int (pa_cons pe_int (pa_cons pe_int (pa_cons pe_int pa_nil))))) (pe_op op_mod (pv 0) pe_int) (fun _ _ => rfl)))
      (pss_cons (ps_setComp (i := 3) sc_law_counts.nd rfl (Or.inl rfl) (caps := [(2, "top"), (0, "cell")]) rfl (pi_range1 rfl z.range (pa_cons (pv 1) pa_nil)) ⟨rfl, by decide +kernel, by decide +kernel, rfl⟩ ⟨⟨rfl, Or.inl rfl, rfl⟩, ⟨⟨rfl, Or.inl rfl, rfl⟩, trivial⟩⟩ rfl (by decide +kernel) (fun _ _ _ _ => pts_nil) (fun _ _ _ _ => (pe_def (C_law_draw.mono (by decide)) hr rfl (pa_cons (pe_op op_fdiv (pv 2) pe_int) (pa_cons (pv 0) (pa_cons (pv 1) pa_nil))))))
      (pss_cons (ps_if (pt_cmpR op_eq (pe_callB (call_sum rfl) rfl z.sum b_sum (pa_cons (pv 3) pa_nil)) pe_int (nomark _)) (pss_one (ps_asg pe_int (pg_sub (pv 3) (pe_op op_mod (pe_op op_fdiv (pv 0) pe_int) (pv 1)) set_list))) pss_nil)
      (pss_one (ps_ret (pv 3)))))), ?_⟩
  have tr := lawTop_rng c
  have l0 := lawC0_len c m
  refine ⟨(by show 4 ≤ sizeLine; decide), fun p hp => ?_⟩
  refine ⟨_, rfl, _, _, rfl, rfl, (by show (0 : Int) < 4; decide), ?_⟩
  have r1 := Int.emod_nonneg c (show (4 : Int) ≠ 0 by decide)
  have r2 := Int.emod_lt_of_pos c (show (0 : Int) < 4 by decide)
  have et : atI ([.int 2, .int 10, .int 1000, .int 4] : List V) (c % 4) = some (.int (lawTop c)) := by
    have e4 : c % 4 = 0 ∨ c % 4 = 1 ∨ c % 4 = 2 ∨ c % 4 = 3 := by omega
    unfold lawTop
    rcases e4 with e | e | e | e <;> rw [e] <;> rfl
  refine ⟨p, _, _, _, rfl, rfl, SqL.of upd_same, et, ?_⟩
  refine ⟨_, rfl, m, rfl, by omega, by omega, fun D hD => ?_⟩
  have w := itr_walk (lo := 0) (n := m.toNat) (D := D) (H1 := upd H p (.lst [.int 2, .int 10, .int 1000, .int 4]))
  refine comp_map (fun x => match x with | .int k => .int (draw (c / 4) k (lawTop c)) | y => y) (by rw [List.length_map, List.length_range]; exact szl (by omega)) w.1 w.2 ?_ ?_
  · rintro x hx ys R r
    obtain ⟨k, hk, rfl⟩ := List.mem_map.mp hx
    have hk' := List.mem_range.mp hk
    refine ⟨_, rfl, _, _, rfl, rfl, ⟨by decide, by decide⟩, _, rfl, _, rfl, ?_⟩
    exact ⟨_, _, _, rfl, by omega, by omega, by omega, r⟩
  have ee : ((List.range m.toNat).map fun k => V.int (0 + (k : Nat))).map (fun x => match x with | .int k => V.int (draw (c / 4) k (lawTop c)) | y => y) = (lawC0 c m).map V.int := by
    unfold lawC0
    rw [List.map_map, List.map_map]
    refine List.map_congr_left fun k _ => ?_
    show V.int (draw (c / 4) (0 + (k : Nat)) (lawTop c)) = V.int (draw (c / 4) (k : Nat) (lawTop c))
    rw [Int.zero_add]
  rw [ee]
  have hDH : H D = none := by
    cases e : H D with
    | none => rfl
    | some o => rw [upd_old e hp] at hD; cases hD
  have ss : Same H (upd (upd H p (.lst [.int 2, .int 10, .int 1000, .int 4])) D (.lst ((lawC0 c m).map V.int))) := (same_up hp).trans (same_up hD)
  refine ⟨_, rfl, D, lawC0 c m, rfl, SqL.of upd_same, rfl, _, rfl, ?_⟩
  refine ite2 (fun e => ?_) (fun e => ?_)
  · have e' : (lawC0 c m).sum = 0 := V.int.inj (of_decide_eq_true e)
    have a1 := Int.emod_nonneg (c / 4) (show m ≠ 0 by omega)
    have a2 := Int.emod_lt_of_pos (c / 4) (show 0 < m by omega)
    refine ⟨_, rfl, _, rfl, _, _, rfl, rfl, ⟨by decide, by decide⟩, _, rfl, _, _, rfl, rfl, (by show 0 < m; omega), D, _, _, _, rfl, rfl, upd_same, ixZ a1 (by rw [List.length_map, l0]; omega), ?_⟩
    rw [map_set, upd_upd]
    have ef : lawCounts c m = (lawC0 c m).set (c / 4 % m).toNat 1 := by unfold lawCounts; rw [if_pos e']
    rw [← ef]
    exact ⟨_, rfl, _, Less.new ((same_up hp).trans (same_up hD)) hDH upd_same rfl, q D hDH⟩
  · have e' : ¬ (lawC0 c m).sum = 0 := fun z => e (decide_eq_true (by rw [z]))
    have ef : lawCounts c m = lawC0 c m := by unfold lawCounts; rw [if_neg e']
    rw [← ef]
    exact ⟨_, rfl, _, Less.new ((same_up hp).trans (same_up hD)) hDH upd_same rfl, q D hDH⟩
abbrev s_law_held : Stmt := top 25
theorem sc_law_held : FnScope ["counts"] ["counts"] (defScope s_law_held) := ⟨rfl, rfl, rfl, by decide +kernel, rfl, by decide +kernel, by decide +kernel⟩
def sp_law_held (K : PySem.W.Frag) (T : Cl) (ec : Ec) : Sp := fun vs H Q _ => ∃ (a : Addr) (ns : List Int), vs = [.ref a] ∧ SqL K H a (ns.map V.int) ∧ ns.length ≤ 100 ∧ ∀ p, H p = none → Q (.ref p) (upd H p (.lst ((heldN ns).map V.int)))
theorem ok_law_held {P : Program} {w : World} {K : PySem.W.Frag} {mg : Str → Option Value} {base : Heap} {T : Cl} {ec : Ec} (z : BI mg) (g : GC mg) (tf : TF K mg T) (xf : XF K mg ec) (D : Def K mg "_law_held" s_law_held ["counts"]) : Cal P w K mg base 1 "_law_held" ["counts"] (sp_law_held K T ec) := by
  refine D.ok sc_law_held (fun vs H Q E h => ?_) (fun f cdv A outer s H vs Q E hr h => ?_)
  · obtain ⟨a, ns, rfl, hS, hl, q⟩ := h; rfl
  obtain ⟨a, ns, rfl, hS, hl, q⟩ := h
  refine ⟨_, (pss_one (ps_ret (pe_comp (caps := [(0, "counts")]) rfl (pi_range1 rfl z.range (pa_cons (pe_callB call_len_seq rfl z.len b_len (pa_cons (pv 0) pa_nil)) pa_nil)) ⟨rfl, by decide +kernel, by decide +kernel, rfl⟩ ⟨⟨rfl, Or.inl rfl, rfl⟩, trivial⟩ rfl (by decide +kernel) (fun _ _ _ _ => pts_one (pt_cmpR op_gt (pe_ix (ix_listK (K := K) rfl) (pv 1) (pv 0) (fun _ _ => rfl)) pe_int (nomark _))) (fun _ _ _ _ => (pv 0))))), ?_⟩
  have el : (ns.map V.int).length = ns.length := List.length_map _
  refine ⟨_, rfl, a, _, rfl, .inl hS, _, rfl, by omega, by omega, fun D hD => ?_⟩
  rw [Int.toNat_natCast, el]
  have w := itr_walk (lo := 0) (n := ns.length) (D := D) (H1 := H)
  refine comp_filter (heldP ns) id (by rw [List.length_map, List.length_range]; exact szl (by omega)) w.1 w.2 ?_ ?_ ?_
  · rintro x hx ys R r
    obtain ⟨k, hk, rfl⟩ := List.mem_map.mp hx
    have hk' := List.mem_range.mp hk
    refine ⟨_, rfl, _, rfl, a, _, _, _, rfl, rfl, hS.up hD, atZ (by omega) (by omega), _, _, rfl, rfl, _, rfl, ?_⟩
    exact r
  · rintro x hx _ ys R r
    exact ⟨_, rfl, r⟩
  rw [held_comp]
  exact ⟨_, Less.new (same_up hD) hD upd_same rfl, q D hD⟩
abbrev s_law_numbers : Stmt := top 26
theorem sc_law_numbers : FnScope ["found", "due", "x"] ["found", "due"] (defScope s_law_numbers) := ⟨rfl, rfl, rfl, by decide +kernel, rfl, by decide +kernel, by decide +kernel⟩
def sp_law_numbers (K : PySem.W.Frag) (T : Cl) (ec : Ec) : Sp := fun vs H Q _ => ∃ (a b : Addr) (xs ys : List Int), vs = [.ref a, .ref b] ∧ H a = some (.lst (xs.map V.int)) ∧ SqL K H b (ys.map V.int) ∧ xs = ys ∧ Q (.bl true) H
theorem ok_law_numbers {P : Program} {w : World} {K : PySem.W.Frag} {mg : Str → Option Value} {base : Heap} {T : Cl} {ec : Ec} (z : BI mg) (g : GC mg) (tf : TF K mg T) (xf : XF K mg ec) (D : Def K mg "_law_numbers" s_law_numbers ["found", "due"]) (C_law_whole : Cal P w K mg base 1 "_law_whole" ["found"] (sp_law_whole K T ec)) : Cal P w K mg base 2 "_law_numbers" ["found", "due"] (sp_law_numbers K T ec) := by
  refine D.ok sc_law_numbers (fun vs H Q E h => ?_) (fun f cdv A outer s H vs Q E hr h => ?_)
  · obtain ⟨a, b, xs, ys, rfl, ha, hb, e0, q⟩ := h; rfl
  obtain ⟨a, b, xs, ys, rfl, ha, hb, e0, q⟩ := h
  refine ⟨_, (pss_cons (ps_if (PW.pt (pw_or (pt_not (pt_truth (pe_callB call_isinst rfl z.isinstance b_isinstance (pa_cons (pv 0) (pa_cons (pe_bty rfl z.list b_list) pa_nil))) (fun _ => rfl))) (pw_or1 (pt_cmpR op_ne (pe_callB call_len_seq rfl z.len b_len (pa_cons (pv 0) pa_nil)) (pe_callB call_len_seq rfl z.len b_len (pa_cons (pv 1) pa_nil)) (nomark _))))) (pss_one (ps_ret pe_bl)) pss_nil)
      (pss_cons (ps_for PassesOwn.never rfl (pi_list (pv 0)) (pg_name (i := 2) sc_law_numbers.nd rfl (Or.inl rfl)) (pss_one (ps_if (pt_not (pt_truth (pe_def (C_law_whole.mono (by decide)) hr rfl (pa_cons (pv 2) pa_nil)) (fun _ => rfl))) (pss_one (ps_ret pe_bl)) pss_nil)))
      (pss_one (ps_ret (pe_cmpR (op_eqLI (hU hr)) (pv 0) (pv 1) (nomark _)))))), ?_⟩
  subst e0
  refine ⟨_, rfl, _, _, _, _, rfl, .lst ha, kit_list, ?_⟩
  walk_at "r"
  refine ⟨a, _, rfl, .inl (SqL.of ha), _, rfl, b, _, rfl, .inl hb, rfl, _, rfl, ?_⟩
  refine iteNS rfl ?_
  refine ⟨_, rfl, a, rfl, ⟨_, SqL.of ha⟩, for_list (K := K) (a := a) (xs := xs.map V.int) (fun i σ H2 => ∃ v, σ = [some (.ref a), some (.ref b), v] ∧ H2 = H) ⟨none, rfl, rfl⟩ (fun i σ H2 _ ⟨_, _, e⟩ => e ▸ SqL.of ha) ?_ ?_⟩
  · rintro i y σ H2 hi ⟨v, rfl, rfl⟩
    obtain ⟨n, _, rfl⟩ := mem_at hi
    refine ⟨_, rfl, n, rfl, _, rfl, ?_⟩
    exact ⟨_, rfl, rfl⟩
  · rintro σ H2 ⟨v, rfl, rfl⟩
    refine ⟨_, rfl, _, rfl, a, b, xs, xs, rfl, rfl, SqL.of ha, hb, _, Less.refl, ?_⟩
    show Q (.bl (decide (xs = xs))) _
    rw [decide_eq_true rfl]
    exact q
abbrev s_law_is_laid : Stmt := top 27
theorem sc_law_is_laid : FnScope ["found", "size", "bit"] ["found", "size"] (defScope s_law_is_laid) := ⟨rfl, rfl, rfl, by decide +kernel, rfl, by decide +kernel, by decide +kernel⟩
def sp_law_is_laid (K : PySem.W.Frag) (T : Cl) (ec : Ec) : Sp := fun vs H Q _ => ∃ (t l : Addr) (n w : Int) (bs : List Int), vs = [.ref t, .int w] ∧ H t = some (.tup [.int n, .ref l]) ∧ H l = some (.lst (bs.map V.int)) ∧ (∀ b ∈ bs, 0 ≤ b ∧ b < 2) ∧ w ≤ n ∧ n < 2 * w ∧ Q (.bl true) H
theorem ok_law_is_laid {P : Program} {w : World} {K : PySem.W.Frag} {mg : Str → Option Value} {base : Heap} {T : Cl} {ec : Ec} (z : BI mg) (g : GC mg) (tf : TF K mg T) (xf : XF K mg ec) (D : Def K mg "_law_is_laid" s_law_is_laid ["found", "size"]) (C_law_whole : Cal P w K mg base 1 "_law_whole" ["found"] (sp_law_whole K T ec)) : Cal P w K mg base 2 "_law_is_laid" ["found", "size"] (sp_law_is_laid K T ec) := by
  refine D.ok sc_law_is_laid (fun vs H Q E h => ?_) (fun f cdv A outer s H vs Q E hr h => ?_)
  · obtain ⟨t, l, n, w, bs, rfl, ht, hl, hb, h0, h1, q⟩ := h; rfl
  obtain ⟨t, l, n, w, bs, rfl, ht, hl, hb, h0, h1, q⟩ := h
  refine ⟨_, (pss_cons (ps_if (PW.pt (pw_or (pt_not (pt_truth (pe_callB call_isinst rfl z.isinstance b_isinstance (pa_cons (pv 0) (pa_cons (pe_bty rfl z.tuple b_tuple) pa_nil))) (fun _ => rfl))) (pw_or (pt_cmpR op_ne (pe_callB call_len_seq rfl z.len b_len (pa_cons (pv 0) pa_nil)) pe_int (nomark _)) (pw_or (pt_not (pt_truth (pe_def (C_law_whole.mono (by decide)) hr rfl (pa_cons (pe_ix ix_tup (pv 0) pe_int (fun _ _ => rfl)) pa_nil)) (fun _ => rfl))) (pw_or1 (pt_not (pt_truth (pe_callB call_isinst rfl z.isinstance b_isinstance (pa_cons (pe_ix ix_tup (pv 0) pe_int (fun _ _ => rfl)) (pa_cons (pe_bty rfl z.list b_list) pa_nil))) (fun _ => rfl)))))))) (pss_one (ps_ret pe_bl)) pss_nil)
      (pss_cons (ps_for PassesOwn.never rfl (pi_list (pe_ix ix_tup (pv 0) pe_int (fun _ _ => rfl))) (pg_name (i := 2) sc_law_is_laid.nd rfl (Or.inl rfl)) (pss_one (ps_if (PW.pt (pw_or (pt_not (pt_truth (pe_def (C_law_whole.mono (by decide)) hr rfl (pa_cons (pv 2) pa_nil)) (fun _ => rfl))) (pw_or1 (pt_not (pt_chain op_le op_le pe_int (pv 2) pe_int))))) (pss_one (ps_ret pe_bl)) pss_nil)))
      (pss_one (ps_ret (pe_chain op_le op_lt (pv 1) (pe_ix ix_tup (pv 0) pe_int (fun _ _ => rfl)) (pe_op op_mul pe_int (pv 1))))))), ?_⟩
  refine ⟨_, rfl, _, _, _, _, rfl, .tup ht, kit_tuple, ?_⟩
  walk_at "r"
  refine ⟨t, _, rfl, .inr (SqT.of ht), ?_⟩
  walk_at "r"
  refine ⟨t, _, _, _, rfl, rfl, SqT.of ht, rfl, ?_⟩
  walk_at "r"
  refine ⟨t, _, _, _, rfl, rfl, SqT.of ht, rfl, ?_⟩
  refine ⟨_, _, _, _, rfl, .lst hl, kit_list, ?_⟩
  refine ⟨_, rfl, ?_⟩
  refine iteF ?_
  refine ⟨_, rfl, t, _, _, _, rfl, rfl, SqT.of ht, rfl, l, rfl, ⟨_, SqL.of hl⟩, for_list (K := K) (a := l) (xs := bs.map V.int) (fun i σ H2 => ∃ v, σ = [some (.ref t), some (.int w), v] ∧ H2 = H) ⟨none, rfl, rfl⟩ (fun i σ H2 _ ⟨_, _, e⟩ => e ▸ SqL.of hl) ?_ ?_⟩
  · rintro i y σ H2 hi ⟨v, rfl, rfl⟩
    obtain ⟨b, hbm, rfl⟩ := mem_at hi
    have hbb := hb b hbm
    walk_at "r"
    refine ite2 (fun _ => ?_) (fun c => absurd (decide_eq_true hbb.1) c)
    refine ⟨_, _, rfl, rfl, _, rfl, ?_⟩
    have e1 : decide (b ≤ 1) = true := decide_eq_true (by omega)
    rw [e1]
    refine iteF ?_
    exact ⟨_, rfl, rfl⟩
  · rintro σ H2 ⟨v, rfl, rfl⟩
    refine ⟨_, rfl, _, rfl, t, _, _, _, rfl, rfl, SqT.of ht, rfl, _, _, rfl, rfl, _, rfl, ?_⟩
    refine ite2 (fun _ => ?_) (fun c => absurd (decide_eq_true h0) c)
    refine ⟨_, rfl, _, _, rfl, rfl, .inl ⟨by decide, by decide⟩, _, _, rfl, rfl, ?_⟩
    have e1 : decide (n < 2 * w) = true := decide_eq_true h1
    dsimp only
    rw [e1]
    exact ⟨_, Less.refl, q⟩
abbrev s_law_is_taken : Stmt := top 28
theorem sc_law_is_taken : FnScope ["found", "row", "number", "bits"] ["found", "row", "number", "bits"] (defScope s_law_is_taken) := ⟨rfl, rfl, rfl, by decide +kernel, rfl, by decide +kernel, by decide +kernel⟩
def sp_law_is_taken (K : PySem.W.Frag) (T : Cl) (ec : Ec) : Sp := fun vs H Q _ => ∃ (t r l b c : Addr) (n : Int) (rs bs : List Int), vs = [.ref t, .ref b, .int n, .ref c] ∧ H t = some (.tup [.ref r, .int n, .ref l]) ∧ H r = some (.lst (rs.map V.int)) ∧ H l = some (.lst (bs.map V.int)) ∧ SqL K H b (rs.map V.int) ∧ SqL K H c (bs.map V.int) ∧ Q (.bl true) H
theorem ok_law_is_taken {P : Program} {w : World} {K : PySem.W.Frag} {mg : Str → Option Value} {base : Heap} {T : Cl} {ec : Ec} (z : BI mg) (g : GC mg) (tf : TF K mg T) (xf : XF K mg ec) (D : Def K mg "_law_is_taken" s_law_is_taken ["found", "row", "number", "bits"]) (C_law_numbers : Cal P w K mg base 2 "_law_numbers" ["found", "due"] (sp_law_numbers K T ec)) (C_law_whole : Cal P w K mg base 1 "_law_whole" ["found"] (sp_law_whole K T ec)) : Cal P w K mg base 3 "_law_is_taken" ["found", "row", "number", "bits"] (sp_law_is_taken K T ec) := by
  refine D.ok sc_law_is_taken (fun vs H Q E h => ?_) (fun f cdv A outer s H vs Q E hr h => ?_)
  · obtain ⟨t, r, l, b, c, n, rs, bs, rfl, ht, hr0, hl, hb, hc, q⟩ := h; rfl
  obtain ⟨t, r, l, b, c, n, rs, bs, rfl, ht, hr0, hl, hb, hc, q⟩ := h
  refine ⟨_, (pss_cons (ps_if (PW.pt (pw_or (pt_not (pt_truth (pe_callB call_isinst rfl z.isinstance b_isinstance (pa_cons (pv 0) (pa_cons (pe_bty rfl z.tuple b_tuple) pa_nil))) (fun _ => rfl))) (pw_or (pt_cmpR op_ne (pe_callB call_len_seq rfl z.len b_len (pa_cons (pv 0) pa_nil)) pe_int (nomark _)) (pw_or1 (pt_not (pt_truth (pe_def (C_law_numbers.mono (by decide)) hr rfl (pa_cons (pe_ix ix_tup (pv 0) pe_int (fun _ _ => rfl)) (pa_cons (pv 1) pa_nil))) (fun _ => rfl))))))) (pss_one (ps_ret pe_bl)) pss_nil)
      (pss_one (ps_ret (pe_and (pe_def (C_law_whole.mono (by decide)) hr rfl (pa_cons (pe_ix ix_tup (pv 0) pe_int (fun _ _ => rfl)) pa_nil)) (pe_and (pe_cmpR op_eq (pe_ix ix_tup (pv 0) pe_int (fun _ _ => rfl)) (pv 2) (nomark _)) (pe_one (pe_def (C_law_numbers.mono (by decide)) hr rfl (pa_cons (pe_ix ix_tup (pv 0) pe_int (fun _ _ => rfl)) (pa_cons (pv 3) pa_nil))))))))), ?_⟩
  refine ⟨_, rfl, _, _, _, _, rfl, .tup ht, kit_tuple, ?_⟩
  walk_at "r"
  refine ⟨t, _, rfl, .inr (SqT.of ht), ?_⟩
  walk_at "r"
  refine ⟨t, _, _, _, rfl, rfl, SqT.of ht, rfl, _, rfl, r, b, rs, rs, rfl, hr0, hb, rfl, ?_⟩
  walk_at "r"
  refine ⟨t, _, _, _, rfl, rfl, SqT.of ht, rfl, ?_⟩
  walk_at "r"
  refine ⟨t, _, _, _, rfl, rfl, SqT.of ht, rfl, _, rfl, rfl, _, rfl, ?_⟩
  refine ite2 (fun _ => ?_) (fun c => absurd (decide_eq_true rfl) c)
  refine ⟨_, rfl, t, _, _, _, rfl, rfl, SqT.of ht, rfl, _, rfl, l, c, bs, bs, rfl, hl, hc, rfl, ?_⟩
  exact ⟨_, Less.refl, q⟩
abbrev s_law_lacking : Stmt := top 29
theorem sc_law_lacking : FnScope ["slots", "number", "bits", "many", "told"] ["slots", "number", "bits", "many"] (defScope s_law_lacking) := ⟨rfl, rfl, rfl, by decide +kernel, rfl, by decide +kernel, by decide +kernel⟩
def sp_law_lacking (K : PySem.W.Frag) (T : Cl) (ec : Ec) : Sp := fun vs H Q _ => ∃ (x b : Addr) (cs : List Int) (n m : Int) (bs : List Int), vs = [.ref x, .int n, .ref b, .int m] ∧ SlAt T.O H x cs ∧ SqL K H b (bs.map V.int) ∧ cs.sum ≤ n ∧ n < 2 * cs.sum ∧ (∀ w ∈ bs, 0 ≤ w ∧ w < 2) ∧ 0 ≤ m ∧ m ≤ 1000 ∧ runB cs m.toNat n bs.reverse = none ∧ ∀ H', Q (.bl true) H'
theorem ok_law_lacking {P : Program} {w : World} {K : PySem.W.Frag} {mg : Str → Option Value} {base : Heap} {T : Cl} {ec : Ec} (z : BI mg) (g : GC mg) (tf : TF K mg T) (xf : XF K mg ec) (D : Def K mg "_law_lacking" s_law_lacking ["slots", "number", "bits", "many"]) (C_Slots_taken : CalMX P w K mg base 3 T.O "taken" ["self", "number", "bits", "many"] (sp_Slots_taken K T ec)) : Cal P w K mg base 4 "_law_lacking" ["slots", "number", "bits", "many"] (sp_law_lacking K T ec) := by
  refine D.okH sc_law_lacking (fun vs H Q E h => ?_) (fun f cdv A outer s H vs Q E hr h => ?_)
  · obtain ⟨x, b, cs, n, m, bs, rfl, sl, hb, h0, h1, hw, m0, m1, e, q⟩ := h; rfl
  obtain ⟨x, b, cs, n, m, bs, rfl, sl, hb, h0, h1, hw, m0, m1, e, q⟩ := h
  refine ⟨_, (pss_cons (ps_set (i := 4) sc_law_lacking.nd rfl (Or.inl rfl) pe_bl)
      (pss_cons (ps_try ⟨rfl, rfl⟩ rfl (psx_expr (px_methD (Cs := fun C => C = T.O) (spm := fun _ => sp_Slots_taken K T ec) (pv 0) (fun _ e => by subst e; exact ⟨tf.fO.cl, C_Slots_taken.mono (by decide)⟩) hr rfl (pa_cons (pv 1) (pa_cons (pv 2) (pa_cons (pv 3) pa_nil))))) rfl xf.mNoMore xf.oNoMore (fun _ _ _ _ hx => (pss_one (ps_set (i := 4) sc_law_lacking.nd rfl (Or.inl rfl) pe_bl))))
      (pss_one (ps_ret (pv 4))))), ?_⟩
  obtain ⟨gc, dx, kl, sg, pl, nl, as, hx, _⟩ := id sl
  refine ⟨_, rfl, x, T.O, dx, _, rfl, hx, rfl, nO_taken _ _ _ _ _, _, rfl, _, rfl, _, rfl, x, b, cs, n, m, bs, rfl, sl, hb, h0, h1, hw, m0, m1, .inl ⟨e, fun H' s => ?_⟩⟩
  exact ⟨_, rfl, xf.sNoMore, ⟨_, rfl, q _⟩⟩
abbrev s_law_due : Stmt := top 30
theorem sc_law_due : FnScope ["slots", "counts", "number", "row", "bits", "sign"] ["slots", "counts", "number", "row"] (defScope s_law_due) := ⟨rfl, rfl, rfl, by decide +kernel, rfl, by decide +kernel, by decide +kernel⟩
def sp_law_due (K : PySem.W.Frag) (T : Cl) (ec : Ec) : Sp := fun vs H Q _ => ∃ (x c r : Addr) (cs : List Int) (n : Int) (rs : List Int), vs = [.ref x, .ref c, .int n, .ref r] ∧ SlAt T.O H x cs ∧ SqL K H c (cs.map V.int) ∧ SqL K H r (rs.map V.int) ∧ cs.sum ≤ 8192 ∧ cs.sum ≤ n ∧ n < 2 * cs.sum ∧ (∀ k ∈ rs, OkS cs k) ∧ rs.length ≤ 200 ∧
  ∀ l t, H l = none → (upd H l (.lst ((layRB cs rs (n, [])).2.map V.int))) t = none → Q (.ref t) (upd (upd H l (.lst ((layRB cs rs (n, [])).2.map V.int))) t (.tup [.int (layRB cs rs (n, [])).1, .ref l]))
theorem ok_law_due {P : Program} {w : World} {K : PySem.W.Frag} {mg : Str → Option Value} {base : Heap} {T : Cl} {ec : Ec} (z : BI mg) (g : GC mg) (tf : TF K mg T) (xf : XF K mg ec) (D : Def K mg "_law_due" s_law_due ["slots", "counts", "number", "row"]) (C_Slots_raised : CalM P w K mg base 3 T.O "raised" ["self", "sign", "number"] (sp_Slots_raised K T ec)) : Cal P w K mg base 4 "_law_due" ["slots", "counts", "number", "row"] (sp_law_due K T ec) := by
  refine D.ok sc_law_due (fun vs H Q E h => ?_) (fun f cdv A outer s H vs Q E hr h => ?_)
  · obtain ⟨x, c, r, cs, n, rs, rfl, sl, hC, hR, c8, h0, h1, ok, hlen, q⟩ := h; rfl
  obtain ⟨x, c, r, cs, n, rs, rfl, sl, hC, hR, c8, h0, h1, ok, hlen, q⟩ := h
  refine ⟨_, (pss_cons (ps_set (i := 4) sc_law_due.nd rfl (Or.inl rfl) (pe_lst pa_nil))
      (pss_cons (ps_for PassesOwn.never rfl (pi_rev rfl z.reversed (pa_cons (pv 3) pa_nil)) (pg_name (i := 5) sc_law_due.nd rfl (Or.inl rfl)) (pss_cons (ps_while PassesOwn.never (pt_cmpR op_ge (pv 2) (pe_op op_mul pe_int (pe_ix ix_list (pv 1) (pv 5) (fun _ _ => rfl))) (nomark _)) (pss_cons (ps_expr (pe_bm PySem.F.plainAttrs_list PySem.F.slot_list_append PySem.F.type_list_append mt_append (pv 4) (pa_cons (pe_op op_mod (pv 2) pe_int) pa_nil)))
      (pss_one (ps_set (i := 2) sc_law_due.nd rfl (Or.inl rfl) (pe_op op_fdiv (pv 2) pe_int)))))
      (pss_one (ps_set (i := 2) sc_law_due.nd rfl (Or.inl rfl) (pe_methD (Cs := fun C => C = T.O) (spm := fun _ => sp_Slots_raised K T ec) (pv 0) (fun _ e => by subst e; exact ⟨tf.fO.cl, C_Slots_raised.mono (by decide)⟩) hr (pa_cons (pv 5) (pa_cons (pv 2) pa_nil)))))))
      (pss_one (ps_ret (pe_tup (pa_cons (pv 2) (pa_cons (pv 4) pa_nil))))))), ?_⟩
  obtain ⟨gc, dx, kl, sg, pl, nl, as, hx, hk, hg, kp, hn⟩ := id sl
  refine ⟨(by show 0 ≤ sizeLine; decide), fun l hl => ?_⟩
  have lm : ∀ i, i ≤ rs.length → ∀ k ∈ rs.drop (rs.length - i), OkS cs k := fun i _ k hk => ok k (List.mem_of_mem_drop hk)
  refine ⟨_, rfl, r, _, rfl, hR.up hl, for_rev (K := K) (a := r) (xs := rs.map V.int) (fun i σ H2 => ∃ (v4 : Option V), σ = [some (.ref x), some (.ref c), some (.int (layRB cs (rs.drop (rs.length - i)) (n, [])).1), some (.ref r), some (.ref l), v4] ∧ H2 = upd H l (.lst ((layRB cs (rs.drop (rs.length - i)) (n, [])).2.map V.int))) ⟨none, ?_, ?_⟩ (fun i σ H2 _ ⟨_, _, e⟩ => e ▸ hR.up hl) ?_ ?_⟩
  · rw [Nat.sub_zero, List.drop_length]
    rfl
  · rw [Nat.sub_zero, List.drop_length]
    rfl
  · rintro i y σ H2 hi ⟨v4, rfl, rfl⟩
    have hi' : i < rs.length := by
      have := (List.getElem?_eq_some_iff.mp hi).1
      rw [List.length_reverse, List.length_map] at this
      exact this
    have ey : y = .int (rs.getD (rs.length - 1 - i) 0) := by
      rw [List.getElem?_reverse (by rw [List.length_map]; exact hi'), List.length_map, getI (by omega)] at hi
      exact (Option.some.inj hi).symm
    subst ey
    obtain ⟨k0, k1, k2⟩ := ok (rs.getD (rs.length - 1 - i) 0) (Np.getD_mem (by omega))
    obtain ⟨j0, j1, _⟩ := layRB_ok gc (bits := []) h0 h1 (lm i (by omega))
    obtain ⟨jl, jb⟩ := layRB_len gc c8 h0 h1 (lm i (by omega))
    have jl2 : (rs.drop (rs.length - i)).length = i := by rw [List.length_drop]; omega
    rw [jl2] at jl
    rw [layRB_drop hi']
    generalize layRB cs (rs.drop (rs.length - i)) (n, []) = st at j0 j1 jl jb ⊢
    generalize rs.getD (rs.length - 1 - i) 0 = k at k0 k1 k2 ⊢
    obtain ⟨_, _, _, _, b4, b5⟩ := layB_ok gc (s := k.toNat) (by omega) k2 st.2 j0 j1
    have fl2 := flush_len2 (cs := cs) (s := k.toNat) k2 (bits := st.2) j1 c8
    have hcc := gc.at k.toNat
    have slU : ∀ v, SlAt T.O (upd H l v) x cs := fun v => sl.same (same_up hl)
    refine while_by (fun σ H3 => ∃ (n2 : Int) (bs2 : List Int), σ = [some (.ref x), some (.ref c), some (.int n2), some (.ref r), some (.ref l), some (.int k)] ∧ H3 = upd H l (.lst (bs2.map V.int)) ∧ flush 2 (2 * cs.getD k.toNat 0) n2 bs2 = flush 2 (2 * cs.getD k.toNat 0) st.1 st.2 ∧ 0 ≤ n2)
      (fun σ H3 => match σ with | [_, _, some (.int m), _, _, _] => m.toNat | _ => 0) ⟨st.1, st.2, rfl, rfl, rfl, by have := gc.pos; omega⟩ ?_ ?_
    · rintro σ H3 ⟨n2, bs2, rfl, rfl, fl, nn⟩
      refine ⟨_, rfl, _, rfl, _, rfl, c, _, _, _, rfl, rfl, hC.up hl, atZ k0 k1, _, _, rfl, rfl, .inl ⟨by decide, by decide⟩, _, _, rfl, rfl, _, rfl, ?_⟩
      refine ite2 (fun e => ?_) (fun e => ?_)
      · have c' : 2 * cs.getD k.toNat 0 ≤ n2 := of_decide_eq_true e
        have stp := flush_step (b := 2) (bd := 2 * cs.getD k.toNat 0) (by decide) (by omega) (ws := bs2) c'
        have ln : (bs2 ++ [n2 % 2]).length ≤ (layB cs k.toNat st.1 st.2).2.length := by
          show _ ≤ (flush 2 (2 * cs.getD k.toNat 0) st.1 st.2).2.length
          rw [← fl, stp]
          exact flush_len (by decide) (by omega) _ _
        rw [List.length_append] at ln
        have ln' : bs2.length + 1 ≤ (layB cs k.toNat st.1 st.2).2.length := ln
        refine ⟨_, rfl, .inl ⟨rfl, _, SqL.of upd_same⟩, _, rfl, _, _, rfl, rfl, (by show (0 : Int) < 2; decide), l, _, _, rfl, rfl, upd_same, szlt (by rw [List.length_map]; omega), ?_⟩
        rw [upd_upd]
        refine ⟨_, rfl, _, _, rfl, rfl, ⟨by decide, by decide⟩, ?_⟩
        have dv := div_less (b := 2) (by decide) (n := n2) (by omega)
        refine ⟨⟨n2 / 2, bs2 ++ [n2 % 2], rfl, by rw [List.map_append]; rfl, by rw [← fl, stp], by omega⟩, ?_⟩
        show (n2 / 2).toNat < n2.toNat
        omega
      · have c' : ¬ 2 * cs.getD k.toNat 0 ≤ n2 := of_decide_eq_false (Bool.eq_false_iff.mpr e)
        rw [flush_stop (b := 2) (by decide) (by omega) (ws := bs2) c'] at fl
        rw [← fl] at b4 b5
        have ek : ((k.toNat : Nat) : Int) = k := Int.toNat_of_nonneg k0
        refine ⟨_, rfl, x, T.O, dx, _, rfl, upd_old hx hl, rfl, nO_raised _ _ _ _ _, _, rfl, _, rfl, x, cs, k.toNat, n2, by rw [ek], slU _, by omega, k2, b4, b5, ?_⟩
        have e1 : layB cs k.toNat st.1 st.2 = (cs.sum + (((posN cs k.toNat).getD (n2 - cs.getD k.toNat 0).toNat 0 : Nat) : Int), bs2) := by unfold layB; rw [← fl]
        rw [e1]
        exact ⟨_, rfl, rfl⟩
    · rintro σ H3 Q1 Q2 hq ⟨v1, e1, v2, e2, v3, e3, a1, xs1, i3, w1, y1, y2, y3, y4, i1, j1, x1, x2, x3, i2, j2, z1, z2, k', z3, h⟩
      exact ⟨v1, e1, v2, e2, v3, e3, a1, xs1, i3, w1, y1, y2, y3, y4, i1, j1, x1, x2, x3, i2, j2, z1, z2, k', z3, hq _ _ h⟩
  · rintro σ H2 ⟨v4, rfl, rfl⟩
    rw [List.length_map, Nat.sub_self, List.drop_zero]
    refine ⟨_, rfl, _, rfl, (by show 2 ≤ sizeLine; decide), fun t ht => ?_⟩
    exact ⟨_, Less.add (Less.new ((same_up hl).trans (same_up ht)) hl (upd_old upd_same ht) rfl) ht upd_same rfl, q l t hl ht⟩
abbrev s_law : Stmt := top 31
theorem sc_law : FnScope ["script", "cell", "counts", "held", "size", "slots", "number", "row", "handed", "found", "due", "others", "bits", "kept", "again"] ["script"] (defScope s_law) := ⟨rfl, rfl, rfl, by decide +kernel, rfl, by decide +kernel, by decide +kernel⟩
def sp_law (K : PySem.W.Frag) (T : Cl) (ec : Ec) : Sp := fun vs H Q _ => ∃ (a : Addr) (ns : List Int), vs = [.ref a] ∧ SqL K H a (ns.map V.int) ∧ ns.length ≤ 63 ∧ ∀ H', Q (.bl true) H'
theorem ok_law {P : Program} {w : World} {K : PySem.W.Frag} {mg : Str → Option Value} {base : Heap} {T : Cl} {ec : Ec} {f : Addr} {fd : FuncData} (z : BI mg) (g : GC mg) (tf : TF K mg T) (xf : XF K mg ec) (F : Fun K "law" "law" s_law f fd) (C_law_cell_at : Cal P w K mg base 1 "_law_cell_at" ["script", "k"] (sp_law_cell_at K T ec)) (C_law_counts : Cal P w K mg base 2 "_law_counts" ["cell", "many"] (sp_law_counts K T ec)) (C_law_held : Cal P w K mg base 1 "_law_held" ["counts"] (sp_law_held K T ec)) (C_Slots : CalA P w K mg base 5 "Slots" (sp_Slots K T)) (C_Slots_laid : CalM P w K mg base 4 T.O "laid" ["self", "number", "row"] (sp_Slots_laid K T ec)) (C_law_due : Cal P w K mg base 4 "_law_due" ["slots", "counts", "number", "row"] (sp_law_due K T ec)) (C_law_is_laid : Cal P w K mg base 2 "_law_is_laid" ["found", "size"] (sp_law_is_laid K T ec)) (C_law_draw : Cal P w K mg base 1 "_law_draw" ["cell", "k", "bound"] (sp_law_draw K T ec)) (C_Slots_taken : CalMX P w K mg base 3 T.O "taken" ["self", "number", "bits", "many"] (sp_Slots_taken K T ec)) (C_law_is_taken : Cal P w K mg base 3 "_law_is_taken" ["found", "row", "number", "bits"] (sp_law_is_taken K T ec)) (C_law_lacking : Cal P w K mg base 4 "_law_lacking" ["slots", "number", "bits", "many"] (sp_law_lacking K T ec)) : FnOk P w K mg base CX0 6 f fd ["script"] (sp_law K T ec) := by
  refine F.ok sc_law (fun vs H Q E h => ?_) (fun cdv A outer s H vs Q E hr h => ?_)
  · obtain ⟨a, ns, rfl, hS, hlen, q⟩ := h; rfl
  obtain ⟨a, ns, rfl, hS, hlen, q⟩ := h
  refine ⟨_, (pss_cons (ps_set (i := 1) sc_law.nd rfl (Or.inl rfl) (pe_def (C_law_cell_at.mono (by decide)) hr rfl (pa_cons (pv 0) (pa_cons pe_int pa_nil))))
      (pss_cut (ps_if (pt_cmpR op_eq (pe_op op_mod (pv 1) pe_int) pe_int (nomark _)) (pss_one (ps_set (i := 1) sc_law.nd rfl (Or.inl rfl) (pe_op op_add (pv 1) pe_int))) pss_nil)
      (pss_cons (ps_set (i := 2) sc_law.nd rfl (Or.inl rfl) (pe_def (C_law_counts.mono (by decide)) hr rfl (pa_cons (pv 1) (pa_cons (pe_op op_add pe_int (pe_op op_mod (pe_def (C_law_cell_at.mono (by decide)) hr rfl (pa_cons (pv 0) (pa_cons pe_int pa_nil))) pe_int)) pa_nil))))
      (pss_cons (ps_set (i := 3) sc_law.nd rfl (Or.inr rfl) (pe_def (C_law_held.mono (by decide)) hr rfl (pa_cons (pv 2) pa_nil)))
      (pss_cons (ps_set (i := 4) sc_law.nd rfl (Or.inl rfl) (pe_callB (call_sum rfl) rfl z.sum b_sum (pa_cons (pv 2) pa_nil)))
      (pss_cons (ps_set (i := 5) sc_law.nd rfl (Or.inl rfl) (pe_cal (C_Slots.mono (by decide)) hr rfl (pa_cons (pv 2) pa_nil)))
      (pss_cons (ps_set (i := 6) sc_law.nd rfl (Or.inl rfl) (pe_op op_add (pv 4) (pe_op op_mod (pe_def (C_law_cell_at.mono (by decide)) hr rfl (pa_cons (pv 0) (pa_cons pe_int pa_nil))) (pv 4))))
      (pss_cons (ps_setComp (i := 7) sc_law.nd rfl (Or.inl rfl) (caps := [(3, "held")]) rfl (pi_list (pe_slice sl_list (pv 0) (po_some pe_int) (po_some pe_int))) ⟨rfl, by decide +kernel, by decide +kernel, rfl⟩ ⟨⟨rfl, Or.inl rfl, rfl⟩, trivial⟩ rfl (by decide +kernel) (fun _ _ _ _ => pts_nil) (fun _ _ _ _ => (pe_ix (ix_listK (K := K) rfl) (pv 1) (pe_op op_mod (pv 0) (pe_callB (call_lenK (K := K) rfl) rfl z.len b_len (pa_cons (pv 1) pa_nil))) (fun _ _ => rfl))))
      (pss_cons (ps_set (i := 8) sc_law.nd rfl (Or.inl rfl) (pe_callTy call_list_of rfl z.list b_list (pa_cons (pv 7) pa_nil)))
      (pss_cons (ps_set (i := 9) sc_law.nd rfl (Or.inl rfl) (pe_methD (Cs := fun C => C = T.O) (spm := fun _ => sp_Slots_laid K T ec) (pv 5) (fun _ e => by subst e; exact ⟨tf.fO.cl, C_Slots_laid.mono (by decide)⟩) hr (pa_cons (pv 6) (pa_cons (pv 8) pa_nil))))
      (pss_cons (ps_set (i := 10) sc_law.nd rfl (Or.inl rfl) (pe_def (C_law_due.mono (by decide)) hr rfl (pa_cons (pv 5) (pa_cons (pv 2) (pa_cons (pv 6) (pa_cons (pv 7) pa_nil))))))
      (pss_cons (ps_if (PW.pt (pw_or (pt_not (pt_truth (pe_def (C_law_is_laid.mono (by decide)) hr rfl (pa_cons (pv 9) (pa_cons (pv 4) pa_nil))) (fun _ => rfl))) (pw_or (pt_cmpR (op_neLI (hU hr)) (pv 8) (pv 7) (nomark _)) (pw_or1 (pt_cmpR (op_neTD (hU100 hr)) (pv 9) (pv 10) (nomark _)))))) (pss_one (ps_ret pe_bl)) pss_nil)
      (pss_cons (ps_setComp (i := 11) sc_law.nd rfl (Or.inl rfl) (caps := [(0, "script")]) rfl (pi_range1 rfl z.range (pa_cons (pe_op op_mod (pe_def (C_law_cell_at.mono (by decide)) hr rfl (pa_cons (pv 0) (pa_cons pe_int pa_nil))) pe_int) pa_nil)) ⟨rfl, by decide +kernel, by decide +kernel, rfl⟩ ⟨⟨rfl, Or.inl rfl, rfl⟩, trivial⟩ rfl (by decide +kernel) (fun _ _ _ _ => pts_nil) (fun _ _ _ _ => (pe_def (C_law_draw.mono (by decide)) hr rfl (pa_cons (pe_def (C_law_cell_at.mono (by decide)) hr rfl (pa_cons (pv 1) (pa_cons pe_int pa_nil))) (pa_cons (pv 0) (pa_cons pe_int pa_nil))))))
      (pss_cons (ps_set (i := 12) sc_law.nd rfl (Or.inl rfl) (pe_op op_cat (pv 11) (pe_ix ix_tup (pv 9) pe_int (fun _ _ => rfl))))
      (pss_cons (ps_set (i := 13) sc_law.nd rfl (Or.inl rfl) (pe_callTy call_list_of rfl z.list b_list (pa_cons (pv 12) pa_nil)))
      (pss_cons (ps_set (i := 14) sc_law.nd rfl (Or.inl rfl) (pe_methD (Cs := fun C => C = T.O) (spm := fun _ => (fun vs H Q _ => sp_Slots_taken K T ec vs H Q E0)) (pv 5) (fun _ e => by subst e; exact ⟨tf.fO.cl, C_Slots_taken.cal.mono (by decide)⟩) hr (pa_cons (pe_ix ix_tup (pv 9) pe_int (fun _ _ => rfl)) (pa_cons (pv 12) (pa_cons (pe_callB call_len_seq rfl z.len b_len (pa_cons (pv 7) pa_nil)) pa_nil)))))
      (pss_cons (ps_if (PW.pt (pw_or (pt_not (pt_truth (pe_def (C_law_is_taken.mono (by decide)) hr rfl (pa_cons (pv 14) (pa_cons (pv 7) (pa_cons (pv 6) (pa_cons (pv 11) pa_nil))))) (fun _ => rfl))) (pw_or1 (pt_cmpR (op_neLI (hU hr)) (pv 12) (pv 13) (nomark _))))) (pss_one (ps_ret pe_bl)) pss_nil)
      (pss_cons (ps_set (i := 14) sc_law.nd rfl (Or.inl rfl) (pe_methD (Cs := fun C => C = T.O) (spm := fun _ => (fun vs H Q _ => sp_Slots_taken K T ec vs H Q E0)) (pv 5) (fun _ e => by subst e; exact ⟨tf.fO.cl, C_Slots_taken.cal.mono (by decide)⟩) hr (pa_cons (pe_ix ix_tup (pv 9) pe_int (fun _ _ => rfl)) (pa_cons (pe_callTy call_list_of rfl z.list b_list (pa_cons (pe_ix ix_tup (pv 9) pe_int (fun _ _ => rfl)) pa_nil)) (pa_cons (pe_callB call_len_seq rfl z.len b_len (pa_cons (pv 7) pa_nil)) pa_nil)))))
      (pss_cons (ps_if (pt_not (pt_truth (pe_def (C_law_is_taken.mono (by decide)) hr rfl (pa_cons (pv 14) (pa_cons (pv 7) (pa_cons (pv 6) (pa_cons (pe_lst pa_nil) pa_nil))))) (fun _ => rfl))) (pss_one (ps_ret pe_bl)) pss_nil)
      (pss_one (ps_ret (pe_or (pe_cmpR (op_eqLI (hU hr)) (pe_ix ix_tup (pv 9) pe_int (fun _ _ => rfl)) (pe_lst pa_nil) (nomark _)) (pe_one (pe_def (C_law_lacking.mono (by decide)) hr rfl (pa_cons (pv 5) (pa_cons (pe_ix ix_tup (pv 9) pe_int (fun _ _ => rfl)) (pa_cons (pe_slice sl_list (pe_ix ix_tup (pv 9) pe_int (fun _ _ => rfl)) (po_some pe_int) po_none) (pa_cons (pe_callB call_len_seq rfl z.len b_len (pa_cons (pv 7) pa_nil)) pa_nil)))))))))))))))))))))))))))), ?_⟩
  refine ⟨_, rfl, a, ns, 0, rfl, hS, by decide, ?_⟩
  refine ⟨fun σ H2 => ∃ ce : Int, σ = [some (.ref a), some (.int ce), none, none, none, none, none, none, none, none, none, none, none, none, none] ∧ H2 = H, ?_, ?_⟩
  · walk_at "r"
    refine ite2 (fun _ => ?_) (fun _ => ?_)
    · refine ⟨_, rfl, _, _, rfl, rfl, ?_⟩
      exact ⟨_, rfl, rfl⟩
    · exact ⟨_, rfl, rfl⟩
  rintro σ H2 ⟨ce, rfl, rfl⟩
  refine ⟨_, rfl, _, rfl, a, ns, 1, rfl, hS, by decide, _, _, rfl, rfl, (by show (0 : Int) < 6; decide), _, _, rfl, rfl, ?_⟩
  have mk1 : 1 ≤ 1 + cellAt ns 1 % 6 := by omega
  have mk2 : 1 + cellAt ns 1 % 6 ≤ 8 := by omega
  refine ⟨_, _, rfl, by omega, by omega, fun c hc => ?_⟩
  have gc := lawCounts_good ce mk1 (show 1 + cellAt ns 1 % 6 ≤ 100 by omega)
  have cs8 := lawCounts_sum ce mk1 mk2
  dsimp only
  generalize lawCounts ce (1 + cellAt ns 1 % 6) = cs at gc cs8 ⊢
  have gp := gc.pos
  have cl1 := gc.len1
  have kp := held_pos gc
  have kl0 := held_len cs
  have el : ((heldN cs).map V.int).length = (heldN cs).length := List.length_map _
  refine ⟨_, rfl, c, cs, rfl, SqL.of upd_same, cl1, fun h hh => ?_⟩
  have sA := (same_up (u := .lst (cs.map V.int)) hc).trans (same_up (u := .lst ((heldN cs).map V.int)) hh)
  have cA : (upd (upd H2 c (.lst (cs.map V.int))) h (.lst ((heldN cs).map V.int))) c = some (.lst (cs.map V.int)) := upd_old upd_same hh
  have hA : (upd (upd H2 c (.lst (cs.map V.int))) h (.lst ((heldN cs).map V.int))) h = some (.lst ((heldN cs).map V.int)) := upd_same
  generalize upd (upd H2 c (.lst (cs.map V.int))) h (.lst ((heldN cs).map V.int)) = HA at sA cA hA ⊢
  refine ⟨_, rfl, c, cs, rfl, SqL.of cA, ?_⟩
  refine ⟨_, rfl, c, cs, rfl, cA, gc, fun x HB nx slN sB => ?_⟩
  have slB := slN.at
  have aB := sB.seq (sA.seq hS)
  have cB := sB _ _ cA
  have hB := sB _ _ hA
  refine ⟨_, rfl, _, rfl, a, ns, 2, rfl, aB, by decide, _, rfl, _, _, rfl, rfl, (by show 0 < cs.sum; exact gp), _, _, rfl, rfl, ?_⟩
  have n0 : cs.sum ≤ cs.sum + cellAt ns 2 % cs.sum := by have := Int.emod_nonneg (cellAt ns 2) (show cs.sum ≠ 0 by omega); omega
  have n1 : cs.sum + cellAt ns 2 % cs.sum < 2 * cs.sum := by have := Int.emod_lt_of_pos (cellAt ns 2) gp; omega
  dsimp only
  generalize cs.sum + cellAt ns 2 % cs.sum = nb at n0 n1 ⊢
  -- row
  refine ⟨_, rfl, _, rfl, _, rfl, a, _, rfl, aB, fun t ht => ?_⟩
  obtain ⟨ms, ems, lms⟩ := cut_ints ns (some 4) (some 54)
  rw [ems]
  refine ⟨t, rfl, ⟨_, SqL.of upd_same⟩, fun D hD => ?_⟩
  have wk := itl_walk (SqL.of (K := K) (upd_same (H := HB) (a := t) (o := .lst (ms.map V.int)))) hD
  refine comp_map (pickV (heldN cs)) (by rw [List.length_map]; exact szl (by omega)) wk.1 wk.2 ?_ ?_
  · rintro z hz ys R r
    obtain ⟨n, _, rfl⟩ := List.mem_map.mp hz
    have n0 := Int.emod_nonneg n (show ((heldN cs).length : Int) ≠ 0 by omega)
    have n1 := Int.emod_lt_of_pos n (show 0 < ((heldN cs).length : Int) by omega)
    have hh' : SqL K (upd (upd HB t (.lst (ms.map V.int))) D (.lst ys)) h ((heldN cs).map V.int) := SqL.of (upd_old (upd_old hB ht) hD)
    refine ⟨_, rfl, _, rfl, _, rfl, h, _, rfl, .inl hh', ?_⟩
    rw [el]
    exact ⟨_, _, rfl, rfl, (by show 0 < ((heldN cs).length : Int); omega), h, _, _, _, rfl, rfl, hh', atZ n0 n1, r⟩
  rw [pick_map]
  have rl2 : (ms.map fun n => (heldN cs).getD (n % ((heldN cs).length : Int)).toNat 0).length ≤ 63 := by rw [List.length_map]; omega
  have rm2 : ∀ k ∈ (ms.map fun n => (heldN cs).getD (n % ((heldN cs).length : Int)).toNat 0), OkS cs k := fun k hk => by
    obtain ⟨n, _, rfl⟩ := List.mem_map.mp hk
    have n0 := Int.emod_nonneg n (show ((heldN cs).length : Int) ≠ 0 by omega)
    have n1 := Int.emod_lt_of_pos n (show 0 < ((heldN cs).length : Int) by omega)
    obtain ⟨k, ek, hk1, hk2⟩ := held_at (ns := cs) (n % ((heldN cs).length : Int)).toNat (by omega)
    rw [ek]
    exact ⟨by omega, by omega, by rw [Int.toNat_natCast]; exact hk2⟩
  generalize (ms.map fun n => (heldN cs).getD (n % ((heldN cs).length : Int)).toNat 0) = rs at rl2 rm2 ⊢
  have sC := (same_up (u := .lst (ms.map V.int)) ht).trans (same_up (u := .lst (rs.map V.int)) hD)
  have rC : (upd (upd HB t (.lst (ms.map V.int))) D (.lst (rs.map V.int))) D = some (.lst (rs.map V.int)) := upd_same
  generalize upd (upd HB t (.lst (ms.map V.int))) D (.lst (rs.map V.int)) = HC at sC rC ⊢
  have er : (rs.map V.int).length = rs.length := List.length_map _
  -- handed, found
  refine ⟨_, rfl, D, _, rfl, .inl (SqL.of rC), fun g hg => ?_⟩
  have sD := sC.trans (same_up (u := .lst (rs.map V.int)) hg)
  have gD : (upd HC g (.lst (rs.map V.int))) g = some (.lst (rs.map V.int)) := upd_same
  have rD := upd_old (u := .lst (rs.map V.int)) rC hg
  generalize upd HC g (.lst (rs.map V.int)) = HD at sD gD rD ⊢
  have slD := slB.same sD
  obtain ⟨gc', dx, kl, sg, pl, nl, as, hxD, _⟩ := id slD
  obtain ⟨b0, b1, b2⟩ := layRB_ok gc (bits := []) n0 n1 rm2
  obtain ⟨bl, bb⟩ := layRB_len gc cs8 n0 n1 rm2
  refine ⟨_, rfl, x, T.O, dx, _, rfl, hxD, rfl, nO_laid _ _ _ _ _, _, rfl, _, rfl, x, g, cs, nb, rs, rfl, slD, SqL.of gD, cs8, n0, n1, rm2, by omega, fun l f hl hf => ?_⟩
  generalize efo : layRB cs rs (nb, []) = fo at b0 b1 b2 bl bb hf ⊢
  have sE := (same_up (u := .lst (fo.2.map V.int)) hl).trans (same_up (u := .tup [.int fo.1, .ref l]) hf)
  have lE : (upd (upd HD l (.lst (fo.2.map V.int))) f (.tup [.int fo.1, .ref l])) l = some (.lst (fo.2.map V.int)) := upd_old upd_same hf
  have fE : (upd (upd HD l (.lst (fo.2.map V.int))) f (.tup [.int fo.1, .ref l])) f = some (.tup [.int fo.1, .ref l]) := upd_same
  generalize upd (upd HD l (.lst (fo.2.map V.int))) f (.tup [.int fo.1, .ref l]) = HE at sE lE fE ⊢
  have slE := slD.same sE
  have cE := sE _ _ (sD _ _ cB)
  have rE := sE _ _ rD
  have gE := sE _ _ gD
  have aE := sE.seq (sD.seq aB)
  have hxE := sE _ _ hxD
  -- due
  refine ⟨_, rfl, _, rfl, _, rfl, _, rfl, x, c, D, cs, nb, rs, rfl, slE, SqL.of cE, SqL.of rE, cs8, n0, n1, rm2, by omega, fun l2 u hl2 hu => ?_⟩
  rw [efo] at hu ⊢
  have sF := (same_up (u := .lst (fo.2.map V.int)) hl2).trans (same_up (u := .tup [.int fo.1, .ref l2]) hu)
  have lF : (upd (upd HE l2 (.lst (fo.2.map V.int))) u (.tup [.int fo.1, .ref l2])) l2 = some (.lst (fo.2.map V.int)) := upd_old upd_same hu
  have uF : (upd (upd HE l2 (.lst (fo.2.map V.int))) u (.tup [.int fo.1, .ref l2])) u = some (.tup [.int fo.1, .ref l2]) := upd_same
  generalize upd (upd HE l2 (.lst (fo.2.map V.int))) u (.tup [.int fo.1, .ref l2]) = HF at sF lF uF ⊢
  have slF := slE.same sF
  have rF := sF _ _ rE
  have gF := sF _ _ gE
  have fF := sF _ _ fE
  have l1F := sF _ _ lE
  have aF := sF.seq aE
  have hxF := sF _ _ hxE
  refine ⟨_, rfl, _, rfl, f, l, fo.1, cs.sum, fo.2, rfl, fF, l1F, bb, b0, b1, ?_⟩
  refine ⟨_, rfl, ?_⟩
  refine iteF ?_
  refine ⟨_, rfl, _, rfl, g, D, rs, rs, rfl, rfl, SqL.of gF, SqL.of rF, _, rfl, ?_⟩
  refine iteNS rfl ?_
  refine ⟨_, rfl, _, rfl, 1, f, u, _, _, by decide, rfl, rfl, SqT.of fF, SqT.of uF, rfl, fun i x y e1 e2 => ?_, _, rfl, ?_⟩
  · match i, e1, e2 with
    | 0, e1, e2 => cases e1; cases e2; exact de_int _
    | 1, e1, e2 => cases e1; cases e2; exact de_ints (SqL.of l1F) (SqL.of lF)
    | n + 2, e1, e2 => simp at e1
  refine iteF ?_
  -- others
  refine ⟨_, rfl, a, ns, 3, rfl, aF, by decide, _, _, rfl, rfl, (by show (0 : Int) < 9; decide), _, rfl, by omega, by omega, fun O hO => ?_⟩
  have w := itr_walk (lo := 0) (n := (cellAt ns 3 % 9).toNat) (D := O) (H1 := HF)
  refine comp_map (drawV2 (cellAt ns 3)) (by rw [List.length_map, List.length_range]; exact szl (by omega)) w.1 w.2 ?_ ?_
  · rintro z hz ys R r
    obtain ⟨k, hk, rfl⟩ := List.mem_map.mp hz
    have hk' := List.mem_range.mp hk
    exact ⟨_, rfl, a, ns, 3, rfl, aF.up hO, by decide, _, rfl, _, _, _, rfl, by omega, by omega, by decide, r⟩
  rw [others_map]
  have or := others_rng (cellAt ns 3) (cellAt ns 3 % 9)
  have ol : (othersN (cellAt ns 3) (cellAt ns 3 % 9)).length ≤ 9 := by unfold othersN; rw [List.length_map, List.length_range]; omega
  generalize othersN (cellAt ns 3) (cellAt ns 3 % 9) = os at or ol ⊢
  have sG := same_up (u := .lst (os.map V.int)) hO
  have oG : (upd HF O (.lst (os.map V.int))) O = some (.lst (os.map V.int)) := upd_same
  generalize upd HF O (.lst (os.map V.int)) = HG at sG oG ⊢
  have fG := sG _ _ fF
  have l1G := sG _ _ l1F
  -- bits
  refine ⟨_, rfl, _, rfl, f, _, _, _, rfl, rfl, SqT.of fG, rfl, O, l, _, _, rfl, rfl, oG, l1G, szl (by rw [List.length_map, List.length_map]; omega), fun B hB => ?_⟩
  rw [← List.map_append]
  have sH := sG.trans (same_up (u := .lst ((os ++ fo.2).map V.int)) hB)
  have bH : (upd HG B (.lst ((os ++ fo.2).map V.int))) B = some (.lst ((os ++ fo.2).map V.int)) := upd_same
  have oH := upd_old (u := .lst ((os ++ fo.2).map V.int)) oG hB
  generalize upd HG B (.lst ((os ++ fo.2).map V.int)) = HH at sH bH oH ⊢
  -- kept
  refine ⟨_, rfl, B, _, rfl, .inl (SqL.of bH), fun kk hkk => ?_⟩
  have sI := sH.trans (same_up (u := .lst ((os ++ fo.2).map V.int)) hkk)
  have bI := upd_old (u := .lst ((os ++ fo.2).map V.int)) bH hkk
  have oI := upd_old (u := .lst ((os ++ fo.2).map V.int)) oH hkk
  have kI : (upd HH kk (.lst ((os ++ fo.2).map V.int))) kk = some (.lst ((os ++ fo.2).map V.int)) := upd_same
  generalize upd HH kk (.lst ((os ++ fo.2).map V.int)) = HI at sI bI oI kI ⊢
  have slI := slF.same sI
  have hxI := sI _ _ hxF
  have fI := sI _ _ fF
  have rI := sI _ _ rF
  have l1I := sI _ _ l1F
  have wI : ∀ w ∈ os ++ fo.2, 0 ≤ w ∧ w < 2 := fun w hw => by
    rcases List.mem_append.mp hw with z | z
    · exact or w z
    · exact bb w z
  have run1 : runB cs ((((rs.map V.int).length : Nat) : Int)).toNat fo.1 (os ++ fo.2).reverse = some (rs, nb, os.reverse) := by
    rw [Int.toNat_natCast, er, List.reverse_append]
    exact runB_app b2
  refine ⟨_, rfl, x, T.O, dx, _, rfl, hxI, rfl, nO_taken _ _ _ _ _, _, rfl, f, _, _, _, rfl, rfl, SqT.of fI, rfl, _, rfl, _, rfl, D, _, rfl, .inl (SqL.of rI), ?_⟩
  refine ⟨x, B, cs, fo.1, _, os ++ fo.2, rfl, slI, SqL.of bI, b0, b1, wI, by omega, by rw [er]; omega, .inr ⟨rs, nb, os.reverse, run1, fun r l' t' HJ sJ fr fl ft tJ rJ lJ => ?_⟩⟩
  rw [List.reverse_reverse] at lJ
  refine ⟨_, rfl, _, rfl, _, rfl, _, rfl, t', r, l', D, O, nb, rs, os, rfl, tJ, rJ, lJ, SqL.of (sJ _ _ rI), SqL.of (sJ _ _ oI), ?_⟩
  refine ⟨_, rfl, ?_⟩
  refine iteF ?_
  refine ⟨_, rfl, _, rfl, B, kk, _, _, rfl, rfl, SqL.of (sJ _ _ bI), SqL.of (sJ _ _ kI), _, rfl, ?_⟩
  refine iteNS rfl ?_
  -- once more
  have slJ := slI.same sJ
  have hxJ := sJ _ _ hxI
  have fJ := sJ _ _ fI
  have rJ2 := sJ _ _ rI
  have l1J := sJ _ _ l1I
  refine ⟨_, rfl, x, T.O, dx, _, rfl, hxJ, rfl, nO_taken _ _ _ _ _, _, rfl, f, _, _, _, rfl, rfl, SqT.of fJ, rfl, ?_⟩
  refine ⟨_, rfl, f, _, _, _, rfl, rfl, SqT.of fJ, rfl, l, _, rfl, .inl (SqL.of l1J), fun y hy => ?_⟩
  have sK := same_up (u := .lst (fo.2.map V.int)) hy
  have yK : (upd HJ y (.lst (fo.2.map V.int))) y = some (.lst (fo.2.map V.int)) := upd_same
  generalize upd HJ y (.lst (fo.2.map V.int)) = HK at sK yK ⊢
  have run2 : runB cs ((((rs.map V.int).length : Nat) : Int)).toNat fo.1 fo.2.reverse = some (rs, nb, []) := by
    rw [Int.toNat_natCast, er]
    exact b2
  refine ⟨_, rfl, D, _, rfl, .inl (SqL.of (sK _ _ rJ2)), x, y, cs, fo.1, _, fo.2, rfl, slJ.same sK, SqL.of yK, b0, b1, bb, by omega, by rw [er]; omega, .inr ⟨rs, nb, [], run2, fun r2 l3 t2 HL sL fr2 fl2 ft2 tL rL lL => ?_⟩⟩
  refine ⟨_, rfl, _, rfl, _, rfl, (by show 0 ≤ sizeLine; decide), fun e0 he0 => ?_⟩
  have sM := same_up (u := .lst []) he0
  refine ⟨t2, r2, l3, D, e0, nb, rs, [], rfl, sM _ _ tL, sM _ _ rL, sM _ _ lL, SqL.of (sM _ _ (sL _ _ (sK _ _ rJ2))), SqL.of upd_same, ?_⟩
  have s9 := sK.trans (sL.trans sM)
  generalize upd HL e0 (.lst []) = HM at s9 ⊢
  refine ⟨_, rfl, ?_⟩
  refine iteF ?_
  -- the last
  have slM := slJ.same s9
  have fM := s9 _ _ fJ
  have rM := s9 _ _ rJ2
  have l1M := s9 _ _ l1J
  refine ⟨_, rfl, f, _, _, _, rfl, rfl, SqT.of fM, rfl, (by show 0 ≤ sizeLine; decide), fun e1 he1 => ?_⟩
  have sN := same_up (u := .lst []) he1
  refine ⟨l, e1, fo.2, [], rfl, rfl, SqL.of (sN _ _ l1M), SqL.of upd_same, _, rfl, ?_⟩
  refine ite2 (fun c => ?_) (fun c => ?_)
  · exact q _
  · have c' : fo.2 ≠ [] := fun z => c (decide_eq_true z)
    generalize upd HM e1 (.lst []) = HN at sN ⊢
    have fN := sN _ _ fM
    refine ⟨_, rfl, _, rfl, f, _, _, _, rfl, rfl, SqT.of fN, rfl, ?_⟩
    refine ⟨_, rfl, f, _, _, _, rfl, rfl, SqT.of fN, rfl, _, rfl, l, _, rfl, SqL.of (sN _ _ l1M), fun z hz => ?_⟩
    rw [cut_one]
    have sO := same_up (u := .lst ((fo.2.drop 1).map V.int)) hz
    refine ⟨_, rfl, D, _, rfl, .inl (SqL.of (sO _ _ (sN _ _ rM))), x, z, cs, fo.1, _, fo.2.drop 1, rfl, slM.same (sN.trans sO), SqL.of upd_same, b0, b1, fun w hw => bb w (List.mem_of_mem_drop hw), by omega, by rw [er]; omega, runB_lack run2 c', q⟩
def sp_law0 (K : PySem.W.Frag) : Sp := fun vs H Q _ => ∃ (a : Addr) (ns : List Int), vs = [.ref a] ∧ SqL K H a (ns.map V.int) ∧ ns.length ≤ 63 ∧ ∀ H', Q (.bl true) H'
theorem all_mk {l : PySem.W.OpenLaw} {w : World} {K : PySem.W.Frag} {h : Heap} {mg : Str → Option Value} {fa : Addr} (X : K.In h) (G : h.Ns mainGlobals mg) (hfa : mg "law" = some (.ref fa)) {KO : Addr} {KxPileError KxNoShares KxNoPile KxNoSign KxNoSlot KxNoMore : Addr} {f0 : Addr} {od0 an0 : Option Addr} {sl0 : Array (Option Value)} {oc0 kV0 dc0 pm0 cd0 ct0 : Value} {f1 : Addr} {od1 an1 : Option Addr} {sl1 : Array (Option Value)} {oc1 kV1 dc1 pm1 cd1 ct1 : Value} {f2 : Addr} {od2 an2 : Option Addr} {sl2 : Array (Option Value)} {oc2 kV2 dc2 pm2 cd2 ct2 : Value} {f3 : Addr} {od3 an3 : Option Addr} {sl3 : Array (Option Value)} {oc3 kV3 dc3 pm3 cd3 ct3 : Value} {f4 : Addr} {od4 an4 : Option Addr} {sl4 : Array (Option Value)} {oc4 kV4 dc4 pm4 cd4 ct4 : Value} {f5 : Addr} {od5 an5 : Option Addr} {sl5 : Array (Option Value)} {oc5 kV5 dc5 pm5 cd5 ct5 : Value} {f6 : Addr} {od6 an6 : Option Addr} {sl6 : Array (Option Value)} {oc6 kV6 dc6 pm6 cd6 ct6 : Value} {f7 : Addr} {od7 an7 : Option Addr} {sl7 : Array (Option Value)} {oc7 kV7 dc7 pm7 cd7 ct7 : Value} {f8 : Addr} {od8 an8 : Option Addr} {sl8 : Array (Option Value)} {oc8 kV8 dc8 pm8 cd8 ct8 : Value} {f9 : Addr} {od9 an9 : Option Addr} {sl9 : Array (Option Value)} {oc9 kV9 dc9 pm9 cd9 ct9 : Value} {f10 : Addr} {od10 an10 : Option Addr} {sl10 : Array (Option Value)} {oc10 kV10 dc10 pm10 cd10 ct10 : Value} {f11 : Addr} {od11 an11 : Option Addr} {sl11 : Array (Option Value)} {oc11 kV11 dc11 pm11 cd11 ct11 : Value} {f12 : Addr} {od12 an12 : Option Addr} {sl12 : Array (Option Value)} {oc12 kV12 dc12 pm12 cd12 ct12 : Value} {f13 : Addr} {od13 an13 : Option Addr} {sl13 : Array (Option Value)} {oc13 kV13 dc13 pm13 cd13 ct13 : Value} {f14 : Addr} {od14 an14 : Option Addr} {sl14 : Array (Option Value)} {oc14 kV14 dc14 pm14 cd14 ct14 : Value} {f15 : Addr} {od15 an15 : Option Addr} {sl15 : Array (Option Value)} {oc15 kV15 dc15 pm15 cd15 ct15 : Value} {f16 : Addr} {od16 an16 : Option Addr} {sl16 : Array (Option Value)} {oc16 kV16 dc16 pm16 cd16 ct16 : Value} {f17 : Addr} {od17 an17 : Option Addr} {sl17 : Array (Option Value)} {oc17 kV17 dc17 pm17 cd17 ct17 : Value} {f18 : Addr} {od18 an18 : Option Addr} {sl18 : Array (Option Value)} {oc18 kV18 dc18 pm18 cd18 ct18 : Value} {f19 : Addr} {od19 an19 : Option Addr} {sl19 : Array (Option Value)} {oc19 kV19 dc19 pm19 cd19 ct19 : Value} {f20 : Addr} {od20 an20 : Option Addr} {sl20 : Array (Option Value)} {oc20 kV20 dc20 pm20 cd20 ct20 : Value} {f21 : Addr} {od21 an21 : Option Addr} {sl21 : Array (Option Value)} {oc21 kV21 dc21 pm21 cd21 ct21 : Value} {f22 : Addr} {od22 an22 : Option Addr} {sl22 : Array (Option Value)} {oc22 kV22 dc22 pm22 cd22 ct22 : Value} {f23 : Addr} {od23 an23 : Option Addr} {sl23 : Array (Option Value)} {oc23 kV23 dc23 pm23 cd23 ct23 : Value} {tk_MOST_SIGNS : Tok} {tk_MOST_COUNT : Tok}
    (aCO : PySem.W.nsIn K mainGlobals "Slots" = some (some (.ref KO)))
    (pgO : PySem.W.plainGet K KO Str.empty = true)
    (hdO : PySem.W.hasDictIn K KO = true)
    (poO : PySem.W.plainOver K KO = true)
    (saO : PySem.W.findIn K (.ref KO) "__setattr__" = some (some (.builtin "object.__setattr__")))
    (n_keptO : PySem.W.findIn K (.ref KO) "kept" = some none)
    (n_totalO : PySem.W.findIn K (.ref KO) "total" = some none)
    (n_signsO : PySem.W.findIn K (.ref KO) "signs" = some none)
    (n_placesO : PySem.W.findIn K (.ref KO) "places" = some none)
    (n_numbersO : PySem.W.findIn K (.ref KO) "numbers" = some none)
    (xaPileError : PySem.W.nsIn K mainGlobals "PileError" = some (some (.ref KxPileError)))
    (xoPileError : PySem.W.excIn K KxPileError bmV "ValueError.__new__" = true)
    (xsPileError : PySem.W.mroIn K KxPileError (.ref KxPileError) = some true)
    (xaNoShares : PySem.W.nsIn K mainGlobals "NoShares" = some (some (.ref KxNoShares)))
    (xoNoShares : PySem.W.excIn K KxNoShares bmV "ValueError.__new__" = true)
    (xsNoShares : PySem.W.mroIn K KxNoShares (.ref KxNoShares) = some true)
    (xpNoShares : PySem.W.mroIn K KxNoShares (.ref KxPileError) = some true)
    (xaNoPile : PySem.W.nsIn K mainGlobals "NoPile" = some (some (.ref KxNoPile)))
    (xoNoPile : PySem.W.excIn K KxNoPile bmV "ValueError.__new__" = true)
    (xsNoPile : PySem.W.mroIn K KxNoPile (.ref KxNoPile) = some true)
    (xpNoPile : PySem.W.mroIn K KxNoPile (.ref KxPileError) = some true)
    (xaNoSign : PySem.W.nsIn K mainGlobals "NoSign" = some (some (.ref KxNoSign)))
    (xoNoSign : PySem.W.excIn K KxNoSign bmV "ValueError.__new__" = true)
    (xsNoSign : PySem.W.mroIn K KxNoSign (.ref KxNoSign) = some true)
    (xpNoSign : PySem.W.mroIn K KxNoSign (.ref KxPileError) = some true)
    (xaNoSlot : PySem.W.nsIn K mainGlobals "NoSlot" = some (some (.ref KxNoSlot)))
    (xoNoSlot : PySem.W.excIn K KxNoSlot bmV "ValueError.__new__" = true)
    (xsNoSlot : PySem.W.mroIn K KxNoSlot (.ref KxNoSlot) = some true)
    (xpNoSlot : PySem.W.mroIn K KxNoSlot (.ref KxPileError) = some true)
    (xaNoMore : PySem.W.nsIn K mainGlobals "NoMore" = some (some (.ref KxNoMore)))
    (xoNoMore : PySem.W.excIn K KxNoMore bmV "ValueError.__new__" = true)
    (xsNoMore : PySem.W.mroIn K KxNoMore (.ref KxNoMore) = some true)
    (xpNoMore : PySem.W.mroIn K KxNoMore (.ref KxPileError) = some true)
    (a0 : PySem.W.nsIn K mainGlobals "check_counts" = some (some (.ref f0)))
    (l0 : K.lookup f0 = some ⟨oc0, od0, .func (PySem.W.fnOf "check_counts" "check_counts" (defArgs s_check_counts) (defBody s_check_counts) (defScope s_check_counts) .none kV0 dc0 pm0 an0 cd0 ct0), sl0⟩) (c0 : PySem.W.codeIn K cd0 "check_counts" = true)
    (k0 : PySem.W.keepIn K (.ref f0) = true)
    (a1 : PySem.W.nsIn K mainGlobals "check_sign" = some (some (.ref f1)))
    (l1 : K.lookup f1 = some ⟨oc1, od1, .func (PySem.W.fnOf "check_sign" "check_sign" (defArgs s_check_sign) (defBody s_check_sign) (defScope s_check_sign) .none kV1 dc1 pm1 an1 cd1 ct1), sl1⟩) (c1 : PySem.W.codeIn K cd1 "check_sign" = true)
    (k1 : PySem.W.keepIn K (.ref f1) = true)
    (a2 : PySem.W.nsIn K mainGlobals "count_of" = some (some (.ref f2)))
    (l2 : K.lookup f2 = some ⟨oc2, od2, .func (PySem.W.fnOf "count_of" "count_of" (defArgs s_count_of) (defBody s_count_of) (defScope s_count_of) .none kV2 dc2 pm2 an2 cd2 ct2), sl2⟩) (c2 : PySem.W.codeIn K cd2 "count_of" = true)
    (k2 : PySem.W.keepIn K (.ref f2) = true)
    (a3 : PySem.W.nsIn K mainGlobals "whole" = some (some (.ref f3)))
    (l3 : K.lookup f3 = some ⟨oc3, od3, .func (PySem.W.fnOf "whole" "whole" (defArgs s_whole) (defBody s_whole) (defScope s_whole) .none kV3 dc3 pm3 an3 cd3 ct3), sl3⟩) (c3 : PySem.W.codeIn K cd3 "whole" = true)
    (k3 : PySem.W.keepIn K (.ref f3) = true)
    (a4 : PySem.W.nsIn K mainGlobals "greatest_divisor" = some (some (.ref f4)))
    (l4 : K.lookup f4 = some ⟨oc4, od4, .func (PySem.W.fnOf "greatest_divisor" "greatest_divisor" (defArgs s_greatest_divisor) (defBody s_greatest_divisor) (defScope s_greatest_divisor) .none kV4 dc4 pm4 an4 cd4 ct4), sl4⟩) (c4 : PySem.W.codeIn K cd4 "greatest_divisor" = true)
    (k4 : PySem.W.keepIn K (.ref f4) = true)
    (a5 : PySem.W.nsIn K mainGlobals "step_of" = some (some (.ref f5)))
    (l5 : K.lookup f5 = some ⟨oc5, od5, .func (PySem.W.fnOf "step_of" "step_of" (defArgs s_step_of) (defBody s_step_of) (defScope s_step_of) .none kV5 dc5 pm5 an5 cd5 ct5), sl5⟩) (c5 : PySem.W.codeIn K cd5 "step_of" = true)
    (k5 : PySem.W.keepIn K (.ref f5) = true)
    (a6 : PySem.W.nsIn K mainGlobals "deal" = some (some (.ref f6)))
    (l6 : K.lookup f6 = some ⟨oc6, od6, .func (PySem.W.fnOf "deal" "deal" (defArgs s_deal) (defBody s_deal) (defScope s_deal) .none kV6 dc6 pm6 an6 cd6 ct6), sl6⟩) (c6 : PySem.W.codeIn K cd6 "deal" = true)
    (k6 : PySem.W.keepIn K (.ref f6) = true)
    (a7 : PySem.W.findIn K (.ref KO) "__init__" = some (some (.ref f7)))
    (i7 : PySem.W.isFn K (.ref f7) = true)
    (mk7 : PySem.W.makesIn K KO = true)
    (k7 : PySem.W.keepIn K (.ref KO) = true)
    (l7 : K.lookup f7 = some ⟨oc7, od7, .func (PySem.W.fnOf "__init__" "Slots.__init__" (defArgs s_Slots_init) (defBody s_Slots_init) (defScope s_Slots_init) .none kV7 dc7 pm7 an7 cd7 ct7), sl7⟩) (c7 : PySem.W.codeIn K cd7 "Slots.__init__" = true)
    (a8 : PySem.W.findIn K (.ref KO) "check_number" = some (some (.ref f8)))
    (i8 : PySem.W.isFn K (.ref f8) = true)
    (l8 : K.lookup f8 = some ⟨oc8, od8, .func (PySem.W.fnOf "check_number" "Slots.check_number" (defArgs s_Slots_check_number) (defBody s_Slots_check_number) (defScope s_Slots_check_number) .none kV8 dc8 pm8 an8 cd8 ct8), sl8⟩) (c8 : PySem.W.codeIn K cd8 "Slots.check_number" = true)
    (k8 : PySem.W.keepIn K (.ref f8) = true)
    (a9 : PySem.W.findIn K (.ref KO) "raised" = some (some (.ref f9)))
    (i9 : PySem.W.isFn K (.ref f9) = true)
    (l9 : K.lookup f9 = some ⟨oc9, od9, .func (PySem.W.fnOf "raised" "Slots.raised" (defArgs s_Slots_raised) (defBody s_Slots_raised) (defScope s_Slots_raised) .none kV9 dc9 pm9 an9 cd9 ct9), sl9⟩) (c9 : PySem.W.codeIn K cd9 "Slots.raised" = true)
    (k9 : PySem.W.keepIn K (.ref f9) = true)
    (a10 : PySem.W.findIn K (.ref KO) "lowered" = some (some (.ref f10)))
    (i10 : PySem.W.isFn K (.ref f10) = true)
    (l10 : K.lookup f10 = some ⟨oc10, od10, .func (PySem.W.fnOf "lowered" "Slots.lowered" (defArgs s_Slots_lowered) (defBody s_Slots_lowered) (defScope s_Slots_lowered) .none kV10 dc10 pm10 an10 cd10 ct10), sl10⟩) (c10 : PySem.W.codeIn K cd10 "Slots.lowered" = true)
    (k10 : PySem.W.keepIn K (.ref f10) = true)
    (a11 : PySem.W.findIn K (.ref KO) "laid" = some (some (.ref f11)))
    (i11 : PySem.W.isFn K (.ref f11) = true)
    (l11 : K.lookup f11 = some ⟨oc11, od11, .func (PySem.W.fnOf "laid" "Slots.laid" (defArgs s_Slots_laid) (defBody s_Slots_laid) (defScope s_Slots_laid) .none kV11 dc11 pm11 an11 cd11 ct11), sl11⟩) (c11 : PySem.W.codeIn K cd11 "Slots.laid" = true)
    (k11 : PySem.W.keepIn K (.ref f11) = true)
    (a12 : PySem.W.findIn K (.ref KO) "taken" = some (some (.ref f12)))
    (i12 : PySem.W.isFn K (.ref f12) = true)
    (l12 : K.lookup f12 = some ⟨oc12, od12, .func (PySem.W.fnOf "taken" "Slots.taken" (defArgs s_Slots_taken) (defBody s_Slots_taken) (defScope s_Slots_taken) .none kV12 dc12 pm12 an12 cd12 ct12), sl12⟩) (c12 : PySem.W.codeIn K cd12 "Slots.taken" = true)
    (k12 : PySem.W.keepIn K (.ref f12) = true)
    (a13 : PySem.W.nsIn K mainGlobals "_law_cell_at" = some (some (.ref f13)))
    (l13 : K.lookup f13 = some ⟨oc13, od13, .func (PySem.W.fnOf "_law_cell_at" "_law_cell_at" (defArgs s_law_cell_at) (defBody s_law_cell_at) (defScope s_law_cell_at) .none kV13 dc13 pm13 an13 cd13 ct13), sl13⟩) (c13 : PySem.W.codeIn K cd13 "_law_cell_at" = true)
    (k13 : PySem.W.keepIn K (.ref f13) = true)
    (a14 : PySem.W.nsIn K mainGlobals "_law_whole" = some (some (.ref f14)))
    (l14 : K.lookup f14 = some ⟨oc14, od14, .func (PySem.W.fnOf "_law_whole" "_law_whole" (defArgs s_law_whole) (defBody s_law_whole) (defScope s_law_whole) .none kV14 dc14 pm14 an14 cd14 ct14), sl14⟩) (c14 : PySem.W.codeIn K cd14 "_law_whole" = true)
    (k14 : PySem.W.keepIn K (.ref f14) = true)
    (a15 : PySem.W.nsIn K mainGlobals "_law_draw" = some (some (.ref f15)))
    (l15 : K.lookup f15 = some ⟨oc15, od15, .func (PySem.W.fnOf "_law_draw" "_law_draw" (defArgs s_law_draw) (defBody s_law_draw) (defScope s_law_draw) .none kV15 dc15 pm15 an15 cd15 ct15), sl15⟩) (c15 : PySem.W.codeIn K cd15 "_law_draw" = true)
    (k15 : PySem.W.keepIn K (.ref f15) = true)
    (a16 : PySem.W.nsIn K mainGlobals "_law_counts" = some (some (.ref f16)))
    (l16 : K.lookup f16 = some ⟨oc16, od16, .func (PySem.W.fnOf "_law_counts" "_law_counts" (defArgs s_law_counts) (defBody s_law_counts) (defScope s_law_counts) .none kV16 dc16 pm16 an16 cd16 ct16), sl16⟩) (c16 : PySem.W.codeIn K cd16 "_law_counts" = true)
    (k16 : PySem.W.keepIn K (.ref f16) = true)
    (a17 : PySem.W.nsIn K mainGlobals "_law_held" = some (some (.ref f17)))
    (l17 : K.lookup f17 = some ⟨oc17, od17, .func (PySem.W.fnOf "_law_held" "_law_held" (defArgs s_law_held) (defBody s_law_held) (defScope s_law_held) .none kV17 dc17 pm17 an17 cd17 ct17), sl17⟩) (c17 : PySem.W.codeIn K cd17 "_law_held" = true)
    (k17 : PySem.W.keepIn K (.ref f17) = true)
    (a18 : PySem.W.nsIn K mainGlobals "_law_numbers" = some (some (.ref f18)))
    (l18 : K.lookup f18 = some ⟨oc18, od18, .func (PySem.W.fnOf "_law_numbers" "_law_numbers" (defArgs s_law_numbers) (defBody s_law_numbers) (defScope s_law_numbers) .none kV18 dc18 pm18 an18 cd18 ct18), sl18⟩) (c18 : PySem.W.codeIn K cd18 "_law_numbers" = true)
    (k18 : PySem.W.keepIn K (.ref f18) = true)
    (a19 : PySem.W.nsIn K mainGlobals "_law_is_laid" = some (some (.ref f19)))
    (l19 : K.lookup f19 = some ⟨oc19, od19, .func (PySem.W.fnOf "_law_is_laid" "_law_is_laid" (defArgs s_law_is_laid) (defBody s_law_is_laid) (defScope s_law_is_laid) .none kV19 dc19 pm19 an19 cd19 ct19), sl19⟩) (c19 : PySem.W.codeIn K cd19 "_law_is_laid" = true)
    (k19 : PySem.W.keepIn K (.ref f19) = true)
    (a20 : PySem.W.nsIn K mainGlobals "_law_is_taken" = some (some (.ref f20)))
    (l20 : K.lookup f20 = some ⟨oc20, od20, .func (PySem.W.fnOf "_law_is_taken" "_law_is_taken" (defArgs s_law_is_taken) (defBody s_law_is_taken) (defScope s_law_is_taken) .none kV20 dc20 pm20 an20 cd20 ct20), sl20⟩) (c20 : PySem.W.codeIn K cd20 "_law_is_taken" = true)
    (k20 : PySem.W.keepIn K (.ref f20) = true)
    (a21 : PySem.W.nsIn K mainGlobals "_law_lacking" = some (some (.ref f21)))
    (l21 : K.lookup f21 = some ⟨oc21, od21, .func (PySem.W.fnOf "_law_lacking" "_law_lacking" (defArgs s_law_lacking) (defBody s_law_lacking) (defScope s_law_lacking) .none kV21 dc21 pm21 an21 cd21 ct21), sl21⟩) (c21 : PySem.W.codeIn K cd21 "_law_lacking" = true)
    (k21 : PySem.W.keepIn K (.ref f21) = true)
    (a22 : PySem.W.nsIn K mainGlobals "_law_due" = some (some (.ref f22)))
    (l22 : K.lookup f22 = some ⟨oc22, od22, .func (PySem.W.fnOf "_law_due" "_law_due" (defArgs s_law_due) (defBody s_law_due) (defScope s_law_due) .none kV22 dc22 pm22 an22 cd22 ct22), sl22⟩) (c22 : PySem.W.codeIn K cd22 "_law_due" = true)
    (k22 : PySem.W.keepIn K (.ref f22) = true)
    (a23 : PySem.W.nsIn K mainGlobals "law" = some (some (.ref f23)))
    (l23 : K.lookup f23 = some ⟨oc23, od23, .func (PySem.W.fnOf "law" "law" (defArgs s_law) (defBody s_law) (defScope s_law) .none kV23 dc23 pm23 an23 cd23 ct23), sl23⟩) (c23 : PySem.W.codeIn K cd23 "law" = true)
    (k23 : PySem.W.keepIn K (.ref f23) = true)
    (z_len : PySem.W.nsIn K mainGlobals "len" = some none)
    (z_sum : PySem.W.nsIn K mainGlobals "sum" = some none)
    (z_isinstance : PySem.W.nsIn K mainGlobals "isinstance" = some none)
    (z_divmod : PySem.W.nsIn K mainGlobals "divmod" = some none)
    (z_list : PySem.W.nsIn K mainGlobals "list" = some none)
    (z_tuple : PySem.W.nsIn K mainGlobals "tuple" = some none)
    (z_int : PySem.W.nsIn K mainGlobals "int" = some none)
    (z_bool : PySem.W.nsIn K mainGlobals "bool" = some none)
    (z_range : PySem.W.nsIn K mainGlobals "range" = some none)
    (z_reversed : PySem.W.nsIn K mainGlobals "reversed" = some none)
    (z_zip : PySem.W.nsIn K mainGlobals "zip" = some none)
    (z_min : PySem.W.nsIn K mainGlobals "min" = some none)
    (z_max : PySem.W.nsIn K mainGlobals "max" = some none)
    (z_enumerate : PySem.W.nsIn K mainGlobals "enumerate" = some none)
    (z_str : PySem.W.nsIn K mainGlobals "str" = some none)
    (z_sorted : PySem.W.nsIn K mainGlobals "sorted" = some none)
    (z_set : PySem.W.nsIn K mainGlobals "set" = some none)
    (g_MOST_SIGNS : PySem.W.nsIn K mainGlobals "MOST_SIGNS" = some (some (.int 100 tk_MOST_SIGNS)))
    (g_MOST_COUNT : PySem.W.nsIn K mainGlobals "MOST_COUNT" = some (some (.int 999 tk_MOST_COUNT)))
    : ∃ fd : FuncData, (∀ (s : Shared) (v : Value), BindsTo s fd ⟨[v], []⟩ [("script", v)]) ∧ ∀ base : Heap, K.In base → base.Ns mainGlobals mg → FnOk l.prog w K mg base CX0 6 fa fd ["script"] (sp_law0 K) := by
  have e := hfa.symm.trans (PySem.W.mg_of X G a23)
  cases e
  have z : BI mg := ⟨PySem.W.mg_none_of X G z_len, PySem.W.mg_none_of X G z_sum, PySem.W.mg_none_of X G z_isinstance, PySem.W.mg_none_of X G z_divmod, PySem.W.mg_none_of X G z_list, PySem.W.mg_none_of X G z_tuple, PySem.W.mg_none_of X G z_int, PySem.W.mg_none_of X G z_bool, PySem.W.mg_none_of X G z_range, PySem.W.mg_none_of X G z_reversed, PySem.W.mg_none_of X G z_zip, PySem.W.mg_none_of X G z_min, PySem.W.mg_none_of X G z_max, PySem.W.mg_none_of X G z_enumerate, PySem.W.mg_none_of X G z_str, PySem.W.mg_none_of X G z_sorted, PySem.W.mg_none_of X G z_set⟩
  have g : GC mg := ⟨⟨_, PySem.W.mg_of X G g_MOST_SIGNS⟩, ⟨_, PySem.W.mg_of X G g_MOST_COUNT⟩⟩
  have tf : TF K mg ⟨0, 0, 0, 0, 0, KO⟩ := { fO := ⟨⟨pgO, hdO, poO, saO⟩, n_keptO, n_totalO, n_signsO, n_placesO, n_numbersO⟩, mO := PySem.W.mg_of X G aCO }
  have xf : XF K mg ⟨KxPileError, KxNoShares, KxNoPile, KxNoSign, KxNoSlot, KxNoMore, 0, 0⟩ := { mPileError := PySem.W.mg_of X G xaPileError, oPileError := xoPileError, sPileError := xsPileError, mNoShares := PySem.W.mg_of X G xaNoShares, oNoShares := xoNoShares, sNoShares := xsNoShares, pNoShares := xpNoShares, mNoPile := PySem.W.mg_of X G xaNoPile, oNoPile := xoNoPile, sNoPile := xsNoPile, pNoPile := xpNoPile, mNoSign := PySem.W.mg_of X G xaNoSign, oNoSign := xoNoSign, sNoSign := xsNoSign, pNoSign := xpNoSign, mNoSlot := PySem.W.mg_of X G xaNoSlot, oNoSlot := xoNoSlot, sNoSlot := xsNoSlot, pNoSlot := xpNoSlot, mNoMore := PySem.W.mg_of X G xaNoMore, oNoMore := xoNoMore, sNoMore := xsNoMore, pNoMore := xpNoMore }
  refine ⟨PySem.W.fnOf "law" "law" (defArgs s_law) (defBody s_law) (defScope s_law) .none kV23 dc23 pm23 an23 cd23 ct23, fun s v => .of_eq rfl, fun base _ _ => ?_⟩
  have C_check_counts := ok_check_counts (P := l.prog) (w := w) (base := base) (T := ⟨0, 0, 0, 0, 0, KO⟩) (ec := ⟨KxPileError, KxNoShares, KxNoPile, KxNoSign, KxNoSlot, KxNoMore, 0, 0⟩) z g tf xf (def_mk X G a0 l0 c0 k0 (fun _ _ _ _ _ _ => us1 (fun _ => rfl))) 
  have C_check_sign := ok_check_sign (P := l.prog) (w := w) (base := base) (T := ⟨0, 0, 0, 0, 0, KO⟩) (ec := ⟨KxPileError, KxNoShares, KxNoPile, KxNoSign, KxNoSlot, KxNoMore, 0, 0⟩) z g tf xf (def_mk X G a1 l1 c1 k1 (fun _ _ _ _ _ _ => us2 (fun _ _ => rfl))) 
  have C_count_of := ok_count_of (P := l.prog) (w := w) (base := base) (T := ⟨0, 0, 0, 0, 0, KO⟩) (ec := ⟨KxPileError, KxNoShares, KxNoPile, KxNoSign, KxNoSlot, KxNoMore, 0, 0⟩) z g tf xf (def_mk X G a2 l2 c2 k2 (fun _ _ _ _ _ _ => us2 (fun _ _ => rfl))) C_check_sign
  have C_whole := ok_whole (P := l.prog) (w := w) (base := base) (T := ⟨0, 0, 0, 0, 0, KO⟩) (ec := ⟨KxPileError, KxNoShares, KxNoPile, KxNoSign, KxNoSlot, KxNoMore, 0, 0⟩) z g tf xf (def_mk X G a3 l3 c3 k3 (fun _ _ _ _ _ _ => us1 (fun _ => rfl))) C_check_counts
  have C_greatest_divisor := ok_greatest_divisor (P := l.prog) (w := w) (base := base) (T := ⟨0, 0, 0, 0, 0, KO⟩) (ec := ⟨KxPileError, KxNoShares, KxNoPile, KxNoSign, KxNoSlot, KxNoMore, 0, 0⟩) z g tf xf (def_mk X G a4 l4 c4 k4 (fun _ _ _ _ _ _ => us2 (fun _ _ => rfl))) 
  have C_step_of := ok_step_of (P := l.prog) (w := w) (base := base) (T := ⟨0, 0, 0, 0, 0, KO⟩) (ec := ⟨KxPileError, KxNoShares, KxNoPile, KxNoSign, KxNoSlot, KxNoMore, 0, 0⟩) z g tf xf (def_mk X G a5 l5 c5 k5 (fun _ _ _ _ _ _ => us1 (fun _ => rfl))) C_greatest_divisor
  have C_deal := ok_deal (P := l.prog) (w := w) (base := base) (T := ⟨0, 0, 0, 0, 0, KO⟩) (ec := ⟨KxPileError, KxNoShares, KxNoPile, KxNoSign, KxNoSlot, KxNoMore, 0, 0⟩) z g tf xf (def_mk X G a6 l6 c6 k6 (fun _ _ _ _ _ _ => us1 (fun _ => rfl))) C_whole C_step_of
  have CC_Slots_init := ok_Slots_init (P := l.prog) (w := w) (base := base) (T := ⟨0, 0, 0, 0, 0, KO⟩) (ec := ⟨KxPileError, KxNoShares, KxNoPile, KxNoSign, KxNoSlot, KxNoMore, 0, 0⟩) z g tf xf ⟨.none, f7, _, [], fund_mk (st := s_Slots_init) l7 c7, (.all (us2 (fun _ _ => rfl))), (.all (us2 (fun _ _ => rfl))), .nil, ⟨mk7, a7, i7, k7⟩⟩ C_deal
  have C_Slots := CC_Slots_init.1
  have C_Slots_check_number := ok_Slots_check_number (P := l.prog) (w := w) (base := base) (T := ⟨0, 0, 0, 0, 0, KO⟩) (ec := ⟨KxPileError, KxNoShares, KxNoPile, KxNoSign, KxNoSlot, KxNoMore, 0, 0⟩) z g tf xf ⟨f8, _, fund_mk (st := s_Slots_check_number) l8 c8, .all (us2 (fun _ _ => rfl)), ⟨a8, i8, k8⟩⟩ 
  have C_Slots_raised := ok_Slots_raised (P := l.prog) (w := w) (base := base) (T := ⟨0, 0, 0, 0, 0, KO⟩) (ec := ⟨KxPileError, KxNoShares, KxNoPile, KxNoSign, KxNoSlot, KxNoMore, 0, 0⟩) z g tf xf ⟨f9, _, fund_mk (st := s_Slots_raised) l9 c9, .all (us3 (fun _ _ _ => rfl)), ⟨a9, i9, k9⟩⟩ C_count_of
  have C_Slots_lowered := ok_Slots_lowered (P := l.prog) (w := w) (base := base) (T := ⟨0, 0, 0, 0, 0, KO⟩) (ec := ⟨KxPileError, KxNoShares, KxNoPile, KxNoSign, KxNoSlot, KxNoMore, 0, 0⟩) z g tf xf ⟨f10, _, fund_mk (st := s_Slots_lowered) l10 c10, .all (us2 (fun _ _ => rfl)), ⟨a10, i10, k10⟩⟩ C_Slots_check_number
  have C_Slots_laid := ok_Slots_laid (P := l.prog) (w := w) (base := base) (T := ⟨0, 0, 0, 0, 0, KO⟩) (ec := ⟨KxPileError, KxNoShares, KxNoPile, KxNoSign, KxNoSlot, KxNoMore, 0, 0⟩) z g tf xf ⟨f11, _, fund_mk (st := s_Slots_laid) l11 c11, .all (us3 (fun _ _ _ => rfl)), ⟨a11, i11, k11⟩⟩ C_Slots_check_number C_count_of C_Slots_raised
  have C_Slots_taken := ok_Slots_taken (P := l.prog) (w := w) (base := base) (T := ⟨0, 0, 0, 0, 0, KO⟩) (ec := ⟨KxPileError, KxNoShares, KxNoPile, KxNoSign, KxNoSlot, KxNoMore, 0, 0⟩) z g tf xf ⟨f12, _, fund_mk (st := s_Slots_taken) l12 c12, .all (us4 (fun _ _ _ _ => rfl)), ⟨a12, i12, k12⟩⟩ C_Slots_check_number C_Slots_lowered
  have C_law_cell_at := ok_law_cell_at (P := l.prog) (w := w) (base := base) (T := ⟨0, 0, 0, 0, 0, KO⟩) (ec := ⟨KxPileError, KxNoShares, KxNoPile, KxNoSign, KxNoSlot, KxNoMore, 0, 0⟩) z g tf xf (def_mk X G a13 l13 c13 k13 (fun _ _ _ _ _ _ => us2 (fun _ _ => rfl))) 
  have C_law_whole := ok_law_whole (P := l.prog) (w := w) (base := base) (T := ⟨0, 0, 0, 0, 0, KO⟩) (ec := ⟨KxPileError, KxNoShares, KxNoPile, KxNoSign, KxNoSlot, KxNoMore, 0, 0⟩) z g tf xf (def_mk X G a14 l14 c14 k14 (fun _ _ _ _ _ _ => us1 (fun _ => rfl))) 
  have C_law_draw := ok_law_draw (P := l.prog) (w := w) (base := base) (T := ⟨0, 0, 0, 0, 0, KO⟩) (ec := ⟨KxPileError, KxNoShares, KxNoPile, KxNoSign, KxNoSlot, KxNoMore, 0, 0⟩) z g tf xf (def_mk X G a15 l15 c15 k15 (fun _ _ _ _ _ _ => us3 (fun _ _ _ => rfl))) 
  have C_law_counts := ok_law_counts (P := l.prog) (w := w) (base := base) (T := ⟨0, 0, 0, 0, 0, KO⟩) (ec := ⟨KxPileError, KxNoShares, KxNoPile, KxNoSign, KxNoSlot, KxNoMore, 0, 0⟩) z g tf xf (def_mk X G a16 l16 c16 k16 (fun _ _ _ _ _ _ => us2 (fun _ _ => rfl))) C_law_draw
  have C_law_held := ok_law_held (P := l.prog) (w := w) (base := base) (T := ⟨0, 0, 0, 0, 0, KO⟩) (ec := ⟨KxPileError, KxNoShares, KxNoPile, KxNoSign, KxNoSlot, KxNoMore, 0, 0⟩) z g tf xf (def_mk X G a17 l17 c17 k17 (fun _ _ _ _ _ _ => us1 (fun _ => rfl))) 
  have C_law_numbers := ok_law_numbers (P := l.prog) (w := w) (base := base) (T := ⟨0, 0, 0, 0, 0, KO⟩) (ec := ⟨KxPileError, KxNoShares, KxNoPile, KxNoSign, KxNoSlot, KxNoMore, 0, 0⟩) z g tf xf (def_mk X G a18 l18 c18 k18 (fun _ _ _ _ _ _ => us2 (fun _ _ => rfl))) C_law_whole
  have C_law_is_laid := ok_law_is_laid (P := l.prog) (w := w) (base := base) (T := ⟨0, 0, 0, 0, 0, KO⟩) (ec := ⟨KxPileError, KxNoShares, KxNoPile, KxNoSign, KxNoSlot, KxNoMore, 0, 0⟩) z g tf xf (def_mk X G a19 l19 c19 k19 (fun _ _ _ _ _ _ => us2 (fun _ _ => rfl))) C_law_whole
  have C_law_is_taken := ok_law_is_taken (P := l.prog) (w := w) (base := base) (T := ⟨0, 0, 0, 0, 0, KO⟩) (ec := ⟨KxPileError, KxNoShares, KxNoPile, KxNoSign, KxNoSlot, KxNoMore, 0, 0⟩) z g tf xf (def_mk X G a20 l20 c20 k20 (fun _ _ _ _ _ _ => us4 (fun _ _ _ _ => rfl))) C_law_numbers C_law_whole
  have C_law_lacking := ok_law_lacking (P := l.prog) (w := w) (base := base) (T := ⟨0, 0, 0, 0, 0, KO⟩) (ec := ⟨KxPileError, KxNoShares, KxNoPile, KxNoSign, KxNoSlot, KxNoMore, 0, 0⟩) z g tf xf (def_mk X G a21 l21 c21 k21 (fun _ _ _ _ _ _ => us4 (fun _ _ _ _ => rfl))) C_Slots_taken
  have C_law_due := ok_law_due (P := l.prog) (w := w) (base := base) (T := ⟨0, 0, 0, 0, 0, KO⟩) (ec := ⟨KxPileError, KxNoShares, KxNoPile, KxNoSign, KxNoSlot, KxNoMore, 0, 0⟩) z g tf xf (def_mk X G a22 l22 c22 k22 (fun _ _ _ _ _ _ => us4 (fun _ _ _ _ => rfl))) C_Slots_raised
  exact ok_law (T := ⟨0, 0, 0, 0, 0, KO⟩) (ec := ⟨KxPileError, KxNoShares, KxNoPile, KxNoSign, KxNoSlot, KxNoMore, 0, 0⟩) z g tf xf (fun_mk (st := s_law) l23 c23 k23) C_law_cell_at C_law_counts C_law_held C_Slots C_Slots_laid C_law_due C_law_is_laid C_law_draw C_Slots_taken C_law_is_taken C_law_lacking
theorem walk {l : PySem.W.OpenLaw} {q : Program} {loose : List Str} {XP : (Str → Option Value) → Heap → Prop} {YP : World → Heap → Prop} {d : DefRec} {K : Params → PySem.W.Frag} (hn : l.most = some 63) (hdf : d.params.defaults = [])
    (hY : ∀ (w : World) (h : Heap), YP w h → (K w.params).In h)
    (F : ∀ (w : World) (mg : Str → Option Value) (fa : Addr) (h : Heap), (K w.params).In h → h.Ns mainGlobals mg → mg d.name = some (.ref fa) →
      ∃ fd : FuncData, (∀ (s : Shared) (u : Value), BindsTo s fd ⟨[u], []⟩ [("script", u)]) ∧ ∀ base : Heap, (K w.params).In base → base.Ns mainGlobals mg → FnOk l.prog w (K w.params) mg base CX0 6 fa fd ["script"] (sp_law0 (K w.params))) :
    PySem.W.WalkO q loose XP YP l.row.toRowW d [] (fun f vs => PySem.call f vs) :=
  L2.walk_of (n := 63) (k := 6) (x := "script") (CX := fun _ => CX0) (sp := fun w => sp_law0 (K w.params)) hn (by decide) hdf ⟨rfl, by decide, by decide⟩ hY F (fun _ _ a ns hl _ hS => ⟨a, ns, rfl, hS, hl, fun _ => rfl⟩) fun _ _ _ _ _ z => z
end T
open PySem PySem.W PyProof.Rows
set_option maxRecDepth 100000 in
set_option maxHeartbeats 0 in
theorem PySem.Challenge.cw_numberpile_k15_rows_by_dealt_slots_holds : PySem.Challenge.rw_numberpile_k15_rows_by_dealt_slots.Holds := by
  w_on; o_law; k_head; (case hw => w_witness2)
  k_fill
  refine T.walk (l := PySem.Challenge.rw_numberpile_k15_rows_by_dealt_slots) rfl rfl (fun w h Y => PySem.W.kIn_of Y) ?F
  case F =>
    intro w mg fa h KX G hmg
    refine' T.all_mk KX G hmg ?aCO ?pgO ?hdO ?poO ?saO ?n_keptO ?n_totalO ?n_signsO ?n_placesO ?n_numbersO ?xaPileError ?xoPileError ?xsPileError ?xaNoShares ?xoNoShares ?xsNoShares ?xpNoShares ?xaNoPile ?xoNoPile ?xsNoPile ?xpNoPile ?xaNoSign ?xoNoSign ?xsNoSign ?xpNoSign ?xaNoSlot ?xoNoSlot ?xsNoSlot ?xpNoSlot ?xaNoMore ?xoNoMore ?xsNoMore ?xpNoMore ?a0 ?l0 ?c0 ?k0 ?a1 ?l1 ?c1 ?k1 ?a2 ?l2 ?c2 ?k2 ?a3 ?l3 ?c3 ?k3 ?a4 ?l4 ?c4 ?k4 ?a5 ?l5 ?c5 ?k5 ?a6 ?l6 ?c6 ?k6 ?a7 ?i7 ?mk7 ?k7 ?l7 ?c7 ?a8 ?i8 ?l8 ?c8 ?k8 ?a9 ?i9 ?l9 ?c9 ?k9 ?a10 ?i10 ?l10 ?c10 ?k10 ?a11 ?i11 ?l11 ?c11 ?k11 ?a12 ?i12 ?l12 ?c12 ?k12 ?a13 ?l13 ?c13 ?k13 ?a14 ?l14 ?c14 ?k14 ?a15 ?l15 ?c15 ?k15 ?a16 ?l16 ?c16 ?k16 ?a17 ?l17 ?c17 ?k17 ?a18 ?l18 ?c18 ?k18 ?a19 ?l19 ?c19 ?k19 ?a20 ?l20 ?c20 ?k20 ?a21 ?l21 ?c21 ?k21 ?a22 ?l22 ?c22 ?k22 ?a23 ?l23 ?c23 ?k23 ?z_len ?z_sum ?z_isinstance ?z_divmod ?z_list ?z_tuple ?z_int ?z_bool ?z_range ?z_reversed ?z_zip ?z_min ?z_max ?z_enumerate ?z_str ?z_sorted ?z_set ?g_MOST_SIGNS ?g_MOST_COUNT
    (case aCO => k_is)
    (case pgO => k_is)
    (case hdO => k_is)
    (case poO => k_is)
    (case saO => k_is)
    (case n_keptO => k_is)
    (case n_totalO => k_is)
    (case n_signsO => k_is)
    (case n_placesO => k_is)
    (case n_numbersO => k_is)
    (case xaPileError => k_is)
    (case xoPileError => k_exc)
    (case xsPileError => k_is)
    (case xaNoShares => k_is)
    (case xoNoShares => k_exc)
    (case xsNoShares => k_is)
    (case xpNoShares => k_is)
    (case xaNoPile => k_is)
    (case xoNoPile => k_exc)
    (case xsNoPile => k_is)
    (case xpNoPile => k_is)
    (case xaNoSign => k_is)
    (case xoNoSign => k_exc)
    (case xsNoSign => k_is)
    (case xpNoSign => k_is)
    (case xaNoSlot => k_is)
    (case xoNoSlot => k_exc)
    (case xsNoSlot => k_is)
    (case xpNoSlot => k_is)
    (case xaNoMore => k_is)
    (case xoNoMore => k_exc)
    (case xsNoMore => k_is)
    (case xpNoMore => k_is)
    (case a0 => k_is)
    (case l0 => k_is)
    (case c0 => k_is)
    (case k0 => k_is)
    (case a1 => k_is)
    (case l1 => k_is)
    (case c1 => k_is)
    (case k1 => k_is)
    (case a2 => k_is)
    (case l2 => k_is)
    (case c2 => k_is)
    (case k2 => k_is)
    (case a3 => k_is)
    (case l3 => k_is)
    (case c3 => k_is)
    (case k3 => k_is)
    (case a4 => k_is)
    (case l4 => k_is)
    (case c4 => k_is)
    (case k4 => k_is)
    (case a5 => k_is)
    (case l5 => k_is)
    (case c5 => k_is)
    (case k5 => k_is)
    (case a6 => k_is)
    (case l6 => k_is)
    (case c6 => k_is)
    (case k6 => k_is)
    (case a7 => k_is)
    (case i7 => k_is)
    (case mk7 => k_is)
    (case k7 => k_is)
    (case l7 => k_is)
    (case c7 => k_is)
    (case a8 => k_is)
    (case i8 => k_is)
    (case l8 => k_is)
    (case c8 => k_is)
    (case k8 => k_is)
    (case a9 => k_is)
    (case i9 => k_is)
    (case l9 => k_is)
    (case c9 => k_is)
    (case k9 => k_is)
    (case a10 => k_is)
    (case i10 => k_is)
    (case l10 => k_is)
    (case c10 => k_is)
    (case k10 => k_is)
    (case a11 => k_is)
    (case i11 => k_is)
    (case l11 => k_is)
    (case c11 => k_is)
    (case k11 => k_is)
    (case a12 => k_is)
    (case i12 => k_is)
    (case l12 => k_is)
    (case c12 => k_is)
    (case k12 => k_is)
    (case a13 => k_is)
    (case l13 => k_is)
    (case c13 => k_is)
    (case k13 => k_is)
    (case a14 => k_is)
    (case l14 => k_is)
    (case c14 => k_is)
    (case k14 => k_is)
    (case a15 => k_is)
    (case l15 => k_is)
    (case c15 => k_is)
    (case k15 => k_is)
    (case a16 => k_is)
    (case l16 => k_is)
    (case c16 => k_is)
    (case k16 => k_is)
    (case a17 => k_is)
    (case l17 => k_is)
    (case c17 => k_is)
    (case k17 => k_is)
    (case a18 => k_is)
    (case l18 => k_is)
    (case c18 => k_is)
    (case k18 => k_is)
    (case a19 => k_is)
    (case l19 => k_is)
    (case c19 => k_is)
    (case k19 => k_is)
    (case a20 => k_is)
    (case l20 => k_is)
    (case c20 => k_is)
    (case k20 => k_is)
    (case a21 => k_is)
    (case l21 => k_is)
    (case c21 => k_is)
    (case k21 => k_is)
    (case a22 => k_is)
    (case l22 => k_is)
    (case c22 => k_is)
    (case k22 => k_is)
    (case a23 => k_is)
    (case l23 => k_is)
    (case c23 => k_is)
    (case k23 => k_is)
    (case z_len => k_is)
    (case z_sum => k_is)
    (case z_isinstance => k_is)
    (case z_divmod => k_is)
    (case z_list => k_is)
    (case z_tuple => k_is)
    (case z_int => k_is)
    (case z_bool => k_is)
    (case z_range => k_is)
    (case z_reversed => k_is)
    (case z_zip => k_is)
    (case z_min => k_is)
    (case z_max => k_is)
    (case z_enumerate => k_is)
    (case z_str => k_is)
    (case z_sorted => k_is)
    (case z_set => k_is)
    (case g_MOST_SIGNS => k_is)
    (case g_MOST_COUNT => k_is)
