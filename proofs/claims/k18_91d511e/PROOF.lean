import PyProof.Rows.All
import Wide.All
import OpenK.AllK
import Wide.FinOn
import Lean
import PyProof.EqAt
import PyProof.EqKinds
import PyProof.TupleCall
import PyProof.NeKinds
import PyProof.ZipIter
import PyProof.ListNew
import PyProof.ListRange
import KE.KRevIter
import PySem.Challenge.RW_numberpile_k18_whole_deeds_undone
set_option Elab.async false
set_option linter.all false
set_option maxRecDepth 100000
/-! THE HAND LAYER, for ints, bools, texts, own classes, LISTS and tuples (index, slices, in, append, pop ..), calls, loops. Paste it whole ahead of your own text; what your proof does not reach may be deleted. -/
namespace L2
open PySem PySem.Spec PyProof.Rows

/-- a key: an int or a str -/
abbrev Key := Sum Int Str
def keyIs : Key → Value → Bool
  | .inl k, v => Value.isInt k v
  | .inr x, v => Value.isStrOf x v
def keyH (w : World) : Key → Int
  | .inl k => hashInt k
  | .inr x => hashStr w x
theorem keyIs_shape : ∀ {k : Key} {v : Value}, keyIs k v = true → (∃ i t, k = Sum.inl i ∧ v = Value.int i t) ∨ (∃ x t, k = Sum.inr x ∧ v = Value.str x t)
  | .inl i, v, h => by
    obtain ⟨t, e⟩ := Value.isInt_shape (k := i) (v := v) h
    exact .inl ⟨i, t, rfl, e⟩
  | .inr x, v, h => by
    obtain ⟨t, e⟩ := Value.isStrOf_shape (x := x) (v := v) h
    exact .inr ⟨x, t, rfl, e⟩
theorem key_ll (a b : Int) : decide ((Sum.inl a : Key) = Sum.inl b) = (a == b) := by
  by_cases e : a = b
  · subst e; simp
  · have h : ¬ (Sum.inl a : Key) = Sum.inl b := fun q => e (Sum.inl.inj q)
    rw [decide_eq_false h]
    exact (beq_eq_false_iff_ne.mpr e).symm
theorem key_rr (a b : Str) : decide ((Sum.inr a : Key) = Sum.inr b) = decide (a = b) := by
  by_cases e : a = b
  · subst e; simp
  · have h : ¬ (Sum.inr a : Key) = Sum.inr b := fun q => e (Sum.inr.inj q)
    rw [decide_eq_false h, decide_eq_false e]
theorem key_lr (a : Int) (b : Str) : decide ((Sum.inl a : Key) = Sum.inr b) = false := decide_eq_false (fun q => nomatch q)
theorem key_rl (a : Str) (b : Int) : decide ((Sum.inr a : Key) = Sum.inl b) = false := decide_eq_false (fun q => nomatch q)

def mixKind (prog : Program) (w : World) : PySem.KeyKind prog w Key where
  is := keyIs
  hash := keyH w
  inj := fun v a b ha hb => by
    rcases keyIs_shape ha with ⟨i, t, rfl, rfl⟩ | ⟨x, t, rfl, rfl⟩
    · rcases keyIs_shape hb with ⟨j, u, rfl, e⟩ | ⟨y, u, rfl, e⟩
      · injection e with e1 _; rw [e1]
      · exact nomatch e
    · rcases keyIs_shape hb with ⟨j, u, rfl, e⟩ | ⟨y, u, rfl, e⟩
      · exact nomatch e
      · injection e with e1 _; rw [e1]
  byValue := fun k v h => by
    rcases keyIs_shape h with ⟨i, t, rfl, rfl⟩ | ⟨x, t, rfl, rfl⟩ <;> rfl
  pyHash := fun hv h => by
    rcases keyIs_shape hv with ⟨i, t, rfl, rfl⟩ | ⟨x, t, rfl, rfl⟩
    · exact wpAny_pyHash_int h
    · exact wpAny_pyHash_str h
  eqBool := fun hu hv h => by
    rcases keyIs_shape hu with ⟨i, t, rfl, rfl⟩ | ⟨x, t, rfl, rfl⟩
    · rcases keyIs_shape hv with ⟨j, u, rfl, rfl⟩ | ⟨y, u, rfl, rfl⟩
      · rw [key_ll] at h; exact wpAny_eqBool_int h
      · rw [key_lr] at h; exact SeqAt.EqAt.int_str i t y u _ _ _ _ h
    · rcases keyIs_shape hv with ⟨j, u, rfl, rfl⟩ | ⟨y, u, rfl, rfl⟩
      · rw [key_rl] at h; exact SeqAt.EqAt.str_int x t j u _ _ _ _ h
      · rw [key_rr] at h; exact wpAny_eqBool_str h
  «strs» := fun k x t v h => by
    rcases keyIs_shape h with ⟨i, u, rfl, e⟩ | ⟨y, u, rfl, e⟩
    · exact nomatch e
    · injection e with e1 _
      subst e1
      cases v <;> rfl

end L2

namespace L2
open PySem PySem.Spec PyProof.Rows

/-- a value, without the heap -/
inductive V where
  | non | bl (b : Bool) | int (i : Int) | str (x : Str) | byt (b : Array UInt8) | flt (b : UInt64) | ref (a : Addr) | ty (n : String)
  deriving DecidableEq

def RelV : V → Value → Prop
  | .non, u => u = Value.none
  | .bl b, u => u = Value.bool b
  | .int i, u => ∃ t, u = Value.int i t
  | .str x, u => ∃ t, u = Value.str x t
  | .byt b, u => ∃ t, u = Value.bytes b t
  | .flt b, u => ∃ t, u = Value.float b t
  | .ref a, u => u = Value.ref a
  | .ty n, u => u = Value.type n

abbrev Vals : List V → List Value → Prop := Paired RelV
theorem Vals.length {xs : List V} {us : List Value} (r : Vals xs us) : xs.length = us.length := Paired.length r
theorem Vals.get : ∀ {xs : List V} {us : List Value} {i : Nat} {x : V}, Vals xs us → xs[i]? = some x → ∃ u, us[i]? = some u ∧ RelV x u
  | _, _, _, _, .nil, e => by simp at e
  | _, _, 0, _, .cons r _, e => by simp at e; subst e; exact ⟨_, rfl, r⟩
  | _, _, i + 1, x, .cons _ t, e => by
    obtain ⟨u, h1, h2⟩ := Vals.get (i := i) (x := x) t (by simpa using e)
    exact ⟨u, by simpa using h1, h2⟩
theorem Vals.set {x : V} {u : Value} (r : RelV x u) : ∀ {xs : List V} {us : List Value} (i : Nat), Vals xs us → Vals (xs.set i x) (us.set i u)
  | _, _, _, .nil => .nil
  | _, _, 0, .cons _ t => .cons r t
  | _, _, i + 1, .cons q t => .cons q (Vals.set r i t)
theorem Vals.append : ∀ {xs ys : List V} {us ws : List Value}, Vals xs us → Vals ys ws → Vals (xs ++ ys) (us ++ ws)
  | _, _, _, _, .nil, s => s
  | _, _, _, _, .cons r t, s => .cons r (Vals.append t s)
theorem Vals.take : ∀ {xs : List V} {us : List Value} (n : Nat), Vals xs us → Vals (xs.take n) (us.take n)
  | _, _, 0, _ => .nil
  | _, _, _ + 1, .nil => .nil
  | _, _, n + 1, .cons r t => .cons r (Vals.take n t)
theorem Vals.drop : ∀ {xs : List V} {us : List Value} (n : Nat), Vals xs us → Vals (xs.drop n) (us.drop n)
  | _, _, 0, r => r
  | _, _, _ + 1, .nil => .nil
  | _, _, n + 1, .cons _ t => Vals.drop n t
def RelO : Option V → Option Value → Prop
  | some v, some u => RelV v u
  | none, none => True
  | _, _ => False
def KV {κ : Type} : List (κ × V) → List (κ × Value) → Prop := Paired fun (p : κ × V) (q : κ × Value) => p.1 = q.1 ∧ RelV p.2 q.2

/-- a key of a dict (00_mix): an int or a text -/
def kV : Key → V
  | .inl i => .int i
  | .inr x => .str x

/-- what stands at a tracked address -/
inductive HO where
  /-- a list -/
  | lst (xs : List V)
  /-- a tuple (never changes) -/
  | tup (xs : List V)
  /-- a dict whose keys are ints and texts; one whose keys are tuples of ints and texts (the empty one is both) -/
  | dK (kvs : List (Key × V)) | dT (kvs : List (List Key × V))
  /-- a set of ints: its members, its size -/
  | set (S : Int → Bool) (n : Nat)
  /-- an instance of the class at C, its dict at dx, its attributes -/
  | ins (C dx : Addr) (fs : List (Str × V))
  /-- the dict of the instance at x -/
  | own (x : Addr)
  /-- the dict of an exception -/
  | xd (fs : List (Str × V))
  /-- a bound method, f of x -/
  | met (f x : Addr)
  /-- a range object lo, lo + 1, .. below hi -/
  | rng (lo hi : Int)
  /-- a thing that is known to the object (the script; a dict while a loop walks it): read, never written while it is so -/
  | frz (o : Obj) (u : HO)
  /-- a code object's table -/
  | tbl (ps : Array Value)
  /-- any other thing, by what is true of its one object (a def of one's own: SetO a S n := HO.ext fun h => ..) -/
  | ext (φ : Heap → Prop)

abbrev Hp := Addr → Option HO
def upd (H : Hp) (a : Addr) (o : HO) : Hp := fun b => if b = a then some o else H b
theorem upd_same {H : Hp} {a : Addr} {o : HO} : upd H a o a = some o := by unfold upd; rw [if_pos rfl]
theorem upd_ne {H : Hp} {a b : Addr} {o : HO} (h : b ≠ a) : upd H a o b = H b := by unfold upd; rw [if_neg h]
theorem upd_upd {H : Hp} {a : Addr} {o u : HO} : upd (upd H a o) a u = upd H a u := by
  funext b; unfold upd; split <;> rfl
/-- two objects of different content stand apart -/
theorem ne_of {H : Hp} {a b : Addr} {o u : HO} (h : H a = some o) (h' : H b = some u) (d : o ≠ u) : a ≠ b := by
  intro e; subst e; rw [h] at h'; exact d (Option.some.inj h')
theorem ne_of_none {H : Hp} {a b : Addr} {o : HO} (h : H a = some o) (h' : H b = none) : a ≠ b := by
  intro e; subst e; rw [h] at h'; cases h'

section
variable (P : Program) (w : World)
def ObjOk (H : Hp) (h : Heap) (a : Addr) : HO → Prop
  | .lst xs => xs.length ≤ sizeLine ∧ ∃ (its : List Value) (n : Nat), Vals xs its ∧ h.get? a = some { cls := .type "list", data := .seq its.toArray n }
  | .tup xs => xs.length ≤ sizeLine ∧ ∃ its : List Value, Vals xs its ∧ IsTup h a its.toArray
  | .dK kvs => kvs.length ≤ sizeLine ∧ (a == sysModules) = false ∧ ∃ vs, KV kvs vs ∧ h.DictOf (mixKind P w) a vs
  | .dT _ => False
  | .set S n => h.SetOf (intKind P w) a S n
  | .ins C dx fs => H dx = some (.own a) ∧ fs.length ≤ 1000 ∧ dx ≠ a ∧ h.get? a = some (PySem.W.instObj C dx) ∧
      ∃ mA, h.Ns1 dx mA ∧ (∀ f, RelO (fs.lookup f) (mA f)) ∧ PySem.Within mA (fs.map (·.1))
  | .own _ => ∃ o, h.get? a = some o
  | .xd fs => ∃ mA, h.Ns1 a mA ∧ ∀ f, RelO (fs.lookup f) (mA f)
  | .rng lo hi => ∃ t u v, h.get? a = some { cls := .type "range", data := .fields #[.int lo t, .int hi u, .int 1 v] }
  | .frz o u => h.get? a = some o ∧ ObjOk H h a u
  | .tbl ps => h.get? a = some { cls := .none, data := .fields ps }
  | .met f x => h.get? a = some (PySem.W.methodObj (.ref f) (.ref x))
  | .ext φ => φ h ∧ (∃ o, h.get? a = some o) ∧ ∀ h1 h2 : Heap, φ h1 → (∀ o, h1.get? a = some o → h2.get? a = some o) → φ h2
/-- the abstract heap is held -/
def HOk (H : Hp) (h : Heap) : Prop := ∀ a o, H a = some o → ObjOk P w H h a o
end

section
variable {P : Program} {w : World} {H H' : Hp} {h h' : Heap} {a : Addr} {o : HO}
theorem ObjOk.lt (x : ObjOk P w H h a o) : a < h.objs.size := by
  cases o with
  | lst xs => obtain ⟨_, _, _, _, e⟩ := x; exact Heap.lt_size e
  | tup xs => obtain ⟨_, _, _, p⟩ := x; exact p.lt
  | dK kvs => obtain ⟨_, _, _, _, o, _, _, e, _⟩ := x; exact Heap.lt_size e
  | dT kvs => exact (show False from x).elim
  | set S n => obtain ⟨o, _, _, _, e, _⟩ := x; exact Heap.lt_size e
  | ins C dx fs => obtain ⟨_, _, _, e, _⟩ := x; exact Heap.lt_size e
  | own y => obtain ⟨_, e⟩ := x; exact Heap.lt_size e
  | xd fs => obtain ⟨_, ⟨_, _, _, e, _⟩, _⟩ := x; exact Heap.lt_size e
  | rng lo hi => obtain ⟨_, _, _, e⟩ := x; exact Heap.lt_size e
  | frz ob u => obtain ⟨e, _⟩ := x; exact Heap.lt_size e
  | tbl ps => exact Heap.lt_size (show h.get? a = some _ from x)
  | met f y => exact Heap.lt_size (show h.get? a = some _ from x)
  | ext φ => obtain ⟨_, ⟨_, e⟩, _⟩ := x; exact Heap.lt_size e
/-- what an object's description leans on: its own object, its own dict, the tuples -/
theorem ObjOk.stay (x : ObjOk P w H h a o) (k : ∀ b u, (b = a ∨ H b = some (.own a)) → h.get? b = some u → h'.get? b = some u)
    (ho : ∀ b, H b = some (.own a) → H' b = some (.own a)) (ht : ∀ b xs, H b = some (.tup xs) → H' b = some (.tup xs)) : ObjOk P w H' h' a o := by
  induction o with
  | lst xs => obtain ⟨z, its, n, r, e⟩ := x; exact ⟨z, its, n, r, k _ _ (.inl rfl) e⟩
  | tup xs => obtain ⟨z, its, r, ob, e, c⟩ := x; exact ⟨z, its, r, ob, k _ _ (.inl rfl) e, c⟩
  | dK kvs => obtain ⟨z, y, vs, r, ob, es, ep, e, c⟩ := x; exact ⟨z, y, vs, r, ob, es, ep, k _ _ (.inl rfl) e, c⟩
  | dT kvs => exact (show False from x).elim
  | set S n => obtain ⟨ob, es, ep, t, e, c⟩ := x; exact ⟨ob, es, ep, t, k _ _ (.inl rfl) e, c⟩
  | ins C dx fs =>
    obtain ⟨d, z, ne, e, mA, ⟨od, es, ep, e2, c⟩, r⟩ := x
    exact ⟨ho _ d, z, ne, k _ _ (.inl rfl) e, mA, ⟨od, es, ep, k _ _ (.inr d) e2, c⟩, r⟩
  | own y => obtain ⟨ob, e⟩ := x; exact ⟨ob, k _ _ (.inl rfl) e⟩
  | xd fs => obtain ⟨mA, ⟨od, es, ep, e, c⟩, r⟩ := x; exact ⟨mA, ⟨od, es, ep, k _ _ (.inl rfl) e, c⟩, r⟩
  | rng lo hi => obtain ⟨t, u, v, e⟩ := x; exact ⟨t, u, v, k _ _ (.inl rfl) e⟩
  | frz ob u ih => obtain ⟨e, q⟩ := x; exact ⟨k _ _ (.inl rfl) e, ih q⟩
  | tbl ps =>
    have e : h.get? a = some { cls := .none, data := .fields ps } := x
    show h'.get? a = some { cls := .none, data := .fields ps }
    exact k a _ (.inl rfl) e
  | met f y =>
    have e : h.get? a = some (PySem.W.methodObj (.ref f) (.ref y)) := x
    show h'.get? a = some (PySem.W.methodObj (.ref f) (.ref y))
    exact k a _ (.inl rfl) e
  | ext φ => obtain ⟨p, ⟨o, e⟩, st⟩ := x; exact ⟨st _ _ p fun o q => k _ _ (.inl rfl) q, ⟨o, k _ _ (.inl rfl) e⟩, st⟩
theorem HOk.lt (x : HOk P w H h) (e : H a = some o) : a < h.objs.size := (x a o e).lt
theorem HOk.fresh (x : HOk P w H h) (e : h.objs.size ≤ a) : H a = none := by
  cases q : H a with
  | none => rfl
  | some u => exact absurd (Nat.lt_of_lt_of_le (x.lt q) e) (Nat.lt_irrefl _)
/-- every object of the heap is kept -/
theorem HOk.kept (x : HOk P w H h) (k : ∀ b u, h.get? b = some u → h'.get? b = some u) : HOk P w H h' := fun a o e =>
  (x a o e).stay (fun b u _ q => k b u q) (fun _ q => q) fun _ _ q => q
/-- a new object is laid and tracked -/
theorem HOk.laid (x : HOk P w H h) (k : ∀ b u, h.get? b = some u → h'.get? b = some u) (hp : h.objs.size ≤ a) (new : ObjOk P w (upd H a o) h' a o) : HOk P w (upd H a o) h' := fun b u e => by
  have hn := x.fresh hp
  by_cases hb : b = a
  · subst hb; rw [upd_same] at e; cases e; exact new
  · rw [upd_ne hb] at e
    exact (x b u e).stay (fun c v _ q => k c v q) (fun c q => by rw [upd_ne (ne_of_none q hn)]; exact q) fun c xs q => by rw [upd_ne (ne_of_none q hn)]; exact q
end

/-- what may be read as u: it is u, or a known u -/
def Rd (H : Hp) (a : Addr) (u : HO) : Prop := H a = some u ∨ ∃ o, H a = some (.frz o u)
theorem Rd.ok {P : Program} {w : World} {H : Hp} {h : Heap} {a : Addr} {u : HO} (r : Rd H a u) (x : HOk P w H h) : ObjOk P w H h a u := by
  rcases r with r | ⟨o, r⟩
  · exact x a u r
  · obtain ⟨_, q⟩ := x a _ r
    exact q
/-- what may be written -/
def Mut : Option HO → Prop
  | some (.lst _) => True
  | some (.dK _) => True
  | some (.dT _) => True
  | some (.set _ _) => True
  | some (.ins _ _ _) => True
  | some (.ext _) => True
  | _ => False
section
variable {P : Program} {w : World} {H : Hp} {h h' : Heap} {x e : Addr} {o' : HO}
/-- the object at e is changed: x itself, or the dict of the instance x -/
theorem HOk.write (ok : HOk P w H h) (mu : Mut (H x)) (he : e = x ∨ H e = some (.own x)) (k : ∀ b u, b ≠ e → h.get? b = some u → h'.get? b = some u) (heo : ∃ u, h'.get? e = some u)
    (new : ObjOk P w (upd H x o') h' x o') : HOk P w (upd H x o') h' := fun b u q => by
  have nown : ∀ c y, H c = some (.own y) → c ≠ x := fun c y r z => by subst z; rw [r] at mu; exact mu
  have ntup : ∀ c xs, H c = some (.tup xs) → c ≠ x := fun c xs r z => by subst z; rw [r] at mu; exact mu
  by_cases hb : b = x
  · subst hb; rw [upd_same] at q; cases q; exact new
  · rw [upd_ne hb] at q
    by_cases hbe : b = e
    · have q' : H b = some (.own x) := by
        rcases he with z | z
        · exact absurd (hbe.trans z) hb
        · rw [hbe]; exact z
      rw [q] at q'; cases q'
      obtain ⟨v, hv⟩ := heo
      exact ⟨v, by rw [hbe]; exact hv⟩
    · refine (ok b u q).stay (fun c v hc r => k c v ?_ r) (fun c r => by rw [upd_ne (nown c b r)]; exact r) fun c xs r => by rw [upd_ne (ntup c xs r)]; exact r
      rcases hc with rfl | hc
      · exact hbe
      · rintro rfl
        rcases he with z | z
        · exact nown c b hc z
        · rw [hc] at z; cases z; exact hb rfl
end

/-! ### kept unless tracked; of the frames at fs (the callers') the slots may change (an exception that passes writes there); of the records at ex (iterators) nothing is said -/
structure Un (fs ex : List Addr) (H H' : Hp) (h h' : Heap) : Prop where
  keep : ∀ b o, h.get? b = some o → H b = none → b ∉ fs → b ∉ ex → h'.get? b = some o
  slot : ∀ b o, h.get? b = some o → H b = none → b ∈ fs → b ∉ ex → ∃ sl, h'.get? b = some { o with slots := sl }
  free : ∀ b o, h.get? b = some o → H b = none → b ∉ ex → H' b = none
  there : ∀ b o, h.get? b = some o → b ∉ ex → ∃ o', h'.get? b = some o'
  tups : ∀ b xs, H b = some (.tup xs) → H' b = some (.tup xs)
  frzs : ∀ b o u, H b = some (.frz o u) → H' b = some (.frz o u)
  tbls : ∀ b ps, H b = some (.tbl ps) → ∃ more, H' b = some (.tbl (ps ++ more))
section
variable {fs fs' ex ex' : List Addr} {H H1 H2 : Hp} {h h1 h2 h' : Heap} {a x e : Addr} {o : HO}
theorem Un.any (u : Un fs ex H H1 h h1) {b : Addr} {ob : Obj} (q : h.get? b = some ob) (n : H b = none) (hx : b ∉ ex) : ∃ sl, h1.get? b = some { ob with slots := sl } := by
  by_cases hb : b ∈ fs
  · exact u.slot b ob q n hb hx
  · exact ⟨ob.slots, u.keep b ob q n hb hx⟩
theorem Un.kept (k : ∀ b u, h.get? b = some u → h'.get? b = some u) : Un fs ex H H h h' :=
  ⟨fun b ob q _ _ _ => k b ob q, fun b ob q _ _ _ => ⟨ob.slots, k b ob q⟩, fun _ _ _ n _ => n, fun b ob q _ => ⟨ob, k b ob q⟩, fun _ _ q => q, fun _ _ _ q => q, fun _ ps q => ⟨#[], by rw [q]; simp⟩⟩
theorem Un.refl : Un fs ex H H h h := Un.kept fun _ _ q => q
theorem Un.laid (k : ∀ b u, h.get? b = some u → h'.get? b = some u) (hp : h.objs.size ≤ a) (hn : H a = none) : Un fs ex H (upd H a o) h h' where
  keep := fun b u q _ _ _ => k b u q
  slot := fun b u q _ _ _ => ⟨u.slots, k b u q⟩
  free := fun b u q n _ => by rw [upd_ne (Nat.ne_of_lt (Nat.lt_of_lt_of_le (Heap.lt_size q) hp))]; exact n
  there := fun b u q _ => ⟨u, k b u q⟩
  tups := fun b xs q => by rw [upd_ne (ne_of_none q hn)]; exact q
  frzs := fun b u xs q => by rw [upd_ne (ne_of_none q hn)]; exact q
  tbls := fun b ps q => ⟨#[], by rw [upd_ne (ne_of_none q hn), q]; simp⟩
theorem Un.write (mu : Mut (H x)) (he : e = x ∨ H e = some (.own x)) (k : ∀ b u, b ≠ e → h.get? b = some u → h'.get? b = some u) (heo : ∃ u, h'.get? e = some u) : Un fs ex H (upd H x o) h h' := by
  have hx : ∀ b, H b = none → b ≠ x := fun b n z => by subst z; rw [n] at mu; exact mu
  have hb : ∀ b, H b = none → b ≠ e := fun b n z => by
    subst z
    rcases he with r | r
    · exact hx b n r
    · rw [n] at r; cases r
  have hm : ∀ b u, H b = some u → ¬ Mut (some u) → b ≠ x := fun b u q nm z => by subst z; rw [q] at mu; exact nm mu
  refine ⟨fun b u q n _ _ => k b u (hb b n) q, fun b u q n _ _ => ⟨u.slots, k b u (hb b n) q⟩, fun b u q n _ => by rw [upd_ne (hx b n)]; exact n, fun b u q _ => ?_,
    fun b xs q => by rw [upd_ne (hm b _ q fun z => z)]; exact q, fun b u xs q => by rw [upd_ne (hm b _ q fun z => z)]; exact q, fun b ps q => ⟨#[], by rw [upd_ne (hm b _ q fun z => z), q]; simp⟩⟩
  by_cases hbe : b = e
  · subst hbe; exact heo
  · exact ⟨u, k b u hbe q⟩
end

/-! ### the heap without what is tracked -/
def trk (h : Heap) (H : Hp) : List Addr := (List.range h.objs.size).filter fun a => (H a).isSome
def hidT (h : Heap) (H : Hp) : Heap := PySem.W.hideAll h (trk h H)
theorem hidT_size (h : Heap) (H : Hp) : (hidT h H).objs.size = h.objs.size := PySem.W.hideAll_size _ _
theorem hidT_get {h : Heap} {H : Hp} {b : Addr} {o : Obj} (e : h.get? b = some o) (n : H b = none) : (hidT h H).get? b = some o :=
  PySem.W.hideAll_get _ e fun hm => by
    have q : (H b).isSome = true := (List.mem_filter.mp hm).2
    rw [n] at q; simp at q
theorem of_hidT {h : Heap} {H : Hp} {b : Addr} {o : Obj} (e : (hidT h H).get? b = some o) : h.get? b = some o ∧ H b = none := by
  have e' : h.get? b = some o := PySem.W.of_hideAll (trk h H) e
  refine ⟨e', ?_⟩
  cases q : H b with
  | none => rfl
  | some x =>
    have hm : b ∈ trk h H := List.mem_filter.mpr ⟨List.mem_range.mpr (Heap.lt_size e'), by simp [q]⟩
    have z : (hidT h H).get? b = none := PySem.W.hideAll_none (trk h H) hm
    rw [z] at e; cases e

/-! ### OpenK's ledger, filled with every new object but one -/
def allNews (g h : Heap) (L : Addr) : List (Addr × Obj) := (List.range h.objs.size).filterMap fun a => if a = L ∨ (g.get? a).isSome = true then none else (h.get? a).map fun o => (a, o)
def rest (g h : Heap) (L d : Addr) : List (Addr × Obj) := (allNews g h L).filter fun p => decide (p.1 ≠ d)
end L2

namespace L2
open PySem PySem.Spec PyProof.Rows

/-- the module's facts, over the base: the heap at the law's entry without what is tracked there -/
structure Mod (K : PySem.W.Frag) (mg : Str → Option Value) (base : Heap) : Prop where
  kin : K.In base
  glob : base.Ns mainGlobals mg
  blt : ∃ mb, base.Ns builtinsNs mb ∧ ∀ x : Str, x ≠ "__name__" → mb x = bootBuiltins x
  nolimit : base.NoLimit

/-- the context: a def's body (or a comprehension's block) running. base: fixed through the whole law; s₀, H₀: the entry; outer: the frames whose slots others may change (a def's callers); stack: all frames that run;
   ex: iterators that were made ahead of the entry and are walked here (a comprehension's); fn: the names whose cells were made at the entry (a def: all; a comprehension's block: its own); calm: not within an except suite; pn: pins that every state bears; xe: what is wanted of an exception that leaves the code -/
structure Cx where
  prog : Program
  w : World
  K : PySem.W.Frag
  mg : Str → Option Value
  base : Heap
  A : Around
  N : List Str
  s₀ : Shared
  H₀ : Hp
  env : Env
  outer : List Env
  stack : List Env
  ex : List Addr
  fn : Str → Bool
  calm : Bool
  pn : List (Addr × Obj)
  xe : Value → Shared → Prop
/-- the callers' frames -/
def frs (l : List Env) : List Addr := l.filterMap (·.frame)
abbrev Cx.fs (X : Cx) : List Addr := frs X.outer

def Vis (sc : Scope) (x : Str) : Prop := sc.names.lookup x = some .local ∨ sc.names.lookup x = some .cell ∨ sc.names.lookup x = some .free
def Loc (sc : Scope) (x : Str) : Prop := sc.names.lookup x = some .local ∨ sc.names.lookup x = some .cell
def Look (env : Env) (h : Heap) (m : Str → Option Value) (x : Str) (u : Value) : Prop :=
  (env.kindOf x = some .local ∧ m x = some u) ∨ ((env.kindOf x = some .cell ∨ env.kindOf x = some .free) ∧ ∃ c, env.cells.lookup x = some c ∧ h.IsCell c (some u))

structure Cx.Ok (X : Cx) : Prop where
  mod : Mod X.K X.mg X.base
  kind : X.env.scope.kind = .function
  glob : X.env.globals = mainGlobals
  blt : X.env.builtins = builtinsNs
  above : X.s₀.heap.objs.size ≤ X.env.locals
  inj : ∀ x y c, X.env.cells.lookup x = some c → X.env.cells.lookup y = some c → x = y
  has : ∀ x, (X.env.kindOf x = some .cell ∨ X.env.kindOf x = some .free) → ∃ c, X.env.cells.lookup x = some c
  cab : ∀ x c, X.fn x = true → X.env.cells.lookup x = some c → X.s₀.heap.objs.size ≤ c
  hd : X.calm = true → X.A.handled = none
  frames : X.A.frames = some X.stack
  stk : X.stack = X.outer ∨ (X.stack = X.env :: X.outer ∧ X.env.frame = some X.env.locals)
  exf : ∀ b ∈ X.ex, b ≠ X.env.locals ∧ ∀ x c, X.env.cells.lookup x = some c → c ≠ b
  bs : ∀ b o, X.base.get? b = some o → X.s₀.heap.get? b = some o ∧ X.H₀ b = none
  bsz : X.base.objs.size ≤ X.s₀.heap.objs.size
  noex : ∀ b o, X.base.get? b = some o → b ∉ X.ex
  exfs : ∀ b ∈ X.ex, b ∉ X.fs
  funs : X.s₀.heap.FunFrames X.base X.outer
  frf : ∀ b ∈ X.fs, X.H₀ b = none

structure Inv (X : Cx) (pins : List (Addr × Obj)) (σ : List (Option V)) (H : Hp) (s : Shared) : Prop where
  ok : X.Ok
  os : s.os = X.s₀.os
  bare : AllBare s.gens
  base : Un X.fs X.ex X.H₀ H X.s₀.heap s.heap
  loc : ∃ m, s.heap.Ns X.env.locals m ∧ ∀ (i : Nat) (x : Str) (v : V), X.N[i]? = some x → σ[i]? = some (some v) → Vis X.env.scope x → ∃ u, RelV v u ∧ Look X.env s.heap m x u
  cell : ∀ x c, X.env.cells.lookup x = some c → ∃ v, s.heap.IsCell c v
  free : H X.env.locals = none
  freeC : ∀ x c, X.env.cells.lookup x = some c → H c = none
  pin : ∀ p ∈ X.pn ++ pins, s.heap.get? p.1 = some p.2 ∧ H p.1 = none ∧ p.1 ≠ X.env.locals ∧ p.1 ∉ X.fs ∧ ∀ v, p.2.data ≠ .cell v
  hok : HOk X.prog X.w H s.heap
  len : σ.length = X.N.length

section
variable {X : Cx} {pins : List (Addr × Obj)} {σ : List (Option V)} {H H' : Hp} {s : Shared} {h' : Heap}

theorem Cx.Ok.nofr (ok : X.Ok) {b : Addr} {o : Obj} (e : X.base.get? b = some o) : b ∉ X.fs := fun hb => by
  have := (ok.funs.mem hb).1
  rw [e] at this; cases this
theorem Inv.bs (I : Inv X pins σ H s) : ∀ b o, X.base.get? b = some o → s.heap.get? b = some o ∧ H b = none := fun b o e =>
  ⟨I.base.keep b o (I.ok.bs b o e).1 (I.ok.bs b o e).2 (I.ok.nofr e) (I.ok.noex b o e), I.base.free b o (I.ok.bs b o e).1 (I.ok.bs b o e).2 (I.ok.noex b o e)⟩
theorem Inv.bk (I : Inv X pins σ H s) : ∀ b o, X.base.get? b = some o → s.heap.get? b = some o := fun b o e => (I.bs b o e).1
theorem Inv.mod (I : Inv X pins σ H s) : Mod X.K X.mg X.base := I.ok.mod
theorem Inv.kIn (I : Inv X pins σ H s) : X.K.In s.heap := I.ok.mod.kin.keeps I.bk
theorem Inv.lt (I : Inv X pins σ H s) : X.env.locals < s.heap.objs.size := let ⟨_, hn, _⟩ := I.loc; hn.lt
theorem Inv.sz (I : Inv X pins σ H s) : X.s₀.heap.objs.size ≤ s.heap.objs.size := Nat.le_trans I.ok.above (Nat.le_of_lt I.lt)
theorem Inv.nofs (I : Inv X pins σ H s) {a : Addr} (h : s.heap.objs.size ≤ a) : a ∉ X.fs := fun hb => by
  obtain ⟨_, o, ho, _⟩ := I.ok.funs.mem hb
  exact absurd (Nat.lt_of_lt_of_le (Heap.lt_size ho) (Nat.le_trans I.sz h)) (Nat.lt_irrefl _)
theorem Inv.cne (I : Inv X pins σ H s) : ∀ x c, X.env.cells.lookup x = some c → c ≠ X.env.locals := fun x c e z => by
  obtain ⟨v, o, ho, hd⟩ := I.cell x c e
  obtain ⟨m, ⟨o', es, ep, ho', hd', _⟩, _⟩ := I.loc
  rw [z, ho'] at ho; cases ho; rw [hd'] at hd; cases hd
theorem Inv.funs (I : Inv X pins σ H s) : s.heap.FunFrames X.base X.outer := by
  have all : ∀ (l : List Env), (∀ b ∈ frs l, b ∈ X.fs) → X.s₀.heap.FunFrames X.base l → s.heap.FunFrames X.base l := by
    intro l
    induction l with
    | nil => intro _ _; trivial
    | cons env r ih =>
      intro hs hl
      obtain ⟨hk, ⟨L, o, hf, hn, ho, hd⟩, hr⟩ := hl
      have hL : L ∈ X.fs := hs L (by unfold frs; rw [List.filterMap_cons, hf]; exact List.mem_cons_self)
      obtain ⟨sl, e⟩ := I.base.slot L o ho (I.ok.frf L hL) hL fun z => I.ok.exfs L z hL
      exact ⟨hk, ⟨L, _, hf, hn, e, hd⟩, ih (fun b hb => hs b (by unfold frs; rw [List.filterMap_cons, hf]; exact List.mem_cons_of_mem _ hb)) hr⟩
  exact all X.outer (fun _ hb => hb) I.ok.funs

/-- the frames that run, for a call -/
theorem Inv.stack (I : Inv X pins σ H s) : s.heap.FunFrames X.base X.stack := by
  rcases I.ok.stk with e | ⟨e, hf⟩
  · rw [e]; exact I.funs
  · rw [e]
    obtain ⟨m, hn, _⟩ := I.loc
    refine .cons (by rw [I.ok.kind]; decide) hf hn ?_ I.funs
    exact Heap.get?_none_of_le (Nat.le_trans I.ok.bsz I.ok.above)
theorem Inv.stkSub (I : Inv X pins σ H s) : ∀ b ∈ frs X.stack, b ∈ X.env.locals :: X.fs := fun b hb => by
  rcases I.ok.stk with e | ⟨e, hf⟩
  · rw [e] at hb; exact List.mem_cons_of_mem _ hb
  · rw [e] at hb
    unfold frs at hb
    rw [List.filterMap_cons, hf] at hb
    exact hb
theorem Inv.stkFree (I : Inv X pins σ H s) : ∀ b ∈ frs X.stack, H b = none := fun b hb => by
  rcases List.mem_cons.mp (I.stkSub b hb) with e | hb
  · rw [e]; exact I.free
  · obtain ⟨_, o, ho, _⟩ := I.ok.funs.mem hb
    exact I.base.free b o ho (I.ok.frf b hb) fun z => I.ok.exfs b z hb

/-- THE STEP: the untracked objects but the frame and the records at ch are kept (the callers' frames up to slots), the frame's map is kept, the new abstract heap is held -/
theorem Inv.step {g' : Array GenState} {t' : Nat} {d' : Drawn} {ch : List Addr} (I : Inv X pins σ H s)
    (hch : ∀ b ∈ ch, (b ∈ X.ex ∨ X.s₀.heap.objs.size ≤ b) ∧ b ≠ X.env.locals ∧ (∀ x c, X.env.cells.lookup x = some c → c ≠ b) ∧ ∀ p ∈ X.pn ++ pins, p.1 ≠ b)
    (keep : ∀ b o, b ≠ X.env.locals → b ∉ X.fs → b ∉ ch → s.heap.get? b = some o → H b = none → h'.get? b = some o)
    (slot : ∀ b o, b ≠ X.env.locals → b ∈ X.fs → b ∉ ch → s.heap.get? b = some o → H b = none → ∃ sl, h'.get? b = some { o with slots := sl }) (free : ∀ b o, b ∉ ch → s.heap.get? b = some o → H b = none → H' b = none)
    (there : ∀ b o, b ∉ ch → s.heap.get? b = some o → ∃ o', h'.get? b = some o')
    (tups : ∀ b xs, H b = some (.tup xs) → H' b = some (.tup xs)) (frzs : ∀ b o u, H b = some (.frz o u) → H' b = some (.frz o u)) (tbls : ∀ b ps, H b = some (.tbl ps) → ∃ more, H' b = some (.tbl (ps ++ more)))
    (ns : ∀ m, s.heap.Ns X.env.locals m → h'.Ns X.env.locals m) (hok : HOk X.prog X.w H' h') (hg : AllBare g') :
    Inv X pins σ H' { s with heap := h', gens := g', drawn := d', toks := t' } := by
  have neL : ∀ b o, X.s₀.heap.get? b = some o → b ≠ X.env.locals := fun b o e => Nat.ne_of_lt (Nat.lt_of_lt_of_le (Heap.lt_size e) I.ok.above)
  have neC : ∀ b o, X.s₀.heap.get? b = some o → b ∉ X.ex → b ∉ ch := fun b o e hx hb => by
    rcases (hch b hb).1 with z | z
    · exact hx z
    · exact absurd (Nat.lt_of_lt_of_le (Heap.lt_size e) z) (Nat.lt_irrefl _)
  have cellK : ∀ x c, X.env.cells.lookup x = some c → ∀ v, s.heap.IsCell c v → h'.IsCell c v := fun x c e v ⟨o, ho, hd⟩ => by
    have nch : c ∉ ch := fun z => (hch c z).2.2.1 x c e rfl
    by_cases hc : c ∈ X.fs
    · obtain ⟨sl, q⟩ := slot c o (I.cne x c e) hc nch ho (I.freeC x c e)
      exact ⟨_, q, hd⟩
    · exact ⟨o, keep c o (I.cne x c e) hc nch ho (I.freeC x c e), hd⟩
  refine ⟨I.ok, I.os, hg, ⟨fun b o e n hb hx => ?_, fun b o e n hb hx => ?_, fun b o e n hx => ?_, fun b o e hx => ?_, fun b xs e => tups b xs (I.base.tups b xs e), fun b o xs e => frzs b o xs (I.base.frzs b o xs e), fun b ps e => ?_⟩, ?_, fun x c e => ?_, ?_, fun x c e => ?_, fun p hp => ?_, hok, I.len⟩
  · exact keep b o (neL b o e) hb (neC b o e hx) (I.base.keep b o e n hb hx) (I.base.free b o e n hx)
  · obtain ⟨sl, e1⟩ := I.base.slot b o e n hb hx
    obtain ⟨sl', e2⟩ := slot b _ (neL b o e) hb (neC b o e hx) e1 (I.base.free b o e n hx)
    exact ⟨sl', e2⟩
  · obtain ⟨o', e1⟩ := I.base.there b o e hx
    exact free b o' (neC b o e hx) e1 (I.base.free b o e n hx)
  · obtain ⟨o', e1⟩ := I.base.there b o e hx
    exact there b o' (neC b o e hx) e1
  · obtain ⟨m1, e1⟩ := I.base.tbls b ps e
    obtain ⟨m2, e2⟩ := tbls b _ e1
    exact ⟨m1 ++ m2, by rw [e2, Array.append_assoc]⟩
  · obtain ⟨m, hn, hl⟩ := I.loc
    refine ⟨m, ns m hn, fun i x v e1 e2 e3 => ?_⟩
    obtain ⟨u, r, l⟩ := hl i x v e1 e2 e3
    refine ⟨u, r, ?_⟩
    rcases l with l | ⟨k, c, e, z⟩
    · exact .inl l
    · exact .inr ⟨k, c, e, cellK x c e _ z⟩
  · obtain ⟨v, z⟩ := I.cell x c e
    exact ⟨v, cellK x c e v z⟩
  · obtain ⟨m, ⟨o, _, _, ho, _⟩, _⟩ := I.loc
    exact free _ o (fun z => (hch _ z).2.1 rfl) ho I.free
  · obtain ⟨v, o, ho, hd⟩ := I.cell x c e
    exact free c o (fun z => (hch c z).2.2.1 x c e rfl) ho (I.freeC x c e)
  · obtain ⟨e, n, ne, nf, d⟩ := I.pin p hp
    have nch : p.1 ∉ ch := fun z => (hch p.1 z).2.2.2 p hp rfl
    exact ⟨keep p.1 p.2 ne nf nch e n, free p.1 p.2 nch e n, ne, nf, d⟩
/-- .. where the frame's own object is kept too -/
theorem Inv.un {t' : Nat} (I : Inv X pins σ H s) (u : Un X.fs [] H H' s.heap h') (hok : HOk X.prog X.w H' h') : Inv X pins σ H' { s with heap := h', toks := t' } := by
  obtain ⟨m, ⟨o, es, ep, ho, r⟩, _⟩ := id I.loc
  obtain ⟨sl, hL⟩ := u.any ho I.free (by simp)
  exact I.step (g' := s.gens) (d' := s.drawn) (ch := []) (fun _ z => nomatch z) (fun b o _ hb _ e n => u.keep b o e n hb (by simp)) (fun b o _ hb _ e n => u.slot b o e n hb (by simp)) (fun b o _ e n => u.free b o e n (by simp)) (fun b o _ e => u.there b o e (by simp)) u.tups u.frzs u.tbls (fun m' hm => by
    obtain ⟨o', es', ep', ho', r'⟩ := hm
    rw [ho] at ho'; cases ho'
    exact ⟨_, es', ep', hL, r'⟩) hok I.bare
/-- behind a call (or a comprehension's block): the slots of this frame may have changed too, the records at ch may have turned -/
theorem Inv.call {g' : Array GenState} {t' : Nat} {d' : Drawn} {ch : List Addr} (I : Inv X pins σ H s) (u : Un (frs X.stack) ch H H' s.heap h') (hok : HOk X.prog X.w H' h') (hg : AllBare g')
    (hch : ∀ b ∈ ch, (b ∈ X.ex ∨ X.s₀.heap.objs.size ≤ b) ∧ b ≠ X.env.locals ∧ (∀ x c, X.env.cells.lookup x = some c → c ≠ b) ∧ ∀ p ∈ X.pn ++ pins, p.1 ≠ b) :
    Inv X pins σ H' { s with heap := h', gens := g', drawn := d', toks := t' } := by
  obtain ⟨m, ⟨o, es, ep, ho, r⟩, _⟩ := id I.loc
  obtain ⟨sl, hL⟩ := u.any ho I.free fun z => (hch _ z).2.1 rfl
  exact I.step (ch := ch) hch (fun b o hL hb hc e n => u.keep b o e n (fun z => (List.mem_cons.mp (I.stkSub b z)).elim hL hb) hc) (fun b o _ _ hc e n => u.any e n hc) (fun b o hc e n => u.free b o e n hc) (fun b o hc e => u.there b o e hc) u.tups u.frzs u.tbls (fun m' hm => by
    obtain ⟨o', es', ep', ho', r'⟩ := hm
    rw [ho] at ho'; cases ho'
    exact ⟨_, es', ep', hL, r'⟩) hok hg
/-- an untracked record of ours (an iterator) has turned -/
theorem Inv.turned {t' : Nat} {it : Addr} (I : Inv X pins σ H s) (k : ∀ b o, b ≠ it → s.heap.get? b = some o → h'.get? b = some o) (hn : H it = none) (hL : it ≠ X.env.locals)
    (h1 : it ∈ X.ex ∨ X.s₀.heap.objs.size ≤ it) (h2 : ∀ x c, X.env.cells.lookup x = some c → c ≠ it) (h3 : ∀ p ∈ X.pn ++ pins, p.1 ≠ it) : Inv X pins σ H { s with heap := h', toks := t' } := by
  have nit : ∀ b u, H b = some u → b ≠ it := fun b u e z => by rw [z, hn] at e; cases e
  refine I.step (g' := s.gens) (d' := s.drawn) (ch := [it]) (fun b hb => ?_) (fun b o _ _ hc e _ => k b o (fun z => hc (by simp [z])) e) (fun b o _ _ hc e _ => ⟨o.slots, k b o (fun z => hc (by simp [z])) e⟩) (fun _ _ _ _ n => n)
    (fun b o hc e => ⟨o, k b o (fun z => hc (by simp [z])) e⟩) (fun _ _ e => e) (fun _ _ _ e => e) (fun b ps e => ⟨#[], by rw [e]; simp⟩) (fun m hm => ?_) (fun b u e => ?_) I.bare
  · have e : b = it := by simpa using hb
    subst e
    exact ⟨h1, hL, h2, h3⟩
  · obtain ⟨o, es, ep, ho, r⟩ := hm
    exact ⟨o, es, ep, k _ o (Ne.symm hL) ho, r⟩
  · refine (I.hok b u e).stay (fun c v hc q => k c v ?_ q) (fun _ q => q) fun _ _ q => q
    rcases hc with z | z
    · rw [z]; exact nit b u e
    · exact nit c _ z
theorem Inv.tok (I : Inv X pins σ H s) (t : Nat) : Inv X pins σ H { s with toks := t } := I.un (h' := s.heap) (t' := t) Un.refl I.hok
/-- all objects kept -/
theorem Inv.kept {t' : Nat} (I : Inv X pins σ H s) (k : ∀ b u, s.heap.get? b = some u → h'.get? b = some u) : Inv X pins σ H { s with heap := h', toks := t' } := I.un (Un.kept k) (I.hok.kept k)
/-- a new object laid and tracked -/
theorem Inv.laid {a : Addr} {o : HO} {t' : Nat} (I : Inv X pins σ H s) (k : ∀ b u, s.heap.get? b = some u → h'.get? b = some u) (hp : s.heap.objs.size ≤ a) (new : ObjOk X.prog X.w (upd H a o) h' a o) :
    Inv X pins σ (upd H a o) { s with heap := h', toks := t' } := I.un (Un.laid k hp (I.hok.fresh hp)) (I.hok.laid k hp new)
/-- an object written -/
theorem Inv.write {x e : Addr} {o : HO} {t' : Nat} (I : Inv X pins σ H s) (mu : Mut (H x)) (he : e = x ∨ H e = some (.own x)) (k : ∀ b u, b ≠ e → s.heap.get? b = some u → h'.get? b = some u) (heo : ∃ u, h'.get? e = some u)
    (new : ObjOk X.prog X.w (upd H x o) h' x o) : Inv X pins σ (upd H x o) { s with heap := h', toks := t' } := I.un (Un.write mu he k heo) (I.hok.write mu he k heo new)
theorem Inv.pins_of {pins' : List (Addr × Obj)} (I : Inv X pins σ H s) (h : ∀ p ∈ pins', s.heap.get? p.1 = some p.2 ∧ H p.1 = none ∧ p.1 ≠ X.env.locals ∧ p.1 ∉ X.fs ∧ ∀ v, p.2.data ≠ .cell v) : Inv X pins' σ H s :=
  ⟨I.ok, I.os, I.bare, I.base, I.loc, I.cell, I.free, I.freeC, fun p hp => (List.mem_append.mp hp).elim (fun z => I.pin p (List.mem_append_left _ z)) (h p), I.hok, I.len⟩

theorem nodup_ix {N : List Str} (hN : N.Nodup) {i j : Nat} {x : Str} (a : N[i]? = some x) (b : N[j]? = some x) : i = j := by
  obtain ⟨h1, e1⟩ := List.getElem?_eq_some_iff.mp a
  obtain ⟨h2, e2⟩ := List.getElem?_eq_some_iff.mp b
  exact (List.getElem_inj hN).mp (e1.trans e2.symm)

/-- a name is stored; what changed -/
theorem store_ok2 {M : Model} {A : Around} {E : Value → Shared → Prop} {i : Nat} {x : Str} {v : V} {u : Value} {Q : Unit → Shared → Prop} (I : Inv X pins σ H s) (hN : X.N.Nodup) (hi : X.N[i]? = some x) (hx : Loc X.env.scope x) (r : RelV v u)
    (h : ∀ s', Inv X pins (σ.set i (some v)) H s' → (∃ a, Heap.SameBut a s.heap s'.heap ∧ (a = X.env.locals ∨ X.env.cells.lookup x = some a)) → Q () s') (hf : X.fn x = true ∨ X.env.scope.names.lookup x = some .local := by first | exact .inl rfl | exact .inr rfl | assumption) : wpAny M A (storeName X.env x u) Q E s := by
  obtain ⟨m, hn, hl⟩ := id I.loc
  have hcls : (X.env.scope.kind == .class || (X.env.scope.kind == .module && X.env.locals != X.env.globals)) = false := by rw [I.ok.kind]; rfl
  have hiσ : i < σ.length := by rw [I.len]; exact (List.getElem?_eq_some_iff.mp hi).1
  have cne := I.cne
  have tracked : ∀ {a : Addr} {h' : Heap}, (∃ o, s.heap.get? a = some o ∧ H a = none) → Heap.SameBut a s.heap h' → HOk X.prog X.w H h' := fun {a h'} ha hs b ob e => by
    obtain ⟨_, _, hfree⟩ := ha
    refine (I.hok b ob e).stay (fun c w' hc q => (hs.2 c ?_).trans q) (fun _ q => q) fun _ _ q => q
    rintro rfl
    rcases hc with rfl | hc
    · rw [hfree] at e; cases e
    · rw [hfree] at hc; cases hc
  rcases hx with hk | hk
  · refine wpAny_storeName_local hk hn (fun h' hn' hs => ?_) hcls
    obtain ⟨oL, _, _, hoL, _⟩ := id hn
    refine h _ ⟨I.ok, I.os, I.bare, ⟨fun b o e n hb hx => ?_, fun b o e n hb hx => ?_, I.base.free, fun b o e hx => ?_, I.base.tups, I.base.frzs, I.base.tbls⟩, ⟨_, hn', fun j y v' e1 e2 e3 => ?_⟩, fun y c e => ?_, I.free, I.freeC, fun p hp => ?_, tracked ⟨oL, hoL, I.free⟩ hs, by simpa using I.len⟩ ⟨_, hs, .inl rfl⟩
    · exact (hs.2 b (Nat.ne_of_lt (Nat.lt_of_lt_of_le (Heap.lt_size e) I.ok.above))).trans (I.base.keep b o e n hb hx)
    · obtain ⟨sl, e1⟩ := I.base.slot b o e n hb hx
      exact ⟨sl, (hs.2 b (Nat.ne_of_lt (Nat.lt_of_lt_of_le (Heap.lt_size e) I.ok.above))).trans e1⟩
    · obtain ⟨o', e1⟩ := I.base.there b o e hx
      exact ⟨o', (hs.2 b (Nat.ne_of_lt (Nat.lt_of_lt_of_le (Heap.lt_size e) I.ok.above))).trans e1⟩
    · by_cases hj : j = i
      · subst hj
        rw [hi] at e1; cases e1
        rw [List.getElem?_set_self hiσ] at e2
        cases e2
        exact ⟨u, r, .inl ⟨hk, by simp⟩⟩
      · rw [List.getElem?_set_ne (Ne.symm hj)] at e2
        obtain ⟨u', r', q⟩ := hl j y v' e1 e2 e3
        refine ⟨u', r', ?_⟩
        rcases q with ⟨k, e⟩ | ⟨k, c, e, z⟩
        · refine .inl ⟨k, ?_⟩
          have : y ≠ x := fun e => hj (nodup_ix hN e1 (e ▸ hi))
          simp [this, e]
        · exact .inr ⟨k, c, e, z.sameBut hs (cne y c e)⟩
    · obtain ⟨w', z⟩ := I.cell y c e
      exact ⟨w', z.sameBut hs (cne y c e)⟩
    · obtain ⟨e, n, ne, nf, d⟩ := I.pin p hp
      exact ⟨(hs.2 p.1 ne).trans e, n, ne, nf, d⟩
  · have hfn : X.fn x = true := by
      rcases hf with z | z
      · exact z
      · rw [z] at hk; cases hk
    obtain ⟨c, hc⟩ := I.ok.has x (.inl hk)
    obtain ⟨w', z⟩ := I.cell x c hc
    refine wpAny_storeName_cell I.ok.kind hk hc z (fun h' hc' hs => ?_)
    obtain ⟨oc, hoc, hocd⟩ := id z
    refine h { s with heap := h' } ⟨I.ok, I.os, I.bare, ⟨fun b o e n hb hx => ?_, fun b o e n hb hx => ?_, I.base.free, fun b o e hx => ?_, I.base.tups, I.base.frzs, I.base.tbls⟩, ⟨m, hn.sameBut hs (Ne.symm (cne x c hc)), fun j y v' e1 e2 e3 => ?_⟩, fun y c' e => ?_, I.free, I.freeC, fun p hp => ?_, tracked ⟨oc, hoc, I.freeC x c hc⟩ hs, by simpa using I.len⟩ ⟨c, hs, .inr hc⟩
    · exact (hs.2 b (Nat.ne_of_lt (Nat.lt_of_lt_of_le (Heap.lt_size e) (I.ok.cab x c hfn hc)))).trans (I.base.keep b o e n hb hx)
    · obtain ⟨sl, e1⟩ := I.base.slot b o e n hb hx
      exact ⟨sl, (hs.2 b (Nat.ne_of_lt (Nat.lt_of_lt_of_le (Heap.lt_size e) (I.ok.cab x c hfn hc)))).trans e1⟩
    · obtain ⟨o', e1⟩ := I.base.there b o e hx
      exact ⟨o', (hs.2 b (Nat.ne_of_lt (Nat.lt_of_lt_of_le (Heap.lt_size e) (I.ok.cab x c hfn hc)))).trans e1⟩
    · by_cases hj : j = i
      · subst hj
        rw [hi] at e1; cases e1
        rw [List.getElem?_set_self hiσ] at e2
        cases e2
        exact ⟨u, r, .inr ⟨.inl hk, c, hc, hc'⟩⟩
      · rw [List.getElem?_set_ne (Ne.symm hj)] at e2
        obtain ⟨u', r', q⟩ := hl j y v' e1 e2 e3
        refine ⟨u', r', ?_⟩
        rcases q with q | ⟨k, c', e, z'⟩
        · exact .inl q
        · refine .inr ⟨k, c', e, z'.sameBut hs ?_⟩
          rintro rfl
          exact hj (nodup_ix hN e1 (I.ok.inj _ _ _ e hc ▸ hi))
    · by_cases hcc : c' = c
      · subst hcc; exact ⟨_, hc'⟩
      · obtain ⟨w2, z2⟩ := I.cell y c' e
        exact ⟨w2, z2.sameBut hs hcc⟩
    · obtain ⟨e, n, ne, nf, d⟩ := I.pin p hp
      refine ⟨(hs.2 p.1 ?_).trans e, n, ne, nf, d⟩
      intro q
      rw [q, hoc] at e
      have q' : oc = p.2 := Option.some.inj e
      exact d w' (by rw [← q']; exact hocd)
theorem store_ok {M : Model} {A : Around} {E : Value → Shared → Prop} {i : Nat} {x : Str} {v : V} {u : Value} {Q : Unit → Shared → Prop} (I : Inv X pins σ H s) (hN : X.N.Nodup) (hi : X.N[i]? = some x) (hx : Loc X.env.scope x) (r : RelV v u)
    (h : ∀ s', Inv X pins (σ.set i (some v)) H s' → Q () s') (hf : X.fn x = true ∨ X.env.scope.names.lookup x = some .local := by first | exact .inl rfl | exact .inr rfl | assumption) : wpAny M A (storeName X.env x u) Q E s :=
  store_ok2 I hN hi hx r (fun s' I' _ => h s' I') hf
/-- behind a call or a block, the state as it is -/
theorem Inv.call' {s' : Shared} {ch : List Addr} (I : Inv X pins σ H s) (ho : s'.os = s.os) (u : Un (frs X.stack) ch H H' s.heap s'.heap) (hok : HOk X.prog X.w H' s'.heap) (hg : AllBare s'.gens)
    (hch : ∀ b ∈ ch, (b ∈ X.ex ∨ X.s₀.heap.objs.size ≤ b) ∧ b ≠ X.env.locals ∧ (∀ x c, X.env.cells.lookup x = some c → c ≠ b) ∧ ∀ p ∈ X.pn ++ pins, p.1 ≠ b) : Inv X pins σ H' s' := by
  obtain ⟨h', g', d', t', o'⟩ := s'
  have e : o' = s.os := ho
  subst e
  exact I.call (g' := g') (t' := t') (d' := d') u hok hg hch
end

/-! ### the judgements -/
/-- an exception: its class, its own dict's address (where it has one), the abstract heap behind it -/
abbrev XK := Value → Option Addr → Hp → Prop
abbrev St := List (Option V)
abbrev VK := V → Hp → Prop
/-- an expression's reading; a test's; an argument list's -/
abbrev TE := St → Hp → VK → Prop
abbrev TT := St → Hp → (Bool → Hp → Prop) → Prop
abbrev TA := St → Hp → (List V → Hp → Prop) → Prop
/-- what is wanted behind a statement -/
structure Ends where
  nx : St → Hp → Prop
  rt : VK
  bk : St → Hp → Prop := fun _ _ => False
  ct : St → Hp → Prop := fun _ _ => False
abbrev TS := Ends → St → Hp → Prop

def EP (X : Cx) (pins : List (Addr × Obj)) (σ : St) (Q : VK) (u : Value) (s' : Shared) : Prop := ∃ v H', Inv X pins σ H' s' ∧ RelV v u ∧ Q v H'
def TP (X : Cx) (pins : List (Addr × Obj)) (σ : St) (Q : Bool → Hp → Prop) (b : Bool) (s' : Shared) : Prop := ∃ H', Inv X pins σ H' s' ∧ Q b H'
def AP (X : Cx) (pins : List (Addr × Obj)) (σ : St) (Q : List V → Hp → Prop) (us : List Value) (s' : Shared) : Prop := ∃ vs H', Inv X pins σ H' s' ∧ Vals vs us ∧ Q vs H'
def SP (X : Cx) (pins : List (Addr × Obj)) (D : Ends) (f : Flow) (s' : Shared) : Prop :=
  match f with
  | .next => ∃ σ' H', Inv X pins σ' H' s' ∧ D.nx σ' H'
  | .brk => ∃ σ' H', Inv X pins σ' H' s' ∧ D.bk σ' H'
  | .cont => ∃ σ' H', Inv X pins σ' H' s' ∧ D.ct σ' H'
  | .ret u => ∃ v σ' H', Inv X pins σ' H' s' ∧ RelV v u ∧ D.rt v H'

def PE (X : Cx) (e : Expr) (t : TE) : Prop :=
  ∀ (pins : List (Addr × Obj)) (s : Shared) (σ : St) (H : Hp) (Q : VK), Inv X pins σ H s → t σ H Q → wpAny (model X.prog X.w) X.A (eval e X.env) (EP X pins σ Q) X.xe s
def PT (X : Cx) (e : Expr) (t : TT) : Prop :=
  ∀ (pins : List (Addr × Obj)) (s : Shared) (σ : St) (H : Hp) (Q : Bool → Hp → Prop), Inv X pins σ H s → t σ H Q → wpAny (model X.prog X.w) X.A (isTrue e X.env (eval e X.env)) (TP X pins σ Q) X.xe s
/-- a test whatever its 'whole' is (and, or) -/
def PW (X : Cx) (e : Expr) (t : TT) : Prop :=
  ∀ (whole : Sem Value) (pins : List (Addr × Obj)) (s : Shared) (σ : St) (H : Hp) (Q : Bool → Hp → Prop), Inv X pins σ H s → t σ H Q → wpAny (model X.prog X.w) X.A (isTrue e X.env whole) (TP X pins σ Q) X.xe s
theorem PW.pt {X : Cx} {e : Expr} {t : TT} (h : PW X e t) : PT X e t := h _
/-- an argument list (no star), from the left -/
def PA (X : Cx) (es : List Expr) (t : TA) : Prop :=
  ∀ (pos : Pos) (pins : List (Addr × Obj)) (s : Shared) (σ : St) (H : Hp) (Q : List V → Hp → Prop), Inv X pins σ H s → t σ H Q → wpAny (model X.prog X.w) X.A (spliced (backTo pos (starEach es X.env))) (AP X pins σ Q) X.xe s
def PS (X : Cx) (st : Stmt) (t : TS) : Prop :=
  ∀ (pins : List (Addr × Obj)) (s : Shared) (σ : St) (H : Hp) (D : Ends), Inv X pins σ H s → t D σ H → wpAny (model X.prog X.w) X.A (exec st X.env) (SP X pins D) X.xe s
def PSs (X : Cx) (st : List Stmt) (t : TS) : Prop :=
  ∀ (pins : List (Addr × Obj)) (s : Shared) (σ : St) (H : Hp) (D : Ends), Inv X pins σ H s → t D σ H → wpAny (model X.prog X.w) X.A (execs st X.env) (SP X pins D) X.xe s
/-- weaken the end -/
theorem thn {α : Type} {t : Sem α} {Q Q' : α → Shared → Prop} {M : Model} {A : Around} {E : Value → Shared → Prop} {s : Shared} (h : wpAny M A t Q E s) (hQ : ∀ a s, Q a s → Q' a s) : wpAny M A t Q' E s := wpAny_mono h hQ fun _ _ x => x
end L2

namespace L2
open PySem PySem.Spec PyProof.Rows
section
variable {X : Cx}

/-- two expressions in a row -/
theorem bin {a b : Expr} {ta tb : TE} (ha : PE X a ta) (hb : PE X b tb) {pins : List (Addr × Obj)} {s : Shared} {σ : St} {H : Hp} {R : V → V → Hp → Prop} (I : Inv X pins σ H s) (h : ta σ H fun x H1 => tb σ H1 fun y H2 => R x y H2)
    {α : Type} {Q : α → Shared → Prop} {f : Value → Value → Sem α}
    (hf : ∀ v u s2 x y H2, Inv X pins σ H2 s2 → RelV x v → RelV y u → R x y H2 → wpAny (model X.prog X.w) X.A (f v u) Q X.xe s2) :
    wpAny (model X.prog X.w) X.A (eval a X.env) (fun v s₁ => wpAny (model X.prog X.w) X.A (eval b X.env) (fun u s₂ => wpAny (model X.prog X.w) X.A (f v u) Q X.xe s₂) X.xe s₁) X.xe s := by
  refine thn (ha pins s σ H _ I h) fun v s1 ⟨x, H1, I1, r1, q1⟩ => ?_
  refine thn (hb pins s1 σ H1 _ I1 q1) fun u s2 ⟨y, H2, I2, r2, q2⟩ => ?_
  exact hf v u s2 x y H2 I2 r1 r2 q2

/-! ### names and constants -/
def tVar (i : Nat) : TE := fun σ H Q => ∃ v, σ[i]? = some (some v) ∧ Q v H
def tC (v : V) : TE := fun _ H Q => Q v H
theorem pe_var {i : Nat} {x : Str} {pos : Pos} (hN : X.N[i]? = some x) (hv : Vis X.env.scope x) (hd : (x == ("__debug__" : Str)) = false := by decide) (hcd : (x == ("__classdict__" : Str)) = false := by decide) : PE X (.Name x pos) (tVar i) := by
  intro pins s σ H Q I h
  obtain ⟨v, e, h⟩ := h
  obtain ⟨m, hn, hl⟩ := I.loc
  obtain ⟨u, r, l⟩ := hl i x v hN e hv
  have fin : EP X pins σ Q u s := ⟨v, H, I, r, h⟩
  rcases l with ⟨hk, hm⟩ | ⟨hk, c, hc, hcell⟩
  · exact wpAny_Name (wpAny_loadName_local I.ok.kind hk hn hm fin) hd
  · rcases hk with hk | hk
    · exact wpAny_Name (wpAny_loadName_cell I.ok.kind hk hc hcell fin) hd
    · exact wpAny_Name (wpAny_loadName_free I.ok.kind hk hc hcell fin hcd) hd
theorem pe_int {i j pos} : PE X (.Constant (.int i) j pos) (tC (.int i)) := fun _ _ _ H _ I h => wpAny_Constant_int ⟨.int i, H, I.tok _, ⟨_, rfl⟩, h⟩
theorem pe_bl {b j pos} : PE X (.Constant (.bool b) j pos) (tC (.bl b)) := fun _ _ _ H _ I h => Constant_bool ⟨.bl b, H, I, rfl, h⟩
/-- a global name of the def -/
def Gl (X : Cx) (x : Str) : Prop := X.env.kindOf x = some .globalImplicit
theorem ld_glob {E : Value → Shared → Prop} {pins : List (Addr × Obj)} {s : Shared} {σ : St} {H : Hp} {x : Str} {u : Value} {pos : Pos} {Q : Value → Shared → Prop} (I : Inv X pins σ H s) (hg : Gl X x) (hm : X.mg x = some u) (h : Q u s)
    (hd : (x == ("__debug__" : Str)) = false := by decide) : wpAny (model X.prog X.w) X.A (eval (.Name x pos) X.env) Q E s :=
  Calls.Name_function_global I.ok.kind hg (Calls.loadGlobal_global (by rw [I.ok.glob]; exact I.mod.glob.keeps I.bk) hm h) hd
theorem ld_blt {E : Value → Shared → Prop} {pins : List (Addr × Obj)} {s : Shared} {σ : St} {H : Hp} {x : Str} {u : Value} {pos : Pos} {Q : Value → Shared → Prop} (I : Inv X pins σ H s) (hg : Gl X x) (hm : X.mg x = none) (hv : bootBuiltins x = some u) (h : Q u s)
    (hn : x ≠ "__name__" := by decide) (hd : (x == ("__debug__" : Str)) = false := by decide) : wpAny (model X.prog X.w) X.A (eval (.Name x pos) X.env) Q E s := by
  obtain ⟨mb, h1, h2⟩ := I.mod.blt
  exact Calls.Name_function_global I.ok.kind hg (Calls.loadGlobal_builtin (by rw [I.ok.glob]; exact I.mod.glob.keeps I.bk) hm (by rw [I.ok.blt]; exact h1.keeps I.bk) ((h2 x hn).trans hv) h) hd
/-- a module's constant, a class, a function, as a value -/
theorem pe_glob {x : Str} {v : V} {u : Value} {pos : Pos} (hg : Gl X x) (hm : X.mg x = some u) (r : RelV v u) (hd : (x == ("__debug__" : Str)) = false := by decide) : PE X (.Name x pos) (tC v) :=
  fun _ _ _ H _ I h => ld_glob I hg hm ⟨v, H, I, r, h⟩ hd
theorem pe_bltn {x : Str} {v : V} {u : Value} {pos : Pos} (hg : Gl X x) (hm : X.mg x = none) (hv : bootBuiltins x = some u) (r : RelV v u) (hn : x ≠ "__name__" := by decide) (hd : (x == ("__debug__" : Str)) = false := by decide) : PE X (.Name x pos) (tC v) :=
  fun _ _ _ H _ I h => ld_blt I hg hm hv ⟨v, H, I, r, h⟩ hn hd

/-! ### arithmetic -/
variable {a b : Expr} {ta tb : TE} {pos : Pos}
/-! ### comparisons -/
/-! ### and, or, not -/
variable {tA tB' : TT} {rest : List Expr}
def tOr (t u : TT) : TT := fun σ H Q => t σ H fun c H1 => if c = true then Q true H1 else u σ H1 Q
def tNot (t : TT) : TT := fun σ H Q => t σ H fun c H1 => Q (!c) H1
theorem pw_or1 (ha : PT X a tA) : PW X (.BoolOp .Or [a] pos) tA := by
  intro wh pins s σ H Q I h
  refine isTrue_or (thn (ha pins s σ H Q I h) fun c s1 e => ?_)
  cases c with
  | false => exact isTrue_or_nil e
  | true => exact e
theorem pw_or (ha : PT X a tA) (hb : PW X (.BoolOp .Or (b :: rest) pos) tB') : PW X (.BoolOp .Or (a :: b :: rest) pos) (tOr tA tB') := by
  intro wh pins s σ H Q I h
  refine isTrue_or (thn (ha pins s σ H _ I h) fun c s1 ⟨H1, I1, q1⟩ => ?_)
  cases c with
  | true => exact ⟨H1, I1, q1⟩
  | false => exact hb wh pins s1 σ H1 Q I1 q1
theorem pt_not (ha : PT X a tA) : PT X (.UnaryOp .Not a pos) (tNot tA) := by
  intro pins s σ H Q I h
  exact isTrue_not (ha pins s σ H (fun c H1 => Q (!c) H1) I h)
/-- .. as values (bools) -/
def tAndV (ta tb : TE) : TE := fun σ H Q => ta σ H fun x H1 => ∃ c, x = .bl c ∧ if c = true then tb σ H1 Q else Q (.bl false) H1
def tNotV (ta : TE) : TE := fun σ H Q => ta σ H fun x H1 => ∃ c, x = .bl c ∧ Q (.bl (!c)) H1
theorem pe_one {op} {t : TE} (h : PE X a t) : PE X (.BoolOp op [a] pos) t := fun pins s σ H Q I hw => BoolOp_one (h pins s σ H Q I hw)
theorem pe_and (ha : PE X a ta) (hb : PE X (.BoolOp .And (b :: rest) pos) tb) : PE X (.BoolOp .And (a :: b :: rest) pos) (tAndV ta tb) := by
  intro pins s σ H Q I h
  refine BoolOp_and (thn (ha pins s σ H _ I h) fun v s1 ⟨x, H1, I1, r1, q1⟩ => ?_)
  obtain ⟨c, rfl, q1⟩ := q1
  cases r1
  refine wpAny_truthy_bool ?_
  cases c with
  | true => exact hb pins s1 σ H1 Q I1 q1
  | false => exact ⟨.bl false, H1, I1, rfl, q1⟩
theorem pe_not (ha : PE X a ta) : PE X (.UnaryOp .Not a pos) (tNotV ta) := by
  intro pins s σ H Q I h
  refine UnaryOp_ (thn (ha pins s σ H _ I h) fun v s1 ⟨x, H1, I1, r1, q1⟩ => ?_)
  obtain ⟨c, rfl, q1⟩ := q1
  cases r1
  exact not_of (wpAny_truthy_bool ⟨.bl (!c), H1, I1, rfl, q1⟩)
end
end L2

namespace L2
open PySem PySem.Spec PyProof.Rows

/-! ### a list, a tuple that is read: tracked, frozen, or an object of the module -/
def SqL (K : PySem.W.Frag) (H : Hp) (a : Addr) (xs : List V) : Prop :=
  Rd H a (.lst xs) ∨
    ∃ (o : Obj) (its : Array Value) (n : Nat), K.lookup a = some o ∧ o.cls = .type "list" ∧ o.dict = none ∧ o.data = .seq its n ∧ its.size ≤ sizeLine ∧ Vals xs its.toList
def SqT (K : PySem.W.Frag) (H : Hp) (a : Addr) (xs : List V) : Prop :=
  Rd H a (.tup xs) ∨
    ∃ (o : Obj) (its : Array Value) (n : Nat), K.lookup a = some o ∧ o.cls = .type "tuple" ∧ o.data = .seq its n ∧ its.size ≤ sizeLine ∧ Vals xs its.toList
def absV : Value → Option V
  | .none => some .non
  | .bool b => some (.bl b)
  | .int i _ => some (.int i)
  | .str x _ => some (.str x)
  | .bytes b _ => some (.byt b)
  | .float b _ => some (.flt b)
  | .ref a => some (.ref a)
  | .type n => some (.ty n)
  | _ => none
theorem RelV.abs {x : V} {u : Value} (r : RelV x u) : absV u = some x := by
  cases x with
  | non => cases r; rfl
  | bl _ => cases r; rfl
  | int _ => obtain ⟨t, rfl⟩ := r; rfl
  | str _ => obtain ⟨t, rfl⟩ := r; rfl
  | byt _ => obtain ⟨t, rfl⟩ := r; rfl
  | flt _ => obtain ⟨t, rfl⟩ := r; rfl
  | ref _ => cases r; rfl
  | ty _ => cases r; rfl
theorem RelV.inj {x y : V} {u : Value} (r : RelV x u) (q : RelV y u) : x = y := Option.some.inj (r.abs.symm.trans q.abs)
theorem Vals.inj : ∀ {xs ys : List V} {us : List Value}, Vals xs us → Vals ys us → xs = ys
  | _, _, _, .nil, .nil => rfl
  | _, _, _, .cons r t, .cons r' t' => by rw [r.inj r', Vals.inj t t']
section
variable {X : Cx} {pins : List (Addr × Obj)} {σ : St} {H : Hp} {s : Shared} {a : Addr} {xs ys : List V}
theorem SqL.of {K : PySem.W.Frag} (h : H a = some (.lst xs)) : SqL K H a xs := .inl (.inl h)
theorem SqT.of {K : PySem.W.Frag} (h : H a = some (.tup xs)) : SqT K H a xs := .inl (.inl h)
theorem Inv.list (I : Inv X pins σ H s) (h : SqL X.K H a xs) : ∃ its : List Value, Vals xs its ∧ PlainL s.heap a its.toArray ∧ xs.length ≤ sizeLine := by
  rcases h with h | ⟨o, its, n, hk, hc, hd, hs, hz, r⟩
  · obtain ⟨z, its, n, r, e⟩ := h.ok I.hok
    exact ⟨its, r, ⟨_, n, e, rfl, rfl, rfl⟩, z⟩
  · refine ⟨its.toList, r, ⟨o, n, I.kIn a o hk, hc, hd, by simpa using hs⟩, ?_⟩
    have e := r.length
    simp only [Array.length_toList] at e
    omega
theorem Inv.tuple (I : Inv X pins σ H s) (h : SqT X.K H a xs) : ∃ its : List Value, Vals xs its ∧ IsTup s.heap a its.toArray ∧ xs.length ≤ sizeLine := by
  rcases h with h | ⟨o, its, n, hk, hc, hs, hz, r⟩
  · obtain ⟨z, its, r, p⟩ := h.ok I.hok
    exact ⟨its, r, p, z⟩
  · refine ⟨its.toList, r, ⟨o, I.kIn a o hk, hc, n, by simpa using hs⟩, ?_⟩
    have e := r.length
    simp only [Array.length_toList] at e
    omega
theorem Inv.list_inj (I : Inv X pins σ H s) (h : SqL X.K H a xs) (h' : SqL X.K H a ys) : xs = ys := by
  obtain ⟨its, r, ⟨o, n, e, _, _, d⟩, _⟩ := I.list h
  obtain ⟨its', r', ⟨o', n', e', _, _, d'⟩, _⟩ := I.list h'
  rw [e] at e'; cases e'
  rw [d] at d'
  injection d' with d1 _
  have : its = its' := by simpa using congrArg Array.toList d1
  subst this
  exact r.inj r'
end

/-! ### another wish about exceptions -/
abbrev Cx.wish (X : Cx) (E : Value → Shared → Prop) : Cx := { X with xe := E }
/-- no exception leaves -/
abbrev Cx.nox (X : Cx) : Cx := X.wish fun _ _ => False
theorem Cx.Ok.wish {X : Cx} (ok : X.Ok) (E : Value → Shared → Prop) : (X.wish E).Ok :=
  ⟨ok.mod, ok.kind, ok.glob, ok.blt, ok.above, ok.inj, ok.has, ok.cab, ok.hd, ok.frames, ok.stk, ok.exf, ok.bs, ok.bsz, ok.noex, ok.exfs, ok.funs, ok.frf⟩
theorem Cx.Ok.unwish {X : Cx} {E : Value → Shared → Prop} (ok : (X.wish E).Ok) : X.Ok :=
  ⟨ok.mod, ok.kind, ok.glob, ok.blt, ok.above, ok.inj, ok.has, ok.cab, ok.hd, ok.frames, ok.stk, ok.exf, ok.bs, ok.bsz, ok.noex, ok.exfs, ok.funs, ok.frf⟩
section
variable {X : Cx} {pins : List (Addr × Obj)} {σ : St} {H : Hp} {s : Shared} {E : Value → Shared → Prop}
theorem Inv.wish (I : Inv X pins σ H s) (E : Value → Shared → Prop) : Inv (X.wish E) pins σ H s := ⟨I.ok.wish E, I.os, I.bare, I.base, I.loc, I.cell, I.free, I.freeC, I.pin, I.hok, I.len⟩
theorem Inv.unwish (I : Inv (X.wish E) pins σ H s) : Inv X pins σ H s := ⟨I.ok.unwish, I.os, I.bare, I.base, I.loc, I.cell, I.free, I.freeC, I.pin, I.hok, I.len⟩
theorem SP.unwish {D : Ends} {f : Flow} {s' : Shared} (h : SP (X.wish E) pins D f s') : SP X pins D f s' := by
  cases f with
  | next => obtain ⟨σ', H', I, q⟩ := h; exact ⟨σ', H', I.unwish, q⟩
  | brk => obtain ⟨σ', H', I, q⟩ := h; exact ⟨σ', H', I.unwish, q⟩
  | cont => obtain ⟨σ', H', I, q⟩ := h; exact ⟨σ', H', I.unwish, q⟩
  | ret u => obtain ⟨v, σ', H', I, r, q⟩ := h; exact ⟨v, σ', H', I.unwish, r, q⟩
theorem PSs.nox {st : List Stmt} {t : TS} (h : PSs X.nox st t) : PSs X st t := fun pins s σ H D I hw =>
  wpAny_mono (h pins s σ H D (I.wish _) hw) (fun _ _ q => q.unwish) fun _ _ z => False.elim z
end

/-! ### blocks and small statements -/
section
variable {X : Cx} {st : Stmt} {rest : List Stmt} {t u : TS} {e : Expr} {te : TE} {pos : Pos}
def tNext : TS := fun D σ H => D.nx σ H
def tSeq (t u : TS) : TS := fun D σ H => t { D with nx := u D } σ H
theorem pss_nil : PSs X [] tNext := fun _ _ σ H _ I h => wpAny_execs_nil ⟨σ, H, I, h⟩
theorem pss_cons (h1 : PS X st t) (h2 : PSs X rest u) : PSs X (st :: rest) (tSeq t u) := by
  intro pins s σ H D I h
  refine wpAny_execs_cons (thn (h1 pins s σ H { D with nx := u D } I h) fun f s1 q => ?_)
  cases f with
  | next =>
    obtain ⟨σ', H', I', q⟩ := q
    exact h2 pins s1 σ' H' D I' q
  | ret v => exact q
  | brk => exact q
  | cont => exact q
theorem pss_one (h1 : PS X st t) : PSs X [st] t := by
  intro pins s σ H D I h
  refine wpAny_execs_cons (thn (h1 pins s σ H D I h) fun f s1 q => ?_)
  cases f with
  | next => exact wpAny_execs_nil q
  | ret v => exact q
  | brk => exact q
  | cont => exact q
/-- in a def's body nothing is shown -/
theorem Inv.quiet {pins : List (Addr × Obj)} {σ : St} {H : Hp} {s : Shared} (I : Inv X pins σ H s) : interactive X.env = false := by simp [interactive, I.ok.kind]
/-- an expression whose value is dropped -/
def tDrop (te : TE) : TS := fun D σ H => te σ H fun _ H1 => D.nx σ H1
theorem ps_expr (he : PE X e te) (hs : swapsWith e none pos.line X.env = pure false := by rfl) : PS X (.Expr e pos) (tDrop te) := by
  intro pins s σ H D I h
  exact wpAny_Expr_any (thn (he pins s σ H _ I h) fun v s1 ⟨x, H1, I1, r1, q1⟩ => ⟨σ, H1, I1, q1⟩) I.quiet hs
def tRet (te : TE) : TS := fun D σ H => te σ H D.rt
theorem ps_ret (he : PE X e te) : PS X (.Return (some e) pos) (tRet te) := by
  intro pins s σ H D I h
  exact wpAny_Return_some (thn (he pins s σ H _ I h) fun v s1 ⟨x, H1, I1, r1, q1⟩ => ⟨x, σ, H1, I1, r1, q1⟩)
def tIfS (c : TT) (t u : TS) : TS := fun D σ H => c σ H fun b H1 => if b = true then t D σ H1 else u D σ H1
theorem ps_if {c : Expr} {a b : List Stmt} {tc : TT} (hc : PT X c tc) (ha : PSs X a t) (hb : PSs X b u) : PS X (.If c a b pos) (tIfS tc t u) := by
  intro pins s σ H D I h
  refine wpAny_If (thn (hc pins s σ H _ I h) fun d s1 ⟨H1, I1, q1⟩ => ?_)
  cases d with
  | true => exact ha pins s1 σ H1 D I1 q1
  | false => exact hb pins s1 σ H1 D I1 q1
/-- code that the proof never comes to -/
def tNever : TS := fun _ _ _ => False
theorem ps_never : PS X st tNever := fun _ _ _ _ _ _ h => h.elim
end

/-! ### targets -/
abbrev TG := V → St → Hp → (St → Hp → Prop) → Prop
abbrev TGs := List V → St → Hp → (St → Hp → Prop) → Prop
def PG (X : Cx) (target : Expr) (t : TG) : Prop :=
  ∀ (pins : List (Addr × Obj)) (s : Shared) (σ : St) (H : Hp) (v : V) (u : Value) (Q : St → Hp → Prop), Inv X pins σ H s → RelV v u → t v σ H Q →
    wpAny (model X.prog X.w) X.A (assign target X.env u) (fun _ s' => ∃ σ' H', Inv X pins σ' H' s' ∧ Q σ' H') X.xe s
/-- several targets, one after another -/
def PGs (X : Cx) (ts : List Expr) (t : TGs) : Prop :=
  ∀ (pins : List (Addr × Obj)) (s : Shared) (σ : St) (H : Hp) (vs : List V) (us : List Value) (Q : St → Hp → Prop), Inv X pins σ H s → Vals vs us → t vs σ H Q →
    wpAny (model X.prog X.w) X.A (assignInOrder ((assignEach ts X.env).map (·.2)) us) (fun _ s' => ∃ σ' H', Inv X pins σ' H' s' ∧ Q σ' H') X.xe s
/-- o[i] = v, by values -/
abbrev TSet := V → V → V → Hp → (Hp → Prop) → Prop
def PSet (X : Cx) (t : TSet) : Prop :=
  ∀ (pins : List (Addr × Obj)) (s : Shared) (σ : St) (H : Hp) (o i v : V) (ov iv u : Value) (Q : Hp → Prop), Inv X pins σ H s → RelV o ov → RelV i iv → RelV v u → t o i v H Q →
    wpAny (model X.prog X.w) X.A (setItem ov iv u) (fun _ s' => ∃ H', Inv X pins σ H' s' ∧ Q H') X.xe s
/-- a op= b, by values -/
abbrev TIp := V → V → Hp → VK → Prop
def PIp (X : Cx) (op : Operator) (t : TIp) : Prop :=
  ∀ (pins : List (Addr × Obj)) (s : Shared) (σ : St) (H : Hp) (x y : V) (v u : Value) (Q : VK), Inv X pins σ H s → RelV x v → RelV y u → t x y H Q →
    wpAny (model X.prog X.w) X.A (inplaceOp op v u) (EP X pins σ Q) X.xe s
section
variable {X : Cx} {pos : Pos}
def gName (i : Nat) : TG := fun v σ H Q => Q (σ.set i (some v)) H
theorem pg_name {i : Nat} {x : Str} (hN : X.N.Nodup) (hi : X.N[i]? = some x) (hx : Loc X.env.scope x) (hf : X.fn x = true ∨ X.env.scope.names.lookup x = some .local := by first | exact .inl rfl | exact .inr rfl | assumption) : PG X (.Name x pos) (gName i) := by
  intro pins s σ H v u Q I r h
  exact wpAny_assign_Name (store_ok I hN hi hx r (fun s' I' => ⟨_, H, I', h⟩) hf)
def gNil : TGs := fun vs σ H Q => vs = [] ∧ Q σ H
def gCons (t : TG) (u : TGs) : TGs := fun vs σ H Q => ∃ v r, vs = v :: r ∧ t v σ H fun σ' H' => u r σ' H' Q
theorem pgs_nil : PGs X [] gNil := by
  intro pins s σ H vs us Q I r h
  obtain ⟨e, h⟩ := h
  subst e
  cases r
  exact assignInOrder_nil ⟨σ, H, I, h⟩
theorem pgs_cons {e : Expr} {es : List Expr} {t : TG} {u : TGs} (h1 : PG X e t) (h2 : PGs X es u)
    (hs : (assignEach (e :: es) X.env).map (·.2) = assign e X.env :: (assignEach es X.env).map (·.2) := by rfl) : PGs X (e :: es) (gCons t u) := by
  intro pins s σ H vs us Q I r h
  obtain ⟨v, vr, e1, h⟩ := h
  subst e1
  cases r with
  | cons r rr =>
    rw [hs]
    refine assignInOrder_cons (thn (h1 pins s σ H _ _ _ I r h) fun _ s1 ⟨σ1, H1, I1, q1⟩ => ?_)
    exact h2 pins s1 σ1 H1 _ _ Q I1 rr q1
/-- (a, b, ..) = a tuple of that length -/
def gTup (K : PySem.W.Frag) (n : Nat) (t : TGs) : TG := fun v σ H Q => ∃ a xs, v = .ref a ∧ SqT K H a xs ∧ xs.length = n ∧ t xs σ H Q
theorem pg_tup {es : List Expr} {k : Nat} {t : TGs} {n : Nat} (hc : X.calm = true) (h : PGs X es t)
    (hn : (assignEach es X.env).length = n := by rfl) (hst : (assignEach es X.env).findIdx? (·.1) = none := by rfl) : PG X (.Tuple es k pos) (gTup X.K n t) := by
  intro pins s σ H v u Q I r hw
  obtain ⟨a, xs, e1, hq, hl, hw⟩ := hw
  subst e1
  cases r
  obtain ⟨its, rv, ht, hz⟩ := I.tuple hq
  refine assign_Tuple_tuple (I.ok.hd hc) ht (by simp [hn, ← hl, rv.length]) hst fun h' hx => ?_
  have I1 : Inv X pins σ H { s with heap := h' } := I.kept (t' := s.toks) fun b o e => hx b o (Nat.ne_of_lt (Heap.lt_size e)) e
  exact h pins _ σ H xs _ Q I1 (by simpa using rv) hw
/-- o[i] = .. -/
def gSub (to ti : TE) (t : TSet) : TG := fun v σ H Q => to σ H fun o H1 => ti σ H1 fun i H2 => t o i v H2 fun H3 => Q σ H3
theorem pg_sub {o i : Expr} {to ti : TE} {t : TSet} (ho : PE X o to) (hi : PE X i ti) (hs : PSet X t)
    (ha : ∀ v, assign (.Subscript o i pos) X.env v = (do
      let ov ← holding [v] (eval o X.env)
      let iv ← holding [v, ov] (eval i X.env)
      standAt pos
      holding [v, ov, iv] (setItem ov iv v)
      release [v, ov, iv] []) := by intro _; rfl) : PG X (.Subscript o i pos) (gSub to ti t) := by
  intro pins s σ H v u Q I r h
  rw [ha]
  refine wpAny_bind (wpAny_holding (thn (ho pins s σ H _ I h) fun ov s1 ⟨x, H1, I1, r1, q1⟩ => ?_))
  refine wpAny_bind (wpAny_holding (thn (hi pins s1 σ H1 _ I1 q1) fun iv s2 ⟨y, H2, I2, r2, q2⟩ => ?_))
  refine wpAny_bind (wpAny_standAt (wpAny_bind (wpAny_holding (thn (hs pins s2 σ H2 x y v ov iv u _ I2 r1 r2 r q2) fun _ s3 ⟨H3, I3, q3⟩ => ?_))))
  exact wpAny_release ⟨σ, H3, I3, q3⟩
/-- target = value -/
def tAsg (te : TE) (g : TG) : TS := fun D σ H => te σ H fun x H1 => g x σ H1 D.nx
theorem ps_asg {tg e : Expr} {te : TE} {g : TG} (he : PE X e te) (hg : PG X tg g) (hs : swapsWithSole [tg] e pos.line X.env = pure false := by rfl) (hw : swappedStores [tg] e X.env = pure none := by rfl)
    (h1 : (assignEach [tg] X.env).map (·.2) = [assign tg X.env] := by rfl) : PS X (.Assign [tg] e pos) (tAsg te g) := by
  intro pins s σ H D I h
  refine wpAny_Assign_stores (thn (he pins s σ H _ I h) fun v s1 ⟨x, H1, I1, r1, q1⟩ => ?_) hs hw
  rw [h1]
  exact thn (hg pins s1 σ H1 x v _ I1 r1 q1) fun _ s2 q => q
/-- name = value -/
theorem ps_set {i : Nat} {x : Str} {e : Expr} {te : TE} {pos' : Pos} (hN : X.N.Nodup) (hi : X.N[i]? = some x) (hx : Loc X.env.scope x) (he : PE X e te) (hs : swapsWith e (some (.Name x pos')) pos.line X.env = pure false := by rfl) (hf : X.fn x = true ∨ X.env.scope.names.lookup x = some .local := by first | exact .inl rfl | exact .inr rfl | assumption) :
    PS X (.Assign [.Name x pos'] e pos) (tAsg te (gName i)) := by
  intro pins s σ H D I h
  refine wpAny_Assign_Name (thn (he pins s σ H _ I h) fun v s1 ⟨y, H1, I1, r1, q1⟩ => ?_) hs
  exact store_ok I1 hN hi hx r1 (fun s2 I2 => ⟨_, H1, I2, q1⟩) hf
/-- name op= e -/
def tAug (i : Nat) (te : TE) (ti : TIp) : TS := fun D σ H => ∃ x, σ[i]? = some (some x) ∧ te σ H fun y H1 => ti x y H1 fun z H2 => D.nx (σ.set i (some z)) H2
theorem ps_aug {i : Nat} {x : Str} {e : Expr} {te : TE} {op : Operator} {ti : TIp} {pos' : Pos} (hN : X.N.Nodup) (hi : X.N[i]? = some x) (hx : Loc X.env.scope x) (he : PE X e te) (ho : PIp X op ti) (hf : X.fn x = true ∨ X.env.scope.names.lookup x = some .local := by first | exact .inl rfl | exact .inr rfl | assumption) :
    PS X (.AugAssign (.Name x pos') op e pos) (tAug i te ti) := by
  intro pins s σ H D I h
  obtain ⟨v, e1, h⟩ := h
  obtain ⟨m, hn, hl⟩ := I.loc
  have vis : Vis X.env.scope x := by rcases hx with k | k; exact .inl k; exact .inr (.inl k)
  obtain ⟨u, r, l⟩ := hl i x v hi e1 vis
  refine wpAny_AugAssign_Name ?_
  have go : wpAny (model X.prog X.w) X.A (eval e X.env) (fun w s₂ => wpAny (model X.prog X.w) X.A (inplaceOp op u w) (fun r s₃ => wpAny (model X.prog X.w) X.A (storeName X.env x r) (fun _ => SP X pins D .next) X.xe s₃) X.xe s₂) X.xe s := by
    refine thn (he pins s σ H _ I h) fun w s1 ⟨y, H1, I1, r1, q1⟩ => ?_
    refine thn (ho pins s1 σ H1 v y u w _ I1 r r1 q1) fun z s2 ⟨zv, H2, I2, r2, q2⟩ => ?_
    exact store_ok I2 hN hi hx r2 (fun s3 I3 => ⟨_, H2, I3, q2⟩) hf
  rcases l with ⟨hk, hm⟩ | ⟨hk, c, hc, hcell⟩
  · exact wpAny_loadName_local I.ok.kind hk hn hm go
  · rcases hk with hk | hk
    · exact wpAny_loadName_cell I.ok.kind hk hc hcell go
    · rcases hx with k | k
      · have : X.env.scope.names.lookup x = some .free := hk
        rw [k] at this; cases this
      · have : X.env.scope.names.lookup x = some .free := hk
        rw [k] at this; cases this
/-- o[i] op= e -/
def tAugS (to ti te : TE) (tget : V → V → Hp → VK → Prop) (tip : TIp) (tset : TSet) : TS := fun D σ H => to σ H fun o H1 => ti σ H1 fun i H2 => tget o i H2 fun x H3 => te σ H3 fun y H4 => tip x y H4 fun z H5 => tset o i z H5 fun H6 => D.nx σ H6
/-- o[i], by values -/
def PGet (X : Cx) (t : V → V → Hp → VK → Prop) : Prop :=
  ∀ (pins : List (Addr × Obj)) (s : Shared) (σ : St) (H : Hp) (o i : V) (ov iv : Value) (Q : VK), Inv X pins σ H s → RelV o ov → RelV i iv → t o i H Q →
    wpAny (model X.prog X.w) X.A (getItem ov iv) (EP X pins σ Q) X.xe s
theorem ps_augS {o i e : Expr} {to ti te : TE} {tget : V → V → Hp → VK → Prop} {tip : TIp} {tset : TSet} {op : Operator} {tpos : Pos} (ho : PE X o to) (hi : PE X i ti) (hg : PGet X tget) (he : PE X e te) (hp : PIp X op tip) (hs : PSet X tset)
    (ha : ∀ ov iv new, augStore i ov iv new = (do holding [new, ov, iv] (setItem ov iv new); release [new, ov, iv] []; pure .next) := by intros; rfl) : PS X (.AugAssign (.Subscript o i tpos) op e pos) (tAugS to ti te tget tip tset) := by
  intro pins s σ H D I h
  refine wpAny_AugAssign_SubscriptAny (thn (ho pins s σ H _ I h) fun ov s1 ⟨x1, H1, I1, r1, q1⟩ => ?_) ha
  refine thn (hi pins s1 σ H1 _ I1 q1) fun iv s2 ⟨x2, H2, I2, r2, q2⟩ => ?_
  refine thn (hg pins s2 σ H2 x1 x2 ov iv _ I2 r1 r2 q2) fun old s3 ⟨x3, H3, I3, r3, q3⟩ => ?_
  refine thn (he pins s3 σ H3 _ I3 q3) fun v s4 ⟨x4, H4, I4, r4, q4⟩ => ?_
  refine thn (hp pins s4 σ H4 x3 x4 old v _ I4 r3 r4 q4) fun new s5 ⟨x5, H5, I5, r5, q5⟩ => ?_
  exact thn (hs pins s5 σ H5 x1 x2 x5 ov iv new _ I5 r1 r2 r5 q5) fun _ s6 ⟨H6, I6, q6⟩ => ⟨σ, H6, I6, q6⟩
/-- ints -/
def ipI (f : Int → Int → Int) : TIp := fun x y H Q => ∃ i j, x = .int i ∧ y = .int j ∧ Q (.int (f i j)) H
theorem ip_add : PIp X .Add (ipI fun i j => i + j) := by
  intro pins s σ H x y v u Q I r1 r2 h
  obtain ⟨i, j, e1, e2, q⟩ := h
  subst e1; subst e2
  obtain ⟨t, rfl⟩ := r1
  obtain ⟨t', rfl⟩ := r2
  exact iadd_int ⟨.int _, H, I.tok _, ⟨_, rfl⟩, q⟩
end

/-! ### while -/
section
variable {X : Cx} {pos : Pos}
/-- the invariant W with its measure -/
def tWhile (c : TT) (tb : TS) : TS := fun D σ H => ∃ W : Nat → St → Hp → Prop, (∃ m, W m σ H) ∧ ∀ m σ H, W m σ H →
  c σ H fun b H1 => if b = true then ∃ N : St → Hp → Prop, (∀ σ' H', N σ' H' → ∃ m', m' < m ∧ W m' σ' H') ∧ tb { D with nx := N, ct := N, bk := D.nx } σ H1 else D.nx σ H1
theorem ps_while {c : Expr} {body : List Stmt} {tc : TT} {tb : TS} (hp : PassesOwn (model X.prog X.w) X.A X.env X.xe) (hc : PT X c tc) (hb : PSs X body tb) : PS X (.While c body [] pos) (tWhile tc tb) := by
  intro pins s σ H D I h
  obtain ⟨W, ⟨m0, w0⟩, turn⟩ := h
  refine wpAny_While (codeAny_whileLoop (fun n s' => ∃ σ' H', Inv X pins σ' H' s' ∧ W n σ' H') ?_ m0 ⟨σ, H, I, w0⟩)
  rintro n s1 ⟨σ1, H1, I1, w1⟩
  refine wpAny_passesOwn hp (thn (hc pins s1 σ1 H1 _ I1 (turn n σ1 H1 w1)) fun b s2 ⟨H2, I2, q2⟩ => ?_)
  cases b with
  | true =>
    obtain ⟨N, hN, q2⟩ := q2
    rw [if_pos rfl]
    refine wpAny_passesOwn hp (thn (hb pins s2 σ1 H2 _ I2 q2) fun f s3 q3 => ?_)
    cases f with
    | next =>
      obtain ⟨σ3, H3, I3, n3⟩ := q3
      obtain ⟨m', hm, w3⟩ := hN σ3 H3 n3
      exact ⟨m', hm, σ3, H3, I3, w3⟩
    | cont =>
      obtain ⟨σ3, H3, I3, n3⟩ := q3
      obtain ⟨m', hm, w3⟩ := hN σ3 H3 n3
      exact ⟨m', hm, σ3, H3, I3, w3⟩
    | brk => exact q3
    | ret v => exact q3
  | false =>
    rw [if_neg Bool.false_ne_true]
    exact wpAny_execs_nil ⟨σ1, H2, I2, q2⟩
end

/-! ### what a loop or a comprehension walks -/
/-- at turn i: it yields x (the heap may grow), or it stops -/
structure It where
  go : Nat → Hp → Prop
  yld : Nat → Hp → V → Hp → Prop
  stop : Nat → Hp → Prop
/-- the iterator's own objects may turn: they are not the frame's, not pinned, younger than the entry (or a comprehension's own) -/
def FpOk (X : Cx) (pins : List (Addr × Obj)) (H : Hp) (b : Addr) : Prop :=
  H b = none ∧ b ≠ X.env.locals ∧ b ∉ X.fs ∧ (b ∈ X.ex ∨ X.s₀.heap.objs.size ≤ b) ∧ (∀ x c, X.env.cells.lookup x = some c → c ≠ b) ∧ ∀ p ∈ X.pn ++ pins, p.1 ≠ b
theorem Inv.fpOk {X : Cx} {pins : List (Addr × Obj)} {σ : St} {H H' : Hp} {s : Shared} {b : Addr} (I : Inv X pins σ H s) (hb : s.heap.objs.size ≤ b) (hn : H' b = none) : FpOk X pins H' b := by
  refine ⟨hn, Nat.ne_of_gt (Nat.lt_of_lt_of_le I.lt hb), I.nofs hb, .inr (Nat.le_trans I.sz hb), fun x c e z => ?_, fun p hp z => ?_⟩
  · obtain ⟨v, q⟩ := I.cell x c e
    exact absurd (Nat.lt_of_lt_of_le q.lt (by rw [z]; exact hb)) (Nat.lt_irrefl _)
  · exact absurd (Nat.lt_of_lt_of_le (Heap.lt_size (I.pin p hp).1) (by rw [z]; exact hb)) (Nat.lt_irrefl _)
structure Turn (P : Program) (w : World) (K : PySem.W.Frag) (tg : Expr) (J : It) (fp : List Addr) (it : Addr) (tn : Nat → Heap → Prop) : Prop where
  mem : it ∈ fp
  obj : ∀ i h, tn i h → ∀ b ∈ fp, ∃ o, h.get? b = some o ∧ ∀ v, o.data ≠ .cell v
  keep : ∀ i h h', tn i h → (∀ b ∈ fp, ∀ o, h.get? b = some o → h'.get? b = some o) → tn i h'
  item : ∀ (X : Cx), X.prog = P → X.w = w → X.K = K → X.calm = true → ∀ (i : Nat) (pins : List (Addr × Obj)) (s : Shared) (σ : St) (H : Hp) (E : Value → Shared → Prop), Inv X pins σ H s → (∀ b ∈ fp, FpOk X pins H b) → tn i s.heap → J.go i H →
    wpAny (model P w) X.A (pyNext (.ref it)) (fun r s1 => ∃ u, r = some u ∧
      wpAny (model P w) X.A (letOwnedTupleGo tg (.ref it) u) (fun _ s2 => ∃ x H', Inv X pins σ H' s2 ∧ RelV x u ∧ J.yld i H x H' ∧ tn (i + 1) s2.heap ∧ ∀ b ∈ fp, H' b = none) E s1) E s
  done : ∀ (X : Cx), X.prog = P → X.w = w → X.K = K → X.calm = true → ∀ (i : Nat) (pins : List (Addr × Obj)) (s : Shared) (σ : St) (H : Hp) (E : Value → Shared → Prop), Inv X pins σ H s → (∀ b ∈ fp, FpOk X pins H b) → tn i s.heap → J.stop i H →
    wpAny (model P w) X.A (pyNext (.ref it)) (fun r s1 => r = none ∧ Inv X pins σ H s1) E s
  self : ∀ (A : Around) (i : Nat) (s : Shared) (Q : Value → Shared → Prop) (E : Value → Shared → Prop), tn i s.heap → Q (.ref it) s → wpAny (model P w) A (pyIter (.ref it)) Q E s
abbrev TI := St → Hp → (It → Hp → Prop) → Prop
/-- an iterator has come -/
def PIE (X : Cx) (pins : List (Addr × Obj)) (σ : St) (tg : Expr) (R : It → Hp → Prop) (itv : Value) (s2 : Shared) : Prop :=
  ∃ (it : Addr) (fp : List Addr) (tn : Nat → Heap → Prop) (J : It) (H' : Hp), itv = .ref it ∧ Inv X pins σ H' s2 ∧ Turn X.prog X.w X.K tg J fp it tn ∧ tn 0 s2.heap ∧ (∀ b ∈ fp, FpOk X pins H' b) ∧ R J H'
def PI (X : Cx) (tg iter : Expr) (wi : TI) : Prop :=
  ∀ (pins : List (Addr × Obj)) (s : Shared) (σ : St) (H : Hp) (R : It → Hp → Prop), Inv X pins σ H s → wi σ H R →
    wpAny (model X.prog X.w) X.A (eval iter X.env) (fun v s1 => wpAny (model X.prog X.w) X.A (pyIter v) (PIE X pins σ tg R) X.xe s1) X.xe s

/-- the step ahead of the store is nothing for an iterator that keeps no tuple -/
theorem go_of {M : Model} {A : Around} {E : Value → Shared → Prop} {s : Shared} {tg : Expr} {it : Addr} {u : Value} {o : Obj} {n : String} {vs : Array Value} {Q : Unit → Shared → Prop} (ho : s.heap.get? it = some o) (hc : o.cls = .type n) (hd : o.data = .fields vs)
    (hn : ["enumerate", "zip", "dict_itemiterator", "dict_reverseitemiterator", "odict_iterator", "itertools.zip_longest", "itertools.pairwise"].contains n = false) (hQ : Q () s) : wpAny M A (letOwnedTupleGo tg (.ref it) u) Q E s := by
  unfold letOwnedTupleGo
  cases tg <;> first
    | exact wpAny_pure hQ
    | (cases u <;> first
        | exact wpAny_pure hQ
        | (refine wpAny_bind (wpAny_load ho ?_)
           rw [hc, hd]
           show wpAny M A (if (["enumerate", "zip", "dict_itemiterator", "dict_reverseitemiterator", "odict_iterator", "itertools.zip_longest", "itertools.pairwise"].contains n && vs[0]? == some (rawInt _)) = true then _ else _) Q E s
           rw [if_neg (by intro h; rw [hn, Bool.false_and] at h; cases h)]
           exact wpAny_pure hQ))

/-- the list at a, as it stands at each turn (a loop may append to it) -/
def Itl (K : PySem.W.Frag) (a : Addr) : It :=
  ⟨fun i H => ∃ xs x, SqL K H a xs ∧ xs[i]? = some x, fun i H x H' => H' = H ∧ ∀ xs, SqL K H a xs → xs[i]? = some x, fun i H => ∃ xs, SqL K H a xs ∧ xs.length ≤ i⟩
/-- lo, lo + 1, .. (n of them) -/
def Itr (lo : Int) (n : Nat) : It := ⟨fun i _ => i < n, fun i H x H' => H' = H ∧ x = .int (lo + i), fun i _ => n ≤ i⟩
theorem turn_list {P : Program} {w : World} {K : PySem.W.Frag} {tg : Expr} (a it : Addr) : Turn P w K tg (Itl K a) [it] it (fun i h => h.IsListIter it a i) where
  mem := by simp
  obj := fun i h st b hb => by
    have e : b = it := by simpa using hb
    subst e
    obtain ⟨o, e, c, d⟩ := st
    exact ⟨o, e, fun v z => by rw [d] at z; cases z⟩
  keep := fun i h h' st k => st.at fun o e => k it (by simp) o e
  item := by
    intro X hP hw hK hc i pins s σ H E I hf st hg
    subst hP hw hK
    obtain ⟨xs, x, hq, hx⟩ := hg
    obtain ⟨its, rv, p, hz⟩ := I.list hq
    obtain ⟨u, hu, ru⟩ := rv.get hx
    obtain ⟨f0, f1, f2, f3, f4, f5⟩ := hf it (by simp)
    refine wpAny_pyNext_list_item st p.isList (x := u) (by simpa using hu) fun h' st' sb => ?_
    have I1 : Inv X pins σ H { s with heap := h' } := I.turned (t' := s.toks) (fun b o hb e => (sb.2 b hb).trans e) f0 f1 f3 f4 f5
    obtain ⟨o, e, c, d⟩ := id st'
    exact ⟨u, rfl, go_of (s := { s with heap := h' }) e c d (by decide) ⟨x, H, I1, ru, ⟨rfl, fun ys hy => by rw [I.list_inj hy hq]; exact hx⟩, st', fun b hb => (hf b hb).1⟩⟩
  done := by
    intro X hP hw hK hc i pins s σ H E I hf st hg
    subst hP hw hK
    obtain ⟨xs, hq, hx⟩ := hg
    obtain ⟨its, rv, p, hz⟩ := I.list hq
    obtain ⟨f0, f1, f2, f3, f4, f5⟩ := hf it (by simp)
    have hl := rv.length
    exact wpAny_pyNext_list_end (I.ok.hd hc) st p.isList (by simp; omega) fun h' eb => ⟨rfl, I.turned (t' := s.toks) (fun b o hb e => eb b o hb e) f0 f1 f3 f4 f5⟩
  self := fun _ _ _ _ _ st h => wpAny_pyIter_listiter st h
theorem turn_range {P : Program} {w : World} {K : PySem.W.Frag} {tg : Expr} (it : Addr) (lo : Int) (n : Nat) : Turn P w K tg (Itr lo n) [it] it (fun i h => IsRangeIter h it (lo + (i : Nat) * 1) ((n : Int) - (i : Nat)) 1) where
  mem := by simp
  obj := fun i h st b hb => by
    have e : b = it := by simpa using hb
    subst e
    exact ⟨_, st, fun v z => by
      have z' : Data.fields _ = Data.cell v := z
      cases z'⟩
  keep := fun i h h' st k => k it (by simp) _ st
  item := by
    intro X hP hw hK hc i pins s σ H E I hf st hg
    subst hP hw hK
    obtain ⟨f0, f1, f2, f3, f4, f5⟩ := hf it (by simp)
    have W := Walks.range (prog := X.prog) (w := X.w) (I.ok.hd hc) it lo 1 n
    refine W.item i s _ _ hg st fun v h' tk hv st' kk => ?_
    obtain ⟨t, rfl⟩ := hv
    have I1 : Inv X pins σ H { s with heap := h', toks := tk } := I.turned (fun b o hb e => kk b o (by simpa using hb) e) f0 f1 f3 f4 f5
    refine ⟨_, rfl, go_of (s := { s with heap := h', toks := tk }) (n := "range_iterator") st' rfl rfl (by decide) ⟨.int (lo + i), H, I1, ⟨t, ?_⟩, ⟨rfl, rfl⟩, st', fun b hb => (hf b hb).1⟩⟩
    rw [Int.mul_one]
  done := by
    intro X hP hw hK hc i pins s σ H E I hf st hg
    subst hP hw hK
    obtain ⟨f0, f1, f2, f3, f4, f5⟩ := hf it (by simp)
    exact wpAny_pyNext_range_end (I.ok.hd hc) st (by have : n ≤ i := hg; omega) fun h' eb => ⟨rfl, I.turned (t' := s.toks) (fun b o hb e => eb b o hb e) f0 f1 f3 f4 f5⟩
  self := fun _ _ _ _ _ st h => wpAny_pyIter_rangeiter st h
end L2

namespace L2
open PySem PySem.Spec PyProof.Rows
section
variable {X : Cx} {tg : Expr}
def iList (K : PySem.W.Frag) (tl : TE) : TI := fun σ H R => tl σ H fun x H1 => ∃ a, x = .ref a ∧ (∃ xs, SqL K H1 a xs) ∧ R (Itl K a) H1
theorem pi_list {l : Expr} {tl : TE} (hl : PE X l tl) : PI X tg l (iList X.K tl) := by
  intro pins s σ H R I h
  refine thn (hl pins s σ H _ I h) fun v s1 ⟨x, H1, I1, r1, q1⟩ => ?_
  obtain ⟨a, e, ⟨xs, hq⟩, q⟩ := q1
  subst e
  cases r1
  obtain ⟨its, rv, p, hz⟩ := I1.list hq
  refine wpAny_pyIter_list p.isList ?_
  refine ⟨s1.heap.objs.size, [s1.heap.objs.size], _, _, H1, rfl, I1.kept (t' := s1.toks) fun b o e => Heap.get?_push_of_some _ e, turn_list a _, ⟨_, Heap.get?_push_size _ rfl, rfl, rfl⟩, fun b hb => ?_, q⟩
  have e : b = s1.heap.objs.size := by simpa using hb
  subst e
  exact I1.fpOk (Nat.le_refl _) (I1.hok.fresh (Nat.le_refl _))
/-- a range object just made, walked -/
theorem range_it {pins : List (Addr × Obj)} {σ : St} {H : Hp} {s : Shared} {R : It → Hp → Prop} {E : Value → Shared → Prop} {lo hi : Int} {t u v : Tok} {tk : Nat} (I : Inv X pins σ H s) (h1 : -(2 ^ 62) ≤ lo) (h2 : lo < 2 ^ 62) (h3 : -(2 ^ 62) ≤ hi) (h4 : hi < 2 ^ 62)
    (q : R (Itr lo (hi - lo).toNat) H) : wpAny (model X.prog X.w) X.A (pyIter (.ref s.heap.objs.size)) (PIE X pins σ tg R) E { s with heap := s.heap.push { cls := .type "range", data := .fields #[.int lo t, .int hi u, .int 1 v] }, toks := tk } := by
  refine wpAny_pyIter_range (IsRange.new ..) (small_one h1 h2 h3 h4) ?_
  have I1 : Inv X pins σ H { s with heap := s.heap.push { cls := .type "range", data := .fields #[.int lo t, .int hi u, .int 1 v] }, toks := tk } := I.kept fun b o e => Heap.get?_push_of_some _ e
  refine ⟨(s.heap.push { cls := .type "range", data := .fields #[.int lo t, .int hi u, .int 1 v] }).objs.size, [(s.heap.push { cls := .type "range", data := .fields #[.int lo t, .int hi u, .int 1 v] }).objs.size], _, _, H, rfl,
    I1.kept (t' := tk) fun b o e => Heap.get?_push_of_some _ e, turn_range _ lo (hi - lo).toNat, ?_, fun b hb => ?_, q⟩
  · have e1 : lo + ((0 : Nat) : Int) * 1 = lo := by simp
    have e2 : (((hi - lo).toNat : Nat) : Int) - ((0 : Nat) : Int) = Builtin.Range.rangeSize lo hi 1 := by rw [rangeSize_one]; split <;> omega
    show IsRangeIter _ _ (lo + ((0 : Nat) : Int) * 1) ((((hi - lo).toNat : Nat) : Int) - ((0 : Nat) : Int)) 1
    rw [e1, e2]
    exact Heap.get?_push_size _ rfl
  · have e : b = (s.heap.push { cls := .type "range", data := .fields #[.int lo t, .int hi u, .int 1 v] }).objs.size := by simpa using hb
    subst e
    exact I1.fpOk (Nat.le_refl _) (I1.hok.fresh (Nat.le_refl _))
def iRng1 (ta : TA) : TI := fun σ H R => ta σ H fun vs H1 => ∃ j : Int, vs = [.int j] ∧ -(2 ^ 62) ≤ j ∧ j < 2 ^ 62 ∧ R (Itr 0 j.toNat) H1
theorem pi_range1 {a : Expr} {ta : TA} {p pos : Pos} (hg : Gl X "range") (hm : X.mg "range" = none) (ha : PA X [a] ta) (hs : starEach [a] X.env = [(false, eval a X.env)] := by rfl) : PI X tg (.Call (.Name "range" p) [a] [] pos) (iRng1 ta) := by
  intro pins s σ H R I h
  refine Call_ (ld_blt I hg hm boot_range (PyProof.Rows.callWith_type1 (thn (ha pos pins s σ H _ I h) fun us s1 ⟨vs, H1, I1, r1, q1⟩ => ?_) hs rfl))
  obtain ⟨j, e, q1, q2, q⟩ := q1
  subst e
  cases r1 with
  | cons r rr =>
    cases rr
    obtain ⟨t, rfl⟩ := r
    exact call_range_1 (range_it I1 (by omega) (by omega) q1 q2 (by simpa using q))
/-! ### for -/
/-- W: the invariant by the turn and a measure; N: what the body is to reach -/
def tFor (wi : TI) (g : TG) (tb : TS) : TS := fun D σ H => wi σ H fun J H1 => ∃ W : Nat → Nat → St → Hp → Prop, (∃ m, W 0 m σ H1) ∧ ∀ i m σ H, W i m σ H →
  (J.stop i H ∧ D.nx σ H) ∨ (J.go i H ∧ ∃ N : St → Hp → Prop, (∀ σ' H', N σ' H' → ∃ m', m' < m ∧ W (i + 1) m' σ' H') ∧ ∀ x H', J.yld i H x H' → g x σ H' fun σ2 H2 => tb { D with nx := N, ct := N, bk := D.nx } σ2 H2)
/-- the records at fp as they stand -/
def pinsAt (fp : List Addr) (h : Heap) : List (Addr × Obj) := fp.filterMap fun b => (h.get? b).map fun o => (b, o)
theorem mem_pinsAt {fp : List Addr} {h : Heap} {b : Addr} {o : Obj} (hb : b ∈ fp) (e : h.get? b = some o) : (b, o) ∈ pinsAt fp h := List.mem_filterMap.mpr ⟨b, hb, by rw [e]; rfl⟩
theorem of_pinsAt {fp : List Addr} {h : Heap} {p : Addr × Obj} (hp : p ∈ pinsAt fp h) : p.1 ∈ fp ∧ h.get? p.1 = some p.2 := by
  obtain ⟨b, hb, e⟩ := List.mem_filterMap.mp hp
  cases q : h.get? b with
  | none => rw [q] at e; cases e
  | some o =>
    rw [q] at e
    have e' : (b, o) = p := Option.some.inj e
    subst e'
    exact ⟨hb, q⟩
theorem Inv.pinned {pins : List (Addr × Obj)} {σ : St} {H : Hp} {s : Shared} {fp : List Addr} (I : Inv X pins σ H s) (hf : ∀ b ∈ fp, FpOk X pins H b) (ho : ∀ b ∈ fp, ∃ o, s.heap.get? b = some o ∧ ∀ v, o.data ≠ .cell v) : Inv X (pins ++ pinsAt fp s.heap) σ H s :=
  I.pins_of fun p hp => (List.mem_append.mp hp).elim (fun z => I.pin p (List.mem_append_right _ z)) fun z => by
    obtain ⟨hb, e⟩ := of_pinsAt z
    obtain ⟨f0, f1, f2, _⟩ := hf p.1 hb
    obtain ⟨o, e', d⟩ := ho p.1 hb
    rw [e] at e'; cases e'
    exact ⟨e, f0, f1, f2, d⟩
theorem Inv.unpinned {pins pl : List (Addr × Obj)} {σ : St} {H : Hp} {s : Shared} (I : Inv X (pins ++ pl) σ H s) : Inv X pins σ H s := I.pins_of fun p hp => I.pin p (List.mem_append_right _ (List.mem_append_left _ hp))
theorem ps_for {iter : Expr} {body : List Stmt} {wi : TI} {g : TG} {tb : TS} {pos : Pos} (hp : PassesOwn (model X.prog X.w) X.A X.env X.xe) (hc : X.calm = true) (hi : PI X tg iter wi) (hg : PG X tg g) (hb : PSs X body tb)
    (hs : ∀ x, foldedSetIterable iter X.env x = pure x := by intro _; rfl) : PS X (.For tg iter body [] pos) (tFor wi g tb) := by
  intro pins s σ H D I h
  refine wpAny_For (thn (hi pins s σ H _ I h) fun v s1 h1 => thn h1 fun itv s2 h2 => ?_) hs
  obtain ⟨it, fp, tn, J, H2, e, I2, T, st2, f2, W, ⟨m0, w0⟩, turn⟩ := h2
  subst e
  -- what stays true of the iterator's objects through the loop
  have stat : ∀ {H' : Hp}, (∀ b ∈ fp, H' b = none) → ∀ b ∈ fp, FpOk X pins H' b := fun hn b hb => ⟨hn b hb, (f2 b hb).2⟩
  refine codeAny_forLoop_any (fun n s' => ∃ i σ' H', Inv X pins σ' H' s' ∧ tn i s'.heap ∧ (∀ b ∈ fp, H' b = none) ∧ W i n σ' H') ?_ m0 ⟨0, σ, H2, I2, st2, fun b hb => (f2 b hb).1, w0⟩
  rintro n s3 ⟨i, σ3, H3, I3, st3, fr3, w3⟩
  rcases turn i n σ3 H3 w3 with ⟨stop, qn⟩ | ⟨go, N, hN, step⟩
  · refine wpAny_passesOwn hp (thn (T.done X rfl rfl rfl hc i pins s3 σ3 H3 X.xe I3 (stat fr3) st3 stop) fun r s4 ⟨hr, I4⟩ => ?_)
    subst hr
    exact wpAny_execs_nil ⟨σ3, H3, I4, qn⟩
  · refine wpAny_passesOwn hp (thn (T.item X rfl rfl rfl hc i pins s3 σ3 H3 X.xe I3 (stat fr3) st3 go) fun r s4 ⟨u, hr, h4⟩ => ?_)
    subst hr
    refine wpAny_passesOwn hp (thn h4 fun _ s5 ⟨x, H5, I5, r5, y5, st5, fr5⟩ => ?_)
    have I5' := I5.pinned (stat fr5) (T.obj _ _ st5)
    refine wpAny_passesOwn hp (thn (hg _ s5 σ3 H5 x u _ I5' r5 (step x H5 y5)) fun _ s6 ⟨σ6, H6, I6, q6⟩ => ?_)
    refine wpAny_passesOwn hp (thn (hb _ s6 σ6 H6 _ I6 q6) fun f s7 q7 => ?_)
    have again : ∀ {σ7 : St} {H7 : Hp}, Inv X (pins ++ pinsAt fp s5.heap) σ7 H7 s7 → N σ7 H7 → ∃ m, m < n ∧ ∃ i σ' H', Inv X pins σ' H' s7 ∧ tn i s7.heap ∧ (∀ b ∈ fp, H' b = none) ∧ W i m σ' H' := fun {σ7 H7} I7 n7 => by
      obtain ⟨m', hm, w7⟩ := hN σ7 H7 n7
      refine ⟨m', hm, i + 1, σ7, H7, I7.unpinned, T.keep _ _ _ st5 fun b hb o e => (I7.pin (b, o) (List.mem_append_right _ (List.mem_append_right _ (mem_pinsAt hb e)))).1, fun b hb => ?_, w7⟩
      obtain ⟨o, e, d⟩ := T.obj _ _ st5 b hb
      exact (I7.pin (b, o) (List.mem_append_right _ (List.mem_append_right _ (mem_pinsAt hb e)))).2.1
    cases f with
    | next => obtain ⟨σ7, H7, I7, n7⟩ := q7; exact again I7 n7
    | cont => obtain ⟨σ7, H7, I7, n7⟩ := q7; exact again I7 n7
    | brk => obtain ⟨σ7, H7, I7, q7⟩ := q7; exact ⟨σ7, H7, I7.unpinned, q7⟩
    | ret v => obtain ⟨x7, σ7, H7, I7, r7, q7⟩ := q7; exact ⟨x7, σ7, H7, I7.unpinned, r7, q7⟩
end

/-! ### the forms one uses -/
/-- over a list that the body leaves as it is -/
theorem for_list {K : PySem.W.Frag} {a : Addr} {xs : List V} {g : TG} {tb : TS} {D : Ends} {σ : St} {H : Hp} (Pv : Nat → St → Hp → Prop) (h0 : Pv 0 σ H) (hl : ∀ i σ H, i ≤ xs.length → Pv i σ H → SqL K H a xs)
    (hs : ∀ i x σ H, xs[i]? = some x → Pv i σ H → g x σ H fun σ2 H2 => tb { D with nx := Pv (i + 1), ct := Pv (i + 1), bk := D.nx } σ2 H2) (hd : ∀ σ H, Pv xs.length σ H → D.nx σ H) :
    ∃ W : Nat → Nat → St → Hp → Prop, (∃ m, W 0 m σ H) ∧ ∀ i m σ H, W i m σ H →
      ((Itl K a).stop i H ∧ D.nx σ H) ∨ ((Itl K a).go i H ∧ ∃ N : St → Hp → Prop, (∀ σ' H', N σ' H' → ∃ m', m' < m ∧ W (i + 1) m' σ' H') ∧ ∀ x H', (Itl K a).yld i H x H' → g x σ H' fun σ2 H2 => tb { D with nx := N, ct := N, bk := D.nx } σ2 H2) := by
  refine ⟨fun i m σ H => m = xs.length - i ∧ i ≤ xs.length ∧ Pv i σ H, ⟨xs.length, by simp, Nat.zero_le _, h0⟩, ?_⟩
  rintro i m σ H ⟨rfl, hi, p⟩
  have q := hl i σ H hi p
  by_cases hlt : i < xs.length
  · refine .inr ⟨⟨xs, xs[i], q, by simp [hlt]⟩, Pv (i + 1), fun σ' H' p' => ⟨xs.length - (i + 1), by omega, rfl, hlt, p'⟩, fun x H' y => ?_⟩
    obtain ⟨e, y⟩ := y
    subst e
    exact hs i x σ _ (y xs q) p
  · have e : i = xs.length := by omega
    subst e
    exact .inl ⟨⟨xs, q, Nat.le_refl _⟩, hd σ H p⟩
theorem for_range {lo : Int} {n : Nat} {g : TG} {tb : TS} {D : Ends} {σ : St} {H : Hp} (Pv : Nat → St → Hp → Prop) (h0 : Pv 0 σ H)
    (hs : ∀ i σ H, i < n → Pv i σ H → g (.int (lo + i)) σ H fun σ2 H2 => tb { D with nx := Pv (i + 1), ct := Pv (i + 1), bk := D.nx } σ2 H2) (hd : ∀ σ H, Pv n σ H → D.nx σ H) :
    ∃ W : Nat → Nat → St → Hp → Prop, (∃ m, W 0 m σ H) ∧ ∀ i m σ H, W i m σ H →
      ((Itr lo n).stop i H ∧ D.nx σ H) ∨ ((Itr lo n).go i H ∧ ∃ N : St → Hp → Prop, (∀ σ' H', N σ' H' → ∃ m', m' < m ∧ W (i + 1) m' σ' H') ∧ ∀ x H', (Itr lo n).yld i H x H' → g x σ H' fun σ2 H2 => tb { D with nx := N, ct := N, bk := D.nx } σ2 H2) := by
  refine ⟨fun i m σ H => m = n - i ∧ i ≤ n ∧ Pv i σ H, ⟨n, by simp, Nat.zero_le _, h0⟩, ?_⟩
  rintro i m σ H ⟨rfl, hi, p⟩
  by_cases hlt : i < n
  · refine .inr ⟨hlt, Pv (i + 1), fun σ' H' p' => ⟨n - (i + 1), by omega, rfl, hlt, p'⟩, fun x H' y => ?_⟩
    obtain ⟨e, y⟩ := y
    subst e y
    exact hs i σ _ hlt p
  · have e : i = n := by omega
    subst e
    exact .inl ⟨Nat.le_refl _, hd σ H p⟩
/-- while, by a word and a measure of the state -/
theorem while_by {c : TT} {tb : TS} {D : Ends} {σ : St} {H : Hp} (Pv : St → Hp → Prop) (μ : St → Hp → Nat) (h0 : Pv σ H)
    (hs : ∀ σ H, Pv σ H → c σ H fun b H1 => if b = true then tb { D with nx := fun σ' H' => Pv σ' H' ∧ μ σ' H' < μ σ H, ct := fun σ' H' => Pv σ' H' ∧ μ σ' H' < μ σ H, bk := D.nx } σ H1 else D.nx σ H1)
    (mono : ∀ σ H Q Q', (∀ b H1, Q b H1 → Q' b H1) → c σ H Q → c σ H Q') : tWhile c tb D σ H := by
  refine ⟨fun m σ H => m = μ σ H ∧ Pv σ H, ⟨_, rfl, h0⟩, ?_⟩
  rintro m σ H ⟨rfl, p⟩
  refine mono σ H _ _ (fun b H1 q => ?_) (hs σ H p)
  cases b with
  | true => exact ⟨_, fun σ' H' ⟨p', l⟩ => ⟨_, l, rfl, p'⟩, q⟩
  | false => exact q
end L2

namespace L2
open PySem PySem.Spec PyProof.Rows

abbrev R2 := V → V → Hp → VK → Prop
/-- a two-place operation on values: f is binaryOp op, inplaceOp op or compareOp op -/
def OpR (X : Cx) (f : Value → Value → Sem Value) (r : R2) : Prop :=
  ∀ (pins : List (Addr × Obj)) (s : Shared) (σ : St) (H : Hp) (x y : V) (v u : Value) (Q : VK), Inv X pins σ H s → RelV x v → RelV y u → r x y H Q →
    wpAny (model X.prog X.w) X.A (f v u) (EP X pins σ Q) X.xe s
/-- a one-place operation -/
def UnR (X : Cx) (f : Value → Sem Value) (r : V → Hp → VK → Prop) : Prop :=
  ∀ (pins : List (Addr × Obj)) (s : Shared) (σ : St) (H : Hp) (x : V) (v : Value) (Q : VK), Inv X pins σ H s → RelV x v → r x H Q →
    wpAny (model X.prog X.w) X.A (f v) (EP X pins σ Q) X.xe s
/-- a call of a value that is known (a builtin, a type) with values -/
def CallR (X : Cx) (f : Value) (r : List V → Hp → VK → Prop) : Prop :=
  ∀ (pins : List (Addr × Obj)) (s : Shared) (σ : St) (H : Hp) (xs : List V) (us : List Value) (Q : VK), Inv X pins σ H s → Vals xs us → r xs H Q →
    wpAny (model X.prog X.w) X.A (call f us) (EP X pins σ Q) X.xe s
/-- a value's truth -/
def TruR (X : Cx) (r : V → Hp → (Bool → Hp → Prop) → Prop) : Prop :=
  ∀ (pins : List (Addr × Obj)) (s : Shared) (σ : St) (H : Hp) (x : V) (v : Value) (Q : Bool → Hp → Prop), Inv X pins σ H s → RelV x v → r x H Q →
    wpAny (model X.prog X.w) X.A (truthy v) (TP X pins σ Q) X.xe s

def tOp (r : R2) (ta tb : TE) : TE := fun σ H Q => ta σ H fun x H1 => tb σ H1 fun y H2 => r x y H2 Q
def tUn (r : V → Hp → VK → Prop) (ta : TE) : TE := fun σ H Q => ta σ H fun x H1 => r x H1 Q
/-- ints in, under C, and a value out -/
def rI (C : Int → Int → Prop) (g : Int → Int → V) : R2 := fun x y H Q => ∃ i j, x = .int i ∧ y = .int j ∧ C i j ∧ Q (g i j) H
def rI0 (g : Int → Int → V) : R2 := fun x y H Q => ∃ i j, x = .int i ∧ y = .int j ∧ Q (g i j) H
def rU (g : Int → V) : V → Hp → VK → Prop := fun x H Q => ∃ i, x = .int i ∧ Q (g i) H

section
variable {X : Cx} {a b c : Expr} {ta tb tc : TE} {pos : Pos}

theorem binT (ha : PE X a ta) (hb : PE X b tb) {pins : List (Addr × Obj)} {s : Shared} {σ : St} {H : Hp} {R : V → V → Hp → Prop} (I : Inv X pins σ H s)
    (h : ta σ H fun x H1 => tb σ H1 fun y H2 => R x y H2) {Q : Value → Shared → Prop} {f : Value → Value → Sem Value}
    (hf : ∀ v u s2 x y H2, Inv X pins σ H2 s2 → RelV x v → RelV y u → R x y H2 → wpAny (model X.prog X.w) X.A (f v u) Q X.xe s2) :
    wpAny (model X.prog X.w) X.A (eval a X.env) (fun v s₁ => wpAny (model X.prog X.w) X.A (eval b X.env) (fun u s₂ => wpAny (model X.prog X.w) X.A (f v u) Q X.xe s₂) X.xe s₁) X.xe s := by
  refine thn (ha pins s σ H _ I h) fun v s1 ⟨x, H1, I1, r1, q1⟩ => ?_
  refine thn (hb pins s1 σ H1 _ I1 q1) fun u s2 ⟨y, H2, I2, r2, q2⟩ => ?_
  exact hf v u s2 x y H2 I2 r1 r2 q2

theorem pe_op {op : Operator} {r : R2} (ho : OpR X (binaryOp op) r) (ha : PE X a ta) (hb : PE X b tb) : PE X (.BinOp a op b pos) (tOp r ta tb) := by
  intro pins s σ H Q I h
  exact wpAny_BinOp (binT ha hb I h fun v u s2 x y H2 I2 rx ry q => ho pins s2 σ H2 x y v u Q I2 rx ry q)
theorem pe_un {op : UnaryOp} {r : V → Hp → VK → Prop} (ho : UnR X (unaryOp op) r) (ha : PE X a ta) : PE X (.UnaryOp op a pos) (tUn r ta) := by
  intro pins s σ H Q I h
  exact UnaryOp_ (thn (ha pins s σ H _ I h) fun v s1 ⟨x, H1, I1, r1, q1⟩ => ho pins s1 σ H1 x v Q I1 r1 q1)
/-! ### ints -/
theorem opI {f : Value → Value → Sem Value} {C : Int → Int → Prop} {g : Int → Int → Int}
    (rule : ∀ (i j : Int) (t u : Tok) (s : Shared) (Q : Value → Shared → Prop) (E : Value → Shared → Prop), C i j → Q (.int (g i j) s.toks) { s with toks := s.toks + 1 } → wpAny (model X.prog X.w) X.A (f (.int i t) (.int j u)) Q E s) :
    OpR X f (rI C fun i j => .int (g i j)) := by
  intro pins s σ H x y v u Q I rx ry h
  obtain ⟨i, j, rfl, rfl, hc, q⟩ := h
  obtain ⟨t, rfl⟩ := rx
  obtain ⟨t', rfl⟩ := ry
  exact rule i j t t' s _ _ hc ⟨.int (g i j), H, I.tok _, ⟨_, rfl⟩, q⟩
theorem opI0 {f : Value → Value → Sem Value} {g : Int → Int → Int}
    (rule : ∀ (i j : Int) (t u : Tok) (s : Shared) (Q : Value → Shared → Prop) (E : Value → Shared → Prop), Q (.int (g i j) s.toks) { s with toks := s.toks + 1 } → wpAny (model X.prog X.w) X.A (f (.int i t) (.int j u)) Q E s) :
    OpR X f (rI0 fun i j => .int (g i j)) := by
  intro pins s σ H x y v u Q I rx ry h
  obtain ⟨i, j, rfl, rfl, q⟩ := h
  obtain ⟨t, rfl⟩ := rx
  obtain ⟨t', rfl⟩ := ry
  exact rule i j t t' s _ _ ⟨.int (g i j), H, I.tok _, ⟨_, rfl⟩, q⟩
theorem opB0 {f : Value → Value → Sem Value} {g : Int → Int → Bool}
    (rule : ∀ (i j : Int) (t u : Tok) (s : Shared) (Q : Value → Shared → Prop) (E : Value → Shared → Prop), Q (.bool (g i j)) s → wpAny (model X.prog X.w) X.A (f (.int i t) (.int j u)) Q E s) :
    OpR X f (rI0 fun i j => .bl (g i j)) := by
  intro pins s σ H x y v u Q I rx ry h
  obtain ⟨i, j, rfl, rfl, q⟩ := h
  obtain ⟨t, rfl⟩ := rx
  obtain ⟨t', rfl⟩ := ry
  exact rule i j t t' s _ _ ⟨.bl (g i j), H, I, rfl, q⟩

def CDiv (i j : Int) : Prop := 0 < j ∧ j < 1073741824
def CPow (i j : Int) : Prop := 0 ≤ j ∧ j ≤ 1000000 ∧ i.natAbs < 2 ^ 64
def CMul (i j : Int) : Prop := (-(2 ^ 64) < i ∧ i < 2 ^ 64) ∨ (-(2 ^ 64) < j ∧ j < 2 ^ 64)
theorem CMul.ok {i j : Int} (h : CMul i j) : IntMulOk i j := by
  rcases h with ⟨h1, h2⟩ | ⟨h1, h2⟩
  · exact .of_left (intBits_le_64 h1 h2)
  · exact .of_right (intBits_le_64 h1 h2)
theorem op_add : OpR X (binaryOp .Add) (rI0 fun i j => .int (i + j)) := opI0 fun _ _ _ _ _ _ _ q => add_int q
theorem op_sub : OpR X (binaryOp .Sub) (rI0 fun i j => .int (i - j)) := opI0 fun _ _ _ _ _ _ _ q => sub_int q
theorem op_mul : OpR X (binaryOp .Mult) (rI CMul fun i j => .int (i * j)) := opI fun _ _ _ _ _ _ _ hc q => mul_int q hc.ok
/-- // by a positive divisor -/
theorem op_fdiv : OpR X (binaryOp .FloorDiv) (rI CDiv fun i j => .int (i / j)) := opI fun i j _ _ _ _ _ hc q => by
  have h1 : (0 : Int) < j := hc.1
  have h2 : j < 1073741824 := hc.2
  exact floordiv_int (by omega) (by rw [Int.fdiv_eq_ediv_of_nonneg i (by omega)]; exact q) (.inl (PyProof.noPylong_small (by omega)))
/-- % by a positive divisor of any size -/
theorem op_mod : OpR X (binaryOp .Mod) (rI (fun _ j => 0 < j) fun i j => .int (i % j)) := opI fun i j _ _ _ _ _ hc q => by
  have h1 : (0 : Int) < j := hc
  exact mod_int' (by omega) (by rw [Int.fmod_eq_emod_of_nonneg i (by omega)]; exact q)
theorem op_pow : OpR X (binaryOp .Pow) (rI CPow fun i j => .int (i ^ j.toNat)) := opI fun _ _ _ _ _ _ _ hc q => pow_int_small hc.1 hc.2.1 hc.2.2 q
theorem unI {f : Value → Sem Value} {g : Int → Int}
    (rule : ∀ (i : Int) (t : Tok) (s : Shared) (Q : Value → Shared → Prop) (E : Value → Shared → Prop), Q (.int (g i) s.toks) { s with toks := s.toks + 1 } → wpAny (model X.prog X.w) X.A (f (.int i t)) Q E s) :
    UnR X f (rU fun i => .int (g i)) := by
  intro pins s σ H x v Q I rx h
  obtain ⟨i, rfl, q⟩ := h
  obtain ⟨t, rfl⟩ := rx
  exact rule i t s _ _ ⟨.int (g i), H, I.tok _, ⟨_, rfl⟩, q⟩
theorem un_neg : UnR X (unaryOp .USub) (rU fun i => .int (-i)) := unI fun _ _ _ _ _ q => neg_int q
/-! ### bools among ints: n += (a < b) -/
end

/-! ### comparisons -/
/-- the scalars that == tells apart as data does -/
def scal : V → V → Bool
  | .non, .non => true | .non, .int _ => true | .int _, .non => true | .non, .bl _ => true | .bl _, .non => true | .non, .str _ => true | .str _, .non => true
  | .int _, .int _ => true | .bl _, .bl _ => true | .str _, .str _ => true | .byt _, .byt _ => true
  | .int _, .str _ => true | .str _, .int _ => true | .bl _, .str _ => true | .str _, .bl _ => true
  | _, _ => false
def rEq : R2 := fun x y H Q => scal x y = true ∧ Q (.bl (decide (x = y))) H
def rNe : R2 := fun x y H Q => scal x y = true ∧ Q (.bl (!decide (x = y))) H

theorem dec_int {i j : Int} : decide (V.int i = V.int j) = (i == j) := by
  rw [Bool.eq_iff_iff]
  simp
theorem dec_bl {i j : Bool} : decide (V.bl i = V.bl j) = (i == j) := by
  rw [Bool.eq_iff_iff]
  simp
theorem dec_str {i j : Str} : decide (V.str i = V.str j) = (i == j) := by
  rw [Bool.eq_iff_iff]
  simp
theorem dec_byt {i j : Array UInt8} : decide (V.byt i = V.byt j) = (i.toList == j.toList) := by
  rw [Bool.eq_iff_iff]
  cases i
  cases j
  simp

section
variable {X : Cx} {a b c : Expr} {ta tb tc : TE} {pos : Pos}
theorem fin_bl {pins : List (Addr × Obj)} {σ : St} {H : Hp} {s : Shared} {Q : VK} {k k' : Bool} (I : Inv X pins σ H s) (q : Q (.bl k) H) (e : k = k') : EP X pins σ Q (.bool k') s := by
  subst e
  exact ⟨.bl k, H, I, rfl, q⟩
theorem op_eq : OpR X (compareOp .Eq) rEq := by
  intro pins s σ H x y v u Q I rx ry h
  obtain ⟨hs, q⟩ := h
  cases x with
  | non =>
    cases rx
    cases y with
    | non => cases ry; exact PySem.EqNone.eq_none_none (fin_bl I q (by simp))
    | bl j => cases ry; exact PySem.EqNone.eq_none_bool (fin_bl I q (by simp))
    | int j => obtain ⟨t', rfl⟩ := ry; exact PySem.EqNone.eq_none_int (fin_bl I q (by simp))
    | str j => obtain ⟨t', rfl⟩ := ry; exact PySem.EqNone.eq_none_str (fin_bl I q (by simp))
    | _ => exact absurd (show false = true from hs) Bool.false_ne_true
  | bl i =>
    cases rx
    cases y with
    | non => cases ry; exact PySem.EqNone.eq_bool_none (fin_bl I q (by simp))
    | bl j => cases ry; exact eq_bool (fin_bl I q dec_bl)
    | str j => obtain ⟨t', rfl⟩ := ry; exact PySem.EqMixed.eq_bool_str (fin_bl I q (by simp))
    | _ => exact absurd (show false = true from hs) Bool.false_ne_true
  | int i =>
    obtain ⟨t, rfl⟩ := rx
    cases y with
    | non => cases ry; exact PySem.EqNone.eq_int_none (fin_bl I q (by simp))
    | int j => obtain ⟨t', rfl⟩ := ry; exact eq_int (fin_bl I q dec_int)
    | str j => obtain ⟨t', rfl⟩ := ry; exact PySem.EqMixed.eq_int_str (fin_bl I q (by simp))
    | _ => exact absurd (show false = true from hs) Bool.false_ne_true
  | str i =>
    obtain ⟨t, rfl⟩ := rx
    cases y with
    | non => cases ry; exact PySem.EqNone.eq_str_none (fin_bl I q (by simp))
    | bl j => cases ry; exact PySem.EqMixed.eq_str_bool (fin_bl I q (by simp))
    | int j => obtain ⟨t', rfl⟩ := ry; exact PySem.EqMixed.eq_str_int (fin_bl I q (by simp))
    | str j => obtain ⟨t', rfl⟩ := ry; exact eq_str (fin_bl I q dec_str)
    | _ => exact absurd (show false = true from hs) Bool.false_ne_true
  | byt i =>
    obtain ⟨t, rfl⟩ := rx
    cases y with
    | byt j => obtain ⟨t', rfl⟩ := ry; exact PySem.W.eq_bytes (fin_bl I q dec_byt)
    | _ => exact absurd (show false = true from hs) Bool.false_ne_true
  | _ => cases y <;> exact absurd (show false = true from hs) Bool.false_ne_true
theorem op_ne : OpR X (compareOp .NotEq) rNe := by
  intro pins s σ H x y v u Q I rx ry h
  obtain ⟨hs, q⟩ := h
  cases x with
  | non =>
    cases rx
    cases y with
    | non => cases ry; exact PySem.EqNone.ne_none_none (fin_bl I q (by simp))
    | bl j => cases ry; exact PySem.EqNone.ne_none_bool (fin_bl I q (by simp))
    | int j => obtain ⟨t', rfl⟩ := ry; exact PySem.EqNone.ne_none_int (fin_bl I q (by simp))
    | str j => obtain ⟨t', rfl⟩ := ry; exact PySem.EqNone.ne_none_str (fin_bl I q (by simp))
    | _ => exact absurd (show false = true from hs) Bool.false_ne_true
  | bl i =>
    cases rx
    cases y with
    | non => cases ry; exact PySem.EqNone.ne_bool_none (fin_bl I q (by simp))
    | bl j => cases ry; exact ne_bool (fin_bl I q (congrArg not dec_bl))
    | str j => obtain ⟨t', rfl⟩ := ry; exact PySem.EqMixed.ne_bool_str (fin_bl I q (by simp))
    | _ => exact absurd (show false = true from hs) Bool.false_ne_true
  | int i =>
    obtain ⟨t, rfl⟩ := rx
    cases y with
    | non => cases ry; exact PySem.EqNone.ne_int_none (fin_bl I q (by simp))
    | int j => obtain ⟨t', rfl⟩ := ry; exact ne_int (fin_bl I q (congrArg not dec_int))
    | str j => obtain ⟨t', rfl⟩ := ry; exact PySem.EqMixed.ne_int_str (fin_bl I q (by simp))
    | _ => exact absurd (show false = true from hs) Bool.false_ne_true
  | str i =>
    obtain ⟨t, rfl⟩ := rx
    cases y with
    | non => cases ry; exact PySem.EqNone.ne_str_none (fin_bl I q (by simp))
    | bl j => cases ry; exact PySem.EqMixed.ne_str_bool (fin_bl I q (by simp))
    | int j => obtain ⟨t', rfl⟩ := ry; exact PySem.EqMixed.ne_str_int (fin_bl I q (by simp))
    | str j => obtain ⟨t', rfl⟩ := ry; exact ne_str (fin_bl I q (congrArg not dec_str))
    | _ => exact absurd (show false = true from hs) Bool.false_ne_true
  | byt i =>
    obtain ⟨t, rfl⟩ := rx
    cases y with
    | byt j => obtain ⟨t', rfl⟩ := ry; exact PySem.W.ne_bytes (fin_bl I q (congrArg not dec_byt))
    | _ => exact absurd (show false = true from hs) Bool.false_ne_true
  | _ => cases y <;> exact absurd (show false = true from hs) Bool.false_ne_true

theorem op_lt : OpR X (compareOp .Lt) (rI0 fun i j => .bl (decide (i < j))) := opB0 fun _ _ _ _ _ _ _ q => lt_int q
theorem op_le : OpR X (compareOp .LtE) (rI0 fun i j => .bl (decide (i ≤ j))) := opB0 fun _ _ _ _ _ _ _ q => le_int q
theorem op_gt : OpR X (compareOp .Gt) (rI0 fun i j => .bl (decide (j < i))) := opB0 fun _ _ _ _ _ _ _ q => gt_int q
theorem op_ge : OpR X (compareOp .GtE) (rI0 fun i j => .bl (decide (j ≤ i))) := opB0 fun _ _ _ _ _ _ _ q => ge_int q
theorem nomark (b : Expr) {op : CmpOp} (h : op ≠ .In := by decide) (h2 : op ≠ .NotIn := by decide) : behindInMarks op b = false := by
  have e1 : (op == CmpOp.In) = false := by cases op <;> first | rfl | exact absurd rfl h
  have e2 : (op == CmpOp.NotIn) = false := by cases op <;> first | rfl | exact absurd rfl h2
  cases b <;> simp [behindInMarks, e1, e2]
/-- a comparison as a value; hm: nomark b, or (for in, not in) by with_unfolding_all rfl -/
theorem pe_cmpR {op : CmpOp} {r : R2} (ho : OpR X (compareOp op) r) (ha : PE X a ta) (hb : PE X b tb) (hm : behindInMarks op b = false) : PE X (.Compare a [op] [b] pos) (tOp r ta tb) := by
  intro pins s σ H Q I h
  exact wpAny_Compare1 (binT ha hb I h fun v u s2 x y H2 I2 rx ry q => ho pins s2 σ H2 x y v u Q I2 rx ry q) hm
/-- a reading of a value as a test -/
def tTest (t : TE) : TT := fun σ H Q => t σ H fun x H' => ∃ k, x = .bl k ∧ Q k H'
theorem pt_cmpR {op : CmpOp} {r : R2} (ho : OpR X (compareOp op) r) (ha : PE X a ta) (hb : PE X b tb) (hm : behindInMarks op b = false) : PT X (.Compare a [op] [b] pos) (tTest (tOp r ta tb)) := by
  intro pins s σ H Q I h
  refine wpAny_isTrue_Compare1 (thn (ha pins s σ H _ I h) fun v s1 ⟨x, H1, I1, r1, q1⟩ => thn (hb pins s1 σ H1 _ I1 q1) fun u s2 ⟨y, H2, I2, r2, q2⟩ =>
    thn (ho pins s2 σ H2 x y v u _ I2 r1 r2 q2) fun c s3 ⟨z, H3, I3, r3, k, e, q3⟩ => ?_) hm
  subst e
  cases r3
  exact wpAny_truthy_bool ⟨H3, I3, q3⟩
/-- a op1 b op2 c -/
def tChain (r r' : R2) (ta tb tc : TE) : TE := fun σ H Q => ta σ H fun x H1 => tb σ H1 fun y H2 => r x y H2 fun z H3 => ∃ k, z = .bl k ∧
  (if k = true then tc σ H3 fun w' H4 => r' y w' H4 Q else Q (.bl false) H3)
theorem pt_chain {op op' : CmpOp} {r r' : R2} (ho : OpR X (compareOp op) r) (ho' : OpR X (compareOp op') r') (ha : PE X a ta) (hb : PE X b tb) (hc : PE X c tc)
    (hm : lastMarks [op, op'] [b, c] = false := by with_unfolding_all rfl) : PT X (.Compare a [op, op'] [b, c] pos) (tTest (tChain r r' ta tb tc)) := by
  intro pins s σ H Q I h
  refine isTrue_chain (thn (ha pins s σ H _ I h) fun v s1 ⟨x, H1, I1, r1, q1⟩ => test_link (thn (hb pins s1 σ H1 _ I1 q1) fun u s2 ⟨y, H2, I2, r2, q2⟩ =>
    thn (ho pins s2 σ H2 x y v u _ I2 r1 r2 q2) fun d s3 ⟨z, H3, I3, r3, k, e, q3⟩ => ?_)) hm
  subst e
  cases r3
  refine wpAny_truthy_bool ?_
  cases k with
  | false =>
    obtain ⟨k', e', q'⟩ := q3
    cases e'
    exact ite_ff ⟨H3, I3, q'⟩
  | true =>
    refine ite_tt (test_last (thn (hc pins s3 σ H3 _ I3 q3) fun w' s4 ⟨z', H4, I4, r4, q4⟩ => thn (ho' pins s4 σ H4 y z' u w' _ I4 r2 r4 q4) fun d' s5 ⟨z2, H5, I5, r5, k2, e2, q5⟩ => ?_))
    subst e2
    cases r5
    exact wpAny_truthy_bool ⟨H5, I5, q5⟩

/-! ### truth -/
/-- a value's truth by the abstract heap -/
def TruV (K : PySem.W.Frag) (x : V) (H : Hp) (k : Bool) : Prop :=
  match x with
  | .non => k = false
  | .bl b => k = b
  | .int i => k = (i != 0)
  | .str y => y.length ≤ sizeLine ∧ k = ((y.length : Int) != 0)
  | .byt y => y.size ≤ sizeLine ∧ k = ((y.size : Int) != 0)
  | .ref p => (∃ xs, SqL K H p xs ∧ k = !xs.isEmpty) ∨ (∃ xs, SqT K H p xs ∧ k = !xs.isEmpty) ∨ ∃ kvs, H p = some (.dK kvs) ∧ k = !kvs.isEmpty
  | _ => False
theorem isEmpty_kv {κ : Type} {kvs : List (κ × V)} {vs : List (κ × Value)} (r : KV kvs vs) : (!vs.isEmpty) = !kvs.isEmpty := by
  cases r <;> rfl
theorem isEmpty_of {xs : List V} {its : List Value} (r : Vals xs its) : (!its.toArray.isEmpty) = !xs.isEmpty := by
  cases r <;> simp
theorem line63 : (sizeLine : Nat) < 2 ^ 63 := by rw [sizeLine_eq]; decide
theorem tru_ok : TruR X (fun x H Q => ∃ k, TruV X.K x H k ∧ Q k H) := by
  intro pins s σ H x v Q I rx h
  obtain ⟨k, e, q⟩ := h
  have hl := line63
  have hs : sizeLine = 16777216 := sizeLine_eq
  cases x with
  | non =>
    cases rx
    have e' : k = false := e
    subst e'
    exact truthy_none ⟨H, I, q⟩
  | bl b =>
    cases rx
    have e' : k = b := e
    subst e'
    exact wpAny_truthy_bool ⟨H, I, q⟩
  | int i =>
    obtain ⟨t, rfl⟩ := rx
    have e' : k = (i != 0) := e
    subst e'
    exact PySem.P.truthy_int ⟨H, I, q⟩
  | str y =>
    obtain ⟨t, rfl⟩ := rx
    obtain ⟨hy, e'⟩ : y.length ≤ sizeLine ∧ k = ((y.length : Int) != 0) := e
    subst e'
    exact PySem.P.truthy_str (by omega) ⟨H, I.tok _, q⟩
  | byt y =>
    obtain ⟨t, rfl⟩ := rx
    obtain ⟨hy, e'⟩ : y.size ≤ sizeLine ∧ k = ((y.size : Int) != 0) := e
    subst e'
    exact PySem.W.truthy_bytes (by omega) ⟨H, I.tok _, q⟩
  | ref p =>
    cases rx
    have e' : (∃ xs, SqL X.K H p xs ∧ k = !xs.isEmpty) ∨ (∃ xs, SqT X.K H p xs ∧ k = !xs.isEmpty) ∨ ∃ kvs, H p = some (.dK kvs) ∧ k = !kvs.isEmpty := e
    rcases e' with ⟨xs, hx, e'⟩ | ⟨xs, hx, e'⟩ | ⟨kvs, hx, e'⟩
    · subst e'
      obtain ⟨its, r, pl, hz⟩ := I.list hx
      have hlen := r.length
      exact wpAny_truthy_list pl.isList (by simp only [List.size_toArray]; omega) ⟨H, I.tok _, by rw [isEmpty_of r]; exact q⟩
    · subst e'
      obtain ⟨its, r, pl, hz⟩ := I.tuple hx
      have hlen := r.length
      exact truthy_tuple pl (by simp only [List.size_toArray]; omega) ⟨H, I.tok _, by rw [isEmpty_of r]; exact q⟩
    · subst e'
      obtain ⟨hz, hS, vs, r, m⟩ : kvs.length ≤ sizeLine ∧ (p == sysModules) = false ∧ ∃ vs, KV kvs vs ∧ s.heap.DictOf (mixKind X.prog X.w) p vs := I.hok p _ hx
      have hlen : kvs.length = vs.length := Paired.length r
      exact wpAny_truthy_dict hS m (by omega) ⟨H, I.tok _, by rw [isEmpty_kv r]; exact q⟩
  | _ => exact (show False from e).elim
/-- any expression whose test is its value's truth (a name, a call, a subscript, a field ..: he by fun _ => rfl) -/
theorem pt_truth (ha : PE X a ta) (he : ∀ whole, isTrue a X.env whole = (do let v ← whole; standAt a.pos; holding [v] (truthy v))) :
    PT X a (fun σ H Q => ta σ H fun x H' => ∃ k, TruV X.K x H' k ∧ Q k H') := by
  intro pins s σ H Q I h
  exact isTrue_plain (thn (ha pins s σ H _ I h) fun v s1 ⟨x, H1, I1, r1, q1⟩ => tru_ok pins s1 σ H1 x v Q I1 r1 q1) (he _)

/-! ### strs and bytes -/
/-! ### scalar builtins, by CallR -/
theorem vals1 {x : V} {us : List Value} (r : Vals [x] us) : ∃ u, us = [u] ∧ RelV x u := by
  cases r with
  | cons r1 r2 => cases r2; exact ⟨_, rfl, r1⟩
theorem vals2 {x y : V} {us : List Value} (r : Vals [x, y] us) : ∃ u w', us = [u, w'] ∧ RelV x u ∧ RelV y w' := by
  cases r with
  | cons r1 r2 =>
    cases r2 with
    | cons r3 r4 => cases r4; exact ⟨_, _, rfl, r1, r3⟩
end
end L2

namespace L2
open PySem PySem.Spec PyProof.Rows

/-! ### an instance, its attributes a map -/
structure ObjM (h : Heap) (x dx C : Addr) (mA : Str → Option Value) : Prop where
  obj : h.get? x = some (PySem.W.instObj C dx)
  ns : h.Ns1 dx mA
  ne : dx ≠ x

theorem lookIn_ns {h : Heap} {dx : Addr} {mA : Str → Option Value} (n : h.Ns1 dx mA) : ∃ od, h.get? dx = some od ∧ ∀ name, PySem.W.lookIn name od = some (mA name) := by
  obtain ⟨o, es, ep, ho, hd, hk, _, hm⟩ := n
  refine ⟨o, ho, fun name => ?_⟩
  have e := hm name
  unfold nsFind findBy at e
  rw [← Array.find?_toList] at e
  unfold PySem.W.lookIn
  rw [hd]
  dsimp only
  split
  · rename_i y q
    rw [q] at e
    exact congrArg some e
  · rename_i q
    rw [q] at e
    have a : es.toList.any (·.refKey) = false := by
      rw [List.any_eq_false]
      intro y hy
      obtain ⟨z, t, hkey⟩ := hk y (Array.mem_toList_iff.mp hy)
      simp [DictEntry.refKey, hkey]
    have a' : ¬ es.toList.any (·.refKey) = true := by rw [a]; exact Bool.false_ne_true
    rw [if_neg a']
    exact congrArg some e

theorem ObjM.look {h : Heap} {x dx C : Addr} {mA : Str → Option Value} (I : ObjM h x dx C mA) : ∃ od, PySem.W.InstAt h x (PySem.W.instObj C dx) C (some od) ∧ ∀ name, PySem.W.lookIn name od = some (mA name) :=
  let ⟨od, ho, hl⟩ := lookIn_ns I.ns
  ⟨od, ⟨I.obj, rfl, rfl, ho⟩, hl⟩

section
variable {prog : Program} {w : World} {A : Around} {E : Value → Shared → Prop} {s : Shared} {K : PySem.W.Frag} {x dx C f : Addr} {mA : Str → Option Value} {name : Str} {v : Value}

theorem get_map {expr : Bool} {Q : Value → Shared → Prop} (X : K.In s.heap) (I : ObjM s.heap x dx C mA) (hg : PySem.W.plainGet K C name = true) (hh : PySem.W.hasDictIn K C = true)
    (ha : PySem.W.findIn K (.ref C) name = some none) (hv : mA name = some v) (hv' : PySem.W.handedIn v = true) (h : Q v { s with toks := s.toks + 1 }) :
    wpAny (model prog w) A (getAttr (.ref x) name expr) Q E s := by
  obtain ⟨od, J, hl⟩ := I.look
  exact PySem.W.get_value X J (PySem.W.plainGet_of hg).1 (PySem.W.findObj_own hh ha rfl (by rw [hl, hv])) hv' h

theorem get_meth {pl : Sem Bool} {Q : Value × List Value → Shared → Prop} (X : K.In s.heap) (I : ObjM s.heap x dx C mA) (hg : PySem.W.plainGet K C name = true)
    (hf : PySem.W.findIn K (.ref C) name = some (some (.ref f))) (ht : PySem.W.isFn K (.ref f) = true) (hv : mA name = none) (h : Q (.ref f, [.ref x]) s) :
    wpAny (model prog w) A (getMethod (.ref x) name pl) Q E s := by
  obtain ⟨od, J, hl⟩ := I.look
  exact PySem.W.method_fn X J (PySem.W.plainGet_of hg).1 (PySem.W.plainGet_of hg).2 hf (beq_iff_eq.mp ht) (by show (PySem.W.lookIn name od).map (·.isSome) = some false; rw [hl, hv]; rfl) h

theorem set_map {ns : List Str} {Q : Unit → Shared → Prop} (X : K.In s.heap) (I : ObjM s.heap x dx C mA)
    (hs : PySem.W.findIn K (.ref C) "__setattr__" = some (some (.builtin "object.__setattr__"))) (hp : PySem.W.plainOver K C = true) (ht : PySem.W.takerIn K C name = some none) (hh : PySem.W.hasDictIn K C = true)
    (hw : PySem.Within mA ns) (hsz : ns.length ≤ sizeLine)
    (h : ∀ h', ObjM h' x dx C (fun y => if y = name then some v else mA y) → Heap.SameBut dx s.heap h' → Q () { s with heap := h', toks := s.toks + 2 }) :
    wpAny (model prog w) A (setAttr (.ref x) name v) Q E s := by
  obtain ⟨od, J, hl⟩ := I.look
  refine PySem.W.set_plain X J hs (PySem.W.osa_open (s := { s with toks := s.toks + 1 }) (r := none) X J hp ht fun b => ?_)
  obtain ⟨cd, hc, hd'⟩ := PySem.W.any_some hh
  have hx : s.heap.get? x = some ⟨.ref C, some dx, .plain, #[]⟩ := I.obj
  refine wpAny_bind (wpAny_pure (wpAny_bind (wpAny_bind (wpAny_loadPart hx (wpAny_bind (PySem.W.Looks.here (s := { s with toks := s.toks + 1 }) (PySem.W.looks_clsIn X hc) ?_))))))
  rw [hd']
  refine wpAny_pure (a := some dx) (wpAny_bind (wpAny_pure (wpAny_bind ?_)))
  refine wpAny_nsSet1 (s := { s with toks := s.toks + 1 }) I.ns fun h' hn2 hs2 => ?_
  obtain ⟨oD, esD, epD, hoD, hdD, hcD⟩ := hn2.count (PySem.Within.cons name v hw)
  refine wpAny_bind (wpAny_lookBehind hoD (by rw [hdD]; exact pastItsLine_dict (Nat.le_trans hcD (by rw [List.length_cons]; omega))) ?_)
  exact wpAny_pure (h _ ⟨(hs2.2 _ (Ne.symm I.ne)).trans I.obj, hn2, I.ne⟩ hs2)

/-- C(..): the dict at the heap's end, the instance behind it; then its __init__ -/
theorem make_map {R : Result → Shared → Prop} {vs : List Value} {kw : List (Str × Value)} (X : K.In s.heap) (hm : PySem.W.makesIn K C = true)
    (hi : PySem.W.findIn K (.ref C) "__init__" = some (some (.ref f))) (hf : PySem.W.typeIn K (.ref f) = some (.type "function"))
    (h : codeAny (model prog w) (A.under (.builtin "type.__call__" ⟨.ref C :: vs, kw⟩)) (.call (.ref f) ⟨.ref (s.heap.objs.size + 1) :: vs, kw⟩) (PySem.W.InitBack (s.heap.objs.size + 1) R)
      { s with heap := (s.heap.push PySem.W.emptyDict).push (PySem.W.instObj C s.heap.objs.size) }) :
    codeAny (model prog w) A (.call (.ref C) ⟨vs, kw⟩) R s := by
  obtain ⟨hh, g, d, t, os⟩ := s
  exact PySem.W.make_core (PySem.W.makes_of X hm) (PySem.W.looks_findIn X hi) (fun self => PySem.W.bind_fn X self hf) (.inl rfl) h
end

/-! ### the attributes as a list of pairs -/
def putF (f : Str) (v : V) : List (Str × V) → List (Str × V)
  | [] => [(f, v)]
  | (g, x) :: r => if g = f then (g, v) :: r else (g, x) :: putF f v r
theorem lookup_putF (f g : Str) (v : V) : ∀ fs : List (Str × V), (putF f v fs).lookup g = if g = f then some v else fs.lookup g
  | [] => by
    show List.lookup g [(f, v)] = _
    by_cases h : g = f
    · have hb : (g == f) = true := beq_iff_eq.mpr h
      simp only [List.lookup, hb, if_pos h]
    · have hb : (g == f) = false := beq_eq_false_iff_ne.mpr h
      simp only [List.lookup, hb, if_neg h]
  | (k, x) :: r => by
    have ih := lookup_putF f g v r
    rw [show putF f v ((k, x) :: r) = (if k = f then (k, v) :: r else (k, x) :: putF f v r) from rfl]
    by_cases hk : k = f
    · rw [if_pos hk]
      by_cases h : g = k
      · have hb : (g == k) = true := beq_iff_eq.mpr h
        simp only [List.lookup, hb, if_pos (h.trans hk)]
      · have hb : (g == k) = false := beq_eq_false_iff_ne.mpr h
        simp only [List.lookup, hb, if_neg (fun e : g = f => h (e.trans hk.symm))]
    · rw [if_neg hk]
      by_cases h : g = k
      · have hb : (g == k) = true := beq_iff_eq.mpr h
        simp only [List.lookup, hb, if_neg (fun e : g = f => hk (h.symm.trans e))]
      · have hb : (g == k) = false := beq_eq_false_iff_ne.mpr h
        simp only [List.lookup, hb]
        exact ih
theorem keys_putF (f : Str) (v : V) : ∀ fs : List (Str × V), f ∈ (putF f v fs).map (·.1) ∧ ∀ g, g ∈ fs.map (·.1) → g ∈ (putF f v fs).map (·.1)
  | [] => ⟨by simp [putF], fun g h => by simp at h⟩
  | (k, x) :: r => by
    obtain ⟨i1, i2⟩ := keys_putF f v r
    rw [show putF f v ((k, x) :: r) = (if k = f then (k, v) :: r else (k, x) :: putF f v r) from rfl]
    by_cases hk : k = f
    · rw [if_pos hk]
      subst hk
      exact ⟨by simp, fun g h => by simpa using h⟩
    · rw [if_neg hk]
      refine ⟨?_, fun g h => ?_⟩
      · rw [List.map_cons]
        exact List.mem_cons_of_mem _ i1
      · rw [List.map_cons] at h ⊢
        rcases List.mem_cons.mp h with e | e
        · exact List.mem_cons.mpr (.inl e)
        · exact List.mem_cons_of_mem _ (i2 g e)
theorem length_putF (f : Str) (v : V) : ∀ fs : List (Str × V), (putF f v fs).length ≤ fs.length + 1
  | [] => by simp [putF]
  | (k, x) :: r => by
    have ih := length_putF f v r
    rw [show putF f v ((k, x) :: r) = (if k = f then (k, v) :: r else (k, x) :: putF f v r) from rfl]
    by_cases hk : k = f
    · rw [if_pos hk, List.length_cons, List.length_cons]; omega
    · rw [if_neg hk, List.length_cons, List.length_cons]; omega

theorem RelO.some_of {v : V} {o : Option Value} (r : RelO (some v) o) : ∃ u, o = some u ∧ RelV v u := by
  cases o with
  | none => exact (show False from r).elim
  | some u => exact ⟨u, rfl, r⟩
theorem RelO.none_of {o : Option Value} (r : RelO none o) : o = none := by
  cases o with
  | none => rfl
  | some u => exact (show False from r).elim
theorem handed_of {v : V} {u : Value} (r : RelV v u) : PySem.W.handedIn u = true := by
  cases v with
  | non => cases (show u = Value.none from r); rfl
  | bl b => cases (show u = Value.bool b from r); rfl
  | int i => obtain ⟨t, e⟩ := (show ∃ t, u = Value.int i t from r); cases e; rfl
  | str x => obtain ⟨t, e⟩ := (show ∃ t, u = Value.str x t from r); cases e; rfl
  | byt b => obtain ⟨t, e⟩ := (show ∃ t, u = Value.bytes b t from r); cases e; rfl
  | flt b => obtain ⟨t, e⟩ := (show ∃ t, u = Value.float b t from r); cases e; rfl
  | ref a => cases (show u = Value.ref a from r); rfl
  | ty n => cases (show u = Value.type n from r); rfl

section
variable {P : Program} {w : World} {H H' : Hp} {h h' : Heap} {a C dx : Addr} {fs fs' : List (Str × V)}
theorem ins_get (hok : HOk P w H h) (e : H a = some (.ins C dx fs)) : ∃ mA, ObjM h a dx C mA ∧ (∀ f, RelO (fs.lookup f) (mA f)) ∧ PySem.Within mA (fs.map (·.1)) ∧ fs.length ≤ 1000 ∧ H dx = some (.own a) := by
  obtain ⟨d, z, ne, ob, mA, n, r, q⟩ := (show ObjOk P w H h a (.ins C dx fs) from hok a _ e)
  exact ⟨mA, ⟨ob, n, ne⟩, r, q, z, d⟩
end

/-! ### what of the text a class must have -/
structure Cls (K : PySem.W.Frag) (C : Addr) : Prop where
  pg : PySem.W.plainGet K C Str.empty = true
  hd : PySem.W.hasDictIn K C = true
  po : PySem.W.plainOver K C = true
  sa : PySem.W.findIn K (.ref C) "__setattr__" = some (some (.builtin "object.__setattr__"))
theorem Cls.get {K : PySem.W.Frag} {C : Addr} (c : Cls K C) (f : Str) : PySem.W.plainGet K C f = true := c.pg
/-- no class of it has the name -/
def NoAttr (K : PySem.W.Frag) (C : Addr) (f : Str) : Prop := PySem.W.findIn K (.ref C) f = some none
theorem NoAttr.taker {K : PySem.W.Frag} {C : Addr} {f : Str} (n : NoAttr K C f) : PySem.W.takerIn K C f = some none := by
  unfold PySem.W.takerIn
  rw [show PySem.W.findIn K (.ref C) f = some none from n]
  rfl
/-- a method: a plain def of the class or of one above it -/
structure Meth (K : PySem.W.Frag) (C : Addr) (m : Str) (f : Addr) : Prop where
  at_ : PySem.W.findIn K (.ref C) m = some (some (.ref f))
  fn : PySem.W.isFn K (.ref f) = true
  kp : PySem.W.keepIn K (.ref f) = true

section
variable {X : Cx} {pins : List (Addr × Obj)} {σ : St} {H : Hp} {s : Shared} {a C dx : Addr} {fs : List (Str × V)} {f : Str} {v : V} {A : Around} {E : Value → Shared → Prop}

theorem getattr_ok {b : Bool} {Q : Value → Shared → Prop} (I : Inv X pins σ H s) (e : H a = some (.ins C dx fs)) (c : Cls X.K C) (n : NoAttr X.K C f) (l : fs.lookup f = some v)
    (h : ∀ u s', Inv X pins σ H s' → RelV v u → Q u s') : wpAny (model X.prog X.w) A (getAttr (.ref a) f b) Q E s := by
  obtain ⟨mA, O, r, _, _, _⟩ := ins_get I.hok e
  obtain ⟨u, hu, ru⟩ := RelO.some_of (v := v) (o := mA f) (by rw [← l]; exact r f)
  exact get_map I.kIn O (c.get f) c.hd n hu (handed_of ru) (h u _ (I.tok _) ru)

theorem getmeth_ok {m : Str} {g : Addr} {pl : Sem Bool} {Q : Value × List Value → Shared → Prop} (I : Inv X pins σ H s) (e : H a = some (.ins C dx fs)) (c : Cls X.K C) (k : Meth X.K C m g) (l : fs.lookup m = none)
    (h : Q (.ref g, [.ref a]) s) : wpAny (model X.prog X.w) A (getMethod (.ref a) m pl) Q E s := by
  obtain ⟨mA, O, r, _, _, _⟩ := ins_get I.hok e
  have hn : mA m = none := RelO.none_of (by rw [← l]; exact r m)
  exact get_meth I.kIn O (c.get m) k.at_ k.fn hn h

theorem setattr_ok {y : V} {u : Value} {Q : Unit → Shared → Prop} (I : Inv X pins σ H s) (e : H a = some (.ins C dx fs)) (c : Cls X.K C) (n : NoAttr X.K C f) (hl : fs.length < 1000) (ry : RelV y u)
    (h : ∀ s', Inv X pins σ (upd H a (.ins C dx (putF f y fs))) s' → Q () s') : wpAny (model X.prog X.w) A (setAttr (.ref a) f u) Q E s := by
  obtain ⟨mA, O, r, wi, _, ho⟩ := ins_get I.hok e
  have hz : (fs.map (·.1)).length ≤ sizeLine := by rw [List.length_map, sizeLine_eq]; omega
  refine set_map I.kIn O c.sa c.po n.taker c.hd wi hz fun h' O' sb => h _ ?_
  have hd : ∃ o, h'.get? dx = some o := let ⟨o, _, _, e', _⟩ := O'.ns; ⟨o, e'⟩
  refine I.write (x := a) (e := dx) (by rw [e]; exact True.intro) (.inr ho) (fun b q hb z => (sb.2 b hb).trans z) hd ?_
  refine ⟨by rw [upd_ne O.ne]; exact ho, ?_, O.ne, O'.obj, _, O'.ns, fun g => ?_, fun g hg => ?_⟩
  · have := length_putF f y fs; omega
  · show RelO ((putF f y fs).lookup g) (if g = f then some u else mA g)
    rw [lookup_putF]
    by_cases q : g = f
    · rw [if_pos q, if_pos q]; exact ry
    · rw [if_neg q, if_neg q]; exact r g
  · by_cases q : g = f
    · rw [q]; exact (keys_putF f y fs).1
    · refine (keys_putF f y fs).2 g (wi g fun z => hg ?_)
      show (if g = f then some u else mA g) = none
      rw [if_neg q]; exact z

/-- a new instance, tracked, without attributes -/
theorem Inv.made (I : Inv X pins σ H s) : Inv X pins σ (upd (upd H s.heap.objs.size (.own (s.heap.objs.size + 1))) (s.heap.objs.size + 1) (.ins C s.heap.objs.size []))
    { s with heap := (s.heap.push PySem.W.emptyDict).push (PySem.W.instObj C s.heap.objs.size) } := by
  have e1 : (s.heap.push PySem.W.emptyDict).get? s.heap.objs.size = some PySem.W.emptyDict := Heap.get?_push_size s.heap rfl
  have e2 : ((s.heap.push PySem.W.emptyDict).push (PySem.W.instObj C s.heap.objs.size)).get? (s.heap.objs.size + 1) = some (PySem.W.instObj C s.heap.objs.size) := by
    have := Heap.get?_push_size (s.heap.push PySem.W.emptyDict) (o := PySem.W.instObj C s.heap.objs.size) rfl
    rwa [Heap.size_push] at this
  have e3 : (s.heap.push PySem.W.emptyDict).Ns s.heap.objs.size (fun _ => none) := ⟨PySem.W.emptyDict, #[], _, e1, rfl, (fun e he => absurd he (by simp)), fun _ => rfl⟩
  have I1 := I.laid (a := s.heap.objs.size) (o := .own (s.heap.objs.size + 1)) (h' := s.heap.push PySem.W.emptyDict) (t' := s.toks) (fun b u q => Heap.get?_push_of_some _ q) (Nat.le_refl _) ⟨_, e1⟩
  refine I1.laid (a := s.heap.objs.size + 1) (o := .ins C s.heap.objs.size []) (t' := s.toks) (fun b u q => Heap.get?_push_of_some _ q) (Nat.le_of_eq (Heap.size_push _ _)) ?_
  have ne : s.heap.objs.size ≠ s.heap.objs.size + 1 := Nat.ne_of_lt (Nat.lt_succ_self _)
  refine ⟨by rw [upd_ne ne, upd_same], Nat.zero_le _, ne, e2, fun _ => none, (Heap.Ns1.of_empty e3).at fun o q => Heap.get?_push_of_some _ q, fun _ => True.intro, fun y hy => absurd rfl hy⟩

/-- e.f where nothing but the object is asked: through attributeBase (super) and the last hold -/
theorem attr_of {prog : Program} {w : World} {env : Env} {e : Expr} {f : Str} {pos : Pos} {s : Shared} {Q : Value → Shared → Prop} (hb : attributeBase e f env (eval e env) = eval e env)
    (h : wpAny (model prog w) A (eval e env) (fun o s₁ => wpAny (model prog w) A (getAttr o f true) Q E s₁) E s) : wpAny (model prog w) A (eval (.Attribute e f pos) env) Q E s :=
  Attribute_any_ h (by rw [arm_eval_Attribute, hb])
end

/-! ### readings and rules -/
/-- e.f, an attribute of the instance -/
def tFld (K : PySem.W.Frag) (ta : TE) (f : Str) : TE := fun σ H Q => ta σ H fun x H1 => ∃ a C dx fs v, x = .ref a ∧ H1 a = some (.ins C dx fs) ∧ Cls K C ∧ NoAttr K C f ∧ fs.lookup f = some v ∧ Q v H1
/-- e.f = value -/
def sFld (K : PySem.W.Frag) (ta tv : TE) (f : Str) : TS := fun D σ H => tv σ H fun y H1 => ta σ H1 fun x H2 => ∃ a C dx fs, x = .ref a ∧ H2 a = some (.ins C dx fs) ∧ Cls K C ∧ NoAttr K C f ∧ fs.length < 1000 ∧
  D.nx σ (upd H2 a (.ins C dx (putF f y fs)))
section
variable {X : Cx} {o e value : Expr} {f : Str} {pos pos' tpos : Pos} {ta tv : TE}
theorem pe_fld (he : PE X e ta) (hb : attributeBase e f X.env (eval e X.env) = eval e X.env) : PE X (.Attribute e f pos) (tFld X.K ta f) := by
  intro pins s σ H Q I h
  refine attr_of hb (thn (he pins s σ H _ I h) fun u s1 ⟨x, H1, I1, rx, a, C, dx, fs, v, ex, ea, c, n, l, q⟩ => ?_)
  subst ex
  obtain rfl : u = Value.ref a := rx
  exact getattr_ok I1 ea c n l fun u' s2 I2 ru => ⟨v, H1, I2, ru, q⟩
theorem ps_fld (ha : PE X o ta) (hv : PE X value tv) (hs : swapsWith value (some (.Attribute o f pos')) pos.line X.env = pure false) : PS X (.Assign [.Attribute o f pos'] value pos) (sFld X.K ta tv f) := by
  intro pins s σ H D I h
  refine plainObj_wpAny_Assign_Attribute (thn (hv pins s σ H _ I h) fun u s1 ⟨y, H1, I1, ry, q⟩ => thn (ha pins s1 σ H1 _ I1 q) fun ov s2 ⟨x, H2, I2, rx, a, C, dx, fs, ex, ea, c, n, l, q2⟩ => ?_) hs
  subst ex
  obtain rfl : ov = Value.ref a := rx
  exact setattr_ok I2 ea c n l ry fun s3 I3 => ⟨σ, _, I3, q2⟩
end

/-! ### isinstance -/
section
variable {X : Cx} {pins : List (Addr × Obj)} {σ : St} {H : Hp} {s : Shared} {A : Around} {E : Value → Shared → Prop} {Q : Value → Shared → Prop} {c : Value} {b : Bool}
/-- the type of a value, as the fragment's deciders take it; for an instance its class -/
inductive TyOf (K : PySem.W.Frag) (H : Hp) : V → Value → Prop where
  | non : TyOf K H .non (.type "NoneType")
  | bl (x : Bool) : TyOf K H (.bl x) (.type "bool")
  | int (i : Int) : TyOf K H (.int i) (.type "int")
  | str (x : Str) : TyOf K H (.str x) (.type "str")
  | flt (x : UInt64) : TyOf K H (.flt x) (.type "float")
  | lst {a : Addr} {xs : List V} (e : H a = some (.lst xs)) : TyOf K H (.ref a) (.type "list")
  | frz {a : Addr} {o : Obj} {xs : List V} (e : H a = some (.frz o (.lst xs))) : TyOf K H (.ref a) (.type "list")
  | tup {a : Addr} {xs : List V} (e : H a = some (.tup xs)) : TyOf K H (.ref a) (.type "tuple")
  | dK {a : Addr} {kvs : List (Key × V)} (e : H a = some (.dK kvs)) : TyOf K H (.ref a) (.type "dict")
  | dT {a : Addr} {kvs : List (List Key × V)} (e : H a = some (.dT kvs)) : TyOf K H (.ref a) (.type "dict")
  | ins {a C dx : Addr} {fs : List (Str × V)} (e : H a = some (.ins C dx fs)) (cl : Cls K C) (ha : PySem.W.findIn K (.ref C) "__class__" = some (some (.builtin "object.__class__")))
      (hn : PySem.W.specialIn K (.builtin "object.__class__") "__get__" = some (some (.builtin "getset_descriptor.__get__"))) (htk : PySem.W.takesIn K (.builtin "object.__class__") = some true)
      (hm : PySem.W.mroIn K C (.type "object") = some true) : TyOf K H (.ref a) (.ref C)
/-- isinstance(x, c) for one class c, a built-in or an own one: kitOne's answer -/
theorem isinst_ok {x : V} {u t : Value} (I : Inv X pins σ H s) (rx : RelV x u) (ty : TyOf X.K H x t) (e : PySem.W.kitOne X.K t c = some b) (h : ∀ tk, Q (.bool b) { s with toks := tk }) :
    wpAny (model X.prog X.w) A (call (.builtin "isinstance") [u, c]) Q E s := by
  cases ty with
  | non => cases (show u = Value.none from rx); exact PySem.W.kia_one PySem.W.kitx_none I.kIn True.intro e (fun z => nomatch z) h
  | bl y => cases (show u = Value.bool y from rx); exact PySem.W.kia_one PySem.W.kitx_bool I.kIn True.intro e (fun z => nomatch z) h
  | int i => obtain ⟨t, q⟩ := (show ∃ t, u = Value.int i t from rx); cases q; exact PySem.W.kia_one PySem.W.kitx_int I.kIn True.intro e (fun z => nomatch z) h
  | str y => obtain ⟨t, q⟩ := (show ∃ t, u = Value.str y t from rx); cases q; exact PySem.W.kia_one PySem.W.kitx_str I.kIn True.intro e (fun z => nomatch z) h
  | flt y => obtain ⟨t, q⟩ := (show ∃ t, u = Value.float y t from rx); cases q; exact PySem.W.kia_one PySem.W.kitx_float I.kIn True.intro e (fun z => nomatch z) h
  | @lst a xs ea =>
    cases (show u = Value.ref a from rx)
    obtain ⟨_, _, n, _, h1⟩ := (show ObjOk X.prog X.w H s.heap a (.lst xs) from I.hok a _ ea)
    exact PySem.W.kia_one PySem.W.kitx_list I.kIn ⟨_, h1, rfl⟩ e (fun z => nomatch z) h
  | @frz a ob xs ea =>
    cases (show u = Value.ref a from rx)
    obtain ⟨_, _, _, n, _, h1⟩ := (show ObjOk X.prog X.w H s.heap a (.frz ob (.lst xs)) from I.hok a _ ea)
    exact PySem.W.kia_one PySem.W.kitx_list I.kIn ⟨_, h1, rfl⟩ e (fun z => nomatch z) h
  | @tup a xs ea =>
    cases (show u = Value.ref a from rx)
    obtain ⟨_, _, _, p⟩ := (show ObjOk X.prog X.w H s.heap a (.tup xs) from I.hok a _ ea)
    obtain ⟨o, h1, h2, _⟩ := p
    exact PySem.W.kia_one PySem.W.kitx_tuple I.kIn ⟨o, h1, h2⟩ e (fun z => nomatch z) h
  | @dK a kvs ea =>
    cases (show u = Value.ref a from rx)
    obtain ⟨_, _, vs, _, p⟩ := (show ObjOk X.prog X.w H s.heap a (.dK kvs) from I.hok a _ ea)
    obtain ⟨o, es, ep, h1, h2, _⟩ := p
    exact PySem.W.kia_one PySem.W.kitx_dict I.kIn ⟨o, h1, h2.1⟩ e (fun z => nomatch z) h
  | @dT a kvs ea =>
    cases (show u = Value.ref a from rx)
    exact (show False from I.hok a _ ea).elim
  | @ins a C dx fs ea cl ha hn htk hm =>
    cases (show u = Value.ref a from rx)
    obtain ⟨mA, O, _⟩ := ins_get I.hok ea
    obtain ⟨od, J, _⟩ := O.look
    exact PySem.W.kia_one (PySem.W.kitx_own (cl.get _) cl.hd ha hn htk hm) I.kIn J e (fun z => nomatch z) h
end
end L2

namespace L2
open PySem PySem.Spec PyProof.Rows

/-! ### room -/
structure Room (k : Nat) (A : Around) : Prop where
  hd : A.handled = none
  dp : A.depth + 3 * k + 5 < recursionLimit
  un : A.units + 16 * k + 200 < cLine
theorem Room.mono {j k : Nat} {A : Around} (r : Room k A) (h : j ≤ k) : Room j A := ⟨r.hd, by have := r.dp; omega, by have := r.un; omega⟩
theorem Room.deeper {k : Nat} {A : Around} (r : Room (k + 1) A) (env : Env) : Room k (A.deeper env) :=
  ⟨r.hd, by have := r.dp; show A.depth + 1 + 3 * k + 5 < _; omega, by have := r.un; show A.units + 3 + 16 * k + 200 < _; omega⟩
theorem make_depth {A : Around} {C : Addr} {us : List Value} {kw : List (Str × Value)} : (A.under (.builtin "type.__call__" ⟨.ref C :: us, kw⟩)).depth = A.depth + 1 := by
  first | rfl | simp [Around.under, Code.weight, Code.isCreation, Code.isGuard, Code.isCaller, Code.frames, Code.isFrame, guardIds]
theorem make_units {A : Around} {C : Addr} {us : List Value} {kw : List (Str × Value)} : (A.under (.builtin "type.__call__" ⟨.ref C :: us, kw⟩)).units = A.units + 1 := by
  first | rfl | simp [Around.under, Code.cUnits, Code.frames, Code.isFrame]
theorem Room.make {k : Nat} {A : Around} (r : Room (k + 1) A) (C : Addr) (us : List Value) (kw : List (Str × Value)) : Room k (A.under (.builtin "type.__call__" ⟨.ref C :: us, kw⟩)) :=
  ⟨r.hd, by have := r.dp; rw [make_depth]; omega, by have := r.un; rw [make_units]; omega⟩
theorem Room.depth {k : Nat} {A : Around} (r : Room k A) : A.depth < recursionLimit := by have := r.dp; omega
theorem Room.units0 {k : Nat} {A : Around} (r : Room k A) : A.units < cLine := by have := r.un; omega

/-! ### argument lists and displays -/
def tNil : TA := fun _ H Q => Q [] H
def tCons (ta : TE) (tr : TA) : TA := fun σ H Q => ta σ H fun x H1 => tr σ H1 fun xs H2 => Q (x :: xs) H2
section
variable {X : Cx} {e : Expr} {es : List Expr} {te : TE} {t : TA} {pos : Pos}
theorem pa_nil : PA X [] tNil := fun _ _ _ _ H Q I h => Calls.spliced_nil ⟨[], H, I, .nil, h⟩
theorem pa_cons (ha : PE X e te) (hr : PA X es t) (hs : starEach (e :: es) X.env = (false, eval e X.env) :: starEach es X.env := by rfl) : PA X (e :: es) (tCons te t) := by
  intro pos pins s σ H Q I h
  rw [hs]
  show wpAny _ _ (spliced ((false, eval e X.env) :: backTo pos (starEach es X.env))) _ _ s
  refine Calls.spliced_cons (thn (ha pins s σ H _ I h) fun u s1 ⟨x, H1, I1, r1, q1⟩ => ?_)
  exact thn (hr pos pins s1 σ H1 _ I1 q1) fun us s2 ⟨xs, H2, I2, r2, q2⟩ => ⟨x :: xs, H2, I2, .cons r1 r2, q2⟩

/-- a tuple, a list of written items -/
def tTup (t : TA) : TE := fun σ H Q => t σ H fun xs H1 => xs.length ≤ sizeLine ∧ ∀ p, H1 p = none → Q (.ref p) (upd H1 p (.tup xs))
def tLst (t : TA) : TE := fun σ H Q => t σ H fun xs H1 => xs.length ≤ sizeLine ∧ ∀ p, H1 p = none → Q (.ref p) (upd H1 p (.lst xs))
theorem pe_tup {x1} (h : PA X es t) : PE X (.Tuple es x1 pos) (tTup t) := by
  intro pins s σ H Q I hq
  refine wpAny_Tuple_spliced (thn (h pos pins s σ H _ I hq) fun us s1 ⟨xs, H1, I1, r, z, q⟩ => ⟨by rw [← r.length]; exact z, ?_⟩)
  have hf : H1 s1.heap.objs.size = none := I1.hok.fresh (Nat.le_refl _)
  refine ⟨.ref s1.heap.objs.size, upd H1 s1.heap.objs.size (.tup xs), I1.laid (t' := s1.toks) (fun b u e => Heap.get?_push_of_some _ e) (Nat.le_refl _) ?_, rfl, q _ hf⟩
  exact ⟨z, us, r, ⟨_, Heap.get?_push_size _ rfl, rfl, _, rfl⟩⟩
theorem pe_lst (h : PA X es t) : PE X (.List es pos) (tLst t) := by
  intro pins s σ H Q I hq
  refine wpAny_List_spliced (thn (h pos pins s σ H _ I hq) fun us s1 ⟨xs, H1, I1, r, z, q⟩ => ⟨by rw [← r.length]; exact z, ?_⟩)
  have hf : H1 s1.heap.objs.size = none := I1.hok.fresh (Nat.le_refl _)
  refine ⟨.ref s1.heap.objs.size, upd H1 s1.heap.objs.size (.lst xs), I1.laid (t' := s1.toks) (fun b u e => Heap.get?_push_of_some _ e) (Nat.le_refl _) ?_, rfl, q _ hf⟩
  exact ⟨z, us, 0, r, Heap.get?_push_size _ rfl⟩
end

/-! ### what a def promises -/
/-- a def's promise: the bound arguments in the parameters' order, the heap, the wanted end, the wanted exception -/
abbrev Sp := List V → Hp → VK → XK → Prop
/-- how an exception lies behind a call (file 08 gives it): the callers' frames, abstract heap and state ahead of the call, the wish, the exception, the state -/
abbrev CXT := List Env → Hp → Shared → XK → Value → Shared → Prop

/-- the state at a call -/
structure Env0 (P : Program) (w : World) (K : PySem.W.Frag) (mg : Str → Option Value) (base : Heap) (A : Around) (outer : List Env) (s : Shared) (H : Hp) : Prop where
  frames : A.frames = some outer
  mod : Mod K mg base
  bs : ∀ b o, base.get? b = some o → s.heap.get? b = some o ∧ H b = none
  bsz : base.objs.size ≤ s.heap.objs.size
  funs : s.heap.FunFrames base outer
  frf : ∀ b ∈ frs outer, H b = none
  hok : HOk P w H s.heap
  bare : AllBare s.gens
/-- a call's end -/
def CE (outer : List Env) (P : Program) (w : World) (H : Hp) (s : Shared) (Q : VK) (u : Value) (s' : Shared) : Prop :=
  ∃ v H', s'.os = s.os ∧ AllBare s'.gens ∧ Un (frs outer) [] H H' s.heap s'.heap ∧ HOk P w H' s'.heap ∧ RelV v u ∧ Q v H'
def CR (CX : CXT) (outer : List Env) (P : Program) (w : World) (H : Hp) (s : Shared) (Q : VK) (E : XK) (r : Result) (s' : Shared) : Prop :=
  match r with
  | .ok (.ret u) => CE outer P w H s Q u s'
  | .ok _ => False
  | .error e => CX outer H s E e s'
structure FnOk (P : Program) (w : World) (K : PySem.W.Frag) (mg : Str → Option Value) (base : Heap) (CX : CXT) (k : Nat) (f : Addr) (fd : FuncData) (ps : List Str) (sp : Sp) : Prop where
  len : ∀ vs H Q E, sp vs H Q E → vs.length = ps.length
  run : ∀ (A : Around) (outer : List Env) (s : Shared) (H : Hp) (args : Args) (us : List Value) (vs : List V) (Q : VK) (E : XK), Room k A → Env0 P w K mg base A outer s H → BindsTo s fd args (ps.zip us) → Vals vs us → sp vs H Q E →
    codeAny (model P w) A (.call (.ref f) args) (CR CX outer P w H s Q E) s
theorem FnOk.mono {P : Program} {w : World} {K : PySem.W.Frag} {mg : Str → Option Value} {base : Heap} {CX : CXT} {j k : Nat} {f : Addr} {fd : FuncData} {ps : List Str} {sp : Sp} (F : FnOk P w K mg base CX j f fd ps sp) (h : j ≤ k) :
    FnOk P w K mg base CX k f fd ps sp := ⟨F.len, fun A outer s H args us vs Q E hr => F.run A outer s H args us vs Q E (hr.mono h)⟩
/-- a weaker promise -/
theorem FnOk.imp {P : Program} {w : World} {K : PySem.W.Frag} {mg : Str → Option Value} {base : Heap} {CX : CXT} {k : Nat} {f : Addr} {fd : FuncData} {ps : List Str} {sp sp' : Sp} (F : FnOk P w K mg base CX k f fd ps sp)
    (h : ∀ vs H Q E, sp' vs H Q E → sp vs H Q E) : FnOk P w K mg base CX k f fd ps sp' :=
  ⟨fun vs H Q E q => F.len vs H Q E (h _ _ _ _ q), fun A outer s H args us vs Q E hr he hb hv hs => F.run A outer s H args us vs Q E hr he hb hv (h _ _ _ _ hs)⟩

theorem Env0.make {P : Program} {w : World} {K : PySem.W.Frag} {mg : Str → Option Value} {base : Heap} {A : Around} {outer : List Env} {s : Shared} {H : Hp} (e : Env0 P w K mg base A outer s H) (C : Addr) (us : List Value) (kw : List (Str × Value)) :
    Env0 P w K mg base (A.under (.builtin "type.__call__" ⟨.ref C :: us, kw⟩)) outer s H := ⟨by first | exact e.frames | (simpa [Around.under, Code.envs, Code.isFrame, pushEnvs] using e.frames), e.mod, e.bs, e.bsz, e.funs, e.frf, e.hok, e.bare⟩
section
variable {X : Cx} {pins : List (Addr × Obj)} {σ : St} {H : Hp} {s s' : Shared}
/-- from a body: what a callee wants -/
theorem Inv.env0 (I : Inv X pins σ H s) : Env0 X.prog X.w X.K X.mg X.base X.A X.stack s H :=
  ⟨I.ok.frames, I.ok.mod, I.bs, Nat.le_trans I.ok.bsz I.sz, I.stack, I.stkFree, I.hok, I.bare⟩
/-- behind a call -/
theorem Inv.after {Q : VK} {u : Value} (I : Inv X pins σ H s) (h : CE X.stack X.prog X.w H s Q u s') : EP X pins σ Q u s' := by
  obtain ⟨v, H', os, bare, un, hok, r, q⟩ := h
  obtain ⟨hh, g, d, t, os'⟩ := s'
  obtain rfl : os' = s.os := os
  exact ⟨v, H', I.call (h' := hh) (g' := g) (d' := d) (t' := t) (ch := []) un hok bare (fun b z => absurd z (by simp)), r, q⟩
end

/-! ### calls -/
/-- f(..): the written arguments, then the defaults dvs; E: what is wanted of an exception -/
def tCall (sp : Sp) (dvs : List V) (E : XK) (t : TA) : TE := fun σ H Q => t σ H fun vs H1 => sp (vs ++ dvs) H1 Q E
/-- how the parameters are bound: us the positional arguments, kw the keywords' values by name, ds the defaults that fill up -/
def Binds (K : PySem.W.Frag) (fd : FuncData) (ps : List Str) (ds : List Value) : Prop :=
  ∀ (s : Shared) (us : List Value), K.In s.heap → (us ++ ds).length = ps.length → BindsTo s fd ⟨us, []⟩ (ps.zip (us ++ ds))
/-- every parameter is given -/
theorem Binds.all {K : PySem.W.Frag} {fd : FuncData} {ps : List Str} (h : ∀ us : List Value, us.length = ps.length → bindArgs fd ⟨us, []⟩ = pure (ps.zip us)) : Binds K fd ps [] := fun s us _ hl => by
  rw [List.append_nil] at hl ⊢
  exact .of_eq (h us hl)

/-- an exception of a callee reaches what this body wants of exceptions -/
def Passes (CX : CXT) (X : Cx) (E : XK) : Prop := ∀ (pins : List (Addr × Obj)) (σ : St) (H : Hp) (s : Shared) (e : Value) (s' : Shared), Inv X pins σ H s → CX X.stack H s E e s' → X.xe e s'

section
variable {X : Cx} {CX : CXT} {k : Nat} {f C : Addr} {fd : FuncData} {ps : List Str} {sp : Sp} {dvs : List V} {ds : List Value} {E : XK} {x m : Str} {p pos apos : Pos} {e o : Expr} {es : List Expr} {ta : TE} {t : TA}

/-- the callee runs -/
theorem run_fn {pins : List (Addr × Obj)} {σ : St} {H : Hp} {s : Shared} {Q : VK} {us : List Value} {vs : List V} (F : FnOk X.prog X.w X.K X.mg X.base CX k f fd ps sp) (hr : Room k X.A) (hb : Binds X.K fd ps ds) (hd : Vals dvs ds) (hx : Passes CX X E)
    (I : Inv X pins σ H s) (r : Vals vs us) (h : sp (vs ++ dvs) H Q E) : wpAny (model X.prog X.w) X.A (call (.ref f) us) (EP X pins σ Q) X.xe s := by
  have r2 : Vals (vs ++ dvs) (us ++ ds) := r.append hd
  have hl : (us ++ ds).length = ps.length := by rw [← r2.length]; exact F.len _ _ _ _ h
  refine wpAny_call (codeAny_mono (F.run X.A X.stack s H ⟨us, []⟩ (us ++ ds) (vs ++ dvs) Q E hr I.env0 (hb s us I.kIn hl) r2 h) fun r s' hq => ?_)
  cases r with
  | error e => exact hx pins σ H s e s' I hq
  | ok fl =>
    cases fl with
    | ret u => exact I.after hq
    | next => exact False.elim hq
    | brk => exact False.elim hq
    | cont => exact False.elim hq

theorem pe_call (F : FnOk X.prog X.w X.K X.mg X.base CX k f fd ps sp) (hr : Room k X.A) (hg : Gl X x) (hm : X.mg x = some (.ref f)) (hk : PySem.W.keepIn X.K (.ref f) = true) (hb : Binds X.K fd ps ds) (hd : Vals dvs ds) (hx : Passes CX X E)
    (ha : PA X (e :: es) t) (hdb : (x == ("__debug__" : Str)) = false := by decide) (he : starEach (e :: es) X.env = (false, eval e X.env) :: starEach es X.env := by rfl) (hpl : (backTo pos (starEach es X.env)).any (·.1) = false := by rfl) :
    PE X (.Call (.Name x p) (e :: es) [] pos) (tCall sp dvs E t) := by
  intro pins s σ H Q I h
  refine wpAny_Call_Name_kw (ld_glob I hg hm ?_ hdb)
  refine PySem.W.callWith_K (h₀ := X.base) I.ok.mod.kin hk (thn (ha pos pins s σ H _ I h) fun us s1 ⟨vs, H1, I1, r, q⟩ => ⟨I1.kIn, ?_⟩) he hpl
  exact run_fn F hr hb hd hx I1 r q
/-- what a class must have to be made -/
structure Mk (K : PySem.W.Frag) (C f : Addr) : Prop where
  makes : PySem.W.makesIn K C = true
  init : PySem.W.findIn K (.ref C) "__init__" = some (some (.ref f))
  fn : PySem.W.isFn K (.ref f) = true
  kp : PySem.W.keepIn K (.ref C) = true

theorem run_make {pins : List (Addr × Obj)} {σ : St} {H : Hp} {s : Shared} {Q : VK} {us : List Value} {vs : List V} (M : Mk X.K C f) (F : FnOk X.prog X.w X.K X.mg X.base CX k f fd ps sp) (hr : Room (k + 1) X.A) (hb : Binds X.K fd ps ds) (hd : Vals dvs ds)
    (hx : Passes CX X E) (I : Inv X pins σ H s) (r : Vals vs us)
    (h : ∀ x dx, H x = none → H dx = none → dx ≠ x → sp (.ref x :: (vs ++ dvs)) (upd (upd H dx (.own x)) x (.ins C dx [])) (fun v H2 => v = .non ∧ Q (.ref x) H2) E) :
    wpAny (model X.prog X.w) X.A (call (.ref C) us) (EP X pins σ Q) X.xe s := by
  have hq := h (s.heap.objs.size + 1) s.heap.objs.size (I.hok.fresh (Nat.le_succ _)) (I.hok.fresh (Nat.le_refl _)) (Nat.ne_of_lt (Nat.lt_succ_self _))
  have I2 := Inv.made (C := C) I
  have r2 : Vals (V.ref (s.heap.objs.size + 1) :: (vs ++ dvs)) (Value.ref (s.heap.objs.size + 1) :: (us ++ ds)) := .cons rfl (r.append hd)
  have hl : (Value.ref (s.heap.objs.size + 1) :: us ++ ds).length = ps.length := by
    have e := r2.length
    rw [F.len _ _ _ _ hq] at e
    exact e.symm
  refine wpAny_call (make_map (f := f) I.kIn M.makes M.init (beq_iff_eq.mp M.fn) (codeAny_mono (F.run _ X.stack _ _ ⟨Value.ref (s.heap.objs.size + 1) :: us, []⟩ (Value.ref (s.heap.objs.size + 1) :: (us ++ ds)) _ _ E (hr.make C us [])
    (I2.env0.make C us []) (hb _ (Value.ref (s.heap.objs.size + 1) :: us) I2.kIn hl) r2 hq) fun r s' hq' => ?_))
  cases r with
  | error e => exact hx pins σ _ _ e s' I2 hq'
  | ok fl =>
    cases fl with
    | ret u =>
      obtain ⟨v, H', I3, rv, ev, q3⟩ := I2.after hq'
      subst ev
      exact ⟨rv, ⟨V.ref (s.heap.objs.size + 1), H', I3, rfl, q3⟩⟩
    | next => exact False.elim hq'
    | brk => exact False.elim hq'
    | cont => exact False.elim hq'
end

/-! ### keywords -/
section
variable {X : Cx} {CX : CXT} {k : Nat} {f C : Addr} {fd : FuncData} {ps ks : List Str} {sp : Sp} {E : XK} {x m : Str} {p pos apos kpos : Pos} {e o : Expr} {es : List Expr} {kws : List Keyword} {te ta : TE} {t tk : TA} {nm : Option Str}
variable {g : List Value → List Value → List Value} {gV : List V → List V → List V}
end

/-! ### a def's body keeps its promise -/
/-- names: the parameters first -/
structure FnScope (N P : List Str) (sc : Scope) : Prop where
  kind : sc.kind = .function
  co : sc.isCoroutine = false
  gen : sc.isGenerator = false
  nd : N.Nodup
  pre : N.take P.length = P
  par : ∀ x ∈ P, sc.names.lookup x = some .local ∨ sc.names.lookup x = some .cell
  nofree : ∀ y ∈ sc.names, y.2 ≠ .free

theorem bindL_out {kindOf : Str → Option NameKind} {x : Str} : ∀ {binds : List (Str × Value)} {m : Str → Option Value}, (∀ v, (x, v) ∉ binds) → bindL kindOf binds m x = m x
  | [], _, _ => rfl
  | (n, v) :: r, m, h => by
    unfold bindL
    rw [bindL_out fun w hw => h w (List.mem_cons_of_mem _ hw)]
    split
    · have : x ≠ n := by rintro rfl; exact h v List.mem_cons_self
      simp [this]
    · rfl
theorem bindC_out {kindOf : Str → Option NameKind} {x : Str} : ∀ {binds : List (Str × Value)} {m : Str → Option Value}, (∀ v, (x, v) ∉ binds) → bindC kindOf binds m x = m x
  | [], _, _ => rfl
  | (n, v) :: r, m, h => by
    unfold bindC
    rw [bindC_out fun w hw => h w (List.mem_cons_of_mem _ hw)]
    split
    · rfl
    · have : x ≠ n := by rintro rfl; exact h v List.mem_cons_self
      simp [this]
theorem bindL_get {kindOf : Str → Option NameKind} {x : Str} {v : Value} : ∀ {P : List Str} {vs : List Value} {i : Nat} {m : Str → Option Value}, P.Nodup → P[i]? = some x → vs[i]? = some v → kindOf x = some .local →
    bindL kindOf (P.zip vs) m x = some v
  | [], _, _, _, _, h, _, _ => by simp at h
  | _ :: _, [], _, _, _, _, h, _ => by simp at h
  | p :: P, w :: vs, 0, m, nd, h1, h2, hk => by
    simp at h1 h2; subst h1; subst h2
    show bindL kindOf ((p, w) :: P.zip vs) m p = _
    unfold bindL
    rw [bindL_out fun v hv => (List.nodup_cons.mp nd).1 (List.of_mem_zip hv).1, if_pos hk]
    simp
  | p :: P, w :: vs, i + 1, m, nd, h1, h2, hk => by
    show bindL kindOf ((p, w) :: P.zip vs) m x = _
    unfold bindL
    exact bindL_get (i := i) (List.nodup_cons.mp nd).2 (by simpa using h1) (by simpa using h2) hk
theorem bindC_get {kindOf : Str → Option NameKind} {x : Str} {v : Value} : ∀ {P : List Str} {vs : List Value} {i : Nat} {m : Str → Option Value}, P.Nodup → P[i]? = some x → vs[i]? = some v → kindOf x ≠ some .local →
    bindC kindOf (P.zip vs) m x = some v
  | [], _, _, _, _, h, _, _ => by simp at h
  | _ :: _, [], _, _, _, _, h, _ => by simp at h
  | p :: P, w :: vs, 0, m, nd, h1, h2, hk => by
    simp at h1 h2; subst h1; subst h2
    show bindC kindOf ((p, w) :: P.zip vs) m p = _
    unfold bindC
    rw [bindC_out fun v hv => (List.nodup_cons.mp nd).1 (List.of_mem_zip hv).1, if_neg hk]
    simp
  | p :: P, w :: vs, i + 1, m, nd, h1, h2, hk => by
    show bindC kindOf ((p, w) :: P.zip vs) m x = _
    unfold bindC
    exact bindC_get (i := i) (List.nodup_cons.mp nd).2 (by simpa using h1) (by simpa using h2) hk

/-- the names' values at the entry -/
def start (N : List Str) (vs : List V) : St := vs.map some ++ List.replicate (N.length - vs.length) none

/-- the context of a def's body, at its entry; an exception leaves the frame, then lies as CX says -/
def cxOf (CX : CXT) (P : Program) (w : World) (K : PySem.W.Frag) (mg : Str → Option Value) (base : Heap) (N : List Str) (qual : Str) (scope : Scope) (f : Addr) (cd : Value) (A : Around) (outer : List Env) (s : Shared) (H : Hp) (E : XK) : Cx where
  prog := P
  w := w
  K := K
  mg := mg
  base := base
  A := A.deeper (envOfC qual scope s.heap.objs.size f cd)
  N := N
  s₀ := s
  H₀ := H
  env := envOfC qual scope s.heap.objs.size f cd
  outer := outer
  stack := envOfC qual scope s.heap.objs.size f cd :: outer
  ex := []
  calm := true
  fn := fun _ => true
  pn := []
  xe := fun e s' => wpAny (model P w) (A.deeper (envOfC qual scope s.heap.objs.size f cd)) (leaving (envOfC qual scope s.heap.objs.size f cd) e) (fun _ s'' => CX outer H s E e s'') (fun e' s'' => CX outer H s E e' s'') s'

theorem cell_has {sc : Scope} {n : Nat} {x : Str} (h : sc.names.lookup x = some .cell) : ∃ c, (cellsFrom n sc.names []).lookup x = some c := by
  have q := PySem.W.cellsFrom_some sc.names n [] (.inl h)
  exact Option.isSome_iff_exists.mp q

theorem inv_start {CX : CXT} {P : Program} {w : World} {K : PySem.W.Frag} {mg : Str → Option Value} {base : Heap} {N ps : List Str} {qual : Str} {scope : Scope} {f : Addr} {cd : Value} {A : Around} {outer : List Env} {s s1 : Shared} {H : Hp} {E : XK} {us : List Value} {vs : List V}
    (S : FnScope N ps scope) (hd : A.handled = none) (e0 : Env0 P w K mg base A outer s H) (hl : vs.length = ps.length) (r : Vals vs us)
    (x : InCallC s s.heap.objs.size (bindL (envOfC qual scope s.heap.objs.size f cd).kindOf (ps.zip us) fun _ => none) (cellsFrom (s.heap.objs.size + 1) scope.names []) (bindC (envOfC qual scope s.heap.objs.size f cd).kindOf (ps.zip us) fun _ => none) s1) :
    Inv (cxOf CX P w K mg base N qual scope f cd A outer s H E) [] (start N vs) H s1 := by
  have hpl : ps.length ≤ N.length := by have := congrArg List.length S.pre; rw [List.length_take] at this; omega
  obtain ⟨h1, tk, rfl, hk⟩ := x.done
  have noA : ∀ b : Addr, b ∉ (cxOf CX P w K mg base N qual scope f cd A outer s H E).ex := fun b z => absurd (show b ∈ ([] : List Addr) from z) (by simp)
  refine ⟨⟨e0.mod, S.kind, rfl, rfl, Nat.le_refl _, fun y z c h1 h2 => ?_, fun y hy => ?_, fun y c _ h => ?_, fun _ => hd, Around.frames_deeper e0.frames, .inr ⟨rfl, rfl⟩, fun b z => absurd z (noA b), e0.bs, e0.bsz, fun b _ _ => noA b, fun b z => absurd z (noA b), e0.funs, e0.frf⟩,
    rfl, e0.bare, Un.kept hk, ⟨_, x.toInCall.ns, fun i y v h1 h2 h3 => ?_⟩, fun y c h => ⟨_, x.cell y c h⟩, e0.hok.fresh (Nat.le_refl _), fun y c h => ?_, fun p hp => absurd (show p ∈ ([] : List (Addr × Obj)) from hp) (by simp), e0.hok.kept hk, ?_⟩
  · exact name_of_addr x.apart (PySem.mem_of_lookup h1) (PySem.mem_of_lookup h2)
  · have hy : scope.names.lookup y = some .cell ∨ scope.names.lookup y = some .free := hy
    rcases hy with hy | hy
    · exact cell_has hy
    · exact absurd rfl (S.nofree _ (PySem.mem_of_lookup hy))
  · exact Nat.le_of_lt (x.above y c (PySem.mem_of_lookup h))
  · have hi : i < vs.length := by
      unfold start at h2
      by_cases hi : i < vs.length
      · exact hi
      · rw [List.getElem?_append_right (by simpa using hi)] at h2
        rw [List.getElem?_replicate] at h2
        split at h2 <;> cases h2
    have ha : vs[i]? = some v := by
      unfold start at h2
      rw [List.getElem?_append_left (by simpa using hi), List.getElem?_map] at h2
      cases e : vs[i]? with
      | none => rw [e] at h2; cases h2
      | some a => rw [e] at h2; cases h2; rfl
    obtain ⟨u, hu, rv⟩ := r.get ha
    have hp : ps[i]? = some y := by
      rw [← S.pre, List.getElem?_take_of_lt (by omega)]; exact h1
    have ndP : ps.Nodup := by rw [← S.pre]; exact S.nd.sublist (List.take_sublist _ _)
    refine ⟨u, rv, ?_⟩
    rcases S.par y (List.mem_of_getElem? hp) with k | k
    · exact .inl ⟨k, bindL_get ndP hp hu k⟩
    · obtain ⟨c, e⟩ := cell_has (n := s.heap.objs.size + 1) k
      refine .inr ⟨.inl k, c, e, ?_⟩
      have q := x.cell y c e
      rw [bindC_get ndP hp hu (by show scope.names.lookup y ≠ _; rw [k]; decide)] at q
      exact q
  · exact e0.hok.fresh (Nat.le_of_lt (x.above y c (PySem.mem_of_lookup h)))
  · unfold start
    show _ = N.length
    rw [List.length_append, List.length_map, List.length_replicate]
    omega

/-- THE RULE: a def (or a method) of the text, by its body. The body's reading t is chosen for each entry; it is run at the parameters' values -/
theorem fn_of {CX : CXT} {P : Program} {w : World} {K : PySem.W.Frag} {mg : Str → Option Value} {base : Heap} {k : Nat} {f : Addr} {name qual : Str} {params : Arguments} {body : List Stmt} {scope : Scope} {dV kV doc pm cdv ct oc : Value} {an od : Option Addr}
    {osl : Array (Option Value)} {N ps : List Str} {sp : Sp} (lk : K.lookup f = some ⟨oc, od, .func (PySem.W.fnOf name qual params body scope dV kV doc pm an cdv ct), osl⟩) (hcd : PySem.W.codeIn K cdv qual = true) (S : FnScope N ps scope)
    (len : ∀ vs H Q E, sp vs H Q E → vs.length = ps.length)
    (hbody : ∀ (A : Around) (outer : List Env) (s : Shared) (H : Hp) (vs : List V) (Q : VK) (E : XK), Room k (A.deeper (envOfC qual scope s.heap.objs.size f cdv)) → sp vs H Q E →
      ∃ t, PSs (cxOf CX P w K mg base N qual scope f cdv A outer s H E) body t ∧ t { nx := fun _ H' => Q .non H', rt := Q } (start N vs) H) :
    FnOk P w K mg base CX (k + 1) f (PySem.W.fnOf name qual params body scope dV kV doc pm an cdv ct) ps sp := by
  refine ⟨len, fun A outer s H args us vs Q E hr e0 hb r hsp => ?_⟩
  have hl := len _ _ _ _ hsp
  have KX : K.In s.heap := e0.mod.kin.keeps fun b o e => (e0.bs b o e).1
  have lim : s.heap.NoLimit := e0.mod.nolimit.keeps fun b o e => (e0.bs b o e).1
  have hkind : ∀ y ∈ ps.zip us, scope.names.lookup y.1 = some .local ∨ (scope.names.lookup y.1 = some .cell ∧ ((cellsFrom (s.heap.objs.size + 1) scope.names []).lookup y.1).isSome = true) := fun ⟨n, v⟩ hy => by
    rcases S.par n (List.of_mem_zip hy).1 with q | q
    · exact .inl q
    · exact .inr ⟨q, PySem.W.cellsFrom_some _ _ _ (.inl q)⟩
  refine codeAny_call_function hr.depth (KX _ _ lk) rfl S.co S.gen rfl (PySem.W.codeRec_of KX hcd) (hb _ _ _ _ ?_)
  refine wpAny_newFunctionEnv_cells S.kind hkind fun env he s1 x => ?_
  subst he
  refine ⟨lim.keeps x.toInCall.keep, codeAny_func ?_⟩
  obtain ⟨t, ht, hq⟩ := hbody A outer s H vs Q E (hr.deeper _) hsp
  have I : Inv (cxOf CX P w K mg base N qual scope f cdv A outer s H E) [] (start N vs) H s1 := inv_start S hr.hd e0 hl r x
  refine wpAny_mono (ht [] s1 (start N vs) H _ I hq) (fun fl s' hs => ?_) fun e s' hs => hs
  have fin : ∀ {σ' : St} {H' : Hp} {v : V} {u : Value}, Inv (cxOf CX P w K mg base N qual scope f cdv A outer s H E) [] σ' H' s' → RelV v u → Q v H' → CE outer P w H s Q u s' :=
    fun {σ' H' v u} J rv q => ⟨v, H', J.os, J.bare, J.base, J.hok, rv, q⟩
  cases fl with
  | ret u =>
    obtain ⟨v, σ', H', J, rv, q⟩ := hs
    exact fin J rv q
  | next =>
    obtain ⟨σ', H', J, q⟩ := hs
    exact fin (v := V.non) (u := Value.none) J rfl q
  | brk =>
    obtain ⟨_, _, _, q⟩ := hs
    exact False.elim q
  | cont =>
    obtain ⟨_, _, _, q⟩ := hs
    exact False.elim q
end L2

namespace L2
open PySem PySem.Spec PyProof.Rows
section
variable {X : Cx} {x : Str} {p pos : Pos} {e : Expr} {es : List Expr} {t : TA} {id T : String} {r : List V → Hp → VK → Prop}

def tCB (r : List V → Hp → VK → Prop) (t : TA) : TE := fun σ H Q => t σ H fun vs H1 => r vs H1 Q
/-- f(e, ..), f a built-in function -/
theorem pe_callB (hc : CallR X (.builtin id) r) (hg : Gl X x) (hm : X.mg x = none) (hv : bootBuiltins x = some (.builtin id)) (ha : PA X (e :: es) t) (hn : x ≠ "__name__" := by decide) (hdb : (x == ("__debug__" : Str)) = false := by decide)
    (he : starEach (e :: es) X.env = (false, eval e X.env) :: starEach es X.env := by rfl) (hpl : (backTo pos (starEach es X.env)).any (·.1) = false := by rfl) : PE X (.Call (.Name x p) (e :: es) [] pos) (tCB r t) := by
  intro pins s σ H Q I h
  refine wpAny_Call_Name_kw (ld_blt I hg hm hv ?_ hn hdb)
  exact PyProof.Rows.callWith_builtin1 (thn (ha pos pins s σ H _ I h) fun us s1 ⟨vs, H1, I1, r1, q1⟩ => hc pins s1 σ H1 vs us Q I1 r1 q1) he hpl
/-- T(e, ..), T a built-in type -/
theorem pe_callTy (hc : CallR X (.type T) r) (hg : Gl X x) (hm : X.mg x = none) (hv : bootBuiltins x = some (.type T)) (ha : PA X (e :: es) t) (hn : x ≠ "__name__" := by decide) (hdb : (x == ("__debug__" : Str)) = false := by decide)
    (he : starEach (e :: es) X.env = (false, eval e X.env) :: starEach es X.env := by rfl) (hpl : (backTo pos (starEach es X.env)).any (·.1) = false := by rfl) : PE X (.Call (.Name x p) (e :: es) [] pos) (tCB r t) := by
  intro pins s σ H Q I h
  refine wpAny_Call_Name_kw (ld_blt I hg hm hv ?_ hn hdb)
  exact PyProof.Rows.callWith_type1 (thn (ha pos pins s σ H _ I h) fun us s1 ⟨vs, H1, I1, r1, q1⟩ => hc pins s1 σ H1 vs us Q I1 r1 q1) he hpl
end
end L2

namespace HT
open PySem PyProof.Rows

section
open PySem.SeqAt
open PySem.AutoSeq1 (wpAny_loadPart')
open PySem.MeetsSeq PySem.MeetsSeq2 PySem.MeetsSeq3

end

section
variable {prog : Program} {w : World} {A : Around} {E : Value → Shared → Prop} {s : Shared}

/-! ### t[a:b], not the whole -/
/-- a slice's bound as a place among n (d where it is left out) -/
def sIx (n d : Nat) : Option Int → Nat
  | none => d
  | some v => if v < 0 then (v + (n : Int)).toNat else min v.toNat n
theorem sIx_none (n d : Nat) : sIx n d none = d := rfl
theorem sIx_nat (n d k : Nat) : sIx n d (some (k : Int)) = min k n := by
  show (if (k : Int) < 0 then ((k : Int) + (n : Int)).toNat else min (k : Int).toNat n) = min k n
  rw [if_neg (by omega), Int.toNat_natCast]
end
end HT

namespace L2
open PySem PySem.Spec PyProof.Rows

/-! ### the parts of a slice -/
abbrev TO := St → Hp → (Option Int → Hp → Prop) → Prop
/-- a slice's part (left out, or an int) -/
def PO (X : Cx) (e : Option Expr) (t : TO) : Prop :=
  ∀ (pins : List (Addr × Obj)) (s : Shared) (σ : St) (H : Hp) (Q : Option Int → Hp → Prop), Inv X pins σ H s → t σ H Q →
    wpAny (model X.prog X.w) X.A (evalPart e X.env) (fun u s' => ∃ o H', Inv X pins σ H' s' ∧ IsPart u o ∧ Q o H') X.xe s
def tNoPart : TO := fun _ H Q => Q none H
def tPart (t : TE) : TO := fun σ H Q => t σ H fun x H1 => ∃ i, x = .int i ∧ Q (some i) H1

theorem intsAre_of {ns : List Int} : ∀ {us : List Value}, Vals (ns.map V.int) us → IntsAre us ns := by
  induction ns with
  | nil => intro us r; rw [List.map_nil] at r; cases r; exact .nil
  | cons n ns ih =>
    intro us r
    rw [List.map_cons] at r
    cases r with
    | cons r1 r2 =>
      obtain ⟨t, e⟩ := r1
      subst e
      exact .cons n t (ih r2)

section
variable {X : Cx} {e : Expr} {te : TE} {lo hi : Option Expr} {tl th : TO} {pos p2 : Pos}

theorem po_none : PO X none tNoPart := by
  intro pins s σ H Q I h
  rw [evalPart_none]
  exact wpAny_pure ⟨none, H, I, .none, h⟩
theorem po_some (h : PE X e te) : PO X (some e) (tPart te) := by
  intro pins s σ H Q I hw
  rw [evalPart_some]
  refine thn (h pins s σ H _ I hw) fun u s1 ⟨x, H1, I1, r1, q1⟩ => ?_
  obtain ⟨i, rfl, q⟩ := q1
  obtain ⟨t, rfl⟩ := r1
  exact ⟨some i, H1, I1, .int i t, q⟩

/-- what a slice of a value is, by values: the slice object stands at sl -/
def SlR (X : Cx) (r : V → Option Int → Option Int → Hp → VK → Prop) : Prop :=
  ∀ (pins : List (Addr × Obj)) (s : Shared) (σ : St) (H : Hp) (x : V) (v vl vu : Value) (lo hi : Option Int) (sl : Addr) (Q : VK), Inv X pins σ H s → RelV x v → s.heap.IsSliceOf sl vl vu .none → IsPart vl lo → IsPart vu hi → r x lo hi H Q →
    ∃ T id, typeLookup (.type T) "__getitem__" = pure (some (.builtin id)) ∧ s.TypeIs v T ∧ wpAny (model X.prog X.w) X.A (getItem v (.ref sl)) (EP X pins σ Q) X.xe s
def tSl (r : V → Option Int → Option Int → Hp → VK → Prop) (te : TE) (tl th : TO) : TE := fun σ H Q => te σ H fun x H1 => tl σ H1 fun l H2 => th σ H2 fun u H3 => r x l u H3 Q
/-- a[lo:hi], any a -/
theorem pe_slice {r : V → Option Int → Option Int → Hp → VK → Prop} (hr : SlR X r) (he : PE X e te) (hl : PO X lo tl) (hu : PO X hi th) : PE X (.Subscript e (.Slice lo hi none p2) pos) (tSl r te tl th) := by
  intro pins s σ H Q I h
  refine Subscript_ (thn (he pins s σ H _ I h) fun v s1 ⟨x, H1, I1, r1, q1⟩ => ?_)
  refine wpAny_Slice (thn (hl pins s1 σ H1 _ I1 q1) fun vl s2 ⟨l, H2, I2, pl, q2⟩ => thn (hu pins s2 σ H2 _ I2 q2) fun vu s3 ⟨u, H3, I3, pu, q3⟩ => ?_)
  rw [evalPart_none]
  refine wpAny_pure ?_
  have I4 : Inv X pins σ H3 { s3 with heap := s3.heap.push { cls := .type "slice", data := .fields #[vl, vu, .none] } } := I3.kept (t' := s3.toks) fun b ob q => Heap.get?_push_of_some _ q
  obtain ⟨T, id, hT, ht, hg⟩ := hr pins { s3 with heap := s3.heap.push { cls := .type "slice", data := .fields #[vl, vu, .none] } } σ H3 x v vl vu l u s3.heap.objs.size Q I4 r1 (Heap.IsSliceOf.new ..) pl pu q3
  show wpAny (model X.prog X.w) X.A (subscriptTail e (.Slice lo hi none p2) v (.ref s3.heap.objs.size)) (EP X pins σ Q) X.xe { s3 with heap := s3.heap.push { cls := .type "slice", data := .fields #[vl, vu, .none] } }
  exact tail_any (ops := [.ref s3.heap.objs.size, v]) ht hT hg (by with_unfolding_all rfl)

/-- the items of xs[lo:hi] -/
def cutV (xs : List V) (lo hi : Option Int) : List V := (xs.drop (HT.sIx xs.length 0 lo)).take (HT.sIx xs.length xs.length hi - HT.sIx xs.length 0 lo)
theorem cutV_length (xs : List V) (lo hi : Option Int) : (cutV xs lo hi).length ≤ xs.length := by
  unfold cutV
  rw [List.length_take, List.length_drop]
  omega
/-! ### t < u, t + u -/
end
end L2

namespace L2
open PySem PySem.Spec PyProof.Rows

/-! ### places -/
/-- the place that an index of any sign means -/
def ixN (n : Nat) (i : Int) : Option Nat := if 0 ≤ i then (if i < n then some i.toNat else none) else if -(n : Int) ≤ i then some (i + n).toNat else none
def atI {α : Type} (xs : List α) (i : Int) : Option α := (ixN xs.length i).bind fun j => xs[j]?
theorem ixN_seq {n : Nat} {i : Int} {j : Nat} (h : ixN n i = some j) : seqIndex? i n = some j ∧ j < n ∧ -(n : Int) ≤ i ∧ i < n := by
  unfold ixN at h
  by_cases h0 : 0 ≤ i
  · rw [if_pos h0] at h
    by_cases h1 : i < n
    · rw [if_pos h1] at h
      have e : i.toNat = j := Option.some.inj h
      exact ⟨by rw [seqIndex_of h0 h1, e], by omega, by omega, h1⟩
    · rw [if_neg h1] at h; cases h
  · rw [if_neg h0] at h
    by_cases h1 : -(n : Int) ≤ i
    · rw [if_pos h1] at h
      have e : (i + n).toNat = j := Option.some.inj h
      exact ⟨by rw [seqIndex_neg (by omega) h1, e], by omega, h1, by omega⟩
    · rw [if_neg h1] at h; cases h
theorem atI_get {α : Type} {xs : List α} {i : Int} {v : α} (h : atI xs i = some v) : ∃ j, seqIndex? i xs.length = some j ∧ xs[j]? = some v ∧ j < xs.length ∧ -(xs.length : Int) ≤ i ∧ i < xs.length := by
  unfold atI at h
  cases e : ixN xs.length i with
  | none => rw [e] at h; cases h
  | some j =>
    rw [e] at h
    obtain ⟨h1, h2, h3, h4⟩ := ixN_seq e
    exact ⟨j, h1, h, h2, h3, h4⟩
theorem atI_nat {α : Type} {xs : List α} {j : Nat} {v : α} (h : xs[j]? = some v) : atI xs (j : Int) = some v := by
  have hj : j < xs.length := (List.getElem?_eq_some_iff.mp h).1
  have e : ixN xs.length (j : Int) = some j := by
    unfold ixN
    rw [if_pos (by omega), if_pos (by omega)]; simp
  unfold atI; rw [e]; exact h
theorem atI_last {α : Type} (xs : List α) (v : α) : atI (xs ++ [v]) (-1) = some v := by
  have hl : (xs ++ [v]).length = xs.length + 1 := by simp
  have e : ixN (xs ++ [v]).length (-1) = some xs.length := by
    unfold ixN
    rw [hl, if_neg (by decide), if_pos (by omega)]
    congr 1
    omega
  unfold atI
  rw [e]
  show (xs ++ [v])[xs.length]? = some v
  simp

/-! ### what may be subscripted -/
/-- what stands as an index of a plain subscript -/
def PlainIx (b : Expr) : Prop := ∀ o i, subscripted b false o i = operate [o, i] (getItem o i)
/-- a subscript by values -/
def IxR (X : Cx) (r : R2) : Prop :=
  ∀ (value slice : Expr) (pins : List (Addr × Obj)) (s : Shared) (σ : St) (H : Hp) (x y : V) (v u : Value) (Q : VK), Inv X pins σ H s → RelV x v → RelV y u → r x y H Q →
    subscripted slice false v u = operate [v, u] (getItem v u) → wpAny (model X.prog X.w) X.A (subscriptTail value slice v u) (EP X pins σ Q) X.xe s
/-- a call of a builtin's method by values: the receiver, the arguments -/
def MtR (X : Cx) (id : String) (r : V → List V → Hp → VK → Prop) : Prop :=
  ∀ (pins : List (Addr × Obj)) (s : Shared) (σ : St) (H : Hp) (x : V) (xs : List V) (v : Value) (us : List Value) (Q : VK), Inv X pins σ H s → RelV x v → Vals xs us → r x xs H Q →
    wpAny (model X.prog X.w) X.A (call (.builtin id) (v :: us)) (EP X pins σ Q) X.xe s
section
variable {X : Cx} {a b : Expr} {ta tb : TE} {pos : Pos}
/-- a[b] -/
theorem pe_ix {r : R2} (hr : IxR X r) (ha : PE X a ta) (hb : PE X b tb) (hs : PlainIx b) : PE X (.Subscript a b pos) (tOp r ta tb) := by
  intro pins s σ H Q I h
  exact Subscript_ (binT ha hb I h fun v u s2 x y H2 I2 rx ry q => hr a b pins s2 σ H2 x y v u Q I2 rx ry q (hs _ _))

def rIxL (K : PySem.W.Frag) : R2 := fun x y H Q => ∃ p xs i v, x = .ref p ∧ y = .int i ∧ SqL K H p xs ∧ atI xs i = some v ∧ Q v H
def rIxT (K : PySem.W.Frag) : R2 := fun x y H Q => ∃ p xs i v, x = .ref p ∧ y = .int i ∧ SqT K H p xs ∧ atI xs i = some v ∧ Q v H
theorem ix_list : IxR X (rIxL X.K) := by
  intro value slice pins s σ H x y v u Q I rx ry h hs
  obtain ⟨p, xs, i, z, rfl, rfl, hq, he, q⟩ := h
  cases rx
  obtain ⟨t, rfl⟩ := ry
  obtain ⟨its, r, pl, hz⟩ := I.list hq
  obtain ⟨j, h1, h2, h3, h4, h5⟩ := atI_get he
  obtain ⟨w, ew, rw'⟩ := r.get h2
  have hl := r.length
  have hn := line63
  have fin : EP X pins σ Q w s := ⟨z, H, I, rw', q⟩
  by_cases h0 : 0 ≤ i
  · have hj : i.toNat = j := by
      rw [seqIndex_of h0 h5] at h1
      exact Option.some.inj h1
    exact item_listR pl.isList h0 (by omega) (by rw [hj]; simpa using ew) fin hs
  · have hj : (i + (its.toArray.size : Int)).toNat = j := by
      rw [seqIndex_neg (by omega) h4] at h1
      rw [List.size_toArray, ← hl]
      exact Option.some.inj h1
    exact subscriptTail_builtinR (x := w) pl.isList.typeIs slot_list_getitem.lookup
      (wpAny_getItem_list_neg (Q := fun r s' => r = w ∧ EP X pins σ Q r s') pl.isList (by omega) (by rw [List.size_toArray] <;> omega) (by omega) (by rw [hj]; simpa using ew) ⟨rfl, fin⟩) hs
theorem ix_tup : IxR X (rIxT X.K) := by
  intro value slice pins s σ H x y v u Q I rx ry h hs
  obtain ⟨p, xs, i, z, rfl, rfl, hq, he, q⟩ := h
  cases rx
  obtain ⟨t, rfl⟩ := ry
  obtain ⟨its, r, pl, hz⟩ := I.tuple hq
  obtain ⟨j, h1, h2, h3, h4, h5⟩ := atI_get he
  obtain ⟨w, ew, rw'⟩ := r.get h2
  have hl := r.length
  have hn := line63
  have fin : EP X pins σ Q w s := ⟨z, H, I, rw', q⟩
  exact subscriptTail_builtinR (x := w) pl.typeIs slot_tuple_getitem.lookup
    (getItem_tuple (j := j) (Q := fun r s' => r = w ∧ EP X pins σ Q r s') pl (by omega) (by omega) (by rw [List.size_toArray, ← hl]; exact h1) (by simpa using ew) ⟨rfl, fin⟩) hs
/-! ### xs[i] = v, any sign -/
/-- the list's object behind a store -/
theorem mapSeq_set (its : List Value) (n j : Nat) (u : Value) : Obj.mapSeq (·.setIfInBounds j u) { cls := .type "list", data := .seq its.toArray n } = { cls := .type "list", data := .seq (its.set j u).toArray n } := by
  simp [Obj.mapSeq]
theorem Inv.lst {pins : List (Addr × Obj)} {σ : St} {H : Hp} {s : Shared} {p : Addr} {xs : List V} (I : Inv X pins σ H s) (h : H p = some (.lst xs)) :
    ∃ (its : List Value) (n : Nat), Vals xs its ∧ s.heap.get? p = some { cls := .type "list", data := .seq its.toArray n } ∧ xs.length ≤ sizeLine := by
  obtain ⟨z, its, n, r, e⟩ := I.hok p _ h
  exact ⟨its, n, r, e, z⟩
/-- the list at p is written by an update of its object -/
theorem Inv.lstUpd {pins : List (Addr × Obj)} {σ : St} {H : Hp} {s : Shared} {p : Addr} {xs ys : List V} {its its' : List Value} {n n' : Nat} {f : Obj → Obj} (I : Inv X pins σ H s) (h : H p = some (.lst xs))
    (ho : s.heap.get? p = some { cls := .type "list", data := .seq its.toArray n }) (hf : f { cls := .type "list", data := .seq its.toArray n } = { cls := .type "list", data := .seq its'.toArray n' }) (r : Vals ys its') (hz : ys.length ≤ sizeLine) (t : Nat) :
    Inv X pins σ (upd H p (.lst ys)) { s with heap := s.heap.update p f, toks := t } := by
  have e : (s.heap.update p f).get? p = some { cls := .type "list", data := .seq its'.toArray n' } := by
    rw [Heap.get?_update_self f ho (by rw [hf] <;> rfl), hf]
  refine I.write (x := p) (e := p) (by rw [h]; trivial) (.inl rfl) (fun b u hb q => (Heap.get?_update_other _ _ (Ne.symm hb)).trans q) ⟨_, e⟩ ?_
  exact ⟨hz, its', n', r, e⟩
def rSetL : V → V → V → Hp → (Hp → Prop) → Prop := fun o i v H Q => ∃ p xs k j, o = .ref p ∧ i = .int k ∧ H p = some (.lst xs) ∧ ixN xs.length k = some j ∧ Q (upd H p (.lst (xs.set j v)))
theorem set_list : PSet X rSetL := by
  intro pins s σ H o i v ov iv u Q I ro ri rv h
  obtain ⟨p, xs, k, j, rfl, rfl, hp, hj, q⟩ := h
  cases ro
  obtain ⟨t, rfl⟩ := ri
  obtain ⟨its, n, r, ho, hz⟩ := I.lst hp
  obtain ⟨h1, h2, h3, h4⟩ := ixN_seq hj
  have hl := r.length
  have hn := line63
  have I' : Inv X pins σ (upd H p (.lst (xs.set j v))) { s with heap := s.heap.update p (Obj.mapSeq (·.setIfInBounds j u)) } :=
    I.lstUpd hp ho (mapSeq_set its n j u) (r.set rv j) (by rw [List.length_set]; exact hz) s.toks
  by_cases h0 : 0 ≤ k
  · have hk : k.toNat = j := by
      rw [seqIndex_of h0 h4] at h1
      exact Option.some.inj h1
    exact PySem.W.ki_setAt ho h0 (by omega) (by rw [List.size_toArray, ← hl]; exact h4) (by rw [hk]; exact ⟨_, I', q⟩)
  · have hk : (k + (its.toArray.size : Int)).toNat = j := by
      rw [seqIndex_neg (by omega) h3] at h1
      rw [List.size_toArray, ← hl]
      exact Option.some.inj h1
    exact PySem.W.ki_setBack ho (by omega) (by rw [List.size_toArray, ← hl]; exact h3) (by omega) (by rw [hk]; exact ⟨_, I', q⟩)

/-! ### slices -/
theorem slice_bounds (lo hi : Option Int) (n : Nat) : (sliceBounds lo hi none n).1 = ((HT.sIx n 0 lo : Nat) : Int) ∧ (sliceBounds lo hi none n).2.1 = ((HT.sIx n n hi : Nat) : Int) ∧ (sliceBounds lo hi none n).2.2 = 1 := by
  refine ⟨?_, ?_, rfl⟩
  · cases lo with
    | none => simp [sliceBounds, HT.sIx]
    | some i =>
      simp only [sliceBounds, HT.sIx, Option.getD_none, show (1 : Int) > 0 by decide, if_true]
      by_cases h : i < 0
      · simp only [h, if_true] <;> omega
      · simp only [h, if_false] <;> omega
  · cases hi with
    | none => simp [sliceBounds, HT.sIx]
    | some i =>
      simp only [sliceBounds, HT.sIx, Option.getD_none, show (1 : Int) > 0 by decide, if_true]
      by_cases h : i < 0
      · simp only [h, if_true] <;> omega
      · simp only [h, if_false] <;> omega
theorem slicePick_cut (its : List Value) (lo hi : Option Int) : slicePick its.toArray lo hi none = ((its.drop (HT.sIx its.length 0 lo)).take (HT.sIx its.length its.length hi - HT.sIx its.length 0 lo)).toArray := by
  obtain ⟨h1, h2, h3⟩ := slice_bounds lo hi its.toArray.size
  unfold slicePick
  rw [h1, h2, h3]
  simp only [sliceRange_one, pick_run, List.size_toArray] <;> rfl
/-- xs[lo:hi] of a list: a new list -/
def rSlL (K : PySem.W.Frag) : V → Option Int → Option Int → Hp → VK → Prop := fun x lo hi H Q => ∃ a xs, x = .ref a ∧ SqL K H a xs ∧ ∀ p, H p = none → Q (.ref p) (upd H p (.lst (cutV xs lo hi)))
theorem sl_list : SlR X (rSlL X.K) := by
  intro pins s σ H x v vl vu lo hi sl Q I rx hs pl pu h
  obtain ⟨a, xs, rfl, hx, q⟩ := h
  cases rx
  obtain ⟨its, r, ht, hz⟩ := I.list hx
  have hlen := r.length
  refine ⟨"list", _, slot_list_getitem.lookup, ht.isList.typeIs, ?_⟩
  refine wpAny_getItem_list_slice ht.isList hs pl pu .none (by simp) ?_ (by rw [List.size_toArray] <;> omega)
  rw [slicePick_cut, ← hlen]
  refine ⟨.ref s.heap.objs.size, _, I.laid (t' := s.toks) (o := .lst (cutV xs lo hi)) (fun b ob q => Heap.get?_push_of_some _ q) (Nat.le_refl _) ?_, rfl, q _ (I.hok.fresh (Nat.le_refl _))⟩
  exact ⟨Nat.le_trans (cutV_length xs lo hi) hz, _, 0, (r.drop (HT.sIx xs.length 0 lo)).take (HT.sIx xs.length xs.length hi - HT.sIx xs.length 0 lo), Heap.get?_push_size _ rfl⟩

/-! ### in, not in: flat items -/
def flatV : V → Bool
  | .non => true
  | .bl _ => true
  | .int _ => true
  | .str _ => true
  | _ => false
/-- == of flat values -/
def eqV : V → V → Bool
  | .non, .non => true
  | .bl a, .bl b => a == b
  | .bl a, .int b => (if a then 1 else 0) == b
  | .int a, .bl b => a == (if b then 1 else 0)
  | .int a, .int b => a == b
  | .str a, .str b => a == b
  | _, _ => false
theorem eqAt_V {A : Around} {s : Shared} {y x : V} {u v : Value} (ry : RelV y u) (rx : RelV x v) (fy : flatV y = true) (fx : flatV x = true) : SeqAt.EqAt A s u v (eqV y x) := by
  cases y with
  | non =>
    cases ry
    cases x with
    | non => cases rx; exact SeqAt.EqAt.same _
    | bl b => cases rx; exact SeqAt.EqAt.none_bool b
    | int b => obtain ⟨t, rfl⟩ := rx; exact SeqAt.EqAt.none_int b t
    | str b => obtain ⟨t, rfl⟩ := rx; exact SeqAt.EqAt.none_str b t
    | _ => exact absurd (show false = true from fx) Bool.false_ne_true
  | bl a =>
    cases ry
    cases x with
    | non => cases rx; exact SeqAt.EqAt.bool_none a
    | bl b => cases rx; exact SeqAt.EqAt.bool_bool a b
    | int b => obtain ⟨t, rfl⟩ := rx; exact SeqAt.EqAt.bool_int a b t
    | str b => obtain ⟨t, rfl⟩ := rx; exact SeqAt.EqAt.bool_str a b t
    | _ => exact absurd (show false = true from fx) Bool.false_ne_true
  | int a =>
    obtain ⟨t', rfl⟩ := ry
    cases x with
    | non => cases rx; exact SeqAt.EqAt.int_none a t'
    | bl b => cases rx; exact SeqAt.EqAt.int_bool a t' b
    | int b => obtain ⟨t, rfl⟩ := rx; exact SeqAt.EqAt.int_int a t' b t
    | str b => obtain ⟨t, rfl⟩ := rx; exact SeqAt.EqAt.int_str a t' b t
    | _ => exact absurd (show false = true from fx) Bool.false_ne_true
  | str a =>
    obtain ⟨t', rfl⟩ := ry
    cases x with
    | non => cases rx; exact SeqAt.EqAt.str_none a t'
    | bl b => cases rx; exact SeqAt.EqAt.str_bool a t' b
    | int b => obtain ⟨t, rfl⟩ := rx; exact SeqAt.EqAt.str_int a t' b t
    | str b => obtain ⟨t, rfl⟩ := rx; exact SeqAt.EqAt.str_str a t' b t
    | _ => exact absurd (show false = true from fx) Bool.false_ne_true
  | _ => exact absurd (show false = true from fy) Bool.false_ne_true
/-! ### len, list(x), tuple(x) of any list or tuple that is read -/
theorem call_len_seq : CallR X (.builtin "len") (fun xs H Q => ∃ p ys, xs = [.ref p] ∧ (SqL X.K H p ys ∨ SqT X.K H p ys) ∧ Q (.int ys.length) H) := by
  intro pins s σ H xs us Q I r h
  obtain ⟨p, ys, rfl, hq, q⟩ := h
  obtain ⟨u, rfl, rx⟩ := vals1 r
  cases rx
  have hn := line63
  rcases hq with hq | hq
  · obtain ⟨its, r', pl, hz⟩ := I.list hq
    have hlen := r'.length
    exact Calls.call_len_list pl.isList (by simp only [List.size_toArray] <;> omega) ⟨.int ys.length, H, I.tok _, ⟨s.toks + 1, by rw [List.size_toArray, hlen]⟩, q⟩
  · obtain ⟨its, r', pl, hz⟩ := I.tuple hq
    have hlen := r'.length
    exact len_tuple pl (by simp only [List.size_toArray] <;> omega) ⟨.int ys.length, H, I.tok _, ⟨s.toks + 1, by rw [List.size_toArray, hlen]⟩, q⟩
theorem call_list_of : CallR X (.type "list") (fun xs H Q => ∃ p ys, xs = [.ref p] ∧ (SqL X.K H p ys ∨ SqT X.K H p ys) ∧ ∀ l, H l = none → Q (.ref l) (upd H l (.lst ys))) := by
  intro pins s σ H xs us Q I r h
  obtain ⟨p, ys, rfl, hq, q⟩ := h
  obtain ⟨u, rfl, rx⟩ := vals1 r
  cases rx
  have fin : ∀ (its : List Value), Vals ys its → ys.length ≤ sizeLine → ∀ (h' : Heap) (c' : Nat), (∀ b o', s.heap.get? b = some o' → h'.get? b = some o') →
      h'.get? s.heap.objs.size = some { cls := .type "list", dict := none, data := .seq its.toArray c', slots := #[] } → EP X pins σ Q (.ref s.heap.objs.size) { s with heap := h' } := fun its r' hz h' c' kp e =>
    ⟨.ref s.heap.objs.size, _, I.laid (t' := s.toks) kp (Nat.le_refl _) (show ObjOk X.prog X.w _ h' _ (.lst ys) from ⟨hz, its, c', r', e⟩), rfl, q _ (I.hok.fresh (Nat.le_refl _))⟩
  rcases hq with hq | hq
  · obtain ⟨its, r', pl, hz⟩ := I.list hq
    have hlen := r'.length
    obtain ⟨o, ho, hc, n, hd⟩ := pl.isList
    exact call_list_seq p (.inl rfl) ho hc hd (fun h' c' kp e => fin its r' hz h' c' kp e) (by simp only [List.size_toArray] <;> omega)
  · obtain ⟨its, r', pl, hz⟩ := I.tuple hq
    have hlen := r'.length
    obtain ⟨o, ho, hc, n, hd⟩ := pl
    exact call_list_seq p (.inr rfl) ho hc hd (fun h' c' kp e => fin its r' hz h' c' kp e) (by simp only [List.size_toArray] <;> omega)
/-! ### the call of a builtin's method: o.m(..) -/
/-- the value is of that builtin type -/
def tyV (K : PySem.W.Frag) (T : String) (x : V) (H : Hp) : Prop := match x with
  | .str _ => T = "str"
  | .int _ => T = "int"
  | .ref p => (T = "list" ∧ ∃ xs, SqL K H p xs) ∨ (T = "tuple" ∧ ∃ o, K.lookup p = some o ∧ o.cls = .type "tuple" ∧ o.dict = none) ∨
      (T = "dict" ∧ ((∃ kvs, H p = some (.dK kvs)) ∨ ∃ kvs, H p = some (.dT kvs))) ∨ (T = "set" ∧ ∃ S n, H p = some (.set S n))
  | _ => False
theorem tyV_is {pins : List (Addr × Obj)} {σ : St} {H : Hp} {s : Shared} {T : String} {x : V} {v : Value} (I : Inv X pins σ H s) (r : RelV x v) (ty : tyV X.K T x H) :
    s.TypeIs v T ∧ ∀ a, v = .ref a → ∃ ob, s.heap.get? a = some ob ∧ ob.dict = none := by
  cases x with
  | str z =>
    obtain ⟨t, rfl⟩ := r
    cases (show T = "str" from ty)
    exact ⟨typeIs_str s z t, fun _ e => nomatch e⟩
  | int i =>
    obtain ⟨t, rfl⟩ := r
    cases (show T = "int" from ty)
    exact ⟨typeIs_int s i t, fun _ e => nomatch e⟩
  | ref p =>
    cases r
    rcases ty with ⟨rfl, xs, hq⟩ | ⟨rfl, o, hk, hc, hd⟩ | ⟨rfl, hk⟩ | ⟨rfl, S, n, hk⟩
    · obtain ⟨its, _, pl, _⟩ := I.list hq
      refine ⟨pl.isList.typeIs, fun a e => ?_⟩
      cases e
      obtain ⟨o, n, e, c, hd, _⟩ := pl
      exact ⟨o, e, hd⟩
    · refine ⟨⟨o, I.kIn p o hk, hc⟩, fun a e => ?_⟩
      cases e
      exact ⟨o, I.kIn _ o hk, hd⟩
    · have z : ∃ o, s.heap.get? p = some o ∧ o.ExactDict := by
        rcases hk with ⟨kvs, hk⟩ | ⟨kvs, hk⟩
        · obtain ⟨_, _, _, _, o, _, _, e, ex, _⟩ := I.hok p _ hk
          exact ⟨o, e, ex⟩
        · exact (show False from I.hok p _ hk).elim
      obtain ⟨o, e, ex⟩ := z
      refine ⟨⟨o, e, ex.1⟩, fun a e2 => ?_⟩
      cases e2
      exact ⟨o, e, ex.2.1⟩
    · obtain ⟨o, _, _, _, e, ex, _⟩ := I.hok p _ hk
      refine ⟨⟨o, e, ex.1⟩, fun a e2 => ?_⟩
      cases e2
      exact ⟨o, e, ex.2.1⟩
  | _ => exact False.elim ty
def tBM (K : PySem.W.Frag) (T : String) (r : V → List V → Hp → VK → Prop) (to : TE) (t : TA) : TE := fun σ H Q => to σ H fun x H1 => tyV K T x H1 ∧ t σ H1 fun xs H2 => r x xs H2 Q
variable {o e : Expr} {es : List Expr} {to : TE} {t : TA} {name : Str} {apos cpos : Pos} {T id : String} {r : V → List V → Hp → VK → Prop}
theorem pe_bm (pa : PlainAttrs T) (slot : Slot T name id) (hty : typeOf (.builtin id) = pure (.type "method_descriptor")) (hm : MtR X id r) (ho : PE X o to) (ha : PA X (e :: es) t)
    (hbase : attributeBase o name X.env (eval o X.env) = eval o X.env := by rfl)
    (hfew : ((backTo cpos (starEach (e :: es) X.env)).all (fun x => !x.1) && (backToKw cpos (keywordEach [] X.env)).all (fun x => x.1.isSome)
      && decide ((e :: es).length + ([] : List Keyword).length + (if ([] : List Keyword).isEmpty then 0 else 1) < 30)) = true := by rfl)
    (hline : (apos.endLine == cpos.line) = true := by rfl) (hs : starEach (e :: es) X.env = (false, eval e X.env) :: starEach es X.env := by rfl) (hplain : (backTo cpos (starEach es X.env)).any (·.1) = false := by rfl) :
    PE X (.Call (.Attribute o name apos) (e :: es) [] cpos) (tBM X.K T r to t) := by
  intro pins s σ H Q I h
  refine wpAny_Call_method_late hbase hfew hline rfl (thn (ho pins s σ H _ I h) fun v s1 ⟨x, H1, I1, r1, ty, q1⟩ => ?_)
  obtain ⟨h1, h2⟩ := tyV_is I1 r1 ty
  refine ⟨T, id, pa, slot, hty, h1, h2, ?_⟩
  have hA := ha cpos pins s1 σ H1 _ I1 q1
  rw [hs] at hA ⊢
  refine Calls.callWith_builtin (by show (false || (backTo cpos (starEach es X.env)).any (·.1)) = false; rw [hplain] <;> rfl) (Calls.evalArgs_plain ?_)
  exact thn hA fun us s2 ⟨vs, H2, I2, r2, q2⟩ => hm pins s2 σ H2 x vs v us Q I2 r1 r2 q2
end
end L2

namespace L2
open PySem PySem.Spec PyProof.Rows

def MtM (X : Cx) (id : String) (r : V → List V → Hp → VK → Prop) : Prop :=
  ∀ (pins : List (Addr × Obj)) (s : Shared) (σ : St) (H : Hp) (x : V) (xs : List V) (v : Value) (us : List Value) (Q : VK), Inv X pins σ H s → RelV x v → Vals xs us → r x xs H Q →
    wpAny (model X.prog X.w) X.A (call (.builtin id) (v :: us)) (EP X pins σ Q) X.xe s

/-! ### lists of values -/
theorem Vals.one : ∀ {x : V} {us : List Value}, Vals [x] us → ∃ u, us = [u] ∧ RelV x u
  | _, _, .cons r .nil => ⟨_, rfl, r⟩
theorem Vals.rep {xs : List V} {us : List Value} (h : Vals xs us) : ∀ k : Nat, Vals (List.replicate k xs).flatten (List.replicate k us).flatten
  | 0 => .nil
  | k + 1 => by
    rw [List.replicate_succ, List.replicate_succ, List.flatten_cons, List.flatten_cons]
    exact Vals.append h (Vals.rep h k)
theorem foldl_rep (its : List Value) : ∀ (k : Nat) (acc : List Value),
    List.foldl (fun x1 x2 => x1 ++ x2) acc.toArray (List.replicate k its.toArray) = (acc ++ (List.replicate k its).flatten).toArray
  | 0, acc => by simp
  | k + 1, acc => by
    have e : acc.toArray ++ its.toArray = (acc ++ its).toArray := by simp
    have e2 : (acc ++ its) ++ (List.replicate k its).flatten = acc ++ (List.replicate (k + 1) its).flatten := by
      rw [List.replicate_succ, List.flatten_cons, List.append_assoc]
    rw [← e2, ← foldl_rep its k (acc ++ its), ← e, List.replicate_succ, List.foldl_cons]

section
variable {X : Cx} {pins : List (Addr × Obj)} {σ : St} {H : Hp} {s : Shared} {l b : Addr} {xs ys zs : List V}

/-! ### the two steps: a tracked list is rewritten, a new list is laid -/
theorem Inv.lset {its its' : List Value} {n : Nat} {f : Array Value → Array Value} {t' : Nat} (I : Inv X pins σ H s) (hH : H l = some (.lst xs))
    (e : s.heap.get? l = some { cls := .type "list", data := .seq its.toArray n }) (hf : f its.toArray = its'.toArray) (hv : Vals ys its') (hz : ys.length ≤ sizeLine) :
    Inv X pins σ (upd H l (.lst ys)) { s with heap := s.heap.update l (Obj.mapSeq f), toks := t' } := by
  have q := PySem.IsL.update e f
  rw [hf] at q
  refine I.write (x := l) (e := l) (by rw [hH]; exact trivial) (.inl rfl) (fun b' u hb hu => (Heap.get?_update_other s.heap (Obj.mapSeq f) (Ne.symm hb)).trans hu) ⟨_, q⟩ ?_
  exact ⟨hz, its', _, hv, q⟩
theorem Inv.lnew {its : List Value} {t' : Nat} (I : Inv X pins σ H s) (hv : Vals ys its) (hz : ys.length ≤ sizeLine) :
    Inv X pins σ (upd H s.heap.objs.size (.lst ys)) { s with heap := s.heap.push { cls := .type "list", data := .seq its.toArray }, toks := t' } :=
  I.laid (fun _ _ q => Heap.get?_push_of_some _ q) (Nat.le_refl _) ⟨hz, its, 0, hv, Heap.get?_push_size _ rfl⟩
theorem Inv.fresh (I : Inv X pins σ H s) : H s.heap.objs.size = none := I.hok.fresh (Nat.le_refl _)
theorem Inv.lstM (I : Inv X pins σ H s) (hH : H l = some (.lst xs)) : xs.length ≤ sizeLine ∧ ∃ (its : List Value) (n : Nat), Vals xs its ∧ xs.length = its.length ∧ s.heap.get? l = some { cls := .type "list", data := .seq its.toArray n } := by
  obtain ⟨z, its, n, r, e⟩ := I.hok l _ hH
  exact ⟨z, its, n, r, r.length, e⟩

theorem notLongL {n : Nat} (h : n ≤ sizeLine) : Builtin.List.listTooLong n = false := by
  unfold Builtin.List.listTooLong
  exact decide_eq_false (by omega)
end

section
variable {X : Cx}

/-! ### methods -/
def rAppend : V → List V → Hp → VK → Prop := fun x vs H Q => ∃ l xs y, x = .ref l ∧ vs = [y] ∧ H l = some (.lst xs) ∧ xs.length < sizeLine ∧ Q .non (upd H l (.lst (xs ++ [y])))
theorem mt_append : MtM X "list.append" rAppend := by
  intro pins s σ H x vs v us Q I rx rv h
  obtain ⟨l, xs, y, rfl, rfl, hH, hz, q⟩ := h
  cases rx
  obtain ⟨u, rfl, ru⟩ := rv.one
  obtain ⟨z, its, n, r, hl, e⟩ := I.lstM hH
  refine call_meets F.slot_list_append ⟨_, e, rfl⟩ F.entry_list_append (F.args_list_append_2 _ _) (PySem.list_append l its.toArray n u (by rw [List.size_toArray]; omega)) ⟨e, ?_⟩
  refine ⟨.non, _, I.lset (its' := its ++ [u]) hH e (by simp) (r.append (.cons ru .nil)) ?_, rfl, q⟩
  rw [List.length_append, List.length_singleton]
  omega

/-! ### list + list, list += list, list * int -/
/-- a list times an int (a negative one is nothing) -/
def rRep : R2 := fun x y H Q => ∃ l k xs, x = .ref l ∧ y = .int k ∧ H l = some (.lst xs) ∧ -(2 ^ 63) ≤ k ∧ k < 2 ^ 63 ∧ xs.length * k.toNat ≤ sizeLine ∧
  ∀ p, H p = none → Q (.ref p) (upd H p (.lst (List.replicate k.toNat xs).flatten))
theorem len_rep {α : Type} (xs : List α) (k : Nat) : (List.replicate k xs).flatten.length = k * xs.length := by
  induction k with
  | zero => simp
  | succ k ih => rw [List.replicate_succ, List.flatten_cons, List.length_append, ih, Nat.succ_mul, Nat.add_comm]
theorem op_rep : OpR X (binaryOp .Mult) rRep := by
  intro pins s σ H x y v u Q I rx ry h
  obtain ⟨l, k, xs, rfl, rfl, hH, h1, h2, hz, q⟩ := h
  cases rx
  obtain ⟨t, rfl⟩ := ry
  obtain ⟨z, its, n, r, hl, e⟩ := I.lstM hH
  have hlen : its.toArray.size * k.toNat ≤ sizeLine := by rw [List.size_toArray, ← hl]; exact hz
  have hcap : ¬ its.toArray.size * k.toNat > (2 ^ 63 - 1) / 8 := by
    have : (sizeLine : Nat) ≤ (2 ^ 63 - 1) / 8 := by decide
    omega
  have hfit : ¬ (!Builtin.List.listFitsIndex k) = true := by
    rw [fitsIndex_both h1 h2]
    exact Bool.false_ne_true
  have hlong : ¬ Builtin.List.listTooLong (its.toArray.size * k.toNat) = true := by
    rw [notLongL hlen]
    exact Bool.false_ne_true
  have hnew : List.foldl (fun x1 x2 => x1 ++ x2) #[] (List.replicate (if its.toArray.isEmpty = true then 0 else k.toNat) its.toArray) = (List.replicate k.toNat its).flatten.toArray := by
    have f0 : ∀ m : Nat, List.foldl (fun x1 x2 => x1 ++ x2) #[] (List.replicate m its.toArray) = (List.replicate m its).flatten.toArray := fun m => by
      have := foldl_rep its m []
      rw [List.nil_append] at this
      exact this
    rw [f0]
    cases its with
    | nil => simp
    | cons a r' => rw [if_neg (by simp)]
  refine wpAny_binaryOp_repeat_ref (T := "list") (U := "int") (by decide) ⟨_, e, rfl⟩ (fun s' => typeIs_int s' k t) noFill_list_mul F.fills_int_mul F.slot_int_rmul repeat_list F.slot_int_index.lookup
    (call_meets F.slot_int_rmul (typeIs_int s k t) F.entry_int_rmul (F.args_int_rmul_2 _ _) (int___rmul___int_list k t l its.toArray n)
      ⟨e, rfl, ⟨_, e, rfl⟩, call_meets F.slot_list_mul ⟨_, e, rfl⟩ F.entry_list_mul (F.args_list_mul_2 _ _) (AutoListH.list___mul___list_int_3 l its.toArray n k t hfit hcap hlong) ⟨e, ?_⟩⟩)
  rw [hnew]
  exact ⟨.ref _, _, I.lnew (t' := s.toks) (r.rep k.toNat) (by rw [len_rep, Nat.mul_comm]; exact hz), rfl, q _ I.fresh⟩

/-! ### del xs[i] -/
end

/-! ### xs[a:b] = ys -/
section
variable {prog : Program} {w : World} {A : Around} {E : Value → Shared → Prop} {s : Shared}
end

section
variable {X : Cx}
end
end L2

namespace Att
open PySem PySem.W PySem.Calls PyProof.Rows

/-! ### the script -/
theorem ints_of_wellAll {P : Params} {h : Heap} : ∀ (ns : List Int) (vs : List Value), WellAll P h vs (ns.map WData.int) → IntsAre vs ns := by
  intro ns
  induction ns with
  | nil =>
    intro vs w
    rw [List.map_nil] at w
    cases w
    exact .nil
  | cons n ns ih =>
    intro vs w
    rw [List.map_cons] at w
    cases w with
    | cons a b =>
      cases a
      exact .cons _ _ (ih _ b)

theorem script_of {l : OpenLaw} {n : Nat} (hn : l.most = some n) {P : Params} {h : Heap} {args : List WData} {vals : List Value}
    (hpre : l.row.toRowW.claim.pre args = true) (hwl : WellAll P h vals args) :
    ∃ a vs ns, vals = [Value.ref a] ∧ args = [WData.list (ns.map WData.int)] ∧ h.get? a = some { cls := .type "list", data := .seq vs.toArray } ∧ IntsAre vs ns ∧ ns.length ≤ n := by
  have hsh : WShape.hasAll [] args [.list .int] = true := (pre_splitW hpre).1
  have hc : l.pre.holds [] { args := args } = true := (pre_splitW hpre).2
  obtain ⟨d, r, rfl, h1, h2⟩ := hasAllW_cons hsh
  obtain rfl := hasAllW_nil h2
  obtain ⟨xs, rfl, h3⟩ := hasW_list h1
  obtain ⟨ns, rfl⟩ := items_int h3
  have hlen : ns.length ≤ n := by
    unfold OpenLaw.pre at hc
    have h4 : (WTm.not (.lt (.lit (.int (n : Int))) (.len (.arg 0)))).holds [] { args := [.list (ns.map .int)] } = true := by
      have h4 := (holds_andW hc).1
      rw [hn] at h4
      exact h4
    have h5 := condW_of h4 (w_not (w_lt w_lit (w_len_list (w_arg rfl))))
    rw [List.length_map] at h5
    refine Nat.le_of_not_lt fun q => ?_
    have q' : (n : Int) < ((ns.length : Nat) : Int) := by omega
    first
      | (rw [decide_eq_true q'] at h5; exact absurd h5 (by decide))
      | (simp at h5; omega)
  cases hwl with
  | cons w1 w2 =>
    cases w2
    cases w1 with
    | list ho hall => exact ⟨_, _, ns, rfl, rfl, ho, ints_of_wellAll ns _ hall, hlen⟩

theorem post_true (l : OpenLaw) (args : List WData) : l.row.toRowW.claim.post args (.bool true) args = true :=
  postW_of (r := l.row.toRowW) (X := (true == true))
    (show WShape.has [] (.bool true) .bool = true by first | rfl | decide | simp [WShape.has, WShape.arms, WShape.armsAll])
    (show (WTm.eq .res (.lit (.bool true))).value [] { args := args, res := some (.bool true), after := args } = some (.bool (true == true)) from w_eq_bool (w_res rfl) w_lit) rfl

/-! ### the attachment: holds_open's last premise (the goal 'hc' behind k_head) from a wpAny of the law's body -/
/-- the same from a codeAny of the CALL (for a layer whose function contracts speak of calls) -/
theorem attach_call {l : OpenLaw} {n : Nat} {q : Program} {loose : List Str} {XP : (Str → Option Value) → Heap → Prop} {YP : World → Heap → Prop} {d : DefRec}
    (hn : l.most = some n) (hdf : d.params.defaults = [])
    (call : ∀ (w : World) (s₀ s₁ : Shared) (mg mb : Str → Option Value) (fa : Addr) (o : Obj) (pm cd doc : Value) (a : Addr) (vs : List Value) (ns : List Int),
      Ground q loose [] XP w s₀ mg mb s₁.heap → YP w s₁.heap →
      s₁.heap.get? fa = some o → o.data = .func (docDef d.name d.params d.body d.scope pm cd doc) → s₁.heap.CodeRec cd d.name → mg d.name = some (.ref fa) →
      s₁.heap.get? a = some { cls := .type "list", data := .seq vs.toArray } → IntsAre vs ns → ns.length ≤ n → s₁.gens = #[] →
      codeAny (model l.prog w) callerA (.call (.ref fa) ⟨[.ref a], []⟩) (fun r s' => r = .ok (.ret (.bool true)) ∧ OldK s₁.heap s'.heap ∧ s'.os = s₁.os ∧ AllBare s'.gens) s₁) :
    WalkO q loose XP YP l.row.toRowW d [] (fun f vs => PySem.call f vs) := by
  intro w s₀ s₁ mg mb G Y fa o pm cd doc dV kV ho hd hcd hD hmg hg args vals as hpre hlay hrd hwl hlo
  obtain rfl : dV = .none := Dflts.none hD hdf
  obtain rfl : kV = .none := Dflts.noKw hD
  obtain ⟨a, vs, ns, rfl, rfl, hobj, hints, hlen⟩ := script_of hn hpre hwl
  refine enter_call (codeAny_mono (call w s₀ s₁ mg mb fa o pm cd doc a vs ns G Y ho (fd_plain hd) hcd hmg hobj hints hlen hg) fun r s' hq => ?_)
  obtain ⟨rfl, h2, h3, h4⟩ := hq
  exact ⟨.inl ⟨.bool true, .bool true, [], rfl, fun _ => rfl, .bool true, post_true l _, fun _ => ⟨List.Pairwise.nil, fun _ hm => (nomatch hm)⟩⟩, h2, h3, h4⟩

/-! ### rules over ANY heap (no ledger) from facts about the written part K: the library's own take a ledger (News) for what they write -/
section
variable {prog : Program} {w : World} {A : Around} {E : Value → Shared → Prop} {s : Shared} {K : Frag}

/-! the whole heap as the ledger: makes every rule that writes through a ledger a rule over any heap -/
def ledger (h : Heap) (L d : Addr) : List (Addr × Obj) := (List.range h.objs.size).filterMap fun a => if a = L ∨ a = d then none else (h.get? a).map fun o => (a, o)
end
end Att

namespace L2
open PySem PySem.Spec PyProof.Rows

theorem vals_ints : ∀ {vs : List Value} {ns : List Int}, IntsAre vs ns → Vals (ns.map V.int) vs
  | _, _, .nil => .nil
  | _, _, .cons n t h => .cons ⟨t, rfl⟩ (vals_ints h)

/-- nothing is tracked but the script, known to the object (or it is an object of the module) -/
def Only (H : Hp) : Prop := ∀ b, H b = none ∨ ∃ o xs, H b = some (.frz o (.lst xs))

/-- THE HEAD: the law's promise, at the heap behind the top. F, the promise of the law's def, may use that base is part of the heap (so K.In base, base.Ns mainGlobals mg stand in Mod) -/
theorem law_call {P : Program} {w : World} {K : PySem.W.Frag} {mg mb : Str → Option Value} {CX : CXT} {k : Nat} {fa a : Addr} {fd : FuncData} {x : Str} {sp : Sp} {s₁ : Shared} {vs : List Value} {ns : List Int}
    (KX : K.In s₁.heap) (hns : s₁.heap.Ns mainGlobals mg) (hb : s₁.heap.Ns builtinsNs mb) (hbb : ∀ x : Str, x ≠ "__name__" → mb x = bootBuiltins x) (hlim : s₁.heap.NoLimit) (hg : s₁.gens = #[])
    (ha : s₁.heap.get? a = some { cls := .type "list", data := .seq vs.toArray }) (hi : IntsAre vs ns) (hl : ns.length ≤ sizeLine) (hr : Room k callerA)
    (F : ∀ base : Heap, K.In base → base.Ns mainGlobals mg → FnOk P w K mg base CX k fa fd [x] sp) (hbind : ∀ (s : Shared) (u : Value), BindsTo s fd ⟨[u], []⟩ [(x, u)])
    (hsp : ∀ H : Hp, Only H → SqL K H a (ns.map V.int) → sp [.ref a] H (fun v _ => v = .bl true) fun _ _ _ => False)
    (hCX : ∀ H e s', CX [] H s₁ (fun _ _ _ => False) e s' → False) :
    codeAny (model P w) callerA (.call (.ref fa) ⟨[.ref a], []⟩) (fun r s' => r = .ok (.ret (.bool true)) ∧ OldK s₁.heap s'.heap ∧ s'.os = s₁.os ∧ AllBare s'.gens) s₁ := by
  have rv := vals_ints hi
  have lenV := hi.length
  -- from an abstract heap in which nothing but the script may be tracked
  have core : ∀ H : Hp, Only H → SqL K H a (ns.map V.int) → HOk P w H s₁.heap → (∀ b, H b ≠ none → b = a) → (H a ≠ none → K.lookup a = none) →
      codeAny (model P w) callerA (.call (.ref fa) ⟨[.ref a], []⟩) (fun r s' => r = .ok (.ret (.bool true)) ∧ OldK s₁.heap s'.heap ∧ s'.os = s₁.os ∧ AllBare s'.gens) s₁ := by
    intro H hO hS hok hA hK
    have base_of : ∀ {b : Addr} {o : Obj}, s₁.heap.get? b = some o → H b = none → (hidT s₁.heap H).get? b = some o := fun e n => hidT_get e n
    have noA : ∀ {b : Addr} {o : Obj} {es : Array DictEntry} {ep : Nat}, s₁.heap.get? b = some o → o.data = .dict es ep → H b = none := fun {b o es ep} e d => by
      cases q : H b with
      | none => rfl
      | some u =>
        have e' : b = a := hA b (by rw [q]; simp)
        subst e'
        rw [ha] at e; cases e
        have d' : Data.seq vs.toArray _ = Data.dict es ep := d
        cases d'
    have nsK : ∀ {b : Addr} {m : Str → Option Value}, s₁.heap.Ns b m → (hidT s₁.heap H).Ns b m := fun {b m} ⟨o, es, ep, e, d, r⟩ => ⟨o, es, ep, base_of e (noA e d), d, r⟩
    have hKb : K.In (hidT s₁.heap H) := fun b o e => base_of (KX b o e) (by
      cases q : H b with
      | none => rfl
      | some u =>
        have e' : b = a := hA b (by rw [q]; simp)
        subst e'
        rw [hK (by rw [q]; simp)] at e; cases e)
    have hM : Mod K mg (hidT s₁.heap H) := ⟨hKb, nsK hns, ⟨mb, nsK hb, hbb⟩, let ⟨mc, h1, h2⟩ := hlim; ⟨mc, nsK h1, h2⟩⟩
    have e0 : Env0 P w K mg (hidT s₁.heap H) callerA [] s₁ H := ⟨rfl, hM, fun b o e => of_hidT e, Nat.le_of_eq (hidT_size _ _), trivial, fun b hb => absurd (show b ∈ ([] : List Addr) from hb) (by simp), hok, .of_eq hg⟩
    refine codeAny_mono ((F _ hKb (nsK hns)).run callerA [] s₁ H ⟨[.ref a], []⟩ [.ref a] [.ref a] _ _ hr e0 (hbind s₁ (.ref a)) (.cons rfl .nil) (hsp H hO hS)) fun r s' h => ?_
    cases r with
    | error e => exact (hCX H e s' h).elim
    | ok fl =>
      cases fl with
      | next => exact False.elim h
      | brk => exact False.elim h
      | cont => exact False.elim h
      | ret u =>
        obtain ⟨v, H', os, bare, un, hok', r', q⟩ := h
        have q' : v = .bl true := q
        subst q'
        obtain rfl : u = Value.bool true := r'
        refine ⟨rfl, OldK.of_keep fun b o e => ?_, os, bare⟩
        cases q : H b with
        | none => exact un.keep b o e q (by intro z; exact absurd (show b ∈ ([] : List Addr) from z) (by simp)) (by simp)
        | some u =>
          rcases hO b with z | ⟨ob, xs, z⟩
          · rw [q] at z; cases z
          · have z2 := un.frzs b ob _ z
            obtain ⟨e1, _⟩ := hok b _ z
            obtain ⟨e2, _⟩ := hok' b _ z2
            rw [e] at e1; cases e1
            exact e2
  cases hk : K.lookup a with
  | some o =>
    -- the script is one of the module's own objects
    have e := KX a o hk
    rw [ha] at e
    cases e
    refine core (fun _ => none) (fun _ => .inl rfl) (.inr ⟨_, vs.toArray, _, hk, rfl, rfl, rfl, by rw [List.size_toArray, lenV]; exact hl, by simpa using rv⟩) (fun b u z => by have z' : (none : Option HO) = some u := z; cases z') (fun b z => absurd rfl z) fun z => absurd rfl z
  | none =>
    refine core (fun b => if b = a then some (.frz { cls := .type "list", data := .seq vs.toArray } (.lst (ns.map V.int))) else none) (fun b => ?_) (.inl (.inr ⟨{ cls := .type "list", data := .seq vs.toArray }, if_pos rfl⟩)) (fun b u z => ?_) (fun b z => ?_) fun _ => hk
    · by_cases hb : b = a
      · exact .inr ⟨_, _, if_pos hb⟩
      · exact .inl (if_neg hb)
    · by_cases hb : b = a
      · have z' := (if_pos hb).symm.trans z
        cases z'
        subst hb
        exact ⟨ha, by rw [List.length_map]; exact hl, vs, _, rv, ha⟩
      · have z' := (if_neg hb).symm.trans z
        cases z'
    · by_cases hb : b = a
      · exact hb
      · exact absurd (if_neg hb) z
end L2

namespace L2
open PySem PySem.Spec PyProof.Rows

/-- the goal that k_head leaves (case hc), from the law's promise. F gives the function object fd (K's own) once, then the promise over every base -/
theorem walk_of {l : PySem.W.OpenLaw} {n k : Nat} {q : Program} {loose : List Str} {XP : (Str → Option Value) → Heap → Prop} {YP : World → Heap → Prop} {d : DefRec} {K : Params → PySem.W.Frag} {CX : World → CXT} {sp : World → Sp} {x : Str}
    (hn : l.most = some n) (hn2 : n ≤ sizeLine) (hdf : d.params.defaults = []) (hr : Room k callerA)
    (hY : ∀ (w : World) (h : Heap), YP w h → (K w.params).In h)
    (F : ∀ (w : World) (mg : Str → Option Value) (fa : Addr) (h : Heap), (K w.params).In h → h.Ns mainGlobals mg → mg d.name = some (.ref fa) →
      ∃ fd : FuncData, (∀ (s : Shared) (u : Value), BindsTo s fd ⟨[u], []⟩ [(x, u)]) ∧
        ∀ base : Heap, (K w.params).In base → base.Ns mainGlobals mg → FnOk l.prog w (K w.params) mg base (CX w) k fa fd [x] (sp w))
    (hsp : ∀ (w : World) (H : Hp) (a : Addr) (ns : List Int), ns.length ≤ n → Only H → SqL (K w.params) H a (ns.map V.int) → sp w [.ref a] H (fun v _ => v = .bl true) fun _ _ _ => False)
    (hCX : ∀ (w : World) (H : Hp) (s : Shared) (e : Value) (s' : Shared), CX w [] H s (fun _ _ _ => False) e s' → False) :
    PySem.W.WalkO q loose XP YP l.row.toRowW d [] (fun f vs => PySem.call f vs) := by
  refine Att.attach_call hn hdf fun w s₀ s₁ mg mb fa o pm cd doc a vs ns G Y ho hd hcd hmg hobj hints hlen hg => ?_
  have KX := hY w _ Y
  obtain ⟨fd, hb, hF⟩ := F w mg fa _ KX G.T.g hmg
  exact law_call KX G.T.g G.T.b G.T.builtins G.T.nolimit hg hobj hints (Nat.le_trans hlen hn2) hr hF hb (fun H hO hS => hsp w H a ns hlen hO hS) fun H e s' => hCX w H s₁ e s'
end L2


/-! SHORT WORDS over the layer: a def of the text, its body, what a loop and a test want. -/
namespace L2
open PySem PySem.Spec PyProof.Rows

/-! ### the text by places -/
/-- the j-th statement of a class's body -/
def inClass (s : Stmt) (j : Nat) : Stmt := match s with
  | .ClassDef _ _ _ body _ _ _ _ _ _ _ => body.getD j (.Pass ⟨0, 0, 0, 0⟩)
  | _ => .Pass ⟨0, 0, 0, 0⟩
def defArgs (s : Stmt) : Arguments := match s with
  | .FunctionDef _ a _ _ _ _ _ _ _ _ => a
  | _ => { posonlyargs := [], args := [], vararg := none, kwonlyargs := [], kw_defaults := [], kwarg := none, defaults := [] }
def defBody (s : Stmt) : List Stmt := match s with
  | .FunctionDef _ _ b _ _ _ _ _ _ _ => b
  | _ => []
def defScope (s : Stmt) : Scope := match s with
  | .FunctionDef _ _ _ _ _ _ sc _ _ _ => sc
  | _ => { kind := .function, names := [], isGenerator := false, isCoroutine := false }

/-! ### no exception leaves a def -/
abbrev CX0 : CXT := fun _ _ _ _ _ _ => False
abbrev E0 : XK := fun _ _ _ => False
theorem pass0 {X : Cx} : Passes CX0 X E0 := fun _ _ _ _ _ _ _ h => h.elim

/-! ### a def (or method) of the text as it stands behind the top -/
structure Fun (K : PySem.W.Frag) (x qual : Str) (st : Stmt) (f : Addr) (fd : FuncData) : Prop where
  ex : ∃ (oc : Value) (od : Option Addr) (kV doc pm : Value) (an : Option Addr) (cdv ct : Value) (osl : Array (Option Value)),
    fd = PySem.W.fnOf x qual (defArgs st) (defBody st) (defScope st) .none kV doc pm an cdv ct ∧ K.lookup f = some ⟨oc, od, .func fd, osl⟩ ∧ PySem.W.codeIn K cdv qual = true
  kp : PySem.W.keepIn K (.ref f) = true
section
variable {P : Program} {w : World} {K : PySem.W.Frag} {mg : Str → Option Value} {base : Heap}
/-- THE RULE for a def: its body as a term of rules, and the reading of that term -/
theorem Fun.ok {x qual : Str} {st : Stmt} {f : Addr} {fd : FuncData} {N ps : List Str} {k : Nat} {sp : Sp} (F : Fun K x qual st f fd) (S : FnScope N ps (defScope st)) (len : ∀ vs H Q E, sp vs H Q E → vs.length = ps.length)
    (hbody : ∀ (cdv : Value) (A : Around) (outer : List Env) (s : Shared) (H : Hp) (vs : List V) (Q : VK) (E : XK), Room k (A.deeper (envOfC qual (defScope st) s.heap.objs.size f cdv)) → sp vs H Q E →
      ∃ t, PSs (cxOf CX0 P w K mg base N qual (defScope st) f cdv A outer s H E).nox (defBody st) t ∧ t { nx := fun _ H' => Q .non H', rt := Q } (start N vs) H) : FnOk P w K mg base CX0 (k + 1) f fd ps sp := by
  obtain ⟨oc, od, kV, doc, pm, an, cdv, ct, osl, rfl, lk, hcd⟩ := F.ex
  refine fn_of lk hcd S len fun A outer s H vs Q E hr hsp => ?_
  obtain ⟨t, h, q⟩ := hbody cdv A outer s H vs Q E hr hsp
  exact ⟨t, h.nox, q⟩
/-- how its arguments bind (no defaults): h is «fun _ _ _ _ _ _ us hl => match us, hl with | [_, _], _ => rfl», one _ a parameter -/
theorem Fun.binds {x qual : Str} {st : Stmt} {f : Addr} {fd : FuncData} {ps : List Str} (F : Fun K x qual st f fd)
    (h : ∀ (kV doc pm : Value) (an : Option Addr) (cdv ct : Value) (us : List Value), us.length = ps.length → bindArgs (PySem.W.fnOf x qual (defArgs st) (defBody st) (defScope st) .none kV doc pm an cdv ct) ⟨us, []⟩ = pure (ps.zip us)) : Binds K fd ps [] := by
  obtain ⟨oc, od, kV, doc, pm, an, cdv, ct, osl, rfl, lk, hcd⟩ := F.ex
  exact .all (h kV doc pm an cdv ct)
theorem fun_mk {x qual : Str} {st : Stmt} {f : Addr} {oc : Value} {od an : Option Addr} {osl : Array (Option Value)} {kV doc pm cdv ct : Value} (l : K.lookup f = some ⟨oc, od, .func (PySem.W.fnOf x qual (defArgs st) (defBody st) (defScope st) .none kV doc pm an cdv ct), osl⟩)
    (c : PySem.W.codeIn K cdv qual = true) (k : PySem.W.keepIn K (.ref f) = true) : Fun K x qual st f (PySem.W.fnOf x qual (defArgs st) (defBody st) (defScope st) .none kV doc pm an cdv ct) := ⟨⟨oc, od, kV, doc, pm, an, cdv, ct, osl, rfl, l, c⟩, k⟩
end
theorem small1000 {n : Nat} (h : n ≤ 1000) : n < sizeLine := Nat.lt_of_le_of_lt h (by decide)

/-! ### expressions in short: the name that stands in the i-th slot -/
section
variable {X : Cx}
theorem pv (i : Nat) {x : Str} {pos : Pos} (hN : X.N[i]? = some x := by rfl) (hv : Vis X.env.scope x := by first | exact Or.inl rfl | exact Or.inr (Or.inl rfl) | exact Or.inr (Or.inr rfl)) (hd : (x == ("__debug__" : Str)) = false := by decide)
    (hcd : (x == ("__classdict__" : Str)) = false := by decide) : PE X (.Name x pos) (tVar i) := pe_var hN hv hd hcd
end

/-! ### tests -/
theorem iteF {A B : Prop} (h : B) : if false = true then A else B := by
  rw [if_neg Bool.false_ne_true]
  exact h
theorem iteT {A B : Prop} (h : A) : if true = true then A else B := by
  rw [if_pos rfl]
  exact h
theorem ite2 {c A B : Prop} [Decidable c] (h1 : c → A) (h2 : ¬ c → B) : if c then A else B := by
  by_cases h : c
  · rw [if_pos h]
    exact h1 h
  · rw [if_neg h]
    exact h2 h
theorem iteNS {c A B : Prop} [Decidable c] (hc : c) (h : B) : if (!decide c) = true then A else B := by
  rw [decide_eq_true hc]
  exact iteF h

/-! ### heaps -/
/-- all that was tracked is as it was -/
def Same (H H' : Hp) : Prop := ∀ b o, H b = some o → H' b = some o
theorem Same.refl (H : Hp) : Same H H := fun _ _ h => h
theorem Same.trans {H H1 H2 : Hp} (a : Same H H1) (b : Same H1 H2) : Same H H2 := fun c o h => b c o (a c o h)
theorem Same.free {H H' : Hp} (e : Same H H') {l : Addr} (h : H' l = Option.none) : H l = Option.none := by
  cases q : H l with
  | none => rfl
  | some o =>
    rw [e l o q] at h
    cases h
theorem Same.seq {K : PySem.W.Frag} {H H' : Hp} {a : Addr} {xs : List V} (e : Same H H') (h : SqL K H a xs) : SqL K H' a xs := by
  rcases h with (h | ⟨o, h⟩) | h
  · exact .inl (.inl (e _ _ h))
  · exact .inl (.inr ⟨o, e _ _ h⟩)
  · exact .inr h

end L2

set_option Elab.async false
set_option linter.all false
set_option maxRecDepth 100000
namespace L2
open PySem PySem.Spec PyProof.Rows

/-! ### comprehensions -/
theorem clos_ok {env : Env} : ∀ (names : List (Str × NameKind)) (acc : List (Str × Addr)),
    (∀ y ∈ names, y.2 = .free → ∃ c, env.cells.lookup y.1 = some c) → (∀ n c, acc.lookup n = some c → env.cells.lookup n = some c) →
    ∃ cl, (forIn names acc (fun (x : Str × NameKind) (r : List (Str × Addr)) => if (x.2 == NameKind.free) = true then (do let a ← cellOf env x.1; pure (ForInStep.yield ((x.1, a) :: r))) else pure (ForInStep.yield r)) : Sem (List (Str × Addr))) = pure cl ∧
      (∀ n c, cl.lookup n = some c → env.cells.lookup n = some c) ∧ (∀ y ∈ names, y.2 = .free → ∃ c, cl.lookup y.1 = some c) ∧ ∀ n c, acc.lookup n = some c → ∃ c, cl.lookup n = some c
  | [], acc, _, h => ⟨acc, rfl, h, (fun y z => absurd z (by simp)), fun _ c z => ⟨c, z⟩⟩
  | (n, k) :: r, acc, hf, h => by
    by_cases hk : k = .free
    · obtain ⟨c, hc⟩ := hf (n, k) List.mem_cons_self hk
      obtain ⟨cl, e, a, b, d⟩ := clos_ok (env := env) r ((n, c) :: acc) (fun y hy => hf y (List.mem_cons_of_mem _ hy)) (fun m c' e => by
        by_cases hm : m = n
        · subst hm
          rw [List.lookup_cons, beq_self_eq_true] at e
          cases e
          exact hc
        · have : (m == n) = false := beq_eq_false_iff_ne.mpr hm
          rw [List.lookup_cons, this] at e
          exact h m c' e)
      have hcell : cellOf env n = pure c := by unfold cellOf; rw [hc]
      refine ⟨cl, ?_, a, fun y hy hk' => ?_, fun m c' e => ?_⟩
      · rw [List.forIn_cons]
        subst hk
        show (do let x ← (do let a ← cellOf env n; pure (ForInStep.yield ((n, a) :: acc))); _) = _
        rw [hcell]
        exact e
      · rcases List.mem_cons.mp hy with z | z
        · subst z
          exact d n c (by rw [List.lookup_cons, beq_self_eq_true])
        · exact b y z hk'
      · by_cases hm : m = n
        · subst hm
          exact d m c (by rw [List.lookup_cons, beq_self_eq_true])
        · have : (m == n) = false := beq_eq_false_iff_ne.mpr hm
          exact d m c' (by rw [List.lookup_cons, this]; exact e)
    · obtain ⟨cl, e, a, b, d⟩ := clos_ok (env := env) r acc (fun y hy => hf y (List.mem_cons_of_mem _ hy)) h
      refine ⟨cl, ?_, a, fun y hy hk' => ?_, d⟩
      · rw [List.forIn_cons]
        have hb : (k == NameKind.free) = false := by simpa using hk
        dsimp only
        rw [hb]
        exact e
      · rcases List.mem_cons.mp hy with z | z
        · subst z
          exact absurd hk' hk
        · exact b y z hk'
theorem closureFor_ok {scope : Scope} {env : Env} (hf : ∀ y ∈ scope.names, y.2 = .free → ∃ c, env.cells.lookup y.1 = some c) :
    ∃ cl, closureFor scope env = pure cl ∧ (∀ n c, cl.lookup n = some c → env.cells.lookup n = some c) ∧ (∀ y ∈ scope.names, y.2 = .free → ∃ c, cl.lookup y.1 = some c) := by
  obtain ⟨cl, e, a, b, _⟩ := clos_ok (env := env) scope.names [] hf (fun _ _ z => by cases z)
  refine ⟨cl, ?_, a, b⟩
  have e' : closureFor scope env = (forIn scope.names [] (fun (x : Str × NameKind) (r : List (Str × Addr)) => if (x.2 == NameKind.free) = true then (do let a ← cellOf env x.1; pure (ForInStep.yield ((x.1, a) :: r))) else pure (ForInStep.yield r)) : Sem (List (Str × Addr))) >>= fun r => pure r := by
    unfold closureFor
    rfl
  rw [e', e]
  rfl

section
variable {prog : Program} {w : World} {A : Around} {R : Result → Shared → Prop} {s : Shared}
theorem compLoop_go {elt target iter : Expr} {ifs : List Expr} {scope : Scope} {pos : Pos} {it acc : Value} {env : Env} (I : Nat → Shared → Prop)
    (turn : ∀ n s, I n s → wpAny (model prog w) A (pyNext it) (fun r s1 => match r with
      | none => R (.ok .next) s1
      | some v => wpAny (model prog w) A (letOwnedTupleGo target it v) (fun _ s1' => wpAny (model prog w) A (assign target env v) (fun _ s2 =>
          wpAny (model prog w) A (forIn ifs true fun c r => if r = true then do let ok ← isTrue c env (eval c env); pure (ForInStep.yield ok) else pure (ForInStep.yield r)) (fun ok s3 =>
            if ok = true then wpAny (model prog w) A (eval elt env) (fun x s4 =>
              wpAny (model prog w) A (call (.builtin "list.append") [acc, x]) (fun _ s5 => ∃ m, m < n ∧ I m s5) (fun _ _ => False) s4) (fun _ _ => False) s3
            else ∃ m, m < n ∧ I m s3) (fun _ _ => False) s2) (fun _ _ => False) s1') (fun _ _ => False) s1) (fun _ _ => False) s)
    (n : Nat) (h : I n s) :
    codeAny (model prog w) A (.compLoop (.ListComp elt [⟨target, iter, ifs, 0⟩] scope pos) 0 it acc env) R s := by
  refine codeAny_loop rfl I (fun n s hI => ?_) n h
  show wpAny _ A ((compTurn (.ListComp elt [⟨target, iter, ifs, 0⟩] scope pos) 0 it acc env).onRaise (fun x => do noteFrame x env; theTreesLotGoes x)) _ _ s
  refine wpAny_noted ?_
  rw [compTurn_list]
  refine wpAny_bind (wpAny_standAt (wpAny_bind (wpAny_mono (turn n s hI) (fun r s1 h1 => ?_) fun _ _ h' => h'.elim)))
  cases r with
  | none => exact wpAny_pure h1
  | some v =>
    refine wpAny_bind (wpAny_mono h1 (fun _ s1' h1' => ?_) fun _ _ h' => h'.elim)
    refine wpAny_bind (wpAny_mono h1' (fun _ s2 h2 => wpAny_bind (wpAny_mono h2 (fun ok s3 h3 => ?_) fun _ _ h' => h'.elim)) fun _ _ h' => h'.elim)
    cases ok with
    | false => exact wpAny_pure ⟨rfl, h3⟩
    | true =>
      exact wpAny_bind (wpAny_bind (wpAny_mono h3 (fun x s4 h4 => wpAny_bind (wpAny_mono h4 (fun _ s5 h5 => wpAny_pure (wpAny_pure ⟨rfl, h5⟩)) fun _ _ h' => h'.elim)) fun _ _ h' => h'.elim))
end

/-- the context of a comprehension's block -/
def cxComp (X : Cx) (N : List Str) (scope : Scope) (cl : List (Str × Addr)) (s : Shared) (H : Hp) (fp : List Addr) : Cx :=
  { X with N := N, s₀ := s, H₀ := H, env := compEnvC scope cl s.heap.objs.size X.env, outer := X.stack, stack := X.stack, ex := fp, fn := fun _ => false, pn := [], xe := fun _ _ => False }

/-- captured names: the slot outside, the name -/
def CapOk (X : Cx) (scope : Scope) : List (Nat × Str) → Prop
  | [] => True
  | p :: r => (X.N[p.1]? = some p.2 ∧ (X.env.scope.names.lookup p.2 = some .cell ∨ X.env.scope.names.lookup p.2 = some .free) ∧ scope.names.lookup p.2 = some .free) ∧ CapOk X scope r
theorem CapOk.get {X : Cx} {scope : Scope} : ∀ {caps : List (Nat × Str)} {k : Nat} {p : Nat × Str}, CapOk X scope caps → caps[k]? = some p →
    X.N[p.1]? = some p.2 ∧ (X.env.scope.names.lookup p.2 = some .cell ∨ X.env.scope.names.lookup p.2 = some .free) ∧ scope.names.lookup p.2 = some .free
  | [], _, _, _, e => by simp at e
  | _ :: _, 0, _, h, e => by simp at e; subst e; exact h.1
  | _ :: _, k + 1, p, h, e => CapOk.get (k := k) h.2 (by simpa using e)
def capV (caps : List (Nat × Str)) (σ : St) : St := caps.map fun p => (σ[p.1]?).getD none

def PTs (X : Cx) (ifs : List Expr) (t : TT) : Prop :=
  ∀ (pins : List (Addr × Obj)) (s : Shared) (σ : St) (H : Hp) (Q : Bool → Hp → Prop), Inv X pins σ H s → t σ H Q →
    wpAny (model X.prog X.w) X.A (forIn ifs true fun c r => if r = true then do let ok ← isTrue c X.env (eval c X.env); pure (ForInStep.yield ok) else pure (ForInStep.yield r)) (TP X pins σ Q) X.xe s

theorem pts_one {X : Cx} {c : Expr} {t : TT} (hc : PT X c t) : PTs X [c] t := fun pins s σ H Q I h => wpAny_tests_one (hc pins s σ H Q I h)

structure CompSc (scope : Scope) (x : Str) : Prop where
  kind : scope.kind = .function
  nocell : ∀ y ∈ scope.names, y.2 ≠ .cell
  locs : ∀ y ∈ scope.names, y.2 = .local → scope.names.lookup y.1 = some .local
  own : scope.names.lookup x = some .local

def tCompB (J : It) (cv : St) (tt : TT) (te : TE) (D : Addr) (H1 : Hp) (Q : VK) : Prop := ∃ W : Nat → Nat → Hp → Prop, (∃ m, W 0 m (upd H1 D (.lst []))) ∧ ∀ i m H', W i m H' →
  (J.stop i H' ∧ Q (.ref D) H') ∨ (J.go i H' ∧ ∀ x H2, J.yld i H' x H2 → tt (some x :: cv) H2 fun b H3 => if b = true then te (some x :: cv) H3 fun v H4 => ∃ ys, H4 D = some (.lst ys) ∧ ys.length < sizeLine ∧ ∃ m', m' < m ∧ W (i + 1) m' (upd H4 D (.lst (ys ++ [v])))
    else ∃ m', m' < m ∧ W (i + 1) m' H3)
def tYes : TT := fun _ H Q => Q true H
def tComp (wi : TI) (caps : List (Nat × Str)) (tt : TT) (te : TE) : TE := fun σ H Q => wi σ H fun J H1 => ∀ D, H1 D = none → tCompB J (capV caps σ) tt te D H1 Q
def freeB (sc out : Scope) : Bool := sc.names.all fun y => y.2 != .free || (match out.names.lookup y.1 with | some .cell => true | some .free => true | _ => false)
theorem freeB_ok {sc out : Scope} (h : freeB sc out = true) : ∀ y ∈ sc.names, y.2 = .free → out.names.lookup y.1 = some .cell ∨ out.names.lookup y.1 = some .free := fun y hy hk => by
  have := List.all_eq_true.mp h y hy
  rw [hk] at this
  have e : (NameKind.free != NameKind.free) = false := rfl
  rw [e, Bool.false_or] at this
  cases q : out.names.lookup y.1 with
  | none => rw [q] at this; cases this
  | some k =>
    rw [q] at this
    cases k with
    | cell => exact .inl rfl
    | free => exact .inr rfl
    | _ => cases this

theorem pts_nil {X : Cx} : PTs X [] tYes := fun _ _ _ H _ I h => wpAny_tests_nil ⟨H, I, h⟩
theorem lookup_relabel {env : Env} : ∀ {names : List (Str × NameKind)} {x : Str} {k : NameKind}, (names.map fun (n, k) => if (k == NameKind.free && env.scope.kind == .function && env.kindOf n == some .cell) then (n, NameKind.cell) else (n, k)).lookup x = some k →
    ∃ k', (x, k') ∈ names ∧ (k = k' ∨ (k' = .free ∧ k = .cell))
  | [], _, _, h => by simp at h
  | (n, k0) :: r, x, k, h => by
    have ih := @lookup_relabel env r x k
    rw [List.map_cons] at h
    by_cases hx : x = n
    · subst hx
      by_cases hc : (k0 == NameKind.free && env.scope.kind == .function && env.kindOf x == some .cell) = true
      · have h' : some NameKind.cell = some k := by
          dsimp only at h
          rw [if_pos hc, List.lookup_cons, beq_self_eq_true] at h
          exact h
        cases h'
        refine ⟨k0, List.mem_cons_self, .inr ⟨?_, rfl⟩⟩
        rw [Bool.and_eq_true, Bool.and_eq_true] at hc
        simpa using hc.1.1
      · have h' : some k0 = some k := by
          dsimp only at h
          rw [if_neg hc, List.lookup_cons, beq_self_eq_true] at h
          exact h
        cases h'
        exact ⟨k0, List.mem_cons_self, .inl rfl⟩
    · have hb : (x == n) = false := beq_eq_false_iff_ne.mpr hx
      have h' : (r.map fun (n, k) => if (k == NameKind.free && env.scope.kind == .function && env.kindOf n == some .cell) then (n, NameKind.cell) else (n, k)).lookup x = some k := by
        dsimp only at h
        by_cases hc : (k0 == NameKind.free && env.scope.kind == .function && env.kindOf n == some .cell) = true
        · rw [if_pos hc, List.lookup_cons, hb] at h
          exact h
        · rw [if_neg hc, List.lookup_cons, hb] at h
          exact h
      obtain ⟨k', m, e⟩ := ih h'
      exact ⟨k', List.mem_cons_of_mem _ m, e⟩
theorem relabel_free {env : Env} {scope : Scope} {x : Str} (h : scope.names.lookup x = some .free) : (relabel scope env).names.lookup x = some .cell ∨ (relabel scope env).names.lookup x = some .free := by
  have go : ∀ names : List (Str × NameKind), names.lookup x = some .free → (names.map fun (n, k) => if (k == NameKind.free && env.scope.kind == .function && env.kindOf n == some .cell) then (n, NameKind.cell) else (n, k)).lookup x = some .cell ∨
      (names.map fun (n, k) => if (k == NameKind.free && env.scope.kind == .function && env.kindOf n == some .cell) then (n, NameKind.cell) else (n, k)).lookup x = some .free := by
    intro names
    induction names with
    | nil => intro h; cases h
    | cons p r ih =>
      obtain ⟨n, k⟩ := p
      intro h
      rw [List.map_cons]
      dsimp only
      by_cases hx : x = n
      · subst hx
        rw [List.lookup_cons, beq_self_eq_true] at h
        cases h
        by_cases hc : (NameKind.free == NameKind.free && env.scope.kind == .function && env.kindOf x == some .cell) = true
        · rw [if_pos hc, List.lookup_cons, beq_self_eq_true]; exact .inl rfl
        · rw [if_neg hc, List.lookup_cons, beq_self_eq_true]; exact .inr rfl
      · have hb : (x == n) = false := beq_eq_false_iff_ne.mpr hx
        rw [List.lookup_cons, hb] at h
        by_cases hc : (k == NameKind.free && env.scope.kind == .function && env.kindOf n == some .cell) = true
        · rw [if_pos hc, List.lookup_cons, hb]; exact ih h
        · rw [if_neg hc, List.lookup_cons, hb]; exact ih h
  exact go _ h

section
variable {X : Cx} {pins : List (Addr × Obj)} {σ : St} {H : Hp} {s : Shared}
/-- the block's context is well laid -/
theorem inv_comp {x : Str} {caps : List (Nat × Str)} {scope : Scope} {cl : List (Str × Addr)} {fp : List Addr} {h1 : Heap} {tk : Nat} (I : Inv X pins σ H s) (S : CompSc scope x) (hcap : CapOk X scope caps)
    (hcl : ∀ n c, cl.lookup n = some c → X.env.cells.lookup n = some c) (hcl2 : ∀ y ∈ scope.names, y.2 = .free → ∃ c, cl.lookup y.1 = some c) (hfp : ∀ b ∈ fp, FpOk X pins H b ∧ b < s.heap.objs.size)
    (hk : ∀ b o, s.heap.get? b = some o → h1.get? b = some o) (hns : h1.Ns s.heap.objs.size fun _ => none) :
    Inv (cxComp X (x :: caps.map (·.2)) scope cl s H fp) [] (none :: capV caps σ) H { s with heap := h1, toks := tk } := by
  have nn : ∀ p, p ∈ (cxComp X (x :: caps.map (·.2)) scope cl s H fp).pn ++ [] → False := fun p hp => by
    have hp' : p ∈ ([] : List (Addr × Obj)) := by simpa [cxComp] using hp
    cases hp'
  refine ⟨⟨I.ok.mod, S.kind, I.ok.glob, I.ok.blt, Nat.le_refl _, fun a b c e1 e2 => I.ok.inj a b c (hcl a c e1) (hcl b c e2), fun y hy => ?_, fun _ _ z => (by cases z), I.ok.hd, I.ok.frames, .inl rfl, fun b hb => ⟨Nat.ne_of_lt (hfp b hb).2, fun y c e => (hfp b hb).1.2.2.2.2.1 y c (hcl y c e)⟩, I.bs,
      Nat.le_trans I.ok.bsz I.sz, fun b o e hb => ?_, fun b hb z => ?_, I.stack, I.stkFree⟩, I.os.symm ▸ rfl, I.bare, Un.kept hk, ⟨_, hns, fun i y v e1 e2 e3 => ?_⟩, fun y c e => ?_, I.hok.fresh (Nat.le_refl _), fun y c e => I.freeC y c (hcl y c e), fun p hp => (nn p hp).elim, I.hok.kept hk, ?_⟩
  · have hy' : ∃ k', (y, k') ∈ scope.names ∧ k' = .free := by
      rcases hy with hy | hy
      · obtain ⟨k', m, e⟩ := lookup_relabel (env := X.env) (names := scope.names) hy
        rcases e with e | e
        · exact absurd e.symm (S.nocell _ m)
        · exact ⟨k', m, e.1⟩
      · obtain ⟨k', m, e⟩ := lookup_relabel (env := X.env) (names := scope.names) hy
        rcases e with e | e
        · exact ⟨k', m, e.symm⟩
        · cases e.2
    obtain ⟨k', m, rfl⟩ := hy'
    exact hcl2 _ m rfl
  · rcases (hfp b hb).1.2.2.2.1 with z | z
    · exact I.ok.noex b o e z
    · exact absurd (Nat.lt_of_lt_of_le (Heap.lt_size e) (Nat.le_trans I.ok.bsz z)) (Nat.lt_irrefl _)
  · rcases List.mem_cons.mp (I.stkSub b z) with q | q
    · exact (hfp b hb).1.2.1 q
    · exact (hfp b hb).1.2.2.1 q
  · cases i with
    | zero => simp at e2
    | succ k =>
      have e1' : (caps.map (·.2))[k]? = some y := by simpa [cxComp] using e1
      have e2' : (capV caps σ)[k]? = some (some v) := by simpa using e2
      rw [List.getElem?_map] at e1'
      unfold capV at e2'
      rw [List.getElem?_map] at e2'
      cases q : caps[k]? with
      | none => rw [q] at e1'; cases e1'
      | some p =>
        rw [q] at e1' e2'
        have ey : p.2 = y := Option.some.inj e1'
        have ev : (σ[p.1]?).getD none = some v := Option.some.inj e2'
        obtain ⟨c1, c2, c3⟩ := hcap.get q
        rw [ey] at c1 c2 c3
        have ev' : σ[p.1]? = some (some v) := by
          cases r : σ[p.1]? with
          | none => rw [r] at ev; cases ev
          | some o => rw [r] at ev; exact congrArg some ev
        obtain ⟨m, hn, hl⟩ := I.loc
        obtain ⟨u, ru, lk⟩ := hl p.1 y v c1 ev' (c2.elim (fun z => .inr (.inl z)) fun z => .inr (.inr z))
        refine ⟨u, ru, .inr ⟨relabel_free c3, ?_⟩⟩
        rcases lk with ⟨kk, _⟩ | ⟨_, c, ec, oc, hoc, hd⟩
        · have kk' : X.env.scope.names.lookup y = some .local := kk
          rcases c2 with z | z <;> (rw [z] at kk'; cases kk')
        · obtain ⟨c', hc'⟩ := hcl2 (y, .free) (PySem.mem_of_lookup c3) rfl
          have := hcl _ _ hc'
          rw [ec] at this
          cases this
          exact ⟨c, hc', oc, hk _ _ hoc, hd⟩
  · obtain ⟨v, oc, hoc, hd⟩ := I.cell y c (hcl y c e)
    exact ⟨v, oc, hk _ _ hoc, hd⟩
  · show _ = (x :: caps.map (·.2)).length
    unfold capV
    simp

theorem comp_run {elt iter : Expr} {ifs : List Expr} {x : Str} {px pos ipos : Pos} {caps : List (Nat × Str)} {scope : Scope} {wi : TI} {tt : TT} {te : TE} {use : Option (Value → Sem Unit)} {Q : VK} {QQ : Value → Shared → Prop}
    (hc : X.calm = true) (hi : PI X (.Name x px) iter wi) (S : CompSc scope x) (hcap : CapOk X scope caps) (hfree : ∀ y ∈ scope.names, y.2 = .free → X.env.scope.names.lookup y.1 = some .cell ∨ X.env.scope.names.lookup y.1 = some .free)
    (ht : ∀ cl s H fp, PTs (cxComp X (x :: caps.map (·.2)) scope cl s H fp) ifs tt) (he : ∀ cl s H fp, PE (cxComp X (x :: caps.map (·.2)) scope cl s H fp) elt te)
    (hs : ∀ v, foldedSetIterable iter X.env v = pure v) (nd : (x :: caps.map (·.2)).Nodup)
    (I : Inv X pins σ H s) (h : tComp wi caps tt te σ H Q)
    (fin : ∀ (D C : Addr) (H' : Hp) (s' : Shared) (m : Str → Option Value), Inv X pins σ H' s' → s'.heap.Ns C m → FpOk X pins H' C → Q (.ref D) H' → compPost (model X.prog X.w) X.A X.xe use QQ (.ref D) C (.ok .next) s') :
    wpAny (model X.prog X.w) X.A (comprehension (.ListComp elt [⟨.Name x px, iter, ifs, 0⟩] scope pos) scope X.env ipos (newList []) false (eval iter X.env) use) QQ X.xe s := by
  obtain ⟨cl, ecl, hcl, hcl2⟩ := closureFor_ok (scope := scope) (env := X.env) (fun y hy hk => I.ok.has y.1 (hfree y hy hk))
  refine wpAny_comprehension_free (g := ⟨.Name x px, iter, ifs, 0⟩) (gs := []) rfl hs ecl S.kind S.locs (thn (hi pins s σ H _ I h) fun v s1 h1 => thn h1 fun itv s2 h2 => ?_)
  obtain ⟨it, fp, tn, J, H2, e, I2, T, st2, f2, hD⟩ := h2
  subst e
  refine wpAny_newObj_type (wpAny_newFunctionEnv S.nocell (by intro y hy; simp at hy) (fun h3 hns3 hsb3 => ?_) S.kind) (by size_fits)
  have I3 : Inv X pins σ (upd H2 s2.heap.objs.size (.lst [])) { s2 with heap := s2.heap.push { cls := .type "list", data := .seq ([] : List Value).toArray }, toks := s2.toks } := I2.lnew (ys := []) (its := []) .nil (Nat.zero_le _)
  generalize hS3 : ({ s2 with heap := s2.heap.push { cls := .type "list", data := .seq ([] : List Value).toArray }, toks := s2.toks } : Shared) = s3 at I3
  have hh3 : s3.heap = s2.heap.push { cls := .type "list", data := .seq ([] : List Value).toArray } := by rw [← hS3]
  obtain ⟨W, ⟨m0, w0⟩, turn⟩ := hD s2.heap.objs.size I2.fresh
  dsimp only at hns3 hsb3 ⊢
  have hk3 : ∀ b o, s3.heap.get? b = some o → h3.get? b = some o := fun b o eb => by
    rw [hh3] at eb
    exact hsb3.extBut b o (Nat.ne_of_lt (Heap.lt_size eb)) (Heap.get?_push_of_some _ eb)
  have hD0 : ∀ b ∈ fp, b ≠ s2.heap.objs.size := fun b hb => by
    obtain ⟨o, eo, _⟩ := T.obj _ _ st2 b hb
    exact Nat.ne_of_lt (Heap.lt_size eo)
  have hfp : ∀ b ∈ fp, FpOk X pins (upd H2 s2.heap.objs.size (.lst [])) b ∧ b < s3.heap.objs.size := fun b hb => by
    obtain ⟨o, eo, _⟩ := T.obj _ _ st2 b hb
    refine ⟨⟨by rw [upd_ne (hD0 b hb)]; exact (f2 b hb).1, (f2 b hb).2⟩, ?_⟩
    rw [hh3]
    exact Nat.lt_of_lt_of_le (Heap.lt_size eo) (by rw [Heap.size_push]; exact Nat.le_succ _)
  have hns3' : h3.Ns s3.heap.objs.size fun _ => none := by
    rw [hh3]
    exact hns3
  have I4 := inv_comp (x := x) (caps := caps) (scope := scope) (cl := cl) (fp := fp) (h1 := h3) (tk := s3.toks) I3 S hcap hcl hcl2 hfp hk3 hns3'
  have tn3 : tn 0 h3 := T.keep _ _ _ st2 fun b hb o eo => hk3 b o (by rw [hh3]; exact Heap.get?_push_of_some _ eo)
  generalize hY : cxComp X (x :: caps.map (·.2)) scope cl s3 (upd H2 s2.heap.objs.size (.lst [])) fp = Y at I4
  have fpY : ∀ {H' : Hp}, (∀ b ∈ fp, H' b = none) → ∀ b ∈ fp, FpOk Y [] H' b := fun hn b hb => by
    subst hY
    refine ⟨hn b hb, Nat.ne_of_lt (hfp b hb).2, fun z => ?_, .inl hb, fun y c e => (hfp b hb).1.2.2.2.2.1 y c (hcl y c e), fun p hp => ?_⟩
    · rcases List.mem_cons.mp (I3.stkSub b z) with q | q
      · exact (hfp b hb).1.2.1 q
      · exact (hfp b hb).1.2.2.1 q
    · have hp' : p ∈ ([] : List (Addr × Obj)) := by simpa [cxComp] using hp
      cases hp'
  have fr4 : ∀ b ∈ fp, (upd H2 s2.heap.objs.size (.lst [])) b = none := fun b hb => (hfp b hb).1.1
  have eE : Y.env = compEnvC scope cl s3.heap.objs.size X.env := by subst hY; rfl
  have eP : Y.prog = X.prog := by subst hY; rfl
  have eW : Y.w = X.w := by subst hY; rfl
  have eK : Y.K = X.K := by subst hY; rfl
  have eA : Y.A = X.A := by subst hY; rfl
  have eC : Y.calm = true := by subst hY; exact hc
  have eX : Y.xe = fun _ _ => False := by subst hY; rfl
  have PT_ : PTs Y ifs tt := by subst hY; exact ht cl _ _ _
  have PE_ : PE Y elt te := by subst hY; exact he cl _ _ _
  have PG_ : PG Y (.Name x px) (gName 0) := by
    subst hY
    exact pg_name nd rfl (.inl (lookup_relabel_local S.own)) (.inr (lookup_relabel_local S.own))
  have back : ∀ {y : Option V} {H' : Hp} {s' : Shared}, Inv Y [] (y :: capV caps σ) H' s' → Inv X pins σ H' s' ∧ (∃ m, s'.heap.Ns s3.heap.objs.size m) ∧ FpOk X pins H' s3.heap.objs.size := fun {y H' s'} J' => by
    subst hY
    have J1 : Inv X pins σ H' s' := I3.call' (ch := fp) J'.os J'.base J'.hok J'.bare fun b hb => ⟨(hfp b hb).1.2.2.2.1, (hfp b hb).1.2.1, (hfp b hb).1.2.2.2.2.1, (hfp b hb).1.2.2.2.2.2⟩
    obtain ⟨m, hn, _⟩ := J'.loc
    exact ⟨J1, ⟨m, hn⟩, I3.fpOk (Nat.le_refl _) J'.free⟩
  have loop : ∀ (s4 : Shared) , Inv Y [] (none :: capV caps σ) (upd H2 s2.heap.objs.size (.lst [])) s4 → tn 0 s4.heap →
      codeAny (model X.prog X.w) X.A (.compLoop (.ListComp elt [⟨.Name x px, iter, ifs, 0⟩] scope pos) 0 (.ref it) (.ref s2.heap.objs.size) Y.env)
        (compPost (model X.prog X.w) X.A X.xe use QQ (.ref s2.heap.objs.size) s3.heap.objs.size) s4 := by
    intro s4 I4 tn4
    refine compLoop_go (fun n s' => ∃ i y H', Inv Y [] (y :: capV caps σ) H' s' ∧ tn i s'.heap ∧ (∀ b ∈ fp, H' b = none) ∧ W i n H') ?_ m0 ⟨0, none, _, I4, tn4, fr4, w0⟩
    rintro n s5 ⟨i, y, H5, I5, st5, fr5, w5⟩
    rcases turn i n H5 w5 with ⟨stop, qn⟩ | ⟨go, step⟩
    · have := T.done Y eP eW eK eC i [] s5 _ H5 (fun _ _ => False) I5 (fpY fr5) st5 stop
      rw [eA] at this
      refine thn this fun r s6 ⟨hr, I6⟩ => ?_
      subst hr
      obtain ⟨J1, ⟨m, hn⟩, fC⟩ := back I6
      exact fin _ _ H5 s6 m J1 hn fC qn
    · have := T.item Y eP eW eK eC i [] s5 _ H5 (fun _ _ => False) I5 (fpY fr5) st5 go
      rw [eA] at this
      refine thn this fun r s6 ⟨u, hr, h6⟩ => ?_
      subst hr
      refine thn h6 fun _ s7 ⟨z, H7, I7, r7, y7, st7, fr7⟩ => ?_
      have I7' := I7.pinned (fpY fr7) (T.obj _ _ st7)
      have a1 := PG_ _ s7 _ H7 z u _ I7' r7 (show gName 0 z (y :: capV caps σ) H7 (fun σ' H' => σ' = some z :: capV caps σ ∧ H' = H7) from ⟨rfl, rfl⟩)
      rw [eP, eW, eA, eX] at a1
      refine thn a1 fun _ s8 ⟨σ8, H8, I8, e8, e8'⟩ => ?_
      subst e8 e8'
      have a2 := PT_ _ s8 _ H8 _ I8 (step z H8 y7)
      rw [eP, eW, eA, eX] at a2
      refine thn a2 fun ok s9 ⟨H9, I9, q9⟩ => ?_
      have again : ∀ {H' : Hp} {s' : Shared} {m' : Nat}, Inv Y ([] ++ pinsAt fp s7.heap) (some z :: capV caps σ) H' s' → m' < n → W (i + 1) m' H' → ∃ m, m < n ∧ ∃ i y H', Inv Y [] (y :: capV caps σ) H' s' ∧ tn i s'.heap ∧ (∀ b ∈ fp, H' b = none) ∧ W i m H' := fun {H' s' m'} J lt w' => by
        refine ⟨m', lt, i + 1, some z, H', J.unpinned, T.keep _ _ _ st7 fun b hb o e => (J.pin (b, o) (List.mem_append_right _ (List.mem_append_right _ (mem_pinsAt hb e)))).1, fun b hb => ?_, w'⟩
        obtain ⟨o, e, d⟩ := T.obj _ _ st7 b hb
        exact (J.pin (b, o) (List.mem_append_right _ (List.mem_append_right _ (mem_pinsAt hb e)))).2.1
      cases ok with
      | false =>
        obtain ⟨m', lt, w'⟩ := q9
        exact again I9 lt w'
      | true =>
        have a3 := PE_ _ s9 _ H9 _ I9 q9
        rw [eP, eW, eA, eX] at a3
        refine thn a3 fun uv s10 ⟨v, H10, I10, r10, ys, hys, hlt, m', lt, w'⟩ => ?_
        have a4 := mt_append (X := Y) _ s10 _ H10 (.ref s2.heap.objs.size) [v] (.ref s2.heap.objs.size) [uv] (fun v' H' => H' = upd H10 s2.heap.objs.size (.lst (ys ++ [v]))) I10 rfl (.cons r10 .nil) ⟨_, ys, v, rfl, rfl, hys, hlt, rfl⟩
        rw [eP, eW, eA, eX] at a4
        refine thn a4 fun _ s11 ⟨v11, H11, I11, _, e11⟩ => ?_
        subst e11
        exact again I11 lt w'
  have L := loop { s3 with heap := h3, toks := s3.toks } I4 tn3
  rw [eE] at L
  refine codeAny_compStart_list L (T.self _ 0 _ _ _ (by exact tn3) L)
end
end L2

set_option Elab.async false
set_option linter.all false
set_option maxRecDepth 100000
namespace L2
open PySem PySem.Spec PyProof.Rows
section
variable {X : Cx} {pins : List (Addr × Obj)} {σ : St} {H : Hp} {s : Shared}
theorem pe_comp {elt iter : Expr} {ifs : List Expr} {x : Str} {px pos : Pos} {caps : List (Nat × Str)} {scope : Scope} {wi : TI} {tt : TT} {te : TE}
    (hc : X.calm = true) (hi : PI X (.Name x px) iter wi) (S : CompSc scope x) (hcap : CapOk X scope caps) (hfree : freeB scope X.env.scope = true)
    (nd : (x :: caps.map (·.2)).Nodup)
    (ht : ∀ cl s H fp, PTs (cxComp X (x :: caps.map (·.2)) scope cl s H fp) ifs tt) (he : ∀ cl s H fp, PE (cxComp X (x :: caps.map (·.2)) scope cl s H fp) elt te)
    (hs : ∀ v, foldedSetIterable iter X.env v = pure v := by intro _; rfl) :
    PE X (.ListComp elt [⟨.Name x px, iter, ifs, 0⟩] scope pos) (tComp wi caps tt te) := by
  intro pins s σ H Q I h
  rw [eval_ListComp]
  refine comp_run (use := none) hc hi S hcap (freeB_ok hfree) ht he hs nd I h fun D C H' s' m I' hn fC q => ?_
  refine ⟨m, hn, fun h' sb => ⟨.ref D, H', ?_, rfl, q⟩⟩
  exact I'.turned (it := C) (t' := s'.toks) (fun b o hb e => sb.extBut b o hb e) fC.1 fC.2.1 fC.2.2.2.1 fC.2.2.2.2.1 fC.2.2.2.2.2
theorem ps_setComp {elt iter : Expr} {ifs : List Expr} {x y : Str} {px py pos spos : Pos} {caps : List (Nat × Str)} {scope : Scope} {wi : TI} {tt : TT} {te : TE} {i : Nat} (hN : X.N.Nodup) (hi' : X.N[i]? = some y) (hx : Loc X.env.scope y)
    (hc : X.calm = true) (hi : PI X (.Name x px) iter wi) (S : CompSc scope x) (hcap : CapOk X scope caps) (hfree : freeB scope X.env.scope = true)
    (nd : (x :: caps.map (·.2)).Nodup)
    (ht : ∀ cl s H fp, PTs (cxComp X (x :: caps.map (·.2)) scope cl s H fp) ifs tt) (he : ∀ cl s H fp, PE (cxComp X (x :: caps.map (·.2)) scope cl s H fp) elt te)
    (hs : ∀ v, foldedSetIterable iter X.env v = pure v := by intro _; rfl)
    (hsw : swapsWith (.ListComp elt [⟨.Name x px, iter, ifs, 0⟩] scope pos) (some (.Name y py)) spos.line X.env = pure true := by rfl)
    (hf : X.fn y = true ∨ X.env.scope.names.lookup y = some .local := by first | exact .inl rfl | exact .inr rfl | assumption) :
    PS X (.Assign [.Name y py] (.ListComp elt [⟨.Name x px, iter, ifs, 0⟩] scope pos) spos) (tAsg (tComp wi caps tt te) (gName i)) := by
  intro pins s σ H D I h
  rw [exec_Assign_Name_used _ _ _ _ hsw]
  refine wpAny_bind (wpAny_standAt (wpAny_bind ?_))
  show wpAny _ X.A (do let _ ← comprehension (.ListComp elt [⟨.Name x px, iter, ifs, 0⟩] scope pos) scope X.env _ (newList []) false (eval iter X.env) (some (assign (.Name y py) X.env))) _ _ s
  refine wpAny_bind (wpAny_mono (comp_run (use := some (assign (.Name y py) X.env)) (QQ := fun _ s' => SP X pins D .next s') hc hi S hcap (freeB_ok hfree) ht he hs nd I h fun D' C H' s' m I' hn fC q => ?_)
    (fun _ s' hq => wpAny_pure (wpAny_pure hq)) fun _ _ e => e)
  show wpAny _ X.A (assign (.Name y py) X.env (.ref D')) _ _ s'
  refine wpAny_assign_Name (store_ok2 I' hN hi' hx (v := .ref D') rfl (fun s2 I2 hh => ?_) hf)
  obtain ⟨a, sb, ha⟩ := hh
  have hCa : C ≠ a := by
    rcases ha with e | e
    · rw [e]; exact fC.2.1
    · exact fun z => fC.2.2.2.2.1 y a e z.symm
  refine ⟨m, hn.sameBut sb hCa, fun h' sb' => ⟨σ.set i (some (.ref D')), H', ?_, q⟩⟩
  exact I2.turned (it := C) (t' := s2.toks) (fun b o hb e => sb'.extBut b o hb e) fC.1 fC.2.1 fC.2.2.2.1 fC.2.2.2.2.1 fC.2.2.2.2.2

/-! ### a comprehension whose parts leave the heap as it is -/
theorem comp_filter {J : It} {xs : List V} {D : Addr} {H1 : Hp} {tt : TT} {te : TE} {cv : St} {Q : VK} (p : V → Bool) (f : V → V) (hz : xs.length ≤ sizeLine)
    (hgo : ∀ i x ys, xs[i]? = some x → J.go i (upd H1 D (.lst ys)) ∧ ∀ y H2, J.yld i (upd H1 D (.lst ys)) y H2 → y = x ∧ H2 = upd H1 D (.lst ys))
    (hst : ∀ ys, J.stop xs.length (upd H1 D (.lst ys)))
    (ht : ∀ x, x ∈ xs → ∀ (ys : List V) (R : Bool → Hp → Prop), R (p x) (upd H1 D (.lst ys)) → tt (some x :: cv) (upd H1 D (.lst ys)) R)
    (he : ∀ x, x ∈ xs → p x = true → ∀ (ys : List V) (R : VK), R (f x) (upd H1 D (.lst ys)) → te (some x :: cv) (upd H1 D (.lst ys)) R)
    (q : Q (.ref D) (upd H1 D (.lst ((xs.filter p).map f)))) :
    tCompB J cv tt te D H1 Q := by
  refine ⟨fun i m H' => m = xs.length - i ∧ i ≤ xs.length ∧ H' = upd H1 D (.lst (((xs.take i).filter p).map f)), ⟨xs.length, by simp, Nat.zero_le _, by simp⟩, ?_⟩
  rintro i m H' ⟨rfl, hi, rfl⟩
  by_cases hlt : i < xs.length
  · have ex : xs[i]? = some xs[i] := List.getElem?_eq_getElem hlt
    obtain ⟨g, y⟩ := hgo i xs[i] (((xs.take i).filter p).map f) ex
    have hm : xs[i] ∈ xs := List.getElem_mem hlt
    refine .inr ⟨g, fun x H2 hy => ?_⟩
    obtain ⟨rfl, rfl⟩ := y x H2 hy
    have et := take_succ_filter p xs i xs[i] ex
    refine ht _ hm _ _ ?_
    cases hp : p xs[i] with
    | false =>
      rw [if_neg (by simp)]
      refine ⟨xs.length - (i + 1), by omega, rfl, hlt, ?_⟩
      rw [et, hp]
      simp
    | true =>
      rw [if_pos rfl]
      refine he _ hm hp _ _ ⟨_, upd_same, ?_, xs.length - (i + 1), by omega, rfl, hlt, ?_⟩
      · have : ((xs.take i).filter p).length ≤ (xs.take i).length := List.length_filter_le _ _
        rw [List.length_map]
        rw [List.length_take] at this
        omega
      · rw [upd_upd, et, hp]
        simp
  · have e : i = xs.length := by omega
    subst e
    refine .inl ⟨hst _, ?_⟩
    rw [List.take_length]
    exact q
theorem comp_map {J : It} {xs : List V} {D : Addr} {H1 : Hp} {te : TE} {cv : St} {Q : VK} (f : V → V) (hz : xs.length ≤ sizeLine)
    (hgo : ∀ i x ys, xs[i]? = some x → J.go i (upd H1 D (.lst ys)) ∧ ∀ y H2, J.yld i (upd H1 D (.lst ys)) y H2 → y = x ∧ H2 = upd H1 D (.lst ys))
    (hst : ∀ ys, J.stop xs.length (upd H1 D (.lst ys)))
    (he : ∀ x, x ∈ xs → ∀ (ys : List V) (R : VK), R (f x) (upd H1 D (.lst ys)) → te (some x :: cv) (upd H1 D (.lst ys)) R)
    (q : Q (.ref D) (upd H1 D (.lst (xs.map f)))) :
    tCompB J cv tYes te D H1 Q :=
  comp_filter (tt := tYes) (fun _ => true) f hz hgo hst (fun _ _ _ _ r => r) (fun x hx _ => he x hx) (by rw [List.filter_eq_self.mpr (fun _ _ => rfl)]; exact q)
/-- the iterators that were met -/
theorem itr_walk {lo : Int} {n : Nat} {D : Addr} {H1 : Hp} : (∀ i x ys, ((List.range n).map fun k => V.int (lo + (k : Nat)))[i]? = some x → (Itr lo n).go i (upd H1 D (.lst ys)) ∧ ∀ y H2, (Itr lo n).yld i (upd H1 D (.lst ys)) y H2 → y = x ∧ H2 = upd H1 D (.lst ys)) ∧
    ∀ ys, (Itr lo n).stop ((List.range n).map fun k => V.int (lo + (k : Nat))).length (upd H1 D (.lst ys)) := by
  refine ⟨fun i x ys e => ?_, fun ys => by show n ≤ _; simp⟩
  rw [List.getElem?_map] at e
  have hi : i < n := by
    by_cases hi : i < n
    · exact hi
    · rw [List.getElem?_eq_none (by simpa using hi)] at e
      cases e
  rw [List.getElem?_range hi] at e
  have e' : V.int (lo + (i : Nat)) = x := Option.some.inj e
  subst e'
  exact ⟨hi, fun y H2 h => ⟨h.2, h.1⟩⟩
theorem itl_walk {K : PySem.W.Frag} {a D : Addr} {xs : List V} {H1 : Hp} (h : SqL K H1 a xs) (hD : H1 D = none) : (∀ i x ys, xs[i]? = some x → (Itl K a).go i (upd H1 D (.lst ys)) ∧ ∀ y H2, (Itl K a).yld i (upd H1 D (.lst ys)) y H2 → y = x ∧ H2 = upd H1 D (.lst ys)) ∧
    ∀ ys, (Itl K a).stop xs.length (upd H1 D (.lst ys)) := by
  have up : ∀ ys, SqL K (upd H1 D (.lst ys)) a xs := fun ys => Same.seq (fun b o q => by rw [upd_ne (ne_of_none q hD)]; exact q) h
  refine ⟨fun i x ys e => ⟨⟨xs, x, up ys, e⟩, fun y H2 hh => ⟨?_, hh.1⟩⟩, fun ys => ⟨xs, up ys, Nat.le_refl _⟩⟩
  have := hh.2 xs (up ys)
  rw [e] at this
  exact (Option.some.inj this).symm
end

/-! ### a word between two statements -/
/-! ### heaps -/
theorem upd_old {H : Hp} {a p : Addr} {o u : HO} (h : H a = some o) (hp : H p = none) : upd H p u a = some o := by rw [upd_ne (ne_of_none h hp)]; exact h
theorem SqL.up {K : PySem.W.Frag} {H : Hp} {a p : Addr} {xs : List V} {u : HO} (h : SqL K H a xs) (hp : H p = none) : SqL K (upd H p u) a xs := Same.seq (fun _ _ q => upd_old q hp) h
theorem same_up {H : Hp} {p : Addr} {u : HO} (hp : H p = none) : Same H (upd H p u) := fun _ _ q => upd_old q hp

/-! ### what a def promises of the heap: all else that it made is forgotten -/
def flatO : HO → Bool
  | .ins _ _ _ => false
  | .frz _ _ => false
  | _ => true
def fixO : HO → Bool
  | .tup _ => true
  | .frz _ _ => true
  | .tbl _ => true
  | .own _ => true
  | _ => false
structure Less (H H2 H' : Hp) : Prop where
  sub : Same H2 H'
  dep : ∀ a o, H2 a = some o → H a = some o ∨ flatO o = true ∨ ∃ C dx fs, o = .ins C dx fs ∧ H2 dx = some (.own a)
  kept : ∀ a o, H a = some o → fixO o = true → H2 a = some o
theorem Less.same {H H' : Hp} (s : Same H H') : Less H H H' := ⟨s, fun _ _ e => .inl e, fun _ _ e _ => e⟩
theorem Less.refl {H : Hp} : Less H H H := .same (Same.refl H)
theorem Less.new {H H' : Hp} {p : Addr} {o : HO} (s : Same H H') (hp : H p = none) (e : H' p = some o) (f : flatO o = true) : Less H (upd H p o) H' := by
  refine ⟨fun a u q => ?_, fun a u q => ?_, fun a u q _ => upd_old q hp⟩
  · by_cases h : a = p
    · subst h; rw [upd_same] at q; cases q; exact e
    · rw [upd_ne h] at q; exact s a u q
  · by_cases h : a = p
    · subst h; rw [upd_same] at q; cases q; exact .inr (.inl f)
    · rw [upd_ne h] at q; exact .inl q
theorem ObjOk.less {P : Program} {w : World} {H H2 H' : Hp} {h h0 : Heap} {a : Addr} {o : HO} (L : Less H H2 H') (d : ObjOk P w H h0 a o) (x : ObjOk P w H' h a o) : ObjOk P w H2 h a o := by
  induction o with
  | ins C dx fs =>
    obtain ⟨_, z, ne, e1, e2⟩ := x
    exact ⟨L.kept _ _ d.1 rfl, z, ne, e1, e2⟩
  | frz ob u ih => exact ⟨x.1, ih d.2 x.2⟩
  | _ => exact x
theorem HOk.less {P : Program} {w : World} {H H2 H' : Hp} {h h0 : Heap} (L : Less H H2 H') (ok0 : HOk P w H h0) (ok : HOk P w H' h) : HOk P w H2 h := fun a o e => by
  have x := ok a o (L.sub a o e)
  rcases L.dep a o e with q | q | ⟨C, dx, fs, rfl, q⟩
  · exact ObjOk.less L (ok0 a o q) x
  · cases o with
    | ins C dx fs => cases q
    | frz ob u => cases q
    | _ => exact x
  · obtain ⟨_, z⟩ := x
    exact ⟨q, z⟩
theorem Un.less {fs : List Addr} {H H2 H' : Hp} {h h' : Heap} (L : Less H H2 H') (u : Un fs [] H H' h h') : Un fs [] H H2 h h' :=
  { keep := u.keep, slot := u.slot, there := u.there
    free := fun b o e n hx => by
      have q := u.free b o e n hx
      cases z : H2 b with
      | none => rfl
      | some v => rw [L.sub b v z] at q; cases q
    tups := fun b xs e => L.kept b _ e rfl
    frzs := fun b o v e => L.kept b _ e rfl
    tbls := fun b ps e => ⟨#[], by rw [L.kept b _ e rfl]; simp⟩ }
theorem FnOk.drop {P : Program} {w : World} {K : PySem.W.Frag} {mg : Str → Option Value} {base : Heap} {CX : CXT} {k : Nat} {f : Addr} {fd : FuncData} {ps : List Str} {sp sp' : Sp} (F : FnOk P w K mg base CX k f fd ps sp)
    (h : ∀ vs H Q E, sp' vs H Q E → sp vs H (fun v H' => ∃ H2, Less H H2 H' ∧ Q v H2) E) : FnOk P w K mg base CX k f fd ps sp' := by
  refine ⟨fun vs H Q E z => F.len vs H _ E (h vs H Q E z), fun A outer s H args us vs Q E hr e0 hb r z => ?_⟩
  refine codeAny_mono (F.run A outer s H args us vs _ E hr e0 hb r (h vs H Q E z)) fun q s' hq => ?_
  cases q with
  | error e => exact hq
  | ok fl =>
    cases fl with
    | ret u =>
      obtain ⟨v, H', o1, o2, o3, o4, o5, H2, L, q2⟩ := hq
      exact ⟨v, H2, o1, o2, Un.less L o3, HOk.less L e0.hok o4, o5, q2⟩
    | _ => exact hq

/-- a def of the text, as it is called -/
structure Cal (P : Program) (w : World) (K : PySem.W.Frag) (mg : Str → Option Value) (base : Heap) (k : Nat) (x : Str) (ps : List Str) (sp : Sp) : Prop where
  ex : ∃ f fd, mg x = some (.ref f) ∧ PySem.W.keepIn K (.ref f) = true ∧ Binds K fd ps [] ∧ FnOk P w K mg base CX0 k f fd ps sp
structure Def (K : PySem.W.Frag) (mg : Str → Option Value) (x : Str) (st : Stmt) (ps : List Str) : Prop where
  ex : ∃ f fd, Fun K x x st f fd ∧ Binds K fd ps [] ∧ mg x = some (.ref f)
section
variable {P : Program} {w : World} {K : PySem.W.Frag} {mg : Str → Option Value} {base : Heap}
theorem Cal.mono {j k : Nat} {x : Str} {ps : List Str} {sp : Sp} (C : Cal P w K mg base j x ps sp) (h : j ≤ k) : Cal P w K mg base k x ps sp :=
  let ⟨f, fd, a, b, c, d⟩ := C.ex
  ⟨f, fd, a, b, c, d.mono h⟩
theorem Fun.okD {x qual : Str} {st : Stmt} {f : Addr} {fd : FuncData} {N ps : List Str} {k : Nat} {sp : Sp} (F : Fun K x qual st f fd) (S : FnScope N ps (defScope st)) (len : ∀ vs H Q E, sp vs H Q E → vs.length = ps.length)
    (hbody : ∀ (cdv : Value) (A : Around) (outer : List Env) (s : Shared) (H : Hp) (vs : List V) (Q : VK) (E : XK), Room k (A.deeper (envOfC qual (defScope st) s.heap.objs.size f cdv)) → sp vs H Q E →
      ∃ t, PSs (cxOf CX0 P w K mg base N qual (defScope st) f cdv A outer s H E).nox (defBody st) t ∧ t { nx := fun _ H' => ∃ H2, Less H H2 H' ∧ Q .non H2, rt := fun v H' => ∃ H2, Less H H2 H' ∧ Q v H2 } (start N vs) H) : FnOk P w K mg base CX0 (k + 1) f fd ps sp := by
  refine FnOk.drop (sp := fun vs H Q E => ∃ Q0, sp vs H Q0 E ∧ Q = fun v H' => ∃ H2, Less H H2 H' ∧ Q0 v H2) (F.ok S (fun vs H Q E ⟨Q0, z, _⟩ => len vs H Q0 E z) fun cdv A outer s H vs Q E hr ⟨Q0, z, e⟩ => ?_) fun vs H Q E z => ⟨Q, z, rfl⟩
  subst e
  exact hbody cdv A outer s H vs Q0 E hr z
theorem Def.ok {x : Str} {st : Stmt} {N ps : List Str} {k : Nat} {sp : Sp} (D : Def K mg x st ps) (S : FnScope N ps (defScope st)) (len : ∀ vs H Q E, sp vs H Q E → vs.length = ps.length)
    (hbody : ∀ (f : Addr) (cdv : Value) (A : Around) (outer : List Env) (s : Shared) (H : Hp) (vs : List V) (Q : VK) (E : XK), Room k (A.deeper (envOfC x (defScope st) s.heap.objs.size f cdv)) → sp vs H Q E →
      ∃ t, PSs (cxOf CX0 P w K mg base N x (defScope st) f cdv A outer s H E).nox (defBody st) t ∧ t { nx := fun _ H' => ∃ H2, Less H H2 H' ∧ Q .non H2, rt := fun v H' => ∃ H2, Less H H2 H' ∧ Q v H2 } (start N vs) H) : Cal P w K mg base (k + 1) x ps sp := by
  obtain ⟨f, fd, F, b, m⟩ := D.ex
  exact ⟨f, fd, m, F.kp, b, F.okD S len (hbody f)⟩
theorem def_mk {h : Heap} {x : Str} {st : Stmt} {ps : List Str} {f : Addr} {oc : Value} {od an : Option Addr} {osl : Array (Option Value)} {kV doc pm cdv ct : Value} (X : K.In h) (G : h.Ns mainGlobals mg) (a : PySem.W.nsIn K mainGlobals x = some (some (.ref f)))
    (l : K.lookup f = some ⟨oc, od, .func (PySem.W.fnOf x x (defArgs st) (defBody st) (defScope st) .none kV doc pm an cdv ct), osl⟩) (c : PySem.W.codeIn K cdv x = true) (k : PySem.W.keepIn K (.ref f) = true)
    (hb : ∀ (kV doc pm : Value) (an : Option Addr) (cdv ct : Value) (us : List Value), us.length = ps.length → bindArgs (PySem.W.fnOf x x (defArgs st) (defBody st) (defScope st) .none kV doc pm an cdv ct) ⟨us, []⟩ = pure (ps.zip us)) : Def K mg x st ps :=
  ⟨f, _, fun_mk l c k, (fun_mk l c k).binds hb, PySem.W.mg_of X G a⟩
end
section
variable {X : Cx} {k : Nat} {x : Str} {ps : List Str} {sp : Sp} {p pos : Pos} {e : Expr} {es : List Expr} {t : TA}
theorem pe_def (C : Cal X.prog X.w X.K X.mg X.base k x ps sp) (hr : Room k X.A) (hg : Gl X x) (ha : PA X (e :: es) t) (hdb : (x == ("__debug__" : Str)) = false := by decide) (he : starEach (e :: es) X.env = (false, eval e X.env) :: starEach es X.env := by rfl) (hpl : (backTo pos (starEach es X.env)).any (·.1) = false := by rfl) :
    PE X (.Call (.Name x p) (e :: es) [] pos) (tCall sp [] E0 t) :=
  let ⟨_, _, a, b, c, d⟩ := C.ex
  pe_call d hr hg a b c .nil pass0 ha hdb he hpl
end

/-! ### sum, isinstance, == of lists and tuples -/
section
variable {X : Cx}
theorem call_sum (hc : X.calm = true) : CallR X (.builtin "sum") (fun xs H Q => ∃ (a : Addr) (ns : List Int), xs = [.ref a] ∧ SqL X.K H a (ns.map V.int) ∧ Q (.int ns.sum) H) := by
  rintro pins s σ H xs us Q I r ⟨a, ns, rfl, h, q⟩
  obtain ⟨u, rfl, ru⟩ := vals1 r
  cases (show u = .ref a from ru)
  obtain ⟨its, hv, pl, hz⟩ := I.list h
  have hi := intsAre_of hv
  obtain ⟨ys, e⟩ := hi.allInts.items
  have hl : s.heap.IsList a (intItems ys) := e ▸ pl.isList
  refine sum_intListG (I.ok.hd hc) hl fun h' tk t' hk => ?_
  have es : preSum (numAt ys) ys.size = ns.sum := by
    rw [preSum_eq, List.take_of_length_le (by simp), ← nums_intItems, ← e]
    exact congrArg List.sum hi.numsOf
  rw [es]
  exact ⟨.int ns.sum, H, I.kept hk, ⟨_, rfl⟩, q⟩
theorem call_isinst : CallR X (.builtin "isinstance") (fun xs H Q => ∃ x T t b, xs = [x, .ty T] ∧ TyOf X.K H x t ∧ PySem.W.kitOne X.K t (.type T) = some b ∧ Q (.bl b) H) := by
  rintro pins s σ H xs us Q I r ⟨x, T, t, b, rfl, ty, e, q⟩
  obtain ⟨u, v, rfl, ru, rv⟩ := vals2 r
  cases (show v = .type T from rv)
  exact isinst_ok I ru ty e fun tk => ⟨.bl b, H, I.tok tk, rfl, q⟩

theorem eqV_all : ∀ (ns ms : List Int), ns.length = ms.length → ((List.range ns.length).all fun j => decide (ns[j]? = ms[j]?)) = decide (ns = ms) := fun ns ms h => by
  by_cases e : ns = ms
  · subst e; simp
  · rw [decide_eq_false e]
    rw [List.all_eq_false]
    have : ∃ j : Nat, ns[j]? ≠ ms[j]? := by
      by_cases hh : ∃ j : Nat, ns[j]? ≠ ms[j]?
      · exact hh
      · exact absurd (List.ext_getElem? fun j => by
          by_cases z : ns[j]? = ms[j]?
          · exact z
          · exact absurd ⟨j, z⟩ hh) e
    obtain ⟨j, hj⟩ := this
    refine ⟨j, ?_, by simpa using hj⟩
    rw [List.mem_range]
    by_cases hlt : j < ns.length
    · exact hlt
    · exact absurd (by rw [List.getElem?_eq_none (by omega), List.getElem?_eq_none (by omega)]) hj
theorem ints_at {vs : List Value} {ns : List Int} (h : IntsAre vs ns) : ∀ j (hj : j < vs.length), ∃ n t, vs[j] = .int n t ∧ ns[j]? = some n := by
  induction h with
  | nil => intro j hj; simp at hj
  | cons n t _ ih =>
    intro j hj
    cases j with
    | zero => exact ⟨n, t, rfl, rfl⟩
    | succ j => exact ih j (by simpa using hj)
theorem ints_eqAt {A : Around} {s : Shared} {vs us : List Value} {ns ms : List Int} (h : IntsAre vs ns) (g : IntsAre us ms) : ∀ j (h1 : j < vs.toArray.size) (h2 : j < us.toArray.size), SeqAt.EqAt A s vs.toArray[j] us.toArray[j] (decide (ns[j]? = ms[j]?)) := fun j h1 h2 => by
  obtain ⟨n, t, e, en⟩ := ints_at h j (by simpa using h1)
  obtain ⟨m, u, e', em⟩ := ints_at g j (by simpa using h2)
  have x1 : vs.toArray[j] = .int n t := by simpa using e
  have x2 : us.toArray[j] = .int m u := by simpa using e'
  rw [x1, x2, en, em]
  have := eqAt_V (A := A) (s := s) (y := .int n) (x := .int m) (u := .int n t) (v := .int m u) ⟨t, rfl⟩ ⟨u, rfl⟩ rfl rfl
  have z : eqV (.int n) (.int m) = decide (some n = some m) := by
    show (n == m) = _
    by_cases q : n = m
    · subst q; simp
    · rw [decide_eq_false (by simpa using q)]; simpa using q
  rw [← z]
  exact this
def rEqLI (K : PySem.W.Frag) (neg : Bool) : R2 := fun x y H Q => ∃ (a b : Addr) (ns ms : List Int), x = .ref a ∧ y = .ref b ∧ SqL K H a (ns.map V.int) ∧ SqL K H b (ms.map V.int) ∧ Q (.bl (if neg then !decide (ns = ms) else decide (ns = ms))) H
theorem op_neLI (hu : X.A.units < cLine) : OpR X (compareOp .NotEq) (rEqLI X.K true) := by
  rintro pins s σ H x y v u Q I rx ry ⟨a, b, ns, ms, rfl, rfl, ha, hb, q⟩
  cases (show v = .ref a from rx)
  cases (show u = .ref b from ry)
  obtain ⟨is1, v1, p1, _⟩ := I.list ha
  obtain ⟨is2, v2, p2, _⟩ := I.list hb
  have i1 := intsAre_of v1
  have i2 := intsAre_of v2
  have l1 : is1.length = ns.length := by have := v1.length; simpa using this.symm
  have l2 : is2.length = ms.length := by have := v2.length; simpa using this.symm
  by_cases hl : ns.length = ms.length
  · refine SeqAt.RcNeAt.lists p1.isList p2.isList (by simpa [l1, l2] using hl) hu (ints_eqAt i1 i2) _ _ _ _ ?_
    have : is1.toArray.size = ns.length := by simpa using l1
    rw [this, eqV_all _ _ hl]
    exact ⟨.bl _, H, I, rfl, q⟩
  · refine SeqAt.RcNeAt.lists_lengths p1.isList p2.isList (by simpa [l1, l2] using hl) hu _ _ _ _ ?_
    have : decide (ns = ms) = false := decide_eq_false fun e => hl (by rw [e])
    rw [this] at q
    exact ⟨.bl _, H, I, rfl, q⟩
end
end L2

set_option Elab.async false
set_option linter.all false
set_option maxRecDepth 100000
namespace L2
open PySem PySem.Spec PyProof.Rows
theorem b_len : bootBuiltins "len" = some (.builtin "len") := by decide +kernel
theorem b_sum : bootBuiltins "sum" = some (.builtin "sum") := by decide +kernel
theorem b_isinstance : bootBuiltins "isinstance" = some (.builtin "isinstance") := by decide +kernel
theorem b_list : bootBuiltins "list" = some (.type "list") := by decide +kernel
theorem b_int : bootBuiltins "int" = some (.type "int") := by decide +kernel
theorem b_bool : bootBuiltins "bool" = some (.type "bool") := by decide +kernel
theorem b_reversed : bootBuiltins "reversed" = some (.type "reversed") := by decide +kernel
theorem b_zip : bootBuiltins "zip" = some (.type "zip") := by decide +kernel
theorem b_min : bootBuiltins "min" = some (.builtin "min") := by decide +kernel
/-- the built-in names stand as they are -/
structure BI (mg : Str → Option Value) : Prop where
  len : mg "len" = none
  sum : mg "sum" = none
  isinstance : mg "isinstance" = none
  divmod : mg "divmod" = none
  list : mg "list" = none
  tuple : mg "tuple" = none
  int : mg "int" = none
  bool : mg "bool" = none
  range : mg "range" = none
  reversed : mg "reversed" = none
  zip : mg "zip" = none
  min : mg "min" = none
  max : mg "max" = none
  enumerate : mg "enumerate" = none
  str : mg "str" = none
  sorted : mg "sorted" = none
  set : mg "set" = none
theorem hU {A : Around} {k : Nat} (hr : Room k A) : A.units < cLine := hr.units0
theorem kit_int_int {K : PySem.W.Frag} : PySem.W.kitOne K (.type "int") (.type "int") = some true := by rfl
theorem kit_int_bool {K : PySem.W.Frag} : PySem.W.kitOne K (.type "int") (.type "bool") = some false := by rfl
theorem getI {ns : List Int} {i : Nat} (h : i < ns.length) : (ns.map V.int)[i]? = some (.int (ns.getD i 0)) := by
  rw [List.getElem?_map, List.getElem?_eq_getElem h]
  show some (V.int ns[i]) = _
  rw [List.getD_eq_getElem?_getD, List.getElem?_eq_getElem h]
  rfl
theorem atN {ns : List Int} {i : Nat} (h : i < ns.length) : atI (ns.map V.int) (i : Int) = some (.int (ns.getD i 0)) := atI_nat (getI h)
theorem atZ {ns : List Int} {i : Int} (h0 : 0 ≤ i) (h : i < (ns.length : Int)) : atI (ns.map V.int) i = some (.int (ns.getD i.toNat 0)) := by
  have e : i = ((i.toNat : Nat) : Int) := by omega
  have := atN (ns := ns) (i := i.toNat) (by omega)
  rw [← e] at this
  exact this
theorem ixZ {n : Nat} {i : Int} (h0 : 0 ≤ i) (h : i < (n : Int)) : ixN n i = some i.toNat := by
  unfold ixN
  rw [if_pos h0, if_pos h]
theorem map_set (ns : List Int) (i : Nat) (v : Int) : (ns.map V.int).set i (.int v) = (ns.set i v).map V.int := by rw [List.map_set]
theorem cut_take (ns : List Int) {k : Int} (h0 : 0 ≤ k) : cutV (ns.map V.int) none (some k) = (ns.take k.toNat).map V.int := by
  unfold cutV
  rw [HT.sIx_none, List.drop_zero, Nat.sub_zero, List.length_map]
  have e : k = ((k.toNat : Nat) : Int) := by omega
  rw [e, HT.sIx_nat, ← List.map_take]
  congr 1
  rw [Int.toNat_natCast]
  rcases Nat.le_total k.toNat ns.length with h | h
  · rw [Nat.min_eq_left h]
  · rw [Nat.min_eq_right h, List.take_of_length_le (Nat.le_refl _), List.take_of_length_le h]
theorem mem_at {ns : List Int} {i : Nat} {y : V} (h : (ns.map V.int)[i]? = some y) : ∃ n, n ∈ ns ∧ y = .int n := by
  rw [List.getElem?_map] at h
  cases e : ns[i]? with
  | none => rw [e] at h; cases h
  | some n => rw [e] at h; exact ⟨n, List.mem_of_getElem? e, (Option.some.inj h).symm⟩
theorem pe_gint {X : Cx} {x : Str} {i : Int} {pos : Pos} (hg : Gl X x) (hm : ∃ t, X.mg x = some (.int i t)) (hd : (x == ("__debug__" : Str)) = false := by decide) : PE X (.Name x pos) (tC (.int i)) :=
  let ⟨t, e⟩ := hm
  pe_glob hg e (v := .int i) ⟨t, rfl⟩ hd
theorem pe_bty {X : Cx} {x : Str} {T : String} {pos : Pos} (hg : Gl X x) (hm : X.mg x = none) (hv : bootBuiltins x = some (.type T)) (hn : x ≠ "__name__" := by decide) (hd : (x == ("__debug__" : Str)) = false := by decide) : PE X (.Name x pos) (tC (.ty T)) :=
  pe_bltn hg hm hv (v := .ty T) rfl hn hd
theorem szl {n : Nat} (h : n ≤ 1000) : n ≤ sizeLine := Nat.le_of_lt (small1000 h)
end L2
namespace Np
open L2
/-! ### the mathematics -/
structure GoodC (ns : List Int) : Prop where
  len0 : 1 ≤ ns.length
  len1 : ns.length ≤ 100
  rng : ∀ c ∈ ns, 0 ≤ c ∧ c ≤ 999
  pos : 0 < ns.sum
theorem sum_nn : ∀ {ns : List Int}, (∀ c ∈ ns, 0 ≤ c ∧ c ≤ 999) → 0 ≤ ns.sum ∧ ns.sum ≤ 999 * (ns.length : Int)
  | [], _ => by simp
  | c :: r, h => by
    have h1 := h c List.mem_cons_self
    have h2 := sum_nn (ns := r) fun x hx => h x (List.mem_cons_of_mem _ hx)
    rw [List.sum_cons, List.length_cons]
    omega
theorem GoodC.le {ns : List Int} (g : GoodC ns) : ns.sum ≤ 99900 := by
  have := (sum_nn g.rng).2
  have := g.len1
  omega
theorem GoodC.mk' {ns : List Int} (h0 : 1 ≤ ns.length) (h1 : ns.length ≤ 100) (h : ∀ c ∈ ns, 0 ≤ c ∧ c ≤ 999) (hs : ns.sum ≠ 0) : GoodC ns := ⟨h0, h1, h, by have := (sum_nn h).1; omega⟩
/-- the first of the sign k -/
def first (ns : List Int) (k : Nat) : Int := (ns.take k).sum
theorem first_zero (ns : List Int) : first ns 0 = 0 := by simp [first]
theorem first_succ {ns : List Int} {k : Nat} (h : k < ns.length) : first ns (k + 1) = first ns k + ns.getD k 0 := by
  unfold first
  rw [List.take_succ, List.sum_append, List.getD_eq_getElem?_getD, List.getElem?_eq_getElem h]
  simp
theorem first_len (ns : List Int) : first ns ns.length = ns.sum := by unfold first; rw [List.take_length]
theorem getD_mem {ns : List Int} {k : Nat} (h : k < ns.length) : ns.getD k 0 ∈ ns := by
  rw [List.getD_eq_getElem?_getD, List.getElem?_eq_getElem h]
  exact List.getElem_mem h
theorem GoodC.at {ns : List Int} (g : GoodC ns) (k : Nat) : 0 ≤ ns.getD k 0 ∧ ns.getD k 0 ≤ 999 := by
  by_cases h : k < ns.length
  · exact g.rng _ (getD_mem h)
  · rw [List.getD_eq_getElem?_getD, List.getElem?_eq_none (by omega)]
    exact ⟨Int.le_refl _, by decide⟩
theorem first_mono {ns : List Int} (h : ∀ c ∈ ns, 0 ≤ c ∧ c ≤ 999) {i j : Nat} (hij : i ≤ j) (hj : j ≤ ns.length) : first ns i ≤ first ns j := by
  induction j with
  | zero =>
    have : i = 0 := by omega
    subst this; exact Int.le_refl _
  | succ j ih =>
    rcases Nat.lt_or_ge i (j + 1) with q | q
    · have := ih (by omega) (by omega)
      rw [first_succ (by omega)]
      have := (h _ (getD_mem (ns := ns) (k := j) (by omega))).1
      omega
    · have : i = j + 1 := by omega
      subst this; exact Int.le_refl _
/-- the sign of a slot -/
def signOf : List Int → Int → Nat
  | [], _ => 0
  | c :: r, s => if s < c then 0 else signOf r (s - c) + 1
theorem signOf_ok : ∀ {ns : List Int} {s : Int}, 0 ≤ s → s < ns.sum → signOf ns s < ns.length ∧ first ns (signOf ns s) ≤ s ∧ s < first ns (signOf ns s) + ns.getD (signOf ns s) 0
  | [], s, h0, h => by simp at h; omega
  | c :: r, s, h0, h => by
    unfold signOf
    by_cases q : s < c
    · rw [if_pos q]
      exact ⟨by simp, by simp [first]; exact h0, by simp [first]; exact q⟩
    · rw [if_neg q]
      rw [List.sum_cons] at h
      obtain ⟨a, b, d⟩ := signOf_ok (ns := r) (s := s - c) (by omega) (by omega)
      have e : first (c :: r) (signOf r (s - c) + 1) = c + first r (signOf r (s - c)) := by simp [first]
      have e' : (c :: r).getD (signOf r (s - c) + 1) 0 = r.getD (signOf r (s - c)) 0 := by simp
      rw [e, e', List.length_cons]
      omega
theorem signOf_unique {ns : List Int} (h : ∀ c ∈ ns, 0 ≤ c ∧ c ≤ 999) {s : Int} {k : Nat} (hk : k < ns.length) (h1 : first ns k ≤ s) (h2 : s < first ns (k + 1)) : signOf ns s = k := by
  have h0 : 0 ≤ s := by
    have := first_mono h (Nat.zero_le k) (by omega)
    rw [first_zero] at this
    omega
  have hs : s < ns.sum := by
    have := first_mono h (show k + 1 ≤ ns.length from hk) (Nat.le_refl _)
    rw [first_len] at this
    omega
  obtain ⟨a, b, d⟩ := signOf_ok h0 hs
  rw [← first_succ a] at d
  rcases Nat.lt_trichotomy (signOf ns s) k with q | q | q
  · have := first_mono h (show signOf ns s + 1 ≤ k from q) (by omega)
    omega
  · exact q
  · have := first_mono h (show k + 1 ≤ signOf ns s from q) (by omega)
    omega
/-- what the draws make -/
def draw (cell k bound : Int) : Int := ((cell % 1000003 * 48271 + k * 69621 + 11) % 2147483647) * (((cell % 7919 + 1) * (k * k + 31 * k + 7) % 65537) + 1) / 4099 % bound
theorem draw_rng (cell k : Int) {bound : Int} (h : 0 < bound) : 0 ≤ draw cell k bound ∧ draw cell k bound < bound := ⟨Int.emod_nonneg _ (by omega), Int.emod_lt_of_pos _ h⟩
def lawTop (cell : Int) : Int := if cell % 4 = 0 then 2 else if cell % 4 = 1 then 10 else if cell % 4 = 2 then 1000 else 4
theorem lawTop_rng (cell : Int) : 2 ≤ lawTop cell ∧ lawTop cell ≤ 1000 := by unfold lawTop; split <;> (try split) <;> (try split) <;> omega
def lawC0 (cell many : Int) : List Int := (List.range many.toNat).map fun k => draw (cell / 4) ((k : Nat) : Int) (lawTop cell)
def lawCounts (cell many : Int) : List Int := if (lawC0 cell many).sum = 0 then (lawC0 cell many).set ((cell / 4) % many).toNat 1 else lawC0 cell many
theorem lawC0_len (cell many : Int) : (lawC0 cell many).length = many.toNat := by simp [lawC0]
theorem lawC0_rng (cell many : Int) : ∀ c ∈ lawC0 cell many, 0 ≤ c ∧ c ≤ 999 := fun c hc => by
  obtain ⟨k, _, rfl⟩ := List.mem_map.mp hc
  have h := lawTop_rng cell
  have := draw_rng (cell / 4) ((k : Nat) : Int) (bound := lawTop cell) (by omega)
  omega
theorem sum_set_pos {ns : List Int} (h : ∀ c ∈ ns, 0 ≤ c ∧ c ≤ 999) {i : Nat} (hi : i < ns.length) : 0 < (ns.set i 1).sum := by
  induction ns generalizing i with
  | nil => simp at hi
  | cons c r ih =>
    have hr := (sum_nn (ns := r) fun x hx => h x (List.mem_cons_of_mem _ hx)).1
    have hc := (h c List.mem_cons_self).1
    cases i with
    | zero => rw [List.set_cons_zero, List.sum_cons]; omega
    | succ i =>
      have := ih (fun x hx => h x (List.mem_cons_of_mem _ hx)) (i := i) (by simpa using hi)
      rw [List.set_cons_succ, List.sum_cons]; omega
theorem lawCounts_len (cell many : Int) : (lawCounts cell many).length = many.toNat := by
  unfold lawCounts; split <;> simp [lawC0_len]
theorem lawCounts_good (cell : Int) {many : Int} (h1 : 1 ≤ many) (h2 : many ≤ 100) : GoodC (lawCounts cell many) := by
  have hl := lawC0_len cell many
  have hr := lawC0_rng cell many
  unfold lawCounts
  split
  · have hi : ((cell / 4) % many).toNat < (lawC0 cell many).length := by
      have a := Int.emod_nonneg (cell / 4) (show many ≠ 0 by omega)
      have b := Int.emod_lt_of_pos (cell / 4) (show 0 < many by omega)
      omega
    refine ⟨by rw [List.length_set]; omega, by rw [List.length_set]; omega, fun c hc => ?_, sum_set_pos hr hi⟩
    rcases List.mem_or_eq_of_mem_set hc with q | q
    · exact hr c q
    · subst q; exact ⟨by decide, by decide⟩
  · rename_i hne
    exact .mk' (by omega) (by omega) hr hne
def cellAt (ns : List Int) (k : Int) : Int := ns.getD k.toNat 0
end Np
namespace Np
open L2
theorem div_rest {a b q r : Int} (hb : 0 < b) (e : a = q * b + r) (h0 : 0 ≤ r) (h1 : r < b) : a / b = q ∧ a % b = r :=
  (Int.ediv_emod_unique hb).mpr ⟨by rw [e, Int.mul_comm b q]; omega, h0, h1⟩
def layN (ns : List Int) (k : Nat) (p : Int) : Int := p / ns.getD k 0 * ns.sum + first ns k + p % ns.getD k 0
def takeS (ns : List Int) (p : Int) : Nat := signOf ns (p % ns.sum)
def takeP (ns : List Int) (p : Int) : Int := p / ns.sum * ns.getD (takeS ns p) 0 + p % ns.sum - first ns (takeS ns p)
theorem first_nn {ns : List Int} (g : GoodC ns) {k : Nat} (h : k ≤ ns.length) : 0 ≤ first ns k := by
  have := first_mono g.rng (Nat.zero_le k) h
  rw [first_zero] at this
  exact this
theorem first_top {ns : List Int} (g : GoodC ns) {k : Nat} (h : k < ns.length) : first ns k + ns.getD k 0 ≤ ns.sum := by
  have := first_mono g.rng (show k + 1 ≤ ns.length from h) (Nat.le_refl _)
  rw [first_len, first_succ h] at this
  exact this
theorem lay_rest {ns : List Int} (g : GoodC ns) {k : Nat} (h : k < ns.length) (hc : 0 < ns.getD k 0) (p : Int) : layN ns k p / ns.sum = p / ns.getD k 0 ∧ layN ns k p % ns.sum = first ns k + p % ns.getD k 0 := by
  have a := Int.emod_nonneg p (show ns.getD k 0 ≠ 0 by omega)
  have b := Int.emod_lt_of_pos p hc
  have c := first_nn g (Nat.le_of_lt h)
  have d := first_top g h
  exact div_rest g.pos (by unfold layN; omega) (by omega) (by omega)
theorem lay_nn {ns : List Int} (g : GoodC ns) {k : Nat} (h : k < ns.length) (hc : 0 < ns.getD k 0) {p : Int} (hp : 0 ≤ p) : 0 ≤ layN ns k p := by
  have a := Int.emod_nonneg p (show ns.getD k 0 ≠ 0 by omega)
  have c := first_nn g (Nat.le_of_lt h)
  have e := Int.mul_nonneg (Int.ediv_nonneg hp (Int.le_of_lt hc)) (Int.le_of_lt g.pos)
  unfold layN
  omega
theorem take_lay {ns : List Int} (g : GoodC ns) {k : Nat} (h : k < ns.length) (hc : 0 < ns.getD k 0) (p : Int) : takeS ns (layN ns k p) = k ∧ takeP ns (layN ns k p) = p := by
  obtain ⟨e1, e2⟩ := lay_rest g h hc p
  have a := Int.emod_nonneg p (show ns.getD k 0 ≠ 0 by omega)
  have b := Int.emod_lt_of_pos p hc
  have e3 : takeS ns (layN ns k p) = k := by
    unfold takeS
    rw [e2]
    exact signOf_unique g.rng h (by omega) (by rw [first_succ h]; omega)
  refine ⟨e3, ?_⟩
  unfold takeP
  rw [e3, e1, e2]
  have := Int.mul_ediv_add_emod p (ns.getD k 0)
  rw [Int.mul_comm] at this
  omega
theorem take_ok {ns : List Int} (g : GoodC ns) (p : Int) : takeS ns p < ns.length ∧ first ns (takeS ns p) ≤ p % ns.sum ∧ p % ns.sum < first ns (takeS ns p) + ns.getD (takeS ns p) 0 :=
  signOf_ok (Int.emod_nonneg p (by have := g.pos; omega)) (Int.emod_lt_of_pos p g.pos)
theorem take_pos {ns : List Int} (g : GoodC ns) (p : Int) : 0 < ns.getD (takeS ns p) 0 := by
  obtain ⟨_, b, c⟩ := take_ok g p
  omega
theorem take_nn {ns : List Int} (g : GoodC ns) {p : Int} (hp : 0 ≤ p) : 0 ≤ takeP ns p := by
  obtain ⟨_, b, c⟩ := take_ok g p
  have d := take_pos g p
  have e := Int.mul_nonneg (Int.ediv_nonneg hp (Int.le_of_lt g.pos)) (Int.le_of_lt d)
  unfold takeP
  omega
theorem lay_take {ns : List Int} (g : GoodC ns) (p : Int) : layN ns (takeS ns p) (takeP ns p) = p := by
  obtain ⟨_, b, c⟩ := take_ok g p
  have d := take_pos g p
  have q : takeP ns p / ns.getD (takeS ns p) 0 = p / ns.sum ∧ takeP ns p % ns.getD (takeS ns p) 0 = p % ns.sum - first ns (takeS ns p) :=
    div_rest d (by unfold takeP; omega) (by omega) (by omega)
  unfold layN
  rw [q.1, q.2]
  have := Int.mul_ediv_add_emod p ns.sum
  rw [Int.mul_comm] at this
  omega
def heldN (ns : List Int) : List Int := ((List.range ns.length).filter fun k => decide (0 < ns.getD k 0)).map fun k => ((k : Nat) : Int)
theorem held_mem {ns : List Int} {x : Int} : x ∈ heldN ns ↔ ∃ k : Nat, k < ns.length ∧ 0 < ns.getD k 0 ∧ x = (k : Int) := by
  unfold heldN
  rw [List.mem_map]
  constructor
  · rintro ⟨k, hk, rfl⟩
    rw [List.mem_filter, List.mem_range] at hk
    exact ⟨k, hk.1, of_decide_eq_true hk.2, rfl⟩
  · rintro ⟨k, h1, h2, rfl⟩
    exact ⟨k, List.mem_filter.mpr ⟨List.mem_range.mpr h1, decide_eq_true h2⟩, rfl⟩
theorem held_pos {ns : List Int} (g : GoodC ns) : 0 < (heldN ns).length := by
  have : ((takeS ns 0 : Nat) : Int) ∈ heldN ns := held_mem.mpr ⟨_, (take_ok g 0).1, take_pos g 0, rfl⟩
  exact List.length_pos_of_mem this
theorem held_at {ns : List Int} (i : Nat) (h : i < (heldN ns).length) : ∃ k : Nat, (heldN ns).getD i 0 = (k : Int) ∧ k < ns.length ∧ 0 < ns.getD k 0 := by
  obtain ⟨k, a, b, c⟩ := held_mem.mp (getD_mem h)
  exact ⟨k, c, a, b⟩
def lawPile (c : Int) : Int := if c % 4 = 1 then c / 4 % 30 else c / 4 % 10 ^ 60
theorem lawPile_nn (c : Int) : 0 ≤ lawPile c := by
  unfold lawPile
  split
  · exact Int.emod_nonneg _ (by decide)
  · exact Int.emod_nonneg _ (by decide)
def heldP (ns : List Int) : V → Bool
  | .int k => decide (0 < ns.getD k.toNat 0)
  | _ => false
theorem held_comp {ns : List Int} : ((((List.range ns.length).map fun k => V.int (0 + (k : Nat))).filter (heldP ns)).map id) = (heldN ns).map V.int := by
  unfold heldN
  rw [List.map_id, List.filter_map, List.map_map]
  have e : (List.filter (heldP ns ∘ fun k : Nat => V.int (0 + (k : Int))) (List.range ns.length)) = List.filter (fun k => decide (0 < ns.getD k 0)) (List.range ns.length) := by
    refine List.filter_congr fun k _ => ?_
    show decide (0 < ns.getD (0 + (k : Int)).toNat 0) = _
    rw [Int.zero_add, Int.toNat_natCast]
  rw [e]
  refine List.map_congr_left fun k _ => ?_
  show V.int (0 + (k : Int)) = V.int (k : Int)
  rw [Int.zero_add]
end Np
namespace L2
end L2
namespace L2
open PySem PySem.Spec PyProof.Rows
section
variable {X : Cx} {K : PySem.W.Frag}
theorem ix_listK (e : X.K = K) : IxR X (rIxL K) := e ▸ ix_list
end
end L2

set_option Elab.async false
set_option linter.all false
set_option maxRecDepth 100000
namespace L2
open PySem PySem.Spec PyProof.Rows
/-! ### reversed(a list) -/
def Itv (K : PySem.W.Frag) (a : Addr) (n : Nat) : It :=
  ⟨fun i H => ∃ xs x, SqL K H a xs ∧ i < n ∧ xs[n - 1 - i]? = some x, fun i H x H' => H' = H ∧ ∀ xs, SqL K H a xs → xs[n - 1 - i]? = some x, fun i _ => i = n⟩
theorem turn_rev {P : Program} {w : World} {K : PySem.W.Frag} {tg : Expr} (a it : Addr) (n : Nat) : Turn P w K tg (Itv K a n) [it] it (fun i h => i ≤ n ∧ h.IsRevIter it a ((n : Int) - 1 - (i : Nat))) where
  mem := by simp
  obj := fun i h st b hb => by
    have e : b = it := by simpa using hb
    subst e
    obtain ⟨_, o, e, c, d⟩ := st
    exact ⟨o, e, fun v z => by rw [d] at z; cases z⟩
  keep := fun i h h' st k => ⟨st.1, st.2.at fun o e => k it (by simp) o e⟩
  item := by
    intro X hP hw hK hc i pins s σ H E I hf st hg
    subst hP hw hK
    obtain ⟨xs, x, hq, hi, hx⟩ := hg
    obtain ⟨its, rv, p, hz⟩ := I.list hq
    obtain ⟨u, hu, ru⟩ := rv.get hx
    obtain ⟨f0, f1, f2, f3, f4, f5⟩ := hf it (by simp)
    have e1 : (n : Int) - 1 - (i : Nat) = ((n - 1 - i : Nat) : Int) := by omega
    have hit := st.2
    rw [e1] at hit
    refine wpAny_pyNext_rev_item hit p.isList (x := u) (by simpa using hu) fun h' st' sb => ?_
    have I1 : Inv X pins σ H { s with heap := h' } := I.turned (t' := s.toks) (fun b o hb e => (sb.2 b hb).trans e) f0 f1 f3 f4 f5
    have e2 : ((n - 1 - i : Nat) : Int) - 1 = (n : Int) - 1 - ((i + 1 : Nat) : Int) := by omega
    rw [e2] at st'
    obtain ⟨o, e, c, d⟩ := id st'
    exact ⟨u, rfl, go_of (s := { s with heap := h' }) e c d (by decide) ⟨x, H, I1, ru, ⟨rfl, fun ys hy => by rw [I.list_inj hy hq]; exact hx⟩, ⟨hi, st'⟩, fun b hb => (hf b hb).1⟩⟩
  done := by
    intro X hP hw hK hc i pins s σ H E I hf st hg
    subst hP hw hK
    obtain ⟨f0, f1, f2, f3, f4, f5⟩ := hf it (by simp)
    have hg' : i = n := hg
    subst hg'
    have e : (i : Int) - 1 - (i : Nat) = -1 := by omega
    have hit := st.2
    rw [e] at hit
    exact wpAny_pyNext_rev_end (I.ok.hd hc) hit fun h' eb => ⟨rfl, I.turned (t' := s.toks) (fun b o hb e => eb b o hb e) f0 f1 f3 f4 f5⟩
  self := fun _ _ _ _ _ st h => wpAny_pyIter_revIter st.2 h
section
variable {X : Cx} {tg : Expr}
def iRev (K : PySem.W.Frag) (ta : TA) : TI := fun σ H R => ta σ H fun vs H1 => ∃ a xs, vs = [.ref a] ∧ SqL K H1 a xs ∧ R (Itv K a xs.length) H1
theorem pi_rev {a : Expr} {ta : TA} {p pos : Pos} (hg : Gl X "reversed") (hm : X.mg "reversed" = none) (ha : PA X [a] ta) (hs : starEach [a] X.env = [(false, eval a X.env)] := by rfl) : PI X tg (.Call (.Name "reversed" p) [a] [] pos) (iRev X.K ta) := by
  intro pins s σ H R I h
  refine Call_ (ld_blt I hg hm b_reversed (PyProof.Rows.callWith_type1 (thn (ha pos pins s σ H _ I h) fun us s1 ⟨vs, H1, I1, r1, q1⟩ => ?_) hs rfl))
  obtain ⟨l, xs, e, hq, q⟩ := q1
  subst e
  obtain ⟨u, rfl, ru⟩ := vals1 r1
  cases (show u = .ref l from ru)
  obtain ⟨its, rv, pl, hz⟩ := I1.list hq
  refine call_reversed_list pl.isList ?_
  have en : (its.toArray.size : Int) = (xs.length : Int) := by rw [List.size_toArray, rv.length]
  rw [en]
  have hit : ({ s1 with heap := s1.heap.push (revObj l ((xs.length : Int) - 1)) } : Shared).heap.IsRevIter s1.heap.objs.size l ((xs.length : Int) - 1) := ⟨_, Heap.get?_push_size _ rfl, rfl, rfl⟩
  refine wpAny_pyIter_revIter hit ?_
  refine ⟨s1.heap.objs.size, [s1.heap.objs.size], _, _, H1, rfl, I1.kept (t' := s1.toks) fun b o e => Heap.get?_push_of_some _ e, turn_rev l _ xs.length, ⟨Nat.zero_le _, ?_⟩, fun b hb => ?_, q⟩
  · have e0 : (xs.length : Int) - 1 - ((0 : Nat) : Int) = (xs.length : Int) - 1 := by omega
    rw [e0]
    exact hit
  · have e : b = s1.heap.objs.size := by simpa using hb
    subst e
    exact I1.fpOk (Nat.le_refl _) (I1.hok.fresh (Nat.le_refl _))
end
theorem for_rev {K : PySem.W.Frag} {a : Addr} {xs : List V} {g : TG} {tb : TS} {D : Ends} {σ : St} {H : Hp} (Pv : Nat → St → Hp → Prop) (h0 : Pv 0 σ H) (hl : ∀ i σ H, i ≤ xs.length → Pv i σ H → SqL K H a xs)
    (hs : ∀ i x σ H, xs.reverse[i]? = some x → Pv i σ H → g x σ H fun σ2 H2 => tb { D with nx := Pv (i + 1), ct := Pv (i + 1), bk := D.nx } σ2 H2) (hd : ∀ σ H, Pv xs.length σ H → D.nx σ H) :
    ∃ W : Nat → Nat → St → Hp → Prop, (∃ m, W 0 m σ H) ∧ ∀ i m σ H, W i m σ H →
      ((Itv K a xs.length).stop i H ∧ D.nx σ H) ∨ ((Itv K a xs.length).go i H ∧ ∃ N : St → Hp → Prop, (∀ σ' H', N σ' H' → ∃ m', m' < m ∧ W (i + 1) m' σ' H') ∧ ∀ x H', (Itv K a xs.length).yld i H x H' → g x σ H' fun σ2 H2 => tb { D with nx := N, ct := N, bk := D.nx } σ2 H2) := by
  refine ⟨fun i m σ H => m = xs.length - i ∧ i ≤ xs.length ∧ Pv i σ H, ⟨xs.length, by simp, Nat.zero_le _, h0⟩, ?_⟩
  rintro i m σ H ⟨rfl, hi, p⟩
  have q := hl i σ H hi p
  by_cases hlt : i < xs.length
  · have ex : xs[xs.length - 1 - i]? = some (xs[xs.length - 1 - i]'(by omega)) := List.getElem?_eq_getElem (by omega)
    refine .inr ⟨⟨xs, _, q, hlt, ex⟩, Pv (i + 1), fun σ' H' p' => ⟨xs.length - (i + 1), by omega, rfl, hlt, p'⟩, fun x H' y => ?_⟩
    obtain ⟨e, y⟩ := y
    subst e
    refine hs i x σ _ ?_ p
    rw [List.getElem?_reverse hlt]
    exact y xs q
  · have e : i = xs.length := by omega
    subst e
    exact .inl ⟨rfl, hd σ H p⟩
theorem Less.add {H H2 H' : Hp} {p : Addr} {o : HO} (L : Less H H2 H') (hp : H2 p = none) (e : H' p = some o) (f : flatO o = true) : Less H (upd H2 p o) H' := by
  refine ⟨fun a u q => ?_, fun a u q => ?_, fun a u q z => upd_old (L.kept a u q z) hp⟩
  · by_cases h : a = p
    · subst h; rw [upd_same] at q; cases q; exact e
    · rw [upd_ne h] at q; exact L.sub a u q
  · by_cases h : a = p
    · subst h; rw [upd_same] at q; cases q; exact .inr (.inl f)
    · rw [upd_ne h] at q
      rcases L.dep a u q with z | z | ⟨C, dx, fs, z, z'⟩
      · exact .inl z
      · exact .inr (.inl z)
      · exact .inr (.inr ⟨C, dx, fs, z, upd_old z' hp⟩)
end L2
namespace Np
open L2
/-! ### rows -/
def OkS (ns : List Int) (k : Int) : Prop := 0 ≤ k ∧ k < (ns.length : Int) ∧ 0 < ns.getD k.toNat 0
end Np
namespace Np
open L2
end Np

set_option Elab.async false
set_option linter.all false
set_option maxRecDepth 100000
namespace L2
open PySem PySem.Spec PyProof.Rows
/-! ### defs with defaults; methods; classes that are called -/
structure FunD (K : PySem.W.Frag) (x qual : Str) (st : Stmt) (dv : Value) (f : Addr) (fd : FuncData) : Prop where
  ex : ∃ (oc : Value) (od : Option Addr) (kV doc pm : Value) (an : Option Addr) (cdv ct : Value) (osl : Array (Option Value)),
    fd = PySem.W.fnOf x qual (defArgs st) (defBody st) (defScope st) dv kV doc pm an cdv ct ∧ K.lookup f = some ⟨oc, od, .func fd, osl⟩ ∧ PySem.W.codeIn K cdv qual = true
section
variable {P : Program} {w : World} {K : PySem.W.Frag} {mg : Str → Option Value} {base : Heap}
theorem fund_mk {x qual : Str} {st : Stmt} {f : Addr} {oc : Value} {od an : Option Addr} {osl : Array (Option Value)} {dv kV doc pm cdv ct : Value} (l : K.lookup f = some ⟨oc, od, .func (PySem.W.fnOf x qual (defArgs st) (defBody st) (defScope st) dv kV doc pm an cdv ct), osl⟩)
    (c : PySem.W.codeIn K cdv qual = true) : FunD K x qual st dv f (PySem.W.fnOf x qual (defArgs st) (defBody st) (defScope st) dv kV doc pm an cdv ct) := ⟨oc, od, kV, doc, pm, an, cdv, ct, osl, rfl, l, c⟩
theorem FunD.ok {x qual : Str} {st : Stmt} {dv : Value} {f : Addr} {fd : FuncData} {N ps : List Str} {k : Nat} {sp : Sp} (F : FunD K x qual st dv f fd) (S : FnScope N ps (defScope st)) (len : ∀ vs H Q E, sp vs H Q E → vs.length = ps.length)
    (hbody : ∀ (cdv : Value) (A : Around) (outer : List Env) (s : Shared) (H : Hp) (vs : List V) (Q : VK) (E : XK), Room k (A.deeper (envOfC qual (defScope st) s.heap.objs.size f cdv)) → sp vs H Q E →
      ∃ t, PSs (cxOf CX0 P w K mg base N qual (defScope st) f cdv A outer s H E).nox (defBody st) t ∧ t { nx := fun _ H' => Q .non H', rt := Q } (start N vs) H) : FnOk P w K mg base CX0 (k + 1) f fd ps sp := by
  obtain ⟨oc, od, kV, doc, pm, an, cdv, ct, osl, rfl, lk, hcd⟩ := F.ex
  refine fn_of lk hcd S len fun A outer s H vs Q E hr hsp => ?_
  obtain ⟨t, h, q⟩ := hbody cdv A outer s H vs Q E hr hsp
  exact ⟨t, h.nox, q⟩
theorem FunD.okD {x qual : Str} {st : Stmt} {dv : Value} {f : Addr} {fd : FuncData} {N ps : List Str} {k : Nat} {sp : Sp} (F : FunD K x qual st dv f fd) (S : FnScope N ps (defScope st)) (len : ∀ vs H Q E, sp vs H Q E → vs.length = ps.length)
    (hbody : ∀ (cdv : Value) (A : Around) (outer : List Env) (s : Shared) (H : Hp) (vs : List V) (Q : VK) (E : XK), Room k (A.deeper (envOfC qual (defScope st) s.heap.objs.size f cdv)) → sp vs H Q E →
      ∃ t, PSs (cxOf CX0 P w K mg base N qual (defScope st) f cdv A outer s H E).nox (defBody st) t ∧ t { nx := fun _ H' => ∃ H2, Less H H2 H' ∧ Q .non H2, rt := fun v H' => ∃ H2, Less H H2 H' ∧ Q v H2 } (start N vs) H) : FnOk P w K mg base CX0 (k + 1) f fd ps sp := by
  refine FnOk.drop (sp := fun vs H Q E => ∃ Q0, sp vs H Q0 E ∧ Q = fun v H' => ∃ H2, Less H H2 H' ∧ Q0 v H2) (F.ok S (fun vs H Q E ⟨Q0, z, _⟩ => len vs H Q0 E z) fun cdv A outer s H vs Q E hr ⟨Q0, z, e⟩ => ?_) fun vs H Q E z => ⟨Q, z, rfl⟩
  subst e
  exact hbody cdv A outer s H vs Q0 E hr z
/-- what may be called by a name (a def or a class), with one argument at least -/
structure CalA (P : Program) (w : World) (K : PySem.W.Frag) (mg : Str → Option Value) (base : Heap) (k : Nat) (x : Str) (sp : Sp) : Prop where
  ex : ∃ f, mg x = some (.ref f) ∧ PySem.W.keepIn K (.ref f) = true ∧ ∀ (X : Cx), X.prog = P → X.w = w → X.K = K → X.mg = mg → X.base = base → Room k X.A → ∀ (pins : List (Addr × Obj)) (σ : St) (H : Hp) (s : Shared) (Q : VK) (vs : List V) (us : List Value),
    Inv X pins σ H s → Vals vs us → sp vs H Q E0 → wpAny (model X.prog X.w) X.A (call (.ref f) us) (EP X pins σ Q) X.xe s
theorem CalA.mono {j k : Nat} {x : Str} {sp : Sp} (C : CalA P w K mg base j x sp) (h : j ≤ k) : CalA P w K mg base k x sp :=
  let ⟨f, a, b, c⟩ := C.ex
  ⟨f, a, b, fun X h1 h2 h3 h4 h5 hr => c X h1 h2 h3 h4 h5 (hr.mono h)⟩
/-- a method of a class -/
structure CalM (P : Program) (w : World) (K : PySem.W.Frag) (mg : Str → Option Value) (base : Heap) (k : Nat) (C : Addr) (m : Str) (ps : List Str) (sp : Sp) : Prop where
  ex : ∃ f fd, Meth K C m f ∧ Binds K fd ps [] ∧ FnOk P w K mg base CX0 k f fd ps sp
theorem CalM.mono {j k : Nat} {C : Addr} {m : Str} {ps : List Str} {sp : Sp} (F : CalM P w K mg base j C m ps sp) (h : j ≤ k) : CalM P w K mg base k C m ps sp :=
  let ⟨f, fd, a, b, c⟩ := F.ex
  ⟨f, fd, a, b, c.mono h⟩
structure DefM (K : PySem.W.Frag) (C : Addr) (m qual : Str) (st : Stmt) (ps : List Str) : Prop where
  ex : ∃ f fd, FunD K m qual st .none f fd ∧ Binds K fd ps [] ∧ Meth K C m f
theorem DefM.ok {C : Addr} {m qual : Str} {st : Stmt} {N ps : List Str} {k : Nat} {sp : Sp} (D : DefM K C m qual st ps) (S : FnScope N ps (defScope st)) (len : ∀ vs H Q E, sp vs H Q E → vs.length = ps.length)
    (hbody : ∀ (f : Addr) (cdv : Value) (A : Around) (outer : List Env) (s : Shared) (H : Hp) (vs : List V) (Q : VK) (E : XK), Room k (A.deeper (envOfC qual (defScope st) s.heap.objs.size f cdv)) → sp vs H Q E →
      ∃ t, PSs (cxOf CX0 P w K mg base N qual (defScope st) f cdv A outer s H E).nox (defBody st) t ∧ t { nx := fun _ H' => ∃ H2, Less H H2 H' ∧ Q .non H2, rt := fun v H' => ∃ H2, Less H H2 H' ∧ Q v H2 } (start N vs) H) : CalM P w K mg base (k + 1) C m ps sp := by
  obtain ⟨f, fd, F, b, m⟩ := D.ex
  exact ⟨f, fd, m, b, F.okD S len (hbody f)⟩
theorem DefM.okH {C : Addr} {m qual : Str} {st : Stmt} {N ps : List Str} {k : Nat} {sp : Sp} (D : DefM K C m qual st ps) (S : FnScope N ps (defScope st)) (len : ∀ vs H Q E, sp vs H Q E → vs.length = ps.length)
    (hbody : ∀ (f : Addr) (cdv : Value) (A : Around) (outer : List Env) (s : Shared) (H : Hp) (vs : List V) (Q : VK) (E : XK), Room k (A.deeper (envOfC qual (defScope st) s.heap.objs.size f cdv)) → sp vs H Q E →
      ∃ t, PSs (cxOf CX0 P w K mg base N qual (defScope st) f cdv A outer s H E).nox (defBody st) t ∧ t { nx := fun _ H' => Q .non H', rt := Q } (start N vs) H) : CalM P w K mg base (k + 1) C m ps sp := by
  obtain ⟨f, fd, F, b, m⟩ := D.ex
  exact ⟨f, fd, m, b, F.ok S len (hbody f)⟩
/-- an __init__, and what it is to be called with (the defaults that fill up) -/
structure DefI (K : PySem.W.Frag) (C : Addr) (qual : Str) (st : Stmt) (ps : List Str) (dvs : List V) : Prop where
  ex : ∃ dv f fd ds, FunD K "__init__" qual st dv f fd ∧ Binds K fd ps [] ∧ Binds K fd ps ds ∧ Vals dvs ds ∧ Mk K C f
theorem DefI.ok {C : Addr} {x qual : Str} {st : Stmt} {N ps : List Str} {dvs : List V} {k : Nat} {sp sp1 sp2 : Sp} (D : DefI K C qual st ps dvs) (hm : mg x = some (.ref C)) (S : FnScope N ps (defScope st)) (len : ∀ vs H Q E, sp vs H Q E → vs.length = ps.length)
    (hbody : ∀ (f : Addr) (cdv : Value) (A : Around) (outer : List Env) (s : Shared) (H : Hp) (vs : List V) (Q : VK) (E : XK), Room k (A.deeper (envOfC qual (defScope st) s.heap.objs.size f cdv)) → sp vs H Q E →
      ∃ t, PSs (cxOf CX0 P w K mg base N qual (defScope st) f cdv A outer s H E).nox (defBody st) t ∧ t { nx := fun _ H' => Q .non H', rt := Q } (start N vs) H)
    (h1 : ∀ vs H Q, sp1 vs H Q E0 → ∀ x dx, H x = none → H dx = none → dx ≠ x → sp (.ref x :: vs) (upd (upd H dx (.own x)) x (.ins C dx [])) (fun v H2 => v = .non ∧ Q (.ref x) H2) E0)
    (h2 : ∀ vs H Q, sp2 vs H Q E0 → ∀ x dx, H x = none → H dx = none → dx ≠ x → sp (.ref x :: (vs ++ dvs)) (upd (upd H dx (.own x)) x (.ins C dx [])) (fun v H2 => v = .non ∧ Q (.ref x) H2) E0) :
    CalA P w K mg base (k + 2) x sp1 ∧ CalA P w K mg base (k + 2) x sp2 := by
  obtain ⟨dv, f, fd, ds, F, b, b2, hd, M⟩ := D.ex
  have G : FnOk P w K mg base CX0 (k + 1) f fd ps sp := F.ok S len (hbody f)
  refine ⟨⟨C, hm, M.kp, fun X e1 e2 e3 e4 e5 hr pins σ H s Q vs us I r h => ?_⟩, ⟨C, hm, M.kp, fun X e1 e2 e3 e4 e5 hr pins σ H s Q vs us I r h => ?_⟩⟩
  · subst e1 e2 e3 e4 e5
    exact run_make M G hr b .nil pass0 I r (fun x dx n1 n2 n3 => by rw [List.append_nil]; exact h1 vs H Q h x dx n1 n2 n3)
  · subst e1 e2 e3 e4 e5
    exact run_make M G hr b2 hd pass0 I r (fun x dx n1 n2 n3 => h2 vs H Q h x dx n1 n2 n3)
/-- C.__init__(self, ..) of a class by its name -/
structure DefC (K : PySem.W.Frag) (mg : Str → Option Value) (x : Str) (C : Addr) (m qual : Str) (st : Stmt) (ps : List Str) : Prop where
  ex : ∃ f fd, FunD K m qual st .none f fd ∧ Binds K fd ps [] ∧ mg x = some (.ref C) ∧ PySem.W.readsIn K C (.type "type") = true ∧ PySem.W.findCls K (.ref C) (.type "type") m = some (.val (.ref f)) ∧
    PySem.W.specialIn K (.ref C) "__getattribute__" = some (some (.builtin "type.__getattribute__")) ∧ PySem.W.keepIn K (.ref f) = true
structure CalC (P : Program) (w : World) (K : PySem.W.Frag) (mg : Str → Option Value) (base : Heap) (k : Nat) (x : Str) (m : Str) (ps : List Str) (sp : Sp) : Prop where
  ex : ∃ C f fd, Binds K fd ps [] ∧ mg x = some (.ref C) ∧ PySem.W.readsIn K C (.type "type") = true ∧ PySem.W.findCls K (.ref C) (.type "type") m = some (.val (.ref f)) ∧
    PySem.W.specialIn K (.ref C) "__getattribute__" = some (some (.builtin "type.__getattribute__")) ∧ PySem.W.keepIn K (.ref f) = true ∧ FnOk P w K mg base CX0 k f fd ps sp
theorem CalC.mono {j k : Nat} {x m : Str} {ps : List Str} {sp : Sp} (F : CalC P w K mg base j x m ps sp) (h : j ≤ k) : CalC P w K mg base k x m ps sp :=
  let ⟨C, f, fd, a, b, c, d, e, g, i⟩ := F.ex
  ⟨C, f, fd, a, b, c, d, e, g, i.mono h⟩
theorem DefC.okH {C : Addr} {x m qual : Str} {st : Stmt} {N ps : List Str} {k : Nat} {sp : Sp} (D : DefC K mg x C m qual st ps) (S : FnScope N ps (defScope st)) (len : ∀ vs H Q E, sp vs H Q E → vs.length = ps.length)
    (hbody : ∀ (f : Addr) (cdv : Value) (A : Around) (outer : List Env) (s : Shared) (H : Hp) (vs : List V) (Q : VK) (E : XK), Room k (A.deeper (envOfC qual (defScope st) s.heap.objs.size f cdv)) → sp vs H Q E →
      ∃ t, PSs (cxOf CX0 P w K mg base N qual (defScope st) f cdv A outer s H E).nox (defBody st) t ∧ t { nx := fun _ H' => Q .non H', rt := Q } (start N vs) H) : CalC P w K mg base (k + 1) x m ps sp := by
  obtain ⟨f, fd, F, b, c1, c2, c3, c4, c5⟩ := D.ex
  exact ⟨C, f, fd, b, c1, c2, c3, c4, c5, F.ok S len (hbody f)⟩
end
section
variable {X : Cx} {k : Nat} {x m : Str} {ps : List Str} {sp : Sp} {p pos apos : Pos} {e o : Expr} {es : List Expr} {t : TA} {ta : TE}
theorem pe_cal (C : CalA X.prog X.w X.K X.mg X.base k x sp) (hr : Room k X.A) (hg : Gl X x) (ha : PA X (e :: es) t) (hdb : (x == ("__debug__" : Str)) = false := by decide) (he : starEach (e :: es) X.env = (false, eval e X.env) :: starEach es X.env := by rfl) (hpl : (backTo pos (starEach es X.env)).any (·.1) = false := by rfl) :
    PE X (.Call (.Name x p) (e :: es) [] pos) (fun σ H Q => t σ H fun vs H1 => sp vs H1 Q E0) := by
  obtain ⟨f, hm, hk, run⟩ := C.ex
  intro pins s σ H Q I h
  refine wpAny_Call_Name_kw (ld_glob I hg hm ?_ hdb)
  refine PySem.W.callWith_K (h₀ := X.base) I.ok.mod.kin hk (thn (ha pos pins s σ H _ I h) fun us s1 ⟨vs, H1, I1, r, q⟩ => ⟨I1.kIn, ?_⟩) he hpl
  exact run X rfl rfl rfl rfl rfl hr pins σ H1 s1 Q vs us I1 r q
def tMethD (Cs : Addr → Prop) (m : Str) (spm : Addr → Sp) (ta : TE) (t : TA) : TE := fun σ H Q => ta σ H fun x H1 => ∃ a C dx fs, x = .ref a ∧ H1 a = some (.ins C dx fs) ∧ Cs C ∧ fs.lookup m = none ∧ t σ H1 fun vs H2 => spm C (x :: vs) H2 Q E0
theorem pe_methD {pl : Sem Bool} {Cs : Addr → Prop} {spm : Addr → Sp} (he : PE X o ta) (hC : ∀ C, Cs C → Cls X.K C ∧ CalM X.prog X.w X.K X.mg X.base k C m ps (spm C)) (hr : Room k X.A) (ha : PA X (e :: es) t)
    (hst : starEach (e :: es) X.env = (false, eval e X.env) :: starEach es X.env := by rfl) (hpl : (backTo pos (starEach es X.env)).any (·.1) = false := by rfl)
    (ht : eval (.Call (.Attribute o m apos) (e :: es) [] pos) X.env = (do
      let ov ← eval o X.env
      standAt apos.atName
      let (f, first) ← holding [ov] (getMethod ov m pl)
      callWith pos f first (backTo pos (starEach (e :: es) X.env)) (backToKw pos (keywordEach [] X.env))) := by rfl) :
    PE X (.Call (.Attribute o m apos) (e :: es) [] pos) (tMethD Cs m spm ta t) := by
  intro pins s σ H Q I h
  refine PySem.W.methodCall_KW (pl := pl) (thn (he pins s σ H _ I h) fun u s1 ⟨x, H1, I1, rx, a, C, dx, fs, ex, ea, hc, l, q⟩ => ?_) ht
  subst ex
  obtain rfl : u = Value.ref a := rx
  obtain ⟨c, f, fd, hm, hb, F⟩ := hC C hc
  refine getmeth_ok I1 ea c hm l ?_
  refine PySem.W.callWith_K (first := [.ref a]) (h₀ := X.base) I.ok.mod.kin hm.kp (thn (ha pos pins s1 σ H1 _ I1 q) fun us s2 ⟨vs, H2, I2, r, q2⟩ => ⟨I2.kIn, ?_⟩) hst hpl
  exact run_fn (us := .ref a :: us) (vs := .ref a :: vs) (dvs := []) (ds := []) F hr hb .nil pass0 I2 (.cons rfl r) (by rw [List.append_nil]; exact q2)
theorem pe_methD0 {pl : Sem Bool} {Cs : Addr → Prop} {spm : Addr → Sp} (he : PE X o ta) (hC : ∀ C, Cs C → Cls X.K C ∧ CalM X.prog X.w X.K X.mg X.base k C m ps (spm C)) (hr : Room k X.A)
    (ht : eval (.Call (.Attribute o m apos) [] [] pos) X.env = (do
      let ov ← eval o X.env
      standAt apos.atName
      let (f, first) ← holding [ov] (getMethod ov m pl)
      callWith pos f first (backTo pos (starEach [] X.env)) (backToKw pos (keywordEach [] X.env))) := by rfl) :
    PE X (.Call (.Attribute o m apos) [] [] pos) (tMethD Cs m spm ta tNil) := by
  intro pins s σ H Q I h
  refine PySem.W.methodCall_KW (pl := pl) (thn (he pins s σ H _ I h) fun u s1 ⟨x, H1, I1, rx, a, C, dx, fs, ex, ea, hc, l, q⟩ => ?_) ht
  subst ex
  obtain rfl : u = Value.ref a := rx
  obtain ⟨c, f, fd, hm, hb, F⟩ := hC C hc
  refine getmeth_ok I1 ea c hm l ?_
  exact PySem.W.callWith_K0 (first := [.ref a]) I1.kIn hm.kp (run_fn (us := [.ref a]) (vs := [.ref a]) (dvs := []) (ds := []) F hr hb .nil pass0 I1 (.cons rfl .nil) q)
theorem pe_clsm {pl : Sem Bool} (C : CalC X.prog X.w X.K X.mg X.base k x m ps sp) (hr : Room k X.A) (hg : Gl X x) (ha : PA X (e :: es) t) (hdb : (x == ("__debug__" : Str)) = false := by decide)
    (hst : starEach (e :: es) X.env = (false, eval e X.env) :: starEach es X.env := by rfl) (hpl : (backTo pos (starEach es X.env)).any (·.1) = false := by rfl)
    (ht : eval (.Call (.Attribute (.Name x p) m apos) (e :: es) [] pos) X.env = (do
      let ov ← eval (.Name x p) X.env
      standAt apos.atName
      let (f, first) ← holding [ov] (getMethod ov m pl)
      callWith pos f first (backTo pos (starEach (e :: es) X.env)) (backToKw pos (keywordEach [] X.env))) := by rfl) :
    PE X (.Call (.Attribute (.Name x p) m apos) (e :: es) [] pos) (tCall sp [] E0 t) := by
  obtain ⟨D, f, fd, hb, hm, h1, h2, h3, hk, F⟩ := C.ex
  intro pins s σ H Q I h
  refine PySem.W.methodCall_KW (pl := pl) (ld_glob I hg hm ?_ hdb) ht
  refine PySem.W.method_cls I.kIn h3 (PySem.W.cls_value I.kIn h1 h2 rfl ?_)
  have I' := I.tok (s.toks + 1)
  refine PySem.W.callWith_K (first := []) (h₀ := X.base) I.ok.mod.kin hk (thn (ha pos pins { s with toks := s.toks + 1 } σ H _ I' h) fun us s2 ⟨vs, H2, I2, r, q2⟩ => ⟨I2.kIn, ?_⟩) hst hpl
  exact run_fn (us := us) (vs := vs) F hr hb .nil pass0 I2 r q2
/-- o[i], o a list, by values -/
theorem get_list : PGet X (rIxL X.K) := by
  rintro pins s σ H o i ov iv Q I ro ri ⟨p, xs, k, v, rfl, rfl, hq, ha, q⟩
  cases (show ov = .ref p from ro)
  obtain ⟨t, rfl⟩ := ri
  obtain ⟨its, r, pl, hz⟩ := I.list hq
  obtain ⟨j, h1, h2, h3, h4, h5⟩ := atI_get ha
  obtain ⟨w, ew, rw'⟩ := r.get h2
  have hl := r.length
  have hn := line63
  have fin : EP X pins σ Q w s := ⟨v, H, I, rw', q⟩
  by_cases h0 : 0 ≤ k
  · have hj : k.toNat = j := by
      rw [seqIndex_of h0 h5] at h1
      exact Option.some.inj h1
    exact wpAny_getItem_list pl.isList h0 (by omega) (by rw [hj]; simpa using ew) fin
  · have hj : (k + (its.toArray.size : Int)).toNat = j := by
      rw [seqIndex_neg (by omega) h4] at h1
      rw [List.size_toArray, ← hl]
      exact Option.some.inj h1
    exact wpAny_getItem_list_neg pl.isList (by omega) (by rw [List.size_toArray] <;> omega) (by omega) (by rw [hj]; simpa using ew) fin
end
theorem putF_ne {f g : Str} {v x : V} {r : List (Str × V)} (h : ¬ g = f) : putF f v ((g, x) :: r) = (g, x) :: putF f v r := by
  show (if g = f then _ else _) = _
  rw [if_neg h]
theorem putF_eq {f : Str} {v x : V} {r : List (Str × V)} : putF f v ((f, x) :: r) = (f, v) :: r := by
  show (if f = f then _ else _) = _
  rw [if_pos rfl]
end L2

set_option Elab.async false
set_option linter.all false
set_option maxRecDepth 100000
namespace Np
open L2 PySem
/-! ### models -/
structure Cl where
  P : Addr
  L : Addr
  F : Addr
  M : Addr
  S : Addr
  O : Addr
structure ClsF (K : PySem.W.Frag) (C : Addr) : Prop where
  cl : Cls K C
  nMany : NoAttr K C "many"
  nStep : NoAttr K C "step"
  nLearnt : NoAttr K C "learnt"
  nKept : NoAttr K C "kept"
  nTeller : NoAttr K C "teller"
  nBehind : NoAttr K C "behind"
  c1 : PySem.W.findIn K (.ref C) "__class__" = some (some (.builtin "object.__class__"))
  c2 : PySem.W.specialIn K (.builtin "object.__class__") "__get__" = some (some (.builtin "getset_descriptor.__get__"))
  c3 : PySem.W.takesIn K (.builtin "object.__class__") = some true
  c4 : PySem.W.mroIn K C (.type "object") = some true
def fldP (m : Int) (l : Addr) : List (Str × V) := [("many", .int m), ("kept", .ref l)]
def fldL (m s : Int) (l : Addr) : List (Str × V) := [("many", .int m), ("step", .int s), ("learnt", .ref l)]
def fldF (m s : Int) (t b : Addr) : List (Str × V) := [("many", .int m), ("step", .int s), ("teller", .ref t), ("behind", .ref b)]
theorem ne_ms : ¬ (("many" : Str) = "step") := by decide +kernel
theorem ne_ml : ¬ (("many" : Str) = "learnt") := by decide +kernel
theorem ne_sl : ¬ (("step" : Str) = "learnt") := by decide +kernel
theorem ne_mt : ¬ (("many" : Str) = "teller") := by decide +kernel
theorem ne_st : ¬ (("step" : Str) = "teller") := by decide +kernel
theorem ne_mb : ¬ (("many" : Str) = "behind") := by decide +kernel
theorem ne_sb : ¬ (("step" : Str) = "behind") := by decide +kernel
theorem ne_tb : ¬ (("teller" : Str) = "behind") := by decide +kernel
theorem put_step (m s : Int) : putF "step" (.int s) ([("many", .int m)] : List (Str × V)) = ([("many", .int m), ("step", .int s)] : List (Str × V)) := by rw [putF_ne ne_ms]; rfl
theorem put_learnt (m s : Int) (l : Addr) : putF "learnt" (.ref l) ([("many", .int m), ("step", .int s)] : List (Str × V)) = fldL m s l := by rw [putF_ne ne_ml, putF_ne ne_sl]; rfl
theorem put_learnt' (m s : Int) (l l' : Addr) : putF "learnt" (.ref l') (fldL m s l) = fldL m s l' := by unfold fldL; rw [putF_ne ne_ml, putF_ne ne_sl, putF_eq]
theorem put_teller (m s : Int) (l : Addr) : putF "teller" (.ref l) ([("many", .int m), ("step", .int s)] : List (Str × V)) = ([("many", .int m), ("step", .int s), ("teller", .ref l)] : List (Str × V)) := by rw [putF_ne ne_mt, putF_ne ne_st]; rfl
theorem put_behind (m s : Int) (t b : Addr) : putF "behind" (.ref b) ([("many", .int m), ("step", .int s), ("teller", .ref t)] : List (Str × V)) = fldF m s t b := by rw [putF_ne ne_mb, putF_ne ne_sb, putF_ne ne_tb]; rfl
theorem put_teller' (m s : Int) (t t' b : Addr) : putF "teller" (.ref t') (fldF m s t b) = fldF m s t' b := by unfold fldF; rw [putF_ne ne_mt, putF_ne ne_st, putF_eq]
theorem look_cons {f g : Str} {v : V} {r : List (Str × V)} (h : ¬ f = g) : List.lookup f ((g, v) :: r) = List.lookup f r := by
  rw [List.lookup_cons, beq_eq_false_iff_ne.mpr h]
theorem look_here {f : Str} {v : V} {r : List (Str × V)} : List.lookup f ((f, v) :: r) = some v := by rw [List.lookup_cons, beq_self_eq_true]
theorem lL_many (m s : Int) (l : Addr) : (fldL m s l).lookup ("many" : Str) = some (.int m) := look_here
theorem lL_step (m s : Int) (l : Addr) : (fldL m s l).lookup ("step" : Str) = some (.int s) := by unfold fldL; rw [look_cons (by decide +kernel), look_here]
theorem lL_learnt (m s : Int) (l : Addr) : (fldL m s l).lookup ("learnt" : Str) = some (.ref l) := by unfold fldL; rw [look_cons (by decide +kernel), look_cons (by decide +kernel), look_here]
theorem lF_many (m s : Int) (t b : Addr) : (fldF m s t b).lookup ("many" : Str) = some (.int m) := look_here
theorem lF_step (m s : Int) (t b : Addr) : (fldF m s t b).lookup ("step" : Str) = some (.int s) := by unfold fldF; rw [look_cons (by decide +kernel), look_here]
theorem lF_teller (m s : Int) (t b : Addr) : (fldF m s t b).lookup ("teller" : Str) = some (.ref t) := by unfold fldF; rw [look_cons (by decide +kernel), look_cons (by decide +kernel), look_here]
theorem lF_behind (m s : Int) (t b : Addr) : (fldF m s t b).lookup ("behind" : Str) = some (.ref b) := by unfold fldF; rw [look_cons (by decide +kernel), look_cons (by decide +kernel), look_cons (by decide +kernel), look_here]
theorem nL {f : Str} (h1 : ¬ f = "many") (h2 : ¬ f = "step") (h3 : ¬ f = "learnt") (m s : Int) (l : Addr) : (fldL m s l).lookup f = none := by unfold fldL; rw [look_cons h1, look_cons h2, look_cons h3]; rfl
theorem nF {f : Str} (h1 : ¬ f = "many") (h2 : ¬ f = "step") (h3 : ¬ f = "teller") (h4 : ¬ f = "behind") (m s : Int) (t b : Addr) : (fldF m s t b).lookup f = none := by unfold fldF; rw [look_cons h1, look_cons h2, look_cons h3, look_cons h4]; rfl
structure PlainAt (C : Addr) (H : Hp) (x l : Addr) (ns : List Int) : Prop where
  ob : ∃ dx, H x = some (.ins C dx (fldP (ns.length : Int) l))
  ls : H l = some (.lst (ns.map V.int))
structure LearnAt (C : Addr) (H : Hp) (x l : Addr) (m s : Int) (t : List Int) : Prop where
  ob : ∃ dx, H x = some (.ins C dx (fldL m s l))
  ls : H l = some (.lst (t.map V.int))
theorem LearnAt.ne {C : Addr} {H : Hp} {x l : Addr} {m s : Int} {t : List Int} (p : LearnAt C H x l m s t) : x ≠ l := by
  obtain ⟨⟨dx, e⟩, e2⟩ := p
  exact ne_of e e2 (by intro z; cases z)
def ones (m : Int) : List Int := List.replicate m.toNat 1
def halve (t : List Int) : List Int := t.map fun c => (c + 1) / 2
def seen (t : List Int) (k : Nat) (s : Int) : List Int := if 999 < t.getD k 0 + s then halve (t.set k (t.getD k 0 + s)) else t.set k (t.getD k 0 + s)
structure TallyOk (t : List Int) (m : Int) : Prop where
  len : t.length = m.toNat
  rng : ∀ c ∈ t, 1 ≤ c ∧ c ≤ 999
theorem ones_ok (m : Int) : TallyOk (ones m) m := ⟨by simp [ones], fun c hc => by have := List.eq_of_mem_replicate hc; omega⟩
theorem seen_len (t : List Int) (k : Nat) (s : Int) : (seen t k s).length = t.length := by
  unfold seen halve
  split <;> simp
theorem seen_ok {t : List Int} {m : Int} (h : TallyOk t m) {k : Nat} {s : Int} (hs : 1 ≤ s) (hs2 : s ≤ 9) : TallyOk (seen t k s) m := by
  refine ⟨by rw [seen_len, h.len], ?_⟩
  have hb : ∀ c ∈ t.set k (t.getD k 0 + s), 1 ≤ c ∧ c ≤ 1008 := fun c hc => by
    rcases List.mem_or_eq_of_mem_set hc with q | q
    · have := h.rng c q; omega
    · subst q
      by_cases hk : k < t.length
      · have := h.rng _ (getD_mem hk); omega
      · rw [List.getD_eq_getElem?_getD, List.getElem?_eq_none (by omega)]
        show 1 ≤ 0 + s ∧ 0 + s ≤ 1008
        omega
  unfold seen
  split
  · intro c hc
    obtain ⟨d, hd, rfl⟩ := List.mem_map.mp hc
    have := hb d hd
    omega
  · rename_i hn
    intro c hc
    have := hb c hc
    refine ⟨this.1, ?_⟩
    rcases List.mem_or_eq_of_mem_set hc with q | q
    · exact (h.rng c q).2
    · omega
theorem TallyOk.good {t : List Int} {m : Int} (h : TallyOk t m) (h1 : 1 ≤ m) (h2 : m ≤ 100) : GoodC t := by
  have hr : ∀ c ∈ t, 0 ≤ c ∧ c ≤ 999 := fun c hc => by have := h.rng c hc; omega
  refine .mk' (by rw [h.len]; omega) (by rw [h.len]; omega) hr fun e => ?_
  have hl := h.len
  cases t with
  | nil => simp at hl; omega
  | cons c r =>
    have := h.rng c List.mem_cons_self
    have := (sum_nn (ns := r) fun x hx => hr x (List.mem_cons_of_mem _ hx)).1
    rw [List.sum_cons] at e
    omega
theorem TallyOk.ok {t : List Int} {m : Int} (h : TallyOk t m) {k : Int} (h0 : 0 ≤ k) (h1 : k < m) : OkS t k := by
  have hl := h.len
  have := h.rng _ (getD_mem (ns := t) (k := k.toNat) (by omega))
  exact ⟨h0, by omega, by omega⟩
theorem flat_ones (m : Nat) : (List.replicate m ([.int 1] : List V)).flatten = (List.replicate m (1 : Int)).map V.int := by
  induction m with
  | zero => rfl
  | succ m ih => rw [List.replicate_succ, List.replicate_succ, List.flatten_cons, ih]; rfl
/-- behind the making of an object -/
theorem mk_same {H H' : Hp} {x dx : Addr} {o : HO} (nx : H x = none) (ndx : H dx = none) (k : ∀ b u, (upd (upd H dx (.own x)) x o) b = some u → b ≠ x → H' b = some u) : Same H H' := fun b u e =>
  k b u (by rw [upd_ne (ne_of_none e nx), upd_ne (ne_of_none e ndx)]; exact e) (ne_of_none e nx)
theorem mk_free {H : Hp} {x dx l : Addr} {o : HO} (e : (upd (upd H dx (.own x)) x o) l = none) : H l = none := by
  by_cases h1 : l = x
  · subst h1; rw [upd_same] at e; cases e
  · rw [upd_ne h1] at e
    by_cases h2 : l = dx
    · subst h2; rw [upd_same] at e; cases e
    · rw [upd_ne h2] at e; exact e
end Np
namespace Np
open L2 PySem
def halfV : V → V
  | .int n => .int ((n + 1) / 2)
  | v => v
theorem half_map (t : List Int) : (t.map V.int).map halfV = (halve t).map V.int := by
  unfold halve
  rw [List.map_map, List.map_map]
  rfl
end Np
namespace Np
open L2 PySem
theorem PlainAt.same {C : Addr} {H H' : Hp} {x l : Addr} {ns : List Int} (p : PlainAt C H x l ns) (s : Same H H') : PlainAt C H' x l ns :=
  let ⟨⟨dx, e⟩, e2⟩ := p
  ⟨⟨dx, s _ _ e⟩, s _ _ e2⟩
theorem LearnAt.same {C : Addr} {H H' : Hp} {x l : Addr} {m st : Int} {t : List Int} (p : LearnAt C H x l m st t) (s : Same H H') : LearnAt C H' x l m st t :=
  let ⟨⟨dx, e⟩, e2⟩ := p
  ⟨⟨dx, s _ _ e⟩, s _ _ e2⟩
structure FollowAt (T : Cl) (H : Hp) (x bh l0 k0 : Addr) (ls ks : List Addr) (m st : Int) (cur : Option Nat) (b0 : List Int) (ts : List (List Int)) : Prop where
  ob : ∃ dx, H x = some (.ins T.F dx (fldF m st (match cur with | none => l0 | some i => ls.getD i 0) bh))
  bh_ : H bh = some (.lst (ls.map V.ref))
  beg : LearnAt T.L H l0 k0 m st b0
  eachL : ∀ i, i < ls.length → LearnAt T.L H (ls.getD i 0) (ks.getD i 0) m st (ts.getD i [])
  l1 : ls.length = m.toNat
  l2 : ks.length = m.toNat
  l3 : ts.length = m.toNat
  nd1 : (l0 :: ls).Nodup
  nd2 : (k0 :: ks).Nodup
  cu : ∀ i, cur = some i → i < m.toNat
inductive Mo where
  | pl (ns : List Int)
  | le (m s : Int) (t : List Int)
  | fo (m s : Int) (cur : Option Nat) (b : List Int) (ts : List (List Int))
def Mo.many : Mo → Int
  | .pl ns => (ns.length : Int)
  | .le m _ _ => m
  | .fo m _ _ _ _ => m
def Mo.tells : Mo → List Int
  | .pl ns => ns
  | .le _ _ t => t
  | .fo _ _ cur b ts => match cur with | none => b | some i => ts.getD i []
def Mo.see (k : Nat) : Mo → Mo
  | .pl ns => .pl ns
  | .le m s t => .le m s (seen t k s)
  | .fo m s cur b ts => match cur with
    | none => .fo m s (some k) (seen b k s) ts
    | some i => .fo m s (some k) b (ts.set i (seen (ts.getD i []) k s))
def Mo.fresh : Mo → Mo
  | .pl ns => .pl ns
  | .le m s _ => .le m s (ones m)
  | .fo m s _ _ _ => .fo m s none (ones m) (List.replicate m.toNat (ones m))
def Mo.Good : Mo → Prop
  | .pl ns => GoodC ns
  | .le m s t => 1 ≤ m ∧ m ≤ 100 ∧ 1 ≤ s ∧ s ≤ 9 ∧ TallyOk t m
  | .fo m s cur b ts => 1 ≤ m ∧ m ≤ 100 ∧ 1 ≤ s ∧ s ≤ 9 ∧ TallyOk b m ∧ ts.length = m.toNat ∧ (∀ t ∈ ts, TallyOk t m) ∧ ∀ i, cur = some i → i < m.toNat
def MoAt (T : Cl) (H : Hp) (x : Addr) (own : List Addr) : Mo → Prop
  | .pl ns => ∃ l, own = [x, l] ∧ PlainAt T.P H x l ns
  | .le m s t => ∃ l, own = [x, l] ∧ LearnAt T.L H x l m s t
  | .fo m s cur b ts => ∃ bh l0 k0 ls ks, own = x :: bh :: l0 :: k0 :: (ls ++ ks) ∧ FollowAt T H x bh l0 k0 ls ks m s cur b ts
theorem FollowAt.same {T : Cl} {H H' : Hp} {x bh l0 k0 : Addr} {ls ks : List Addr} {m st : Int} {cur : Option Nat} {b0 : List Int} {ts : List (List Int)} (p : FollowAt T H x bh l0 k0 ls ks m st cur b0 ts) (s : Same H H') : FollowAt T H' x bh l0 k0 ls ks m st cur b0 ts :=
  { p with ob := let ⟨dx, e⟩ := p.ob; ⟨dx, s _ _ e⟩, bh_ := s _ _ p.bh_, beg := p.beg.same s, eachL := fun i hi => (p.eachL i hi).same s }
theorem MoAt.same {T : Cl} {H H' : Hp} {x : Addr} {own : List Addr} {M : Mo} (p : MoAt T H x own M) (s : Same H H') : MoAt T H' x own M := by
  cases M with
  | pl ns => obtain ⟨l, e, q⟩ := p; exact ⟨l, e, q.same s⟩
  | le m st t => obtain ⟨l, e, q⟩ := p; exact ⟨l, e, q.same s⟩
  | fo m st cur b ts => obtain ⟨a, b, c, d, f, e, q⟩ := p; exact ⟨a, b, c, d, f, e, q.same s⟩
theorem Mo.Good.see {M : Mo} (g : M.Good) {k : Nat} (hk : (k : Int) < M.many) : (M.see k).Good := by
  cases M with
  | pl ns => exact g
  | le m s t =>
    obtain ⟨a, b, c, d, e⟩ := g
    exact ⟨a, b, c, d, seen_ok e c d⟩
  | fo m s cur bb ts =>
    obtain ⟨a, b, c, d, e, f, h, i⟩ := g
    have hk' : k < m.toNat := by have : (k : Int) < m := hk; omega
    cases cur with
    | none => exact ⟨a, b, c, d, seen_ok e c d, f, h, fun j hj => by cases hj; exact hk'⟩
    | some j =>
      refine ⟨a, b, c, d, e, by rw [List.length_set]; exact f, fun t ht => ?_, fun j' hj => by cases hj; exact hk'⟩
      rcases List.mem_or_eq_of_mem_set ht with q | q
      · exact h t q
      · subst q
        have hj : j < ts.length := by rw [f]; exact i j rfl
        have hm : ts.getD j [] ∈ ts := by rw [List.getD_eq_getElem?_getD, List.getElem?_eq_getElem hj]; exact List.getElem_mem hj
        exact seen_ok (h _ hm) c d
theorem Mo.see_many (M : Mo) (k : Nat) : (M.see k).many = M.many := by
  cases M with
  | fo m s cur b ts => cases cur <;> rfl
  | _ => rfl
theorem Mo.Good.fresh {M : Mo} (g : M.Good) : M.fresh.Good := by
  cases M with
  | pl ns => exact g
  | le m s t =>
    obtain ⟨a, b, c, d, e⟩ := g
    exact ⟨a, b, c, d, ones_ok m⟩
  | fo m s cur bb ts =>
    obtain ⟨a, b, c, d, e, f, h, i⟩ := g
    exact ⟨a, b, c, d, ones_ok m, List.length_replicate, fun t ht => by rw [List.eq_of_mem_replicate ht]; exact ones_ok m, fun j hj => by cases hj⟩
theorem Mo.Good.tells {M : Mo} (g : M.Good) : GoodC M.tells ∧ (M.tells.length : Int) = M.many := by
  cases M with
  | pl ns => exact ⟨g, rfl⟩
  | le m s t =>
    obtain ⟨a, b, c, d, e⟩ := g
    exact ⟨e.good a b, by show (t.length : Int) = m; rw [e.len]; omega⟩
  | fo m s cur bb ts =>
    obtain ⟨a, b, c, d, e, f, h, i⟩ := g
    cases cur with
    | none => exact ⟨e.good a b, by show (bb.length : Int) = m; rw [e.len]; omega⟩
    | some j =>
      have hj : j < ts.length := by rw [f]; exact i j rfl
      have hm : ts.getD j [] ∈ ts := by rw [List.getD_eq_getElem?_getD, List.getElem?_eq_getElem hj]; exact List.getElem_mem hj
      exact ⟨(h _ hm).good a b, by show ((ts.getD j []).length : Int) = m; rw [(h _ hm).len]; omega⟩
end Np
namespace Np
open L2 PySem
theorem own_see {x l l' : Addr} {H : Hp} (hl : l' = l ∨ H l' = none) : ∀ b ∈ [x, l'], b ∈ [x, l] ∨ H b = none := fun b hb => by
  rcases List.mem_cons.mp hb with z | z
  · subst z; exact .inl List.mem_cons_self
  · have z' : b = l' := by simpa using z
    subst z'
    rcases hl with y | y
    · subst y; exact .inl (by simp)
    · exact .inr y
theorem own_new {x l : Addr} {H : Hp} (n1 : H x = none) (n2 : H l = none) : ∀ b ∈ [x, l], H b = none := fun b hb => by
  rcases List.mem_cons.mp hb with z | z
  · subst z; exact n1
  · have z' : b = l := by simpa using z
    subst z'
    exact n2
end Np
namespace Np
open L2 PySem
theorem cut_ints (ns : List Int) (lo hi : Option Int) : ∃ ms : List Int, cutV (ns.map V.int) lo hi = ms.map V.int ∧ ms.length ≤ ns.length := by
  refine ⟨(ns.drop (HT.sIx (ns.map V.int).length 0 lo)).take (HT.sIx (ns.map V.int).length (ns.map V.int).length hi - HT.sIx (ns.map V.int).length 0 lo), ?_, ?_⟩
  · unfold cutV
    rw [List.map_take, List.map_drop]
  · rw [List.length_take, List.length_drop]
    omega
end Np

namespace L2
open PySem PySem.Spec PyProof.Rows
theorem binds_two {K : PySem.W.Frag} {fd : FuncData} {ps : List Str} {d : Value} (hp : ps.length = 3) (h : ∀ (s : Shared) (a b : Value), K.In s.heap → BindsTo s fd ⟨[a, b], []⟩ (ps.zip [a, b, d])) : Binds K fd ps [d] := fun s us hK hl => by
  have e : us.length = 2 := by rw [List.length_append, hp] at hl; simpa using hl
  match us, e with
  | [a, b], _ => exact h s a b hK
theorem binds_three {K : PySem.W.Frag} {fd : FuncData} {ps : List Str} (hp : ps.length = 3) (h : ∀ (s : Shared) (a b c : Value), K.In s.heap → BindsTo s fd ⟨[a, b, c], []⟩ (ps.zip [a, b, c])) : Binds K fd ps [] := fun s us hK hl => by
  have e : us.length = 3 := by rw [List.append_nil, hp] at hl; exact hl
  match us, e with
  | [a, b, c], _ => exact h s a b c hK
end L2

set_option Elab.async false
set_option linter.all false
set_option maxRecDepth 100000
namespace L2
open PySem PySem.Spec PyProof.Rows
theorem comp_inv {n : Nat} {lo : Int} {cv : St} {te : TE} {D : Addr} {H1 : Hp} {Q : VK} (Pv : Nat → List V → Hp → Prop) (hz : n ≤ sizeLine) (h0 : Pv 0 [] (upd H1 D (.lst [])))
    (hD : ∀ i ys H', Pv i ys H' → H' D = some (.lst ys) ∧ ys.length = i)
    (hs : ∀ i ys H', i < n → Pv i ys H' → te (some (.int (lo + (i : Nat))) :: cv) H' fun v H4 => H4 D = some (.lst ys) ∧ Pv (i + 1) (ys ++ [v]) (upd H4 D (.lst (ys ++ [v]))))
    (mono : ∀ σ H (Q Q' : VK), (∀ v H, Q v H → Q' v H) → te σ H Q → te σ H Q')
    (hd : ∀ ys H', Pv n ys H' → Q (.ref D) H') : tCompB (Itr lo n) cv tYes te D H1 Q := by
  refine ⟨fun i m H' => m = n - i ∧ i ≤ n ∧ ∃ ys, Pv i ys H', ⟨n, by simp, Nat.zero_le _, [], h0⟩, ?_⟩
  rintro i m H' ⟨rfl, hi, ys, p⟩
  by_cases hlt : i < n
  · refine .inr ⟨hlt, fun x H2 y => ?_⟩
    obtain ⟨e, y⟩ := y
    subst e y
    unfold tYes
    dsimp only
    rw [if_pos rfl]
    refine mono _ _ _ _ (fun v H4 q => ?_) (hs i ys _ hlt p)
    exact ⟨ys, q.1, by have := (hD i ys _ p).2; omega, n - (i + 1), by omega, rfl, hlt, _, q.2⟩
  · have e : i = n := by omega
    subst e
    exact .inl ⟨Nat.le_refl _, hd ys _ p⟩
end L2
namespace Np
open L2 PySem
theorem getD_map_ref {ls : List Addr} {i : Nat} (h : i < ls.length) : (ls.map V.ref)[i]? = some (.ref (ls.getD i 0)) := by
  rw [List.getElem?_map, List.getElem?_eq_getElem h, List.getD_eq_getElem?_getD, List.getElem?_eq_getElem h]
  rfl
theorem getD_in {α : Type} {ls : List α} {d : α} {i : Nat} (h : i < ls.length) : ls.getD i d ∈ ls := by
  rw [List.getD_eq_getElem?_getD, List.getElem?_eq_getElem h]
  exact List.getElem_mem h
theorem getD_ne {ls : List Addr} {i j : Nat} (nd : ls.Nodup) (hi : i < ls.length) (hj : j < ls.length) (n : i ≠ j) : ls.getD i 0 ≠ ls.getD j 0 := fun e => by
  rw [List.getD_eq_getElem?_getD, List.getElem?_eq_getElem hi, List.getD_eq_getElem?_getD, List.getElem?_eq_getElem hj] at e
  exact n ((List.getElem_inj nd).mp e)
theorem getD_set_same {α : Type} {ls : List α} {d v : α} {i : Nat} (h : i < ls.length) : (ls.set i v).getD i d = v := by
  rw [List.getD_eq_getElem?_getD, List.getElem?_set_self h]
  rfl
theorem getD_set_other {α : Type} {ls : List α} {d v : α} {i j : Nat} (n : i ≠ j) : (ls.set i v).getD j d = ls.getD j d := by
  rw [List.getD_eq_getElem?_getD, List.getElem?_set_ne n, List.getD_eq_getElem?_getD]
theorem nodup_set {ls : List Addr} (nd : ls.Nodup) {i : Nat} {v : Addr} (hv : v ∉ ls ∨ v = ls.getD i 0) : (ls.set i v).Nodup := by
  by_cases hi : i < ls.length
  · rcases hv with hv | hv
    · refine List.pairwise_iff_getElem.mpr fun a b ha hb hab e => ?_
      rw [List.length_set] at ha hb
      rw [List.getElem_set, List.getElem_set] at e
      have nd' := List.pairwise_iff_getElem.mp nd
      by_cases h1 : i = a
      · rw [if_pos h1, if_neg (by omega)] at e
        exact hv (e ▸ List.getElem_mem hb)
      · rw [if_neg h1] at e
        by_cases h2 : i = b
        · rw [if_pos h2] at e
          exact hv (e ▸ List.getElem_mem ha)
        · rw [if_neg h2] at e
          exact nd' a b ha hb hab e
    · subst hv
      rw [List.getD_eq_getElem?_getD, List.getElem?_eq_getElem hi]
      show (ls.set i ls[i]).Nodup
      rw [List.set_getElem_self]
      exact nd
  · rw [List.set_eq_of_length_le (by omega)]
    exact nd
section
variable {T : Cl} {H H' : Hp} {x bh l0 k0 : Addr} {ls ks : List Addr} {m st : Int} {cur : Option Nat} {b0 : List Int} {ts : List (List Int)}
/-- the one that tells -/
def tlA (l0 : Addr) (ls : List Addr) : Option Nat → Addr
  | none => l0
  | some i => ls.getD i 0
def tkA (k0 : Addr) (ks : List Addr) : Option Nat → Addr
  | none => k0
  | some i => ks.getD i 0
theorem FollowAt.tell (F : FollowAt T H x bh l0 k0 ls ks m st cur b0 ts) : LearnAt T.L H (tlA l0 ls cur) (tkA k0 ks cur) m st (Mo.fo m st cur b0 ts).tells := by
  cases cur with
  | none => exact F.beg
  | some i => exact F.eachL i (by rw [F.l1]; exact F.cu i rfl)
theorem FollowAt.ob' (F : FollowAt T H x bh l0 k0 ls ks m st cur b0 ts) : ∃ dx, H x = some (.ins T.F dx (fldF m st (tlA l0 ls cur) bh)) := by
  obtain ⟨dx, e⟩ := F.ob
  cases cur <;> exact ⟨dx, e⟩
theorem lst_ne {xs : List Addr} {t : List Int} (h : 0 < t.length) : (HO.lst (xs.map V.ref)) ≠ HO.lst (t.map V.int) := fun e => by
  injection e with e
  cases t with
  | nil => simp at h
  | cons c r =>
    cases xs with
    | nil => simp at e
    | cons a b => simp at e
/-- behind the sight of one that tells, and the turn to the next -/
theorem FollowAt.step (F : FollowAt T H x bh l0 k0 ls ks m st cur b0 ts) (nFL : T.F ≠ T.L) (g : (Mo.fo m st cur b0 ts).Good) {k : Nat} (hk : k < m.toNat) {l' dx : Addr}
    (hl : l' = tkA k0 ks cur ∨ H l' = none) (la : LearnAt T.L H' (tlA l0 ls cur) l' m st (seen (Mo.fo m st cur b0 ts).tells k st)) (fr : ∀ b o, H b = some o → b ≠ tlA l0 ls cur → b ≠ tkA k0 ks cur → H' b = some o)
    (hx : H' x = some (.ins T.F dx (fldF m st (tlA l0 ls cur) bh))) :
    ∃ own', MoAt T (upd H' x (.ins T.F dx (fldF m st (ls.getD k 0) bh))) x own' ((Mo.fo m st cur b0 ts).see k) ∧ (∀ b ∈ own', b ∈ x :: bh :: l0 :: k0 :: (ls ++ ks) ∨ H b = none) ∧
      ∀ b o, H b = some o → b ∉ x :: bh :: l0 :: k0 :: (ls ++ ks) → (upd H' x (.ins T.F dx (fldF m st (ls.getD k 0) bh))) b = some o := by
  obtain ⟨g1, g2, g3, g4, g5, g6, g7, g8⟩ := g
  have nd1 := List.nodup_cons.mp F.nd1
  have nd2 := List.nodup_cons.mp F.nd2
  have lenP : ∀ t, TallyOk t m → 0 < t.length := fun t ht => by rw [ht.len]; omega
  have okT : ∀ j, j < ls.length → TallyOk (ts.getD j []) m := fun j hj => g7 _ (getD_in (by rw [g6, ← F.l1]; exact hj))
  have tlOk : TallyOk (Mo.fo m st cur b0 ts).tells m := by
    cases cur with
    | none => exact g5
    | some i => exact okT i (by rw [F.l1]; exact F.cu i rfl)
  have tl := F.tell
  obtain ⟨dtl, etl⟩ := tl.ob
  -- what stands apart from x
  have nx : ∀ b (o : HO), H' b = some o → (∀ d f, o ≠ .ins T.F d f) → b ≠ x := fun b o e no z => by rw [z, hx] at e; exact no _ _ (Option.some.inj e).symm
  have keepL : ∀ (a c : Addr) (t : List Int), LearnAt T.L H' a c m st t → LearnAt T.L (upd H' x (.ins T.F dx (fldF m st (ls.getD k 0) bh))) a c m st t := fun a c t ⟨⟨d, e1⟩, e2⟩ =>
    ⟨⟨d, by rw [upd_ne (nx a _ e1 fun d' f z => by injection z with z1 _ _; exact nFL z1.symm)]; exact e1⟩, by rw [upd_ne (nx c _ e2 fun d' f z => by cases z)]; exact e2⟩
  have goL : ∀ (a c : Addr) (t : List Int), LearnAt T.L H a c m st t → a ≠ tlA l0 ls cur → c ≠ tkA k0 ks cur → LearnAt T.L (upd H' x (.ins T.F dx (fldF m st (ls.getD k 0) bh))) a c m st t := fun a c t ⟨⟨d, e1⟩, e2⟩ n1 n2 =>
    keepL a c t ⟨⟨d, fr a _ e1 n1 (ne_of e1 tl.ls (by intro z; cases z))⟩, fr c _ e2 (ne_of e2 etl (by intro z; cases z)) n2⟩
  have hb : (upd H' x (.ins T.F dx (fldF m st (ls.getD k 0) bh))) bh = some (.lst (ls.map V.ref)) := by
    have n1 : bh ≠ tlA l0 ls cur := ne_of F.bh_ etl (by intro z; cases z)
    have n2 : bh ≠ tkA k0 ks cur := ne_of F.bh_ tl.ls (lst_ne (lenP _ tlOk))
    have e := fr bh _ F.bh_ n1 n2
    rw [upd_ne (nx bh _ e fun d' f z => by cases z)]
    exact e
  have frame : ∀ b o, H b = some o → b ∉ x :: bh :: l0 :: k0 :: (ls ++ ks) → (upd H' x (.ins T.F dx (fldF m st (ls.getD k 0) bh))) b = some o := fun b o e nb => by
    have nbx : b ≠ x := fun z => nb (by simp [z])
    have n1 : b ≠ tlA l0 ls cur := fun z => nb (by
      cases cur with
      | none => simp [z, tlA]
      | some i =>
        have : ls.getD i 0 ∈ ls := getD_in (by rw [F.l1]; exact F.cu i rfl)
        rw [z]
        simp only [tlA, List.mem_cons, List.mem_append]
        exact .inr (.inr (.inr (.inr (.inl this)))))
    have n2 : b ≠ tkA k0 ks cur := fun z => nb (by
      cases cur with
      | none => simp [z, tkA]
      | some i =>
        have : ks.getD i 0 ∈ ks := getD_in (by rw [F.l2]; exact F.cu i rfl)
        rw [z]
        simp only [tkA, List.mem_cons, List.mem_append]
        exact .inr (.inr (.inr (.inr (.inr this)))))
    rw [upd_ne nbx]
    exact fr b o e n1 n2
  cases cur with
  | none =>
    have hks : l' ∉ ks := by
      rcases hl with e | e
      · rw [e]; exact nd2.1
      · intro hm
        obtain ⟨j, hj, e2⟩ := List.getElem_of_mem hm
        have q := (F.eachL j (by rw [F.l1, ← F.l2]; exact hj)).ls
        rw [List.getD_eq_getElem?_getD, List.getElem?_eq_getElem hj] at q
        have q' : H ks[j] = some (.lst ((ts.getD j []).map V.int)) := q
        rw [e2, e] at q'
        cases q'
    refine ⟨x :: bh :: l0 :: l' :: (ls ++ ks), ⟨bh, l0, l', ls, ks, rfl, { ob := ⟨dx, upd_same⟩, bh_ := hb, beg := keepL _ _ _ la, eachL := fun j hj => goL _ _ _ (F.eachL j hj) (fun z => nd1.1 (by rw [← (show ls.getD j 0 = l0 from z)]; exact getD_in hj)) (fun z => nd2.1 (by rw [← (show ks.getD j 0 = k0 from z)]; exact getD_in (by rw [F.l2, ← F.l1]; exact hj))), l1 := F.l1, l2 := F.l2, l3 := F.l3, nd1 := F.nd1, nd2 := List.nodup_cons.mpr ⟨hks, nd2.2⟩, cu := fun i hi => by cases hi; exact hk }⟩, fun b hb' => ?_, frame⟩
    simp only [List.mem_cons, List.mem_append] at hb' ⊢
    rcases hb' with z | z | z | z | z
    · exact .inl (.inl z)
    · exact .inl (.inr (.inl z))
    · exact .inl (.inr (.inr (.inl z)))
    · rcases hl with e | e
      · exact .inl (.inr (.inr (.inr (.inl (z.trans e)))))
      · rw [z]; exact .inr e
    · exact .inl (.inr (.inr (.inr (.inr z))))
  | some i =>
    have hi : i < m.toNat := F.cu i rfl
    have his : i < ls.length := by rw [F.l1]; exact hi
    have hik : i < ks.length := by rw [F.l2]; exact hi
    have hit : i < ts.length := by rw [F.l3]; exact hi
    have fresh : ∀ b o, H b = some o → b ≠ ks.getD i 0 → b ≠ l' := fun b o e n z => by
      rcases hl with y | y
      · exact n (z.trans y)
      · rw [z, y] at e; cases e
    have hk0 : k0 ≠ l' := fresh k0 _ F.beg.ls fun z => nd2.1 (by rw [z]; exact getD_in hik)
    have hks : l' ∉ ks ∨ l' = ks.getD i 0 := by
      rcases hl with y | y
      · exact .inr y
      · refine .inl fun hm => ?_
        obtain ⟨j, hj, e2⟩ := List.getElem_of_mem hm
        have q := (F.eachL j (by rw [F.l1, ← F.l2]; exact hj)).ls
        rw [List.getD_eq_getElem?_getD, List.getElem?_eq_getElem hj] at q
        have q' : H ks[j] = some (.lst ((ts.getD j []).map V.int)) := q
        rw [e2, y] at q'
        cases q'
    have nk0 : k0 ∉ ks.set i l' := fun hm => by
      rcases List.mem_or_eq_of_mem_set hm with z | z
      · exact nd2.1 z
      · exact hk0 z
    refine ⟨x :: bh :: l0 :: k0 :: (ls ++ ks.set i l'), ⟨bh, l0, k0, ls, ks.set i l', rfl, { ob := ⟨dx, upd_same⟩, bh_ := hb, beg := goL _ _ _ F.beg (fun z => nd1.1 (by rw [show l0 = ls.getD i 0 from z]; exact getD_in his)) (fun z => nd2.1 (by rw [show k0 = ks.getD i 0 from z]; exact getD_in hik)), eachL := fun j hj => ?_, l1 := F.l1, l2 := by rw [List.length_set]; exact F.l2, l3 := by rw [List.length_set]; exact F.l3, nd1 := F.nd1, nd2 := List.nodup_cons.mpr ⟨nk0, nodup_set nd2.2 hks⟩, cu := fun i' hi' => by cases hi'; exact hk }⟩, fun b hb' => ?_, frame⟩
    · by_cases hji : i = j
      · subst hji
        rw [getD_set_same hik, getD_set_same hit]
        exact keepL _ _ _ la
      · rw [getD_set_other hji, getD_set_other hji]
        exact goL _ _ _ (F.eachL j hj) (getD_ne nd1.2 hj his (fun z => hji z.symm)) (getD_ne nd2.2 (by rw [F.l2, ← F.l1]; exact hj) hik (fun z => hji z.symm))
    · simp only [List.mem_cons, List.mem_append] at hb' ⊢
      rcases hb' with z | z | z | z | z | z
      · exact .inl (.inl z)
      · exact .inl (.inr (.inl z))
      · exact .inl (.inr (.inr (.inl z)))
      · exact .inl (.inr (.inr (.inr (.inl z))))
      · exact .inl (.inr (.inr (.inr (.inr (.inl z)))))
      · rcases List.mem_or_eq_of_mem_set z with y | y
        · exact .inl (.inr (.inr (.inr (.inr (.inr y)))))
        · rcases hl with e | e
          · exact .inl (.inr (.inr (.inr (.inr (.inr (by rw [y, e]; exact getD_in hik))))))
          · rw [y]; exact .inr e
end
end Np

set_option Elab.async false
set_option linter.all false
set_option maxRecDepth 100000
namespace L2
open PySem PySem.Spec PyProof.Rows
/-! ### list(zip(a, b)): behind the first pair the zip's own tuple is held by the list, so each further pair is a new one -/
abbrev ZipH (h : Heap) (z TI TO T : Addr) (b : Bool) : Prop := h.get? z = some { cls := .type "zip", data := .fields #[rawInt T, .bool b, .bool false, .ref TI, .ref TO] }
section
variable {prog : Program} {w : World} {A : Around} {E : Value → Shared → Prop} {s : Shared}
theorem alive_ {M : Model} {a : Addr} {o : Obj} {Q : Option Obj → Shared → Prop} (e : s.heap.get? a = some o) (q : Q (some o) s) : wpAny M A (loadIfAlive a) Q E s := fun Γ p _ => by
  show Sem.wp M Γ (Sem.loadIfAlive a Sem.pure) _ _ p s
  rw [Sem.wp_loadIfAlive, e]
  exact q
theorem held_ {z TI TO T : Addr} {b : Bool} {oT : Obj} {Q : Bool → Shared → Prop} (gz : ZipH s.heap z TI TO T b) (gT : s.heap.get? T = some oT)
    (q : ∀ h', ZipH h' z TI TO T true → Heap.SameBut z s.heap h' → Q false { s with heap := h' }) : wpAny (model prog w) A (Builtin.SmallTypes.ownedTupleIsFree (.ref z)) Q E s := by
  unfold Builtin.SmallTypes.ownedTupleIsFree
  refine wpAny_bind (wpAny_field gz rfl (x := rawInt T) rfl ?_)
  show wpAny _ _ (loadIfAlive T >>= _) _ _ _
  refine wpAny_bind (alive_ gT ?_)
  show wpAny _ _ (field (.ref z) 1 >>= _) _ _ _
  refine wpAny_bind (wpAny_field gz rfl (x := Value.bool b) rfl ?_)
  cases b with
  | true => exact wpAny_pure (q _ gz (Heap.SameBut.refl ..))
  | false => exact wpAny_bind (wpAny_setField_rec gz (by simp) fun h' e sb => wpAny_pure (q h' e sb))
theorem zipn_item {z TI TO T i1 i2 l1 l2 : Addr} {b : Bool} {oT : Obj} {k : Nat} {xs ys : Array Value} {x y : Value} {Q : Value → Shared → Prop} (D : ZipApart z TI TO i1 i2 l1 l2)
    (gz : ZipH s.heap z TI TO T b) (gT : s.heap.get? T = some oT) (gI : IsPair s.heap TI (.ref i1) (.ref i2)) (u1 : s.heap.IsListIter i1 l1 k) (u2 : s.heap.IsListIter i2 l2 k)
    (v1 : s.heap.IsList l1 xs) (v2 : s.heap.IsList l2 ys) (ex : xs[k]? = some x) (ey : ys[k]? = some y)
    (q : ∀ h', ZipH h' z TI TO T true → h'.IsListIter i1 l1 (k + 1) → h'.IsListIter i2 l2 (k + 1) → IsPair h' s.heap.objs.size x y →
      (∀ c o, c ≠ z → c ≠ i1 → c ≠ i2 → s.heap.get? c = some o → h'.get? c = some o) → Q (.ref s.heap.objs.size) { s with heap := h' }) :
    wpAny (model prog w) A (Builtin.«zip.__next__» ⟨[.ref z], []⟩) (fun fin s' => ∃ v, fin = .done (.ret v) ∧ Q v s') E s := by
  show wpAny _ _ (field (.ref z) 2 >>= _) _ _ s
  refine wpAny_bind (wpAny_field gz rfl (x := Value.bool false) rfl ?_)
  show wpAny _ _ (field (.ref z) 3 >>= _) _ _ s
  refine wpAny_bind (wpAny_field gz rfl (x := Value.ref TI) rfl ?_)
  refine wpAny_bind (wpAny_seqItems gI rfl ?_)
  show wpAny _ _ (Builtin.SmallTypes.ownedTupleIsFree (.ref z) >>= _) _ _ s
  refine wpAny_bind (held_ gz gT fun h1 z1 b1 => ?_)
  simp only [Bool.false_eq_true, if_false]
  refine wpAny_bind ?_
  have w1 : h1.IsListIter i1 l1 k := u1.extBut b1.extBut D.i1z
  have w2 : h1.IsListIter i2 l2 k := u2.extBut b1.extBut D.i2z
  have g1 : h1.IsList l1 xs := v1.extBut b1.extBut D.l1z
  have g2 : h1.IsList l2 ys := v2.extBut b1.extBut D.l2z
  rw [← Array.forIn_toList]
  simp only [List.forIn_cons, List.forIn_nil]
  refine wpAny_bind (wpAny_bind (wpAny_holding ?_))
  show wpAny _ _ (Builtin.SmallTypes.nextOf (.ref i1) >>= _) _ _ _
  refine wpAny_bind (wpAny_nextOf_list_item (s := { s with heap := h1 }) w1 g1 ex fun h2 a1 b2 => wpAny_pure (wpAny_pure ?_))
  dsimp only
  refine wpAny_bind (wpAny_bind (wpAny_holding ?_))
  show wpAny _ _ (Builtin.SmallTypes.nextOf (.ref i2) >>= _) _ _ _
  refine wpAny_bind (wpAny_nextOf_list_item (s := { s with heap := h2 }) (w2.extBut b2.extBut D.i12.symm) (g2.extBut b2.extBut D.l2i1) ey fun h3 a2 b3 => wpAny_pure (wpAny_pure (wpAny_pure ?_)))
  have sz : h3.objs.size = s.heap.objs.size := by rw [b3.1]; show h2.objs.size = _; rw [b2.1]; exact b1.1
  refine wpAny_bind (wpAny_newTuple (wpAny_pure ⟨_, rfl, ?_⟩) (by show 2 ≤ sizeLine; decide))
  show Q (.ref h3.objs.size) _
  rw [sz]
  have old : ∀ c o, c ≠ z → c ≠ i1 → c ≠ i2 → s.heap.get? c = some o → h3.get? c = some o := fun c o n1 n2 n3 e => b3.extBut _ _ n3 (b2.extBut _ _ n2 (b1.extBut _ _ n1 e))
  have z3 : ZipH h3 z TI TO T true := b3.extBut _ _ D.i2z.symm (b2.extBut _ _ D.i1z.symm z1)
  have a13 : h3.IsListIter i1 l1 (k + 1) := a1.extBut b3.extBut D.i12
  refine q _ (Heap.get?_push_of_some _ z3) (a13.at fun o e => Heap.get?_push_of_some _ e) (a2.at fun o e => Heap.get?_push_of_some _ e) ?_ fun c o n1 n2 n3 e => Heap.get?_push_of_some _ (old c o n1 n2 n3 e)
  rw [← sz]
  exact Heap.get?_push_size _ rfl
theorem zipn_end {z TI TO T i1 i2 l1 l2 : Addr} {b : Bool} {oT : Obj} {k : Nat} {xs : Array Value} {Q : Fin → Shared → Prop} (hh : A.handled = none) (D : ZipApart z TI TO i1 i2 l1 l2)
    (gz : ZipH s.heap z TI TO T b) (gT : s.heap.get? T = some oT) (gI : IsPair s.heap TI (.ref i1) (.ref i2)) (u1 : s.heap.IsListIter i1 l1 k) (v1 : s.heap.IsList l1 xs) (ex : xs[k]? = none)
    (q : ∀ h' e, (∀ c o, c ≠ z → c ≠ i1 → s.heap.get? c = some o → h'.get? c = some o) → (∃ o, h'.get? e = some o ∧ o.cls = .type "StopIteration") → E (.ref e) { s with heap := h' }) :
    wpAny (model prog w) A (Builtin.«zip.__next__» ⟨[.ref z], []⟩) Q E s := by
  show wpAny _ _ (field (.ref z) 2 >>= _) _ _ s
  refine wpAny_bind (wpAny_field gz rfl (x := Value.bool false) rfl ?_)
  show wpAny _ _ (field (.ref z) 3 >>= _) _ _ s
  refine wpAny_bind (wpAny_field gz rfl (x := Value.ref TI) rfl ?_)
  refine wpAny_bind (wpAny_seqItems gI rfl ?_)
  show wpAny _ _ (Builtin.SmallTypes.ownedTupleIsFree (.ref z) >>= _) _ _ s
  refine wpAny_bind (held_ gz gT fun h1 z1 b1 => ?_)
  simp only [Bool.false_eq_true, if_false]
  refine wpAny_bind ?_
  rw [← Array.forIn_toList]
  simp only [List.forIn_cons, List.forIn_nil]
  refine wpAny_bind (wpAny_bind (wpAny_holding ?_))
  show wpAny _ _ (Builtin.SmallTypes.nextOf (.ref i1) >>= _) _ _ _
  exact wpAny_bind (wpAny_nextOf_list_end (s := { s with heap := h1 }) hh (u1.extBut b1.extBut D.i1z) (v1.extBut b1.extBut D.l1z) ex fun h2 e b2 he => q h2 e (fun c o n1 n2 ec => b2 _ _ n2 (b1.extBut _ _ n1 ec)) he)
/-- the zip over two lists, k pairs given -/
structure ZipAt (h : Heap) (z TI TO i1 i2 l1 l2 : Addr) (k : Nat) : Prop where
  gI : IsPair h TI (.ref i1) (.ref i2)
  u1 : h.IsListIter i1 l1 k
  u2 : h.IsListIter i2 l2 k
  st : (k = 0 ∧ IsZip h z TI TO .none ∧ IsPair h TO .none .none) ∨ ∃ T b oT, ZipH h z TI TO T b ∧ h.get? T = some oT ∧ T ≠ z ∧ T ≠ TO ∧ T ≠ i1 ∧ T ≠ i2
theorem ZipAt.ty {z TI TO i1 i2 l1 l2 : Addr} {k : Nat} (Z : ZipAt s.heap z TI TO i1 i2 l1 l2 k) : s.TypeIs (.ref z) "zip" := by
  rcases Z.st with ⟨_, e, _⟩ | ⟨T, b, oT, e, _⟩
  · exact ⟨_, e, rfl⟩
  · exact ⟨_, e, rfl⟩
theorem ZipAt.other {h h' : Heap} {z TI TO i1 i2 l1 l2 : Addr} {k : Nat} (Z : ZipAt h z TI TO i1 i2 l1 l2 k) (e : ∀ c o, h.get? c = some o → (c = z ∨ c = TI ∨ c = TO ∨ c = i1 ∨ c = i2 ∨ (∃ T b, ZipH h z TI TO T b ∧ c = T)) → h'.get? c = some o) : ZipAt h' z TI TO i1 i2 l1 l2 k := by
  refine ⟨e _ _ Z.gI (.inr (.inl rfl)), Z.u1.at fun o q => e _ o q (.inr (.inr (.inr (.inl rfl)))), Z.u2.at fun o q => e _ o q (.inr (.inr (.inr (.inr (.inl rfl))))), ?_⟩
  rcases Z.st with ⟨k0, a, b⟩ | ⟨T, b, oT, a, c, d⟩
  · exact .inl ⟨k0, e _ _ a (.inl rfl), e _ _ b (.inr (.inr (.inl rfl)))⟩
  · exact .inr ⟨T, b, oT, e _ _ a (.inl rfl), e _ _ c (.inr (.inr (.inr (.inr (.inr ⟨T, b, a, rfl⟩))))), d⟩
theorem ZipH.inj {h : Heap} {z TI TO T T' : Addr} {b b' : Bool} (e : ZipH h z TI TO T b) (e' : ZipH h z TI TO T' b') : T = T' := by
  have q := Option.some.inj (e.symm.trans e')
  injection q with _ _ q _
  injection q with q
  have q2 := congrArg (fun a : Array Value => a[0]?) q
  have q3 : rawInt (T : Int) = rawInt (T' : Int) := Option.some.inj q2
  injection q3 with q4 _
  exact Int.ofNat.inj q4
theorem next_zip {z TI TO i1 i2 l1 l2 : Addr} {k : Nat} {xs ys : Array Value} {x y : Value} {Q : Option Value → Shared → Prop} (D : ZipApart z TI TO i1 i2 l1 l2) (Z : ZipAt s.heap z TI TO i1 i2 l1 l2 k) (lz : z < s.heap.objs.size)
    (v1 : s.heap.IsList l1 xs) (v2 : s.heap.IsList l2 ys) (ex : xs[k]? = some x) (ey : ys[k]? = some y)
    (q : ∀ h', ZipAt h' z TI TO i1 i2 l1 l2 (k + 1) → IsPair h' s.heap.objs.size x y → (∀ c o, c ≠ z → c ≠ TO → c ≠ i1 → c ≠ i2 → s.heap.get? c = some o → h'.get? c = some o) → (∀ T b, ZipH h' z TI TO T b → T = s.heap.objs.size ∨ ∃ b', ZipH s.heap z TI TO T b') → Q (some (.ref s.heap.objs.size)) { s with heap := h' }) :
    wpAny (model prog w) A (pyNext (.ref z)) Q E s := by
  have hT := Z.ty
  have nT : ∀ c o, s.heap.get? c = some o → s.heap.objs.size ≠ c := fun c o e => Nat.ne_of_gt (Heap.lt_size e)
  have n1 : s.heap.objs.size ≠ i1 := by obtain ⟨o, e, _⟩ := Z.u1; exact nT _ _ e
  have n2 : s.heap.objs.size ≠ i2 := by obtain ⟨o, e, _⟩ := Z.u2; exact nT _ _ e
  rcases Z.st with ⟨k0, gz, gO⟩ | ⟨T, b, oT, gz, gT, d1, d2, d3, d4⟩
  · refine wpAny_pyNext_zip_item D gz Z.gI gO Z.u1 Z.u2 v1 v2 ex ey fun h' a1 a2 a3 a4 a5 a6 a7 => ?_
    exact q h' ⟨a7 _ _ D.TIz D.TITO D.TIi1 D.TIi2 Z.gI, a3, a4, .inr ⟨_, false, _, a1, a5, nT _ _ gz, nT _ _ gO, n1, n2⟩⟩ a5 a7 fun T b e => .inl (e.inj a1)
  · unfold pyNext
    refine wpAny_bind (wpAny_attempt (wpAny_callSpecial?_slot (name := Str.ofString "__next__") hT F.slot_zip_next (wpAny_call_entry F.slot_zip_next hT F.entry_zip_next (zipn_item D gz gT Z.gI Z.u1 Z.u2 v1 v2 ex ey fun h' a1 a2 a3 a4 a5 => ?_) (F.args_zip_next_1 _))))
    exact wpAny_pure (q h' ⟨a5 _ _ D.TIz D.TIi1 D.TIi2 Z.gI, a2, a3, .inr ⟨T, true, oT, a1, a5 _ _ d1 d3 d4 gT, d1, d2, d3, d4⟩⟩ a4 (fun c o m1 _ m3 m4 e => a5 c o m1 m3 m4 e) fun T' b' e => .inr ⟨b, by rw [e.inj a1]; exact gz⟩)
theorem done_zip {z TI TO i1 i2 l1 l2 : Addr} {k : Nat} {xs ys : Array Value} {Q : Option Value → Shared → Prop} (hh : A.handled = none) (D : ZipApart z TI TO i1 i2 l1 l2) (Z : ZipAt s.heap z TI TO i1 i2 l1 l2 k)
    (v1 : s.heap.IsList l1 xs) (v2 : s.heap.IsList l2 ys) (ex : xs[k]? = none) (q : ∀ h', (∀ c o, c ≠ z → c ≠ TO → c ≠ i1 → c ≠ i2 → s.heap.get? c = some o → h'.get? c = some o) → Q none { s with heap := h' }) :
    wpAny (model prog w) A (pyNext (.ref z)) Q E s := by
  have hT := Z.ty
  rcases Z.st with ⟨k0, gz, gO⟩ | ⟨T, b, oT, gz, gT, d1, d2, d3, d4⟩
  · exact wpAny_pyNext_zip_end hh D gz Z.gI gO Z.u1 Z.u2 v1 v2 (.inl ex) q
  · unfold pyNext
    refine wpAny_bind (wpAny_attempt (wpAny_callSpecial?_slot (name := Str.ofString "__next__") hT F.slot_zip_next (wpAny_call_entry F.slot_zip_next hT F.entry_zip_next (zipn_end hh D gz gT Z.gI Z.u1 v1 ex fun h' e ek he => ?_) (F.args_zip_next_1 _))))
    obtain ⟨o, ho, hc⟩ := he
    exact wpAny_bind (wpAny_isInstance (T := "StopIteration") (b := true) ⟨o, ho, hc⟩ isSubtype_stop (wpAny_pure (q _ fun c o m1 _ m3 _ e => ek c o m1 m3 e)))
end
end L2
namespace L2
open PySem PySem.Spec PyProof.Rows
theorem zip_no_len : typeLookup (.type "zip") "__len__" = pure none := by rw [typeLookup_type, builtinLookup_eq_fast]; kernel_rfl
theorem zip_no_hint : typeLookup (.type "zip") "__length_hint__" = pure none := by rw [typeLookup_type, builtinLookup_eq_fast]; kernel_rfl
section
variable {prog : Program} {w : World} {A : Around} {R : Result → Shared → Prop} {s : Shared}
/-- what stands behind i pairs: h0 the heap ahead -/
structure ZipRun (h0 h : Heap) (z TI TO i1 i2 l1 l2 S : Addr) (xs ys : List Value) (ts : List Addr) (i : Nat) : Prop where
  Z : ZipAt h z TI TO i1 i2 l1 l2 i
  v1 : h.IsList l1 xs.toArray
  v2 : h.IsList l2 ys.toArray
  ls : ∃ c, h.get? S = some { cls := .type "list", data := .seq (ts.map Value.ref).toArray c }
  ln : ts.length = i
  tp : ∀ j, j < i → ∃ x y, xs[j]? = some x ∧ ys[j]? = some y ∧ IsPair h (ts.getD j 0) x y ∧ h0.objs.size ≤ ts.getD j 0 ∧ ts.getD j 0 ≠ S ∧ ts.getD j 0 ≠ z ∧ ts.getD j 0 ≠ TO ∧ ts.getD j 0 ≠ i1 ∧ ts.getD j 0 ≠ i2
  kp : ∀ c o, h0.get? c = some o → h.get? c = some o
  bg : h0.objs.size ≤ h.objs.size
  tO : TO < h.objs.size
theorem loop_zip {h0 : Heap} {z TI TO i1 i2 l1 l2 S : Addr} {xs ys : List Value} (hh : A.in1.handled = none) (D : ZipApart z TI TO i1 i2 l1 l2) (nS : S ≠ z ∧ S ≠ TI ∧ S ≠ TO ∧ S ≠ i1 ∧ S ≠ i2 ∧ S ≠ l1 ∧ S ≠ l2)
    (old : ∀ c ∈ [S, z, TO, i1, i2], h0.get? c = none) (hl : xs.length = ys.length) (hz : xs.length ≤ sizeLine)
    (fin : ∀ ts h', ZipRun h0 h' z TI TO i1 i2 l1 l2 S xs ys ts xs.length → ∀ h2, (∀ c o, c ≠ z → c ≠ TO → c ≠ i1 → c ≠ i2 → h'.get? c = some o → h2.get? c = some o) → R (.ok (.ret .none)) { s with heap := h2 }) :
    ∀ (m i : Nat) (ts : List Addr) (h : Heap), xs.length - i = m → i ≤ xs.length → ZipRun h0 h z TI TO i1 i2 l1 l2 S xs ys ts i → (∀ T b, ZipH h z TI TO T b → T ≠ S) →
      codeAny (model prog w) A (.builtin "list.extend.loop" ⟨[.ref S, .ref z, .none], []⟩) R { s with heap := h } := by
  intro m
  induction m with
  | zero =>
    intro i ts h hm hi Rn _
    have ei : i = xs.length := by omega
    subst ei
    refine codeAny_builtin F.entry_extend_loop ?_
    rw [Around.under_plainId F.plain_extend_loop _]
    show wpAny _ A.in1 (pyNext (.ref z) >>= _) _ _ _
    exact wpAny_bind (done_zip (s := { s with heap := h }) hh D Rn.Z Rn.v1 Rn.v2 (by simp) fun h2 k2 => wpAny_pure (fin ts h Rn h2 k2))
  | succ m ih =>
    intro i ts h hm hi Rn nTS
    have hlt : i < xs.length := by omega
    refine codeAny_builtin F.entry_extend_loop ?_
    rw [Around.under_plainId F.plain_extend_loop _]
    show wpAny _ A.in1 (pyNext (.ref z) >>= _) _ _ _
    have ex : xs.toArray[i]? = some xs[i] := by simp [hlt]
    have ey : ys.toArray[i]? = some (ys[i]'(by omega)) := by simp [show i < ys.length by omega]
    obtain ⟨c0, eS⟩ := Rn.ls
    have lz : z < h.objs.size := by
      obtain ⟨o, e, _⟩ := Rn.Z.ty (s := { s with heap := h })
      exact Heap.lt_size e
    refine wpAny_bind (next_zip (s := { s with heap := h }) D Rn.Z lz Rn.v1 Rn.v2 ex ey fun h1 Z1 p1 k1 zT => ?_)
    dsimp only at p1 k1 zT ⊢
    have eS1 := k1 S _ nS.1 nS.2.2.1 nS.2.2.2.1 nS.2.2.2.2.1 eS
    have nf : ∀ c o, h.get? c = some o → h.objs.size ≠ c := fun c o e => Nat.ne_of_gt (Heap.lt_size e)
    show wpAny _ A.in1 (updateSeq S (·.push (.ref h.objs.size)) >>= _) _ _ _
    have szS : (ts.map Value.ref).toArray.size = i := by rw [List.size_toArray, List.length_map, Rn.ln]
    refine wpAny_bind (wpAny_updateSeq (s := { s with heap := h1 }) eS1 rfl (wpAny_pure ⟨plainId_quiet F.plain_extend_loop _, ?_⟩) (by rw [szS]; omega) (by show ((ts.map Value.ref).toArray.push (.ref h.objs.size)).size ≤ sizeLine + 1; rw [Array.size_push, szS]; omega))
    have oth : ∀ c o, c ≠ S → h1.get? c = some o → (h1.update S (Obj.mapSeq (·.push (.ref h.objs.size)))).get? c = some o := fun c o n e => (Heap.get?_update_other _ _ (Ne.symm n)).trans e
    have upS := Heap.get?_update_self (Obj.mapSeq (·.push (Value.ref h.objs.size))) eS1 rfl
    have nSz : h.objs.size ≠ S := nf _ _ eS
    have nTS1 : ∀ T b, ZipH h1 z TI TO T b → T ≠ S := fun T b e => by
      rcases zT T b e with q | ⟨b', q⟩
      · rw [q]; exact nSz
      · exact nTS T b' q
    have nz : h.objs.size ≠ z := Nat.ne_of_gt lz
    have nTO : h.objs.size ≠ TO := by
      rcases Rn.Z.st with ⟨_, _, gO⟩ | ⟨T, b, oT, gz, gT, d1, d2, d3, d4⟩
      · exact nf _ _ gO
      · intro q
        exact absurd Rn.tO (by rw [q]; exact Nat.lt_irrefl _)
    have ni1 : h.objs.size ≠ i1 := by obtain ⟨o, e, _⟩ := Rn.Z.u1; exact nf _ _ e
    have ni2 : h.objs.size ≠ i2 := by obtain ⟨o, e, _⟩ := Rn.Z.u2; exact nf _ _ e
    refine ih (i + 1) (ts ++ [h.objs.size]) _ (by omega) hlt ⟨?_, ?_, ?_, ?_, ?_, fun j hj => ?_, fun c o e => ?_, ?_, ?_⟩ ?_
    · refine Z1.other fun c o e hc => oth c o ?_ e
      rcases hc with q | q | q | q | q | ⟨T, b, q1, q2⟩
      · rw [q]; exact nS.1.symm
      · rw [q]; exact nS.2.1.symm
      · rw [q]; exact nS.2.2.1.symm
      · rw [q]; exact nS.2.2.2.1.symm
      · rw [q]; exact nS.2.2.2.2.1.symm
      · rw [q2]; exact nTS1 T b q1
    · exact Rn.v1.at fun o e => oth l1 o nS.2.2.2.2.2.1.symm (k1 l1 o D.l1z D.l1TO D.l1i1 D.l1i2 e)
    · exact Rn.v2.at fun o e => oth l2 o nS.2.2.2.2.2.2.symm (k1 l2 o D.l2z D.l2TO D.l2i1 D.l2i2 e)
    · rw [upS, List.map_append]
      simp [Obj.mapSeq]
    · rw [List.length_append, Rn.ln]; rfl
    · by_cases hji : j < i
      · obtain ⟨x, y, e1, e2, e3, e4, e5, e6, e7, e8, e9⟩ := Rn.tp j hji
        have eg : (ts ++ [h.objs.size]).getD j 0 = ts.getD j 0 := by rw [List.getD_eq_getElem?_getD, List.getElem?_append_left (by rw [Rn.ln]; exact hji), List.getD_eq_getElem?_getD]
        rw [eg]
        exact ⟨x, y, e1, e2, oth _ _ e5 (k1 _ _ e6 e7 e8 e9 e3), e4, e5, e6, e7, e8, e9⟩
      · have ej : j = i := by omega
        subst ej
        have eg : (ts ++ [h.objs.size]).getD j 0 = h.objs.size := by rw [List.getD_eq_getElem?_getD, List.getElem?_append_right (by rw [Rn.ln]; exact Nat.le_refl _), Rn.ln, Nat.sub_self]; rfl
        rw [eg]
        exact ⟨xs[j], ys[j], List.getElem?_eq_getElem _, List.getElem?_eq_getElem _, oth _ _ nSz p1, Rn.bg, nSz, nz, nTO, ni1, ni2⟩
    · have nS' : ∀ c' ∈ [S, z, TO, i1, i2], c ≠ c' := fun c' hc q => by rw [q, old c' hc] at e; cases e
      exact oth _ _ (nS' S (by simp)) (k1 _ _ (nS' z (by simp)) (nS' TO (by simp)) (nS' i1 (by simp)) (nS' i2 (by simp)) (Rn.kp c o e))
    · refine Nat.le_trans Rn.bg (Nat.le_of_lt ?_)
      exact Heap.lt_size (oth _ _ nSz p1)
    · exact Nat.lt_trans Rn.tO (Heap.lt_size (oth _ _ nSz p1))
    · intro T b e
      have e1 : ZipH h1 z TI TO T b := by
        have q : (h1.update S (Obj.mapSeq (·.push (.ref h.objs.size)))).get? z = h1.get? z := Heap.get?_update_other _ _ nS.1
        exact q.symm.trans e
      exact nTS1 T b e1
end
end L2
namespace L2
open PySem PySem.Spec PyProof.Rows
section
variable {prog : Program} {w : World} {A : Around} {E : Value → Shared → Prop} {s : Shared}
theorem call_list_zip {h0 : Heap} {z TI TO i1 i2 l1 l2 : Addr} {xs ys : List Value} {Q : Value → Shared → Prop} (hh : A.handled = none) (D : ZipApart z TI TO i1 i2 l1 l2) (Z : ZipAt s.heap z TI TO i1 i2 l1 l2 0) (zz : IsZip s.heap z TI TO .none)
    (v1 : s.heap.IsList l1 xs.toArray) (v2 : s.heap.IsList l2 ys.toArray) (hl : xs.length = ys.length) (hz : xs.length ≤ sizeLine) (old : ∀ c ∈ [z, TO, i1, i2], h0.get? c = none) (kp : ∀ c o, h0.get? c = some o → s.heap.get? c = some o) (bg : h0.objs.size ≤ s.heap.objs.size) (tO : TO < s.heap.objs.size)
    (q : ∀ ts h', ZipRun h0 h' z TI TO i1 i2 l1 l2 s.heap.objs.size xs ys ts xs.length → ∀ h2, (∀ c o, c ≠ z → c ≠ TO → c ≠ i1 → c ≠ i2 → h'.get? c = some o → h2.get? c = some o) → Q (.ref s.heap.objs.size) { s with heap := h2 }) :
    wpAny (model prog w) A (call (.type "list") [.ref z]) Q E s := by
  have nf : ∀ c o, s.heap.get? c = some o → s.heap.objs.size ≠ c := fun c o e => Nat.ne_of_gt (Heap.lt_size e)
  have nS : s.heap.objs.size ≠ z ∧ s.heap.objs.size ≠ TI ∧ s.heap.objs.size ≠ TO ∧ s.heap.objs.size ≠ i1 ∧ s.heap.objs.size ≠ i2 ∧ s.heap.objs.size ≠ l1 ∧ s.heap.objs.size ≠ l2 :=
    ⟨nf _ _ zz, nf _ _ Z.gI, Nat.ne_of_gt tO, by obtain ⟨o, e, _⟩ := Z.u1; exact nf _ _ e, by obtain ⟨o, e, _⟩ := Z.u2; exact nf _ _ e, by obtain ⟨o, e, _⟩ := v1; exact nf _ _ e, by obtain ⟨o, e, _⟩ := v2; exact nf _ _ e⟩
  have old5 : ∀ c ∈ [s.heap.objs.size, z, TO, i1, i2], h0.get? c = none := fun c hc => by
    rcases List.mem_cons.mp hc with e | e
    · rw [e]; exact Heap.get?_none_of_le bg
    · exact old c e
  refine callType_codes (Q₁ := fun o1 s1 => o1 = .ref s.heap.objs.size ∧ s1 = { s with heap := s.heap.push { cls := .type "list", data := .seq #[] } }) F.called_list (F.typeCall_list_1 _) F.entry_list_init (code_list_new _ ⟨rfl, rfl⟩) fun o1 s1 e1 => ?_
  obtain ⟨rfl, rfl⟩ := e1
  have gS : (s.heap.push { cls := .type "list", data := .seq #[] }).get? s.heap.objs.size = some { cls := .type "list", data := .seq #[] } := Heap.get?_push_size _ rfl
  refine ⟨⟨_, gS, rfl⟩, F.args_list_init_2 _ _, ?_⟩
  generalize eS : s.heap.objs.size = S at nS old5 gS q ⊢
  have up : ∀ c o, s.heap.get? c = some o → (s.heap.push { cls := .type "list", data := .seq #[] }).get? c = some o := fun c o e => Heap.get?_push_of_some _ e
  show wpAny _ _ (do let cs ← Builtin.List.listItems (.ref S); Builtin.List.listUpdate (.ref S) (fun _ => #[]); letGo cs.toList.reverse; Builtin.List.listExtendWith (.ref S) (.ref z) .none) _ _ _
  refine wpAny_bind ?_
  unfold Builtin.List.listItems
  refine wpAny_bind (wpAny_seqItems gS rfl (wpAny_pure ?_))
  show wpAny _ _ (updateSeq S (fun _ => #[]) >>= _) _ _ _
  refine wpAny_bind (wpAny_updateSeq gS rfl (wpAny_bind (wpAny_letGo ?_)))
  have g2 := Heap.get?_update_self (Obj.mapSeq (fun _ => (#[] : Array Value))) gS rfl
  have o2 : ∀ c o, c ≠ S → s.heap.get? c = some o → ((s.heap.push { cls := .type "list", data := .seq #[] }).update S (Obj.mapSeq (fun _ => (#[] : Array Value)))).get? c = some o := fun c o n e => (Heap.get?_update_other _ _ (Ne.symm n)).trans (up c o e)
  generalize (s.heap.push { cls := .type "list", data := .seq #[] }).update S (Obj.mapSeq (fun _ => (#[] : Array Value))) = h2 at g2 o2 ⊢
  obtain ⟨c2, g2'⟩ : ∃ c, h2.get? S = some { cls := .type "list", data := .seq #[] c } := ⟨_, g2⟩
  have ty2 : ({ s with heap := h2 } : Shared).TypeIs (.ref z) "zip" := ⟨_, o2 _ _ nS.1.symm zz, rfl⟩
  unfold Builtin.List.listExtendWith
  refine wpAny_bind (wpAny_typeOf ty2 ?_)
  have b1 : Builtin.List.listSameRef (.ref S) (.ref z) = false := by simp [Builtin.List.listSameRef, nS.1]
  have b2 : (Value.type "zip" == Value.type "list") = false := by decide
  have b3 : (Value.type "zip" == Value.type "tuple") = false := by decide
  simp only [b1, b2, b3, Bool.or_false, Bool.false_eq_true, if_false]
  refine wpAny_bind (wpAny_pyIter_zip (s := { s with heap := h2 }) (o2 _ _ nS.1.symm zz) (wpAny_bind (wpAny_holding ?_)))
  unfold Builtin.List.listLengthHint
  refine wpAny_bind (wpAny_specialOf ty2 zip_no_len ?_)
  show wpAny _ _ (specialOf (Value.ref z) (Str.ofString "__length_hint__") >>= _) _ _ _
  refine wpAny_bind (wpAny_specialOf ty2 zip_no_hint (wpAny_pure ?_))
  show wpAny _ _ (rule "list.extend.makes-room" >>= fun _ => Builtin.List.listTouch (.ref S) >>= fun _ => again (.builtin "list.extend.loop" ⟨[.ref S, .ref z, .none], []⟩)) _ _ _
  refine wpAny_bind (wpAny_rule (wpAny_bind ?_))
  show wpAny _ _ (updateSeq S (·.push .none) >>= fun _ => updateSeq S (·.pop)) _ _ _
  refine wpAny_bind (wpAny_updateSeq (s := { s with heap := h2 }) g2' rfl ?_)
  have g3 := Heap.get?_update_self (Obj.mapSeq (·.push Value.none)) g2' rfl
  refine wpAny_updateSeq (hz := by seq_fits) g3 rfl ?_
  have g4 := Heap.get?_update_self (Obj.mapSeq (·.pop)) g3 rfl
  have o4 : ∀ c o, c ≠ S → s.heap.get? c = some o → ((h2.update S (Obj.mapSeq (·.push Value.none))).update S (Obj.mapSeq (·.pop))).get? c = some o := fun c o n e => (Heap.get?_update_other _ _ (Ne.symm n)).trans ((Heap.get?_update_other _ _ (Ne.symm n)).trans (o2 c o n e))
  have z4 : h2.objs.size ≤ ((h2.update S (Obj.mapSeq (·.push Value.none))).update S (Obj.mapSeq (·.pop))).objs.size := by
    have u1 := (Heap.SameBut.update h2 S (Obj.mapSeq (·.push Value.none))).1
    have u2 := (Heap.SameBut.update (h2.update S (Obj.mapSeq (·.push Value.none))) S (Obj.mapSeq (·.pop))).1
    rw [u2, u1]
    exact Nat.le_refl _
  generalize (h2.update S (Obj.mapSeq (·.push Value.none))).update S (Obj.mapSeq (·.pop)) = h4 at g4 o4 z4 ⊢
  have lS : S < h4.objs.size := Heap.lt_size g4
  have Z4 : ZipAt h4 z TI TO i1 i2 l1 l2 0 := Z.other fun c o e hc => o4 c o (by rw [← eS]; exact Ne.symm (nf c o e)) e
  have ne : ∀ c o, s.heap.get? c = some o → c ≠ S := fun c o e => by rw [← eS]; exact Ne.symm (nf c o e)
  refine wpAny_pure ⟨plainId_quiet F.plain_extend_loop _, loop_zip (s := s) (A := A.in1) (R := wants (fun r s2 => r = .none ∧ Q (.ref S) s2) E) (show A.in1.in1.handled = none from hh) D nS old5 hl hz (fun ts h' Rn k2 hk => ⟨rfl, q ts h' Rn k2 hk⟩) xs.length 0 [] h4 (Nat.sub_zero _) (Nat.zero_le _) ⟨Z4, v1.at fun o e => o4 l1 o nS.2.2.2.2.2.1.symm e, v2.at fun o e => o4 l2 o nS.2.2.2.2.2.2.symm e, ⟨_, g4⟩, rfl, fun j hj => absurd hj (Nat.not_lt_zero _), fun c o e => o4 c o (ne _ _ (kp c o e)) (kp c o e), Nat.le_trans bg (by rw [eS]; exact Nat.le_of_lt lS), Nat.lt_trans tO (by rw [eS]; exact lS)⟩ fun T b e => ?_⟩
  have q1 : h4.get? z = some { cls := .type "zip", data := .fields #[.none, .bool false, .bool false, .ref TI, .ref TO] } := o4 _ _ nS.1.symm zz
  have q2 := Option.some.inj (q1.symm.trans e)
  injection q2 with _ _ q2 _
  injection q2 with q2
  have q3 := congrArg (fun a : Array Value => a[0]?) q2
  cases (Option.some.inj q3)
end
end L2

namespace L2
open PySem PySem.Spec PyProof.Rows
section
variable {X : Cx} {pins : List (Addr × Obj)} {σ : St} {H H' : Hp} {s : Shared} {h' : Heap}
/-- new lists and tuples are tracked -/
theorem Inv.grow {t' : Nat} (I : Inv X pins σ H s) (k : ∀ b o, s.heap.get? b = some o → h'.get? b = some o) (sub : Same H H')
    (new : ∀ b o, H' b = some o → H b = some o ∨ (s.heap.get? b = none ∧ ObjOk X.prog X.w H' h' b o)) : Inv X pins σ H' { s with heap := h', toks := t' } := by
  refine I.un ⟨fun b o e _ _ _ => k b o e, fun b o e _ _ _ => ⟨o.slots, k b o e⟩, fun b o e n _ => ?_, fun b o e _ => ⟨o, k b o e⟩, fun b xs e => sub _ _ e, fun b o u e => sub _ _ e, fun b ps e => ⟨#[], by rw [sub _ _ e]; simp⟩⟩ fun b o e => ?_
  · cases q : H' b with
    | none => rfl
    | some u =>
      rcases new b u q with z | ⟨z, _⟩
      · rw [n] at z; cases z
      · rw [z] at e; cases e
  · rcases new b o e with z | ⟨_, z⟩
    · exact (I.hok b o z).stay (fun c u _ q => k c u q) (fun c q => sub _ _ q) fun c xs q => sub _ _ q
    · exact z
def tZipL (K : PySem.W.Frag) (ta tb : TE) : TE := fun σ H Q => tCons ta (tCons tb tNil) σ H fun vs H2 => ∃ la lb xs ys, vs = [.ref la, .ref lb] ∧ SqL K H2 la xs ∧ SqL K H2 lb ys ∧ xs.length = ys.length ∧
  ∀ D (ts : List Addr) H', Same H2 H' → H2 D = none → ts.length = xs.length → H' D = some (.lst (ts.map V.ref)) → (∀ (j : Nat) x y, xs[j]? = some x → ys[j]? = some y → H' (ts.getD j 0) = some (.tup [x, y])) → Q (.ref D) H'
theorem pe_zipl {a b : Expr} {ta tb : TE} {p1 p2 pos1 pos2 : Pos} (hc : X.calm = true) (g1 : Gl X "list") (m1 : X.mg "list" = none) (g2 : Gl X "zip") (m2 : X.mg "zip" = none) (ha : PE X a ta) (hb : PE X b tb)
    (e1 : starEach [.Call (.Name "zip" p2) [a, b] [] pos2] X.env = [(false, eval (.Call (.Name "zip" p2) [a, b] [] pos2) X.env)] := by rfl)
    (e2 : starEach [a, b] X.env = (false, eval a X.env) :: starEach [b] X.env := by rfl) (e3 : starEach [b] X.env = [(false, eval b X.env)] := by rfl) (e4 : (backTo pos2 (starEach [b] X.env)).any (·.1) = false := by rfl) :
    PE X (.Call (.Name "list" p1) [.Call (.Name "zip" p2) [a, b] [] pos2] [] pos1) (tZipL X.K ta tb) := by
  intro pins s σ H Q I h
  refine wpAny_Call_Name_kw (ld_blt I g1 m1 b_list ?_)
  refine PyProof.Rows.callWith_type1 ?_ e1 rfl
  rw [e1]
  show wpAny _ _ (spliced ((false, eval (.Call (.Name "zip" p2) [a, b] [] pos2) X.env) :: [])) _ _ s
  refine Calls.spliced_cons ?_
  refine wpAny_Call_Name_kw (ld_blt I g2 m2 b_zip ?_)
  refine PyProof.Rows.callWith_type1 (thn ((pa_cons ha (pa_cons hb pa_nil e3) e2) pos2 pins s σ H _ I h) fun us s1 ⟨vs, H1, I1, r1, q1⟩ => ?_) e2 e4
  obtain ⟨la, lb, xs, ys, rfl, sa, sb, hl, q⟩ := q1
  obtain ⟨u, v, rfl, ru, rv⟩ := vals2 r1
  cases (show u = .ref la from ru)
  cases (show v = .ref lb from rv)
  obtain ⟨is1, w1, n1, z1⟩ := I1.list sa
  obtain ⟨is2, w2, n2, z2⟩ := I1.list sb
  have c1 := w1.length
  have c2 := w2.length
  have la1 : la < s1.heap.objs.size := by obtain ⟨o, e, _⟩ := n1.isList; exact Heap.lt_size e
  have lb1 : lb < s1.heap.objs.size := by obtain ⟨o, e, _⟩ := n2.isList; exact Heap.lt_size e
  refine call_zip_2 n1.isList n2.isList fun h2 zz zI zO u1 u2 sz kp => ?_
  refine Calls.spliced_nil ?_
  have gt : ∀ c, s1.heap.objs.size ≤ c → s1.heap.get? c = none := fun c hc => Heap.get?_none_of_le hc
  refine call_list_zip (s := { s1 with heap := h2 }) (h0 := s1.heap) (xs := is1) (ys := is2) (I.ok.hd hc) (zipApart_new la1 lb1) ⟨zI, u1, u2, .inl ⟨rfl, zz, zO⟩⟩ zz (n1.isList.at fun o e => kp _ _ e) (n2.isList.at fun o e => kp _ _ e) (by omega) (by omega) (fun c hc => ?_) kp (by show _ ≤ h2.objs.size; omega) (by show _ < h2.objs.size; omega) ?_
  · simp only [List.mem_cons, List.not_mem_nil, or_false] at hc
    rcases hc with e | e | e | e <;> rw [e] <;> exact gt _ (by omega)
  intro ts h3 Rn h4 k4
  have lt := Rn.ln
  have Sg : s1.heap.get? h2.objs.size = none := gt _ (by omega)
  have nS : ∀ c, (c = s1.heap.objs.size + 4 ∨ c = s1.heap.objs.size + 3 ∨ c = s1.heap.objs.size ∨ c = s1.heap.objs.size + 1) → h2.objs.size ≠ c := fun c hc => by omega
  obtain ⟨cc, eS⟩ := Rn.ls
  have eS4 := k4 h2.objs.size _ (nS _ (.inl rfl)) (nS _ (.inr (.inl rfl))) (nS _ (.inr (.inr (.inl rfl)))) (nS _ (.inr (.inr (.inr rfl)))) eS
  have lenV : xs.length ≤ sizeLine := z1
  let Hn : Hp := fun c => if c = h2.objs.size then some (.lst (ts.map V.ref)) else if hx : ∃ j, j < xs.length ∧ ts.getD j 0 = c then some (.tup [xs.getD hx.choose .non, ys.getD hx.choose .non]) else H1 c
  have lx : is1.length = xs.length := c1.symm
  have getV : ∀ {zs : List V} {us : List Value} {j : Nat} {x : Value}, Vals zs us → us[j]? = some x → RelV (zs.getD j .non) x := fun {zs us j x} r e => by
    have hj : j < zs.length := by rw [r.length]; exact (List.getElem?_eq_some_iff.mp e).1
    obtain ⟨u, eu, ru⟩ := r.get (List.getElem?_eq_getElem hj)
    rw [e] at eu
    cases eu
    rw [List.getD_eq_getElem?_getD, List.getElem?_eq_getElem hj]
    exact ru
  have tupAt : ∀ j, j < xs.length → Hn (ts.getD j 0) = some (.tup [xs.getD j .non, ys.getD j .non]) := fun j hj => by
    obtain ⟨x, y, e1, e2, e3, e4, e5, _⟩ := Rn.tp j (by omega)
    have hx : ∃ i, i < xs.length ∧ ts.getD i 0 = ts.getD j 0 := ⟨j, hj, rfl⟩
    show (if ts.getD j 0 = h2.objs.size then _ else if hx : ∃ i, i < xs.length ∧ ts.getD i 0 = ts.getD j 0 then some (HO.tup [xs.getD hx.choose .non, ys.getD hx.choose .non]) else H1 (ts.getD j 0)) = _
    rw [if_neg e5, dif_pos hx]
    have sp := hx.choose_spec
    obtain ⟨x', y', f1, f2, f3, _⟩ := Rn.tp hx.choose (by omega)
    rw [sp.2] at f3
    have ee := Option.some.inj (e3.symm.trans f3)
    injection ee with _ _ ee _
    injection ee with ee
    have ex : x = x' := Option.some.inj (congrArg (fun a : Array Value => a[0]?) ee)
    have ey : y = y' := Option.some.inj (congrArg (fun a : Array Value => a[1]?) ee)
    have r1 := (getV w1 f1).inj (ex ▸ getV w1 e1)
    have r2 := (getV w2 f2).inj (ey ▸ getV w2 e2)
    rw [r1, r2]
  have atS : Hn h2.objs.size = some (.lst (ts.map V.ref)) := by
    show (if h2.objs.size = h2.objs.size then _ else _) = _
    rw [if_pos rfl]
  have oldH : ∀ c, c ≠ h2.objs.size → (¬ ∃ j, j < xs.length ∧ ts.getD j 0 = c) → Hn c = H1 c := fun c n1 n2 => by
    show (if c = h2.objs.size then _ else if hx : ∃ j, j < xs.length ∧ ts.getD j 0 = c then _ else H1 c) = _
    rw [if_neg n1, dif_neg n2]
  have sm : Same H1 Hn := fun c o e => by
    have lc : c < s1.heap.objs.size := I1.hok.lt e
    rw [oldH c (Nat.ne_of_lt (Nat.lt_of_lt_of_le lc (by omega))) (fun ⟨j, hj, ej⟩ => by
      obtain ⟨x, y, _, _, _, e4, _⟩ := Rn.tp j (by omega)
      rw [ej] at e4
      exact absurd e4 (Nat.not_le_of_lt lc))]
    exact e
  have refs : ∀ us : List Addr, Vals (us.map V.ref) (us.map Value.ref) := fun us => by
    induction us with
    | nil => exact .nil
    | cons a r ih => exact .cons rfl ih
  have kept : ∀ c o, s1.heap.get? c = some o → h4.get? c = some o := fun c o e => by
    have lc := Heap.lt_size e
    exact k4 c o (Nat.ne_of_lt (Nat.lt_of_lt_of_le lc (Nat.le_add_right _ _))) (Nat.ne_of_lt (Nat.lt_of_lt_of_le lc (Nat.le_add_right _ _))) (Nat.ne_of_lt lc) (Nat.ne_of_lt (Nat.lt_of_lt_of_le lc (Nat.le_add_right _ _))) (Rn.kp c o e)
  have I4 : Inv X pins σ Hn { s1 with heap := h4, toks := s1.toks } := I1.grow kept sm fun c o e => by
    by_cases n1 : c = h2.objs.size
    · subst n1
      rw [atS] at e
      cases e
      exact .inr ⟨Sg, by rw [List.length_map, lt, lx]; exact lenV, ts.map Value.ref, cc, refs ts, eS4⟩
    · by_cases n2 : ∃ j, j < xs.length ∧ ts.getD j 0 = c
      · obtain ⟨j, hj, rfl⟩ := n2
        rw [tupAt j hj] at e
        cases e
        obtain ⟨x, y, e1, e2, e3, e4, e5, e6, e7, e8, e9⟩ := Rn.tp j (by omega)
        exact .inr ⟨gt _ e4, (by show 2 ≤ sizeLine; decide), [x, y], .cons (getV w1 e1) (.cons (getV w2 e2) .nil), _, k4 _ _ e6 e7 e8 e9 e3, rfl, _, rfl⟩
      · rw [oldH c n1 n2] at e
        exact .inl e
  refine ⟨.ref h2.objs.size, Hn, I4, rfl, q h2.objs.size ts Hn sm (I1.hok.fresh (by omega)) (by omega) atS fun j x y ex ey => ?_⟩
  have hj : j < xs.length := (List.getElem?_eq_some_iff.mp ex).1
  have := tupAt j hj
  rw [List.getD_eq_getElem?_getD (l := xs), ex, List.getD_eq_getElem?_getD (l := ys), ey] at this
  exact this
end
end L2

set_option Elab.async false
set_option linter.all false
set_option maxRecDepth 100000
namespace Np
open L2 PySem
theorem MoAt.trk {T : Cl} {H : Hp} {x : Addr} {own : List Addr} {M : Mo} (p : MoAt T H x own M) : ∀ b ∈ own, ∃ o, H b = some o := by
  cases M with
  | pl ns =>
    obtain ⟨l, rfl, ⟨dx, e⟩, e2⟩ := p
    intro b hb
    rcases List.mem_cons.mp hb with z | z
    · exact ⟨_, z ▸ e⟩
    · have z' : b = l := by simpa using z
      exact ⟨_, z' ▸ e2⟩
  | le m s t =>
    obtain ⟨l, rfl, ⟨dx, e⟩, e2⟩ := p
    intro b hb
    rcases List.mem_cons.mp hb with z | z
    · exact ⟨_, z ▸ e⟩
    · have z' : b = l := by simpa using z
      exact ⟨_, z' ▸ e2⟩
  | fo m s cur b0 ts =>
    obtain ⟨bh, l0, k0, ls, ks, rfl, F⟩ := p
    intro b hb
    simp only [List.mem_cons, List.mem_append] at hb
    rcases hb with z | z | z | z | z | z
    · obtain ⟨dx, e⟩ := F.ob; exact ⟨_, z ▸ e⟩
    · exact ⟨_, z ▸ F.bh_⟩
    · obtain ⟨dx, e⟩ := F.beg.ob; exact ⟨_, z ▸ e⟩
    · exact ⟨_, z ▸ F.beg.ls⟩
    · obtain ⟨j, hj, ej⟩ := List.getElem_of_mem z
      obtain ⟨dx, e⟩ := (F.eachL j hj).ob
      rw [List.getD_eq_getElem?_getD, List.getElem?_eq_getElem hj] at e
      exact ⟨_, ej ▸ e⟩
    · obtain ⟨j, hj, ej⟩ := List.getElem_of_mem z
      have e := (F.eachL j (by rw [F.l1, ← F.l2]; exact hj)).ls
      rw [List.getD_eq_getElem?_getD (l := ks), List.getElem?_eq_getElem hj] at e
      exact ⟨_, ej ▸ e⟩
theorem MoAt.frame {T : Cl} {H H' : Hp} {x : Addr} {own : List Addr} {M : Mo} (p : MoAt T H x own M) (k : ∀ b ∈ own, ∀ o, H b = some o → H' b = some o) : MoAt T H' x own M := by
  have kL : ∀ {a c : Addr} {m s : Int} {t : List Int}, LearnAt T.L H a c m s t → a ∈ own → c ∈ own → LearnAt T.L H' a c m s t := fun {a c m s t} ⟨⟨dx, e⟩, e2⟩ h1 h2 => ⟨⟨dx, k _ h1 _ e⟩, k _ h2 _ e2⟩
  cases M with
  | pl ns =>
    obtain ⟨l, e0, ⟨dx, e⟩, e2⟩ := p
    exact ⟨l, e0, ⟨dx, k _ (by rw [e0]; simp) _ e⟩, k _ (by rw [e0]; simp) _ e2⟩
  | le m s t =>
    obtain ⟨l, e0, la⟩ := p
    exact ⟨l, e0, kL la (by rw [e0]; simp) (by rw [e0]; simp)⟩
  | fo m s cur b0 ts =>
    obtain ⟨bh, l0, k0, ls, ks, e0, F⟩ := p
    refine ⟨bh, l0, k0, ls, ks, e0, { F with ob := let ⟨dx, e⟩ := F.ob; ⟨dx, k _ (by rw [e0]; simp) _ e⟩, bh_ := k _ (by rw [e0]; simp) _ F.bh_, beg := kL F.beg (by rw [e0]; simp) (by rw [e0]; simp), eachL := fun i hi => kL (F.eachL i hi) ?_ ?_ }⟩
    · rw [e0]; simp only [List.mem_cons, List.mem_append]; exact .inr (.inr (.inr (.inr (.inl (getD_in hi)))))
    · rw [e0]; simp only [List.mem_cons, List.mem_append]; exact .inr (.inr (.inr (.inr (.inr (getD_in (by rw [F.l2, ← F.l1]; exact hi))))))
def seeAll (M : Mo) (ks : List Int) : Mo := ks.foldl (fun M k => M.see k.toNat) M
theorem seeAll_snoc (M : Mo) (ks : List Int) (k : Int) : seeAll M (ks ++ [k]) = (seeAll M ks).see k.toNat := by unfold seeAll; rw [List.foldl_append]; rfl
theorem seeAll_cons (M : Mo) (k : Int) (ks : List Int) : seeAll M (k :: ks) = seeAll (M.see k.toNat) ks := rfl
theorem seeAll_many : ∀ (ks : List Int) (M : Mo), (seeAll M ks).many = M.many
  | [], _ => rfl
  | k :: ks, M => by rw [seeAll_cons, seeAll_many ks, Mo.see_many]
theorem seeAll_good : ∀ (ks : List Int) {M : Mo}, M.Good → (∀ k ∈ ks, 0 ≤ k ∧ k < M.many) → (seeAll M ks).Good
  | [], _, g, _ => g
  | k :: ks, M, g, h => by
    rw [seeAll_cons]
    have hk := h k List.mem_cons_self
    exact seeAll_good ks (g.see (by omega)) fun j hj => by rw [Mo.see_many]; exact h j (List.mem_cons_of_mem _ hj)
theorem seeAll_take {M : Mo} {rs : List Int} {i : Nat} (h : i < rs.length) : seeAll M (rs.take (i + 1)) = (seeAll M (rs.take i)).see (rs.getD i 0).toNat := by
  rw [List.take_succ, List.getElem?_eq_getElem h, List.getD_eq_getElem?_getD, List.getElem?_eq_getElem h]
  exact seeAll_snoc _ _ _
def tellsAt (M : Mo) (rs : List Int) (j : Nat) : List Int := (seeAll M (rs.take j)).tells
def pressN : Mo → List Int → Int → Int
  | _, [], p => p
  | M, k :: rs, p => layN M.tells k.toNat (pressN (M.see k.toNat) rs p)
def PressOk : Mo → List Int → Prop
  | _, [] => True
  | M, k :: rs => OkS M.tells k ∧ PressOk (M.see k.toNat) rs
def pressFrom (M : Mo) (rs : List Int) (j : Nat) (p : Int) : Int := pressN (seeAll M (rs.take j)) (rs.drop j) p
theorem pressFrom_step {M : Mo} {rs : List Int} {j : Nat} (h : j < rs.length) (p : Int) : pressFrom M rs j p = layN (tellsAt M rs j) (rs.getD j 0).toNat (pressFrom M rs (j + 1) p) := by
  unfold pressFrom tellsAt
  rw [List.drop_eq_getElem_cons h, seeAll_take h, List.getD_eq_getElem?_getD, List.getElem?_eq_getElem h]
  rfl
theorem pressFrom_zero (M : Mo) (rs : List Int) (p : Int) : pressFrom M rs 0 p = pressN M rs p := rfl
theorem pressFrom_len (M : Mo) (rs : List Int) (p : Int) : pressFrom M rs rs.length p = p := by unfold pressFrom; rw [List.drop_length]; rfl
theorem PressOk.at : ∀ {rs : List Int} {M : Mo}, PressOk M rs → ∀ {j : Nat}, j < rs.length → OkS (tellsAt M rs j) (rs.getD j 0)
  | [], _, _, j, h => absurd h (Nat.not_lt_zero _)
  | k :: rs, M, ok, 0, _ => ok.1
  | k :: rs, M, ok, j + 1, h => PressOk.at (rs := rs) (M := M.see k.toNat) ok.2 (j := j) (by simpa using h)
theorem PressOk.rng : ∀ {rs : List Int} {M : Mo}, PressOk M rs → M.Good → ∀ k ∈ rs, 0 ≤ k ∧ k < M.many
  | [], _, _, _, k, h => by cases h
  | k0 :: rs, M, ok, g, k, h => by
    have t := g.tells
    have h0 : 0 ≤ k0 ∧ k0 < M.many := ⟨ok.1.1, by have := ok.1.2.1; omega⟩
    rcases List.mem_cons.mp h with e | e
    · rw [e]; exact h0
    · have := PressOk.rng ok.2 (g.see (by omega)) k e
      rw [Mo.see_many] at this
      exact this
theorem press_nn : ∀ {rs : List Int} {M : Mo}, PressOk M rs → M.Good → ∀ {p : Int}, 0 ≤ p → 0 ≤ pressN M rs p
  | [], _, _, _, _, h => h
  | k :: rs, M, ok, g, p, h => by
    have t := g.tells
    have hk := ok.1.2.1
    have h0 := ok.1.1
    exact lay_nn t.1 (by omega) ok.1.2.2 (press_nn ok.2 (g.see (by omega)) h)
theorem PressOk.drop : ∀ {rs : List Int} {M : Mo} (j : Nat), PressOk M rs → PressOk (seeAll M (rs.take j)) (rs.drop j)
  | [], M, j, _ => by simp [PressOk]
  | k :: rs, M, 0, ok => ok
  | k :: rs, M, j + 1, ok => by
    show PressOk (seeAll (M.see k.toNat) (rs.take j)) (rs.drop j)
    exact PressOk.drop j ok.2
def readN : Mo → Nat → Int → List Int × Int
  | _, 0, p => ([], p)
  | M, n + 1, p => (((takeS M.tells p : Nat) : Int) :: (readN (M.see (takeS M.tells p)) n (takeP M.tells p)).1, (readN (M.see (takeS M.tells p)) n (takeP M.tells p)).2)
theorem readN_snoc : ∀ (n : Nat) (M : Mo) (p : Int), readN M (n + 1) p = ((readN M n p).1 ++ [((takeS (seeAll M (readN M n p).1).tells (readN M n p).2 : Nat) : Int)], takeP (seeAll M (readN M n p).1).tells (readN M n p).2)
  | 0, M, p => rfl
  | n + 1, M, p => by
    have ih := readN_snoc n (M.see (takeS M.tells p)) (takeP M.tells p)
    show (((takeS M.tells p : Nat) : Int) :: (readN (M.see (takeS M.tells p)) (n + 1) (takeP M.tells p)).1, (readN (M.see (takeS M.tells p)) (n + 1) (takeP M.tells p)).2) = _
    rw [ih]
    rfl
theorem readN_len : ∀ (n : Nat) (M : Mo) (p : Int), (readN M n p).1.length = n
  | 0, _, _ => rfl
  | n + 1, M, p => by
    show ((readN (M.see (takeS M.tells p)) n (takeP M.tells p)).1).length + 1 = n + 1
    rw [readN_len]
theorem readN_ok : ∀ (n : Nat) {M : Mo}, M.Good → ∀ {p : Int}, 0 ≤ p → PressOk M (readN M n p).1 ∧ 0 ≤ (readN M n p).2 ∧ pressN M (readN M n p).1 (readN M n p).2 = p
  | 0, _, _, _, h => ⟨trivial, h, rfl⟩
  | n + 1, M, g, p, h => by
    have t := g.tells
    obtain ⟨a, _, _⟩ := take_ok t.1 p
    have b := take_pos t.1 p
    have hk : ((takeS M.tells p : Nat) : Int) < M.many := by omega
    obtain ⟨i1, i2, i3⟩ := readN_ok n (g.see hk) (take_nn t.1 h)
    refine ⟨⟨⟨by omega, by omega, by rw [Int.toNat_natCast]; exact b⟩, ?_⟩, i2, ?_⟩
    · rw [Int.toNat_natCast]; exact i1
    · show layN M.tells ((takeS M.tells p : Nat) : Int).toNat (pressN (M.see ((takeS M.tells p : Nat) : Int).toNat) (readN (M.see (takeS M.tells p)) n (takeP M.tells p)).1 (readN (M.see (takeS M.tells p)) n (takeP M.tells p)).2) = p
      rw [Int.toNat_natCast, i3, lay_take t.1]
theorem read_press : ∀ {rs : List Int} {M : Mo}, PressOk M rs → M.Good → ∀ (p : Int), readN M rs.length (pressN M rs p) = (rs, p)
  | [], _, _, _, _ => rfl
  | k :: rs, M, ok, g, p => by
    have t := g.tells
    have hk := ok.1.2.1
    have h0 := ok.1.1
    obtain ⟨e1, e2⟩ := take_lay t.1 (k := k.toNat) (by omega) ok.1.2.2 (pressN (M.see k.toNat) rs p)
    show (((takeS M.tells (layN M.tells k.toNat (pressN (M.see k.toNat) rs p)) : Nat) : Int) :: (readN (M.see (takeS M.tells (layN M.tells k.toNat (pressN (M.see k.toNat) rs p)))) rs.length (takeP M.tells (layN M.tells k.toNat (pressN (M.see k.toNat) rs p)))).1, (readN (M.see (takeS M.tells (layN M.tells k.toNat (pressN (M.see k.toNat) rs p)))) rs.length (takeP M.tells (layN M.tells k.toNat (pressN (M.see k.toNat) rs p)))).2) = (k :: rs, p)
    rw [e1, e2, read_press ok.2 (g.see (by omega)) p]
    have : ((k.toNat : Nat) : Int) = k := by omega
    rw [this]
theorem mem_rev_ref {ts : List Addr} {i : Nat} {y : V} (h : (ts.map V.ref).reverse[i]? = some y) : i < ts.length ∧ y = .ref (ts.getD (ts.length - 1 - i) 0) := by
  have hi : i < (ts.map V.ref).length := by
    by_cases hi : i < (ts.map V.ref).length
    · exact hi
    · rw [List.getElem?_eq_none (by rw [List.length_reverse]; omega)] at h; cases h
  rw [List.getElem?_reverse hi] at h
  rw [List.length_map] at hi h
  rw [getD_map_ref (by omega)] at h
  exact ⟨hi, (Option.some.inj h).symm⟩
end Np

set_option Elab.async false
set_option linter.all false
set_option maxRecDepth 100000
namespace L2
open PySem PySem.Spec PyProof.Rows
section
variable {X : Cx} {tg : Expr}
/-! ### list(range(n)) -/
end
end L2
namespace L2
open PySem PySem.Spec PyProof.Rows
/-! ### reversed(range(n)) -/
section
variable {prog : Program} {w : World} {A : Around} {E : Value → Shared → Prop} {s : Shared}
end
section
variable {X : Cx} {tg : Expr}
end
end L2

set_option Elab.async false
set_option linter.all false
set_option maxRecDepth 100000
namespace L2
open PySem PySem.Spec PyProof.Rows
theorem Def.okH {P : Program} {w : World} {K : PySem.W.Frag} {mg : Str → Option Value} {base : Heap} {x : Str} {st : Stmt} {N ps : List Str} {k : Nat} {sp : Sp} (D : Def K mg x st ps) (S : FnScope N ps (defScope st)) (len : ∀ vs H Q E, sp vs H Q E → vs.length = ps.length)
    (hbody : ∀ (f : Addr) (cdv : Value) (A : Around) (outer : List Env) (s : Shared) (H : Hp) (vs : List V) (Q : VK) (E : XK), Room k (A.deeper (envOfC x (defScope st) s.heap.objs.size f cdv)) → sp vs H Q E →
      ∃ t, PSs (cxOf CX0 P w K mg base N x (defScope st) f cdv A outer s H E).nox (defBody st) t ∧ t { nx := fun _ H' => Q .non H', rt := Q } (start N vs) H) : Cal P w K mg base (k + 1) x ps sp := by
  obtain ⟨f, fd, F, b, m⟩ := D.ex
  exact ⟨f, fd, m, F.kp, b, F.ok S len (hbody f)⟩
end L2
namespace Np
open L2 PySem
theorem good_le {m s : Int} (h1 : 1 ≤ m) (h2 : m ≤ 100) (h3 : 1 ≤ s) (h4 : s ≤ 9) : (Mo.le m s (ones m)).Good := ⟨h1, h2, h3, h4, ones_ok m⟩
theorem good_fo {m s : Int} (h1 : 1 ≤ m) (h2 : m ≤ 100) (h3 : 1 ≤ s) (h4 : s ≤ 9) : (Mo.fo m s none (ones m) (List.replicate m.toNat (ones m))).Good :=
  ⟨h1, h2, h3, h4, ones_ok m, by simp, fun t ht => by rw [List.eq_of_mem_replicate ht]; exact ones_ok m, fun i e => by cases e⟩
def Mo.isPl : Mo → Bool
  | .pl _ => true
  | _ => false
theorem Mo.see_isPl (M : Mo) (k : Nat) : (M.see k).isPl = M.isPl := by
  cases M with
  | fo m s cur b ts => cases cur <;> rfl
  | _ => rfl
theorem Mo.Good.okS {M : Mo} (g : M.Good) (n : M.isPl = false) {k : Int} (h0 : 0 ≤ k) (h1 : k < M.many) : OkS M.tells k := by
  cases M with
  | pl ns => cases n
  | le m s t => exact g.2.2.2.2.ok h0 h1
  | fo m s cur b ts =>
    obtain ⟨g1, g2, g3, g4, g5, g6, g7, g8⟩ := g
    cases cur with
    | none => exact g5.ok h0 h1
    | some i => exact (g7 _ (getD_in (by rw [g6]; exact g8 i rfl))).ok h0 h1
theorem press_tally : ∀ {rs : List Int} {M : Mo}, M.Good → M.isPl = false → (∀ k ∈ rs, 0 ≤ k ∧ k < M.many) → PressOk M rs
  | [], _, _, _, _ => trivial
  | k :: rs, M, g, n, h => by
    obtain ⟨a, b⟩ := h k List.mem_cons_self
    refine ⟨g.okS n a b, press_tally (g.see (by omega)) (by rw [Mo.see_isPl]; exact n) fun j hj => ?_⟩
    rw [Mo.see_many]
    exact h j (List.mem_cons_of_mem _ hj)
end Np

set_option Elab.async false
set_option linter.all false
set_option maxRecDepth 100000
set_option maxHeartbeats 4000000
namespace L2
open PySem
/-! ### an exception of the text's own classes, as it lies in the heap -/
def excO (cls t tb : Value) : Obj := { cls := cls, data := .fields #[t, tb, .none, .none, .bool false, .none] }
structure Fly (h : Heap) (e : Addr) (cls : Value) (T : Addr) : Prop where
  ob : ∃ t, h.get? e = some (excO cls t (.ref T))
  ne : T ≠ e
  tb : ∃ oT ts, h.get? T = some oT ∧ oT.data = .fields ts ∧ ts[3]? = some Value.none
section
variable {M : Model} {A : Around} {E : Value → Shared → Prop} {s : Shared} {e : Addr} {cls t tb0 : Value} {Q : Unit → Shared → Prop}
end
end L2
namespace L2
open PySem
section
variable {prog : Program} {w : World} {A : Around} {E : Value → Shared → Prop} {s : Shared} {e : Addr} {cls t tb : Value}
end
end L2
namespace L2
open PySem PySem.Spec PyProof.Rows
/-! ### an exception that leaves a call -/
section
variable {X : Cx} {pins : List (Addr × Obj)} {σ : St} {H H' : Hp} {s s' : Shared} {E : XK} {h' : Heap} {b : Addr}
/-- a record of ours that may turn: untracked, not the frame, not there at the entry -/
def FpX (X : Cx) (pins : List (Addr × Obj)) (H : Hp) (b : Addr) : Prop :=
  H b = none ∧ b ≠ X.env.locals ∧ X.s₀.heap.get? b = none ∧ (∀ x c, X.env.cells.lookup x = some c → c ≠ b) ∧ ∀ p ∈ X.pn ++ pins, p.1 ≠ b
/-- .. and behind an expression, in this frame -/
def XP (X : Cx) (pins : List (Addr × Obj)) (σ : St) (E : XK) (x : Value) (s' : Shared) : Prop := ∃ e C T H', x = .ref e ∧ Inv X pins σ H' s' ∧ Fly s'.heap e (.ref C) T ∧ FpX X pins H' e ∧ FpX X pins H' T ∧ E (.ref C) none H'
end
section
variable {P : Program} {w : World} {K : PySem.W.Frag} {mg : Str → Option Value} {base : Heap} {N : List Str} {qual : Str} {scope : Scope} {f : Addr} {cd : Value} {A : Around} {outer : List Env} {s : Shared} {H : Hp} {E : XK}
end
/-! ### raise -/
end L2
namespace L2
open PySem PySem.Spec PyProof.Rows
/-! ### a def that may raise -/
section
variable {P : Program} {w : World} {K : PySem.W.Frag} {mg : Str → Option Value} {base : Heap} {k j : Nat} {f C : Addr} {fd : FuncData} {ps N : List Str} {sp : Sp} {x m qual : Str} {st : Stmt}
end
/-! ### an expression that may raise -/
abbrev TX := St → Hp → VK → XK → Prop
section
variable {X : Cx} {k : Nat} {f C : Addr} {fd : FuncData} {ps : List Str} {sp : Sp} {E : XK} {x m : Str} {p pos apos : Pos} {e o : Expr} {es : List Expr} {ta te : TE} {t : TA} {tx : TX}
/-! ### a statement that may raise, its names as they stood ahead -/
end
/-! ### within an except suite -/
section
variable {X : Cx} {pins : List (Addr × Obj)} {σ : St} {H : Hp} {s : Shared} {e : Addr} {o : Obj}
end
/-! ### try: one statement; except: one own class -/
/-! ### a def that may be called while an exception is handled -/
section
variable {k j : Nat} {A : Around}
end
section
variable {P : Program} {w : World} {K : PySem.W.Frag} {mg : Str → Option Value} {base : Heap} {k j : Nat} {f C : Addr} {fd : FuncData} {ps N : List Str} {sp sp' : Sp} {x m qual : Str} {st : Stmt}
end
section
variable {X : Cx} {k : Nat} {f C : Addr} {fd : FuncData} {ps : List Str} {sp : Sp} {x m : Str} {p pos apos : Pos} {e o tg : Expr} {es : List Expr} {ta : TE} {t : TA}
end
end L2

set_option Elab.async false
set_option linter.all false
set_option maxRecDepth 100000
set_option maxHeartbeats 4000000
namespace Np
open L2 PySem
/-! ### tables kept beside a Follower -/
structure KeptAt (H : Hp) (D : Addr) (as : List Addr) (kt : List (List Int)) : Prop where
  ls : H D = some (.lst (as.map V.ref))
  len : as.length = kt.length
  at_ : ∀ i, i < kt.length → H (as.getD i 0) = some (.lst ((kt.getD i []).map V.int))
theorem KeptAt.frame {H H' : Hp} {D : Addr} {as : List Addr} {kt : List (List Int)} (k : KeptAt H D as kt) (s : ∀ b o, b ∈ D :: as → H b = some o → H' b = some o) : KeptAt H' D as kt :=
  ⟨s _ _ (by simp) k.ls, k.len, fun i hi => s _ _ (List.mem_cons_of_mem _ (getD_in (by rw [k.len]; exact hi))) (k.at_ i hi)⟩
theorem KeptAt.same {H H' : Hp} {D : Addr} {as : List Addr} {kt : List (List Int)} (k : KeptAt H D as kt) (s : Same H H') : KeptAt H' D as kt := k.frame fun b o _ e => s b o e
section
variable {T : Cl} {B H H' : Hp} {x : Addr} {own own' : List Addr} {M M' : Mo} {D : Addr} {as : List Addr} {kt : List (List Int)} {r : Addr} {rs : List Int}
end
end Np

set_option Elab.async false
set_option linter.all false
set_option maxRecDepth 100000
namespace L2
open PySem PySem.Spec PyProof.Rows
section
variable {X : Cx}
theorem call_minL (hc : X.calm = true) : CallR X (.builtin "min") (fun xs H Q => ∃ (a : Addr) (ns : List Int), xs = [.ref a] ∧ SqL X.K H a (ns.map V.int) ∧ 0 < ns.length ∧ ∀ i, i ∈ ns → (∀ j ∈ ns, i ≤ j) → Q (.int i) H) := by
  rintro pins s σ H xs us Q I r ⟨a, ns, rfl, h, h0, q⟩
  obtain ⟨u, rfl, ru⟩ := vals1 r
  cases (show u = .ref a from ru)
  obtain ⟨its, hv, pl, hz⟩ := I.list h
  have hi := intsAre_of hv
  obtain ⟨ys, e⟩ := hi.allInts.items
  have hns : ns = ys.toList.map (·.1) := by rw [← hi.numsOf, ← nums_intItems, ← e]
  have hsz : 0 < ys.size := by
    have h3 := h0
    rw [hns, List.length_map, Array.length_toList] at h3
    exact h3
  have hl : s.heap.IsList a (intItems ys) := e ▸ pl.isList
  refine min_intList (I.ok.hd hc) hl hsz fun v h' tk hv hk => ?_
  obtain ⟨t, rfl⟩ := intItems_at hv
  obtain ⟨h1, h2⟩ := argBest_lt (numAt ys) (ys.size - 1)
  refine ⟨.int _, H, I.kept hk, ⟨_, rfl⟩, q _ ?_ fun j hj => ?_⟩
  · rw [hns, numAt_eq]; exact getD_mem (by rw [List.length_map, Array.length_toList]; omega)
  · rw [hns] at hj
    obtain ⟨k, hk', rfl⟩ := mem_getD hj
    rw [List.length_map, Array.length_toList] at hk'
    rw [← numAt_eq]; exact h2 k (by omega)
/-! ### == of lists of lists that are the same throughout -/
end
end L2
namespace Np
open L2 PySem
/-! ### a comprehension that lays a table -/
structure TabAt (H1 H : Hp) (D : Addr) (as : List Addr) (rows : List (List Int)) : Prop where
  kp : KeptAt H D as rows
  sm : Same H1 H
  nd : (D :: as).Nodup
  fr : ∀ b ∈ D :: as, H1 b = none
theorem comp_tab {J : It} {n : Nat} {cv : St} {te : TE} {D : Addr} {H1 : Hp} {Q : VK} (xs : Nat → V) (row : Nat → List Int) (hz : n ≤ sizeLine) (hD : H1 D = none)
    (hgo : ∀ i H', i < n → Same H1 H' → J.go i H' ∧ ∀ y H2, J.yld i H' y H2 → y = xs i ∧ H2 = H')
    (hst : ∀ H', Same H1 H' → J.stop n H')
    (hs : ∀ i H' (R : VK), i < n → Same H1 H' → (∀ p, H' p = none → R (.ref p) (upd H' p (.lst ((row i).map V.int)))) → te (some (xs i) :: cv) H' R)
    (hd : ∀ as H', TabAt H1 H' D as ((List.range n).map row) → Q (.ref D) H') : tCompB J cv tYes te D H1 Q := by
  refine ⟨fun i m H' => m = n - i ∧ i ≤ n ∧ ∃ as, TabAt H1 H' D as ((List.range i).map row), ⟨n, by simp, Nat.zero_le _, [], ⟨upd_same, rfl, fun i hi => absurd hi (Nat.not_lt_zero _)⟩, same_up hD, by simp, fun b hb => by
    have : b = D := by simpa using hb
    rw [this]; exact hD⟩, ?_⟩
  rintro i m H' ⟨rfl, hi, as, T⟩
  have la : as.length = i := by rw [T.kp.len]; simp
  by_cases hlt : i < n
  · obtain ⟨g, y⟩ := hgo i H' hlt T.sm
    refine .inr ⟨g, fun x H2 hy => ?_⟩
    obtain ⟨rfl, rfl⟩ := y x H2 hy
    unfold tYes
    dsimp only
    rw [if_pos rfl]
    refine hs i _ _ hlt T.sm fun p hp => ?_
    have npD : p ≠ D := fun z => by rw [z, T.kp.ls] at hp; cases hp
    have hD' : upd H2 p (.lst ((row i).map V.int)) D = some (.lst (as.map V.ref)) := upd_old T.kp.ls hp
    refine ⟨_, hD', by rw [List.length_map]; omega, n - (i + 1), by omega, rfl, hlt, as ++ [p], ⟨by rw [upd_same, List.map_append]; rfl, by simp [la], fun j hj => ?_⟩, fun b o e => ?_, ?_, fun b hb => ?_⟩
    · rw [List.length_map, List.length_range] at hj
      by_cases hji : j < i
      · have a1 : (as ++ [p]).getD j 0 = as.getD j 0 := by rw [List.getD_eq_getElem?_getD, List.getElem?_append_left (by omega), List.getD_eq_getElem?_getD]
        have q := T.kp.at_ j (by simpa using hji)
        have nD : as.getD j 0 ≠ D := fun z => (List.nodup_cons.mp T.nd).1 (by rw [← z]; exact getD_in (by omega))
        have a2 : ((List.range (i + 1)).map row).getD j [] = row j := by rw [List.getD_eq_getElem?_getD, List.getElem?_map, List.getElem?_range (by omega)]; rfl
        have a3 : ((List.range i).map row).getD j [] = row j := by rw [List.getD_eq_getElem?_getD, List.getElem?_map, List.getElem?_range (by omega)]; rfl
        rw [a3] at q
        rw [a1, a2, upd_ne nD]
        exact upd_old q hp
      · have ej : j = i := by omega
        subst ej
        have a1 : (as ++ [p]).getD j 0 = p := by rw [List.getD_eq_getElem?_getD, List.getElem?_append_right (by omega), la, Nat.sub_self]; rfl
        have a2 : ((List.range (j + 1)).map row).getD j [] = row j := by rw [List.getD_eq_getElem?_getD, List.getElem?_map, List.getElem?_range (by omega)]; rfl
        rw [a1, a2, upd_ne npD]
        exact upd_same
    · rw [upd_ne (ne_of_none e hD)]
      exact upd_old (T.sm b o e) hp
    · rw [← List.cons_append]
      refine List.nodup_append.mpr ⟨T.nd, by simp, fun a ha b hb => ?_⟩
      have eb : b = p := by simpa using hb
      subst eb
      rcases List.mem_cons.mp ha with z | z
      · rw [z]; exact npD.symm
      · obtain ⟨j, hj, ej⟩ := List.getElem_of_mem z
        have q := T.kp.at_ j (by rw [← T.kp.len]; exact hj)
        rw [List.getD_eq_getElem?_getD, List.getElem?_eq_getElem hj] at q
        rw [← ej]
        exact ne_of_none q hp
    · rcases List.mem_cons.mp hb with z | z
      · rw [z]; exact hD
      · rcases List.mem_append.mp z with y | y
        · exact T.fr b (List.mem_cons_of_mem _ y)
        · have eb : b = p := by simpa using y
          rw [eb]
          exact T.sm.free hp
  · have e : i = n := by omega
    subst e
    exact .inl ⟨hst _ T.sm, hd as _ T⟩
theorem itr_same {lo : Int} {n : Nat} {H1 : Hp} : (∀ i H', i < n → Same H1 H' → (Itr lo n).go i H' ∧ ∀ y H2, (Itr lo n).yld i H' y H2 → y = V.int (lo + (i : Nat)) ∧ H2 = H') ∧ ∀ H', Same H1 H' → (Itr lo n).stop n H' :=
  ⟨fun i H' hi _ => ⟨hi, fun y H2 h => ⟨h.2, h.1⟩⟩, fun H' _ => Nat.le_refl _⟩
/-! ### tables that are read -/
structure TabL (K : PySem.W.Frag) (H : Hp) (a : Addr) (as : List Addr) (rows : List (List Int)) : Prop where
  ls : SqL K H a (as.map V.ref)
  len : as.length = rows.length
  at_ : ∀ i, i < rows.length → SqL K H (as.getD i 0) ((rows.getD i []).map V.int)
theorem TabL.same {K : PySem.W.Frag} {H H' : Hp} {a : Addr} {as : List Addr} {rows : List (List Int)} (t : TabL K H a as rows) (s : Same H H') : TabL K H' a as rows := ⟨s.seq t.ls, t.len, fun i hi => s.seq (t.at_ i hi)⟩
theorem KeptAt.tab {K : PySem.W.Frag} {H : Hp} {a : Addr} {as : List Addr} {rows : List (List Int)} (k : KeptAt H a as rows) : TabL K H a as rows := ⟨.of k.ls, k.len, fun i hi => .of (k.at_ i hi)⟩
theorem TabL.ix {K : PySem.W.Frag} {H : Hp} {a : Addr} {as : List Addr} {rows : List (List Int)} (t : TabL K H a as rows) {i : Int} (h0 : 0 ≤ i) (h1 : i < (rows.length : Int)) : atI (as.map V.ref) i = some (.ref (as.getD i.toNat 0)) := by
  have e : i = ((i.toNat : Nat) : Int) := by omega
  have := atI_nat (getD_map_ref (ls := as) (i := i.toNat) (by rw [t.len]; omega))
  rw [← e] at this
  exact this
theorem TabL.rowZ {K : PySem.W.Frag} {H : Hp} {a : Addr} {as : List Addr} {rows : List (List Int)} (t : TabL K H a as rows) {i : Int} (h0 : 0 ≤ i) (h1 : i < (rows.length : Int)) : SqL K H (as.getD i.toNat 0) ((rows.getD i.toNat []).map V.int) := t.at_ _ (by omega)
theorem ref_at {as : List Addr} {i : Nat} {y : V} (h : (as.map V.ref)[i]? = some y) : i < as.length ∧ y = .ref (as.getD i 0) := by
  have hi : i < as.length := by
    have := (List.getElem?_eq_some_iff.mp h).1
    simpa using this
  rw [getD_map_ref hi] at h
  exact ⟨hi, (Option.some.inj h).symm⟩
/-! ### hidden choices -/
structure Full (ns : List Int) : Prop where
  g : GoodC ns
  one : ∀ c ∈ ns, 1 ≤ c
theorem Full.pos {ns : List Int} (f : Full ns) {k : Nat} (h : k < ns.length) : 0 < ns.getD k 0 := by have := f.one _ (Np.getD_mem h); omega
structure Tabs (prior : List Int) (given back : List (List Int)) : Prop where
  p : Full prior
  g0 : given.length = prior.length
  gr : ∀ i, i < given.length → Full (given.getD i []) ∧ (given.getD i []).length = back.length
  br : ∀ i, i < back.length → Full (back.getD i []) ∧ (back.getD i []).length = prior.length
def layH (prior : List Int) (given back : List (List Int)) (s : Nat) (p : Int) : Int :=
  layN prior (takeS (back.getD s []) p) (layN (given.getD (takeS (back.getD s []) p) []) s (takeP (back.getD s []) p))
def takeHS (prior : List Int) (given : List (List Int)) (p : Int) : Nat := takeS (given.getD (takeS prior p) []) (takeP prior p)
def takeHP (prior : List Int) (given back : List (List Int)) (p : Int) : Int :=
  layN (back.getD (takeHS prior given p) []) (takeS prior p) (takeP (given.getD (takeS prior p) []) (takeP prior p))
section
variable {prior : List Int} {given back : List (List Int)}
theorem Tabs.hid (t : Tabs prior given back) {s : Nat} (hs : s < back.length) (p : Int) : takeS (back.getD s []) p < prior.length := by
  have := (take_ok (t.br s hs).1.g p).1
  rw [(t.br s hs).2] at this
  exact this
theorem Tabs.hidP (t : Tabs prior given back) (p : Int) : takeS prior p < given.length := by rw [t.g0]; exact (take_ok t.p.g p).1
theorem Tabs.sg (t : Tabs prior given back) (p : Int) : takeHS prior given p < back.length := by
  have h := t.hidP p
  have := (take_ok (t.gr _ h).1.g (takeP prior p)).1
  rw [(t.gr _ h).2] at this
  exact this
theorem Tabs.lay_nn (t : Tabs prior given back) {s : Nat} (hs : s < back.length) {p : Int} (hp : 0 ≤ p) : 0 ≤ layH prior given back s p := by
  have h := t.hid hs p
  have h' : takeS (back.getD s []) p < given.length := by rw [t.g0]; exact h
  have g := t.gr _ h'
  exact Np.lay_nn t.p.g h (t.p.pos h) (Np.lay_nn g.1.g (by rw [g.2]; exact hs) (g.1.pos (by rw [g.2]; exact hs)) (take_nn (t.br s hs).1.g hp))
theorem Tabs.take_nn (t : Tabs prior given back) {p : Int} (hp : 0 ≤ p) : 0 ≤ takeHP prior given back p := by
  have h := t.hidP p
  have b := t.br _ (t.sg p)
  have hb : takeS prior p < (back.getD (takeHS prior given p) []).length := by rw [b.2, ← t.g0]; exact h
  exact Np.lay_nn b.1.g hb (b.1.pos hb) (Np.take_nn (t.gr _ h).1.g (Np.take_nn t.p.g hp))
theorem Tabs.take_lay (t : Tabs prior given back) {s : Nat} (hs : s < back.length) (p : Int) : takeHS prior given (layH prior given back s p) = s ∧ takeHP prior given back (layH prior given back s p) = p := by
  have h := t.hid hs p
  have h' : takeS (back.getD s []) p < given.length := by rw [t.g0]; exact h
  have g := t.gr _ h'
  have hs' : s < (given.getD (takeS (back.getD s []) p) []).length := by rw [g.2]; exact hs
  obtain ⟨a1, a2⟩ := Np.take_lay t.p.g h (t.p.pos h) (layN (given.getD (takeS (back.getD s []) p) []) s (takeP (back.getD s []) p))
  obtain ⟨b1, b2⟩ := Np.take_lay g.1.g hs' (g.1.pos hs') (takeP (back.getD s []) p)
  have e1 : takeHS prior given (layH prior given back s p) = s := by
    unfold takeHS layH
    rw [a1, a2, b1]
  refine ⟨e1, ?_⟩
  unfold takeHP
  rw [e1]
  unfold layH
  rw [a1, a2, b2, lay_take (t.br s hs).1.g]
theorem Tabs.lay_take (t : Tabs prior given back) (p : Int) : layH prior given back (takeHS prior given p) (takeHP prior given back p) = p := by
  have h := t.hidP p
  have hs := t.sg p
  have b := t.br _ hs
  have hb : takeS prior p < (back.getD (takeHS prior given p) []).length := by rw [b.2, ← t.g0]; exact h
  obtain ⟨a1, a2⟩ := Np.take_lay b.1.g hb (b.1.pos hb) (takeP (given.getD (takeS prior p) []) (takeP prior p))
  unfold layH takeHP
  rw [a1, a2]
  have e := Np.lay_take (t.gr _ h).1.g (takeP prior p)
  unfold takeHS
  rw [e, Np.lay_take t.p.g]
end
def lawFull (c m t : Int) : List Int := (List.range m.toNat).map fun k => 1 + draw c ((k : Nat) : Int) t
def fullV (c t : Int) : V → V
  | .int k => .int (1 + draw c k t)
  | y => y
theorem full_comp (c m t : Int) : ((List.range m.toNat).map fun k => V.int (0 + (k : Nat))).map (fullV c t) = (lawFull c m t).map V.int := by
  unfold lawFull
  rw [List.map_map, List.map_map]
  refine List.map_congr_left fun k _ => ?_
  show V.int (1 + draw c (0 + (k : Nat)) t) = V.int (1 + draw c (k : Nat) t)
  rw [Int.zero_add]
theorem full_len (c m t : Int) : (lawFull c m t).length = m.toNat := by unfold lawFull; simp
theorem full_sum : ∀ {ns : List Int}, (∀ c ∈ ns, 1 ≤ c) → (ns.length : Int) ≤ ns.sum
  | [], _ => by simp
  | c :: r, h => by
    have h1 := h c List.mem_cons_self
    have h2 := full_sum (ns := r) fun x hx => h x (List.mem_cons_of_mem _ hx)
    rw [List.sum_cons, List.length_cons]
    omega
theorem full_ok (c : Int) {m t : Int} (h0 : 1 ≤ m) (h1 : m ≤ 100) (t0 : 1 ≤ t) (t1 : t ≤ 999) : Full (lawFull c m t) := by
  have rg : ∀ x ∈ lawFull c m t, 1 ≤ x ∧ x ≤ 999 := fun x hx => by
    unfold lawFull at hx
    obtain ⟨k, _, rfl⟩ := List.mem_map.mp hx
    have := draw_rng c ((k : Nat) : Int) (bound := t) (by omega)
    omega
  have hl := full_len c m t
  have hs := full_sum fun x hx => (rg x hx).1
  exact ⟨⟨by omega, by omega, fun x hx => by have := rg x hx; omega, by omega⟩, fun x hx => (rg x hx).1⟩
theorem getD_rng {α : Type} {n i : Nat} (f : Nat → List α) (h : i < n) : ((List.range n).map f).getD i [] = f i := by
  rw [List.getD_eq_getElem?_getD, List.getElem?_map, List.getElem?_range h]
  rfl
end Np

set_option Elab.async false
set_option linter.all false
set_option maxRecDepth 100000
namespace Np
open L2 PySem
/-! ### deeds that are undone -/
structure Tl where
  cs : List Int
  pr : List Int
  given : List (List Int)
  back : List (List Int)
structure Tl.Ok (D : Tl) : Prop where
  gc : GoodC D.cs
  cl : D.cs.length = 4
  tt : Tabs D.pr D.given D.back
  bl : D.back.length = 4
def mdlK (kind : Int) : Mo := if kind = 1 then .le 4 3 (ones 4) else .fo 4 2 none (ones 4) (List.replicate (4 : Int).toNat (ones 4))
theorem mdlK_good (kind : Int) : (mdlK kind).Good := by
  unfold mdlK
  by_cases h : kind = 1
  · rw [if_pos h]; exact good_le (by decide) (by decide) (by decide) (by decide)
  · rw [if_neg h]; exact good_fo (by decide) (by decide) (by decide) (by decide)
theorem mdlK_many (kind : Int) : (mdlK kind).fresh.many = 4 := by
  unfold mdlK
  by_cases h : kind = 1
  · rw [if_pos h]; rfl
  · rw [if_neg h]; rfl
theorem mdlK_pl (kind : Int) : (mdlK kind).fresh.isPl = false := by
  unfold mdlK
  by_cases h : kind = 1
  · rw [if_pos h]; rfl
  · rw [if_neg h]; rfl
def dLay (D : Tl) (kind p : Int) (row : List Int) : Int :=
  if kind = 0 then layN D.cs (row.getD 0 0).toNat p else if kind = 3 then layH D.pr D.given D.back (row.getD 0 0).toNat p else pressN (mdlK kind).fresh row p
def dTake (D : Tl) (kind p : Int) : List Int × Int :=
  if kind = 0 then ([((takeS D.cs p : Nat) : Int)], takeP D.cs p) else if kind = 3 then ([((takeHS D.pr D.given p : Nat) : Int)], takeHP D.pr D.given D.back p) else readN (mdlK kind).fresh 3 p
def DeedOk (D : Tl) (kind : Int) (row : List Int) : Prop :=
  if kind = 0 then ∃ k, row = [k] ∧ OkS D.cs k else if kind = 3 then ∃ k, row = [k] ∧ 0 ≤ k ∧ k < 4 else row.length = 3 ∧ PressOk (mdlK kind).fresh row
theorem DeedOk.len {D : Tl} {kind : Int} {row : List Int} (h : DeedOk D kind row) : row.length ≤ 3 := by
  unfold DeedOk at h
  by_cases h0 : kind = 0
  · rw [if_pos h0] at h; obtain ⟨k, rfl, _⟩ := h; simp
  rw [if_neg h0] at h
  by_cases h3 : kind = 3
  · rw [if_pos h3] at h; obtain ⟨k, rfl, _⟩ := h; simp
  rw [if_neg h3] at h
  omega
theorem lay_deed {D : Tl} (o : D.Ok) {kind p : Int} {row : List Int} (h : DeedOk D kind row) (hp : 0 ≤ p) : dTake D kind (dLay D kind p row) = (row, p) ∧ 0 ≤ dLay D kind p row := by
  unfold DeedOk at h
  unfold dTake dLay
  by_cases h0 : kind = 0
  · rw [if_pos h0] at h
    simp only [if_pos h0]
    obtain ⟨k, rfl, k0, k1, k2⟩ := h
    have e : ([k] : List Int).getD 0 0 = k := rfl
    rw [e]
    obtain ⟨e1, e2⟩ := take_lay o.gc (k := k.toNat) (by omega) k2 p
    rw [e1, e2, Int.toNat_of_nonneg k0]
    exact ⟨rfl, lay_nn o.gc (by omega) k2 hp⟩
  rw [if_neg h0] at h
  simp only [if_neg h0]
  by_cases h3 : kind = 3
  · rw [if_pos h3] at h
    simp only [if_pos h3]
    obtain ⟨k, rfl, k0, k1⟩ := h
    have e : ([k] : List Int).getD 0 0 = k := rfl
    have bl := o.bl
    rw [e]
    obtain ⟨e1, e2⟩ := o.tt.take_lay (s := k.toNat) (by omega) p
    rw [e1, e2, Int.toNat_of_nonneg k0]
    exact ⟨rfl, o.tt.lay_nn (by omega) hp⟩
  rw [if_neg h3] at h
  simp only [if_neg h3]
  have g := (mdlK_good kind).fresh
  have e := read_press h.2 g p
  rw [h.1] at e
  exact ⟨e, press_nn h.2 g hp⟩
theorem take_deed {D : Tl} (o : D.Ok) (kind : Int) {p : Int} (hp : 0 ≤ p) : dLay D kind (dTake D kind p).2 (dTake D kind p).1 = p ∧ DeedOk D kind (dTake D kind p).1 ∧ 0 ≤ (dTake D kind p).2 := by
  unfold DeedOk dTake dLay
  by_cases h0 : kind = 0
  · simp only [if_pos h0]
    have e : ([((takeS D.cs p : Nat) : Int)] : List Int).getD 0 0 = ((takeS D.cs p : Nat) : Int) := rfl
    rw [e, Int.toNat_natCast, lay_take o.gc]
    obtain ⟨a, _, _⟩ := take_ok o.gc p
    have b := take_pos o.gc p
    exact ⟨rfl, ⟨_, rfl, by omega, by omega, by rw [Int.toNat_natCast]; exact b⟩, take_nn o.gc hp⟩
  simp only [if_neg h0]
  by_cases h3 : kind = 3
  · simp only [if_pos h3]
    have e : ([((takeHS D.pr D.given p : Nat) : Int)] : List Int).getD 0 0 = ((takeHS D.pr D.given p : Nat) : Int) := rfl
    rw [e, Int.toNat_natCast, o.tt.lay_take]
    have a := o.tt.sg p
    have bl := o.bl
    exact ⟨rfl, ⟨_, rfl, by omega, by omega⟩, o.tt.take_nn hp⟩
  simp only [if_neg h3]
  obtain ⟨a, b, c⟩ := readN_ok 3 (mdlK_good kind).fresh hp
  exact ⟨c, ⟨readN_len _ _ _, a⟩, b⟩
structure Deed where
  kind : Int
  lay : Bool
  row : List Int
structure Step (D : Tl) (d : Deed) (p p' : Int) : Prop where
  k0 : 0 ≤ d.kind
  k1 : d.kind < 4
  ok : DeedOk D d.kind d.row
  st : if d.lay = true then p' = dLay D d.kind p d.row else dTake D d.kind p = (d.row, p')
/-- what was done, the newest first -/
def Chain (D : Tl) (first : Int) : List Deed → Int → Prop
  | [], p => p = first
  | d :: r, p' => ∃ p, 0 ≤ p ∧ Chain D first r p ∧ Step D d p p'
theorem Step.back {D : Tl} (o : D.Ok) {d : Deed} {p p' : Int} (s : Step D d p p') (hp : 0 ≤ p) : (d.lay = true → dTake D d.kind p' = (d.row, p)) ∧ (d.lay = false → dLay D d.kind p' d.row = p) := by
  refine ⟨fun e => ?_, fun e => ?_⟩
  · have := s.st
    rw [if_pos e] at this
    rw [this]
    exact (lay_deed o s.ok hp).1
  · have := s.st
    rw [if_neg (by rw [e]; decide)] at this
    have h := (take_deed o d.kind hp).1
    rw [this] at h
    exact h
/-! the tools in the heap -/
structure ToolsAt (K : PySem.W.Frag) (T : Cl) (H : Hp) (t : Addr) (D : Tl) : Prop where
  ok : D.Ok
  ex : ∃ ca lx fx tb pa ga ba lo fo gs bs, H t = some (.lst [.ref ca, .ref lx, .ref fx, .ref tb]) ∧ H ca = some (.lst (D.cs.map V.int)) ∧ MoAt T H lx lo (.le 4 3 (ones 4)) ∧ MoAt T H fx fo (.fo 4 2 none (ones 4) (List.replicate (4 : Int).toNat (ones 4))) ∧
    H tb = some (.lst [.ref pa, .ref ga, .ref ba]) ∧ H pa = some (.lst (D.pr.map V.int)) ∧ KeptAt H ga gs D.given ∧ KeptAt H ba bs D.back
theorem ToolsAt.same {K : PySem.W.Frag} {T : Cl} {H H' : Hp} {t : Addr} {D : Tl} (x : ToolsAt K T H t D) (s : Same H H') : ToolsAt K T H' t D := by
  obtain ⟨o, ca, lx, fx, tb, pa, ga, ba, lo, fo, gs, bs, h1, h2, h3, h4, h5, h6, h7, h8⟩ := x
  exact ⟨o, ca, lx, fx, tb, pa, ga, ba, lo, fo, gs, bs, s _ _ h1, s _ _ h2, h3.same s, h4.same s, s _ _ h5, s _ _ h6, h7.same s, h8.same s⟩
structure DeedAt (H : Hp) (dn t : Addr) (d : Deed) : Prop where
  ex : ∃ r, H t = some (.tup [.int d.kind, .bl d.lay, .ref r]) ∧ H r = some (.lst (d.row.map V.int)) ∧ r ≠ dn
structure DoneAt (H : Hp) (dn : Addr) (ts : List Addr) (ds : List Deed) : Prop where
  ls : H dn = some (.lst (ts.map V.ref))
  len : ts.length = ds.length
  at_ : ∀ i d, ds[i]? = some d → DeedAt H dn (ts.getD i 0) d
theorem DeedAt.same {H H' : Hp} {dn t : Addr} {d : Deed} (x : DeedAt H dn t d) (s : Same H H') : DeedAt H' dn t d := let ⟨r, a, b, c⟩ := x.ex; ⟨r, s _ _ a, s _ _ b, c⟩
theorem DoneAt.same {H H' : Hp} {dn : Addr} {ts : List Addr} {ds : List Deed} (x : DoneAt H dn ts ds) (s : Same H H') : DoneAt H' dn ts ds := ⟨s _ _ x.ls, x.len, fun i d e => (x.at_ i d e).same s⟩
theorem DoneAt.push {H : Hp} {dn : Addr} {ts : List Addr} {ds : List Deed} (x : DoneAt H dn ts ds) {t r : Addr} {d : Deed} (ht : H t = some (.tup [.int d.kind, .bl d.lay, .ref r])) (hr : H r = some (.lst (d.row.map V.int))) (nr : r ≠ dn) :
    DoneAt (upd H dn (.lst (ts.map V.ref ++ [.ref t]))) dn (ts ++ [t]) (ds ++ [d]) := by
  have nt : ∀ {u : Addr} {xs : List V}, H u = some (.tup xs) → u ≠ dn := fun e => ne_of e x.ls (by intro z; cases z)
  refine ⟨by rw [upd_same, List.map_append]; rfl, by simp [x.len], fun i e he => ?_⟩
  by_cases hi : i < ds.length
  · rw [List.getElem?_append_left hi] at he
    obtain ⟨r', a, b, c⟩ := (x.at_ i e he).ex
    have a1 : (ts ++ [t]).getD i 0 = ts.getD i 0 := by rw [List.getD_eq_getElem?_getD, List.getElem?_append_left (by rw [x.len]; exact hi), List.getD_eq_getElem?_getD]
    rw [a1]
    exact ⟨r', by rw [upd_ne (nt a)]; exact a, by rw [upd_ne c]; exact b, c⟩
  · rw [List.getElem?_append_right (by omega)] at he
    have ei : i - ds.length = 0 := by
      rcases Nat.lt_or_ge (i - ds.length) 1 with z | z
      · omega
      · rw [List.getElem?_eq_none (by simpa using z)] at he; cases he
    rw [ei] at he
    have ee : d = e := Option.some.inj he
    subst ee
    have a1 : (ts ++ [t]).getD i 0 = t := by rw [List.getD_eq_getElem?_getD, List.getElem?_append_right (by rw [x.len]; omega), x.len, ei]; rfl
    rw [a1]
    exact ⟨r, by rw [upd_ne (nt ht)]; exact ht, by rw [upd_ne nr]; exact hr, nr⟩
theorem deed_row (D : Tl) {kind c : Int} (n0 : ¬ kind = 0) (n3 : ¬ kind = 3) {x y z : Int} (hx : 0 ≤ x ∧ x < 4) (hy : 0 ≤ y ∧ y < 4) (hz : 0 ≤ z ∧ z < 4) : DeedOk D kind [x, y, z] := by
  unfold DeedOk
  rw [if_neg n0, if_neg n3]
  refine ⟨rfl, press_tally (mdlK_good kind).fresh (mdlK_pl kind) fun k hk => ?_⟩
  rw [mdlK_many]
  simp only [List.mem_cons, List.not_mem_nil, or_false] at hk
  rcases hk with rfl | rfl | rfl <;> assumption
end Np

set_option Elab.async false
set_option linter.all false
set_option maxRecDepth 100000
namespace L2
open PySem PySem.Spec PyProof.Rows
section
variable {X : Cx}
end
end L2
namespace Np
open L2 PySem
/-! ### streams -/
section
variable {b bd : Int} (hb : 2 ≤ b) (hd : 0 < bd)
include hb
end
section
variable {cs : List Int} {b g n : Int} {ws : List Int}
end
/-! the object -/
section
variable (b g lo n n' : Int) (kl wl : Addr)
end
end Np

set_option Elab.async false
set_option linter.all false
set_option maxRecDepth 100000
namespace L2
theorem us1 {α : Type} {P : List α → Prop} (h : ∀ a0, P [a0]) : ∀ us : List α, us.length = 1 → P us
  | [a0], _ => h a0
theorem us2 {α : Type} {P : List α → Prop} (h : ∀ a0 a1, P [a0, a1]) : ∀ us : List α, us.length = 2 → P us
  | [a0, a1], _ => h a0 a1
theorem us3 {α : Type} {P : List α → Prop} (h : ∀ a0 a1 a2, P [a0, a1, a2]) : ∀ us : List α, us.length = 3 → P us
  | [a0, a1, a2], _ => h a0 a1 a2
theorem us4 {α : Type} {P : List α → Prop} (h : ∀ a0 a1 a2 a3, P [a0, a1, a2, a3]) : ∀ us : List α, us.length = 4 → P us
  | [a0, a1, a2, a3], _ => h a0 a1 a2 a3
theorem us5 {α : Type} {P : List α → Prop} (h : ∀ a0 a1 a2 a3 a4, P [a0, a1, a2, a3, a4]) : ∀ us : List α, us.length = 5 → P us
  | [a0, a1, a2, a3, a4], _ => h a0 a1 a2 a3 a4
end L2
namespace Np
open L2 PySem
/-! ### two streams, and what is kept beside them -/
def ext (R H' : Hp) (l : List Addr) : Hp := fun b => if b ∈ l then H' b else R b
structure D11 where
  x : Addr
  kl : Addr
  wl : Addr
  s : Addr
  w : Addr
  r : Addr
  c : Addr
  cs : List Int
  b : Int
  g : Int
  n : Int
  ws : List Int
def D11.to (d : D11) (s w : Addr) (n : Int) (ws : List Int) : D11 := { d with s := s, w := w, n := n, ws := ws }
end Np

set_option maxHeartbeats 4000000
local macro_rules | `(tactic| walk_at "r") => `(tactic| repeat (first | refine ⟨_, rfl, ?_⟩ | refine ⟨_, _, rfl, rfl, ?_⟩ | refine ⟨rfl, ?_⟩ | refine ⟨⟨by first | decide | omega, by first | decide | omega⟩, ?_⟩ | refine ⟨(by show (0 : Int) < _; first | decide | omega), ?_⟩ | refine ⟨.inr ⟨by first | decide | omega, by first | decide | omega⟩, ?_⟩ | refine ⟨.inl ⟨by first | decide | omega, by first | decide | omega⟩, ?_⟩))
namespace T
open PySem L2 Np
def top (i : Nat) : Stmt := PySem.Challenge.pw_numberpile_k18_whole_deeds_undone.main.body.getD i (.Pass ⟨0, 0, 0, 0⟩)
structure GC (mg : Str → Option Value) : Prop where
  MOST_SIGNS : ∃ t, mg "MOST_SIGNS" = some (.int 100 t)
  MOST_COUNT : ∃ t, mg "MOST_COUNT" = some (.int 999 t)
  MOST_STEP : ∃ t, mg "MOST_STEP" = some (.int 9 t)
structure TF (K : PySem.W.Frag) (mg : Str → Option Value) (T : Cl) : Prop where
  mM : mg "Model" = some (.ref T.M)
  fL : ClsF K T.L
  mL : mg "Learner" = some (.ref T.L)
  kL : PySem.W.kitOne K (.ref T.L) (.ref T.M) = some true
  fF : ClsF K T.F
  mF : mg "Follower" = some (.ref T.F)
  kF : PySem.W.kitOne K (.ref T.F) (.ref T.M) = some true
  nLF : T.L ≠ T.F
  nFL : T.F ≠ T.L
def Av (T : Cl) (C : Addr) : Prop := C = T.L ∨ C = T.F
abbrev s_check_counts : Stmt := top 9
theorem sc_check_counts : FnScope ["counts", "count"] ["counts"] (defScope s_check_counts) := ⟨rfl, rfl, rfl, by decide +kernel, rfl, by decide +kernel, by decide +kernel⟩
def sp_check_counts (K : PySem.W.Frag) (T : Cl) : Sp := fun vs H Q _ => ∃ (a : Addr) (ns : List Int), vs = [.ref a] ∧ SqL K H a (ns.map V.int) ∧ GoodC ns ∧ Q .non H
theorem ok_check_counts {P : Program} {w : World} {K : PySem.W.Frag} {mg : Str → Option Value} {base : Heap} {T : Cl} (z : BI mg) (g : GC mg) (tf : TF K mg T) (D : Def K mg "check_counts" s_check_counts ["counts"]) : Cal P w K mg base 1 "check_counts" ["counts"] (sp_check_counts K T) := by
  refine D.ok sc_check_counts (fun vs H Q E h => ?_) (fun f cdv A outer s H vs Q E hr h => ?_)
  · obtain ⟨a, ns, rfl, hS, g0, q⟩ := h; rfl
  obtain ⟨a, ns, rfl, hS, g0, q⟩ := h
  refine ⟨_, (pss_cons (ps_if (pt_not (pt_chain op_le op_le pe_int (pe_callB call_len_seq rfl z.len b_len (pa_cons (pv 0) pa_nil)) (pe_gint rfl g.MOST_SIGNS))) (pss_one ps_never) pss_nil)
      (pss_cons (ps_for PassesOwn.never rfl (pi_list (pv 0)) (pg_name (i := 1) sc_check_counts.nd rfl (Or.inl rfl)) (pss_one (ps_if (pt_not (pt_chain op_le op_le pe_int (pv 1) (pe_gint rfl g.MOST_COUNT))) (pss_one ps_never) pss_nil)))
      (pss_one (ps_if (pt_cmpR op_eq (pe_callB (call_sum rfl) rfl z.sum b_sum (pa_cons (pv 0) pa_nil)) pe_int (nomark _)) (pss_one ps_never) pss_nil)))), ?_⟩
  have hl : (ns.map V.int).length = ns.length := List.length_map _
  have l0 := g0.len0
  have l1 := g0.len1
  -- the length
  refine ⟨_, rfl, a, _, rfl, .inl hS, _, _, rfl, rfl, _, rfl, ?_⟩
  refine ite2 (fun _ => ?_) (fun c => absurd (decide_eq_true (by rw [hl]; omega)) c)
  refine ⟨_, _, rfl, rfl, _, rfl, ?_⟩
  have e1 : decide (((ns.map V.int).length : Int) ≤ 100) = true := decide_eq_true (by rw [hl]; omega)
  rw [e1]
  refine iteF ?_
  -- the loop
  refine ⟨_, rfl, a, rfl, ⟨_, hS⟩, for_list (K := K) (a := a) (xs := ns.map V.int) (fun i σ H2 => ∃ v, σ = [some (.ref a), v] ∧ H2 = H) ⟨none, rfl, rfl⟩ (fun i σ H2 _ ⟨_, _, e⟩ => e ▸ hS) ?_ ?_⟩
  · rintro i y σ H2 hi ⟨v, rfl, rfl⟩
    obtain ⟨n, hn, rfl⟩ := mem_at hi
    have hr := g0.rng n hn
    refine ⟨_, rfl, _, _, rfl, rfl, _, rfl, ?_⟩
    refine ite2 (fun _ => ?_) (fun c => absurd (decide_eq_true hr.1) c)
    refine ⟨_, _, rfl, rfl, _, rfl, ?_⟩
    have e1 : decide (n ≤ 999) = true := decide_eq_true hr.2
    rw [e1]
    refine iteF ?_
    exact ⟨_, rfl, rfl⟩
  · rintro σ H2 ⟨v, rfl, rfl⟩
    refine ⟨_, rfl, a, ns, rfl, hS, rfl, _, rfl, ?_⟩
    have e1 : decide (V.int ns.sum = V.int 0) = false := decide_eq_false (fun e => by have := V.int.inj e; have := g0.pos; omega)
    rw [e1]
    refine iteF ?_
    exact ⟨_, Less.refl, q⟩
abbrev s_check_sign : Stmt := top 10
theorem sc_check_sign : FnScope ["many", "sign"] ["many", "sign"] (defScope s_check_sign) := ⟨rfl, rfl, rfl, by decide +kernel, rfl, by decide +kernel, by decide +kernel⟩
def sp_check_sign (K : PySem.W.Frag) (T : Cl) : Sp := fun vs H Q _ => ∃ (m k : Int), vs = [.int m, .int k] ∧ 0 ≤ k ∧ k < m ∧ Q .non H
theorem ok_check_sign {P : Program} {w : World} {K : PySem.W.Frag} {mg : Str → Option Value} {base : Heap} {T : Cl} (z : BI mg) (g : GC mg) (tf : TF K mg T) (D : Def K mg "check_sign" s_check_sign ["many", "sign"]) : Cal P w K mg base 1 "check_sign" ["many", "sign"] (sp_check_sign K T) := by
  refine D.ok sc_check_sign (fun vs H Q E h => ?_) (fun f cdv A outer s H vs Q E hr h => ?_)
  · obtain ⟨m, k, rfl, h0, h1, q⟩ := h; rfl
  obtain ⟨m, k, rfl, h0, h1, q⟩ := h
  refine ⟨_, (pss_one (ps_if (pt_not (pt_chain op_le op_lt pe_int (pv 1) (pv 0))) (pss_one ps_never) pss_nil)), ?_⟩
  refine ⟨_, rfl, _, _, rfl, rfl, _, rfl, ?_⟩
  refine ite2 (fun _ => ?_) (fun c => absurd (decide_eq_true h0) c)
  refine ⟨_, rfl, _, _, rfl, rfl, _, rfl, ?_⟩
  have e1 : decide (k < m) = true := decide_eq_true h1
  rw [e1]
  refine iteF ?_
  exact ⟨_, Less.refl, q⟩
abbrev s_count_of : Stmt := top 11
theorem sc_count_of : FnScope ["counts", "sign"] ["counts", "sign"] (defScope s_count_of) := ⟨rfl, rfl, rfl, by decide +kernel, rfl, by decide +kernel, by decide +kernel⟩
def sp_count_of (K : PySem.W.Frag) (T : Cl) : Sp := fun vs H Q _ => ∃ (a : Addr) (ns : List Int) (k : Int), vs = [.ref a, .int k] ∧ SqL K H a (ns.map V.int) ∧ 0 ≤ k ∧ k < (ns.length : Int) ∧ 0 < ns.getD k.toNat 0 ∧ Q (.int (ns.getD k.toNat 0)) H
theorem ok_count_of {P : Program} {w : World} {K : PySem.W.Frag} {mg : Str → Option Value} {base : Heap} {T : Cl} (z : BI mg) (g : GC mg) (tf : TF K mg T) (D : Def K mg "count_of" s_count_of ["counts", "sign"]) (C_check_sign : Cal P w K mg base 1 "check_sign" ["many", "sign"] (sp_check_sign K T)) : Cal P w K mg base 2 "count_of" ["counts", "sign"] (sp_count_of K T) := by
  refine D.ok sc_count_of (fun vs H Q E h => ?_) (fun f cdv A outer s H vs Q E hr h => ?_)
  · obtain ⟨a, ns, k, rfl, hS, h0, h1, h2, q⟩ := h; rfl
  obtain ⟨a, ns, k, rfl, hS, h0, h1, h2, q⟩ := h
  refine ⟨_, (pss_cons (ps_expr (pe_def (C_check_sign.mono (by decide)) hr rfl (pa_cons (pe_callB call_len_seq rfl z.len b_len (pa_cons (pv 0) pa_nil)) (pa_cons (pv 1) pa_nil))))
      (pss_cons (ps_if (pt_cmpR op_eq (pe_ix ix_list (pv 0) (pv 1) (fun _ _ => rfl)) pe_int (nomark _)) (pss_one ps_never) pss_nil)
      (pss_one (ps_ret (pe_ix ix_list (pv 0) (pv 1) (fun _ _ => rfl)))))), ?_⟩
  refine ⟨_, rfl, a, _, rfl, .inl hS, _, rfl, _, _, rfl, h0, by rw [List.length_map]; exact h1, ?_⟩
  refine ⟨_, rfl, _, rfl, a, _, _, _, rfl, rfl, hS, atZ h0 h1, rfl, _, rfl, ?_⟩
  refine ite2 (fun e => absurd (V.int.inj (of_decide_eq_true e)) (by omega)) (fun _ => ?_)
  exact ⟨_, rfl, _, rfl, a, _, _, _, rfl, rfl, hS, atZ h0 h1, _, Less.refl, q⟩
abbrev s_whole : Stmt := top 12
theorem sc_whole : FnScope ["counts"] ["counts"] (defScope s_whole) := ⟨rfl, rfl, rfl, by decide +kernel, rfl, by decide +kernel, by decide +kernel⟩
def sp_whole (K : PySem.W.Frag) (T : Cl) : Sp := fun vs H Q _ => ∃ (a : Addr) (ns : List Int), vs = [.ref a] ∧ SqL K H a (ns.map V.int) ∧ GoodC ns ∧ Q (.int ns.sum) H
theorem ok_whole {P : Program} {w : World} {K : PySem.W.Frag} {mg : Str → Option Value} {base : Heap} {T : Cl} (z : BI mg) (g : GC mg) (tf : TF K mg T) (D : Def K mg "whole" s_whole ["counts"]) (C_check_counts : Cal P w K mg base 1 "check_counts" ["counts"] (sp_check_counts K T)) : Cal P w K mg base 2 "whole" ["counts"] (sp_whole K T) := by
  refine D.ok sc_whole (fun vs H Q E h => ?_) (fun f cdv A outer s H vs Q E hr h => ?_)
  · obtain ⟨a, ns, rfl, hS, g0, q⟩ := h; rfl
  obtain ⟨a, ns, rfl, hS, g0, q⟩ := h
  refine ⟨_, (pss_cons (ps_expr (pe_def (C_check_counts.mono (by decide)) hr rfl (pa_cons (pv 0) pa_nil)))
      (pss_one (ps_ret (pe_callB (call_sum rfl) rfl z.sum b_sum (pa_cons (pv 0) pa_nil))))), ?_⟩
  refine ⟨_, rfl, a, ns, rfl, hS, g0, ?_⟩
  refine ⟨_, rfl, a, ns, rfl, hS, ?_⟩
  exact ⟨_, Less.refl, q⟩
abbrev s_first_of : Stmt := top 13
theorem sc_first_of : FnScope ["counts", "sign"] ["counts", "sign"] (defScope s_first_of) := ⟨rfl, rfl, rfl, by decide +kernel, rfl, by decide +kernel, by decide +kernel⟩
def sp_first_of (K : PySem.W.Frag) (T : Cl) : Sp := fun vs H Q _ => ∃ (a : Addr) (ns : List Int) (k : Int), vs = [.ref a, .int k] ∧ SqL K H a (ns.map V.int) ∧ GoodC ns ∧ 0 ≤ k ∧ k < (ns.length : Int) ∧ Q (.int (first ns k.toNat)) H
theorem ok_first_of {P : Program} {w : World} {K : PySem.W.Frag} {mg : Str → Option Value} {base : Heap} {T : Cl} (z : BI mg) (g : GC mg) (tf : TF K mg T) (D : Def K mg "first_of" s_first_of ["counts", "sign"]) (C_check_counts : Cal P w K mg base 1 "check_counts" ["counts"] (sp_check_counts K T)) (C_check_sign : Cal P w K mg base 1 "check_sign" ["many", "sign"] (sp_check_sign K T)) : Cal P w K mg base 2 "first_of" ["counts", "sign"] (sp_first_of K T) := by
  refine D.ok sc_first_of (fun vs H Q E h => ?_) (fun f cdv A outer s H vs Q E hr h => ?_)
  · obtain ⟨a, ns, k, rfl, hS, g0, h0, h1, q⟩ := h; rfl
  obtain ⟨a, ns, k, rfl, hS, g0, h0, h1, q⟩ := h
  refine ⟨_, (pss_cons (ps_expr (pe_def (C_check_counts.mono (by decide)) hr rfl (pa_cons (pv 0) pa_nil)))
      (pss_cons (ps_expr (pe_def (C_check_sign.mono (by decide)) hr rfl (pa_cons (pe_callB call_len_seq rfl z.len b_len (pa_cons (pv 0) pa_nil)) (pa_cons (pv 1) pa_nil))))
      (pss_one (ps_ret (pe_callB (call_sum rfl) rfl z.sum b_sum (pa_cons (pe_slice sl_list (pv 0) po_none (po_some (pv 1))) pa_nil)))))), ?_⟩
  refine ⟨_, rfl, a, ns, rfl, hS, g0, ?_⟩
  refine ⟨_, rfl, a, _, rfl, .inl hS, _, rfl, _, _, rfl, h0, by rw [List.length_map]; exact h1, ?_⟩
  refine ⟨_, rfl, _, rfl, k, rfl, a, _, rfl, hS, fun p hp => ?_⟩
  rw [cut_take _ h0]
  exact ⟨p, _, rfl, SqL.of upd_same, _, Less.same (same_up hp), q⟩
abbrev s_sign_of : Stmt := top 14
theorem sc_sign_of : FnScope ["counts", "slot", "total", "sign", "end"] ["counts", "slot"] (defScope s_sign_of) := ⟨rfl, rfl, rfl, by decide +kernel, rfl, by decide +kernel, by decide +kernel⟩
def sp_sign_of (K : PySem.W.Frag) (T : Cl) : Sp := fun vs H Q _ => ∃ (a : Addr) (ns : List Int) (s : Int), vs = [.ref a, .int s] ∧ SqL K H a (ns.map V.int) ∧ GoodC ns ∧ 0 ≤ s ∧ s < ns.sum ∧ Q (.int ((signOf ns s : Nat) : Int)) H
theorem ok_sign_of {P : Program} {w : World} {K : PySem.W.Frag} {mg : Str → Option Value} {base : Heap} {T : Cl} (z : BI mg) (g : GC mg) (tf : TF K mg T) (D : Def K mg "sign_of" s_sign_of ["counts", "slot"]) (C_whole : Cal P w K mg base 2 "whole" ["counts"] (sp_whole K T)) : Cal P w K mg base 3 "sign_of" ["counts", "slot"] (sp_sign_of K T) := by
  refine D.ok sc_sign_of (fun vs H Q E h => ?_) (fun f cdv A outer s H vs Q E hr h => ?_)
  · obtain ⟨a, ns, sl, rfl, hS, g0, h0, h1, q⟩ := h; rfl
  obtain ⟨a, ns, sl, rfl, hS, g0, h0, h1, q⟩ := h
  refine ⟨_, (pss_cons (ps_set (i := 2) sc_sign_of.nd rfl (Or.inl rfl) (pe_def (C_whole.mono (by decide)) hr rfl (pa_cons (pv 0) pa_nil)))
      (pss_cons (ps_if (pt_not (pt_chain op_le op_lt pe_int (pv 1) (pv 2))) (pss_one ps_never) pss_nil)
      (pss_cons (ps_set (i := 3) sc_sign_of.nd rfl (Or.inl rfl) pe_int)
      (pss_cons (ps_set (i := 4) sc_sign_of.nd rfl (Or.inl rfl) (pe_ix ix_list (pv 0) pe_int (fun _ _ => rfl)))
      (pss_cons (ps_while PassesOwn.never (pt_cmpR op_ge (pv 1) (pv 4) (nomark _)) (pss_cons (ps_aug (i := 3) sc_sign_of.nd rfl (Or.inl rfl) pe_int ip_add)
      (pss_one (ps_aug (i := 4) sc_sign_of.nd rfl (Or.inl rfl) (pe_ix ix_list (pv 0) (pv 3) (fun _ _ => rfl)) ip_add))))
      (pss_one (ps_ret (pv 3)))))))), ?_⟩
  have l0 := g0.len0
  refine ⟨_, rfl, a, ns, rfl, hS, g0, ?_⟩
  refine ⟨_, rfl, _, _, rfl, rfl, _, rfl, ?_⟩
  refine ite2 (fun _ => ?_) (fun c => absurd (decide_eq_true h0) c)
  refine ⟨_, rfl, _, _, rfl, rfl, _, rfl, ?_⟩
  have e1 : decide (sl < ns.sum) = true := decide_eq_true h1
  rw [e1]
  refine iteF ?_
  refine ⟨_, rfl, a, _, _, _, rfl, rfl, hS, atN (i := 0) (by omega), ?_⟩
  -- the loop
  refine while_by (fun σ H2 => ∃ k : Nat, σ = [some (.ref a), some (.int sl), some (.int ns.sum), some (.int (k : Int)), some (.int (first ns (k + 1)))] ∧ H2 = H ∧ k < ns.length ∧ first ns k ≤ sl)
    (fun σ _ => match σ with | [_, _, _, some (.int k), _] => ns.length - k.toNat | _ => 0) ⟨0, ?_, rfl, by omega, by rw [first_zero]; exact h0⟩ ?_ ?_
  · rw [first_succ (by omega), first_zero, Int.zero_add]
    rfl
  · rintro σ H2 ⟨k, rfl, rfl, hk, hf⟩
    refine ⟨_, rfl, _, rfl, _, _, rfl, rfl, _, rfl, ?_⟩
    refine ite2 (fun c => ?_) (fun c => ?_)
    · have c' : first ns (k + 1) ≤ sl := of_decide_eq_true c
      have hk1 : k + 1 < ns.length := by
        rcases Nat.lt_or_ge (k + 1) ns.length with z | z
        · exact z
        · have : k + 1 = ns.length := by omega
          rw [this, first_len] at c'
          omega
      refine ⟨_, rfl, _, _, rfl, rfl, ?_⟩
      refine ⟨_, rfl, _, rfl, _, rfl, a, _, _, _, rfl, rfl, hS, atN (i := k + 1) hk1, _, _, rfl, rfl, ?_⟩
      refine ⟨⟨k + 1, ?_, rfl, hk1, c'⟩, ?_⟩
      · rw [first_succ hk1]
        rfl
      · show ns.length - ((k : Int) + 1).toNat < ns.length - ((k : Int)).toNat
        omega
    · have c' : ¬ first ns (k + 1) ≤ sl := of_decide_eq_false (Bool.eq_false_iff.mpr c)
      have e := signOf_unique g0.rng hk hf (by omega)
      rw [e] at q
      exact ⟨_, rfl, _, Less.refl, q⟩
  · rintro σ H2 Q1 Q2 hq ⟨v1, e1, v2, e2, i, j, x1, x2, k, x3, h⟩
    exact ⟨v1, e1, v2, e2, i, j, x1, x2, k, x3, hq _ _ h⟩
abbrev s_check_pile : Stmt := top 16
theorem sc_check_pile : FnScope ["pile"] ["pile"] (defScope s_check_pile) := ⟨rfl, rfl, rfl, by decide +kernel, rfl, by decide +kernel, by decide +kernel⟩
def sp_check_pile (K : PySem.W.Frag) (T : Cl) : Sp := fun vs H Q _ => ∃ (p : Int), vs = [.int p] ∧ 0 ≤ p ∧ Q .non H
theorem ok_check_pile {P : Program} {w : World} {K : PySem.W.Frag} {mg : Str → Option Value} {base : Heap} {T : Cl} (z : BI mg) (g : GC mg) (tf : TF K mg T) (D : Def K mg "check_pile" s_check_pile ["pile"]) : Cal P w K mg base 1 "check_pile" ["pile"] (sp_check_pile K T) := by
  refine D.ok sc_check_pile (fun vs H Q E h => ?_) (fun f cdv A outer s H vs Q E hr h => ?_)
  · obtain ⟨p, rfl, hp, q⟩ := h; rfl
  obtain ⟨p, rfl, hp, q⟩ := h
  refine ⟨_, (pss_one (ps_if (pt_cmpR op_lt (pv 0) pe_int (nomark _)) (pss_one ps_never) pss_nil)), ?_⟩
  walk_at "r"
  refine ite2 (fun e => absurd (of_decide_eq_true e) (by omega)) (fun _ => ?_)
  exact ⟨_, Less.refl, q⟩
abbrev s_lay : Stmt := top 17
theorem sc_lay : FnScope ["pile", "counts", "sign", "total", "count"] ["pile", "counts", "sign"] (defScope s_lay) := ⟨rfl, rfl, rfl, by decide +kernel, rfl, by decide +kernel, by decide +kernel⟩
def sp_lay (K : PySem.W.Frag) (T : Cl) : Sp := fun vs H Q _ => ∃ (p : Int) (a : Addr) (ns : List Int) (k : Int), vs = [.int p, .ref a, .int k] ∧ SqL K H a (ns.map V.int) ∧ GoodC ns ∧ 0 ≤ p ∧ 0 ≤ k ∧ k < (ns.length : Int) ∧ 0 < ns.getD k.toNat 0 ∧ Q (.int (layN ns k.toNat p)) H
theorem ok_lay {P : Program} {w : World} {K : PySem.W.Frag} {mg : Str → Option Value} {base : Heap} {T : Cl} (z : BI mg) (g : GC mg) (tf : TF K mg T) (D : Def K mg "lay" s_lay ["pile", "counts", "sign"]) (C_whole : Cal P w K mg base 2 "whole" ["counts"] (sp_whole K T)) (C_check_pile : Cal P w K mg base 1 "check_pile" ["pile"] (sp_check_pile K T)) (C_count_of : Cal P w K mg base 2 "count_of" ["counts", "sign"] (sp_count_of K T)) (C_first_of : Cal P w K mg base 2 "first_of" ["counts", "sign"] (sp_first_of K T)) : Cal P w K mg base 3 "lay" ["pile", "counts", "sign"] (sp_lay K T) := by
  refine D.ok sc_lay (fun vs H Q E h => ?_) (fun f cdv A outer s H vs Q E hr h => ?_)
  · obtain ⟨p, a, ns, k, rfl, hS, g0, hp, h0, h1, h2, q⟩ := h; rfl
  obtain ⟨p, a, ns, k, rfl, hS, g0, hp, h0, h1, h2, q⟩ := h
  refine ⟨_, (pss_cons (ps_set (i := 3) sc_lay.nd rfl (Or.inl rfl) (pe_def (C_whole.mono (by decide)) hr rfl (pa_cons (pv 1) pa_nil)))
      (pss_cons (ps_expr (pe_def (C_check_pile.mono (by decide)) hr rfl (pa_cons (pv 0) pa_nil)))
      (pss_cons (ps_set (i := 4) sc_lay.nd rfl (Or.inl rfl) (pe_def (C_count_of.mono (by decide)) hr rfl (pa_cons (pv 1) (pa_cons (pv 2) pa_nil))))
      (pss_one (ps_ret (pe_op op_add (pe_op op_add (pe_op op_mul (pe_op op_fdiv (pv 0) (pv 4)) (pv 3)) (pe_def (C_first_of.mono (by decide)) hr rfl (pa_cons (pv 1) (pa_cons (pv 2) pa_nil)))) (pe_op op_mod (pv 0) (pv 4)))))))), ?_⟩
  have hc := g0.at k.toNat
  have gl := g0.le
  have gp := g0.pos
  refine ⟨_, rfl, a, ns, rfl, hS, g0, ?_⟩
  refine ⟨_, rfl, p, rfl, hp, ?_⟩
  refine ⟨_, rfl, _, rfl, a, ns, k, rfl, hS, h0, h1, h2, ?_⟩
  walk_at "r"
  refine ⟨a, ns, k, rfl, hS, g0, h0, h1, ?_⟩
  walk_at "r"
  exact ⟨_, Less.refl, q⟩
abbrev s_take : Stmt := top 18
theorem sc_take : FnScope ["pile", "counts", "total", "slot", "sign"] ["pile", "counts"] (defScope s_take) := ⟨rfl, rfl, rfl, by decide +kernel, rfl, by decide +kernel, by decide +kernel⟩
def sp_take (K : PySem.W.Frag) (T : Cl) : Sp := fun vs H Q _ => ∃ (p : Int) (a : Addr) (ns : List Int), vs = [.int p, .ref a] ∧ SqL K H a (ns.map V.int) ∧ GoodC ns ∧ 0 ≤ p ∧ ∀ t, H t = none → Q (.ref t) (upd H t (.tup [.int ((takeS ns p : Nat) : Int), .int (takeP ns p)]))
theorem ok_take {P : Program} {w : World} {K : PySem.W.Frag} {mg : Str → Option Value} {base : Heap} {T : Cl} (z : BI mg) (g : GC mg) (tf : TF K mg T) (D : Def K mg "take" s_take ["pile", "counts"]) (C_whole : Cal P w K mg base 2 "whole" ["counts"] (sp_whole K T)) (C_check_pile : Cal P w K mg base 1 "check_pile" ["pile"] (sp_check_pile K T)) (C_sign_of : Cal P w K mg base 3 "sign_of" ["counts", "slot"] (sp_sign_of K T)) (C_first_of : Cal P w K mg base 2 "first_of" ["counts", "sign"] (sp_first_of K T)) : Cal P w K mg base 4 "take" ["pile", "counts"] (sp_take K T) := by
  refine D.ok sc_take (fun vs H Q E h => ?_) (fun f cdv A outer s H vs Q E hr h => ?_)
  · obtain ⟨p, a, ns, rfl, hS, g0, hp, q⟩ := h; rfl
  obtain ⟨p, a, ns, rfl, hS, g0, hp, q⟩ := h
  refine ⟨_, (pss_cons (ps_set (i := 2) sc_take.nd rfl (Or.inl rfl) (pe_def (C_whole.mono (by decide)) hr rfl (pa_cons (pv 1) pa_nil)))
      (pss_cons (ps_expr (pe_def (C_check_pile.mono (by decide)) hr rfl (pa_cons (pv 0) pa_nil)))
      (pss_cons (ps_set (i := 3) sc_take.nd rfl (Or.inl rfl) (pe_op op_mod (pv 0) (pv 2)))
      (pss_cons (ps_set (i := 4) sc_take.nd rfl (Or.inl rfl) (pe_def (C_sign_of.mono (by decide)) hr rfl (pa_cons (pv 1) (pa_cons (pv 3) pa_nil))))
      (pss_one (ps_ret (pe_tup (pa_cons (pv 4) (pa_cons (pe_op op_sub (pe_op op_add (pe_op op_mul (pe_op op_fdiv (pv 0) (pv 2)) (pe_ix ix_list (pv 1) (pv 4) (fun _ _ => rfl))) (pv 3)) (pe_def (C_first_of.mono (by decide)) hr rfl (pa_cons (pv 1) (pa_cons (pv 4) pa_nil)))) pa_nil))))))))), ?_⟩
  have gl := g0.le
  have gp := g0.pos
  obtain ⟨k1, k2, k3⟩ := take_ok g0 p
  have m0 := Int.emod_nonneg p (show ns.sum ≠ 0 by omega)
  have m1 := Int.emod_lt_of_pos p gp
  have hc := g0.at (takeS ns p)
  refine ⟨_, rfl, a, ns, rfl, hS, g0, ?_⟩
  refine ⟨_, rfl, p, rfl, hp, ?_⟩
  walk_at "r"
  refine ⟨a, ns, p % ns.sum, rfl, hS, g0, m0, m1, ?_⟩
  have es : signOf ns (p % ns.sum) = takeS ns p := rfl
  rw [es]
  walk_at "r"
  refine ⟨a, _, _, _, rfl, rfl, hS, atN k1, ?_⟩
  walk_at "r"
  refine ⟨a, ns, _, rfl, hS, g0, by omega, by omega, ?_⟩
  rw [Int.toNat_natCast]
  refine ⟨_, _, rfl, rfl, (by show 2 ≤ sizeLine; decide), fun t ht => ?_⟩
  exact ⟨_, Less.new (same_up ht) ht upd_same rfl, q t ht⟩
abbrev s_Model_init : Stmt := inClass (top 21) 0
theorem sc_Model_init : FnScope ["self", "many"] ["self", "many"] (defScope s_Model_init) := ⟨rfl, rfl, rfl, by decide +kernel, rfl, by decide +kernel, by decide +kernel⟩
def sp_Model_init (K : PySem.W.Frag) (T : Cl) : Sp := fun vs H Q _ => ∃ (x C dx : Addr) (m : Int), vs = [.ref x, .int m] ∧ H x = some (.ins C dx []) ∧ ClsF K C ∧ 1 ≤ m ∧ m ≤ 100 ∧ Q .non (upd H x (.ins C dx [("many", .int m)]))
theorem ok_Model_init {P : Program} {w : World} {K : PySem.W.Frag} {mg : Str → Option Value} {base : Heap} {T : Cl} (z : BI mg) (g : GC mg) (tf : TF K mg T) (D : DefC K mg "Model" T.M "__init__" "Model.__init__" s_Model_init ["self", "many"]) : CalC P w K mg base 1 "Model" "__init__" ["self", "many"] (sp_Model_init K T) := by
  refine D.okH sc_Model_init (fun vs H Q E h => ?_) (fun f cdv A outer s H vs Q E hr h => ?_)
  · obtain ⟨x, C, dx, m, rfl, hx, cf, h1, h2, q⟩ := h; rfl
  obtain ⟨x, C, dx, m, rfl, hx, cf, h1, h2, q⟩ := h
  refine ⟨_, (pss_cons (ps_if (pt_not (pt_chain op_le op_le pe_int (pv 1) (pe_gint rfl g.MOST_SIGNS))) (pss_one ps_never) pss_nil)
      (pss_one (ps_fld (pv 0) (pv 1) rfl))), ?_⟩
  walk_at "r"
  refine ite2 (fun _ => ?_) (fun c => absurd (decide_eq_true h1) c)
  refine ⟨_, _, rfl, rfl, _, rfl, ?_⟩
  have e1 : decide (m ≤ 100) = true := decide_eq_true h2
  rw [e1]
  refine iteF ?_
  exact ⟨_, rfl, _, rfl, x, C, dx, [], rfl, hx, cf.cl, cf.nMany, (by show 0 < 1000; decide), q⟩
abbrev s_Learner_init : Stmt := inClass (top 22) 0
theorem sc_Learner_init : FnScope ["self", "many", "step"] ["self", "many", "step"] (defScope s_Learner_init) := ⟨rfl, rfl, rfl, by decide +kernel, rfl, by decide +kernel, by decide +kernel⟩
def sp_Learner_init (K : PySem.W.Frag) (T : Cl) : Sp := fun vs H Q _ => ∃ (x dx : Addr) (m s : Int), vs = [.ref x, .int m, .int s] ∧ H x = some (.ins T.L dx []) ∧ 1 ≤ m ∧ m ≤ 100 ∧ 1 ≤ s ∧ s ≤ 9 ∧
  ∀ l H', H l = none → LearnAt T.L H' x l m s (ones m) → (∀ b o, H b = some o → b ≠ x → H' b = some o) → Q .non H'
def sp_Learner (K : PySem.W.Frag) (T : Cl) : Sp := fun vs H Q _ => ∃ (m s : Int), vs = [.int m, .int s] ∧ 1 ≤ m ∧ m ≤ 100 ∧ 1 ≤ s ∧ s ≤ 9 ∧ ∀ x l H', H x = none → H l = none → LearnAt T.L H' x l m s (ones m) → Same H H' → Q (.ref x) H'
def sp_Learner1 (K : PySem.W.Frag) (T : Cl) : Sp := fun vs H Q _ => ∃ (m : Int), vs = [.int m] ∧ 1 ≤ m ∧ m ≤ 100 ∧ ∀ x l H', H x = none → H l = none → LearnAt T.L H' x l m 1 (ones m) → Same H H' → Q (.ref x) H'
theorem ok_Learner_init {P : Program} {w : World} {K : PySem.W.Frag} {mg : Str → Option Value} {base : Heap} {T : Cl} (z : BI mg) (g : GC mg) (tf : TF K mg T) (D : DefI K T.L "Learner.__init__" s_Learner_init ["self", "many", "step"] [.int 1]) (C_Model_init : CalC P w K mg base 1 "Model" "__init__" ["self", "many"] (sp_Model_init K T)) : CalA P w K mg base 3 "Learner" (sp_Learner K T) ∧ CalA P w K mg base 3 "Learner" (sp_Learner1 K T) := by
  refine D.ok (sp := sp_Learner_init K T) tf.mL sc_Learner_init (fun vs H Q E h => ?_) (fun f cdv A outer s H vs Q E hr h => ?_) (fun vs H Q h x dx nx ndx nd => ?_) (fun vs H Q h x dx nx ndx nd => ?_)
  · obtain ⟨x, dx, m, st, rfl, hx, h1, h2, h3, h4, q⟩ := h; rfl
  · obtain ⟨x, dx, m, st, rfl, hx, h1, h2, h3, h4, q⟩ := h
    refine ⟨_, (pss_cons (ps_expr (pe_clsm (C_Model_init.mono (by decide)) hr rfl (pa_cons (pv 0) (pa_cons (pv 1) pa_nil))))
      (pss_cons (ps_if (pt_not (pt_chain op_le op_le pe_int (pv 2) (pe_gint rfl g.MOST_STEP))) (pss_one ps_never) pss_nil)
      (pss_cons (ps_fld (pv 0) (pv 2) rfl)
      (pss_one (ps_fld (pv 0) (pe_op op_rep (pe_lst (pa_cons pe_int pa_nil)) (pv 1)) rfl))))), ?_⟩
    refine ⟨_, rfl, _, rfl, x, T.L, dx, m, rfl, hx, tf.fL, h1, h2, ?_⟩
    walk_at "r"
    refine ite2 (fun _ => ?_) (fun c => absurd (decide_eq_true h3) c)
    refine ⟨_, _, rfl, rfl, _, rfl, ?_⟩
    have e1 : decide (st ≤ 9) = true := decide_eq_true h4
    rw [e1]
    refine iteF ?_
    refine ⟨_, rfl, _, rfl, x, T.L, dx, _, rfl, upd_same, tf.fL.cl, tf.fL.nStep, (by show 1 < 1000; decide), ?_⟩
    rw [put_step, upd_upd]
    refine ⟨(by show 1 ≤ sizeLine; decide), fun t ht => ?_⟩
    have ntx : t ≠ x := fun z => by subst z; rw [upd_same] at ht; cases ht
    have ht' : H t = none := by rw [upd_ne ntx] at ht; exact ht
    refine ⟨_, rfl, t, m, _, rfl, rfl, upd_same, by omega, by omega, szl (by show 1 * m.toNat ≤ 1000; omega), fun l hl => ?_⟩
    rw [flat_ones]
    have nlt : l ≠ t := fun z => by subst z; rw [upd_same] at hl; cases hl
    rw [upd_ne nlt] at hl
    have nlx : l ≠ x := fun z => by subst z; rw [upd_same] at hl; cases hl
    have hl' : H l = none := by rw [upd_ne nlx] at hl; exact hl
    refine ⟨_, rfl, x, T.L, dx, _, rfl, (by rw [upd_ne nlx.symm, upd_ne ntx.symm, upd_same]), tf.fL.cl, tf.fL.nLearnt, (by show 2 < 1000; decide), ?_⟩
    rw [put_learnt]
    refine q l _ hl' ⟨⟨dx, upd_same⟩, ?_⟩ fun b o e nb => ?_
    · rw [upd_ne nlx, upd_same]
      rfl
    · rw [upd_ne nb, upd_ne (ne_of_none e hl'), upd_ne (ne_of_none e ht'), upd_ne nb]
      exact e
  · obtain ⟨m, st, rfl, h1, h2, h3, h4, q⟩ := h
    exact ⟨x, dx, m, st, rfl, upd_same, h1, h2, h3, h4, fun l H' hl pa fr => ⟨rfl, q x l H' nx (mk_free hl) pa (mk_same nx ndx fr)⟩⟩
  · obtain ⟨m, rfl, h1, h2, q⟩ := h
    exact ⟨x, dx, m, 1, rfl, upd_same, h1, h2, by decide, by decide, fun l H' hl pa fr => ⟨rfl, q x l H' nx (mk_free hl) pa (mk_same nx ndx fr)⟩⟩
abbrev s_Learner_counts : Stmt := inClass (top 22) 1
theorem sc_Learner_counts : FnScope ["self"] ["self"] (defScope s_Learner_counts) := ⟨rfl, rfl, rfl, by decide +kernel, rfl, by decide +kernel, by decide +kernel⟩
def sp_Learner_counts (K : PySem.W.Frag) (T : Cl) : Sp := fun vs H Q _ => ∃ (x l : Addr) (m s : Int) (t : List Int), vs = [.ref x] ∧ LearnAt T.L H x l m s t ∧ ∀ p, H p = none → Q (.ref p) (upd H p (.lst (t.map V.int)))
theorem ok_Learner_counts {P : Program} {w : World} {K : PySem.W.Frag} {mg : Str → Option Value} {base : Heap} {T : Cl} (z : BI mg) (g : GC mg) (tf : TF K mg T) (D : DefM K T.L "counts" "Learner.counts" s_Learner_counts ["self"]) : CalM P w K mg base 1 T.L "counts" ["self"] (sp_Learner_counts K T) := by
  refine D.ok sc_Learner_counts (fun vs H Q E h => ?_) (fun f cdv A outer s H vs Q E hr h => ?_)
  · obtain ⟨x, l, m, st, t, rfl, pa, q⟩ := h; rfl
  obtain ⟨x, l, m, st, t, rfl, pa, q⟩ := h
  refine ⟨_, (pss_one (ps_ret (pe_callTy call_list_of rfl z.list b_list (pa_cons (pe_fld (pv 0) rfl) pa_nil)))), ?_⟩
  obtain ⟨⟨dx, hx⟩, hl⟩ := pa
  refine ⟨_, rfl, x, T.L, dx, _, _, rfl, hx, tf.fL.cl, tf.fL.nLearnt, lL_learnt _ _ _, l, _, rfl, .inl (SqL.of hl), fun p hp => ?_⟩
  exact ⟨_, Less.new (same_up hp) hp upd_same rfl, q p hp⟩
abbrev s_Learner_see : Stmt := inClass (top 22) 2
theorem sc_Learner_see : FnScope ["self", "sign"] ["self", "sign"] (defScope s_Learner_see) := ⟨rfl, rfl, rfl, by decide +kernel, rfl, by decide +kernel, by decide +kernel⟩
def sp_Learner_see (K : PySem.W.Frag) (T : Cl) : Sp := fun vs H Q _ => ∃ (x l : Addr) (m s : Int) (t : List Int) (k : Int), vs = [.ref x, .int k] ∧ LearnAt T.L H x l m s t ∧ TallyOk t m ∧ 1 ≤ s ∧ s ≤ 9 ∧ m ≤ 100 ∧ 0 ≤ k ∧ k < m ∧
  ∀ l' H', (l' = l ∨ H l' = none) → LearnAt T.L H' x l' m s (seen t k.toNat s) → (∀ b o, H b = some o → b ≠ x → b ≠ l → H' b = some o) → Q .non H'
theorem ok_Learner_see {P : Program} {w : World} {K : PySem.W.Frag} {mg : Str → Option Value} {base : Heap} {T : Cl} (z : BI mg) (g : GC mg) (tf : TF K mg T) (D : DefM K T.L "see" "Learner.see" s_Learner_see ["self", "sign"]) (C_check_sign : Cal P w K mg base 1 "check_sign" ["many", "sign"] (sp_check_sign K T)) : CalM P w K mg base 2 T.L "see" ["self", "sign"] (sp_Learner_see K T) := by
  refine D.okH sc_Learner_see (fun vs H Q E h => ?_) (fun f cdv A outer s H vs Q E hr h => ?_)
  · obtain ⟨x, l, m, st, t, k, rfl, pa, tk, s1, s2, hm, h0, h1, q⟩ := h; rfl
  obtain ⟨x, l, m, st, t, k, rfl, pa, tk, s1, s2, hm, h0, h1, q⟩ := h
  refine ⟨_, (pss_cons (ps_expr (pe_def (C_check_sign.mono (by decide)) hr rfl (pa_cons (pe_fld (pv 0) rfl) (pa_cons (pv 1) pa_nil))))
      (pss_cons (ps_augS (pe_fld (pv 0) rfl) (pv 1) get_list (pe_fld (pv 0) rfl) ip_add set_list)
      (pss_one (ps_if (pt_cmpR op_gt (pe_ix ix_list (pe_fld (pv 0) rfl) (pv 1) (fun _ _ => rfl)) (pe_gint rfl g.MOST_COUNT) (nomark _)) (pss_one (ps_fld (pv 0) (pe_comp (caps := []) rfl (pi_list (pe_fld (pv 0) rfl)) ⟨rfl, by decide +kernel, by decide +kernel, rfl⟩ trivial rfl (by decide +kernel) (fun _ _ _ _ => pts_nil) (fun _ _ _ _ => (pe_op op_fdiv (pe_op op_add (pv 0) pe_int) pe_int))) rfl)) pss_nil)))), ?_⟩
  have nxl := pa.ne
  obtain ⟨⟨dx, hx⟩, hl⟩ := pa
  have tl := tk.len
  have el : (t.map V.int).length = t.length := List.length_map _
  refine ⟨_, rfl, x, T.L, dx, _, _, rfl, hx, tf.fL.cl, tf.fL.nMany, lL_many _ _ _, _, rfl, _, _, rfl, h0, h1, ?_⟩
  refine ⟨_, rfl, x, T.L, dx, _, _, rfl, hx, tf.fL.cl, tf.fL.nLearnt, lL_learnt _ _ _, _, rfl, l, _, _, _, rfl, rfl, SqL.of hl, atZ h0 (by omega), ?_⟩
  refine ⟨_, rfl, x, T.L, dx, _, _, rfl, hx, tf.fL.cl, tf.fL.nStep, lL_step _ _ _, _, _, rfl, rfl, l, _, _, _, rfl, rfl, hl, ixZ h0 (by omega), ?_⟩
  rw [map_set]
  have hx2 : (upd H l (.lst ((t.set k.toNat (t.getD k.toNat 0 + st)).map V.int))) x = some (.ins T.L dx (fldL m st l)) := by rw [upd_ne nxl]; exact hx
  have hl2 : (upd H l (.lst ((t.set k.toNat (t.getD k.toNat 0 + st)).map V.int))) l = some (.lst ((t.set k.toNat (t.getD k.toNat 0 + st)).map V.int)) := upd_same
  have fr2 : ∀ b o, H b = some o → b ≠ x → b ≠ l → (upd H l (.lst ((t.set k.toNat (t.getD k.toNat 0 + st)).map V.int))) b = some o := fun b o e _ nb => by rw [upd_ne nb]; exact e
  have fe2 : ∀ b, (upd H l (.lst ((t.set k.toNat (t.getD k.toNat 0 + st)).map V.int))) b = none → H b = none := fun b e => by
    by_cases z : b = l
    · subst z; rw [upd_same] at e; cases e
    · rw [upd_ne z] at e; exact e
  generalize upd H l (.lst ((t.set k.toNat (t.getD k.toNat 0 + st)).map V.int)) = H2 at hx2 hl2 fr2 fe2 ⊢
  have eg : (t.set k.toNat (t.getD k.toNat 0 + st)).getD k.toNat 0 = t.getD k.toNat 0 + st := by
    rw [List.getD_eq_getElem?_getD, List.getElem?_set_self (by omega)]
    rfl
  refine ⟨_, rfl, x, T.L, dx, _, _, rfl, hx2, tf.fL.cl, tf.fL.nLearnt, lL_learnt _ _ _, _, rfl, l, _, _, _, rfl, rfl, SqL.of hl2, atZ h0 (by rw [List.length_set]; omega), ?_⟩
  rw [eg]
  refine ⟨_, _, rfl, rfl, _, rfl, ?_⟩
  refine ite2 (fun c => ?_) (fun c => ?_)
  · have c' : 999 < t.getD k.toNat 0 + st := of_decide_eq_true c
    have es : seen t k.toNat st = halve (t.set k.toNat (t.getD k.toNat 0 + st)) := by unfold seen; rw [if_pos c']
    refine ⟨_, rfl, x, T.L, dx, _, _, rfl, hx2, tf.fL.cl, tf.fL.nLearnt, lL_learnt _ _ _, l, rfl, ⟨_, SqL.of hl2⟩, fun D hD => ?_⟩
    have wk := itl_walk (SqL.of (K := K) hl2) hD
    refine comp_map halfV (by rw [List.length_map, List.length_set]; exact szl (by omega)) wk.1 wk.2 ?_ ?_
    · rintro y hy ys R r
      obtain ⟨n, _, rfl⟩ := List.mem_map.mp hy
      refine ⟨_, rfl, _, _, rfl, rfl, _, _, rfl, rfl, ⟨by decide, by decide⟩, ?_⟩
      exact r
    rw [half_map]
    refine ⟨_, rfl, x, T.L, dx, _, rfl, upd_old hx2 hD, tf.fL.cl, tf.fL.nLearnt, (by show 3 < 1000; decide), ?_⟩
    rw [put_learnt']
    have nDx : D ≠ x := fun z => by rw [z, hx2] at hD; cases hD
    refine q D _ (.inr (fe2 D hD)) ⟨⟨dx, upd_same⟩, ?_⟩ fun b o e n1 n2 => ?_
    · rw [upd_ne nDx, upd_same, es]
    · rw [upd_ne n1, upd_ne (ne_of_none (fr2 b o e n1 n2) hD)]
      exact fr2 b o e n1 n2
  · have c' : ¬ 999 < t.getD k.toNat 0 + st := of_decide_eq_false (Bool.eq_false_iff.mpr c)
    have es : seen t k.toNat st = t.set k.toNat (t.getD k.toNat 0 + st) := by unfold seen; rw [if_neg c']
    exact q l H2 (.inl rfl) ⟨⟨dx, hx2⟩, by rw [es]; exact hl2⟩ fr2
abbrev s_Learner_fresh : Stmt := inClass (top 22) 3
theorem sc_Learner_fresh : FnScope ["self"] ["self"] (defScope s_Learner_fresh) := ⟨rfl, rfl, rfl, by decide +kernel, rfl, by decide +kernel, by decide +kernel⟩
def sp_Learner_fresh (K : PySem.W.Frag) (T : Cl) : Sp := fun vs H Q _ => ∃ (x l : Addr) (m s : Int) (t : List Int), vs = [.ref x] ∧ LearnAt T.L H x l m s t ∧ 1 ≤ m ∧ m ≤ 100 ∧ 1 ≤ s ∧ s ≤ 9 ∧ ∀ x' l' H', H x' = none → H l' = none → LearnAt T.L H' x' l' m s (ones m) → Same H H' → Q (.ref x') H'
theorem ok_Learner_fresh {P : Program} {w : World} {K : PySem.W.Frag} {mg : Str → Option Value} {base : Heap} {T : Cl} (z : BI mg) (g : GC mg) (tf : TF K mg T) (D : DefM K T.L "fresh" "Learner.fresh" s_Learner_fresh ["self"]) (C_Learner : CalA P w K mg base 3 "Learner" (sp_Learner K T)) : CalM P w K mg base 4 T.L "fresh" ["self"] (sp_Learner_fresh K T) := by
  refine D.okH sc_Learner_fresh (fun vs H Q E h => ?_) (fun f cdv A outer s H vs Q E hr h => ?_)
  · obtain ⟨x, l, m, st, t, rfl, pa, h1, h2, h3, h4, q⟩ := h; rfl
  obtain ⟨x, l, m, st, t, rfl, pa, h1, h2, h3, h4, q⟩ := h
  refine ⟨_, (pss_one (ps_ret (pe_cal (C_Learner.mono (by decide)) hr rfl (pa_cons (pe_fld (pv 0) rfl) (pa_cons (pe_fld (pv 0) rfl) pa_nil))))), ?_⟩
  obtain ⟨⟨dx, hx⟩, hl⟩ := pa
  refine ⟨_, rfl, x, T.L, dx, _, _, rfl, hx, tf.fL.cl, tf.fL.nMany, lL_many _ _ _, ?_⟩
  refine ⟨_, rfl, x, T.L, dx, _, _, rfl, hx, tf.fL.cl, tf.fL.nStep, lL_step _ _ _, ?_⟩
  exact ⟨m, st, rfl, h1, h2, h3, h4, q⟩
abbrev s_Follower_init : Stmt := inClass (top 23) 0
theorem sc_Follower_init : FnScope ["self", "many", "step"] ["self", "many", "step"] (defScope s_Follower_init) := ⟨rfl, rfl, rfl, by decide +kernel, rfl, by decide +kernel, by decide +kernel⟩
def sp_Follower_init (K : PySem.W.Frag) (T : Cl) : Sp := fun vs H Q _ => ∃ (x dx : Addr) (m s : Int), vs = [.ref x, .int m, .int s] ∧ H x = some (.ins T.F dx []) ∧ 1 ≤ m ∧ m ≤ 100 ∧ 1 ≤ s ∧ s ≤ 9 ∧
  ∀ bh l0 k0 ls ks H', (∀ b ∈ bh :: l0 :: k0 :: (ls ++ ks), H b = none) → FollowAt T H' x bh l0 k0 ls ks m s none (ones m) (List.replicate m.toNat (ones m)) → (∀ b o, H b = some o → b ≠ x → H' b = some o) → Q .non H'
def sp_Follower (K : PySem.W.Frag) (T : Cl) : Sp := fun vs H Q _ => ∃ (m s : Int), vs = [.int m, .int s] ∧ 1 ≤ m ∧ m ≤ 100 ∧ 1 ≤ s ∧ s ≤ 9 ∧ ∀ x own H', MoAt T H' x own (.fo m s none (ones m) (List.replicate m.toNat (ones m))) → (∀ b ∈ own, H b = none) → Same H H' → Q (.ref x) H'
def sp_Follower1 (K : PySem.W.Frag) (T : Cl) : Sp := fun vs H Q _ => ∃ (m : Int), vs = [.int m] ∧ 1 ≤ m ∧ m ≤ 100 ∧ ∀ x own H', MoAt T H' x own (.fo m 1 none (ones m) (List.replicate m.toNat (ones m))) → (∀ b ∈ own, H b = none) → Same H H' → Q (.ref x) H'
theorem ok_Follower_init {P : Program} {w : World} {K : PySem.W.Frag} {mg : Str → Option Value} {base : Heap} {T : Cl} (z : BI mg) (g : GC mg) (tf : TF K mg T) (D : DefI K T.F "Follower.__init__" s_Follower_init ["self", "many", "step"] [.int 1]) (C_Model_init : CalC P w K mg base 1 "Model" "__init__" ["self", "many"] (sp_Model_init K T)) (C_Learner : CalA P w K mg base 3 "Learner" (sp_Learner K T)) : CalA P w K mg base 5 "Follower" (sp_Follower K T) ∧ CalA P w K mg base 5 "Follower" (sp_Follower1 K T) := by
  refine D.ok (sp := sp_Follower_init K T) tf.mF sc_Follower_init (fun vs H Q E h => ?_) (fun f cdv A outer s H vs Q E hr h => ?_) (fun vs H Q h x dx nx ndx nd => ?_) (fun vs H Q h x dx nx ndx nd => ?_)
  · obtain ⟨x, dx, m, st, rfl, hx, h1, h2, h3, h4, q⟩ := h; rfl
  · obtain ⟨x, dx, m, st, rfl, hx, h1, h2, h3, h4, q⟩ := h
    refine ⟨_, (pss_cons (ps_expr (pe_clsm (C_Model_init.mono (by decide)) hr rfl (pa_cons (pv 0) (pa_cons (pv 1) pa_nil))))
      (pss_cons (ps_fld (pv 0) (pv 2) rfl)
      (pss_cons (ps_fld (pv 0) (pe_cal (C_Learner.mono (by decide)) hr rfl (pa_cons (pv 1) (pa_cons (pv 2) pa_nil))) rfl)
      (pss_one (ps_fld (pv 0) (pe_comp (caps := [(1, "many"), (2, "step")]) rfl (pi_range1 rfl z.range (pa_cons (pv 1) pa_nil)) ⟨rfl, by decide +kernel, by decide +kernel, rfl⟩ ⟨⟨rfl, Or.inl rfl, rfl⟩, ⟨⟨rfl, Or.inl rfl, rfl⟩, trivial⟩⟩ rfl (by decide +kernel) (fun _ _ _ _ => pts_nil) (fun _ _ _ _ => (pe_cal (C_Learner.mono (by decide)) hr rfl (pa_cons (pv 1) (pa_cons (pv 2) pa_nil))))) rfl))))), ?_⟩
    refine ⟨_, rfl, _, rfl, x, T.F, dx, m, rfl, hx, tf.fF, h1, h2, ?_⟩
    refine ⟨_, rfl, _, rfl, x, T.F, dx, _, rfl, upd_same, tf.fF.cl, tf.fF.nStep, (by show 1 < 1000; decide), ?_⟩
    rw [put_step, upd_upd]
    -- teller
    refine ⟨_, rfl, _, rfl, m, st, rfl, h1, h2, h3, h4, fun l0 k0 H1 nl0 nk0 la0 s1 => ?_⟩
    have x1 := s1 _ _ (upd_same (H := H) (a := x) (o := .ins T.F dx [("many", .int m), ("step", .int st)]))
    refine ⟨_, rfl, x, T.F, dx, _, rfl, x1, tf.fF.cl, tf.fF.nTeller, (by show 2 < 1000; decide), ?_⟩
    rw [put_teller]
    have fH : ∀ b, (upd H x (.ins T.F dx [("many", .int m), ("step", .int st)])) b = none → H b = none := fun b e => by
      by_cases z : b = x
      · rw [z, upd_same] at e; cases e
      · rw [upd_ne z] at e; exact e
    have nl0x : l0 ≠ x := fun z => by rw [z, upd_same] at nl0; cases nl0
    have nk0x : k0 ≠ x := fun z => by rw [z, upd_same] at nk0; cases nk0
    have fr1 : ∀ b o, H b = some o → b ≠ x → (upd H1 x (.ins T.F dx [("many", .int m), ("step", .int st), ("teller", .ref l0)])) b = some o := fun b o e nb => by
      rw [upd_ne nb]
      exact s1 _ _ (by rw [upd_ne nb]; exact e)
    have la1 : LearnAt T.L (upd H1 x (.ins T.F dx [("many", .int m), ("step", .int st), ("teller", .ref l0)])) l0 k0 m st (ones m) := by
      obtain ⟨⟨d, e1⟩, e2⟩ := la0
      exact ⟨⟨d, by rw [upd_ne nl0x]; exact e1⟩, by rw [upd_ne nk0x]; exact e2⟩
    have x2 : (upd H1 x (.ins T.F dx [("many", .int m), ("step", .int st), ("teller", .ref l0)])) x = some (.ins T.F dx [("many", .int m), ("step", .int st), ("teller", .ref l0)]) := upd_same
    have hn1 := fH _ nl0
    have hn2 := fH _ nk0
    have fe : ∀ b, (upd H1 x (.ins T.F dx [("many", .int m), ("step", .int st), ("teller", .ref l0)])) b = none → H b = none := fun b e => by
      by_cases z : b = x
      · rw [z, upd_same] at e; cases e
      · rw [upd_ne z] at e; exact fH b (s1.free e)
    generalize upd H1 x (.ins T.F dx [("many", .int m), ("step", .int st), ("teller", .ref l0)]) = H2 at fr1 la1 x2 fe ⊢
    -- behind
    refine ⟨_, rfl, m, rfl, by omega, by omega, fun D hD => ?_⟩
    refine comp_inv (fun i ys H3 => ∃ ls ks : List Addr, ys = ls.map V.ref ∧ H3 D = some (.lst ys) ∧ ls.length = i ∧ ks.length = i ∧ (∀ j, j < i → LearnAt T.L H3 (ls.getD j 0) (ks.getD j 0) m st (ones m)) ∧ (l0 :: ls).Nodup ∧ (k0 :: ks).Nodup ∧ (∀ b ∈ ls ++ ks, H2 b = none ∧ b ≠ D) ∧ ∀ b o, H2 b = some o → H3 b = some o) (szl (by omega))
      ⟨[], [], rfl, upd_same, rfl, rfl, fun j hj => absurd hj (Nat.not_lt_zero _), by simp, by simp, fun b hb => by simp at hb, fun b o e => upd_old e hD⟩ (fun i ys H3 ⟨ls, ks, e1, e2, e3, _⟩ => ⟨e2, by rw [e1, List.length_map]; exact e3⟩) ?_ ?_ ?_
    · rintro i ys H3 hi ⟨ls, ks, rfl, e2, e3, e4, e5, e6, e7, e8, e9⟩
      refine ⟨_, rfl, _, rfl, m, st, rfl, h1, h2, h3, h4, fun y k H4 ny nk la s4 => ⟨s4 _ _ e2, ls ++ [y], ks ++ [k], by rw [List.map_append]; rfl, upd_same, by rw [List.length_append, e3]; rfl, by rw [List.length_append, e4]; rfl, fun j hj => ?_, ?_, ?_, fun b hb => ?_, fun b o e => ?_⟩⟩
      · have nD : ∀ (b : Addr) (o : HO), H3 b = some o → b ≠ D → (upd H4 D (.lst (ls.map V.ref ++ [.ref y]))) b = some o := fun b o e n => by rw [upd_ne n]; exact s4 _ _ e
        have keep : ∀ (a c : Addr), LearnAt T.L H4 a c m st (ones m) → a ≠ D → c ≠ D → LearnAt T.L (upd H4 D (.lst (ls.map V.ref ++ [.ref y]))) a c m st (ones m) := fun a c ⟨⟨d, q1⟩, q2⟩ n1 n2 => ⟨⟨d, by rw [upd_ne n1]; exact q1⟩, by rw [upd_ne n2]; exact q2⟩
        by_cases hji : j < i
        · have a1 : (ls ++ [y]).getD j 0 = ls.getD j 0 := by rw [List.getD_eq_getElem?_getD, List.getElem?_append_left (by omega), List.getD_eq_getElem?_getD]
          have a2 : (ks ++ [k]).getD j 0 = ks.getD j 0 := by rw [List.getD_eq_getElem?_getD, List.getElem?_append_left (by omega), List.getD_eq_getElem?_getD]
          rw [a1, a2]
          exact keep _ _ ((e5 j hji).same s4) (e8 _ (List.mem_append_left _ (getD_in (by omega)))).2 (e8 _ (List.mem_append_right _ (getD_in (by omega)))).2
        · have ej : j = i := by omega
          subst ej
          have a1 : (ls ++ [y]).getD j 0 = y := by rw [List.getD_eq_getElem?_getD, List.getElem?_append_right (by omega), e3, Nat.sub_self]; rfl
          have a2 : (ks ++ [k]).getD j 0 = k := by rw [List.getD_eq_getElem?_getD, List.getElem?_append_right (by omega), e4, Nat.sub_self]; rfl
          rw [a1, a2]
          exact keep _ _ la (fun z => by rw [z, e2] at ny; cases ny) (fun z => by rw [z, e2] at nk; cases nk)
      · have q := la1
        obtain ⟨⟨d, q1⟩, _⟩ := q
        rw [← List.cons_append]
        refine List.nodup_append.mpr ⟨e6, by simp, fun a ha b hb => ?_⟩
        have eb : b = y := by simpa using hb
        subst eb
        rcases List.mem_cons.mp ha with z | z
        · rw [z]; exact ne_of_none (e9 _ _ q1) ny
        · obtain ⟨j, hj, ej⟩ := List.getElem_of_mem z
          have q2 := (e5 j (by omega)).ob
          obtain ⟨d2, q2⟩ := q2
          rw [List.getD_eq_getElem?_getD, List.getElem?_eq_getElem hj] at q2
          rw [← ej]
          exact ne_of_none q2 ny
      · rw [← List.cons_append]
        refine List.nodup_append.mpr ⟨e7, by simp, fun a ha b hb => ?_⟩
        have eb : b = k := by simpa using hb
        subst eb
        rcases List.mem_cons.mp ha with z | z
        · rw [z]; exact ne_of_none (e9 _ _ la1.ls) nk
        · obtain ⟨j, hj, ej⟩ := List.getElem_of_mem z
          have q2 := (e5 j (by omega)).ls
          have hk : j < ks.length := hj
          rw [List.getD_eq_getElem?_getD (l := ks), List.getElem?_eq_getElem hk] at q2
          rw [← ej]
          exact ne_of_none q2 nk
      · have nyD : y ≠ D := fun z => by rw [z, e2] at ny; cases ny
        have nkD : k ≠ D := fun z => by rw [z, e2] at nk; cases nk
        have fr3 : ∀ b, H3 b = none → H2 b = none := fun b e => by
          cases q : H2 b with
          | none => rfl
          | some o => rw [e9 _ _ q] at e; cases e
        simp only [List.mem_append, List.mem_singleton] at hb
        rcases hb with (z | z) | (z | z)
        · exact e8 b (List.mem_append_left _ z)
        · rw [z]; exact ⟨fr3 _ ny, nyD⟩
        · exact e8 b (List.mem_append_right _ z)
        · rw [z]; exact ⟨fr3 _ nk, nkD⟩
      · rw [upd_ne (ne_of_none e hD)]
        exact s4 _ _ (e9 _ _ e)
    · rintro σ H3 Q1 Q2 hq ⟨v1, w1, v2, w2, m', s', r1, r2, r3, r4, r5, r6⟩
      exact ⟨v1, w1, v2, w2, m', s', r1, r2, r3, r4, r5, fun a b c d e f g => hq _ _ (r6 a b c d e f g)⟩
    rintro ys H3 ⟨ls, ks, rfl, e2, e3, e4, e5, e6, e7, e8, e9⟩
    refine ⟨_, rfl, x, T.F, dx, _, rfl, e9 _ _ x2, tf.fF.cl, tf.fF.nBehind, (by show 3 < 1000; decide), ?_⟩
    rw [put_behind]
    have nDx : D ≠ x := fun z => by rw [z, x2] at hD; cases hD
    have nx3 : ∀ b, H2 b = none → b ≠ x := fun b e z => by rw [z, x2] at e; cases e
    have keepL : ∀ (a c : Addr) (t : List Int), LearnAt T.L H3 a c m st t → a ≠ x → c ≠ x → LearnAt T.L (upd H3 x (.ins T.F dx (fldF m st l0 D))) a c m st t := fun a c t ⟨⟨d, q1⟩, q2⟩ n1 n2 => ⟨⟨d, by rw [upd_ne n1]; exact q1⟩, by rw [upd_ne n2]; exact q2⟩
    have la3 : LearnAt T.L H3 l0 k0 m st (ones m) := ⟨let ⟨d, q⟩ := la1.ob; ⟨d, e9 _ _ q⟩, e9 _ _ la1.ls⟩
    refine q D l0 k0 ls ks _ (fun b hb => ?_) { ob := ⟨dx, upd_same⟩, bh_ := by rw [upd_ne nDx]; exact e2, beg := keepL _ _ _ la3 nl0x nk0x, eachL := fun j hj => ?_, l1 := e3, l2 := e4, l3 := List.length_replicate, nd1 := e6, nd2 := e7, cu := fun i hi => by cases hi } fun b o e nb => ?_
    · simp only [List.mem_cons] at hb
      rcases hb with z | z | z | z
      · rw [z]; exact fe D hD
      · rw [z]; exact hn1
      · rw [z]; exact hn2
      · exact fe b (e8 b z).1
    · have er : (List.replicate m.toNat (ones m)).getD j [] = ones m := by
        rw [List.getD_eq_getElem?_getD, List.getElem?_replicate, if_pos (by omega)]
        rfl
      rw [er]
      exact keepL _ _ _ (e5 j (by omega)) (nx3 _ (e8 _ (List.mem_append_left _ (getD_in hj))).1) (nx3 _ (e8 _ (List.mem_append_right _ (getD_in (by omega)))).1)
    · rw [upd_ne nb]
      exact e9 _ _ (fr1 b o e nb)
  · obtain ⟨m, st, rfl, h1, h2, h3, h4, q⟩ := h
    exact ⟨x, dx, m, st, rfl, upd_same, h1, h2, h3, h4, fun bh l0 k0 ls ks H' ho pa fr => ⟨rfl, q x (x :: bh :: l0 :: k0 :: (ls ++ ks)) H' ⟨bh, l0, k0, ls, ks, rfl, pa⟩ (fun b hb => by
      rcases List.mem_cons.mp hb with z | z
      · rw [z]; exact nx
      · exact mk_free (ho b z)) (mk_same nx ndx fr)⟩⟩
  · obtain ⟨m, rfl, h1, h2, q⟩ := h
    exact ⟨x, dx, m, 1, rfl, upd_same, h1, h2, by decide, by decide, fun bh l0 k0 ls ks H' ho pa fr => ⟨rfl, q x (x :: bh :: l0 :: k0 :: (ls ++ ks)) H' ⟨bh, l0, k0, ls, ks, rfl, pa⟩ (fun b hb => by
      rcases List.mem_cons.mp hb with z | z
      · rw [z]; exact nx
      · exact mk_free (ho b z)) (mk_same nx ndx fr)⟩⟩
abbrev s_Follower_counts : Stmt := inClass (top 23) 1
theorem sc_Follower_counts : FnScope ["self"] ["self"] (defScope s_Follower_counts) := ⟨rfl, rfl, rfl, by decide +kernel, rfl, by decide +kernel, by decide +kernel⟩
def sp_Follower_counts (K : PySem.W.Frag) (T : Cl) : Sp := fun vs H Q _ => ∃ (x bh l0 k0 : Addr) (ls ks : List Addr) (m s : Int) (cur : Option Nat) (b : List Int) (ts : List (List Int)), vs = [.ref x] ∧ FollowAt T H x bh l0 k0 ls ks m s cur b ts ∧ ∀ p, H p = none → Q (.ref p) (upd H p (.lst ((Mo.fo m s cur b ts).tells.map V.int)))
theorem ok_Follower_counts {P : Program} {w : World} {K : PySem.W.Frag} {mg : Str → Option Value} {base : Heap} {T : Cl} (z : BI mg) (g : GC mg) (tf : TF K mg T) (D : DefM K T.F "counts" "Follower.counts" s_Follower_counts ["self"]) (C_Learner_counts : CalM P w K mg base 1 T.L "counts" ["self"] (sp_Learner_counts K T)) : CalM P w K mg base 2 T.F "counts" ["self"] (sp_Follower_counts K T) := by
  refine D.ok sc_Follower_counts (fun vs H Q E h => ?_) (fun f cdv A outer s H vs Q E hr h => ?_)
  · obtain ⟨x, bh, l0, k0, ls, ks, m, st, cur, b0, ts, rfl, F, q⟩ := h; rfl
  obtain ⟨x, bh, l0, k0, ls, ks, m, st, cur, b0, ts, rfl, F, q⟩ := h
  refine ⟨_, (pss_one (ps_ret (pe_methD0 (Cs := fun C => C = T.L) (spm := fun _ => sp_Learner_counts K T) (pe_fld (pv 0) rfl) (fun _ e => by subst e; exact ⟨tf.fL.cl, C_Learner_counts.mono (by decide)⟩) hr))), ?_⟩
  obtain ⟨dx, hx⟩ := F.ob'
  have tl := F.tell
  obtain ⟨dt, et⟩ := tl.ob
  refine ⟨_, rfl, x, T.F, dx, _, _, rfl, hx, tf.fF.cl, tf.fF.nTeller, lF_teller _ _ _ _, ?_⟩
  refine ⟨_, T.L, dt, _, rfl, et, rfl, nL (by decide +kernel) (by decide +kernel) (by decide +kernel) _ _ _, _, _, m, st, _, rfl, tl, fun p hp => ?_⟩
  exact ⟨_, Less.new (same_up hp) hp upd_same rfl, q p hp⟩
abbrev s_Follower_see : Stmt := inClass (top 23) 2
theorem sc_Follower_see : FnScope ["self", "sign"] ["self", "sign"] (defScope s_Follower_see) := ⟨rfl, rfl, rfl, by decide +kernel, rfl, by decide +kernel, by decide +kernel⟩
def sp_Follower_see (K : PySem.W.Frag) (T : Cl) : Sp := fun vs H Q _ => ∃ (x bh l0 k0 : Addr) (ls ks : List Addr) (m s : Int) (cur : Option Nat) (b : List Int) (ts : List (List Int)) (k : Int), vs = [.ref x, .int k] ∧ FollowAt T H x bh l0 k0 ls ks m s cur b ts ∧ (Mo.fo m s cur b ts).Good ∧ 0 ≤ k ∧ k < m ∧
  ∀ own' H', MoAt T H' x own' ((Mo.fo m s cur b ts).see k.toNat) → (∀ c ∈ own', c ∈ x :: bh :: l0 :: k0 :: (ls ++ ks) ∨ H c = none) → (∀ c o, H c = some o → c ∉ x :: bh :: l0 :: k0 :: (ls ++ ks) → H' c = some o) → Q .non H'
theorem ok_Follower_see {P : Program} {w : World} {K : PySem.W.Frag} {mg : Str → Option Value} {base : Heap} {T : Cl} (z : BI mg) (g : GC mg) (tf : TF K mg T) (D : DefM K T.F "see" "Follower.see" s_Follower_see ["self", "sign"]) (C_Learner_see : CalM P w K mg base 2 T.L "see" ["self", "sign"] (sp_Learner_see K T)) : CalM P w K mg base 3 T.F "see" ["self", "sign"] (sp_Follower_see K T) := by
  refine D.okH sc_Follower_see (fun vs H Q E h => ?_) (fun f cdv A outer s H vs Q E hr h => ?_)
  · obtain ⟨x, bh, l0, k0, ls, ks, m, st, cur, b0, ts, k, rfl, F, gd, h0, h1, q⟩ := h; rfl
  obtain ⟨x, bh, l0, k0, ls, ks, m, st, cur, b0, ts, k, rfl, F, gd, h0, h1, q⟩ := h
  refine ⟨_, (pss_cons (ps_expr (pe_methD (Cs := fun C => C = T.L) (spm := fun _ => sp_Learner_see K T) (pe_fld (pv 0) rfl) (fun _ e => by subst e; exact ⟨tf.fL.cl, C_Learner_see.mono (by decide)⟩) hr (pa_cons (pv 1) pa_nil)))
      (pss_one (ps_fld (pv 0) (pe_ix ix_list (pe_fld (pv 0) rfl) (pv 1) (fun _ _ => rfl)) rfl))), ?_⟩
  obtain ⟨dx, hx⟩ := F.ob'
  have tl := F.tell
  obtain ⟨dt, et⟩ := tl.ob
  have gg := gd
  obtain ⟨g1, g2, g3, g4, g5, g6, g7, g8⟩ := gg
  have okt : TallyOk (Mo.fo m st cur b0 ts).tells m := by
    cases cur with
    | none => exact g5
    | some i => exact g7 _ (getD_in (by rw [g6]; exact g8 i rfl))
  have lt := okt.len
  refine ⟨_, rfl, x, T.F, dx, _, _, rfl, hx, tf.fF.cl, tf.fF.nTeller, lF_teller _ _ _ _, ?_⟩
  refine ⟨_, T.L, dt, _, rfl, et, rfl, nL (by decide +kernel) (by decide +kernel) (by decide +kernel) _ _ _, _, rfl, _, _, m, st, _, k, rfl, tl, okt, g3, g4, g2, h0, h1, fun l' H' hl la fr => ?_⟩
  have nxt : x ≠ tlA l0 ls cur := ne_of hx et (by intro z; injection z with z1 _ _; exact tf.nFL z1)
  have nxk : x ≠ tkA k0 ks cur := ne_of hx tl.ls (by intro z; cases z)
  have hx' := fr _ _ hx nxt nxk
  have nb1 : bh ≠ tlA l0 ls cur := ne_of F.bh_ et (by intro z; cases z)
  have nb2 : bh ≠ tkA k0 ks cur := ne_of F.bh_ tl.ls (lst_ne (by omega))
  have hb' := fr _ _ F.bh_ nb1 nb2
  have hkl : k.toNat < ls.length := by rw [F.l1]; omega
  have ek : k = ((k.toNat : Nat) : Int) := by omega
  have at' : atI (ls.map V.ref) k = some (.ref (ls.getD k.toNat 0)) := by
    rw [ek]
    exact atI_nat (getD_map_ref hkl)
  refine ⟨_, rfl, x, T.F, dx, _, _, rfl, hx', tf.fF.cl, tf.fF.nBehind, lF_behind _ _ _ _, _, rfl, bh, _, _, _, rfl, rfl, SqL.of hb', at', ?_⟩
  refine ⟨_, rfl, x, T.F, dx, _, rfl, hx', tf.fF.cl, tf.fF.nTeller, (by show 4 < 1000; decide), ?_⟩
  rw [put_teller']
  obtain ⟨own', mo, ho, fr'⟩ := F.step tf.nFL gd (k := k.toNat) (by omega) hl la fr hx'
  exact q own' _ mo ho fr'
abbrev s_Follower_fresh : Stmt := inClass (top 23) 3
theorem sc_Follower_fresh : FnScope ["self"] ["self"] (defScope s_Follower_fresh) := ⟨rfl, rfl, rfl, by decide +kernel, rfl, by decide +kernel, by decide +kernel⟩
def sp_Follower_fresh (K : PySem.W.Frag) (T : Cl) : Sp := fun vs H Q _ => ∃ (x bh l0 k0 : Addr) (ls ks : List Addr) (m s : Int) (cur : Option Nat) (b : List Int) (ts : List (List Int)), vs = [.ref x] ∧ FollowAt T H x bh l0 k0 ls ks m s cur b ts ∧ (Mo.fo m s cur b ts).Good ∧
  ∀ x' own' H', MoAt T H' x' own' (Mo.fo m s cur b ts).fresh → (∀ c ∈ own', H c = none) → Same H H' → Q (.ref x') H'
theorem ok_Follower_fresh {P : Program} {w : World} {K : PySem.W.Frag} {mg : Str → Option Value} {base : Heap} {T : Cl} (z : BI mg) (g : GC mg) (tf : TF K mg T) (D : DefM K T.F "fresh" "Follower.fresh" s_Follower_fresh ["self"]) (C_Follower : CalA P w K mg base 5 "Follower" (sp_Follower K T)) : CalM P w K mg base 6 T.F "fresh" ["self"] (sp_Follower_fresh K T) := by
  refine D.okH sc_Follower_fresh (fun vs H Q E h => ?_) (fun f cdv A outer s H vs Q E hr h => ?_)
  · obtain ⟨x, bh, l0, k0, ls, ks, m, st, cur, b0, ts, rfl, F, gd, q⟩ := h; rfl
  obtain ⟨x, bh, l0, k0, ls, ks, m, st, cur, b0, ts, rfl, F, gd, q⟩ := h
  refine ⟨_, (pss_one (ps_ret (pe_cal (C_Follower.mono (by decide)) hr rfl (pa_cons (pe_fld (pv 0) rfl) (pa_cons (pe_fld (pv 0) rfl) pa_nil))))), ?_⟩
  obtain ⟨dx, hx⟩ := F.ob'
  obtain ⟨g1, g2, g3, g4, _⟩ := gd
  refine ⟨_, rfl, x, T.F, dx, _, _, rfl, hx, tf.fF.cl, tf.fF.nMany, lF_many _ _ _ _, ?_⟩
  refine ⟨_, rfl, x, T.F, dx, _, _, rfl, hx, tf.fF.cl, tf.fF.nStep, lF_step _ _ _ _, ?_⟩
  exact ⟨m, st, rfl, g1, g2, g3, g4, q⟩
def spm_counts (K : PySem.W.Frag) (T : Cl) (C : Addr) : Sp := fun vs H Q E => (C = T.L ∧ sp_Learner_counts K T vs H Q E) ∨ (C = T.F ∧ sp_Follower_counts K T vs H Q E)
theorem any_counts {P : Program} {w : World} {K : PySem.W.Frag} {mg : Str → Option Value} {base : Heap} {T : Cl} {k : Nat} (tf : TF K mg T) (C_Learner : CalM P w K mg base k T.L "counts" ["self"] (sp_Learner_counts K T)) (C_Follower : CalM P w K mg base k T.F "counts" ["self"] (sp_Follower_counts K T)) : ∀ C, Av T C → Cls K C ∧ CalM P w K mg base k C "counts" ["self"] (spm_counts K T C) := by
  rintro C (rfl | rfl)
  · obtain ⟨f, fd, a, b, c⟩ := C_Learner.ex
    refine ⟨tf.fL.cl, f, fd, a, b, c.imp fun vs H Q E h => ?_⟩
    rcases h with ⟨e, h⟩ | ⟨e, h⟩
    · exact h
    · exact absurd e tf.nLF
  · obtain ⟨f, fd, a, b, c⟩ := C_Follower.ex
    refine ⟨tf.fF.cl, f, fd, a, b, c.imp fun vs H Q E h => ?_⟩
    rcases h with ⟨e, h⟩ | ⟨e, h⟩
    · exact absurd e tf.nFL
    · exact h
def Okm : Mo → Prop
  | .pl _ => False
  | .le _ _ _ => True
  | .fo _ _ _ _ _ => True
theorem use_many {K : PySem.W.Frag} {mg : Str → Option Value} {T : Cl} (tf : TF K mg T) {H : Hp} {x : Addr} {own : List Addr} {M : Mo} (p : MoAt T H x own M) (hM : Okm M) : ∃ C dx fs, H x = some (.ins C dx fs) ∧ ClsF K C ∧ fs.lookup ("many" : Str) = some (.int M.many) ∧ PySem.W.kitOne K (.ref C) (.ref T.M) = some true := by
  cases M with
  | pl ns => exact hM.elim
  | le m s t => obtain ⟨l, _, ⟨dx, e⟩, _⟩ := p; exact ⟨_, dx, _, e, tf.fL, lL_many _ _ _, tf.kL⟩
  | fo m s cur b ts => obtain ⟨_, _, _, _, _, _, q⟩ := p; obtain ⟨dx, e⟩ := q.ob; exact ⟨_, dx, _, e, tf.fF, lF_many _ _ _ _, tf.kF⟩
theorem use_counts {K : PySem.W.Frag} {T : Cl} {H : Hp} {x : Addr} {own : List Addr} {M : Mo} {Q : VK} (p : MoAt T H x own M) (hM : Okm M) (q : ∀ p, H p = none → Q (.ref p) (upd H p (.lst (M.tells.map V.int)))) : ∃ a C dx fs, V.ref x = V.ref a ∧ H a = some (.ins C dx fs) ∧ Av T C ∧ fs.lookup ("counts" : Str) = none ∧ spm_counts K T C [.ref x] H Q E0 := by
  cases M with
  | pl ns => exact hM.elim
  | le m s t =>
    obtain ⟨l, _, pa⟩ := p; obtain ⟨dx, e⟩ := pa.ob
    exact ⟨x, _, dx, _, rfl, e, .inl rfl, nL (by decide +kernel) (by decide +kernel) (by decide +kernel) _ _ _, .inl ⟨rfl, x, l, m, s, t, rfl, pa, q⟩⟩
  | fo m s cur b ts =>
    obtain ⟨bh, l0, k0, ls, ks, _, pa⟩ := p; obtain ⟨dx, e⟩ := pa.ob
    exact ⟨x, _, dx, _, rfl, e, .inr (rfl), nF (by decide +kernel) (by decide +kernel) (by decide +kernel) (by decide +kernel) _ _ _ _, .inr (⟨rfl, x, bh, l0, k0, ls, ks, m, s, cur, b, ts, rfl, pa, q⟩)⟩
def spm_see (K : PySem.W.Frag) (T : Cl) (C : Addr) : Sp := fun vs H Q E => (C = T.L ∧ sp_Learner_see K T vs H Q E) ∨ (C = T.F ∧ sp_Follower_see K T vs H Q E)
theorem any_see {P : Program} {w : World} {K : PySem.W.Frag} {mg : Str → Option Value} {base : Heap} {T : Cl} {k : Nat} (tf : TF K mg T) (C_Learner : CalM P w K mg base k T.L "see" ["self", "sign"] (sp_Learner_see K T)) (C_Follower : CalM P w K mg base k T.F "see" ["self", "sign"] (sp_Follower_see K T)) : ∀ C, Av T C → Cls K C ∧ CalM P w K mg base k C "see" ["self", "sign"] (spm_see K T C) := by
  rintro C (rfl | rfl)
  · obtain ⟨f, fd, a, b, c⟩ := C_Learner.ex
    refine ⟨tf.fL.cl, f, fd, a, b, c.imp fun vs H Q E h => ?_⟩
    rcases h with ⟨e, h⟩ | ⟨e, h⟩
    · exact h
    · exact absurd e tf.nLF
  · obtain ⟨f, fd, a, b, c⟩ := C_Follower.ex
    refine ⟨tf.fF.cl, f, fd, a, b, c.imp fun vs H Q E h => ?_⟩
    rcases h with ⟨e, h⟩ | ⟨e, h⟩
    · exact absurd e tf.nFL
    · exact h
theorem use_see {K : PySem.W.Frag} {T : Cl} {H : Hp} {x : Addr} {own : List Addr} {M : Mo} {Q : VK} (p : MoAt T H x own M) (hM : Okm M) (g : M.Good) {k : Int} (h0 : 0 ≤ k) (h1 : k < M.many) (q : ∀ own' H', MoAt T H' x own' (M.see k.toNat) → (∀ b ∈ own', b ∈ own ∨ H b = none) → (∀ b o, H b = some o → b ∉ own → H' b = some o) → Q .non H') : ∃ a C dx fs, V.ref x = V.ref a ∧ H a = some (.ins C dx fs) ∧ Av T C ∧ fs.lookup ("see" : Str) = none ∧ spm_see K T C [.ref x, .int k] H Q E0 := by
  cases M with
  | pl ns => exact hM.elim
  | le m s t =>
    obtain ⟨l, eo, pa⟩ := p; subst eo; obtain ⟨dx, e⟩ := pa.ob; obtain ⟨g1, g2, g3, g4, g5⟩ := g
    exact ⟨x, _, dx, _, rfl, e, .inl rfl, nL (by decide +kernel) (by decide +kernel) (by decide +kernel) _ _ _, .inl ⟨rfl, x, l, m, s, t, k, rfl, pa, g5, g3, g4, g2, h0, h1, fun l' H' hl pa' fr => q [x, l'] H' ⟨l', rfl, pa'⟩ (own_see hl) (fun b o e nb => fr b o e (fun z => nb (by simp [z])) (fun z => nb (by simp [z])))⟩⟩
  | fo m s cur b ts =>
    obtain ⟨bh, l0, k0, ls, ks, eo, pa⟩ := p; subst eo; obtain ⟨dx, e⟩ := pa.ob
    exact ⟨x, _, dx, _, rfl, e, .inr (rfl), nF (by decide +kernel) (by decide +kernel) (by decide +kernel) (by decide +kernel) _ _ _ _, .inr (⟨rfl, x, bh, l0, k0, ls, ks, m, s, cur, b, ts, k, rfl, pa, g, h0, h1, q⟩)⟩
theorem use_seeG {K : PySem.W.Frag} {T : Cl} {H : Hp} {x : Addr} {own : List Addr} {M : Mo} {Q : VK} {G : Addr → Prop} (p : MoAt T H x own M) (hM : Okm M) (g : M.Good) {k : Int} (h0 : 0 ≤ k) (h1 : k < M.many) (hG : ∀ C, spm_see K T C [.ref x, .int k] H Q E0 → G C) (q : ∀ own' H', MoAt T H' x own' (M.see k.toNat) → (∀ b ∈ own', b ∈ own ∨ H b = none) → (∀ b o, H b = some o → b ∉ own → H' b = some o) → Q .non H') : ∃ a C dx fs, V.ref x = V.ref a ∧ H a = some (.ins C dx fs) ∧ Av T C ∧ fs.lookup ("see" : Str) = none ∧ G C := by
  obtain ⟨a, C, dx, fs, e1, e2, e3, e4, e5⟩ := use_see (K := K) p hM g h0 h1 q
  exact ⟨a, C, dx, fs, e1, e2, e3, e4, hG C e5⟩
theorem okm_see {M : Mo} (h : Okm M) (k : Nat) : Okm (M.see k) := by
  cases M with
  | fo m s cur b ts => cases cur <;> exact h
  | _ => exact h
theorem okm_all : ∀ (ks : List Int) {M : Mo}, Okm M → Okm (seeAll M ks)
  | [], _, h => h
  | k :: ks, M, h => okm_all ks (okm_see h k.toNat)
theorem okm_fresh {M : Mo} (h : Okm M) : Okm M.fresh := by cases M <;> exact h
def spm_fresh (K : PySem.W.Frag) (T : Cl) (C : Addr) : Sp := fun vs H Q E => (C = T.L ∧ sp_Learner_fresh K T vs H Q E) ∨ (C = T.F ∧ sp_Follower_fresh K T vs H Q E)
theorem any_fresh {P : Program} {w : World} {K : PySem.W.Frag} {mg : Str → Option Value} {base : Heap} {T : Cl} {k : Nat} (tf : TF K mg T) (C_Learner : CalM P w K mg base k T.L "fresh" ["self"] (sp_Learner_fresh K T)) (C_Follower : CalM P w K mg base k T.F "fresh" ["self"] (sp_Follower_fresh K T)) : ∀ C, Av T C → Cls K C ∧ CalM P w K mg base k C "fresh" ["self"] (spm_fresh K T C) := by
  rintro C (rfl | rfl)
  · obtain ⟨f, fd, a, b, c⟩ := C_Learner.ex
    refine ⟨tf.fL.cl, f, fd, a, b, c.imp fun vs H Q E h => ?_⟩
    rcases h with ⟨e, h⟩ | ⟨e, h⟩
    · exact h
    · exact absurd e tf.nLF
  · obtain ⟨f, fd, a, b, c⟩ := C_Follower.ex
    refine ⟨tf.fF.cl, f, fd, a, b, c.imp fun vs H Q E h => ?_⟩
    rcases h with ⟨e, h⟩ | ⟨e, h⟩
    · exact absurd e tf.nFL
    · exact h
theorem use_fresh {K : PySem.W.Frag} {T : Cl} {H : Hp} {x : Addr} {own : List Addr} {M : Mo} {Q : VK} (p : MoAt T H x own M) (hM : Okm M) (g : M.Good) (q : ∀ x' own' H', MoAt T H' x' own' M.fresh → (∀ b ∈ own', H b = none) → Same H H' → Q (.ref x') H') : ∃ a C dx fs, V.ref x = V.ref a ∧ H a = some (.ins C dx fs) ∧ Av T C ∧ fs.lookup ("fresh" : Str) = none ∧ spm_fresh K T C [.ref x] H Q E0 := by
  cases M with
  | pl ns => exact hM.elim
  | le m s t =>
    obtain ⟨l, _, pa⟩ := p; obtain ⟨dx, e⟩ := pa.ob; obtain ⟨g1, g2, g3, g4, g5⟩ := g
    exact ⟨x, _, dx, _, rfl, e, .inl rfl, nL (by decide +kernel) (by decide +kernel) (by decide +kernel) _ _ _, .inl ⟨rfl, x, l, m, s, t, rfl, pa, g1, g2, g3, g4, fun x' l' H' n1 n2 pa' ss => q x' [x', l'] H' ⟨l', rfl, pa'⟩ (own_new n1 n2) ss⟩⟩
  | fo m s cur b ts =>
    obtain ⟨bh, l0, k0, ls, ks, eo, pa⟩ := p; obtain ⟨dx, e⟩ := pa.ob
    exact ⟨x, _, dx, _, rfl, e, .inr (rfl), nF (by decide +kernel) (by decide +kernel) (by decide +kernel) (by decide +kernel) _ _ _ _, .inr (⟨rfl, x, bh, l0, k0, ls, ks, m, s, cur, b, ts, rfl, pa, g, q⟩)⟩
abbrev s_press : Stmt := top 24
theorem sc_press : FnScope ["pile", "model", "row", "pupil", "told", "sign", "counts"] ["pile", "model", "row"] (defScope s_press) := ⟨rfl, rfl, rfl, by decide +kernel, rfl, by decide +kernel, by decide +kernel⟩
def sp_press (K : PySem.W.Frag) (T : Cl) : Sp := fun vs H Q _ => ∃ (p : Int) (x : Addr) (own : List Addr) (M : Mo) (r : Addr) (rs : List Int), vs = [.int p, .ref x, .ref r] ∧ MoAt T H x own M ∧ Okm M ∧ M.Good ∧ SqL K H r (rs.map V.int) ∧ 0 ≤ p ∧ PressOk M.fresh rs ∧ rs.length ≤ 900 ∧ Q (.int (pressN M.fresh rs p)) H
theorem ok_press {P : Program} {w : World} {K : PySem.W.Frag} {mg : Str → Option Value} {base : Heap} {T : Cl} (z : BI mg) (g : GC mg) (tf : TF K mg T) (D : Def K mg "press" s_press ["pile", "model", "row"]) (C_check_pile : Cal P w K mg base 1 "check_pile" ["pile"] (sp_check_pile K T)) (C_Learner_fresh : CalM P w K mg base 4 T.L "fresh" ["self"] (sp_Learner_fresh K T)) (C_Follower_fresh : CalM P w K mg base 6 T.F "fresh" ["self"] (sp_Follower_fresh K T)) (C_Learner_counts : CalM P w K mg base 1 T.L "counts" ["self"] (sp_Learner_counts K T)) (C_Follower_counts : CalM P w K mg base 2 T.F "counts" ["self"] (sp_Follower_counts K T)) (C_Learner_see : CalM P w K mg base 2 T.L "see" ["self", "sign"] (sp_Learner_see K T)) (C_Follower_see : CalM P w K mg base 3 T.F "see" ["self", "sign"] (sp_Follower_see K T)) (C_lay : Cal P w K mg base 3 "lay" ["pile", "counts", "sign"] (sp_lay K T)) : Cal P w K mg base 7 "press" ["pile", "model", "row"] (sp_press K T) := by
  refine D.ok sc_press (fun vs H Q E h => ?_) (fun f cdv A outer s H vs Q E hr h => ?_)
  · obtain ⟨p, x, own0, M, r, rs, rfl, mo, hM, gM, hR, hp, ok, hlen, q⟩ := h; rfl
  obtain ⟨p, x, own0, M, r, rs, rfl, mo, hM, gM, hR, hp, ok, hlen, q⟩ := h
  refine ⟨_, (pss_cons (ps_expr (pe_def (C_check_pile.mono (by decide)) hr rfl (pa_cons (pv 0) pa_nil)))
      (pss_cons (ps_set (i := 3) sc_press.nd rfl (Or.inl rfl) (pe_methD0 (Cs := Av T) (spm := spm_fresh K T) (pv 1) (any_fresh tf (C_Learner_fresh.mono (by decide)) (C_Follower_fresh.mono (by decide))) hr))
      (pss_cons (ps_set (i := 4) sc_press.nd rfl (Or.inl rfl) (pe_lst pa_nil))
      (pss_cons (ps_for PassesOwn.never rfl (pi_list (pv 2)) (pg_name (i := 5) sc_press.nd rfl (Or.inl rfl)) (pss_cons (ps_expr (pe_bm PySem.F.plainAttrs_list PySem.F.slot_list_append PySem.F.type_list_append mt_append (pv 4) (pa_cons (pe_methD0 (Cs := Av T) (spm := spm_counts K T) (pv 3) (any_counts tf (C_Learner_counts.mono (by decide)) (C_Follower_counts.mono (by decide))) hr) pa_nil)))
      (pss_one (ps_expr (pe_methD (Cs := Av T) (spm := spm_see K T) (pv 3) (any_see tf (C_Learner_see.mono (by decide)) (C_Follower_see.mono (by decide))) hr (pa_cons (pv 5) pa_nil))))))
      (pss_cons (ps_for PassesOwn.never rfl (pi_rev rfl z.reversed (pa_cons (pe_zipl rfl rfl z.list rfl z.zip (pv 2) (pv 4)) pa_nil)) (pg_tup rfl (pgs_cons (pg_name (i := 5) sc_press.nd rfl (Or.inl rfl)) (pgs_cons (pg_name (i := 6) sc_press.nd rfl (Or.inl rfl)) pgs_nil))) (pss_one (ps_set (i := 0) sc_press.nd rfl (Or.inl rfl) (pe_def (C_lay.mono (by decide)) hr rfl (pa_cons (pv 0) (pa_cons (pv 6) (pa_cons (pv 5) pa_nil)))))))
      (pss_one (ps_ret (pv 0)))))))), ?_⟩
  have gF := gM.fresh
  have hF := okm_fresh hM
  have rg := ok.rng gF
  have el : (rs.map V.int).length = rs.length := List.length_map _
  refine ⟨_, rfl, p, rfl, hp, ?_⟩
  refine ⟨_, rfl, use_fresh (K := K) mo hM gM fun x' own1 H1 mo1 no1 s1 => ?_⟩
  refine ⟨(by show 0 ≤ sizeLine; decide), fun tl htl => ?_⟩
  have ntl : tl ∉ own1 := fun z => by obtain ⟨o, e⟩ := mo1.trk tl z; rw [e] at htl; cases htl
  have htl0 : H tl = none := s1.free htl
  refine ⟨_, rfl, r, rfl, ⟨_, (s1.trans (same_up htl)).seq hR⟩, for_list (K := K) (a := r) (xs := rs.map V.int) (fun i σ H2 => ∃ (own as : List Addr) (v : Option V), σ = [some (.int p), some (.ref x), some (.ref r), some (.ref x'), some (.ref tl), v, none] ∧ MoAt T H2 x' own (seeAll M.fresh (rs.take i)) ∧ (∀ b ∈ own, H b = none) ∧ tl ∉ own ∧ Same H H2 ∧ H2 tl = some (.lst (as.map V.ref)) ∧ as.length = i ∧
      ∀ j, j < i → H2 (as.getD j 0) = some (.lst ((tellsAt M.fresh rs j).map V.int)) ∧ as.getD j 0 ∉ own ∧ as.getD j 0 ≠ tl)
    ⟨own1, [], none, rfl, mo1.same (same_up htl), no1, ntl, s1.trans (same_up htl), upd_same, rfl, fun j hj => absurd hj (Nat.not_lt_zero _)⟩ (fun i σ H2 _ ⟨_, _, _, _, _, _, _, ss, _⟩ => ss.seq hR) ?_ ?_⟩
  · rintro i y σ H2 hi ⟨own, as, v, rfl, mo2, no2, nt2, ss, e, la, ea⟩
    have hil : i < rs.length := by have := (List.getElem?_eq_some_iff.mp hi).1; omega
    rw [getI hil] at hi
    have ey : y = .int (rs.getD i 0) := (Option.some.inj hi).symm
    subst ey
    have hk := rg _ (Np.getD_mem hil)
    have g2 := seeAll_good (rs.take i) gF fun k hk => rg k (List.mem_of_mem_take hk)
    have hM2 := okm_all (rs.take i) hF
    have mm := seeAll_many (rs.take i) M.fresh
    have st := seeAll_take (M := M.fresh) hil
    have lenA : (as.map V.ref).length < sizeLine := small1000 (by rw [List.length_map]; omega)
    refine ⟨_, rfl, .inl ⟨rfl, _, SqL.of e⟩, _, rfl, use_counts (K := K) mo2 hM2 fun p1 hp1 => ?_⟩
    have e1 : (upd H2 p1 (.lst ((tellsAt M.fresh rs i).map V.int))) tl = some (.lst (as.map V.ref)) := upd_old e hp1
    have ep : (upd H2 p1 (.lst ((tellsAt M.fresh rs i).map V.int))) p1 = some (.lst ((tellsAt M.fresh rs i).map V.int)) := upd_same
    have s2 := same_up (u := .lst ((tellsAt M.fresh rs i).map V.int)) hp1
    have eT : (seeAll M.fresh (rs.take i)).tells = tellsAt M.fresh rs i := rfl
    rw [eT]
    have np : p1 ∉ own := fun z => by obtain ⟨o, e'⟩ := mo2.trk p1 z; rw [e'] at hp1; cases hp1
    have npt : p1 ≠ tl := fun z => by rw [z, e] at hp1; cases hp1
    have ea2 : ∀ j, j < i → (upd H2 p1 (.lst ((tellsAt M.fresh rs i).map V.int))) (as.getD j 0) = some (.lst ((tellsAt M.fresh rs j).map V.int)) := fun j hj => upd_old (ea j hj).1 hp1
    refine ⟨tl, _, _, rfl, rfl, e1, lenA, ?_⟩
    have mo3 := mo2.same s2
    have hp0 : H p1 = none := ss.free hp1
    generalize upd H2 p1 (.lst ((tellsAt M.fresh rs i).map V.int)) = H3 at e1 ep s2 ea2 mo3 ⊢
    have mo4 : MoAt T (upd H3 tl (.lst (as.map V.ref ++ [.ref p1]))) x' own (seeAll M.fresh (rs.take i)) := mo3.frame fun b hb o eb => by rw [upd_ne (show b ≠ tl from fun z => nt2 (by rw [← z]; exact hb))]; exact eb
    refine ⟨_, rfl, use_seeG (K := K) mo4 hM2 g2 hk.1 (by omega) (fun C h => ⟨_, rfl, h⟩) fun own5 H5 mo5 no5 fr5 => ?_⟩
    have t4 : (upd H3 tl (.lst (as.map V.ref ++ [.ref p1]))) tl = some (.lst (as.map V.ref ++ [.ref p1])) := upd_same
    have t5 := fr5 _ _ t4 nt2
    have p4 : (upd H3 tl (.lst (as.map V.ref ++ [.ref p1]))) p1 = some (.lst ((tellsAt M.fresh rs i).map V.int)) := by rw [upd_ne npt]; exact ep
    have p5 := fr5 _ _ p4 np
    have out : ∀ b o, (upd H3 tl (.lst (as.map V.ref ++ [.ref p1]))) b = some o → b ∉ own → b ∉ own5 := fun b o eb nb z => by
      rcases no5 b z with y | y
      · exact nb y
      · rw [eb] at y; cases y
    have fr4 : ∀ b o, H b = some o → (upd H3 tl (.lst (as.map V.ref ++ [.ref p1]))) b = some o := fun b o eb => by rw [upd_ne (ne_of_none eb htl0)]; exact s2 _ _ (ss _ _ eb)
    refine ⟨own5, as ++ [p1], _, rfl, by rw [st]; exact mo5, fun b hb => ?_, out tl _ t4 nt2, (fun b o eb => fr5 b o (fr4 b o eb) (fun z => by rw [no2 b z] at eb; cases eb)), by rw [List.map_append]; exact t5, by rw [List.length_append, la]; rfl, fun j hj => ?_⟩
    · rcases no5 b hb with y | y
      · exact no2 b y
      · cases qb : H b with
        | none => rfl
        | some o => rw [fr4 b o qb] at y; cases y
    · by_cases hji : j < i
      · have eg : (as ++ [p1]).getD j 0 = as.getD j 0 := by rw [List.getD_eq_getElem?_getD, List.getElem?_append_left (by rw [la]; exact hji), List.getD_eq_getElem?_getD]
        rw [eg]
        obtain ⟨_, a2, a3⟩ := ea j hji
        have a4 : (upd H3 tl (.lst (as.map V.ref ++ [.ref p1]))) (as.getD j 0) = some (.lst ((tellsAt M.fresh rs j).map V.int)) := by rw [upd_ne a3]; exact ea2 j hji
        exact ⟨fr5 _ _ a4 a2, out _ _ a4 a2, a3⟩
      · have ej : j = i := by omega
        subst ej
        have eg : (as ++ [p1]).getD j 0 = p1 := by rw [List.getD_eq_getElem?_getD, List.getElem?_append_right (by rw [la]; exact Nat.le_refl _), la, Nat.sub_self]; rfl
        rw [eg]
        exact ⟨p5, out _ _ p4 np, npt⟩
  rintro σ H2 ⟨own, as, v, rfl, mo2, no2, nt2, ss, e, la, ea⟩
  rw [el] at la ea
  -- from the last to the first
  refine ⟨_, rfl, _, rfl, r, tl, _, _, rfl, ss.seq hR, SqL.of e, by rw [List.length_map, List.length_map, la], fun D ts H3 s3 nD lts eD etup => ?_⟩
  rw [el] at lts
  refine ⟨D, _, rfl, SqL.of eD, for_rev (K := K) (a := D) (xs := ts.map V.ref) (fun i σ H4 => ∃ v w, σ = [some (.int (pressFrom M.fresh rs (rs.length - i) p)), some (.ref x), some (.ref r), some (.ref x'), some (.ref tl), v, w] ∧ H4 = H3) ⟨v, none, ?_, rfl⟩ (fun i σ H4 _ ⟨_, _, _, e⟩ => e ▸ SqL.of eD) ?_ ?_⟩
  · rw [Nat.sub_zero, pressFrom_len]
  · rintro i y σ H4 hi ⟨v, w', rfl, rfl⟩
    obtain ⟨h1, rfl⟩ := mem_rev_ref hi
    have hj : ts.length - 1 - i < rs.length := by omega
    have ej : rs.length - (i + 1) = ts.length - 1 - i := by omega
    have ej2 : rs.length - i = ts.length - 1 - i + 1 := by omega
    rw [ej2]
    have gT := ((seeAll_good (rs.take (ts.length - 1 - i)) gF fun k hk => rg k (List.mem_of_mem_take hk)).tells).1
    obtain ⟨o0, o1, o2⟩ := ok.at hj
    have pn : 0 ≤ pressFrom M.fresh rs (ts.length - 1 - i + 1) p := press_nn (PressOk.drop _ ok) (seeAll_good _ gF fun k hk => rg k (List.mem_of_mem_take hk)) hp
    have tup := etup (ts.length - 1 - i) _ _ (getI hj) (getD_map_ref (ls := as) (i := ts.length - 1 - i) (by omega))
    refine ⟨_, _, rfl, SqT.of tup, rfl, _, _, rfl, _, _, rfl, rfl, ?_⟩
    refine ⟨_, rfl, _, rfl, _, rfl, _, as.getD (ts.length - 1 - i) 0, tellsAt M.fresh rs (ts.length - 1 - i), _, rfl, SqL.of (s3 _ _ (ea _ hj).1), gT, pn, o0, o1, o2, some (.int (rs.getD (ts.length - 1 - i) 0)), some (.ref (as.getD (ts.length - 1 - i) 0)), ?_, rfl⟩
    rw [ej, pressFrom_step hj]
    rfl
  · rintro σ H4 ⟨v, w', rfl, rfl⟩
    rw [List.length_map, lts, Nat.sub_self, pressFrom_zero]
    exact ⟨_, rfl, _, Less.same (ss.trans s3), q⟩
abbrev s_read : Stmt := top 25
theorem sc_read : FnScope ["pile", "model", "many", "pupil", "row", "place", "taken"] ["pile", "model", "many"] (defScope s_read) := ⟨rfl, rfl, rfl, by decide +kernel, rfl, by decide +kernel, by decide +kernel⟩
def sp_read (K : PySem.W.Frag) (T : Cl) : Sp := fun vs H Q _ => ∃ (p : Int) (x : Addr) (own : List Addr) (M : Mo) (m : Int), vs = [.int p, .ref x, .int m] ∧ MoAt T H x own M ∧ Okm M ∧ M.Good ∧ 0 ≤ p ∧ 0 ≤ m ∧ m ≤ 1000 ∧
  ∀ r t, H r = none → (upd H r (.lst ((readN M.fresh m.toNat p).1.map V.int))) t = none → Q (.ref t) (upd (upd H r (.lst ((readN M.fresh m.toNat p).1.map V.int))) t (.tup [.ref r, .int (readN M.fresh m.toNat p).2]))
theorem ok_read {P : Program} {w : World} {K : PySem.W.Frag} {mg : Str → Option Value} {base : Heap} {T : Cl} (z : BI mg) (g : GC mg) (tf : TF K mg T) (D : Def K mg "read" s_read ["pile", "model", "many"]) (C_check_pile : Cal P w K mg base 1 "check_pile" ["pile"] (sp_check_pile K T)) (C_Learner_fresh : CalM P w K mg base 4 T.L "fresh" ["self"] (sp_Learner_fresh K T)) (C_Follower_fresh : CalM P w K mg base 6 T.F "fresh" ["self"] (sp_Follower_fresh K T)) (C_take : Cal P w K mg base 4 "take" ["pile", "counts"] (sp_take K T)) (C_Learner_counts : CalM P w K mg base 1 T.L "counts" ["self"] (sp_Learner_counts K T)) (C_Follower_counts : CalM P w K mg base 2 T.F "counts" ["self"] (sp_Follower_counts K T)) (C_Learner_see : CalM P w K mg base 2 T.L "see" ["self", "sign"] (sp_Learner_see K T)) (C_Follower_see : CalM P w K mg base 3 T.F "see" ["self", "sign"] (sp_Follower_see K T)) : Cal P w K mg base 7 "read" ["pile", "model", "many"] (sp_read K T) := by
  refine D.ok sc_read (fun vs H Q E h => ?_) (fun f cdv A outer s H vs Q E hr h => ?_)
  · obtain ⟨p, x, own0, M, m, rfl, mo, hM, gM, hp, h0, h1, q⟩ := h; rfl
  obtain ⟨p, x, own0, M, m, rfl, mo, hM, gM, hp, h0, h1, q⟩ := h
  refine ⟨_, (pss_cons (ps_expr (pe_def (C_check_pile.mono (by decide)) hr rfl (pa_cons (pv 0) pa_nil)))
      (pss_cons (ps_set (i := 3) sc_read.nd rfl (Or.inl rfl) (pe_methD0 (Cs := Av T) (spm := spm_fresh K T) (pv 1) (any_fresh tf (C_Learner_fresh.mono (by decide)) (C_Follower_fresh.mono (by decide))) hr))
      (pss_cons (ps_set (i := 4) sc_read.nd rfl (Or.inl rfl) (pe_lst pa_nil))
      (pss_cons (ps_for PassesOwn.never rfl (pi_range1 rfl z.range (pa_cons (pv 2) pa_nil)) (pg_name (i := 5) sc_read.nd rfl (Or.inl rfl)) (pss_cons (ps_set (i := 6) sc_read.nd rfl (Or.inl rfl) (pe_def (C_take.mono (by decide)) hr rfl (pa_cons (pv 0) (pa_cons (pe_methD0 (Cs := Av T) (spm := spm_counts K T) (pv 3) (any_counts tf (C_Learner_counts.mono (by decide)) (C_Follower_counts.mono (by decide))) hr) pa_nil))))
      (pss_cons (ps_expr (pe_methD (Cs := Av T) (spm := spm_see K T) (pv 3) (any_see tf (C_Learner_see.mono (by decide)) (C_Follower_see.mono (by decide))) hr (pa_cons (pe_ix ix_tup (pv 6) pe_int (fun _ _ => rfl)) pa_nil)))
      (pss_cons (ps_expr (pe_bm PySem.F.plainAttrs_list PySem.F.slot_list_append PySem.F.type_list_append mt_append (pv 4) (pa_cons (pe_ix ix_tup (pv 6) pe_int (fun _ _ => rfl)) pa_nil)))
      (pss_one (ps_set (i := 0) sc_read.nd rfl (Or.inl rfl) (pe_ix ix_tup (pv 6) pe_int (fun _ _ => rfl))))))))
      (pss_one (ps_ret (pe_tup (pa_cons (pv 4) (pa_cons (pv 0) pa_nil))))))))), ?_⟩
  have gF := gM.fresh
  have hF := okm_fresh hM
  refine ⟨_, rfl, p, rfl, hp, ?_⟩
  refine ⟨_, rfl, use_fresh (K := K) mo hM gM fun x' own1 H1 mo1 no1 s1 => ?_⟩
  refine ⟨(by show 0 ≤ sizeLine; decide), fun r hr' => ?_⟩
  have nr1 : r ∉ own1 := fun z => by obtain ⟨o, e⟩ := mo1.trk r z; rw [e] at hr'; cases hr'
  refine ⟨_, rfl, m, rfl, by omega, by omega, for_range (n := m.toNat) (fun i σ H2 => ∃ (own : List Addr) (v w : Option V), σ = [some (.int (readN M.fresh i p).2), some (.ref x), some (.int m), some (.ref x'), some (.ref r), v, w] ∧ MoAt T H2 x' own (seeAll M.fresh (readN M.fresh i p).1) ∧ (∀ b ∈ own, H b = none) ∧ r ∉ own ∧ Same H H2 ∧ H2 r = some (.lst ((readN M.fresh i p).1.map V.int)))
    ⟨own1, none, none, rfl, mo1.same (same_up hr'), no1, nr1, s1.trans (same_up hr'), upd_same⟩ ?_ ?_⟩
  · rintro i σ H2 hi ⟨own, v, w', rfl, mo2, no2, nr, ss, e⟩
    obtain ⟨ok1, nn1, _⟩ := readN_ok i gF hp
    have rg := ok1.rng gF
    have g2 := seeAll_good _ gF rg
    have hM2 := okm_all (readN M.fresh i p).1 hF
    have ln := readN_len i M.fresh p
    have sn := readN_snoc i M.fresh p
    have mm := seeAll_many (readN M.fresh i p).1 M.fresh
    generalize (readN M.fresh i p).1 = rw0 at mo2 e ok1 rg g2 hM2 ln sn mm ⊢
    generalize (readN M.fresh i p).2 = p0 at nn1 sn ⊢
    obtain ⟨gt, lt⟩ := g2.tells
    refine ⟨_, rfl, _, rfl, use_counts (K := K) mo2 hM2 fun p1 hp1 => ?_⟩
    refine ⟨p0, p1, _, rfl, SqL.of upd_same, gt, nn1, fun t1 ht1 => ?_⟩
    obtain ⟨ta, _, _⟩ := take_ok gt p0
    have s3 := (same_up (u := .lst ((seeAll M.fresh rw0).tells.map V.int)) hp1).trans (same_up (u := .tup [.int ((takeS (seeAll M.fresh rw0).tells p0 : Nat) : Int), .int (takeP (seeAll M.fresh rw0).tells p0)]) ht1)
    have et : (upd (upd H2 p1 (.lst ((seeAll M.fresh rw0).tells.map V.int))) t1 (.tup [.int ((takeS (seeAll M.fresh rw0).tells p0 : Nat) : Int), .int (takeP (seeAll M.fresh rw0).tells p0)])) t1 = some (.tup [.int ((takeS (seeAll M.fresh rw0).tells p0 : Nat) : Int), .int (takeP (seeAll M.fresh rw0).tells p0)]) := upd_same
    have f2 : H2 t1 = none := (same_up (u := .lst ((seeAll M.fresh rw0).tells.map V.int)) hp1).free ht1
    generalize upd (upd H2 p1 (.lst ((seeAll M.fresh rw0).tells.map V.int))) t1 (.tup [.int ((takeS (seeAll M.fresh rw0).tells p0 : Nat) : Int), .int (takeP (seeAll M.fresh rw0).tells p0)]) = H3 at s3 et ⊢
    have nt1 : t1 ∉ own := fun z => by obtain ⟨o, e'⟩ := mo2.trk t1 z; rw [e'] at f2; cases f2
    have e3 := s3 _ _ e
    refine ⟨_, rfl, use_seeG (K := K) (mo2.same s3) hM2 g2 (k := ((takeS (seeAll M.fresh rw0).tells p0 : Nat) : Int)) (by omega) (by omega) (fun C h => ⟨_, rfl, t1, _, _, _, rfl, rfl, SqT.of et, rfl, h⟩) fun own4 H4 mo4 no4 fr4 => ?_⟩
    rw [Int.toNat_natCast] at mo4
    have e4 := fr4 _ _ e3 nr
    have et4 := fr4 _ _ et nt1
    have nr4 : r ∉ own4 := fun z => by
      rcases no4 r z with y | y
      · exact nr y
      · rw [e3] at y; cases y
    have fH : ∀ b, H3 b = none → H b = none := fun b eb => (ss.trans s3).free eb
    have no5 : ∀ b ∈ own4, H b = none := fun b hb => by
      rcases no4 b hb with y | y
      · exact no2 b y
      · exact fH b y
    have s4 : Same H H4 := fun b o eb => fr4 b o (s3 _ _ (ss _ _ eb)) fun z => by rw [no2 b z] at eb; cases eb
    have ntr : t1 ≠ r := ne_of et4 e4 (by intro z; cases z)
    refine ⟨_, rfl, .inl ⟨rfl, _, SqL.of e4⟩, _, rfl, t1, _, _, _, rfl, rfl, SqT.of et4, rfl, r, _, _, rfl, rfl, e4, small1000 (by rw [List.length_map]; omega), ?_⟩
    refine ⟨_, rfl, t1, _, _, _, rfl, rfl, SqT.of (by rw [upd_ne ntr]; exact et4), rfl, ?_⟩
    rw [sn]
    have hr0 : H r = none := s1.free hr'
    refine ⟨own4, _, _, rfl, ?_, no5, nr4, fun b o eb => by rw [upd_ne (ne_of_none eb hr0)]; exact s4 b o eb, ?_⟩
    · dsimp only
      rw [seeAll_snoc, Int.toNat_natCast]
      exact mo4.frame fun b hb o eb => by rw [upd_ne (show b ≠ r from fun z => nr4 (by rw [← z]; exact hb))]; exact eb
    · rw [upd_same, List.map_append]
      rfl
  · rintro σ H2 ⟨own, v, w', rfl, mo2, no2, nr, ss, e⟩
    refine ⟨_, rfl, _, rfl, (by show 2 ≤ sizeLine; decide), fun t ht => ?_⟩
    have hH : H t = none := ss.free ht
    have hr0 : H r = none := s1.free hr'
    have ntr : t ≠ r := fun z => by rw [z, e] at ht; cases ht
    have h2t : (upd H r (.lst ((readN M.fresh m.toNat p).1.map V.int))) t = none := by rw [upd_ne ntr]; exact hH
    exact ⟨_, Less.add (Less.new (ss.trans (same_up ht)) hr0 (upd_old e ht) rfl) h2t upd_same rfl, q r t hr0 h2t⟩
abbrev s_check_full : Stmt := top 27
theorem sc_check_full : FnScope ["counts"] ["counts"] (defScope s_check_full) := ⟨rfl, rfl, rfl, by decide +kernel, rfl, by decide +kernel, by decide +kernel⟩
def sp_check_full (K : PySem.W.Frag) (T : Cl) : Sp := fun vs H Q _ => ∃ (a : Addr) (ns : List Int), vs = [.ref a] ∧ SqL K H a (ns.map V.int) ∧ Full ns ∧ Q .non H
theorem ok_check_full {P : Program} {w : World} {K : PySem.W.Frag} {mg : Str → Option Value} {base : Heap} {T : Cl} (z : BI mg) (g : GC mg) (tf : TF K mg T) (D : Def K mg "check_full" s_check_full ["counts"]) (C_check_counts : Cal P w K mg base 1 "check_counts" ["counts"] (sp_check_counts K T)) : Cal P w K mg base 2 "check_full" ["counts"] (sp_check_full K T) := by
  refine D.ok sc_check_full (fun vs H Q E h => ?_) (fun f cdv A outer s H vs Q E hr h => ?_)
  · obtain ⟨a, ns, rfl, hS, g0, q⟩ := h; rfl
  obtain ⟨a, ns, rfl, hS, g0, q⟩ := h
  refine ⟨_, (pss_cons (ps_expr (pe_def (C_check_counts.mono (by decide)) hr rfl (pa_cons (pv 0) pa_nil)))
      (pss_one (ps_if (pt_cmpR op_eq (pe_callB (call_minL rfl) rfl z.min b_min (pa_cons (pv 0) pa_nil)) pe_int (nomark _)) (pss_one ps_never) pss_nil))), ?_⟩
  refine ⟨_, rfl, a, ns, rfl, hS, g0.g, ?_⟩
  refine ⟨_, rfl, a, ns, rfl, hS, g0.g.len0, fun i hi _ => ?_⟩
  have h1 := g0.one i hi
  walk_at "r"
  refine ite2 (fun e => absurd (V.int.inj (of_decide_eq_true e)) (by omega)) (fun _ => ?_)
  exact ⟨_, Less.refl, q⟩
abbrev s_check_rows : Stmt := top 28
theorem sc_check_rows : FnScope ["rows", "many", "length", "counts"] ["rows", "many", "length"] (defScope s_check_rows) := ⟨rfl, rfl, rfl, by decide +kernel, rfl, by decide +kernel, by decide +kernel⟩
def sp_check_rows (K : PySem.W.Frag) (T : Cl) : Sp := fun vs H Q _ => ∃ (a : Addr) (as : List Addr) (rows : List (List Int)) (l : Int), vs = [.ref a, .int (rows.length : Int), .int l] ∧ TabL K H a as rows ∧ (∀ i, i < rows.length → Full (rows.getD i []) ∧ ((rows.getD i []).length : Int) = l) ∧ Q .non H
theorem ok_check_rows {P : Program} {w : World} {K : PySem.W.Frag} {mg : Str → Option Value} {base : Heap} {T : Cl} (z : BI mg) (g : GC mg) (tf : TF K mg T) (D : Def K mg "check_rows" s_check_rows ["rows", "many", "length"]) (C_check_full : Cal P w K mg base 2 "check_full" ["counts"] (sp_check_full K T)) : Cal P w K mg base 3 "check_rows" ["rows", "many", "length"] (sp_check_rows K T) := by
  refine D.ok sc_check_rows (fun vs H Q E h => ?_) (fun f cdv A outer s H vs Q E hr h => ?_)
  · obtain ⟨a, as, rows, l, rfl, tb, hr0, q⟩ := h; rfl
  obtain ⟨a, as, rows, l, rfl, tb, hr0, q⟩ := h
  refine ⟨_, (pss_cons (ps_if (pt_cmpR op_ne (pe_callB call_len_seq rfl z.len b_len (pa_cons (pv 0) pa_nil)) (pv 1) (nomark _)) (pss_one ps_never) pss_nil)
      (pss_one (ps_for PassesOwn.never rfl (pi_list (pv 0)) (pg_name (i := 3) sc_check_rows.nd rfl (Or.inl rfl)) (pss_cons (ps_expr (pe_def (C_check_full.mono (by decide)) hr rfl (pa_cons (pv 3) pa_nil)))
      (pss_one (ps_if (pt_cmpR op_ne (pe_callB call_len_seq rfl z.len b_len (pa_cons (pv 3) pa_nil)) (pv 2) (nomark _)) (pss_one ps_never) pss_nil)))))), ?_⟩
  have el : (as.map V.ref).length = rows.length := by rw [List.length_map]; exact tb.len
  refine ⟨_, rfl, a, _, rfl, .inl tb.ls, _, rfl, rfl, _, rfl, ?_⟩
  refine ite2 (fun e => ?_) (fun _ => ?_)
  · rw [el] at e
    simp at e
  refine ⟨_, rfl, a, rfl, ⟨_, tb.ls⟩, for_list (K := K) (a := a) (xs := as.map V.ref) (fun i σ H2 => ∃ v, σ = [some (.ref a), some (.int (rows.length : Int)), some (.int l), v] ∧ H2 = H) ⟨none, rfl, rfl⟩ (fun i σ H2 _ ⟨_, _, e⟩ => e ▸ tb.ls) ?_ ?_⟩
  · rintro i y σ H2 hi ⟨v, rfl, rfl⟩
    obtain ⟨h1, rfl⟩ := ref_at hi
    have h2 : i < rows.length := by rw [← tb.len]; exact h1
    have f := hr0 i h2
    have s := tb.at_ i h2
    refine ⟨_, rfl, _, _, rfl, s, f.1, ?_⟩
    refine ⟨_, rfl, _, _, rfl, .inl s, _, rfl, rfl, _, rfl, ?_⟩
    refine ite2 (fun e => ?_) (fun _ => ?_)
    · rw [List.length_map, f.2] at e
      simp at e
    · exact ⟨_, rfl, rfl⟩
  · rintro σ H2 ⟨v, rfl, rfl⟩
    exact ⟨_, Less.refl, q⟩
abbrev s_check_tables : Stmt := top 29
theorem sc_check_tables : FnScope ["prior", "given", "back", "many"] ["prior", "given", "back"] (defScope s_check_tables) := ⟨rfl, rfl, rfl, by decide +kernel, rfl, by decide +kernel, by decide +kernel⟩
def sp_check_tables (K : PySem.W.Frag) (T : Cl) : Sp := fun vs H Q _ => ∃ (a g b : Addr) (gs bs : List Addr) (prior : List Int) (given back : List (List Int)), vs = [.ref a, .ref g, .ref b] ∧ SqL K H a (prior.map V.int) ∧ TabL K H g gs given ∧ TabL K H b bs back ∧ Tabs prior given back ∧ Q .non H
theorem ok_check_tables {P : Program} {w : World} {K : PySem.W.Frag} {mg : Str → Option Value} {base : Heap} {T : Cl} (z : BI mg) (g : GC mg) (tf : TF K mg T) (D : Def K mg "check_tables" s_check_tables ["prior", "given", "back"]) (C_check_full : Cal P w K mg base 2 "check_full" ["counts"] (sp_check_full K T)) (C_check_rows : Cal P w K mg base 3 "check_rows" ["rows", "many", "length"] (sp_check_rows K T)) : Cal P w K mg base 4 "check_tables" ["prior", "given", "back"] (sp_check_tables K T) := by
  refine D.ok sc_check_tables (fun vs H Q E h => ?_) (fun f cdv A outer s H vs Q E hr h => ?_)
  · obtain ⟨a, g, b, gs, bs, prior, given, back, rfl, hS, tg, tb, t, q⟩ := h; rfl
  obtain ⟨a, g, b, gs, bs, prior, given, back, rfl, hS, tg, tb, t, q⟩ := h
  refine ⟨_, (pss_cons (ps_expr (pe_def (C_check_full.mono (by decide)) hr rfl (pa_cons (pv 0) pa_nil)))
      (pss_cons (ps_if (pt_cmpR op_eq (pe_callB call_len_seq rfl z.len b_len (pa_cons (pv 1) pa_nil)) pe_int (nomark _)) (pss_one ps_never) pss_nil)
      (pss_cons (ps_set (i := 3) sc_check_tables.nd rfl (Or.inl rfl) (pe_callB call_len_seq rfl z.len b_len (pa_cons (pe_ix ix_list (pv 1) pe_int (fun _ _ => rfl)) pa_nil)))
      (pss_cons (ps_expr (pe_def (C_check_rows.mono (by decide)) hr rfl (pa_cons (pv 1) (pa_cons (pe_callB call_len_seq rfl z.len b_len (pa_cons (pv 0) pa_nil)) (pa_cons (pv 3) pa_nil)))))
      (pss_one (ps_expr (pe_def (C_check_rows.mono (by decide)) hr rfl (pa_cons (pv 2) (pa_cons (pv 3) (pa_cons (pe_callB call_len_seq rfl z.len b_len (pa_cons (pv 0) pa_nil)) pa_nil)))))))))), ?_⟩
  have p0 := t.p.g.len0
  have g0 := t.g0
  have eg : (gs.map V.ref).length = given.length := by rw [List.length_map]; exact tg.len
  have h0 := t.gr 0 (by omega)
  refine ⟨_, rfl, a, prior, rfl, hS, t.p, ?_⟩
  refine ⟨_, rfl, g, _, rfl, .inl tg.ls, rfl, _, rfl, ?_⟩
  refine ite2 (fun e => ?_) (fun _ => ?_)
  · rw [eg] at e
    have := V.int.inj (of_decide_eq_true e)
    omega
  refine ⟨_, rfl, g, _, _, _, rfl, rfl, tg.ls, tg.ix (i := 0) (by omega) (by omega), ?_⟩
  refine ⟨_, _, rfl, .inl (tg.rowZ (i := 0) (by omega) (by omega)), ?_⟩
  have e1 : (((given.getD (0 : Int).toNat []).map V.int).length : Int) = (back.length : Int) := by rw [List.length_map]; exact congrArg _ h0.2
  rw [e1]
  refine ⟨_, rfl, _, rfl, a, _, rfl, .inl hS, _, rfl, g, gs, given, (back.length : Int), ?_, tg, fun i hi => ⟨(t.gr i hi).1, congrArg _ (t.gr i hi).2⟩, ?_⟩
  · rw [List.length_map, g0]
    rfl
  refine ⟨_, rfl, _, rfl, _, rfl, a, _, rfl, .inl hS, b, bs, back, (prior.length : Int), ?_, tb, fun i hi => ⟨(t.br i hi).1, congrArg _ (t.br i hi).2⟩, ?_⟩
  · rw [List.length_map]
    rfl
  exact ⟨_, Less.refl, q⟩
abbrev s_lay_hidden : Stmt := top 30
theorem sc_lay_hidden : FnScope ["pile", "prior", "given", "back", "sign", "chosen", "hidden"] ["pile", "prior", "given", "back", "sign"] (defScope s_lay_hidden) := ⟨rfl, rfl, rfl, by decide +kernel, rfl, by decide +kernel, by decide +kernel⟩
def sp_lay_hidden (K : PySem.W.Frag) (T : Cl) : Sp := fun vs H Q _ => ∃ (p k : Int) (a g b : Addr) (gs bs : List Addr) (prior : List Int) (given back : List (List Int)), vs = [.int p, .ref a, .ref g, .ref b, .int k] ∧ SqL K H a (prior.map V.int) ∧ TabL K H g gs given ∧ TabL K H b bs back ∧ Tabs prior given back ∧ 0 ≤ p ∧ 0 ≤ k ∧ k < (back.length : Int) ∧ Q (.int (layH prior given back k.toNat p)) H
theorem ok_lay_hidden {P : Program} {w : World} {K : PySem.W.Frag} {mg : Str → Option Value} {base : Heap} {T : Cl} (z : BI mg) (g : GC mg) (tf : TF K mg T) (D : Def K mg "lay_hidden" s_lay_hidden ["pile", "prior", "given", "back", "sign"]) (C_check_tables : Cal P w K mg base 4 "check_tables" ["prior", "given", "back"] (sp_check_tables K T)) (C_check_pile : Cal P w K mg base 1 "check_pile" ["pile"] (sp_check_pile K T)) (C_check_sign : Cal P w K mg base 1 "check_sign" ["many", "sign"] (sp_check_sign K T)) (C_take : Cal P w K mg base 4 "take" ["pile", "counts"] (sp_take K T)) (C_lay : Cal P w K mg base 3 "lay" ["pile", "counts", "sign"] (sp_lay K T)) : Cal P w K mg base 5 "lay_hidden" ["pile", "prior", "given", "back", "sign"] (sp_lay_hidden K T) := by
  refine D.ok sc_lay_hidden (fun vs H Q E h => ?_) (fun f cdv A outer s H vs Q E hr h => ?_)
  · obtain ⟨p, k, a, g, b, gs, bs, prior, given, back, rfl, hS, tg, tb, t, hp, h0, h1, q⟩ := h; rfl
  obtain ⟨p, k, a, g, b, gs, bs, prior, given, back, rfl, hS, tg, tb, t, hp, h0, h1, q⟩ := h
  refine ⟨_, (pss_cons (ps_expr (pe_def (C_check_tables.mono (by decide)) hr rfl (pa_cons (pv 1) (pa_cons (pv 2) (pa_cons (pv 3) pa_nil)))))
      (pss_cons (ps_expr (pe_def (C_check_pile.mono (by decide)) hr rfl (pa_cons (pv 0) pa_nil)))
      (pss_cons (ps_expr (pe_def (C_check_sign.mono (by decide)) hr rfl (pa_cons (pe_callB call_len_seq rfl z.len b_len (pa_cons (pv 3) pa_nil)) (pa_cons (pv 4) pa_nil))))
      (pss_cons (ps_set (i := 5) sc_lay_hidden.nd rfl (Or.inl rfl) (pe_def (C_take.mono (by decide)) hr rfl (pa_cons (pv 0) (pa_cons (pe_ix ix_list (pv 3) (pv 4) (fun _ _ => rfl)) pa_nil))))
      (pss_cons (ps_set (i := 6) sc_lay_hidden.nd rfl (Or.inl rfl) (pe_ix ix_tup (pv 5) pe_int (fun _ _ => rfl)))
      (pss_one (ps_ret (pe_def (C_lay.mono (by decide)) hr rfl (pa_cons (pe_def (C_lay.mono (by decide)) hr rfl (pa_cons (pe_ix ix_tup (pv 5) pe_int (fun _ _ => rfl)) (pa_cons (pe_ix ix_list (pv 2) (pv 6) (fun _ _ => rfl)) (pa_cons (pv 4) pa_nil)))) (pa_cons (pv 1) (pa_cons (pv 6) pa_nil))))))))))), ?_⟩
  have g0 := t.g0
  have eb : (bs.map V.ref).length = back.length := by rw [List.length_map]; exact tb.len
  have hk : k.toNat < back.length := by omega
  have hb := t.br _ hk
  have hh := t.hid hk p
  have hg := t.gr _ (show takeS (back.getD k.toNat []) p < given.length by omega)
  have nn := take_nn hb.1.g hp
  refine ⟨_, rfl, _, rfl, _, rfl, a, g, b, gs, bs, prior, given, back, rfl, hS, tg, tb, t, ?_⟩
  refine ⟨_, rfl, p, rfl, hp, ?_⟩
  refine ⟨_, rfl, b, _, rfl, .inl tb.ls, _, rfl, _, _, rfl, h0, by rw [eb]; exact h1, ?_⟩
  refine ⟨_, rfl, _, rfl, _, rfl, b, _, _, _, rfl, rfl, tb.ls, tb.ix h0 h1, ?_⟩
  refine ⟨p, _, _, rfl, tb.rowZ h0 h1, hb.1.g, hp, fun c hc => ?_⟩
  have tg' := tg.same (same_up (u := .tup [.int ((takeS (back.getD k.toNat []) p : Nat) : Int), .int (takeP (back.getD k.toNat []) p)]) hc)
  have hS' := hS.up (u := .tup [.int ((takeS (back.getD k.toNat []) p : Nat) : Int), .int (takeP (back.getD k.toNat []) p)]) hc
  refine ⟨_, rfl, c, _, _, _, rfl, rfl, SqT.of upd_same, rfl, ?_⟩
  refine ⟨_, rfl, c, _, _, _, rfl, rfl, SqT.of upd_same, rfl, ?_⟩
  refine ⟨_, rfl, _, rfl, g, _, _, _, rfl, rfl, tg'.ls, tg'.ix (by omega) (by omega), ?_⟩
  refine ⟨_, rfl, _, _, _, k, rfl, tg'.rowZ (by omega) (by omega), ?_⟩
  rw [Int.toNat_natCast]
  refine ⟨hg.1.g, nn, h0, by rw [hg.2]; exact h1, hg.1.pos (by rw [hg.2]; exact hk), ?_⟩
  refine ⟨_, rfl, _, rfl, _, a, prior, _, rfl, hS', t.p.g, lay_nn hg.1.g (by rw [hg.2]; exact hk) (hg.1.pos (by rw [hg.2]; exact hk)) nn, by omega, by omega, ?_⟩
  rw [Int.toNat_natCast]
  exact ⟨t.p.pos hh, _, Less.same (same_up hc), q⟩
abbrev s_take_hidden : Stmt := top 31
theorem sc_take_hidden : FnScope ["pile", "prior", "given", "back", "chosen", "hidden", "taken", "sign"] ["pile", "prior", "given", "back"] (defScope s_take_hidden) := ⟨rfl, rfl, rfl, by decide +kernel, rfl, by decide +kernel, by decide +kernel⟩
def sp_take_hidden (K : PySem.W.Frag) (T : Cl) : Sp := fun vs H Q _ => ∃ (p : Int) (a g b : Addr) (gs bs : List Addr) (prior : List Int) (given back : List (List Int)), vs = [.int p, .ref a, .ref g, .ref b] ∧ SqL K H a (prior.map V.int) ∧ TabL K H g gs given ∧ TabL K H b bs back ∧ Tabs prior given back ∧ 0 ≤ p ∧ ∀ t, H t = none → Q (.ref t) (upd H t (.tup [.int ((takeHS prior given p : Nat) : Int), .int (takeHP prior given back p)]))
theorem ok_take_hidden {P : Program} {w : World} {K : PySem.W.Frag} {mg : Str → Option Value} {base : Heap} {T : Cl} (z : BI mg) (g : GC mg) (tf : TF K mg T) (D : Def K mg "take_hidden" s_take_hidden ["pile", "prior", "given", "back"]) (C_check_tables : Cal P w K mg base 4 "check_tables" ["prior", "given", "back"] (sp_check_tables K T)) (C_take : Cal P w K mg base 4 "take" ["pile", "counts"] (sp_take K T)) (C_lay : Cal P w K mg base 3 "lay" ["pile", "counts", "sign"] (sp_lay K T)) : Cal P w K mg base 5 "take_hidden" ["pile", "prior", "given", "back"] (sp_take_hidden K T) := by
  refine D.ok sc_take_hidden (fun vs H Q E h => ?_) (fun f cdv A outer s H vs Q E hr h => ?_)
  · obtain ⟨p, a, g, b, gs, bs, prior, given, back, rfl, hS, tg, tb, t, hp, q⟩ := h; rfl
  obtain ⟨p, a, g, b, gs, bs, prior, given, back, rfl, hS, tg, tb, t, hp, q⟩ := h
  refine ⟨_, (pss_cons (ps_expr (pe_def (C_check_tables.mono (by decide)) hr rfl (pa_cons (pv 1) (pa_cons (pv 2) (pa_cons (pv 3) pa_nil)))))
      (pss_cons (ps_set (i := 4) sc_take_hidden.nd rfl (Or.inl rfl) (pe_def (C_take.mono (by decide)) hr rfl (pa_cons (pv 0) (pa_cons (pv 1) pa_nil))))
      (pss_cons (ps_set (i := 5) sc_take_hidden.nd rfl (Or.inl rfl) (pe_ix ix_tup (pv 4) pe_int (fun _ _ => rfl)))
      (pss_cons (ps_set (i := 6) sc_take_hidden.nd rfl (Or.inl rfl) (pe_def (C_take.mono (by decide)) hr rfl (pa_cons (pe_ix ix_tup (pv 4) pe_int (fun _ _ => rfl)) (pa_cons (pe_ix ix_list (pv 2) (pv 5) (fun _ _ => rfl)) pa_nil))))
      (pss_cons (ps_set (i := 7) sc_take_hidden.nd rfl (Or.inl rfl) (pe_ix ix_tup (pv 6) pe_int (fun _ _ => rfl)))
      (pss_one (ps_ret (pe_tup (pa_cons (pv 7) (pa_cons (pe_def (C_lay.mono (by decide)) hr rfl (pa_cons (pe_ix ix_tup (pv 6) pe_int (fun _ _ => rfl)) (pa_cons (pe_ix ix_list (pv 3) (pv 7) (fun _ _ => rfl)) (pa_cons (pv 5) pa_nil)))) pa_nil)))))))))), ?_⟩
  have g0 := t.g0
  have hh := t.hidP p
  have hs := t.sg p
  have hg := t.gr _ hh
  have hb := t.br _ hs
  have nn := take_nn t.p.g hp
  have nn2 := take_nn hg.1.g nn
  refine ⟨_, rfl, _, rfl, _, rfl, a, g, b, gs, bs, prior, given, back, rfl, hS, tg, tb, t, ?_⟩
  refine ⟨_, rfl, _, rfl, p, a, prior, rfl, hS, t.p.g, hp, fun c hc => ?_⟩
  have s1 := same_up (u := .tup [.int ((takeS prior p : Nat) : Int), .int (takeP prior p)]) hc
  have tg' := tg.same s1
  have tb' := tb.same s1
  have c1 : (upd H c (.tup [.int ((takeS prior p : Nat) : Int), .int (takeP prior p)])) c = some (.tup [.int ((takeS prior p : Nat) : Int), .int (takeP prior p)]) := upd_same
  generalize upd H c (.tup [.int ((takeS prior p : Nat) : Int), .int (takeP prior p)]) = H1 at s1 tg' tb' c1 ⊢
  refine ⟨_, rfl, c, _, _, _, rfl, rfl, SqT.of c1, rfl, ?_⟩
  refine ⟨_, rfl, c, _, _, _, rfl, rfl, SqT.of c1, rfl, ?_⟩
  refine ⟨_, rfl, _, rfl, g, _, _, _, rfl, rfl, tg'.ls, tg'.ix (by omega) (by omega), ?_⟩
  refine ⟨_, _, _, rfl, tg'.rowZ (by omega) (by omega), ?_⟩
  rw [Int.toNat_natCast]
  refine ⟨hg.1.g, nn, fun d hd => ?_⟩
  have s2 := s1.trans (same_up (u := .tup [.int ((takeHS prior given p : Nat) : Int), .int (takeP (given.getD (takeS prior p) []) (takeP prior p))]) hd)
  have tb2 := tb'.same (same_up (u := .tup [.int ((takeHS prior given p : Nat) : Int), .int (takeP (given.getD (takeS prior p) []) (takeP prior p))]) hd)
  have d1 : (upd H1 d (.tup [.int ((takeHS prior given p : Nat) : Int), .int (takeP (given.getD (takeS prior p) []) (takeP prior p))])) d = some (.tup [.int ((takeHS prior given p : Nat) : Int), .int (takeP (given.getD (takeS prior p) []) (takeP prior p))]) := upd_same
  have es : takeS (given.getD (takeS prior p) []) (takeP prior p) = takeHS prior given p := rfl
  rw [es]
  generalize upd H1 d (.tup [.int ((takeHS prior given p : Nat) : Int), .int (takeP (given.getD (takeS prior p) []) (takeP prior p))]) = H2 at s2 tb2 d1 ⊢
  refine ⟨_, rfl, d, _, _, _, rfl, rfl, SqT.of d1, rfl, ?_⟩
  refine ⟨_, rfl, _, rfl, d, _, _, _, rfl, rfl, SqT.of d1, rfl, ?_⟩
  refine ⟨_, rfl, _, rfl, b, _, _, _, rfl, rfl, tb2.ls, tb2.ix (by omega) (by omega), ?_⟩
  refine ⟨_, rfl, _, _, _, _, rfl, tb2.rowZ (by omega) (by omega), ?_⟩
  rw [Int.toNat_natCast, Int.toNat_natCast]
  have hb' : takeS prior p < (back.getD (takeHS prior given p) []).length := by rw [hb.2, ← g0]; exact hh
  refine ⟨hb.1.g, nn2, by omega, by omega, hb.1.pos hb', ?_⟩
  refine ⟨(by show 2 ≤ sizeLine; decide), fun u hu => ?_⟩
  have hu' := s2.free hu
  exact ⟨_, Less.new (s2.trans (same_up hu)) hu' upd_same rfl, q u hu'⟩
abbrev s_law_cell_at : Stmt := top 33
theorem sc_law_cell_at : FnScope ["script", "k"] ["script", "k"] (defScope s_law_cell_at) := ⟨rfl, rfl, rfl, by decide +kernel, rfl, by decide +kernel, by decide +kernel⟩
def sp_law_cell_at (K : PySem.W.Frag) (T : Cl) : Sp := fun vs H Q _ => ∃ (a : Addr) (ns : List Int) (k : Int), vs = [.ref a, .int k] ∧ SqL K H a (ns.map V.int) ∧ 0 ≤ k ∧ Q (.int (cellAt ns k)) H
theorem ok_law_cell_at {P : Program} {w : World} {K : PySem.W.Frag} {mg : Str → Option Value} {base : Heap} {T : Cl} (z : BI mg) (g : GC mg) (tf : TF K mg T) (D : Def K mg "_law_cell_at" s_law_cell_at ["script", "k"]) : Cal P w K mg base 1 "_law_cell_at" ["script", "k"] (sp_law_cell_at K T) := by
  refine D.ok sc_law_cell_at (fun vs H Q E h => ?_) (fun f cdv A outer s H vs Q E hr h => ?_)
  · obtain ⟨a, ns, k, rfl, hS, h0, q⟩ := h; rfl
  obtain ⟨a, ns, k, rfl, hS, h0, q⟩ := h
  refine ⟨_, (pss_cons (ps_if (pt_cmpR op_lt (pv 1) (pe_callB call_len_seq rfl z.len b_len (pa_cons (pv 0) pa_nil)) (nomark _)) (pss_one (ps_ret (pe_ix ix_list (pv 0) (pv 1) (fun _ _ => rfl)))) pss_nil)
      (pss_one (ps_ret pe_int))), ?_⟩
  have hl : (ns.map V.int).length = ns.length := List.length_map _
  refine ⟨_, rfl, _, rfl, a, _, rfl, .inl hS, _, _, rfl, rfl, _, rfl, ?_⟩
  refine ite2 (fun c => ?_) (fun c => ?_)
  · have c' : k < ((ns.map V.int).length : Int) := of_decide_eq_true c
    rw [hl] at c'
    exact ⟨_, rfl, _, rfl, a, _, _, _, rfl, rfl, hS, atZ h0 c', _, Less.refl, q⟩
  · have c' : ¬ k < ((ns.map V.int).length : Int) := of_decide_eq_false (Bool.eq_false_iff.mpr c)
    rw [hl] at c'
    have e : cellAt ns k = 0 := by
      unfold cellAt
      rw [List.getD_eq_getElem?_getD, List.getElem?_eq_none (by omega)]
      rfl
    rw [e] at q
    exact ⟨_, Less.refl, q⟩
abbrev s_law_whole : Stmt := top 34
theorem sc_law_whole : FnScope ["found"] ["found"] (defScope s_law_whole) := ⟨rfl, rfl, rfl, by decide +kernel, rfl, by decide +kernel, by decide +kernel⟩
def sp_law_whole (K : PySem.W.Frag) (T : Cl) : Sp := fun vs H Q _ => ∃ (i : Int), vs = [.int i] ∧ Q (.bl true) H
theorem ok_law_whole {P : Program} {w : World} {K : PySem.W.Frag} {mg : Str → Option Value} {base : Heap} {T : Cl} (z : BI mg) (g : GC mg) (tf : TF K mg T) (D : Def K mg "_law_whole" s_law_whole ["found"]) : Cal P w K mg base 1 "_law_whole" ["found"] (sp_law_whole K T) := by
  refine D.ok sc_law_whole (fun vs H Q E h => ?_) (fun f cdv A outer s H vs Q E hr h => ?_)
  · obtain ⟨i, rfl, q⟩ := h; rfl
  obtain ⟨i, rfl, q⟩ := h
  refine ⟨_, (pss_one (ps_ret (pe_and (pe_callB call_isinst rfl z.isinstance b_isinstance (pa_cons (pv 0) (pa_cons (pe_bty rfl z.int b_int) pa_nil))) (pe_one (pe_not (pe_callB call_isinst rfl z.isinstance b_isinstance (pa_cons (pv 0) (pa_cons (pe_bty rfl z.bool b_bool) pa_nil)))))))), ?_⟩
  refine ⟨_, rfl, _, _, _, _, rfl, .int i, kit_int_int, _, rfl, ?_⟩
  refine iteT ?_
  refine ⟨_, rfl, _, _, _, _, rfl, .int i, kit_int_bool, _, rfl, ?_⟩
  exact ⟨_, Less.refl, q⟩
abbrev s_law_draw : Stmt := top 35
theorem sc_law_draw : FnScope ["cell", "k", "bound", "one", "two"] ["cell", "k", "bound"] (defScope s_law_draw) := ⟨rfl, rfl, rfl, by decide +kernel, rfl, by decide +kernel, by decide +kernel⟩
def sp_law_draw (K : PySem.W.Frag) (T : Cl) : Sp := fun vs H Q _ => ∃ (c k b : Int), vs = [.int c, .int k, .int b] ∧ 0 ≤ k ∧ k ≤ 1000000 ∧ 0 < b ∧ Q (.int (draw c k b)) H
theorem ok_law_draw {P : Program} {w : World} {K : PySem.W.Frag} {mg : Str → Option Value} {base : Heap} {T : Cl} (z : BI mg) (g : GC mg) (tf : TF K mg T) (D : Def K mg "_law_draw" s_law_draw ["cell", "k", "bound"]) : Cal P w K mg base 1 "_law_draw" ["cell", "k", "bound"] (sp_law_draw K T) := by
  refine D.ok sc_law_draw (fun vs H Q E h => ?_) (fun f cdv A outer s H vs Q E hr h => ?_)
  · obtain ⟨c, k, b, rfl, h0, h1, hb, q⟩ := h; rfl
  obtain ⟨c, k, b, rfl, h0, h1, hb, q⟩ := h
  refine ⟨_, (pss_cons (ps_set (i := 3) sc_law_draw.nd rfl (Or.inl rfl) (pe_op op_mod (pe_op op_add (pe_op op_add (pe_op op_mul (pe_op op_mod (pv 0) pe_int) pe_int) (pe_op op_mul (pv 1) pe_int)) pe_int) pe_int))
      (pss_cons (ps_set (i := 4) sc_law_draw.nd rfl (Or.inl rfl) (pe_op op_mod (pe_op op_mul (pe_op op_add (pe_op op_mod (pv 0) pe_int) pe_int) (pe_op op_add (pe_op op_add (pe_op op_mul (pv 1) (pv 1)) (pe_op op_mul pe_int (pv 1))) pe_int)) pe_int))
      (pss_one (ps_ret (pe_op op_mod (pe_op op_fdiv (pe_op op_mul (pv 3) (pe_op op_add (pv 4) pe_int)) pe_int) (pv 2)))))), ?_⟩
  have r1 := Int.emod_nonneg c (show (1000003 : Int) ≠ 0 by decide)
  have r2 := Int.emod_lt_of_pos c (show (0 : Int) < 1000003 by decide)
  have r3 := Int.emod_nonneg c (show (7919 : Int) ≠ 0 by decide)
  have r4 := Int.emod_lt_of_pos c (show (0 : Int) < 7919 by decide)
  have r5 := Int.emod_nonneg (c % 1000003 * 48271 + k * 69621 + 11) (show (2147483647 : Int) ≠ 0 by decide)
  have r6 := Int.emod_lt_of_pos (c % 1000003 * 48271 + k * 69621 + 11) (show (0 : Int) < 2147483647 by decide)
  walk_at "r"
  exact ⟨_, Less.refl, q⟩
abbrev s_law_counts : Stmt := top 36
theorem sc_law_counts : FnScope ["cell", "many", "top", "counts"] ["cell", "many"] (defScope s_law_counts) := ⟨rfl, rfl, rfl, by decide +kernel, rfl, by decide +kernel, by decide +kernel⟩
def sp_law_counts (K : PySem.W.Frag) (T : Cl) : Sp := fun vs H Q _ => ∃ (c m : Int), vs = [.int c, .int m] ∧ 1 ≤ m ∧ m ≤ 100 ∧ ∀ p, H p = none → Q (.ref p) (upd H p (.lst ((lawCounts c m).map V.int)))
theorem ok_law_counts {P : Program} {w : World} {K : PySem.W.Frag} {mg : Str → Option Value} {base : Heap} {T : Cl} (z : BI mg) (g : GC mg) (tf : TF K mg T) (D : Def K mg "_law_counts" s_law_counts ["cell", "many"]) (C_law_draw : Cal P w K mg base 1 "_law_draw" ["cell", "k", "bound"] (sp_law_draw K T)) : Cal P w K mg base 2 "_law_counts" ["cell", "many"] (sp_law_counts K T) := by
  refine D.ok sc_law_counts (fun vs H Q E h => ?_) (fun f cdv A outer s H vs Q E hr h => ?_)
  · obtain ⟨c, m, rfl, h0, h1, q⟩ := h; rfl
  obtain ⟨c, m, rfl, h0, h1, q⟩ := h
  refine ⟨_, (pss_cons (ps_set (i := 2) sc_law_counts.nd rfl (Or.inr rfl) (pe_ix ix_list (pe_lst (pa_cons pe_int (pa_cons pe_int (pa_cons pe_int (pa_cons pe_int pa_nil))))) (pe_op op_mod (pv 0) pe_int) (fun _ _ => rfl)))
      (pss_cons (ps_setComp (i := 3) sc_law_counts.nd rfl (Or.inl rfl) (caps := [(2, "top"), (0, "cell")]) rfl (pi_range1 rfl z.range (pa_cons (pv 1) pa_nil)) ⟨rfl, by decide +kernel, by decide +kernel, rfl⟩ ⟨⟨rfl, Or.inl rfl, rfl⟩, ⟨⟨rfl, Or.inl rfl, rfl⟩, trivial⟩⟩ rfl (by decide +kernel) (fun _ _ _ _ => pts_nil) (fun _ _ _ _ => (pe_def (C_law_draw.mono (by decide)) hr rfl (pa_cons (pe_op op_fdiv (pv 2) pe_int) (pa_cons (pv 0) (pa_cons (pv 1) pa_nil))))))
      (pss_cons (ps_if (pt_cmpR op_eq (pe_callB (call_sum rfl) rfl z.sum b_sum (pa_cons (pv 3) pa_nil)) pe_int (nomark _)) (pss_one (ps_asg pe_int (pg_sub (pv 3) (pe_op op_mod (pe_op op_fdiv (pv 0) pe_int) (pv 1)) set_list))) pss_nil)
      (pss_one (ps_ret (pv 3)))))), ?_⟩
  have tr := lawTop_rng c
  have l0 := lawC0_len c m
  refine ⟨(by show 4 ≤ sizeLine; decide), fun p hp => ?_⟩
  refine ⟨_, rfl, _, _, rfl, rfl, (by show (0 : Int) < 4; decide), ?_⟩
  have r1 := Int.emod_nonneg c (show (4 : Int) ≠ 0 by decide)
  have r2 := Int.emod_lt_of_pos c (show (0 : Int) < 4 by decide)
  have et : atI ([.int 2, .int 10, .int 1000, .int 4] : List V) (c % 4) = some (.int (lawTop c)) := by
    have e4 : c % 4 = 0 ∨ c % 4 = 1 ∨ c % 4 = 2 ∨ c % 4 = 3 := by omega
    unfold lawTop
    rcases e4 with e | e | e | e <;> rw [e] <;> rfl
  refine ⟨p, _, _, _, rfl, rfl, SqL.of upd_same, et, ?_⟩
  refine ⟨_, rfl, m, rfl, by omega, by omega, fun D hD => ?_⟩
  have w := itr_walk (lo := 0) (n := m.toNat) (D := D) (H1 := upd H p (.lst [.int 2, .int 10, .int 1000, .int 4]))
  refine comp_map (fun x => match x with | .int k => .int (draw (c / 4) k (lawTop c)) | y => y) (by rw [List.length_map, List.length_range]; exact szl (by omega)) w.1 w.2 ?_ ?_
  · rintro x hx ys R r
    obtain ⟨k, hk, rfl⟩ := List.mem_map.mp hx
    have hk' := List.mem_range.mp hk
    refine ⟨_, rfl, _, _, rfl, rfl, ⟨by decide, by decide⟩, _, rfl, _, rfl, ?_⟩
    exact ⟨_, _, _, rfl, by omega, by omega, by omega, r⟩
  have ee : ((List.range m.toNat).map fun k => V.int (0 + (k : Nat))).map (fun x => match x with | .int k => V.int (draw (c / 4) k (lawTop c)) | y => y) = (lawC0 c m).map V.int := by
    unfold lawC0
    rw [List.map_map, List.map_map]
    refine List.map_congr_left fun k _ => ?_
    show V.int (draw (c / 4) (0 + (k : Nat)) (lawTop c)) = V.int (draw (c / 4) (k : Nat) (lawTop c))
    rw [Int.zero_add]
  rw [ee]
  have hDH : H D = none := by
    cases e : H D with
    | none => rfl
    | some o => rw [upd_old e hp] at hD; cases hD
  have ss : Same H (upd (upd H p (.lst [.int 2, .int 10, .int 1000, .int 4])) D (.lst ((lawC0 c m).map V.int))) := (same_up hp).trans (same_up hD)
  refine ⟨_, rfl, D, lawC0 c m, rfl, SqL.of upd_same, rfl, _, rfl, ?_⟩
  refine ite2 (fun e => ?_) (fun e => ?_)
  · have e' : (lawC0 c m).sum = 0 := V.int.inj (of_decide_eq_true e)
    have a1 := Int.emod_nonneg (c / 4) (show m ≠ 0 by omega)
    have a2 := Int.emod_lt_of_pos (c / 4) (show 0 < m by omega)
    refine ⟨_, rfl, _, rfl, _, _, rfl, rfl, ⟨by decide, by decide⟩, _, rfl, _, _, rfl, rfl, (by show 0 < m; omega), D, _, _, _, rfl, rfl, upd_same, ixZ a1 (by rw [List.length_map, l0]; omega), ?_⟩
    rw [map_set, upd_upd]
    have ef : lawCounts c m = (lawC0 c m).set (c / 4 % m).toNat 1 := by unfold lawCounts; rw [if_pos e']
    rw [← ef]
    exact ⟨_, rfl, _, Less.new ((same_up hp).trans (same_up hD)) hDH upd_same rfl, q D hDH⟩
  · have e' : ¬ (lawC0 c m).sum = 0 := fun z => e (decide_eq_true (by rw [z]))
    have ef : lawCounts c m = lawC0 c m := by unfold lawCounts; rw [if_neg e']
    rw [← ef]
    exact ⟨_, rfl, _, Less.new ((same_up hp).trans (same_up hD)) hDH upd_same rfl, q D hDH⟩
abbrev s_law_held : Stmt := top 37
theorem sc_law_held : FnScope ["counts"] ["counts"] (defScope s_law_held) := ⟨rfl, rfl, rfl, by decide +kernel, rfl, by decide +kernel, by decide +kernel⟩
def sp_law_held (K : PySem.W.Frag) (T : Cl) : Sp := fun vs H Q _ => ∃ (a : Addr) (ns : List Int), vs = [.ref a] ∧ SqL K H a (ns.map V.int) ∧ ns.length ≤ 100 ∧ ∀ p, H p = none → Q (.ref p) (upd H p (.lst ((heldN ns).map V.int)))
theorem ok_law_held {P : Program} {w : World} {K : PySem.W.Frag} {mg : Str → Option Value} {base : Heap} {T : Cl} (z : BI mg) (g : GC mg) (tf : TF K mg T) (D : Def K mg "_law_held" s_law_held ["counts"]) : Cal P w K mg base 1 "_law_held" ["counts"] (sp_law_held K T) := by
  refine D.ok sc_law_held (fun vs H Q E h => ?_) (fun f cdv A outer s H vs Q E hr h => ?_)
  · obtain ⟨a, ns, rfl, hS, hl, q⟩ := h; rfl
  obtain ⟨a, ns, rfl, hS, hl, q⟩ := h
  refine ⟨_, (pss_one (ps_ret (pe_comp (caps := [(0, "counts")]) rfl (pi_range1 rfl z.range (pa_cons (pe_callB call_len_seq rfl z.len b_len (pa_cons (pv 0) pa_nil)) pa_nil)) ⟨rfl, by decide +kernel, by decide +kernel, rfl⟩ ⟨⟨rfl, Or.inl rfl, rfl⟩, trivial⟩ rfl (by decide +kernel) (fun _ _ _ _ => pts_one (pt_cmpR op_gt (pe_ix (ix_listK (K := K) rfl) (pv 1) (pv 0) (fun _ _ => rfl)) pe_int (nomark _))) (fun _ _ _ _ => (pv 0))))), ?_⟩
  have el : (ns.map V.int).length = ns.length := List.length_map _
  refine ⟨_, rfl, a, _, rfl, .inl hS, _, rfl, by omega, by omega, fun D hD => ?_⟩
  rw [Int.toNat_natCast, el]
  have w := itr_walk (lo := 0) (n := ns.length) (D := D) (H1 := H)
  refine comp_filter (heldP ns) id (by rw [List.length_map, List.length_range]; exact szl (by omega)) w.1 w.2 ?_ ?_ ?_
  · rintro x hx ys R r
    obtain ⟨k, hk, rfl⟩ := List.mem_map.mp hx
    have hk' := List.mem_range.mp hk
    refine ⟨_, rfl, _, rfl, a, _, _, _, rfl, rfl, hS.up hD, atZ (by omega) (by omega), _, _, rfl, rfl, _, rfl, ?_⟩
    exact r
  · rintro x hx _ ys R r
    exact ⟨_, rfl, r⟩
  rw [held_comp]
  exact ⟨_, Less.new (same_up hD) hD upd_same rfl, q D hD⟩
abbrev s_law_pile : Stmt := top 38
theorem sc_law_pile : FnScope ["cell"] ["cell"] (defScope s_law_pile) := ⟨rfl, rfl, rfl, by decide +kernel, rfl, by decide +kernel, by decide +kernel⟩
def sp_law_pile (K : PySem.W.Frag) (T : Cl) : Sp := fun vs H Q _ => ∃ (c : Int), vs = [.int c] ∧ Q (.int (lawPile c)) H
theorem ok_law_pile {P : Program} {w : World} {K : PySem.W.Frag} {mg : Str → Option Value} {base : Heap} {T : Cl} (z : BI mg) (g : GC mg) (tf : TF K mg T) (D : Def K mg "_law_pile" s_law_pile ["cell"]) : Cal P w K mg base 1 "_law_pile" ["cell"] (sp_law_pile K T) := by
  refine D.ok sc_law_pile (fun vs H Q E h => ?_) (fun f cdv A outer s H vs Q E hr h => ?_)
  · obtain ⟨c, rfl, q⟩ := h; rfl
  obtain ⟨c, rfl, q⟩ := h
  refine ⟨_, (pss_cons (ps_if (pt_cmpR op_eq (pe_op op_mod (pv 0) pe_int) pe_int (nomark _)) (pss_one (ps_ret (pe_op op_mod (pe_op op_fdiv (pv 0) pe_int) pe_int))) pss_nil)
      (pss_one (ps_ret (pe_op op_mod (pe_op op_fdiv (pv 0) pe_int) (pe_op op_pow pe_int pe_int))))), ?_⟩
  walk_at "r"
  refine ite2 (fun e => ?_) (fun e => ?_)
  · have e' : c % 4 = 1 := V.int.inj (of_decide_eq_true e)
    have ep : lawPile c = c / 4 % 30 := by unfold lawPile; rw [if_pos e']
    rw [ep] at q
    walk_at "r"
    exact ⟨_, Less.refl, q⟩
  · have e' : ¬ c % 4 = 1 := fun z => e (decide_eq_true (by show V.int (c % 4) = V.int 1; rw [z]))
    have ep : lawPile c = c / 4 % 10 ^ 60 := by unfold lawPile; rw [if_neg e']
    rw [ep] at q
    refine ⟨_, rfl, _, _, rfl, rfl, ⟨by decide, by decide⟩, _, _, rfl, rfl, ⟨by decide, by decide, by decide⟩, _, _, rfl, rfl, (by show (0 : Int) < 10 ^ 60; decide), ?_⟩
    exact ⟨_, Less.refl, q⟩
abbrev s_law_full : Stmt := top 39
theorem sc_law_full : FnScope ["cell", "many"] ["cell", "many"] (defScope s_law_full) := ⟨rfl, rfl, rfl, by decide +kernel, rfl, by decide +kernel, by decide +kernel⟩
def sp_law_full (K : PySem.W.Frag) (T : Cl) : Sp := fun vs H Q _ => ∃ (c m : Int), vs = [.int c, .int m] ∧ 1 ≤ m ∧ m ≤ 100 ∧ ∀ p, H p = none → Q (.ref p) (upd H p (.lst ((lawFull c m 40).map V.int)))
theorem ok_law_full {P : Program} {w : World} {K : PySem.W.Frag} {mg : Str → Option Value} {base : Heap} {T : Cl} (z : BI mg) (g : GC mg) (tf : TF K mg T) (D : Def K mg "_law_full" s_law_full ["cell", "many"]) (C_law_draw : Cal P w K mg base 1 "_law_draw" ["cell", "k", "bound"] (sp_law_draw K T)) : Cal P w K mg base 2 "_law_full" ["cell", "many"] (sp_law_full K T) := by
  refine D.ok sc_law_full (fun vs H Q E h => ?_) (fun f cdv A outer s H vs Q E hr h => ?_)
  · obtain ⟨c, m, rfl, h0, h1, q⟩ := h; rfl
  obtain ⟨c, m, rfl, h0, h1, q⟩ := h
  refine ⟨_, (pss_one (ps_ret (pe_comp (caps := [(0, "cell")]) rfl (pi_range1 rfl z.range (pa_cons (pv 1) pa_nil)) ⟨rfl, by decide +kernel, by decide +kernel, rfl⟩ ⟨⟨rfl, Or.inl rfl, rfl⟩, trivial⟩ rfl (by decide +kernel) (fun _ _ _ _ => pts_nil) (fun _ _ _ _ => (pe_op op_add pe_int (pe_def (C_law_draw.mono (by decide)) hr rfl (pa_cons (pv 1) (pa_cons (pv 0) (pa_cons pe_int pa_nil))))))))), ?_⟩
  refine ⟨_, rfl, m, rfl, by omega, by omega, fun D hD => ?_⟩
  have w := itr_walk (lo := 0) (n := m.toNat) (D := D) (H1 := H)
  refine comp_map (fullV c 40) (by rw [List.length_map, List.length_range]; exact szl (by omega)) w.1 w.2 ?_ ?_
  · rintro x hx ys R r
    obtain ⟨k, hk, rfl⟩ := List.mem_map.mp hx
    have hk' := List.mem_range.mp hk
    refine ⟨_, rfl, _, rfl, _, _, _, rfl, by omega, by omega, by decide, ?_⟩
    exact ⟨_, _, rfl, rfl, r⟩
  rw [full_comp]
  exact ⟨_, Less.new (same_up hD) hD upd_same rfl, q D hD⟩
abbrev s_law_tools : Stmt := top 40
theorem sc_law_tools : FnScope ["script", "tables", "counts"] ["script"] (defScope s_law_tools) := ⟨rfl, rfl, rfl, by decide +kernel, rfl, by decide +kernel, by decide +kernel⟩
def sp_law_tools (K : PySem.W.Frag) (T : Cl) : Sp := fun vs H Q _ => ∃ (a : Addr) (ns : List Int), vs = [.ref a] ∧ SqL K H a (ns.map V.int) ∧ ∀ (D : Tl) t H', ToolsAt K T H' t D → Same H H' → Q (.ref t) H'
theorem ok_law_tools {P : Program} {w : World} {K : PySem.W.Frag} {mg : Str → Option Value} {base : Heap} {T : Cl} (z : BI mg) (g : GC mg) (tf : TF K mg T) (D : Def K mg "_law_tools" s_law_tools ["script"]) (C_law_full : Cal P w K mg base 2 "_law_full" ["cell", "many"] (sp_law_full K T)) (C_law_cell_at : Cal P w K mg base 1 "_law_cell_at" ["script", "k"] (sp_law_cell_at K T)) (C_law_counts : Cal P w K mg base 2 "_law_counts" ["cell", "many"] (sp_law_counts K T)) (C_Learner : CalA P w K mg base 3 "Learner" (sp_Learner K T)) (C_Follower : CalA P w K mg base 5 "Follower" (sp_Follower K T)) : Cal P w K mg base 6 "_law_tools" ["script"] (sp_law_tools K T) := by
  refine D.okH sc_law_tools (fun vs H Q E h => ?_) (fun f cdv A outer s H vs Q E hr h => ?_)
  · obtain ⟨a, ns, rfl, hS, q⟩ := h; rfl
  obtain ⟨a, ns, rfl, hS, q⟩ := h
  refine ⟨_, (pss_cons (ps_set (i := 1) sc_law_tools.nd rfl (Or.inl rfl) (pe_lst (pa_cons (pe_def (C_law_full.mono (by decide)) hr rfl (pa_cons (pe_def (C_law_cell_at.mono (by decide)) hr rfl (pa_cons (pv 0) (pa_cons pe_int pa_nil))) (pa_cons pe_int pa_nil))) pa_nil)))
      (pss_cons (ps_expr (pe_bm PySem.F.plainAttrs_list PySem.F.slot_list_append PySem.F.type_list_append mt_append (pv 1) (pa_cons (pe_comp (caps := [(0, "script")]) rfl (pi_range1 rfl z.range (pa_cons pe_int pa_nil)) ⟨rfl, by decide +kernel, by decide +kernel, rfl⟩ ⟨⟨rfl, Or.inl rfl, rfl⟩, trivial⟩ rfl (by decide +kernel) (fun _ _ _ _ => pts_nil) (fun _ _ _ _ => (pe_def (C_law_full.mono (by decide)) hr rfl (pa_cons (pe_op op_add (pe_def (C_law_cell_at.mono (by decide)) hr rfl (pa_cons (pv 1) (pa_cons pe_int pa_nil))) (pe_op op_mul pe_int (pv 0))) (pa_cons pe_int pa_nil))))) pa_nil)))
      (pss_cons (ps_expr (pe_bm PySem.F.plainAttrs_list PySem.F.slot_list_append PySem.F.type_list_append mt_append (pv 1) (pa_cons (pe_comp (caps := [(0, "script")]) rfl (pi_range1 rfl z.range (pa_cons pe_int pa_nil)) ⟨rfl, by decide +kernel, by decide +kernel, rfl⟩ ⟨⟨rfl, Or.inl rfl, rfl⟩, trivial⟩ rfl (by decide +kernel) (fun _ _ _ _ => pts_nil) (fun _ _ _ _ => (pe_def (C_law_full.mono (by decide)) hr rfl (pa_cons (pe_op op_add (pe_def (C_law_cell_at.mono (by decide)) hr rfl (pa_cons (pv 1) (pa_cons pe_int pa_nil))) (pe_op op_mul pe_int (pv 0))) (pa_cons pe_int pa_nil))))) pa_nil)))
      (pss_cons (ps_set (i := 2) sc_law_tools.nd rfl (Or.inl rfl) (pe_def (C_law_counts.mono (by decide)) hr rfl (pa_cons (pe_def (C_law_cell_at.mono (by decide)) hr rfl (pa_cons (pv 0) (pa_cons pe_int pa_nil))) (pa_cons pe_int pa_nil))))
      (pss_one (ps_ret (pe_lst (pa_cons (pv 2) (pa_cons (pe_cal (C_Learner.mono (by decide)) hr rfl (pa_cons pe_int (pa_cons pe_int pa_nil))) (pa_cons (pe_cal (C_Follower.mono (by decide)) hr rfl (pa_cons pe_int (pa_cons pe_int pa_nil))) (pa_cons (pv 1) pa_nil))))))))))), ?_⟩
  refine ⟨_, rfl, a, ns, 1, rfl, hS, by decide, _, _, rfl, by decide, by decide, fun p hp => ?_⟩
  have fp := full_ok (cellAt ns 1) (m := 3) (t := 40) (by decide) (by decide) (by decide) (by decide)
  have lp := full_len (cellAt ns 1) 3 40
  generalize lawFull (cellAt ns 1) 3 40 = pr at fp lp ⊢
  have a1 := hS.up (u := .lst (pr.map V.int)) hp
  have p1 : (upd H p (.lst (pr.map V.int))) p = some (.lst (pr.map V.int)) := upd_same
  have s1 := same_up (u := .lst (pr.map V.int)) hp
  generalize upd H p (.lst (pr.map V.int)) = H1 at a1 p1 s1 ⊢
  refine ⟨(by show 1 ≤ sizeLine; decide), fun tb htb => ?_⟩
  have a2 := a1.up (u := .lst [.ref p]) htb
  have p2 := upd_old (u := .lst [.ref p]) p1 htb
  have s2 := s1.trans (same_up (u := .lst [.ref p]) htb)
  have t2 : (upd H1 tb (.lst [.ref p])) tb = some (.lst [.ref p]) := upd_same
  have npt : p ≠ tb := ne_of_none p1 htb
  have htH : H tb = none := s1.free htb
  generalize upd H1 tb (.lst [.ref p]) = H2 at a2 p2 s2 t2 ⊢
  -- given
  refine ⟨_, rfl, .inl ⟨rfl, _, SqL.of t2⟩, _, rfl, by decide, by decide, fun g hg => ?_⟩
  have w := itr_same (lo := 0) (n := (3 : Int).toNat) (H1 := H2)
  refine comp_tab (fun i => .int (0 + (i : Nat))) (fun i => lawFull (cellAt ns 1 + 7 * (0 + ((i : Nat) : Int))) 4 40) (szl (by decide)) hg w.1 w.2 ?_ ?_
  · intro i H' R hi s r
    refine ⟨_, rfl, a, ns, 1, rfl, s.seq a2, by decide, ?_⟩
    walk_at "r"
    exact ⟨_, _, rfl, by decide, by decide, r⟩
  intro gs H3 T3
  have lg : ((List.range (3 : Int).toNat).map fun i => lawFull (cellAt ns 1 + 7 * (0 + ((i : Nat) : Int))) 4 40).length = 3 := by simp
  have fg : ∀ i, i < 3 → Full (((List.range (3 : Int).toNat).map fun i => lawFull (cellAt ns 1 + 7 * (0 + ((i : Nat) : Int))) 4 40).getD i []) ∧ (((List.range (3 : Int).toNat).map fun i => lawFull (cellAt ns 1 + 7 * (0 + ((i : Nat) : Int))) 4 40).getD i []).length = 4 := fun i hi => by
    rw [getD_rng (n := (3 : Int).toNat) _ hi]
    exact ⟨full_ok _ (by decide) (by decide) (by decide) (by decide), full_len _ _ _⟩
  generalize ((List.range (3 : Int).toNat).map fun i => lawFull (cellAt ns 1 + 7 * (0 + ((i : Nat) : Int))) 4 40) = given at T3 lg fg ⊢
  have t3 := T3.sm _ _ t2
  refine ⟨tb, _, _, rfl, rfl, t3, small1000 (by show 1 ≤ 1000; decide), ?_⟩
  have up3 : ∀ b o, H3 b = some o → b ≠ tb → (upd H3 tb (.lst ([.ref p] ++ [.ref g]))) b = some o := fun b o e n => by rw [upd_ne n]; exact e
  have p4 := up3 _ _ (T3.sm _ _ p2) npt
  have g4 : KeptAt (upd H3 tb (.lst ([.ref p] ++ [.ref g]))) g gs given := T3.kp.frame fun b o hb e => up3 b o e fun z => by rw [z] at hb; have := T3.fr tb hb; rw [t2] at this; cases this
  have s4 : Same H (upd H3 tb (.lst ([.ref p] ++ [.ref g]))) := fun b o e => up3 b o (T3.sm _ _ (s2 _ _ e)) (ne_of_none e htH)
  have t4 : (upd H3 tb (.lst ([.ref p] ++ [.ref g]))) tb = some (.lst [.ref p, .ref g]) := upd_same
  generalize upd H3 tb (.lst ([.ref p] ++ [.ref g])) = H4 at p4 g4 s4 t4 ⊢
  have a4 := s4.seq hS
  have ngt : ∀ b ∈ g :: gs, b ≠ tb := fun b hb z => by rw [z] at hb; have := T3.fr tb hb; rw [t2] at this; cases this
  -- back
  refine ⟨_, rfl, .inl ⟨rfl, _, SqL.of t4⟩, _, rfl, by decide, by decide, fun b hb => ?_⟩
  have w := itr_same (lo := 0) (n := (4 : Int).toNat) (H1 := H4)
  refine comp_tab (fun i => .int (0 + (i : Nat))) (fun i => lawFull (cellAt ns 1 + 9 * (0 + ((i : Nat) : Int))) 3 40) (szl (by decide)) hb w.1 w.2 ?_ ?_
  · intro i H' R hi s r
    refine ⟨_, rfl, a, ns, 1, rfl, s.seq a4, by decide, ?_⟩
    walk_at "r"
    exact ⟨_, _, rfl, by decide, by decide, r⟩
  intro bs H5 T5
  have lb : ((List.range (4 : Int).toNat).map fun i => lawFull (cellAt ns 1 + 9 * (0 + ((i : Nat) : Int))) 3 40).length = 4 := by simp
  have fb : ∀ i, i < 4 → Full (((List.range (4 : Int).toNat).map fun i => lawFull (cellAt ns 1 + 9 * (0 + ((i : Nat) : Int))) 3 40).getD i []) ∧ (((List.range (4 : Int).toNat).map fun i => lawFull (cellAt ns 1 + 9 * (0 + ((i : Nat) : Int))) 3 40).getD i []).length = 3 := fun i hi => by
    rw [getD_rng (n := (4 : Int).toNat) _ hi]
    exact ⟨full_ok _ (by decide) (by decide) (by decide) (by decide), full_len _ _ _⟩
  generalize ((List.range (4 : Int).toNat).map fun i => lawFull (cellAt ns 1 + 9 * (0 + ((i : Nat) : Int))) 3 40) = back at T5 lb fb ⊢
  have t5 := T5.sm _ _ t4
  refine ⟨tb, _, _, rfl, rfl, t5, small1000 (by show 2 ≤ 1000; decide), ?_⟩
  have up5 : ∀ b' o, H5 b' = some o → b' ≠ tb → (upd H5 tb (.lst ([.ref p, .ref g] ++ [.ref b]))) b' = some o := fun b' o e n => by rw [upd_ne n]; exact e
  have p6 := up5 _ _ (T5.sm _ _ p4) npt
  have g6 : KeptAt (upd H5 tb (.lst ([.ref p, .ref g] ++ [.ref b]))) g gs given := g4.frame fun b' o hb' e => up5 b' o (T5.sm _ _ e) (ngt b' hb')
  have b6 : KeptAt (upd H5 tb (.lst ([.ref p, .ref g] ++ [.ref b]))) b bs back := T5.kp.frame fun b' o hb' e => up5 b' o e fun z => by rw [z] at hb'; have := T5.fr tb hb'; rw [t4] at this; cases this
  have s6 : Same H (upd H5 tb (.lst ([.ref p, .ref g] ++ [.ref b]))) := fun b' o e => up5 b' o (T5.sm _ _ (s4 _ _ e)) (ne_of_none e htH)
  have t6 : (upd H5 tb (.lst ([.ref p, .ref g] ++ [.ref b]))) tb = some (.lst [.ref p, .ref g, .ref b]) := upd_same
  generalize upd H5 tb (.lst ([.ref p, .ref g] ++ [.ref b])) = H6 at p6 g6 b6 s6 t6 ⊢
  have a6 := s6.seq hS
  have tt : Tabs pr given back := ⟨fp, by rw [lg, lp]; rfl, fun i hi => by rw [lb]; exact fg i (by omega), fun i hi => by rw [lp]; exact fb i (by omega)⟩
  -- counts
  refine ⟨_, rfl, a, ns, 2, rfl, a6, by decide, _, _, rfl, by decide, by decide, fun c hc => ?_⟩
  have gc := lawCounts_good (cellAt ns 2) (many := 4) (by decide) (by decide)
  have cl := lawCounts_len (cellAt ns 2) 4
  generalize lawCounts (cellAt ns 2) 4 = cs at gc cl ⊢
  have s7 := same_up (u := .lst (cs.map V.int)) hc
  have c7 : (upd H6 c (.lst (cs.map V.int))) c = some (.lst (cs.map V.int)) := upd_same
  generalize upd H6 c (.lst (cs.map V.int)) = H7 at s7 c7 ⊢
  refine ⟨_, rfl, 4, 3, rfl, by decide, by decide, by decide, by decide, fun x l H8 nx nl la s8 => ?_⟩
  refine ⟨4, 2, rfl, by decide, by decide, by decide, by decide, fun y own H9 mo no s9 => ?_⟩
  refine ⟨_, rfl, (by show 4 ≤ sizeLine; decide), fun t ht => ?_⟩
  have sa := same_up (u := .lst [.ref c, .ref x, .ref y, .ref tb]) ht
  have s79 := (s7.trans s8).trans (s9.trans sa)
  refine q ⟨cs, pr, given, back⟩ t _ ⟨⟨gc, cl, tt, lb⟩, c, x, y, tb, p, g, b, [x, l], own, gs, bs, upd_same, (s8.trans (s9.trans sa)) _ _ c7, ⟨l, rfl, la.same (s9.trans sa)⟩, mo.same sa, s79 _ _ t6, s79 _ _ p6, g6.same s79, b6.same s79⟩ (s6.trans s79)
abbrev s_law_lay : Stmt := top 41
theorem sc_law_lay : FnScope ["tools", "pile", "kind", "row"] ["tools", "pile", "kind", "row"] (defScope s_law_lay) := ⟨rfl, rfl, rfl, by decide +kernel, rfl, by decide +kernel, by decide +kernel⟩
def sp_law_lay (K : PySem.W.Frag) (T : Cl) : Sp := fun vs H Q _ => ∃ (t r : Addr) (p kind : Int) (rs : List Int) (D : Tl), vs = [.ref t, .int p, .int kind, .ref r] ∧ ToolsAt K T H t D ∧ SqL K H r (rs.map V.int) ∧ 0 ≤ p ∧ 0 ≤ kind ∧ kind < 4 ∧ DeedOk D kind rs ∧ Q (.int (dLay D kind p rs)) H
theorem ok_law_lay {P : Program} {w : World} {K : PySem.W.Frag} {mg : Str → Option Value} {base : Heap} {T : Cl} (z : BI mg) (g : GC mg) (tf : TF K mg T) (D : Def K mg "_law_lay" s_law_lay ["tools", "pile", "kind", "row"]) (C_lay : Cal P w K mg base 3 "lay" ["pile", "counts", "sign"] (sp_lay K T)) (C_lay_hidden : Cal P w K mg base 5 "lay_hidden" ["pile", "prior", "given", "back", "sign"] (sp_lay_hidden K T)) (C_press : Cal P w K mg base 7 "press" ["pile", "model", "row"] (sp_press K T)) : Cal P w K mg base 8 "_law_lay" ["tools", "pile", "kind", "row"] (sp_law_lay K T) := by
  refine D.ok sc_law_lay (fun vs H Q E h => ?_) (fun f cdv A outer s H vs Q E hr h => ?_)
  · obtain ⟨t, r, p, kind, rs, D, rfl, ⟨o, ca, lx, fx, tb, pa, ga, ba, lo, fo, gs, bs, h1, h2, h3, h4, h5, h6, h7, h8⟩, hR, hp, k0, k1, dk, q⟩ := h; rfl
  obtain ⟨t, r, p, kind, rs, D, rfl, ⟨o, ca, lx, fx, tb, pa, ga, ba, lo, fo, gs, bs, h1, h2, h3, h4, h5, h6, h7, h8⟩, hR, hp, k0, k1, dk, q⟩ := h
  refine ⟨_, (pss_cons (ps_if (pt_cmpR op_eq (pv 2) pe_int (nomark _)) (pss_one (ps_ret (pe_def (C_lay.mono (by decide)) hr rfl (pa_cons (pv 1) (pa_cons (pe_callTy call_list_of rfl z.list b_list (pa_cons (pe_ix ix_list (pv 0) pe_int (fun _ _ => rfl)) pa_nil)) (pa_cons (pe_ix ix_list (pv 3) pe_int (fun _ _ => rfl)) pa_nil)))))) pss_nil)
      (pss_cons (ps_if (pt_cmpR op_eq (pv 2) pe_int (nomark _)) (pss_one (ps_ret (pe_def (C_lay_hidden.mono (by decide)) hr rfl (pa_cons (pv 1) (pa_cons (pe_ix ix_list (pe_ix ix_list (pv 0) pe_int (fun _ _ => rfl)) pe_int (fun _ _ => rfl)) (pa_cons (pe_ix ix_list (pe_ix ix_list (pv 0) pe_int (fun _ _ => rfl)) pe_int (fun _ _ => rfl)) (pa_cons (pe_ix ix_list (pe_ix ix_list (pv 0) pe_int (fun _ _ => rfl)) pe_int (fun _ _ => rfl)) (pa_cons (pe_ix ix_list (pv 3) pe_int (fun _ _ => rfl)) pa_nil)))))))) pss_nil)
      (pss_one (ps_ret (pe_def (C_press.mono (by decide)) hr rfl (pa_cons (pv 1) (pa_cons (pe_ix ix_list (pv 0) (pv 2) (fun _ _ => rfl)) (pa_cons (pe_callTy call_list_of rfl z.list b_list (pa_cons (pv 3) pa_nil)) pa_nil)))))))), ?_⟩
  walk_at "r"
  refine ite2 (fun e => ?_) (fun e => ?_)
  · have e' : kind = 0 := V.int.inj (of_decide_eq_true e)
    unfold DeedOk at dk
    unfold dLay at q
    rw [if_pos e'] at dk q
    obtain ⟨k, rfl, z0, z1, z2⟩ := dk
    refine ⟨_, rfl, _, rfl, t, _, _, _, rfl, rfl, SqL.of h1, rfl, ca, _, rfl, .inl (SqL.of h2), fun l hl => ?_⟩
    refine ⟨_, rfl, r, _, _, _, rfl, rfl, hR.up hl, rfl, p, l, D.cs, k, rfl, SqL.of upd_same, o.gc, hp, z0, z1, z2, ?_⟩
    exact ⟨_, Less.same (same_up hl), q⟩
  have n0 : ¬ kind = 0 := fun z => e (decide_eq_true (by rw [z]))
  walk_at "r"
  refine ite2 (fun e => ?_) (fun e => ?_)
  · have e' : kind = 3 := V.int.inj (of_decide_eq_true e)
    unfold DeedOk at dk
    unfold dLay at q
    rw [if_neg n0, if_pos e'] at dk q
    obtain ⟨k, rfl, z0, z1⟩ := dk
    have bl := o.bl
    refine ⟨_, rfl, _, rfl, t, _, _, _, rfl, rfl, SqL.of h1, rfl, tb, _, _, _, rfl, rfl, SqL.of h5, rfl, ?_⟩
    refine ⟨_, rfl, t, _, _, _, rfl, rfl, SqL.of h1, rfl, tb, _, _, _, rfl, rfl, SqL.of h5, rfl, ?_⟩
    refine ⟨_, rfl, t, _, _, _, rfl, rfl, SqL.of h1, rfl, tb, _, _, _, rfl, rfl, SqL.of h5, rfl, ?_⟩
    refine ⟨_, rfl, r, _, _, _, rfl, rfl, hR, rfl, p, k, pa, ga, ba, gs, bs, D.pr, D.given, D.back, rfl, SqL.of h6, h7.tab, h8.tab, o.tt, hp, z0, by omega, ?_⟩
    exact ⟨_, Less.refl, q⟩
  have n3 : ¬ kind = 3 := fun z => e (decide_eq_true (by rw [z]))
  have dl := dk.len
  unfold DeedOk at dk
  unfold dLay at q
  rw [if_neg n0, if_neg n3] at dk q
  have e12 : kind = 1 ∨ kind = 2 := by omega
  rcases e12 with rfl | rfl
  · refine ⟨_, rfl, _, rfl, _, rfl, t, _, _, _, rfl, rfl, SqL.of h1, rfl, _, rfl, r, _, rfl, .inl hR, fun l hl => ?_⟩
    refine ⟨p, lx, lo, mdlK 1, l, rs, rfl, h3.same (same_up hl), trivial, mdlK_good 1, SqL.of upd_same, hp, dk.2, by omega, ?_⟩
    exact ⟨_, Less.same (same_up hl), q⟩
  · refine ⟨_, rfl, _, rfl, _, rfl, t, _, _, _, rfl, rfl, SqL.of h1, rfl, _, rfl, r, _, rfl, .inl hR, fun l hl => ?_⟩
    refine ⟨p, fx, fo, mdlK 2, l, rs, rfl, h4.same (same_up hl), trivial, mdlK_good 2, SqL.of upd_same, hp, dk.2, by omega, ?_⟩
    exact ⟨_, Less.same (same_up hl), q⟩
abbrev s_law_take : Stmt := top 42
theorem sc_law_take : FnScope ["tools", "pile", "kind", "found"] ["tools", "pile", "kind"] (defScope s_law_take) := ⟨rfl, rfl, rfl, by decide +kernel, rfl, by decide +kernel, by decide +kernel⟩
def sp_law_take (K : PySem.W.Frag) (T : Cl) : Sp := fun vs H Q _ => ∃ (t : Addr) (p kind : Int) (D : Tl), vs = [.ref t, .int p, .int kind] ∧ ToolsAt K T H t D ∧ 0 ≤ p ∧ 0 ≤ kind ∧ kind < 4 ∧ ∀ r u, H r = none → (upd H r (.lst ((dTake D kind p).1.map V.int))) u = none → Q (.ref u) (upd (upd H r (.lst ((dTake D kind p).1.map V.int))) u (.tup [.ref r, .int (dTake D kind p).2]))
theorem ok_law_take {P : Program} {w : World} {K : PySem.W.Frag} {mg : Str → Option Value} {base : Heap} {T : Cl} (z : BI mg) (g : GC mg) (tf : TF K mg T) (D : Def K mg "_law_take" s_law_take ["tools", "pile", "kind"]) (C_take : Cal P w K mg base 4 "take" ["pile", "counts"] (sp_take K T)) (C_take_hidden : Cal P w K mg base 5 "take_hidden" ["pile", "prior", "given", "back"] (sp_take_hidden K T)) (C_read : Cal P w K mg base 7 "read" ["pile", "model", "many"] (sp_read K T)) : Cal P w K mg base 8 "_law_take" ["tools", "pile", "kind"] (sp_law_take K T) := by
  refine D.ok sc_law_take (fun vs H Q E h => ?_) (fun f cdv A outer s H vs Q E hr h => ?_)
  · obtain ⟨t, p, kind, D, rfl, ⟨o, ca, lx, fx, tb, pa, ga, ba, lo, fo, gs, bs, h1, h2, h3, h4, h5, h6, h7, h8⟩, hp, k0, k1, q⟩ := h; rfl
  obtain ⟨t, p, kind, D, rfl, ⟨o, ca, lx, fx, tb, pa, ga, ba, lo, fo, gs, bs, h1, h2, h3, h4, h5, h6, h7, h8⟩, hp, k0, k1, q⟩ := h
  refine ⟨_, (pss_cons (ps_if (pt_cmpR op_eq (pv 2) pe_int (nomark _)) (pss_cons (ps_set (i := 3) sc_law_take.nd rfl (Or.inl rfl) (pe_def (C_take.mono (by decide)) hr rfl (pa_cons (pv 1) (pa_cons (pe_callTy call_list_of rfl z.list b_list (pa_cons (pe_ix ix_list (pv 0) pe_int (fun _ _ => rfl)) pa_nil)) pa_nil))))
      (pss_one (ps_ret (pe_tup (pa_cons (pe_lst (pa_cons (pe_ix ix_tup (pv 3) pe_int (fun _ _ => rfl)) pa_nil)) (pa_cons (pe_ix ix_tup (pv 3) pe_int (fun _ _ => rfl)) pa_nil)))))) pss_nil)
      (pss_cons (ps_if (pt_cmpR op_eq (pv 2) pe_int (nomark _)) (pss_cons (ps_set (i := 3) sc_law_take.nd rfl (Or.inl rfl) (pe_def (C_take_hidden.mono (by decide)) hr rfl (pa_cons (pv 1) (pa_cons (pe_ix ix_list (pe_ix ix_list (pv 0) pe_int (fun _ _ => rfl)) pe_int (fun _ _ => rfl)) (pa_cons (pe_ix ix_list (pe_ix ix_list (pv 0) pe_int (fun _ _ => rfl)) pe_int (fun _ _ => rfl)) (pa_cons (pe_ix ix_list (pe_ix ix_list (pv 0) pe_int (fun _ _ => rfl)) pe_int (fun _ _ => rfl)) pa_nil))))))
      (pss_one (ps_ret (pe_tup (pa_cons (pe_lst (pa_cons (pe_ix ix_tup (pv 3) pe_int (fun _ _ => rfl)) pa_nil)) (pa_cons (pe_ix ix_tup (pv 3) pe_int (fun _ _ => rfl)) pa_nil)))))) pss_nil)
      (pss_one (ps_ret (pe_def (C_read.mono (by decide)) hr rfl (pa_cons (pv 1) (pa_cons (pe_ix ix_list (pv 0) (pv 2) (fun _ _ => rfl)) (pa_cons pe_int pa_nil)))))))), ?_⟩
  walk_at "r"
  refine ite2 (fun e => ?_) (fun e => ?_)
  · have e' : kind = 0 := V.int.inj (of_decide_eq_true e)
    unfold dTake at q
    rw [if_pos e'] at q
    refine ⟨_, rfl, _, rfl, t, _, _, _, rfl, rfl, SqL.of h1, rfl, ca, _, rfl, .inl (SqL.of h2), fun l hl => ?_⟩
    refine ⟨p, l, D.cs, rfl, SqL.of upd_same, o.gc, hp, fun f hf => ?_⟩
    have s2 := (same_up (u := .lst (D.cs.map V.int)) hl).trans (same_up (u := .tup [.int ((takeS D.cs p : Nat) : Int), .int (takeP D.cs p)]) hf)
    have f2 : (upd (upd H l (.lst (D.cs.map V.int))) f (.tup [.int ((takeS D.cs p : Nat) : Int), .int (takeP D.cs p)])) f = some (.tup [.int ((takeS D.cs p : Nat) : Int), .int (takeP D.cs p)]) := upd_same
    generalize upd (upd H l (.lst (D.cs.map V.int))) f (.tup [.int ((takeS D.cs p : Nat) : Int), .int (takeP D.cs p)]) = H2 at s2 f2 ⊢
    refine ⟨_, rfl, f, _, _, _, rfl, rfl, SqT.of f2, rfl, (by show 1 ≤ sizeLine; decide), fun r hr' => ?_⟩
    refine ⟨_, rfl, f, _, _, _, rfl, rfl, SqT.of (upd_old f2 hr'), rfl, (by show 2 ≤ sizeLine; decide), fun u hu => ?_⟩
    have hrH := s2.free hr'
    have nur : u ≠ r := fun z => by rw [z, upd_same] at hu; cases hu
    have huH : (upd H r (.lst [.int ((takeS D.cs p : Nat) : Int)])) u = none := by rw [upd_ne nur]; rw [upd_ne nur] at hu; exact s2.free hu
    exact ⟨_, Less.add (Less.new ((s2.trans (same_up hr')).trans (same_up hu)) hrH (upd_old upd_same hu) rfl) huH upd_same rfl, q r u hrH huH⟩
  have n0 : ¬ kind = 0 := fun z => e (decide_eq_true (by rw [z]))
  walk_at "r"
  refine ite2 (fun e => ?_) (fun e => ?_)
  · have e' : kind = 3 := V.int.inj (of_decide_eq_true e)
    unfold dTake at q
    rw [if_neg n0, if_pos e'] at q
    refine ⟨_, rfl, _, rfl, t, _, _, _, rfl, rfl, SqL.of h1, rfl, tb, _, _, _, rfl, rfl, SqL.of h5, rfl, ?_⟩
    refine ⟨_, rfl, t, _, _, _, rfl, rfl, SqL.of h1, rfl, tb, _, _, _, rfl, rfl, SqL.of h5, rfl, ?_⟩
    refine ⟨_, rfl, t, _, _, _, rfl, rfl, SqL.of h1, rfl, tb, _, _, _, rfl, rfl, SqL.of h5, rfl, ?_⟩
    refine ⟨p, pa, ga, ba, gs, bs, D.pr, D.given, D.back, rfl, SqL.of h6, h7.tab, h8.tab, o.tt, hp, fun f hf => ?_⟩
    have s2 := same_up (u := .tup [.int ((takeHS D.pr D.given p : Nat) : Int), .int (takeHP D.pr D.given D.back p)]) hf
    have f2 : (upd H f (.tup [.int ((takeHS D.pr D.given p : Nat) : Int), .int (takeHP D.pr D.given D.back p)])) f = some (.tup [.int ((takeHS D.pr D.given p : Nat) : Int), .int (takeHP D.pr D.given D.back p)]) := upd_same
    generalize upd H f (.tup [.int ((takeHS D.pr D.given p : Nat) : Int), .int (takeHP D.pr D.given D.back p)]) = H2 at s2 f2 ⊢
    refine ⟨_, rfl, f, _, _, _, rfl, rfl, SqT.of f2, rfl, (by show 1 ≤ sizeLine; decide), fun r hr' => ?_⟩
    refine ⟨_, rfl, f, _, _, _, rfl, rfl, SqT.of (upd_old f2 hr'), rfl, (by show 2 ≤ sizeLine; decide), fun u hu => ?_⟩
    have hrH := s2.free hr'
    have nur : u ≠ r := fun z => by rw [z, upd_same] at hu; cases hu
    have huH : (upd H r (.lst [.int ((takeHS D.pr D.given p : Nat) : Int)])) u = none := by rw [upd_ne nur]; rw [upd_ne nur] at hu; exact s2.free hu
    exact ⟨_, Less.add (Less.new ((s2.trans (same_up hr')).trans (same_up hu)) hrH (upd_old upd_same hu) rfl) huH upd_same rfl, q r u hrH huH⟩
  have n3 : ¬ kind = 3 := fun z => e (decide_eq_true (by rw [z]))
  unfold dTake at q
  rw [if_neg n0, if_neg n3] at q
  have e12 : kind = 1 ∨ kind = 2 := by omega
  rcases e12 with rfl | rfl
  · refine ⟨_, rfl, _, rfl, _, rfl, t, _, _, _, rfl, rfl, SqL.of h1, rfl, ?_⟩
    refine ⟨p, lx, lo, mdlK 1, 3, rfl, h3, trivial, mdlK_good 1, hp, by decide, by decide, fun r u hr' hu => ?_⟩
    exact ⟨_, Less.add (Less.new ((same_up hr').trans (same_up hu)) hr' (upd_old upd_same hu) rfl) hu upd_same rfl, q r u hr' hu⟩
  · refine ⟨_, rfl, _, rfl, _, rfl, t, _, _, _, rfl, rfl, SqL.of h1, rfl, ?_⟩
    refine ⟨p, fx, fo, mdlK 2, 3, rfl, h4, trivial, mdlK_good 2, hp, by decide, by decide, fun r u hr' hu => ?_⟩
    exact ⟨_, Less.add (Less.new ((same_up hr').trans (same_up hu)) hr' (upd_old upd_same hu) rfl) hu upd_same rfl, q r u hr' hu⟩
abbrev s_law_row : Stmt := top 43
theorem sc_law_row : FnScope ["tools", "kind", "cell", "held"] ["tools", "kind", "cell"] (defScope s_law_row) := ⟨rfl, rfl, rfl, by decide +kernel, rfl, by decide +kernel, by decide +kernel⟩
def sp_law_row (K : PySem.W.Frag) (T : Cl) : Sp := fun vs H Q _ => ∃ (t : Addr) (kind c : Int) (D : Tl), vs = [.ref t, .int kind, .int c] ∧ ToolsAt K T H t D ∧ 0 ≤ kind ∧ kind < 4 ∧ ∀ p rs, H p = none → DeedOk D kind rs → Q (.ref p) (upd H p (.lst (rs.map V.int)))
theorem ok_law_row {P : Program} {w : World} {K : PySem.W.Frag} {mg : Str → Option Value} {base : Heap} {T : Cl} (z : BI mg) (g : GC mg) (tf : TF K mg T) (D : Def K mg "_law_row" s_law_row ["tools", "kind", "cell"]) (C_law_held : Cal P w K mg base 1 "_law_held" ["counts"] (sp_law_held K T)) : Cal P w K mg base 2 "_law_row" ["tools", "kind", "cell"] (sp_law_row K T) := by
  refine D.ok sc_law_row (fun vs H Q E h => ?_) (fun f cdv A outer s H vs Q E hr h => ?_)
  · obtain ⟨t, kind, c, D, rfl, ⟨o, ca, lx, fx, tb, pa, ga, ba, lo, fo, gs, bs, h1, h2, h3, h4, h5, h6, h7, h8⟩, k0, k1, q⟩ := h; rfl
  obtain ⟨t, kind, c, D, rfl, ⟨o, ca, lx, fx, tb, pa, ga, ba, lo, fo, gs, bs, h1, h2, h3, h4, h5, h6, h7, h8⟩, k0, k1, q⟩ := h
  refine ⟨_, (pss_cons (ps_if (pt_cmpR op_eq (pv 1) pe_int (nomark _)) (pss_cons (ps_set (i := 3) sc_law_row.nd rfl (Or.inl rfl) (pe_def (C_law_held.mono (by decide)) hr rfl (pa_cons (pe_ix ix_list (pv 0) pe_int (fun _ _ => rfl)) pa_nil)))
      (pss_one (ps_ret (pe_lst (pa_cons (pe_ix ix_list (pv 3) (pe_op op_mod (pv 2) (pe_callB call_len_seq rfl z.len b_len (pa_cons (pv 3) pa_nil))) (fun _ _ => rfl)) pa_nil))))) pss_nil)
      (pss_cons (ps_if (pt_cmpR op_eq (pv 1) pe_int (nomark _)) (pss_one (ps_ret (pe_lst (pa_cons (pe_op op_mod (pv 2) pe_int) pa_nil)))) pss_nil)
      (pss_one (ps_ret (pe_lst (pa_cons (pe_op op_mod (pv 2) pe_int) (pa_cons (pe_op op_mod (pe_op op_fdiv (pv 2) pe_int) pe_int) (pa_cons (pe_op op_mod (pe_op op_fdiv (pv 2) pe_int) pe_int) pa_nil)))))))), ?_⟩
  walk_at "r"
  refine ite2 (fun e => ?_) (fun e => ?_)
  · have e' : kind = 0 := V.int.inj (of_decide_eq_true e)
    have gc := o.gc
    have cl1 := gc.len1
    refine ⟨_, rfl, t, _, _, _, rfl, rfl, SqL.of h1, rfl, ca, D.cs, rfl, SqL.of h2, cl1, fun h hh => ?_⟩
    have hp := held_pos gc
    have el : ((heldN D.cs).map V.int).length = (heldN D.cs).length := List.length_map _
    refine ⟨_, rfl, _, rfl, _, rfl, h, _, rfl, .inl (SqL.of upd_same), ?_⟩
    rw [el]
    refine ⟨_, _, rfl, rfl, (by show (0 : Int) < ((heldN D.cs).length : Int); omega), ?_⟩
    have s0 := Int.emod_nonneg c (show ((heldN D.cs).length : Int) ≠ 0 by omega)
    have s1 := Int.emod_lt_of_pos c (show (0 : Int) < ((heldN D.cs).length : Int) by omega)
    dsimp only
    generalize c % ((heldN D.cs).length : Int) = j at s0 s1 ⊢
    refine ⟨h, _, _, _, rfl, rfl, SqL.of upd_same, atZ s0 s1, ?_⟩
    obtain ⟨k, ek, hk, hc⟩ := held_at (ns := D.cs) j.toNat (by omega)
    rw [ek]
    refine ⟨(by show 1 ≤ sizeLine; decide), fun r hr' => ?_⟩
    have hH := (same_up (u := .lst ((heldN D.cs).map V.int)) hh).free hr'
    have ss := (same_up (u := .lst ((heldN D.cs).map V.int)) hh).trans (same_up (u := .lst [.int (k : Int)]) hr')
    refine ⟨_, Less.new ss hH upd_same rfl, q r [(k : Int)] hH ?_⟩
    unfold DeedOk
    rw [if_pos e']
    exact ⟨_, rfl, by omega, by omega, by rw [Int.toNat_natCast]; exact hc⟩
  have n0 : ¬ kind = 0 := fun z => e (decide_eq_true (by rw [z]))
  walk_at "r"
  refine ite2 (fun e => ?_) (fun e => ?_)
  · have e' : kind = 3 := V.int.inj (of_decide_eq_true e)
    walk_at "r"
    refine ⟨(by show 1 ≤ sizeLine; decide), fun r hr' => ?_⟩
    refine ⟨_, Less.new (same_up hr') hr' upd_same rfl, q r [c % 4] hr' ?_⟩
    unfold DeedOk
    rw [if_neg n0, if_pos e']
    exact ⟨_, rfl, by omega, by omega⟩
  have n3 : ¬ kind = 3 := fun z => e (decide_eq_true (by rw [z]))
  walk_at "r"
  refine ⟨(by show 3 ≤ sizeLine; decide), fun r hr' => ?_⟩
  exact ⟨_, Less.new (same_up hr') hr' upd_same rfl, q r [c % 4, c / 4 % 4, c / 16 % 4] hr' (deed_row D (c := c) n0 n3 ⟨by omega, by omega⟩ ⟨by omega, by omega⟩ ⟨by omega, by omega⟩)⟩
abbrev s_law : Stmt := top 44
theorem sc_law : FnScope ["script", "tools", "first", "pile", "done", "cell", "kind", "found", "deed"] ["script"] (defScope s_law) := ⟨rfl, rfl, rfl, by decide +kernel, rfl, by decide +kernel, by decide +kernel⟩
def sp_law (K : PySem.W.Frag) (T : Cl) : Sp := fun vs H Q _ => ∃ (a : Addr) (ns : List Int), vs = [.ref a] ∧ SqL K H a (ns.map V.int) ∧ ns.length ≤ 63 ∧ ∀ H', Q (.bl true) H'
theorem ok_law {P : Program} {w : World} {K : PySem.W.Frag} {mg : Str → Option Value} {base : Heap} {T : Cl} {f : Addr} {fd : FuncData} (z : BI mg) (g : GC mg) (tf : TF K mg T) (F : Fun K "law" "law" s_law f fd) (C_law_tools : Cal P w K mg base 6 "_law_tools" ["script"] (sp_law_tools K T)) (C_law_pile : Cal P w K mg base 1 "_law_pile" ["cell"] (sp_law_pile K T)) (C_law_cell_at : Cal P w K mg base 1 "_law_cell_at" ["script", "k"] (sp_law_cell_at K T)) (C_law_take : Cal P w K mg base 8 "_law_take" ["tools", "pile", "kind"] (sp_law_take K T)) (C_law_row : Cal P w K mg base 2 "_law_row" ["tools", "kind", "cell"] (sp_law_row K T)) (C_law_lay : Cal P w K mg base 8 "_law_lay" ["tools", "pile", "kind", "row"] (sp_law_lay K T)) (C_law_whole : Cal P w K mg base 1 "_law_whole" ["found"] (sp_law_whole K T)) : FnOk P w K mg base CX0 9 f fd ["script"] (sp_law K T) := by
  refine F.ok sc_law (fun vs H Q E h => ?_) (fun cdv A outer s H vs Q E hr h => ?_)
  · obtain ⟨a, ns, rfl, hS, hlen, q⟩ := h; rfl
  obtain ⟨a, ns, rfl, hS, hlen, q⟩ := h
  refine ⟨_, (pss_cons (ps_set (i := 1) sc_law.nd rfl (Or.inl rfl) (pe_def (C_law_tools.mono (by decide)) hr rfl (pa_cons (pv 0) pa_nil)))
      (pss_cons (ps_set (i := 2) sc_law.nd rfl (Or.inl rfl) (pe_def (C_law_pile.mono (by decide)) hr rfl (pa_cons (pe_def (C_law_cell_at.mono (by decide)) hr rfl (pa_cons (pv 0) (pa_cons pe_int pa_nil))) pa_nil)))
      (pss_cons (ps_set (i := 3) sc_law.nd rfl (Or.inl rfl) (pv 2))
      (pss_cons (ps_set (i := 4) sc_law.nd rfl (Or.inl rfl) (pe_lst pa_nil))
      (pss_cons (ps_for PassesOwn.never rfl (pi_list (pe_slice sl_list (pv 0) (po_some pe_int) (po_some pe_int))) (pg_name (i := 5) sc_law.nd rfl (Or.inl rfl)) (pss_cons (ps_set (i := 6) sc_law.nd rfl (Or.inl rfl) (pe_op op_mod (pv 5) pe_int))
      (pss_cons (ps_if (pt_cmpR op_eq (pe_op op_mod (pe_op op_fdiv (pv 5) pe_int) pe_int) pe_int (nomark _)) (pss_cons (ps_set (i := 7) sc_law.nd rfl (Or.inl rfl) (pe_def (C_law_take.mono (by decide)) hr rfl (pa_cons (pv 1) (pa_cons (pv 3) (pa_cons (pv 6) pa_nil)))))
      (pss_cons (ps_expr (pe_bm PySem.F.plainAttrs_list PySem.F.slot_list_append PySem.F.type_list_append mt_append (pv 4) (pa_cons (pe_tup (pa_cons (pv 6) (pa_cons pe_bl (pa_cons (pe_ix ix_tup (pv 7) pe_int (fun _ _ => rfl)) pa_nil)))) pa_nil)))
      (pss_one (ps_set (i := 3) sc_law.nd rfl (Or.inl rfl) (pe_ix ix_tup (pv 7) pe_int (fun _ _ => rfl)))))) (pss_cons (ps_expr (pe_bm PySem.F.plainAttrs_list PySem.F.slot_list_append PySem.F.type_list_append mt_append (pv 4) (pa_cons (pe_tup (pa_cons (pv 6) (pa_cons pe_bl (pa_cons (pe_def (C_law_row.mono (by decide)) hr rfl (pa_cons (pv 1) (pa_cons (pv 6) (pa_cons (pe_op op_fdiv (pv 5) pe_int) pa_nil)))) pa_nil)))) pa_nil)))
      (pss_one (ps_set (i := 3) sc_law.nd rfl (Or.inl rfl) (pe_def (C_law_lay.mono (by decide)) hr rfl (pa_cons (pv 1) (pa_cons (pv 3) (pa_cons (pv 6) (pa_cons (pe_ix ix_tup (pe_ix ix_list (pv 4) (pe_un un_neg pe_int) (fun _ _ => rfl)) pe_int (fun _ _ => rfl)) pa_nil)))))))))
      (pss_one (ps_if (PW.pt (pw_or (pt_not (pt_truth (pe_def (C_law_whole.mono (by decide)) hr rfl (pa_cons (pv 3) pa_nil)) (fun _ => rfl))) (pw_or1 (pt_cmpR op_lt (pv 3) pe_int (nomark _))))) (pss_one (ps_ret pe_bl)) pss_nil)))))
      (pss_cons (ps_for PassesOwn.never rfl (pi_rev rfl z.reversed (pa_cons (pv 4) pa_nil)) (pg_name (i := 8) sc_law.nd rfl (Or.inl rfl)) (pss_cons (ps_if (pt_truth (pe_ix ix_tup (pv 8) pe_int (fun _ _ => rfl)) (fun _ => rfl)) (pss_cons (ps_set (i := 7) sc_law.nd rfl (Or.inl rfl) (pe_def (C_law_take.mono (by decide)) hr rfl (pa_cons (pv 1) (pa_cons (pv 3) (pa_cons (pe_ix ix_tup (pv 8) pe_int (fun _ _ => rfl)) pa_nil)))))
      (pss_cons (ps_if (pt_cmpR (op_neLI (hU hr)) (pe_ix ix_tup (pv 7) pe_int (fun _ _ => rfl)) (pe_ix ix_tup (pv 8) pe_int (fun _ _ => rfl)) (nomark _)) (pss_one (ps_ret pe_bl)) pss_nil)
      (pss_one (ps_set (i := 3) sc_law.nd rfl (Or.inl rfl) (pe_ix ix_tup (pv 7) pe_int (fun _ _ => rfl)))))) (pss_one (ps_set (i := 3) sc_law.nd rfl (Or.inl rfl) (pe_def (C_law_lay.mono (by decide)) hr rfl (pa_cons (pv 1) (pa_cons (pv 3) (pa_cons (pe_ix ix_tup (pv 8) pe_int (fun _ _ => rfl)) (pa_cons (pe_ix ix_tup (pv 8) pe_int (fun _ _ => rfl)) pa_nil))))))))
      (pss_one (ps_if (PW.pt (pw_or (pt_not (pt_truth (pe_def (C_law_whole.mono (by decide)) hr rfl (pa_cons (pv 3) pa_nil)) (fun _ => rfl))) (pw_or1 (pt_cmpR op_lt (pv 3) pe_int (nomark _))))) (pss_one (ps_ret pe_bl)) pss_nil))))
      (pss_one (ps_ret (pe_cmpR op_eq (pv 3) (pv 2) (nomark _)))))))))), ?_⟩
  refine ⟨_, rfl, a, ns, rfl, hS, fun D t H1 tl s1 => ?_⟩
  have a1 := s1.seq hS
  refine ⟨_, rfl, a, ns, 0, rfl, a1, by decide, _, rfl, ?_⟩
  have pn := lawPile_nn (cellAt ns 0)
  generalize lawPile (cellAt ns 0) = fi at pn ⊢
  refine ⟨_, rfl, ?_⟩
  refine ⟨(by show 0 ≤ sizeLine; decide), fun dn hdn => ?_⟩
  obtain ⟨ms, em, lm⟩ := cut_ints ns (some 3) (some 33)
  have sd := same_up (u := .lst []) hdn
  have d0 : DoneAt (upd H1 dn (.lst [])) dn [] [] := ⟨upd_same, rfl, fun i d e => by simp at e⟩
  have a2 := sd.seq a1
  generalize upd H1 dn (.lst []) = H2 at sd d0 a2 ⊢
  refine ⟨_, rfl, _, rfl, _, rfl, a, _, rfl, a2, fun sl hsl => ?_⟩
  rw [em]
  have s3 := sd.trans (same_up (u := .lst (ms.map V.int)) hsl)
  have d3 := d0.same (same_up (u := .lst (ms.map V.int)) hsl)
  have l3 : SqL K (upd H2 sl (.lst (ms.map V.int))) sl (ms.map V.int) := SqL.of upd_same
  have nsd : sl ≠ dn := fun z => by rw [z, d0.ls] at hsl; cases hsl
  have hs3 : H1 sl = none := sd.free hsl
  have ml : (upd H2 sl (.lst (ms.map V.int))) sl = some (.lst (ms.map V.int)) := upd_same
  generalize upd H2 sl (.lst (ms.map V.int)) = H3 at s3 d3 l3 ml ⊢
  refine ⟨sl, rfl, ⟨_, l3⟩, for_list (K := K) (a := sl) (xs := ms.map V.int) (fun i σ H4 => ∃ (p : Int) (v1 v2 v3 : Option V) (ts : List Addr) (ds : List Deed), σ = [some (.ref a), some (.ref t), some (.int fi), some (.int p), some (.ref dn), v1, v2, v3, none] ∧ Same H1 H4 ∧ H4 sl = some (.lst (ms.map V.int)) ∧ DoneAt H4 dn ts ds ∧ ds.length = i ∧ 0 ≤ p ∧ Chain D fi ds.reverse p) ⟨fi, none, none, none, [], [], rfl, s3, ml, d3, rfl, pn, rfl⟩ (fun i σ H4 _ ⟨_, _, _, _, _, _, _, _, e, _⟩ => SqL.of e) ?_ ?_⟩
  · rintro i y σ H4 hi ⟨p, v1, v2, v3, ts, ds, rfl, s4, l4, d4, dl, hp, ch⟩
    obtain ⟨c, hc, rfl⟩ := mem_at hi
    have hi' : i < ms.length := by
      have := (List.getElem?_eq_some_iff.mp hi).1
      simpa using this
    have tl4 := tl.same s4
    refine ⟨_, rfl, _, _, rfl, rfl, (by show (0 : Int) < 4; decide), ?_⟩
    have k0 := Int.emod_nonneg c (show (4 : Int) ≠ 0 by decide)
    have k1 := Int.emod_lt_of_pos c (show (0 : Int) < 4 by decide)
    dsimp only
    generalize c % 4 = kd at k0 k1 ⊢
    walk_at "r"
    refine ite2 (fun _ => ?_) (fun _ => ?_)
    · -- taken
      refine ⟨_, rfl, _, rfl, _, rfl, t, p, kd, D, rfl, tl4, hp, k0, k1, fun r u hr' hu => ?_⟩
      obtain ⟨e1, e2, e3⟩ := take_deed tl.ok kd hp
      have s5 := (same_up (u := .lst ((dTake D kd p).1.map V.int)) hr').trans (same_up (u := .tup [.ref r, .int (dTake D kd p).2]) hu)
      have r5 : (upd (upd H4 r (.lst ((dTake D kd p).1.map V.int))) u (.tup [.ref r, .int (dTake D kd p).2])) r = some (.lst ((dTake D kd p).1.map V.int)) := upd_old upd_same hu
      have u5 : (upd (upd H4 r (.lst ((dTake D kd p).1.map V.int))) u (.tup [.ref r, .int (dTake D kd p).2])) u = some (.tup [.ref r, .int (dTake D kd p).2]) := upd_same
      have nrd : r ≠ dn := fun z => by rw [z, d4.ls] at hr'; cases hr'
      generalize upd (upd H4 r (.lst ((dTake D kd p).1.map V.int))) u (.tup [.ref r, .int (dTake D kd p).2]) = H5 at s5 r5 u5 ⊢
      have d5 := d4.same s5
      refine ⟨_, rfl, .inl ⟨rfl, _, SqL.of d5.ls⟩, _, rfl, _, rfl, u, _, _, _, rfl, rfl, SqT.of u5, rfl, (by show 3 ≤ sizeLine; decide), fun w hw => ?_⟩
      have sw := same_up (u := .tup [.int kd, .bl false, .ref r]) hw
      have w6 : (upd H5 w (.tup [.int kd, .bl false, .ref r])) w = some (.tup [.int kd, .bl false, .ref r]) := upd_same
      generalize upd H5 w (.tup [.int kd, .bl false, .ref r]) = H6 at sw w6 ⊢
      have d6 := d5.same sw
      have u6 := sw _ _ u5
      have r6 := sw _ _ r5
      have s6 := s4.trans (s5.trans sw)
      refine ⟨dn, _, _, rfl, rfl, d6.ls, small1000 (by rw [List.length_map, d6.len]; omega), ?_⟩
      have nud : u ≠ dn := ne_of u6 d6.ls (by intro z; cases z)
      refine ⟨_, rfl, u, _, _, _, rfl, rfl, SqT.of (by rw [upd_ne nud]; exact u6), rfl, ?_⟩
      walk_at "r"
      refine ite2 (fun e => absurd (of_decide_eq_true e) (by omega)) (fun _ => ?_)
      refine ⟨(dTake D kd p).2, _, _, _, ts ++ [w], ds ++ [⟨kd, false, (dTake D kd p).1⟩], rfl, fun b o e => by rw [upd_ne (ne_of_none e hdn)]; exact s6 b o e, by rw [upd_ne nsd]; exact (s5.trans sw) _ _ l4, d6.push (d := ⟨kd, false, (dTake D kd p).1⟩) w6 r6 nrd, by simp [dl], e3, ?_⟩
      rw [List.reverse_append]
      exact ⟨p, hp, ch, ⟨k0, k1, e2, by rw [if_neg (show ¬ (false = true) from Bool.false_ne_true)]⟩⟩
    · -- laid
      refine ⟨_, rfl, .inl ⟨rfl, _, SqL.of d4.ls⟩, _, rfl, _, rfl, _, rfl, _, rfl, _, _, rfl, rfl, ⟨by decide, by decide⟩, t, kd, _, D, rfl, tl4, k0, k1, fun r rs hr' dk => ?_⟩
      have s5 := same_up (u := .lst (rs.map V.int)) hr'
      have r5 : (upd H4 r (.lst (rs.map V.int))) r = some (.lst (rs.map V.int)) := upd_same
      have nrd : r ≠ dn := fun z => by rw [z, d4.ls] at hr'; cases hr'
      generalize upd H4 r (.lst (rs.map V.int)) = H5 at s5 r5 ⊢
      have d5 := d4.same s5
      refine ⟨(by show 3 ≤ sizeLine; decide), fun w hw => ?_⟩
      have sw := same_up (u := .tup [.int kd, .bl true, .ref r]) hw
      have w6 : (upd H5 w (.tup [.int kd, .bl true, .ref r])) w = some (.tup [.int kd, .bl true, .ref r]) := upd_same
      generalize upd H5 w (.tup [.int kd, .bl true, .ref r]) = H6 at sw w6 ⊢
      have d6 := d5.same sw
      have r6 := sw _ _ r5
      have s6 := s4.trans (s5.trans sw)
      refine ⟨dn, _, _, rfl, rfl, d6.ls, small1000 (by rw [List.length_map, d6.len]; omega), ?_⟩
      have nwd : w ≠ dn := ne_of w6 d6.ls (by intro z; cases z)
      have s7 : Same H1 (upd H6 dn (.lst (ts.map V.ref ++ [.ref w]))) := fun b o e => by rw [upd_ne (ne_of_none e hdn)]; exact s6 b o e
      have l7 : (upd H6 dn (.lst (ts.map V.ref ++ [.ref w]))) sl = some (.lst (ms.map V.int)) := by rw [upd_ne nsd]; exact (s5.trans sw) _ _ l4
      have d7 := d6.push (d := ⟨kd, true, rs⟩) w6 r6 nrd
      have n7 : (upd H6 dn (.lst (ts.map V.ref ++ [.ref w]))) dn = some (.lst (ts.map V.ref ++ [.ref w])) := upd_same
      have w7 : (upd H6 dn (.lst (ts.map V.ref ++ [.ref w]))) w = some (.tup [.int kd, .bl true, .ref r]) := by rw [upd_ne nwd]; exact w6
      have r7 : (upd H6 dn (.lst (ts.map V.ref ++ [.ref w]))) r = some (.lst (rs.map V.int)) := by rw [upd_ne nrd]; exact r6
      generalize upd H6 dn (.lst (ts.map V.ref ++ [.ref w])) = H7 at s7 l7 d7 n7 w7 r7 ⊢
      obtain ⟨e1, e2⟩ := lay_deed tl.ok dk hp
      refine ⟨_, rfl, _, rfl, _, rfl, _, rfl, 1, rfl, dn, _, _, _, rfl, rfl, SqL.of n7, atI_last _ _, w, _, _, _, rfl, rfl, SqT.of w7, rfl, ?_⟩
      refine ⟨t, r, p, kd, rs, D, rfl, tl.same s7, SqL.of r7, hp, k0, k1, dk, ?_⟩
      walk_at "r"
      refine ite2 (fun e => absurd (of_decide_eq_true e) (by omega)) (fun _ => ?_)
      refine ⟨dLay D kd p rs, _, _, _, ts ++ [w], ds ++ [⟨kd, true, rs⟩], rfl, s7, l7, d7, by simp [dl], e2, ?_⟩
      rw [List.reverse_append]
      exact ⟨p, hp, ch, ⟨k0, k1, dk, by rw [if_pos rfl]⟩⟩
  rintro σ H4 ⟨p0, v1, v2, v3, ts, ds, rfl, s4, l4, d4, dl, hp0, ch0⟩
  have tl4 := tl.same s4
  refine ⟨_, rfl, dn, _, rfl, SqL.of d4.ls, for_rev (K := K) (a := dn) (xs := ts.map V.ref) (fun i σ H5 => ∃ (p : Int) (v3 v4 : Option V), σ = [some (.ref a), some (.ref t), some (.int fi), some (.int p), some (.ref dn), v1, v2, v3, v4] ∧ Same H4 H5 ∧ 0 ≤ p ∧ Chain D fi (ds.reverse.drop i) p) ⟨p0, v3, none, rfl, Same.refl _, hp0, ch0⟩ (fun i σ H5 _ ⟨_, _, _, _, e, _⟩ => SqL.of (e _ _ d4.ls)) ?_ ?_⟩
  · rintro i y σ H5 hi ⟨p, w3, w4, rfl, s5, hp, ch⟩
    obtain ⟨h1, rfl⟩ := mem_rev_ref hi
    have hd : i < ds.reverse.length := by rw [List.length_reverse, ← d4.len]; exact h1
    rw [List.drop_eq_getElem_cons hd] at ch
    obtain ⟨p1, hp1, ch1, st⟩ := ch
    have ed : ds[ts.length - 1 - i]? = some ds.reverse[i] := by
      rw [← List.getElem?_eq_getElem hd, List.getElem?_reverse (by rw [← d4.len]; exact h1), d4.len]
    obtain ⟨r, x1, x2, x3⟩ := ((d4.same s5).at_ _ _ ed).ex
    have bk := st.back tl.ok hp1
    have k0 := st.k0
    have k1 := st.k1
    have dk := st.ok
    generalize ds.reverse[i] = d at x1 x2 bk k0 k1 dk st
    generalize ts.getD (ts.length - 1 - i) 0 = w at x1 ⊢
    obtain ⟨kd, ly, rs⟩ := d
    dsimp only at x1 x2 bk k0 k1 dk
    refine ⟨_, rfl, w, _, _, _, rfl, rfl, SqT.of x1, rfl, _, rfl, ?_⟩
    cases ly with
    | true =>
      refine iteT ?_
      have e0 := bk.1 rfl
      refine ⟨_, rfl, _, rfl, _, rfl, w, _, _, _, rfl, rfl, SqT.of x1, rfl, t, p, kd, D, rfl, tl4.same s5, hp, k0, k1, fun r' u hr' hu => ?_⟩
      rw [e0]
      rw [e0] at hu
      have s6 := (same_up (u := .lst (rs.map V.int)) hr').trans (same_up (u := .tup [.ref r', .int p1]) hu)
      have r6 : (upd (upd H5 r' (.lst (rs.map V.int))) u (.tup [.ref r', .int p1])) r' = some (.lst (rs.map V.int)) := upd_old upd_same hu
      have u6 : (upd (upd H5 r' (.lst (rs.map V.int))) u (.tup [.ref r', .int p1])) u = some (.tup [.ref r', .int p1]) := upd_same
      dsimp only
      generalize upd (upd H5 r' (.lst (rs.map V.int))) u (.tup [.ref r', .int p1]) = H6 at s6 r6 u6 ⊢
      refine ⟨_, rfl, u, _, _, _, rfl, rfl, SqT.of u6, rfl, _, rfl, w, _, _, _, rfl, rfl, SqT.of (s6 _ _ x1), rfl, ?_⟩
      refine ⟨r', r, rs, rs, rfl, rfl, SqL.of r6, SqL.of (s6 _ _ x2), _, rfl, ?_⟩
      refine iteNS rfl ?_
      refine ⟨_, rfl, u, _, _, _, rfl, rfl, SqT.of u6, rfl, ?_⟩
      walk_at "r"
      refine ite2 (fun e => absurd (of_decide_eq_true e) (by omega)) (fun _ => ?_)
      exact ⟨p1, _, _, rfl, s5.trans s6, hp1, ch1⟩
    | false =>
      refine iteF ?_
      have e0 := bk.2 rfl
      refine ⟨_, rfl, _, rfl, _, rfl, w, _, _, _, rfl, rfl, SqT.of x1, rfl, _, rfl, w, _, _, _, rfl, rfl, SqT.of x1, rfl, ?_⟩
      refine ⟨t, r, p, kd, rs, D, rfl, tl4.same s5, SqL.of x2, hp, k0, k1, dk, ?_⟩
      rw [e0]
      walk_at "r"
      refine ite2 (fun e => absurd (of_decide_eq_true e) (by omega)) (fun _ => ?_)
      exact ⟨p1, _, _, rfl, s5, hp1, ch1⟩
  rintro σ H5 ⟨p, w3, w4, rfl, s5, hp, ch⟩
  rw [List.drop_of_length_le (by rw [List.length_reverse, List.length_map, d4.len]; omega)] at ch
  have ep : p = fi := ch
  rw [ep]
  refine ⟨_, rfl, _, rfl, rfl, ?_⟩
  show Q (.bl (decide (V.int fi = V.int fi))) _
  rw [decide_eq_true rfl]
  exact q _
def sp_law0 (K : PySem.W.Frag) : Sp := fun vs H Q _ => ∃ (a : Addr) (ns : List Int), vs = [.ref a] ∧ SqL K H a (ns.map V.int) ∧ ns.length ≤ 63 ∧ ∀ H', Q (.bl true) H'
theorem all_mk {l : PySem.W.OpenLaw} {w : World} {K : PySem.W.Frag} {h : Heap} {mg : Str → Option Value} {fa : Addr} (X : K.In h) (G : h.Ns mainGlobals mg) (hfa : mg "law" = some (.ref fa)) {KM KL KF : Addr} {f0 : Addr} {od0 an0 : Option Addr} {sl0 : Array (Option Value)} {oc0 kV0 dc0 pm0 cd0 ct0 : Value} {f1 : Addr} {od1 an1 : Option Addr} {sl1 : Array (Option Value)} {oc1 kV1 dc1 pm1 cd1 ct1 : Value} {f2 : Addr} {od2 an2 : Option Addr} {sl2 : Array (Option Value)} {oc2 kV2 dc2 pm2 cd2 ct2 : Value} {f3 : Addr} {od3 an3 : Option Addr} {sl3 : Array (Option Value)} {oc3 kV3 dc3 pm3 cd3 ct3 : Value} {f4 : Addr} {od4 an4 : Option Addr} {sl4 : Array (Option Value)} {oc4 kV4 dc4 pm4 cd4 ct4 : Value} {f5 : Addr} {od5 an5 : Option Addr} {sl5 : Array (Option Value)} {oc5 kV5 dc5 pm5 cd5 ct5 : Value} {f6 : Addr} {od6 an6 : Option Addr} {sl6 : Array (Option Value)} {oc6 kV6 dc6 pm6 cd6 ct6 : Value} {f7 : Addr} {od7 an7 : Option Addr} {sl7 : Array (Option Value)} {oc7 kV7 dc7 pm7 cd7 ct7 : Value} {f8 : Addr} {od8 an8 : Option Addr} {sl8 : Array (Option Value)} {oc8 kV8 dc8 pm8 cd8 ct8 : Value} {f9 : Addr} {od9 an9 : Option Addr} {sl9 : Array (Option Value)} {oc9 kV9 dc9 pm9 cd9 ct9 : Value} {f10 : Addr} {od10 an10 : Option Addr} {sl10 : Array (Option Value)} {oc10 kV10 dc10 pm10 cd10 ct10 : Value} {dT10 : Addr} {doc10 : Value} {dod10 : Option Addr} {dn10 : Nat} {dsl10 : Array (Option Value)} {dtk10 : Tok} {f11 : Addr} {od11 an11 : Option Addr} {sl11 : Array (Option Value)} {oc11 kV11 dc11 pm11 cd11 ct11 : Value} {f12 : Addr} {od12 an12 : Option Addr} {sl12 : Array (Option Value)} {oc12 kV12 dc12 pm12 cd12 ct12 : Value} {f13 : Addr} {od13 an13 : Option Addr} {sl13 : Array (Option Value)} {oc13 kV13 dc13 pm13 cd13 ct13 : Value} {f14 : Addr} {od14 an14 : Option Addr} {sl14 : Array (Option Value)} {oc14 kV14 dc14 pm14 cd14 ct14 : Value} {dT14 : Addr} {doc14 : Value} {dod14 : Option Addr} {dn14 : Nat} {dsl14 : Array (Option Value)} {dtk14 : Tok} {f15 : Addr} {od15 an15 : Option Addr} {sl15 : Array (Option Value)} {oc15 kV15 dc15 pm15 cd15 ct15 : Value} {f16 : Addr} {od16 an16 : Option Addr} {sl16 : Array (Option Value)} {oc16 kV16 dc16 pm16 cd16 ct16 : Value} {f17 : Addr} {od17 an17 : Option Addr} {sl17 : Array (Option Value)} {oc17 kV17 dc17 pm17 cd17 ct17 : Value} {f18 : Addr} {od18 an18 : Option Addr} {sl18 : Array (Option Value)} {oc18 kV18 dc18 pm18 cd18 ct18 : Value} {f19 : Addr} {od19 an19 : Option Addr} {sl19 : Array (Option Value)} {oc19 kV19 dc19 pm19 cd19 ct19 : Value} {f20 : Addr} {od20 an20 : Option Addr} {sl20 : Array (Option Value)} {oc20 kV20 dc20 pm20 cd20 ct20 : Value} {f21 : Addr} {od21 an21 : Option Addr} {sl21 : Array (Option Value)} {oc21 kV21 dc21 pm21 cd21 ct21 : Value} {f22 : Addr} {od22 an22 : Option Addr} {sl22 : Array (Option Value)} {oc22 kV22 dc22 pm22 cd22 ct22 : Value} {f23 : Addr} {od23 an23 : Option Addr} {sl23 : Array (Option Value)} {oc23 kV23 dc23 pm23 cd23 ct23 : Value} {f24 : Addr} {od24 an24 : Option Addr} {sl24 : Array (Option Value)} {oc24 kV24 dc24 pm24 cd24 ct24 : Value} {f25 : Addr} {od25 an25 : Option Addr} {sl25 : Array (Option Value)} {oc25 kV25 dc25 pm25 cd25 ct25 : Value} {f26 : Addr} {od26 an26 : Option Addr} {sl26 : Array (Option Value)} {oc26 kV26 dc26 pm26 cd26 ct26 : Value} {f27 : Addr} {od27 an27 : Option Addr} {sl27 : Array (Option Value)} {oc27 kV27 dc27 pm27 cd27 ct27 : Value} {f28 : Addr} {od28 an28 : Option Addr} {sl28 : Array (Option Value)} {oc28 kV28 dc28 pm28 cd28 ct28 : Value} {f29 : Addr} {od29 an29 : Option Addr} {sl29 : Array (Option Value)} {oc29 kV29 dc29 pm29 cd29 ct29 : Value} {f30 : Addr} {od30 an30 : Option Addr} {sl30 : Array (Option Value)} {oc30 kV30 dc30 pm30 cd30 ct30 : Value} {f31 : Addr} {od31 an31 : Option Addr} {sl31 : Array (Option Value)} {oc31 kV31 dc31 pm31 cd31 ct31 : Value} {f32 : Addr} {od32 an32 : Option Addr} {sl32 : Array (Option Value)} {oc32 kV32 dc32 pm32 cd32 ct32 : Value} {f33 : Addr} {od33 an33 : Option Addr} {sl33 : Array (Option Value)} {oc33 kV33 dc33 pm33 cd33 ct33 : Value} {f34 : Addr} {od34 an34 : Option Addr} {sl34 : Array (Option Value)} {oc34 kV34 dc34 pm34 cd34 ct34 : Value} {f35 : Addr} {od35 an35 : Option Addr} {sl35 : Array (Option Value)} {oc35 kV35 dc35 pm35 cd35 ct35 : Value} {f36 : Addr} {od36 an36 : Option Addr} {sl36 : Array (Option Value)} {oc36 kV36 dc36 pm36 cd36 ct36 : Value} {tk_MOST_SIGNS : Tok} {tk_MOST_COUNT : Tok} {tk_MOST_STEP : Tok}
    (aCM : PySem.W.nsIn K mainGlobals "Model" = some (some (.ref KM)))
    (aCL : PySem.W.nsIn K mainGlobals "Learner" = some (some (.ref KL)))
    (aCF : PySem.W.nsIn K mainGlobals "Follower" = some (some (.ref KF)))
    (pgL : PySem.W.plainGet K KL Str.empty = true)
    (hdL : PySem.W.hasDictIn K KL = true)
    (poL : PySem.W.plainOver K KL = true)
    (saL : PySem.W.findIn K (.ref KL) "__setattr__" = some (some (.builtin "object.__setattr__")))
    (n_manyL : PySem.W.findIn K (.ref KL) "many" = some none)
    (n_stepL : PySem.W.findIn K (.ref KL) "step" = some none)
    (n_learntL : PySem.W.findIn K (.ref KL) "learnt" = some none)
    (n_keptL : PySem.W.findIn K (.ref KL) "kept" = some none)
    (n_tellerL : PySem.W.findIn K (.ref KL) "teller" = some none)
    (n_behindL : PySem.W.findIn K (.ref KL) "behind" = some none)
    (x1L : PySem.W.findIn K (.ref KL) "__class__" = some (some (.builtin "object.__class__")))
    (x4L : PySem.W.mroIn K KL (.type "object") = some true)
    (ktL : PySem.W.kitOne K (.ref KL) (.ref KM) = some true)
    (pgF : PySem.W.plainGet K KF Str.empty = true)
    (hdF : PySem.W.hasDictIn K KF = true)
    (poF : PySem.W.plainOver K KF = true)
    (saF : PySem.W.findIn K (.ref KF) "__setattr__" = some (some (.builtin "object.__setattr__")))
    (n_manyF : PySem.W.findIn K (.ref KF) "many" = some none)
    (n_stepF : PySem.W.findIn K (.ref KF) "step" = some none)
    (n_learntF : PySem.W.findIn K (.ref KF) "learnt" = some none)
    (n_keptF : PySem.W.findIn K (.ref KF) "kept" = some none)
    (n_tellerF : PySem.W.findIn K (.ref KF) "teller" = some none)
    (n_behindF : PySem.W.findIn K (.ref KF) "behind" = some none)
    (x1F : PySem.W.findIn K (.ref KF) "__class__" = some (some (.builtin "object.__class__")))
    (x4F : PySem.W.mroIn K KF (.type "object") = some true)
    (ktF : PySem.W.kitOne K (.ref KF) (.ref KM) = some true)
    (x2 : PySem.W.specialIn K (.builtin "object.__class__") "__get__" = some (some (.builtin "getset_descriptor.__get__")))
    (x3 : PySem.W.takesIn K (.builtin "object.__class__") = some true)
    (nnLF : KL ≠ KF)
    (nnFL : KF ≠ KL)
    (a0 : PySem.W.nsIn K mainGlobals "check_counts" = some (some (.ref f0)))
    (l0 : K.lookup f0 = some ⟨oc0, od0, .func (PySem.W.fnOf "check_counts" "check_counts" (defArgs s_check_counts) (defBody s_check_counts) (defScope s_check_counts) .none kV0 dc0 pm0 an0 cd0 ct0), sl0⟩) (c0 : PySem.W.codeIn K cd0 "check_counts" = true)
    (k0 : PySem.W.keepIn K (.ref f0) = true)
    (a1 : PySem.W.nsIn K mainGlobals "check_sign" = some (some (.ref f1)))
    (l1 : K.lookup f1 = some ⟨oc1, od1, .func (PySem.W.fnOf "check_sign" "check_sign" (defArgs s_check_sign) (defBody s_check_sign) (defScope s_check_sign) .none kV1 dc1 pm1 an1 cd1 ct1), sl1⟩) (c1 : PySem.W.codeIn K cd1 "check_sign" = true)
    (k1 : PySem.W.keepIn K (.ref f1) = true)
    (a2 : PySem.W.nsIn K mainGlobals "count_of" = some (some (.ref f2)))
    (l2 : K.lookup f2 = some ⟨oc2, od2, .func (PySem.W.fnOf "count_of" "count_of" (defArgs s_count_of) (defBody s_count_of) (defScope s_count_of) .none kV2 dc2 pm2 an2 cd2 ct2), sl2⟩) (c2 : PySem.W.codeIn K cd2 "count_of" = true)
    (k2 : PySem.W.keepIn K (.ref f2) = true)
    (a3 : PySem.W.nsIn K mainGlobals "whole" = some (some (.ref f3)))
    (l3 : K.lookup f3 = some ⟨oc3, od3, .func (PySem.W.fnOf "whole" "whole" (defArgs s_whole) (defBody s_whole) (defScope s_whole) .none kV3 dc3 pm3 an3 cd3 ct3), sl3⟩) (c3 : PySem.W.codeIn K cd3 "whole" = true)
    (k3 : PySem.W.keepIn K (.ref f3) = true)
    (a4 : PySem.W.nsIn K mainGlobals "first_of" = some (some (.ref f4)))
    (l4 : K.lookup f4 = some ⟨oc4, od4, .func (PySem.W.fnOf "first_of" "first_of" (defArgs s_first_of) (defBody s_first_of) (defScope s_first_of) .none kV4 dc4 pm4 an4 cd4 ct4), sl4⟩) (c4 : PySem.W.codeIn K cd4 "first_of" = true)
    (k4 : PySem.W.keepIn K (.ref f4) = true)
    (a5 : PySem.W.nsIn K mainGlobals "sign_of" = some (some (.ref f5)))
    (l5 : K.lookup f5 = some ⟨oc5, od5, .func (PySem.W.fnOf "sign_of" "sign_of" (defArgs s_sign_of) (defBody s_sign_of) (defScope s_sign_of) .none kV5 dc5 pm5 an5 cd5 ct5), sl5⟩) (c5 : PySem.W.codeIn K cd5 "sign_of" = true)
    (k5 : PySem.W.keepIn K (.ref f5) = true)
    (a6 : PySem.W.nsIn K mainGlobals "check_pile" = some (some (.ref f6)))
    (l6 : K.lookup f6 = some ⟨oc6, od6, .func (PySem.W.fnOf "check_pile" "check_pile" (defArgs s_check_pile) (defBody s_check_pile) (defScope s_check_pile) .none kV6 dc6 pm6 an6 cd6 ct6), sl6⟩) (c6 : PySem.W.codeIn K cd6 "check_pile" = true)
    (k6 : PySem.W.keepIn K (.ref f6) = true)
    (a7 : PySem.W.nsIn K mainGlobals "lay" = some (some (.ref f7)))
    (l7 : K.lookup f7 = some ⟨oc7, od7, .func (PySem.W.fnOf "lay" "lay" (defArgs s_lay) (defBody s_lay) (defScope s_lay) .none kV7 dc7 pm7 an7 cd7 ct7), sl7⟩) (c7 : PySem.W.codeIn K cd7 "lay" = true)
    (k7 : PySem.W.keepIn K (.ref f7) = true)
    (a8 : PySem.W.nsIn K mainGlobals "take" = some (some (.ref f8)))
    (l8 : K.lookup f8 = some ⟨oc8, od8, .func (PySem.W.fnOf "take" "take" (defArgs s_take) (defBody s_take) (defScope s_take) .none kV8 dc8 pm8 an8 cd8 ct8), sl8⟩) (c8 : PySem.W.codeIn K cd8 "take" = true)
    (k8 : PySem.W.keepIn K (.ref f8) = true)
    (r9 : PySem.W.readsIn K KM (.type "type") = true)
    (fc9 : PySem.W.findCls K (.ref KM) (.type "type") "__init__" = some (.val (.ref f9)))
    (l9 : K.lookup f9 = some ⟨oc9, od9, .func (PySem.W.fnOf "__init__" "Model.__init__" (defArgs s_Model_init) (defBody s_Model_init) (defScope s_Model_init) .none kV9 dc9 pm9 an9 cd9 ct9), sl9⟩) (c9 : PySem.W.codeIn K cd9 "Model.__init__" = true)
    (sp9 : PySem.W.specialIn K (.ref KM) "__getattribute__" = some (some (.builtin "type.__getattribute__")))
    (k9 : PySem.W.keepIn K (.ref f9) = true)
    (a10 : PySem.W.findIn K (.ref KL) "__init__" = some (some (.ref f10)))
    (i10 : PySem.W.isFn K (.ref f10) = true)
    (mk10 : PySem.W.makesIn K KL = true)
    (k10 : PySem.W.keepIn K (.ref KL) = true)
    (l10 : K.lookup f10 = some ⟨oc10, od10, .func (PySem.W.fnOf "__init__" "Learner.__init__" (defArgs s_Learner_init) (defBody s_Learner_init) (defScope s_Learner_init) (.ref dT10) kV10 dc10 pm10 an10 cd10 ct10), sl10⟩) (c10 : PySem.W.codeIn K cd10 "Learner.__init__" = true)
    (dl10 : K.lookup dT10 = some ⟨doc10, dod10, .seq #[.int 1 dtk10] dn10, dsl10⟩)
    (a11 : PySem.W.findIn K (.ref KL) "counts" = some (some (.ref f11)))
    (i11 : PySem.W.isFn K (.ref f11) = true)
    (l11 : K.lookup f11 = some ⟨oc11, od11, .func (PySem.W.fnOf "counts" "Learner.counts" (defArgs s_Learner_counts) (defBody s_Learner_counts) (defScope s_Learner_counts) .none kV11 dc11 pm11 an11 cd11 ct11), sl11⟩) (c11 : PySem.W.codeIn K cd11 "Learner.counts" = true)
    (k11 : PySem.W.keepIn K (.ref f11) = true)
    (a12 : PySem.W.findIn K (.ref KL) "see" = some (some (.ref f12)))
    (i12 : PySem.W.isFn K (.ref f12) = true)
    (l12 : K.lookup f12 = some ⟨oc12, od12, .func (PySem.W.fnOf "see" "Learner.see" (defArgs s_Learner_see) (defBody s_Learner_see) (defScope s_Learner_see) .none kV12 dc12 pm12 an12 cd12 ct12), sl12⟩) (c12 : PySem.W.codeIn K cd12 "Learner.see" = true)
    (k12 : PySem.W.keepIn K (.ref f12) = true)
    (a13 : PySem.W.findIn K (.ref KL) "fresh" = some (some (.ref f13)))
    (i13 : PySem.W.isFn K (.ref f13) = true)
    (l13 : K.lookup f13 = some ⟨oc13, od13, .func (PySem.W.fnOf "fresh" "Learner.fresh" (defArgs s_Learner_fresh) (defBody s_Learner_fresh) (defScope s_Learner_fresh) .none kV13 dc13 pm13 an13 cd13 ct13), sl13⟩) (c13 : PySem.W.codeIn K cd13 "Learner.fresh" = true)
    (k13 : PySem.W.keepIn K (.ref f13) = true)
    (a14 : PySem.W.findIn K (.ref KF) "__init__" = some (some (.ref f14)))
    (i14 : PySem.W.isFn K (.ref f14) = true)
    (mk14 : PySem.W.makesIn K KF = true)
    (k14 : PySem.W.keepIn K (.ref KF) = true)
    (l14 : K.lookup f14 = some ⟨oc14, od14, .func (PySem.W.fnOf "__init__" "Follower.__init__" (defArgs s_Follower_init) (defBody s_Follower_init) (defScope s_Follower_init) (.ref dT14) kV14 dc14 pm14 an14 cd14 ct14), sl14⟩) (c14 : PySem.W.codeIn K cd14 "Follower.__init__" = true)
    (dl14 : K.lookup dT14 = some ⟨doc14, dod14, .seq #[.int 1 dtk14] dn14, dsl14⟩)
    (a15 : PySem.W.findIn K (.ref KF) "counts" = some (some (.ref f15)))
    (i15 : PySem.W.isFn K (.ref f15) = true)
    (l15 : K.lookup f15 = some ⟨oc15, od15, .func (PySem.W.fnOf "counts" "Follower.counts" (defArgs s_Follower_counts) (defBody s_Follower_counts) (defScope s_Follower_counts) .none kV15 dc15 pm15 an15 cd15 ct15), sl15⟩) (c15 : PySem.W.codeIn K cd15 "Follower.counts" = true)
    (k15 : PySem.W.keepIn K (.ref f15) = true)
    (a16 : PySem.W.findIn K (.ref KF) "see" = some (some (.ref f16)))
    (i16 : PySem.W.isFn K (.ref f16) = true)
    (l16 : K.lookup f16 = some ⟨oc16, od16, .func (PySem.W.fnOf "see" "Follower.see" (defArgs s_Follower_see) (defBody s_Follower_see) (defScope s_Follower_see) .none kV16 dc16 pm16 an16 cd16 ct16), sl16⟩) (c16 : PySem.W.codeIn K cd16 "Follower.see" = true)
    (k16 : PySem.W.keepIn K (.ref f16) = true)
    (a17 : PySem.W.findIn K (.ref KF) "fresh" = some (some (.ref f17)))
    (i17 : PySem.W.isFn K (.ref f17) = true)
    (l17 : K.lookup f17 = some ⟨oc17, od17, .func (PySem.W.fnOf "fresh" "Follower.fresh" (defArgs s_Follower_fresh) (defBody s_Follower_fresh) (defScope s_Follower_fresh) .none kV17 dc17 pm17 an17 cd17 ct17), sl17⟩) (c17 : PySem.W.codeIn K cd17 "Follower.fresh" = true)
    (k17 : PySem.W.keepIn K (.ref f17) = true)
    (a18 : PySem.W.nsIn K mainGlobals "press" = some (some (.ref f18)))
    (l18 : K.lookup f18 = some ⟨oc18, od18, .func (PySem.W.fnOf "press" "press" (defArgs s_press) (defBody s_press) (defScope s_press) .none kV18 dc18 pm18 an18 cd18 ct18), sl18⟩) (c18 : PySem.W.codeIn K cd18 "press" = true)
    (k18 : PySem.W.keepIn K (.ref f18) = true)
    (a19 : PySem.W.nsIn K mainGlobals "read" = some (some (.ref f19)))
    (l19 : K.lookup f19 = some ⟨oc19, od19, .func (PySem.W.fnOf "read" "read" (defArgs s_read) (defBody s_read) (defScope s_read) .none kV19 dc19 pm19 an19 cd19 ct19), sl19⟩) (c19 : PySem.W.codeIn K cd19 "read" = true)
    (k19 : PySem.W.keepIn K (.ref f19) = true)
    (a20 : PySem.W.nsIn K mainGlobals "check_full" = some (some (.ref f20)))
    (l20 : K.lookup f20 = some ⟨oc20, od20, .func (PySem.W.fnOf "check_full" "check_full" (defArgs s_check_full) (defBody s_check_full) (defScope s_check_full) .none kV20 dc20 pm20 an20 cd20 ct20), sl20⟩) (c20 : PySem.W.codeIn K cd20 "check_full" = true)
    (k20 : PySem.W.keepIn K (.ref f20) = true)
    (a21 : PySem.W.nsIn K mainGlobals "check_rows" = some (some (.ref f21)))
    (l21 : K.lookup f21 = some ⟨oc21, od21, .func (PySem.W.fnOf "check_rows" "check_rows" (defArgs s_check_rows) (defBody s_check_rows) (defScope s_check_rows) .none kV21 dc21 pm21 an21 cd21 ct21), sl21⟩) (c21 : PySem.W.codeIn K cd21 "check_rows" = true)
    (k21 : PySem.W.keepIn K (.ref f21) = true)
    (a22 : PySem.W.nsIn K mainGlobals "check_tables" = some (some (.ref f22)))
    (l22 : K.lookup f22 = some ⟨oc22, od22, .func (PySem.W.fnOf "check_tables" "check_tables" (defArgs s_check_tables) (defBody s_check_tables) (defScope s_check_tables) .none kV22 dc22 pm22 an22 cd22 ct22), sl22⟩) (c22 : PySem.W.codeIn K cd22 "check_tables" = true)
    (k22 : PySem.W.keepIn K (.ref f22) = true)
    (a23 : PySem.W.nsIn K mainGlobals "lay_hidden" = some (some (.ref f23)))
    (l23 : K.lookup f23 = some ⟨oc23, od23, .func (PySem.W.fnOf "lay_hidden" "lay_hidden" (defArgs s_lay_hidden) (defBody s_lay_hidden) (defScope s_lay_hidden) .none kV23 dc23 pm23 an23 cd23 ct23), sl23⟩) (c23 : PySem.W.codeIn K cd23 "lay_hidden" = true)
    (k23 : PySem.W.keepIn K (.ref f23) = true)
    (a24 : PySem.W.nsIn K mainGlobals "take_hidden" = some (some (.ref f24)))
    (l24 : K.lookup f24 = some ⟨oc24, od24, .func (PySem.W.fnOf "take_hidden" "take_hidden" (defArgs s_take_hidden) (defBody s_take_hidden) (defScope s_take_hidden) .none kV24 dc24 pm24 an24 cd24 ct24), sl24⟩) (c24 : PySem.W.codeIn K cd24 "take_hidden" = true)
    (k24 : PySem.W.keepIn K (.ref f24) = true)
    (a25 : PySem.W.nsIn K mainGlobals "_law_cell_at" = some (some (.ref f25)))
    (l25 : K.lookup f25 = some ⟨oc25, od25, .func (PySem.W.fnOf "_law_cell_at" "_law_cell_at" (defArgs s_law_cell_at) (defBody s_law_cell_at) (defScope s_law_cell_at) .none kV25 dc25 pm25 an25 cd25 ct25), sl25⟩) (c25 : PySem.W.codeIn K cd25 "_law_cell_at" = true)
    (k25 : PySem.W.keepIn K (.ref f25) = true)
    (a26 : PySem.W.nsIn K mainGlobals "_law_whole" = some (some (.ref f26)))
    (l26 : K.lookup f26 = some ⟨oc26, od26, .func (PySem.W.fnOf "_law_whole" "_law_whole" (defArgs s_law_whole) (defBody s_law_whole) (defScope s_law_whole) .none kV26 dc26 pm26 an26 cd26 ct26), sl26⟩) (c26 : PySem.W.codeIn K cd26 "_law_whole" = true)
    (k26 : PySem.W.keepIn K (.ref f26) = true)
    (a27 : PySem.W.nsIn K mainGlobals "_law_draw" = some (some (.ref f27)))
    (l27 : K.lookup f27 = some ⟨oc27, od27, .func (PySem.W.fnOf "_law_draw" "_law_draw" (defArgs s_law_draw) (defBody s_law_draw) (defScope s_law_draw) .none kV27 dc27 pm27 an27 cd27 ct27), sl27⟩) (c27 : PySem.W.codeIn K cd27 "_law_draw" = true)
    (k27 : PySem.W.keepIn K (.ref f27) = true)
    (a28 : PySem.W.nsIn K mainGlobals "_law_counts" = some (some (.ref f28)))
    (l28 : K.lookup f28 = some ⟨oc28, od28, .func (PySem.W.fnOf "_law_counts" "_law_counts" (defArgs s_law_counts) (defBody s_law_counts) (defScope s_law_counts) .none kV28 dc28 pm28 an28 cd28 ct28), sl28⟩) (c28 : PySem.W.codeIn K cd28 "_law_counts" = true)
    (k28 : PySem.W.keepIn K (.ref f28) = true)
    (a29 : PySem.W.nsIn K mainGlobals "_law_held" = some (some (.ref f29)))
    (l29 : K.lookup f29 = some ⟨oc29, od29, .func (PySem.W.fnOf "_law_held" "_law_held" (defArgs s_law_held) (defBody s_law_held) (defScope s_law_held) .none kV29 dc29 pm29 an29 cd29 ct29), sl29⟩) (c29 : PySem.W.codeIn K cd29 "_law_held" = true)
    (k29 : PySem.W.keepIn K (.ref f29) = true)
    (a30 : PySem.W.nsIn K mainGlobals "_law_pile" = some (some (.ref f30)))
    (l30 : K.lookup f30 = some ⟨oc30, od30, .func (PySem.W.fnOf "_law_pile" "_law_pile" (defArgs s_law_pile) (defBody s_law_pile) (defScope s_law_pile) .none kV30 dc30 pm30 an30 cd30 ct30), sl30⟩) (c30 : PySem.W.codeIn K cd30 "_law_pile" = true)
    (k30 : PySem.W.keepIn K (.ref f30) = true)
    (a31 : PySem.W.nsIn K mainGlobals "_law_full" = some (some (.ref f31)))
    (l31 : K.lookup f31 = some ⟨oc31, od31, .func (PySem.W.fnOf "_law_full" "_law_full" (defArgs s_law_full) (defBody s_law_full) (defScope s_law_full) .none kV31 dc31 pm31 an31 cd31 ct31), sl31⟩) (c31 : PySem.W.codeIn K cd31 "_law_full" = true)
    (k31 : PySem.W.keepIn K (.ref f31) = true)
    (a32 : PySem.W.nsIn K mainGlobals "_law_tools" = some (some (.ref f32)))
    (l32 : K.lookup f32 = some ⟨oc32, od32, .func (PySem.W.fnOf "_law_tools" "_law_tools" (defArgs s_law_tools) (defBody s_law_tools) (defScope s_law_tools) .none kV32 dc32 pm32 an32 cd32 ct32), sl32⟩) (c32 : PySem.W.codeIn K cd32 "_law_tools" = true)
    (k32 : PySem.W.keepIn K (.ref f32) = true)
    (a33 : PySem.W.nsIn K mainGlobals "_law_lay" = some (some (.ref f33)))
    (l33 : K.lookup f33 = some ⟨oc33, od33, .func (PySem.W.fnOf "_law_lay" "_law_lay" (defArgs s_law_lay) (defBody s_law_lay) (defScope s_law_lay) .none kV33 dc33 pm33 an33 cd33 ct33), sl33⟩) (c33 : PySem.W.codeIn K cd33 "_law_lay" = true)
    (k33 : PySem.W.keepIn K (.ref f33) = true)
    (a34 : PySem.W.nsIn K mainGlobals "_law_take" = some (some (.ref f34)))
    (l34 : K.lookup f34 = some ⟨oc34, od34, .func (PySem.W.fnOf "_law_take" "_law_take" (defArgs s_law_take) (defBody s_law_take) (defScope s_law_take) .none kV34 dc34 pm34 an34 cd34 ct34), sl34⟩) (c34 : PySem.W.codeIn K cd34 "_law_take" = true)
    (k34 : PySem.W.keepIn K (.ref f34) = true)
    (a35 : PySem.W.nsIn K mainGlobals "_law_row" = some (some (.ref f35)))
    (l35 : K.lookup f35 = some ⟨oc35, od35, .func (PySem.W.fnOf "_law_row" "_law_row" (defArgs s_law_row) (defBody s_law_row) (defScope s_law_row) .none kV35 dc35 pm35 an35 cd35 ct35), sl35⟩) (c35 : PySem.W.codeIn K cd35 "_law_row" = true)
    (k35 : PySem.W.keepIn K (.ref f35) = true)
    (a36 : PySem.W.nsIn K mainGlobals "law" = some (some (.ref f36)))
    (l36 : K.lookup f36 = some ⟨oc36, od36, .func (PySem.W.fnOf "law" "law" (defArgs s_law) (defBody s_law) (defScope s_law) .none kV36 dc36 pm36 an36 cd36 ct36), sl36⟩) (c36 : PySem.W.codeIn K cd36 "law" = true)
    (k36 : PySem.W.keepIn K (.ref f36) = true)
    (z_len : PySem.W.nsIn K mainGlobals "len" = some none)
    (z_sum : PySem.W.nsIn K mainGlobals "sum" = some none)
    (z_isinstance : PySem.W.nsIn K mainGlobals "isinstance" = some none)
    (z_divmod : PySem.W.nsIn K mainGlobals "divmod" = some none)
    (z_list : PySem.W.nsIn K mainGlobals "list" = some none)
    (z_tuple : PySem.W.nsIn K mainGlobals "tuple" = some none)
    (z_int : PySem.W.nsIn K mainGlobals "int" = some none)
    (z_bool : PySem.W.nsIn K mainGlobals "bool" = some none)
    (z_range : PySem.W.nsIn K mainGlobals "range" = some none)
    (z_reversed : PySem.W.nsIn K mainGlobals "reversed" = some none)
    (z_zip : PySem.W.nsIn K mainGlobals "zip" = some none)
    (z_min : PySem.W.nsIn K mainGlobals "min" = some none)
    (z_max : PySem.W.nsIn K mainGlobals "max" = some none)
    (z_enumerate : PySem.W.nsIn K mainGlobals "enumerate" = some none)
    (z_str : PySem.W.nsIn K mainGlobals "str" = some none)
    (z_sorted : PySem.W.nsIn K mainGlobals "sorted" = some none)
    (z_set : PySem.W.nsIn K mainGlobals "set" = some none)
    (g_MOST_SIGNS : PySem.W.nsIn K mainGlobals "MOST_SIGNS" = some (some (.int 100 tk_MOST_SIGNS)))
    (g_MOST_COUNT : PySem.W.nsIn K mainGlobals "MOST_COUNT" = some (some (.int 999 tk_MOST_COUNT)))
    (g_MOST_STEP : PySem.W.nsIn K mainGlobals "MOST_STEP" = some (some (.int 9 tk_MOST_STEP)))
    : ∃ fd : FuncData, (∀ (s : Shared) (v : Value), BindsTo s fd ⟨[v], []⟩ [("script", v)]) ∧ ∀ base : Heap, K.In base → base.Ns mainGlobals mg → FnOk l.prog w K mg base CX0 9 fa fd ["script"] (sp_law0 K) := by
  have e := hfa.symm.trans (PySem.W.mg_of X G a36)
  cases e
  have z : BI mg := ⟨PySem.W.mg_none_of X G z_len, PySem.W.mg_none_of X G z_sum, PySem.W.mg_none_of X G z_isinstance, PySem.W.mg_none_of X G z_divmod, PySem.W.mg_none_of X G z_list, PySem.W.mg_none_of X G z_tuple, PySem.W.mg_none_of X G z_int, PySem.W.mg_none_of X G z_bool, PySem.W.mg_none_of X G z_range, PySem.W.mg_none_of X G z_reversed, PySem.W.mg_none_of X G z_zip, PySem.W.mg_none_of X G z_min, PySem.W.mg_none_of X G z_max, PySem.W.mg_none_of X G z_enumerate, PySem.W.mg_none_of X G z_str, PySem.W.mg_none_of X G z_sorted, PySem.W.mg_none_of X G z_set⟩
  have g : GC mg := ⟨⟨_, PySem.W.mg_of X G g_MOST_SIGNS⟩, ⟨_, PySem.W.mg_of X G g_MOST_COUNT⟩, ⟨_, PySem.W.mg_of X G g_MOST_STEP⟩⟩
  have tf : TF K mg ⟨0, KL, KF, KM, 0, 0⟩ := { mM := PySem.W.mg_of X G aCM, fL := ⟨⟨pgL, hdL, poL, saL⟩, n_manyL, n_stepL, n_learntL, n_keptL, n_tellerL, n_behindL, x1L, x2, x3, x4L⟩, mL := PySem.W.mg_of X G aCL, kL := ktL, fF := ⟨⟨pgF, hdF, poF, saF⟩, n_manyF, n_stepF, n_learntF, n_keptF, n_tellerF, n_behindF, x1F, x2, x3, x4F⟩, mF := PySem.W.mg_of X G aCF, kF := ktF, nLF := nnLF, nFL := nnFL }
  refine ⟨PySem.W.fnOf "law" "law" (defArgs s_law) (defBody s_law) (defScope s_law) .none kV36 dc36 pm36 an36 cd36 ct36, fun s v => .of_eq rfl, fun base _ _ => ?_⟩
  have C_check_counts := ok_check_counts (P := l.prog) (w := w) (base := base) (T := ⟨0, KL, KF, KM, 0, 0⟩) z g tf (def_mk X G a0 l0 c0 k0 (fun _ _ _ _ _ _ => us1 (fun _ => rfl))) 
  have C_check_sign := ok_check_sign (P := l.prog) (w := w) (base := base) (T := ⟨0, KL, KF, KM, 0, 0⟩) z g tf (def_mk X G a1 l1 c1 k1 (fun _ _ _ _ _ _ => us2 (fun _ _ => rfl))) 
  have C_count_of := ok_count_of (P := l.prog) (w := w) (base := base) (T := ⟨0, KL, KF, KM, 0, 0⟩) z g tf (def_mk X G a2 l2 c2 k2 (fun _ _ _ _ _ _ => us2 (fun _ _ => rfl))) C_check_sign
  have C_whole := ok_whole (P := l.prog) (w := w) (base := base) (T := ⟨0, KL, KF, KM, 0, 0⟩) z g tf (def_mk X G a3 l3 c3 k3 (fun _ _ _ _ _ _ => us1 (fun _ => rfl))) C_check_counts
  have C_first_of := ok_first_of (P := l.prog) (w := w) (base := base) (T := ⟨0, KL, KF, KM, 0, 0⟩) z g tf (def_mk X G a4 l4 c4 k4 (fun _ _ _ _ _ _ => us2 (fun _ _ => rfl))) C_check_counts C_check_sign
  have C_sign_of := ok_sign_of (P := l.prog) (w := w) (base := base) (T := ⟨0, KL, KF, KM, 0, 0⟩) z g tf (def_mk X G a5 l5 c5 k5 (fun _ _ _ _ _ _ => us2 (fun _ _ => rfl))) C_whole
  have C_check_pile := ok_check_pile (P := l.prog) (w := w) (base := base) (T := ⟨0, KL, KF, KM, 0, 0⟩) z g tf (def_mk X G a6 l6 c6 k6 (fun _ _ _ _ _ _ => us1 (fun _ => rfl))) 
  have C_lay := ok_lay (P := l.prog) (w := w) (base := base) (T := ⟨0, KL, KF, KM, 0, 0⟩) z g tf (def_mk X G a7 l7 c7 k7 (fun _ _ _ _ _ _ => us3 (fun _ _ _ => rfl))) C_whole C_check_pile C_count_of C_first_of
  have C_take := ok_take (P := l.prog) (w := w) (base := base) (T := ⟨0, KL, KF, KM, 0, 0⟩) z g tf (def_mk X G a8 l8 c8 k8 (fun _ _ _ _ _ _ => us2 (fun _ _ => rfl))) C_whole C_check_pile C_sign_of C_first_of
  have C_Model_init := ok_Model_init (P := l.prog) (w := w) (base := base) (T := ⟨0, KL, KF, KM, 0, 0⟩) z g tf ⟨f9, _, fund_mk (st := s_Model_init) l9 c9, .all (us2 (fun _ _ => rfl)), PySem.W.mg_of X G aCM, r9, fc9, sp9, k9⟩ 
  have CC_Learner_init := ok_Learner_init (P := l.prog) (w := w) (base := base) (T := ⟨0, KL, KF, KM, 0, 0⟩) z g tf ⟨.ref dT10, f10, _, [.int 1 dtk10], fund_mk (st := s_Learner_init) l10 c10, (binds_three rfl fun s a b c hK => BindsTo.of_defaults rfl (hK _ _ dl10) rfl rfl rfl), (binds_two rfl fun s a b hK => BindsTo.of_defaults rfl (hK _ _ dl10) rfl rfl rfl), .cons ⟨_, rfl⟩ .nil, ⟨mk10, a10, i10, k10⟩⟩ C_Model_init
  have C_Learner := CC_Learner_init.1
  have C_Learner1 := CC_Learner_init.2
  have C_Learner_counts := ok_Learner_counts (P := l.prog) (w := w) (base := base) (T := ⟨0, KL, KF, KM, 0, 0⟩) z g tf ⟨f11, _, fund_mk (st := s_Learner_counts) l11 c11, .all (us1 (fun _ => rfl)), ⟨a11, i11, k11⟩⟩ 
  have C_Learner_see := ok_Learner_see (P := l.prog) (w := w) (base := base) (T := ⟨0, KL, KF, KM, 0, 0⟩) z g tf ⟨f12, _, fund_mk (st := s_Learner_see) l12 c12, .all (us2 (fun _ _ => rfl)), ⟨a12, i12, k12⟩⟩ C_check_sign
  have C_Learner_fresh := ok_Learner_fresh (P := l.prog) (w := w) (base := base) (T := ⟨0, KL, KF, KM, 0, 0⟩) z g tf ⟨f13, _, fund_mk (st := s_Learner_fresh) l13 c13, .all (us1 (fun _ => rfl)), ⟨a13, i13, k13⟩⟩ C_Learner
  have CC_Follower_init := ok_Follower_init (P := l.prog) (w := w) (base := base) (T := ⟨0, KL, KF, KM, 0, 0⟩) z g tf ⟨.ref dT14, f14, _, [.int 1 dtk14], fund_mk (st := s_Follower_init) l14 c14, (binds_three rfl fun s a b c hK => BindsTo.of_defaults rfl (hK _ _ dl14) rfl rfl rfl), (binds_two rfl fun s a b hK => BindsTo.of_defaults rfl (hK _ _ dl14) rfl rfl rfl), .cons ⟨_, rfl⟩ .nil, ⟨mk14, a14, i14, k14⟩⟩ C_Model_init C_Learner
  have C_Follower := CC_Follower_init.1
  have C_Follower1 := CC_Follower_init.2
  have C_Follower_counts := ok_Follower_counts (P := l.prog) (w := w) (base := base) (T := ⟨0, KL, KF, KM, 0, 0⟩) z g tf ⟨f15, _, fund_mk (st := s_Follower_counts) l15 c15, .all (us1 (fun _ => rfl)), ⟨a15, i15, k15⟩⟩ C_Learner_counts
  have C_Follower_see := ok_Follower_see (P := l.prog) (w := w) (base := base) (T := ⟨0, KL, KF, KM, 0, 0⟩) z g tf ⟨f16, _, fund_mk (st := s_Follower_see) l16 c16, .all (us2 (fun _ _ => rfl)), ⟨a16, i16, k16⟩⟩ C_Learner_see
  have C_Follower_fresh := ok_Follower_fresh (P := l.prog) (w := w) (base := base) (T := ⟨0, KL, KF, KM, 0, 0⟩) z g tf ⟨f17, _, fund_mk (st := s_Follower_fresh) l17 c17, .all (us1 (fun _ => rfl)), ⟨a17, i17, k17⟩⟩ C_Follower
  have C_press := ok_press (P := l.prog) (w := w) (base := base) (T := ⟨0, KL, KF, KM, 0, 0⟩) z g tf (def_mk X G a18 l18 c18 k18 (fun _ _ _ _ _ _ => us3 (fun _ _ _ => rfl))) C_check_pile C_Learner_fresh C_Follower_fresh C_Learner_counts C_Follower_counts C_Learner_see C_Follower_see C_lay
  have C_read := ok_read (P := l.prog) (w := w) (base := base) (T := ⟨0, KL, KF, KM, 0, 0⟩) z g tf (def_mk X G a19 l19 c19 k19 (fun _ _ _ _ _ _ => us3 (fun _ _ _ => rfl))) C_check_pile C_Learner_fresh C_Follower_fresh C_take C_Learner_counts C_Follower_counts C_Learner_see C_Follower_see
  have C_check_full := ok_check_full (P := l.prog) (w := w) (base := base) (T := ⟨0, KL, KF, KM, 0, 0⟩) z g tf (def_mk X G a20 l20 c20 k20 (fun _ _ _ _ _ _ => us1 (fun _ => rfl))) C_check_counts
  have C_check_rows := ok_check_rows (P := l.prog) (w := w) (base := base) (T := ⟨0, KL, KF, KM, 0, 0⟩) z g tf (def_mk X G a21 l21 c21 k21 (fun _ _ _ _ _ _ => us3 (fun _ _ _ => rfl))) C_check_full
  have C_check_tables := ok_check_tables (P := l.prog) (w := w) (base := base) (T := ⟨0, KL, KF, KM, 0, 0⟩) z g tf (def_mk X G a22 l22 c22 k22 (fun _ _ _ _ _ _ => us3 (fun _ _ _ => rfl))) C_check_full C_check_rows
  have C_lay_hidden := ok_lay_hidden (P := l.prog) (w := w) (base := base) (T := ⟨0, KL, KF, KM, 0, 0⟩) z g tf (def_mk X G a23 l23 c23 k23 (fun _ _ _ _ _ _ => us5 (fun _ _ _ _ _ => rfl))) C_check_tables C_check_pile C_check_sign C_take C_lay
  have C_take_hidden := ok_take_hidden (P := l.prog) (w := w) (base := base) (T := ⟨0, KL, KF, KM, 0, 0⟩) z g tf (def_mk X G a24 l24 c24 k24 (fun _ _ _ _ _ _ => us4 (fun _ _ _ _ => rfl))) C_check_tables C_take C_lay
  have C_law_cell_at := ok_law_cell_at (P := l.prog) (w := w) (base := base) (T := ⟨0, KL, KF, KM, 0, 0⟩) z g tf (def_mk X G a25 l25 c25 k25 (fun _ _ _ _ _ _ => us2 (fun _ _ => rfl))) 
  have C_law_whole := ok_law_whole (P := l.prog) (w := w) (base := base) (T := ⟨0, KL, KF, KM, 0, 0⟩) z g tf (def_mk X G a26 l26 c26 k26 (fun _ _ _ _ _ _ => us1 (fun _ => rfl))) 
  have C_law_draw := ok_law_draw (P := l.prog) (w := w) (base := base) (T := ⟨0, KL, KF, KM, 0, 0⟩) z g tf (def_mk X G a27 l27 c27 k27 (fun _ _ _ _ _ _ => us3 (fun _ _ _ => rfl))) 
  have C_law_counts := ok_law_counts (P := l.prog) (w := w) (base := base) (T := ⟨0, KL, KF, KM, 0, 0⟩) z g tf (def_mk X G a28 l28 c28 k28 (fun _ _ _ _ _ _ => us2 (fun _ _ => rfl))) C_law_draw
  have C_law_held := ok_law_held (P := l.prog) (w := w) (base := base) (T := ⟨0, KL, KF, KM, 0, 0⟩) z g tf (def_mk X G a29 l29 c29 k29 (fun _ _ _ _ _ _ => us1 (fun _ => rfl))) 
  have C_law_pile := ok_law_pile (P := l.prog) (w := w) (base := base) (T := ⟨0, KL, KF, KM, 0, 0⟩) z g tf (def_mk X G a30 l30 c30 k30 (fun _ _ _ _ _ _ => us1 (fun _ => rfl))) 
  have C_law_full := ok_law_full (P := l.prog) (w := w) (base := base) (T := ⟨0, KL, KF, KM, 0, 0⟩) z g tf (def_mk X G a31 l31 c31 k31 (fun _ _ _ _ _ _ => us2 (fun _ _ => rfl))) C_law_draw
  have C_law_tools := ok_law_tools (P := l.prog) (w := w) (base := base) (T := ⟨0, KL, KF, KM, 0, 0⟩) z g tf (def_mk X G a32 l32 c32 k32 (fun _ _ _ _ _ _ => us1 (fun _ => rfl))) C_law_full C_law_cell_at C_law_counts C_Learner C_Follower
  have C_law_lay := ok_law_lay (P := l.prog) (w := w) (base := base) (T := ⟨0, KL, KF, KM, 0, 0⟩) z g tf (def_mk X G a33 l33 c33 k33 (fun _ _ _ _ _ _ => us4 (fun _ _ _ _ => rfl))) C_lay C_lay_hidden C_press
  have C_law_take := ok_law_take (P := l.prog) (w := w) (base := base) (T := ⟨0, KL, KF, KM, 0, 0⟩) z g tf (def_mk X G a34 l34 c34 k34 (fun _ _ _ _ _ _ => us3 (fun _ _ _ => rfl))) C_take C_take_hidden C_read
  have C_law_row := ok_law_row (P := l.prog) (w := w) (base := base) (T := ⟨0, KL, KF, KM, 0, 0⟩) z g tf (def_mk X G a35 l35 c35 k35 (fun _ _ _ _ _ _ => us3 (fun _ _ _ => rfl))) C_law_held
  exact ok_law (T := ⟨0, KL, KF, KM, 0, 0⟩) z g tf (fun_mk (st := s_law) l36 c36 k36) C_law_tools C_law_pile C_law_cell_at C_law_take C_law_row C_law_lay C_law_whole
theorem walk {l : PySem.W.OpenLaw} {q : Program} {loose : List Str} {XP : (Str → Option Value) → Heap → Prop} {YP : World → Heap → Prop} {d : DefRec} {K : Params → PySem.W.Frag} (hn : l.most = some 63) (hdf : d.params.defaults = [])
    (hY : ∀ (w : World) (h : Heap), YP w h → (K w.params).In h)
    (F : ∀ (w : World) (mg : Str → Option Value) (fa : Addr) (h : Heap), (K w.params).In h → h.Ns mainGlobals mg → mg d.name = some (.ref fa) →
      ∃ fd : FuncData, (∀ (s : Shared) (u : Value), BindsTo s fd ⟨[u], []⟩ [("script", u)]) ∧ ∀ base : Heap, (K w.params).In base → base.Ns mainGlobals mg → FnOk l.prog w (K w.params) mg base CX0 9 fa fd ["script"] (sp_law0 (K w.params))) :
    PySem.W.WalkO q loose XP YP l.row.toRowW d [] (fun f vs => PySem.call f vs) :=
  L2.walk_of (n := 63) (k := 9) (x := "script") (CX := fun _ => CX0) (sp := fun w => sp_law0 (K w.params)) hn (by decide) hdf ⟨rfl, by decide, by decide⟩ hY F (fun _ _ a ns hl _ hS => ⟨a, ns, rfl, hS, hl, fun _ => rfl⟩) fun _ _ _ _ _ z => z
end T
open PySem PySem.W PyProof.Rows
set_option maxRecDepth 100000 in
set_option maxHeartbeats 0 in
theorem PySem.Challenge.cw_numberpile_k18_whole_deeds_undone_holds : PySem.Challenge.rw_numberpile_k18_whole_deeds_undone.Holds := by
  w_on; o_law; k_head; (case hw => w_witness2)
  k_fill
  refine T.walk (l := PySem.Challenge.rw_numberpile_k18_whole_deeds_undone) rfl rfl (fun w h Y => PySem.W.kIn_of Y) ?F
  case F =>
    intro w mg fa h KX G hmg
    refine' T.all_mk KX G hmg ?aCM ?aCL ?aCF ?pgL ?hdL ?poL ?saL ?n_manyL ?n_stepL ?n_learntL ?n_keptL ?n_tellerL ?n_behindL ?x1L ?x4L ?ktL ?pgF ?hdF ?poF ?saF ?n_manyF ?n_stepF ?n_learntF ?n_keptF ?n_tellerF ?n_behindF ?x1F ?x4F ?ktF ?x2 ?x3 ?nnLF ?nnFL ?a0 ?l0 ?c0 ?k0 ?a1 ?l1 ?c1 ?k1 ?a2 ?l2 ?c2 ?k2 ?a3 ?l3 ?c3 ?k3 ?a4 ?l4 ?c4 ?k4 ?a5 ?l5 ?c5 ?k5 ?a6 ?l6 ?c6 ?k6 ?a7 ?l7 ?c7 ?k7 ?a8 ?l8 ?c8 ?k8 ?r9 ?fc9 ?l9 ?c9 ?sp9 ?k9 ?a10 ?i10 ?mk10 ?k10 ?l10 ?c10 ?dl10 ?a11 ?i11 ?l11 ?c11 ?k11 ?a12 ?i12 ?l12 ?c12 ?k12 ?a13 ?i13 ?l13 ?c13 ?k13 ?a14 ?i14 ?mk14 ?k14 ?l14 ?c14 ?dl14 ?a15 ?i15 ?l15 ?c15 ?k15 ?a16 ?i16 ?l16 ?c16 ?k16 ?a17 ?i17 ?l17 ?c17 ?k17 ?a18 ?l18 ?c18 ?k18 ?a19 ?l19 ?c19 ?k19 ?a20 ?l20 ?c20 ?k20 ?a21 ?l21 ?c21 ?k21 ?a22 ?l22 ?c22 ?k22 ?a23 ?l23 ?c23 ?k23 ?a24 ?l24 ?c24 ?k24 ?a25 ?l25 ?c25 ?k25 ?a26 ?l26 ?c26 ?k26 ?a27 ?l27 ?c27 ?k27 ?a28 ?l28 ?c28 ?k28 ?a29 ?l29 ?c29 ?k29 ?a30 ?l30 ?c30 ?k30 ?a31 ?l31 ?c31 ?k31 ?a32 ?l32 ?c32 ?k32 ?a33 ?l33 ?c33 ?k33 ?a34 ?l34 ?c34 ?k34 ?a35 ?l35 ?c35 ?k35 ?a36 ?l36 ?c36 ?k36 ?z_len ?z_sum ?z_isinstance ?z_divmod ?z_list ?z_tuple ?z_int ?z_bool ?z_range ?z_reversed ?z_zip ?z_min ?z_max ?z_enumerate ?z_str ?z_sorted ?z_set ?g_MOST_SIGNS ?g_MOST_COUNT ?g_MOST_STEP
    (case aCM => k_is)
    (case aCL => k_is)
    (case aCF => k_is)
    (case pgL => k_is)
    (case hdL => k_is)
    (case poL => k_is)
    (case saL => k_is)
    (case n_manyL => k_is)
    (case n_stepL => k_is)
    (case n_learntL => k_is)
    (case n_keptL => k_is)
    (case n_tellerL => k_is)
    (case n_behindL => k_is)
    (case x1L => k_is)
    (case x4L => k_is)
    (case ktL => kit_is)
    (case pgF => k_is)
    (case hdF => k_is)
    (case poF => k_is)
    (case saF => k_is)
    (case n_manyF => k_is)
    (case n_stepF => k_is)
    (case n_learntF => k_is)
    (case n_keptF => k_is)
    (case n_tellerF => k_is)
    (case n_behindF => k_is)
    (case x1F => k_is)
    (case x4F => k_is)
    (case ktF => kit_is)
    (case x2 => k_is)
    (case x3 => k_is)
    (case a0 => k_is)
    (case l0 => k_is)
    (case c0 => k_is)
    (case k0 => k_is)
    (case a1 => k_is)
    (case l1 => k_is)
    (case c1 => k_is)
    (case k1 => k_is)
    (case a2 => k_is)
    (case l2 => k_is)
    (case c2 => k_is)
    (case k2 => k_is)
    (case a3 => k_is)
    (case l3 => k_is)
    (case c3 => k_is)
    (case k3 => k_is)
    (case a4 => k_is)
    (case l4 => k_is)
    (case c4 => k_is)
    (case k4 => k_is)
    (case a5 => k_is)
    (case l5 => k_is)
    (case c5 => k_is)
    (case k5 => k_is)
    (case a6 => k_is)
    (case l6 => k_is)
    (case c6 => k_is)
    (case k6 => k_is)
    (case a7 => k_is)
    (case l7 => k_is)
    (case c7 => k_is)
    (case k7 => k_is)
    (case a8 => k_is)
    (case l8 => k_is)
    (case c8 => k_is)
    (case k8 => k_is)
    (case r9 => k_is)
    (case fc9 => k_is)
    (case l9 => k_is)
    (case c9 => k_is)
    (case sp9 => k_is)
    (case k9 => k_is)
    (case a10 => k_is)
    (case i10 => k_is)
    (case mk10 => k_is)
    (case k10 => k_is)
    (case l10 => k_is)
    (case c10 => k_is)
    (case dl10 => k_is)
    (case a11 => k_is)
    (case i11 => k_is)
    (case l11 => k_is)
    (case c11 => k_is)
    (case k11 => k_is)
    (case a12 => k_is)
    (case i12 => k_is)
    (case l12 => k_is)
    (case c12 => k_is)
    (case k12 => k_is)
    (case a13 => k_is)
    (case i13 => k_is)
    (case l13 => k_is)
    (case c13 => k_is)
    (case k13 => k_is)
    (case a14 => k_is)
    (case i14 => k_is)
    (case mk14 => k_is)
    (case k14 => k_is)
    (case l14 => k_is)
    (case c14 => k_is)
    (case dl14 => k_is)
    (case a15 => k_is)
    (case i15 => k_is)
    (case l15 => k_is)
    (case c15 => k_is)
    (case k15 => k_is)
    (case a16 => k_is)
    (case i16 => k_is)
    (case l16 => k_is)
    (case c16 => k_is)
    (case k16 => k_is)
    (case a17 => k_is)
    (case i17 => k_is)
    (case l17 => k_is)
    (case c17 => k_is)
    (case k17 => k_is)
    (case a18 => k_is)
    (case l18 => k_is)
    (case c18 => k_is)
    (case k18 => k_is)
    (case a19 => k_is)
    (case l19 => k_is)
    (case c19 => k_is)
    (case k19 => k_is)
    (case a20 => k_is)
    (case l20 => k_is)
    (case c20 => k_is)
    (case k20 => k_is)
    (case a21 => k_is)
    (case l21 => k_is)
    (case c21 => k_is)
    (case k21 => k_is)
    (case a22 => k_is)
    (case l22 => k_is)
    (case c22 => k_is)
    (case k22 => k_is)
    (case a23 => k_is)
    (case l23 => k_is)
    (case c23 => k_is)
    (case k23 => k_is)
    (case a24 => k_is)
    (case l24 => k_is)
    (case c24 => k_is)
    (case k24 => k_is)
    (case a25 => k_is)
    (case l25 => k_is)
    (case c25 => k_is)
    (case k25 => k_is)
    (case a26 => k_is)
    (case l26 => k_is)
    (case c26 => k_is)
    (case k26 => k_is)
    (case a27 => k_is)
    (case l27 => k_is)
    (case c27 => k_is)
    (case k27 => k_is)
    (case a28 => k_is)
    (case l28 => k_is)
    (case c28 => k_is)
    (case k28 => k_is)
    (case a29 => k_is)
    (case l29 => k_is)
    (case c29 => k_is)
    (case k29 => k_is)
    (case a30 => k_is)
    (case l30 => k_is)
    (case c30 => k_is)
    (case k30 => k_is)
    (case a31 => k_is)
    (case l31 => k_is)
    (case c31 => k_is)
    (case k31 => k_is)
    (case a32 => k_is)
    (case l32 => k_is)
    (case c32 => k_is)
    (case k32 => k_is)
    (case a33 => k_is)
    (case l33 => k_is)
    (case c33 => k_is)
    (case k33 => k_is)
    (case a34 => k_is)
    (case l34 => k_is)
    (case c34 => k_is)
    (case k34 => k_is)
    (case a35 => k_is)
    (case l35 => k_is)
    (case c35 => k_is)
    (case k35 => k_is)
    (case a36 => k_is)
    (case l36 => k_is)
    (case c36 => k_is)
    (case k36 => k_is)
    (case z_len => k_is)
    (case z_sum => k_is)
    (case z_isinstance => k_is)
    (case z_divmod => k_is)
    (case z_list => k_is)
    (case z_tuple => k_is)
    (case z_int => k_is)
    (case z_bool => k_is)
    (case z_range => k_is)
    (case z_reversed => k_is)
    (case z_zip => k_is)
    (case z_min => k_is)
    (case z_max => k_is)
    (case z_enumerate => k_is)
    (case z_str => k_is)
    (case z_sorted => k_is)
    (case z_set => k_is)
    (case g_MOST_SIGNS => k_is)
    (case g_MOST_COUNT => k_is)
    (case g_MOST_STEP => k_is)
    (case nnLF => decide)
    (case nnFL => decide)
