import PyProof.Rows.All
import Wide.All
import OpenK.AllK
import Wide.FinOn
import Lean
import PyProof.EqAt
import PyProof.EqKinds
import PyProof.TupleCall
import PyProof.NeKinds
import PyProof.ZipIter
import PyProof.ListNew
import PyProof.ListRange
import KE.KRevIter
import KE.KIntText
import PyProof.Rows.SortShell
import PyProof.Rows.SetFrom
import PyProof.Rows.SortWalk
import PyProof.Rows.FStr
import PyProof.Rows.StrKeys3
import PyProof.Rows.StrIntSpec
import PyProof.NsDelKeeps
import KE.KIsAll
import PyProof.ExcArgsOwn
import PyProof.ExcAttrAll.ValueError
import PySem.Challenge.RW_numberpile_k17_whole_leaves_that_are_som
set_option Elab.async false
set_option linter.all false
set_option maxRecDepth 100000
/-! THE HAND LAYER, for ints, bools, texts, own classes, LISTS and tuples (index, slices, in, append, pop ..), calls, loops. Paste it whole ahead of your own text; what your proof does not reach may be deleted. -/
namespace L2
open PySem PySem.Spec PyProof.Rows

/-- a key: an int or a str -/
abbrev Key := Sum Int Str
def keyIs : Key → Value → Bool
  | .inl k, v => Value.isInt k v
  | .inr x, v => Value.isStrOf x v
def keyH (w : World) : Key → Int
  | .inl k => hashInt k
  | .inr x => hashStr w x
theorem keyIs_shape : ∀ {k : Key} {v : Value}, keyIs k v = true → (∃ i t, k = Sum.inl i ∧ v = Value.int i t) ∨ (∃ x t, k = Sum.inr x ∧ v = Value.str x t)
  | .inl i, v, h => by
    obtain ⟨t, e⟩ := Value.isInt_shape (k := i) (v := v) h
    exact .inl ⟨i, t, rfl, e⟩
  | .inr x, v, h => by
    obtain ⟨t, e⟩ := Value.isStrOf_shape (x := x) (v := v) h
    exact .inr ⟨x, t, rfl, e⟩
theorem key_ll (a b : Int) : decide ((Sum.inl a : Key) = Sum.inl b) = (a == b) := by
  by_cases e : a = b
  · subst e; simp
  · have h : ¬ (Sum.inl a : Key) = Sum.inl b := fun q => e (Sum.inl.inj q)
    rw [decide_eq_false h]
    exact (beq_eq_false_iff_ne.mpr e).symm
theorem key_rr (a b : Str) : decide ((Sum.inr a : Key) = Sum.inr b) = decide (a = b) := by
  by_cases e : a = b
  · subst e; simp
  · have h : ¬ (Sum.inr a : Key) = Sum.inr b := fun q => e (Sum.inr.inj q)
    rw [decide_eq_false h, decide_eq_false e]
theorem key_lr (a : Int) (b : Str) : decide ((Sum.inl a : Key) = Sum.inr b) = false := decide_eq_false (fun q => nomatch q)
theorem key_rl (a : Str) (b : Int) : decide ((Sum.inr a : Key) = Sum.inl b) = false := decide_eq_false (fun q => nomatch q)

def mixKind (prog : Program) (w : World) : PySem.KeyKind prog w Key where
  is := keyIs
  hash := keyH w
  inj := fun v a b ha hb => by
    rcases keyIs_shape ha with ⟨i, t, rfl, rfl⟩ | ⟨x, t, rfl, rfl⟩
    · rcases keyIs_shape hb with ⟨j, u, rfl, e⟩ | ⟨y, u, rfl, e⟩
      · injection e with e1 _; rw [e1]
      · exact nomatch e
    · rcases keyIs_shape hb with ⟨j, u, rfl, e⟩ | ⟨y, u, rfl, e⟩
      · exact nomatch e
      · injection e with e1 _; rw [e1]
  byValue := fun k v h => by
    rcases keyIs_shape h with ⟨i, t, rfl, rfl⟩ | ⟨x, t, rfl, rfl⟩ <;> rfl
  pyHash := fun hv h => by
    rcases keyIs_shape hv with ⟨i, t, rfl, rfl⟩ | ⟨x, t, rfl, rfl⟩
    · exact wpAny_pyHash_int h
    · exact wpAny_pyHash_str h
  eqBool := fun hu hv h => by
    rcases keyIs_shape hu with ⟨i, t, rfl, rfl⟩ | ⟨x, t, rfl, rfl⟩
    · rcases keyIs_shape hv with ⟨j, u, rfl, rfl⟩ | ⟨y, u, rfl, rfl⟩
      · rw [key_ll] at h; exact wpAny_eqBool_int h
      · rw [key_lr] at h; exact SeqAt.EqAt.int_str i t y u _ _ _ _ h
    · rcases keyIs_shape hv with ⟨j, u, rfl, rfl⟩ | ⟨y, u, rfl, rfl⟩
      · rw [key_rl] at h; exact SeqAt.EqAt.str_int x t j u _ _ _ _ h
      · rw [key_rr] at h; exact wpAny_eqBool_str h
  «strs» := fun k x t v h => by
    rcases keyIs_shape h with ⟨i, u, rfl, e⟩ | ⟨y, u, rfl, e⟩
    · exact nomatch e
    · injection e with e1 _
      subst e1
      cases v <;> rfl

end L2

namespace L2
open PySem PySem.Spec PyProof.Rows

/-- a value, without the heap -/
inductive V where
  | non | bl (b : Bool) | int (i : Int) | str (x : Str) | byt (b : Array UInt8) | flt (b : UInt64) | ref (a : Addr) | ty (n : String)
  deriving DecidableEq

def RelV : V → Value → Prop
  | .non, u => u = Value.none
  | .bl b, u => u = Value.bool b
  | .int i, u => ∃ t, u = Value.int i t
  | .str x, u => ∃ t, u = Value.str x t
  | .byt b, u => ∃ t, u = Value.bytes b t
  | .flt b, u => ∃ t, u = Value.float b t
  | .ref a, u => u = Value.ref a
  | .ty n, u => u = Value.type n

abbrev Vals : List V → List Value → Prop := Paired RelV
theorem Vals.length {xs : List V} {us : List Value} (r : Vals xs us) : xs.length = us.length := Paired.length r
theorem Vals.get : ∀ {xs : List V} {us : List Value} {i : Nat} {x : V}, Vals xs us → xs[i]? = some x → ∃ u, us[i]? = some u ∧ RelV x u
  | _, _, _, _, .nil, e => by simp at e
  | _, _, 0, _, .cons r _, e => by simp at e; subst e; exact ⟨_, rfl, r⟩
  | _, _, i + 1, x, .cons _ t, e => by
    obtain ⟨u, h1, h2⟩ := Vals.get (i := i) (x := x) t (by simpa using e)
    exact ⟨u, by simpa using h1, h2⟩
theorem Vals.append : ∀ {xs ys : List V} {us ws : List Value}, Vals xs us → Vals ys ws → Vals (xs ++ ys) (us ++ ws)
  | _, _, _, _, .nil, s => s
  | _, _, _, _, .cons r t, s => .cons r (Vals.append t s)
theorem Vals.take : ∀ {xs : List V} {us : List Value} (n : Nat), Vals xs us → Vals (xs.take n) (us.take n)
  | _, _, 0, _ => .nil
  | _, _, _ + 1, .nil => .nil
  | _, _, n + 1, .cons r t => .cons r (Vals.take n t)
theorem Vals.drop : ∀ {xs : List V} {us : List Value} (n : Nat), Vals xs us → Vals (xs.drop n) (us.drop n)
  | _, _, 0, r => r
  | _, _, _ + 1, .nil => .nil
  | _, _, n + 1, .cons _ t => Vals.drop n t
def RelO : Option V → Option Value → Prop
  | some v, some u => RelV v u
  | none, none => True
  | _, _ => False
def KV {κ : Type} : List (κ × V) → List (κ × Value) → Prop := Paired fun (p : κ × V) (q : κ × Value) => p.1 = q.1 ∧ RelV p.2 q.2

/-- a key of a dict (00_mix): an int or a text -/
def kV : Key → V
  | .inl i => .int i
  | .inr x => .str x

/-- what stands at a tracked address -/
inductive HO where
  /-- a list -/
  | lst (xs : List V)
  /-- a tuple (never changes) -/
  | tup (xs : List V)
  /-- a dict whose keys are ints and texts; one whose keys are tuples of ints and texts (the empty one is both) -/
  | dK (kvs : List (Key × V)) | dT (kvs : List (List Key × V))
  /-- a set of ints: its members, its size -/
  | set (S : Int → Bool) (n : Nat)
  /-- an instance of the class at C, its dict at dx, its attributes -/
  | ins (C dx : Addr) (fs : List (Str × V))
  /-- the dict of the instance at x -/
  | own (x : Addr)
  /-- the dict of an exception -/
  | xd (fs : List (Str × V))
  /-- a bound method, f of x -/
  | met (f x : Addr)
  /-- a range object lo, lo + 1, .. below hi -/
  | rng (lo hi : Int)
  /-- a thing that is known to the object (the script; a dict while a loop walks it): read, never written while it is so -/
  | frz (o : Obj) (u : HO)
  /-- a code object's table -/
  | tbl (ps : Array Value)
  /-- any other thing, by what is true of its one object (a def of one's own: SetO a S n := HO.ext fun h => ..) -/
  | ext (φ : Heap → Prop)

abbrev Hp := Addr → Option HO
def upd (H : Hp) (a : Addr) (o : HO) : Hp := fun b => if b = a then some o else H b
theorem upd_same {H : Hp} {a : Addr} {o : HO} : upd H a o a = some o := by unfold upd; rw [if_pos rfl]
theorem upd_ne {H : Hp} {a b : Addr} {o : HO} (h : b ≠ a) : upd H a o b = H b := by unfold upd; rw [if_neg h]
theorem upd_upd {H : Hp} {a : Addr} {o u : HO} : upd (upd H a o) a u = upd H a u := by
  funext b; unfold upd; split <;> rfl
/-- two objects of different content stand apart -/
theorem ne_of {H : Hp} {a b : Addr} {o u : HO} (h : H a = some o) (h' : H b = some u) (d : o ≠ u) : a ≠ b := by
  intro e; subst e; rw [h] at h'; exact d (Option.some.inj h')
theorem ne_of_none {H : Hp} {a b : Addr} {o : HO} (h : H a = some o) (h' : H b = none) : a ≠ b := by
  intro e; subst e; rw [h] at h'; cases h'

section
variable (P : Program) (w : World)
def ObjOk (H : Hp) (h : Heap) (a : Addr) : HO → Prop
  | .lst xs => xs.length ≤ sizeLine ∧ ∃ (its : List Value) (n : Nat), Vals xs its ∧ h.get? a = some { cls := .type "list", data := .seq its.toArray n }
  | .tup xs => xs.length ≤ sizeLine ∧ ∃ its : List Value, Vals xs its ∧ IsTup h a its.toArray
  | .dK kvs => kvs.length ≤ sizeLine ∧ (a == sysModules) = false ∧ ∃ vs, KV kvs vs ∧ h.DictOf (mixKind P w) a vs
  | .dT _ => False
  | .set S n => h.SetOf (intKind P w) a S n
  | .ins C dx fs => H dx = some (.own a) ∧ fs.length ≤ 1000 ∧ dx ≠ a ∧ h.get? a = some (PySem.W.instObj C dx) ∧
      ∃ mA, h.Ns1 dx mA ∧ (∀ f, RelO (fs.lookup f) (mA f)) ∧ PySem.Within mA (fs.map (·.1))
  | .own _ => ∃ o, h.get? a = some o
  | .xd fs => ∃ mA, h.Ns1 a mA ∧ ∀ f, RelO (fs.lookup f) (mA f)
  | .rng lo hi => ∃ t u v, h.get? a = some { cls := .type "range", data := .fields #[.int lo t, .int hi u, .int 1 v] }
  | .frz o u => h.get? a = some o ∧ ObjOk H h a u
  | .tbl ps => h.get? a = some { cls := .none, data := .fields ps }
  | .met f x => h.get? a = some (PySem.W.methodObj (.ref f) (.ref x))
  | .ext φ => φ h ∧ (∃ o, h.get? a = some o) ∧ ∀ h1 h2 : Heap, φ h1 → (∀ o, h1.get? a = some o → h2.get? a = some o) → φ h2
/-- the abstract heap is held -/
def HOk (H : Hp) (h : Heap) : Prop := ∀ a o, H a = some o → ObjOk P w H h a o
end

section
variable {P : Program} {w : World} {H H' : Hp} {h h' : Heap} {a : Addr} {o : HO}
theorem ObjOk.lt (x : ObjOk P w H h a o) : a < h.objs.size := by
  cases o with
  | lst xs => obtain ⟨_, _, _, _, e⟩ := x; exact Heap.lt_size e
  | tup xs => obtain ⟨_, _, _, p⟩ := x; exact p.lt
  | dK kvs => obtain ⟨_, _, _, _, o, _, _, e, _⟩ := x; exact Heap.lt_size e
  | dT kvs => exact (show False from x).elim
  | set S n => obtain ⟨o, _, _, _, e, _⟩ := x; exact Heap.lt_size e
  | ins C dx fs => obtain ⟨_, _, _, e, _⟩ := x; exact Heap.lt_size e
  | own y => obtain ⟨_, e⟩ := x; exact Heap.lt_size e
  | xd fs => obtain ⟨_, ⟨_, _, _, e, _⟩, _⟩ := x; exact Heap.lt_size e
  | rng lo hi => obtain ⟨_, _, _, e⟩ := x; exact Heap.lt_size e
  | frz ob u => obtain ⟨e, _⟩ := x; exact Heap.lt_size e
  | tbl ps => exact Heap.lt_size (show h.get? a = some _ from x)
  | met f y => exact Heap.lt_size (show h.get? a = some _ from x)
  | ext φ => obtain ⟨_, ⟨_, e⟩, _⟩ := x; exact Heap.lt_size e
/-- what an object's description leans on: its own object, its own dict, the tuples -/
theorem ObjOk.stay (x : ObjOk P w H h a o) (k : ∀ b u, (b = a ∨ H b = some (.own a)) → h.get? b = some u → h'.get? b = some u)
    (ho : ∀ b, H b = some (.own a) → H' b = some (.own a)) (ht : ∀ b xs, H b = some (.tup xs) → H' b = some (.tup xs)) : ObjOk P w H' h' a o := by
  induction o with
  | lst xs => obtain ⟨z, its, n, r, e⟩ := x; exact ⟨z, its, n, r, k _ _ (.inl rfl) e⟩
  | tup xs => obtain ⟨z, its, r, ob, e, c⟩ := x; exact ⟨z, its, r, ob, k _ _ (.inl rfl) e, c⟩
  | dK kvs => obtain ⟨z, y, vs, r, ob, es, ep, e, c⟩ := x; exact ⟨z, y, vs, r, ob, es, ep, k _ _ (.inl rfl) e, c⟩
  | dT kvs => exact (show False from x).elim
  | set S n => obtain ⟨ob, es, ep, t, e, c⟩ := x; exact ⟨ob, es, ep, t, k _ _ (.inl rfl) e, c⟩
  | ins C dx fs =>
    obtain ⟨d, z, ne, e, mA, ⟨od, es, ep, e2, c⟩, r⟩ := x
    exact ⟨ho _ d, z, ne, k _ _ (.inl rfl) e, mA, ⟨od, es, ep, k _ _ (.inr d) e2, c⟩, r⟩
  | own y => obtain ⟨ob, e⟩ := x; exact ⟨ob, k _ _ (.inl rfl) e⟩
  | xd fs => obtain ⟨mA, ⟨od, es, ep, e, c⟩, r⟩ := x; exact ⟨mA, ⟨od, es, ep, k _ _ (.inl rfl) e, c⟩, r⟩
  | rng lo hi => obtain ⟨t, u, v, e⟩ := x; exact ⟨t, u, v, k _ _ (.inl rfl) e⟩
  | frz ob u ih => obtain ⟨e, q⟩ := x; exact ⟨k _ _ (.inl rfl) e, ih q⟩
  | tbl ps =>
    have e : h.get? a = some { cls := .none, data := .fields ps } := x
    show h'.get? a = some { cls := .none, data := .fields ps }
    exact k a _ (.inl rfl) e
  | met f y =>
    have e : h.get? a = some (PySem.W.methodObj (.ref f) (.ref y)) := x
    show h'.get? a = some (PySem.W.methodObj (.ref f) (.ref y))
    exact k a _ (.inl rfl) e
  | ext φ => obtain ⟨p, ⟨o, e⟩, st⟩ := x; exact ⟨st _ _ p fun o q => k _ _ (.inl rfl) q, ⟨o, k _ _ (.inl rfl) e⟩, st⟩
theorem HOk.lt (x : HOk P w H h) (e : H a = some o) : a < h.objs.size := (x a o e).lt
theorem HOk.fresh (x : HOk P w H h) (e : h.objs.size ≤ a) : H a = none := by
  cases q : H a with
  | none => rfl
  | some u => exact absurd (Nat.lt_of_lt_of_le (x.lt q) e) (Nat.lt_irrefl _)
/-- every object of the heap is kept -/
theorem HOk.kept (x : HOk P w H h) (k : ∀ b u, h.get? b = some u → h'.get? b = some u) : HOk P w H h' := fun a o e =>
  (x a o e).stay (fun b u _ q => k b u q) (fun _ q => q) fun _ _ q => q
/-- a new object is laid and tracked -/
theorem HOk.laid (x : HOk P w H h) (k : ∀ b u, h.get? b = some u → h'.get? b = some u) (hp : h.objs.size ≤ a) (new : ObjOk P w (upd H a o) h' a o) : HOk P w (upd H a o) h' := fun b u e => by
  have hn := x.fresh hp
  by_cases hb : b = a
  · subst hb; rw [upd_same] at e; cases e; exact new
  · rw [upd_ne hb] at e
    exact (x b u e).stay (fun c v _ q => k c v q) (fun c q => by rw [upd_ne (ne_of_none q hn)]; exact q) fun c xs q => by rw [upd_ne (ne_of_none q hn)]; exact q
end

/-- what may be read as u: it is u, or a known u -/
def Rd (H : Hp) (a : Addr) (u : HO) : Prop := H a = some u ∨ ∃ o, H a = some (.frz o u)
theorem Rd.ok {P : Program} {w : World} {H : Hp} {h : Heap} {a : Addr} {u : HO} (r : Rd H a u) (x : HOk P w H h) : ObjOk P w H h a u := by
  rcases r with r | ⟨o, r⟩
  · exact x a u r
  · obtain ⟨_, q⟩ := x a _ r
    exact q
/-- what may be written -/
def Mut : Option HO → Prop
  | some (.lst _) => True
  | some (.dK _) => True
  | some (.dT _) => True
  | some (.set _ _) => True
  | some (.ins _ _ _) => True
  | some (.ext _) => True
  | _ => False
section
variable {P : Program} {w : World} {H : Hp} {h h' : Heap} {x e : Addr} {o' : HO}
/-- the object at e is changed: x itself, or the dict of the instance x -/
theorem HOk.write (ok : HOk P w H h) (mu : Mut (H x)) (he : e = x ∨ H e = some (.own x)) (k : ∀ b u, b ≠ e → h.get? b = some u → h'.get? b = some u) (heo : ∃ u, h'.get? e = some u)
    (new : ObjOk P w (upd H x o') h' x o') : HOk P w (upd H x o') h' := fun b u q => by
  have nown : ∀ c y, H c = some (.own y) → c ≠ x := fun c y r z => by subst z; rw [r] at mu; exact mu
  have ntup : ∀ c xs, H c = some (.tup xs) → c ≠ x := fun c xs r z => by subst z; rw [r] at mu; exact mu
  by_cases hb : b = x
  · subst hb; rw [upd_same] at q; cases q; exact new
  · rw [upd_ne hb] at q
    by_cases hbe : b = e
    · have q' : H b = some (.own x) := by
        rcases he with z | z
        · exact absurd (hbe.trans z) hb
        · rw [hbe]; exact z
      rw [q] at q'; cases q'
      obtain ⟨v, hv⟩ := heo
      exact ⟨v, by rw [hbe]; exact hv⟩
    · refine (ok b u q).stay (fun c v hc r => k c v ?_ r) (fun c r => by rw [upd_ne (nown c b r)]; exact r) fun c xs r => by rw [upd_ne (ntup c xs r)]; exact r
      rcases hc with rfl | hc
      · exact hbe
      · rintro rfl
        rcases he with z | z
        · exact nown c b hc z
        · rw [hc] at z; cases z; exact hb rfl
end

/-! ### kept unless tracked; of the frames at fs (the callers') the slots may change (an exception that passes writes there); of the records at ex (iterators) nothing is said -/
structure Un (fs ex : List Addr) (H H' : Hp) (h h' : Heap) : Prop where
  keep : ∀ b o, h.get? b = some o → H b = none → b ∉ fs → b ∉ ex → h'.get? b = some o
  slot : ∀ b o, h.get? b = some o → H b = none → b ∈ fs → b ∉ ex → ∃ sl, h'.get? b = some { o with slots := sl }
  free : ∀ b o, h.get? b = some o → H b = none → b ∉ ex → H' b = none
  there : ∀ b o, h.get? b = some o → b ∉ ex → ∃ o', h'.get? b = some o'
  tups : ∀ b xs, H b = some (.tup xs) → H' b = some (.tup xs)
  frzs : ∀ b o u, H b = some (.frz o u) → H' b = some (.frz o u)
  tbls : ∀ b ps, H b = some (.tbl ps) → ∃ more, H' b = some (.tbl (ps ++ more))
section
variable {fs fs' ex ex' : List Addr} {H H1 H2 : Hp} {h h1 h2 h' : Heap} {a x e : Addr} {o : HO}
theorem Un.any (u : Un fs ex H H1 h h1) {b : Addr} {ob : Obj} (q : h.get? b = some ob) (n : H b = none) (hx : b ∉ ex) : ∃ sl, h1.get? b = some { ob with slots := sl } := by
  by_cases hb : b ∈ fs
  · exact u.slot b ob q n hb hx
  · exact ⟨ob.slots, u.keep b ob q n hb hx⟩
theorem Un.kept (k : ∀ b u, h.get? b = some u → h'.get? b = some u) : Un fs ex H H h h' :=
  ⟨fun b ob q _ _ _ => k b ob q, fun b ob q _ _ _ => ⟨ob.slots, k b ob q⟩, fun _ _ _ n _ => n, fun b ob q _ => ⟨ob, k b ob q⟩, fun _ _ q => q, fun _ _ _ q => q, fun _ ps q => ⟨#[], by rw [q]; simp⟩⟩
theorem Un.refl : Un fs ex H H h h := Un.kept fun _ _ q => q
theorem Un.laid (k : ∀ b u, h.get? b = some u → h'.get? b = some u) (hp : h.objs.size ≤ a) (hn : H a = none) : Un fs ex H (upd H a o) h h' where
  keep := fun b u q _ _ _ => k b u q
  slot := fun b u q _ _ _ => ⟨u.slots, k b u q⟩
  free := fun b u q n _ => by rw [upd_ne (Nat.ne_of_lt (Nat.lt_of_lt_of_le (Heap.lt_size q) hp))]; exact n
  there := fun b u q _ => ⟨u, k b u q⟩
  tups := fun b xs q => by rw [upd_ne (ne_of_none q hn)]; exact q
  frzs := fun b u xs q => by rw [upd_ne (ne_of_none q hn)]; exact q
  tbls := fun b ps q => ⟨#[], by rw [upd_ne (ne_of_none q hn), q]; simp⟩
theorem Un.write (mu : Mut (H x)) (he : e = x ∨ H e = some (.own x)) (k : ∀ b u, b ≠ e → h.get? b = some u → h'.get? b = some u) (heo : ∃ u, h'.get? e = some u) : Un fs ex H (upd H x o) h h' := by
  have hx : ∀ b, H b = none → b ≠ x := fun b n z => by subst z; rw [n] at mu; exact mu
  have hb : ∀ b, H b = none → b ≠ e := fun b n z => by
    subst z
    rcases he with r | r
    · exact hx b n r
    · rw [n] at r; cases r
  have hm : ∀ b u, H b = some u → ¬ Mut (some u) → b ≠ x := fun b u q nm z => by subst z; rw [q] at mu; exact nm mu
  refine ⟨fun b u q n _ _ => k b u (hb b n) q, fun b u q n _ _ => ⟨u.slots, k b u (hb b n) q⟩, fun b u q n _ => by rw [upd_ne (hx b n)]; exact n, fun b u q _ => ?_,
    fun b xs q => by rw [upd_ne (hm b _ q fun z => z)]; exact q, fun b u xs q => by rw [upd_ne (hm b _ q fun z => z)]; exact q, fun b ps q => ⟨#[], by rw [upd_ne (hm b _ q fun z => z), q]; simp⟩⟩
  by_cases hbe : b = e
  · subst hbe; exact heo
  · exact ⟨u, k b u hbe q⟩
end

/-! ### the heap without what is tracked -/
def trk (h : Heap) (H : Hp) : List Addr := (List.range h.objs.size).filter fun a => (H a).isSome
def hidT (h : Heap) (H : Hp) : Heap := PySem.W.hideAll h (trk h H)
theorem hidT_size (h : Heap) (H : Hp) : (hidT h H).objs.size = h.objs.size := PySem.W.hideAll_size _ _
theorem hidT_get {h : Heap} {H : Hp} {b : Addr} {o : Obj} (e : h.get? b = some o) (n : H b = none) : (hidT h H).get? b = some o :=
  PySem.W.hideAll_get _ e fun hm => by
    have q : (H b).isSome = true := (List.mem_filter.mp hm).2
    rw [n] at q; simp at q
theorem of_hidT {h : Heap} {H : Hp} {b : Addr} {o : Obj} (e : (hidT h H).get? b = some o) : h.get? b = some o ∧ H b = none := by
  have e' : h.get? b = some o := PySem.W.of_hideAll (trk h H) e
  refine ⟨e', ?_⟩
  cases q : H b with
  | none => rfl
  | some x =>
    have hm : b ∈ trk h H := List.mem_filter.mpr ⟨List.mem_range.mpr (Heap.lt_size e'), by simp [q]⟩
    have z : (hidT h H).get? b = none := PySem.W.hideAll_none (trk h H) hm
    rw [z] at e; cases e

/-! ### OpenK's ledger, filled with every new object but one -/
def allNews (g h : Heap) (L : Addr) : List (Addr × Obj) := (List.range h.objs.size).filterMap fun a => if a = L ∨ (g.get? a).isSome = true then none else (h.get? a).map fun o => (a, o)
def rest (g h : Heap) (L d : Addr) : List (Addr × Obj) := (allNews g h L).filter fun p => decide (p.1 ≠ d)
end L2

namespace L2
open PySem PySem.Spec PyProof.Rows

/-- the module's facts, over the base: the heap at the law's entry without what is tracked there -/
structure Mod (K : PySem.W.Frag) (mg : Str → Option Value) (base : Heap) : Prop where
  kin : K.In base
  glob : base.Ns mainGlobals mg
  blt : ∃ mb, base.Ns builtinsNs mb ∧ ∀ x : Str, x ≠ "__name__" → mb x = bootBuiltins x
  nolimit : base.NoLimit

/-- the context: a def's body (or a comprehension's block) running. base: fixed through the whole law; s₀, H₀: the entry; outer: the frames whose slots others may change (a def's callers); stack: all frames that run;
   ex: iterators that were made ahead of the entry and are walked here (a comprehension's); fn: the names whose cells were made at the entry (a def: all; a comprehension's block: its own); calm: not within an except suite; pn: pins that every state bears; xe: what is wanted of an exception that leaves the code -/
structure Cx where
  prog : Program
  w : World
  K : PySem.W.Frag
  mg : Str → Option Value
  base : Heap
  A : Around
  N : List Str
  s₀ : Shared
  H₀ : Hp
  env : Env
  outer : List Env
  stack : List Env
  ex : List Addr
  fn : Str → Bool
  calm : Bool
  pn : List (Addr × Obj)
  xe : Value → Shared → Prop
/-- the callers' frames -/
def frs (l : List Env) : List Addr := l.filterMap (·.frame)
abbrev Cx.fs (X : Cx) : List Addr := frs X.outer

def Vis (sc : Scope) (x : Str) : Prop := sc.names.lookup x = some .local ∨ sc.names.lookup x = some .cell ∨ sc.names.lookup x = some .free
def Loc (sc : Scope) (x : Str) : Prop := sc.names.lookup x = some .local ∨ sc.names.lookup x = some .cell
def Look (env : Env) (h : Heap) (m : Str → Option Value) (x : Str) (u : Value) : Prop :=
  (env.kindOf x = some .local ∧ m x = some u) ∨ ((env.kindOf x = some .cell ∨ env.kindOf x = some .free) ∧ ∃ c, env.cells.lookup x = some c ∧ h.IsCell c (some u))

structure Cx.Ok (X : Cx) : Prop where
  mod : Mod X.K X.mg X.base
  kind : X.env.scope.kind = .function
  glob : X.env.globals = mainGlobals
  blt : X.env.builtins = builtinsNs
  above : X.s₀.heap.objs.size ≤ X.env.locals
  inj : ∀ x y c, X.env.cells.lookup x = some c → X.env.cells.lookup y = some c → x = y
  has : ∀ x, (X.env.kindOf x = some .cell ∨ X.env.kindOf x = some .free) → ∃ c, X.env.cells.lookup x = some c
  cab : ∀ x c, X.fn x = true → X.env.cells.lookup x = some c → X.s₀.heap.objs.size ≤ c
  hd : X.calm = true → X.A.handled = none
  frames : X.A.frames = some X.stack
  stk : X.stack = X.outer ∨ (X.stack = X.env :: X.outer ∧ X.env.frame = some X.env.locals)
  exf : ∀ b ∈ X.ex, b ≠ X.env.locals ∧ ∀ x c, X.env.cells.lookup x = some c → c ≠ b
  bs : ∀ b o, X.base.get? b = some o → X.s₀.heap.get? b = some o ∧ X.H₀ b = none
  bsz : X.base.objs.size ≤ X.s₀.heap.objs.size
  noex : ∀ b o, X.base.get? b = some o → b ∉ X.ex
  exfs : ∀ b ∈ X.ex, b ∉ X.fs
  funs : X.s₀.heap.FunFrames X.base X.outer
  frf : ∀ b ∈ X.fs, X.H₀ b = none

structure Inv (X : Cx) (pins : List (Addr × Obj)) (σ : List (Option V)) (H : Hp) (s : Shared) : Prop where
  ok : X.Ok
  os : s.os = X.s₀.os
  bare : AllBare s.gens
  base : Un X.fs X.ex X.H₀ H X.s₀.heap s.heap
  loc : ∃ m, s.heap.Ns X.env.locals m ∧ ∀ (i : Nat) (x : Str) (v : V), X.N[i]? = some x → σ[i]? = some (some v) → Vis X.env.scope x → ∃ u, RelV v u ∧ Look X.env s.heap m x u
  cell : ∀ x c, X.env.cells.lookup x = some c → ∃ v, s.heap.IsCell c v
  free : H X.env.locals = none
  freeC : ∀ x c, X.env.cells.lookup x = some c → H c = none
  pin : ∀ p ∈ X.pn ++ pins, s.heap.get? p.1 = some p.2 ∧ H p.1 = none ∧ p.1 ≠ X.env.locals ∧ p.1 ∉ X.fs ∧ ∀ v, p.2.data ≠ .cell v
  hok : HOk X.prog X.w H s.heap
  len : σ.length = X.N.length

section
variable {X : Cx} {pins : List (Addr × Obj)} {σ : List (Option V)} {H H' : Hp} {s : Shared} {h' : Heap}

theorem Cx.Ok.nofr (ok : X.Ok) {b : Addr} {o : Obj} (e : X.base.get? b = some o) : b ∉ X.fs := fun hb => by
  have := (ok.funs.mem hb).1
  rw [e] at this; cases this
theorem Inv.bs (I : Inv X pins σ H s) : ∀ b o, X.base.get? b = some o → s.heap.get? b = some o ∧ H b = none := fun b o e =>
  ⟨I.base.keep b o (I.ok.bs b o e).1 (I.ok.bs b o e).2 (I.ok.nofr e) (I.ok.noex b o e), I.base.free b o (I.ok.bs b o e).1 (I.ok.bs b o e).2 (I.ok.noex b o e)⟩
theorem Inv.bk (I : Inv X pins σ H s) : ∀ b o, X.base.get? b = some o → s.heap.get? b = some o := fun b o e => (I.bs b o e).1
theorem Inv.mod (I : Inv X pins σ H s) : Mod X.K X.mg X.base := I.ok.mod
theorem Inv.kIn (I : Inv X pins σ H s) : X.K.In s.heap := I.ok.mod.kin.keeps I.bk
theorem Inv.lt (I : Inv X pins σ H s) : X.env.locals < s.heap.objs.size := let ⟨_, hn, _⟩ := I.loc; hn.lt
theorem Inv.sz (I : Inv X pins σ H s) : X.s₀.heap.objs.size ≤ s.heap.objs.size := Nat.le_trans I.ok.above (Nat.le_of_lt I.lt)
theorem Inv.nofs (I : Inv X pins σ H s) {a : Addr} (h : s.heap.objs.size ≤ a) : a ∉ X.fs := fun hb => by
  obtain ⟨_, o, ho, _⟩ := I.ok.funs.mem hb
  exact absurd (Nat.lt_of_lt_of_le (Heap.lt_size ho) (Nat.le_trans I.sz h)) (Nat.lt_irrefl _)
theorem Inv.cne (I : Inv X pins σ H s) : ∀ x c, X.env.cells.lookup x = some c → c ≠ X.env.locals := fun x c e z => by
  obtain ⟨v, o, ho, hd⟩ := I.cell x c e
  obtain ⟨m, ⟨o', es, ep, ho', hd', _⟩, _⟩ := I.loc
  rw [z, ho'] at ho; cases ho; rw [hd'] at hd; cases hd
theorem Inv.funs (I : Inv X pins σ H s) : s.heap.FunFrames X.base X.outer := by
  have all : ∀ (l : List Env), (∀ b ∈ frs l, b ∈ X.fs) → X.s₀.heap.FunFrames X.base l → s.heap.FunFrames X.base l := by
    intro l
    induction l with
    | nil => intro _ _; trivial
    | cons env r ih =>
      intro hs hl
      obtain ⟨hk, ⟨L, o, hf, hn, ho, hd⟩, hr⟩ := hl
      have hL : L ∈ X.fs := hs L (by unfold frs; rw [List.filterMap_cons, hf]; exact List.mem_cons_self)
      obtain ⟨sl, e⟩ := I.base.slot L o ho (I.ok.frf L hL) hL fun z => I.ok.exfs L z hL
      exact ⟨hk, ⟨L, _, hf, hn, e, hd⟩, ih (fun b hb => hs b (by unfold frs; rw [List.filterMap_cons, hf]; exact List.mem_cons_of_mem _ hb)) hr⟩
  exact all X.outer (fun _ hb => hb) I.ok.funs

/-- the frames that run, for a call -/
theorem Inv.stack (I : Inv X pins σ H s) : s.heap.FunFrames X.base X.stack := by
  rcases I.ok.stk with e | ⟨e, hf⟩
  · rw [e]; exact I.funs
  · rw [e]
    obtain ⟨m, hn, _⟩ := I.loc
    refine .cons (by rw [I.ok.kind]; decide) hf hn ?_ I.funs
    exact Heap.get?_none_of_le (Nat.le_trans I.ok.bsz I.ok.above)
theorem Inv.stkSub (I : Inv X pins σ H s) : ∀ b ∈ frs X.stack, b ∈ X.env.locals :: X.fs := fun b hb => by
  rcases I.ok.stk with e | ⟨e, hf⟩
  · rw [e] at hb; exact List.mem_cons_of_mem _ hb
  · rw [e] at hb
    unfold frs at hb
    rw [List.filterMap_cons, hf] at hb
    exact hb
theorem Inv.stkFree (I : Inv X pins σ H s) : ∀ b ∈ frs X.stack, H b = none := fun b hb => by
  rcases List.mem_cons.mp (I.stkSub b hb) with e | hb
  · rw [e]; exact I.free
  · obtain ⟨_, o, ho, _⟩ := I.ok.funs.mem hb
    exact I.base.free b o ho (I.ok.frf b hb) fun z => I.ok.exfs b z hb

/-- THE STEP: the untracked objects but the frame and the records at ch are kept (the callers' frames up to slots), the frame's map is kept, the new abstract heap is held -/
theorem Inv.step {g' : Array GenState} {t' : Nat} {d' : Drawn} {ch : List Addr} (I : Inv X pins σ H s)
    (hch : ∀ b ∈ ch, (b ∈ X.ex ∨ X.s₀.heap.objs.size ≤ b) ∧ b ≠ X.env.locals ∧ (∀ x c, X.env.cells.lookup x = some c → c ≠ b) ∧ ∀ p ∈ X.pn ++ pins, p.1 ≠ b)
    (keep : ∀ b o, b ≠ X.env.locals → b ∉ X.fs → b ∉ ch → s.heap.get? b = some o → H b = none → h'.get? b = some o)
    (slot : ∀ b o, b ≠ X.env.locals → b ∈ X.fs → b ∉ ch → s.heap.get? b = some o → H b = none → ∃ sl, h'.get? b = some { o with slots := sl }) (free : ∀ b o, b ∉ ch → s.heap.get? b = some o → H b = none → H' b = none)
    (there : ∀ b o, b ∉ ch → s.heap.get? b = some o → ∃ o', h'.get? b = some o')
    (tups : ∀ b xs, H b = some (.tup xs) → H' b = some (.tup xs)) (frzs : ∀ b o u, H b = some (.frz o u) → H' b = some (.frz o u)) (tbls : ∀ b ps, H b = some (.tbl ps) → ∃ more, H' b = some (.tbl (ps ++ more)))
    (ns : ∀ m, s.heap.Ns X.env.locals m → h'.Ns X.env.locals m) (hok : HOk X.prog X.w H' h') (hg : AllBare g') :
    Inv X pins σ H' { s with heap := h', gens := g', drawn := d', toks := t' } := by
  have neL : ∀ b o, X.s₀.heap.get? b = some o → b ≠ X.env.locals := fun b o e => Nat.ne_of_lt (Nat.lt_of_lt_of_le (Heap.lt_size e) I.ok.above)
  have neC : ∀ b o, X.s₀.heap.get? b = some o → b ∉ X.ex → b ∉ ch := fun b o e hx hb => by
    rcases (hch b hb).1 with z | z
    · exact hx z
    · exact absurd (Nat.lt_of_lt_of_le (Heap.lt_size e) z) (Nat.lt_irrefl _)
  have cellK : ∀ x c, X.env.cells.lookup x = some c → ∀ v, s.heap.IsCell c v → h'.IsCell c v := fun x c e v ⟨o, ho, hd⟩ => by
    have nch : c ∉ ch := fun z => (hch c z).2.2.1 x c e rfl
    by_cases hc : c ∈ X.fs
    · obtain ⟨sl, q⟩ := slot c o (I.cne x c e) hc nch ho (I.freeC x c e)
      exact ⟨_, q, hd⟩
    · exact ⟨o, keep c o (I.cne x c e) hc nch ho (I.freeC x c e), hd⟩
  refine ⟨I.ok, I.os, hg, ⟨fun b o e n hb hx => ?_, fun b o e n hb hx => ?_, fun b o e n hx => ?_, fun b o e hx => ?_, fun b xs e => tups b xs (I.base.tups b xs e), fun b o xs e => frzs b o xs (I.base.frzs b o xs e), fun b ps e => ?_⟩, ?_, fun x c e => ?_, ?_, fun x c e => ?_, fun p hp => ?_, hok, I.len⟩
  · exact keep b o (neL b o e) hb (neC b o e hx) (I.base.keep b o e n hb hx) (I.base.free b o e n hx)
  · obtain ⟨sl, e1⟩ := I.base.slot b o e n hb hx
    obtain ⟨sl', e2⟩ := slot b _ (neL b o e) hb (neC b o e hx) e1 (I.base.free b o e n hx)
    exact ⟨sl', e2⟩
  · obtain ⟨o', e1⟩ := I.base.there b o e hx
    exact free b o' (neC b o e hx) e1 (I.base.free b o e n hx)
  · obtain ⟨o', e1⟩ := I.base.there b o e hx
    exact there b o' (neC b o e hx) e1
  · obtain ⟨m1, e1⟩ := I.base.tbls b ps e
    obtain ⟨m2, e2⟩ := tbls b _ e1
    exact ⟨m1 ++ m2, by rw [e2, Array.append_assoc]⟩
  · obtain ⟨m, hn, hl⟩ := I.loc
    refine ⟨m, ns m hn, fun i x v e1 e2 e3 => ?_⟩
    obtain ⟨u, r, l⟩ := hl i x v e1 e2 e3
    refine ⟨u, r, ?_⟩
    rcases l with l | ⟨k, c, e, z⟩
    · exact .inl l
    · exact .inr ⟨k, c, e, cellK x c e _ z⟩
  · obtain ⟨v, z⟩ := I.cell x c e
    exact ⟨v, cellK x c e v z⟩
  · obtain ⟨m, ⟨o, _, _, ho, _⟩, _⟩ := I.loc
    exact free _ o (fun z => (hch _ z).2.1 rfl) ho I.free
  · obtain ⟨v, o, ho, hd⟩ := I.cell x c e
    exact free c o (fun z => (hch c z).2.2.1 x c e rfl) ho (I.freeC x c e)
  · obtain ⟨e, n, ne, nf, d⟩ := I.pin p hp
    have nch : p.1 ∉ ch := fun z => (hch p.1 z).2.2.2 p hp rfl
    exact ⟨keep p.1 p.2 ne nf nch e n, free p.1 p.2 nch e n, ne, nf, d⟩
/-- .. where the frame's own object is kept too -/
theorem Inv.un {t' : Nat} (I : Inv X pins σ H s) (u : Un X.fs [] H H' s.heap h') (hok : HOk X.prog X.w H' h') : Inv X pins σ H' { s with heap := h', toks := t' } := by
  obtain ⟨m, ⟨o, es, ep, ho, r⟩, _⟩ := id I.loc
  obtain ⟨sl, hL⟩ := u.any ho I.free (by simp)
  exact I.step (g' := s.gens) (d' := s.drawn) (ch := []) (fun _ z => nomatch z) (fun b o _ hb _ e n => u.keep b o e n hb (by simp)) (fun b o _ hb _ e n => u.slot b o e n hb (by simp)) (fun b o _ e n => u.free b o e n (by simp)) (fun b o _ e => u.there b o e (by simp)) u.tups u.frzs u.tbls (fun m' hm => by
    obtain ⟨o', es', ep', ho', r'⟩ := hm
    rw [ho] at ho'; cases ho'
    exact ⟨_, es', ep', hL, r'⟩) hok I.bare
/-- behind a call (or a comprehension's block): the slots of this frame may have changed too, the records at ch may have turned -/
theorem Inv.call {g' : Array GenState} {t' : Nat} {d' : Drawn} {ch : List Addr} (I : Inv X pins σ H s) (u : Un (frs X.stack) ch H H' s.heap h') (hok : HOk X.prog X.w H' h') (hg : AllBare g')
    (hch : ∀ b ∈ ch, (b ∈ X.ex ∨ X.s₀.heap.objs.size ≤ b) ∧ b ≠ X.env.locals ∧ (∀ x c, X.env.cells.lookup x = some c → c ≠ b) ∧ ∀ p ∈ X.pn ++ pins, p.1 ≠ b) :
    Inv X pins σ H' { s with heap := h', gens := g', drawn := d', toks := t' } := by
  obtain ⟨m, ⟨o, es, ep, ho, r⟩, _⟩ := id I.loc
  obtain ⟨sl, hL⟩ := u.any ho I.free fun z => (hch _ z).2.1 rfl
  exact I.step (ch := ch) hch (fun b o hL hb hc e n => u.keep b o e n (fun z => (List.mem_cons.mp (I.stkSub b z)).elim hL hb) hc) (fun b o _ _ hc e n => u.any e n hc) (fun b o hc e n => u.free b o e n hc) (fun b o hc e => u.there b o e hc) u.tups u.frzs u.tbls (fun m' hm => by
    obtain ⟨o', es', ep', ho', r'⟩ := hm
    rw [ho] at ho'; cases ho'
    exact ⟨_, es', ep', hL, r'⟩) hok hg
/-- an untracked record of ours (an iterator) has turned -/
theorem Inv.turned {t' : Nat} {it : Addr} (I : Inv X pins σ H s) (k : ∀ b o, b ≠ it → s.heap.get? b = some o → h'.get? b = some o) (hn : H it = none) (hL : it ≠ X.env.locals)
    (h1 : it ∈ X.ex ∨ X.s₀.heap.objs.size ≤ it) (h2 : ∀ x c, X.env.cells.lookup x = some c → c ≠ it) (h3 : ∀ p ∈ X.pn ++ pins, p.1 ≠ it) : Inv X pins σ H { s with heap := h', toks := t' } := by
  have nit : ∀ b u, H b = some u → b ≠ it := fun b u e z => by rw [z, hn] at e; cases e
  refine I.step (g' := s.gens) (d' := s.drawn) (ch := [it]) (fun b hb => ?_) (fun b o _ _ hc e _ => k b o (fun z => hc (by simp [z])) e) (fun b o _ _ hc e _ => ⟨o.slots, k b o (fun z => hc (by simp [z])) e⟩) (fun _ _ _ _ n => n)
    (fun b o hc e => ⟨o, k b o (fun z => hc (by simp [z])) e⟩) (fun _ _ e => e) (fun _ _ _ e => e) (fun b ps e => ⟨#[], by rw [e]; simp⟩) (fun m hm => ?_) (fun b u e => ?_) I.bare
  · have e : b = it := by simpa using hb
    subst e
    exact ⟨h1, hL, h2, h3⟩
  · obtain ⟨o, es, ep, ho, r⟩ := hm
    exact ⟨o, es, ep, k _ o (Ne.symm hL) ho, r⟩
  · refine (I.hok b u e).stay (fun c v hc q => k c v ?_ q) (fun _ q => q) fun _ _ q => q
    rcases hc with z | z
    · rw [z]; exact nit b u e
    · exact nit c _ z
theorem Inv.tok (I : Inv X pins σ H s) (t : Nat) : Inv X pins σ H { s with toks := t } := I.un (h' := s.heap) (t' := t) Un.refl I.hok
/-- all objects kept -/
theorem Inv.kept {t' : Nat} (I : Inv X pins σ H s) (k : ∀ b u, s.heap.get? b = some u → h'.get? b = some u) : Inv X pins σ H { s with heap := h', toks := t' } := I.un (Un.kept k) (I.hok.kept k)
/-- a new object laid and tracked -/
theorem Inv.laid {a : Addr} {o : HO} {t' : Nat} (I : Inv X pins σ H s) (k : ∀ b u, s.heap.get? b = some u → h'.get? b = some u) (hp : s.heap.objs.size ≤ a) (new : ObjOk X.prog X.w (upd H a o) h' a o) :
    Inv X pins σ (upd H a o) { s with heap := h', toks := t' } := I.un (Un.laid k hp (I.hok.fresh hp)) (I.hok.laid k hp new)
/-- an object written -/
theorem Inv.write {x e : Addr} {o : HO} {t' : Nat} (I : Inv X pins σ H s) (mu : Mut (H x)) (he : e = x ∨ H e = some (.own x)) (k : ∀ b u, b ≠ e → s.heap.get? b = some u → h'.get? b = some u) (heo : ∃ u, h'.get? e = some u)
    (new : ObjOk X.prog X.w (upd H x o) h' x o) : Inv X pins σ (upd H x o) { s with heap := h', toks := t' } := I.un (Un.write mu he k heo) (I.hok.write mu he k heo new)
theorem Inv.pins_of {pins' : List (Addr × Obj)} (I : Inv X pins σ H s) (h : ∀ p ∈ pins', s.heap.get? p.1 = some p.2 ∧ H p.1 = none ∧ p.1 ≠ X.env.locals ∧ p.1 ∉ X.fs ∧ ∀ v, p.2.data ≠ .cell v) : Inv X pins' σ H s :=
  ⟨I.ok, I.os, I.bare, I.base, I.loc, I.cell, I.free, I.freeC, fun p hp => (List.mem_append.mp hp).elim (fun z => I.pin p (List.mem_append_left _ z)) (h p), I.hok, I.len⟩

theorem nodup_ix {N : List Str} (hN : N.Nodup) {i j : Nat} {x : Str} (a : N[i]? = some x) (b : N[j]? = some x) : i = j := by
  obtain ⟨h1, e1⟩ := List.getElem?_eq_some_iff.mp a
  obtain ⟨h2, e2⟩ := List.getElem?_eq_some_iff.mp b
  exact (List.getElem_inj hN).mp (e1.trans e2.symm)

/-- a name is stored; what changed -/
theorem store_ok2 {M : Model} {A : Around} {E : Value → Shared → Prop} {i : Nat} {x : Str} {v : V} {u : Value} {Q : Unit → Shared → Prop} (I : Inv X pins σ H s) (hN : X.N.Nodup) (hi : X.N[i]? = some x) (hx : Loc X.env.scope x) (r : RelV v u)
    (h : ∀ s', Inv X pins (σ.set i (some v)) H s' → (∃ a, Heap.SameBut a s.heap s'.heap ∧ (a = X.env.locals ∨ X.env.cells.lookup x = some a)) → Q () s') (hf : X.fn x = true ∨ X.env.scope.names.lookup x = some .local := by first | exact .inl rfl | exact .inr rfl | assumption) : wpAny M A (storeName X.env x u) Q E s := by
  obtain ⟨m, hn, hl⟩ := id I.loc
  have hcls : (X.env.scope.kind == .class || (X.env.scope.kind == .module && X.env.locals != X.env.globals)) = false := by rw [I.ok.kind]; rfl
  have hiσ : i < σ.length := by rw [I.len]; exact (List.getElem?_eq_some_iff.mp hi).1
  have cne := I.cne
  have tracked : ∀ {a : Addr} {h' : Heap}, (∃ o, s.heap.get? a = some o ∧ H a = none) → Heap.SameBut a s.heap h' → HOk X.prog X.w H h' := fun {a h'} ha hs b ob e => by
    obtain ⟨_, _, hfree⟩ := ha
    refine (I.hok b ob e).stay (fun c w' hc q => (hs.2 c ?_).trans q) (fun _ q => q) fun _ _ q => q
    rintro rfl
    rcases hc with rfl | hc
    · rw [hfree] at e; cases e
    · rw [hfree] at hc; cases hc
  rcases hx with hk | hk
  · refine wpAny_storeName_local hk hn (fun h' hn' hs => ?_) hcls
    obtain ⟨oL, _, _, hoL, _⟩ := id hn
    refine h _ ⟨I.ok, I.os, I.bare, ⟨fun b o e n hb hx => ?_, fun b o e n hb hx => ?_, I.base.free, fun b o e hx => ?_, I.base.tups, I.base.frzs, I.base.tbls⟩, ⟨_, hn', fun j y v' e1 e2 e3 => ?_⟩, fun y c e => ?_, I.free, I.freeC, fun p hp => ?_, tracked ⟨oL, hoL, I.free⟩ hs, by simpa using I.len⟩ ⟨_, hs, .inl rfl⟩
    · exact (hs.2 b (Nat.ne_of_lt (Nat.lt_of_lt_of_le (Heap.lt_size e) I.ok.above))).trans (I.base.keep b o e n hb hx)
    · obtain ⟨sl, e1⟩ := I.base.slot b o e n hb hx
      exact ⟨sl, (hs.2 b (Nat.ne_of_lt (Nat.lt_of_lt_of_le (Heap.lt_size e) I.ok.above))).trans e1⟩
    · obtain ⟨o', e1⟩ := I.base.there b o e hx
      exact ⟨o', (hs.2 b (Nat.ne_of_lt (Nat.lt_of_lt_of_le (Heap.lt_size e) I.ok.above))).trans e1⟩
    · by_cases hj : j = i
      · subst hj
        rw [hi] at e1; cases e1
        rw [List.getElem?_set_self hiσ] at e2
        cases e2
        exact ⟨u, r, .inl ⟨hk, by simp⟩⟩
      · rw [List.getElem?_set_ne (Ne.symm hj)] at e2
        obtain ⟨u', r', q⟩ := hl j y v' e1 e2 e3
        refine ⟨u', r', ?_⟩
        rcases q with ⟨k, e⟩ | ⟨k, c, e, z⟩
        · refine .inl ⟨k, ?_⟩
          have : y ≠ x := fun e => hj (nodup_ix hN e1 (e ▸ hi))
          simp [this, e]
        · exact .inr ⟨k, c, e, z.sameBut hs (cne y c e)⟩
    · obtain ⟨w', z⟩ := I.cell y c e
      exact ⟨w', z.sameBut hs (cne y c e)⟩
    · obtain ⟨e, n, ne, nf, d⟩ := I.pin p hp
      exact ⟨(hs.2 p.1 ne).trans e, n, ne, nf, d⟩
  · have hfn : X.fn x = true := by
      rcases hf with z | z
      · exact z
      · rw [z] at hk; cases hk
    obtain ⟨c, hc⟩ := I.ok.has x (.inl hk)
    obtain ⟨w', z⟩ := I.cell x c hc
    refine wpAny_storeName_cell I.ok.kind hk hc z (fun h' hc' hs => ?_)
    obtain ⟨oc, hoc, hocd⟩ := id z
    refine h { s with heap := h' } ⟨I.ok, I.os, I.bare, ⟨fun b o e n hb hx => ?_, fun b o e n hb hx => ?_, I.base.free, fun b o e hx => ?_, I.base.tups, I.base.frzs, I.base.tbls⟩, ⟨m, hn.sameBut hs (Ne.symm (cne x c hc)), fun j y v' e1 e2 e3 => ?_⟩, fun y c' e => ?_, I.free, I.freeC, fun p hp => ?_, tracked ⟨oc, hoc, I.freeC x c hc⟩ hs, by simpa using I.len⟩ ⟨c, hs, .inr hc⟩
    · exact (hs.2 b (Nat.ne_of_lt (Nat.lt_of_lt_of_le (Heap.lt_size e) (I.ok.cab x c hfn hc)))).trans (I.base.keep b o e n hb hx)
    · obtain ⟨sl, e1⟩ := I.base.slot b o e n hb hx
      exact ⟨sl, (hs.2 b (Nat.ne_of_lt (Nat.lt_of_lt_of_le (Heap.lt_size e) (I.ok.cab x c hfn hc)))).trans e1⟩
    · obtain ⟨o', e1⟩ := I.base.there b o e hx
      exact ⟨o', (hs.2 b (Nat.ne_of_lt (Nat.lt_of_lt_of_le (Heap.lt_size e) (I.ok.cab x c hfn hc)))).trans e1⟩
    · by_cases hj : j = i
      · subst hj
        rw [hi] at e1; cases e1
        rw [List.getElem?_set_self hiσ] at e2
        cases e2
        exact ⟨u, r, .inr ⟨.inl hk, c, hc, hc'⟩⟩
      · rw [List.getElem?_set_ne (Ne.symm hj)] at e2
        obtain ⟨u', r', q⟩ := hl j y v' e1 e2 e3
        refine ⟨u', r', ?_⟩
        rcases q with q | ⟨k, c', e, z'⟩
        · exact .inl q
        · refine .inr ⟨k, c', e, z'.sameBut hs ?_⟩
          rintro rfl
          exact hj (nodup_ix hN e1 (I.ok.inj _ _ _ e hc ▸ hi))
    · by_cases hcc : c' = c
      · subst hcc; exact ⟨_, hc'⟩
      · obtain ⟨w2, z2⟩ := I.cell y c' e
        exact ⟨w2, z2.sameBut hs hcc⟩
    · obtain ⟨e, n, ne, nf, d⟩ := I.pin p hp
      refine ⟨(hs.2 p.1 ?_).trans e, n, ne, nf, d⟩
      intro q
      rw [q, hoc] at e
      have q' : oc = p.2 := Option.some.inj e
      exact d w' (by rw [← q']; exact hocd)
theorem store_ok {M : Model} {A : Around} {E : Value → Shared → Prop} {i : Nat} {x : Str} {v : V} {u : Value} {Q : Unit → Shared → Prop} (I : Inv X pins σ H s) (hN : X.N.Nodup) (hi : X.N[i]? = some x) (hx : Loc X.env.scope x) (r : RelV v u)
    (h : ∀ s', Inv X pins (σ.set i (some v)) H s' → Q () s') (hf : X.fn x = true ∨ X.env.scope.names.lookup x = some .local := by first | exact .inl rfl | exact .inr rfl | assumption) : wpAny M A (storeName X.env x u) Q E s :=
  store_ok2 I hN hi hx r (fun s' I' _ => h s' I') hf
/-- behind a call or a block, the state as it is -/
theorem Inv.call' {s' : Shared} {ch : List Addr} (I : Inv X pins σ H s) (ho : s'.os = s.os) (u : Un (frs X.stack) ch H H' s.heap s'.heap) (hok : HOk X.prog X.w H' s'.heap) (hg : AllBare s'.gens)
    (hch : ∀ b ∈ ch, (b ∈ X.ex ∨ X.s₀.heap.objs.size ≤ b) ∧ b ≠ X.env.locals ∧ (∀ x c, X.env.cells.lookup x = some c → c ≠ b) ∧ ∀ p ∈ X.pn ++ pins, p.1 ≠ b) : Inv X pins σ H' s' := by
  obtain ⟨h', g', d', t', o'⟩ := s'
  have e : o' = s.os := ho
  subst e
  exact I.call (g' := g') (t' := t') (d' := d') u hok hg hch
end

/-! ### the judgements -/
/-- an exception: its class, its own dict's address (where it has one), the abstract heap behind it -/
abbrev XK := Value → Option Addr → Hp → Prop
abbrev St := List (Option V)
abbrev VK := V → Hp → Prop
/-- an expression's reading; a test's; an argument list's -/
abbrev TE := St → Hp → VK → Prop
abbrev TT := St → Hp → (Bool → Hp → Prop) → Prop
abbrev TA := St → Hp → (List V → Hp → Prop) → Prop
/-- what is wanted behind a statement -/
structure Ends where
  nx : St → Hp → Prop
  rt : VK
  bk : St → Hp → Prop := fun _ _ => False
  ct : St → Hp → Prop := fun _ _ => False
abbrev TS := Ends → St → Hp → Prop

def EP (X : Cx) (pins : List (Addr × Obj)) (σ : St) (Q : VK) (u : Value) (s' : Shared) : Prop := ∃ v H', Inv X pins σ H' s' ∧ RelV v u ∧ Q v H'
def TP (X : Cx) (pins : List (Addr × Obj)) (σ : St) (Q : Bool → Hp → Prop) (b : Bool) (s' : Shared) : Prop := ∃ H', Inv X pins σ H' s' ∧ Q b H'
def AP (X : Cx) (pins : List (Addr × Obj)) (σ : St) (Q : List V → Hp → Prop) (us : List Value) (s' : Shared) : Prop := ∃ vs H', Inv X pins σ H' s' ∧ Vals vs us ∧ Q vs H'
def SP (X : Cx) (pins : List (Addr × Obj)) (D : Ends) (f : Flow) (s' : Shared) : Prop :=
  match f with
  | .next => ∃ σ' H', Inv X pins σ' H' s' ∧ D.nx σ' H'
  | .brk => ∃ σ' H', Inv X pins σ' H' s' ∧ D.bk σ' H'
  | .cont => ∃ σ' H', Inv X pins σ' H' s' ∧ D.ct σ' H'
  | .ret u => ∃ v σ' H', Inv X pins σ' H' s' ∧ RelV v u ∧ D.rt v H'

def PE (X : Cx) (e : Expr) (t : TE) : Prop :=
  ∀ (pins : List (Addr × Obj)) (s : Shared) (σ : St) (H : Hp) (Q : VK), Inv X pins σ H s → t σ H Q → wpAny (model X.prog X.w) X.A (eval e X.env) (EP X pins σ Q) X.xe s
def PT (X : Cx) (e : Expr) (t : TT) : Prop :=
  ∀ (pins : List (Addr × Obj)) (s : Shared) (σ : St) (H : Hp) (Q : Bool → Hp → Prop), Inv X pins σ H s → t σ H Q → wpAny (model X.prog X.w) X.A (isTrue e X.env (eval e X.env)) (TP X pins σ Q) X.xe s
/-- a test whatever its 'whole' is (and, or) -/
def PW (X : Cx) (e : Expr) (t : TT) : Prop :=
  ∀ (whole : Sem Value) (pins : List (Addr × Obj)) (s : Shared) (σ : St) (H : Hp) (Q : Bool → Hp → Prop), Inv X pins σ H s → t σ H Q → wpAny (model X.prog X.w) X.A (isTrue e X.env whole) (TP X pins σ Q) X.xe s
theorem PW.pt {X : Cx} {e : Expr} {t : TT} (h : PW X e t) : PT X e t := h _
/-- an argument list (no star), from the left -/
def PA (X : Cx) (es : List Expr) (t : TA) : Prop :=
  ∀ (pos : Pos) (pins : List (Addr × Obj)) (s : Shared) (σ : St) (H : Hp) (Q : List V → Hp → Prop), Inv X pins σ H s → t σ H Q → wpAny (model X.prog X.w) X.A (spliced (backTo pos (starEach es X.env))) (AP X pins σ Q) X.xe s
def PS (X : Cx) (st : Stmt) (t : TS) : Prop :=
  ∀ (pins : List (Addr × Obj)) (s : Shared) (σ : St) (H : Hp) (D : Ends), Inv X pins σ H s → t D σ H → wpAny (model X.prog X.w) X.A (exec st X.env) (SP X pins D) X.xe s
def PSs (X : Cx) (st : List Stmt) (t : TS) : Prop :=
  ∀ (pins : List (Addr × Obj)) (s : Shared) (σ : St) (H : Hp) (D : Ends), Inv X pins σ H s → t D σ H → wpAny (model X.prog X.w) X.A (execs st X.env) (SP X pins D) X.xe s
/-- weaken the end -/
theorem thn {α : Type} {t : Sem α} {Q Q' : α → Shared → Prop} {M : Model} {A : Around} {E : Value → Shared → Prop} {s : Shared} (h : wpAny M A t Q E s) (hQ : ∀ a s, Q a s → Q' a s) : wpAny M A t Q' E s := wpAny_mono h hQ fun _ _ x => x
end L2

namespace L2
open PySem PySem.Spec PyProof.Rows
section
variable {X : Cx}

/-- two expressions in a row -/
theorem bin {a b : Expr} {ta tb : TE} (ha : PE X a ta) (hb : PE X b tb) {pins : List (Addr × Obj)} {s : Shared} {σ : St} {H : Hp} {R : V → V → Hp → Prop} (I : Inv X pins σ H s) (h : ta σ H fun x H1 => tb σ H1 fun y H2 => R x y H2)
    {α : Type} {Q : α → Shared → Prop} {f : Value → Value → Sem α}
    (hf : ∀ v u s2 x y H2, Inv X pins σ H2 s2 → RelV x v → RelV y u → R x y H2 → wpAny (model X.prog X.w) X.A (f v u) Q X.xe s2) :
    wpAny (model X.prog X.w) X.A (eval a X.env) (fun v s₁ => wpAny (model X.prog X.w) X.A (eval b X.env) (fun u s₂ => wpAny (model X.prog X.w) X.A (f v u) Q X.xe s₂) X.xe s₁) X.xe s := by
  refine thn (ha pins s σ H _ I h) fun v s1 ⟨x, H1, I1, r1, q1⟩ => ?_
  refine thn (hb pins s1 σ H1 _ I1 q1) fun u s2 ⟨y, H2, I2, r2, q2⟩ => ?_
  exact hf v u s2 x y H2 I2 r1 r2 q2

/-! ### names and constants -/
def tVar (i : Nat) : TE := fun σ H Q => ∃ v, σ[i]? = some (some v) ∧ Q v H
def tC (v : V) : TE := fun _ H Q => Q v H
theorem pe_var {i : Nat} {x : Str} {pos : Pos} (hN : X.N[i]? = some x) (hv : Vis X.env.scope x) (hd : (x == ("__debug__" : Str)) = false := by decide) (hcd : (x == ("__classdict__" : Str)) = false := by decide) : PE X (.Name x pos) (tVar i) := by
  intro pins s σ H Q I h
  obtain ⟨v, e, h⟩ := h
  obtain ⟨m, hn, hl⟩ := I.loc
  obtain ⟨u, r, l⟩ := hl i x v hN e hv
  have fin : EP X pins σ Q u s := ⟨v, H, I, r, h⟩
  rcases l with ⟨hk, hm⟩ | ⟨hk, c, hc, hcell⟩
  · exact wpAny_Name (wpAny_loadName_local I.ok.kind hk hn hm fin) hd
  · rcases hk with hk | hk
    · exact wpAny_Name (wpAny_loadName_cell I.ok.kind hk hc hcell fin) hd
    · exact wpAny_Name (wpAny_loadName_free I.ok.kind hk hc hcell fin hcd) hd
theorem pe_int {i j pos} : PE X (.Constant (.int i) j pos) (tC (.int i)) := fun _ _ _ H _ I h => wpAny_Constant_int ⟨.int i, H, I.tok _, ⟨_, rfl⟩, h⟩
theorem pe_bl {b j pos} : PE X (.Constant (.bool b) j pos) (tC (.bl b)) := fun _ _ _ H _ I h => Constant_bool ⟨.bl b, H, I, rfl, h⟩
theorem pe_non {j pos} : PE X (.Constant .none j pos) (tC .non) := fun _ _ _ H _ I h => Constant_none ⟨.non, H, I, rfl, h⟩
theorem pe_str {x j pos} : PE X (.Constant (.str x) j pos) (tC (.str x)) := fun _ _ _ H _ I h => Calls.Constant_str ⟨.str x, H, I.tok _, ⟨_, rfl⟩, h⟩

/-- a global name of the def -/
def Gl (X : Cx) (x : Str) : Prop := X.env.kindOf x = some .globalImplicit
theorem ld_glob {E : Value → Shared → Prop} {pins : List (Addr × Obj)} {s : Shared} {σ : St} {H : Hp} {x : Str} {u : Value} {pos : Pos} {Q : Value → Shared → Prop} (I : Inv X pins σ H s) (hg : Gl X x) (hm : X.mg x = some u) (h : Q u s)
    (hd : (x == ("__debug__" : Str)) = false := by decide) : wpAny (model X.prog X.w) X.A (eval (.Name x pos) X.env) Q E s :=
  Calls.Name_function_global I.ok.kind hg (Calls.loadGlobal_global (by rw [I.ok.glob]; exact I.mod.glob.keeps I.bk) hm h) hd
theorem ld_blt {E : Value → Shared → Prop} {pins : List (Addr × Obj)} {s : Shared} {σ : St} {H : Hp} {x : Str} {u : Value} {pos : Pos} {Q : Value → Shared → Prop} (I : Inv X pins σ H s) (hg : Gl X x) (hm : X.mg x = none) (hv : bootBuiltins x = some u) (h : Q u s)
    (hn : x ≠ "__name__" := by decide) (hd : (x == ("__debug__" : Str)) = false := by decide) : wpAny (model X.prog X.w) X.A (eval (.Name x pos) X.env) Q E s := by
  obtain ⟨mb, h1, h2⟩ := I.mod.blt
  exact Calls.Name_function_global I.ok.kind hg (Calls.loadGlobal_builtin (by rw [I.ok.glob]; exact I.mod.glob.keeps I.bk) hm (by rw [I.ok.blt]; exact h1.keeps I.bk) ((h2 x hn).trans hv) h) hd
/-- a module's constant, a class, a function, as a value -/
theorem pe_glob {x : Str} {v : V} {u : Value} {pos : Pos} (hg : Gl X x) (hm : X.mg x = some u) (r : RelV v u) (hd : (x == ("__debug__" : Str)) = false := by decide) : PE X (.Name x pos) (tC v) :=
  fun _ _ _ H _ I h => ld_glob I hg hm ⟨v, H, I, r, h⟩ hd
theorem pe_bltn {x : Str} {v : V} {u : Value} {pos : Pos} (hg : Gl X x) (hm : X.mg x = none) (hv : bootBuiltins x = some u) (r : RelV v u) (hn : x ≠ "__name__" := by decide) (hd : (x == ("__debug__" : Str)) = false := by decide) : PE X (.Name x pos) (tC v) :=
  fun _ _ _ H _ I h => ld_blt I hg hm hv ⟨v, H, I, r, h⟩ hn hd

/-! ### arithmetic -/
variable {a b : Expr} {ta tb : TE} {pos : Pos}
/-! ### comparisons -/
/-- a comparison as a value, as a test -/
def tB (t : TE) : TT := fun σ H Q => t σ H fun x H1 => ∃ c, x = .bl c ∧ Q c H1
/-! ### and, or, not -/
variable {tA tB' : TT} {rest : List Expr}
def tOr (t u : TT) : TT := fun σ H Q => t σ H fun c H1 => if c = true then Q true H1 else u σ H1 Q
def tNot (t : TT) : TT := fun σ H Q => t σ H fun c H1 => Q (!c) H1
theorem pw_or1 (ha : PT X a tA) : PW X (.BoolOp .Or [a] pos) tA := by
  intro wh pins s σ H Q I h
  refine isTrue_or (thn (ha pins s σ H Q I h) fun c s1 e => ?_)
  cases c with
  | false => exact isTrue_or_nil e
  | true => exact e
theorem pw_or (ha : PT X a tA) (hb : PW X (.BoolOp .Or (b :: rest) pos) tB') : PW X (.BoolOp .Or (a :: b :: rest) pos) (tOr tA tB') := by
  intro wh pins s σ H Q I h
  refine isTrue_or (thn (ha pins s σ H _ I h) fun c s1 ⟨H1, I1, q1⟩ => ?_)
  cases c with
  | true => exact ⟨H1, I1, q1⟩
  | false => exact hb wh pins s1 σ H1 Q I1 q1
theorem pt_not (ha : PT X a tA) : PT X (.UnaryOp .Not a pos) (tNot tA) := by
  intro pins s σ H Q I h
  exact isTrue_not (ha pins s σ H (fun c H1 => Q (!c) H1) I h)
/-- .. as values (bools) -/
def tAndV (ta tb : TE) : TE := fun σ H Q => ta σ H fun x H1 => ∃ c, x = .bl c ∧ if c = true then tb σ H1 Q else Q (.bl false) H1
theorem pe_one {op} {t : TE} (h : PE X a t) : PE X (.BoolOp op [a] pos) t := fun pins s σ H Q I hw => BoolOp_one (h pins s σ H Q I hw)
theorem pe_and (ha : PE X a ta) (hb : PE X (.BoolOp .And (b :: rest) pos) tb) : PE X (.BoolOp .And (a :: b :: rest) pos) (tAndV ta tb) := by
  intro pins s σ H Q I h
  refine BoolOp_and (thn (ha pins s σ H _ I h) fun v s1 ⟨x, H1, I1, r1, q1⟩ => ?_)
  obtain ⟨c, rfl, q1⟩ := q1
  cases r1
  refine wpAny_truthy_bool ?_
  cases c with
  | true => exact hb pins s1 σ H1 Q I1 q1
  | false => exact ⟨.bl false, H1, I1, rfl, q1⟩
end
end L2

namespace L2
open PySem PySem.Spec PyProof.Rows

/-! ### a list, a tuple that is read: tracked, frozen, or an object of the module -/
def SqL (K : PySem.W.Frag) (H : Hp) (a : Addr) (xs : List V) : Prop :=
  Rd H a (.lst xs) ∨
    ∃ (o : Obj) (its : Array Value) (n : Nat), K.lookup a = some o ∧ o.cls = .type "list" ∧ o.dict = none ∧ o.data = .seq its n ∧ its.size ≤ sizeLine ∧ Vals xs its.toList
def SqT (K : PySem.W.Frag) (H : Hp) (a : Addr) (xs : List V) : Prop :=
  Rd H a (.tup xs) ∨
    ∃ (o : Obj) (its : Array Value) (n : Nat), K.lookup a = some o ∧ o.cls = .type "tuple" ∧ o.data = .seq its n ∧ its.size ≤ sizeLine ∧ Vals xs its.toList
def absV : Value → Option V
  | .none => some .non
  | .bool b => some (.bl b)
  | .int i _ => some (.int i)
  | .str x _ => some (.str x)
  | .bytes b _ => some (.byt b)
  | .float b _ => some (.flt b)
  | .ref a => some (.ref a)
  | .type n => some (.ty n)
  | _ => none
theorem RelV.abs {x : V} {u : Value} (r : RelV x u) : absV u = some x := by
  cases x with
  | non => cases r; rfl
  | bl _ => cases r; rfl
  | int _ => obtain ⟨t, rfl⟩ := r; rfl
  | str _ => obtain ⟨t, rfl⟩ := r; rfl
  | byt _ => obtain ⟨t, rfl⟩ := r; rfl
  | flt _ => obtain ⟨t, rfl⟩ := r; rfl
  | ref _ => cases r; rfl
  | ty _ => cases r; rfl
theorem RelV.inj {x y : V} {u : Value} (r : RelV x u) (q : RelV y u) : x = y := Option.some.inj (r.abs.symm.trans q.abs)
theorem Vals.inj : ∀ {xs ys : List V} {us : List Value}, Vals xs us → Vals ys us → xs = ys
  | _, _, _, .nil, .nil => rfl
  | _, _, _, .cons r t, .cons r' t' => by rw [r.inj r', Vals.inj t t']
section
variable {X : Cx} {pins : List (Addr × Obj)} {σ : St} {H : Hp} {s : Shared} {a : Addr} {xs ys : List V}
theorem SqL.of {K : PySem.W.Frag} (h : H a = some (.lst xs)) : SqL K H a xs := .inl (.inl h)
theorem SqT.of {K : PySem.W.Frag} (h : H a = some (.tup xs)) : SqT K H a xs := .inl (.inl h)
theorem Inv.list (I : Inv X pins σ H s) (h : SqL X.K H a xs) : ∃ its : List Value, Vals xs its ∧ PlainL s.heap a its.toArray ∧ xs.length ≤ sizeLine := by
  rcases h with h | ⟨o, its, n, hk, hc, hd, hs, hz, r⟩
  · obtain ⟨z, its, n, r, e⟩ := h.ok I.hok
    exact ⟨its, r, ⟨_, n, e, rfl, rfl, rfl⟩, z⟩
  · refine ⟨its.toList, r, ⟨o, n, I.kIn a o hk, hc, hd, by simpa using hs⟩, ?_⟩
    have e := r.length
    simp only [Array.length_toList] at e
    omega
theorem Inv.tuple (I : Inv X pins σ H s) (h : SqT X.K H a xs) : ∃ its : List Value, Vals xs its ∧ IsTup s.heap a its.toArray ∧ xs.length ≤ sizeLine := by
  rcases h with h | ⟨o, its, n, hk, hc, hs, hz, r⟩
  · obtain ⟨z, its, r, p⟩ := h.ok I.hok
    exact ⟨its, r, p, z⟩
  · refine ⟨its.toList, r, ⟨o, I.kIn a o hk, hc, n, by simpa using hs⟩, ?_⟩
    have e := r.length
    simp only [Array.length_toList] at e
    omega
theorem Inv.list_inj (I : Inv X pins σ H s) (h : SqL X.K H a xs) (h' : SqL X.K H a ys) : xs = ys := by
  obtain ⟨its, r, ⟨o, n, e, _, _, d⟩, _⟩ := I.list h
  obtain ⟨its', r', ⟨o', n', e', _, _, d'⟩, _⟩ := I.list h'
  rw [e] at e'; cases e'
  rw [d] at d'
  injection d' with d1 _
  have : its = its' := by simpa using congrArg Array.toList d1
  subst this
  exact r.inj r'
end

/-! ### another wish about exceptions -/
abbrev Cx.wish (X : Cx) (E : Value → Shared → Prop) : Cx := { X with xe := E }
/-- no exception leaves -/
abbrev Cx.nox (X : Cx) : Cx := X.wish fun _ _ => False
theorem Cx.Ok.wish {X : Cx} (ok : X.Ok) (E : Value → Shared → Prop) : (X.wish E).Ok :=
  ⟨ok.mod, ok.kind, ok.glob, ok.blt, ok.above, ok.inj, ok.has, ok.cab, ok.hd, ok.frames, ok.stk, ok.exf, ok.bs, ok.bsz, ok.noex, ok.exfs, ok.funs, ok.frf⟩
theorem Cx.Ok.unwish {X : Cx} {E : Value → Shared → Prop} (ok : (X.wish E).Ok) : X.Ok :=
  ⟨ok.mod, ok.kind, ok.glob, ok.blt, ok.above, ok.inj, ok.has, ok.cab, ok.hd, ok.frames, ok.stk, ok.exf, ok.bs, ok.bsz, ok.noex, ok.exfs, ok.funs, ok.frf⟩
section
variable {X : Cx} {pins : List (Addr × Obj)} {σ : St} {H : Hp} {s : Shared} {E : Value → Shared → Prop}
theorem Inv.wish (I : Inv X pins σ H s) (E : Value → Shared → Prop) : Inv (X.wish E) pins σ H s := ⟨I.ok.wish E, I.os, I.bare, I.base, I.loc, I.cell, I.free, I.freeC, I.pin, I.hok, I.len⟩
theorem Inv.unwish (I : Inv (X.wish E) pins σ H s) : Inv X pins σ H s := ⟨I.ok.unwish, I.os, I.bare, I.base, I.loc, I.cell, I.free, I.freeC, I.pin, I.hok, I.len⟩
theorem SP.unwish {D : Ends} {f : Flow} {s' : Shared} (h : SP (X.wish E) pins D f s') : SP X pins D f s' := by
  cases f with
  | next => obtain ⟨σ', H', I, q⟩ := h; exact ⟨σ', H', I.unwish, q⟩
  | brk => obtain ⟨σ', H', I, q⟩ := h; exact ⟨σ', H', I.unwish, q⟩
  | cont => obtain ⟨σ', H', I, q⟩ := h; exact ⟨σ', H', I.unwish, q⟩
  | ret u => obtain ⟨v, σ', H', I, r, q⟩ := h; exact ⟨v, σ', H', I.unwish, r, q⟩
theorem PSs.nox {st : List Stmt} {t : TS} (h : PSs X.nox st t) : PSs X st t := fun pins s σ H D I hw =>
  wpAny_mono (h pins s σ H D (I.wish _) hw) (fun _ _ q => q.unwish) fun _ _ z => False.elim z
end

/-! ### blocks and small statements -/
section
variable {X : Cx} {st : Stmt} {rest : List Stmt} {t u : TS} {e : Expr} {te : TE} {pos : Pos}
def tNext : TS := fun D σ H => D.nx σ H
def tSeq (t u : TS) : TS := fun D σ H => t { D with nx := u D } σ H
theorem pss_nil : PSs X [] tNext := fun _ _ σ H _ I h => wpAny_execs_nil ⟨σ, H, I, h⟩
theorem pss_cons (h1 : PS X st t) (h2 : PSs X rest u) : PSs X (st :: rest) (tSeq t u) := by
  intro pins s σ H D I h
  refine wpAny_execs_cons (thn (h1 pins s σ H { D with nx := u D } I h) fun f s1 q => ?_)
  cases f with
  | next =>
    obtain ⟨σ', H', I', q⟩ := q
    exact h2 pins s1 σ' H' D I' q
  | ret v => exact q
  | brk => exact q
  | cont => exact q
theorem pss_one (h1 : PS X st t) : PSs X [st] t := by
  intro pins s σ H D I h
  refine wpAny_execs_cons (thn (h1 pins s σ H D I h) fun f s1 q => ?_)
  cases f with
  | next => exact wpAny_execs_nil q
  | ret v => exact q
  | brk => exact q
  | cont => exact q
/-- in a def's body nothing is shown -/
theorem Inv.quiet {pins : List (Addr × Obj)} {σ : St} {H : Hp} {s : Shared} (I : Inv X pins σ H s) : interactive X.env = false := by simp [interactive, I.ok.kind]
/-- an expression whose value is dropped -/
def tDrop (te : TE) : TS := fun D σ H => te σ H fun _ H1 => D.nx σ H1
theorem ps_expr (he : PE X e te) (hs : swapsWith e none pos.line X.env = pure false := by rfl) : PS X (.Expr e pos) (tDrop te) := by
  intro pins s σ H D I h
  exact wpAny_Expr_any (thn (he pins s σ H _ I h) fun v s1 ⟨x, H1, I1, r1, q1⟩ => ⟨σ, H1, I1, q1⟩) I.quiet hs
def tRet (te : TE) : TS := fun D σ H => te σ H D.rt
theorem ps_ret (he : PE X e te) : PS X (.Return (some e) pos) (tRet te) := by
  intro pins s σ H D I h
  exact wpAny_Return_some (thn (he pins s σ H _ I h) fun v s1 ⟨x, H1, I1, r1, q1⟩ => ⟨x, σ, H1, I1, r1, q1⟩)
def tIfS (c : TT) (t u : TS) : TS := fun D σ H => c σ H fun b H1 => if b = true then t D σ H1 else u D σ H1
theorem ps_if {c : Expr} {a b : List Stmt} {tc : TT} (hc : PT X c tc) (ha : PSs X a t) (hb : PSs X b u) : PS X (.If c a b pos) (tIfS tc t u) := by
  intro pins s σ H D I h
  refine wpAny_If (thn (hc pins s σ H _ I h) fun d s1 ⟨H1, I1, q1⟩ => ?_)
  cases d with
  | true => exact ha pins s1 σ H1 D I1 q1
  | false => exact hb pins s1 σ H1 D I1 q1
/-- code that the proof never comes to -/
def tNever : TS := fun _ _ _ => False
theorem ps_never : PS X st tNever := fun _ _ _ _ _ _ h => h.elim
end

/-! ### targets -/
abbrev TG := V → St → Hp → (St → Hp → Prop) → Prop
abbrev TGs := List V → St → Hp → (St → Hp → Prop) → Prop
def PG (X : Cx) (target : Expr) (t : TG) : Prop :=
  ∀ (pins : List (Addr × Obj)) (s : Shared) (σ : St) (H : Hp) (v : V) (u : Value) (Q : St → Hp → Prop), Inv X pins σ H s → RelV v u → t v σ H Q →
    wpAny (model X.prog X.w) X.A (assign target X.env u) (fun _ s' => ∃ σ' H', Inv X pins σ' H' s' ∧ Q σ' H') X.xe s
/-- several targets, one after another -/
def PGs (X : Cx) (ts : List Expr) (t : TGs) : Prop :=
  ∀ (pins : List (Addr × Obj)) (s : Shared) (σ : St) (H : Hp) (vs : List V) (us : List Value) (Q : St → Hp → Prop), Inv X pins σ H s → Vals vs us → t vs σ H Q →
    wpAny (model X.prog X.w) X.A (assignInOrder ((assignEach ts X.env).map (·.2)) us) (fun _ s' => ∃ σ' H', Inv X pins σ' H' s' ∧ Q σ' H') X.xe s
/-- a op= b, by values -/
abbrev TIp := V → V → Hp → VK → Prop
def PIp (X : Cx) (op : Operator) (t : TIp) : Prop :=
  ∀ (pins : List (Addr × Obj)) (s : Shared) (σ : St) (H : Hp) (x y : V) (v u : Value) (Q : VK), Inv X pins σ H s → RelV x v → RelV y u → t x y H Q →
    wpAny (model X.prog X.w) X.A (inplaceOp op v u) (EP X pins σ Q) X.xe s
section
variable {X : Cx} {pos : Pos}
def gName (i : Nat) : TG := fun v σ H Q => Q (σ.set i (some v)) H
theorem pg_name {i : Nat} {x : Str} (hN : X.N.Nodup) (hi : X.N[i]? = some x) (hx : Loc X.env.scope x) (hf : X.fn x = true ∨ X.env.scope.names.lookup x = some .local := by first | exact .inl rfl | exact .inr rfl | assumption) : PG X (.Name x pos) (gName i) := by
  intro pins s σ H v u Q I r h
  exact wpAny_assign_Name (store_ok I hN hi hx r (fun s' I' => ⟨_, H, I', h⟩) hf)
def gNil : TGs := fun vs σ H Q => vs = [] ∧ Q σ H
def gCons (t : TG) (u : TGs) : TGs := fun vs σ H Q => ∃ v r, vs = v :: r ∧ t v σ H fun σ' H' => u r σ' H' Q
theorem pgs_nil : PGs X [] gNil := by
  intro pins s σ H vs us Q I r h
  obtain ⟨e, h⟩ := h
  subst e
  cases r
  exact assignInOrder_nil ⟨σ, H, I, h⟩
theorem pgs_cons {e : Expr} {es : List Expr} {t : TG} {u : TGs} (h1 : PG X e t) (h2 : PGs X es u)
    (hs : (assignEach (e :: es) X.env).map (·.2) = assign e X.env :: (assignEach es X.env).map (·.2) := by rfl) : PGs X (e :: es) (gCons t u) := by
  intro pins s σ H vs us Q I r h
  obtain ⟨v, vr, e1, h⟩ := h
  subst e1
  cases r with
  | cons r rr =>
    rw [hs]
    refine assignInOrder_cons (thn (h1 pins s σ H _ _ _ I r h) fun _ s1 ⟨σ1, H1, I1, q1⟩ => ?_)
    exact h2 pins s1 σ1 H1 _ _ Q I1 rr q1
/-- (a, b, ..) = a tuple of that length -/
def gTup (K : PySem.W.Frag) (n : Nat) (t : TGs) : TG := fun v σ H Q => ∃ a xs, v = .ref a ∧ SqT K H a xs ∧ xs.length = n ∧ t xs σ H Q
theorem pg_tup {es : List Expr} {k : Nat} {t : TGs} {n : Nat} (hc : X.calm = true) (h : PGs X es t)
    (hn : (assignEach es X.env).length = n := by rfl) (hst : (assignEach es X.env).findIdx? (·.1) = none := by rfl) : PG X (.Tuple es k pos) (gTup X.K n t) := by
  intro pins s σ H v u Q I r hw
  obtain ⟨a, xs, e1, hq, hl, hw⟩ := hw
  subst e1
  cases r
  obtain ⟨its, rv, ht, hz⟩ := I.tuple hq
  refine assign_Tuple_tuple (I.ok.hd hc) ht (by simp [hn, ← hl, rv.length]) hst fun h' hx => ?_
  have I1 : Inv X pins σ H { s with heap := h' } := I.kept (t' := s.toks) fun b o e => hx b o (Nat.ne_of_lt (Heap.lt_size e)) e
  exact h pins _ σ H xs _ Q I1 (by simpa using rv) hw
/-- target = value -/
def tAsg (te : TE) (g : TG) : TS := fun D σ H => te σ H fun x H1 => g x σ H1 D.nx
/-- name = value -/
theorem ps_set {i : Nat} {x : Str} {e : Expr} {te : TE} {pos' : Pos} (hN : X.N.Nodup) (hi : X.N[i]? = some x) (hx : Loc X.env.scope x) (he : PE X e te) (hs : swapsWith e (some (.Name x pos')) pos.line X.env = pure false := by rfl) (hf : X.fn x = true ∨ X.env.scope.names.lookup x = some .local := by first | exact .inl rfl | exact .inr rfl | assumption) :
    PS X (.Assign [.Name x pos'] e pos) (tAsg te (gName i)) := by
  intro pins s σ H D I h
  refine wpAny_Assign_Name (thn (he pins s σ H _ I h) fun v s1 ⟨y, H1, I1, r1, q1⟩ => ?_) hs
  exact store_ok I1 hN hi hx r1 (fun s2 I2 => ⟨_, H1, I2, q1⟩) hf
/-- name op= e -/
def tAug (i : Nat) (te : TE) (ti : TIp) : TS := fun D σ H => ∃ x, σ[i]? = some (some x) ∧ te σ H fun y H1 => ti x y H1 fun z H2 => D.nx (σ.set i (some z)) H2
theorem ps_aug {i : Nat} {x : Str} {e : Expr} {te : TE} {op : Operator} {ti : TIp} {pos' : Pos} (hN : X.N.Nodup) (hi : X.N[i]? = some x) (hx : Loc X.env.scope x) (he : PE X e te) (ho : PIp X op ti) (hf : X.fn x = true ∨ X.env.scope.names.lookup x = some .local := by first | exact .inl rfl | exact .inr rfl | assumption) :
    PS X (.AugAssign (.Name x pos') op e pos) (tAug i te ti) := by
  intro pins s σ H D I h
  obtain ⟨v, e1, h⟩ := h
  obtain ⟨m, hn, hl⟩ := I.loc
  have vis : Vis X.env.scope x := by rcases hx with k | k; exact .inl k; exact .inr (.inl k)
  obtain ⟨u, r, l⟩ := hl i x v hi e1 vis
  refine wpAny_AugAssign_Name ?_
  have go : wpAny (model X.prog X.w) X.A (eval e X.env) (fun w s₂ => wpAny (model X.prog X.w) X.A (inplaceOp op u w) (fun r s₃ => wpAny (model X.prog X.w) X.A (storeName X.env x r) (fun _ => SP X pins D .next) X.xe s₃) X.xe s₂) X.xe s := by
    refine thn (he pins s σ H _ I h) fun w s1 ⟨y, H1, I1, r1, q1⟩ => ?_
    refine thn (ho pins s1 σ H1 v y u w _ I1 r r1 q1) fun z s2 ⟨zv, H2, I2, r2, q2⟩ => ?_
    exact store_ok I2 hN hi hx r2 (fun s3 I3 => ⟨_, H2, I3, q2⟩) hf
  rcases l with ⟨hk, hm⟩ | ⟨hk, c, hc, hcell⟩
  · exact wpAny_loadName_local I.ok.kind hk hn hm go
  · rcases hk with hk | hk
    · exact wpAny_loadName_cell I.ok.kind hk hc hcell go
    · rcases hx with k | k
      · have : X.env.scope.names.lookup x = some .free := hk
        rw [k] at this; cases this
      · have : X.env.scope.names.lookup x = some .free := hk
        rw [k] at this; cases this
/-- ints -/
def ipI (f : Int → Int → Int) : TIp := fun x y H Q => ∃ i j, x = .int i ∧ y = .int j ∧ Q (.int (f i j)) H
theorem ip_add : PIp X .Add (ipI fun i j => i + j) := by
  intro pins s σ H x y v u Q I r1 r2 h
  obtain ⟨i, j, e1, e2, q⟩ := h
  subst e1; subst e2
  obtain ⟨t, rfl⟩ := r1
  obtain ⟨t', rfl⟩ := r2
  exact iadd_int ⟨.int _, H, I.tok _, ⟨_, rfl⟩, q⟩
end

/-! ### while -/
section
variable {X : Cx} {pos : Pos}
/-- the invariant W with its measure -/
def tWhile (c : TT) (tb : TS) : TS := fun D σ H => ∃ W : Nat → St → Hp → Prop, (∃ m, W m σ H) ∧ ∀ m σ H, W m σ H →
  c σ H fun b H1 => if b = true then ∃ N : St → Hp → Prop, (∀ σ' H', N σ' H' → ∃ m', m' < m ∧ W m' σ' H') ∧ tb { D with nx := N, ct := N, bk := D.nx } σ H1 else D.nx σ H1
theorem ps_while {c : Expr} {body : List Stmt} {tc : TT} {tb : TS} (hp : PassesOwn (model X.prog X.w) X.A X.env X.xe) (hc : PT X c tc) (hb : PSs X body tb) : PS X (.While c body [] pos) (tWhile tc tb) := by
  intro pins s σ H D I h
  obtain ⟨W, ⟨m0, w0⟩, turn⟩ := h
  refine wpAny_While (codeAny_whileLoop (fun n s' => ∃ σ' H', Inv X pins σ' H' s' ∧ W n σ' H') ?_ m0 ⟨σ, H, I, w0⟩)
  rintro n s1 ⟨σ1, H1, I1, w1⟩
  refine wpAny_passesOwn hp (thn (hc pins s1 σ1 H1 _ I1 (turn n σ1 H1 w1)) fun b s2 ⟨H2, I2, q2⟩ => ?_)
  cases b with
  | true =>
    obtain ⟨N, hN, q2⟩ := q2
    rw [if_pos rfl]
    refine wpAny_passesOwn hp (thn (hb pins s2 σ1 H2 _ I2 q2) fun f s3 q3 => ?_)
    cases f with
    | next =>
      obtain ⟨σ3, H3, I3, n3⟩ := q3
      obtain ⟨m', hm, w3⟩ := hN σ3 H3 n3
      exact ⟨m', hm, σ3, H3, I3, w3⟩
    | cont =>
      obtain ⟨σ3, H3, I3, n3⟩ := q3
      obtain ⟨m', hm, w3⟩ := hN σ3 H3 n3
      exact ⟨m', hm, σ3, H3, I3, w3⟩
    | brk => exact q3
    | ret v => exact q3
  | false =>
    rw [if_neg Bool.false_ne_true]
    exact wpAny_execs_nil ⟨σ1, H2, I2, q2⟩
end

/-! ### what a loop or a comprehension walks -/
/-- at turn i: it yields x (the heap may grow), or it stops -/
structure It where
  go : Nat → Hp → Prop
  yld : Nat → Hp → V → Hp → Prop
  stop : Nat → Hp → Prop
/-- the iterator's own objects may turn: they are not the frame's, not pinned, younger than the entry (or a comprehension's own) -/
def FpOk (X : Cx) (pins : List (Addr × Obj)) (H : Hp) (b : Addr) : Prop :=
  H b = none ∧ b ≠ X.env.locals ∧ b ∉ X.fs ∧ (b ∈ X.ex ∨ X.s₀.heap.objs.size ≤ b) ∧ (∀ x c, X.env.cells.lookup x = some c → c ≠ b) ∧ ∀ p ∈ X.pn ++ pins, p.1 ≠ b
theorem Inv.fpOk {X : Cx} {pins : List (Addr × Obj)} {σ : St} {H H' : Hp} {s : Shared} {b : Addr} (I : Inv X pins σ H s) (hb : s.heap.objs.size ≤ b) (hn : H' b = none) : FpOk X pins H' b := by
  refine ⟨hn, Nat.ne_of_gt (Nat.lt_of_lt_of_le I.lt hb), I.nofs hb, .inr (Nat.le_trans I.sz hb), fun x c e z => ?_, fun p hp z => ?_⟩
  · obtain ⟨v, q⟩ := I.cell x c e
    exact absurd (Nat.lt_of_lt_of_le q.lt (by rw [z]; exact hb)) (Nat.lt_irrefl _)
  · exact absurd (Nat.lt_of_lt_of_le (Heap.lt_size (I.pin p hp).1) (by rw [z]; exact hb)) (Nat.lt_irrefl _)
structure Turn (P : Program) (w : World) (K : PySem.W.Frag) (tg : Expr) (J : It) (fp : List Addr) (it : Addr) (tn : Nat → Heap → Prop) : Prop where
  mem : it ∈ fp
  obj : ∀ i h, tn i h → ∀ b ∈ fp, ∃ o, h.get? b = some o ∧ ∀ v, o.data ≠ .cell v
  keep : ∀ i h h', tn i h → (∀ b ∈ fp, ∀ o, h.get? b = some o → h'.get? b = some o) → tn i h'
  item : ∀ (X : Cx), X.prog = P → X.w = w → X.K = K → X.calm = true → ∀ (i : Nat) (pins : List (Addr × Obj)) (s : Shared) (σ : St) (H : Hp) (E : Value → Shared → Prop), Inv X pins σ H s → (∀ b ∈ fp, FpOk X pins H b) → tn i s.heap → J.go i H →
    wpAny (model P w) X.A (pyNext (.ref it)) (fun r s1 => ∃ u, r = some u ∧
      wpAny (model P w) X.A (letOwnedTupleGo tg (.ref it) u) (fun _ s2 => ∃ x H', Inv X pins σ H' s2 ∧ RelV x u ∧ J.yld i H x H' ∧ tn (i + 1) s2.heap ∧ ∀ b ∈ fp, H' b = none) E s1) E s
  done : ∀ (X : Cx), X.prog = P → X.w = w → X.K = K → X.calm = true → ∀ (i : Nat) (pins : List (Addr × Obj)) (s : Shared) (σ : St) (H : Hp) (E : Value → Shared → Prop), Inv X pins σ H s → (∀ b ∈ fp, FpOk X pins H b) → tn i s.heap → J.stop i H →
    wpAny (model P w) X.A (pyNext (.ref it)) (fun r s1 => r = none ∧ Inv X pins σ H s1) E s
  self : ∀ (A : Around) (i : Nat) (s : Shared) (Q : Value → Shared → Prop) (E : Value → Shared → Prop), tn i s.heap → Q (.ref it) s → wpAny (model P w) A (pyIter (.ref it)) Q E s
abbrev TI := St → Hp → (It → Hp → Prop) → Prop
/-- an iterator has come -/
def PIE (X : Cx) (pins : List (Addr × Obj)) (σ : St) (tg : Expr) (R : It → Hp → Prop) (itv : Value) (s2 : Shared) : Prop :=
  ∃ (it : Addr) (fp : List Addr) (tn : Nat → Heap → Prop) (J : It) (H' : Hp), itv = .ref it ∧ Inv X pins σ H' s2 ∧ Turn X.prog X.w X.K tg J fp it tn ∧ tn 0 s2.heap ∧ (∀ b ∈ fp, FpOk X pins H' b) ∧ R J H'
def PI (X : Cx) (tg iter : Expr) (wi : TI) : Prop :=
  ∀ (pins : List (Addr × Obj)) (s : Shared) (σ : St) (H : Hp) (R : It → Hp → Prop), Inv X pins σ H s → wi σ H R →
    wpAny (model X.prog X.w) X.A (eval iter X.env) (fun v s1 => wpAny (model X.prog X.w) X.A (pyIter v) (PIE X pins σ tg R) X.xe s1) X.xe s

/-- the step ahead of the store is nothing for an iterator that keeps no tuple -/
theorem go_of {M : Model} {A : Around} {E : Value → Shared → Prop} {s : Shared} {tg : Expr} {it : Addr} {u : Value} {o : Obj} {n : String} {vs : Array Value} {Q : Unit → Shared → Prop} (ho : s.heap.get? it = some o) (hc : o.cls = .type n) (hd : o.data = .fields vs)
    (hn : ["enumerate", "zip", "dict_itemiterator", "dict_reverseitemiterator", "odict_iterator", "itertools.zip_longest", "itertools.pairwise"].contains n = false) (hQ : Q () s) : wpAny M A (letOwnedTupleGo tg (.ref it) u) Q E s := by
  unfold letOwnedTupleGo
  cases tg <;> first
    | exact wpAny_pure hQ
    | (cases u <;> first
        | exact wpAny_pure hQ
        | (refine wpAny_bind (wpAny_load ho ?_)
           rw [hc, hd]
           show wpAny M A (if (["enumerate", "zip", "dict_itemiterator", "dict_reverseitemiterator", "odict_iterator", "itertools.zip_longest", "itertools.pairwise"].contains n && vs[0]? == some (rawInt _)) = true then _ else _) Q E s
           rw [if_neg (by intro h; rw [hn, Bool.false_and] at h; cases h)]
           exact wpAny_pure hQ))

/-- the list at a, as it stands at each turn (a loop may append to it) -/
def Itl (K : PySem.W.Frag) (a : Addr) : It :=
  ⟨fun i H => ∃ xs x, SqL K H a xs ∧ xs[i]? = some x, fun i H x H' => H' = H ∧ ∀ xs, SqL K H a xs → xs[i]? = some x, fun i H => ∃ xs, SqL K H a xs ∧ xs.length ≤ i⟩
/-- lo, lo + 1, .. (n of them) -/
def Itr (lo : Int) (n : Nat) : It := ⟨fun i _ => i < n, fun i H x H' => H' = H ∧ x = .int (lo + i), fun i _ => n ≤ i⟩
theorem turn_list {P : Program} {w : World} {K : PySem.W.Frag} {tg : Expr} (a it : Addr) : Turn P w K tg (Itl K a) [it] it (fun i h => h.IsListIter it a i) where
  mem := by simp
  obj := fun i h st b hb => by
    have e : b = it := by simpa using hb
    subst e
    obtain ⟨o, e, c, d⟩ := st
    exact ⟨o, e, fun v z => by rw [d] at z; cases z⟩
  keep := fun i h h' st k => st.at fun o e => k it (by simp) o e
  item := by
    intro X hP hw hK hc i pins s σ H E I hf st hg
    subst hP hw hK
    obtain ⟨xs, x, hq, hx⟩ := hg
    obtain ⟨its, rv, p, hz⟩ := I.list hq
    obtain ⟨u, hu, ru⟩ := rv.get hx
    obtain ⟨f0, f1, f2, f3, f4, f5⟩ := hf it (by simp)
    refine wpAny_pyNext_list_item st p.isList (x := u) (by simpa using hu) fun h' st' sb => ?_
    have I1 : Inv X pins σ H { s with heap := h' } := I.turned (t' := s.toks) (fun b o hb e => (sb.2 b hb).trans e) f0 f1 f3 f4 f5
    obtain ⟨o, e, c, d⟩ := id st'
    exact ⟨u, rfl, go_of (s := { s with heap := h' }) e c d (by decide) ⟨x, H, I1, ru, ⟨rfl, fun ys hy => by rw [I.list_inj hy hq]; exact hx⟩, st', fun b hb => (hf b hb).1⟩⟩
  done := by
    intro X hP hw hK hc i pins s σ H E I hf st hg
    subst hP hw hK
    obtain ⟨xs, hq, hx⟩ := hg
    obtain ⟨its, rv, p, hz⟩ := I.list hq
    obtain ⟨f0, f1, f2, f3, f4, f5⟩ := hf it (by simp)
    have hl := rv.length
    exact wpAny_pyNext_list_end (I.ok.hd hc) st p.isList (by simp; omega) fun h' eb => ⟨rfl, I.turned (t' := s.toks) (fun b o hb e => eb b o hb e) f0 f1 f3 f4 f5⟩
  self := fun _ _ _ _ _ st h => wpAny_pyIter_listiter st h
theorem turn_range {P : Program} {w : World} {K : PySem.W.Frag} {tg : Expr} (it : Addr) (lo : Int) (n : Nat) : Turn P w K tg (Itr lo n) [it] it (fun i h => IsRangeIter h it (lo + (i : Nat) * 1) ((n : Int) - (i : Nat)) 1) where
  mem := by simp
  obj := fun i h st b hb => by
    have e : b = it := by simpa using hb
    subst e
    exact ⟨_, st, fun v z => by
      have z' : Data.fields _ = Data.cell v := z
      cases z'⟩
  keep := fun i h h' st k => k it (by simp) _ st
  item := by
    intro X hP hw hK hc i pins s σ H E I hf st hg
    subst hP hw hK
    obtain ⟨f0, f1, f2, f3, f4, f5⟩ := hf it (by simp)
    have W := Walks.range (prog := X.prog) (w := X.w) (I.ok.hd hc) it lo 1 n
    refine W.item i s _ _ hg st fun v h' tk hv st' kk => ?_
    obtain ⟨t, rfl⟩ := hv
    have I1 : Inv X pins σ H { s with heap := h', toks := tk } := I.turned (fun b o hb e => kk b o (by simpa using hb) e) f0 f1 f3 f4 f5
    refine ⟨_, rfl, go_of (s := { s with heap := h', toks := tk }) (n := "range_iterator") st' rfl rfl (by decide) ⟨.int (lo + i), H, I1, ⟨t, ?_⟩, ⟨rfl, rfl⟩, st', fun b hb => (hf b hb).1⟩⟩
    rw [Int.mul_one]
  done := by
    intro X hP hw hK hc i pins s σ H E I hf st hg
    subst hP hw hK
    obtain ⟨f0, f1, f2, f3, f4, f5⟩ := hf it (by simp)
    exact wpAny_pyNext_range_end (I.ok.hd hc) st (by have : n ≤ i := hg; omega) fun h' eb => ⟨rfl, I.turned (t' := s.toks) (fun b o hb e => eb b o hb e) f0 f1 f3 f4 f5⟩
  self := fun _ _ _ _ _ st h => wpAny_pyIter_rangeiter st h
end L2

namespace L2
open PySem PySem.Spec PyProof.Rows
section
variable {X : Cx} {tg : Expr}
def iList (K : PySem.W.Frag) (tl : TE) : TI := fun σ H R => tl σ H fun x H1 => ∃ a, x = .ref a ∧ (∃ xs, SqL K H1 a xs) ∧ R (Itl K a) H1
theorem pi_list {l : Expr} {tl : TE} (hl : PE X l tl) : PI X tg l (iList X.K tl) := by
  intro pins s σ H R I h
  refine thn (hl pins s σ H _ I h) fun v s1 ⟨x, H1, I1, r1, q1⟩ => ?_
  obtain ⟨a, e, ⟨xs, hq⟩, q⟩ := q1
  subst e
  cases r1
  obtain ⟨its, rv, p, hz⟩ := I1.list hq
  refine wpAny_pyIter_list p.isList ?_
  refine ⟨s1.heap.objs.size, [s1.heap.objs.size], _, _, H1, rfl, I1.kept (t' := s1.toks) fun b o e => Heap.get?_push_of_some _ e, turn_list a _, ⟨_, Heap.get?_push_size _ rfl, rfl, rfl⟩, fun b hb => ?_, q⟩
  have e : b = s1.heap.objs.size := by simpa using hb
  subst e
  exact I1.fpOk (Nat.le_refl _) (I1.hok.fresh (Nat.le_refl _))
/-- a range object just made, walked -/
theorem range_it {pins : List (Addr × Obj)} {σ : St} {H : Hp} {s : Shared} {R : It → Hp → Prop} {E : Value → Shared → Prop} {lo hi : Int} {t u v : Tok} {tk : Nat} (I : Inv X pins σ H s) (h1 : -(2 ^ 62) ≤ lo) (h2 : lo < 2 ^ 62) (h3 : -(2 ^ 62) ≤ hi) (h4 : hi < 2 ^ 62)
    (q : R (Itr lo (hi - lo).toNat) H) : wpAny (model X.prog X.w) X.A (pyIter (.ref s.heap.objs.size)) (PIE X pins σ tg R) E { s with heap := s.heap.push { cls := .type "range", data := .fields #[.int lo t, .int hi u, .int 1 v] }, toks := tk } := by
  refine wpAny_pyIter_range (IsRange.new ..) (small_one h1 h2 h3 h4) ?_
  have I1 : Inv X pins σ H { s with heap := s.heap.push { cls := .type "range", data := .fields #[.int lo t, .int hi u, .int 1 v] }, toks := tk } := I.kept fun b o e => Heap.get?_push_of_some _ e
  refine ⟨(s.heap.push { cls := .type "range", data := .fields #[.int lo t, .int hi u, .int 1 v] }).objs.size, [(s.heap.push { cls := .type "range", data := .fields #[.int lo t, .int hi u, .int 1 v] }).objs.size], _, _, H, rfl,
    I1.kept (t' := tk) fun b o e => Heap.get?_push_of_some _ e, turn_range _ lo (hi - lo).toNat, ?_, fun b hb => ?_, q⟩
  · have e1 : lo + ((0 : Nat) : Int) * 1 = lo := by simp
    have e2 : (((hi - lo).toNat : Nat) : Int) - ((0 : Nat) : Int) = Builtin.Range.rangeSize lo hi 1 := by rw [rangeSize_one]; split <;> omega
    show IsRangeIter _ _ (lo + ((0 : Nat) : Int) * 1) ((((hi - lo).toNat : Nat) : Int) - ((0 : Nat) : Int)) 1
    rw [e1, e2]
    exact Heap.get?_push_size _ rfl
  · have e : b = (s.heap.push { cls := .type "range", data := .fields #[.int lo t, .int hi u, .int 1 v] }).objs.size := by simpa using hb
    subst e
    exact I1.fpOk (Nat.le_refl _) (I1.hok.fresh (Nat.le_refl _))
def iRng1 (ta : TA) : TI := fun σ H R => ta σ H fun vs H1 => ∃ j : Int, vs = [.int j] ∧ -(2 ^ 62) ≤ j ∧ j < 2 ^ 62 ∧ R (Itr 0 j.toNat) H1
theorem pi_range1 {a : Expr} {ta : TA} {p pos : Pos} (hg : Gl X "range") (hm : X.mg "range" = none) (ha : PA X [a] ta) (hs : starEach [a] X.env = [(false, eval a X.env)] := by rfl) : PI X tg (.Call (.Name "range" p) [a] [] pos) (iRng1 ta) := by
  intro pins s σ H R I h
  refine Call_ (ld_blt I hg hm boot_range (PyProof.Rows.callWith_type1 (thn (ha pos pins s σ H _ I h) fun us s1 ⟨vs, H1, I1, r1, q1⟩ => ?_) hs rfl))
  obtain ⟨j, e, q1, q2, q⟩ := q1
  subst e
  cases r1 with
  | cons r rr =>
    cases rr
    obtain ⟨t, rfl⟩ := r
    exact call_range_1 (range_it I1 (by omega) (by omega) q1 q2 (by simpa using q))
/-! ### for -/
/-- W: the invariant by the turn and a measure; N: what the body is to reach -/
def tFor (wi : TI) (g : TG) (tb : TS) : TS := fun D σ H => wi σ H fun J H1 => ∃ W : Nat → Nat → St → Hp → Prop, (∃ m, W 0 m σ H1) ∧ ∀ i m σ H, W i m σ H →
  (J.stop i H ∧ D.nx σ H) ∨ (J.go i H ∧ ∃ N : St → Hp → Prop, (∀ σ' H', N σ' H' → ∃ m', m' < m ∧ W (i + 1) m' σ' H') ∧ ∀ x H', J.yld i H x H' → g x σ H' fun σ2 H2 => tb { D with nx := N, ct := N, bk := D.nx } σ2 H2)
/-- the records at fp as they stand -/
def pinsAt (fp : List Addr) (h : Heap) : List (Addr × Obj) := fp.filterMap fun b => (h.get? b).map fun o => (b, o)
theorem mem_pinsAt {fp : List Addr} {h : Heap} {b : Addr} {o : Obj} (hb : b ∈ fp) (e : h.get? b = some o) : (b, o) ∈ pinsAt fp h := List.mem_filterMap.mpr ⟨b, hb, by rw [e]; rfl⟩
theorem of_pinsAt {fp : List Addr} {h : Heap} {p : Addr × Obj} (hp : p ∈ pinsAt fp h) : p.1 ∈ fp ∧ h.get? p.1 = some p.2 := by
  obtain ⟨b, hb, e⟩ := List.mem_filterMap.mp hp
  cases q : h.get? b with
  | none => rw [q] at e; cases e
  | some o =>
    rw [q] at e
    have e' : (b, o) = p := Option.some.inj e
    subst e'
    exact ⟨hb, q⟩
theorem Inv.pinned {pins : List (Addr × Obj)} {σ : St} {H : Hp} {s : Shared} {fp : List Addr} (I : Inv X pins σ H s) (hf : ∀ b ∈ fp, FpOk X pins H b) (ho : ∀ b ∈ fp, ∃ o, s.heap.get? b = some o ∧ ∀ v, o.data ≠ .cell v) : Inv X (pins ++ pinsAt fp s.heap) σ H s :=
  I.pins_of fun p hp => (List.mem_append.mp hp).elim (fun z => I.pin p (List.mem_append_right _ z)) fun z => by
    obtain ⟨hb, e⟩ := of_pinsAt z
    obtain ⟨f0, f1, f2, _⟩ := hf p.1 hb
    obtain ⟨o, e', d⟩ := ho p.1 hb
    rw [e] at e'; cases e'
    exact ⟨e, f0, f1, f2, d⟩
theorem Inv.unpinned {pins pl : List (Addr × Obj)} {σ : St} {H : Hp} {s : Shared} (I : Inv X (pins ++ pl) σ H s) : Inv X pins σ H s := I.pins_of fun p hp => I.pin p (List.mem_append_right _ (List.mem_append_left _ hp))
theorem ps_for {iter : Expr} {body : List Stmt} {wi : TI} {g : TG} {tb : TS} {pos : Pos} (hp : PassesOwn (model X.prog X.w) X.A X.env X.xe) (hc : X.calm = true) (hi : PI X tg iter wi) (hg : PG X tg g) (hb : PSs X body tb)
    (hs : ∀ x, foldedSetIterable iter X.env x = pure x := by intro _; rfl) : PS X (.For tg iter body [] pos) (tFor wi g tb) := by
  intro pins s σ H D I h
  refine wpAny_For (thn (hi pins s σ H _ I h) fun v s1 h1 => thn h1 fun itv s2 h2 => ?_) hs
  obtain ⟨it, fp, tn, J, H2, e, I2, T, st2, f2, W, ⟨m0, w0⟩, turn⟩ := h2
  subst e
  -- what stays true of the iterator's objects through the loop
  have stat : ∀ {H' : Hp}, (∀ b ∈ fp, H' b = none) → ∀ b ∈ fp, FpOk X pins H' b := fun hn b hb => ⟨hn b hb, (f2 b hb).2⟩
  refine codeAny_forLoop_any (fun n s' => ∃ i σ' H', Inv X pins σ' H' s' ∧ tn i s'.heap ∧ (∀ b ∈ fp, H' b = none) ∧ W i n σ' H') ?_ m0 ⟨0, σ, H2, I2, st2, fun b hb => (f2 b hb).1, w0⟩
  rintro n s3 ⟨i, σ3, H3, I3, st3, fr3, w3⟩
  rcases turn i n σ3 H3 w3 with ⟨stop, qn⟩ | ⟨go, N, hN, step⟩
  · refine wpAny_passesOwn hp (thn (T.done X rfl rfl rfl hc i pins s3 σ3 H3 X.xe I3 (stat fr3) st3 stop) fun r s4 ⟨hr, I4⟩ => ?_)
    subst hr
    exact wpAny_execs_nil ⟨σ3, H3, I4, qn⟩
  · refine wpAny_passesOwn hp (thn (T.item X rfl rfl rfl hc i pins s3 σ3 H3 X.xe I3 (stat fr3) st3 go) fun r s4 ⟨u, hr, h4⟩ => ?_)
    subst hr
    refine wpAny_passesOwn hp (thn h4 fun _ s5 ⟨x, H5, I5, r5, y5, st5, fr5⟩ => ?_)
    have I5' := I5.pinned (stat fr5) (T.obj _ _ st5)
    refine wpAny_passesOwn hp (thn (hg _ s5 σ3 H5 x u _ I5' r5 (step x H5 y5)) fun _ s6 ⟨σ6, H6, I6, q6⟩ => ?_)
    refine wpAny_passesOwn hp (thn (hb _ s6 σ6 H6 _ I6 q6) fun f s7 q7 => ?_)
    have again : ∀ {σ7 : St} {H7 : Hp}, Inv X (pins ++ pinsAt fp s5.heap) σ7 H7 s7 → N σ7 H7 → ∃ m, m < n ∧ ∃ i σ' H', Inv X pins σ' H' s7 ∧ tn i s7.heap ∧ (∀ b ∈ fp, H' b = none) ∧ W i m σ' H' := fun {σ7 H7} I7 n7 => by
      obtain ⟨m', hm, w7⟩ := hN σ7 H7 n7
      refine ⟨m', hm, i + 1, σ7, H7, I7.unpinned, T.keep _ _ _ st5 fun b hb o e => (I7.pin (b, o) (List.mem_append_right _ (List.mem_append_right _ (mem_pinsAt hb e)))).1, fun b hb => ?_, w7⟩
      obtain ⟨o, e, d⟩ := T.obj _ _ st5 b hb
      exact (I7.pin (b, o) (List.mem_append_right _ (List.mem_append_right _ (mem_pinsAt hb e)))).2.1
    cases f with
    | next => obtain ⟨σ7, H7, I7, n7⟩ := q7; exact again I7 n7
    | cont => obtain ⟨σ7, H7, I7, n7⟩ := q7; exact again I7 n7
    | brk => obtain ⟨σ7, H7, I7, q7⟩ := q7; exact ⟨σ7, H7, I7.unpinned, q7⟩
    | ret v => obtain ⟨x7, σ7, H7, I7, r7, q7⟩ := q7; exact ⟨x7, σ7, H7, I7.unpinned, r7, q7⟩
end

/-! ### the forms one uses -/
/-- over a list that the body leaves as it is -/
theorem for_list {K : PySem.W.Frag} {a : Addr} {xs : List V} {g : TG} {tb : TS} {D : Ends} {σ : St} {H : Hp} (Pv : Nat → St → Hp → Prop) (h0 : Pv 0 σ H) (hl : ∀ i σ H, i ≤ xs.length → Pv i σ H → SqL K H a xs)
    (hs : ∀ i x σ H, xs[i]? = some x → Pv i σ H → g x σ H fun σ2 H2 => tb { D with nx := Pv (i + 1), ct := Pv (i + 1), bk := D.nx } σ2 H2) (hd : ∀ σ H, Pv xs.length σ H → D.nx σ H) :
    ∃ W : Nat → Nat → St → Hp → Prop, (∃ m, W 0 m σ H) ∧ ∀ i m σ H, W i m σ H →
      ((Itl K a).stop i H ∧ D.nx σ H) ∨ ((Itl K a).go i H ∧ ∃ N : St → Hp → Prop, (∀ σ' H', N σ' H' → ∃ m', m' < m ∧ W (i + 1) m' σ' H') ∧ ∀ x H', (Itl K a).yld i H x H' → g x σ H' fun σ2 H2 => tb { D with nx := N, ct := N, bk := D.nx } σ2 H2) := by
  refine ⟨fun i m σ H => m = xs.length - i ∧ i ≤ xs.length ∧ Pv i σ H, ⟨xs.length, by simp, Nat.zero_le _, h0⟩, ?_⟩
  rintro i m σ H ⟨rfl, hi, p⟩
  have q := hl i σ H hi p
  by_cases hlt : i < xs.length
  · refine .inr ⟨⟨xs, xs[i], q, by simp [hlt]⟩, Pv (i + 1), fun σ' H' p' => ⟨xs.length - (i + 1), by omega, rfl, hlt, p'⟩, fun x H' y => ?_⟩
    obtain ⟨e, y⟩ := y
    subst e
    exact hs i x σ _ (y xs q) p
  · have e : i = xs.length := by omega
    subst e
    exact .inl ⟨⟨xs, q, Nat.le_refl _⟩, hd σ H p⟩
theorem for_range {lo : Int} {n : Nat} {g : TG} {tb : TS} {D : Ends} {σ : St} {H : Hp} (Pv : Nat → St → Hp → Prop) (h0 : Pv 0 σ H)
    (hs : ∀ i σ H, i < n → Pv i σ H → g (.int (lo + i)) σ H fun σ2 H2 => tb { D with nx := Pv (i + 1), ct := Pv (i + 1), bk := D.nx } σ2 H2) (hd : ∀ σ H, Pv n σ H → D.nx σ H) :
    ∃ W : Nat → Nat → St → Hp → Prop, (∃ m, W 0 m σ H) ∧ ∀ i m σ H, W i m σ H →
      ((Itr lo n).stop i H ∧ D.nx σ H) ∨ ((Itr lo n).go i H ∧ ∃ N : St → Hp → Prop, (∀ σ' H', N σ' H' → ∃ m', m' < m ∧ W (i + 1) m' σ' H') ∧ ∀ x H', (Itr lo n).yld i H x H' → g x σ H' fun σ2 H2 => tb { D with nx := N, ct := N, bk := D.nx } σ2 H2) := by
  refine ⟨fun i m σ H => m = n - i ∧ i ≤ n ∧ Pv i σ H, ⟨n, by simp, Nat.zero_le _, h0⟩, ?_⟩
  rintro i m σ H ⟨rfl, hi, p⟩
  by_cases hlt : i < n
  · refine .inr ⟨hlt, Pv (i + 1), fun σ' H' p' => ⟨n - (i + 1), by omega, rfl, hlt, p'⟩, fun x H' y => ?_⟩
    obtain ⟨e, y⟩ := y
    subst e y
    exact hs i σ _ hlt p
  · have e : i = n := by omega
    subst e
    exact .inl ⟨Nat.le_refl _, hd σ H p⟩
/-- while, by a word and a measure of the state -/
theorem while_by {c : TT} {tb : TS} {D : Ends} {σ : St} {H : Hp} (Pv : St → Hp → Prop) (μ : St → Hp → Nat) (h0 : Pv σ H)
    (hs : ∀ σ H, Pv σ H → c σ H fun b H1 => if b = true then tb { D with nx := fun σ' H' => Pv σ' H' ∧ μ σ' H' < μ σ H, ct := fun σ' H' => Pv σ' H' ∧ μ σ' H' < μ σ H, bk := D.nx } σ H1 else D.nx σ H1)
    (mono : ∀ σ H Q Q', (∀ b H1, Q b H1 → Q' b H1) → c σ H Q → c σ H Q') : tWhile c tb D σ H := by
  refine ⟨fun m σ H => m = μ σ H ∧ Pv σ H, ⟨_, rfl, h0⟩, ?_⟩
  rintro m σ H ⟨rfl, p⟩
  refine mono σ H _ _ (fun b H1 q => ?_) (hs σ H p)
  cases b with
  | true => exact ⟨_, fun σ' H' ⟨p', l⟩ => ⟨_, l, rfl, p'⟩, q⟩
  | false => exact q
end L2

namespace L2
open PySem PySem.Spec PyProof.Rows

abbrev R2 := V → V → Hp → VK → Prop
/-- a two-place operation on values: f is binaryOp op, inplaceOp op or compareOp op -/
def OpR (X : Cx) (f : Value → Value → Sem Value) (r : R2) : Prop :=
  ∀ (pins : List (Addr × Obj)) (s : Shared) (σ : St) (H : Hp) (x y : V) (v u : Value) (Q : VK), Inv X pins σ H s → RelV x v → RelV y u → r x y H Q →
    wpAny (model X.prog X.w) X.A (f v u) (EP X pins σ Q) X.xe s
/-- a one-place operation -/
def UnR (X : Cx) (f : Value → Sem Value) (r : V → Hp → VK → Prop) : Prop :=
  ∀ (pins : List (Addr × Obj)) (s : Shared) (σ : St) (H : Hp) (x : V) (v : Value) (Q : VK), Inv X pins σ H s → RelV x v → r x H Q →
    wpAny (model X.prog X.w) X.A (f v) (EP X pins σ Q) X.xe s
/-- a call of a value that is known (a builtin, a type) with values -/
def CallR (X : Cx) (f : Value) (r : List V → Hp → VK → Prop) : Prop :=
  ∀ (pins : List (Addr × Obj)) (s : Shared) (σ : St) (H : Hp) (xs : List V) (us : List Value) (Q : VK), Inv X pins σ H s → Vals xs us → r xs H Q →
    wpAny (model X.prog X.w) X.A (call f us) (EP X pins σ Q) X.xe s
/-- a value's truth -/
def TruR (X : Cx) (r : V → Hp → (Bool → Hp → Prop) → Prop) : Prop :=
  ∀ (pins : List (Addr × Obj)) (s : Shared) (σ : St) (H : Hp) (x : V) (v : Value) (Q : Bool → Hp → Prop), Inv X pins σ H s → RelV x v → r x H Q →
    wpAny (model X.prog X.w) X.A (truthy v) (TP X pins σ Q) X.xe s

def tOp (r : R2) (ta tb : TE) : TE := fun σ H Q => ta σ H fun x H1 => tb σ H1 fun y H2 => r x y H2 Q
def tUn (r : V → Hp → VK → Prop) (ta : TE) : TE := fun σ H Q => ta σ H fun x H1 => r x H1 Q
/-- ints in, under C, and a value out -/
def rI (C : Int → Int → Prop) (g : Int → Int → V) : R2 := fun x y H Q => ∃ i j, x = .int i ∧ y = .int j ∧ C i j ∧ Q (g i j) H
def rI0 (g : Int → Int → V) : R2 := fun x y H Q => ∃ i j, x = .int i ∧ y = .int j ∧ Q (g i j) H
def rU (g : Int → V) : V → Hp → VK → Prop := fun x H Q => ∃ i, x = .int i ∧ Q (g i) H

section
variable {X : Cx} {a b c : Expr} {ta tb tc : TE} {pos : Pos}

theorem binT (ha : PE X a ta) (hb : PE X b tb) {pins : List (Addr × Obj)} {s : Shared} {σ : St} {H : Hp} {R : V → V → Hp → Prop} (I : Inv X pins σ H s)
    (h : ta σ H fun x H1 => tb σ H1 fun y H2 => R x y H2) {Q : Value → Shared → Prop} {f : Value → Value → Sem Value}
    (hf : ∀ v u s2 x y H2, Inv X pins σ H2 s2 → RelV x v → RelV y u → R x y H2 → wpAny (model X.prog X.w) X.A (f v u) Q X.xe s2) :
    wpAny (model X.prog X.w) X.A (eval a X.env) (fun v s₁ => wpAny (model X.prog X.w) X.A (eval b X.env) (fun u s₂ => wpAny (model X.prog X.w) X.A (f v u) Q X.xe s₂) X.xe s₁) X.xe s := by
  refine thn (ha pins s σ H _ I h) fun v s1 ⟨x, H1, I1, r1, q1⟩ => ?_
  refine thn (hb pins s1 σ H1 _ I1 q1) fun u s2 ⟨y, H2, I2, r2, q2⟩ => ?_
  exact hf v u s2 x y H2 I2 r1 r2 q2

theorem pe_op {op : Operator} {r : R2} (ho : OpR X (binaryOp op) r) (ha : PE X a ta) (hb : PE X b tb) : PE X (.BinOp a op b pos) (tOp r ta tb) := by
  intro pins s σ H Q I h
  exact wpAny_BinOp (binT ha hb I h fun v u s2 x y H2 I2 rx ry q => ho pins s2 σ H2 x y v u Q I2 rx ry q)
theorem pe_un {op : UnaryOp} {r : V → Hp → VK → Prop} (ho : UnR X (unaryOp op) r) (ha : PE X a ta) : PE X (.UnaryOp op a pos) (tUn r ta) := by
  intro pins s σ H Q I h
  exact UnaryOp_ (thn (ha pins s σ H _ I h) fun v s1 ⟨x, H1, I1, r1, q1⟩ => ho pins s1 σ H1 x v Q I1 r1 q1)
/-! ### ints -/
theorem opI {f : Value → Value → Sem Value} {C : Int → Int → Prop} {g : Int → Int → Int}
    (rule : ∀ (i j : Int) (t u : Tok) (s : Shared) (Q : Value → Shared → Prop) (E : Value → Shared → Prop), C i j → Q (.int (g i j) s.toks) { s with toks := s.toks + 1 } → wpAny (model X.prog X.w) X.A (f (.int i t) (.int j u)) Q E s) :
    OpR X f (rI C fun i j => .int (g i j)) := by
  intro pins s σ H x y v u Q I rx ry h
  obtain ⟨i, j, rfl, rfl, hc, q⟩ := h
  obtain ⟨t, rfl⟩ := rx
  obtain ⟨t', rfl⟩ := ry
  exact rule i j t t' s _ _ hc ⟨.int (g i j), H, I.tok _, ⟨_, rfl⟩, q⟩
theorem opI0 {f : Value → Value → Sem Value} {g : Int → Int → Int}
    (rule : ∀ (i j : Int) (t u : Tok) (s : Shared) (Q : Value → Shared → Prop) (E : Value → Shared → Prop), Q (.int (g i j) s.toks) { s with toks := s.toks + 1 } → wpAny (model X.prog X.w) X.A (f (.int i t) (.int j u)) Q E s) :
    OpR X f (rI0 fun i j => .int (g i j)) := by
  intro pins s σ H x y v u Q I rx ry h
  obtain ⟨i, j, rfl, rfl, q⟩ := h
  obtain ⟨t, rfl⟩ := rx
  obtain ⟨t', rfl⟩ := ry
  exact rule i j t t' s _ _ ⟨.int (g i j), H, I.tok _, ⟨_, rfl⟩, q⟩
theorem opB0 {f : Value → Value → Sem Value} {g : Int → Int → Bool}
    (rule : ∀ (i j : Int) (t u : Tok) (s : Shared) (Q : Value → Shared → Prop) (E : Value → Shared → Prop), Q (.bool (g i j)) s → wpAny (model X.prog X.w) X.A (f (.int i t) (.int j u)) Q E s) :
    OpR X f (rI0 fun i j => .bl (g i j)) := by
  intro pins s σ H x y v u Q I rx ry h
  obtain ⟨i, j, rfl, rfl, q⟩ := h
  obtain ⟨t, rfl⟩ := rx
  obtain ⟨t', rfl⟩ := ry
  exact rule i j t t' s _ _ ⟨.bl (g i j), H, I, rfl, q⟩

def CDiv (i j : Int) : Prop := 0 < j ∧ j < 1073741824
def CMul (i j : Int) : Prop := (-(2 ^ 64) < i ∧ i < 2 ^ 64) ∨ (-(2 ^ 64) < j ∧ j < 2 ^ 64)
theorem CMul.ok {i j : Int} (h : CMul i j) : IntMulOk i j := by
  rcases h with ⟨h1, h2⟩ | ⟨h1, h2⟩
  · exact .of_left (intBits_le_64 h1 h2)
  · exact .of_right (intBits_le_64 h1 h2)
theorem op_add : OpR X (binaryOp .Add) (rI0 fun i j => .int (i + j)) := opI0 fun _ _ _ _ _ _ _ q => add_int q
theorem op_sub : OpR X (binaryOp .Sub) (rI0 fun i j => .int (i - j)) := opI0 fun _ _ _ _ _ _ _ q => sub_int q
theorem op_mul : OpR X (binaryOp .Mult) (rI CMul fun i j => .int (i * j)) := opI fun _ _ _ _ _ _ _ hc q => mul_int q hc.ok
/-- // by a positive divisor -/
theorem op_fdiv : OpR X (binaryOp .FloorDiv) (rI CDiv fun i j => .int (i / j)) := opI fun i j _ _ _ _ _ hc q => by
  have h1 : (0 : Int) < j := hc.1
  have h2 : j < 1073741824 := hc.2
  exact floordiv_int (by omega) (by rw [Int.fdiv_eq_ediv_of_nonneg i (by omega)]; exact q) (.inl (PyProof.noPylong_small (by omega)))
/-- % by a positive divisor of any size -/
theorem op_mod : OpR X (binaryOp .Mod) (rI (fun _ j => 0 < j) fun i j => .int (i % j)) := opI fun i j _ _ _ _ _ hc q => by
  have h1 : (0 : Int) < j := hc
  exact mod_int' (by omega) (by rw [Int.fmod_eq_emod_of_nonneg i (by omega)]; exact q)
theorem iop_fdiv : OpR X (inplaceOp .FloorDiv) (rI CDiv fun i j => .int (i / j)) := opI fun i j _ _ _ _ _ hc q => by
  have h1 : (0 : Int) < j := hc.1
  have h2 : j < 1073741824 := hc.2
  exact ifloordiv_int (by omega) (by rw [Int.fdiv_eq_ediv_of_nonneg i (by omega)]; exact q) (.inl (PyProof.noPylong_small (by omega)))
theorem unI {f : Value → Sem Value} {g : Int → Int}
    (rule : ∀ (i : Int) (t : Tok) (s : Shared) (Q : Value → Shared → Prop) (E : Value → Shared → Prop), Q (.int (g i) s.toks) { s with toks := s.toks + 1 } → wpAny (model X.prog X.w) X.A (f (.int i t)) Q E s) :
    UnR X f (rU fun i => .int (g i)) := by
  intro pins s σ H x v Q I rx h
  obtain ⟨i, rfl, q⟩ := h
  obtain ⟨t, rfl⟩ := rx
  exact rule i t s _ _ ⟨.int (g i), H, I.tok _, ⟨_, rfl⟩, q⟩
theorem un_neg : UnR X (unaryOp .USub) (rU fun i => .int (-i)) := unI fun _ _ _ _ _ q => neg_int q
/-! ### bools among ints: n += (a < b) -/
end

/-! ### comparisons -/
/-- the scalars that == tells apart as data does -/
def scal : V → V → Bool
  | .non, .non => true | .non, .int _ => true | .int _, .non => true | .non, .bl _ => true | .bl _, .non => true | .non, .str _ => true | .str _, .non => true
  | .int _, .int _ => true | .bl _, .bl _ => true | .str _, .str _ => true | .byt _, .byt _ => true
  | .int _, .str _ => true | .str _, .int _ => true | .bl _, .str _ => true | .str _, .bl _ => true
  | _, _ => false
def rEq : R2 := fun x y H Q => scal x y = true ∧ Q (.bl (decide (x = y))) H
def rNe : R2 := fun x y H Q => scal x y = true ∧ Q (.bl (!decide (x = y))) H

theorem dec_int {i j : Int} : decide (V.int i = V.int j) = (i == j) := by
  rw [Bool.eq_iff_iff]
  simp
theorem dec_bl {i j : Bool} : decide (V.bl i = V.bl j) = (i == j) := by
  rw [Bool.eq_iff_iff]
  simp
theorem dec_str {i j : Str} : decide (V.str i = V.str j) = (i == j) := by
  rw [Bool.eq_iff_iff]
  simp
theorem dec_byt {i j : Array UInt8} : decide (V.byt i = V.byt j) = (i.toList == j.toList) := by
  rw [Bool.eq_iff_iff]
  cases i
  cases j
  simp

section
variable {X : Cx} {a b c : Expr} {ta tb tc : TE} {pos : Pos}
theorem fin_bl {pins : List (Addr × Obj)} {σ : St} {H : Hp} {s : Shared} {Q : VK} {k k' : Bool} (I : Inv X pins σ H s) (q : Q (.bl k) H) (e : k = k') : EP X pins σ Q (.bool k') s := by
  subst e
  exact ⟨.bl k, H, I, rfl, q⟩
theorem op_eq : OpR X (compareOp .Eq) rEq := by
  intro pins s σ H x y v u Q I rx ry h
  obtain ⟨hs, q⟩ := h
  cases x with
  | non =>
    cases rx
    cases y with
    | non => cases ry; exact PySem.EqNone.eq_none_none (fin_bl I q (by simp))
    | bl j => cases ry; exact PySem.EqNone.eq_none_bool (fin_bl I q (by simp))
    | int j => obtain ⟨t', rfl⟩ := ry; exact PySem.EqNone.eq_none_int (fin_bl I q (by simp))
    | str j => obtain ⟨t', rfl⟩ := ry; exact PySem.EqNone.eq_none_str (fin_bl I q (by simp))
    | _ => exact absurd (show false = true from hs) Bool.false_ne_true
  | bl i =>
    cases rx
    cases y with
    | non => cases ry; exact PySem.EqNone.eq_bool_none (fin_bl I q (by simp))
    | bl j => cases ry; exact eq_bool (fin_bl I q dec_bl)
    | str j => obtain ⟨t', rfl⟩ := ry; exact PySem.EqMixed.eq_bool_str (fin_bl I q (by simp))
    | _ => exact absurd (show false = true from hs) Bool.false_ne_true
  | int i =>
    obtain ⟨t, rfl⟩ := rx
    cases y with
    | non => cases ry; exact PySem.EqNone.eq_int_none (fin_bl I q (by simp))
    | int j => obtain ⟨t', rfl⟩ := ry; exact eq_int (fin_bl I q dec_int)
    | str j => obtain ⟨t', rfl⟩ := ry; exact PySem.EqMixed.eq_int_str (fin_bl I q (by simp))
    | _ => exact absurd (show false = true from hs) Bool.false_ne_true
  | str i =>
    obtain ⟨t, rfl⟩ := rx
    cases y with
    | non => cases ry; exact PySem.EqNone.eq_str_none (fin_bl I q (by simp))
    | bl j => cases ry; exact PySem.EqMixed.eq_str_bool (fin_bl I q (by simp))
    | int j => obtain ⟨t', rfl⟩ := ry; exact PySem.EqMixed.eq_str_int (fin_bl I q (by simp))
    | str j => obtain ⟨t', rfl⟩ := ry; exact eq_str (fin_bl I q dec_str)
    | _ => exact absurd (show false = true from hs) Bool.false_ne_true
  | byt i =>
    obtain ⟨t, rfl⟩ := rx
    cases y with
    | byt j => obtain ⟨t', rfl⟩ := ry; exact PySem.W.eq_bytes (fin_bl I q dec_byt)
    | _ => exact absurd (show false = true from hs) Bool.false_ne_true
  | _ => cases y <;> exact absurd (show false = true from hs) Bool.false_ne_true
theorem op_ne : OpR X (compareOp .NotEq) rNe := by
  intro pins s σ H x y v u Q I rx ry h
  obtain ⟨hs, q⟩ := h
  cases x with
  | non =>
    cases rx
    cases y with
    | non => cases ry; exact PySem.EqNone.ne_none_none (fin_bl I q (by simp))
    | bl j => cases ry; exact PySem.EqNone.ne_none_bool (fin_bl I q (by simp))
    | int j => obtain ⟨t', rfl⟩ := ry; exact PySem.EqNone.ne_none_int (fin_bl I q (by simp))
    | str j => obtain ⟨t', rfl⟩ := ry; exact PySem.EqNone.ne_none_str (fin_bl I q (by simp))
    | _ => exact absurd (show false = true from hs) Bool.false_ne_true
  | bl i =>
    cases rx
    cases y with
    | non => cases ry; exact PySem.EqNone.ne_bool_none (fin_bl I q (by simp))
    | bl j => cases ry; exact ne_bool (fin_bl I q (congrArg not dec_bl))
    | str j => obtain ⟨t', rfl⟩ := ry; exact PySem.EqMixed.ne_bool_str (fin_bl I q (by simp))
    | _ => exact absurd (show false = true from hs) Bool.false_ne_true
  | int i =>
    obtain ⟨t, rfl⟩ := rx
    cases y with
    | non => cases ry; exact PySem.EqNone.ne_int_none (fin_bl I q (by simp))
    | int j => obtain ⟨t', rfl⟩ := ry; exact ne_int (fin_bl I q (congrArg not dec_int))
    | str j => obtain ⟨t', rfl⟩ := ry; exact PySem.EqMixed.ne_int_str (fin_bl I q (by simp))
    | _ => exact absurd (show false = true from hs) Bool.false_ne_true
  | str i =>
    obtain ⟨t, rfl⟩ := rx
    cases y with
    | non => cases ry; exact PySem.EqNone.ne_str_none (fin_bl I q (by simp))
    | bl j => cases ry; exact PySem.EqMixed.ne_str_bool (fin_bl I q (by simp))
    | int j => obtain ⟨t', rfl⟩ := ry; exact PySem.EqMixed.ne_str_int (fin_bl I q (by simp))
    | str j => obtain ⟨t', rfl⟩ := ry; exact ne_str (fin_bl I q (congrArg not dec_str))
    | _ => exact absurd (show false = true from hs) Bool.false_ne_true
  | byt i =>
    obtain ⟨t, rfl⟩ := rx
    cases y with
    | byt j => obtain ⟨t', rfl⟩ := ry; exact PySem.W.ne_bytes (fin_bl I q (congrArg not dec_byt))
    | _ => exact absurd (show false = true from hs) Bool.false_ne_true
  | _ => cases y <;> exact absurd (show false = true from hs) Bool.false_ne_true

theorem op_lt : OpR X (compareOp .Lt) (rI0 fun i j => .bl (decide (i < j))) := opB0 fun _ _ _ _ _ _ _ q => lt_int q
theorem op_le : OpR X (compareOp .LtE) (rI0 fun i j => .bl (decide (i ≤ j))) := opB0 fun _ _ _ _ _ _ _ q => le_int q
theorem op_gt : OpR X (compareOp .Gt) (rI0 fun i j => .bl (decide (j < i))) := opB0 fun _ _ _ _ _ _ _ q => gt_int q
theorem op_ge : OpR X (compareOp .GtE) (rI0 fun i j => .bl (decide (j ≤ i))) := opB0 fun _ _ _ _ _ _ _ q => ge_int q
/-- the one string within the other -/
theorem op_in_str : OpR X (compareOp .In) (fun x y H Q => ∃ i j, x = .str i ∧ y = .str j ∧ Q (.bl (!(Builtin.Str.occurrences j i 0 j.length 1).isEmpty)) H) := by
  intro pins s σ H x y v u Q I rx ry h
  obtain ⟨i, j, rfl, rfl, q⟩ := h
  obtain ⟨t, rfl⟩ := rx
  obtain ⟨t', rfl⟩ := ry
  exact in_str (fin_bl I q rfl)

theorem nomark (b : Expr) {op : CmpOp} (h : op ≠ .In := by decide) (h2 : op ≠ .NotIn := by decide) : behindInMarks op b = false := by
  have e1 : (op == CmpOp.In) = false := by cases op <;> first | rfl | exact absurd rfl h
  have e2 : (op == CmpOp.NotIn) = false := by cases op <;> first | rfl | exact absurd rfl h2
  cases b <;> simp [behindInMarks, e1, e2]
/-- a comparison as a value; hm: nomark b, or (for in, not in) by with_unfolding_all rfl -/
theorem pe_cmpR {op : CmpOp} {r : R2} (ho : OpR X (compareOp op) r) (ha : PE X a ta) (hb : PE X b tb) (hm : behindInMarks op b = false) : PE X (.Compare a [op] [b] pos) (tOp r ta tb) := by
  intro pins s σ H Q I h
  exact wpAny_Compare1 (binT ha hb I h fun v u s2 x y H2 I2 rx ry q => ho pins s2 σ H2 x y v u Q I2 rx ry q) hm
/-- a reading of a value as a test -/
def tTest (t : TE) : TT := fun σ H Q => t σ H fun x H' => ∃ k, x = .bl k ∧ Q k H'
theorem pt_cmpR {op : CmpOp} {r : R2} (ho : OpR X (compareOp op) r) (ha : PE X a ta) (hb : PE X b tb) (hm : behindInMarks op b = false) : PT X (.Compare a [op] [b] pos) (tTest (tOp r ta tb)) := by
  intro pins s σ H Q I h
  refine wpAny_isTrue_Compare1 (thn (ha pins s σ H _ I h) fun v s1 ⟨x, H1, I1, r1, q1⟩ => thn (hb pins s1 σ H1 _ I1 q1) fun u s2 ⟨y, H2, I2, r2, q2⟩ =>
    thn (ho pins s2 σ H2 x y v u _ I2 r1 r2 q2) fun c s3 ⟨z, H3, I3, r3, k, e, q3⟩ => ?_) hm
  subst e
  cases r3
  exact wpAny_truthy_bool ⟨H3, I3, q3⟩
/-- a op1 b op2 c -/
def tChain (r r' : R2) (ta tb tc : TE) : TE := fun σ H Q => ta σ H fun x H1 => tb σ H1 fun y H2 => r x y H2 fun z H3 => ∃ k, z = .bl k ∧
  (if k = true then tc σ H3 fun w' H4 => r' y w' H4 Q else Q (.bl false) H3)
theorem pt_chain {op op' : CmpOp} {r r' : R2} (ho : OpR X (compareOp op) r) (ho' : OpR X (compareOp op') r') (ha : PE X a ta) (hb : PE X b tb) (hc : PE X c tc)
    (hm : lastMarks [op, op'] [b, c] = false := by with_unfolding_all rfl) : PT X (.Compare a [op, op'] [b, c] pos) (tTest (tChain r r' ta tb tc)) := by
  intro pins s σ H Q I h
  refine isTrue_chain (thn (ha pins s σ H _ I h) fun v s1 ⟨x, H1, I1, r1, q1⟩ => test_link (thn (hb pins s1 σ H1 _ I1 q1) fun u s2 ⟨y, H2, I2, r2, q2⟩ =>
    thn (ho pins s2 σ H2 x y v u _ I2 r1 r2 q2) fun d s3 ⟨z, H3, I3, r3, k, e, q3⟩ => ?_)) hm
  subst e
  cases r3
  refine wpAny_truthy_bool ?_
  cases k with
  | false =>
    obtain ⟨k', e', q'⟩ := q3
    cases e'
    exact ite_ff ⟨H3, I3, q'⟩
  | true =>
    refine ite_tt (test_last (thn (hc pins s3 σ H3 _ I3 q3) fun w' s4 ⟨z', H4, I4, r4, q4⟩ => thn (ho' pins s4 σ H4 y z' u w' _ I4 r2 r4 q4) fun d' s5 ⟨z2, H5, I5, r5, k2, e2, q5⟩ => ?_))
    subst e2
    cases r5
    exact wpAny_truthy_bool ⟨H5, I5, q5⟩

/-! ### truth -/
/-- a value's truth by the abstract heap -/
def TruV (K : PySem.W.Frag) (x : V) (H : Hp) (k : Bool) : Prop :=
  match x with
  | .non => k = false
  | .bl b => k = b
  | .int i => k = (i != 0)
  | .str y => y.length ≤ sizeLine ∧ k = ((y.length : Int) != 0)
  | .byt y => y.size ≤ sizeLine ∧ k = ((y.size : Int) != 0)
  | .ref p => (∃ xs, SqL K H p xs ∧ k = !xs.isEmpty) ∨ (∃ xs, SqT K H p xs ∧ k = !xs.isEmpty) ∨ ∃ kvs, H p = some (.dK kvs) ∧ k = !kvs.isEmpty
  | _ => False
theorem isEmpty_kv {κ : Type} {kvs : List (κ × V)} {vs : List (κ × Value)} (r : KV kvs vs) : (!vs.isEmpty) = !kvs.isEmpty := by
  cases r <;> rfl
theorem isEmpty_of {xs : List V} {its : List Value} (r : Vals xs its) : (!its.toArray.isEmpty) = !xs.isEmpty := by
  cases r <;> simp
theorem line63 : (sizeLine : Nat) < 2 ^ 63 := by rw [sizeLine_eq]; decide
theorem tru_ok : TruR X (fun x H Q => ∃ k, TruV X.K x H k ∧ Q k H) := by
  intro pins s σ H x v Q I rx h
  obtain ⟨k, e, q⟩ := h
  have hl := line63
  have hs : sizeLine = 16777216 := sizeLine_eq
  cases x with
  | non =>
    cases rx
    have e' : k = false := e
    subst e'
    exact truthy_none ⟨H, I, q⟩
  | bl b =>
    cases rx
    have e' : k = b := e
    subst e'
    exact wpAny_truthy_bool ⟨H, I, q⟩
  | int i =>
    obtain ⟨t, rfl⟩ := rx
    have e' : k = (i != 0) := e
    subst e'
    exact PySem.P.truthy_int ⟨H, I, q⟩
  | str y =>
    obtain ⟨t, rfl⟩ := rx
    obtain ⟨hy, e'⟩ : y.length ≤ sizeLine ∧ k = ((y.length : Int) != 0) := e
    subst e'
    exact PySem.P.truthy_str (by omega) ⟨H, I.tok _, q⟩
  | byt y =>
    obtain ⟨t, rfl⟩ := rx
    obtain ⟨hy, e'⟩ : y.size ≤ sizeLine ∧ k = ((y.size : Int) != 0) := e
    subst e'
    exact PySem.W.truthy_bytes (by omega) ⟨H, I.tok _, q⟩
  | ref p =>
    cases rx
    have e' : (∃ xs, SqL X.K H p xs ∧ k = !xs.isEmpty) ∨ (∃ xs, SqT X.K H p xs ∧ k = !xs.isEmpty) ∨ ∃ kvs, H p = some (.dK kvs) ∧ k = !kvs.isEmpty := e
    rcases e' with ⟨xs, hx, e'⟩ | ⟨xs, hx, e'⟩ | ⟨kvs, hx, e'⟩
    · subst e'
      obtain ⟨its, r, pl, hz⟩ := I.list hx
      have hlen := r.length
      exact wpAny_truthy_list pl.isList (by simp only [List.size_toArray]; omega) ⟨H, I.tok _, by rw [isEmpty_of r]; exact q⟩
    · subst e'
      obtain ⟨its, r, pl, hz⟩ := I.tuple hx
      have hlen := r.length
      exact truthy_tuple pl (by simp only [List.size_toArray]; omega) ⟨H, I.tok _, by rw [isEmpty_of r]; exact q⟩
    · subst e'
      obtain ⟨hz, hS, vs, r, m⟩ : kvs.length ≤ sizeLine ∧ (p == sysModules) = false ∧ ∃ vs, KV kvs vs ∧ s.heap.DictOf (mixKind X.prog X.w) p vs := I.hok p _ hx
      have hlen : kvs.length = vs.length := Paired.length r
      exact wpAny_truthy_dict hS m (by omega) ⟨H, I.tok _, by rw [isEmpty_kv r]; exact q⟩
  | _ => exact (show False from e).elim
/-- any expression whose test is its value's truth (a name, a call, a subscript, a field ..: he by fun _ => rfl) -/
theorem pt_truth (ha : PE X a ta) (he : ∀ whole, isTrue a X.env whole = (do let v ← whole; standAt a.pos; holding [v] (truthy v))) :
    PT X a (fun σ H Q => ta σ H fun x H' => ∃ k, TruV X.K x H' k ∧ Q k H') := by
  intro pins s σ H Q I h
  exact isTrue_plain (thn (ha pins s σ H _ I h) fun v s1 ⟨x, H1, I1, r1, q1⟩ => tru_ok pins s1 σ H1 x v Q I1 r1 q1) (he _)

/-! ### strs and bytes -/
theorem op_add_str : OpR X (binaryOp .Add) (fun x y H Q => ∃ i j, x = .str i ∧ y = .str j ∧ i.length + j.length ≤ sizeLine ∧ Q (.str (i ++ j)) H) := by
  intro pins s σ H x y v u Q I rx ry h
  obtain ⟨i, j, rfl, rfl, hz, q⟩ := h
  obtain ⟨t, rfl⟩ := rx
  obtain ⟨t', rfl⟩ := ry
  exact add_str (fun t' tk => ⟨.str (i ++ j), H, I.tok _, ⟨_, rfl⟩, q⟩) hz
/-! ### scalar builtins, by CallR -/
theorem vals1 {x : V} {us : List Value} (r : Vals [x] us) : ∃ u, us = [u] ∧ RelV x u := by
  cases r with
  | cons r1 r2 => cases r2; exact ⟨_, rfl, r1⟩
theorem vals2 {x y : V} {us : List Value} (r : Vals [x, y] us) : ∃ u w', us = [u, w'] ∧ RelV x u ∧ RelV y w' := by
  cases r with
  | cons r1 r2 =>
    cases r2 with
    | cons r3 r4 => cases r4; exact ⟨_, _, rfl, r1, r3⟩
theorem call_max2 (hc : X.calm = true) : CallR X (.builtin "max") (fun xs H Q => ∃ i j, xs = [.int i, .int j] ∧ Q (.int (if j > i then j else i)) H) := by
  intro pins s σ H xs us Q I r h
  obtain ⟨i, j, rfl, q⟩ := h
  obtain ⟨u, w', rfl, ⟨t, rfl⟩, ⟨t', rfl⟩⟩ := vals2 r
  refine max_two_ints (I.ok.hd hc) fun h' tk k => ⟨_, H, I.kept k, ?_, q⟩
  by_cases hj : j > i
  · rw [if_pos hj, if_pos hj]; exact ⟨_, rfl⟩
  · rw [if_neg hj, if_neg hj]; exact ⟨_, rfl⟩
/-- divmod: a new tuple -/
theorem call_divmod : CallR X (.builtin "divmod") (fun xs H Q => ∃ i j, xs = [.int i, .int j] ∧ CDiv i j ∧ ∀ p, H p = none → Q (.ref p) (upd H p (.tup [.int (i / j), .int (i % j)]))) := by
  intro pins s σ H xs us Q I r h
  obtain ⟨i, j, rfl, ⟨h1, h2⟩, q⟩ := h
  obtain ⟨u, w', rfl, ⟨t, rfl⟩, ⟨t', rfl⟩⟩ := vals2 r
  refine divmod_int (by omega) ?_ (.inl (PyProof.noPylong_small (by omega)))
  rw [Int.fdiv_eq_ediv_of_nonneg i (by omega), Int.fmod_eq_emod_of_nonneg i (by omega)]
  have hn : H s.heap.objs.size = none := I.hok.fresh (Nat.le_refl _)
  refine ⟨.ref s.heap.objs.size, _, ?_, rfl, q _ hn⟩
  refine I.laid (fun b o e => Heap.get?_push_of_some _ e) (Nat.le_refl _) ⟨by simp only [List.length_cons, List.length_nil]; rw [sizeLine_eq]; decide, [.int (i / j) s.toks, .int (i % j) (s.toks + 1)], .cons ⟨_, rfl⟩ (.cons ⟨_, rfl⟩ .nil), ?_⟩
  exact ⟨_, Heap.get?_push_size s.heap rfl, rfl, 0, rfl⟩
end
end L2

namespace L2
open PySem PySem.Spec PyProof.Rows

/-! ### an instance, its attributes a map -/
structure ObjM (h : Heap) (x dx C : Addr) (mA : Str → Option Value) : Prop where
  obj : h.get? x = some (PySem.W.instObj C dx)
  ns : h.Ns1 dx mA
  ne : dx ≠ x

theorem lookIn_ns {h : Heap} {dx : Addr} {mA : Str → Option Value} (n : h.Ns1 dx mA) : ∃ od, h.get? dx = some od ∧ ∀ name, PySem.W.lookIn name od = some (mA name) := by
  obtain ⟨o, es, ep, ho, hd, hk, _, hm⟩ := n
  refine ⟨o, ho, fun name => ?_⟩
  have e := hm name
  unfold nsFind findBy at e
  rw [← Array.find?_toList] at e
  unfold PySem.W.lookIn
  rw [hd]
  dsimp only
  split
  · rename_i y q
    rw [q] at e
    exact congrArg some e
  · rename_i q
    rw [q] at e
    have a : es.toList.any (·.refKey) = false := by
      rw [List.any_eq_false]
      intro y hy
      obtain ⟨z, t, hkey⟩ := hk y (Array.mem_toList_iff.mp hy)
      simp [DictEntry.refKey, hkey]
    have a' : ¬ es.toList.any (·.refKey) = true := by rw [a]; exact Bool.false_ne_true
    rw [if_neg a']
    exact congrArg some e

theorem ObjM.look {h : Heap} {x dx C : Addr} {mA : Str → Option Value} (I : ObjM h x dx C mA) : ∃ od, PySem.W.InstAt h x (PySem.W.instObj C dx) C (some od) ∧ ∀ name, PySem.W.lookIn name od = some (mA name) :=
  let ⟨od, ho, hl⟩ := lookIn_ns I.ns
  ⟨od, ⟨I.obj, rfl, rfl, ho⟩, hl⟩

section
variable {prog : Program} {w : World} {A : Around} {E : Value → Shared → Prop} {s : Shared} {K : PySem.W.Frag} {x dx C f : Addr} {mA : Str → Option Value} {name : Str} {v : Value}

end

/-! ### the attributes as a list of pairs -/
section
variable {P : Program} {w : World} {H H' : Hp} {h h' : Heap} {a C dx : Addr} {fs fs' : List (Str × V)}
theorem ins_get (hok : HOk P w H h) (e : H a = some (.ins C dx fs)) : ∃ mA, ObjM h a dx C mA ∧ (∀ f, RelO (fs.lookup f) (mA f)) ∧ PySem.Within mA (fs.map (·.1)) ∧ fs.length ≤ 1000 ∧ H dx = some (.own a) := by
  obtain ⟨d, z, ne, ob, mA, n, r, q⟩ := (show ObjOk P w H h a (.ins C dx fs) from hok a _ e)
  exact ⟨mA, ⟨ob, n, ne⟩, r, q, z, d⟩
end

/-! ### what of the text a class must have -/
structure Cls (K : PySem.W.Frag) (C : Addr) : Prop where
  pg : PySem.W.plainGet K C Str.empty = true
  hd : PySem.W.hasDictIn K C = true
  po : PySem.W.plainOver K C = true
  sa : PySem.W.findIn K (.ref C) "__setattr__" = some (some (.builtin "object.__setattr__"))
theorem Cls.get {K : PySem.W.Frag} {C : Addr} (c : Cls K C) (f : Str) : PySem.W.plainGet K C f = true := c.pg
section
variable {X : Cx} {pins : List (Addr × Obj)} {σ : St} {H : Hp} {s : Shared} {a C dx : Addr} {fs : List (Str × V)} {f : Str} {v : V} {A : Around} {E : Value → Shared → Prop}

end

/-! ### readings and rules -/
section
variable {X : Cx} {o e value : Expr} {f : Str} {pos pos' tpos : Pos} {ta tv : TE}
end

/-! ### isinstance -/
section
variable {X : Cx} {pins : List (Addr × Obj)} {σ : St} {H : Hp} {s : Shared} {A : Around} {E : Value → Shared → Prop} {Q : Value → Shared → Prop} {c : Value} {b : Bool}
/-- the type of a value, as the fragment's deciders take it; for an instance its class -/
inductive TyOf (K : PySem.W.Frag) (H : Hp) : V → Value → Prop where
  | non : TyOf K H .non (.type "NoneType")
  | bl (x : Bool) : TyOf K H (.bl x) (.type "bool")
  | int (i : Int) : TyOf K H (.int i) (.type "int")
  | str (x : Str) : TyOf K H (.str x) (.type "str")
  | flt (x : UInt64) : TyOf K H (.flt x) (.type "float")
  | lst {a : Addr} {xs : List V} (e : H a = some (.lst xs)) : TyOf K H (.ref a) (.type "list")
  | frz {a : Addr} {o : Obj} {xs : List V} (e : H a = some (.frz o (.lst xs))) : TyOf K H (.ref a) (.type "list")
  | tup {a : Addr} {xs : List V} (e : H a = some (.tup xs)) : TyOf K H (.ref a) (.type "tuple")
  | dK {a : Addr} {kvs : List (Key × V)} (e : H a = some (.dK kvs)) : TyOf K H (.ref a) (.type "dict")
  | dT {a : Addr} {kvs : List (List Key × V)} (e : H a = some (.dT kvs)) : TyOf K H (.ref a) (.type "dict")
  | ins {a C dx : Addr} {fs : List (Str × V)} (e : H a = some (.ins C dx fs)) (cl : Cls K C) (ha : PySem.W.findIn K (.ref C) "__class__" = some (some (.builtin "object.__class__")))
      (hn : PySem.W.specialIn K (.builtin "object.__class__") "__get__" = some (some (.builtin "getset_descriptor.__get__"))) (htk : PySem.W.takesIn K (.builtin "object.__class__") = some true)
      (hm : PySem.W.mroIn K C (.type "object") = some true) : TyOf K H (.ref a) (.ref C)
/-- isinstance(x, c) for one class c, a built-in or an own one: kitOne's answer -/
theorem isinst_ok {x : V} {u t : Value} (I : Inv X pins σ H s) (rx : RelV x u) (ty : TyOf X.K H x t) (e : PySem.W.kitOne X.K t c = some b) (h : ∀ tk, Q (.bool b) { s with toks := tk }) :
    wpAny (model X.prog X.w) A (call (.builtin "isinstance") [u, c]) Q E s := by
  cases ty with
  | non => cases (show u = Value.none from rx); exact PySem.W.kia_one PySem.W.kitx_none I.kIn True.intro e (fun z => nomatch z) h
  | bl y => cases (show u = Value.bool y from rx); exact PySem.W.kia_one PySem.W.kitx_bool I.kIn True.intro e (fun z => nomatch z) h
  | int i => obtain ⟨t, q⟩ := (show ∃ t, u = Value.int i t from rx); cases q; exact PySem.W.kia_one PySem.W.kitx_int I.kIn True.intro e (fun z => nomatch z) h
  | str y => obtain ⟨t, q⟩ := (show ∃ t, u = Value.str y t from rx); cases q; exact PySem.W.kia_one PySem.W.kitx_str I.kIn True.intro e (fun z => nomatch z) h
  | flt y => obtain ⟨t, q⟩ := (show ∃ t, u = Value.float y t from rx); cases q; exact PySem.W.kia_one PySem.W.kitx_float I.kIn True.intro e (fun z => nomatch z) h
  | @lst a xs ea =>
    cases (show u = Value.ref a from rx)
    obtain ⟨_, _, n, _, h1⟩ := (show ObjOk X.prog X.w H s.heap a (.lst xs) from I.hok a _ ea)
    exact PySem.W.kia_one PySem.W.kitx_list I.kIn ⟨_, h1, rfl⟩ e (fun z => nomatch z) h
  | @frz a ob xs ea =>
    cases (show u = Value.ref a from rx)
    obtain ⟨_, _, _, n, _, h1⟩ := (show ObjOk X.prog X.w H s.heap a (.frz ob (.lst xs)) from I.hok a _ ea)
    exact PySem.W.kia_one PySem.W.kitx_list I.kIn ⟨_, h1, rfl⟩ e (fun z => nomatch z) h
  | @tup a xs ea =>
    cases (show u = Value.ref a from rx)
    obtain ⟨_, _, _, p⟩ := (show ObjOk X.prog X.w H s.heap a (.tup xs) from I.hok a _ ea)
    obtain ⟨o, h1, h2, _⟩ := p
    exact PySem.W.kia_one PySem.W.kitx_tuple I.kIn ⟨o, h1, h2⟩ e (fun z => nomatch z) h
  | @dK a kvs ea =>
    cases (show u = Value.ref a from rx)
    obtain ⟨_, _, vs, _, p⟩ := (show ObjOk X.prog X.w H s.heap a (.dK kvs) from I.hok a _ ea)
    obtain ⟨o, es, ep, h1, h2, _⟩ := p
    exact PySem.W.kia_one PySem.W.kitx_dict I.kIn ⟨o, h1, h2.1⟩ e (fun z => nomatch z) h
  | @dT a kvs ea =>
    cases (show u = Value.ref a from rx)
    exact (show False from I.hok a _ ea).elim
  | @ins a C dx fs ea cl ha hn htk hm =>
    cases (show u = Value.ref a from rx)
    obtain ⟨mA, O, _⟩ := ins_get I.hok ea
    obtain ⟨od, J, _⟩ := O.look
    exact PySem.W.kia_one (PySem.W.kitx_own (cl.get _) cl.hd ha hn htk hm) I.kIn J e (fun z => nomatch z) h
end
end L2

namespace L2
open PySem PySem.Spec PyProof.Rows

/-! ### room -/
structure Room (k : Nat) (A : Around) : Prop where
  hd : A.handled = none
  dp : A.depth + 3 * k + 5 < recursionLimit
  un : A.units + 16 * k + 200 < cLine
theorem Room.mono {j k : Nat} {A : Around} (r : Room k A) (h : j ≤ k) : Room j A := ⟨r.hd, by have := r.dp; omega, by have := r.un; omega⟩
theorem Room.deeper {k : Nat} {A : Around} (r : Room (k + 1) A) (env : Env) : Room k (A.deeper env) :=
  ⟨r.hd, by have := r.dp; show A.depth + 1 + 3 * k + 5 < _; omega, by have := r.un; show A.units + 3 + 16 * k + 200 < _; omega⟩
theorem Room.depth {k : Nat} {A : Around} (r : Room k A) : A.depth < recursionLimit := by have := r.dp; omega
theorem Room.units0 {k : Nat} {A : Around} (r : Room k A) : A.units < cLine := by have := r.un; omega

/-! ### argument lists and displays -/
def tNil : TA := fun _ H Q => Q [] H
def tCons (ta : TE) (tr : TA) : TA := fun σ H Q => ta σ H fun x H1 => tr σ H1 fun xs H2 => Q (x :: xs) H2
section
variable {X : Cx} {e : Expr} {es : List Expr} {te : TE} {t : TA} {pos : Pos}
theorem pa_nil : PA X [] tNil := fun _ _ _ _ H Q I h => Calls.spliced_nil ⟨[], H, I, .nil, h⟩
theorem pa_cons (ha : PE X e te) (hr : PA X es t) (hs : starEach (e :: es) X.env = (false, eval e X.env) :: starEach es X.env := by rfl) : PA X (e :: es) (tCons te t) := by
  intro pos pins s σ H Q I h
  rw [hs]
  show wpAny _ _ (spliced ((false, eval e X.env) :: backTo pos (starEach es X.env))) _ _ s
  refine Calls.spliced_cons (thn (ha pins s σ H _ I h) fun u s1 ⟨x, H1, I1, r1, q1⟩ => ?_)
  exact thn (hr pos pins s1 σ H1 _ I1 q1) fun us s2 ⟨xs, H2, I2, r2, q2⟩ => ⟨x :: xs, H2, I2, .cons r1 r2, q2⟩

/-- a tuple, a list of written items -/
def tTup (t : TA) : TE := fun σ H Q => t σ H fun xs H1 => xs.length ≤ sizeLine ∧ ∀ p, H1 p = none → Q (.ref p) (upd H1 p (.tup xs))
def tLst (t : TA) : TE := fun σ H Q => t σ H fun xs H1 => xs.length ≤ sizeLine ∧ ∀ p, H1 p = none → Q (.ref p) (upd H1 p (.lst xs))
theorem pe_tup {x1} (h : PA X es t) : PE X (.Tuple es x1 pos) (tTup t) := by
  intro pins s σ H Q I hq
  refine wpAny_Tuple_spliced (thn (h pos pins s σ H _ I hq) fun us s1 ⟨xs, H1, I1, r, z, q⟩ => ⟨by rw [← r.length]; exact z, ?_⟩)
  have hf : H1 s1.heap.objs.size = none := I1.hok.fresh (Nat.le_refl _)
  refine ⟨.ref s1.heap.objs.size, upd H1 s1.heap.objs.size (.tup xs), I1.laid (t' := s1.toks) (fun b u e => Heap.get?_push_of_some _ e) (Nat.le_refl _) ?_, rfl, q _ hf⟩
  exact ⟨z, us, r, ⟨_, Heap.get?_push_size _ rfl, rfl, _, rfl⟩⟩
theorem pe_lst (h : PA X es t) : PE X (.List es pos) (tLst t) := by
  intro pins s σ H Q I hq
  refine wpAny_List_spliced (thn (h pos pins s σ H _ I hq) fun us s1 ⟨xs, H1, I1, r, z, q⟩ => ⟨by rw [← r.length]; exact z, ?_⟩)
  have hf : H1 s1.heap.objs.size = none := I1.hok.fresh (Nat.le_refl _)
  refine ⟨.ref s1.heap.objs.size, upd H1 s1.heap.objs.size (.lst xs), I1.laid (t' := s1.toks) (fun b u e => Heap.get?_push_of_some _ e) (Nat.le_refl _) ?_, rfl, q _ hf⟩
  exact ⟨z, us, 0, r, Heap.get?_push_size _ rfl⟩
end

/-! ### what a def promises -/
/-- a def's promise: the bound arguments in the parameters' order, the heap, the wanted end, the wanted exception -/
abbrev Sp := List V → Hp → VK → XK → Prop
/-- how an exception lies behind a call (file 08 gives it): the callers' frames, abstract heap and state ahead of the call, the wish, the exception, the state -/
abbrev CXT := List Env → Hp → Shared → XK → Value → Shared → Prop

/-- the state at a call -/
structure Env0 (P : Program) (w : World) (K : PySem.W.Frag) (mg : Str → Option Value) (base : Heap) (A : Around) (outer : List Env) (s : Shared) (H : Hp) : Prop where
  frames : A.frames = some outer
  mod : Mod K mg base
  bs : ∀ b o, base.get? b = some o → s.heap.get? b = some o ∧ H b = none
  bsz : base.objs.size ≤ s.heap.objs.size
  funs : s.heap.FunFrames base outer
  frf : ∀ b ∈ frs outer, H b = none
  hok : HOk P w H s.heap
  bare : AllBare s.gens
/-- a call's end -/
def CE (outer : List Env) (P : Program) (w : World) (H : Hp) (s : Shared) (Q : VK) (u : Value) (s' : Shared) : Prop :=
  ∃ v H', s'.os = s.os ∧ AllBare s'.gens ∧ Un (frs outer) [] H H' s.heap s'.heap ∧ HOk P w H' s'.heap ∧ RelV v u ∧ Q v H'
def CR (CX : CXT) (outer : List Env) (P : Program) (w : World) (H : Hp) (s : Shared) (Q : VK) (E : XK) (r : Result) (s' : Shared) : Prop :=
  match r with
  | .ok (.ret u) => CE outer P w H s Q u s'
  | .ok _ => False
  | .error e => CX outer H s E e s'
structure FnOk (P : Program) (w : World) (K : PySem.W.Frag) (mg : Str → Option Value) (base : Heap) (CX : CXT) (k : Nat) (f : Addr) (fd : FuncData) (ps : List Str) (sp : Sp) : Prop where
  len : ∀ vs H Q E, sp vs H Q E → vs.length = ps.length
  run : ∀ (A : Around) (outer : List Env) (s : Shared) (H : Hp) (args : Args) (us : List Value) (vs : List V) (Q : VK) (E : XK), Room k A → Env0 P w K mg base A outer s H → BindsTo s fd args (ps.zip us) → Vals vs us → sp vs H Q E →
    codeAny (model P w) A (.call (.ref f) args) (CR CX outer P w H s Q E) s
theorem FnOk.mono {P : Program} {w : World} {K : PySem.W.Frag} {mg : Str → Option Value} {base : Heap} {CX : CXT} {j k : Nat} {f : Addr} {fd : FuncData} {ps : List Str} {sp : Sp} (F : FnOk P w K mg base CX j f fd ps sp) (h : j ≤ k) :
    FnOk P w K mg base CX k f fd ps sp := ⟨F.len, fun A outer s H args us vs Q E hr => F.run A outer s H args us vs Q E (hr.mono h)⟩
section
variable {X : Cx} {pins : List (Addr × Obj)} {σ : St} {H : Hp} {s s' : Shared}
/-- from a body: what a callee wants -/
theorem Inv.env0 (I : Inv X pins σ H s) : Env0 X.prog X.w X.K X.mg X.base X.A X.stack s H :=
  ⟨I.ok.frames, I.ok.mod, I.bs, Nat.le_trans I.ok.bsz I.sz, I.stack, I.stkFree, I.hok, I.bare⟩
/-- behind a call -/
theorem Inv.after {Q : VK} {u : Value} (I : Inv X pins σ H s) (h : CE X.stack X.prog X.w H s Q u s') : EP X pins σ Q u s' := by
  obtain ⟨v, H', os, bare, un, hok, r, q⟩ := h
  obtain ⟨hh, g, d, t, os'⟩ := s'
  obtain rfl : os' = s.os := os
  exact ⟨v, H', I.call (h' := hh) (g' := g) (d' := d) (t' := t) (ch := []) un hok bare (fun b z => absurd z (by simp)), r, q⟩
end

/-! ### calls -/
/-- f(..): the written arguments, then the defaults dvs; E: what is wanted of an exception -/
def tCall (sp : Sp) (dvs : List V) (E : XK) (t : TA) : TE := fun σ H Q => t σ H fun vs H1 => sp (vs ++ dvs) H1 Q E
/-- how the parameters are bound: us the positional arguments, kw the keywords' values by name, ds the defaults that fill up -/
def Binds (K : PySem.W.Frag) (fd : FuncData) (ps : List Str) (ds : List Value) : Prop :=
  ∀ (s : Shared) (us : List Value), K.In s.heap → (us ++ ds).length = ps.length → BindsTo s fd ⟨us, []⟩ (ps.zip (us ++ ds))
/-- every parameter is given -/
theorem Binds.all {K : PySem.W.Frag} {fd : FuncData} {ps : List Str} (h : ∀ us : List Value, us.length = ps.length → bindArgs fd ⟨us, []⟩ = pure (ps.zip us)) : Binds K fd ps [] := fun s us _ hl => by
  rw [List.append_nil] at hl ⊢
  exact .of_eq (h us hl)

/-- an exception of a callee reaches what this body wants of exceptions -/
def Passes (CX : CXT) (X : Cx) (E : XK) : Prop := ∀ (pins : List (Addr × Obj)) (σ : St) (H : Hp) (s : Shared) (e : Value) (s' : Shared), Inv X pins σ H s → CX X.stack H s E e s' → X.xe e s'

section
variable {X : Cx} {CX : CXT} {k : Nat} {f C : Addr} {fd : FuncData} {ps : List Str} {sp : Sp} {dvs : List V} {ds : List Value} {E : XK} {x m : Str} {p pos apos : Pos} {e o : Expr} {es : List Expr} {ta : TE} {t : TA}

/-- the callee runs -/
theorem run_fn {pins : List (Addr × Obj)} {σ : St} {H : Hp} {s : Shared} {Q : VK} {us : List Value} {vs : List V} (F : FnOk X.prog X.w X.K X.mg X.base CX k f fd ps sp) (hr : Room k X.A) (hb : Binds X.K fd ps ds) (hd : Vals dvs ds) (hx : Passes CX X E)
    (I : Inv X pins σ H s) (r : Vals vs us) (h : sp (vs ++ dvs) H Q E) : wpAny (model X.prog X.w) X.A (call (.ref f) us) (EP X pins σ Q) X.xe s := by
  have r2 : Vals (vs ++ dvs) (us ++ ds) := r.append hd
  have hl : (us ++ ds).length = ps.length := by rw [← r2.length]; exact F.len _ _ _ _ h
  refine wpAny_call (codeAny_mono (F.run X.A X.stack s H ⟨us, []⟩ (us ++ ds) (vs ++ dvs) Q E hr I.env0 (hb s us I.kIn hl) r2 h) fun r s' hq => ?_)
  cases r with
  | error e => exact hx pins σ H s e s' I hq
  | ok fl =>
    cases fl with
    | ret u => exact I.after hq
    | next => exact False.elim hq
    | brk => exact False.elim hq
    | cont => exact False.elim hq

theorem pe_call (F : FnOk X.prog X.w X.K X.mg X.base CX k f fd ps sp) (hr : Room k X.A) (hg : Gl X x) (hm : X.mg x = some (.ref f)) (hk : PySem.W.keepIn X.K (.ref f) = true) (hb : Binds X.K fd ps ds) (hd : Vals dvs ds) (hx : Passes CX X E)
    (ha : PA X (e :: es) t) (hdb : (x == ("__debug__" : Str)) = false := by decide) (he : starEach (e :: es) X.env = (false, eval e X.env) :: starEach es X.env := by rfl) (hpl : (backTo pos (starEach es X.env)).any (·.1) = false := by rfl) :
    PE X (.Call (.Name x p) (e :: es) [] pos) (tCall sp dvs E t) := by
  intro pins s σ H Q I h
  refine wpAny_Call_Name_kw (ld_glob I hg hm ?_ hdb)
  refine PySem.W.callWith_K (h₀ := X.base) I.ok.mod.kin hk (thn (ha pos pins s σ H _ I h) fun us s1 ⟨vs, H1, I1, r, q⟩ => ⟨I1.kIn, ?_⟩) he hpl
  exact run_fn F hr hb hd hx I1 r q
end

/-! ### keywords -/
section
variable {X : Cx} {CX : CXT} {k : Nat} {f C : Addr} {fd : FuncData} {ps ks : List Str} {sp : Sp} {E : XK} {x m : Str} {p pos apos kpos : Pos} {e o : Expr} {es : List Expr} {kws : List Keyword} {te ta : TE} {t tk : TA} {nm : Option Str}
variable {g : List Value → List Value → List Value} {gV : List V → List V → List V}
end

/-! ### a def's body keeps its promise -/
/-- names: the parameters first -/
structure FnScope (N P : List Str) (sc : Scope) : Prop where
  kind : sc.kind = .function
  co : sc.isCoroutine = false
  gen : sc.isGenerator = false
  nd : N.Nodup
  pre : N.take P.length = P
  par : ∀ x ∈ P, sc.names.lookup x = some .local ∨ sc.names.lookup x = some .cell
  nofree : ∀ y ∈ sc.names, y.2 ≠ .free

theorem bindL_out {kindOf : Str → Option NameKind} {x : Str} : ∀ {binds : List (Str × Value)} {m : Str → Option Value}, (∀ v, (x, v) ∉ binds) → bindL kindOf binds m x = m x
  | [], _, _ => rfl
  | (n, v) :: r, m, h => by
    unfold bindL
    rw [bindL_out fun w hw => h w (List.mem_cons_of_mem _ hw)]
    split
    · have : x ≠ n := by rintro rfl; exact h v List.mem_cons_self
      simp [this]
    · rfl
theorem bindC_out {kindOf : Str → Option NameKind} {x : Str} : ∀ {binds : List (Str × Value)} {m : Str → Option Value}, (∀ v, (x, v) ∉ binds) → bindC kindOf binds m x = m x
  | [], _, _ => rfl
  | (n, v) :: r, m, h => by
    unfold bindC
    rw [bindC_out fun w hw => h w (List.mem_cons_of_mem _ hw)]
    split
    · rfl
    · have : x ≠ n := by rintro rfl; exact h v List.mem_cons_self
      simp [this]
theorem bindL_get {kindOf : Str → Option NameKind} {x : Str} {v : Value} : ∀ {P : List Str} {vs : List Value} {i : Nat} {m : Str → Option Value}, P.Nodup → P[i]? = some x → vs[i]? = some v → kindOf x = some .local →
    bindL kindOf (P.zip vs) m x = some v
  | [], _, _, _, _, h, _, _ => by simp at h
  | _ :: _, [], _, _, _, _, h, _ => by simp at h
  | p :: P, w :: vs, 0, m, nd, h1, h2, hk => by
    simp at h1 h2; subst h1; subst h2
    show bindL kindOf ((p, w) :: P.zip vs) m p = _
    unfold bindL
    rw [bindL_out fun v hv => (List.nodup_cons.mp nd).1 (List.of_mem_zip hv).1, if_pos hk]
    simp
  | p :: P, w :: vs, i + 1, m, nd, h1, h2, hk => by
    show bindL kindOf ((p, w) :: P.zip vs) m x = _
    unfold bindL
    exact bindL_get (i := i) (List.nodup_cons.mp nd).2 (by simpa using h1) (by simpa using h2) hk
theorem bindC_get {kindOf : Str → Option NameKind} {x : Str} {v : Value} : ∀ {P : List Str} {vs : List Value} {i : Nat} {m : Str → Option Value}, P.Nodup → P[i]? = some x → vs[i]? = some v → kindOf x ≠ some .local →
    bindC kindOf (P.zip vs) m x = some v
  | [], _, _, _, _, h, _, _ => by simp at h
  | _ :: _, [], _, _, _, _, h, _ => by simp at h
  | p :: P, w :: vs, 0, m, nd, h1, h2, hk => by
    simp at h1 h2; subst h1; subst h2
    show bindC kindOf ((p, w) :: P.zip vs) m p = _
    unfold bindC
    rw [bindC_out fun v hv => (List.nodup_cons.mp nd).1 (List.of_mem_zip hv).1, if_neg hk]
    simp
  | p :: P, w :: vs, i + 1, m, nd, h1, h2, hk => by
    show bindC kindOf ((p, w) :: P.zip vs) m x = _
    unfold bindC
    exact bindC_get (i := i) (List.nodup_cons.mp nd).2 (by simpa using h1) (by simpa using h2) hk

/-- the names' values at the entry -/
def start (N : List Str) (vs : List V) : St := vs.map some ++ List.replicate (N.length - vs.length) none

/-- the context of a def's body, at its entry; an exception leaves the frame, then lies as CX says -/
def cxOf (CX : CXT) (P : Program) (w : World) (K : PySem.W.Frag) (mg : Str → Option Value) (base : Heap) (N : List Str) (qual : Str) (scope : Scope) (f : Addr) (cd : Value) (A : Around) (outer : List Env) (s : Shared) (H : Hp) (E : XK) : Cx where
  prog := P
  w := w
  K := K
  mg := mg
  base := base
  A := A.deeper (envOfC qual scope s.heap.objs.size f cd)
  N := N
  s₀ := s
  H₀ := H
  env := envOfC qual scope s.heap.objs.size f cd
  outer := outer
  stack := envOfC qual scope s.heap.objs.size f cd :: outer
  ex := []
  calm := true
  fn := fun _ => true
  pn := []
  xe := fun e s' => wpAny (model P w) (A.deeper (envOfC qual scope s.heap.objs.size f cd)) (leaving (envOfC qual scope s.heap.objs.size f cd) e) (fun _ s'' => CX outer H s E e s'') (fun e' s'' => CX outer H s E e' s'') s'

theorem cell_has {sc : Scope} {n : Nat} {x : Str} (h : sc.names.lookup x = some .cell) : ∃ c, (cellsFrom n sc.names []).lookup x = some c := by
  have q := PySem.W.cellsFrom_some sc.names n [] (.inl h)
  exact Option.isSome_iff_exists.mp q

theorem inv_start {CX : CXT} {P : Program} {w : World} {K : PySem.W.Frag} {mg : Str → Option Value} {base : Heap} {N ps : List Str} {qual : Str} {scope : Scope} {f : Addr} {cd : Value} {A : Around} {outer : List Env} {s s1 : Shared} {H : Hp} {E : XK} {us : List Value} {vs : List V}
    (S : FnScope N ps scope) (hd : A.handled = none) (e0 : Env0 P w K mg base A outer s H) (hl : vs.length = ps.length) (r : Vals vs us)
    (x : InCallC s s.heap.objs.size (bindL (envOfC qual scope s.heap.objs.size f cd).kindOf (ps.zip us) fun _ => none) (cellsFrom (s.heap.objs.size + 1) scope.names []) (bindC (envOfC qual scope s.heap.objs.size f cd).kindOf (ps.zip us) fun _ => none) s1) :
    Inv (cxOf CX P w K mg base N qual scope f cd A outer s H E) [] (start N vs) H s1 := by
  have hpl : ps.length ≤ N.length := by have := congrArg List.length S.pre; rw [List.length_take] at this; omega
  obtain ⟨h1, tk, rfl, hk⟩ := x.done
  have noA : ∀ b : Addr, b ∉ (cxOf CX P w K mg base N qual scope f cd A outer s H E).ex := fun b z => absurd (show b ∈ ([] : List Addr) from z) (by simp)
  refine ⟨⟨e0.mod, S.kind, rfl, rfl, Nat.le_refl _, fun y z c h1 h2 => ?_, fun y hy => ?_, fun y c _ h => ?_, fun _ => hd, Around.frames_deeper e0.frames, .inr ⟨rfl, rfl⟩, fun b z => absurd z (noA b), e0.bs, e0.bsz, fun b _ _ => noA b, fun b z => absurd z (noA b), e0.funs, e0.frf⟩,
    rfl, e0.bare, Un.kept hk, ⟨_, x.toInCall.ns, fun i y v h1 h2 h3 => ?_⟩, fun y c h => ⟨_, x.cell y c h⟩, e0.hok.fresh (Nat.le_refl _), fun y c h => ?_, fun p hp => absurd (show p ∈ ([] : List (Addr × Obj)) from hp) (by simp), e0.hok.kept hk, ?_⟩
  · exact name_of_addr x.apart (PySem.mem_of_lookup h1) (PySem.mem_of_lookup h2)
  · have hy : scope.names.lookup y = some .cell ∨ scope.names.lookup y = some .free := hy
    rcases hy with hy | hy
    · exact cell_has hy
    · exact absurd rfl (S.nofree _ (PySem.mem_of_lookup hy))
  · exact Nat.le_of_lt (x.above y c (PySem.mem_of_lookup h))
  · have hi : i < vs.length := by
      unfold start at h2
      by_cases hi : i < vs.length
      · exact hi
      · rw [List.getElem?_append_right (by simpa using hi)] at h2
        rw [List.getElem?_replicate] at h2
        split at h2 <;> cases h2
    have ha : vs[i]? = some v := by
      unfold start at h2
      rw [List.getElem?_append_left (by simpa using hi), List.getElem?_map] at h2
      cases e : vs[i]? with
      | none => rw [e] at h2; cases h2
      | some a => rw [e] at h2; cases h2; rfl
    obtain ⟨u, hu, rv⟩ := r.get ha
    have hp : ps[i]? = some y := by
      rw [← S.pre, List.getElem?_take_of_lt (by omega)]; exact h1
    have ndP : ps.Nodup := by rw [← S.pre]; exact S.nd.sublist (List.take_sublist _ _)
    refine ⟨u, rv, ?_⟩
    rcases S.par y (List.mem_of_getElem? hp) with k | k
    · exact .inl ⟨k, bindL_get ndP hp hu k⟩
    · obtain ⟨c, e⟩ := cell_has (n := s.heap.objs.size + 1) k
      refine .inr ⟨.inl k, c, e, ?_⟩
      have q := x.cell y c e
      rw [bindC_get ndP hp hu (by show scope.names.lookup y ≠ _; rw [k]; decide)] at q
      exact q
  · exact e0.hok.fresh (Nat.le_of_lt (x.above y c (PySem.mem_of_lookup h)))
  · unfold start
    show _ = N.length
    rw [List.length_append, List.length_map, List.length_replicate]
    omega

/-- THE RULE: a def (or a method) of the text, by its body. The body's reading t is chosen for each entry; it is run at the parameters' values -/
theorem fn_of {CX : CXT} {P : Program} {w : World} {K : PySem.W.Frag} {mg : Str → Option Value} {base : Heap} {k : Nat} {f : Addr} {name qual : Str} {params : Arguments} {body : List Stmt} {scope : Scope} {dV kV doc pm cdv ct oc : Value} {an od : Option Addr}
    {osl : Array (Option Value)} {N ps : List Str} {sp : Sp} (lk : K.lookup f = some ⟨oc, od, .func (PySem.W.fnOf name qual params body scope dV kV doc pm an cdv ct), osl⟩) (hcd : PySem.W.codeIn K cdv qual = true) (S : FnScope N ps scope)
    (len : ∀ vs H Q E, sp vs H Q E → vs.length = ps.length)
    (hbody : ∀ (A : Around) (outer : List Env) (s : Shared) (H : Hp) (vs : List V) (Q : VK) (E : XK), Room k (A.deeper (envOfC qual scope s.heap.objs.size f cdv)) → sp vs H Q E →
      ∃ t, PSs (cxOf CX P w K mg base N qual scope f cdv A outer s H E) body t ∧ t { nx := fun _ H' => Q .non H', rt := Q } (start N vs) H) :
    FnOk P w K mg base CX (k + 1) f (PySem.W.fnOf name qual params body scope dV kV doc pm an cdv ct) ps sp := by
  refine ⟨len, fun A outer s H args us vs Q E hr e0 hb r hsp => ?_⟩
  have hl := len _ _ _ _ hsp
  have KX : K.In s.heap := e0.mod.kin.keeps fun b o e => (e0.bs b o e).1
  have lim : s.heap.NoLimit := e0.mod.nolimit.keeps fun b o e => (e0.bs b o e).1
  have hkind : ∀ y ∈ ps.zip us, scope.names.lookup y.1 = some .local ∨ (scope.names.lookup y.1 = some .cell ∧ ((cellsFrom (s.heap.objs.size + 1) scope.names []).lookup y.1).isSome = true) := fun ⟨n, v⟩ hy => by
    rcases S.par n (List.of_mem_zip hy).1 with q | q
    · exact .inl q
    · exact .inr ⟨q, PySem.W.cellsFrom_some _ _ _ (.inl q)⟩
  refine codeAny_call_function hr.depth (KX _ _ lk) rfl S.co S.gen rfl (PySem.W.codeRec_of KX hcd) (hb _ _ _ _ ?_)
  refine wpAny_newFunctionEnv_cells S.kind hkind fun env he s1 x => ?_
  subst he
  refine ⟨lim.keeps x.toInCall.keep, codeAny_func ?_⟩
  obtain ⟨t, ht, hq⟩ := hbody A outer s H vs Q E (hr.deeper _) hsp
  have I : Inv (cxOf CX P w K mg base N qual scope f cdv A outer s H E) [] (start N vs) H s1 := inv_start S hr.hd e0 hl r x
  refine wpAny_mono (ht [] s1 (start N vs) H _ I hq) (fun fl s' hs => ?_) fun e s' hs => hs
  have fin : ∀ {σ' : St} {H' : Hp} {v : V} {u : Value}, Inv (cxOf CX P w K mg base N qual scope f cdv A outer s H E) [] σ' H' s' → RelV v u → Q v H' → CE outer P w H s Q u s' :=
    fun {σ' H' v u} J rv q => ⟨v, H', J.os, J.bare, J.base, J.hok, rv, q⟩
  cases fl with
  | ret u =>
    obtain ⟨v, σ', H', J, rv, q⟩ := hs
    exact fin J rv q
  | next =>
    obtain ⟨σ', H', J, q⟩ := hs
    exact fin (v := V.non) (u := Value.none) J rfl q
  | brk =>
    obtain ⟨_, _, _, q⟩ := hs
    exact False.elim q
  | cont =>
    obtain ⟨_, _, _, q⟩ := hs
    exact False.elim q
end L2

namespace L2
open PySem PySem.Spec PyProof.Rows
section
variable {X : Cx} {x : Str} {p pos : Pos} {e : Expr} {es : List Expr} {t : TA} {id T : String} {r : List V → Hp → VK → Prop}

def tCB (r : List V → Hp → VK → Prop) (t : TA) : TE := fun σ H Q => t σ H fun vs H1 => r vs H1 Q
/-- f(e, ..), f a built-in function -/
theorem pe_callB (hc : CallR X (.builtin id) r) (hg : Gl X x) (hm : X.mg x = none) (hv : bootBuiltins x = some (.builtin id)) (ha : PA X (e :: es) t) (hn : x ≠ "__name__" := by decide) (hdb : (x == ("__debug__" : Str)) = false := by decide)
    (he : starEach (e :: es) X.env = (false, eval e X.env) :: starEach es X.env := by rfl) (hpl : (backTo pos (starEach es X.env)).any (·.1) = false := by rfl) : PE X (.Call (.Name x p) (e :: es) [] pos) (tCB r t) := by
  intro pins s σ H Q I h
  refine wpAny_Call_Name_kw (ld_blt I hg hm hv ?_ hn hdb)
  exact PyProof.Rows.callWith_builtin1 (thn (ha pos pins s σ H _ I h) fun us s1 ⟨vs, H1, I1, r1, q1⟩ => hc pins s1 σ H1 vs us Q I1 r1 q1) he hpl
/-- T(e, ..), T a built-in type -/
theorem pe_callTy (hc : CallR X (.type T) r) (hg : Gl X x) (hm : X.mg x = none) (hv : bootBuiltins x = some (.type T)) (ha : PA X (e :: es) t) (hn : x ≠ "__name__" := by decide) (hdb : (x == ("__debug__" : Str)) = false := by decide)
    (he : starEach (e :: es) X.env = (false, eval e X.env) :: starEach es X.env := by rfl) (hpl : (backTo pos (starEach es X.env)).any (·.1) = false := by rfl) : PE X (.Call (.Name x p) (e :: es) [] pos) (tCB r t) := by
  intro pins s σ H Q I h
  refine wpAny_Call_Name_kw (ld_blt I hg hm hv ?_ hn hdb)
  exact PyProof.Rows.callWith_type1 (thn (ha pos pins s σ H _ I h) fun us s1 ⟨vs, H1, I1, r1, q1⟩ => hc pins s1 σ H1 vs us Q I1 r1 q1) he hpl
end
end L2

namespace HT
open PySem PyProof.Rows

section
open PySem.SeqAt
open PySem.AutoSeq1 (wpAny_loadPart')
open PySem.MeetsSeq PySem.MeetsSeq2 PySem.MeetsSeq3

end

section
variable {prog : Program} {w : World} {A : Around} {E : Value → Shared → Prop} {s : Shared}

/-! ### t[a:b], not the whole -/
/-- a slice's bound as a place among n (d where it is left out) -/
def sIx (n d : Nat) : Option Int → Nat
  | none => d
  | some v => if v < 0 then (v + (n : Int)).toNat else min v.toNat n
theorem sIx_none (n d : Nat) : sIx n d none = d := rfl
theorem sIx_nat (n d k : Nat) : sIx n d (some (k : Int)) = min k n := by
  show (if (k : Int) < 0 then ((k : Int) + (n : Int)).toNat else min (k : Int).toNat n) = min k n
  rw [if_neg (by omega), Int.toNat_natCast]
end
end HT

namespace L2
open PySem PySem.Spec PyProof.Rows

/-! ### the parts of a slice -/
abbrev TO := St → Hp → (Option Int → Hp → Prop) → Prop
/-- a slice's part (left out, or an int) -/
def PO (X : Cx) (e : Option Expr) (t : TO) : Prop :=
  ∀ (pins : List (Addr × Obj)) (s : Shared) (σ : St) (H : Hp) (Q : Option Int → Hp → Prop), Inv X pins σ H s → t σ H Q →
    wpAny (model X.prog X.w) X.A (evalPart e X.env) (fun u s' => ∃ o H', Inv X pins σ H' s' ∧ IsPart u o ∧ Q o H') X.xe s
def tNoPart : TO := fun _ H Q => Q none H
def tPart (t : TE) : TO := fun σ H Q => t σ H fun x H1 => ∃ i, x = .int i ∧ Q (some i) H1

theorem intsAre_of {ns : List Int} : ∀ {us : List Value}, Vals (ns.map V.int) us → IntsAre us ns := by
  induction ns with
  | nil => intro us r; rw [List.map_nil] at r; cases r; exact .nil
  | cons n ns ih =>
    intro us r
    rw [List.map_cons] at r
    cases r with
    | cons r1 r2 =>
      obtain ⟨t, e⟩ := r1
      subst e
      exact .cons n t (ih r2)

section
variable {X : Cx} {e : Expr} {te : TE} {lo hi : Option Expr} {tl th : TO} {pos p2 : Pos}

theorem po_none : PO X none tNoPart := by
  intro pins s σ H Q I h
  rw [evalPart_none]
  exact wpAny_pure ⟨none, H, I, .none, h⟩
theorem po_some (h : PE X e te) : PO X (some e) (tPart te) := by
  intro pins s σ H Q I hw
  rw [evalPart_some]
  refine thn (h pins s σ H _ I hw) fun u s1 ⟨x, H1, I1, r1, q1⟩ => ?_
  obtain ⟨i, rfl, q⟩ := q1
  obtain ⟨t, rfl⟩ := r1
  exact ⟨some i, H1, I1, .int i t, q⟩

/-- what a slice of a value is, by values: the slice object stands at sl -/
def SlR (X : Cx) (r : V → Option Int → Option Int → Hp → VK → Prop) : Prop :=
  ∀ (pins : List (Addr × Obj)) (s : Shared) (σ : St) (H : Hp) (x : V) (v vl vu : Value) (lo hi : Option Int) (sl : Addr) (Q : VK), Inv X pins σ H s → RelV x v → s.heap.IsSliceOf sl vl vu .none → IsPart vl lo → IsPart vu hi → r x lo hi H Q →
    ∃ T id, typeLookup (.type T) "__getitem__" = pure (some (.builtin id)) ∧ s.TypeIs v T ∧ wpAny (model X.prog X.w) X.A (getItem v (.ref sl)) (EP X pins σ Q) X.xe s
def tSl (r : V → Option Int → Option Int → Hp → VK → Prop) (te : TE) (tl th : TO) : TE := fun σ H Q => te σ H fun x H1 => tl σ H1 fun l H2 => th σ H2 fun u H3 => r x l u H3 Q
/-- a[lo:hi], any a -/
theorem pe_slice {r : V → Option Int → Option Int → Hp → VK → Prop} (hr : SlR X r) (he : PE X e te) (hl : PO X lo tl) (hu : PO X hi th) : PE X (.Subscript e (.Slice lo hi none p2) pos) (tSl r te tl th) := by
  intro pins s σ H Q I h
  refine Subscript_ (thn (he pins s σ H _ I h) fun v s1 ⟨x, H1, I1, r1, q1⟩ => ?_)
  refine wpAny_Slice (thn (hl pins s1 σ H1 _ I1 q1) fun vl s2 ⟨l, H2, I2, pl, q2⟩ => thn (hu pins s2 σ H2 _ I2 q2) fun vu s3 ⟨u, H3, I3, pu, q3⟩ => ?_)
  rw [evalPart_none]
  refine wpAny_pure ?_
  have I4 : Inv X pins σ H3 { s3 with heap := s3.heap.push { cls := .type "slice", data := .fields #[vl, vu, .none] } } := I3.kept (t' := s3.toks) fun b ob q => Heap.get?_push_of_some _ q
  obtain ⟨T, id, hT, ht, hg⟩ := hr pins { s3 with heap := s3.heap.push { cls := .type "slice", data := .fields #[vl, vu, .none] } } σ H3 x v vl vu l u s3.heap.objs.size Q I4 r1 (Heap.IsSliceOf.new ..) pl pu q3
  show wpAny (model X.prog X.w) X.A (subscriptTail e (.Slice lo hi none p2) v (.ref s3.heap.objs.size)) (EP X pins σ Q) X.xe { s3 with heap := s3.heap.push { cls := .type "slice", data := .fields #[vl, vu, .none] } }
  exact tail_any (ops := [.ref s3.heap.objs.size, v]) ht hT hg (by with_unfolding_all rfl)

/-- the items of xs[lo:hi] -/
def cutV (xs : List V) (lo hi : Option Int) : List V := (xs.drop (HT.sIx xs.length 0 lo)).take (HT.sIx xs.length xs.length hi - HT.sIx xs.length 0 lo)
theorem cutV_length (xs : List V) (lo hi : Option Int) : (cutV xs lo hi).length ≤ xs.length := by
  unfold cutV
  rw [List.length_take, List.length_drop]
  omega
/-! ### t < u, t + u -/
end
end L2

namespace L2
open PySem PySem.Spec PyProof.Rows

/-! ### places -/
/-- the place that an index of any sign means -/
def ixN (n : Nat) (i : Int) : Option Nat := if 0 ≤ i then (if i < n then some i.toNat else none) else if -(n : Int) ≤ i then some (i + n).toNat else none
def atI {α : Type} (xs : List α) (i : Int) : Option α := (ixN xs.length i).bind fun j => xs[j]?
theorem ixN_seq {n : Nat} {i : Int} {j : Nat} (h : ixN n i = some j) : seqIndex? i n = some j ∧ j < n ∧ -(n : Int) ≤ i ∧ i < n := by
  unfold ixN at h
  by_cases h0 : 0 ≤ i
  · rw [if_pos h0] at h
    by_cases h1 : i < n
    · rw [if_pos h1] at h
      have e : i.toNat = j := Option.some.inj h
      exact ⟨by rw [seqIndex_of h0 h1, e], by omega, by omega, h1⟩
    · rw [if_neg h1] at h; cases h
  · rw [if_neg h0] at h
    by_cases h1 : -(n : Int) ≤ i
    · rw [if_pos h1] at h
      have e : (i + n).toNat = j := Option.some.inj h
      exact ⟨by rw [seqIndex_neg (by omega) h1, e], by omega, h1, by omega⟩
    · rw [if_neg h1] at h; cases h
theorem atI_get {α : Type} {xs : List α} {i : Int} {v : α} (h : atI xs i = some v) : ∃ j, seqIndex? i xs.length = some j ∧ xs[j]? = some v ∧ j < xs.length ∧ -(xs.length : Int) ≤ i ∧ i < xs.length := by
  unfold atI at h
  cases e : ixN xs.length i with
  | none => rw [e] at h; cases h
  | some j =>
    rw [e] at h
    obtain ⟨h1, h2, h3, h4⟩ := ixN_seq e
    exact ⟨j, h1, h, h2, h3, h4⟩
theorem atI_nat {α : Type} {xs : List α} {j : Nat} {v : α} (h : xs[j]? = some v) : atI xs (j : Int) = some v := by
  have hj : j < xs.length := (List.getElem?_eq_some_iff.mp h).1
  have e : ixN xs.length (j : Int) = some j := by
    unfold ixN
    rw [if_pos (by omega), if_pos (by omega)]; simp
  unfold atI; rw [e]; exact h
/-! ### what may be subscripted -/
/-- what stands as an index of a plain subscript -/
def PlainIx (b : Expr) : Prop := ∀ o i, subscripted b false o i = operate [o, i] (getItem o i)
/-- a subscript by values -/
def IxR (X : Cx) (r : R2) : Prop :=
  ∀ (value slice : Expr) (pins : List (Addr × Obj)) (s : Shared) (σ : St) (H : Hp) (x y : V) (v u : Value) (Q : VK), Inv X pins σ H s → RelV x v → RelV y u → r x y H Q →
    subscripted slice false v u = operate [v, u] (getItem v u) → wpAny (model X.prog X.w) X.A (subscriptTail value slice v u) (EP X pins σ Q) X.xe s
/-- a call of a builtin's method by values: the receiver, the arguments -/
def MtR (X : Cx) (id : String) (r : V → List V → Hp → VK → Prop) : Prop :=
  ∀ (pins : List (Addr × Obj)) (s : Shared) (σ : St) (H : Hp) (x : V) (xs : List V) (v : Value) (us : List Value) (Q : VK), Inv X pins σ H s → RelV x v → Vals xs us → r x xs H Q →
    wpAny (model X.prog X.w) X.A (call (.builtin id) (v :: us)) (EP X pins σ Q) X.xe s
section
variable {X : Cx} {a b : Expr} {ta tb : TE} {pos : Pos}
/-- a[b] -/
theorem pe_ix {r : R2} (hr : IxR X r) (ha : PE X a ta) (hb : PE X b tb) (hs : PlainIx b) : PE X (.Subscript a b pos) (tOp r ta tb) := by
  intro pins s σ H Q I h
  exact Subscript_ (binT ha hb I h fun v u s2 x y H2 I2 rx ry q => hr a b pins s2 σ H2 x y v u Q I2 rx ry q (hs _ _))

def rIxL (K : PySem.W.Frag) : R2 := fun x y H Q => ∃ p xs i v, x = .ref p ∧ y = .int i ∧ SqL K H p xs ∧ atI xs i = some v ∧ Q v H
def rIxT (K : PySem.W.Frag) : R2 := fun x y H Q => ∃ p xs i v, x = .ref p ∧ y = .int i ∧ SqT K H p xs ∧ atI xs i = some v ∧ Q v H
def rIxS : R2 := fun x y H Q => ∃ z i c, x = .str z ∧ y = .int i ∧ z.length ≤ sizeLine ∧ atI z.cps.toList i = some c ∧ Q (.str ⟨#[c]⟩) H
theorem ix_list : IxR X (rIxL X.K) := by
  intro value slice pins s σ H x y v u Q I rx ry h hs
  obtain ⟨p, xs, i, z, rfl, rfl, hq, he, q⟩ := h
  cases rx
  obtain ⟨t, rfl⟩ := ry
  obtain ⟨its, r, pl, hz⟩ := I.list hq
  obtain ⟨j, h1, h2, h3, h4, h5⟩ := atI_get he
  obtain ⟨w, ew, rw'⟩ := r.get h2
  have hl := r.length
  have hn := line63
  have fin : EP X pins σ Q w s := ⟨z, H, I, rw', q⟩
  by_cases h0 : 0 ≤ i
  · have hj : i.toNat = j := by
      rw [seqIndex_of h0 h5] at h1
      exact Option.some.inj h1
    exact item_listR pl.isList h0 (by omega) (by rw [hj]; simpa using ew) fin hs
  · have hj : (i + (its.toArray.size : Int)).toNat = j := by
      rw [seqIndex_neg (by omega) h4] at h1
      rw [List.size_toArray, ← hl]
      exact Option.some.inj h1
    exact subscriptTail_builtinR (x := w) pl.isList.typeIs slot_list_getitem.lookup
      (wpAny_getItem_list_neg (Q := fun r s' => r = w ∧ EP X pins σ Q r s') pl.isList (by omega) (by rw [List.size_toArray] <;> omega) (by omega) (by rw [hj]; simpa using ew) ⟨rfl, fin⟩) hs
theorem ix_tup : IxR X (rIxT X.K) := by
  intro value slice pins s σ H x y v u Q I rx ry h hs
  obtain ⟨p, xs, i, z, rfl, rfl, hq, he, q⟩ := h
  cases rx
  obtain ⟨t, rfl⟩ := ry
  obtain ⟨its, r, pl, hz⟩ := I.tuple hq
  obtain ⟨j, h1, h2, h3, h4, h5⟩ := atI_get he
  obtain ⟨w, ew, rw'⟩ := r.get h2
  have hl := r.length
  have hn := line63
  have fin : EP X pins σ Q w s := ⟨z, H, I, rw', q⟩
  exact subscriptTail_builtinR (x := w) pl.typeIs slot_tuple_getitem.lookup
    (getItem_tuple (j := j) (Q := fun r s' => r = w ∧ EP X pins σ Q r s') pl (by omega) (by omega) (by rw [List.size_toArray, ← hl]; exact h1) (by simpa using ew) ⟨rfl, fin⟩) hs
theorem ix_str : IxR X rIxS := by
  intro value slice pins s σ H x y v u Q I rx ry h hs
  obtain ⟨z, i, c, rfl, rfl, hz, he, q⟩ := h
  obtain ⟨t, rfl⟩ := rx
  obtain ⟨t', rfl⟩ := ry
  obtain ⟨j, h1, h2, h3, h4, h5⟩ := atI_get he
  have hl : z.cps.toList.length = z.length := by simp [Str.length]
  rw [hl] at h1 h4 h5
  have hn := line63
  exact tail_any (typeIs_str s z t) slot_str_getitem.lookup (getItem_str (c := c) (by
    have e1 : decide (i < -(2 ^ 63 : Int)) = false := decide_eq_false (by omega)
    have e2 : decide (i ≥ 2 ^ 63) = false := decide_eq_false (by omega)
    rw [e1, e2, Bool.or_false]) (by rw [h1]; simpa using h2) ⟨.str ⟨#[c]⟩, H, I.tok _, ⟨_, rfl⟩, q⟩) hs
/-! ### xs[i] = v, any sign -/
/-! ### slices -/
theorem slice_bounds (lo hi : Option Int) (n : Nat) : (sliceBounds lo hi none n).1 = ((HT.sIx n 0 lo : Nat) : Int) ∧ (sliceBounds lo hi none n).2.1 = ((HT.sIx n n hi : Nat) : Int) ∧ (sliceBounds lo hi none n).2.2 = 1 := by
  refine ⟨?_, ?_, rfl⟩
  · cases lo with
    | none => simp [sliceBounds, HT.sIx]
    | some i =>
      simp only [sliceBounds, HT.sIx, Option.getD_none, show (1 : Int) > 0 by decide, if_true]
      by_cases h : i < 0
      · simp only [h, if_true] <;> omega
      · simp only [h, if_false] <;> omega
  · cases hi with
    | none => simp [sliceBounds, HT.sIx]
    | some i =>
      simp only [sliceBounds, HT.sIx, Option.getD_none, show (1 : Int) > 0 by decide, if_true]
      by_cases h : i < 0
      · simp only [h, if_true] <;> omega
      · simp only [h, if_false] <;> omega
theorem slicePick_cut (its : List Value) (lo hi : Option Int) : slicePick its.toArray lo hi none = ((its.drop (HT.sIx its.length 0 lo)).take (HT.sIx its.length its.length hi - HT.sIx its.length 0 lo)).toArray := by
  obtain ⟨h1, h2, h3⟩ := slice_bounds lo hi its.toArray.size
  unfold slicePick
  rw [h1, h2, h3]
  simp only [sliceRange_one, pick_run, List.size_toArray] <;> rfl
/-- xs[lo:hi] of a list: a new list -/
def rSlL (K : PySem.W.Frag) : V → Option Int → Option Int → Hp → VK → Prop := fun x lo hi H Q => ∃ a xs, x = .ref a ∧ SqL K H a xs ∧ ∀ p, H p = none → Q (.ref p) (upd H p (.lst (cutV xs lo hi)))
theorem sl_list : SlR X (rSlL X.K) := by
  intro pins s σ H x v vl vu lo hi sl Q I rx hs pl pu h
  obtain ⟨a, xs, rfl, hx, q⟩ := h
  cases rx
  obtain ⟨its, r, ht, hz⟩ := I.list hx
  have hlen := r.length
  refine ⟨"list", _, slot_list_getitem.lookup, ht.isList.typeIs, ?_⟩
  refine wpAny_getItem_list_slice ht.isList hs pl pu .none (by simp) ?_ (by rw [List.size_toArray] <;> omega)
  rw [slicePick_cut, ← hlen]
  refine ⟨.ref s.heap.objs.size, _, I.laid (t' := s.toks) (o := .lst (cutV xs lo hi)) (fun b ob q => Heap.get?_push_of_some _ q) (Nat.le_refl _) ?_, rfl, q _ (I.hok.fresh (Nat.le_refl _))⟩
  exact ⟨Nat.le_trans (cutV_length xs lo hi) hz, _, 0, (r.drop (HT.sIx xs.length 0 lo)).take (HT.sIx xs.length xs.length hi - HT.sIx xs.length 0 lo), Heap.get?_push_size _ rfl⟩

/-! ### in, not in: flat items -/
def flatV : V → Bool
  | .non => true
  | .bl _ => true
  | .int _ => true
  | .str _ => true
  | _ => false
/-- == of flat values -/
def eqV : V → V → Bool
  | .non, .non => true
  | .bl a, .bl b => a == b
  | .bl a, .int b => (if a then 1 else 0) == b
  | .int a, .bl b => a == (if b then 1 else 0)
  | .int a, .int b => a == b
  | .str a, .str b => a == b
  | _, _ => false
theorem eqAt_V {A : Around} {s : Shared} {y x : V} {u v : Value} (ry : RelV y u) (rx : RelV x v) (fy : flatV y = true) (fx : flatV x = true) : SeqAt.EqAt A s u v (eqV y x) := by
  cases y with
  | non =>
    cases ry
    cases x with
    | non => cases rx; exact SeqAt.EqAt.same _
    | bl b => cases rx; exact SeqAt.EqAt.none_bool b
    | int b => obtain ⟨t, rfl⟩ := rx; exact SeqAt.EqAt.none_int b t
    | str b => obtain ⟨t, rfl⟩ := rx; exact SeqAt.EqAt.none_str b t
    | _ => exact absurd (show false = true from fx) Bool.false_ne_true
  | bl a =>
    cases ry
    cases x with
    | non => cases rx; exact SeqAt.EqAt.bool_none a
    | bl b => cases rx; exact SeqAt.EqAt.bool_bool a b
    | int b => obtain ⟨t, rfl⟩ := rx; exact SeqAt.EqAt.bool_int a b t
    | str b => obtain ⟨t, rfl⟩ := rx; exact SeqAt.EqAt.bool_str a b t
    | _ => exact absurd (show false = true from fx) Bool.false_ne_true
  | int a =>
    obtain ⟨t', rfl⟩ := ry
    cases x with
    | non => cases rx; exact SeqAt.EqAt.int_none a t'
    | bl b => cases rx; exact SeqAt.EqAt.int_bool a t' b
    | int b => obtain ⟨t, rfl⟩ := rx; exact SeqAt.EqAt.int_int a t' b t
    | str b => obtain ⟨t, rfl⟩ := rx; exact SeqAt.EqAt.int_str a t' b t
    | _ => exact absurd (show false = true from fx) Bool.false_ne_true
  | str a =>
    obtain ⟨t', rfl⟩ := ry
    cases x with
    | non => cases rx; exact SeqAt.EqAt.str_none a t'
    | bl b => cases rx; exact SeqAt.EqAt.str_bool a t' b
    | int b => obtain ⟨t, rfl⟩ := rx; exact SeqAt.EqAt.str_int a t' b t
    | str b => obtain ⟨t, rfl⟩ := rx; exact SeqAt.EqAt.str_str a t' b t
    | _ => exact absurd (show false = true from fx) Bool.false_ne_true
  | _ => exact absurd (show false = true from fy) Bool.false_ne_true
/-- the items' answers, read off the values (a value's own answer does not lean on its token) -/
def eqU (x : V) (u : Value) : Bool := match u with
  | .none => eqV .non x
  | .bool b => eqV (.bl b) x
  | .int i _ => eqV (.int i) x
  | .str z _ => eqV (.str z) x
  | _ => false
theorem eqU_of {x y : V} {u : Value} (r : RelV y u) (f : flatV y = true) : eqU x u = eqV y x := by
  cases y with
  | non => cases r; rfl
  | bl b => cases r; rfl
  | int i => obtain ⟨t, rfl⟩ := r; rfl
  | str z => obtain ⟨t, rfl⟩ := r; rfl
  | _ => exact absurd (show false = true from f) Bool.false_ne_true
theorem mem_eqAt {A : Around} {s : Shared} {x : V} {v : Value} (rx : RelV x v) (fx : flatV x = true) : ∀ {xs : List V} {us : List Value}, Vals xs us → xs.all flatV = true → ∀ u ∈ us, SeqAt.EqAt A s u v (eqU x u)
  | _, _, .nil, _ => fun u hu => by cases hu
  | y :: xs, u :: us, .cons r t, f => fun u' hu => by
    rw [List.all_cons, Bool.and_eq_true] at f
    rcases List.mem_cons.mp hu with rfl | hu
    · rw [eqU_of r f.1]; exact eqAt_V r rx f.1 fx
    · exact mem_eqAt rx fx t f.2 u' hu
theorem op_notIn_str : OpR X (compareOp .NotIn) (fun x y H Q => ∃ i j, x = .str i ∧ y = .str j ∧ Q (.bl (!(!(Builtin.Str.occurrences j i 0 j.length 1).isEmpty))) H) := by
  intro pins s σ H x y v u Q I rx ry h
  obtain ⟨i, j, rfl, rfl, q⟩ := h
  obtain ⟨t, rfl⟩ := rx
  obtain ⟨t', rfl⟩ := ry
  exact notIn_str ⟨.bl _, H, I, rfl, q⟩

/-! ### len, list(x), tuple(x) of any list or tuple that is read -/
theorem call_len_seq : CallR X (.builtin "len") (fun xs H Q => ∃ p ys, xs = [.ref p] ∧ (SqL X.K H p ys ∨ SqT X.K H p ys) ∧ Q (.int ys.length) H) := by
  intro pins s σ H xs us Q I r h
  obtain ⟨p, ys, rfl, hq, q⟩ := h
  obtain ⟨u, rfl, rx⟩ := vals1 r
  cases rx
  have hn := line63
  rcases hq with hq | hq
  · obtain ⟨its, r', pl, hz⟩ := I.list hq
    have hlen := r'.length
    exact Calls.call_len_list pl.isList (by simp only [List.size_toArray] <;> omega) ⟨.int ys.length, H, I.tok _, ⟨s.toks + 1, by rw [List.size_toArray, hlen]⟩, q⟩
  · obtain ⟨its, r', pl, hz⟩ := I.tuple hq
    have hlen := r'.length
    exact len_tuple pl (by simp only [List.size_toArray] <;> omega) ⟨.int ys.length, H, I.tok _, ⟨s.toks + 1, by rw [List.size_toArray, hlen]⟩, q⟩
theorem call_len_str : CallR X (.builtin "len") (fun xs H Q => ∃ z, xs = [.str z] ∧ z.length ≤ sizeLine ∧ Q (.int z.length) H) := by
  intro pins s σ H xs us Q I r h
  obtain ⟨z, rfl, hz, q⟩ := h
  obtain ⟨u, rfl, t, rfl⟩ := vals1 r
  have hn := line63
  exact len_str (by omega) ⟨.int z.length, H, I.tok _, ⟨_, rfl⟩, q⟩
/-! ### the call of a builtin's method: o.m(..) -/
/-- the value is of that builtin type -/
def tyV (K : PySem.W.Frag) (T : String) (x : V) (H : Hp) : Prop := match x with
  | .str _ => T = "str"
  | .int _ => T = "int"
  | .ref p => (T = "list" ∧ ∃ xs, SqL K H p xs) ∨ (T = "tuple" ∧ ∃ o, K.lookup p = some o ∧ o.cls = .type "tuple" ∧ o.dict = none) ∨
      (T = "dict" ∧ ((∃ kvs, H p = some (.dK kvs)) ∨ ∃ kvs, H p = some (.dT kvs))) ∨ (T = "set" ∧ ∃ S n, H p = some (.set S n))
  | _ => False
theorem tyV_is {pins : List (Addr × Obj)} {σ : St} {H : Hp} {s : Shared} {T : String} {x : V} {v : Value} (I : Inv X pins σ H s) (r : RelV x v) (ty : tyV X.K T x H) :
    s.TypeIs v T ∧ ∀ a, v = .ref a → ∃ ob, s.heap.get? a = some ob ∧ ob.dict = none := by
  cases x with
  | str z =>
    obtain ⟨t, rfl⟩ := r
    cases (show T = "str" from ty)
    exact ⟨typeIs_str s z t, fun _ e => nomatch e⟩
  | int i =>
    obtain ⟨t, rfl⟩ := r
    cases (show T = "int" from ty)
    exact ⟨typeIs_int s i t, fun _ e => nomatch e⟩
  | ref p =>
    cases r
    rcases ty with ⟨rfl, xs, hq⟩ | ⟨rfl, o, hk, hc, hd⟩ | ⟨rfl, hk⟩ | ⟨rfl, S, n, hk⟩
    · obtain ⟨its, _, pl, _⟩ := I.list hq
      refine ⟨pl.isList.typeIs, fun a e => ?_⟩
      cases e
      obtain ⟨o, n, e, c, hd, _⟩ := pl
      exact ⟨o, e, hd⟩
    · refine ⟨⟨o, I.kIn p o hk, hc⟩, fun a e => ?_⟩
      cases e
      exact ⟨o, I.kIn _ o hk, hd⟩
    · have z : ∃ o, s.heap.get? p = some o ∧ o.ExactDict := by
        rcases hk with ⟨kvs, hk⟩ | ⟨kvs, hk⟩
        · obtain ⟨_, _, _, _, o, _, _, e, ex, _⟩ := I.hok p _ hk
          exact ⟨o, e, ex⟩
        · exact (show False from I.hok p _ hk).elim
      obtain ⟨o, e, ex⟩ := z
      refine ⟨⟨o, e, ex.1⟩, fun a e2 => ?_⟩
      cases e2
      exact ⟨o, e, ex.2.1⟩
    · obtain ⟨o, _, _, _, e, ex, _⟩ := I.hok p _ hk
      refine ⟨⟨o, e, ex.1⟩, fun a e2 => ?_⟩
      cases e2
      exact ⟨o, e, ex.2.1⟩
  | _ => exact False.elim ty
def tBM0 (K : PySem.W.Frag) (T : String) (r : V → List V → Hp → VK → Prop) (to : TE) : TE := fun σ H Q => to σ H fun x H1 => tyV K T x H1 ∧ r x [] H1 Q
def tBM (K : PySem.W.Frag) (T : String) (r : V → List V → Hp → VK → Prop) (to : TE) (t : TA) : TE := fun σ H Q => to σ H fun x H1 => tyV K T x H1 ∧ t σ H1 fun xs H2 => r x xs H2 Q
variable {o e : Expr} {es : List Expr} {to : TE} {t : TA} {name : Str} {apos cpos : Pos} {T id : String} {r : V → List V → Hp → VK → Prop}
theorem pe_bm0 (pa : PlainAttrs T) (slot : Slot T name id) (hty : typeOf (.builtin id) = pure (.type "method_descriptor")) (hm : MtR X id r) (ho : PE X o to)
    (hbase : attributeBase o name X.env (eval o X.env) = eval o X.env := by rfl) (hline : (apos.endLine == cpos.line) = true := by rfl) : PE X (.Call (.Attribute o name apos) [] [] cpos) (tBM0 X.K T r to) := by
  intro pins s σ H Q I h
  refine wpAny_Call_method0_late hbase hline (thn (ho pins s σ H _ I h) fun v s1 ⟨x, H1, I1, r1, ty, q1⟩ => ?_)
  obtain ⟨h1, h2⟩ := tyV_is I1 r1 ty
  exact ⟨T, id, pa, slot, hty, h1, h2, Calls.callWith_builtin rfl (PySem.evalArgs_none (hm pins s1 σ H1 x [] v [] Q I1 r1 .nil q1))⟩
theorem pe_bm (pa : PlainAttrs T) (slot : Slot T name id) (hty : typeOf (.builtin id) = pure (.type "method_descriptor")) (hm : MtR X id r) (ho : PE X o to) (ha : PA X (e :: es) t)
    (hbase : attributeBase o name X.env (eval o X.env) = eval o X.env := by rfl)
    (hfew : ((backTo cpos (starEach (e :: es) X.env)).all (fun x => !x.1) && (backToKw cpos (keywordEach [] X.env)).all (fun x => x.1.isSome)
      && decide ((e :: es).length + ([] : List Keyword).length + (if ([] : List Keyword).isEmpty then 0 else 1) < 30)) = true := by rfl)
    (hline : (apos.endLine == cpos.line) = true := by rfl) (hs : starEach (e :: es) X.env = (false, eval e X.env) :: starEach es X.env := by rfl) (hplain : (backTo cpos (starEach es X.env)).any (·.1) = false := by rfl) :
    PE X (.Call (.Attribute o name apos) (e :: es) [] cpos) (tBM X.K T r to t) := by
  intro pins s σ H Q I h
  refine wpAny_Call_method_late hbase hfew hline rfl (thn (ho pins s σ H _ I h) fun v s1 ⟨x, H1, I1, r1, ty, q1⟩ => ?_)
  obtain ⟨h1, h2⟩ := tyV_is I1 r1 ty
  refine ⟨T, id, pa, slot, hty, h1, h2, ?_⟩
  have hA := ha cpos pins s1 σ H1 _ I1 q1
  rw [hs] at hA ⊢
  refine Calls.callWith_builtin (by show (false || (backTo cpos (starEach es X.env)).any (·.1)) = false; rw [hplain] <;> rfl) (Calls.evalArgs_plain ?_)
  exact thn hA fun us s2 ⟨vs, H2, I2, r2, q2⟩ => hm pins s2 σ H2 x vs v us Q I2 r1 r2 q2
end
end L2

namespace L2
open PySem PySem.Spec PyProof.Rows

def MtM (X : Cx) (id : String) (r : V → List V → Hp → VK → Prop) : Prop :=
  ∀ (pins : List (Addr × Obj)) (s : Shared) (σ : St) (H : Hp) (x : V) (xs : List V) (v : Value) (us : List Value) (Q : VK), Inv X pins σ H s → RelV x v → Vals xs us → r x xs H Q →
    wpAny (model X.prog X.w) X.A (call (.builtin id) (v :: us)) (EP X pins σ Q) X.xe s

/-! ### lists of values -/
theorem Vals.one : ∀ {x : V} {us : List Value}, Vals [x] us → ∃ u, us = [u] ∧ RelV x u
  | _, _, .cons r .nil => ⟨_, rfl, r⟩
theorem Vals.zero : ∀ {us : List Value}, Vals [] us → us = []
  | _, .nil => rfl
section
variable {X : Cx} {pins : List (Addr × Obj)} {σ : St} {H : Hp} {s : Shared} {l b : Addr} {xs ys zs : List V}

/-! ### the two steps: a tracked list is rewritten, a new list is laid -/
theorem Inv.lset {its its' : List Value} {n : Nat} {f : Array Value → Array Value} {t' : Nat} (I : Inv X pins σ H s) (hH : H l = some (.lst xs))
    (e : s.heap.get? l = some { cls := .type "list", data := .seq its.toArray n }) (hf : f its.toArray = its'.toArray) (hv : Vals ys its') (hz : ys.length ≤ sizeLine) :
    Inv X pins σ (upd H l (.lst ys)) { s with heap := s.heap.update l (Obj.mapSeq f), toks := t' } := by
  have q := PySem.IsL.update e f
  rw [hf] at q
  refine I.write (x := l) (e := l) (by rw [hH]; exact trivial) (.inl rfl) (fun b' u hb hu => (Heap.get?_update_other s.heap (Obj.mapSeq f) (Ne.symm hb)).trans hu) ⟨_, q⟩ ?_
  exact ⟨hz, its', _, hv, q⟩
theorem Inv.lnew {its : List Value} {t' : Nat} (I : Inv X pins σ H s) (hv : Vals ys its) (hz : ys.length ≤ sizeLine) :
    Inv X pins σ (upd H s.heap.objs.size (.lst ys)) { s with heap := s.heap.push { cls := .type "list", data := .seq its.toArray }, toks := t' } :=
  I.laid (fun _ _ q => Heap.get?_push_of_some _ q) (Nat.le_refl _) ⟨hz, its, 0, hv, Heap.get?_push_size _ rfl⟩
theorem Inv.fresh (I : Inv X pins σ H s) : H s.heap.objs.size = none := I.hok.fresh (Nat.le_refl _)
theorem Inv.lstM (I : Inv X pins σ H s) (hH : H l = some (.lst xs)) : xs.length ≤ sizeLine ∧ ∃ (its : List Value) (n : Nat), Vals xs its ∧ xs.length = its.length ∧ s.heap.get? l = some { cls := .type "list", data := .seq its.toArray n } := by
  obtain ⟨z, its, n, r, e⟩ := I.hok l _ hH
  exact ⟨z, its, n, r, r.length, e⟩

end

section
variable {X : Cx}

/-! ### methods -/
def rAppend : V → List V → Hp → VK → Prop := fun x vs H Q => ∃ l xs y, x = .ref l ∧ vs = [y] ∧ H l = some (.lst xs) ∧ xs.length < sizeLine ∧ Q .non (upd H l (.lst (xs ++ [y])))
theorem mt_append : MtM X "list.append" rAppend := by
  intro pins s σ H x vs v us Q I rx rv h
  obtain ⟨l, xs, y, rfl, rfl, hH, hz, q⟩ := h
  cases rx
  obtain ⟨u, rfl, ru⟩ := rv.one
  obtain ⟨z, its, n, r, hl, e⟩ := I.lstM hH
  refine call_meets F.slot_list_append ⟨_, e, rfl⟩ F.entry_list_append (F.args_list_append_2 _ _) (PySem.list_append l its.toArray n u (by rw [List.size_toArray]; omega)) ⟨e, ?_⟩
  refine ⟨.non, _, I.lset (its' := its ++ [u]) hH e (by simp) (r.append (.cons ru .nil)) ?_, rfl, q⟩
  rw [List.length_append, List.length_singleton]
  omega

/-! ### list + list, list += list, list * int -/
def rCat : R2 := fun x y H Q => ∃ l b xs zs, x = .ref l ∧ y = .ref b ∧ H l = some (.lst xs) ∧ H b = some (.lst zs) ∧ xs.length + zs.length ≤ sizeLine ∧ ∀ p, H p = none → Q (.ref p) (upd H p (.lst (xs ++ zs)))
theorem op_cat : OpR X (binaryOp .Add) rCat := by
  intro pins s σ H x y v u Q I rx ry h
  obtain ⟨l, b, xs, zs, rfl, rfl, hH, hB, hz, q⟩ := h
  cases rx
  cases ry
  obtain ⟨z, its, n, r, hl, e⟩ := I.lstM hH
  obtain ⟨z2, its2, n2, r2, hl2, e2⟩ := I.lstM hB
  refine PySem.P.add_list e e2 ?_ (by rw [List.size_toArray, List.size_toArray]; omega)
  have ea : its.toArray ++ its2.toArray = (its ++ its2).toArray := by simp
  rw [ea]
  exact ⟨.ref _, _, I.lnew (t' := s.toks) (r.append r2) (by rw [List.length_append]; omega), rfl, q _ I.fresh⟩
/-! ### del xs[i] -/
end

/-! ### xs[a:b] = ys -/
section
variable {prog : Program} {w : World} {A : Around} {E : Value → Shared → Prop} {s : Shared}
end

section
variable {X : Cx}
end
end L2

namespace Att
open PySem PySem.W PySem.Calls PyProof.Rows

/-! ### the script -/
theorem ints_of_wellAll {P : Params} {h : Heap} : ∀ (ns : List Int) (vs : List Value), WellAll P h vs (ns.map WData.int) → IntsAre vs ns := by
  intro ns
  induction ns with
  | nil =>
    intro vs w
    rw [List.map_nil] at w
    cases w
    exact .nil
  | cons n ns ih =>
    intro vs w
    rw [List.map_cons] at w
    cases w with
    | cons a b =>
      cases a
      exact .cons _ _ (ih _ b)

theorem script_of {l : OpenLaw} {n : Nat} (hn : l.most = some n) {P : Params} {h : Heap} {args : List WData} {vals : List Value}
    (hpre : l.row.toRowW.claim.pre args = true) (hwl : WellAll P h vals args) :
    ∃ a vs ns, vals = [Value.ref a] ∧ args = [WData.list (ns.map WData.int)] ∧ h.get? a = some { cls := .type "list", data := .seq vs.toArray } ∧ IntsAre vs ns ∧ ns.length ≤ n := by
  have hsh : WShape.hasAll [] args [.list .int] = true := (pre_splitW hpre).1
  have hc : l.pre.holds [] { args := args } = true := (pre_splitW hpre).2
  obtain ⟨d, r, rfl, h1, h2⟩ := hasAllW_cons hsh
  obtain rfl := hasAllW_nil h2
  obtain ⟨xs, rfl, h3⟩ := hasW_list h1
  obtain ⟨ns, rfl⟩ := items_int h3
  have hlen : ns.length ≤ n := by
    unfold OpenLaw.pre at hc
    have h4 : (WTm.not (.lt (.lit (.int (n : Int))) (.len (.arg 0)))).holds [] { args := [.list (ns.map .int)] } = true := by
      have h4 := (holds_andW hc).1
      rw [hn] at h4
      exact h4
    have h5 := condW_of h4 (w_not (w_lt w_lit (w_len_list (w_arg rfl))))
    rw [List.length_map] at h5
    refine Nat.le_of_not_lt fun q => ?_
    have q' : (n : Int) < ((ns.length : Nat) : Int) := by omega
    first
      | (rw [decide_eq_true q'] at h5; exact absurd h5 (by decide))
      | (simp at h5; omega)
  cases hwl with
  | cons w1 w2 =>
    cases w2
    cases w1 with
    | list ho hall => exact ⟨_, _, ns, rfl, rfl, ho, ints_of_wellAll ns _ hall, hlen⟩

theorem post_true (l : OpenLaw) (args : List WData) : l.row.toRowW.claim.post args (.bool true) args = true :=
  postW_of (r := l.row.toRowW) (X := (true == true))
    (show WShape.has [] (.bool true) .bool = true by first | rfl | decide | simp [WShape.has, WShape.arms, WShape.armsAll])
    (show (WTm.eq .res (.lit (.bool true))).value [] { args := args, res := some (.bool true), after := args } = some (.bool (true == true)) from w_eq_bool (w_res rfl) w_lit) rfl

/-! ### the attachment: holds_open's last premise (the goal 'hc' behind k_head) from a wpAny of the law's body -/
/-- the same from a codeAny of the CALL (for a layer whose function contracts speak of calls) -/
theorem attach_call {l : OpenLaw} {n : Nat} {q : Program} {loose : List Str} {XP : (Str → Option Value) → Heap → Prop} {YP : World → Heap → Prop} {d : DefRec}
    (hn : l.most = some n) (hdf : d.params.defaults = [])
    (call : ∀ (w : World) (s₀ s₁ : Shared) (mg mb : Str → Option Value) (fa : Addr) (o : Obj) (pm cd doc : Value) (a : Addr) (vs : List Value) (ns : List Int),
      Ground q loose [] XP w s₀ mg mb s₁.heap → YP w s₁.heap →
      s₁.heap.get? fa = some o → o.data = .func (docDef d.name d.params d.body d.scope pm cd doc) → s₁.heap.CodeRec cd d.name → mg d.name = some (.ref fa) →
      s₁.heap.get? a = some { cls := .type "list", data := .seq vs.toArray } → IntsAre vs ns → ns.length ≤ n → s₁.gens = #[] →
      codeAny (model l.prog w) callerA (.call (.ref fa) ⟨[.ref a], []⟩) (fun r s' => r = .ok (.ret (.bool true)) ∧ OldK s₁.heap s'.heap ∧ s'.os = s₁.os ∧ AllBare s'.gens) s₁) :
    WalkO q loose XP YP l.row.toRowW d [] (fun f vs => PySem.call f vs) := by
  intro w s₀ s₁ mg mb G Y fa o pm cd doc dV kV ho hd hcd hD hmg hg args vals as hpre hlay hrd hwl hlo
  obtain rfl : dV = .none := Dflts.none hD hdf
  obtain rfl : kV = .none := Dflts.noKw hD
  obtain ⟨a, vs, ns, rfl, rfl, hobj, hints, hlen⟩ := script_of hn hpre hwl
  refine enter_call (codeAny_mono (call w s₀ s₁ mg mb fa o pm cd doc a vs ns G Y ho (fd_plain hd) hcd hmg hobj hints hlen hg) fun r s' hq => ?_)
  obtain ⟨rfl, h2, h3, h4⟩ := hq
  exact ⟨.inl ⟨.bool true, .bool true, [], rfl, fun _ => rfl, .bool true, post_true l _, fun _ => ⟨List.Pairwise.nil, fun _ hm => (nomatch hm)⟩⟩, h2, h3, h4⟩

/-! ### rules over ANY heap (no ledger) from facts about the written part K: the library's own take a ledger (News) for what they write -/
section
variable {prog : Program} {w : World} {A : Around} {E : Value → Shared → Prop} {s : Shared} {K : Frag}

/-! the whole heap as the ledger: makes every rule that writes through a ledger a rule over any heap -/
def ledger (h : Heap) (L d : Addr) : List (Addr × Obj) := (List.range h.objs.size).filterMap fun a => if a = L ∨ a = d then none else (h.get? a).map fun o => (a, o)
end
end Att

namespace L2
open PySem PySem.Spec PyProof.Rows

theorem vals_ints : ∀ {vs : List Value} {ns : List Int}, IntsAre vs ns → Vals (ns.map V.int) vs
  | _, _, .nil => .nil
  | _, _, .cons n t h => .cons ⟨t, rfl⟩ (vals_ints h)

/-- nothing is tracked but the script, known to the object (or it is an object of the module) -/
def Only (H : Hp) : Prop := ∀ b, H b = none ∨ ∃ o xs, H b = some (.frz o (.lst xs))

/-- THE HEAD: the law's promise, at the heap behind the top. F, the promise of the law's def, may use that base is part of the heap (so K.In base, base.Ns mainGlobals mg stand in Mod) -/
theorem law_call {P : Program} {w : World} {K : PySem.W.Frag} {mg mb : Str → Option Value} {CX : CXT} {k : Nat} {fa a : Addr} {fd : FuncData} {x : Str} {sp : Sp} {s₁ : Shared} {vs : List Value} {ns : List Int}
    (KX : K.In s₁.heap) (hns : s₁.heap.Ns mainGlobals mg) (hb : s₁.heap.Ns builtinsNs mb) (hbb : ∀ x : Str, x ≠ "__name__" → mb x = bootBuiltins x) (hlim : s₁.heap.NoLimit) (hg : s₁.gens = #[])
    (ha : s₁.heap.get? a = some { cls := .type "list", data := .seq vs.toArray }) (hi : IntsAre vs ns) (hl : ns.length ≤ sizeLine) (hr : Room k callerA)
    (F : ∀ base : Heap, K.In base → base.Ns mainGlobals mg → FnOk P w K mg base CX k fa fd [x] sp) (hbind : ∀ (s : Shared) (u : Value), BindsTo s fd ⟨[u], []⟩ [(x, u)])
    (hsp : ∀ H : Hp, Only H → SqL K H a (ns.map V.int) → sp [.ref a] H (fun v _ => v = .bl true) fun _ _ _ => False)
    (hCX : ∀ H e s', CX [] H s₁ (fun _ _ _ => False) e s' → False) :
    codeAny (model P w) callerA (.call (.ref fa) ⟨[.ref a], []⟩) (fun r s' => r = .ok (.ret (.bool true)) ∧ OldK s₁.heap s'.heap ∧ s'.os = s₁.os ∧ AllBare s'.gens) s₁ := by
  have rv := vals_ints hi
  have lenV := hi.length
  -- from an abstract heap in which nothing but the script may be tracked
  have core : ∀ H : Hp, Only H → SqL K H a (ns.map V.int) → HOk P w H s₁.heap → (∀ b, H b ≠ none → b = a) → (H a ≠ none → K.lookup a = none) →
      codeAny (model P w) callerA (.call (.ref fa) ⟨[.ref a], []⟩) (fun r s' => r = .ok (.ret (.bool true)) ∧ OldK s₁.heap s'.heap ∧ s'.os = s₁.os ∧ AllBare s'.gens) s₁ := by
    intro H hO hS hok hA hK
    have base_of : ∀ {b : Addr} {o : Obj}, s₁.heap.get? b = some o → H b = none → (hidT s₁.heap H).get? b = some o := fun e n => hidT_get e n
    have noA : ∀ {b : Addr} {o : Obj} {es : Array DictEntry} {ep : Nat}, s₁.heap.get? b = some o → o.data = .dict es ep → H b = none := fun {b o es ep} e d => by
      cases q : H b with
      | none => rfl
      | some u =>
        have e' : b = a := hA b (by rw [q]; simp)
        subst e'
        rw [ha] at e; cases e
        have d' : Data.seq vs.toArray _ = Data.dict es ep := d
        cases d'
    have nsK : ∀ {b : Addr} {m : Str → Option Value}, s₁.heap.Ns b m → (hidT s₁.heap H).Ns b m := fun {b m} ⟨o, es, ep, e, d, r⟩ => ⟨o, es, ep, base_of e (noA e d), d, r⟩
    have hKb : K.In (hidT s₁.heap H) := fun b o e => base_of (KX b o e) (by
      cases q : H b with
      | none => rfl
      | some u =>
        have e' : b = a := hA b (by rw [q]; simp)
        subst e'
        rw [hK (by rw [q]; simp)] at e; cases e)
    have hM : Mod K mg (hidT s₁.heap H) := ⟨hKb, nsK hns, ⟨mb, nsK hb, hbb⟩, let ⟨mc, h1, h2⟩ := hlim; ⟨mc, nsK h1, h2⟩⟩
    have e0 : Env0 P w K mg (hidT s₁.heap H) callerA [] s₁ H := ⟨rfl, hM, fun b o e => of_hidT e, Nat.le_of_eq (hidT_size _ _), trivial, fun b hb => absurd (show b ∈ ([] : List Addr) from hb) (by simp), hok, .of_eq hg⟩
    refine codeAny_mono ((F _ hKb (nsK hns)).run callerA [] s₁ H ⟨[.ref a], []⟩ [.ref a] [.ref a] _ _ hr e0 (hbind s₁ (.ref a)) (.cons rfl .nil) (hsp H hO hS)) fun r s' h => ?_
    cases r with
    | error e => exact (hCX H e s' h).elim
    | ok fl =>
      cases fl with
      | next => exact False.elim h
      | brk => exact False.elim h
      | cont => exact False.elim h
      | ret u =>
        obtain ⟨v, H', os, bare, un, hok', r', q⟩ := h
        have q' : v = .bl true := q
        subst q'
        obtain rfl : u = Value.bool true := r'
        refine ⟨rfl, OldK.of_keep fun b o e => ?_, os, bare⟩
        cases q : H b with
        | none => exact un.keep b o e q (by intro z; exact absurd (show b ∈ ([] : List Addr) from z) (by simp)) (by simp)
        | some u =>
          rcases hO b with z | ⟨ob, xs, z⟩
          · rw [q] at z; cases z
          · have z2 := un.frzs b ob _ z
            obtain ⟨e1, _⟩ := hok b _ z
            obtain ⟨e2, _⟩ := hok' b _ z2
            rw [e] at e1; cases e1
            exact e2
  cases hk : K.lookup a with
  | some o =>
    -- the script is one of the module's own objects
    have e := KX a o hk
    rw [ha] at e
    cases e
    refine core (fun _ => none) (fun _ => .inl rfl) (.inr ⟨_, vs.toArray, _, hk, rfl, rfl, rfl, by rw [List.size_toArray, lenV]; exact hl, by simpa using rv⟩) (fun b u z => by have z' : (none : Option HO) = some u := z; cases z') (fun b z => absurd rfl z) fun z => absurd rfl z
  | none =>
    refine core (fun b => if b = a then some (.frz { cls := .type "list", data := .seq vs.toArray } (.lst (ns.map V.int))) else none) (fun b => ?_) (.inl (.inr ⟨{ cls := .type "list", data := .seq vs.toArray }, if_pos rfl⟩)) (fun b u z => ?_) (fun b z => ?_) fun _ => hk
    · by_cases hb : b = a
      · exact .inr ⟨_, _, if_pos hb⟩
      · exact .inl (if_neg hb)
    · by_cases hb : b = a
      · have z' := (if_pos hb).symm.trans z
        cases z'
        subst hb
        exact ⟨ha, by rw [List.length_map]; exact hl, vs, _, rv, ha⟩
      · have z' := (if_neg hb).symm.trans z
        cases z'
    · by_cases hb : b = a
      · exact hb
      · exact absurd (if_neg hb) z
end L2

namespace L2
open PySem PySem.Spec PyProof.Rows

/-- the goal that k_head leaves (case hc), from the law's promise. F gives the function object fd (K's own) once, then the promise over every base -/
theorem walk_of {l : PySem.W.OpenLaw} {n k : Nat} {q : Program} {loose : List Str} {XP : (Str → Option Value) → Heap → Prop} {YP : World → Heap → Prop} {d : DefRec} {K : Params → PySem.W.Frag} {CX : World → CXT} {sp : World → Sp} {x : Str}
    (hn : l.most = some n) (hn2 : n ≤ sizeLine) (hdf : d.params.defaults = []) (hr : Room k callerA)
    (hY : ∀ (w : World) (h : Heap), YP w h → (K w.params).In h)
    (F : ∀ (w : World) (mg : Str → Option Value) (fa : Addr) (h : Heap), (K w.params).In h → h.Ns mainGlobals mg → mg d.name = some (.ref fa) →
      ∃ fd : FuncData, (∀ (s : Shared) (u : Value), BindsTo s fd ⟨[u], []⟩ [(x, u)]) ∧
        ∀ base : Heap, (K w.params).In base → base.Ns mainGlobals mg → FnOk l.prog w (K w.params) mg base (CX w) k fa fd [x] (sp w))
    (hsp : ∀ (w : World) (H : Hp) (a : Addr) (ns : List Int), ns.length ≤ n → Only H → SqL (K w.params) H a (ns.map V.int) → sp w [.ref a] H (fun v _ => v = .bl true) fun _ _ _ => False)
    (hCX : ∀ (w : World) (H : Hp) (s : Shared) (e : Value) (s' : Shared), CX w [] H s (fun _ _ _ => False) e s' → False) :
    PySem.W.WalkO q loose XP YP l.row.toRowW d [] (fun f vs => PySem.call f vs) := by
  refine Att.attach_call hn hdf fun w s₀ s₁ mg mb fa o pm cd doc a vs ns G Y ho hd hcd hmg hobj hints hlen hg => ?_
  have KX := hY w _ Y
  obtain ⟨fd, hb, hF⟩ := F w mg fa _ KX G.T.g hmg
  exact law_call KX G.T.g G.T.b G.T.builtins G.T.nolimit hg hobj hints (Nat.le_trans hlen hn2) hr hF hb (fun H hO hS => hsp w H a ns hlen hO hS) fun H e s' => hCX w H s₁ e s'
end L2


/-! SHORT WORDS over the layer: a def of the text, its body, what a loop and a test want. -/
namespace L2
open PySem PySem.Spec PyProof.Rows

/-! ### the text by places -/
def defArgs (s : Stmt) : Arguments := match s with
  | .FunctionDef _ a _ _ _ _ _ _ _ _ => a
  | _ => { posonlyargs := [], args := [], vararg := none, kwonlyargs := [], kw_defaults := [], kwarg := none, defaults := [] }
def defBody (s : Stmt) : List Stmt := match s with
  | .FunctionDef _ _ b _ _ _ _ _ _ _ => b
  | _ => []
def defScope (s : Stmt) : Scope := match s with
  | .FunctionDef _ _ _ _ _ _ sc _ _ _ => sc
  | _ => { kind := .function, names := [], isGenerator := false, isCoroutine := false }

/-! ### no exception leaves a def -/
abbrev CX0 : CXT := fun _ _ _ _ _ _ => False
abbrev E0 : XK := fun _ _ _ => False
theorem pass0 {X : Cx} : Passes CX0 X E0 := fun _ _ _ _ _ _ _ h => h.elim

/-! ### a def (or method) of the text as it stands behind the top -/
structure Fun (K : PySem.W.Frag) (x qual : Str) (st : Stmt) (f : Addr) (fd : FuncData) : Prop where
  ex : ∃ (oc : Value) (od : Option Addr) (kV doc pm : Value) (an : Option Addr) (cdv ct : Value) (osl : Array (Option Value)),
    fd = PySem.W.fnOf x qual (defArgs st) (defBody st) (defScope st) .none kV doc pm an cdv ct ∧ K.lookup f = some ⟨oc, od, .func fd, osl⟩ ∧ PySem.W.codeIn K cdv qual = true
  kp : PySem.W.keepIn K (.ref f) = true
section
variable {P : Program} {w : World} {K : PySem.W.Frag} {mg : Str → Option Value} {base : Heap}
/-- THE RULE for a def: its body as a term of rules, and the reading of that term -/
theorem Fun.ok {x qual : Str} {st : Stmt} {f : Addr} {fd : FuncData} {N ps : List Str} {k : Nat} {sp : Sp} (F : Fun K x qual st f fd) (S : FnScope N ps (defScope st)) (len : ∀ vs H Q E, sp vs H Q E → vs.length = ps.length)
    (hbody : ∀ (cdv : Value) (A : Around) (outer : List Env) (s : Shared) (H : Hp) (vs : List V) (Q : VK) (E : XK), Room k (A.deeper (envOfC qual (defScope st) s.heap.objs.size f cdv)) → sp vs H Q E →
      ∃ t, PSs (cxOf CX0 P w K mg base N qual (defScope st) f cdv A outer s H E).nox (defBody st) t ∧ t { nx := fun _ H' => Q .non H', rt := Q } (start N vs) H) : FnOk P w K mg base CX0 (k + 1) f fd ps sp := by
  obtain ⟨oc, od, kV, doc, pm, an, cdv, ct, osl, rfl, lk, hcd⟩ := F.ex
  refine fn_of lk hcd S len fun A outer s H vs Q E hr hsp => ?_
  obtain ⟨t, h, q⟩ := hbody cdv A outer s H vs Q E hr hsp
  exact ⟨t, h.nox, q⟩
/-- how its arguments bind (no defaults): h is «fun _ _ _ _ _ _ us hl => match us, hl with | [_, _], _ => rfl», one _ a parameter -/
theorem Fun.binds {x qual : Str} {st : Stmt} {f : Addr} {fd : FuncData} {ps : List Str} (F : Fun K x qual st f fd)
    (h : ∀ (kV doc pm : Value) (an : Option Addr) (cdv ct : Value) (us : List Value), us.length = ps.length → bindArgs (PySem.W.fnOf x qual (defArgs st) (defBody st) (defScope st) .none kV doc pm an cdv ct) ⟨us, []⟩ = pure (ps.zip us)) : Binds K fd ps [] := by
  obtain ⟨oc, od, kV, doc, pm, an, cdv, ct, osl, rfl, lk, hcd⟩ := F.ex
  exact .all (h kV doc pm an cdv ct)
theorem fun_mk {x qual : Str} {st : Stmt} {f : Addr} {oc : Value} {od an : Option Addr} {osl : Array (Option Value)} {kV doc pm cdv ct : Value} (l : K.lookup f = some ⟨oc, od, .func (PySem.W.fnOf x qual (defArgs st) (defBody st) (defScope st) .none kV doc pm an cdv ct), osl⟩)
    (c : PySem.W.codeIn K cdv qual = true) (k : PySem.W.keepIn K (.ref f) = true) : Fun K x qual st f (PySem.W.fnOf x qual (defArgs st) (defBody st) (defScope st) .none kV doc pm an cdv ct) := ⟨⟨oc, od, kV, doc, pm, an, cdv, ct, osl, rfl, l, c⟩, k⟩
end
theorem small1000 {n : Nat} (h : n ≤ 1000) : n < sizeLine := Nat.lt_of_le_of_lt h (by decide)

/-! ### expressions in short: the name that stands in the i-th slot -/
section
variable {X : Cx}
theorem pv (i : Nat) {x : Str} {pos : Pos} (hN : X.N[i]? = some x := by rfl) (hv : Vis X.env.scope x := by first | exact Or.inl rfl | exact Or.inr (Or.inl rfl) | exact Or.inr (Or.inr rfl)) (hd : (x == ("__debug__" : Str)) = false := by decide)
    (hcd : (x == ("__classdict__" : Str)) = false := by decide) : PE X (.Name x pos) (tVar i) := pe_var hN hv hd hcd
end

/-! ### tests -/
theorem iteF {A B : Prop} (h : B) : if false = true then A else B := by
  rw [if_neg Bool.false_ne_true]
  exact h
theorem iteT {A B : Prop} (h : A) : if true = true then A else B := by
  rw [if_pos rfl]
  exact h
theorem ite2 {c A B : Prop} [Decidable c] (h1 : c → A) (h2 : ¬ c → B) : if c then A else B := by
  by_cases h : c
  · rw [if_pos h]
    exact h1 h
  · rw [if_neg h]
    exact h2 h
/-! ### heaps -/
/-- all that was tracked is as it was -/
def Same (H H' : Hp) : Prop := ∀ b o, H b = some o → H' b = some o
theorem Same.refl (H : Hp) : Same H H := fun _ _ h => h
theorem Same.trans {H H1 H2 : Hp} (a : Same H H1) (b : Same H1 H2) : Same H H2 := fun c o h => b c o (a c o h)
theorem Same.free {H H' : Hp} (e : Same H H') {l : Addr} (h : H' l = Option.none) : H l = Option.none := by
  cases q : H l with
  | none => rfl
  | some o =>
    rw [e l o q] at h
    cases h
theorem Same.seq {K : PySem.W.Frag} {H H' : Hp} {a : Addr} {xs : List V} (e : Same H H') (h : SqL K H a xs) : SqL K H' a xs := by
  rcases h with (h | ⟨o, h⟩) | h
  · exact .inl (.inl (e _ _ h))
  · exact .inl (.inr ⟨o, e _ _ h⟩)
  · exact .inr h

end L2

set_option Elab.async false
set_option linter.all false
set_option maxRecDepth 100000
namespace L2
open PySem PySem.Spec PyProof.Rows

/-! ### comprehensions -/
theorem clos_ok {env : Env} : ∀ (names : List (Str × NameKind)) (acc : List (Str × Addr)),
    (∀ y ∈ names, y.2 = .free → ∃ c, env.cells.lookup y.1 = some c) → (∀ n c, acc.lookup n = some c → env.cells.lookup n = some c) →
    ∃ cl, (forIn names acc (fun (x : Str × NameKind) (r : List (Str × Addr)) => if (x.2 == NameKind.free) = true then (do let a ← cellOf env x.1; pure (ForInStep.yield ((x.1, a) :: r))) else pure (ForInStep.yield r)) : Sem (List (Str × Addr))) = pure cl ∧
      (∀ n c, cl.lookup n = some c → env.cells.lookup n = some c) ∧ (∀ y ∈ names, y.2 = .free → ∃ c, cl.lookup y.1 = some c) ∧ ∀ n c, acc.lookup n = some c → ∃ c, cl.lookup n = some c
  | [], acc, _, h => ⟨acc, rfl, h, (fun y z => absurd z (by simp)), fun _ c z => ⟨c, z⟩⟩
  | (n, k) :: r, acc, hf, h => by
    by_cases hk : k = .free
    · obtain ⟨c, hc⟩ := hf (n, k) List.mem_cons_self hk
      obtain ⟨cl, e, a, b, d⟩ := clos_ok (env := env) r ((n, c) :: acc) (fun y hy => hf y (List.mem_cons_of_mem _ hy)) (fun m c' e => by
        by_cases hm : m = n
        · subst hm
          rw [List.lookup_cons, beq_self_eq_true] at e
          cases e
          exact hc
        · have : (m == n) = false := beq_eq_false_iff_ne.mpr hm
          rw [List.lookup_cons, this] at e
          exact h m c' e)
      have hcell : cellOf env n = pure c := by unfold cellOf; rw [hc]
      refine ⟨cl, ?_, a, fun y hy hk' => ?_, fun m c' e => ?_⟩
      · rw [List.forIn_cons]
        subst hk
        show (do let x ← (do let a ← cellOf env n; pure (ForInStep.yield ((n, a) :: acc))); _) = _
        rw [hcell]
        exact e
      · rcases List.mem_cons.mp hy with z | z
        · subst z
          exact d n c (by rw [List.lookup_cons, beq_self_eq_true])
        · exact b y z hk'
      · by_cases hm : m = n
        · subst hm
          exact d m c (by rw [List.lookup_cons, beq_self_eq_true])
        · have : (m == n) = false := beq_eq_false_iff_ne.mpr hm
          exact d m c' (by rw [List.lookup_cons, this]; exact e)
    · obtain ⟨cl, e, a, b, d⟩ := clos_ok (env := env) r acc (fun y hy => hf y (List.mem_cons_of_mem _ hy)) h
      refine ⟨cl, ?_, a, fun y hy hk' => ?_, d⟩
      · rw [List.forIn_cons]
        have hb : (k == NameKind.free) = false := by simpa using hk
        dsimp only
        rw [hb]
        exact e
      · rcases List.mem_cons.mp hy with z | z
        · subst z
          exact absurd hk' hk
        · exact b y z hk'
theorem closureFor_ok {scope : Scope} {env : Env} (hf : ∀ y ∈ scope.names, y.2 = .free → ∃ c, env.cells.lookup y.1 = some c) :
    ∃ cl, closureFor scope env = pure cl ∧ (∀ n c, cl.lookup n = some c → env.cells.lookup n = some c) ∧ (∀ y ∈ scope.names, y.2 = .free → ∃ c, cl.lookup y.1 = some c) := by
  obtain ⟨cl, e, a, b, _⟩ := clos_ok (env := env) scope.names [] hf (fun _ _ z => by cases z)
  refine ⟨cl, ?_, a, b⟩
  have e' : closureFor scope env = (forIn scope.names [] (fun (x : Str × NameKind) (r : List (Str × Addr)) => if (x.2 == NameKind.free) = true then (do let a ← cellOf env x.1; pure (ForInStep.yield ((x.1, a) :: r))) else pure (ForInStep.yield r)) : Sem (List (Str × Addr))) >>= fun r => pure r := by
    unfold closureFor
    rfl
  rw [e', e]
  rfl

section
variable {prog : Program} {w : World} {A : Around} {R : Result → Shared → Prop} {s : Shared}
theorem compLoop_go {elt target iter : Expr} {ifs : List Expr} {scope : Scope} {pos : Pos} {it acc : Value} {env : Env} (I : Nat → Shared → Prop)
    (turn : ∀ n s, I n s → wpAny (model prog w) A (pyNext it) (fun r s1 => match r with
      | none => R (.ok .next) s1
      | some v => wpAny (model prog w) A (letOwnedTupleGo target it v) (fun _ s1' => wpAny (model prog w) A (assign target env v) (fun _ s2 =>
          wpAny (model prog w) A (forIn ifs true fun c r => if r = true then do let ok ← isTrue c env (eval c env); pure (ForInStep.yield ok) else pure (ForInStep.yield r)) (fun ok s3 =>
            if ok = true then wpAny (model prog w) A (eval elt env) (fun x s4 =>
              wpAny (model prog w) A (call (.builtin "list.append") [acc, x]) (fun _ s5 => ∃ m, m < n ∧ I m s5) (fun _ _ => False) s4) (fun _ _ => False) s3
            else ∃ m, m < n ∧ I m s3) (fun _ _ => False) s2) (fun _ _ => False) s1') (fun _ _ => False) s1) (fun _ _ => False) s)
    (n : Nat) (h : I n s) :
    codeAny (model prog w) A (.compLoop (.ListComp elt [⟨target, iter, ifs, 0⟩] scope pos) 0 it acc env) R s := by
  refine codeAny_loop rfl I (fun n s hI => ?_) n h
  show wpAny _ A ((compTurn (.ListComp elt [⟨target, iter, ifs, 0⟩] scope pos) 0 it acc env).onRaise (fun x => do noteFrame x env; theTreesLotGoes x)) _ _ s
  refine wpAny_noted ?_
  rw [compTurn_list]
  refine wpAny_bind (wpAny_standAt (wpAny_bind (wpAny_mono (turn n s hI) (fun r s1 h1 => ?_) fun _ _ h' => h'.elim)))
  cases r with
  | none => exact wpAny_pure h1
  | some v =>
    refine wpAny_bind (wpAny_mono h1 (fun _ s1' h1' => ?_) fun _ _ h' => h'.elim)
    refine wpAny_bind (wpAny_mono h1' (fun _ s2 h2 => wpAny_bind (wpAny_mono h2 (fun ok s3 h3 => ?_) fun _ _ h' => h'.elim)) fun _ _ h' => h'.elim)
    cases ok with
    | false => exact wpAny_pure ⟨rfl, h3⟩
    | true =>
      exact wpAny_bind (wpAny_bind (wpAny_mono h3 (fun x s4 h4 => wpAny_bind (wpAny_mono h4 (fun _ s5 h5 => wpAny_pure (wpAny_pure ⟨rfl, h5⟩)) fun _ _ h' => h'.elim)) fun _ _ h' => h'.elim))
end

/-- the context of a comprehension's block -/
def cxComp (X : Cx) (N : List Str) (scope : Scope) (cl : List (Str × Addr)) (s : Shared) (H : Hp) (fp : List Addr) : Cx :=
  { X with N := N, s₀ := s, H₀ := H, env := compEnvC scope cl s.heap.objs.size X.env, outer := X.stack, stack := X.stack, ex := fp, fn := fun _ => false, pn := [], xe := fun _ _ => False }

/-- captured names: the slot outside, the name -/
def CapOk (X : Cx) (scope : Scope) : List (Nat × Str) → Prop
  | [] => True
  | p :: r => (X.N[p.1]? = some p.2 ∧ (X.env.scope.names.lookup p.2 = some .cell ∨ X.env.scope.names.lookup p.2 = some .free) ∧ scope.names.lookup p.2 = some .free) ∧ CapOk X scope r
theorem CapOk.get {X : Cx} {scope : Scope} : ∀ {caps : List (Nat × Str)} {k : Nat} {p : Nat × Str}, CapOk X scope caps → caps[k]? = some p →
    X.N[p.1]? = some p.2 ∧ (X.env.scope.names.lookup p.2 = some .cell ∨ X.env.scope.names.lookup p.2 = some .free) ∧ scope.names.lookup p.2 = some .free
  | [], _, _, _, e => by simp at e
  | _ :: _, 0, _, h, e => by simp at e; subst e; exact h.1
  | _ :: _, k + 1, p, h, e => CapOk.get (k := k) h.2 (by simpa using e)
def capV (caps : List (Nat × Str)) (σ : St) : St := caps.map fun p => (σ[p.1]?).getD none

def PTs (X : Cx) (ifs : List Expr) (t : TT) : Prop :=
  ∀ (pins : List (Addr × Obj)) (s : Shared) (σ : St) (H : Hp) (Q : Bool → Hp → Prop), Inv X pins σ H s → t σ H Q →
    wpAny (model X.prog X.w) X.A (forIn ifs true fun c r => if r = true then do let ok ← isTrue c X.env (eval c X.env); pure (ForInStep.yield ok) else pure (ForInStep.yield r)) (TP X pins σ Q) X.xe s

theorem pts_one {X : Cx} {c : Expr} {t : TT} (hc : PT X c t) : PTs X [c] t := fun pins s σ H Q I h => wpAny_tests_one (hc pins s σ H Q I h)

structure CompSc (scope : Scope) (x : Str) : Prop where
  kind : scope.kind = .function
  nocell : ∀ y ∈ scope.names, y.2 ≠ .cell
  locs : ∀ y ∈ scope.names, y.2 = .local → scope.names.lookup y.1 = some .local
  own : scope.names.lookup x = some .local

def tCompB (J : It) (cv : St) (tt : TT) (te : TE) (D : Addr) (H1 : Hp) (Q : VK) : Prop := ∃ W : Nat → Nat → Hp → Prop, (∃ m, W 0 m (upd H1 D (.lst []))) ∧ ∀ i m H', W i m H' →
  (J.stop i H' ∧ Q (.ref D) H') ∨ (J.go i H' ∧ ∀ x H2, J.yld i H' x H2 → tt (some x :: cv) H2 fun b H3 => if b = true then te (some x :: cv) H3 fun v H4 => ∃ ys, H4 D = some (.lst ys) ∧ ys.length < sizeLine ∧ ∃ m', m' < m ∧ W (i + 1) m' (upd H4 D (.lst (ys ++ [v])))
    else ∃ m', m' < m ∧ W (i + 1) m' H3)
def tCompBG (sh : V → Hp → List V → Prop) (J : It) (cv : St) (tt : TT) (te : TE) (D : Addr) (H1 : Hp) (Q : VK) : Prop := ∃ W : Nat → Nat → Hp → Prop, (∃ m, W 0 m (upd H1 D (.lst []))) ∧ ∀ i m H', W i m H' →
  (J.stop i H' ∧ Q (.ref D) H') ∨ (J.go i H' ∧ ∀ x H2, J.yld i H' x H2 → ∃ vs, sh x H2 vs ∧ tt (vs.map some ++ cv) H2 fun b H3 => if b = true then te (vs.map some ++ cv) H3 fun v H4 => ∃ ys, H4 D = some (.lst ys) ∧ ys.length < sizeLine ∧ ∃ m', m' < m ∧ W (i + 1) m' (upd H4 D (.lst (ys ++ [v])))
    else ∃ m', m' < m ∧ W (i + 1) m' H3)
def tYes : TT := fun _ H Q => Q true H
def tComp (wi : TI) (caps : List (Nat × Str)) (tt : TT) (te : TE) : TE := fun σ H Q => wi σ H fun J H1 => ∀ D, H1 D = none → tCompB J (capV caps σ) tt te D H1 Q
def freeB (sc out : Scope) : Bool := sc.names.all fun y => y.2 != .free || (match out.names.lookup y.1 with | some .cell => true | some .free => true | _ => false)
theorem freeB_ok {sc out : Scope} (h : freeB sc out = true) : ∀ y ∈ sc.names, y.2 = .free → out.names.lookup y.1 = some .cell ∨ out.names.lookup y.1 = some .free := fun y hy hk => by
  have := List.all_eq_true.mp h y hy
  rw [hk] at this
  have e : (NameKind.free != NameKind.free) = false := rfl
  rw [e, Bool.false_or] at this
  cases q : out.names.lookup y.1 with
  | none => rw [q] at this; cases this
  | some k =>
    rw [q] at this
    cases k with
    | cell => exact .inl rfl
    | free => exact .inr rfl
    | _ => cases this

theorem pts_nil {X : Cx} : PTs X [] tYes := fun _ _ _ H _ I h => wpAny_tests_nil ⟨H, I, h⟩
theorem lookup_relabel {env : Env} : ∀ {names : List (Str × NameKind)} {x : Str} {k : NameKind}, (names.map fun (n, k) => if (k == NameKind.free && env.scope.kind == .function && env.kindOf n == some .cell) then (n, NameKind.cell) else (n, k)).lookup x = some k →
    ∃ k', (x, k') ∈ names ∧ (k = k' ∨ (k' = .free ∧ k = .cell))
  | [], _, _, h => by simp at h
  | (n, k0) :: r, x, k, h => by
    have ih := @lookup_relabel env r x k
    rw [List.map_cons] at h
    by_cases hx : x = n
    · subst hx
      by_cases hc : (k0 == NameKind.free && env.scope.kind == .function && env.kindOf x == some .cell) = true
      · have h' : some NameKind.cell = some k := by
          dsimp only at h
          rw [if_pos hc, List.lookup_cons, beq_self_eq_true] at h
          exact h
        cases h'
        refine ⟨k0, List.mem_cons_self, .inr ⟨?_, rfl⟩⟩
        rw [Bool.and_eq_true, Bool.and_eq_true] at hc
        simpa using hc.1.1
      · have h' : some k0 = some k := by
          dsimp only at h
          rw [if_neg hc, List.lookup_cons, beq_self_eq_true] at h
          exact h
        cases h'
        exact ⟨k0, List.mem_cons_self, .inl rfl⟩
    · have hb : (x == n) = false := beq_eq_false_iff_ne.mpr hx
      have h' : (r.map fun (n, k) => if (k == NameKind.free && env.scope.kind == .function && env.kindOf n == some .cell) then (n, NameKind.cell) else (n, k)).lookup x = some k := by
        dsimp only at h
        by_cases hc : (k0 == NameKind.free && env.scope.kind == .function && env.kindOf n == some .cell) = true
        · rw [if_pos hc, List.lookup_cons, hb] at h
          exact h
        · rw [if_neg hc, List.lookup_cons, hb] at h
          exact h
      obtain ⟨k', m, e⟩ := ih h'
      exact ⟨k', List.mem_cons_of_mem _ m, e⟩
theorem relabel_free {env : Env} {scope : Scope} {x : Str} (h : scope.names.lookup x = some .free) : (relabel scope env).names.lookup x = some .cell ∨ (relabel scope env).names.lookup x = some .free := by
  have go : ∀ names : List (Str × NameKind), names.lookup x = some .free → (names.map fun (n, k) => if (k == NameKind.free && env.scope.kind == .function && env.kindOf n == some .cell) then (n, NameKind.cell) else (n, k)).lookup x = some .cell ∨
      (names.map fun (n, k) => if (k == NameKind.free && env.scope.kind == .function && env.kindOf n == some .cell) then (n, NameKind.cell) else (n, k)).lookup x = some .free := by
    intro names
    induction names with
    | nil => intro h; cases h
    | cons p r ih =>
      obtain ⟨n, k⟩ := p
      intro h
      rw [List.map_cons]
      dsimp only
      by_cases hx : x = n
      · subst hx
        rw [List.lookup_cons, beq_self_eq_true] at h
        cases h
        by_cases hc : (NameKind.free == NameKind.free && env.scope.kind == .function && env.kindOf x == some .cell) = true
        · rw [if_pos hc, List.lookup_cons, beq_self_eq_true]; exact .inl rfl
        · rw [if_neg hc, List.lookup_cons, beq_self_eq_true]; exact .inr rfl
      · have hb : (x == n) = false := beq_eq_false_iff_ne.mpr hx
        rw [List.lookup_cons, hb] at h
        by_cases hc : (k == NameKind.free && env.scope.kind == .function && env.kindOf n == some .cell) = true
        · rw [if_pos hc, List.lookup_cons, hb]; exact ih h
        · rw [if_neg hc, List.lookup_cons, hb]; exact ih h
  exact go _ h

section
variable {X : Cx} {pins : List (Addr × Obj)} {σ : St} {H : Hp} {s : Shared}
/-- the block's context is well laid -/
theorem inv_compG {ws : List Str} {caps : List (Nat × Str)} {scope : Scope} {cl : List (Str × Addr)} {fp : List Addr} {h1 : Heap} {tk : Nat} (I : Inv X pins σ H s) (hkd : scope.kind = .function) (hnc : ∀ y ∈ scope.names, y.2 ≠ .cell) (hcap : CapOk X scope caps)
    (hcl : ∀ n c, cl.lookup n = some c → X.env.cells.lookup n = some c) (hcl2 : ∀ y ∈ scope.names, y.2 = .free → ∃ c, cl.lookup y.1 = some c) (hfp : ∀ b ∈ fp, FpOk X pins H b ∧ b < s.heap.objs.size)
    (hk : ∀ b o, s.heap.get? b = some o → h1.get? b = some o) (hns : h1.Ns s.heap.objs.size fun _ => none) :
    Inv (cxComp X (ws ++ caps.map (·.2)) scope cl s H fp) [] (ws.map (fun _ => none) ++ capV caps σ) H { s with heap := h1, toks := tk } := by
  have nn : ∀ p, p ∈ (cxComp X (ws ++ caps.map (·.2)) scope cl s H fp).pn ++ [] → False := fun p hp => by
    have hp' : p ∈ ([] : List (Addr × Obj)) := by simpa [cxComp] using hp
    cases hp'
  refine ⟨⟨I.ok.mod, hkd, I.ok.glob, I.ok.blt, Nat.le_refl _, fun a b c e1 e2 => I.ok.inj a b c (hcl a c e1) (hcl b c e2), fun y hy => ?_, fun _ _ z => (by cases z), I.ok.hd, I.ok.frames, .inl rfl, fun b hb => ⟨Nat.ne_of_lt (hfp b hb).2, fun y c e => (hfp b hb).1.2.2.2.2.1 y c (hcl y c e)⟩, I.bs,
      Nat.le_trans I.ok.bsz I.sz, fun b o e hb => ?_, fun b hb z => ?_, I.stack, I.stkFree⟩, I.os.symm ▸ rfl, I.bare, Un.kept hk, ⟨_, hns, fun i y v e1 e2 e3 => ?_⟩, fun y c e => ?_, I.hok.fresh (Nat.le_refl _), fun y c e => I.freeC y c (hcl y c e), fun p hp => (nn p hp).elim, I.hok.kept hk, ?_⟩
  · have hy' : ∃ k', (y, k') ∈ scope.names ∧ k' = .free := by
      rcases hy with hy | hy
      · obtain ⟨k', m, e⟩ := lookup_relabel (env := X.env) (names := scope.names) hy
        rcases e with e | e
        · exact absurd e.symm (hnc _ m)
        · exact ⟨k', m, e.1⟩
      · obtain ⟨k', m, e⟩ := lookup_relabel (env := X.env) (names := scope.names) hy
        rcases e with e | e
        · exact ⟨k', m, e.symm⟩
        · cases e.2
    obtain ⟨k', m, rfl⟩ := hy'
    exact hcl2 _ m rfl
  · rcases (hfp b hb).1.2.2.2.1 with z | z
    · exact I.ok.noex b o e z
    · exact absurd (Nat.lt_of_lt_of_le (Heap.lt_size e) (Nat.le_trans I.ok.bsz z)) (Nat.lt_irrefl _)
  · rcases List.mem_cons.mp (I.stkSub b z) with q | q
    · exact (hfp b hb).1.2.1 q
    · exact (hfp b hb).1.2.2.1 q
  · by_cases hi : i < ws.length
    · rw [List.getElem?_append_left (by rw [List.length_map]; exact hi), List.getElem?_map, List.getElem?_eq_getElem hi] at e2
      cases e2
    · obtain ⟨k, ek⟩ : ∃ k, k = i - ws.length := ⟨_, rfl⟩
      have e1' : (caps.map (·.2))[k]? = some y := by
        have : (ws ++ caps.map (·.2))[i]? = some y := e1
        rw [List.getElem?_append_right (by omega)] at this
        rw [ek]; exact this
      have e2' : (capV caps σ)[k]? = some (some v) := by
        rw [List.getElem?_append_right (by rw [List.length_map]; omega), List.length_map] at e2
        rw [ek]; exact e2
      rw [List.getElem?_map] at e1'
      unfold capV at e2'
      rw [List.getElem?_map] at e2'
      cases q : caps[k]? with
      | none => rw [q] at e1'; cases e1'
      | some p =>
        rw [q] at e1' e2'
        have ey : p.2 = y := Option.some.inj e1'
        have ev : (σ[p.1]?).getD none = some v := Option.some.inj e2'
        obtain ⟨c1, c2, c3⟩ := hcap.get q
        rw [ey] at c1 c2 c3
        have ev' : σ[p.1]? = some (some v) := by
          cases r : σ[p.1]? with
          | none => rw [r] at ev; cases ev
          | some o => rw [r] at ev; exact congrArg some ev
        obtain ⟨m, hn, hl⟩ := I.loc
        obtain ⟨u, ru, lk⟩ := hl p.1 y v c1 ev' (c2.elim (fun z => .inr (.inl z)) fun z => .inr (.inr z))
        refine ⟨u, ru, .inr ⟨relabel_free c3, ?_⟩⟩
        rcases lk with ⟨kk, _⟩ | ⟨_, c, ec, oc, hoc, hd⟩
        · have kk' : X.env.scope.names.lookup y = some .local := kk
          rcases c2 with z | z <;> (rw [z] at kk'; cases kk')
        · obtain ⟨c', hc'⟩ := hcl2 (y, .free) (PySem.mem_of_lookup c3) rfl
          have := hcl _ _ hc'
          rw [ec] at this
          cases this
          exact ⟨c, hc', oc, hk _ _ hoc, hd⟩
  · obtain ⟨v, oc, hoc, hd⟩ := I.cell y c (hcl y c e)
    exact ⟨v, oc, hk _ _ hoc, hd⟩
  · show _ = (ws ++ caps.map (·.2)).length
    unfold capV
    simp

theorem comp_runG {elt iter tg : Expr} {ifs : List Expr} {ws : List Str} {pos ipos : Pos} {sh : V → Hp → List V → Prop} {g : TG} {RR : It → Hp → Prop} {caps : List (Nat × Str)} {scope : Scope} {wi : TI} {tt : TT} {te : TE} {use : Option (Value → Sem Unit)} {Q : VK} {QQ : Value → Shared → Prop}
    (hc : X.calm = true) (hi : PI X tg iter wi) (hkd : scope.kind = .function) (hnc : ∀ y ∈ scope.names, y.2 ≠ .cell) (hlc : ∀ y ∈ scope.names, y.2 = .local → scope.names.lookup y.1 = some .local) (hcap : CapOk X scope caps) (hfree : ∀ y ∈ scope.names, y.2 = .free → X.env.scope.names.lookup y.1 = some .cell ∨ X.env.scope.names.lookup y.1 = some .free)
    (ht : ∀ cl s H fp, PTs (cxComp X (ws ++ caps.map (·.2)) scope cl s H fp) ifs tt) (he : ∀ cl s H fp, PE (cxComp X (ws ++ caps.map (·.2)) scope cl s H fp) elt te)
    (hpg : ∀ cl s H fp, PG { cxComp X (ws ++ caps.map (·.2)) scope cl s H fp with xe := fun _ _ => False } tg g) (hg : ∀ (pre cv : St) z H vs (R : St → Hp → Prop), pre.length = ws.length → sh z H vs → R (vs.map some ++ cv) H → g z (pre ++ cv) H R) (hln : ∀ z H vs, sh z H vs → vs.length = ws.length)
    (hs : ∀ v, foldedSetIterable iter X.env v = pure v)
    (I : Inv X pins σ H s) (h : wi σ H RR) (hR : ∀ J H1, RR J H1 → ∀ D, H1 D = none → tCompBG sh J (capV caps σ) tt te D H1 Q)
    (fin : ∀ (D C : Addr) (H' : Hp) (s' : Shared) (m : Str → Option Value), Inv X pins σ H' s' → s'.heap.Ns C m → FpOk X pins H' C → Q (.ref D) H' → compPost (model X.prog X.w) X.A X.xe use QQ (.ref D) C (.ok .next) s') :
    wpAny (model X.prog X.w) X.A (comprehension (.ListComp elt [⟨tg, iter, ifs, 0⟩] scope pos) scope X.env ipos (newList []) false (eval iter X.env) use) QQ X.xe s := by
  obtain ⟨cl, ecl, hcl, hcl2⟩ := closureFor_ok (scope := scope) (env := X.env) (fun y hy hk => I.ok.has y.1 (hfree y hy hk))
  refine wpAny_comprehension_free (g := ⟨tg, iter, ifs, 0⟩) (gs := []) rfl hs ecl hkd hlc (thn (hi pins s σ H _ I h) fun v s1 h1 => thn h1 fun itv s2 h2 => ?_)
  obtain ⟨it, fp, tn, J, H2, e, I2, T, st2, f2, hD⟩ := h2
  subst e
  refine wpAny_newObj_type (wpAny_newFunctionEnv hnc (by intro y hy; simp at hy) (fun h3 hns3 hsb3 => ?_) hkd) (by size_fits)
  have I3 : Inv X pins σ (upd H2 s2.heap.objs.size (.lst [])) { s2 with heap := s2.heap.push { cls := .type "list", data := .seq ([] : List Value).toArray }, toks := s2.toks } := I2.lnew (ys := []) (its := []) .nil (Nat.zero_le _)
  generalize hS3 : ({ s2 with heap := s2.heap.push { cls := .type "list", data := .seq ([] : List Value).toArray }, toks := s2.toks } : Shared) = s3 at I3
  have hh3 : s3.heap = s2.heap.push { cls := .type "list", data := .seq ([] : List Value).toArray } := by rw [← hS3]
  obtain ⟨W, ⟨m0, w0⟩, turn⟩ := hR J H2 hD s2.heap.objs.size I2.fresh
  dsimp only at hns3 hsb3 ⊢
  have hk3 : ∀ b o, s3.heap.get? b = some o → h3.get? b = some o := fun b o eb => by
    rw [hh3] at eb
    exact hsb3.extBut b o (Nat.ne_of_lt (Heap.lt_size eb)) (Heap.get?_push_of_some _ eb)
  have hD0 : ∀ b ∈ fp, b ≠ s2.heap.objs.size := fun b hb => by
    obtain ⟨o, eo, _⟩ := T.obj _ _ st2 b hb
    exact Nat.ne_of_lt (Heap.lt_size eo)
  have hfp : ∀ b ∈ fp, FpOk X pins (upd H2 s2.heap.objs.size (.lst [])) b ∧ b < s3.heap.objs.size := fun b hb => by
    obtain ⟨o, eo, _⟩ := T.obj _ _ st2 b hb
    refine ⟨⟨by rw [upd_ne (hD0 b hb)]; exact (f2 b hb).1, (f2 b hb).2⟩, ?_⟩
    rw [hh3]
    exact Nat.lt_of_lt_of_le (Heap.lt_size eo) (by rw [Heap.size_push]; exact Nat.le_succ _)
  have hns3' : h3.Ns s3.heap.objs.size fun _ => none := by
    rw [hh3]
    exact hns3
  have I4 := inv_compG (ws := ws) (caps := caps) (scope := scope) (cl := cl) (fp := fp) (h1 := h3) (tk := s3.toks) I3 hkd hnc hcap hcl hcl2 hfp hk3 hns3'
  have tn3 : tn 0 h3 := T.keep _ _ _ st2 fun b hb o eo => hk3 b o (by rw [hh3]; exact Heap.get?_push_of_some _ eo)
  generalize hY : cxComp X (ws ++ caps.map (·.2)) scope cl s3 (upd H2 s2.heap.objs.size (.lst [])) fp = Y at I4
  have fpY : ∀ {H' : Hp}, (∀ b ∈ fp, H' b = none) → ∀ b ∈ fp, FpOk Y [] H' b := fun hn b hb => by
    subst hY
    refine ⟨hn b hb, Nat.ne_of_lt (hfp b hb).2, fun z => ?_, .inl hb, fun y c e => (hfp b hb).1.2.2.2.2.1 y c (hcl y c e), fun p hp => ?_⟩
    · rcases List.mem_cons.mp (I3.stkSub b z) with q | q
      · exact (hfp b hb).1.2.1 q
      · exact (hfp b hb).1.2.2.1 q
    · have hp' : p ∈ ([] : List (Addr × Obj)) := by simpa [cxComp] using hp
      cases hp'
  have fr4 : ∀ b ∈ fp, (upd H2 s2.heap.objs.size (.lst [])) b = none := fun b hb => (hfp b hb).1.1
  have eE : Y.env = compEnvC scope cl s3.heap.objs.size X.env := by subst hY; rfl
  have eP : Y.prog = X.prog := by subst hY; rfl
  have eW : Y.w = X.w := by subst hY; rfl
  have eK : Y.K = X.K := by subst hY; rfl
  have eA : Y.A = X.A := by subst hY; rfl
  have eC : Y.calm = true := by subst hY; exact hc
  have eX : Y.xe = fun _ _ => False := by subst hY; rfl
  have PT_ : PTs Y ifs tt := by subst hY; exact ht cl _ _ _
  have PE_ : PE Y elt te := by subst hY; exact he cl _ _ _
  have PG_ : PG Y tg g := by
    subst hY
    exact hpg cl _ _ _
  have back : ∀ {y : St} {H' : Hp} {s' : Shared}, Inv Y [] (y ++ capV caps σ) H' s' → Inv X pins σ H' s' ∧ (∃ m, s'.heap.Ns s3.heap.objs.size m) ∧ FpOk X pins H' s3.heap.objs.size := fun {y H' s'} J' => by
    subst hY
    have J1 : Inv X pins σ H' s' := I3.call' (ch := fp) J'.os J'.base J'.hok J'.bare fun b hb => ⟨(hfp b hb).1.2.2.2.1, (hfp b hb).1.2.1, (hfp b hb).1.2.2.2.2.1, (hfp b hb).1.2.2.2.2.2⟩
    obtain ⟨m, hn, _⟩ := J'.loc
    exact ⟨J1, ⟨m, hn⟩, I3.fpOk (Nat.le_refl _) J'.free⟩
  have loop : ∀ (s4 : Shared) , Inv Y [] (ws.map (fun _ => none) ++ capV caps σ) (upd H2 s2.heap.objs.size (.lst [])) s4 → tn 0 s4.heap →
      codeAny (model X.prog X.w) X.A (.compLoop (.ListComp elt [⟨tg, iter, ifs, 0⟩] scope pos) 0 (.ref it) (.ref s2.heap.objs.size) Y.env)
        (compPost (model X.prog X.w) X.A X.xe use QQ (.ref s2.heap.objs.size) s3.heap.objs.size) s4 := by
    intro s4 I4 tn4
    refine compLoop_go (fun n s' => ∃ i y H', y.length = ws.length ∧ Inv Y [] (y ++ capV caps σ) H' s' ∧ tn i s'.heap ∧ (∀ b ∈ fp, H' b = none) ∧ W i n H') ?_ m0 ⟨0, _, _, List.length_map _, I4, tn4, fr4, w0⟩
    rintro n s5 ⟨i, y, H5, ly, I5, st5, fr5, w5⟩
    rcases turn i n H5 w5 with ⟨stop, qn⟩ | ⟨go, step⟩
    · have := T.done Y eP eW eK eC i [] s5 _ H5 (fun _ _ => False) I5 (fpY fr5) st5 stop
      rw [eA] at this
      refine thn this fun r s6 ⟨hr, I6⟩ => ?_
      subst hr
      obtain ⟨J1, ⟨m, hn⟩, fC⟩ := back I6
      exact fin _ _ H5 s6 m J1 hn fC qn
    · have := T.item Y eP eW eK eC i [] s5 _ H5 (fun _ _ => False) I5 (fpY fr5) st5 go
      rw [eA] at this
      refine thn this fun r s6 ⟨u, hr, h6⟩ => ?_
      subst hr
      refine thn h6 fun _ s7 ⟨z, H7, I7, r7, y7, st7, fr7⟩ => ?_
      have I7' := I7.pinned (fpY fr7) (T.obj _ _ st7)
      obtain ⟨vs, hsh, step⟩ := step z H7 y7
      have a1 := PG_ _ s7 _ H7 z u _ I7' r7 (hg y (capV caps σ) z H7 vs (fun σ' H' => σ' = vs.map some ++ capV caps σ ∧ H' = H7) ly hsh ⟨rfl, rfl⟩)
      rw [eP, eW, eA, eX] at a1
      refine thn a1 fun _ s8 ⟨σ8, H8, I8, e8, e8'⟩ => ?_
      subst e8 e8'
      have a2 := PT_ _ s8 _ H8 _ I8 step
      rw [eP, eW, eA, eX] at a2
      refine thn a2 fun ok s9 ⟨H9, I9, q9⟩ => ?_
      have again : ∀ {H' : Hp} {s' : Shared} {m' : Nat}, Inv Y ([] ++ pinsAt fp s7.heap) (vs.map some ++ capV caps σ) H' s' → m' < n → W (i + 1) m' H' → ∃ m, m < n ∧ ∃ i y H', y.length = ws.length ∧ Inv Y [] (y ++ capV caps σ) H' s' ∧ tn i s'.heap ∧ (∀ b ∈ fp, H' b = none) ∧ W i m H' := fun {H' s' m'} J lt w' => by
        refine ⟨m', lt, i + 1, vs.map some, H', by rw [List.length_map]; exact hln _ _ _ hsh, J.unpinned, T.keep _ _ _ st7 fun b hb o e => (J.pin (b, o) (List.mem_append_right _ (List.mem_append_right _ (mem_pinsAt hb e)))).1, fun b hb => ?_, w'⟩
        obtain ⟨o, e, d⟩ := T.obj _ _ st7 b hb
        exact (J.pin (b, o) (List.mem_append_right _ (List.mem_append_right _ (mem_pinsAt hb e)))).2.1
      cases ok with
      | false =>
        obtain ⟨m', lt, w'⟩ := q9
        exact again I9 lt w'
      | true =>
        have a3 := PE_ _ s9 _ H9 _ I9 q9
        rw [eP, eW, eA, eX] at a3
        refine thn a3 fun uv s10 ⟨v, H10, I10, r10, ys, hys, hlt, m', lt, w'⟩ => ?_
        have a4 := mt_append (X := Y) _ s10 _ H10 (.ref s2.heap.objs.size) [v] (.ref s2.heap.objs.size) [uv] (fun v' H' => H' = upd H10 s2.heap.objs.size (.lst (ys ++ [v]))) I10 rfl (.cons r10 .nil) ⟨_, ys, v, rfl, rfl, hys, hlt, rfl⟩
        rw [eP, eW, eA, eX] at a4
        refine thn a4 fun _ s11 ⟨v11, H11, I11, _, e11⟩ => ?_
        subst e11
        exact again I11 lt w'
  have L := loop { s3 with heap := h3, toks := s3.toks } I4 tn3
  rw [eE] at L
  refine codeAny_compStart_list L (T.self _ 0 _ _ _ (by exact tn3) L)

theorem comp_run {elt iter : Expr} {ifs : List Expr} {x : Str} {px pos ipos : Pos} {caps : List (Nat × Str)} {scope : Scope} {wi : TI} {tt : TT} {te : TE} {use : Option (Value → Sem Unit)} {Q : VK} {QQ : Value → Shared → Prop}
    (hc : X.calm = true) (hi : PI X (.Name x px) iter wi) (S : CompSc scope x) (hcap : CapOk X scope caps) (hfree : ∀ y ∈ scope.names, y.2 = .free → X.env.scope.names.lookup y.1 = some .cell ∨ X.env.scope.names.lookup y.1 = some .free)
    (ht : ∀ cl s H fp, PTs (cxComp X (x :: caps.map (·.2)) scope cl s H fp) ifs tt) (he : ∀ cl s H fp, PE (cxComp X (x :: caps.map (·.2)) scope cl s H fp) elt te)
    (hs : ∀ v, foldedSetIterable iter X.env v = pure v) (nd : (x :: caps.map (·.2)).Nodup)
    (I : Inv X pins σ H s) (h : tComp wi caps tt te σ H Q)
    (fin : ∀ (D C : Addr) (H' : Hp) (s' : Shared) (m : Str → Option Value), Inv X pins σ H' s' → s'.heap.Ns C m → FpOk X pins H' C → Q (.ref D) H' → compPost (model X.prog X.w) X.A X.xe use QQ (.ref D) C (.ok .next) s') :
    wpAny (model X.prog X.w) X.A (comprehension (.ListComp elt [⟨.Name x px, iter, ifs, 0⟩] scope pos) scope X.env ipos (newList []) false (eval iter X.env) use) QQ X.xe s :=
  comp_runG (ws := [x]) (g := gName 0) (sh := fun z _ vs => vs = [z]) hc hi S.kind S.nocell S.locs hcap hfree ht he
    (fun cl s H fp => pg_name nd rfl (.inl (lookup_relabel_local S.own)) (.inr (lookup_relabel_local S.own)))
    (fun pre cv z H vs R hl e r => by
      subst e
      match pre, hl with
      | [p], _ => exact r)
    (fun z H vs e => by subst e; rfl) hs I h (fun J H1 r D hD => (r D hD).imp fun W w => ⟨w.1, fun i m H' w' => (w.2 i m H' w').imp id fun q => ⟨q.1, fun x H2 y => ⟨[x], rfl, q.2 x H2 y⟩⟩⟩) fin
end
end L2

set_option Elab.async false
set_option linter.all false
set_option maxRecDepth 100000
namespace L2
open PySem PySem.Spec PyProof.Rows
section
variable {X : Cx} {pins : List (Addr × Obj)} {σ : St} {H : Hp} {s : Shared}
theorem pe_comp {elt iter : Expr} {ifs : List Expr} {x : Str} {px pos : Pos} {caps : List (Nat × Str)} {scope : Scope} {wi : TI} {tt : TT} {te : TE}
    (hc : X.calm = true) (hi : PI X (.Name x px) iter wi) (S : CompSc scope x) (hcap : CapOk X scope caps) (hfree : freeB scope X.env.scope = true)
    (nd : (x :: caps.map (·.2)).Nodup)
    (ht : ∀ cl s H fp, PTs (cxComp X (x :: caps.map (·.2)) scope cl s H fp) ifs tt) (he : ∀ cl s H fp, PE (cxComp X (x :: caps.map (·.2)) scope cl s H fp) elt te)
    (hs : ∀ v, foldedSetIterable iter X.env v = pure v := by intro _; rfl) :
    PE X (.ListComp elt [⟨.Name x px, iter, ifs, 0⟩] scope pos) (tComp wi caps tt te) := by
  intro pins s σ H Q I h
  rw [eval_ListComp]
  refine comp_run (use := none) hc hi S hcap (freeB_ok hfree) ht he hs nd I h fun D C H' s' m I' hn fC q => ?_
  refine ⟨m, hn, fun h' sb => ⟨.ref D, H', ?_, rfl, q⟩⟩
  exact I'.turned (it := C) (t' := s'.toks) (fun b o hb e => sb.extBut b o hb e) fC.1 fC.2.1 fC.2.2.2.1 fC.2.2.2.2.1 fC.2.2.2.2.2
theorem ps_setComp {elt iter : Expr} {ifs : List Expr} {x y : Str} {px py pos spos : Pos} {caps : List (Nat × Str)} {scope : Scope} {wi : TI} {tt : TT} {te : TE} {i : Nat} (hN : X.N.Nodup) (hi' : X.N[i]? = some y) (hx : Loc X.env.scope y)
    (hc : X.calm = true) (hi : PI X (.Name x px) iter wi) (S : CompSc scope x) (hcap : CapOk X scope caps) (hfree : freeB scope X.env.scope = true)
    (nd : (x :: caps.map (·.2)).Nodup)
    (ht : ∀ cl s H fp, PTs (cxComp X (x :: caps.map (·.2)) scope cl s H fp) ifs tt) (he : ∀ cl s H fp, PE (cxComp X (x :: caps.map (·.2)) scope cl s H fp) elt te)
    (hs : ∀ v, foldedSetIterable iter X.env v = pure v := by intro _; rfl)
    (hsw : swapsWith (.ListComp elt [⟨.Name x px, iter, ifs, 0⟩] scope pos) (some (.Name y py)) spos.line X.env = pure true := by rfl)
    (hf : X.fn y = true ∨ X.env.scope.names.lookup y = some .local := by first | exact .inl rfl | exact .inr rfl | assumption) :
    PS X (.Assign [.Name y py] (.ListComp elt [⟨.Name x px, iter, ifs, 0⟩] scope pos) spos) (tAsg (tComp wi caps tt te) (gName i)) := by
  intro pins s σ H D I h
  rw [exec_Assign_Name_used _ _ _ _ hsw]
  refine wpAny_bind (wpAny_standAt (wpAny_bind ?_))
  show wpAny _ X.A (do let _ ← comprehension (.ListComp elt [⟨.Name x px, iter, ifs, 0⟩] scope pos) scope X.env _ (newList []) false (eval iter X.env) (some (assign (.Name y py) X.env))) _ _ s
  refine wpAny_bind (wpAny_mono (comp_run (use := some (assign (.Name y py) X.env)) (QQ := fun _ s' => SP X pins D .next s') hc hi S hcap (freeB_ok hfree) ht he hs nd I h fun D' C H' s' m I' hn fC q => ?_)
    (fun _ s' hq => wpAny_pure (wpAny_pure hq)) fun _ _ e => e)
  show wpAny _ X.A (assign (.Name y py) X.env (.ref D')) _ _ s'
  refine wpAny_assign_Name (store_ok2 I' hN hi' hx (v := .ref D') rfl (fun s2 I2 hh => ?_) hf)
  obtain ⟨a, sb, ha⟩ := hh
  have hCa : C ≠ a := by
    rcases ha with e | e
    · rw [e]; exact fC.2.1
    · exact fun z => fC.2.2.2.2.1 y a e z.symm
  refine ⟨m, hn.sameBut sb hCa, fun h' sb' => ⟨σ.set i (some (.ref D')), H', ?_, q⟩⟩
  exact I2.turned (it := C) (t' := s2.toks) (fun b o hb e => sb'.extBut b o hb e) fC.1 fC.2.1 fC.2.2.2.1 fC.2.2.2.2.1 fC.2.2.2.2.2

/-! ### a comprehension whose parts leave the heap as it is -/
theorem comp_filter {J : It} {xs : List V} {D : Addr} {H1 : Hp} {tt : TT} {te : TE} {cv : St} {Q : VK} (p : V → Bool) (f : V → V) (hz : xs.length ≤ sizeLine)
    (hgo : ∀ i x ys, xs[i]? = some x → J.go i (upd H1 D (.lst ys)) ∧ ∀ y H2, J.yld i (upd H1 D (.lst ys)) y H2 → y = x ∧ H2 = upd H1 D (.lst ys))
    (hst : ∀ ys, J.stop xs.length (upd H1 D (.lst ys)))
    (ht : ∀ x, x ∈ xs → ∀ (ys : List V) (R : Bool → Hp → Prop), R (p x) (upd H1 D (.lst ys)) → tt (some x :: cv) (upd H1 D (.lst ys)) R)
    (he : ∀ x, x ∈ xs → p x = true → ∀ (ys : List V) (R : VK), R (f x) (upd H1 D (.lst ys)) → te (some x :: cv) (upd H1 D (.lst ys)) R)
    (q : Q (.ref D) (upd H1 D (.lst ((xs.filter p).map f)))) :
    tCompB J cv tt te D H1 Q := by
  refine ⟨fun i m H' => m = xs.length - i ∧ i ≤ xs.length ∧ H' = upd H1 D (.lst (((xs.take i).filter p).map f)), ⟨xs.length, by simp, Nat.zero_le _, by simp⟩, ?_⟩
  rintro i m H' ⟨rfl, hi, rfl⟩
  by_cases hlt : i < xs.length
  · have ex : xs[i]? = some xs[i] := List.getElem?_eq_getElem hlt
    obtain ⟨g, y⟩ := hgo i xs[i] (((xs.take i).filter p).map f) ex
    have hm : xs[i] ∈ xs := List.getElem_mem hlt
    refine .inr ⟨g, fun x H2 hy => ?_⟩
    obtain ⟨rfl, rfl⟩ := y x H2 hy
    have et := take_succ_filter p xs i xs[i] ex
    refine ht _ hm _ _ ?_
    cases hp : p xs[i] with
    | false =>
      rw [if_neg (by simp)]
      refine ⟨xs.length - (i + 1), by omega, rfl, hlt, ?_⟩
      rw [et, hp]
      simp
    | true =>
      rw [if_pos rfl]
      refine he _ hm hp _ _ ⟨_, upd_same, ?_, xs.length - (i + 1), by omega, rfl, hlt, ?_⟩
      · have : ((xs.take i).filter p).length ≤ (xs.take i).length := List.length_filter_le _ _
        rw [List.length_map]
        rw [List.length_take] at this
        omega
      · rw [upd_upd, et, hp]
        simp
  · have e : i = xs.length := by omega
    subst e
    refine .inl ⟨hst _, ?_⟩
    rw [List.take_length]
    exact q
theorem comp_map {J : It} {xs : List V} {D : Addr} {H1 : Hp} {te : TE} {cv : St} {Q : VK} (f : V → V) (hz : xs.length ≤ sizeLine)
    (hgo : ∀ i x ys, xs[i]? = some x → J.go i (upd H1 D (.lst ys)) ∧ ∀ y H2, J.yld i (upd H1 D (.lst ys)) y H2 → y = x ∧ H2 = upd H1 D (.lst ys))
    (hst : ∀ ys, J.stop xs.length (upd H1 D (.lst ys)))
    (he : ∀ x, x ∈ xs → ∀ (ys : List V) (R : VK), R (f x) (upd H1 D (.lst ys)) → te (some x :: cv) (upd H1 D (.lst ys)) R)
    (q : Q (.ref D) (upd H1 D (.lst (xs.map f)))) :
    tCompB J cv tYes te D H1 Q :=
  comp_filter (tt := tYes) (fun _ => true) f hz hgo hst (fun _ _ _ _ r => r) (fun x hx _ => he x hx) (by rw [List.filter_eq_self.mpr (fun _ _ => rfl)]; exact q)
/-- the iterators that were met -/
theorem itr_walk {lo : Int} {n : Nat} {D : Addr} {H1 : Hp} : (∀ i x ys, ((List.range n).map fun k => V.int (lo + (k : Nat)))[i]? = some x → (Itr lo n).go i (upd H1 D (.lst ys)) ∧ ∀ y H2, (Itr lo n).yld i (upd H1 D (.lst ys)) y H2 → y = x ∧ H2 = upd H1 D (.lst ys)) ∧
    ∀ ys, (Itr lo n).stop ((List.range n).map fun k => V.int (lo + (k : Nat))).length (upd H1 D (.lst ys)) := by
  refine ⟨fun i x ys e => ?_, fun ys => by show n ≤ _; simp⟩
  rw [List.getElem?_map] at e
  have hi : i < n := by
    by_cases hi : i < n
    · exact hi
    · rw [List.getElem?_eq_none (by simpa using hi)] at e
      cases e
  rw [List.getElem?_range hi] at e
  have e' : V.int (lo + (i : Nat)) = x := Option.some.inj e
  subst e'
  exact ⟨hi, fun y H2 h => ⟨h.2, h.1⟩⟩
theorem itl_walk {K : PySem.W.Frag} {a D : Addr} {xs : List V} {H1 : Hp} (h : SqL K H1 a xs) (hD : H1 D = none) : (∀ i x ys, xs[i]? = some x → (Itl K a).go i (upd H1 D (.lst ys)) ∧ ∀ y H2, (Itl K a).yld i (upd H1 D (.lst ys)) y H2 → y = x ∧ H2 = upd H1 D (.lst ys)) ∧
    ∀ ys, (Itl K a).stop xs.length (upd H1 D (.lst ys)) := by
  have up : ∀ ys, SqL K (upd H1 D (.lst ys)) a xs := fun ys => Same.seq (fun b o q => by rw [upd_ne (ne_of_none q hD)]; exact q) h
  refine ⟨fun i x ys e => ⟨⟨xs, x, up ys, e⟩, fun y H2 hh => ⟨?_, hh.1⟩⟩, fun ys => ⟨xs, up ys, Nat.le_refl _⟩⟩
  have := hh.2 xs (up ys)
  rw [e] at this
  exact (Option.some.inj this).symm
end

/-! ### a word between two statements -/
def tCut (t u : TS) : TS := fun D σ H => ∃ R : St → Hp → Prop, t { D with nx := R } σ H ∧ ∀ σ' H', R σ' H' → u D σ' H'
theorem pss_cut {X : Cx} {st : Stmt} {rest : List Stmt} {t u : TS} (h1 : PS X st t) (h2 : PSs X rest u) : PSs X (st :: rest) (tCut t u) := by
  intro pins s σ H D I ⟨R, h, k⟩
  have h3 : PSs X rest (fun D' σ' H' => D' = D ∧ R σ' H') := fun pins s σ H D' I' ⟨e, r⟩ => e ▸ h2 pins s σ H D I' (k σ H r)
  exact pss_cons (t := fun D' σ' H' => D' = { D with nx := fun σ' H' => D = D ∧ R σ' H' } ∧ σ' = σ ∧ H' = H) (fun pins' s' σ' H' D' I' ⟨e, e1, e2⟩ => by
    subst e e1 e2
    refine thn (h1 pins' s' _ _ { D with nx := R } I' h) fun f s2 hf => ?_
    cases f with
    | next => obtain ⟨σ2, H2, I2, r⟩ := hf; exact ⟨σ2, H2, I2, rfl, r⟩
    | _ => exact hf) h3 pins s σ H D I ⟨rfl, rfl, rfl⟩

/-! ### heaps -/
theorem upd_old {H : Hp} {a p : Addr} {o u : HO} (h : H a = some o) (hp : H p = none) : upd H p u a = some o := by rw [upd_ne (ne_of_none h hp)]; exact h
theorem SqL.up {K : PySem.W.Frag} {H : Hp} {a p : Addr} {xs : List V} {u : HO} (h : SqL K H a xs) (hp : H p = none) : SqL K (upd H p u) a xs := Same.seq (fun _ _ q => upd_old q hp) h
theorem same_up {H : Hp} {p : Addr} {u : HO} (hp : H p = none) : Same H (upd H p u) := fun _ _ q => upd_old q hp

/-! ### what a def promises of the heap: all else that it made is forgotten -/
def flatO : HO → Bool
  | .ins _ _ _ => false
  | .frz _ _ => false
  | _ => true
def fixO : HO → Bool
  | .tup _ => true
  | .frz _ _ => true
  | .tbl _ => true
  | .own _ => true
  | _ => false
structure Less (H H2 H' : Hp) : Prop where
  sub : Same H2 H'
  dep : ∀ a o, H2 a = some o → H a = some o ∨ flatO o = true ∨ ∃ C dx fs, o = .ins C dx fs ∧ H2 dx = some (.own a)
  kept : ∀ a o, H a = some o → fixO o = true → H2 a = some o
theorem Less.same {H H' : Hp} (s : Same H H') : Less H H H' := ⟨s, fun _ _ e => .inl e, fun _ _ e _ => e⟩
theorem Less.refl {H : Hp} : Less H H H := .same (Same.refl H)
theorem Less.new {H H' : Hp} {p : Addr} {o : HO} (s : Same H H') (hp : H p = none) (e : H' p = some o) (f : flatO o = true) : Less H (upd H p o) H' := by
  refine ⟨fun a u q => ?_, fun a u q => ?_, fun a u q _ => upd_old q hp⟩
  · by_cases h : a = p
    · subst h; rw [upd_same] at q; cases q; exact e
    · rw [upd_ne h] at q; exact s a u q
  · by_cases h : a = p
    · subst h; rw [upd_same] at q; cases q; exact .inr (.inl f)
    · rw [upd_ne h] at q; exact .inl q
theorem ObjOk.less {P : Program} {w : World} {H H2 H' : Hp} {h h0 : Heap} {a : Addr} {o : HO} (L : Less H H2 H') (d : ObjOk P w H h0 a o) (x : ObjOk P w H' h a o) : ObjOk P w H2 h a o := by
  induction o with
  | ins C dx fs =>
    obtain ⟨_, z, ne, e1, e2⟩ := x
    exact ⟨L.kept _ _ d.1 rfl, z, ne, e1, e2⟩
  | frz ob u ih => exact ⟨x.1, ih d.2 x.2⟩
  | _ => exact x
theorem HOk.less {P : Program} {w : World} {H H2 H' : Hp} {h h0 : Heap} (L : Less H H2 H') (ok0 : HOk P w H h0) (ok : HOk P w H' h) : HOk P w H2 h := fun a o e => by
  have x := ok a o (L.sub a o e)
  rcases L.dep a o e with q | q | ⟨C, dx, fs, rfl, q⟩
  · exact ObjOk.less L (ok0 a o q) x
  · cases o with
    | ins C dx fs => cases q
    | frz ob u => cases q
    | _ => exact x
  · obtain ⟨_, z⟩ := x
    exact ⟨q, z⟩
theorem Un.less {fs : List Addr} {H H2 H' : Hp} {h h' : Heap} (L : Less H H2 H') (u : Un fs [] H H' h h') : Un fs [] H H2 h h' :=
  { keep := u.keep, slot := u.slot, there := u.there
    free := fun b o e n hx => by
      have q := u.free b o e n hx
      cases z : H2 b with
      | none => rfl
      | some v => rw [L.sub b v z] at q; cases q
    tups := fun b xs e => L.kept b _ e rfl
    frzs := fun b o v e => L.kept b _ e rfl
    tbls := fun b ps e => ⟨#[], by rw [L.kept b _ e rfl]; simp⟩ }
theorem FnOk.drop {P : Program} {w : World} {K : PySem.W.Frag} {mg : Str → Option Value} {base : Heap} {CX : CXT} {k : Nat} {f : Addr} {fd : FuncData} {ps : List Str} {sp sp' : Sp} (F : FnOk P w K mg base CX k f fd ps sp)
    (h : ∀ vs H Q E, sp' vs H Q E → sp vs H (fun v H' => ∃ H2, Less H H2 H' ∧ Q v H2) E) : FnOk P w K mg base CX k f fd ps sp' := by
  refine ⟨fun vs H Q E z => F.len vs H _ E (h vs H Q E z), fun A outer s H args us vs Q E hr e0 hb r z => ?_⟩
  refine codeAny_mono (F.run A outer s H args us vs _ E hr e0 hb r (h vs H Q E z)) fun q s' hq => ?_
  cases q with
  | error e => exact hq
  | ok fl =>
    cases fl with
    | ret u =>
      obtain ⟨v, H', o1, o2, o3, o4, o5, H2, L, q2⟩ := hq
      exact ⟨v, H2, o1, o2, Un.less L o3, HOk.less L e0.hok o4, o5, q2⟩
    | _ => exact hq

/-- a def of the text, as it is called -/
structure Cal (P : Program) (w : World) (K : PySem.W.Frag) (mg : Str → Option Value) (base : Heap) (k : Nat) (x : Str) (ps : List Str) (sp : Sp) : Prop where
  ex : ∃ f fd, mg x = some (.ref f) ∧ PySem.W.keepIn K (.ref f) = true ∧ Binds K fd ps [] ∧ FnOk P w K mg base CX0 k f fd ps sp
structure Def (K : PySem.W.Frag) (mg : Str → Option Value) (x : Str) (st : Stmt) (ps : List Str) : Prop where
  ex : ∃ f fd, Fun K x x st f fd ∧ Binds K fd ps [] ∧ mg x = some (.ref f)
section
variable {P : Program} {w : World} {K : PySem.W.Frag} {mg : Str → Option Value} {base : Heap}
theorem Cal.mono {j k : Nat} {x : Str} {ps : List Str} {sp : Sp} (C : Cal P w K mg base j x ps sp) (h : j ≤ k) : Cal P w K mg base k x ps sp :=
  let ⟨f, fd, a, b, c, d⟩ := C.ex
  ⟨f, fd, a, b, c, d.mono h⟩
theorem Fun.okD {x qual : Str} {st : Stmt} {f : Addr} {fd : FuncData} {N ps : List Str} {k : Nat} {sp : Sp} (F : Fun K x qual st f fd) (S : FnScope N ps (defScope st)) (len : ∀ vs H Q E, sp vs H Q E → vs.length = ps.length)
    (hbody : ∀ (cdv : Value) (A : Around) (outer : List Env) (s : Shared) (H : Hp) (vs : List V) (Q : VK) (E : XK), Room k (A.deeper (envOfC qual (defScope st) s.heap.objs.size f cdv)) → sp vs H Q E →
      ∃ t, PSs (cxOf CX0 P w K mg base N qual (defScope st) f cdv A outer s H E).nox (defBody st) t ∧ t { nx := fun _ H' => ∃ H2, Less H H2 H' ∧ Q .non H2, rt := fun v H' => ∃ H2, Less H H2 H' ∧ Q v H2 } (start N vs) H) : FnOk P w K mg base CX0 (k + 1) f fd ps sp := by
  refine FnOk.drop (sp := fun vs H Q E => ∃ Q0, sp vs H Q0 E ∧ Q = fun v H' => ∃ H2, Less H H2 H' ∧ Q0 v H2) (F.ok S (fun vs H Q E ⟨Q0, z, _⟩ => len vs H Q0 E z) fun cdv A outer s H vs Q E hr ⟨Q0, z, e⟩ => ?_) fun vs H Q E z => ⟨Q, z, rfl⟩
  subst e
  exact hbody cdv A outer s H vs Q0 E hr z
theorem Def.ok {x : Str} {st : Stmt} {N ps : List Str} {k : Nat} {sp : Sp} (D : Def K mg x st ps) (S : FnScope N ps (defScope st)) (len : ∀ vs H Q E, sp vs H Q E → vs.length = ps.length)
    (hbody : ∀ (f : Addr) (cdv : Value) (A : Around) (outer : List Env) (s : Shared) (H : Hp) (vs : List V) (Q : VK) (E : XK), Room k (A.deeper (envOfC x (defScope st) s.heap.objs.size f cdv)) → sp vs H Q E →
      ∃ t, PSs (cxOf CX0 P w K mg base N x (defScope st) f cdv A outer s H E).nox (defBody st) t ∧ t { nx := fun _ H' => ∃ H2, Less H H2 H' ∧ Q .non H2, rt := fun v H' => ∃ H2, Less H H2 H' ∧ Q v H2 } (start N vs) H) : Cal P w K mg base (k + 1) x ps sp := by
  obtain ⟨f, fd, F, b, m⟩ := D.ex
  exact ⟨f, fd, m, F.kp, b, F.okD S len (hbody f)⟩
theorem def_mk {h : Heap} {x : Str} {st : Stmt} {ps : List Str} {f : Addr} {oc : Value} {od an : Option Addr} {osl : Array (Option Value)} {kV doc pm cdv ct : Value} (X : K.In h) (G : h.Ns mainGlobals mg) (a : PySem.W.nsIn K mainGlobals x = some (some (.ref f)))
    (l : K.lookup f = some ⟨oc, od, .func (PySem.W.fnOf x x (defArgs st) (defBody st) (defScope st) .none kV doc pm an cdv ct), osl⟩) (c : PySem.W.codeIn K cdv x = true) (k : PySem.W.keepIn K (.ref f) = true)
    (hb : ∀ (kV doc pm : Value) (an : Option Addr) (cdv ct : Value) (us : List Value), us.length = ps.length → bindArgs (PySem.W.fnOf x x (defArgs st) (defBody st) (defScope st) .none kV doc pm an cdv ct) ⟨us, []⟩ = pure (ps.zip us)) : Def K mg x st ps :=
  ⟨f, _, fun_mk l c k, (fun_mk l c k).binds hb, PySem.W.mg_of X G a⟩
end
section
variable {X : Cx} {k : Nat} {x : Str} {ps : List Str} {sp : Sp} {p pos : Pos} {e : Expr} {es : List Expr} {t : TA}
theorem pe_def (C : Cal X.prog X.w X.K X.mg X.base k x ps sp) (hr : Room k X.A) (hg : Gl X x) (ha : PA X (e :: es) t) (hdb : (x == ("__debug__" : Str)) = false := by decide) (he : starEach (e :: es) X.env = (false, eval e X.env) :: starEach es X.env := by rfl) (hpl : (backTo pos (starEach es X.env)).any (·.1) = false := by rfl) :
    PE X (.Call (.Name x p) (e :: es) [] pos) (tCall sp [] E0 t) :=
  let ⟨_, _, a, b, c, d⟩ := C.ex
  pe_call d hr hg a b c .nil pass0 ha hdb he hpl
end

/-! ### sum, isinstance, == of lists and tuples -/
section
variable {X : Cx}
theorem call_sum (hc : X.calm = true) : CallR X (.builtin "sum") (fun xs H Q => ∃ (a : Addr) (ns : List Int), xs = [.ref a] ∧ SqL X.K H a (ns.map V.int) ∧ Q (.int ns.sum) H) := by
  rintro pins s σ H xs us Q I r ⟨a, ns, rfl, h, q⟩
  obtain ⟨u, rfl, ru⟩ := vals1 r
  cases (show u = .ref a from ru)
  obtain ⟨its, hv, pl, hz⟩ := I.list h
  have hi := intsAre_of hv
  obtain ⟨ys, e⟩ := hi.allInts.items
  have hl : s.heap.IsList a (intItems ys) := e ▸ pl.isList
  refine sum_intListG (I.ok.hd hc) hl fun h' tk t' hk => ?_
  have es : preSum (numAt ys) ys.size = ns.sum := by
    rw [preSum_eq, List.take_of_length_le (by simp), ← nums_intItems, ← e]
    exact congrArg List.sum hi.numsOf
  rw [es]
  exact ⟨.int ns.sum, H, I.kept hk, ⟨_, rfl⟩, q⟩
theorem call_isinst : CallR X (.builtin "isinstance") (fun xs H Q => ∃ x T t b, xs = [x, .ty T] ∧ TyOf X.K H x t ∧ PySem.W.kitOne X.K t (.type T) = some b ∧ Q (.bl b) H) := by
  rintro pins s σ H xs us Q I r ⟨x, T, t, b, rfl, ty, e, q⟩
  obtain ⟨u, v, rfl, ru, rv⟩ := vals2 r
  cases (show v = .type T from rv)
  exact isinst_ok I ru ty e fun tk => ⟨.bl b, H, I.tok tk, rfl, q⟩

end
end L2

set_option Elab.async false
set_option linter.all false
set_option maxRecDepth 100000
namespace L2
open PySem PySem.Spec PyProof.Rows
theorem b_len : bootBuiltins "len" = some (.builtin "len") := by decide +kernel
theorem b_sum : bootBuiltins "sum" = some (.builtin "sum") := by decide +kernel
theorem b_isinstance : bootBuiltins "isinstance" = some (.builtin "isinstance") := by decide +kernel
theorem b_divmod : bootBuiltins "divmod" = some (.builtin "divmod") := by decide +kernel
theorem b_int : bootBuiltins "int" = some (.type "int") := by decide +kernel
theorem b_reversed : bootBuiltins "reversed" = some (.type "reversed") := by decide +kernel
theorem b_zip : bootBuiltins "zip" = some (.type "zip") := by decide +kernel
theorem b_min : bootBuiltins "min" = some (.builtin "min") := by decide +kernel
theorem b_max : bootBuiltins "max" = some (.builtin "max") := by decide +kernel
theorem b_str : bootBuiltins "str" = some (.type "str") := by decide +kernel
theorem b_sorted : bootBuiltins "sorted" = some (.builtin "sorted") := by decide +kernel
theorem b_set : bootBuiltins "set" = some (.type "set") := by decide +kernel
/-- the built-in names stand as they are -/
structure BI (mg : Str → Option Value) : Prop where
  len : mg "len" = none
  sum : mg "sum" = none
  isinstance : mg "isinstance" = none
  divmod : mg "divmod" = none
  list : mg "list" = none
  tuple : mg "tuple" = none
  int : mg "int" = none
  bool : mg "bool" = none
  range : mg "range" = none
  reversed : mg "reversed" = none
  zip : mg "zip" = none
  min : mg "min" = none
  max : mg "max" = none
  enumerate : mg "enumerate" = none
  str : mg "str" = none
  sorted : mg "sorted" = none
  set : mg "set" = none
theorem hU {A : Around} {k : Nat} (hr : Room k A) : A.units < cLine := hr.units0
theorem getI {ns : List Int} {i : Nat} (h : i < ns.length) : (ns.map V.int)[i]? = some (.int (ns.getD i 0)) := by
  rw [List.getElem?_map, List.getElem?_eq_getElem h]
  show some (V.int ns[i]) = _
  rw [List.getD_eq_getElem?_getD, List.getElem?_eq_getElem h]
  rfl
theorem atN {ns : List Int} {i : Nat} (h : i < ns.length) : atI (ns.map V.int) (i : Int) = some (.int (ns.getD i 0)) := atI_nat (getI h)
theorem atZ {ns : List Int} {i : Int} (h0 : 0 ≤ i) (h : i < (ns.length : Int)) : atI (ns.map V.int) i = some (.int (ns.getD i.toNat 0)) := by
  have e : i = ((i.toNat : Nat) : Int) := by omega
  have := atN (ns := ns) (i := i.toNat) (by omega)
  rw [← e] at this
  exact this
theorem cut_take (ns : List Int) {k : Int} (h0 : 0 ≤ k) : cutV (ns.map V.int) none (some k) = (ns.take k.toNat).map V.int := by
  unfold cutV
  rw [HT.sIx_none, List.drop_zero, Nat.sub_zero, List.length_map]
  have e : k = ((k.toNat : Nat) : Int) := by omega
  rw [e, HT.sIx_nat, ← List.map_take]
  congr 1
  rw [Int.toNat_natCast]
  rcases Nat.le_total k.toNat ns.length with h | h
  · rw [Nat.min_eq_left h]
  · rw [Nat.min_eq_right h, List.take_of_length_le (Nat.le_refl _), List.take_of_length_le h]
theorem mem_at {ns : List Int} {i : Nat} {y : V} (h : (ns.map V.int)[i]? = some y) : ∃ n, n ∈ ns ∧ y = .int n := by
  rw [List.getElem?_map] at h
  cases e : ns[i]? with
  | none => rw [e] at h; cases h
  | some n => rw [e] at h; exact ⟨n, List.mem_of_getElem? e, (Option.some.inj h).symm⟩
theorem pe_gint {X : Cx} {x : Str} {i : Int} {pos : Pos} (hg : Gl X x) (hm : ∃ t, X.mg x = some (.int i t)) (hd : (x == ("__debug__" : Str)) = false := by decide) : PE X (.Name x pos) (tC (.int i)) :=
  let ⟨t, e⟩ := hm
  pe_glob hg e (v := .int i) ⟨t, rfl⟩ hd
theorem pe_bty {X : Cx} {x : Str} {T : String} {pos : Pos} (hg : Gl X x) (hm : X.mg x = none) (hv : bootBuiltins x = some (.type T)) (hn : x ≠ "__name__" := by decide) (hd : (x == ("__debug__" : Str)) = false := by decide) : PE X (.Name x pos) (tC (.ty T)) :=
  pe_bltn hg hm hv (v := .ty T) rfl hn hd
theorem szl {n : Nat} (h : n ≤ 1000) : n ≤ sizeLine := Nat.le_of_lt (small1000 h)
end L2
namespace Np
open L2
/-! ### the mathematics -/
structure GoodC (ns : List Int) : Prop where
  len0 : 1 ≤ ns.length
  len1 : ns.length ≤ 100
  rng : ∀ c ∈ ns, 0 ≤ c ∧ c ≤ 999
  pos : 0 < ns.sum
theorem sum_nn : ∀ {ns : List Int}, (∀ c ∈ ns, 0 ≤ c ∧ c ≤ 999) → 0 ≤ ns.sum ∧ ns.sum ≤ 999 * (ns.length : Int)
  | [], _ => by simp
  | c :: r, h => by
    have h1 := h c List.mem_cons_self
    have h2 := sum_nn (ns := r) fun x hx => h x (List.mem_cons_of_mem _ hx)
    rw [List.sum_cons, List.length_cons]
    omega
theorem GoodC.le {ns : List Int} (g : GoodC ns) : ns.sum ≤ 99900 := by
  have := (sum_nn g.rng).2
  have := g.len1
  omega
/-- the first of the sign k -/
def first (ns : List Int) (k : Nat) : Int := (ns.take k).sum
theorem first_zero (ns : List Int) : first ns 0 = 0 := by simp [first]
theorem first_succ {ns : List Int} {k : Nat} (h : k < ns.length) : first ns (k + 1) = first ns k + ns.getD k 0 := by
  unfold first
  rw [List.take_succ, List.sum_append, List.getD_eq_getElem?_getD, List.getElem?_eq_getElem h]
  simp
theorem first_len (ns : List Int) : first ns ns.length = ns.sum := by unfold first; rw [List.take_length]
theorem getD_mem {ns : List Int} {k : Nat} (h : k < ns.length) : ns.getD k 0 ∈ ns := by
  rw [List.getD_eq_getElem?_getD, List.getElem?_eq_getElem h]
  exact List.getElem_mem h
theorem GoodC.at {ns : List Int} (g : GoodC ns) (k : Nat) : 0 ≤ ns.getD k 0 ∧ ns.getD k 0 ≤ 999 := by
  by_cases h : k < ns.length
  · exact g.rng _ (getD_mem h)
  · rw [List.getD_eq_getElem?_getD, List.getElem?_eq_none (by omega)]
    exact ⟨Int.le_refl _, by decide⟩
theorem first_mono {ns : List Int} (h : ∀ c ∈ ns, 0 ≤ c ∧ c ≤ 999) {i j : Nat} (hij : i ≤ j) (hj : j ≤ ns.length) : first ns i ≤ first ns j := by
  induction j with
  | zero =>
    have : i = 0 := by omega
    subst this; exact Int.le_refl _
  | succ j ih =>
    rcases Nat.lt_or_ge i (j + 1) with q | q
    · have := ih (by omega) (by omega)
      rw [first_succ (by omega)]
      have := (h _ (getD_mem (ns := ns) (k := j) (by omega))).1
      omega
    · have : i = j + 1 := by omega
      subst this; exact Int.le_refl _
/-- the sign of a slot -/
def signOf : List Int → Int → Nat
  | [], _ => 0
  | c :: r, s => if s < c then 0 else signOf r (s - c) + 1
theorem signOf_ok : ∀ {ns : List Int} {s : Int}, 0 ≤ s → s < ns.sum → signOf ns s < ns.length ∧ first ns (signOf ns s) ≤ s ∧ s < first ns (signOf ns s) + ns.getD (signOf ns s) 0
  | [], s, h0, h => by simp at h; omega
  | c :: r, s, h0, h => by
    unfold signOf
    by_cases q : s < c
    · rw [if_pos q]
      exact ⟨by simp, by simp [first]; exact h0, by simp [first]; exact q⟩
    · rw [if_neg q]
      rw [List.sum_cons] at h
      obtain ⟨a, b, d⟩ := signOf_ok (ns := r) (s := s - c) (by omega) (by omega)
      have e : first (c :: r) (signOf r (s - c) + 1) = c + first r (signOf r (s - c)) := by simp [first]
      have e' : (c :: r).getD (signOf r (s - c) + 1) 0 = r.getD (signOf r (s - c)) 0 := by simp
      rw [e, e', List.length_cons]
      omega
theorem signOf_unique {ns : List Int} (h : ∀ c ∈ ns, 0 ≤ c ∧ c ≤ 999) {s : Int} {k : Nat} (hk : k < ns.length) (h1 : first ns k ≤ s) (h2 : s < first ns (k + 1)) : signOf ns s = k := by
  have h0 : 0 ≤ s := by
    have := first_mono h (Nat.zero_le k) (by omega)
    rw [first_zero] at this
    omega
  have hs : s < ns.sum := by
    have := first_mono h (show k + 1 ≤ ns.length from hk) (Nat.le_refl _)
    rw [first_len] at this
    omega
  obtain ⟨a, b, d⟩ := signOf_ok h0 hs
  rw [← first_succ a] at d
  rcases Nat.lt_trichotomy (signOf ns s) k with q | q | q
  · have := first_mono h (show signOf ns s + 1 ≤ k from q) (by omega)
    omega
  · exact q
  · have := first_mono h (show k + 1 ≤ signOf ns s from q) (by omega)
    omega
/-- what the draws make -/
def draw (cell k bound : Int) : Int := ((cell % 1000003 * 48271 + k * 69621 + 11) % 2147483647) * (((cell % 7919 + 1) * (k * k + 31 * k + 7) % 65537) + 1) / 4099 % bound
theorem draw_rng (cell k : Int) {bound : Int} (h : 0 < bound) : 0 ≤ draw cell k bound ∧ draw cell k bound < bound := ⟨Int.emod_nonneg _ (by omega), Int.emod_lt_of_pos _ h⟩
def cellAt (ns : List Int) (k : Int) : Int := ns.getD k.toNat 0
end Np
namespace Np
open L2
theorem div_rest {a b q r : Int} (hb : 0 < b) (e : a = q * b + r) (h0 : 0 ≤ r) (h1 : r < b) : a / b = q ∧ a % b = r :=
  (Int.ediv_emod_unique hb).mpr ⟨by rw [e, Int.mul_comm b q]; omega, h0, h1⟩
def layN (ns : List Int) (k : Nat) (p : Int) : Int := p / ns.getD k 0 * ns.sum + first ns k + p % ns.getD k 0
def takeS (ns : List Int) (p : Int) : Nat := signOf ns (p % ns.sum)
def takeP (ns : List Int) (p : Int) : Int := p / ns.sum * ns.getD (takeS ns p) 0 + p % ns.sum - first ns (takeS ns p)
theorem first_nn {ns : List Int} (g : GoodC ns) {k : Nat} (h : k ≤ ns.length) : 0 ≤ first ns k := by
  have := first_mono g.rng (Nat.zero_le k) h
  rw [first_zero] at this
  exact this
theorem first_top {ns : List Int} (g : GoodC ns) {k : Nat} (h : k < ns.length) : first ns k + ns.getD k 0 ≤ ns.sum := by
  have := first_mono g.rng (show k + 1 ≤ ns.length from h) (Nat.le_refl _)
  rw [first_len, first_succ h] at this
  exact this
theorem lay_rest {ns : List Int} (g : GoodC ns) {k : Nat} (h : k < ns.length) (hc : 0 < ns.getD k 0) (p : Int) : layN ns k p / ns.sum = p / ns.getD k 0 ∧ layN ns k p % ns.sum = first ns k + p % ns.getD k 0 := by
  have a := Int.emod_nonneg p (show ns.getD k 0 ≠ 0 by omega)
  have b := Int.emod_lt_of_pos p hc
  have c := first_nn g (Nat.le_of_lt h)
  have d := first_top g h
  exact div_rest g.pos (by unfold layN; omega) (by omega) (by omega)
theorem lay_nn {ns : List Int} (g : GoodC ns) {k : Nat} (h : k < ns.length) (hc : 0 < ns.getD k 0) {p : Int} (hp : 0 ≤ p) : 0 ≤ layN ns k p := by
  have a := Int.emod_nonneg p (show ns.getD k 0 ≠ 0 by omega)
  have c := first_nn g (Nat.le_of_lt h)
  have e := Int.mul_nonneg (Int.ediv_nonneg hp (Int.le_of_lt hc)) (Int.le_of_lt g.pos)
  unfold layN
  omega
theorem take_lay {ns : List Int} (g : GoodC ns) {k : Nat} (h : k < ns.length) (hc : 0 < ns.getD k 0) (p : Int) : takeS ns (layN ns k p) = k ∧ takeP ns (layN ns k p) = p := by
  obtain ⟨e1, e2⟩ := lay_rest g h hc p
  have a := Int.emod_nonneg p (show ns.getD k 0 ≠ 0 by omega)
  have b := Int.emod_lt_of_pos p hc
  have e3 : takeS ns (layN ns k p) = k := by
    unfold takeS
    rw [e2]
    exact signOf_unique g.rng h (by omega) (by rw [first_succ h]; omega)
  refine ⟨e3, ?_⟩
  unfold takeP
  rw [e3, e1, e2]
  have := Int.mul_ediv_add_emod p (ns.getD k 0)
  rw [Int.mul_comm] at this
  omega
theorem take_ok {ns : List Int} (g : GoodC ns) (p : Int) : takeS ns p < ns.length ∧ first ns (takeS ns p) ≤ p % ns.sum ∧ p % ns.sum < first ns (takeS ns p) + ns.getD (takeS ns p) 0 :=
  signOf_ok (Int.emod_nonneg p (by have := g.pos; omega)) (Int.emod_lt_of_pos p g.pos)
theorem take_pos {ns : List Int} (g : GoodC ns) (p : Int) : 0 < ns.getD (takeS ns p) 0 := by
  obtain ⟨_, b, c⟩ := take_ok g p
  omega
theorem take_nn {ns : List Int} (g : GoodC ns) {p : Int} (hp : 0 ≤ p) : 0 ≤ takeP ns p := by
  obtain ⟨_, b, c⟩ := take_ok g p
  have d := take_pos g p
  have e := Int.mul_nonneg (Int.ediv_nonneg hp (Int.le_of_lt g.pos)) (Int.le_of_lt d)
  unfold takeP
  omega
def heldN (ns : List Int) : List Int := ((List.range ns.length).filter fun k => decide (0 < ns.getD k 0)).map fun k => ((k : Nat) : Int)
theorem held_mem {ns : List Int} {x : Int} : x ∈ heldN ns ↔ ∃ k : Nat, k < ns.length ∧ 0 < ns.getD k 0 ∧ x = (k : Int) := by
  unfold heldN
  rw [List.mem_map]
  constructor
  · rintro ⟨k, hk, rfl⟩
    rw [List.mem_filter, List.mem_range] at hk
    exact ⟨k, hk.1, of_decide_eq_true hk.2, rfl⟩
  · rintro ⟨k, h1, h2, rfl⟩
    exact ⟨k, List.mem_filter.mpr ⟨List.mem_range.mpr h1, decide_eq_true h2⟩, rfl⟩
end Np
namespace L2
end L2
namespace L2
open PySem PySem.Spec PyProof.Rows
section
variable {X : Cx} {K : PySem.W.Frag}
theorem ix_listK (e : X.K = K) : IxR X (rIxL K) := e ▸ ix_list
theorem ix_tupK (e : X.K = K) : IxR X (rIxT K) := e ▸ ix_tup
end
end L2

set_option Elab.async false
set_option linter.all false
set_option maxRecDepth 100000
namespace L2
open PySem PySem.Spec PyProof.Rows
/-! ### reversed(a list) -/
def Itv (K : PySem.W.Frag) (a : Addr) (n : Nat) : It :=
  ⟨fun i H => ∃ xs x, SqL K H a xs ∧ i < n ∧ xs[n - 1 - i]? = some x, fun i H x H' => H' = H ∧ ∀ xs, SqL K H a xs → xs[n - 1 - i]? = some x, fun i _ => i = n⟩
theorem turn_rev {P : Program} {w : World} {K : PySem.W.Frag} {tg : Expr} (a it : Addr) (n : Nat) : Turn P w K tg (Itv K a n) [it] it (fun i h => i ≤ n ∧ h.IsRevIter it a ((n : Int) - 1 - (i : Nat))) where
  mem := by simp
  obj := fun i h st b hb => by
    have e : b = it := by simpa using hb
    subst e
    obtain ⟨_, o, e, c, d⟩ := st
    exact ⟨o, e, fun v z => by rw [d] at z; cases z⟩
  keep := fun i h h' st k => ⟨st.1, st.2.at fun o e => k it (by simp) o e⟩
  item := by
    intro X hP hw hK hc i pins s σ H E I hf st hg
    subst hP hw hK
    obtain ⟨xs, x, hq, hi, hx⟩ := hg
    obtain ⟨its, rv, p, hz⟩ := I.list hq
    obtain ⟨u, hu, ru⟩ := rv.get hx
    obtain ⟨f0, f1, f2, f3, f4, f5⟩ := hf it (by simp)
    have e1 : (n : Int) - 1 - (i : Nat) = ((n - 1 - i : Nat) : Int) := by omega
    have hit := st.2
    rw [e1] at hit
    refine wpAny_pyNext_rev_item hit p.isList (x := u) (by simpa using hu) fun h' st' sb => ?_
    have I1 : Inv X pins σ H { s with heap := h' } := I.turned (t' := s.toks) (fun b o hb e => (sb.2 b hb).trans e) f0 f1 f3 f4 f5
    have e2 : ((n - 1 - i : Nat) : Int) - 1 = (n : Int) - 1 - ((i + 1 : Nat) : Int) := by omega
    rw [e2] at st'
    obtain ⟨o, e, c, d⟩ := id st'
    exact ⟨u, rfl, go_of (s := { s with heap := h' }) e c d (by decide) ⟨x, H, I1, ru, ⟨rfl, fun ys hy => by rw [I.list_inj hy hq]; exact hx⟩, ⟨hi, st'⟩, fun b hb => (hf b hb).1⟩⟩
  done := by
    intro X hP hw hK hc i pins s σ H E I hf st hg
    subst hP hw hK
    obtain ⟨f0, f1, f2, f3, f4, f5⟩ := hf it (by simp)
    have hg' : i = n := hg
    subst hg'
    have e : (i : Int) - 1 - (i : Nat) = -1 := by omega
    have hit := st.2
    rw [e] at hit
    exact wpAny_pyNext_rev_end (I.ok.hd hc) hit fun h' eb => ⟨rfl, I.turned (t' := s.toks) (fun b o hb e => eb b o hb e) f0 f1 f3 f4 f5⟩
  self := fun _ _ _ _ _ st h => wpAny_pyIter_revIter st.2 h
section
variable {X : Cx} {tg : Expr}
def iRev (K : PySem.W.Frag) (ta : TA) : TI := fun σ H R => ta σ H fun vs H1 => ∃ a xs, vs = [.ref a] ∧ SqL K H1 a xs ∧ R (Itv K a xs.length) H1
theorem pi_rev {a : Expr} {ta : TA} {p pos : Pos} (hg : Gl X "reversed") (hm : X.mg "reversed" = none) (ha : PA X [a] ta) (hs : starEach [a] X.env = [(false, eval a X.env)] := by rfl) : PI X tg (.Call (.Name "reversed" p) [a] [] pos) (iRev X.K ta) := by
  intro pins s σ H R I h
  refine Call_ (ld_blt I hg hm b_reversed (PyProof.Rows.callWith_type1 (thn (ha pos pins s σ H _ I h) fun us s1 ⟨vs, H1, I1, r1, q1⟩ => ?_) hs rfl))
  obtain ⟨l, xs, e, hq, q⟩ := q1
  subst e
  obtain ⟨u, rfl, ru⟩ := vals1 r1
  cases (show u = .ref l from ru)
  obtain ⟨its, rv, pl, hz⟩ := I1.list hq
  refine call_reversed_list pl.isList ?_
  have en : (its.toArray.size : Int) = (xs.length : Int) := by rw [List.size_toArray, rv.length]
  rw [en]
  have hit : ({ s1 with heap := s1.heap.push (revObj l ((xs.length : Int) - 1)) } : Shared).heap.IsRevIter s1.heap.objs.size l ((xs.length : Int) - 1) := ⟨_, Heap.get?_push_size _ rfl, rfl, rfl⟩
  refine wpAny_pyIter_revIter hit ?_
  refine ⟨s1.heap.objs.size, [s1.heap.objs.size], _, _, H1, rfl, I1.kept (t' := s1.toks) fun b o e => Heap.get?_push_of_some _ e, turn_rev l _ xs.length, ⟨Nat.zero_le _, ?_⟩, fun b hb => ?_, q⟩
  · have e0 : (xs.length : Int) - 1 - ((0 : Nat) : Int) = (xs.length : Int) - 1 := by omega
    rw [e0]
    exact hit
  · have e : b = s1.heap.objs.size := by simpa using hb
    subst e
    exact I1.fpOk (Nat.le_refl _) (I1.hok.fresh (Nat.le_refl _))
end
theorem for_rev {K : PySem.W.Frag} {a : Addr} {xs : List V} {g : TG} {tb : TS} {D : Ends} {σ : St} {H : Hp} (Pv : Nat → St → Hp → Prop) (h0 : Pv 0 σ H) (hl : ∀ i σ H, i ≤ xs.length → Pv i σ H → SqL K H a xs)
    (hs : ∀ i x σ H, xs.reverse[i]? = some x → Pv i σ H → g x σ H fun σ2 H2 => tb { D with nx := Pv (i + 1), ct := Pv (i + 1), bk := D.nx } σ2 H2) (hd : ∀ σ H, Pv xs.length σ H → D.nx σ H) :
    ∃ W : Nat → Nat → St → Hp → Prop, (∃ m, W 0 m σ H) ∧ ∀ i m σ H, W i m σ H →
      ((Itv K a xs.length).stop i H ∧ D.nx σ H) ∨ ((Itv K a xs.length).go i H ∧ ∃ N : St → Hp → Prop, (∀ σ' H', N σ' H' → ∃ m', m' < m ∧ W (i + 1) m' σ' H') ∧ ∀ x H', (Itv K a xs.length).yld i H x H' → g x σ H' fun σ2 H2 => tb { D with nx := N, ct := N, bk := D.nx } σ2 H2) := by
  refine ⟨fun i m σ H => m = xs.length - i ∧ i ≤ xs.length ∧ Pv i σ H, ⟨xs.length, by simp, Nat.zero_le _, h0⟩, ?_⟩
  rintro i m σ H ⟨rfl, hi, p⟩
  have q := hl i σ H hi p
  by_cases hlt : i < xs.length
  · have ex : xs[xs.length - 1 - i]? = some (xs[xs.length - 1 - i]'(by omega)) := List.getElem?_eq_getElem (by omega)
    refine .inr ⟨⟨xs, _, q, hlt, ex⟩, Pv (i + 1), fun σ' H' p' => ⟨xs.length - (i + 1), by omega, rfl, hlt, p'⟩, fun x H' y => ?_⟩
    obtain ⟨e, y⟩ := y
    subst e
    refine hs i x σ _ ?_ p
    rw [List.getElem?_reverse hlt]
    exact y xs q
  · have e : i = xs.length := by omega
    subst e
    exact .inl ⟨rfl, hd σ H p⟩
theorem Less.add {H H2 H' : Hp} {p : Addr} {o : HO} (L : Less H H2 H') (hp : H2 p = none) (e : H' p = some o) (f : flatO o = true) : Less H (upd H2 p o) H' := by
  refine ⟨fun a u q => ?_, fun a u q => ?_, fun a u q z => upd_old (L.kept a u q z) hp⟩
  · by_cases h : a = p
    · subst h; rw [upd_same] at q; cases q; exact e
    · rw [upd_ne h] at q; exact L.sub a u q
  · by_cases h : a = p
    · subst h; rw [upd_same] at q; cases q; exact .inr (.inl f)
    · rw [upd_ne h] at q
      rcases L.dep a u q with z | z | ⟨C, dx, fs, z, z'⟩
      · exact .inl z
      · exact .inr (.inl z)
      · exact .inr (.inr ⟨C, dx, fs, z, upd_old z' hp⟩)
end L2
namespace Np
open L2
/-! ### rows -/
def OkS (ns : List Int) (k : Int) : Prop := 0 ≤ k ∧ k < (ns.length : Int) ∧ 0 < ns.getD k.toNat 0
def layRow (ns : List Int) (rs : List Int) (p : Int) : Int := rs.foldr (fun k p => layN ns k.toNat p) p
def takeRow (ns : List Int) : Nat → Int → List Int × Int
  | 0, p => ([], p)
  | n + 1, p => (((takeS ns p : Nat) : Int) :: (takeRow ns n (takeP ns p)).1, (takeRow ns n (takeP ns p)).2)
theorem takeRow_snoc (ns : List Int) : ∀ (n : Nat) (p : Int), takeRow ns (n + 1) p = ((takeRow ns n p).1 ++ [((takeS ns (takeRow ns n p).2 : Nat) : Int)], takeP ns (takeRow ns n p).2)
  | 0, p => rfl
  | n + 1, p => by
    have ih := takeRow_snoc ns n (takeP ns p)
    show (((takeS ns p : Nat) : Int) :: (takeRow ns (n + 1) (takeP ns p)).1, (takeRow ns (n + 1) (takeP ns p)).2) = _
    rw [ih]
    rfl
theorem takeRow_len (ns : List Int) : ∀ (n : Nat) (p : Int), (takeRow ns n p).1.length = n
  | 0, _ => rfl
  | n + 1, p => by
    show ((takeRow ns n (takeP ns p)).1).length + 1 = n + 1
    rw [takeRow_len]
theorem takeRow_nn {ns : List Int} (g : GoodC ns) : ∀ (n : Nat) {p : Int}, 0 ≤ p → 0 ≤ (takeRow ns n p).2
  | 0, _, h => h
  | n + 1, p, h => takeRow_nn g n (take_nn g h)
theorem takeRow_held {ns : List Int} (g : GoodC ns) : ∀ (n : Nat) (p : Int), ∀ k ∈ (takeRow ns n p).1, k ∈ heldN ns ∧ OkS ns k
  | 0, _, k, h => by cases h
  | n + 1, p, k, h => by
    rcases List.mem_cons.mp h with e | e
    · subst e
      have a := (take_ok g p).1
      have b := take_pos g p
      exact ⟨held_mem.mpr ⟨_, a, b, rfl⟩, by omega, by omega, by rw [Int.toNat_natCast]; exact b⟩
    · exact takeRow_held g n _ k e
theorem layRow_nn {ns : List Int} (g : GoodC ns) : ∀ {rs : List Int} {p : Int}, (∀ k ∈ rs, OkS ns k) → 0 ≤ p → 0 ≤ layRow ns rs p
  | [], _, _, h => h
  | k :: rs, p, h, hp => by
    obtain ⟨a, b, c⟩ := h k List.mem_cons_self
    exact lay_nn g (by omega) c (layRow_nn g (fun x hx => h x (List.mem_cons_of_mem _ hx)) hp)
theorem takeRow_layRow {ns : List Int} (g : GoodC ns) : ∀ {rs : List Int} (p : Int), (∀ k ∈ rs, OkS ns k) → takeRow ns rs.length (layRow ns rs p) = (rs, p)
  | [], _, _ => rfl
  | k :: rs, p, h => by
    obtain ⟨a, b, c⟩ := h k List.mem_cons_self
    obtain ⟨e1, e2⟩ := take_lay g (k := k.toNat) (by omega) c (layRow ns rs p)
    show (((takeS ns (layN ns k.toNat (layRow ns rs p)) : Nat) : Int) :: (takeRow ns rs.length (takeP ns (layN ns k.toNat (layRow ns rs p)))).1, (takeRow ns rs.length (takeP ns (layN ns k.toNat (layRow ns rs p)))).2) = (k :: rs, p)
    rw [e1, e2, takeRow_layRow g p (fun x hx => h x (List.mem_cons_of_mem _ hx))]
    have : ((k.toNat : Nat) : Int) = k := by omega
    rw [this]
/-- one more of the row, from its end -/
theorem layRow_drop {ns rs : List Int} {p : Int} {i : Nat} (h : i < rs.length) : layRow ns (rs.drop (rs.length - (i + 1))) p = layN ns ((rs.reverse.getD i 0)).toNat (layRow ns (rs.drop (rs.length - i)) p) := by
  have e : rs.length - (i + 1) < rs.length := by omega
  rw [List.drop_eq_getElem_cons e]
  have e2 : rs.length - (i + 1) + 1 = rs.length - i := by omega
  rw [e2]
  show layN ns (rs[rs.length - (i + 1)]).toNat (layRow ns (rs.drop (rs.length - i)) p) = _
  congr 2
  rw [List.getD_eq_getElem?_getD, List.getElem?_reverse h, List.getElem?_eq_getElem (by omega)]
  show _ = rs[rs.length - 1 - i]
  congr 1
  omega
theorem rev_at {rs : List Int} {i : Nat} {y : V} (h : (rs.map V.int).reverse[i]? = some y) : i < rs.length ∧ y = .int (rs.reverse.getD i 0) ∧ rs.reverse.getD i 0 ∈ rs := by
  rw [← List.map_reverse, List.getElem?_map] at h
  have hi : i < rs.reverse.length := by
    by_cases hi : i < rs.reverse.length
    · exact hi
    · rw [List.getElem?_eq_none (by omega)] at h
      cases h
  have hm : rs.reverse.getD i 0 ∈ rs := List.mem_reverse.mp (getD_mem hi)
  rw [List.getElem?_eq_getElem hi] at h
  refine ⟨by simpa using hi, ?_, hm⟩
  rw [List.getD_eq_getElem?_getD, List.getElem?_eq_getElem hi]
  exact (Option.some.inj h).symm
end Np
namespace Np
open L2
end Np

set_option Elab.async false
set_option linter.all false
set_option maxRecDepth 100000
namespace L2
open PySem PySem.Spec PyProof.Rows
/-! ### defs with defaults; methods; classes that are called -/
section
variable {P : Program} {w : World} {K : PySem.W.Frag} {mg : Str → Option Value} {base : Heap}
end
section
variable {X : Cx} {k : Nat} {x m : Str} {ps : List Str} {sp : Sp} {p pos apos : Pos} {e o : Expr} {es : List Expr} {t : TA} {ta : TE}
theorem pe_gref {x : Str} {C : Addr} {pos : Pos} (hg : Gl X x) (hm : X.mg x = some (.ref C)) (hd : (x == ("__debug__" : Str)) = false := by decide) : PE X (.Name x pos) (tC (.ref C)) := pe_glob hg hm (v := .ref C) rfl hd
end
end L2

set_option Elab.async false
set_option linter.all false
set_option maxRecDepth 100000
namespace Np
open L2 PySem
/-! ### models -/
structure Cl where
  P : Addr
  L : Addr
  F : Addr
  M : Addr
  S : Addr
  O : Addr
def ones (m : Int) : List Int := List.replicate m.toNat 1
end Np
namespace Np
open L2 PySem
end Np
namespace Np
open L2 PySem
inductive Mo where
  | pl (ns : List Int)
  | le (m s : Int) (t : List Int)
  | fo (m s : Int) (cur : Option Nat) (b : List Int) (ts : List (List Int))
def Mo.many : Mo → Int
  | .pl ns => (ns.length : Int)
  | .le m _ _ => m
  | .fo m _ _ _ _ => m
def Mo.tells : Mo → List Int
  | .pl ns => ns
  | .le _ _ t => t
  | .fo _ _ cur b ts => match cur with | none => b | some i => ts.getD i []
def Mo.fresh : Mo → Mo
  | .pl ns => .pl ns
  | .le m s _ => .le m s (ones m)
  | .fo m s _ _ _ => .fo m s none (ones m) (List.replicate m.toNat (ones m))
end Np
namespace Np
open L2 PySem
end Np
namespace Np
open L2 PySem
end Np

namespace L2
open PySem PySem.Spec PyProof.Rows
end L2

set_option Elab.async false
set_option linter.all false
set_option maxRecDepth 100000
namespace L2
open PySem PySem.Spec PyProof.Rows
end L2
namespace Np
open L2 PySem
section
variable {T : Cl} {H H' : Hp} {x bh l0 k0 : Addr} {ls ks : List Addr} {m st : Int} {cur : Option Nat} {b0 : List Int} {ts : List (List Int)}
end
end Np

set_option Elab.async false
set_option linter.all false
set_option maxRecDepth 100000
namespace L2
open PySem PySem.Spec PyProof.Rows
/-! ### list(zip(a, b)): behind the first pair the zip's own tuple is held by the list, so each further pair is a new one -/
section
variable {prog : Program} {w : World} {A : Around} {E : Value → Shared → Prop} {s : Shared}
end
end L2
namespace L2
open PySem PySem.Spec PyProof.Rows
section
variable {prog : Program} {w : World} {A : Around} {R : Result → Shared → Prop} {s : Shared}
end
end L2
namespace L2
open PySem PySem.Spec PyProof.Rows
section
variable {prog : Program} {w : World} {A : Around} {E : Value → Shared → Prop} {s : Shared}
end
end L2

namespace L2
open PySem PySem.Spec PyProof.Rows
section
variable {X : Cx} {pins : List (Addr × Obj)} {σ : St} {H H' : Hp} {s : Shared} {h' : Heap}
/-- new lists and tuples are tracked -/
theorem Inv.grow {t' : Nat} (I : Inv X pins σ H s) (k : ∀ b o, s.heap.get? b = some o → h'.get? b = some o) (sub : Same H H')
    (new : ∀ b o, H' b = some o → H b = some o ∨ (s.heap.get? b = none ∧ ObjOk X.prog X.w H' h' b o)) : Inv X pins σ H' { s with heap := h', toks := t' } := by
  refine I.un ⟨fun b o e _ _ _ => k b o e, fun b o e _ _ _ => ⟨o.slots, k b o e⟩, fun b o e n _ => ?_, fun b o e _ => ⟨o, k b o e⟩, fun b xs e => sub _ _ e, fun b o u e => sub _ _ e, fun b ps e => ⟨#[], by rw [sub _ _ e]; simp⟩⟩ fun b o e => ?_
  · cases q : H' b with
    | none => rfl
    | some u =>
      rcases new b u q with z | ⟨z, _⟩
      · rw [n] at z; cases z
      · rw [z] at e; cases e
  · rcases new b o e with z | ⟨_, z⟩
    · exact (I.hok b o z).stay (fun c u _ q => k c u q) (fun c q => sub _ _ q) fun c xs q => sub _ _ q
    · exact z
end
end L2

set_option Elab.async false
set_option linter.all false
set_option maxRecDepth 100000
namespace Np
open L2 PySem
end Np

set_option Elab.async false
set_option linter.all false
set_option maxRecDepth 100000
namespace L2
open PySem PySem.Spec PyProof.Rows
section
variable {X : Cx} {tg : Expr}
/-! ### list(range(n)) -/
end
end L2
namespace L2
open PySem PySem.Spec PyProof.Rows
/-! ### reversed(range(n)) -/
section
variable {prog : Program} {w : World} {A : Around} {E : Value → Shared → Prop} {s : Shared}
end
section
variable {X : Cx} {tg : Expr}
end
end L2

set_option Elab.async false
set_option linter.all false
set_option maxRecDepth 100000
namespace L2
open PySem PySem.Spec PyProof.Rows
theorem Def.okH {P : Program} {w : World} {K : PySem.W.Frag} {mg : Str → Option Value} {base : Heap} {x : Str} {st : Stmt} {N ps : List Str} {k : Nat} {sp : Sp} (D : Def K mg x st ps) (S : FnScope N ps (defScope st)) (len : ∀ vs H Q E, sp vs H Q E → vs.length = ps.length)
    (hbody : ∀ (f : Addr) (cdv : Value) (A : Around) (outer : List Env) (s : Shared) (H : Hp) (vs : List V) (Q : VK) (E : XK), Room k (A.deeper (envOfC x (defScope st) s.heap.objs.size f cdv)) → sp vs H Q E →
      ∃ t, PSs (cxOf CX0 P w K mg base N x (defScope st) f cdv A outer s H E).nox (defBody st) t ∧ t { nx := fun _ H' => Q .non H', rt := Q } (start N vs) H) : Cal P w K mg base (k + 1) x ps sp := by
  obtain ⟨f, fd, F, b, m⟩ := D.ex
  exact ⟨f, fd, m, F.kp, b, F.ok S len (hbody f)⟩
end L2
namespace Np
open L2 PySem
end Np

set_option Elab.async false
set_option linter.all false
set_option maxRecDepth 100000
set_option maxHeartbeats 4000000
namespace L2
open PySem
/-! ### an exception of the text's own classes, as it lies in the heap -/
def excO (cls t tb : Value) : Obj := { cls := cls, data := .fields #[t, tb, .none, .none, .bool false, .none] }
structure Fly (h : Heap) (e : Addr) (cls : Value) (T : Addr) : Prop where
  ob : ∃ t, h.get? e = some (excO cls t (.ref T))
  ne : T ≠ e
  tb : ∃ oT ts, h.get? T = some oT ∧ oT.data = .fields ts ∧ ts[3]? = some Value.none
/-- what a note in an exception's trace changes: the records at as, the slots of the frames at fs -/
structure Trod (as fs : List Addr) (h h' : Heap) : Prop where
  keep : ∀ b o, b ∉ as → b ∉ fs → h.get? b = some o → h'.get? b = some o
  slot : ∀ b o, b ∉ as → h.get? b = some o → ∃ sl, h'.get? b = some { o with slots := sl }
  there : ∀ b o, h.get? b = some o → ∃ o', h'.get? b = some o'
  size : h.objs.size ≤ h'.objs.size
theorem Trod.trans {as fs : List Addr} {h h1 h2 : Heap} (x : Trod as fs h h1) (y : Trod as fs h1 h2) : Trod as fs h h2 where
  keep := fun b o ha hf e => y.keep b o ha hf (x.keep b o ha hf e)
  slot := fun b o ha e => by
    obtain ⟨s1, e1⟩ := x.slot b o ha e
    obtain ⟨s2, e2⟩ := y.slot b _ ha e1
    exact ⟨s2, e2⟩
  there := fun b o e => let ⟨o1, e1⟩ := x.there b o e; y.there b o1 e1
  size := Nat.le_trans x.size y.size
theorem Trod.mono {as as' fs fs' : List Addr} {h h' : Heap} (x : Trod as fs h h') (ha : ∀ b ∈ as, b ∈ as') (hf : ∀ b ∈ fs, b ∈ fs') : Trod as' fs' h h' :=
  ⟨fun b o na nf e => x.keep b o (fun z => na (ha b z)) (fun z => nf (hf b z)) e, fun b o na e => x.slot b o (fun z => na (ha b z)) e, x.there, x.size⟩
theorem Trod.put {h : Heap} {a : Addr} {o : Obj} {vs : Array Value} {fs : List Addr} (e : h.get? a = some o) (d : o.data = .fields vs) (f : Array Value → Array Value) : Trod [a] fs h (h.update a (Obj.mapFields f)) where
  keep := fun b u na _ q => (Heap.get?_update_other _ _ (fun z => na (by simp [z]))).trans q
  slot := fun b u na q => ⟨u.slots, (Heap.get?_update_other _ _ (fun z => na (by simp [z]))).trans q⟩
  there := fun b u q => by
    by_cases hb : b = a
    · subst hb
      exact ⟨_, Heap.get?_update_self _ e (Obj.isFreed_of_fields (Obj.data_mapFields d f))⟩
    · exact ⟨u, (Heap.get?_update_other _ _ (Ne.symm hb)).trans q⟩
  size := Nat.le_of_eq (Heap.size_after_update ..).symm

section
variable {M : Model} {A : Around} {E : Value → Shared → Prop} {s : Shared} {e : Addr} {cls t tb0 : Value} {Q : Unit → Shared → Prop}
theorem flight_off {T : Addr} {h : Heap} {oT : Obj} {ts : Array Value} (e1 : h.get? e = some (excO cls t (.ref T))) (e2 : h.get? T = some oT) (d : oT.data = .fields ts) (hz : 3 < ts.size) (ne : T ≠ e)
    (q : ∀ h', Trod [T] [] h h' → Fly h' e cls T → Q () { s with heap := h' }) : wpAny M A (setFlight (.ref e) none) Q E { s with heap := h } := by
  unfold setFlight
  refine wpAny_bind (wpAny_field e1 rfl (x := .ref T) rfl ?_)
  rw [if_pos (by simp)]
  refine wpAny_setField e2 d hz (q _ (Trod.put e2 d _) ⟨⟨t, (Heap.get?_update_other _ _ ne).trans e1⟩, ne, _, _, Heap.get?_update_self _ e2 (Obj.isFreed_of_fields (Obj.data_mapFields d _)), Obj.data_mapFields d _, ?_⟩)
  rw [Array.getElem?_setIfInBounds_self_of_lt hz]
  rfl
theorem tail_x {g : Heap} {ob : Obj} {ts : Array Value} (he : g.get? e = some (excO cls t tb0)) (d : ob.data = .fields ts) (hz : 3 < ts.size)
    (q : ∀ h', Trod [e] [] g h' → Fly h' e cls g.objs.size → Q () { s with heap := h' }) :
    wpAny M A (setField (.ref e) 1 (.ref g.objs.size)) (fun _ s' => wpAny M A (setFlight (.ref e) none) Q E s') E { s with heap := g.push ob } := by
  have hne : g.objs.size ≠ e := Nat.ne_of_gt (Heap.lt_size he)
  have h2 : (g.push ob).get? e = some (excO cls t tb0) := Heap.get?_push_of_some ob he
  refine wpAny_setField h2 rfl (by simp) ?_
  have h3 : ((g.push ob).update e (Obj.mapFields (·.setIfInBounds 1 (Value.ref g.objs.size)))).get? e = some (excO cls t (.ref g.objs.size)) :=
    (Heap.get?_update_self _ h2 rfl).trans rfl
  have hT : ((g.push ob).update e (Obj.mapFields (·.setIfInBounds 1 (Value.ref g.objs.size)))).get? g.objs.size = some ob :=
    (Heap.get?_update_other _ _ (Ne.symm hne)).trans (Heap.get?_push_size g (Obj.isFreed_of_fields d))
  refine flight_off (s := s) h3 hT d hz hne fun h' tr fl => q h' ⟨fun b o na nf q => ?_, fun b o na q => ?_, fun b o q => ?_, ?_⟩ fl
  all_goals have old : ∀ b o, b ≠ e → g.get? b = some o → ((g.push ob).update e (Obj.mapFields (·.setIfInBounds 1 (Value.ref g.objs.size)))).get? b = some o := fun b o nb q => (Heap.get?_update_other _ _ (Ne.symm nb)).trans (Heap.get?_push_of_some ob q)
  · exact tr.keep b o (by simpa using Nat.ne_of_lt (Heap.lt_size q)) (by simp) (old b o (by simpa using na) q)
  · exact tr.slot b o (by simpa using Nat.ne_of_lt (Heap.lt_size q)) (old b o (by simpa using na) q)
  · by_cases hb : b = e
    · subst hb; exact tr.there _ _ h3
    · exact tr.there _ _ (old b o hb q)
  · have := tr.size
    rw [Heap.size_after_update, Heap.size_push] at this
    omega
theorem entry_x {base : Heap} {env : Env} {outer : List Env} {L : Addr} {head : Value} {had : Bool} (hfr : A.frames = some (env :: outer)) (hl : s.heap.FunFrames base (env :: outer)) (hf : env.frame = some L)
    (he : s.heap.get? e = some (excO cls t tb0)) (q : ∀ h' T, Trod [e] ((env :: outer).filterMap (·.frame)) s.heap h' → s.heap.objs.size ≤ T → Fly h' e cls T → Q () { s with heap := h' }) :
    wpAny M A (do let fo ← frameOf env; let pl ← entryPlaceOf L had; let x ← EntryCells.newEntry head fo .none (rawInt L) .none pl; setField (.ref e) 1 x) (fun _ s' => wpAny M A (setFlight (.ref e) none) Q E s') E s := by
  have ne : e ∉ (env :: outer).filterMap (·.frame) := fun hm => by
    obtain ⟨_, o, ho, nf⟩ := hl.mem hm
    rw [he] at ho
    cases ho
    exact nf _ rfl
  refine wpAny_bind (wpAny_frameOf_fun hfr hl hf fun g sg => wpAny_bind (wpAny_entryPlaceOf fun pl hp => ?_))
  unfold EntryCells.newEntry newFields
  refine wpAny_bind (wpAny_newObj_type ?_ (hp.sizeOk5 _ _ _ _ _))
  refine tail_x (s := s) ((sg.2.1 e ne).trans he) rfl (by simp only [List.size_toArray, List.length_append, List.length_cons, List.length_nil] <;> omega) fun h' tr fl => ?_
  refine q h' _ ⟨fun b o na nf eb => tr.keep b o na (by simp) ((sg.2.1 b nf).trans eb), fun b o na eb => ?_, fun b o eb => ?_, ?_⟩ (Nat.le_of_eq sg.1.symm) fl
  · obtain ⟨sl, e1⟩ := sg.2.2 b o eb
    obtain ⟨sl', e2⟩ := tr.slot b _ na e1
    exact ⟨sl', e2⟩
  · obtain ⟨sl, e1⟩ := sg.2.2 b o eb
    exact tr.there b _ e1
  · exact Nat.le_trans (Nat.le_of_eq sg.1.symm) tr.size
/-- the first frame that an exception leaves (or is looked at in) -/
theorem note_first {base : Heap} {env : Env} {outer : List Env} {L : Addr} (hfr : A.frames = some (env :: outer)) (hl : s.heap.FunFrames base (env :: outer)) (hf : env.frame = some L)
    (he : s.heap.get? e = some (excO cls t .none)) (q : ∀ h' T, Trod [e] ((env :: outer).filterMap (·.frame)) s.heap h' → s.heap.objs.size ≤ T → Fly h' e cls T → Q () { s with heap := h' }) :
    wpAny M A (noteFrame (.ref e) env) (fun _ s' => wpAny M A (setFlight (.ref e) none) Q E s') E s := by
  unfold noteFrame
  simp only [hf]
  refine wpAny_bind (wpAny_field he rfl (x := .none) rfl ?_)
  rw [if_neg (by decide)]
  exact entry_x hfr hl hf he q
theorem note_next {base : Heap} {env : Env} {outer : List Env} {L T0 : Addr} (hfr : A.frames = some (env :: outer)) (hl : s.heap.FunFrames base (env :: outer)) (hf : env.frame = some L)
    (fl : Fly s.heap e cls T0) (q : ∀ h' T, Trod [e, T0] ((env :: outer).filterMap (·.frame)) s.heap h' → s.heap.objs.size ≤ T → Fly h' e cls T → Q () { s with heap := h' }) :
    wpAny M A (noteFrame (.ref e) env) (fun _ s' => wpAny M A (setFlight (.ref e) none) Q E s') E s := by
  obtain ⟨⟨t, he⟩, ne, oT, ts, eT, dT, h3⟩ := fl
  unfold noteFrame
  simp only [hf]
  refine wpAny_bind (wpAny_field he rfl (x := .ref T0) rfl ?_)
  rw [if_pos (by simp)]
  refine wpAny_bind (wpAny_field eT dT h3 ?_)
  rw [if_neg (by simp [rawInt])]
  have hz := (Array.getElem?_eq_some_iff.mp h3).1
  refine wpAny_bind (wpAny_setField eT dT hz ?_)
  have tr := Trod.put (fs := (env :: outer).filterMap (·.frame)) eT dT (·.setIfInBounds 3 Value.none)
  have nT : ∀ b o, s.heap.get? b = some o → (∀ vs, o.data ≠ .fields vs) → b ∉ [T0] := fun b o eb nf hb => by
    have hb : b = T0 := by simpa using hb
    subst hb
    rw [eT] at eb
    cases eb
    exact nf _ dT
  refine entry_x (base := base) hfr (hl.of_keeps fun b o eb nf => ?_) hf (cls := cls) (t := t) (tb0 := .ref T0) ((Heap.get?_update_other _ _ ne).trans he) fun h' T tr2 sz f2 => ?_
  · obtain ⟨sl, e1⟩ := tr.slot b o (nT b o eb nf) eb
    exact ⟨_, e1, rfl⟩
  · refine q h' T ((tr.mono (by simp) (fun _ z => z)).trans (tr2.mono (by simp) (fun _ z => z))) ?_ f2
    rw [Heap.size_after_update] at sz
    exact sz
theorem leave_first {base : Heap} {env : Env} {outer : List Env} {L : Addr} (hfr : A.frames = some (env :: outer)) (hl : s.heap.FunFrames base (env :: outer)) (hf : env.frame = some L)
    (he : s.heap.get? e = some (excO cls t .none)) (q : ∀ h' T, Trod [e] ((env :: outer).filterMap (·.frame)) s.heap h' → s.heap.objs.size ≤ T → Fly h' e cls T → Q () { s with heap := h' }) :
    wpAny M A (leaving env (.ref e)) Q E s := wpAny_bind (note_first hfr hl hf he q)
theorem leave_next {base : Heap} {env : Env} {outer : List Env} {L T0 : Addr} (hfr : A.frames = some (env :: outer)) (hl : s.heap.FunFrames base (env :: outer)) (hf : env.frame = some L)
    (fl : Fly s.heap e cls T0) (q : ∀ h' T, Trod [e, T0] ((env :: outer).filterMap (·.frame)) s.heap h' → s.heap.objs.size ≤ T → Fly h' e cls T → Q () { s with heap := h' }) :
    wpAny M A (leaving env (.ref e)) Q E s := wpAny_bind (note_next hfr hl hf fl q)
end
/-- whether an own exception is of an own class -/
theorem matches_own {M : Model} {A : Around} {E : Value → Shared → Prop} {nm' q' : Str} {C D N' : Addr} {bs' bm' : List Value} {hdct' : Bool} {sn' : List Str} {sub' : List Value} {ab' : Bool} {col' : Option Bool} {dd' : Option Addr} {j0 j1 j2 j3 j5 : Option Value} {newId' : String}
    {h : Heap} {g : Array GenState} {d : Drawn} {t : Nat} {os : OsState} {e : Addr} {oe : Obj} {Q : Bool → Shared → Prop} {b : Bool}
    (hC : ∀ (Q : Bool → Shared → Prop), Q b ⟨h, g, d, t, os⟩ → wpAny M A (isSubtype (.ref C) (.ref D)) Q E ⟨h, g, d, t, os⟩) (hD : h.get? D = some (excClassObj nm' q' D N' bs' bm' hdct' sn' sub' ab' col' dd' j0 j1 j2 j3 j5 newId'))
    (he : h.get? e = some oe) (hcls : oe.cls = .ref C) (hbase : bm'.contains (.type "BaseException") = true) (hq : Q b ⟨h, g, d, t, os⟩) :
    wpAny M A (excMatches (.ref e) (.ref D)) Q E ⟨h, g, d, t, os⟩ := by
  have hcB : (Value.ref D :: bm').contains (.type "BaseException") = true := by rw [List.contains_cons, hbase, Bool.or_true]
  have f := tc_notTuple
  unfold excMatches
  repeat (first | (with_reducible refine wpAny_loadPart_at he ?_; rw [hcls]) | with_reducible refine wpAny_loadPart_at hD ?_ | (with_reducible refine wpAny_isSubtype_exc hD ?_; rw [hcB]) | with_reducible refine hC _ ?_ | wp_step)
  cases b <;> (wp_walk; exact hq)
end L2
namespace L2
open PySem
section
variable {prog : Program} {w : World} {A : Around} {E : Value → Shared → Prop} {s : Shared} {e : Addr} {cls t tb : Value}
end
end L2
namespace L2
open PySem PySem.Spec PyProof.Rows
/-! ### an exception that leaves a call -/
structure Ec where
  pileError : Addr
  noShares : Addr
  noPile : Addr
  noSign : Addr
  noSlot : Addr
  noMore : Addr
  noText : Addr
  notLeaf : Addr
abbrev bmV : List Value := [.type "ValueError", .type "Exception", .type "BaseException", .type "object"]
theorem exc_obj {K : PySem.W.Frag} {h : Heap} {C : Addr} {bmB : List Value} {nid : String} (X : K.In h) (q : PySem.W.excIn K C bmB nid = true) :
    ∃ bm N nm qn bs hdct sn sub ab col dd k0 k1 k2 k3 k5 mN, h.get? C = some (excClassObj nm qn C N bs bm hdct sn sub ab col dd k0 k1 k2 k3 k5 nid) ∧ h.Ns N mN ∧ mN "__init__" = none ∧ OwnTail h bmB bm := by
  unfold PySem.W.excIn at q
  split at q
  · rename_i dd cd sl lk
    split at q
    · rename_i C2 bm k0 k1 k2 k3 n k5 em es
      simp only [Bool.and_eq_true, beq_iff_eq, Bool.not_eq_true'] at q
      obtain ⟨⟨⟨⟨⟨e1, e2⟩, nd⟩, tl⟩, ok⟩, ni⟩ := q
      subst e1 e2
      obtain ⟨nm, bs, mro, ns, qn, hd, sn, sub, ab, col, del⟩ := cd
      dsimp only at em nd ok ni
      subst em nd
      obtain ⟨l⟩ := sl
      dsimp only at es
      subst es
      exact ⟨bm, ns, nm, qn, bs, hd, sn, sub, ab, col, dd, k0, k1, k2, k3, k5, _, X _ _ lk, .of_isNs (PySem.W.isNs_of_in X ok), PySem.W.nsMap_none_of_in X ok ni, PySem.W.tail_of_in X tl⟩
    · cases q
  · cases q
theorem ObjOk.is {P : Program} {w : World} {H : Hp} {h : Heap} {a : Addr} {o : HO} (x : ObjOk P w H h a o) : ∃ u, h.get? a = some u := by
  cases o with
  | lst xs => obtain ⟨_, _, _, _, e⟩ := x; exact ⟨_, e⟩
  | tup xs => obtain ⟨_, _, _, p⟩ := x; obtain ⟨o, e, _⟩ := p; exact ⟨o, e⟩
  | dK kvs => obtain ⟨_, _, _, _, o, _, _, e, _⟩ := x; exact ⟨_, e⟩
  | dT kvs => exact (show False from x).elim
  | set S n => obtain ⟨o, _, _, _, e, _⟩ := x; exact ⟨_, e⟩
  | ins C dx fs => obtain ⟨_, _, _, e, _⟩ := x; exact ⟨_, e⟩
  | own y => obtain ⟨o, e⟩ := x; exact ⟨o, e⟩
  | xd fs => obtain ⟨_, ⟨_, _, _, e, _⟩, _⟩ := x; exact ⟨_, e⟩
  | rng lo hi => obtain ⟨_, _, _, e⟩ := x; exact ⟨_, e⟩
  | frz ob u => obtain ⟨e, _⟩ := x; exact ⟨_, e⟩
  | tbl ps => exact ⟨_, show h.get? a = some _ from x⟩
  | met f y => exact ⟨_, show h.get? a = some _ from x⟩
  | ext φ => obtain ⟨_, ⟨o, e⟩, _⟩ := x; exact ⟨o, e⟩
theorem HOk.none_of {P : Program} {w : World} {H : Hp} {h : Heap} {a : Addr} (ok : HOk P w H h) (e : h.get? a = none) : H a = none := by
  cases q : H a with
  | none => rfl
  | some o =>
    obtain ⟨u, eu⟩ := (ok a o q).is
    rw [e] at eu
    cases eu
section
variable {X : Cx} {pins : List (Addr × Obj)} {σ : St} {H H' : Hp} {s s' : Shared} {E : XK} {h' : Heap} {b : Addr}
/-- a record of ours that may turn: untracked, not the frame, not there at the entry -/
def FpX (X : Cx) (pins : List (Addr × Obj)) (H : Hp) (b : Addr) : Prop :=
  H b = none ∧ b ≠ X.env.locals ∧ X.s₀.heap.get? b = none ∧ (∀ x c, X.env.cells.lookup x = some c → c ≠ b) ∧ ∀ p ∈ X.pn ++ pins, p.1 ≠ b
theorem Inv.fpX (I : Inv X pins σ H s) (hex : X.ex = []) (hb : s.heap.get? b = none) (hn : H' b = none) : FpX X pins H' b := by
  refine ⟨hn, fun z => ?_, ?_, fun x c e z => ?_, fun p hp z => ?_⟩
  · obtain ⟨m, ⟨o, _, _, ho, _⟩, _⟩ := I.loc
    rw [z, ho] at hb
    cases hb
  · cases q : X.s₀.heap.get? b with
    | none => rfl
    | some o =>
      obtain ⟨o', e⟩ := I.base.there b o q (by rw [hex]; simp)
      rw [hb] at e
      cases e
  · obtain ⟨v, o, ho, _⟩ := I.cell x c e
    rw [z, hb] at ho
    cases ho
  · have := (I.pin p hp).1
    rw [z, hb] at this
    cases this
theorem Inv.trod {as : List Addr} (I : Inv X pins σ H s) (tr : Trod as (frs X.stack) s.heap h') (ha : ∀ b ∈ as, FpX X pins H b) : Inv X pins σ H { s with heap := h' } := by
  have nst : ∀ b, b ≠ X.env.locals → b ∉ X.fs → b ∉ frs X.stack := fun b n1 n2 z => (List.mem_cons.mp (I.stkSub b z)).elim n1 n2
  have neL : ∀ b o, X.s₀.heap.get? b = some o → b ≠ X.env.locals := fun b o e => Nat.ne_of_lt (Nat.lt_of_lt_of_le (Heap.lt_size e) I.ok.above)
  have nas : ∀ b o, X.s₀.heap.get? b = some o → b ∉ as := fun b o e z => by
    have := (ha b z).2.2.1
    rw [e] at this
    cases this
  have cellK : ∀ x c, X.env.cells.lookup x = some c → ∀ v, s.heap.IsCell c v → h'.IsCell c v := fun x c e v ⟨o, ho, hd⟩ => by
    obtain ⟨sl, q⟩ := tr.slot c o (fun z => (ha c z).2.2.2.1 x c e rfl) ho
    exact ⟨_, q, hd⟩
  have trkd : ∀ c u, H c = some u → c ∉ as ∧ c ∉ frs X.stack := fun c u e => ⟨(fun z => by rw [(ha c z).1] at e; cases e), (fun z => by rw [I.stkFree c z] at e; cases e)⟩
  refine ⟨I.ok, I.os, I.bare, ⟨fun b o e n hb hx => ?_, fun b o e n hb hx => ?_, fun b o e n hx => I.base.free b o e n hx, fun b o e hx => ?_, I.base.tups, I.base.frzs, I.base.tbls⟩, ?_, fun x c e => ?_, I.free, I.freeC, fun p hp => ?_, fun b u e => ?_, I.len⟩
  · exact tr.keep b o (nas b o e) (nst b (neL b o e) hb) (I.base.keep b o e n hb hx)
  · obtain ⟨sl, e1⟩ := I.base.slot b o e n hb hx
    obtain ⟨sl', e2⟩ := tr.slot b _ (nas b o e) e1
    exact ⟨sl', e2⟩
  · obtain ⟨o', e1⟩ := I.base.there b o e hx
    exact tr.there b o' e1
  · obtain ⟨m, hn, hl⟩ := I.loc
    have hn' : h'.Ns X.env.locals m := by
      obtain ⟨o, es, ep, ho, r⟩ := hn
      obtain ⟨sl, e⟩ := tr.slot _ o (fun z => (ha _ z).2.1 rfl) ho
      exact ⟨_, es, ep, e, r⟩
    refine ⟨m, hn', fun i x v e1 e2 e3 => ?_⟩
    obtain ⟨u, r, l⟩ := hl i x v e1 e2 e3
    refine ⟨u, r, ?_⟩
    rcases l with l | ⟨k, c, e, z⟩
    · exact .inl l
    · exact .inr ⟨k, c, e, cellK x c e _ z⟩
  · obtain ⟨v, z⟩ := I.cell x c e
    exact ⟨v, cellK x c e v z⟩
  · obtain ⟨e, n, ne, nf, d⟩ := I.pin p hp
    exact ⟨tr.keep p.1 p.2 (fun z => (ha _ z).2.2.2.2 p hp rfl) (nst _ ne nf) e, n, ne, nf, d⟩
  · refine (I.hok b u e).stay (fun c v hc q => ?_) (fun _ q => q) fun _ _ q => q
    have t : ∃ u, H c = some u := by
      rcases hc with z | z
      · exact ⟨u, by rw [z]; exact e⟩
      · exact ⟨_, z⟩
    obtain ⟨u', e'⟩ := t
    exact tr.keep c v (trkd c u' e').1 (trkd c u' e').2 q
/-- how an exception lies behind a call -/
def CXE (P : Program) (w : World) : CXT := fun outer H s E x s' => ∃ e C T H', x = .ref e ∧ s'.os = s.os ∧ AllBare s'.gens ∧ Un (frs outer) [] H H' s.heap s'.heap ∧ HOk P w H' s'.heap ∧ Fly s'.heap e (.ref C) T ∧
  (H' e = none ∧ H' T = none) ∧ (s.heap.get? e = none ∧ s.heap.get? T = none) ∧ E (.ref C) none H'
/-- .. and behind an expression, in this frame -/
def XP (X : Cx) (pins : List (Addr × Obj)) (σ : St) (E : XK) (x : Value) (s' : Shared) : Prop := ∃ e C T H', x = .ref e ∧ Inv X pins σ H' s' ∧ Fly s'.heap e (.ref C) T ∧ FpX X pins H' e ∧ FpX X pins H' T ∧ E (.ref C) none H'
theorem Inv.xp {x : Value} (I : Inv X pins σ H s) (hex : X.ex = []) (h : CXE X.prog X.w X.stack H s E x s') : XP X pins σ E x s' := by
  obtain ⟨e, C, T, H', rfl, os, bare, un, hok, fl, ⟨n1, n2⟩, ⟨m1, m2⟩, q⟩ := h
  exact ⟨e, C, T, H', rfl, I.call' os un hok bare (fun b z => absurd z (by simp)), fl, I.fpX hex m1 n1, I.fpX hex m2 n2, q⟩
end
section
variable {P : Program} {w : World} {K : PySem.W.Frag} {mg : Str → Option Value} {base : Heap} {N : List Str} {qual : Str} {scope : Scope} {f : Addr} {cd : Value} {A : Around} {outer : List Env} {s : Shared} {H : Hp} {E : XK}
theorem XP.leave {pins : List (Addr × Obj)} {σ : St} {x : Value} {s' : Shared} (h : XP (cxOf (CXE P w) P w K mg base N qual scope f cd A outer s H E) pins σ E x s') : (cxOf (CXE P w) P w K mg base N qual scope f cd A outer s H E).xe x s' := by
  obtain ⟨e, C, T, H', rfl, I, fl, fe, fT, q⟩ := h
  refine leave_next (base := base) I.ok.frames I.stack rfl fl fun h' T' tr sz fl' => ?_
  have I2 := I.trod tr (fun b hb => by
    rcases List.mem_cons.mp hb with z | z
    · rw [z]; exact fe
    · have : b = T := by simpa using z
      rw [this]; exact fT)
  exact ⟨e, C, T', H', rfl, I2.os, I2.bare, I2.base, I2.hok, fl', ⟨fe.1, I.hok.fresh sz⟩, ⟨fe.2.2.1, Heap.get?_none_of_le (Nat.le_trans I.sz sz)⟩, q⟩
/-- what a raise is to reach -/
def RaisesTo (X : Cx) (E : XK) : Prop := ∀ (pins : List (Addr × Obj)) (σ : St) (H : Hp) (s : Shared) (e C : Addr) (t : Value), Inv X pins σ H s → s.heap.get? e = some (excO (.ref C) t .none) → FpX X pins H e → E (.ref C) none H → X.xe (.ref e) s
theorem raise_x : RaisesTo (cxOf (CXE P w) P w K mg base N qual scope f cd A outer s H E) E := by
  intro pins σ H1 s1 e C t I he fe q
  refine leave_first (base := base) I.ok.frames I.stack rfl he fun h' T' tr sz fl' => ?_
  have I2 := I.trod tr (fun b hb => by
    have : b = e := by simpa using hb
    rw [this]; exact fe)
  exact ⟨e, C, T', H1, rfl, I2.os, I2.bare, I2.base, I2.hok, fl', ⟨fe.1, I.hok.fresh sz⟩, ⟨fe.2.2.1, Heap.get?_none_of_le (Nat.le_trans I.sz sz)⟩, q⟩
end
/-! ### raise -/
def tRaise (C : Addr) (E : XK) (t : TA) : TS := fun _ σ H => t σ H fun vs H1 => vs.length ≤ sizeLine ∧ E (.ref C) none H1
theorem ps_raise {X : Cx} {E : XK} {x : Str} {C : Addr} {e₀ : Expr} {es : List Expr} {t : TA} {np cpos pos : Pos} (hr : RaisesTo X E) (hc : X.calm = true) (hex : X.ex = []) (hg : Gl X x) (hm : X.mg x = some (.ref C)) (ho : PySem.W.excIn X.K C bmV "ValueError.__new__" = true) (ha : PA X (e₀ :: es) t)
    (hdb : (x == ("__debug__" : Str)) = false := by decide) (he : starEach (e₀ :: es) X.env = (false, eval e₀ X.env) :: starEach es X.env := by rfl) (hpl : (backTo cpos (starEach es X.env)).any (·.1) = false := by rfl) :
    PS X (.Raise (some (.Call (.Name x np) (e₀ :: es) [] cpos)) none pos) (tRaise C E t) := by
  intro pins s σ H D I h
  obtain ⟨bm, N, nm, qn, bs, hdct, sn, sub, ab, col, dd, k0, k1, k2, k3, k5, mN, hC, hN, hni, T⟩ := exc_obj I.ok.mod.kin ho
  refine wpAny_Raise_call_subU (C := C) (nm := nm) (q := qn) (N := N) (bs := bs) (bm := bm) (hdct := hdct) (sn := sn) (sub := sub) (ab := ab) (col := col) (dd := dd) (k0 := k0) (k1 := k1) (k2 := k2) (k3 := k3) (k5 := k5)
    PySem.F.excBase_ValueError (by decide) PySem.F.excBase_ValueError (mN := mN) (T.hasType (by decide)) (I.ok.hd hc) (by rw [he]; show (false || (backTo cpos (starEach es X.env)).any (·.1)) = false; rw [hpl]; rfl) hni (ld_glob I hg hm ⟨rfl, ?_⟩ hdb)
  have hz := ha cpos pins s σ H _ I h
  rw [he] at hz ⊢
  refine Calls.evalArgs_plain (thn hz fun us s2 ⟨vs, H1, I1, r, z, q⟩ => ⟨rfl, by rw [← r.length]; exact z, I1.bk _ _ hC, hN.keeps I1.bk, T.keeps I1.bk, fun h' e hm => ?_⟩)
  obtain ⟨tt, a, _, _⟩ := hm.there
  exact hr pins σ H1 _ e C (.ref tt) (I1.kept (t' := s2.toks) hm.keeps) a (I1.fpX hex hm.new (I1.hok.none_of hm.new)) q
end L2
namespace L2
open PySem PySem.Spec PyProof.Rows
/-! ### a def that may raise -/
section
variable {P : Program} {w : World} {K : PySem.W.Frag} {mg : Str → Option Value} {base : Heap} {k j : Nat} {f C : Addr} {fd : FuncData} {ps N : List Str} {sp : Sp} {x m qual : Str} {st : Stmt}
structure CalX (P : Program) (w : World) (K : PySem.W.Frag) (mg : Str → Option Value) (base : Heap) (k : Nat) (x : Str) (ps : List Str) (sp : Sp) : Prop where
  ex : ∃ f fd, mg x = some (.ref f) ∧ PySem.W.keepIn K (.ref f) = true ∧ Binds K fd ps [] ∧ FnOk P w K mg base (CXE P w) k f fd ps sp
theorem CalX.mono (F : CalX P w K mg base j x ps sp) (h : j ≤ k) : CalX P w K mg base k x ps sp := let ⟨f, fd, a, b, c, d⟩ := F.ex; ⟨f, fd, a, b, c, d.mono h⟩
theorem Def.okX (D : Def K mg x st ps) (S : FnScope N ps (defScope st)) (len : ∀ vs H Q E, sp vs H Q E → vs.length = ps.length)
    (hbody : ∀ (f : Addr) (cdv : Value) (A : Around) (outer : List Env) (s : Shared) (H : Hp) (vs : List V) (Q : VK) (E : XK), Room k (A.deeper (envOfC x (defScope st) s.heap.objs.size f cdv)) → sp vs H Q E →
      ∃ t, PSs (cxOf (CXE P w) P w K mg base N x (defScope st) f cdv A outer s H E) (defBody st) t ∧ t { nx := fun _ H' => Q .non H', rt := Q } (start N vs) H) : CalX P w K mg base (k + 1) x ps sp := by
  obtain ⟨f, fd, F, b, m⟩ := D.ex
  obtain ⟨oc, od, kV, doc, pm, an, cdv, ct, osl, rfl, lk, hcd⟩ := F.ex
  exact ⟨f, _, m, F.kp, b, fn_of lk hcd S len fun A outer s H vs Q E hr hsp => hbody f cdv A outer s H vs Q E hr hsp⟩
end
/-! ### an expression that may raise -/
abbrev TX := St → Hp → VK → XK → Prop
def PX (X : Cx) (e : Expr) (t : TX) : Prop :=
  ∀ (pins : List (Addr × Obj)) (s : Shared) (σ : St) (H : Hp) (Q : VK) (E : XK), Inv X pins σ H s → t σ H Q E → wpAny (model X.prog X.w) X.A (eval e X.env) (EP X pins σ Q) (XP X pins σ E) s
section
variable {X : Cx} {k : Nat} {f C : Addr} {fd : FuncData} {ps : List Str} {sp : Sp} {E : XK} {x m : Str} {p pos apos : Pos} {e o : Expr} {es : List Expr} {ta te : TE} {t : TA} {tx : TX}
theorem PX.pe {P : Program} {w : World} {K : PySem.W.Frag} {mg : Str → Option Value} {base : Heap} {N : List Str} {qual : Str} {scope : Scope} {cd : Value} {A : Around} {outer : List Env} {s : Shared} {H : Hp}
    (h : PX (cxOf (CXE P w) P w K mg base N qual scope f cd A outer s H E) e tx) : PE (cxOf (CXE P w) P w K mg base N qual scope f cd A outer s H E) e (fun σ H Q => tx σ H Q E) :=
  fun pins s σ H Q I q => wpAny_mono (h pins s σ H Q E I q) (fun _ _ z => z) fun _ _ z => z.leave
theorem run_fnX {pins : List (Addr × Obj)} {σ : St} {H : Hp} {s : Shared} {Q : VK} {us : List Value} {vs : List V} (F : FnOk X.prog X.w X.K X.mg X.base (CXE X.prog X.w) k f fd ps sp) (hr : Room k X.A) (hb : Binds X.K fd ps []) (hex : X.ex = [])
    (I : Inv X pins σ H s) (r : Vals vs us) (h : sp vs H Q E) : wpAny (model X.prog X.w) X.A (call (.ref f) us) (EP X pins σ Q) (XP X pins σ E) s := by
  have hl : (us ++ []).length = ps.length := by rw [List.append_nil, ← r.length]; exact F.len _ _ _ _ h
  have hb' := hb s us I.kIn hl
  rw [List.append_nil] at hb'
  refine wpAny_call (codeAny_mono (F.run X.A X.stack s H ⟨us, []⟩ us vs Q E hr I.env0 hb' r h) fun r s' hq => ?_)
  cases r with
  | error e => exact I.xp hex hq
  | ok fl =>
    cases fl with
    | ret u => exact I.after hq
    | next => exact False.elim hq
    | brk => exact False.elim hq
    | cont => exact False.elim hq
theorem px_def (F : CalX X.prog X.w X.K X.mg X.base k x ps sp) (hr : Room k X.A) (hex : X.ex = []) (hg : Gl X x) (ha : PA X.nox (e :: es) t) (hdb : (x == ("__debug__" : Str)) = false := by decide) (he : starEach (e :: es) X.env = (false, eval e X.env) :: starEach es X.env := by rfl) (hpl : (backTo pos (starEach es X.env)).any (·.1) = false := by rfl) :
    PX X (.Call (.Name x p) (e :: es) [] pos) (fun σ H Q E => t σ H fun vs H1 => sp vs H1 Q E) := by
  obtain ⟨f, fd, hm, hk, hb, F⟩ := F.ex
  intro pins s σ H Q E I h
  refine wpAny_Call_Name_kw (ld_glob I hg hm ?_ hdb)
  refine PySem.W.callWith_K (h₀ := X.base) I.ok.mod.kin hk (wpAny_mono (ha pos pins s σ H _ (I.wish _) h) (fun us s1 ⟨vs, H1, I1, r, q⟩ => ⟨I1.unwish.kIn, ?_⟩) fun _ _ z => z.elim) he hpl
  exact run_fnX F hr hb hex I1.unwish r q
/-! ### a statement that may raise, its names as they stood ahead -/
abbrev TSX := Ends → XK → St → Hp → Prop
def PSx (X : Cx) (st : Stmt) (t : TSX) : Prop :=
  ∀ (pins : List (Addr × Obj)) (s : Shared) (σ : St) (H : Hp) (D : Ends) (E : XK), Inv X pins σ H s → t D E σ H → wpAny (model X.prog X.w) X.A (exec st X.env) (SP X pins D) (XP X pins σ E) s
theorem psx_set {i : Nat} {pos' : Pos} (hN : X.N.Nodup) (hi : X.N[i]? = some x) (hx : Loc X.env.scope x) (he : PX X e tx) (hs : swapsWith e (some (.Name x pos')) pos.line X.env = pure false := by rfl) (hf : X.fn x = true ∨ X.env.scope.names.lookup x = some .local := by first | exact .inl rfl | exact .inr rfl | assumption) :
    PSx X (.Assign [.Name x pos'] e pos) (fun D E σ H => tx σ H (fun v H1 => D.nx (σ.set i (some v)) H1) E) := by
  intro pins s σ H D E I h
  refine wpAny_Assign_Name (thn (he pins s σ H _ E I h) fun v s1 ⟨y, H1, I1, r1, q1⟩ => ?_) hs
  exact store_ok I1 hN hi hx r1 (fun s2 I2 => ⟨_, H1, I2, q1⟩) hf
end
/-! ### within an except suite -/
def Cx.inX (X : Cx) (e : Addr) (o : Obj) : Cx := { X with A := X.A.mark (some (.ref e)), calm := false, pn := X.pn ++ [(e, o)], xe := fun _ _ => False }
/-- what is being handled (if anything) has no context of its own and stays as it is -/
def HdX (X : Cx) : Prop := X.A.handled = none ∨ ∃ e cls t tb, X.A.handled = some (.ref e) ∧ (e, excO cls t tb) ∈ X.pn
section
variable {X : Cx} {pins : List (Addr × Obj)} {σ : St} {H : Hp} {s : Shared} {e : Addr} {o : Obj}
theorem inX_hd {cls t tb : Value} : HdX (X.inX e (excO cls t tb)) := .inr ⟨e, cls, t, tb, rfl, by simp [Cx.inX]⟩
theorem Inv.inX (I : Inv X pins σ H s) (he : s.heap.get? e = some o) (hd : ∃ vs, o.data = .fields vs) (hn : H e = none) : Inv (X.inX e o) pins σ H s := by
  obtain ⟨vs, hd⟩ := hd
  have ok := I.ok
  refine ⟨⟨ok.mod, ok.kind, ok.glob, ok.blt, ok.above, ok.inj, ok.has, ok.cab, (fun z => nomatch z), ok.frames, ok.stk, ok.exf, ok.bs, ok.bsz, ok.noex, ok.exfs, ok.funs, ok.frf⟩, I.os, I.bare, I.base, I.loc, I.cell, I.free, I.freeC, fun p hp => ?_, I.hok, I.len⟩
  rcases List.mem_append.mp hp with z | z
  · rcases List.mem_append.mp z with z | z
    · exact I.pin p (List.mem_append_left _ z)
    · have z : p = (e, o) := by simpa using z
      subst z
      refine ⟨he, hn, fun z => ?_, fun z => ?_, fun v z => ?_⟩
      · obtain ⟨m, ⟨o', es, ep, ho, hd', _⟩, _⟩ := I.loc
        rw [← show e = X.env.locals from z, he] at ho
        cases ho
        rw [hd] at hd'
        cases hd'
      · obtain ⟨_, o', ho, nf⟩ := I.funs.mem z
        rw [he] at ho
        cases ho
        exact nf _ hd
      · rw [hd] at z
        cases z
  · exact I.pin p (List.mem_append_right _ z)
theorem Inv.ofX (I : Inv (X.inX e o) pins σ H s) (hd : X.calm = true → X.A.handled = none) : Inv X pins σ H s := by
  have ok := I.ok
  exact ⟨⟨ok.mod, ok.kind, ok.glob, ok.blt, ok.above, ok.inj, ok.has, ok.cab, hd, ok.frames, ok.stk, ok.exf, ok.bs, ok.bsz, ok.noex, ok.exfs, ok.funs, ok.frf⟩, I.os, I.bare, I.base, I.loc, I.cell, I.free, I.freeC, fun p hp => I.pin p (by
    rcases List.mem_append.mp hp with z | z
    · exact List.mem_append_left _ (List.mem_append_left _ z)
    · exact List.mem_append_right _ z), I.hok, I.len⟩
end
/-! ### try: one statement; except: one own class -/
/-! ### a def that may be called while an exception is handled -/
section
variable {k j : Nat} {A : Around}
end
section
variable {P : Program} {w : World} {K : PySem.W.Frag} {mg : Str → Option Value} {base : Heap} {k j : Nat} {f C : Addr} {fd : FuncData} {ps N : List Str} {sp sp' : Sp} {x m qual : Str} {st : Stmt}
end
section
variable {X : Cx} {k : Nat} {f C : Addr} {fd : FuncData} {ps : List Str} {sp : Sp} {x m : Str} {p pos apos : Pos} {e o tg : Expr} {es : List Expr} {ta : TE} {t : TA}
end
end L2

set_option Elab.async false
set_option linter.all false
set_option maxRecDepth 100000
set_option maxHeartbeats 4000000
namespace Np
open L2 PySem
/-! ### tables kept beside a Follower -/
section
variable {T : Cl} {B H H' : Hp} {x : Addr} {own own' : List Addr} {M M' : Mo} {D : Addr} {as : List Addr} {kt : List (List Int)} {r : Addr} {rs : List Int}
end
end Np

set_option Elab.async false
set_option linter.all false
set_option maxRecDepth 100000
namespace L2
open PySem PySem.Spec PyProof.Rows
section
variable {X : Cx}
theorem call_minL (hc : X.calm = true) : CallR X (.builtin "min") (fun xs H Q => ∃ (a : Addr) (ns : List Int), xs = [.ref a] ∧ SqL X.K H a (ns.map V.int) ∧ 0 < ns.length ∧ ∀ i, i ∈ ns → (∀ j ∈ ns, i ≤ j) → Q (.int i) H) := by
  rintro pins s σ H xs us Q I r ⟨a, ns, rfl, h, h0, q⟩
  obtain ⟨u, rfl, ru⟩ := vals1 r
  cases (show u = .ref a from ru)
  obtain ⟨its, hv, pl, hz⟩ := I.list h
  have hi := intsAre_of hv
  obtain ⟨ys, e⟩ := hi.allInts.items
  have hns : ns = ys.toList.map (·.1) := by rw [← hi.numsOf, ← nums_intItems, ← e]
  have hsz : 0 < ys.size := by
    have h3 := h0
    rw [hns, List.length_map, Array.length_toList] at h3
    exact h3
  have hl : s.heap.IsList a (intItems ys) := e ▸ pl.isList
  refine min_intList (I.ok.hd hc) hl hsz fun v h' tk hv hk => ?_
  obtain ⟨t, rfl⟩ := intItems_at hv
  obtain ⟨h1, h2⟩ := argBest_lt (numAt ys) (ys.size - 1)
  refine ⟨.int _, H, I.kept hk, ⟨_, rfl⟩, q _ ?_ fun j hj => ?_⟩
  · rw [hns, numAt_eq]; exact getD_mem (by rw [List.length_map, Array.length_toList]; omega)
  · rw [hns] at hj
    obtain ⟨k, hk', rfl⟩ := mem_getD hj
    rw [List.length_map, Array.length_toList] at hk'
    rw [← numAt_eq]; exact h2 k (by omega)
/-! ### == of lists of lists that are the same throughout -/
end
end L2
namespace Np
open L2 PySem
/-! ### a comprehension that lays a table -/
/-! ### tables that are read -/
/-! ### hidden choices -/
structure Full (ns : List Int) : Prop where
  g : GoodC ns
  one : ∀ c ∈ ns, 1 ≤ c
structure Tabs (prior : List Int) (given back : List (List Int)) : Prop where
  p : Full prior
  g0 : given.length = prior.length
  gr : ∀ i, i < given.length → Full (given.getD i []) ∧ (given.getD i []).length = back.length
  br : ∀ i, i < back.length → Full (back.getD i []) ∧ (back.getD i []).length = prior.length
section
variable {prior : List Int} {given back : List (List Int)}
end
end Np

set_option Elab.async false
set_option linter.all false
set_option maxRecDepth 100000
namespace Np
open L2 PySem
/-! ### deeds that are undone -/
structure Tl where
  cs : List Int
  pr : List Int
  given : List (List Int)
  back : List (List Int)
structure Tl.Ok (D : Tl) : Prop where
  gc : GoodC D.cs
  cl : D.cs.length = 4
  tt : Tabs D.pr D.given D.back
  bl : D.back.length = 4
/-! the tools in the heap -/
end Np

set_option Elab.async false
set_option linter.all false
set_option maxRecDepth 100000
namespace L2
open PySem PySem.Spec PyProof.Rows
section
variable {X : Cx}
theorem ip_fdiv : PIp X .FloorDiv (fun x y H Q => ∃ i j, x = .int i ∧ y = .int j ∧ CDiv i j ∧ Q (.int (i / j)) H) := by
  rintro pins s σ H x y v u Q I rx ry ⟨i, j, rfl, rfl, hc, q⟩
  exact iop_fdiv pins s σ H _ _ v u Q I rx ry ⟨i, j, rfl, rfl, hc, q⟩
end
end L2
namespace Np
open L2 PySem
/-! ### streams -/
section
variable {b bd : Int} (hb : 2 ≤ b) (hd : 0 < bd)
include hb
end
section
variable {cs : List Int} {b g n : Int} {ws : List Int}
end
/-! the object -/
section
variable (b g lo n n' : Int) (kl wl : Addr)
end
end Np

set_option Elab.async false
set_option linter.all false
set_option maxRecDepth 100000
namespace L2
theorem us1 {α : Type} {P : List α → Prop} (h : ∀ a0, P [a0]) : ∀ us : List α, us.length = 1 → P us
  | [a0], _ => h a0
theorem us2 {α : Type} {P : List α → Prop} (h : ∀ a0 a1, P [a0, a1]) : ∀ us : List α, us.length = 2 → P us
  | [a0, a1], _ => h a0 a1
theorem us3 {α : Type} {P : List α → Prop} (h : ∀ a0 a1 a2, P [a0, a1, a2]) : ∀ us : List α, us.length = 3 → P us
  | [a0, a1, a2], _ => h a0 a1 a2
theorem us4 {α : Type} {P : List α → Prop} (h : ∀ a0 a1 a2 a3, P [a0, a1, a2, a3]) : ∀ us : List α, us.length = 4 → P us
  | [a0, a1, a2, a3], _ => h a0 a1 a2 a3
end L2
namespace Np
open L2 PySem
/-! ### two streams, and what is kept beside them -/
def ext (R H' : Hp) (l : List Addr) : Hp := fun b => if b ∈ l then H' b else R b
structure D11 where
  x : Addr
  kl : Addr
  wl : Addr
  s : Addr
  w : Addr
  r : Addr
  c : Addr
  cs : List Int
  b : Int
  g : Int
  n : Int
  ws : List Int
def D11.to (d : D11) (s w : Addr) (n : Int) (ws : List Int) : D11 := { d with s := s, w := w, n := n, ws := ws }
end Np

set_option Elab.async false
set_option linter.all false
set_option maxRecDepth 100000
namespace L2
open PySem PySem.Spec PyProof.Rows
section
variable {X : Cx} {k : Nat} {m : Str} {ps : List Str} {pos apos : Pos} {e o : Expr} {ta : TE}
end
/-! ### a walk over a list while an exception is handled -/
section
variable {X : Cx}
end
end L2
namespace Np
open L2 PySem
/-! ### the history of a stream -/
/-! what a stream that has no words gives -/
/-! one stream and what stays beside it -/
section
variable {T : Cl} {R H H' : Hp} {x kl wl : Addr} {cs : List Int} {b g : Int} {s s' : Int × List Int}
end
end Np

set_option Elab.async false
set_option linter.all false
set_option maxRecDepth 100000
namespace L2
open PySem PySem.Spec PyProof.Rows
/-! ### enumerate of a list -/
section
variable {X : Cx} {elts : List Expr} {pt : Pos}
end
end L2

set_option Elab.async false
set_option linter.all false
set_option maxRecDepth 100000
namespace L2
open PySem PySem.Spec PyProof.Rows
/-! ### a dict of ints: empty, in, a new key, len -/
section
variable {X : Cx}
end
end L2

set_option Elab.async false
set_option linter.all false
set_option maxRecDepth 100000
namespace Np
open L2 PySem
/-! ### the step -/
/-! ### the deal -/
end Np

set_option Elab.async false
set_option linter.all false
set_option maxRecDepth 100000
namespace Np
open L2 PySem
theorem szlt {n : Nat} (h : n ≤ 199999) : n < sizeLine := by rw [sizeLine_eq]; omega
/-! ### how many slots a sign has -/
/-! ### the object -/
section
variable (w : Int) (kl sg pl nl : Addr)
end
/-! the law's own way -/
end Np

set_option Elab.async false
set_option linter.all false
set_option maxRecDepth 100000
namespace L2
open PySem PySem.Spec PyProof.Rows
section
variable {X : Cx}
end
end L2
namespace Np
open L2 PySem
/-! ### rows by dealt slots -/
section
variable {cs : List Int} (gc : GoodC cs)
include gc
end
end Np

set_option Elab.async false
set_option linter.all false
set_option maxRecDepth 100000
namespace L2
open PySem PySem.Spec PyProof.Rows
/-! ### texts -/
abbrev tx (l : List Nat) : Str := ⟨l.toArray⟩
theorem tx_len (l : List Nat) : (tx l).length = l.length := by show l.toArray.size = _; simp
theorem tx_app (l m : List Nat) : tx l ++ tx m = tx (l ++ m) := PyProof.Rows.ext_toList (by rw [PySem.W.KT.app_list])
theorem tx_inj {l m : List Nat} : tx l = tx m ↔ l = m := ⟨fun h => by have := congrArg (fun s : Str => s.cps.toList) h; exact this, fun h => by rw [h]⟩
theorem pe_gstr {X : Cx} {x : Str} {z : Str} {pos : Pos} (hg : Gl X x) (hm : ∃ t, X.mg x = some (.str z t)) (hd : (x == ("__debug__" : Str)) = false := by decide) : PE X (.Name x pos) (tC (.str z)) :=
  let ⟨t, e⟩ := hm
  pe_glob hg e (v := .str z) ⟨t, rfl⟩ hd

/-! ### a text walked -/
def Its (l : List Nat) : It := ⟨fun i _ => i < l.length, fun i H y H' => H' = H ∧ ∃ c, l[i]? = some c ∧ y = .str (tx [c]), fun i _ => l.length ≤ i⟩
theorem go_str {M : Model} {A : Around} {E : Value → Shared → Prop} {s : Shared} {tg : Expr} {it : Addr} {x : Str} {t : Tok} {Q : Unit → Shared → Prop} (hQ : Q () s) : wpAny M A (letOwnedTupleGo tg (.ref it) (.str x t)) Q E s := by
  unfold letOwnedTupleGo
  cases tg <;> exact wpAny_pure hQ
theorem turn_str {P : Program} {w : World} {K : PySem.W.Frag} {tg : Expr} {nm : String} (it : Addr) (l : List Nat) (t : Tok)
    (W : ∀ A' : Around, A'.handled = none → Walks P w A' it [it] [it] (tx l).cps.size (SignAt (tx l)) (fun i h => h.IsStrIter it nm (tx l) t i))
    (Dn : ∀ (A : Around) (s : Shared) (i : Nat) (Q : Option Value → Shared → Prop) (E : Value → Shared → Prop), A.handled = none → s.heap.IsStrIter it nm (tx l) t i → (tx l).cps[i]? = none → (∀ h', Heap.ExtBut it s.heap h' → Q none { s with heap := h' }) → wpAny (model P w) A (pyNext (.ref it)) Q E s)
    (S : ∀ (A : Around) (i : Nat) (s : Shared) (Q : Value → Shared → Prop) (E : Value → Shared → Prop), s.heap.IsStrIter it nm (tx l) t i → Q (.ref it) s → wpAny (model P w) A (pyIter (.ref it)) Q E s) :
    Turn P w K tg (Its l) [it] it (fun i h => h.IsStrIter it nm (tx l) t i) where
  mem := by simp
  obj := fun i h st b hb => by
    have e : b = it := by simpa using hb
    subst e
    obtain ⟨o, e, c, d⟩ := st
    exact ⟨o, e, fun v z => by rw [d] at z; cases z⟩
  keep := fun i h h' st k => let ⟨o, e, r⟩ := st; ⟨o, k it (by simp) o e, r⟩
  item := by
    intro X hP hw hK hc i pins s σ H E I hf st hg
    subst hP hw hK
    obtain ⟨f0, f1, f2, f3, f4, f5⟩ := hf it (by simp)
    have hg' : i < (tx l).cps.size := by
      have hg : i < l.length := hg
      show i < l.toArray.size
      simpa using hg
    refine (W X.A (I.ok.hd hc)).item i s _ _ hg' st fun v h' tk hv st' kk => ?_
    obtain ⟨c, u, hcu, rfl⟩ := hv
    have I1 : Inv X pins σ H { s with heap := h', toks := tk } := I.turned (fun b o hb e => kk b o (by simpa using hb) e) f0 f1 f3 f4 f5
    exact ⟨_, rfl, go_str ⟨.str (tx [c]), H, I1, ⟨u, rfl⟩, ⟨rfl, c, by simpa using hcu, rfl⟩, st', fun b hb => (hf b hb).1⟩⟩
  done := by
    intro X hP hw hK hc i pins s σ H E I hf st hg
    subst hP hw hK
    obtain ⟨f0, f1, f2, f3, f4, f5⟩ := hf it (by simp)
    have hg : l.length ≤ i := hg
    exact Dn X.A s i _ _ (I.ok.hd hc) st (by simpa using hg) fun h' eb => ⟨rfl, I.turned (t' := s.toks) (fun b o hb e => eb b o hb e) f0 f1 f3 f4 f5⟩
  self := S
def iStr (tl : TE) : TI := fun σ H R => tl σ H fun x H1 => ∃ l, x = .str (tx l) ∧ R (Its l) H1
section
variable {X : Cx} {tg : Expr}
theorem pi_str {l : Expr} {tl : TE} (hl : PE X l tl) : PI X tg l (iStr tl) := by
  intro pins s σ H R I h
  refine thn (hl pins s σ H _ I h) fun v s1 ⟨x, H1, I1, r1, q1⟩ => ?_
  obtain ⟨m, e, q⟩ := q1
  subst e
  obtain ⟨t, rfl⟩ := r1
  have fin : ∀ (o : Obj) (nm : String), Turn X.prog X.w X.K tg (Its m) [s1.heap.objs.size] s1.heap.objs.size (fun i h => h.IsStrIter s1.heap.objs.size nm (tx m) t i) → (s1.heap.push o).IsStrIter s1.heap.objs.size nm (tx m) t 0 → PIE X pins σ tg R (.ref s1.heap.objs.size) { s1 with heap := s1.heap.push o } := fun o nm T st => by
    refine ⟨s1.heap.objs.size, [s1.heap.objs.size], _, _, H1, rfl, I1.kept (t' := s1.toks) fun b o e => Heap.get?_push_of_some _ e, T, st, fun b hb => ?_, q⟩
    have e : b = s1.heap.objs.size := by simpa using hb
    subst e
    exact I1.fpOk (Nat.le_refl _) (I1.hok.fresh (Nat.le_refl _))
  cases ha : (tx m).cps.all (· < 128)
  · exact wpAny_pyIter_wide ha (fin _ "str_iterator" (turn_str _ _ _ (fun A' hA => Walks.strWide hA _ _ _) (fun A s i Q E hh st hx hq => wpAny_pyNext_wide_end hh st hx hq) fun A i s Q E st h => wpAny_pyIter_striter_wide st h) ⟨_, Heap.get?_push_size _ rfl, rfl, rfl⟩)
  · exact wpAny_pyIter_ascii ha (fin _ "str_ascii_iterator" (turn_str _ _ _ (fun A' hA => Walks.strAscii hA _ _ _) (fun A s i Q E hh st hx hq => wpAny_pyNext_ascii_end hh st hx hq) fun A i s Q E st h => wpAny_pyIter_striter_ascii st h) ⟨_, Heap.get?_push_size _ rfl, rfl, rfl⟩)
end
theorem for_str {l : List Nat} {g : TG} {tb : TS} {D : Ends} {σ : St} {H : Hp} (Pv : Nat → St → Hp → Prop) (h0 : Pv 0 σ H)
    (hs : ∀ (i c : Nat) σ H, l[i]? = some c → Pv i σ H → g (.str (tx [c])) σ H fun σ2 H2 => tb { D with nx := Pv (i + 1), ct := Pv (i + 1), bk := D.nx } σ2 H2) (hd : ∀ σ H, Pv l.length σ H → D.nx σ H) :
    ∃ W : Nat → Nat → St → Hp → Prop, (∃ m, W 0 m σ H) ∧ ∀ i m σ H, W i m σ H →
      ((Its l).stop i H ∧ D.nx σ H) ∨ ((Its l).go i H ∧ ∃ N : St → Hp → Prop, (∀ σ' H', N σ' H' → ∃ m', m' < m ∧ W (i + 1) m' σ' H') ∧ ∀ x H', (Its l).yld i H x H' → g x σ H' fun σ2 H2 => tb { D with nx := N, ct := N, bk := D.nx } σ2 H2) := by
  refine ⟨fun i m σ H => m = l.length - i ∧ i ≤ l.length ∧ Pv i σ H, ⟨l.length, by simp, Nat.zero_le _, h0⟩, ?_⟩
  rintro i m σ H ⟨rfl, hi, p⟩
  by_cases hlt : i < l.length
  · refine .inr ⟨hlt, Pv (i + 1), fun σ' H' p' => ⟨l.length - (i + 1), by omega, rfl, hlt, p'⟩, fun x H' y => ?_⟩
    obtain ⟨rfl, c, hc, rfl⟩ := y
    exact hs i c σ _ hc p
  · have e : i = l.length := by omega
    subst e
    exact .inl ⟨Nat.le_refl _, hd σ H p⟩
theorem its_walk {l : List Nat} {D : Addr} {H1 : Hp} : (∀ i x ys, (l.map fun c => V.str (tx [c]))[i]? = some x → (Its l).go i (upd H1 D (.lst ys)) ∧ ∀ y H2, (Its l).yld i (upd H1 D (.lst ys)) y H2 → y = x ∧ H2 = upd H1 D (.lst ys)) ∧
    ∀ ys, (Its l).stop (l.map fun c => V.str (tx [c])).length (upd H1 D (.lst ys)) := by
  refine ⟨fun i x ys e => ?_, fun ys => by show l.length ≤ _; simp⟩
  rw [List.getElem?_map] at e
  have hi : i < l.length := by
    by_cases hi : i < l.length
    · exact hi
    · rw [List.getElem?_eq_none (by simpa using hi)] at e
      cases e
  refine ⟨hi, fun y H2 h => ⟨?_, h.1⟩⟩
  obtain ⟨_, c, hc, rfl⟩ := h
  rw [hc] at e
  exact Option.some.inj e
end L2

set_option Elab.async false
set_option linter.all false
set_option maxRecDepth 100000
namespace L2
open PySem PySem.Spec PyProof.Rows
/-! ### one sign in a text -/
def posS (c : Nat) : List Nat → Nat → List Nat
  | [], _ => []
  | a :: r, k => if a = c then k :: posS c r (k + 1) else posS c r (k + 1)
theorem posS_len (c : Nat) : ∀ (l : List Nat) (k : Nat), (posS c l k).length = l.count c
  | [], _ => rfl
  | a :: r, k => by
    unfold posS
    by_cases h : a = c
    · rw [if_pos h, List.length_cons, posS_len c r, List.count_cons, if_pos (by simpa using h)]
    · rw [if_neg h, posS_len c r, List.count_cons, if_neg (by simpa using h)]; rfl
theorem occ_run (l : List Nat) (c lim : Nat) : ∀ (m pre : List Nat) (st : Array Nat × Nat), l = pre ++ m → st.snd ≤ pre.length →
    (forIn (List.range' pre.length (m.length + 1)) st (StrLaws.occBody (tx l) (tx [c]) l.length lim)).run.fst.toList = st.fst.toList ++ (posS c m pre.length).take (lim - st.fst.size)
  | [], pre, st, e, h => by
    have e2 : pre = l := by rw [e, List.append_nil]
    rw [List.length_nil, Nat.zero_add, List.range'_succ, List.forIn_cons]
    unfold StrLaws.occBody
    have c2 : ¬ (((st.fst.size < lim ∧ st.snd ≤ pre.length) ∧ pre.length + (tx [c]).length ≤ l.length) ∧ Builtin.Str.subAt (tx l) (tx [c]) pre.length = true) := fun z => by
      have z1 : pre.length + 1 ≤ l.length := z.1.2
      rw [e2] at z1
      omega
    rw [if_neg c2]
    show st.fst.toList = _
    simp [posS]
  | a :: m, pre, st, e, h => by
    have at0 : l[pre.length]? = some a := by rw [e]; simp
    have e' : l = (pre ++ [a]) ++ m := by rw [e]; simp
    have len' : (pre ++ [a]).length = pre.length + 1 := by simp
    have sub := StrLaws.subAt_one (tx l) c pre.length
    have ll : (tx l).length = l.length := tx_len l
    rw [ll] at sub
    rw [List.length_cons, List.range'_succ, List.forIn_cons]
    unfold posS
    by_cases hc : a = c
    · have hs := sub.mpr (by rw [at0, hc])
      by_cases hl : st.fst.size < lim
      · have step : StrLaws.occBody (tx l) (tx [c]) l.length lim pre.length st = pure (ForInStep.yield (st.fst.push pre.length, pre.length + (tx [c]).length)) := by
          unfold StrLaws.occBody
          rw [if_pos ⟨⟨⟨hl, h⟩, hs.1⟩, hs.2⟩]
        rw [step]
        show (forIn (List.range' (pre.length + 1) (m.length + 1)) (st.fst.push pre.length, pre.length + (tx [c]).length) (StrLaws.occBody (tx l) (tx [c]) l.length lim)).run.fst.toList = _
        have ih := occ_run l c lim m (pre ++ [a]) (st.fst.push pre.length, pre.length + (tx [c]).length) e' (by rw [len']; exact Nat.le_refl _)
        rw [len'] at ih
        rw [ih, if_pos hc]
        have e3 : lim - st.fst.size = (lim - (st.fst.size + 1)) + 1 := by omega
        rw [e3, List.take_succ_cons, Array.toList_push, Array.size_push, List.append_assoc]
        rfl
      · have step : StrLaws.occBody (tx l) (tx [c]) l.length lim pre.length st = pure (ForInStep.yield (st.fst, st.snd)) := by
          unfold StrLaws.occBody
          rw [if_neg (fun z => hl z.1.1.1)]
        rw [step]
        show (forIn (List.range' (pre.length + 1) (m.length + 1)) st (StrLaws.occBody (tx l) (tx [c]) l.length lim)).run.fst.toList = _
        have ih := occ_run l c lim m (pre ++ [a]) st e' (by rw [len']; omega)
        rw [len'] at ih
        have e3 : lim - st.fst.size = 0 := by omega
        rw [ih, e3]
        simp
    · have step : StrLaws.occBody (tx l) (tx [c]) l.length lim pre.length st = pure (ForInStep.yield (st.fst, st.snd)) := by
        unfold StrLaws.occBody
        rw [if_neg (fun z => hc (by
          have := sub.mp ⟨z.1.2, z.2⟩
          have at1 : (tx l).cps.toList[pre.length]? = some a := at0
          rw [at1] at this
          exact Option.some.inj this))]
      rw [step]
      show (forIn (List.range' (pre.length + 1) (m.length + 1)) st (StrLaws.occBody (tx l) (tx [c]) l.length lim)).run.fst.toList = _
      have ih := occ_run l c lim m (pre ++ [a]) st e' (by rw [len']; omega)
      rw [len'] at ih
      rw [ih, if_neg hc]
theorem occ_one (l : List Nat) (c lim : Nat) : Builtin.Str.occurrences (tx l) (tx [c]) 0 (tx l).length lim = (posS c l 0).take lim := by
  rw [StrLaws.occ_eq, tx_len]
  have := occ_run l c lim l [] (#[], 0) rfl (Nat.le_refl _)
  simpa using this
theorem occ_count (l : List Nat) (c : Nat) : (Builtin.Str.occurrences (tx l) (tx [c]) 0 (tx l).length ((tx l).length + 1)).length = l.count c := by
  rw [occ_one, List.length_take, posS_len, tx_len]
  have := List.count_le_length (a := c) (l := l)
  omega
theorem posS_mem (c : Nat) : ∀ (l : List Nat) (k : Nat), c ∈ l → ∃ r, posS c l k = (k + l.idxOf c) :: r
  | [], _, h => by cases h
  | a :: r, k, h => by
    unfold posS
    by_cases hc : a = c
    · rw [if_pos hc, hc, List.idxOf_cons_self]; exact ⟨_, rfl⟩
    · obtain ⟨q, e⟩ := posS_mem c r (k + 1) (by rcases List.mem_cons.mp h with z | z; exact absurd z.symm hc; exact z)
      rw [if_neg hc, e, List.idxOf_cons, show (a == c) = false from beq_eq_false_iff_ne.mpr hc]
      exact ⟨q, by show _ = (k + (r.idxOf c + 1)) :: q; rw [Nat.add_assoc, Nat.add_comm 1]⟩
theorem posS_none (c : Nat) : ∀ (l : List Nat) (k : Nat), c ∉ l → posS c l k = []
  | [], _, h => rfl
  | a :: r, k, h => by
    unfold posS
    rw [if_neg (fun z => h (by rw [z]; exact List.mem_cons_self)), posS_none c r _ (fun z => h (List.mem_cons_of_mem _ z))]
theorem occ_mem (l : List Nat) (c : Nat) (h : c ∈ l) : Builtin.Str.occurrences (tx l) (tx [c]) 0 (tx l).length 1 = [l.idxOf c] := by
  obtain ⟨r, e⟩ := posS_mem c l 0 h
  rw [occ_one, e]
  simp
theorem occ_no (l : List Nat) (c lim : Nat) (h : c ∉ l) : Builtin.Str.occurrences (tx l) (tx [c]) 0 (tx l).length lim = [] := by
  rw [occ_one, posS_none c l 0 h]
  simp
theorem occ_in (l : List Nat) (c : Nat) : (!(Builtin.Str.occurrences (tx l) (tx [c]) 0 (tx l).length 1).isEmpty) = decide (c ∈ l) := StrLaws.found_one (tx l) c
/-- cut at each c -/
def splitA (c : Nat) : List Nat → List Nat → List (List Nat)
  | acc, [] => [acc]
  | acc, a :: r => if a = c then acc :: splitA c [] r else splitA c (acc ++ [a]) r
theorem parts_run (l : List Nat) (c : Nat) : ∀ (m pre : List Nat) (a : Nat), l = pre ++ m → a ≤ pre.length → StrLaws.partsFrom (tx l) 1 a (posS c m pre.length) = (splitA c (pre.drop a) m).map tx
  | [], pre, a, e, h => by
    have e2 : pre = l := by rw [e, List.append_nil]
    show [Builtin.Str.strSub (tx l) a (tx l).length] = [tx (pre.drop a)]
    rw [e2]
    congr 1
    refine PyProof.Rows.ext_toList ?_
    rw [StrLaws.strSub_toList, tx_len]
    show List.take (l.length - a) (l.drop a) = l.drop a
    rw [List.take_of_length_le]
    rw [List.length_drop]
    exact Nat.le_refl _
  | x :: m, pre, a, e, h => by
    have e' : l = (pre ++ [x]) ++ m := by rw [e]; simp
    have len' : (pre ++ [x]).length = pre.length + 1 := by simp
    unfold posS splitA
    by_cases hc : x = c
    · rw [if_pos hc, if_pos hc]
      have ih := parts_run l c m (pre ++ [x]) (pre.length + 1) e' (by rw [len']; exact Nat.le_refl _)
      rw [len'] at ih
      have e0 : (pre ++ [x]).drop (pre.length + 1) = [] := List.drop_eq_nil_of_le (by rw [len']; exact Nat.le_refl _)
      rw [e0] at ih
      show Builtin.Str.strSub (tx l) a pre.length :: StrLaws.partsFrom (tx l) 1 (pre.length + 1) (posS c m (pre.length + 1)) = tx (pre.drop a) :: (splitA c [] m).map tx
      rw [ih]
      congr 1
      refine PyProof.Rows.ext_toList ?_
      rw [StrLaws.strSub_toList]
      show List.take (pre.length - a) (l.drop a) = pre.drop a
      rw [e, List.drop_append_of_le_length h, List.take_append_of_le_length (by rw [List.length_drop]; exact Nat.le_refl _), List.take_of_length_le (by rw [List.length_drop]; exact Nat.le_refl _)]
    · rw [if_neg hc, if_neg hc]
      have ih := parts_run l c m (pre ++ [x]) a e' (by rw [len']; omega)
      rw [len', List.drop_append_of_le_length h] at ih
      exact ih
theorem occ_split (l : List Nat) (c : Nat) : Builtin.Str.partsBetween (tx l) (Builtin.Str.occurrences (tx l) (tx [c]) 0 (tx l).length ((tx l).length + 1)) (tx [c]).length = (splitA c [] l).map tx := by
  rw [occ_one, List.take_of_length_le, StrLaws.partsBetween_eq]
  · exact parts_run l c l [] 0 rfl (Nat.le_refl _)
  · rw [posS_len, tx_len]
    have := List.count_le_length (a := c) (l := l)
    omega
theorem splitA_len (c : Nat) : ∀ (m acc : List Nat), (splitA c acc m).length ≤ m.length + 1
  | [], _ => Nat.le_refl _
  | x :: m, acc => by
    unfold splitA
    by_cases hc : x = c
    · rw [if_pos hc, List.length_cons, List.length_cons]
      have := splitA_len c m []
      omega
    · rw [if_neg hc, List.length_cons]
      have := splitA_len c m (acc ++ [x])
      omega
theorem splitA_none (c : Nat) : ∀ (m acc : List Nat), c ∉ m → splitA c acc m = [acc ++ m]
  | [], acc, _ => by rw [List.append_nil]; rfl
  | x :: m, acc, h => by
    unfold splitA
    rw [if_neg (fun z => h (by rw [z]; exact List.mem_cons_self)), splitA_none c m _ (fun z => h (List.mem_cons_of_mem _ z))]
    simp
end L2

set_option Elab.async false
set_option linter.all false
set_option maxRecDepth 100000
namespace L2
open PySem PySem.Spec PyProof.Rows
section
variable {X : Cx}
theorem op_inC : OpR X (compareOp .In) (fun x y H Q => ∃ c l, x = .str (tx [c]) ∧ y = .str (tx l) ∧ Q (.bl (decide (c ∈ l))) H) := by
  intro pins s σ H x y v u Q I rx ry h
  obtain ⟨c, l, rfl, rfl, q⟩ := h
  refine op_in_str pins s σ H _ _ v u Q I rx ry ⟨_, _, rfl, rfl, ?_⟩
  rw [occ_in]
  exact q
theorem op_notinC : OpR X (compareOp .NotIn) (fun x y H Q => ∃ c l, x = .str (tx [c]) ∧ y = .str (tx l) ∧ Q (.bl (!decide (c ∈ l))) H) := by
  intro pins s σ H x y v u Q I rx ry h
  obtain ⟨c, l, rfl, rfl, q⟩ := h
  refine op_notIn_str pins s σ H _ _ v u Q I rx ry ⟨_, _, rfl, rfl, ?_⟩
  rw [occ_in]
  exact q
theorem op_addT : OpR X (binaryOp .Add) (fun x y H Q => ∃ l m, x = .str (tx l) ∧ y = .str (tx m) ∧ l.length + m.length ≤ sizeLine ∧ Q (.str (tx (l ++ m))) H) := by
  intro pins s σ H x y v u Q I rx ry h
  obtain ⟨l, m, rfl, rfl, hz, q⟩ := h
  refine op_add_str pins s σ H _ _ v u Q I rx ry ⟨_, _, rfl, rfl, by rw [tx_len, tx_len]; exact hz, ?_⟩
  rw [tx_app]
  exact q
theorem call_lenT : CallR X (.builtin "len") (fun xs H Q => ∃ l, xs = [.str (tx l)] ∧ l.length ≤ sizeLine ∧ Q (.int (l.length : Nat)) H) := by
  intro pins s σ H xs us Q I r h
  obtain ⟨l, rfl, hz, q⟩ := h
  refine call_len_str pins s σ H _ us Q I r ⟨_, rfl, by rw [tx_len]; exact hz, ?_⟩
  rw [tx_len]
  exact q
theorem ix_strT : IxR X (fun x y H Q => ∃ l i c, x = .str (tx l) ∧ y = .int i ∧ l.length ≤ sizeLine ∧ atI l i = some c ∧ Q (.str (tx [c])) H) := by
  intro value slice pins s σ H x y v u Q I rx ry h hs
  obtain ⟨l, i, c, rfl, rfl, hz, e, q⟩ := h
  exact ix_str value slice pins s σ H _ _ v u Q I rx ry ⟨_, i, c, rfl, rfl, by rw [tx_len]; exact hz, e, q⟩ hs
theorem mt_index : MtR X "str.index" (fun x xs H Q => ∃ l c, x = .str (tx l) ∧ xs = [.str (tx [c])] ∧ c ∈ l ∧ Q (.int (l.idxOf c : Nat)) H) := by
  intro pins s σ H x xs v us Q I rx rs h
  obtain ⟨l, c, rfl, rfl, hm, q⟩ := h
  obtain ⟨t, rfl⟩ := rx
  obtain ⟨u, rfl, ru⟩ := rs.one
  obtain ⟨t', rfl⟩ := ru
  exact SC.index (occ_mem l c hm) ⟨.int _, H, I.tok _, ⟨_, rfl⟩, q⟩
theorem mt_count : MtR X "str.count" (fun x xs H Q => ∃ l c, x = .str (tx l) ∧ xs = [.str (tx [c])] ∧ Q (.int (l.count c : Nat)) H) := by
  intro pins s σ H x xs v us Q I rx rs h
  obtain ⟨l, c, rfl, rfl, q⟩ := h
  obtain ⟨t, rfl⟩ := rx
  obtain ⟨u, rfl, ru⟩ := rs.one
  obtain ⟨t', rfl⟩ := ru
  refine SC.count ⟨.int _, H, I.tok _, ⟨_, rfl⟩, ?_⟩
  show Q (.int ((Builtin.Str.occurrences (tx l) (tx [c]) 0 (tx l).length ((tx l).length + 1)).length : Nat)) H
  rw [occ_count]
  exact q
theorem mt_find : MtR X "str.find" (fun x xs H Q => ∃ l c, x = .str (tx l) ∧ xs = [.str (tx [c])] ∧ Q (.int (if c ∈ l then (l.idxOf c : Int) else -1)) H) := by
  intro pins s σ H x xs v us Q I rx rs h
  obtain ⟨l, c, rfl, rfl, q⟩ := h
  obtain ⟨t, rfl⟩ := rx
  obtain ⟨u, rfl, ru⟩ := rs.one
  obtain ⟨t', rfl⟩ := ru
  refine SC.find ⟨.int _, H, I.tok _, ⟨_, rfl⟩, ?_⟩
  have e : Txt.find (tx l) (tx [c]) = (match Builtin.Str.occurrences (tx l) (tx [c]) 0 (tx l).length 1 with | i :: _ => (i : Int) | [] => -1) := rfl
  rw [e]
  by_cases hm : c ∈ l
  · rw [if_pos hm] at q
    rw [occ_mem l c hm]
    exact q
  · rw [if_neg hm] at q
    rw [occ_no l c 1 hm]
    exact q
theorem mt_isdigit : MtR X "str.isdigit" (fun x xs H Q => ∃ l, x = .str (tx l) ∧ xs = [] ∧ Q (.bl (decide (0 < l.length) && l.all Unicode.isDigit)) H) := by
  intro pins s σ H x xs v us Q I rx rs h
  obtain ⟨l, rfl, rfl, q⟩ := h
  obtain ⟨t, rfl⟩ := rx
  cases rs.zero
  refine SC.isdigit ⟨.bl _, H, I, rfl, ?_⟩
  have e : Txt.isdigit (tx l) = (decide (0 < l.length) && l.all Unicode.isDigit) := by
    show (decide ((tx l).length > 0) && l.toArray.all Unicode.isDigit) = _
    rw [tx_len]
    simp
  rw [e]
  exact q
/-- what stands ahead of c, c, what stands behind -/
def cutC (c : Nat) (l : List Nat) : List (List Nat) := if c ∈ l then [l.take (l.idxOf c), [c], l.drop (l.idxOf c + 1)] else [l, [], []]
theorem mt_part : MtR X "str.partition" (fun x xs H Q => ∃ l c, x = .str (tx l) ∧ xs = [.str (tx [c])] ∧ l.length ≤ sizeLine ∧ ∀ p, H p = none → Q (.ref p) (upd H p (.tup ((cutC c l).map fun m => .str (tx m))))) := by
  intro pins s σ H x xs v us Q I rx rs h
  obtain ⟨l, c, rfl, rfl, hz, q⟩ := h
  obtain ⟨t, rfl⟩ := rx
  obtain ⟨u, rfl, ru⟩ := rs.one
  obtain ⟨t', rfl⟩ := ru
  refine call_meets F.slot_str_partition (typeIs_str _ _ _) F.entry_str_partition (F.args_str_partition_2 _ _) (meets_str_partition (tx l) (tx [c]) t t' rfl (by rw [tx_len]; exact hz)) ?_
  show wants _ _ _ (match Builtin.Str.occurrences (tx l) (tx [c]) 0 (tx l).length 1 with | i :: _ => _ | [] => _)
  have q := q s.heap.objs.size I.fresh
  unfold cutC at q
  by_cases hm : c ∈ l
  · rw [if_pos hm] at q
    rw [occ_mem l c hm]
    refine ⟨.ref s.heap.objs.size, _, I.laid (t' := s.toks + 1 + 1) (fun _ _ z => Heap.get?_push_of_some _ z) (Nat.le_refl _) ?_, rfl, q⟩
    refine ⟨(by show 3 ≤ sizeLine; decide), _, ?_, ⟨_, Heap.get?_push_size _ rfl, rfl, _, rfl⟩⟩
    have e1 : Builtin.Str.strSub (tx l) 0 (l.idxOf c) = tx (l.take (l.idxOf c)) := PyProof.Rows.ext_toList (by rw [StrLaws.strSub_toList]; simp)
    have e2 : Builtin.Str.strSub (tx l) (l.idxOf c + (tx [c]).length) (tx l).length = tx (l.drop (l.idxOf c + 1)) := PyProof.Rows.ext_toList (by
      rw [StrLaws.strSub_toList, tx_len, tx_len]
      show List.take (l.length - (l.idxOf c + 1)) (l.drop (l.idxOf c + 1)) = l.drop (l.idxOf c + 1)
      rw [List.take_of_length_le (by rw [List.length_drop]; exact Nat.le_refl _)])
    rw [e1, e2]
    exact .cons ⟨_, rfl⟩ (.cons ⟨_, rfl⟩ (.cons ⟨_, rfl⟩ .nil))
  · rw [if_neg hm] at q
    rw [occ_no l c 1 hm]
    refine ⟨.ref s.heap.objs.size, _, I.laid (t' := s.toks + 1) (fun _ _ z => Heap.get?_push_of_some _ z) (Nat.le_refl _) ?_, rfl, q⟩
    exact ⟨(by show 3 ≤ sizeLine; decide), _, .cons ⟨_, rfl⟩ (.cons ⟨_, rfl⟩ (.cons ⟨_, rfl⟩ .nil)), ⟨_, Heap.get?_push_size _ rfl, rfl, _, rfl⟩⟩
theorem vals_strs : ∀ (ms : List (List Nat)) (k : Nat), Vals (ms.map fun m => V.str (tx m)) (strsFrom k (ms.map tx))
  | [], _ => .nil
  | m :: r, k => .cons ⟨_, rfl⟩ (vals_strs r (k + 1))
theorem kind_le (l : List Nat) {c : Nat} (h : c < 256) : ¬ Builtin.Str.strKind (tx l) < Builtin.Str.strKind (tx [c]) := by
  have e : Builtin.Str.strKind (tx [c]) = 1 := by
    unfold Builtin.Str.strKind
    rw [if_pos]
    show (#[c] : Array Nat).all (fun x => decide (x < 256)) = true
    simp [h]
  rw [e]
  unfold Builtin.Str.strKind
  split
  · decide
  · split <;> decide
theorem mt_split : MtR X "str.split" (fun x xs H Q => ∃ l c, x = .str (tx l) ∧ xs = [.str (tx [c])] ∧ c < 256 ∧ l.length < sizeLine ∧ ∀ p, H p = none → Q (.ref p) (upd H p (.lst ((splitA c [] l).map fun m => .str (tx m))))) := by
  intro pins s σ H x xs v us Q I rx rs h
  obtain ⟨l, c, rfl, rfl, hc, hz, q⟩ := h
  obtain ⟨t, rfl⟩ := rx
  obtain ⟨u, rfl, ru⟩ := rs.one
  obtain ⟨t', rfl⟩ := ru
  have q := q s.heap.objs.size I.fresh
  have hz' : (tx l).length ≤ sizeLine := by rw [tx_len]; omega
  have one : (splitA c [] l) = [l] → EP X pins σ Q (.ref s.heap.objs.size) { s with heap := s.heap.push { cls := .type "list", data := .seq [Value.str (tx l) t].toArray } } := fun e => by
    rw [e] at q
    exact ⟨.ref s.heap.objs.size, _, I.lnew (ys := [.str (tx l)]) (its := [Value.str (tx l) t]) (t' := s.toks) (.cons ⟨_, rfl⟩ .nil) (by show 1 ≤ sizeLine; decide), rfl, q⟩
  cases h1 : (decide ((tx l).length < (tx [c]).length) || decide (Builtin.Str.strKind (tx l) < Builtin.Str.strKind (tx [c])))
  · cases hf : (Builtin.Str.occurrences (tx l) (tx [c]) 0 (tx l).length ((tx l).length + 1)).isEmpty
    · have e := occ_split l c
      refine call_meets F.slot_str_split (typeIs_str _ _ _) F.entry_str_split (F.args_str_split_2 _ _) (meets_str_split_sep (tx l) (tx [c]) t t' h1 rfl hf hz' (by
        rw [e, List.length_map]
        have := splitA_len c l []
        omega)) ?_
      show wants _ _ _ { s with toks := _, heap := s.heap.push { cls := .type "list", data := .seq (strsFrom s.toks (Builtin.Str.partsBetween (tx l) (Builtin.Str.occurrences (tx l) (tx [c]) 0 (tx l).length ((tx l).length + 1)) (tx [c]).length)).toArray } }
      rw [e]
      refine ⟨.ref s.heap.objs.size, _, I.lnew (its := strsFrom s.toks ((splitA c [] l).map tx)) (vals_strs _ _) ?_, rfl, q⟩
      rw [List.length_map]
      have := splitA_len c l []
      omega
    · have hn : c ∉ l := fun hm => by
        obtain ⟨r, e⟩ := posS_mem c l 0 hm
        rw [occ_one, e] at hf
        simp at hf
      exact call_meets F.slot_str_split (typeIs_str _ _ _) F.entry_str_split (F.args_str_split_2 _ _) (meets_str_split_not_found (tx l) (tx [c]) t t' h1 rfl hf) (one (splitA_none c l [] hn))
  · have h0 : l = [] := by
      rw [Bool.or_eq_true, decide_eq_true_eq, decide_eq_true_eq] at h1
      rcases h1 with z | z
      · rw [tx_len] at z
        have z : l.length < 1 := z
        exact List.length_eq_zero_iff.mp (by omega)
      · exact absurd z (kind_le l hc)
    exact call_meets F.slot_str_split (typeIs_str _ _ _) F.entry_str_split (F.args_str_split_2 _ _) (meets_str_split_cannot_occur (tx l) (tx [c]) t t' h1) (one (by rw [h0]; rfl))
/-- texts, joined -/
def joinL (sep : List Nat) : List (List Nat) → List Nat
  | [] => []
  | [m] => m
  | m :: n :: r => m ++ sep ++ joinL sep (n :: r)
theorem join_eq (sep : List Nat) : ∀ ms : List (List Nat), Str.join (tx sep) (ms.map tx) = tx (joinL sep ms)
  | [] => rfl
  | [m] => rfl
  | m :: n :: r => by
    show tx m ++ tx sep ++ Str.join (tx sep) ((n :: r).map tx) = _
    rw [join_eq sep (n :: r), tx_app, tx_app]
    rfl
theorem vals_back : ∀ {ms : List (List Nat)} {us : List Value}, Vals (ms.map fun m => V.str (tx m)) us → ∃ l : List (Str × Tok), us = strValues l ∧ l.map (·.1) = ms.map tx
  | [], _, .nil => ⟨[], rfl, rfl⟩
  | m :: r, _, .cons ⟨t, e⟩ h => by
    obtain ⟨l, e1, e2⟩ := vals_back (ms := r) h
    exact ⟨(tx m, t) :: l, by rw [e, e1]; rfl, by rw [List.map_cons, e2]; rfl⟩
theorem mt_join : MtR X "str.join" (fun x xs H Q => ∃ sep a ms, x = .str (tx sep) ∧ xs = [.ref a] ∧ SqL X.K H a (ms.map fun m => V.str (tx m)) ∧ (ms.map List.length).sum + ms.length * sep.length ≤ sizeLine ∧ Q (.str (tx (joinL sep ms))) H) := by
  intro pins s σ H x xs v us Q I rx rs h
  obtain ⟨sep, a, ms, rfl, rfl, hq, hz, q⟩ := h
  obtain ⟨t, rfl⟩ := rx
  obtain ⟨u, rfl, ru⟩ := rs.one
  cases (show u = .ref a from ru)
  obtain ⟨its, rv, pl, _⟩ := I.list hq
  obtain ⟨l, e1, e2⟩ := vals_back rv
  have hl : s.heap.IsList a (strValues l).toArray := by rw [← e1]; exact pl.isList
  refine SC.join hl e2 ?_ fun t' k => ⟨.str _, H, I.tok _, ⟨t', ?_⟩, q⟩
  · unfold JoinOk
    rw [Bool.not_eq_true']
    unfold Builtin.Str.tooLong
    refine decide_eq_false ?_
    rw [StrLaws.joinTotal, List.map_map]
    have e3 : (List.map (Str.length ∘ tx) ms) = ms.map List.length := by
      refine List.map_congr_left fun m _ => ?_
      exact tx_len m
    have e4 : (tx sep).length = sep.length := tx_len sep
    rw [List.length_map]
    show ¬ ((List.map (Str.length ∘ tx) ms).sum + ms.length * (tx sep).length > sizeLine)
    rw [e3, e4]
    omega
  · show Value.str (Builtin.Str.glued (tx sep) (ms.map tx)) t' = _
    rw [StrLaws.glued_eq_join, join_eq]
theorem mt_lcount : MtR X "list.count" (fun x xs H Q => ∃ a ys y, x = .ref a ∧ xs = [y] ∧ H a = some (.lst ys) ∧ flatV y = true ∧ ys.all flatV = true ∧ Q (.int ((ys.countP fun z => eqV z y) : Nat)) H) := by
  intro pins s σ H x xs v us Q I rx rs h
  obtain ⟨a, ys, y, rfl, rfl, hq, fy, fs, q⟩ := h
  cases rx
  obtain ⟨u, rfl, ru⟩ := rs.one
  obtain ⟨hz, its, n, rv, e⟩ := (show ObjOk X.prog X.w H s.heap a (.lst ys) from I.hok a _ hq)
  have e2 : ∀ {zs : List V} {us : List Value}, Vals zs us → zs.all flatV = true → us.countP (eqU y) = zs.countP (fun z => eqV z y) := by
    intro zs us r
    induction r with
    | nil => intro _; rfl
    | cons r t ih =>
      intro f
      rw [List.all_cons, Bool.and_eq_true] at f
      rw [List.countP_cons, List.countP_cons, eqU_of r f.1, ih f.2]
  refine call_meets F.slot_list_count ⟨_, e, rfl⟩ F.entry_list_count (F.args_list_count_2 _ _) (SeqAt.list_countAt a its.toArray n none #[] u (eqU y)) ⟨e, fun w hw => mem_eqAt ru fy rv fs w (by simpa using hw), ?_⟩
  refine ⟨.int _, H, I.tok _, ⟨s.toks, ?_⟩, q⟩
  rw [← e2 rv fs]
theorem mt_lindex : MtR X "list.index" (fun x xs H Q => ∃ a ys y j, x = .ref a ∧ xs = [y] ∧ H a = some (.lst ys) ∧ flatV y = true ∧ ys.all flatV = true ∧ (∃ z, ys[j]? = some z ∧ eqV z y = true) ∧ (∀ (i : Nat) z, i < j → ys[i]? = some z → eqV z y = false) ∧ Q (.int (j : Nat)) H) := by
  intro pins s σ H x xs v us Q I rx rs h
  obtain ⟨a, ys, y, j, rfl, rfl, hq, fy, fs, ⟨z, hj, hit⟩, hno, q⟩ := h
  cases rx
  obtain ⟨u, rfl, ru⟩ := rs.one
  obtain ⟨hz, its, n, rv, e⟩ := (show ObjOk X.prog X.w H s.heap a (.lst ys) from I.hok a _ hq)
  have lj : j < ys.length := (List.getElem?_eq_some_iff.mp hj).1
  have ln := rv.length
  have fl : ∀ {i : Nat} {z : V}, ys[i]? = some z → flatV z = true := fun {i z} ez => List.all_eq_true.mp fs z (List.mem_of_getElem? ez)
  have szl : sizeLine < 2 ^ 62 := by decide
  have at1 : ∀ (i : Nat) (hi : i < its.toArray.size) (z : V), ys[i]? = some z → eqU y its.toArray[i] = eqV z y := fun i hi z ez => by
    obtain ⟨w, ew, rw'⟩ := rv.get ez
    have : its.toArray[i] = w := by
      have h2 : its[i]? = some w := ew
      have h3 : i < its.length := by simpa using hi
      rw [List.getElem?_eq_getElem h3] at h2
      simpa using Option.some.inj h2
    rw [this, eqU_of rw' (fl ez)]
  refine call_meets F.slot_list_index ⟨_, e, rfl⟩ F.entry_list_index (F.args_list_index_2 _ _) (SeqAt.list_indexAt a its.toArray n none #[] u (eqU y) j (by simp; omega) (by omega) (by rw [at1 j (by simp; omega) z hj]; exact hit) (fun m hm hlt => by
    have hm' : m < ys.length := by omega
    rw [at1 m hm _ (List.getElem?_eq_getElem hm')]
    exact hno m _ hlt (List.getElem?_eq_getElem hm'))) ⟨e, fun w hw => mem_eqAt ru fy rv fs w (by simpa using hw), ?_⟩
  exact ⟨.int _, H, I.tok _, ⟨_, rfl⟩, q⟩
/-- int of figures -/
theorem call_intT : CallR X (.type "int") (fun xs H Q => ∃ l, xs = [.str (tx l)] ∧ (∀ c ∈ l, 48 ≤ c ∧ c ≤ 57) ∧ l ≠ [] ∧ l.length ≤ 100 ∧ Q (.int (PySem.NumText.digitsVal l : Nat)) H) := by
  intro pins s σ H xs us Q I r h
  obtain ⟨l, rfl, hd, hne, hl, q⟩ := h
  obtain ⟨u, rfl, ru⟩ := vals1 r
  obtain ⟨t, rfl⟩ := ru
  exact PySem.W.KIN.call_text (PySem.intText_digits (x := tx l) hd hne (by rw [tx_len]; omega)) (by rw [tx_len]; omega) ⟨.int _, H, I.tok _, ⟨_, rfl⟩, q⟩
end
end L2

set_option Elab.async false
set_option linter.all false
set_option maxRecDepth 100000
local macro_rules | `(tactic| walk_at "z") => `(tactic| (extract_lets +onlyGivenNames -merge -underBinder z0; subst z0))
local macro_rules | `(tactic| walk_at "j") => `(tactic| (extract_lets +onlyGivenNames -merge -underBinder j0; generalize hj : j0 = j; have hk := hj.symm; clear hj; subst j0; revert j hk))
namespace L2.Srt
open PySem PyProof.Rows
abbrev P3 := Array (Nat × Nat × Nat)
structure SB (a₀ : Array Keyed) (p : P3) (st : SortSt) : Prop where
  perm : (arrOf st).Perm a₀
  kind : kindOf st = oneType'
  failed : failedOf st = none
  pend : pendingOf st = p
section
variable {prog : Program} {w : World} {A : Around} {E : Value → Shared → Prop} {s : Shared} {a₀ : Array Keyed} {p : P3}
theorem wpS_open {α β : Type} {m : StateT SortSt Sem α} {f : α → StateT SortSt Sem β} {Q : β → SortSt → Prop} {st : SortSt} (h : wpS (model prog w) A E s (m >>= f) Q st) : wpS (model prog w) A E s (m >>= f) Q st := h
theorem SB.base {st : SortSt} (h : SB a₀ p st) : SBase a₀ (setPending st #[]) := ⟨h.perm, h.kind, h.failed, rfl⟩
theorem SB.size {st : SortSt} (h : SB a₀ p st) : (arrOf st).size = a₀.size := h.perm.size_eq
theorem SB.setArr {st : SortSt} (h : SB a₀ p st) {xs : Array Keyed} (hp : xs.Perm (arrOf st)) : SB a₀ p (setArr st xs) := ⟨hp.trans h.perm, h.kind, h.failed, h.pend⟩
theorem SB.at {st : SortSt} (h : SB a₀ p st) (h0 : IntKeys a₀) {i : Nat} (hi : i < a₀.size) : ∃ t q, (arrOf st)[i]? = some (.int (K (arrOf st) i) t, q) := h.base.at h0 hi
theorem ltK {st : SortSt} {i j : Nat} {Q : Option Bool → SortSt → Prop} (hB : SB a₀ p st) (h0 : IntKeys a₀) (hi : i < a₀.size) (hj : j < a₀.size)
    (h : Q (some (decide (K (arrOf st) i < K (arrOf st) j))) st) : wpS (model prog w) A E s (ltAt' i j) Q st := by
  obtain ⟨t, p, e1⟩ := hB.at h0 hi
  obtain ⟨u, q, e2⟩ := hB.at h0 hj
  exact wpS_ltAt hB.kind e1 e2 h
/-- one element's key -/
def kn (x : Keyed) : Int := numOf x.1
def IK (x : Keyed) : Prop := ∃ n t, x.1 = .int n t
theorem ltE {st : SortSt} {x y : Keyed} {Q : Option Bool → SortSt → Prop} (hk : kindOf st = oneType') (hx : IK x) (hy : IK y) (h : Q (some (decide (kn x < kn y))) st) : wpS (model prog w) A E s (lt' x y) Q st := by
  obtain ⟨a, t, ea⟩ := hx
  obtain ⟨b, u, eb⟩ := hy
  rw [lt'_eq]
  refine wpS_bind (wpS_get ?_)
  rw [hk, keyLt'_oneType, ea, eb]
  have e1 : kn x = a := by unfold kn; rw [ea]; rfl
  have e2 : kn y = b := by unfold kn; rw [eb]; rfl
  rw [e1, e2] at h
  refine wpS_bind (wpS_lift (wpAny_attempt (oneLt_int ⟨rfl, ?_⟩)))
  exact wpS_pure h
theorem elemE {st : SortSt} {arr : Array Keyed} {i : Nat} {x : Keyed} {Q : Keyed → SortSt → Prop} (e : arr[i]? = some x) (h : Q x st) : wpS (model prog w) A E s (elem' arr i) Q st := by
  rw [elem'_eq, e]
  exact wpS_pure h
theorem forR {σ : Type} {M : Model} {β : Type} {a b : Nat} {f : Nat → β → StateT σ Sem (ForInStep β)} (I : Nat → β → σ → Prop) {Q : β → σ → Prop}
    (hstep : ∀ i c st, a ≤ i → i < b → I i c st → ∀ R : ForInStep β → σ → Prop, (∀ c' st', Q c' st' → R (.done c') st') → (∀ c' st', I (i + 1) c' st' → R (.yield c') st') → wpS M A E s (f i c) R st)
    (hend : ∀ c st, I (max a b) c st → Q c st) {c : β} {st : σ} (h : I a c st) : wpS M A E s (forIn [a:b] c f) Q st :=
  wpS_forRange I (fun i c st h1 h2 h3 => hstep i c st h1 h2 h3 _ (fun _ _ z => z) (fun _ _ z => z)) hend h
def gallop' : Bool → Keyed → Array Keyed → Nat → Nat → Nat → StateT SortSt Sem (Option Nat) := sortPriv% PySem.Builtin.gallop
/-- what gallop asks of place i -/
def BeyAt (left : Bool) (key : Keyed) (arr : Array Keyed) (base : Nat) (B : Nat → Bool) (i : Nat) : Prop := ∃ x, arr[base + i]? = some x ∧ IK x ∧ B i = (if left then decide (kn x < kn key) else !decide (kn key < kn x))
def bey (left : Bool) (key : Keyed) (arr : Array Keyed) (base i : Nat) : StateT SortSt Sem (Option Bool) := do
      let x ← elem' arr (base + i)
      if left = true then lt' x key else do
        let __do_lift ← lt' key x
        pure (Option.map (fun x => !x) __do_lift)
theorem beyond_ok {st : SortSt} {left : Bool} {key : Keyed} {arr : Array Keyed} {base i : Nat} {B : Nat → Bool} {Q : Option Bool → SortSt → Prop} (hk : kindOf st = oneType') (hy : IK key) (h : BeyAt left key arr base B i) (q : Q (some (B i)) st) :
    wpS (model prog w) A E s (bey left key arr base i) Q st := by
  unfold bey
  obtain ⟨x, e, hx, hB⟩ := h
  refine wpS_bind (elemE e ?_)
  rw [hB] at q
  cases left with
  | true =>
    rw [if_pos rfl] at q ⊢
    exact ltE hk hx hy q
  | false =>
    rw [if_neg Bool.false_ne_true] at q ⊢
    exact wpS_bind (ltE hk hy hx (wpS_pure q))
theorem gallop_ok {st : SortSt} {left : Bool} {key : Keyed} {arr : Array Keyed} {base n hint : Nat} {B : Nat → Bool} {Q : Option Nat → SortSt → Prop} (hk : kindOf st = oneType') (hy : IK key) (hb : ∀ i, i < n → BeyAt left key arr base B i)
    (mono : ∀ i j, i ≤ j → j < n → B j = true → B i = true) (hh : hint < n) (q : ∀ k, k ≤ n → (∀ i, i < k → B i = true) → (∀ i, k ≤ i → i < n → B i = false) → Q (some k) st) :
    wpS (model prog w) A E s (gallop' left key arr base n hint) Q st := by
  have monoF : ∀ i j, i ≤ j → j < n → B i = false → B j = false := fun i j h1 h2 e => by
    cases eJ : B j with
    | false => rfl
    | true => rw [mono i j h1 h2 eJ] at e; cases e
  unfold gallop'
  refine wpS_open ?_
  dsimp only
  refine wpS_bind (beyond_ok hk hy (hb _ hh) ?_)
  cases eH : B hint with
  | true =>
    dsimp only
    rw [if_pos rfl]
    refine wpS_bind (wpS_mono (wpS_forRange (I := fun x c st' => st' = st ∧ ∃ lo of, c = (none, lo, of) ∧ lo < of ∧ x + 1 ≤ of ∧ hint + lo < n ∧ B (hint + lo) = true)
      (Q := fun c st' => st' = st ∧ ∃ lo of, c = (none, lo, of) ∧ lo < of ∧ hint + lo < n ∧ B (hint + lo) = true ∧ ∀ i, hint + min of (n - hint) ≤ i → i < n → B i = false) ?step ?fin ⟨rfl, 0, 1, rfl, by omega, by omega, by omega, by simpa using eH⟩) ?post)
    case fin =>
      rintro c st' ⟨rfl, lo, of, rfl, a, b, d, e⟩
      exact ⟨rfl, lo, of, rfl, a, d, e, fun i h1 h2 => by omega⟩
    case step =>
      rintro x c st' _ hx ⟨rfl, lo, of, rfl, a, b, d, e⟩
      dsimp only
      by_cases hge : of ≥ n - hint
      · rw [if_pos hge]
        exact wpS_pure ⟨rfl, lo, of, rfl, a, d, e, fun i h1 h2 => by omega⟩
      · rw [if_neg hge]
        refine wpS_bind (beyond_ok hk hy (hb (hint + of) (by omega)) ?_)
        cases eB : B (hint + of) with
        | true => exact wpS_pure ⟨rfl, of, 2 * of + 1, rfl, by omega, by omega, by omega, eB⟩
        | false => exact wpS_pure ⟨rfl, lo, of, rfl, a, d, e, fun i h1 h2 => monoF (hint + of) i (by omega) h2 eB⟩
    case post =>
      rintro c st' ⟨rfl, lo, of, rfl, a, d, e, f⟩
      dsimp only
      refine wpS_bind (wpS_mono (wpS_forRange (I := fun x c st2 => st2 = st' ∧ ∃ lo hi, c = (none, lo, hi) ∧ lo ≤ hi ∧ hi ≤ n ∧ hi + x ≤ n + lo ∧ (∀ i, i < lo → B i = true) ∧ (∀ i, hi ≤ i → i < n → B i = false))
        (Q := fun c st2 => st2 = st' ∧ ∃ k, c = (none, k, k) ∧ k ≤ n ∧ (∀ i, i < k → B i = true) ∧ (∀ i, k ≤ i → i < n → B i = false)) ?_ ?_ ⟨rfl, hint + lo + 1, hint + min of (n - hint), rfl, by omega, by omega, by omega, fun i hi => mono i _ (by omega) d e, f⟩) ?_)
      · rintro x c st' _ hx ⟨rfl, lo, hi, rfl, a, b, d, e, f⟩
        dsimp only
        by_cases hge : lo ≥ hi
        · rw [if_pos hge]
          have : lo = hi := by omega
          subst this
          exact wpS_pure ⟨rfl, lo, rfl, b, e, f⟩
        · rw [if_neg hge]
          have hm : lo + (hi - lo) / 2 < n := by omega
          refine wpS_bind (beyond_ok hk hy (hb _ hm) ?_)
          cases eB : B (lo + (hi - lo) / 2) with
          | true =>
            refine wpS_pure ⟨rfl, lo + (hi - lo) / 2 + 1, hi, rfl, by omega, b, by omega, fun i hi' => mono i _ (by omega) hm eB, f⟩
          | false =>
            refine wpS_pure ⟨rfl, lo, lo + (hi - lo) / 2, rfl, by omega, by omega, by omega, e, fun i h1 h2 => ?_⟩
            cases eI : B i with
            | false => rfl
            | true => rw [mono _ i h1 h2 eI] at eB; cases eB
      · rintro c st' ⟨rfl, lo, hi, rfl, a, b, d, e, f⟩
        have : lo = hi := by omega
        subst this
        exact ⟨rfl, lo, rfl, b, e, f⟩
      · rintro c st' ⟨rfl, k, rfl, a, b, d⟩
        exact wpS_pure (q k a b d)
  | false =>
    dsimp only
    rw [if_neg Bool.false_ne_true]
    refine wpS_bind (wpS_mono (wpS_forRange (I := fun x c st' => st' = st ∧ ∃ lo of, c = (none, lo, of) ∧ lo < of ∧ x + 1 ≤ of ∧ lo ≤ hint ∧ B (hint - lo) = false)
      (Q := fun c st' => st' = st ∧ ∃ lo of, c = (none, lo, of) ∧ lo < of ∧ lo ≤ hint ∧ B (hint - lo) = false ∧ ∀ i, i < hint + 1 - min of (hint + 1) → B i = true) ?step2 ?fin2 ⟨rfl, 0, 1, rfl, by omega, by omega, by omega, by simpa using eH⟩) ?post2)
    case fin2 =>
      rintro c st' ⟨rfl, lo, of, rfl, a, b, d, e⟩
      exact ⟨rfl, lo, of, rfl, a, d, e, fun i h1 => by omega⟩
    case step2 =>
      rintro x c st' _ hx ⟨rfl, lo, of, rfl, a, b, d, e⟩
      dsimp only
      by_cases hge : of ≥ hint + 1
      · rw [if_pos hge]
        exact wpS_pure ⟨rfl, lo, of, rfl, a, d, e, fun i h1 => by omega⟩
      · rw [if_neg hge]
        refine wpS_bind (beyond_ok hk hy (hb (hint - of) (by omega)) ?_)
        cases eB : B (hint - of) with
        | true => exact wpS_pure ⟨rfl, lo, of, rfl, a, d, e, fun i h1 => mono i (hint - of) (by omega) (by omega) eB⟩
        | false => exact wpS_pure ⟨rfl, of, 2 * of + 1, rfl, by omega, by omega, by omega, eB⟩
    case post2 =>
      rintro c st' ⟨rfl, lo, of, rfl, a, d, e, f⟩
      dsimp only
      refine wpS_bind (wpS_mono (wpS_forRange (I := fun x c st2 => st2 = st' ∧ ∃ lo hi, c = (none, lo, hi) ∧ lo ≤ hi ∧ hi ≤ n ∧ hi + x ≤ n + lo ∧ (∀ i, i < lo → B i = true) ∧ (∀ i, hi ≤ i → i < n → B i = false))
        (Q := fun c st2 => st2 = st' ∧ ∃ k, c = (none, k, k) ∧ k ≤ n ∧ (∀ i, i < k → B i = true) ∧ (∀ i, k ≤ i → i < n → B i = false)) ?_ ?_ ⟨rfl, hint + 1 - min of (hint + 1), hint - lo, rfl, by omega, by omega, by omega, f, fun i h1 h2 => monoF (hint - lo) i h1 h2 e⟩) ?_)
      · rintro x c st' _ hx ⟨rfl, lo, hi, rfl, a, b, d, e, f⟩
        dsimp only
        by_cases hge : lo ≥ hi
        · rw [if_pos hge]
          have : lo = hi := by omega
          subst this
          exact wpS_pure ⟨rfl, lo, rfl, b, e, f⟩
        · rw [if_neg hge]
          have hm : lo + (hi - lo) / 2 < n := by omega
          refine wpS_bind (beyond_ok hk hy (hb _ hm) ?_)
          cases eB : B (lo + (hi - lo) / 2) with
          | true =>
            refine wpS_pure ⟨rfl, lo + (hi - lo) / 2 + 1, hi, rfl, by omega, b, by omega, fun i hi' => mono i _ (by omega) hm eB, f⟩
          | false =>
            refine wpS_pure ⟨rfl, lo, lo + (hi - lo) / 2, rfl, by omega, by omega, by omega, e, fun i h1 h2 => ?_⟩
            cases eI : B i with
            | false => rfl
            | true => rw [mono _ i h1 h2 eI] at eB; cases eB
      · rintro c st' ⟨rfl, lo, hi, rfl, a, b, d, e, f⟩
        have : lo = hi := by omega
        subst this
        exact ⟨rfl, lo, rfl, b, e, f⟩
      · rintro c st' ⟨rfl, k, rfl, a, b, d⟩
        exact wpS_pure (q k a b d)
theorem galFs {st : SortSt} {key : Keyed} {arr : Array Keyed} {base n hint : Nat} {Q : Option Nat → SortSt → Prop} (hk : kindOf st = oneType') (hy : IK key) (srt : ∀ (i j : Nat) x y, base ≤ i → i < j → j < base + n → arr.toList[i]? = some x → arr.toList[j]? = some y → kn x ≤ kn y) (ik : ∀ x ∈ arr.toList, IK x) (hn : base + n ≤ arr.size) (hh : hint < n)
    (q : ∀ k, k ≤ n → (∀ (j : Nat) x, base ≤ j → j < base + k → arr.toList[j]? = some x → kn x ≤ kn key) → (∀ (j : Nat) x, base + k ≤ j → j < base + n → arr.toList[j]? = some x → kn key < kn x) → Q (some k) st) :
    wpS (model prog w) A E s (gallop' false key arr base n hint) Q st := by
  have get : ∀ i, i < n → ∃ x, arr.toList[base + i]? = some x ∧ IK x := fun i hi => by
    have h1 : base + i < arr.toList.length := by rw [Array.length_toList]; omega
    exact ⟨arr.toList[base + i], List.getElem?_eq_getElem h1, ik _ (List.getElem_mem h1)⟩
  refine gallop_ok (B := fun i => match arr.toList[base + i]? with | some x => !decide (kn key < kn x) | none => false) hk hy (fun i hi => ?_) (fun i j hij hj => ?_) hh fun k k1 k2 k3 => q k k1 (fun j x a b c => ?_) (fun j x a b c => ?_)
  · obtain ⟨x, e, hx⟩ := get i hi
    exact ⟨x, by rw [← e]; simp, hx, by dsimp only; rw [e]; rfl⟩
  · obtain ⟨x, e, hx⟩ := get i (by omega)
    obtain ⟨y, e2, hy2⟩ := get j hj
    rw [e, e2]
    dsimp only
    have hle : kn x ≤ kn y := by
      by_cases h : i = j
      · subst h; rw [e] at e2; cases e2; exact Int.le_refl _
      · exact srt (base + i) (base + j) x y (by omega) (by omega) (by omega) e e2
    simp only [Bool.not_eq_true', decide_eq_false_iff_not, decide_eq_true_eq]
    omega
  · have := k2 (j - base) (by omega)
    have e : base + (j - base) = j := by omega
    rw [e, c] at this
    simp only [Bool.not_eq_true', decide_eq_false_iff_not, decide_eq_true_eq] at this
    omega
  · have := k3 (j - base) (by omega) (by omega)
    have e : base + (j - base) = j := by omega
    rw [e, c] at this
    simp only [Bool.not_eq_false', decide_eq_true_eq, decide_eq_false_iff_not] at this
    omega
theorem galTs {st : SortSt} {key : Keyed} {arr : Array Keyed} {base n hint : Nat} {Q : Option Nat → SortSt → Prop} (hk : kindOf st = oneType') (hy : IK key) (srt : ∀ (i j : Nat) x y, base ≤ i → i < j → j < base + n → arr.toList[i]? = some x → arr.toList[j]? = some y → kn x ≤ kn y) (ik : ∀ x ∈ arr.toList, IK x) (hn : base + n ≤ arr.size) (hh : hint < n)
    (q : ∀ k, k ≤ n → (∀ (j : Nat) x, base ≤ j → j < base + k → arr.toList[j]? = some x → kn x < kn key) → (∀ (j : Nat) x, base + k ≤ j → j < base + n → arr.toList[j]? = some x → kn key ≤ kn x) → Q (some k) st) :
    wpS (model prog w) A E s (gallop' true key arr base n hint) Q st := by
  have get : ∀ i, i < n → ∃ x, arr.toList[base + i]? = some x ∧ IK x := fun i hi => by
    have h1 : base + i < arr.toList.length := by rw [Array.length_toList]; omega
    exact ⟨arr.toList[base + i], List.getElem?_eq_getElem h1, ik _ (List.getElem_mem h1)⟩
  refine gallop_ok (B := fun i => match arr.toList[base + i]? with | some x => decide (kn x < kn key) | none => false) hk hy (fun i hi => ?_) (fun i j hij hj => ?_) hh fun k k1 k2 k3 => q k k1 (fun j x a b c => ?_) (fun j x a b c => ?_)
  · obtain ⟨x, e, hx⟩ := get i hi
    exact ⟨x, by rw [← e]; simp, hx, by dsimp only; rw [e]; rfl⟩
  · obtain ⟨x, e, hx⟩ := get i (by omega)
    obtain ⟨y, e2, hy2⟩ := get j hj
    rw [e, e2]
    dsimp only
    have hle : kn x ≤ kn y := by
      by_cases h : i = j
      · subst h; rw [e] at e2; cases e2; exact Int.le_refl _
      · exact srt (base + i) (base + j) x y (by omega) (by omega) (by omega) e e2
    simp only [Bool.not_eq_true', decide_eq_false_iff_not, decide_eq_true_eq]
    omega
  · have := k2 (j - base) (by omega)
    have e : base + (j - base) = j := by omega
    rw [e, c] at this
    simp only [Bool.not_eq_true', decide_eq_false_iff_not, decide_eq_true_eq] at this
    omega
  · have := k3 (j - base) (by omega) (by omega)
    have e : base + (j - base) = j := by omega
    rw [e, c] at this
    simp only [Bool.not_eq_false', decide_eq_true_eq, decide_eq_false_iff_not] at this
    omega
theorem galF {st : SortSt} {key : Keyed} {arr : Array Keyed} {base n hint : Nat} {Q : Option Nat → SortSt → Prop} (hk : kindOf st = oneType') (hy : IK key) (srt : arr.toList.Pairwise (fun x y => kn x ≤ kn y)) (ik : ∀ x ∈ arr.toList, IK x) (hn : base + n ≤ arr.size) (hh : hint < n)
    (q : ∀ k, k ≤ n → (∀ (j : Nat) x, base ≤ j → j < base + k → arr.toList[j]? = some x → kn x ≤ kn key) → (∀ (j : Nat) x, base + k ≤ j → j < base + n → arr.toList[j]? = some x → kn key < kn x) → Q (some k) st) :
    wpS (model prog w) A E s (gallop' false key arr base n hint) Q st := by
  refine galFs hk hy (fun i j x y _ h _ e e2 => ?_) ik hn hh q
  obtain ⟨l1, q1⟩ := List.getElem?_eq_some_iff.mp e
  obtain ⟨l2, q2⟩ := List.getElem?_eq_some_iff.mp e2
  rw [← q1, ← q2]
  exact List.pairwise_iff_getElem.mp srt i j l1 l2 h
theorem galT {st : SortSt} {key : Keyed} {arr : Array Keyed} {base n hint : Nat} {Q : Option Nat → SortSt → Prop} (hk : kindOf st = oneType') (hy : IK key) (srt : arr.toList.Pairwise (fun x y => kn x ≤ kn y)) (ik : ∀ x ∈ arr.toList, IK x) (hn : base + n ≤ arr.size) (hh : hint < n)
    (q : ∀ k, k ≤ n → (∀ (j : Nat) x, base ≤ j → j < base + k → arr.toList[j]? = some x → kn x < kn key) → (∀ (j : Nat) x, base + k ≤ j → j < base + n → arr.toList[j]? = some x → kn key ≤ kn x) → Q (some k) st) :
    wpS (model prog w) A E s (gallop' true key arr base n hint) Q st := by
  refine galTs hk hy (fun i j x y _ h _ e e2 => ?_) ik hn hh q
  obtain ⟨l1, q1⟩ := List.getElem?_eq_some_iff.mp e
  obtain ⟨l2, q2⟩ := List.getElem?_eq_some_iff.mp e2
  rw [← q1, ← q2]
  exact List.pairwise_iff_getElem.mp srt i j l1 l2 h
end
end L2.Srt

set_option Elab.async false
set_option linter.all false
set_option maxRecDepth 100000
local macro_rules | `(tactic| walk_at "z") => `(tactic| (extract_lets +onlyGivenNames -merge -underBinder z0; subst z0))
local macro_rules | `(tactic| walk_at "j") => `(tactic| (extract_lets +onlyGivenNames -merge -underBinder j0; generalize hj : j0 = j; have hk := hj.symm; clear hj; subst j0; revert j hk))
namespace L2.Srt
open PySem PyProof.Rows
/-! ### merging, by what is laid already -/
structure MG (r : Keyed → Keyed → Prop) (la lb out : List Keyed) (ia ib : Nat) : Prop where
  ha : ia ≤ la.length
  hb : ib ≤ lb.length
  perm : out.Perm (la.take ia ++ lb.take ib)
  srt : out.Pairwise r
  le : ∀ x ∈ out, ∀ y ∈ la.drop ia ++ lb.drop ib, r x y
section
variable {r : Keyed → Keyed → Prop} {la lb out : List Keyed} {ia ib : Nat}
theorem MG.symm (h : MG r la lb out ia ib) : MG r lb la out ib ia := ⟨h.hb, h.ha, h.perm.trans List.perm_append_comm, h.srt, fun x hx y hy => h.le x hx y (by rw [List.mem_append] at hy ⊢; exact hy.symm)⟩
theorem MG.pushA (h : MG r la lb out ia ib) {x : Keyed} (hx : la[ia]? = some x) (hr : ∀ y ∈ la.drop (ia + 1) ++ lb.drop ib, r x y) : MG r la lb (out ++ [x]) (ia + 1) ib := by
  obtain ⟨hlt, ex⟩ := List.getElem?_eq_some_iff.mp hx
  have ed : la.drop ia = x :: la.drop (ia + 1) := by rw [← ex]; exact (List.drop_eq_getElem_cons hlt)
  refine ⟨hlt, h.hb, ?_, ?_, ?_⟩
  · have et : la.take (ia + 1) = la.take ia ++ [x] := by rw [List.take_succ, hx]; rfl
    rw [et]
    refine (h.perm.append_right [x]).trans ?_
    rw [List.append_assoc, List.append_assoc]
    exact List.Perm.append_left _ List.perm_append_comm
  · rw [List.pairwise_append]
    refine ⟨h.srt, List.pairwise_singleton _ _, fun y hy z hz => ?_⟩
    rw [List.mem_singleton] at hz
    rw [hz]
    exact h.le y hy x (by rw [ed]; simp)
  · intro y hy z hz
    rw [List.mem_append, List.mem_singleton] at hy
    rcases hy with hy | rfl
    · exact h.le y hy z (by rw [ed]; rw [List.mem_append] at hz ⊢; exact hz.imp (fun q => List.mem_cons_of_mem _ q) id)
    · exact hr z hz
theorem MG.appA (sa : la.Pairwise r) : ∀ (k : Nat) {out : List Keyed} {ia : Nat}, MG r la lb out ia ib → ia + k ≤ la.length → (∀ j x, ia ≤ j → j < ia + k → la[j]? = some x → ∀ y ∈ lb.drop ib, r x y) → MG r la lb (out ++ (la.drop ia).take k) (ia + k) ib
  | 0, out, ia, h, _, _ => by rw [List.take_zero, List.append_nil]; exact h
  | k + 1, out, ia, h, hk, hr => by
    have hlt : ia < la.length := by omega
    have hx : la[ia]? = some la[ia] := List.getElem?_eq_getElem hlt
    have ed : la.drop ia = la[ia] :: la.drop (ia + 1) := List.drop_eq_getElem_cons hlt
    have h1 := h.pushA hx (fun y hy => by
      rw [List.mem_append] at hy
      rcases hy with hy | hy
      · have sd : (la.drop ia).Pairwise r := sa.sublist (List.drop_sublist _ _)
        rw [ed, List.pairwise_cons] at sd
        exact sd.1 y hy
      · exact hr ia _ (Nat.le_refl _) (by omega) hx y hy)
    have h2 := MG.appA sa k h1 (by omega) (fun j x a b c => hr j x (by omega) (by omega) c)
    have e : out ++ (la.drop ia).take (k + 1) = (out ++ [la[ia]]) ++ (la.drop (ia + 1)).take k := by rw [ed, List.take_succ_cons, List.append_assoc]; rfl
    have e2 : ia + (k + 1) = ia + 1 + k := by omega
    rw [e, e2]
    exact h2
/-- both are laid -/
def MD (r : Keyed → Keyed → Prop) (la lb out : List Keyed) : Prop := out.Perm (la ++ lb) ∧ out.Pairwise r
theorem MG.all (h : MG r la lb out la.length lb.length) : MD r la lb out := ⟨by have := h.perm; rw [List.take_length, List.take_length] at this; exact this, h.srt⟩
theorem MG.restA (h : MG r la lb out ia lb.length) (sa : la.Pairwise r) : MD r la lb (out ++ la.drop ia) := by
  have e : (la.drop ia).take (la.length - ia) = la.drop ia := List.take_of_length_le (by rw [List.length_drop]; exact Nat.le_refl _)
  have h1 := MG.appA sa (la.length - ia) h (by have := h.ha; omega) (fun j x _ _ _ y hy => by rw [List.drop_length] at hy; cases hy)
  have e2 : ia + (la.length - ia) = la.length := by have := h.ha; omega
  rw [e, e2] at h1
  exact h1.all
theorem MG.restB (h : MG r la lb out ia ib) (sb : lb.Pairwise r) (sa : la.Pairwise r) (hl : ia + 1 = la.length) (hr : ∀ y ∈ lb, ∀ x, la[ia]? = some x → r y x) : MD r la lb (out ++ lb.drop ib ++ la.drop ia) := by
  have e : (lb.drop ib).take (lb.length - ib) = lb.drop ib := List.take_of_length_le (by rw [List.length_drop]; exact Nat.le_refl _)
  have hlt : ia < la.length := by omega
  have h1 := MG.appA sb (lb.length - ib) h.symm (by have := h.hb; omega) (fun j x _ _ c y hy => by
    have ed : la.drop ia = [la[ia]] := by rw [List.drop_eq_getElem_cons hlt, List.drop_eq_nil_of_le (by omega)]
    rw [ed, List.mem_singleton] at hy
    rw [hy]
    exact hr x (List.mem_of_getElem? c) _ (List.getElem?_eq_getElem hlt))
  have e2 : ib + (lb.length - ib) = lb.length := by have := h.hb; omega
  rw [e, e2] at h1
  exact h1.symm.restA sa
end
abbrev setGal (st : SortSt) (g : Nat) : SortSt := SortSt.mk' (kindOf st) (arrOf st) (pendingOf st) g (failedOf st)
def setMinGallop' : Nat → StateT SortSt Sem Unit := sortPriv% PySem.Builtin.setMinGallop
theorem setMinGallop'_eq (g : Nat) : setMinGallop' g = modify fun s => setGal s g := rfl
def mergeLo' : Array Keyed → Array Keyed → StateT SortSt Sem (Array Keyed) := sortPriv% PySem.Builtin.mergeLo
def mergeHi' : Array Keyed → Array Keyed → StateT SortSt Sem (Array Keyed) := sortPriv% PySem.Builtin.mergeHi
/-- all but the gallop's own number -/
def Sm (st st' : SortSt) : Prop := arrOf st' = arrOf st ∧ pendingOf st' = pendingOf st ∧ kindOf st' = kindOf st ∧ failedOf st' = failedOf st
theorem Sm.refl (st : SortSt) : Sm st st := ⟨rfl, rfl, rfl, rfl⟩
theorem Sm.gal {st st' : SortSt} (h : Sm st st') (g : Nat) : Sm st (setGal st' g) := h
abbrev leK : Keyed → Keyed → Prop := fun x y => kn x ≤ kn y
theorem ex_all (a : Array Keyed) (i : Nat) : (a.extract i a.size).toList = a.toList.drop i := by
  rw [Array.toList_extract, List.extract_eq_take_drop, List.take_of_length_le]
  rw [List.length_drop, Array.length_toList]
  exact Nat.le_refl _
theorem ex_k (a : Array Keyed) (i k : Nat) : (a.extract i (i + k)).toList = (a.toList.drop i).take k := by
  rw [Array.toList_extract, List.extract_eq_take_drop]
  congr 1
  omega
theorem getA {a : Array Keyed} {i : Nat} (h : i < a.size) : a[i]? = some a[i] ∧ a.toList[i]? = some a[i] ∧ a[i] ∈ a.toList := ⟨Array.getElem?_eq_getElem h, by simp [h], by simp⟩
section
variable {prog : Program} {w : World} {A : Around} {E : Value → Shared → Prop} {s : Shared} {a₀ : Array Keyed} {p : P3}
theorem mergeLo_ok {st : SortSt} {a b : Array Keyed} {Q : Array Keyed → SortSt → Prop} (hk : kindOf st = oneType') (sa : a.toList.Pairwise leK) (sb : b.toList.Pairwise leK) (ika : ∀ x ∈ a.toList, IK x) (ikb : ∀ x ∈ b.toList, IK x)
    (ha : 0 < a.size) (hb : 0 < b.size) (hf : ∀ y ∈ a.toList, ∀ x, b.toList[0]? = some x → kn x ≤ kn y) (hl : ∀ y ∈ b.toList, ∀ x, a.toList[a.size - 1]? = some x → kn y ≤ kn x)
    (q : ∀ out st', Sm st st' → MD leK a.toList b.toList out.toList → Q out st') : wpS (model prog w) A E s (mergeLo' a b) Q st := by
  have lA : Unit → a.toList.length = a.size := fun _ => Array.length_toList
  have lB : Unit → b.toList.length = b.size := fun _ => Array.length_toList
  -- what is returned
  have retB : ∀ (out : Array Keyed) (ia ib : Nat), MG leK a.toList b.toList out.toList ia ib → ib = b.size → MD leK a.toList b.toList (out ++ a.extract ia ++ b.extract ib).toList := fun out ia ib M e => by
    subst e
    rw [← lB ()] at M
    have := M.restA sa
    rw [Array.toList_append, Array.toList_append, ex_all, ex_all, List.drop_eq_nil_of_le (as := b.toList) (by rw [lB ()]; exact Nat.le_refl _), List.append_nil]
    exact this
  have retA : ∀ (out : Array Keyed) (ia ib : Nat), MG leK a.toList b.toList out.toList ia ib → ia = a.size → MD leK a.toList b.toList (out ++ a.extract ia ++ b.extract ib).toList := fun out ia ib M e => by
    subst e
    rw [← lA ()] at M
    have := M.symm.restA sb
    rw [Array.toList_append, Array.toList_append, ex_all, ex_all, List.drop_eq_nil_of_le (as := a.toList) (by rw [lA ()]; exact Nat.le_refl _), List.append_nil]
    exact ⟨this.1.trans List.perm_append_comm, this.2⟩
  have retL : ∀ (out : Array Keyed) (ia ib : Nat), MG leK a.toList b.toList out.toList ia ib → ia + 1 = a.size → MD leK a.toList b.toList (out ++ b.extract ib ++ a.extract ia).toList := fun out ia ib M e => by
    have := M.restB sb sa (by rw [lA ()]; exact e) (fun y hy x hx => hl y hy x (by rw [← e]; exact hx))
    rw [Array.toList_append, Array.toList_append, ex_all, ex_all]
    exact this
  have pushB : ∀ (out : Array Keyed) (ia ib : Nat) (h : ib < b.size), MG leK a.toList b.toList out.toList ia ib → (∀ y ∈ a.toList.drop ia, kn b[ib] ≤ kn y) → MG leK a.toList b.toList (out.push b[ib]).toList ia (ib + 1) := fun out ia ib h M hr => by
    rw [Array.toList_push]
    refine (M.symm.pushA (getA h).2.1 (fun y hy => ?_)).symm
    rw [List.mem_append] at hy
    rcases hy with hy | hy
    · have sd : (b.toList.drop ib).Pairwise leK := sb.sublist (List.drop_sublist _ _)
      have ed : b.toList.drop ib = b[ib] :: b.toList.drop (ib + 1) := List.drop_eq_getElem_cons (by rw [lB ()]; exact h)
      rw [ed, List.pairwise_cons] at sd
      exact sd.1 y hy
    · exact hr y hy
  have pushA : ∀ (out : Array Keyed) (ia ib : Nat) (h : ia < a.size), MG leK a.toList b.toList out.toList ia ib → (∀ y ∈ b.toList.drop ib, kn a[ia] ≤ kn y) → MG leK a.toList b.toList (out.push a[ia]).toList (ia + 1) ib := fun out ia ib h M hr => by
    rw [Array.toList_push]
    refine M.pushA (getA h).2.1 (fun y hy => ?_)
    rw [List.mem_append] at hy
    rcases hy with hy | hy
    · have sd : (a.toList.drop ia).Pairwise leK := sa.sublist (List.drop_sublist _ _)
      have ed : a.toList.drop ia = a[ia] :: a.toList.drop (ia + 1) := List.drop_eq_getElem_cons (by rw [lA ()]; exact h)
      rw [ed, List.pairwise_cons] at sd
      exact sd.1 y hy
    · exact hr y hy
  have headLe : ∀ {c : Array Keyed} {i : Nat} (h : i < c.size), c.toList.Pairwise leK → ∀ {z : Int}, z ≤ kn c[i] → ∀ y ∈ c.toList.drop i, z ≤ kn y := fun {c i} h sc {z} hz y hy => by
    have sd : (c.toList.drop i).Pairwise leK := sc.sublist (List.drop_sublist _ _)
    have ed : c.toList.drop i = c[i] :: c.toList.drop (i + 1) := List.drop_eq_getElem_cons (by rw [Array.length_toList]; exact h)
    rw [ed] at hy sd
    rcases List.mem_cons.mp hy with e | hy
    · rw [e]; exact hz
    · exact Int.le_trans hz ((List.pairwise_cons.mp sd).1 y hy)
  have fromGal : ∀ {c : Array Keyed} {i : Nat} {z : Int}, (∀ (j : Nat) x, i ≤ j → j < c.size → c.toList[j]? = some x → z ≤ kn x) → ∀ y ∈ c.toList.drop i, z ≤ kn y := fun {c i z} h y hy => by
    obtain ⟨j, hj⟩ := List.getElem?_of_mem hy
    rw [List.getElem?_drop] at hj
    have := (List.getElem?_eq_some_iff.mp hj).1
    rw [Array.length_toList] at this
    exact h (i + j) y (Nat.le_add_right _ _) this hj
  unfold mergeLo'
  refine wpS_open ?_
  refine wpS_bind (wpS_lift (wpAny_rule ⟨rfl, ?_⟩))
  iterate 3 (walk_at "z")
  refine wpS_bind (elemE (getA hb).1 ?_)
  iterate 3 (walk_at "z")
  have M0 : MG leK a.toList b.toList (#[b[0]] : Array Keyed).toList 0 1 := by
    have M : MG leK a.toList b.toList (#[] : Array Keyed).toList 0 0 := ⟨Nat.zero_le _, Nat.zero_le _, .nil, .nil, fun x hx => by cases hx⟩
    exact pushB #[] 0 0 hb M (fun y hy => hf y (by simpa using hy) _ (getA hb).2.1)
  by_cases c1 : (1 == b.size) = true
  · rw [if_pos c1]
    exact wpS_pure (q _ _ (.refl _) (retB _ _ _ M0 (by simpa using c1)))
  rw [if_neg c1]
  by_cases c2 : (0 + 1 == a.size) = true
  · rw [if_pos c2]
    exact wpS_pure (q _ _ (.refl _) (retL _ _ _ M0 (by simpa using c2)))
  rw [if_neg c2]
  have n1 : 1 < b.size := by have : ¬ 1 = b.size := by simpa using c1
                             omega
  have n2 : 0 + 1 < a.size := by have : ¬ 0 + 1 = a.size := by simpa using c2
                                 omega
  refine wpS_bind (wpS_get ?_)
  walk_at "z"
  refine wpS_bind (wpS_mono (wpS_forRange (I := fun x c st' => ∃ out ia ib g, c = (none, out, ia, ib, g) ∧ Sm st st' ∧ MG leK a.toList b.toList out.toList ia ib ∧ ia + 1 < a.size ∧ ib < b.size ∧ x + 1 ≤ ia + ib)
    (Q := fun c st' => ∃ r rest, c = (some r, rest) ∧ Sm st st' ∧ MD leK a.toList b.toList r.toList) ?step ?fin ⟨_, 0, 1, _, rfl, .refl _, M0, n2, n1, by omega⟩) ?post)
  case post =>
    rintro c st' ⟨r, rest, rfl, s1, d⟩
    exact wpS_pure (q r st' s1 d)
  case fin =>
    rintro c st' ⟨out, ia, ib, g, rfl, s1, M, h1, h2, h3⟩
    omega
  case step =>
    rintro x c st1 _ hx ⟨out, ia, ib, g, rfl, s1, M, h1, h2, h3⟩
    iterate 9 (walk_at "z")
    dsimp -zeta only
    refine wpS_bind (wpS_mono (wpS_forRange (I := fun y c st' => ∃ out ia ib ac bc, c = (none, out, ia, ib, ac, bc) ∧ Sm st st' ∧ MG leK a.toList b.toList out.toList ia ib ∧ ia + 1 < a.size ∧ ib < b.size ∧ x + 1 ≤ ia + ib ∧ (1 ≤ y → x + 2 ≤ ia + ib))
      (Q := fun c st' => (∃ r rest, c = (some r, rest) ∧ Sm st st' ∧ MD leK a.toList b.toList r.toList) ∨ (∃ out ia ib ac bc, c = (none, out, ia, ib, ac, bc) ∧ Sm st st' ∧ MG leK a.toList b.toList out.toList ia ib ∧ ia + 1 < a.size ∧ ib < b.size ∧ x + 2 ≤ ia + ib)) ?istep ?ifin ⟨_, ia, ib, _, _, rfl, s1, M, h1, h2, h3, by omega⟩) ?ipost)
    case ifin =>
      rintro c st' ⟨out, ia, ib, ac, bc, rfl, s2, M, h1, h2, h3, h4⟩
      exact .inr ⟨out, ia, ib, ac, bc, rfl, s2, M, h1, h2, h4 (by omega)⟩
    case istep =>
      rintro y c st2 _ hy ⟨out, ia, ib, ac, bc, rfl, s2, M, h1, h2, h3, h4⟩
      iterate 9 (walk_at "z")
      dsimp -zeta only
      have k2 : kindOf st2 = oneType' := s2.2.2.1.trans hk
      have la' : ia < a.size := by omega
      refine wpS_bind (elemE (getA h2).1 (wpS_bind (elemE (getA la').1 (wpS_bind (ltE k2 (ikb _ (getA h2).2.2) (ika _ (getA la').2.2) ?_)))))
      dsimp -zeta only
      by_cases hw : kn b[ib] < kn a[ia]
      · rw [if_pos (decide_eq_true hw)]
        refine wpS_bind (elemE (getA h2).1 ?_)
        iterate 4 (walk_at "z")
        have M2 := pushB out ia ib h2 M (headLe la' sa (Int.le_of_lt hw))
        by_cases e : (ib + 1 == b.size) = true
        · rw [if_pos e]
          exact wpS_pure (.inl ⟨_, _, rfl, s2, retB _ _ _ M2 (by simpa using e)⟩)
        · rw [if_neg e]
          have e' : ib + 1 < b.size := by have : ¬ ib + 1 = b.size := by simpa using e
                                          omega
          split
          · exact wpS_pure (.inr ⟨_, _, _, _, _, rfl, s2, M2, h1, e', by omega⟩)
          · exact wpS_pure ⟨_, _, _, _, _, rfl, s2, M2, h1, e', by omega, by omega⟩
      · rw [if_neg (by simpa using hw)]
        refine wpS_bind (elemE (getA la').1 ?_)
        iterate 4 (walk_at "z")
        have M2 := pushA out ia ib la' M (headLe h2 sb (Int.not_lt.mp hw))
        by_cases e : (ia + 1 + 1 == a.size) = true
        · rw [if_pos e]
          exact wpS_pure (.inl ⟨_, _, rfl, s2, retL _ _ _ M2 (by simpa using e)⟩)
        · rw [if_neg e]
          have e' : ia + 1 + 1 < a.size := by have : ¬ ia + 1 + 1 = a.size := by simpa using e
                                              omega
          split
          · exact wpS_pure (.inr ⟨_, _, _, _, _, rfl, s2, M2, e', h2, by omega⟩)
          · exact wpS_pure ⟨_, _, _, _, _, rfl, s2, M2, e', h2, by omega, by omega⟩
    case ipost =>
      rintro c st2 (⟨r, rest, rfl, s2, d⟩ | ⟨out, ia, ib, ac, bc, rfl, s2, M, h1, h2, h3⟩)
      · iterate 10 (walk_at "z")
        exact wpS_pure ⟨r, _, rfl, s2, d⟩
      · iterate 10 (walk_at "z")
        dsimp -zeta only
        refine wpS_bind (wpS_lift (wpAny_rule ⟨rfl, ?_⟩))
        walk_at "z"
        refine wpS_bind (wpS_mono (forR (I := fun y c st' => ∃ out ia ib g ac bc, c = (none, out, ia, ib, g, ac, bc) ∧ Sm st st' ∧ MG leK a.toList b.toList out.toList ia ib ∧ ia + 1 < a.size ∧ ib < b.size ∧ x + 2 ≤ ia + ib)
          (Q := fun c st' => (∃ r rest, c = (some r, rest) ∧ Sm st st' ∧ MD leK a.toList b.toList r.toList) ∨ (∃ out ia ib g ac bc, c = (none, out, ia, ib, g, ac, bc) ∧ Sm st st' ∧ MG leK a.toList b.toList out.toList ia ib ∧ ia + 1 < a.size ∧ ib < b.size ∧ x + 2 ≤ ia + ib)) ?gstep (fun c st' z => .inr z) ⟨_, ia, ib, _, _, _, rfl, s2, M, h1, h2, h3⟩) ?gpost)
        case gpost =>
          rintro c st3 (⟨r, rest, rfl, s3, d⟩ | ⟨out, ia, ib, g, ac, bc, rfl, s3, M, h1, h2, h3⟩)
          · iterate 9 (walk_at "z")
            exact wpS_pure ⟨r, _, rfl, s3, d⟩
          · iterate 9 (walk_at "z")
            dsimp -zeta only
            walk_at "z"
            refine wpS_bind ?_
            show wpS _ _ _ _ (setMinGallop' _) _ _
            rw [setMinGallop'_eq]
            exact wpS_modify (wpS_pure ⟨_, _, _, _, rfl, s3.gal _, M, h1, h2, by omega⟩)
        case gstep =>
          rintro y c st3 _ hy ⟨out, ia, ib, g, ac, bc, rfl, s3, M, h1, h2, h3⟩ R hd hyl
          iterate 11 (walk_at "z")
          dsimp -zeta only
          walk_at "j"
          intro jp hjp
          have main : ∀ g st3, Sm st st3 → wpS (model prog w) A E s (jp () g) R st3 := by
            intro g st3 s3
            rw [hjp]
            dsimp -zeta only
            refine wpS_bind ?_
            show wpS _ _ _ _ (setMinGallop' _) _ _
            rw [setMinGallop'_eq]
            refine wpS_modify ?_
            have s4 := s3.gal g
            have k4 : kindOf (setGal st3 g) = oneType' := s4.2.2.1.trans hk
            generalize setGal st3 g = st4 at s4 k4 ⊢
            refine wpS_bind (elemE (getA h2).1 ?_)
            refine wpS_bind (galF k4 (ikb _ (getA h2).2.2) sa ika (base := ia) (n := a.size - ia) (hint := 0) (by omega) (by omega) fun k k1 k2 k3 => ?_)
            dsimp -zeta only
            walk_at "z"
            walk_at "j"
            intro jp2 hjp2
            have main2 : ∀ (out : Array Keyed) (ia : Nat), MG leK a.toList b.toList out.toList ia ib → ia + 1 < a.size → x + 2 ≤ ia + ib → (∀ y ∈ a.toList.drop ia, kn b[ib] ≤ kn y) → wpS (model prog w) A E s (jp2 () out ia) R st4 := by
              intro out ia M h1 h3 hr
              rw [hjp2]
              dsimp -zeta only
              have la' : ia < a.size := by omega
              refine wpS_bind (elemE (getA h2).1 ?_)
              iterate 2 (walk_at "z")
              have M2 := pushB out ia ib h2 M hr
              by_cases e : (ib + 1 == b.size) = true
              · rw [if_pos e]
                exact wpS_pure (hd _ _ (.inl ⟨_, _, rfl, s4, retB _ _ _ M2 (by simpa using e)⟩))
              · rw [if_neg e]
                have e' : ib + 1 < b.size := by have : ¬ ib + 1 = b.size := by simpa using e
                                                omega
                refine wpS_bind (elemE (getA la').1 ?_)
                refine wpS_bind (galT k4 (ika _ (getA la').2.2) sb ikb (base := ib + 1) (n := b.size - (ib + 1)) (hint := 0) (by omega) (by omega) fun k' j1 j2 j3 => ?_)
                dsimp -zeta only
                walk_at "z"
                walk_at "j"
                intro jp3 hjp3
                have main3 : ∀ (out : Array Keyed) (ib : Nat), MG leK a.toList b.toList out.toList ia ib → ib < b.size → x + 2 ≤ ia + ib → (∀ y ∈ b.toList.drop ib, kn a[ia] ≤ kn y) → wpS (model prog w) A E s (jp3 () out ib) R st4 := by
                  intro out ib M h2 h3 hr
                  rw [hjp3]
                  dsimp -zeta only
                  refine wpS_bind (elemE (getA la').1 ?_)
                  iterate 2 (walk_at "z")
                  have M2 := pushA out ia ib la' M hr
                  by_cases e : (ia + 1 + 1 == a.size) = true
                  · rw [if_pos e]
                    exact wpS_pure (hd _ _ (.inl ⟨_, _, rfl, s4, retL _ _ _ M2 (by simpa using e)⟩))
                  · rw [if_neg e]
                    have e' : ia + 1 + 1 < a.size := by have : ¬ ia + 1 + 1 = a.size := by simpa using e
                                                        omega
                    split
                    · exact wpS_pure (hd _ _ (.inr ⟨_, _, _, _, _, _, rfl, s4, M2, e', h2, by omega⟩))
                    · exact wpS_pure (hyl _ _ ⟨_, _, _, _, _, _, rfl, s4, M2, e', h2, by omega⟩)
                by_cases hk0 : k' > 0
                · rw [if_pos hk0]
                  iterate 2 (walk_at "z")
                  have M3 : MG leK a.toList b.toList (out.push b[ib] ++ b.extract (ib + 1) (ib + 1 + k')).toList ia (ib + 1 + k') := by
                    rw [Array.toList_append, ex_k]
                    refine (MG.appA sb k' M2.symm (by rw [lB ()]; omega) (fun j z a1 a2 a3 y hy => ?_)).symm
                    exact Int.le_trans (Int.le_of_lt (j2 j z a1 a2 a3)) (headLe la' sa (Int.le_refl _) y hy)
                  by_cases e2 : (ib + 1 + k' == b.size) = true
                  · rw [if_pos e2]
                    exact wpS_pure (hd _ _ (.inl ⟨_, _, rfl, s4, retB _ _ _ M3 (by simpa using e2)⟩))
                  · rw [if_neg e2]
                    have e3 : ib + 1 + k' < b.size := by have : ¬ ib + 1 + k' = b.size := by simpa using e2
                                                         omega
                    exact main3 _ _ M3 e3 (by omega) (fromGal fun j z a1 a2 a3 => j3 j z a1 (by omega) a3)
                · rw [if_neg hk0]
                  have k0 : k' = 0 := by omega
                  exact main3 _ _ M2 e' (by omega) (fromGal fun j z a1 a2 a3 => j3 j z (by omega) (by omega) a3)
            by_cases hk0 : k > 0
            · rw [if_pos hk0]
              iterate 2 (walk_at "z")
              have M3 : MG leK a.toList b.toList (out ++ a.extract ia (ia + k)).toList (ia + k) ib := by
                rw [Array.toList_append, ex_k]
                refine MG.appA sa k M (by rw [lA ()]; omega) (fun j z a1 a2 a3 y hy => ?_)
                exact Int.le_trans (k2 j z a1 a2 a3) (headLe h2 sb (Int.le_refl _) y hy)
              by_cases e1 : (ia + k + 1 == a.size) = true
              · rw [if_pos e1]
                exact wpS_pure (hd _ _ (.inl ⟨_, _, rfl, s4, retL _ _ _ M3 (by simpa using e1)⟩))
              · rw [if_neg e1]
                by_cases e2 : (ia + k == a.size) = true
                · rw [if_pos e2]
                  exact wpS_pure (hd _ _ (.inl ⟨_, _, rfl, s4, retA _ _ _ M3 (by simpa using e2)⟩))
                · rw [if_neg e2]
                  have e3 : ia + k + 1 < a.size := by have : ¬ ia + k + 1 = a.size := by simpa using e1
                                                      have : ¬ ia + k = a.size := by simpa using e2
                                                      omega
                  exact main2 _ _ M3 e3 (by omega) (fromGal fun j z a1 a2 a3 => Int.le_of_lt (k3 j z a1 (by omega) a3))
            · rw [if_neg hk0]
              have k0 : k = 0 := by omega
              exact main2 _ _ M h1 h3 (fromGal fun j z a1 a2 a3 => Int.le_of_lt (k3 j z (by omega) (by omega) a3))
          split
          · walk_at "z"
            exact main _ _ s3
          · exact main _ _ s3
end
end L2.Srt

set_option Elab.async false
set_option linter.all false
set_option maxRecDepth 100000
local macro_rules | `(tactic| walk_at "z") => `(tactic| (extract_lets +onlyGivenNames -merge -underBinder z0; subst z0))
local macro_rules | `(tactic| walk_at "j") => `(tactic| (extract_lets +onlyGivenNames -merge -underBinder j0; generalize hj : j0 = j; have hk := hj.symm; clear hj; subst j0; revert j hk))
namespace L2.Srt
open PySem PyProof.Rows
abbrev geK : Keyed → Keyed → Prop := fun x y => kn y ≤ kn x
theorem rev_take (l : List Keyed) {n : Nat} (h : n ≤ l.length) : l.reverse.drop (l.length - n) = (l.take n).reverse := by
  rw [List.drop_reverse]
  congr 2
  omega
theorem rev_cut (l : List Keyed) {n k : Nat} (h : n ≤ l.length) (hk : k ≤ n) : (l.reverse.drop (l.length - n)).take (n - k) = ((l.take n).drop k).reverse := by
  rw [rev_take l h, List.take_reverse]
  congr 2
  rw [List.length_take]
  omega
section
variable {prog : Program} {w : World} {A : Around} {E : Value → Shared → Prop} {s : Shared} {a₀ : Array Keyed} {p : P3}
theorem sb1 {A n : Nat} (h0 : 0 < n) (h : n ≤ A) : A - n + 1 = A - (n - 1) := by omega
theorem sb2 {A n k : Nat} (h1 : k ≤ n) (h2 : n ≤ A) : A - k = A - n + (n - k) := by omega
theorem gt1 {n : Nat} (h : 1 < n) (e : ¬ (n - 1 == 1) = true) : 1 < n - 1 := by
  have : ¬ n - 1 = 1 := by simpa using e
  omega
theorem gt0 {n : Nat} (e : ¬ (n == 0) = true) : 0 < n := Nat.pos_of_ne_zero (by simpa using e)
theorem ms1 {x y z S : Nat} (h : x + 1 + y + z ≤ S) (h0 : 0 < z) : x + 2 + y + (z - 1) ≤ S := by omega
theorem ms2 {x y z S : Nat} (h : x + 1 + y + z ≤ S) (h0 : 1 < y) : x + 2 + (y - 1) + z ≤ S := by omega
theorem le12 {x y z S : Nat} (h : x + 2 + y + z ≤ S) : x + 1 + y + z ≤ S := by omega
theorem ms3 {x y z S : Nat} (h : x + 2 + y + z ≤ S) : x + 2 + y + (z - 1) ≤ S := by omega
theorem lo1 {m n : Nat} (h : n ≤ m) : n - 1 ≤ m := Nat.le_trans (Nat.sub_le _ _) h
theorem mergeHi_ok {st : SortSt} {a b : Array Keyed} {Q : Array Keyed → SortSt → Prop} (hk : kindOf st = oneType') (sa : a.toList.Pairwise leK) (sb : b.toList.Pairwise leK) (ika : ∀ x ∈ a.toList, IK x) (ikb : ∀ x ∈ b.toList, IK x)
    (ha : 0 < a.size) (hb : 0 < b.size) (hf : ∀ y ∈ a.toList, ∀ x, b.toList[0]? = some x → kn x ≤ kn y) (hl : ∀ y ∈ b.toList, ∀ x, a.toList[a.size - 1]? = some x → kn y ≤ kn x)
    (q : ∀ out st', Sm st st' → MD leK a.toList b.toList out.toList → Q out st') : wpS (model prog w) A E s (mergeHi' a b) Q st := by
  have lA : Unit → a.toList.length = a.size := fun _ => Array.length_toList
  have lB : Unit → b.toList.length = b.size := fun _ => Array.length_toList
  have ra : a.toList.reverse.Pairwise geK := List.pairwise_reverse.mpr sa
  have rb : b.toList.reverse.Pairwise geK := List.pairwise_reverse.mpr sb
  have rlA : Unit → a.toList.reverse.length = a.size := fun _ => by rw [List.length_reverse, lA ()]
  have rlB : Unit → b.toList.reverse.length = b.size := fun _ => by rw [List.length_reverse, lB ()]
  have back : ∀ l : List Keyed, MD geK b.toList.reverse a.toList.reverse l → MD leK a.toList b.toList l.reverse := fun l h => by
    refine ⟨(List.reverse_perm l).trans (h.1.trans ?_), List.pairwise_reverse.mpr h.2⟩
    exact ((List.reverse_perm _).append (List.reverse_perm _)).trans List.perm_append_comm
  have tA : ∀ n, n ≤ a.size → a.toList.reverse.drop (a.size - n) = (a.toList.take n).reverse := fun n h => by rw [← lA ()]; exact rev_take _ (by rw [lA ()]; exact h)
  have tB : ∀ n, n ≤ b.size → b.toList.reverse.drop (b.size - n) = (b.toList.take n).reverse := fun n h => by rw [← lB ()]; exact rev_take _ (by rw [lB ()]; exact h)
  have ex0 : ∀ (c : Array Keyed) (n : Nat), (c.extract 0 n).toList = c.toList.take n := fun c n => by rw [Array.toList_extract, List.extract_eq_take_drop, List.drop_zero, Nat.sub_zero]
  -- what is returned
  have retA : ∀ (out : Array Keyed) (na nb : Nat), MG geK b.toList.reverse a.toList.reverse out.toList (b.size - nb) (a.size - na) → nb ≤ b.size → na = 0 → MD leK a.toList b.toList (a.extract 0 na ++ b.extract 0 nb ++ out.reverse).toList := fun out na nb M hnb e => by
    subst e
    rw [Nat.sub_zero, ← rlA ()] at M
    have := back _ (M.restA rb)
    rw [tB nb hnb, List.reverse_append, List.reverse_reverse] at this
    rw [Array.toList_append, Array.toList_append, ex0, ex0, Array.toList_reverse, List.take_zero, List.nil_append]
    exact this
  have retB : ∀ (out : Array Keyed) (na nb : Nat), MG geK b.toList.reverse a.toList.reverse out.toList (b.size - nb) (a.size - na) → na ≤ a.size → nb = 0 → MD leK a.toList b.toList (a.extract 0 na ++ b.extract 0 nb ++ out.reverse).toList := fun out na nb M hna e => by
    subst e
    rw [Nat.sub_zero, ← rlB ()] at M
    have h1 := M.symm.restA ra
    have := back _ ⟨h1.1.trans List.perm_append_comm, h1.2⟩
    rw [tA na hna, List.reverse_append, List.reverse_reverse] at this
    rw [Array.toList_append, Array.toList_append, ex0, ex0, Array.toList_reverse, List.take_zero, List.append_nil]
    exact this
  have retF : ∀ (out : Array Keyed) (na nb : Nat), MG geK b.toList.reverse a.toList.reverse out.toList (b.size - nb) (a.size - na) → na ≤ a.size → nb = 1 → MD leK a.toList b.toList (b.extract 0 nb ++ a.extract 0 na ++ out.reverse).toList := fun out na nb M hna e => by
    subst e
    have h1 := M.restB ra rb (by rw [rlB ()]; omega) (fun y hy x hx => by
      rw [List.getElem?_reverse (by rw [lB ()]; omega)] at hx
      refine hf y (List.mem_reverse.mp hy) x ?_
      rw [← hx]
      congr 1
      rw [lB ()]
      omega)
    have := back _ h1
    rw [tA na hna, tB 1 (by omega), List.reverse_append, List.reverse_append, List.reverse_reverse, List.reverse_reverse] at this
    rw [Array.toList_append, Array.toList_append, ex0, ex0, Array.toList_reverse, List.append_assoc]
    exact this
  have lowLe : ∀ {c : Array Keyed} {n : Nat} (h : n - 1 < c.size), 0 < n → c.toList.Pairwise leK → ∀ {z : Int}, kn c[n - 1] ≤ z → ∀ y ∈ (c.toList.take n).reverse, kn y ≤ z := fun {c n} h h0 sc {z} hz y hy => by
    obtain ⟨j, hj⟩ := List.getElem?_of_mem (List.mem_reverse.mp hy)
    have j1 : j < n := by
      have := (List.getElem?_eq_some_iff.mp hj).1
      rw [List.length_take] at this
      omega
    rw [List.getElem?_take_of_lt j1] at hj
    have e2 := (getA h).2.1
    by_cases e : j = n - 1
    · rw [e, e2] at hj
      cases hj
      exact hz
    · obtain ⟨l1, q1⟩ := List.getElem?_eq_some_iff.mp hj
      obtain ⟨l2, q2⟩ := List.getElem?_eq_some_iff.mp e2
      have := List.pairwise_iff_getElem.mp sc j (n - 1) l1 l2 (by omega)
      rw [q1, q2] at this
      exact Int.le_trans this hz
  have fromGal : ∀ {c : Array Keyed} {n : Nat} {z : Int}, (∀ (j : Nat) x, j < n → c.toList[j]? = some x → kn x ≤ z) → ∀ y ∈ (c.toList.take n).reverse, kn y ≤ z := fun {c n z} h y hy => by
    obtain ⟨j, hj⟩ := List.getElem?_of_mem (List.mem_reverse.mp hy)
    have j1 : j < n := by
      have := (List.getElem?_eq_some_iff.mp hj).1
      rw [List.length_take] at this
      omega
    rw [List.getElem?_take_of_lt j1] at hj
    exact h j y j1 hj
  have gR : ∀ (c : Array Keyed) (n : Nat) (h0 : 0 < n) (h : n - 1 < c.size), n ≤ c.size → c.toList.reverse[c.size - n]? = some c[n - 1] := fun c n h0 h hn => by
    rw [List.getElem?_reverse (by rw [Array.length_toList]; omega), Array.length_toList]
    have e : c.size - 1 - (c.size - n) = n - 1 := by rw [Nat.sub_right_comm, Nat.sub_sub_self hn]
    rw [e]
    exact (getA h).2.1
  have pushA : ∀ (out : Array Keyed) (na nb : Nat) (h0 : 0 < na) (h : na - 1 < a.size), na ≤ a.size → nb ≤ b.size → MG geK b.toList.reverse a.toList.reverse out.toList (b.size - nb) (a.size - na) → (∀ y ∈ (b.toList.take nb).reverse, kn y ≤ kn a[na - 1]) → MG geK b.toList.reverse a.toList.reverse (out.push a[na - 1]).toList (b.size - nb) (a.size - (na - 1)) := fun out na nb h0 h hn hnb M hr => by
    rw [Array.toList_push]
    have M2 := M.symm.pushA (gR a na h0 h hn) (fun y hy => ?_)
    · have e : a.size - na + 1 = a.size - (na - 1) := sb1 h0 hn
      rw [e] at M2
      exact M2.symm
    · rw [List.mem_append] at hy
      rcases hy with hy | hy
      · have e : a.size - na + 1 = a.size - (na - 1) := sb1 h0 hn
        rw [e, tA (na - 1) (by omega)] at hy
        refine lowLe (n := na) h h0 sa (Int.le_refl _) y ?_
        rw [List.mem_reverse] at hy ⊢
        exact (List.take_subset_take_left _ (by omega)) hy
      · rw [tB nb hnb] at hy
        exact hr y hy
  have pushB : ∀ (out : Array Keyed) (na nb : Nat) (h0 : 0 < nb) (h : nb - 1 < b.size), nb ≤ b.size → na ≤ a.size → MG geK b.toList.reverse a.toList.reverse out.toList (b.size - nb) (a.size - na) → (∀ y ∈ (a.toList.take na).reverse, kn y ≤ kn b[nb - 1]) → MG geK b.toList.reverse a.toList.reverse (out.push b[nb - 1]).toList (b.size - (nb - 1)) (a.size - na) := fun out na nb h0 h hn hna M hr => by
    rw [Array.toList_push]
    have M2 := M.pushA (gR b nb h0 h hn) (fun y hy => ?_)
    · have e : b.size - nb + 1 = b.size - (nb - 1) := sb1 h0 hn
      rw [e] at M2
      exact M2
    · rw [List.mem_append] at hy
      rcases hy with hy | hy
      · have e : b.size - nb + 1 = b.size - (nb - 1) := sb1 h0 hn
        rw [e, tB (nb - 1) (by omega)] at hy
        refine lowLe (n := nb) h h0 sb (Int.le_refl _) y ?_
        rw [List.mem_reverse] at hy ⊢
        exact (List.take_subset_take_left _ (by omega)) hy
      · rw [tA na hna] at hy
        exact hr y hy
  have appR : ∀ (out c : Array Keyed) (k n : Nat), k ≤ n → n ≤ c.size → (out ++ (c.extract k n).reverse).toList = out.toList ++ (c.toList.reverse.drop (c.size - n)).take (n - k) := fun out c k n h1 h2 => by
    rw [Array.toList_append, Array.toList_reverse]
    have e := rev_cut c.toList (n := n) (k := k) (by rw [Array.length_toList]; exact h2) h1
    rw [Array.length_toList] at e
    rw [e]
    congr 2
    rw [Array.toList_extract, List.extract_eq_take_drop, List.drop_take]
  unfold mergeHi'
  refine wpS_open ?_
  refine wpS_bind (wpS_lift (wpAny_rule ⟨rfl, ?_⟩))
  iterate 5 (walk_at "z")
  have la0 : a.size - 1 < a.size := by omega
  refine wpS_bind (elemE (getA la0).1 ?_)
  walk_at "z"
  have M0 : MG geK b.toList.reverse a.toList.reverse (#[a[a.size - 1]] : Array Keyed).toList (b.size - b.size) (a.size - (a.size - 1)) := by
    have M : MG geK b.toList.reverse a.toList.reverse (#[] : Array Keyed).toList (b.size - b.size) (a.size - a.size) := ⟨by omega, by omega, by rw [Nat.sub_self, Nat.sub_self]; exact .nil, .nil, fun x hx => by cases hx⟩
    exact pushA #[] a.size b.size ha la0 (Nat.le_refl _) (Nat.le_refl _) M (fun y hy => hl y (List.mem_of_mem_take (List.mem_reverse.mp hy)) _ (getA la0).2.1)
  by_cases c1 : (a.size - 1 == 0) = true
  · rw [if_pos c1]
    exact wpS_pure (q _ _ (.refl _) (retA _ _ _ M0 (Nat.le_refl _) (by simpa using c1)))
  rw [if_neg c1]
  by_cases c2 : (b.size == 1) = true
  · rw [if_pos c2]
    exact wpS_pure (q _ _ (.refl _) (retF _ _ _ M0 (by omega) (by simpa using c2)))
  rw [if_neg c2]
  have n1 : 0 < a.size - 1 := gt0 c1
  have n2 : 1 < b.size := by have : ¬ b.size = 1 := by simpa using c2
                             omega
  refine wpS_bind (wpS_get ?_)
  walk_at "z"
  refine wpS_bind (wpS_mono (wpS_forRange (I := fun x c st' => ∃ out na nb g, c = (none, na, nb, out, g) ∧ Sm st st' ∧ MG geK b.toList.reverse a.toList.reverse out.toList (b.size - nb) (a.size - na) ∧ 0 < na ∧ na ≤ a.size ∧ 1 < nb ∧ nb ≤ b.size ∧ x + 1 + nb + na ≤ b.size + a.size)
    (Q := fun c st' => ∃ r rest, c = (some r, rest) ∧ Sm st st' ∧ MD leK a.toList b.toList r.toList) ?step ?fin ⟨_, a.size - 1, b.size, _, rfl, .refl _, M0, n1, by omega, n2, Nat.le_refl _, by omega⟩) ?post)
  case post =>
    rintro c st' ⟨r, rest, rfl, s1, d⟩
    exact wpS_pure (q r st' s1 d)
  case fin =>
    rintro c st' ⟨out, na, nb, g, rfl, s1, M, h1, h2, h3, h4, h5⟩
    omega
  case step =>
    rintro x c st1 _ hx ⟨out, na, nb, g, rfl, s1, M, h1, h2, h3, h4, h5⟩
    iterate 9 (walk_at "z")
    dsimp -zeta only
    refine wpS_bind (wpS_mono (wpS_forRange (I := fun y c st' => ∃ out na nb ac bc, c = (none, na, nb, out, ac, bc) ∧ Sm st st' ∧ MG geK b.toList.reverse a.toList.reverse out.toList (b.size - nb) (a.size - na) ∧ 0 < na ∧ na ≤ a.size ∧ 1 < nb ∧ nb ≤ b.size ∧ x + 1 + nb + na ≤ b.size + a.size ∧ (1 ≤ y → x + 2 + nb + na ≤ b.size + a.size))
      (Q := fun c st' => (∃ r rest, c = (some r, rest) ∧ Sm st st' ∧ MD leK a.toList b.toList r.toList) ∨ (∃ out na nb ac bc, c = (none, na, nb, out, ac, bc) ∧ Sm st st' ∧ MG geK b.toList.reverse a.toList.reverse out.toList (b.size - nb) (a.size - na) ∧ 0 < na ∧ na ≤ a.size ∧ 1 < nb ∧ nb ≤ b.size ∧ x + 2 + nb + na ≤ b.size + a.size)) ?istep ?ifin ⟨_, na, nb, _, _, rfl, s1, M, h1, h2, h3, h4, h5, by omega⟩) ?ipost)
    case ifin =>
      rintro c st' ⟨out, na, nb, ac, bc, rfl, s2, M, h1, h2, h3, h4, h5, h6⟩
      exact .inr ⟨out, na, nb, ac, bc, rfl, s2, M, h1, h2, h3, h4, h6 (by omega)⟩
    case istep =>
      rintro y c st2 _ hy ⟨out, na, nb, ac, bc, rfl, s2, M, h1, h2, h3, h4, h5, h6⟩
      iterate 9 (walk_at "z")
      dsimp -zeta only
      have k2 : kindOf st2 = oneType' := s2.2.2.1.trans hk
      have la' : na - 1 < a.size := by omega
      have lb' : nb - 1 < b.size := by omega
      refine wpS_bind (elemE (getA lb').1 (wpS_bind (elemE (getA la').1 (wpS_bind (ltE k2 (ikb _ (getA lb').2.2) (ika _ (getA la').2.2) ?_)))))
      dsimp -zeta only
      by_cases hw : kn b[nb - 1] < kn a[na - 1]
      · rw [if_pos (decide_eq_true hw)]
        walk_at "z"
        refine wpS_bind (elemE (getA la').1 ?_)
        iterate 3 (walk_at "z")
        have M2 := pushA out na nb h1 la' h2 h4 M (lowLe (n := nb) lb' (by omega) sb (Int.le_of_lt hw))
        by_cases e : (na - 1 == 0) = true
        · rw [if_pos e]
          exact wpS_pure (.inl ⟨_, _, rfl, s2, retA _ _ _ M2 h4 (by simpa using e)⟩)
        · rw [if_neg e]
          have e' : 0 < na - 1 := gt0 e
          split
          · exact wpS_pure (.inr ⟨_, _, _, _, _, rfl, s2, M2, e', lo1 h2, h3, h4, ms1 h5 h1⟩)
          · exact wpS_pure ⟨_, _, _, _, _, rfl, s2, M2, e', lo1 h2, h3, h4, le12 (ms1 h5 h1), fun _ => ms1 h5 h1⟩
      · rw [if_neg (by simpa using hw)]
        walk_at "z"
        refine wpS_bind (elemE (getA lb').1 ?_)
        iterate 3 (walk_at "z")
        have M2 := pushB out na nb (by omega) lb' h4 h2 M (lowLe (n := na) la' h1 sa (Int.not_lt.mp hw))
        by_cases e : (nb - 1 == 1) = true
        · rw [if_pos e]
          exact wpS_pure (.inl ⟨_, _, rfl, s2, retF _ _ _ M2 h2 (by simpa using e)⟩)
        · rw [if_neg e]
          have e' : 1 < nb - 1 := gt1 h3 e
          split
          · exact wpS_pure (.inr ⟨_, _, _, _, _, rfl, s2, M2, h1, h2, e', lo1 h4, ms2 h5 h3⟩)
          · exact wpS_pure ⟨_, _, _, _, _, rfl, s2, M2, h1, h2, e', lo1 h4, le12 (ms2 h5 h3), fun _ => ms2 h5 h3⟩
    case ipost =>
      rintro c st2 (⟨r, rest, rfl, s2, d⟩ | ⟨out, na, nb, ac, bc, rfl, s2, M, h1, h2, h3, h4, h5⟩)
      · iterate 10 (walk_at "z")
        exact wpS_pure ⟨r, _, rfl, s2, d⟩
      · iterate 10 (walk_at "z")
        dsimp -zeta only
        refine wpS_bind (wpS_lift (wpAny_rule ⟨rfl, ?_⟩))
        walk_at "z"
        refine wpS_bind (wpS_mono (forR (I := fun y c st' => ∃ out na nb g ac bc, c = (none, na, nb, out, g, ac, bc) ∧ Sm st st' ∧ MG geK b.toList.reverse a.toList.reverse out.toList (b.size - nb) (a.size - na) ∧ 0 < na ∧ na ≤ a.size ∧ 1 < nb ∧ nb ≤ b.size ∧ x + 2 + nb + na ≤ b.size + a.size)
          (Q := fun c st' => (∃ r rest, c = (some r, rest) ∧ Sm st st' ∧ MD leK a.toList b.toList r.toList) ∨ (∃ out na nb g ac bc, c = (none, na, nb, out, g, ac, bc) ∧ Sm st st' ∧ MG geK b.toList.reverse a.toList.reverse out.toList (b.size - nb) (a.size - na) ∧ 0 < na ∧ na ≤ a.size ∧ 1 < nb ∧ nb ≤ b.size ∧ x + 2 + nb + na ≤ b.size + a.size)) ?gstep (fun c st' z => .inr z) ⟨_, na, nb, _, _, _, rfl, s2, M, h1, h2, h3, h4, h5⟩) ?gpost)
        case gpost =>
          rintro c st3 (⟨r, rest, rfl, s3, d⟩ | ⟨out, na, nb, g, ac, bc, rfl, s3, M, h1, h2, h3, h4, h5⟩)
          · iterate 9 (walk_at "z")
            exact wpS_pure ⟨r, _, rfl, s3, d⟩
          · iterate 9 (walk_at "z")
            dsimp -zeta only
            walk_at "z"
            refine wpS_bind ?_
            show wpS _ _ _ _ (setMinGallop' _) _ _
            rw [setMinGallop'_eq]
            exact wpS_modify (wpS_pure ⟨_, _, _, _, rfl, s3.gal _, M, h1, h2, h3, h4, by omega⟩)
        case gstep =>
          rintro y c st3 _ hy ⟨out, na, nb, g, ac, bc, rfl, s3, M, h1, h2, h3, h4, h5⟩ R hd hyl
          iterate 11 (walk_at "z")
          dsimp -zeta only
          walk_at "j"
          intro jp hjp
          have lb' : nb - 1 < b.size := by omega
          have main : ∀ g st3, Sm st st3 → wpS (model prog w) A E s (jp () g) R st3 := by
            intro g st3 s3
            rw [hjp]
            dsimp -zeta only
            refine wpS_bind ?_
            show wpS _ _ _ _ (setMinGallop' _) _ _
            rw [setMinGallop'_eq]
            refine wpS_modify ?_
            have s4 := s3.gal g
            have k4 : kindOf (setGal st3 g) = oneType' := s4.2.2.1.trans hk
            generalize setGal st3 g = st4 at s4 k4 ⊢
            refine wpS_bind (elemE (getA lb').1 ?_)
            refine wpS_bind (galF k4 (ikb _ (getA lb').2.2) sa ika (base := 0) (n := na) (hint := na - 1) (by omega) (by omega) fun k k1 k2 k3 => ?_)
            dsimp -zeta only
            iterate 2 (walk_at "z")
            walk_at "j"
            intro jp2 hjp2
            have main2 : ∀ (out : Array Keyed) (na : Nat), MG geK b.toList.reverse a.toList.reverse out.toList (b.size - nb) (a.size - na) → 0 < na → na ≤ a.size → x + 2 + nb + na ≤ b.size + a.size → (∀ y ∈ (a.toList.take na).reverse, kn y ≤ kn b[nb - 1]) → wpS (model prog w) A E s (jp2 () na out) R st4 := by
              intro out na M h1 h2 h5 hr
              rw [hjp2]
              dsimp -zeta only
              walk_at "z"
              have la' : na - 1 < a.size := by omega
              refine wpS_bind (elemE (getA lb').1 ?_)
              walk_at "z"
              have M2 := pushB out na nb (by omega) lb' h4 h2 M hr
              by_cases e : (nb - 1 == 1) = true
              · rw [if_pos e]
                exact wpS_pure (hd _ _ (.inl ⟨_, _, rfl, s4, retF _ _ _ M2 h2 (by simpa using e)⟩))
              · rw [if_neg e]
                have e' : 1 < nb - 1 := gt1 h3 e
                refine wpS_bind (elemE (getA la').1 ?_)
                refine wpS_bind (galT k4 (ika _ (getA la').2.2) sb ikb (base := 0) (n := nb - 1) (hint := nb - 1 - 1) (by omega) (by omega) fun k' j1 j2 j3 => ?_)
                dsimp -zeta only
                iterate 2 (walk_at "z")
                walk_at "j"
                intro jp3 hjp3
                have main3 : ∀ (out : Array Keyed) (nb : Nat), MG geK b.toList.reverse a.toList.reverse out.toList (b.size - nb) (a.size - na) → 1 < nb → nb ≤ b.size → x + 2 + nb + na ≤ b.size + a.size → (∀ y ∈ (b.toList.take nb).reverse, kn y ≤ kn a[na - 1]) → wpS (model prog w) A E s (jp3 () nb out) R st4 := by
                  intro out nb M h3 h4 h5 hr
                  rw [hjp3]
                  dsimp -zeta only
                  walk_at "z"
                  refine wpS_bind (elemE (getA la').1 ?_)
                  walk_at "z"
                  have M2 := pushA out na nb h1 la' h2 h4 M hr
                  by_cases e : (na - 1 == 0) = true
                  · rw [if_pos e]
                    exact wpS_pure (hd _ _ (.inl ⟨_, _, rfl, s4, retA _ _ _ M2 h4 (by simpa using e)⟩))
                  · rw [if_neg e]
                    have e' : 0 < na - 1 := gt0 e
                    split
                    · exact wpS_pure (hd _ _ (.inr ⟨_, _, _, _, _, _, rfl, s4, M2, e', lo1 h2, h3, h4, ms3 h5⟩))
                    · exact wpS_pure (hyl _ _ ⟨_, _, _, _, _, _, rfl, s4, M2, e', lo1 h2, h3, h4, ms3 h5⟩)
                by_cases hk0 : nb - 1 - k' > 0
                · rw [if_pos hk0]
                  iterate 2 (walk_at "z")
                  have M3 : MG geK b.toList.reverse a.toList.reverse (out.push b[nb - 1] ++ (b.extract k' (nb - 1)).reverse).toList (b.size - k') (a.size - na) := by
                    rw [appR _ _ _ _ (by omega) (by omega)]
                    have e5 : b.size - k' = b.size - (nb - 1) + (nb - 1 - k') := sb2 j1 (Nat.le_of_lt lb')
                    rw [e5]
                    refine MG.appA rb (nb - 1 - k') M2 (by rw [rlB ()]; omega) (fun j z a1 a2 a3 y hy => ?_)
                    rw [List.getElem?_reverse (by rw [lB ()]; omega), lB ()] at a3
                    have z1 := j3 _ z (by omega) (by omega) a3
                    rw [tA na h2] at hy
                    exact Int.le_trans (lowLe (n := na) la' h1 sa (Int.le_refl _) y hy) z1
                  by_cases e2 : (k' == 1) = true
                  · rw [if_pos e2]
                    exact wpS_pure (hd _ _ (.inl ⟨_, _, rfl, s4, retF _ _ _ M3 h2 (by simpa using e2)⟩))
                  · rw [if_neg e2]
                    by_cases e3 : (k' == 0) = true
                    · rw [if_pos e3]
                      exact wpS_pure (hd _ _ (.inl ⟨_, _, rfl, s4, retB _ _ _ M3 h2 (by simpa using e3)⟩))
                    · rw [if_neg e3]
                      have e4 : 1 < k' := by have : ¬ k' = 1 := by simpa using e2
                                             have : ¬ k' = 0 := by simpa using e3
                                             omega
                      exact main3 _ _ M3 e4 (by omega) (by omega) (fromGal fun j z a1 a3 => Int.le_of_lt (j2 j z (by omega) (by omega) a3))
                · rw [if_neg hk0]
                  have k0 : k' = nb - 1 := Nat.le_antisymm j1 (Nat.le_of_sub_eq_zero (Nat.eq_zero_of_not_pos hk0))
                  exact main3 _ _ M2 e' (by omega) (by omega) (fromGal fun j z a1 a3 => Int.le_of_lt (j2 j z (by omega) (by omega) a3))
            by_cases hk0 : na - k > 0
            · rw [if_pos hk0]
              iterate 2 (walk_at "z")
              have M3 : MG geK b.toList.reverse a.toList.reverse (out ++ (a.extract k na).reverse).toList (b.size - nb) (a.size - k) := by
                rw [appR _ _ _ _ (by omega) (by omega)]
                have e5 : a.size - k = a.size - na + (na - k) := sb2 k1 h2
                rw [e5]
                refine (MG.appA ra (na - k) M.symm (by rw [rlA ()]; omega) (fun j z a1 a2 a3 y hy => ?_)).symm
                rw [List.getElem?_reverse (by rw [lA ()]; omega), lA ()] at a3
                have z1 := k3 _ z (by omega) (by omega) a3
                rw [tB nb h4] at hy
                exact Int.le_trans (lowLe (n := nb) lb' (by omega) sb (Int.le_refl _) y hy) (Int.le_of_lt z1)
              by_cases e1 : (k == 0) = true
              · rw [if_pos e1]
                exact wpS_pure (hd _ _ (.inl ⟨_, _, rfl, s4, retA _ _ _ M3 h4 (by simpa using e1)⟩))
              · rw [if_neg e1]
                have e3 : 0 < k := gt0 e1
                exact main2 _ _ M3 e3 (by omega) (by omega) (fromGal fun j z a1 a3 => k2 j z (by omega) (by omega) a3)
            · rw [if_neg hk0]
              have k0 : k = na := Nat.le_antisymm k1 (Nat.le_of_sub_eq_zero (Nat.eq_zero_of_not_pos hk0))
              exact main2 _ _ M h1 h2 h5 (fromGal fun j z a1 a3 => k2 j z (by omega) (by omega) a3)
          split
          · walk_at "z"
            exact main _ _ s3
          · exact main _ _ s3
end
end L2.Srt

set_option Elab.async false
set_option linter.all false
set_option maxRecDepth 100000
local macro_rules | `(tactic| walk_at "z") => `(tactic| (extract_lets +onlyGivenNames -merge -underBinder z0; subst z0))
local macro_rules | `(tactic| walk_at "j") => `(tactic| (extract_lets +onlyGivenNames -merge -underBinder j0; generalize hj : j0 = j; have hk := hj.symm; clear hj; subst j0; revert j hk))
namespace L2.Srt
open PySem PyProof.Rows
/-- sorted on [lo, lo + m) -/
def Seg (xs : Array Keyed) (lo m : Nat) : Prop := ∀ i j, lo ≤ i → i ≤ j → j < lo + m → K xs i ≤ K xs j
def SegD (xs : Array Keyed) (lo m : Nat) : Prop := ∀ i j, lo ≤ i → i ≤ j → j < lo + m → K xs j ≤ K xs i
def Low (xs ys : Array Keyed) (lo : Nat) : Prop := ∀ i, i < lo → ys[i]? = xs[i]?
theorem Low.refl (xs : Array Keyed) (lo : Nat) : Low xs xs lo := fun _ _ => rfl
theorem Low.trans {xs ys zs : Array Keyed} {lo : Nat} (h : Low xs ys lo) (g : Low ys zs lo) : Low xs zs lo := fun i hi => (g i hi).trans (h i hi)
theorem Low.seg {xs ys : Array Keyed} {lo m n : Nat} (h : Low xs ys lo) (hs : Seg xs m n) (hm : m + n ≤ lo) : Seg ys m n := fun i j a b c => by
  rw [K_congr (h i (by omega)), K_congr (h j (by omega))]
  exact hs i j a b c
section
variable {prog : Program} {w : World} {A : Around} {E : Value → Shared → Prop} {s : Shared} {a₀ : Array Keyed} {p : P3}
theorem K_kn {xs : Array Keyed} {i : Nat} (h : i < xs.size) : K xs i = kn xs[i] := by unfold K kn; rw [getElem?_pos xs i h]
theorem SB.dist {st : SortSt} (hB : SB a₀ p st) (nd : (a₀.toList.map kn).Nodup) {i j : Nat} (hi : i < a₀.size) (hj : j < a₀.size) (hij : i ≠ j) : K (arrOf st) i ≠ K (arrOf st) j := by
  have hp : ((arrOf st).toList.map kn).Perm (a₀.toList.map kn) := (Array.perm_iff_toList_perm.mp hB.perm).map kn
  have nd2 : ((arrOf st).toList.map kn).Nodup := hp.symm.nodup nd
  have hi' : i < (arrOf st).size := by rw [hB.size]; exact hi
  have hj' : j < (arrOf st).size := by rw [hB.size]; exact hj
  rw [K_kn hi', K_kn hj']
  intro e
  have l1 : i < ((arrOf st).toList.map kn).length := by simpa using hi'
  have l2 : j < ((arrOf st).toList.map kn).length := by simpa using hj'
  exact hij ((List.getElem_inj (h₀ := l1) (h₁ := l2) nd2).mp (by simpa using e))
theorem countRun_ok {st : SortSt} {lo nrem : Nat} {Q : Option Nat → SortSt → Prop} (h0 : IntKeys a₀) (nd : (a₀.toList.map kn).Nodup) (hn : lo + nrem ≤ a₀.size) (h1 : 1 ≤ nrem) (hB : SB a₀ p st)
    (h : ∀ m st', SB a₀ p st' → 1 ≤ m → m ≤ nrem → Seg (arrOf st') lo m → Low (arrOf st) (arrOf st') lo → Q (some m) st') : wpS (model prog w) A E s (countRun' lo nrem) Q st := by
  unfold countRun'
  refine wpS_open ?_
  dsimp only
  have one : ∀ xs : Array Keyed, Seg xs lo 1 := fun xs i j a b c => by
    have : i = j := by omega
    rw [this]
    exact Int.le_refl _
  refine wpS_bind (wpS_mono (wpS_forRange (I := fun x c st' => st' = st ∧ c = (none, x) ∧ Seg (arrOf st) lo x) (Q := fun c st' => st' = st ∧ ∃ n, c = (none, n) ∧ 1 ≤ n ∧ n ≤ nrem ∧ Seg (arrOf st) lo n ∧ (n = nrem ∨ K (arrOf st) (lo + n) < K (arrOf st) (lo + n - 1))) ?step ?fin ⟨rfl, rfl, one _⟩) ?post)
  case fin =>
    rintro c st' ⟨rfl, rfl, hs⟩
    have e : max 1 nrem = nrem := by omega
    rw [e] at hs ⊢
    exact ⟨rfl, nrem, rfl, h1, Nat.le_refl _, hs, .inl rfl⟩
  case step =>
    rintro x c st' hx1 hx2 ⟨rfl, rfl, hs⟩
    dsimp only
    refine wpS_bind (ltK hB h0 (by omega) (by omega) ?_)
    by_cases hl : K (arrOf st') (lo + x) < K (arrOf st') (lo + x - 1)
    · simp only [hl, decide_true, if_true]
      exact wpS_pure ⟨rfl, x, rfl, hx1, by omega, hs, .inr hl⟩
    · simp only [hl, decide_false, Bool.false_eq_true, if_false]
      refine wpS_pure ⟨rfl, rfl, fun i j a b c => ?_⟩
      by_cases hj : j < lo + x
      · exact hs i j a b hj
      · have ej : j = lo + x := by omega
        subst ej
        by_cases hi : i = lo + x
        · rw [hi]; exact Int.le_refl _
        · exact Int.le_trans (hs i (lo + x - 1) a (by omega) (by omega)) (Int.not_lt.mp hl)
  case post =>
    rintro c st' ⟨rfl, n, rfl, n1, n2, hs, hor⟩
    dsimp only
    by_cases hnn : n = nrem
    · rw [if_pos (by simpa using hnn)]
      exact wpS_pure (h n st' hB n1 n2 hs (.refl _ _))
    · rw [if_neg (by simpa using hnn)]
      by_cases hgt : n > 1
      · rw [if_pos hgt]
        refine wpS_bind (ltK hB h0 (by omega) (by omega) ?_)
        have rose : K (arrOf st') lo < K (arrOf st') (lo + n - 1) := by
          have a1 := hs lo (lo + n - 1) (Nat.le_refl _) (by omega) (by omega)
          have a2 := hB.dist nd (i := lo) (j := lo + n - 1) (by omega) (by omega) (by omega)
          omega
        simp only [rose, decide_true, if_true]
        exact wpS_pure (h n st' hB n1 n2 hs (.refl _ _))
      · rw [if_neg hgt]
        have en : n = 1 := by omega
        subst en
        have hlt := hor.resolve_left hnn
        refine wpS_bind (wpS_lift (wpAny_rule ⟨rfl, ?_⟩))
        refine wpS_bind (wpS_mono (wpS_forRange (I := fun x c st'' => st'' = st' ∧ c = (none, x, 0) ∧ SegD (arrOf st') lo x) (Q := fun c st'' => st'' = st' ∧ ∃ n, c = (none, n, 0) ∧ 2 ≤ n ∧ n ≤ nrem ∧ SegD (arrOf st') lo n) ?dstep ?dfin ⟨rfl, rfl, ?dinit⟩) ?dpost)
        case dinit =>
          intro i j a b c
          by_cases hij : i = j
          · rw [hij]; exact Int.le_refl _
          · have ei : i = lo := by omega
            have ej : j = lo + 1 := by omega
            rw [ei, ej]
            exact Int.le_of_lt hlt
        case dfin =>
          rintro c st'' ⟨rfl, rfl, hd⟩
          have e : max (1 + 1) nrem = nrem := by omega
          rw [e] at hd ⊢
          exact ⟨rfl, nrem, rfl, by omega, Nat.le_refl _, hd⟩
        case dstep =>
          rintro x c st'' hx1 hx2 ⟨rfl, rfl, hd⟩
          dsimp only
          refine wpS_bind (ltK hB h0 (by omega) (by omega) ?_)
          by_cases hl : K (arrOf st'') (lo + x) < K (arrOf st'') (lo + x - 1)
          · simp only [hl, decide_true, if_true, gt_iff_lt, Nat.lt_irrefl, if_false]
            refine wpS_pure ⟨rfl, rfl, fun i j a b c => ?_⟩
            by_cases hj : j < lo + x
            · exact hd i j a b hj
            · have ej : j = lo + x := by omega
              subst ej
              by_cases hi : i = lo + x
              · rw [hi]; exact Int.le_refl _
              · exact Int.le_trans (Int.le_of_lt hl) (hd i (lo + x - 1) a (by omega) (by omega))
          · simp only [hl, decide_false, Bool.false_eq_true, if_false]
            refine wpS_bind (ltK hB h0 (by omega) (by omega) ?_)
            have larger : K (arrOf st'') (lo + x - 1) < K (arrOf st'') (lo + x) := by
              have a2 := hB.dist nd (i := lo + x - 1) (j := lo + x) (by omega) (by omega) (by omega)
              omega
            simp only [larger, decide_true, if_true]
            exact wpS_pure ⟨rfl, x, rfl, by omega, by omega, hd⟩
        case dpost =>
          rintro c st'' ⟨rfl, n, rfl, n1, n2, hd⟩
          dsimp only
          rw [if_neg (by omega)]
          have hsz : lo + n ≤ (arrOf st'').size := by rw [hB.size]; omega
          refine wpS_bind (wpS_reverse ?_)
          have hB2 : SB a₀ p (setArr st'' (mirror (arrOf st'') lo (lo + n) ((lo + n - lo) / 2))) := hB.setArr (mirror_perm _ _ _ _)
          have hs2 : Seg (mirror (arrOf st'') lo (lo + n) ((lo + n - lo) / 2)) lo n := fun i j a b c => by
            rw [K_mirror hsz, K_mirror hsz, if_pos (by omega), if_pos (by omega)]
            exact hd _ _ (by omega) (by omega) (by omega)
          have lw : Low (arrOf st'') (mirror (arrOf st'') lo (lo + n) ((lo + n - lo) / 2)) lo := fun i hi => by
            rw [getElem?_mirror_all hsz, if_neg (by omega)]
          generalize e3 : setArr st'' (mirror (arrOf st'') lo (lo + n) ((lo + n - lo) / 2)) = st3 at hB2 ⊢
          have hs3 : Seg (arrOf st3) lo n := by rw [← e3]; exact hs2
          have lw3 : Low (arrOf st'') (arrOf st3) lo := by rw [← e3]; exact lw
          refine wpS_bind (wpS_mono (wpS_forRange (I := fun x c st4 => st4 = st3 ∧ c = (none, x) ∧ Seg (arrOf st3) lo x) (Q := fun c st4 => st4 = st3 ∧ ∃ n, c = (none, n) ∧ 1 ≤ n ∧ n ≤ nrem ∧ Seg (arrOf st3) lo n) ?step3 ?fin3 ⟨rfl, rfl, hs3⟩) ?post3)
          case fin3 =>
            rintro c st4 ⟨rfl, rfl, hs⟩
            have e : max n nrem = nrem := by omega
            rw [e] at hs ⊢
            exact ⟨rfl, nrem, rfl, h1, Nat.le_refl _, hs⟩
          case step3 =>
            rintro x c st4 hx1 hx2 ⟨rfl, rfl, hs⟩
            dsimp only
            refine wpS_bind (ltK hB2 h0 (by omega) (by omega) ?_)
            by_cases hl : K (arrOf st4) (lo + x) < K (arrOf st4) (lo + x - 1)
            · simp only [hl, decide_true, if_true]
              exact wpS_pure ⟨rfl, x, rfl, by omega, by omega, hs⟩
            · simp only [hl, decide_false, Bool.false_eq_true, if_false]
              refine wpS_pure ⟨rfl, rfl, fun i j a b c => ?_⟩
              by_cases hj : j < lo + x
              · exact hs i j a b hj
              · have ej : j = lo + x := by omega
                subst ej
                by_cases hi : i = lo + x
                · rw [hi]; exact Int.le_refl _
                · exact Int.le_trans (hs i (lo + x - 1) a (by omega) (by omega)) (Int.not_lt.mp hl)
          case post3 =>
            rintro c st4 ⟨rfl, m, rfl, m1, m2, hs⟩
            exact wpS_pure (h m _ hB2 m1 m2 hs lw3)
theorem binarySort_ok {st : SortSt} {lo n ok : Nat} {Q : Bool → SortSt → Prop} (h0 : IntKeys a₀) (hn : lo + n ≤ a₀.size) (hok : ok ≤ n) (ho1 : 1 ≤ ok) (hB : SB a₀ p st) (hs : Seg (arrOf st) lo ok)
    (h : ∀ st', SB a₀ p st' → Seg (arrOf st') lo n → Low (arrOf st) (arrOf st') lo → Q true st') : wpS (model prog w) A E s (binarySort' lo n ok) Q st := by
  unfold binarySort'
  refine wpS_open ?_
  dsimp only
  have e1 : max ok 1 = ok := by omega
  rw [e1]
  refine wpS_bind (wpS_mono (wpS_forRange (I := fun k c st' => c = (none, ()) ∧ SB a₀ p st' ∧ Seg (arrOf st') lo k ∧ Low (arrOf st) (arrOf st') lo)
    (Q := fun c st' => c = (none, ()) ∧ SB a₀ p st' ∧ Seg (arrOf st') lo n ∧ Low (arrOf st) (arrOf st') lo) ?step ?fin ⟨rfl, hB, hs, .refl _ _⟩) ?post)
  case post =>
    rintro c st' ⟨rfl, hB', hs', lw⟩
    exact wpS_pure (h st' hB' hs' lw)
  case fin =>
    rintro c st' ⟨hc, hB', hs', lw⟩
    have e : max ok n = n := by omega
    rw [e] at hs'
    exact ⟨hc, hB', hs', lw⟩
  case step =>
    rintro k c st' hak hkn ⟨rfl, hB', hs', lw⟩
    refine wpS_bind (wpS_mono (wpS_forRange (I := fun x c st'' => st'' = st' ∧ ∃ l r, c = (none, l, r) ∧ l ≤ r ∧ r ≤ k ∧ r + x ≤ k + l ∧
        (∀ i, i < l → K (arrOf st') (lo + i) ≤ K (arrOf st') (lo + k)) ∧ (∀ i, r ≤ i → i < k → K (arrOf st') (lo + k) < K (arrOf st') (lo + i)))
      (Q := fun c st'' => st'' = st' ∧ ∃ l r, c = (none, l, r) ∧ l ≤ k ∧
        (∀ i, i < l → K (arrOf st') (lo + i) ≤ K (arrOf st') (lo + k)) ∧ (∀ i, l ≤ i → i < k → K (arrOf st') (lo + k) < K (arrOf st') (lo + i))) ?istep ?ifin ?iinit) ?ipost)
    case iinit => exact ⟨rfl, 0, k, rfl, by omega, by omega, by omega, fun i hi => by omega, fun i h1 h2 => by omega⟩
    case ifin =>
      rintro c st'' ⟨rfl, l, r, rfl, hlr, hrk, hm, hlo, hhi⟩
      have : l = r := by omega
      subst this
      exact ⟨rfl, l, l, rfl, hrk, hlo, hhi⟩
    case istep =>
      rintro x c st'' _ hxk ⟨rfl, l, r, rfl, hlr, hrk, hm, hlo, hhi⟩
      dsimp only
      by_cases hge : l ≥ r
      · rw [if_pos hge]
        have : l = r := by omega
        subst this
        exact wpS_pure ⟨rfl, l, l, rfl, hrk, hlo, hhi⟩
      · rw [if_neg hge]
        refine wpS_bind (ltK hB' h0 (by omega) (by omega) ?_)
        by_cases hless : K (arrOf st'') (lo + k) < K (arrOf st'') (lo + (l + r) / 2)
        · simp only [hless, decide_true, if_true]
          refine wpS_pure ⟨rfl, l, (l + r) / 2, rfl, by omega, by omega, by omega, hlo, fun i h1 h2 => ?_⟩
          exact Int.lt_of_lt_of_le hless (hs' _ _ (by omega) (by omega) (by omega))
        · simp only [hless, decide_false, Bool.false_eq_true, if_false]
          refine wpS_pure ⟨rfl, (l + r) / 2 + 1, r, rfl, by omega, by omega, by omega, fun i h1 => ?_, hhi⟩
          exact Int.le_trans (hs' (lo + i) (lo + (l + r) / 2) (by omega) (by omega) (by omega)) (Int.not_lt.mp hless)
    case ipost =>
      rintro c st'' ⟨rfl, l, r, rfl, hlk, hlo, hhi⟩
      dsimp only
      refine wpS_bind ?_
      show wpS _ _ _ _ (moveDown' (lo + k) (lo + l)) _ _
      rw [moveDown'_eq]
      have hks : lo + k < (arrOf st'').size := by rw [hB'.size]; omega
      refine wpS_modify (wpS_pure ⟨rfl, hB'.setArr (bubble_perm _ _ _), ?_, lw.trans ?_⟩)
      · intro i j a b c
        show K (bubble (arrOf st'') (lo + k) (lo + k - (lo + l))) i ≤ K (bubble (arrOf st'') (lo + k) (lo + k - (lo + l))) j
        rw [K_bubble hks (by omega), K_bubble hks (by omega)]
        have e4 : lo + k - (lo + k - (lo + l)) = lo + l := Nat.sub_sub_self (Nat.add_le_add_left hlk _)
        rw [e4]
        clear e4
        have lo' : ∀ i, lo ≤ i → i < lo + l → K (arrOf st'') i ≤ K (arrOf st'') (lo + k) := fun i h1 h2 => by
          have := hlo (i - lo) (by omega)
          have e5 : lo + (i - lo) = i := Nat.add_sub_cancel' h1
          rw [e5] at this
          exact this
        have hi' : ∀ i, lo + l ≤ i → i < lo + k → K (arrOf st'') (lo + k) < K (arrOf st'') i := fun i h1 h2 => by
          have := hhi (i - lo) (by omega) (by omega)
          have e5 : lo + (i - lo) = i := Nat.add_sub_cancel' (Nat.le_trans (Nat.le_add_right _ _) h1)
          rw [e5] at this
          exact this
        repeat' split
        all_goals first
          | (exfalso; omega)
          | exact Int.le_refl _
          | exact lo' _ (by omega) (by omega)
          | exact Int.le_of_lt (hi' _ (by omega) (by omega))
          | exact hs' _ _ (by omega) (by omega) (by omega)
      · intro i hi
        show (bubble (arrOf st'') (lo + k) (lo + k - (lo + l)))[i]? = _
        rw [getElem?_bubble hks _ (by omega), if_neg (by omega), if_neg (by omega)]
end
end L2.Srt

set_option Elab.async false
set_option linter.all false
set_option maxRecDepth 100000
local macro_rules | `(tactic| walk_at "z") => `(tactic| (extract_lets +onlyGivenNames -merge -underBinder z0; subst z0))
local macro_rules | `(tactic| walk_at "j") => `(tactic| (extract_lets +onlyGivenNames -merge -underBinder j0; generalize hj : j0 = j; have hk := hj.symm; clear hj; subst j0; revert j hk))
namespace L2.Srt
open PySem PyProof.Rows
theorem seg_pw {c : Array Keyed} {lo n : Nat} (h : Seg c lo n) (hn : lo + n ≤ c.size) : ((c.toList.drop lo).take n).Pairwise leK := by
  refine List.pairwise_iff_getElem.mpr fun i j hi hj hij => ?_
  rw [List.length_take, List.length_drop, Array.length_toList] at hi hj
  have a := h (lo + i) (lo + j) (by omega) (by omega) (by omega)
  rw [K_kn (by omega), K_kn (by omega)] at a
  show kn _ ≤ kn _
  simpa using a
theorem pw_seg {c : Array Keyed} (h : c.toList.Pairwise leK) : Seg c 0 c.size := fun i j _ hij hj => by
  rw [Nat.zero_add] at hj
  rw [K_kn (by omega), K_kn hj]
  by_cases e : i = j
  · subst e; exact Int.le_refl _
  · have := List.pairwise_iff_getElem.mp h i j (by rw [Array.length_toList]; omega) (by rw [Array.length_toList]; omega) (by omega)
    simpa using this
theorem fold_set (sa : Nat) : ∀ (ms : List Keyed) (d : Nat) (P Z S : List Keyed), Z.length = ms.length → P.length = sa + d → ((ms.zipIdx d).foldl (fun (a : Array Keyed) (x : Keyed × Nat) => a.setIfInBounds (sa + x.2) x.1) (P ++ Z ++ S).toArray).toList = P ++ ms ++ S
  | [], d, P, Z, S, hz, hp => by
    have : Z = [] := List.length_eq_zero_iff.mp hz
    subst this
    rfl
  | m :: ms, d, P, Z, S, hz, hp => by
    obtain ⟨z, Z', rfl⟩ : ∃ z Z', Z = z :: Z' := by
      cases Z with
      | nil => simp at hz
      | cons z Z' => exact ⟨z, Z', rfl⟩
    rw [List.zipIdx_cons, List.foldl_cons]
    have e : (P ++ z :: Z' ++ S).toArray.setIfInBounds (sa + d) m = ((P ++ [m]) ++ Z' ++ S).toArray := by
      rw [← hp, List.setIfInBounds_toArray]
      congr 1
      rw [List.append_assoc, List.set_append_right _ _ (Nat.le_refl _), Nat.sub_self]
      simp
    show (List.foldl _ ((P ++ z :: Z' ++ S).toArray.setIfInBounds (sa + d) m) (ms.zipIdx (d + 1))).toList = _
    rw [e, fold_set sa ms (d + 1) (P ++ [m]) Z' S (by simpa using hz) (by simp [hp]; omega)]
    simp
section
variable {prog : Program} {w : World} {A : Around} {E : Value → Shared → Prop} {s : Shared} {a₀ : Array Keyed} {p : P3}
theorem mergeAt_ok {st : SortSt} {n1 n2 pw z : Nat} {Q : Bool → SortSt → Prop} (h0 : IntKeys a₀) (hB : SB a₀ #[(0, n1, pw), (n1, n2, z)] st) (hn : n1 + n2 = a₀.size) (p1 : 0 < n1) (p2 : 0 < n2) (s1 : Seg (arrOf st) 0 n1) (s2 : Seg (arrOf st) n1 n2)
    (h : ∀ st', SB a₀ #[(0, a₀.size, pw)] st' → Seg (arrOf st') 0 a₀.size → Q true st') : wpS (model prog w) A E s (mergeAt' 0) Q st := by
  unfold mergeAt'
  refine wpS_open ?_
  refine wpS_bind (wpS_get ?_)
  have ep : pendingOf st = #[(0, n1, pw), (n1, n2, z)] := hB.pend
  show wpS (model prog w) A E s (match ((pendingOf st)[0]?, (pendingOf st)[0 + 1]?) with | (some (sa, na, power), some (sb, nb, snd)) => _ | x => _) Q st
  rw [ep]
  dsimp -zeta only [List.getElem?_toArray, List.getElem?_cons_zero, List.getElem?_cons_succ, Nat.zero_add]
  have epn : ((pendingOf st).setIfInBounds 0 (0, n1 + n2, pw)).eraseIdxIfInBounds 1 = #[(0, a₀.size, pw)] := by
    rw [ep, hn]
    simp [Array.eraseIdxIfInBounds]
  have sz := hB.size
  have ik : ∀ x ∈ (arrOf st).toList, IK x := fun x hx => h0 x ((Array.perm_iff_toList_perm.mp hB.perm).mem_iff.mp hx)
  refine wpS_bind ?_
  show wpS _ _ _ _ (modify (fun _ => SortSt.mk' (kindOf st) (arrOf st) (((pendingOf st).setIfInBounds 0 (0, n1 + n2, pw)).eraseIdxIfInBounds 1) (gallopOf st) (failedOf st)) : StateT SortSt Sem PUnit) _ st
  refine wpS_modify ?_
  rw [epn]
  have hB1 : SB a₀ #[(0, a₀.size, pw)] (SortSt.mk' (kindOf st) (arrOf st) #[(0, a₀.size, pw)] (gallopOf st) (failedOf st)) := ⟨hB.perm, hB.kind, hB.failed, rfl⟩
  have eA : arrOf (SortSt.mk' (kindOf st) (arrOf st) #[(0, a₀.size, pw)] (gallopOf st) (failedOf st)) = arrOf st := rfl
  generalize SortSt.mk' (kindOf st) (arrOf st) #[(0, a₀.size, pw)] (gallopOf st) (failedOf st) = st1 at hB1 eA ⊢
  show wpS _ _ _ _ (do
    let __do_lift ← elem' (arrOf st) n1
    _) _ st1
  have eA2 : (sortPriv% PySem.Builtin.SortState.a) st1 = (sortPriv% PySem.Builtin.SortState.a) st := eA
  have s1' : Seg ((sortPriv% PySem.Builtin.SortState.a) st) 0 n1 := s1
  have s2' : Seg ((sortPriv% PySem.Builtin.SortState.a) st) n1 n2 := s2
  have sz' : ((sortPriv% PySem.Builtin.SortState.a) st).size = a₀.size := sz
  have ik' : ∀ x ∈ ((sortPriv% PySem.Builtin.SortState.a) st).toList, IK x := ik
  have pm' : ((sortPriv% PySem.Builtin.SortState.a) st).Perm a₀ := hB.perm
  clear s1 s2 sz ik eA
  show wpS _ _ _ _ (do
    let __do_lift ← elem' ((sortPriv% PySem.Builtin.SortState.a) st) n1
    _) _ st1
  generalize hc : (sortPriv% PySem.Builtin.SortState.a) st = c at *
  have s1 := s1'
  have s2 := s2'
  have sz := sz'
  have ik := ik'
  have eA : arrOf st1 = c := eA2
  clear s1' s2' sz' ik' eA2
  have l1 : n1 < c.size := by omega
  have gP : ∀ (j : Nat) x, c.toList[j]? = some x → K c j = kn x := fun j x e => by
    obtain ⟨h1, h2⟩ := List.getElem?_eq_some_iff.mp e
    rw [K_kn (by rw [← Array.length_toList]; exact h1), ← h2]
    simp
  refine wpS_bind (elemE (getA l1).1 ?_)
  refine wpS_bind (galFs hB1.kind (ik _ (getA l1).2.2) (base := 0) (n := n1) (hint := 0) (fun i j x y _ a b e1 e2 => by
    have := s1 i j (Nat.zero_le _) (by omega) b
    rw [gP i x e1, gP j y e2] at this
    exact this) ik (by omega) p1 fun k k1 k2 k3 => ?_)
  dsimp -zeta only
  have eL : c.toList = (c.toList.take n1) ++ (c.toList.drop n1) := (List.take_append_drop _ _).symm
  have sF : (c.toList.take n1).Pairwise leK := by
    have := seg_pw s1 (by omega)
    rw [List.drop_zero] at this
    exact this
  have sG : (c.toList.drop n1).Pairwise leK := by
    have := seg_pw s2 (by omega)
    rw [List.take_of_length_le (by rw [List.length_drop, Array.length_toList]; omega)] at this
    exact this
  have lL : Unit → c.toList.length = c.size := fun _ => Array.length_toList
  have tF : ∀ x ∈ c.toList.take n1, ∃ j, j < n1 ∧ c.toList[j]? = some x := fun x hx => by
    obtain ⟨j, hj⟩ := List.getElem?_of_mem hx
    have jl : j < n1 := by
      have := (List.getElem?_eq_some_iff.mp hj).1
      rw [List.length_take] at this
      omega
    rw [List.getElem?_take_of_lt jl] at hj
    exact ⟨j, jl, hj⟩
  have inP : ∀ x ∈ (c.toList.take n1).take k, kn x ≤ kn c[n1] := fun x hx => by
    obtain ⟨j, hj⟩ := List.getElem?_of_mem hx
    have jl : j < k := by
      have := (List.getElem?_eq_some_iff.mp hj).1
      rw [List.length_take] at this
      omega
    rw [List.getElem?_take_of_lt jl, List.getElem?_take_of_lt (by omega)] at hj
    exact k2 j x (Nat.zero_le _) (by omega) hj
  have inX : ∀ x ∈ (c.toList.take n1).drop k, kn c[n1] < kn x := fun x hx => by
    obtain ⟨j, hj⟩ := List.getElem?_of_mem hx
    rw [List.getElem?_drop] at hj
    have jl : k + j < n1 := by
      have := (List.getElem?_eq_some_iff.mp hj).1
      rw [List.length_take] at this
      omega
    rw [List.getElem?_take_of_lt jl] at hj
    exact k3 (k + j) x (by omega) (by omega) hj
  have headG : c.toList.drop n1 = c[n1] :: c.toList.drop (n1 + 1) := List.drop_eq_getElem_cons (by omega)
  have leG : ∀ x ∈ c.toList.drop n1, kn c[n1] ≤ kn x := fun x hx => by
    rw [headG] at hx sG
    rcases List.mem_cons.mp hx with e | hx
    · rw [e]; exact Int.le_refl _
    · exact (List.pairwise_cons.mp sG).1 x hx
  by_cases e1 : (n1 - k == 0) = true
  · rw [if_pos e1]
    have ek : k = n1 := by have : n1 - k = 0 := by simpa using e1
                           omega
    refine wpS_pure (h st1 hB1 ?_)
    rw [eA]
    have : c.toList.Pairwise leK := by
      rw [eL, List.pairwise_append]
      refine ⟨sF, sG, fun x hx y hy => ?_⟩
      exact Int.le_trans (inP x (by rw [ek, List.take_take, Nat.min_self]; exact hx)) (leG y hy)
    have := pw_seg this
    rw [sz] at this
    exact this
  rw [if_neg e1]
  have e1' : k < n1 := by have : ¬ n1 - k = 0 := by simpa using e1
                          omega
  have ei : 0 + k + (n1 - k) - 1 = n1 - 1 := by rw [Nat.zero_add, Nat.add_sub_cancel' k1]
  rw [ei]
  have l2 : n1 - 1 < c.size := by omega
  refine wpS_bind (elemE (getA l2).1 ?_)
  refine wpS_bind (galTs hB1.kind (ik _ (getA l2).2.2) (base := n1) (n := n2) (hint := n2 - 1) (fun i j x y a b d e1 e2 => by
    have := s2 i j a (by omega) d
    rw [gP i x e1, gP j y e2] at this
    exact this) ik (by omega) (by omega) fun m m1 m2 m3 => ?_)
  dsimp -zeta only
  have inY : ∀ x ∈ (c.toList.drop n1).take m, kn x < kn c[n1 - 1] := fun x hx => by
    obtain ⟨j, hj⟩ := List.getElem?_of_mem hx
    have jl : j < m := by
      have := (List.getElem?_eq_some_iff.mp hj).1
      rw [List.length_take] at this
      omega
    rw [List.getElem?_take_of_lt jl, List.getElem?_drop] at hj
    exact m2 (n1 + j) x (by omega) (by omega) hj
  have inS : ∀ x ∈ (c.toList.drop n1).drop m, kn c[n1 - 1] ≤ kn x := fun x hx => by
    rw [List.drop_drop] at hx
    obtain ⟨j, hj⟩ := List.getElem?_of_mem hx
    rw [List.getElem?_drop] at hj
    have jl : n1 + m + j < c.size := by
      have := (List.getElem?_eq_some_iff.mp hj).1
      omega
    exact m3 (n1 + m + j) x (by omega) (by omega) hj
  have leF : ∀ x ∈ c.toList.take n1, kn x ≤ kn c[n1 - 1] := fun x hx => by
    obtain ⟨j, jl, hj⟩ := tF x hx
    have := s1 j (n1 - 1) (Nat.zero_le _) (by omega) (by omega)
    rw [gP j x hj, gP (n1 - 1) _ (getA l2).2.1] at this
    exact this
  by_cases e2 : (m == 0) = true
  · rw [if_pos e2]
    have em : m = 0 := by simpa using e2
    refine wpS_pure (h st1 hB1 ?_)
    rw [eA]
    have : c.toList.Pairwise leK := by
      rw [eL, List.pairwise_append]
      refine ⟨sF, sG, fun x hx y hy => ?_⟩
      exact Int.le_trans (leF x hx) (inS y (by rw [em]; exact hy))
    have := pw_seg this
    rw [sz] at this
    exact this
  rw [if_neg e2]
  have e2' : 0 < m := by have : ¬ m = 0 := by simpa using e2
                         omega
  iterate 2 (walk_at "z")
  have xL : (c.extract (0 + k) n1).toList = (c.toList.take n1).drop k := by
    rw [Nat.zero_add, Array.toList_extract, List.extract_eq_take_drop, List.drop_take]
  have yL : (c.extract n1 (n1 + m)).toList = (c.toList.drop n1).take m := ex_k _ _ _
  have xS : (c.extract (0 + k) n1).size = n1 - k := by rw [Array.size_extract, Nat.min_eq_left (Nat.le_of_lt l1), Nat.zero_add]
  have yS : (c.extract n1 (n1 + m)).size = m := by rw [Array.size_extract, Nat.min_eq_left (by omega), Nat.add_sub_cancel_left]
  walk_at "j"
  intro jp hjp
  have sX : (c.extract (0 + k) n1).toList.Pairwise leK := by rw [xL]; exact sF.sublist (List.drop_sublist _ _)
  have sY : (c.extract n1 (n1 + m)).toList.Pairwise leK := by rw [yL]; exact sG.sublist (List.take_sublist _ _)
  have ikX : ∀ x ∈ (c.extract (0 + k) n1).toList, IK x := fun x hx => by
    rw [xL] at hx
    exact ik x (List.mem_of_mem_take (List.mem_of_mem_drop hx))
  have ikY : ∀ x ∈ (c.extract n1 (n1 + m)).toList, IK x := fun x hx => by
    rw [yL] at hx
    exact ik x (List.mem_of_mem_drop (List.mem_of_mem_take hx))
  have hf : ∀ y ∈ (c.extract (0 + k) n1).toList, ∀ x, (c.extract n1 (n1 + m)).toList[0]? = some x → kn x ≤ kn y := fun y hy x hx => by
    rw [xL] at hy
    rw [yL, List.getElem?_take_of_lt e2', List.getElem?_drop, Nat.add_zero, (getA l1).2.1] at hx
    cases hx
    exact Int.le_of_lt (inX y hy)
  have hl : ∀ y ∈ (c.extract n1 (n1 + m)).toList, ∀ x, (c.extract (0 + k) n1).toList[(c.extract (0 + k) n1).size - 1]? = some x → kn y ≤ kn x := fun y hy x hx => by
    rw [yL] at hy
    rw [xL, xS, List.getElem?_drop] at hx
    have e6 : k + (n1 - k - 1) = n1 - 1 := by omega
    rw [e6, List.getElem?_take_of_lt (by omega), (getA l2).2.1] at hx
    cases hx
    exact Int.le_of_lt (inY y hy)
  have main : ∀ (out : Array Keyed) (st' : SortSt), Sm st1 st' → MD leK (c.extract (0 + k) n1).toList (c.extract n1 (n1 + m)).toList out.toList → wpS (model prog w) A E s (jp out) Q st' := by
    intro out st' sm md
    rw [hjp]
    dsimp -zeta only
    have aS : arrOf st' = c := sm.1.trans eA
    have md' : MD leK ((c.toList.take n1).drop k) ((c.toList.drop n1).take m) out.toList := by rw [xL, yL] at md; exact md
    have cL : c.toList = (c.toList.take n1).take k ++ ((c.toList.take n1).drop k ++ (c.toList.drop n1).take m) ++ (c.toList.drop n1).drop m := by
      rw [List.append_assoc, List.append_assoc, List.take_append_drop, ← List.append_assoc, List.take_append_drop, List.take_append_drop]
    have cA : c = ((c.toList.take n1).take k ++ ((c.toList.take n1).drop k ++ (c.toList.drop n1).take m) ++ (c.toList.drop n1).drop m).toArray := by
      rw [← cL]
    have pk : ((c.toList.take n1).take k).length = k := by rw [List.length_take, List.length_take]; have := lL (); omega
    have ol : ((c.toList.take n1).drop k ++ (c.toList.drop n1).take m).length = out.toList.length := md'.1.length_eq.symm
    have fs := fold_set (0 + k) out.toList 0 ((c.toList.take n1).take k) _ ((c.toList.drop n1).drop m) ol (by rw [pk]; omega)
    rw [← cA] at fs
    refine wpS_bind ?_
    show wpS _ _ _ _ (modify (fun s' => SortSt.mk' (kindOf s') (List.foldl (fun a x => a.setIfInBounds (0 + k + x.2) x.1) (arrOf s') out.toList.zipIdx) (pendingOf s') (gallopOf s') (failedOf s')) : StateT SortSt Sem PUnit) _ st'
    refine wpS_modify ?_
    rw [aS]
    generalize List.foldl (fun (a : Array Keyed) (x : Keyed × Nat) => a.setIfInBounds (0 + k + x.2) x.1) c out.toList.zipIdx = c2 at fs ⊢
    refine wpS_bind (wpS_get ?_)
    have fl : failedOf st' = none := sm.2.2.2.trans hB1.failed
    show wpS _ _ _ _ (pure (failedOf st').isNone) _ _
    rw [fl]
    have pm : c2.Perm c := by
      refine Array.perm_iff_toList_perm.mpr ?_
      have := (md'.1.append_left ((c.toList.take n1).take k)).append_right ((c.toList.drop n1).drop m)
      rw [← cL] at this
      rw [fs]
      exact this
    have ps : c2.toList.Pairwise leK := by
      rw [fs, List.append_assoc, List.pairwise_append]
      have mem : ∀ y ∈ out.toList, y ∈ (c.toList.take n1).drop k ∨ y ∈ (c.toList.drop n1).take m := fun y hy => List.mem_append.mp (md'.1.mem_iff.mp hy)
      refine ⟨sF.sublist (List.take_sublist _ _), ?_, fun x hx y hy => ?_⟩
      · rw [List.pairwise_append]
        refine ⟨md'.2, sG.sublist (List.drop_sublist _ _), fun x hx y hy => ?_⟩
        rcases mem x hx with hx | hx
        · exact Int.le_trans (leF x (List.mem_of_mem_drop hx)) (inS y hy)
        · exact Int.le_trans (Int.le_of_lt (inY x hx)) (inS y hy)
      · have hx' := inP x hx
        rcases List.mem_append.mp hy with hy | hy
        · rcases mem y hy with hy | hy
          · exact Int.le_trans hx' (Int.le_of_lt (inX y hy))
          · exact Int.le_trans hx' (leG y (List.mem_of_mem_take hy))
        · exact Int.le_trans hx' (leG y (List.mem_of_mem_drop hy))
    refine wpS_pure (h _ ⟨?_, sm.2.2.1.trans hB1.kind, rfl, sm.2.1.trans hB1.pend⟩ ?_)
    · exact pm.trans pm'
    · have := pw_seg ps
      have e7 : c2.size = a₀.size := pm.size_eq.trans sz
      rw [e7] at this
      exact this
  split
  · refine wpS_bind ?_
    exact mergeLo_ok hB1.kind sX sY ikX ikY (by rw [xS]; omega) (by rw [yS]; omega) hf hl main
  · refine wpS_bind ?_
    exact mergeHi_ok hB1.kind sX sY ikX ikY (by rw [xS]; omega) (by rw [yS]; omega) hf hl main
end
end L2.Srt

set_option Elab.async false
set_option linter.all false
set_option maxRecDepth 100000
local macro_rules | `(tactic| walk_at "z") => `(tactic| (extract_lets +onlyGivenNames -merge -underBinder z0; subst z0))
local macro_rules | `(tactic| walk_at "j") => `(tactic| (extract_lets +onlyGivenNames -merge -underBinder j0; generalize hj : j0 = j; have hk := hj.symm; clear hj; subst j0; revert j hk))
namespace L2.Srt
open PySem PyProof.Rows
theorem minRun_ok {n : Nat} (h2 : 2 ≤ n) (h : n < 128) : minRun' n n 0 ≤ n ∧ n ≤ 2 * minRun' n n 0 ∧ 1 ≤ minRun' n n 0 := by
  obtain ⟨f, hf⟩ : ∃ f, n = f + 2 := ⟨n - 2, by omega⟩
  have e : minRun' n n 0 = minRun' (f + 1 + 1) n 0 := by rw [hf]
  rw [e, minRun'_succ]
  by_cases h64 : n < 64
  · rw [if_pos h64]; omega
  · rw [if_neg h64, minRun'_succ, if_pos (by omega)]
    omega
section
variable {prog : Program} {w : World} {A : Around} {E : Value → Shared → Prop} {s : Shared} {a₀ : Array Keyed} {p : P3}
theorem sortRuns_ok {st : SortSt} {Q : Unit → SortSt → Prop} (h0 : IntKeys a₀) (nd : (a₀.toList.map kn).Nodup) (hB : SB a₀ #[] st) (h2 : 2 ≤ a₀.size) (h128 : a₀.size < 128)
    (h : ∀ st', (arrOf st').Perm a₀ → failedOf st' = none → Seg (arrOf st') 0 a₀.size → Q () st') : wpS (model prog w) A E s sortRuns' Q st := by
  obtain ⟨mr1, mr2, mr3⟩ := minRun_ok h2 h128
  unfold sortRuns'
  refine wpS_open ?_
  refine wpS_bind (wpS_get ?_)
  iterate 3 (walk_at "z")
  have eSz : ((sortPriv% PySem.Builtin.SortState.a) st).size = a₀.size := hB.size
  rw [eSz]
  clear eSz
  have eMr : (sortPriv% PySem.Builtin.minRun) a₀.size a₀.size 0 = minRun' a₀.size a₀.size 0 := rfl
  rw [eMr]
  generalize minRun' a₀.size a₀.size 0 = mr at mr1 mr2 mr3
  refine wpS_bind (wpS_mono (forR (I := fun x c st' => (x = 0 ∧ c = (none, 0) ∧ SB a₀ #[] st') ∨ (x = 1 ∧ ∃ n1, c = (none, n1) ∧ SB a₀ #[(0, n1, 0)] st' ∧ Seg (arrOf st') 0 n1 ∧ mr ≤ n1 ∧ n1 < a₀.size) ∨
      (1 ≤ x ∧ c = (none, a₀.size) ∧ ((∃ pw, SB a₀ #[(0, a₀.size, pw)] st' ∧ Seg (arrOf st') 0 a₀.size) ∨ ∃ n1 pw, SB a₀ #[(0, n1, pw), (n1, a₀.size - n1, 0)] st' ∧ 0 < n1 ∧ n1 < a₀.size ∧ Seg (arrOf st') 0 n1 ∧ Seg (arrOf st') n1 (a₀.size - n1))))
    (Q := fun c st' => c = (none, a₀.size) ∧ ((∃ pw, SB a₀ #[(0, a₀.size, pw)] st' ∧ Seg (arrOf st') 0 a₀.size) ∨ ∃ n1 pw, SB a₀ #[(0, n1, pw), (n1, a₀.size - n1, 0)] st' ∧ 0 < n1 ∧ n1 < a₀.size ∧ Seg (arrOf st') 0 n1 ∧ Seg (arrOf st') n1 (a₀.size - n1))) ?step ?fin (.inl ⟨rfl, rfl, hB⟩)) ?post)
  case fin =>
    rintro c st' (⟨hx, _, _⟩ | ⟨hx, _⟩ | ⟨_, hc, hD⟩)
    · omega
    · omega
    · exact ⟨hc, hD⟩
  case step =>
    rintro x c st' _ hx hI R hd hy
    rcases hI with ⟨rfl, rfl, hB'⟩ | ⟨rfl, n1, rfl, hB', hs', m1, m2⟩ | ⟨hx1, rfl, hD⟩
    · walk_at "z"
      dsimp -zeta only
      rw [if_neg (by omega)]
      refine wpS_bind (countRun_ok (lo := 0) (nrem := a₀.size - 0) h0 nd (by omega) (by omega) hB' fun m st2 hB2 g1 g2 hs2 _ => ?_)
      dsimp -zeta only
      walk_at "z"
      walk_at "j"
      intro jp hjp
      have main : ∀ (n : Nat) (st3 : SortSt), SB a₀ #[] st3 → Seg (arrOf st3) 0 n → mr ≤ n → n ≤ a₀.size → wpS (model prog w) A E s (jp () n) R st3 := by
        intro n st3 hB3 hs3 k1 k2
        rw [hjp]
        dsimp -zeta only
        refine wpS_bind (wpS_get ?_)
        have hb : ((sortPriv% PySem.Builtin.SortState.pending) st3).back? = none := by
          have : (sortPriv% PySem.Builtin.SortState.pending) st3 = #[] := hB3.pend
          rw [this]; rfl
        walk_at "j"
        intro jp2 hjp2
        rw [hb]
        dsimp -zeta only
        rw [hjp2]
        dsimp -zeta only
        refine wpS_bind ?_
        show wpS _ _ _ _ (modify (fun s' => setPending s' ((pendingOf s').push (0, n, 0))) : StateT SortSt Sem PUnit) _ st3
        refine wpS_modify ?_
        walk_at "z"
        have hB4 : SB a₀ #[(0, n, 0)] (setPending st3 ((pendingOf st3).push (0, n, 0))) := ⟨hB3.perm, hB3.kind, hB3.failed, by show (pendingOf st3).push _ = _; rw [hB3.pend]; rfl⟩
        refine wpS_pure (hy _ _ ?_)
        by_cases e : n = a₀.size
        · refine .inr (.inr ⟨by omega, by rw [e, Nat.zero_add], .inl ⟨0, by rw [← e]; exact hB4, by rw [← e]; exact hs3⟩⟩)
        · refine .inr (.inl ⟨rfl, n, by rw [Nat.zero_add], hB4, hs3, k1, by omega⟩)
      by_cases hlt : m < mr
      · rw [if_pos hlt]
        refine wpS_bind (wpS_lift (wpAny_rule ⟨rfl, ?_⟩))
        walk_at "z"
        refine wpS_bind (binarySort_ok (lo := 0) (n := min (a₀.size - 0) mr) h0 (by omega) (by omega) g1 hB2 hs2 fun st3 hB3 hs3 _ => ?_)
        simp only [Bool.not_true, Bool.false_eq_true, if_false]
        have e : min (a₀.size - 0) mr = mr := by omega
        rw [e] at hs3 ⊢
        exact main _ _ hB3 hs3 (Nat.le_refl _) mr1
      · rw [if_neg hlt]
        exact main _ _ hB2 hs2 (by omega) (by omega)
    · walk_at "z"
      dsimp -zeta only
      rw [if_neg (by omega)]
      refine wpS_bind (countRun_ok (lo := n1) (nrem := a₀.size - n1) h0 nd (by omega) (by omega) hB' fun m st2 hB2 g1 g2 hs2 lw2 => ?_)
      dsimp -zeta only
      walk_at "z"
      walk_at "j"
      intro jp hjp
      have main : ∀ (st3 : SortSt), SB a₀ #[(0, n1, 0)] st3 → Seg (arrOf st3) 0 n1 → Seg (arrOf st3) n1 (a₀.size - n1) → wpS (model prog w) A E s (jp () (a₀.size - n1)) R st3 := by
        intro st3 hB3 hs3 hs4
        rw [hjp]
        dsimp -zeta only
        refine wpS_bind (wpS_get ?_)
        have hp : (sortPriv% PySem.Builtin.SortState.pending) st3 = #[(0, n1, 0)] := hB3.pend
        walk_at "j"
        intro jp2 hjp2
        have hb : ((sortPriv% PySem.Builtin.SortState.pending) st3).back? = some (0, n1, 0) := by rw [hp]; rfl
        rw [hb]
        dsimp -zeta only
        walk_at "z"
        generalize (sortPriv% PySem.Builtin.power) a₀.size (2 * 0 + n1) (2 * 0 + n1 + n1 + (a₀.size - n1)) a₀.size = pw
        refine wpS_bind (wpS_mono (wpS_forRange (I := fun _ c st'' => st'' = st3 ∧ c = (none, ())) (Q := fun c st'' => st'' = st3 ∧ c = (none, ())) ?_ (fun _ _ hh => hh) ⟨rfl, rfl⟩) ?_)
        · rintro y c st'' _ _ ⟨rfl, rfl⟩
          refine wpS_bind (wpS_get ?_)
          walk_at "z"
          rw [hp]
          exact wpS_pure ⟨rfl, rfl⟩
        · rintro c st'' ⟨rfl, rfl⟩
          walk_at "z"
          dsimp -zeta only
          refine wpS_bind ?_
          show wpS _ _ _ _ (modify (fun s' => setPending s' ((pendingOf s').modify ((pendingOf s').size - 1) fun x => match x with | (st, len, snd) => (st, len, pw))) : StateT SortSt Sem PUnit) _ st''
          refine wpS_modify ?_
          rw [hjp2]
          dsimp -zeta only
          refine wpS_bind ?_
          show wpS _ _ _ _ (modify (fun s' => setPending s' ((pendingOf s').push (n1, a₀.size - n1, 0))) : StateT SortSt Sem PUnit) _ _
          refine wpS_modify ?_
          walk_at "z"
          have hp2 : ((pendingOf st'').modify ((pendingOf st'').size - 1) fun x => match x with | (st, len, snd) => (st, len, pw)).push (n1, a₀.size - n1, 0) = #[(0, n1, pw), (n1, a₀.size - n1, 0)] := by
            have hp3 : pendingOf st'' = #[(0, n1, 0)] := hp
            rw [hp3]
            rfl
          refine wpS_pure (hy _ _ (.inr (.inr ⟨by omega, by congr 1; omega, .inr ⟨n1, pw, ⟨hB3.perm, hB3.kind, hB3.failed, hp2⟩, by omega, m2, hs3, hs4⟩⟩)))
      have hs2' : Seg (arrOf st2) 0 n1 := lw2.seg hs' (by omega)
      by_cases hlt : m < mr
      · rw [if_pos hlt]
        refine wpS_bind (wpS_lift (wpAny_rule ⟨rfl, ?_⟩))
        walk_at "z"
        have e : min (a₀.size - n1) mr = a₀.size - n1 := by omega
        rw [e]
        refine wpS_bind (binarySort_ok (lo := n1) (n := a₀.size - n1) h0 (by omega) g2 g1 hB2 hs2 fun st3 hB3 hs3 lw3 => ?_)
        simp only [Bool.not_true, Bool.false_eq_true, if_false]
        exact main _ hB3 (lw3.seg hs2' (by omega)) hs3
      · rw [if_neg hlt]
        have e : m = a₀.size - n1 := by omega
        rw [e] at hs2 ⊢
        exact main _ hB2 hs2' hs2
    · walk_at "z"
      dsimp -zeta only
      rw [if_pos (Nat.le_refl _)]
      exact wpS_pure (hd _ _ ⟨rfl, hD⟩)
  case post =>
    rintro c st' ⟨rfl, hD⟩
    iterate 2 (walk_at "z")
    dsimp -zeta only
    refine wpS_bind (wpS_mono (forR (I := fun x c st'' => c = (none, ()) ∧ ((∃ pw, SB a₀ #[(0, a₀.size, pw)] st'' ∧ Seg (arrOf st'') 0 a₀.size) ∨ (x = 0 ∧ ∃ n1 pw, SB a₀ #[(0, n1, pw), (n1, a₀.size - n1, 0)] st'' ∧ 0 < n1 ∧ n1 < a₀.size ∧ Seg (arrOf st'') 0 n1 ∧ Seg (arrOf st'') n1 (a₀.size - n1))))
      (Q := fun c st'' => c = (none, ()) ∧ ∃ pw, SB a₀ #[(0, a₀.size, pw)] st'' ∧ Seg (arrOf st'') 0 a₀.size) ?fstep ?ffin ⟨rfl, hD.imp id fun z => ⟨rfl, z⟩⟩) ?fpost)
    case ffin =>
      rintro c st'' ⟨rfl, hD | ⟨hx, _⟩⟩
      · exact ⟨rfl, hD⟩
      · omega
    case fpost =>
      rintro c st'' ⟨rfl, pw, hB', hs⟩
      walk_at "z"
      exact wpS_pure (h _ hB'.perm hB'.failed hs)
    case fstep =>
      rintro x c st'' _ hx ⟨rfl, hI⟩ R hd hy
      refine wpS_bind (wpS_get ?_)
      rcases hI with ⟨pw, hB', hs⟩ | ⟨rfl, n1, pw, hB', b1, b2, hs, hs2⟩
      · walk_at "z"
        have hp : (sortPriv% PySem.Builtin.SortState.pending) st'' = #[(0, a₀.size, pw)] := hB'.pend
        rw [hp]
        rw [if_pos (by show 1 ≤ 1; omega)]
        exact wpS_pure (hd _ _ ⟨rfl, pw, hB', hs⟩)
      · walk_at "z"
        have hp : (sortPriv% PySem.Builtin.SortState.pending) st'' = #[(0, n1, pw), (n1, a₀.size - n1, 0)] := hB'.pend
        rw [hp]
        rw [if_neg (by show ¬ 2 ≤ 1; omega)]
        iterate 3 (walk_at "z")
        refine wpS_bind ?_
        show wpS _ _ _ _ (mergeAt' 0) _ _
        refine mergeAt_ok h0 hB' (by omega) b1 (by omega) hs hs2 fun st3 hB3 hs3 => ?_
        simp only [Bool.not_true, Bool.false_eq_true, if_false]
        exact wpS_pure (hy _ _ ⟨rfl, .inl ⟨pw, hB3, hs3⟩⟩)
end
end L2.Srt

set_option Elab.async false
set_option linter.all false
set_option maxRecDepth 100000
namespace L2.Srt
open PySem PyProof.Rows
/-! ### the table of a set: its places rise -/
def Rise (xs : Array Nat) : Prop := xs.toList.Pairwise (· < ·)
theorem Rise.lt {xs : Array Nat} (h : Rise xs) {i j : Nat} (hij : i < j) (hj : j < xs.size) : xs[i] < xs[j] := by
  have := List.pairwise_iff_getElem.mp h i j (by rw [Array.length_toList]; omega) (by rw [Array.length_toList]; exact hj) hij
  simpa using this
theorem below_go {xs : Array Nat} (h : Rise xs) (j : Nat) : ∀ (fuel lo hi : Nat), hi - lo ≤ fuel → lo ≤ hi → hi ≤ xs.size → (∀ i (hi' : i < xs.size), i < lo → xs[i] < j) → (∀ i (hi' : i < xs.size), hi ≤ i → j ≤ xs[i]) →
    SetTable.below.go xs j fuel lo hi ≤ xs.size ∧ (∀ i (hi' : i < xs.size), i < SetTable.below.go xs j fuel lo hi → xs[i] < j) ∧ (∀ i (hi' : i < xs.size), SetTable.below.go xs j fuel lo hi ≤ i → j ≤ xs[i])
  | 0, lo, hi, hf, h1, h2, h3, h4 => by
    have : lo = hi := by omega
    subst this
    unfold SetTable.below.go
    exact ⟨h2, h3, h4⟩
  | fuel + 1, lo, hi, hf, h1, h2, h3, h4 => by
    unfold SetTable.below.go
    by_cases hlt : lo < hi
    · rw [if_pos hlt]
      have hm : (lo + hi) / 2 < xs.size := by omega
      have eg : xs.getD ((lo + hi) / 2) j = xs[(lo + hi) / 2] := by simp [Array.getD, hm]
      dsimp only
      rw [eg]
      by_cases hc : xs[(lo + hi) / 2] < j
      · rw [if_pos hc]
        refine below_go h j fuel ((lo + hi) / 2 + 1) hi (by omega) (by omega) h2 (fun i hi' hlt' => ?_) h4
        by_cases e : i = (lo + hi) / 2
        · subst e; exact hc
        · exact Nat.lt_trans (h.lt (by omega) hm) hc
      · rw [if_neg hc]
        refine below_go h j fuel lo ((lo + hi) / 2) (by omega) (by omega) (by omega) h3 (fun i hi' hle => ?_)
        by_cases e : i = (lo + hi) / 2
        · subst e; omega
        · have := h.lt (i := (lo + hi) / 2) (j := i) (by omega) hi'
          omega
    · rw [if_neg hlt]
      have : lo = hi := by omega
      subst this
      exact ⟨h2, h3, h4⟩
theorem below_ok {xs : Array Nat} (h : Rise xs) (j : Nat) : SetTable.below xs j ≤ xs.size ∧ (∀ i (hi : i < xs.size), i < SetTable.below xs j → xs[i] < j) ∧ (∀ i (hi : i < xs.size), SetTable.below xs j ≤ i → j ≤ xs[i]) :=
  below_go h j xs.size 0 xs.size (by omega) (Nat.zero_le _) (Nat.le_refl _) (fun i _ h => absurd h (Nat.not_lt_zero _)) (fun i hi h => absurd hi (Nat.not_lt.mpr h))
theorem insert_list {α : Type} (xs : Array α) (p : Nat) (x : α) : (SetTable.insertAt xs p x).toList = xs.toList.take p ++ x :: xs.toList.drop p := by
  unfold SetTable.insertAt
  rw [Array.toList_append, Array.toList_push, Array.toList_extract, Array.toList_extract, List.extract_eq_take_drop, List.extract_eq_take_drop, List.drop_zero, Nat.sub_zero, List.append_assoc]
  congr 1
  show x :: _ = x :: _
  congr 1
  have e : List.take (xs.size - p) (xs.toList.drop p) = xs.toList.drop p := List.take_of_length_le (by rw [List.length_drop, Array.length_toList]; exact Nat.le_refl _)
  exact e
theorem rise_insert {xs : Array Nat} (h : Rise xs) {j : Nat} (hj : xs[SetTable.below xs j]? ≠ some j) : Rise (SetTable.insertAt xs (SetTable.below xs j) j) := by
  obtain ⟨h1, h2, h3⟩ := below_ok h j
  unfold Rise
  rw [insert_list, List.pairwise_append]
  have lo : ∀ x ∈ xs.toList.take (SetTable.below xs j), x < j := fun x hx => by
    obtain ⟨i, hi⟩ := List.getElem?_of_mem hx
    have il : i < SetTable.below xs j := by
      have := (List.getElem?_eq_some_iff.mp hi).1
      rw [List.length_take] at this
      omega
    rw [List.getElem?_take_of_lt il] at hi
    obtain ⟨q1, q2⟩ := List.getElem?_eq_some_iff.mp hi
    have q3 : i < xs.size := by rw [← Array.length_toList]; exact q1
    have := h2 i q3 il
    rw [← q2]
    simpa using this
  have hi : ∀ x ∈ xs.toList.drop (SetTable.below xs j), j < x := fun x hx => by
    obtain ⟨i, hi⟩ := List.getElem?_of_mem hx
    rw [List.getElem?_drop] at hi
    obtain ⟨q1, q2⟩ := List.getElem?_eq_some_iff.mp hi
    have q3 : SetTable.below xs j + i < xs.size := by rw [← Array.length_toList]; exact q1
    have hb : SetTable.below xs j < xs.size := by omega
    have h5 := h3 _ hb (Nat.le_refl _)
    have h6 : xs[SetTable.below xs j] ≠ j := fun e => hj (by rw [Array.getElem?_eq_getElem hb, e])
    have h7 : xs[SetTable.below xs j] ≤ xs[SetTable.below xs j + i] := by
      by_cases e : i = 0
      · subst e; exact Nat.le_refl _
      · exact Nat.le_of_lt (h.lt (by omega) q3)
    have : x = xs[SetTable.below xs j + i] := by rw [← q2]; simp
    omega
  refine ⟨h.sublist (List.take_sublist _ _), List.pairwise_cons.mpr ⟨hi, h.sublist (List.drop_sublist _ _)⟩, fun a ha b hb => ?_⟩
  rcases List.mem_cons.mp hb with e | hb
  · rw [e]; exact lo a ha
  · exact Nat.lt_trans (lo a ha) (hi b hb)
/-- what is wanted of a table (bt: sets are walked by the text) -/
structure GT (bt : Bool) (t : SetTable) : Prop where
  led : bt = false → t.led = true
  dum : t.dummies = #[]
  rise : t.plain = true → Rise t.place
theorem probe_empty {t : SetTable} (hd : t.dummies = #[]) (ha : Nat → Int) (h : Int) : ∀ (fuel : Nat) (p : SetTable.Probe), p.dummy = none → ∀ m, SetTable.probe.go t ha h fuel p = some m → (∃ j, m = .empty j none ∧ t.slot j = .empty) ∨ ∃ j i n, m = .candidate j i n
  | 0, p, _, m, e => by simp [SetTable.probe.go] at e
  | fuel + 1, p, hp, m, e => by
    unfold SetTable.probe.go at e
    cases hs : t.slot p.j with
    | empty =>
      rw [hs] at e
      dsimp only at e
      rw [hp] at e
      exact .inl ⟨p.j, (Option.some.inj e).symm, hs⟩
    | dummy =>
      exfalso
      unfold SetTable.slot at hs
      dsimp only at hs
      split at hs
      · cases hs
      · have : SetTable.has t.dummies p.j = false := by
          rw [hd]
          unfold SetTable.has
          simp
        rw [this] at hs
        cases hs
    | live i =>
      rw [hs] at e
      dsimp only at e
      split at e
      · exact .inr ⟨_, _, _, (Option.some.inj e).symm⟩
      · refine probe_empty hd ha h fuel _ ?_ m e
        unfold SetTable.advance
        split
        · exact hp
        · exact hp
theorem GT.standIn {bt : Bool} {t : SetTable} (h : GT bt t) (n : Nat) : GT bt (t.standIn n) := ⟨h.led, rfl, fun e => by cases e⟩
theorem GT.layNew {bt : Bool} {t : SetTable} (h : GT bt t) (es : Array (Int × Value)) (k : Int) (x : Value) : GT bt (PySem.layNew t es k x).2.1 := by
  unfold PySem.layNew
  cases hf : t.freeSlot k with
  | none => exact h.standIn _
  | some q =>
    obtain ⟨slot, wd⟩ := q
    dsimp only
    have hs : t.slot slot = .empty := by
      unfold SetTable.freeSlot at hf
      cases hp : t.probe (fun _ => k + 1) k (t.probeStart k) with
      | none => rw [hp] at hf; cases hf
      | some m =>
        rw [hp] at hf
        unfold SetTable.probe at hp
        rcases probe_empty h.dum _ _ _ _ rfl _ hp with ⟨j, rfl, hj⟩ | ⟨j, i, n, rfl⟩
        · dsimp only at hf
          have := congrArg Prod.fst (Option.some.inj hf)
          have e : j = slot := this
          rw [← e]
          exact hj
        · cases hf
    have hput : GT bt (t.put slot).1 := by
      unfold SetTable.put
      dsimp only
      refine ⟨h.led, ?_, fun hp => ?_⟩
      · show (if SetTable.has t.dummies slot = true then _ else t.dummies) = #[]
        have : SetTable.has t.dummies slot = false := by rw [h.dum]; unfold SetTable.has; simp
        rw [this]
        exact h.dum
      · refine rise_insert (h.rise hp) fun e => ?_
        unfold SetTable.slot at hs
        dsimp only at hs
        rw [if_pos (by rw [e]; exact beq_self_eq_true _)] at hs
        cases hs
    unfold SetTable.orStandIn
    split
    · exact hput
    · exact hput.standIn _
theorem GT.plain {bt : Bool} {t : SetTable} (h : GT bt t) (b : Bool) : GT bt (if b = true then t else { t with plain := false }) := by
  cases b with
  | true => exact h
  | false => exact ⟨h.led, h.dum, fun e => by cases e⟩
theorem live_rise (f : Nat → Option Nat) (n : Nat) : Rise (((List.range n).filterMap fun j => (f j).map (j, ·)).map (·.1)).toArray := by
  unfold Rise
  rw [List.toList_toArray, List.map_filterMap]
  have : (List.range n).Pairwise (· < ·) := List.pairwise_lt_range
  refine List.Pairwise.filterMap _ (fun a b hab c hc d hd => ?_) this
  cases ha : f a with
  | none => rw [ha] at hc; cases hc
  | some x =>
    rw [ha] at hc
    cases hb : f b with
    | none => rw [hb] at hd; cases hd
    | some y =>
      rw [hb] at hd
      cases hc
      cases hd
      exact hab
theorem GT.relayAll {bt : Bool} {t : SetTable} (h : GT bt t) (es : Array (Int × Value)) (n : Nat) : GT bt (PySem.relayAll t es n).2.1 := by
  unfold PySem.relayAll
  cases hr : t.relaid (es.map (·.1)) n with
  | none => exact h.standIn _
  | some q =>
    obtain ⟨t', order⟩ := q
    dsimp only
    split
    · unfold SetTable.relaid SetTable.laid at hr
      cases hl : SetTable.layClean (SetTable.sizeAbove n - 1) (es.map (·.1)) with
      | none => rw [hl] at hr; cases hr
      | some owner =>
        rw [hl] at hr
        have e := congrArg Prod.fst (Option.some.inj hr)
        dsimp only at e
        rw [← e]
        exact ⟨h.led, rfl, fun _ => live_rise _ _⟩
    · exact h.standIn _
end L2.Srt

set_option Elab.async false
set_option linter.all false
set_option maxRecDepth 100000
namespace L2.Srt
open PySem PyProof.Rows
abbrev Els := Array (Int × Value)
def kOf (es : Els) : List Int := es.toList.map fun e => numOf e.2
section
variable {prog : Program} {w : World} {A : Around} {E : Value → Shared → Prop} {s : Shared}
abbrev byT (w : World) : Bool := w.params.followText "set-order"
/-- a set of ints, its table known -/
def SetG (prog : Program) (w : World) (h : Heap) (a : Addr) (S : Int → Bool) : Prop := ∃ o es ep t, h.get? a = some o ∧ o.ExactSet ∧ o.data = .set es ep t ∧ ElemsOf (intKind prog w) es.toList ∧ (kOf es).Nodup ∧ (∀ k, S k = true ↔ k ∈ kOf es) ∧ es.size < scanBound ∧ t.fits es.size = true ∧ GT (byT w) t
theorem el_int {es : Els} (h : ElemsOf (intKind prog w) es.toList) {e : Int × Value} (he : e ∈ es.toList) : ∃ n t, e.2 = .int n t := by
  obtain ⟨⟨k, hk, _⟩, _⟩ := h e he
  obtain ⟨t, q⟩ := Value.isInt_shape (k := k) (v := e.2) hk
  exact ⟨k, t, q⟩
theorem mem_kOf {es : Els} (h : ElemsOf (intKind prog w) es.toList) (k : Int) : k ∈ kOf es ↔ ∃ e ∈ es.toList, (intKind prog w).is k e.2 = true := by
  unfold kOf
  rw [List.mem_map]
  constructor
  · rintro ⟨e, he, rfl⟩
    obtain ⟨n, t, q⟩ := el_int h he
    exact ⟨e, he, by rw [q]; exact intKind_is _ _ _ _⟩
  · rintro ⟨e, he, hk⟩
    obtain ⟨t, q⟩ := Value.isInt_shape (k := k) (v := e.2) hk
    exact ⟨e, he, by rw [q]; rfl⟩
theorem find_kOf {es : Els} (h : ElemsOf (intKind prog w) es.toList) (k : Int) : (es.toList.findIdx? (fun e => (intKind prog w).is k e.2) = none) ↔ k ∉ kOf es := by
  rw [List.findIdx?_eq_none_iff, mem_kOf h]
  constructor
  · rintro a ⟨e, he, hk⟩
    rw [a e he] at hk
    cases hk
  · intro a e he
    cases q : (intKind prog w).is k e.2 with
    | false => rfl
    | true => exact absurd ⟨e, he, q⟩ a
theorem put_at {h : Heap} {a : Addr} {o : Obj} {es : Els} {ep : Nat} {t : SetTable} (ho : h.get? a = some o) (hd : o.data = .set es ep t) (es' : Els) (t' : SetTable) : (h.update a (Obj.putSet es' t')).get? a = some { o with data := .set es' (ep + 1) t' } := by
  have := Heap.get?_update_self (Obj.putSet es' t') ho (by rw [putSet_of es' t' hd]; rfl)
  rw [putSet_of es' t' hd] at this
  exact this
theorem setAdd_G {a : Addr} {S : Int → Bool} {k : Int} {tk : Tok} {Q : Bool → Shared → Prop} (hS : SetG prog w s.heap a S) (hroom : ∀ es : Els, (kOf es).Nodup → (∀ k, S k = true ↔ k ∈ kOf es) → es.size + 1 < scanBound)
    (h : ∀ b h', Heap.SameBut a s.heap h' → SetG prog w h' a (fun k' => S k' || decide (k' = k)) → Q b { s with heap := h' }) :
    wpAny (model prog w) A (setAddHashed a (.int k tk) ((intKind prog w).hash k)) Q E s := by
  obtain ⟨o, es, ep, t, ho, hex, hd, hel, hnd, hmem, hb, hf, gt⟩ := hS
  have hb1 : es.size + 1 < scanBound := hroom es hnd hmem
  have hkey : (intKind prog w).is k (.int k tk) = true := intKind_is _ _ _ _
  unfold setAddHashed setAddHashedIn
  refine wpAny_holding (wpAny_bind (wpAny_setState_of ho hd hf ?_))
  dsimp only
  rw [byScan_of (knd := intKind prog w) (x := .int k tk) rfl hb hel]
  simp only [↓reduceIte]
  unfold setAddByScan
  refine wpAny_bind ?_
  refine wpAny_bind (wpAny_rule ?_)
  refine wpAny_bind (wpAny_setScan_of hkey ho hd hf hel ?_)
  cases hr : List.findIdx? (fun e => (intKind prog w).is k e.2) es.toList with
  | some j =>
    dsimp only
    have hk : k ∈ kOf es := Classical.byContradiction fun hn => by rw [(find_kOf hel k).mpr hn] at hr; cases hr
    have e : s = { s with heap := s.heap } := by cases s; rfl
    refine wpAny_pure (wpAny_pure ?_)
    rw [e]
    refine h _ s.heap (Heap.SameBut.refl a s.heap) ⟨o, es, ep, t, ho, hex, hd, hel, hnd, fun k' => ?_, hb, hf, gt⟩
    rw [Bool.or_eq_true, decide_eq_true_eq, hmem]
    exact ⟨fun z => z.elim id (fun e => e ▸ hk), .inl⟩
  | none =>
    dsimp only
    have hk : k ∉ kOf es := (find_kOf hel k).mp hr
    have hgw : ∀ (b : Bool) {s₁ : Shared} {Q' : Unit → Shared → Prop}, Q' () s₁ → wpAny (model prog w) A (match b with | true => rule "set.scan.the-table-gave-way" | false => pure ()) Q' E s₁ :=
      fun b s₁ Q' hq => by cases b <;> first | exact wpAny_pure hq | exact wpAny_rule hq
    have hperm := layNew_perm t es ((intKind prog w).hash k) (.int k tk)
    have hfits := layNew_fits t es ((intKind prog w).hash k) (.int k tk)
    have hgt := gt.layNew es ((intKind prog w).hash k) (.int k tk)
    generalize hL : layNew t es ((intKind prog w).hash k) (.int k tk) = L at hperm hfits hgt ⊢
    obtain ⟨es1, t1, wasDummy, gave⟩ := L
    dsimp only at hperm hfits hgt ⊢
    rw [Array.toList_push] at hperm
    have hel1 : ElemsOf (intKind prog w) es1.toList := (hel.push hkey rfl).perm hperm
    have hp1 : (kOf es1).Perm (kOf es ++ [k]) := by
      have := hperm.map (fun e => numOf e.2)
      rw [List.map_append] at this
      exact this
    have hnd1 : (kOf es1).Nodup := hp1.symm.nodup (List.nodup_append.mpr ⟨hnd, by simp, fun x hx y hy e => by
      rw [List.mem_singleton] at hy
      rw [e, hy] at hx
      exact hk hx⟩)
    have hmem1 : ∀ k', (S k' || decide (k' = k)) = true ↔ k' ∈ kOf es1 := fun k' => by
      rw [hp1.mem_iff, List.mem_append, List.mem_singleton, Bool.or_eq_true, decide_eq_true_eq, hmem]
    have hsz1 : es1.size = es.size + 1 := by rw [← Array.length_toList, hperm.length_eq, List.length_append, Array.length_toList]; rfl
    have hb1' : es1.size < scanBound := by rw [hsz1]; exact hb1
    refine wpAny_bind (hgw _ ?_)
    have tail : ∀ (t2 : SetTable), t2.fits es1.size = true → GT (byT w) t2 → ∀ {R : Option Bool → Shared → Prop}, (∀ h', Heap.SameBut a s.heap h' → SetG prog w h' a (fun k' => S k' || decide (k' = k)) → R (some true) { s with heap := h' }) →
        wpAny (model prog w) A (do
          storeSet a es1 t2
          if (!wasDummy && t2.tooFull) = true then do
            (match (relayAll t2 es1 (SetTable.grown es1.size)).2.2 with | true => rule "set.scan.the-table-gave-way" | false => pure ())
            storeSet a (relayAll t2 es1 (SetTable.grown es1.size)).1 (relayAll t2 es1 (SetTable.grown es1.size)).2.1
            pure (some true)
          else pure (some true)) R E s := fun t2 hf2 gt2 {R} hR => by
      refine wpAny_bind (wpAny_storeSet_of ho hd ?_ (fits_of_scanBound hb1'))
      have ho1 := put_at ho hd es1 t2
      have hsb1 := Heap.SameBut.update s.heap a (Obj.putSet es1 t2)
      split
      · have hp := relayAll_perm t2 es1 (SetTable.grown es1.size)
        have hfr := relayAll_fits t2 es1 (SetTable.grown es1.size)
        have hgr := gt2.relayAll es1 (SetTable.grown es1.size)
        generalize relayAll t2 es1 (SetTable.grown es1.size) = Rl at hp hfr hgr ⊢
        obtain ⟨es2, t3, gave2⟩ := Rl
        dsimp only at hp hfr hgr ⊢
        have hsz : es2.size = es1.size := by rw [← Array.length_toList, hp.length_eq, Array.length_toList]
        have hb2 : es2.size < scanBound := by rw [hsz]; exact hb1'
        have hp2 : (kOf es2).Perm (kOf es1) := hp.map (fun (e : Int × Value) => numOf e.2)
        refine wpAny_bind (hgw _ ?_)
        refine wpAny_bind (wpAny_storeSet_of ho1 rfl ?_ (fits_of_scanBound hb2))
        have ho2 := put_at ho1 rfl es2 t3
        refine wpAny_pure (hR _ (hsb1.trans (Heap.SameBut.update _ a _)) ⟨_, es2, _, t3, ho2, hex, rfl, hel1.perm hp, hp2.symm.nodup hnd1, fun k' => (hmem1 k').trans hp2.mem_iff.symm, hb2, hfr, hgr⟩)
      · exact wpAny_pure (hR _ hsb1 ⟨_, es1, _, t2, ho1, hex, rfl, hel1, hnd1, hmem1, hb1', hf2, gt2⟩)
    split
    · refine wpAny_bind ?_
      rw [hashByValue_scannable 8 (x := .int k tk) rfl]
      refine wpAny_pure ?_
      refine tail _ ?_ (hgt.plain _) fun h' hsb hS' => ?_
      · split
        · exact hfits
        · exact SetTable.fits_plain_off hfits
      · dsimp only; exact wpAny_pure (h _ h' hsb hS')
    · refine wpAny_bind (wpAny_pure ?_)
      simp only [↓reduceIte]
      refine tail _ hfits hgt fun h' hsb hS' => ?_
      dsimp only; exact wpAny_pure (h _ h' hsb hS')
end
end L2.Srt

set_option Elab.async false
set_option linter.all false
set_option maxRecDepth 100000
set_option maxHeartbeats 3200000
namespace L2.Srt
open PySem PyProof.Rows
section
variable {prog : Program} {w : World} {A : Around} {E : Value → Shared → Prop} {s : Shared}
theorem SetG.keep {h h' : Heap} {a : Addr} {S : Int → Bool} (g : SetG prog w h a S) (k : ∀ o, h.get? a = some o → h'.get? a = some o) : SetG prog w h' a S := by
  obtain ⟨o, es, ep, t, ho, r⟩ := g
  exact ⟨o, es, ep, t, k o ho, r⟩
theorem SetG.congr {h : Heap} {a : Addr} {S S' : Int → Bool} (g : SetG prog w h a S) (e : ∀ k, S k = S' k) : SetG prog w h a S' := by
  have : S = S' := funext e
  subst this
  exact g
theorem nodup_len : ∀ {l m : List Int}, l.Nodup → (∀ x ∈ l, x ∈ m) → l.length ≤ m.length
  | [], _, _, _ => Nat.zero_le _
  | x :: l, m, hn, hs => by
    rw [List.nodup_cons] at hn
    have hx : x ∈ m := hs x List.mem_cons_self
    have := nodup_len (l := l) (m := m.erase x) hn.2 fun y hy => (List.mem_erase_of_ne (fun (e : y = x) => hn.1 (e ▸ hy))).mpr (hs y (List.mem_cons_of_mem _ hy))
    have e := List.length_erase_of_mem hx
    have p := List.length_pos_of_mem hx
    rw [List.length_cons]
    omega
theorem card_le {es : Els} {ns : List Int} (nd : (kOf es).Nodup) (hm : ∀ k ∈ kOf es, k ∈ ns) : es.size ≤ ns.length := by
  have e : es.size = (kOf es).length := by unfold kOf; rw [List.length_map, Array.length_toList]
  rw [e]
  exact nodup_len nd hm
theorem upd_loop {S I l : Addr} {items : List Value} {ns : List Int} {R : Result → Shared → Prop} (hh : A.in1.handled = none) (hI : IntsAre items ns) (n1 : S ≠ I) (n2 : S ≠ l) (n3 : l ≠ I) (hb : ns.length + 1 < scanBound) :
    ∀ (k i : Nat) (s : Shared), ns.length - i = k → i ≤ ns.length → s.heap.IsListIter I l i → s.heap.IsList l items.toArray → SetG prog w s.heap S (fun k' => (ns.take i).any (· == k')) →
      (∀ h' tk, (∀ b o, b ≠ S → b ≠ I → s.heap.get? b = some o → h'.get? b = some o) → SetG prog w h' S (fun k' => ns.any (· == k')) → R (.ok (.ret .none)) { s with heap := h', toks := tk }) →
      codeAny (model prog w) A (.builtin "set.update.loop" ⟨[.ref S, .ref I], []⟩) R s
  | 0, i, s, hk, hi, it, hl, g, hR => by
    have e : i = ns.length := by omega
    subst e
    have hl2 := IntsAre.length hI
    refine codeAny_builtin F.entry_set_update_loop ?_
    rw [Around.under_plainId F.plain_set_update_loop _]
    show wpAny _ A.in1 (pyNext (.ref I) >>= _) _ _ s
    refine wpAny_bind (wpAny_pyNext_list_end hh it hl (by simp; omega) fun h' eb => ?_)
    show wpAny _ A.in1 (ret Value.none) _ _ _
    refine wpAny_pure (hR h' s.toks (fun b o _ nb q => eb b o nb q) ?_)
    rw [List.take_length] at g
    exact g.keep fun o q => eb S o n1 q
  | k + 1, i, s, hk, hi, it, hl, g, hR => by
    have hl2 := IntsAre.length hI
    have hlt : i < ns.length := by omega
    have hx : items[i]? = some items[i] := List.getElem?_eq_getElem (by omega)
    obtain ⟨t, et⟩ := IntsAre.int_at hI i _ hx
    refine codeAny_builtin F.entry_set_update_loop ?_
    rw [Around.under_plainId F.plain_set_update_loop _]
    show wpAny _ A.in1 (pyNext (.ref I) >>= _) _ _ s
    refine wpAny_bind (wpAny_pyNext_list_item it hl (x := items[i]) (by simpa using hx) fun h1 it1 sb1 => ?_)
    rw [et]
    show wpAny _ A.in1 (holding [Value.int (ns.getD i 0) t] (setAdd S (.int (ns.getD i 0) t)) >>= _) _ _ _
    refine wpAny_bind (wpAny_holding ?_)
    unfold setAdd
    refine wpAny_holding ?_
    refine wpAny_bind ((intKind prog w).pyHash (k := ns.getD i 0) (intKind_is _ _ _ _) ?_)
    have g1 : SetG prog w h1 S (fun k' => (ns.take i).any (· == k')) := g.keep fun o q => (sb1.2 S n1).trans q
    refine setAdd_G (s := { s with heap := h1, toks := s.toks + 1 }) g1 (fun es nd hm => ?_) fun b h2 sb2 g2 => ?_
    · have : es.size ≤ (ns.take i).length := card_le nd fun k hk => by
        have := (hm k).mpr hk
        rw [List.any_eq_true] at this
        obtain ⟨y, hy, e⟩ := this
        have e : y = k := by simpa using e
        rw [← e]
        exact hy
      rw [List.length_take] at this
      omega
    refine wpAny_pure ⟨plainId_quiet F.plain_set_update_loop _, upd_loop hh hI n1 n2 n3 hb k (i + 1) _ (by omega) hlt ?_ ?_ ?_ fun h3 tk kk g3 => ?_⟩
    · exact it1.at fun o q => (sb2.2 I n1.symm).trans q
    · exact hl.at fun o q => (sb2.2 l n2.symm).trans ((sb1.2 l n3).trans q)
    · refine g2.congr fun k' => ?_
      have e : ns.take (i + 1) = ns.take i ++ [ns.getD i 0] := by
        rw [List.take_succ, List.getElem?_eq_getElem hlt, List.getD_eq_getElem?_getD, List.getElem?_eq_getElem hlt]
        rfl
      rw [e, List.any_append]
      congr 1
      show decide (k' = ns.getD i 0) = ((ns.getD i 0 == k') || false)
      rw [Bool.or_false]
      by_cases q : k' = ns.getD i 0
      · rw [q]; simp
      · rw [decide_eq_false q]
        exact (beq_eq_false_iff_ne.mpr (Ne.symm q)).symm
    · exact hR h3 tk (fun b o nb1 nb2 q => kk b o nb1 nb2 ((sb2.2 b nb1).trans ((sb1.2 b nb2).trans q))) g3
end
end L2.Srt

set_option Elab.async false
set_option linter.all false
set_option maxRecDepth 100000
set_option maxHeartbeats 3200000
namespace L2.Srt
open PySem PyProof.Rows
section
variable {prog : Program} {w : World} {A : Around} {E : Value → Shared → Prop} {s : Shared}
theorem set_newG (a : Value) {Q₁ : Value → Shared → Prop}
    (h : Q₁ (.ref s.heap.objs.size) { s with heap := s.heap.push { cls := .type "set", dict := none, data := .set #[] 0 (.fresh 0 0 (!byT w)) } }) :
    codeAny (model prog w) A (.call (.builtin "set.__new__") ⟨[.type "set", a], []⟩) (wants Q₁ E) s := by
  refine codeAny_of_tree ?_
  show wpAny _ A.in1 (do checkBuiltinCall "set.__new__" ⟨[.type "set", a], []⟩; again (.builtin "set.__new__" ⟨[.type "set", a], []⟩)) _ _ s
  refine wpAny_bind (wpAny_of_eq (F.newCall_set_1 a) (wpAny_pure ⟨plainId_quiet F.plain_set_new _, codeAny_builtin F.entry_set_new ?_⟩))
  rw [Around.under_plainId F.plain_set_new _]
  unfold Builtin.«set.__new__» Builtin.Frozenset.newClass
  have hsub := sub_set_self
  obtain ⟨hp, g, d, tk, os⟩ := s
  dsimp only
  wp_walk
  refine wpAny_askSetting (wpAny_pure ?_)
  dsimp only
  simp only [newObj]
  refine wpAny_bind (wpAny_alloc (wpAny_pure ?_))
  exact wpAny_pure h
theorem fresh_G (h : Heap) : SetG prog w (h.push { cls := .type "set", dict := none, data := .set #[] 0 (.fresh 0 0 (!byT w)) }) h.objs.size (fun _ => false) :=
  ⟨_, #[], 0, _, Heap.get?_push_size _ rfl, ⟨rfl, rfl, rfl⟩, rfl, fun e he => by simp at he, by simp [kOf], fun k => by simp [kOf], by decide, by rfl, ⟨fun e => by show (!byT w) = true; rw [e]; rfl, rfl, fun _ => by simp [Rise, SetTable.fresh]⟩⟩
theorem call_setG {l : Addr} {items : List Value} {ns : List Int} {Q : Value → Shared → Prop} (hh : A.handled = none) (hl : s.heap.IsList l items.toArray) (hi : IntsAre items ns) (hb : ns.length + 1 < scanBound)
    (h : ∀ (h' : Heap) (tk : Nat), SetG prog w h' s.heap.objs.size (fun k' => ns.any (· == k')) → (∀ b o, b < s.heap.objs.size → s.heap.get? b = some o → h'.get? b = some o) → Q (.ref s.heap.objs.size) { s with heap := h', toks := tk }) :
    wpAny (model prog w) A (call (.type "set") [.ref l]) Q E s := by
  obtain ⟨c, tl, hmro⟩ := F.called_set.mro
  have hmade := F.called_set.made
  have hsub := F.called_set.sub
  refine wpAny_call (codeAny_of_tree ?_)
  show wpAny _ _ (callAny (.type "set") _) _ _ _
  refine wpAny_pure ⟨Code.quiet_builtin _ (by decide +kernel), codeAny_builtin F.entry_type_call ?_⟩
  rw [Around.under_plain (weight_type_call_type "set" [.ref l] []) rfl]
  have h1 := F.called_set.notType
  have h2 := F.called_set.canCreate
  have hct := F.typeCall_set_1 (.ref l)
  repeat (any_goals (first | assumption | wp_step))
  refine codeAny_mono (set_newG (.ref l) (E := E) (Q₁ := fun obj s₁ => obj = .ref s.heap.objs.size ∧ s₁ = { s with heap := s.heap.push { cls := .type "set", dict := none, data := .set #[] 0 (.fresh 0 0 (!byT w)) } }) ⟨rfl, rfl⟩) fun r s₁ hr => ?_
  cases r with
  | error e => exact hr
  | ok fl =>
    cases fl with
    | ret obj =>
      obtain ⟨rfl, rfl⟩ := hr
      have g0 := fresh_G (prog := prog) (w := w) s.heap
      generalize hh0 : s.heap.push { cls := .type "set", dict := none, data := .set #[] 0 (.fresh 0 0 (!byT w)) } = h0 at g0 ⊢
      have hT : Shared.TypeIs { s with heap := h0 } (.ref s.heap.objs.size) "set" := by rw [← hh0]; exact ⟨_, Heap.get?_push_size _ rfl, rfl⟩
      have hli := F.called_set.init.lookup
      have hbi := F.called_set.init.bind (.ref s.heap.objs.size)
      repeat (any_goals (first | assumption | wp_step))
      refine codeAny_mono (codeAny_call_builtin (R := wants (fun r s₂ => r = .none ∧ ∃ h' tk, s₂ = { s with heap := h', toks := tk } ∧
          SetG prog w h' s.heap.objs.size (fun k' => ns.any (· == k')) ∧ (∀ b o, b < s.heap.objs.size → s.heap.get? b = some o → h'.get? b = some o)) E) F.called_set.init.plain F.entry_set_init (check_set_init_1 hT ?_)) fun r₂ s₂ hr₂ => ?_
      · obtain ⟨ol, hol, hcl, nl, hdl⟩ := id hl
        obtain ⟨ocls, odict, odata, oslots⟩ := ol
        simp only at hcl hdl
        subst hcl; subst hdl
        have kp : ∀ b o, s.heap.get? b = some o → h0.get? b = some o := fun b o q => by rw [← hh0]; exact Heap.get?_push_of_some _ q
        have hol' := kp _ _ hol
        have hS0 : h0.get? s.heap.objs.size = some { cls := .type "set", dict := none, data := .set #[] 0 (.fresh 0 0 (!byT w)) } := by rw [← hh0]; exact Heap.get?_push_size _ rfl
        have hsls := F.sub_list_set
        have hslf := F.sub_list_frozenset
        have hne : (Value.type "list" == Value.type "dict") = false := by decide
        have hl1 : h0.IsList l items.toArray := ⟨_, hol', rfl, nl, rfl⟩
        unfold Builtin.«set.__init__» noKeywords Builtin.Frozenset.updateFrom
        generalize hPI : pyIter = PI
        wp_walk
        subst hPI
        refine wpAny_pyIter_list hl1 ?_
        refine wpAny_bind (wpAny_runValue ?_)
        have hlS : l < s.heap.objs.size := Heap.lt_size hol
        have sz0 : h0.objs.size = s.heap.objs.size + 1 := by rw [← hh0, Heap.size_push]
        have d1 : s.heap.objs.size ≠ h0.objs.size := by omega
        have d2 : s.heap.objs.size ≠ l := Nat.ne_of_gt hlS
        have d3 : l ≠ h0.objs.size := Nat.ne_of_lt (by rw [sz0]; exact Nat.lt_succ_of_lt hlS)
        refine upd_loop (l := l) (S := s.heap.objs.size) (I := h0.objs.size) (items := items) (ns := ns) (by simp [hh]) hi d1 d2 d3 hb ns.length 0 _ (Nat.sub_zero _) (Nat.zero_le _) ⟨_, Heap.get?_push_size _ rfl, rfl, rfl⟩ (hl1.push _) ?_ ?_
        · refine (g0.keep fun o q => Heap.get?_push_of_some _ q).congr fun k => ?_
          rw [List.take_zero]
          rfl
        · intro h' tk kk g'
          show wpAny _ _ _ _ _ _
          refine wpAny_pure ?_
          show wpAny _ _ (ret Value.none) _ _ _
          refine wpAny_pure ⟨rfl, h', tk, rfl, g', fun b o hb e => ?_⟩
          exact kk b o (Nat.ne_of_lt hb) (Nat.ne_of_lt (by rw [sz0]; exact Nat.lt_succ_of_lt hb)) (Heap.get?_push_of_some _ (kp _ _ e))
      · cases r₂ with
        | error e => exact hr₂
        | ok fl₂ =>
          cases fl₂ with
          | ret r =>
            obtain ⟨rfl, h', tk, rfl, hS', hk'⟩ := hr₂
            repeat (any_goals (first | assumption | wp_step))
            exact h _ _ hS' hk'
          | _ => exact hr₂.elim
    | _ => exact hr.elim
end
end L2.Srt

set_option Elab.async false
set_option linter.all false
set_option maxRecDepth 100000
namespace L2.Srt
open PySem PyProof.Rows
/-! ### the order in which a set is walked -/
theorem erase_perm {α : Type} : ∀ (l : List α) (i : Nat) (h : i < l.length), (l[i] :: l.eraseIdx i).Perm l
  | a :: r, 0, _ => List.Perm.refl _
  | a :: r, i + 1, h => by
    have ih := erase_perm r i (by simpa using h)
    exact (List.Perm.swap _ _ _).trans (ih.cons a)
theorem pick_go {α : Type} (next : Nat → Nat) : ∀ (fuel k : Nat) (left : List α) (out : Array α), left.length = fuel → (pickOrder.go next fuel k left out).toList.Perm (out.toList ++ left)
  | 0, k, left, out, h => by
    have : left = [] := List.length_eq_zero_iff.mp h
    subst this
    unfold pickOrder.go
    rw [List.append_nil]
  | fuel + 1, k, left, out, h => by
    unfold pickOrder.go
    have hlt : next k % left.length < left.length := Nat.mod_lt _ (by omega)
    rw [List.getElem?_eq_getElem hlt]
    dsimp only
    refine (pick_go next fuel (k + 1) _ _ (by rw [List.length_eraseIdx_of_lt hlt]; omega)).trans ?_
    rw [Array.toList_push, List.append_assoc]
    refine List.Perm.append_left _ ?_
    exact (erase_perm _ _ hlt)
theorem pick_perm {α : Type} (next : Nat → Nat) (xs : Array α) : (pickOrder next xs).toList.Perm xs.toList := by
  have := pick_go next xs.size 0 xs.toList #[] Array.length_toList
  exact this
section
variable {prog : Program} {w : World} {A : Around} {E : Value → Shared → Prop} {s : Shared}
theorem choose_ok {M : Model} {src : Source} {n : Nat} {Q : Nat → Shared → Prop} (hn : n ≠ 0) (h : ∀ i d, i < n → Q i { s with drawn := d }) : wpAny M A (choose src n) Q E s := fun Γ p hΓ => by
  unfold choose
  rw [Sem.wp]
  exact ⟨hn, by rw [Sem.wp]; exact h _ _ (Nat.mod_lt _ (Nat.pos_of_ne_zero hn))⟩
theorem draw_ok {M : Model} {α : Type} : ∀ (n : Nat) (xs : List α) (s : Shared) (Q : List α → Shared → Prop), xs.length ≤ n → (∀ ys d, ys.Perm xs → Q ys { s with drawn := d }) → wpAny M A (drawOrder n xs) Q E s
  | 0, xs, s, Q, h, q => by
    have : xs = [] := List.length_eq_zero_iff.mp (by omega)
    subst this
    unfold drawOrder
    exact wpAny_pure (q [] s.drawn (List.Perm.refl _))
  | n + 1, [], s, Q, h, q => by
    unfold drawOrder
    exact wpAny_pure (q [] s.drawn (List.Perm.refl _))
  | n + 1, x :: xs, s, Q, h, q => by
    unfold drawOrder
    refine wpAny_bind (choose_ok (by simp) fun i d hi => ?_)
    rw [List.getElem?_eq_getElem hi]
    dsimp only
    refine wpAny_bind (draw_ok n _ _ _ (by rw [List.length_eraseIdx_of_lt hi]; simp at h ⊢; omega) fun ys d' hp => wpAny_pure ?_)
    exact q _ d' ((hp.cons _).trans (erase_perm _ _ hi))

namespace F
theorem slot_set_iterator_next : Slot "set_iterator" "__next__" "set_iterator.__next__" :=
  .of (owner := "set_iterator") (n := "__next__") (by rw [typeLookup_type, builtinLookup_eq_fast]; kernel_rfl) (by decide +kernel) (by decide +kernel) (by decide +kernel)
    (by first | exact .inl (by decide +kernel) | exact .inr (by decide +kernel)) (by rw [isSubtype_type]; kernel_rfl)
theorem entry_set_iterator_next : entryFor table "set_iterator.__next__" = some Builtin.«set_iterator.__next__» := entryFor_of_tree (by kernel_rfl)
theorem args_set_iterator_next (a : Value) : argsOk "set_iterator.__next__" ⟨[a], []⟩ := by unfold argsOk; kernel_rfl
theorem entry_set_iter : entryFor table "set.__iter__" = some Builtin.«frozenset.__iter__» :=
  entryFor_alias (id' := "frozenset.__iter__") (by kernel_rfl) (by first | rfl | decide +kernel | (unfold String.splitOn; simp +decide [String.splitOnAux])) (by decide +kernel) (by kernel_rfl)
end F
end
end L2.Srt

set_option Elab.async false
set_option linter.all false
set_option maxRecDepth 100000
namespace L2.Srt
open PySem PyProof.Rows
abbrev itObj (first : Value) (i : Nat) (S : Addr) (n ep : Nat) : Obj := { cls := .type "set_iterator", dict := none, data := .fields #[first, rawInt i, .ref S, rawInt n, rawInt ep], slots := #[] }
/-- a set's iterator at place i of the order vs -/
def Mode (w : World) (h : Heap) (it S : Addr) (es : Els) (ep : Nat) (t : SetTable) (vs : List Value) (i : Nat) (first : Value) : Prop :=
  (byT w = true ∧ (∃ sl : Int, first = rawInt sl) ∧ vs = (pickOrder (w.params.setOrder S ep) es).toList.map (·.2)) ∨
  (byT w = false ∧ (t.plain = true ∨ es.size ≤ 1) ∧ (∃ sl : Nat, first = rawInt sl ∧ SetTable.below t.place sl = i) ∧ vs = es.toList.map (·.2)) ∨
  (byT w = false ∧ ∃ T n0, ∃ ps : List Nat, first = .ref T ∧ h.get? T = some { cls := .type "tuple", data := .seq (ps.map fun (p : Nat) => rawInt p).toArray n0 } ∧ T ≠ it ∧ ps.length = es.size ∧ ∀ (j : Nat) p, ps[j]? = some p → ∃ e, es[p]? = some e ∧ vs[j]? = some e.2)
theorem below_next {xs : Array Nat} (h : Rise xs) {i : Nat} (hi : i < xs.size) : SetTable.below xs (xs[i] + 1) = i + 1 := by
  obtain ⟨a, b, c⟩ := below_ok h (xs[i] + 1)
  have h1 : i < SetTable.below xs (xs[i] + 1) := Classical.byContradiction fun n => by
    have := c i hi (Nat.not_lt.mp n)
    omega
  have h2 : ¬ i + 1 < SetTable.below xs (xs[i] + 1) := fun n => by
    have h3 : i + 1 < xs.size := by omega
    have := b (i + 1) h3 n
    have := h.lt (i := i) (j := i + 1) (by omega) h3
    omega
  omega
theorem below_zero {xs : Array Nat} (h : Rise xs) : SetTable.below xs 0 = 0 := by
  obtain ⟨a, b, c⟩ := below_ok h 0
  cases e : SetTable.below xs 0 with
  | zero => rfl
  | succ n =>
    rw [e] at a b
    have := b 0 (by omega) (Nat.succ_pos _)
    omega
theorem rise_small {xs : Array Nat} (h : xs.size ≤ 1) : Rise xs := by
  unfold Rise
  have hl : xs.toList.length ≤ 1 := by rw [Array.length_toList]; exact h
  match xs.toList, hl with
  | [], _ => exact .nil
  | [a], _ => exact List.pairwise_singleton _ _
theorem GT.riseAt {bt : Bool} {t : SetTable} (g : GT bt t) {n : Nat} (hf : t.fits n = true) (hp : t.plain = true ∨ n ≤ 1) : Rise t.place ∧ t.place.size = n := by
  have hs : t.place.size = n := by
    simp only [SetTable.fits, Bool.and_eq_true, beq_iff_eq] at hf
    exact hf.1
  refine ⟨?_, hs⟩
  rcases hp with hp | hp
  · exact g.rise hp
  · exact rise_small (by omega)
def SetIt (w : World) (h : Heap) (it S : Addr) (vs : List Value) (i : Nat) : Prop := ∃ o es ep t first, h.get? S = some o ∧ S ≠ it ∧ o.data = .set es ep t ∧ t.fits es.size = true ∧ GT (byT w) t ∧ vs.length = es.size ∧ h.get? it = some (itObj first i S es.size ep) ∧ Mode w h it S es ep t vs i first
section
variable {prog : Program} {w : World} {A : Around} {E : Value → Shared → Prop} {s : Shared}
theorem set_next_item {it S : Addr} {vs : List Value} {i : Nat} {x : Value} {Q : Option Value → Shared → Prop} (hI : SetIt w s.heap it S vs i) (hx : vs[i]? = some x)
    (hQ : ∀ h', SetIt w h' it S vs (i + 1) → Heap.SameBut it s.heap h' → Q (some x) { s with heap := h' }) : wpAny (model prog w) A (pyNext (.ref it)) Q E s := by
  obtain ⟨o, es, ep, t, first, ho, ne, hd, hf, gt, hl, hit, hm⟩ := hI
  have hT : s.TypeIs (.ref it) "set_iterator" := ⟨_, hit, rfl⟩
  have li : i < es.size := by rw [← hl]; exact (List.getElem?_eq_some_iff.mp hx).1
  unfold pyNext
  refine wpAny_bind (wpAny_attempt (wpAny_callSpecial?_slot (name := Str.ofString "__next__") hT F.slot_set_iterator_next (wpAny_call_entry F.slot_set_iterator_next hT F.entry_set_iterator_next ?_ (F.args_set_iterator_next _))))
  unfold Builtin.«set_iterator.__next__»
  refine wpAny_bind (wpAny_pure ?_)
  dsimp only
  refine wpAny_bind (wpAny_fieldsOf hit rfl ?_)
  dsimp only [List.toList_toArray, rawInt]
  refine wpAny_bind (wpAny_setEntries_of ho hd hf ?_)
  simp only [bne_self_eq_false, Bool.false_eq_true, if_false]
  rcases hm with ⟨bt, ⟨sl, rfl⟩, ev⟩ | ⟨bt, hp, ⟨sl, rfl, hb⟩, ev⟩ | ⟨bt, T, n0, ps, rfl, hTp, nT, hpl, hps⟩
  · -- by the text
    dsimp only [rawInt]
    refine wpAny_bind ?_
    unfold setNext
    refine wpAny_bind (wpAny_setState_of ho hd hf ?_)
    dsimp only
    unfold setsByText
    refine wpAny_bind (wpAny_bind (wpAny_askSetting (wpAny_pure ?_)))
    have bt' : (model prog w).w.params.followText "set-order" = true := bt
    simp only [bt', if_true, Int.toNat_natCast, bne_self_eq_false, Bool.false_eq_true, if_false]
    unfold setWalk
    refine wpAny_bind (wpAny_bind (wpAny_setState_of ho hd hf ?_))
    dsimp only
    unfold setsByText
    refine wpAny_bind (wpAny_bind (wpAny_askSetting (wpAny_pure ?_)))
    simp only [bt', if_true]
    refine wpAny_bind (wpAny_askSetting (wpAny_pure (wpAny_pure ?_)))
    have eo : (pickOrder ((model prog w).w.params.setOrder S ep) es)[i]?.map (fun e => e.2) = some x := by
      rw [← hx, ev, List.getElem?_map, Array.getElem?_toList]
      rfl
    obtain ⟨e, he, ex⟩ := Option.map_eq_some_iff.mp eo
    have he' : (pickOrder ((model prog w).w.params.setOrder S ep) es)[((i : Nat) : Int).toNat]? = some e := he
    simp only [he, Option.map_some]
    refine wpAny_bind (wpAny_setField_rec hit (by simp) fun h1 hit1 sb1 => ?_)
    refine wpAny_bind (wpAny_setField_rec hit1 (by simp) fun h2 hit2 sb2 => ?_)
    refine wpAny_pure ⟨_, rfl, wpAny_pure ?_⟩
    rw [ex]
    refine hQ h2 ⟨o, es, ep, t, _, ?_, ne, hd, hf, gt, hl, hit2, .inl ⟨bt, ⟨_, rfl⟩, ev⟩⟩ (sb1.trans sb2)
    exact (sb2.2 S ne).trans ((sb1.2 S ne).trans ho)
  · dsimp only [rawInt]
    refine wpAny_bind ?_
    unfold setNext
    refine wpAny_bind (wpAny_setState_of ho hd hf ?_)
    dsimp only
    unfold setsByText
    refine wpAny_bind (wpAny_bind (wpAny_askSetting (wpAny_pure ?_)))
    have bt' : (model prog w).w.params.followText "set-order" = false := bt
    simp only [bt', Bool.false_eq_true, if_false]
    obtain ⟨rs, ps⟩ := gt.riseAt hf hp
    have hnd : ¬ (!t.plain && decide (es.size > 1)) = true := fun z => by
      rw [Bool.and_eq_true, decide_eq_true_eq] at z
      rcases hp with q | q
      · rw [q] at z; exact absurd z.1 (by decide)
      · omega
    split
    · rename_i hdr
      exact absurd hdr hnd
    · refine wpAny_bind (wpAny_of_eq (a := ()) (by show (if (!t.led && !es.isEmpty) = true then _ else _) = _; rw [gt.led bt]; rfl) ?_)
      refine wpAny_pure ?_
      have lp : i < t.place.size := by omega
      have e1 : SetTable.below t.place ((sl : Nat) : Int).toNat = i := hb
      simp only [e1, Array.getElem?_eq_getElem li, Array.getElem?_eq_getElem lp]
      refine wpAny_bind (wpAny_setField_rec hit (by simp) fun h1 hit1 sb1 => ?_)
      refine wpAny_bind (wpAny_setField_rec hit1 (by simp) fun h2 hit2 sb2 => ?_)
      refine wpAny_pure ⟨_, rfl, wpAny_pure ?_⟩
      have ex : es[i].2 = x := by
        rw [ev, List.getElem?_map, Array.getElem?_toList, Array.getElem?_eq_getElem li] at hx
        exact Option.some.inj hx
      rw [ex]
      refine hQ h2 ⟨o, es, ep, t, _, ?_, ne, hd, hf, gt, hl, hit2, .inr (.inl ⟨bt, hp, ⟨t.place[i] + 1, rfl, below_next rs lp⟩, ev⟩)⟩ (sb1.trans sb2)
      exact (sb2.2 S ne).trans ((sb1.2 S ne).trans ho)
  · dsimp only
    refine wpAny_bind (wpAny_seqItems hTp rfl ?_)
    have lp : i < ps.length := by omega
    obtain ⟨e, he, ex⟩ := hps i ps[i] (List.getElem?_eq_getElem lp)
    have ep1 : (List.map (fun (p : Nat) => rawInt p) ps).toArray[((i : Nat) : Int).toNat]? = some (rawInt (ps[i] : Nat)) := by
      show (List.map (fun (p : Nat) => rawInt p) ps).toArray[i]? = _
      rw [List.getElem?_toArray, List.getElem?_map, List.getElem?_eq_getElem lp]
      rfl
    dsimp only
    rw [ep1]
    dsimp only [rawInt]
    unfold setNextDrawn
    refine wpAny_bind (wpAny_bind (wpAny_setState_of ho hd hf ?_))
    dsimp only
    simp only [Int.toNat_natCast, bne_self_eq_false, Bool.false_eq_true, if_false, he]
    refine wpAny_pure ?_
    refine wpAny_bind (wpAny_setField_rec hit (by simp) fun h1 hit1 sb1 => ?_)
    refine wpAny_pure ⟨_, rfl, wpAny_pure ?_⟩
    rw [hx] at ex
    cases ex
    refine hQ h1 ⟨o, es, ep, t, _, (sb1.2 S ne).trans ho, ne, hd, hf, gt, hl, hit1, .inr (.inr ⟨bt, T, n0, ps, rfl, (sb1.2 T nT).trans hTp, nT, hpl, hps⟩)⟩ sb1
theorem set_next_end {it S : Addr} {vs : List Value} {Q : Option Value → Shared → Prop} (hh : A.handled = none) (hI : SetIt w s.heap it S vs vs.length)
    (hQ : ∀ h', Heap.ExtBut it s.heap h' → Q none { s with heap := h' }) : wpAny (model prog w) A (pyNext (.ref it)) Q E s := by
  obtain ⟨o, es, ep, t, first, ho, ne, hd, hf, gt, hl, hit, hm⟩ := hI
  have hT : s.TypeIs (.ref it) "set_iterator" := ⟨_, hit, rfl⟩
  unfold pyNext
  refine wpAny_bind (wpAny_attempt (wpAny_callSpecial?_slot (name := Str.ofString "__next__") hT F.slot_set_iterator_next (wpAny_call_entry F.slot_set_iterator_next hT F.entry_set_iterator_next ?_ (F.args_set_iterator_next _))))
  unfold Builtin.«set_iterator.__next__»
  refine wpAny_bind (wpAny_pure ?_)
  dsimp only
  refine wpAny_bind (wpAny_fieldsOf hit rfl ?_)
  dsimp only [List.toList_toArray, rawInt]
  refine wpAny_bind (wpAny_setEntries_of ho hd hf ?_)
  simp only [bne_self_eq_false, Bool.false_eq_true, if_false]
  have fin : ∀ (h1 : Heap), Heap.SameBut it s.heap h1 → wpAny (model prog w) A.in1 (newExc (Value.type "StopIteration") [] >>= fun e => (raiseNew e : Sem Fin)) (fun fin s' => ∃ v, fin = Fin.done (Flow.ret v) ∧ wpAny (model prog w) A (pure (some v)) Q E s')
      (fun e s' => wpAny (model prog w) A (do let b ← isInstance e (Value.type "StopIteration"); if b = true then pure none else throw e) Q E s') { s with heap := h1 } := fun h1 sb1 => by
    refine wpAny_bind ?_
    simp only [newExc, newTuple]
    refine wpAny_bind (wpAny_newObj_type ?_ (by size_fits))
    refine wpAny_bind (m := firstArgMember _ _) (wpAny_of_eq (a := Value.none) (by first | rfl | (simp only [firstArgMember]; rfl)) ?_)
    refine wpAny_newObj_type ?_ (by size_fits)
    simp only [raiseNew]
    refine wpAny_bind (wpAny_handled ?_)
    rw [show A.in1.handled = none from hh]
    refine wpAny_bind (wpAny_pure (wpAny_throw ?_))
    refine wpAny_bind (wpAny_isInstance (T := "StopIteration") (b := true) ⟨_, Heap.get?_push_size _ rfl, rfl⟩ isSubtype_stop ?_)
    exact wpAny_pure (hQ _ ((sb1.extBut.push _).push _))
  rcases hm with ⟨bt, ⟨sl, rfl⟩, ev⟩ | ⟨bt, hp, ⟨sl, rfl, hb⟩, ev⟩ | ⟨bt, T, n0, ps, rfl, hTp, nT, hpl, hps⟩
  · dsimp only [rawInt]
    refine wpAny_bind ?_
    unfold setNext
    refine wpAny_bind (wpAny_setState_of ho hd hf ?_)
    dsimp only
    unfold setsByText
    refine wpAny_bind (wpAny_bind (wpAny_askSetting (wpAny_pure ?_)))
    have bt' : (model prog w).w.params.followText "set-order" = true := bt
    simp only [bt', if_true, Int.toNat_natCast, bne_self_eq_false, Bool.false_eq_true, if_false]
    unfold setWalk
    refine wpAny_bind (wpAny_bind (wpAny_setState_of ho hd hf ?_))
    dsimp only
    unfold setsByText
    refine wpAny_bind (wpAny_bind (wpAny_askSetting (wpAny_pure ?_)))
    simp only [bt', if_true]
    refine wpAny_bind (wpAny_askSetting (wpAny_pure (wpAny_pure ?_)))
    have en : (pickOrder ((model prog w).w.params.setOrder S ep) es)[vs.length]? = none := by
      have hp := (pick_perm ((model prog w).w.params.setOrder S ep) es).length_eq
      rw [Array.length_toList, Array.length_toList] at hp
      exact Array.getElem?_eq_none (by rw [hp, hl]; exact Nat.le_refl _)
    simp only [en, Option.map_none]
    refine wpAny_bind (wpAny_setField_rec hit (by simp) fun h1 hit1 sb1 => ?_)
    exact fin h1 sb1
  · dsimp only [rawInt]
    refine wpAny_bind ?_
    unfold setNext
    refine wpAny_bind (wpAny_setState_of ho hd hf ?_)
    dsimp only
    unfold setsByText
    refine wpAny_bind (wpAny_bind (wpAny_askSetting (wpAny_pure ?_)))
    have bt' : (model prog w).w.params.followText "set-order" = false := bt
    simp only [bt', Bool.false_eq_true, if_false]
    obtain ⟨rs, ps⟩ := gt.riseAt hf hp
    have hnd : ¬ (!t.plain && decide (es.size > 1)) = true := fun z => by
      rw [Bool.and_eq_true, decide_eq_true_eq] at z
      rcases hp with q | q
      · rw [q] at z; exact absurd z.1 (by decide)
      · omega
    split
    · rename_i hdr
      exact absurd hdr hnd
    · refine wpAny_bind (wpAny_of_eq (a := ()) (by show (if (!t.led && !es.isEmpty) = true then _ else _) = _; rw [gt.led bt]; rfl) ?_)
      refine wpAny_pure ?_
      have e1 : SetTable.below t.place ((sl : Nat) : Int).toNat = vs.length := hb
      have en : es[vs.length]? = none := Array.getElem?_eq_none (by rw [hl]; exact Nat.le_refl _)
      simp only [e1, en]
      refine wpAny_bind (wpAny_setField_rec hit (by simp) fun h1 hit1 sb1 => ?_)
      exact fin h1 sb1
  · dsimp only
    refine wpAny_bind (wpAny_seqItems hTp rfl ?_)
    have ep1 : (List.map (fun (p : Nat) => rawInt p) ps).toArray[((vs.length : Nat) : Int).toNat]? = none := by
      show (List.map (fun (p : Nat) => rawInt p) ps).toArray[vs.length]? = _
      exact Array.getElem?_eq_none (by simp; omega)
    dsimp only
    rw [ep1]
    dsimp only
    refine wpAny_bind (wpAny_setField_rec hit (by simp) fun h1 hit1 sb1 => ?_)
    refine wpAny_bind (wpAny_setField_rec hit1 (by simp) fun h2 hit2 sb2 => ?_)
    exact fin h2 (sb1.trans sb2)
end
end L2.Srt

set_option Elab.async false
set_option linter.all false
set_option maxRecDepth 100000
namespace L2.Srt
open PySem PyProof.Rows
namespace F
theorem slot_set_iter : Slot "set" "__iter__" "set.__iter__" :=
  .of (owner := "set") (n := "__iter__") (by rw [typeLookup_type, builtinLookup_eq_fast]; kernel_rfl) (by decide +kernel) (by decide +kernel) (by decide +kernel)
    (by first | exact .inl (by decide +kernel) | exact .inr (by decide +kernel)) (by rw [isSubtype_type]; kernel_rfl)
theorem args_set_iter (a : Value) : argsOk "set.__iter__" ⟨[a], []⟩ := by unfold argsOk; kernel_rfl
theorem look_set_len : typeLookup (.type "set") "__len__" = pure (some (.builtin "set.__len__")) := by rw [typeLookup_type, builtinLookup_eq_fast]; kernel_rfl
theorem split_set_len : splitId "set.__len__" = some ("set", "__len__") := by first | rfl | decide +kernel | (unfold splitId; simp +decide)
theorem plain_list_iadd : plainId "list.__iadd__" = true := by decide +kernel
theorem sub_set_set : isSubtype (.type "set") (.type "set") = pure true := by rw [isSubtype_type]; kernel_rfl
end F
section
variable {prog : Program} {w : World} {A : Around} {E : Value → Shared → Prop} {s : Shared}
theorem setDrawn_ok {S : Addr} {o : Obj} {es : Els} {ep : Nat} {t : SetTable} {Q : Bool → Shared → Prop} (ho : s.heap.get? S = some o) (hd : o.data = .set es ep t) (hf : t.fits es.size = true)
    (h : Q (!byT w && (!t.plain && decide (es.size > 1))) s) : wpAny (model prog w) A (setDrawn S) Q E s := by
  unfold setDrawn
  refine wpAny_bind (wpAny_setState_of ho hd hf ?_)
  dsimp only
  unfold setsByText
  exact wpAny_bind (wpAny_bind (wpAny_askSetting (wpAny_pure (wpAny_pure h))))
theorem setEpoch_ok {S : Addr} {o : Obj} {es : Els} {ep : Nat} {t : SetTable} {Q : Nat → Shared → Prop} (ho : s.heap.get? S = some o) (hd : o.data = .set es ep t) (hf : t.fits es.size = true)
    (h : Q ep s) : wpAny (model prog w) A (setEpoch S) Q E s := by
  unfold setEpoch
  exact wpAny_bind (wpAny_setState_of ho hd hf (wpAny_pure h))
/-- what a walk over the set meets -/
structure Met (M : Int → Bool) (vs : List Value) : Prop where
  allI : ∀ v ∈ vs, ∃ n t, v = Value.int n t
  nd : (vs.map numOf).Nodup
  mem : ∀ k, M k = true ↔ k ∈ vs.map numOf
theorem met_of {es : Els} {vs : List Value} {M : Int → Bool} (hel : ElemsOf (intKind prog w) es.toList) (nd : (kOf es).Nodup) (hm : ∀ k, M k = true ↔ k ∈ kOf es) (p : vs.Perm (es.toList.map (·.2))) : Met M vs := by
  have q : (vs.map numOf).Perm (kOf es) := by
    have := p.map numOf
    rw [List.map_map] at this
    exact this
  refine ⟨fun v hv => ?_, q.nodup_iff.mpr nd, fun k => (hm k).trans q.mem_iff.symm⟩
  have := p.mem_iff.mp hv
  rw [List.mem_map] at this
  obtain ⟨e, he, rfl⟩ := this
  exact el_int hel he
theorem pyIter_set {S : Addr} {M : Int → Bool} {Q : Value → Shared → Prop} (hS : SetG prog w s.heap S M)
    (hQ : ∀ h' d it vs, SetIt w h' it S vs 0 → s.heap.get? it = none → (∀ b o, s.heap.get? b = some o → h'.get? b = some o) → Met M vs → vs.length < scanBound → Q (.ref it) { s with heap := h', drawn := d }) :
    wpAny (model prog w) A (pyIter (.ref S)) Q E s := by
  obtain ⟨o, es, ep, t, ho, hx, hd, hel, nd, hm, hb, hf, gt⟩ := hS
  have hT : s.TypeIs (.ref S) "set" := ⟨o, ho, hx.1⟩
  have lS : S < s.heap.objs.size := Heap.lt_size ho
  refine wpAny_pyIter_slot hT F.slot_set_iter (wpAny_call_entry F.slot_set_iter hT F.entry_set_iter ?_ (F.args_set_iter _))
  unfold Builtin.«frozenset.__iter__»
  refine wpAny_bind (m := Builtin.Frozenset.slot0 "__iter__" ⟨[.ref S], []⟩) (wpAny_pure ?_)
  unfold Builtin.Frozenset.sizeOf
  refine wpAny_bind (wpAny_bind (wpAny_setEntries_of ho hd hf (wpAny_pure ?_)))
  refine wpAny_bind (setDrawn_ok ho hd hf ?_)
  have last : ∀ (h1 : Heap) (d : Drawn) (first : Value) (vs : List Value), h1.get? S = some o → s.heap.objs.size ≤ h1.objs.size → (∀ b o, s.heap.get? b = some o → h1.get? b = some o) → vs.length = es.size → Met M vs → (∀ o', Mode w (h1.push o') h1.objs.size S es ep t vs 0 first) →
      wpAny (model prog w) A.in1 (do let n ← setEpoch S; let v ← newFields "set_iterator" [first, rawInt 0, .ref S, rawInt es.size, rawInt n]; ret v) (fun fin s' => ∃ v, fin = Fin.done (Flow.ret v) ∧ ∃ T' r, s'.TypeIs v T' ∧ typeLookup (.type T') "__next__" = pure (some r) ∧ Q v s') E { s with heap := h1, drawn := d } := by
    intro h1 d first vs hS1 sz kp hl mt hmode
    refine wpAny_bind (setEpoch_ok hS1 hd hf ?_)
    refine wpAny_bind (wpAny_newObj_type (wpAny_pure ⟨_, rfl, "set_iterator", _, ⟨_, Heap.get?_push_size _ rfl, rfl⟩, F.slot_set_iterator_next.lookup, ?_⟩))
    refine hQ _ d h1.objs.size vs ⟨o, es, ep, t, first, Heap.get?_push_of_some _ hS1, Nat.ne_of_lt (Heap.lt_size hS1), hd, hf, gt, hl, Heap.get?_push_size _ rfl, hmode _⟩ (Heap.get?_none_of_le sz) (fun b o e => Heap.get?_push_of_some _ (kp b o e)) mt (by rw [hl]; exact hb)
  by_cases hdr : (!byT w && (!t.plain && decide (es.size > 1))) = true
  · rw [if_pos hdr]
    have hdr' := hdr
    rw [Bool.and_eq_true, Bool.not_eq_true'] at hdr'
    refine wpAny_bind (draw_ok es.size (List.range es.size) _ _ (by rw [List.length_range]; exact Nat.le_refl _) fun ys d hp => wpAny_bind (wpAny_newTuple ?_ (hsz := by rw [List.length_map, hp.length_eq, List.length_range, sizeLine_eq]; have : es.size < 4096 := hb; omega)))
    have hyl : ys.length = es.size := by rw [hp.length_eq, List.length_range]
    have hlt : ∀ p ∈ ys, p < es.size := fun p hp' => List.mem_range.mp (hp.mem_iff.mp hp')
    have e1 : (List.range es.size).map (fun p => (es[p]?.map (·.2)).getD .none) = es.toList.map (·.2) := by
      refine List.ext_getElem? fun i => ?_
      rw [List.getElem?_map, List.getElem?_map]
      by_cases hi : i < es.size
      · rw [List.getElem?_range hi]
        simp [hi]
      · rw [List.getElem?_eq_none (by simpa using hi), List.getElem?_eq_none (by simpa using hi)]
        rfl
    refine last _ d (.ref s.heap.objs.size) (ys.map fun p => (es[p]?.map (·.2)).getD .none) (Heap.get?_push_of_some _ ho) (by rw [Heap.size_push]; exact Nat.le_succ _) (fun b o e => Heap.get?_push_of_some _ e) (by rw [List.length_map, hyl]) (met_of hel nd hm (by rw [← e1]; exact hp.map _)) fun o' => ?_
    refine .inr (.inr ⟨hdr'.1, s.heap.objs.size, _, ys, rfl, Heap.get?_push_of_some _ (Heap.get?_push_size _ rfl), by rw [Heap.size_push]; exact Nat.ne_of_lt (Nat.lt_succ_self _), hyl, fun j p hj => ?_⟩)
    have lp := hlt p (List.mem_of_getElem? hj)
    exact ⟨es[p], Array.getElem?_eq_getElem lp, by rw [List.getElem?_map, hj]; simp [lp]⟩
  · rw [if_neg hdr]
    refine wpAny_bind (wpAny_pure ?_)
    by_cases bt : byT w = true
    · refine last s.heap s.drawn (rawInt 0) ((pickOrder (w.params.setOrder S ep) es).toList.map (·.2)) ho (Nat.le_refl _) (fun b o e => e) ?_ (met_of hel nd hm ((pick_perm _ _).map _)) fun o' => .inl ⟨bt, ⟨0, rfl⟩, rfl⟩
      rw [List.length_map, (pick_perm _ _).length_eq, Array.length_toList]
    · have bt' : byT w = false := Bool.eq_false_iff.mpr bt
      have hp : t.plain = true ∨ es.size ≤ 1 := by
        rw [bt', Bool.not_false, Bool.true_and, Bool.and_eq_true, Bool.not_eq_true', decide_eq_true_eq] at hdr
        cases e : t.plain with
        | true => exact .inl rfl
        | false => exact .inr (Nat.not_lt.mp fun z => hdr ⟨e, z⟩)
      obtain ⟨rs, ps⟩ := gt.riseAt hf hp
      refine last s.heap s.drawn (rawInt 0) (es.toList.map (·.2)) ho (Nat.le_refl _) (fun b o e => e) (by rw [List.length_map, Array.length_toList]) (met_of hel nd hm (List.Perm.refl _)) fun o' => .inr (.inl ⟨bt', hp, ⟨0, rfl, below_zero rs⟩, rfl⟩)
/-! ### a set walked into a new list -/
theorem SetIt.other {h h' : Heap} {it S L : Addr} {vs : List Value} {i : Nat} {xs : Array Value} {c : Nat} (I : SetIt w h it S vs i) (hL : h.get? L = some (seqObj "list" xs c)) (k : ∀ b o, b ≠ L → h.get? b = some o → h'.get? b = some o) : SetIt w h' it S vs i ∧ it ≠ L := by
  obtain ⟨o, es, ep, t, first, ho, ne, hd, hf, gt, hl, hit, hm⟩ := I
  have n1 : S ≠ L := fun e => by
    rw [e, hL] at ho
    rw [← Option.some.inj ho] at hd
    cases hd
  have n2 : it ≠ L := fun e => by
    rw [e, hL] at hit
    have q := congrArg Obj.cls (Option.some.inj hit)
    injection q with q
    exact absurd q (by decide)
  refine ⟨⟨o, es, ep, t, first, k _ _ n1 ho, ne, hd, hf, gt, hl, k _ _ n2 hit, ?_⟩, n2⟩
  rcases hm with hm | hm | ⟨bt, T, n0, ps, e1, hT, nT, r⟩
  · exact .inl hm
  · exact .inr (.inl hm)
  · have n3 : T ≠ L := fun e => by
      rw [e, hL] at hT
      have q := congrArg Obj.cls (Option.some.inj hT)
      injection q with q
      exact absurd q (by decide)
    exact .inr (.inr ⟨bt, T, n0, ps, e1, k _ _ n3 hT, nT, r⟩)
theorem loop_set {h0 : Heap} {it S L : Addr} {vs : List Value} {rv : Value} {R : Result → Shared → Prop} (hh : A.in1.handled = none) (hz : vs.length ≤ sizeLine) (fit : h0.get? it = none) (fL : h0.get? L = none)
    (fin : ∀ h' c, h'.get? L = some (seqObj "list" vs.toArray c) → (∀ b o, h0.get? b = some o → h'.get? b = some o) → R (.ok (.ret rv)) { s with heap := h' }) :
    ∀ (m i : Nat) (h : Heap) (c : Nat), vs.length - i = m → i ≤ vs.length → SetIt w h it S vs i → h.get? L = some (seqObj "list" (vs.take i).toArray c) → (∀ b o, h0.get? b = some o → h.get? b = some o) →
      codeAny (model prog w) A (.builtin "list.extend.loop" ⟨[.ref L, .ref it, rv], []⟩) R { s with heap := h } := by
  intro m
  induction m with
  | zero =>
    intro i h c hm hi I hL kp
    have ei : i = vs.length := by omega
    subst ei
    refine codeAny_builtin F.entry_extend_loop ?_
    rw [Around.under_plainId F.plain_extend_loop _]
    show wpAny _ A.in1 (pyNext (.ref it) >>= _) _ _ _
    have nL := (I.other hL fun b o _ e => e).2
    rw [List.take_length] at hL
    refine wpAny_bind (set_next_end (s := { s with heap := h }) hh I fun h2 eb => wpAny_pure (fin h2 c (eb L _ nL.symm hL) fun b o e => eb b o ?_ (kp b o e)))
    rintro rfl
    rw [fit] at e
    cases e
  | succ m ih =>
    intro i h c hm hi I hL kp
    have hlt : i < vs.length := by omega
    refine codeAny_builtin F.entry_extend_loop ?_
    rw [Around.under_plainId F.plain_extend_loop _]
    show wpAny _ A.in1 (pyNext (.ref it) >>= _) _ _ _
    have nL := (I.other hL fun b o _ e => e).2
    refine wpAny_bind (set_next_item (s := { s with heap := h }) I (List.getElem?_eq_getElem hlt) fun h1 I1 sb => ?_)
    have hL1 : h1.get? L = some (seqObj "list" (vs.take i).toArray c) := (sb.2 L nL.symm).trans hL
    show wpAny _ A.in1 (updateSeq L (·.push vs[i]) >>= _) _ _ _
    have sz : (vs.take i).toArray.size = i := by rw [List.size_toArray, List.length_take]; omega
    refine wpAny_bind (wpAny_updateSeq (s := { s with heap := h1 }) hL1 rfl (wpAny_pure ⟨plainId_quiet F.plain_extend_loop _, ?_⟩) (by rw [sz]; omega) (by show ((vs.take i).toArray.push vs[i]).size ≤ sizeLine + 1; rw [Array.size_push, sz]; omega))
    have oth : ∀ b o, b ≠ L → h1.get? b = some o → (h1.update L (Obj.mapSeq (·.push vs[i]))).get? b = some o := fun b o n e => (Heap.get?_update_other _ _ (Ne.symm n)).trans e
    have e2 : (vs.take i).toArray.push vs[i] = (vs.take (i + 1)).toArray := by
      rw [List.take_succ, List.getElem?_eq_getElem hlt]
      simp
    obtain ⟨c', up⟩ : ∃ c', (h1.update L (Obj.mapSeq (·.push vs[i]))).get? L = some (seqObj "list" (vs.take (i + 1)).toArray c') := ⟨_, by rw [← e2]; exact get?_update_seq hL1 _⟩
    refine ih (i + 1) _ c' (by omega) hlt (I1.other hL1 oth).1 up fun b o e => ?_
    have nb1 : b ≠ it := by rintro rfl; rw [fit] at e; cases e
    have nb2 : b ≠ L := by rintro rfl; rw [fL] at e; cases e
    exact oth b o nb2 ((sb.2 b nb1).trans (kp b o e))
theorem collect_set {S : Addr} {M : Int → Bool} {Q : List Value → Shared → Prop} (hh : A.handled = none) (hS : SetG prog w s.heap S M)
    (h : ∀ vs h' d, (∀ b o, s.heap.get? b = some o → h'.get? b = some o) → s.heap.objs.size ≤ h'.objs.size → Met M vs → vs.length < scanBound → Q vs { s with heap := h', drawn := d }) :
    wpAny (model prog w) A (collect (.ref S)) Q E s := by
  have lS : S < s.heap.objs.size := by obtain ⟨o, es, ep, t, ho, _⟩ := hS; exact Heap.lt_size ho
  unfold collect
  refine wpAny_bind (wpAny_runValue (codeAny_builtin entry_proto_collect' ?_))
  show wpAny _ _ (newList [] >>= fun l => again (.builtin "list.__iadd__" ⟨[l, .ref S], []⟩)) _ _ s
  refine wpAny_bind (wpAny_newList (wpAny_pure ⟨Code.quiet_builtin _ (by decide +kernel), codeAny_builtin entry_list_iadd' ?_⟩))
  generalize eL : s.heap.objs.size = L at lS
  have kp0 : ∀ b o, s.heap.get? b = some o → (s.heap.push (seqObj "list" #[] 0)).get? b = some o := fun b o e => Heap.get?_push_of_some _ e
  have hL0 : (s.heap.push (seqObj "list" #[] 0)).get? L = some (seqObj "list" #[] 0) := by rw [← eL]; exact Heap.get?_push_size _ rfl
  have fL : s.heap.get? L = none := Heap.get?_none_of_le (Nat.le_of_eq eL)
  show wpAny _ _ (Builtin.List.listExtendWith (.ref L) (.ref S) (.ref L)) _ _ { s with heap := s.heap.push (seqObj "list" #[] 0) }
  have hS0 : SetG prog w (s.heap.push (seqObj "list" #[] 0)) S M := hS.keep fun o e => kp0 _ _ e
  generalize s.heap.push (seqObj "list" #[] 0) = h0 at kp0 hL0 hS0
  have hT : ({ s with heap := h0 } : Shared).TypeIs (.ref S) "set" := by obtain ⟨o, es, ep, t, ho, hx, _⟩ := hS0; exact ⟨o, ho, hx.1⟩
  unfold Builtin.List.listExtendWith
  refine wpAny_bind (wpAny_typeOf hT ?_)
  have b1 : Builtin.List.listSameRef (.ref L) (.ref S) = false := by
    show (L == S) = false
    exact beq_eq_false_iff_ne.mpr (Nat.ne_of_gt lS)
  have b2 : (Value.type "set" == Value.type "list") = false := by decide
  have b3 : (Value.type "set" == Value.type "tuple") = false := by decide
  simp only [b1, b2, b3, Bool.or_false, Bool.false_eq_true, if_false]
  refine wpAny_bind (pyIter_set (s := { s with heap := h0 }) hS0 fun h1 d it vs I fit kp mt hl => ?_)
  dsimp only at fit kp
  have hT1 : ({ s with heap := h1, drawn := d } : Shared).TypeIs (.ref S) "set" := by obtain ⟨o, ho, hx⟩ := hT; exact ⟨o, kp _ _ ho, hx⟩
  refine wpAny_bind (wpAny_holding ?_)
  unfold Builtin.List.listLengthHint
  refine wpAny_bind (wpAny_specialOf hT1 F.look_set_len ?_)
  simp -zeta only [F.split_set_len]
  refine wpAny_bind (wpAny_isInstance (T := "set") (b := true) hT1 F.sub_set_set ?_)
  rw [if_neg (by decide)]
  split
  case isFalse hs => exact absurd (by decide +kernel) hs
  refine wpAny_bind (wpAny_typeOf hT1 (wpAny_pure ?_))
  split
  case isFalse hs => exact absurd (by decide +kernel) hs
  rw [Around.under_plainId F.plain_list_iadd _]
  refine wpAny_bind (wpAny_rule (wpAny_bind ?_))
  have hL1 : h1.get? L = some (seqObj "list" #[] 0) := kp _ _ hL0
  show wpAny _ _ (updateSeq L (·.push .none) >>= fun _ => updateSeq L (·.pop)) _ _ _
  refine wpAny_bind (wpAny_updateSeq (s := { s with heap := h1, drawn := d }) hL1 rfl ?_)
  have g3 := Heap.get?_update_self (Obj.mapSeq (·.push Value.none)) hL1 rfl
  refine wpAny_updateSeq (hz := by seq_fits) g3 rfl ?_
  have g4 := Heap.get?_update_self (Obj.mapSeq (·.pop)) g3 rfl
  have o4 : ∀ c o, c ≠ L → h1.get? c = some o → ((h1.update L (Obj.mapSeq (·.push Value.none))).update L (Obj.mapSeq (·.pop))).get? c = some o := fun c o n e => (Heap.get?_update_other _ _ (Ne.symm n)).trans ((Heap.get?_update_other _ _ (Ne.symm n)).trans e)
  generalize (h1.update L (Obj.mapSeq (·.push Value.none))).update L (Obj.mapSeq (·.pop)) = h4 at g4 o4 ⊢
  obtain ⟨c4, g4'⟩ : ∃ c, h4.get? L = some (seqObj "list" #[] c) := ⟨_, g4⟩
  have neL : ∀ b o, s.heap.get? b = some o → b ≠ L := fun b o e z => by rw [z, fL] at e; cases e
  have fit0 : s.heap.get? it = none := by
    cases e : s.heap.get? it with
    | none => rfl
    | some o => rw [kp0 _ _ e] at fit; cases fit
  have szl : vs.length ≤ sizeLine := by rw [sizeLine_eq]; have : vs.length < 4096 := hl; omega
  refine wpAny_pure ⟨plainId_quiet F.plain_extend_loop _, loop_set (s := { s with drawn := d }) (h0 := s.heap) (it := it) (S := S) (L := L) (vs := vs) (rv := .ref L) (show A.in1.handled = none from hh) szl fit0 fL (fun h5 c5 g5 kp5 => ?_) vs.length 0 h4 c4 (Nat.sub_zero _) (Nat.zero_le _) (I.other hL1 o4).1 g4' fun b o e => o4 b o (neL b o e) (kp b o (kp0 b o e))⟩
  show wpAny (model prog w) A (load L >>= _) Q E { s with heap := h5, drawn := d }
  refine wpAny_bind (wpAny_load g5 ?_)
  show wpAny _ _ (pure vs.toArray.toList) Q E _
  exact wpAny_pure (h vs h5 d kp5 (by rw [eL]; exact Nat.le_of_lt (Heap.lt_size g5)) mt hl)
end
end L2.Srt

set_option Elab.async false
set_option linter.all false
set_option maxRecDepth 100000
namespace L2.Srt
open PySem PyProof.Rows
section
variable {prog : Program} {w : World} {A : Around} {E : Value → Shared → Prop} {s : Shared}
theorem nodup_pairs {vs : List Value} {ns : List Int} (hI : IntsAre vs ns) (nd : ns.Nodup) : ((pairsOf vs).toList.map kn).Nodup := by
  have e : (pairsOf vs).toList.map kn = ns := by
    rw [pairsOf_toList]
    have : (vs.zip vs).map kn = ((vs.zip vs).map Prod.fst).map numOf := by rw [List.map_map]; rfl
    rw [this, List.map_fst_zip (Nat.le_refl _)]
    exact hI.nums
  rw [e]
  exact nd
/-- a list of up to 127 ints that differ, sorted where it stands -/
theorem sort_at {a : Addr} {vs : List Value} {ns : List Int} {n : Nat} {P : Fin → Shared → Prop} (ho : s.heap.get? a = some (seqObj "list" vs.toArray n)) (hI : IntsAre vs ns) (nd : ns.Nodup) (hl : vs.length < 128)
    (h : ∀ (out : Array Value) (ns' : List Int), IntsAre out.toList ns' → ns'.Perm ns → ns'.Pairwise (· ≤ ·) → P (.done (.ret .none)) { s with heap := sortedHeap s.heap a vs out }) :
    wpAny (model prog w) A (Builtin.«list.sort» ⟨[.ref a], []⟩) P E s := by
  by_cases h64 : vs.length < 64
  · exact list_sort_tree ho hI h64 h
  have la : a < s.heap.objs.size := Heap.lt_size ho
  have hz : vs.toArray.size = vs.length := List.size_toArray
  rw [list_sort_plain]
  refine wpAny_bind (listItems_at ho rfl (wpAny_bind (listUpdate_at ho rfl ?_)))
  obtain ⟨c1, g1⟩ : ∃ c1, (s.heap.update a (Obj.mapSeq fun _ => #[])).get? a = some (seqObj "list" #[] c1) := ⟨_, get?_update_seq ho (fun _ => #[])⟩
  refine wpAny_bind (seqEpoch_at g1 rfl (wpAny_bind (wpAny_newTuple (wpAny_bind (wpAny_newList (wpAny_holding ?_))))))
  have g2 : (((s.heap.update a (Obj.mapSeq fun _ => #[])).push (seqObj "tuple" vs.toArray 0)).push (seqObj "list" #[] 0)).get? a = some (seqObj "list" #[] c1) := Heap.get?_push_of_some _ (Heap.get?_push_of_some _ g1)
  show wpAny (model prog w) A _ P E { s with heap := ((s.heap.update a (Obj.mapSeq fun _ => #[])).push (seqObj "tuple" vs.toArray 0)).push (seqObj "list" #[] 0) }
  dsimp only
  have n2 : ¬ vs.toArray.size < 2 := by omega
  rw [if_neg n2, if_neg n2]
  obtain ⟨x, y, r, rfl⟩ : ∃ x y r, vs = x :: y :: r := by
    match vs, h64 with
    | [], h64 => simp at h64
    | [_], h64 => simp at h64
    | x :: y :: r, _ => exact ⟨x, y, r, rfl⟩
  rw [keyKind_ints hI]
  refine wpAny_bind (wpAny_pure (wpAny_bind (wpAny_mono (sortRuns_ok (a₀ := pairsOf (x :: y :: r)) (st := SortSt.mk' oneType' (pairsOf (x :: y :: r)) #[] 7 none)
    (Q := fun _ st' => (arrOf st').Perm (pairsOf (x :: y :: r)) ∧ failedOf st' = none ∧ Seg (arrOf st') 0 (pairsOf (x :: y :: r)).size)
    hI.intKeys (nodup_pairs hI nd) ⟨Array.Perm.refl _, rfl, rfl, rfl⟩ (by rw [pairsOf_size]; omega) (by rw [pairsOf_size]; exact hl) fun st' a1 a2 a3 => ⟨a1, a2, a3⟩) ?_ fun _ _ e => e)))
  rintro ⟨⟨⟩, st'⟩ s' ⟨rfl, hp, hf, hs⟩
  dsimp only
  refine wpAny_bind (seqEpoch_at g2 rfl (wpAny_bind (listUpdate_at g2 rfl ?_ (hsz2 := ?_))))
  · rw [hf]
    simp only [bne_self_eq_false, Bool.false_eq_true, if_false]
    obtain ⟨ns', h1, h2, h3⟩ := sorted_out hI hp (fun i j hij hj => hs i j (Nat.zero_le _) hij (by rw [Nat.zero_add]; exact hj))
    exact wpAny_pure (h _ ns' h1 h2 h3)
  · have e := (Array.size_map (f := fun (x : Keyed) => x.2) (xs := arrOf st')).trans (hp.size_eq.trans (pairsOf_size _))
    refine Nat.le_trans (Nat.le_of_eq e) ?_
    rw [sizeLine_eq]
    omega
theorem call_sortedSet {S : Addr} {M : Int → Bool} {Q : Value → Shared → Prop} (hh : A.handled = none) (hS : SetG prog w s.heap S M) (hb : ∀ vs, Met M vs → vs.length < 128)
    (h : ∀ D h' d (ns : List Int) (out : List Value), s.heap.objs.size ≤ D → (∀ b o, s.heap.get? b = some o → h'.get? b = some o) → (∃ c, h'.get? D = some (seqObj "list" out.toArray c)) → IntsAre out ns → ns.Pairwise (· < ·) → (∀ k, M k = true ↔ k ∈ ns) → Q (.ref D) { s with heap := h', drawn := d }) :
    wpAny (model prog w) A (call (.builtin "sorted") [.ref S]) Q E s := by
  refine Calls.call_function_entry kind_sorted plain_sorted entry_sorted (args_sorted1 _) ?_
  unfold Builtin.«sorted»
  refine wpAny_bind (m := checkCount "sorted" 1 1 _) (wpAny_pure (wpAny_bind (collect_set hh hS fun vs h1 d kp sz1 mt hl => wpAny_bind (wpAny_newList ?_ (hsz := by rw [sizeLine_eq]; have : vs.length < 4096 := hl; omega)))))
  have hI := intsAre_map vs mt.allI
  have hoL : (h1.push (seqObj "list" vs.toArray 0)).get? h1.objs.size = some (seqObj "list" vs.toArray 0) := Heap.get?_push_size _ rfl
  show wpAny _ _ _ _ _ { s with heap := h1.push (seqObj "list" vs.toArray 0), drawn := d }
  refine wpAny_bind (wpAny_holding (wpAny_call_entry slot_list_sort ⟨_, hoL, rfl⟩ entry_list_sort (sort_at (s := { s with heap := h1.push (seqObj "list" vs.toArray 0), drawn := d }) hoL hI mt.nd (hb vs mt) fun out ns' a1 a2 a3 => ⟨_, rfl, ?_⟩) (args_list_sort _)))
  refine wpAny_pure ⟨_, rfl, ?_⟩
  obtain ⟨c, gD⟩ := sortedHeap_at (out := out) hoL
  have lt : ns'.Pairwise (· < ·) := by
    have n2 : ns'.Nodup := a2.nodup_iff.mpr mt.nd
    refine (a3.and n2).imp fun {x y} h => ?_
    have := h.1
    have := h.2
    omega
  refine h h1.objs.size _ d ns' out.toList sz1 (fun b o e => ?_) ⟨c, gD⟩ a1 lt fun k => (mt.mem k).trans a2.mem_iff.symm
  have e1 := kp b o e
  have l1 := Heap.lt_size e1
  rw [sortedHeap_old (Nat.ne_of_lt l1) (by rw [Heap.size_push]; exact Nat.lt_succ_of_lt l1)]
  exact Heap.get?_push_of_some _ e1
end
end L2.Srt


set_option Elab.async false
set_option linter.all false
set_option maxRecDepth 100000
namespace L2
open PySem PySem.Spec PyProof.Rows
/-! ### comprehensions whose target is a pair of names -/
def tCompB2 (K : PySem.W.Frag) (J : It) (cv : St) (tt : TT) (te : TE) (D : Addr) (H1 : Hp) (Q : VK) : Prop := ∃ W : Nat → Nat → Hp → Prop, (∃ m, W 0 m (upd H1 D (.lst []))) ∧ ∀ i m H', W i m H' →
  (J.stop i H' ∧ Q (.ref D) H') ∨ (J.go i H' ∧ ∀ x H2, J.yld i H' x H2 → ∃ t a b, x = .ref t ∧ SqT K H2 t [a, b] ∧ tt (some a :: some b :: cv) H2 fun ok H3 => if ok = true then te (some a :: some b :: cv) H3 fun v H4 => ∃ ys, H4 D = some (.lst ys) ∧ ys.length < sizeLine ∧ ∃ m', m' < m ∧ W (i + 1) m' (upd H4 D (.lst (ys ++ [v])))
    else ∃ m', m' < m ∧ W (i + 1) m' H3)
def tComp2 (K : PySem.W.Frag) (wi : TI) (caps : List (Nat × Str)) (tt : TT) (te : TE) : TE := fun σ H Q => wi σ H fun J H1 => ∀ D, H1 D = none → tCompB2 K J (capV caps σ) tt te D H1 Q
section
variable {X : Cx} {pins : List (Addr × Obj)} {σ : St} {H : Hp} {s : Shared}
theorem comp_run2 {elt iter : Expr} {ifs : List Expr} {x x2 : Str} {px px2 pos ipos pt : Pos} {kt : Nat} {caps : List (Nat × Str)} {scope : Scope} {wi : TI} {tt : TT} {te : TE} {use : Option (Value → Sem Unit)} {Q : VK} {QQ : Value → Shared → Prop}
    (hc : X.calm = true) (hi : PI X (.Tuple [.Name x px, .Name x2 px2] kt pt) iter wi) (S : CompSc scope x) (S2 : CompSc scope x2) (hcap : CapOk X scope caps) (hfree : ∀ y ∈ scope.names, y.2 = .free → X.env.scope.names.lookup y.1 = some .cell ∨ X.env.scope.names.lookup y.1 = some .free)
    (ht : ∀ cl s H fp, PTs (cxComp X (x :: x2 :: caps.map (·.2)) scope cl s H fp) ifs tt) (he : ∀ cl s H fp, PE (cxComp X (x :: x2 :: caps.map (·.2)) scope cl s H fp) elt te)
    (hs : ∀ v, foldedSetIterable iter X.env v = pure v) (nd : (x :: x2 :: caps.map (·.2)).Nodup)
    (I : Inv X pins σ H s) (h : tComp2 X.K wi caps tt te σ H Q)
    (fin : ∀ (D C : Addr) (H' : Hp) (s' : Shared) (m : Str → Option Value), Inv X pins σ H' s' → s'.heap.Ns C m → FpOk X pins H' C → Q (.ref D) H' → compPost (model X.prog X.w) X.A X.xe use QQ (.ref D) C (.ok .next) s') :
    wpAny (model X.prog X.w) X.A (comprehension (.ListComp elt [⟨.Tuple [.Name x px, .Name x2 px2] kt pt, iter, ifs, 0⟩] scope pos) scope X.env ipos (newList []) false (eval iter X.env) use) QQ X.xe s :=
  comp_runG (ws := [x, x2]) (g := gTup X.K 2 (gCons (gName 0) (gCons (gName 1) gNil))) (sh := fun z H vs => ∃ t a b, z = V.ref t ∧ SqT X.K H t [a, b] ∧ vs = [a, b]) hc hi S.kind S.nocell S.locs hcap hfree ht he
    (fun cl s H fp => pg_tup hc (pgs_cons (pg_name (i := 0) nd rfl (.inl (lookup_relabel_local S.own)) (.inr (lookup_relabel_local S.own))) (pgs_cons (pg_name (i := 1) nd rfl (.inl (lookup_relabel_local S2.own)) (.inr (lookup_relabel_local S2.own))) pgs_nil)))
    (fun pre cv z H vs R hl e r => by
      obtain ⟨t, a, b, rfl, q, rfl⟩ := e
      match pre, hl with
      | [p1, p2], _ => exact ⟨t, [a, b], rfl, q, rfl, a, [b], rfl, b, [], rfl, rfl, r⟩)
    (fun z H vs e => by obtain ⟨t, a, b, _, _, rfl⟩ := e; rfl) hs I h (fun J H1 r D hD => (r D hD).imp fun W w => ⟨w.1, fun i m H' w' => (w.2 i m H' w').imp id fun q => ⟨q.1, fun x H2 y => (q.2 x H2 y).elim fun t z => z.elim fun a z => z.elim fun b z => ⟨[a, b], ⟨t, a, b, z.1, z.2.1, rfl⟩, z.2.2⟩⟩⟩) fin
end
section
variable {X : Cx} {pins : List (Addr × Obj)} {σ : St} {H : Hp} {s : Shared}
theorem pe_comp2 {elt iter : Expr} {ifs : List Expr} {x x2 : Str} {px px2 pos pt : Pos} {kt : Nat} {caps : List (Nat × Str)} {scope : Scope} {wi : TI} {tt : TT} {te : TE}
    (hc : X.calm = true) (hi : PI X (.Tuple [.Name x px, .Name x2 px2] kt pt) iter wi) (S : CompSc scope x) (S2 : CompSc scope x2) (hcap : CapOk X scope caps) (hfree : freeB scope X.env.scope = true)
    (nd : (x :: x2 :: caps.map (·.2)).Nodup)
    (ht : ∀ cl s H fp, PTs (cxComp X (x :: x2 :: caps.map (·.2)) scope cl s H fp) ifs tt) (he : ∀ cl s H fp, PE (cxComp X (x :: x2 :: caps.map (·.2)) scope cl s H fp) elt te)
    (hs : ∀ v, foldedSetIterable iter X.env v = pure v := by intro _; rfl) :
    PE X (.ListComp elt [⟨.Tuple [.Name x px, .Name x2 px2] kt pt, iter, ifs, 0⟩] scope pos) (tComp2 X.K wi caps tt te) := by
  intro pins s σ H Q I h
  rw [eval_ListComp]
  refine comp_run2 (use := none) hc hi S S2 hcap (freeB_ok hfree) ht he hs nd I h fun D C H' s' m I' hn fC q => ?_
  refine ⟨m, hn, fun h' sb => ⟨.ref D, H', ?_, rfl, q⟩⟩
  exact I'.turned (it := C) (t' := s'.toks) (fun b o hb e => sb.extBut b o hb e) fC.1 fC.2.1 fC.2.2.2.1 fC.2.2.2.2.1 fC.2.2.2.2.2
theorem ps_setComp2 {elt iter : Expr} {ifs : List Expr} {x x2 y : Str} {px px2 py pos spos pt : Pos} {kt : Nat} {caps : List (Nat × Str)} {scope : Scope} {wi : TI} {tt : TT} {te : TE} {i : Nat} (hN : X.N.Nodup) (hi' : X.N[i]? = some y) (hx : Loc X.env.scope y)
    (hc : X.calm = true) (hi : PI X (.Tuple [.Name x px, .Name x2 px2] kt pt) iter wi) (S : CompSc scope x) (S2 : CompSc scope x2) (hcap : CapOk X scope caps) (hfree : freeB scope X.env.scope = true)
    (nd : (x :: x2 :: caps.map (·.2)).Nodup)
    (ht : ∀ cl s H fp, PTs (cxComp X (x :: x2 :: caps.map (·.2)) scope cl s H fp) ifs tt) (he : ∀ cl s H fp, PE (cxComp X (x :: x2 :: caps.map (·.2)) scope cl s H fp) elt te)
    (hs : ∀ v, foldedSetIterable iter X.env v = pure v := by intro _; rfl)
    (hsw : swapsWith (.ListComp elt [⟨.Tuple [.Name x px, .Name x2 px2] kt pt, iter, ifs, 0⟩] scope pos) (some (.Name y py)) spos.line X.env = pure true := by rfl)
    (hf : X.fn y = true ∨ X.env.scope.names.lookup y = some .local := by first | exact .inl rfl | exact .inr rfl | assumption) :
    PS X (.Assign [.Name y py] (.ListComp elt [⟨.Tuple [.Name x px, .Name x2 px2] kt pt, iter, ifs, 0⟩] scope pos) spos) (tAsg (tComp2 X.K wi caps tt te) (gName i)) := by
  intro pins s σ H D I h
  rw [exec_Assign_Name_used _ _ _ _ hsw]
  refine wpAny_bind (wpAny_standAt (wpAny_bind ?_))
  show wpAny _ X.A (do let _ ← comprehension (.ListComp elt [⟨.Tuple [.Name x px, .Name x2 px2] kt pt, iter, ifs, 0⟩] scope pos) scope X.env _ (newList []) false (eval iter X.env) (some (assign (.Name y py) X.env))) _ _ s
  refine wpAny_bind (wpAny_mono (comp_run2 (use := some (assign (.Name y py) X.env)) (QQ := fun _ s' => SP X pins D .next s') hc hi S S2 hcap (freeB_ok hfree) ht he hs nd I h fun D' C H' s' m I' hn fC q => ?_)
    (fun _ s' hq => wpAny_pure (wpAny_pure hq)) fun _ _ e => e)
  show wpAny _ X.A (assign (.Name y py) X.env (.ref D')) _ _ s'
  refine wpAny_assign_Name (store_ok2 I' hN hi' hx (v := .ref D') rfl (fun s2 I2 hh => ?_) hf)
  obtain ⟨a, sb, ha⟩ := hh
  have hCa : C ≠ a := by
    rcases ha with e | e
    · rw [e]; exact fC.2.1
    · exact fun z => fC.2.2.2.2.1 y a e z.symm
  refine ⟨m, hn.sameBut sb hCa, fun h' sb' => ⟨σ.set i (some (.ref D')), H', ?_, q⟩⟩
  exact I2.turned (it := C) (t' := s2.toks) (fun b o hb e => sb'.extBut b o hb e) fC.1 fC.2.1 fC.2.2.2.1 fC.2.2.2.2.1 fC.2.2.2.2.2

end
end L2

set_option Elab.async false
set_option linter.all false
set_option maxRecDepth 100000
namespace L2
open PySem PySem.Spec PyProof.Rows
/-! ### two lists walked side by side -/
def Itz (a b : Addr) : It := ⟨fun i H => ∃ xs ys x y, H a = some (.lst xs) ∧ H b = some (.lst ys) ∧ xs[i]? = some x ∧ ys[i]? = some y,
  fun i H v H' => ∃ p x y, H p = none ∧ v = .ref p ∧ H' = upd H p (.tup [x, y]) ∧ (∀ xs, H a = some (.lst xs) → xs[i]? = some x) ∧ ∀ ys, H b = some (.lst ys) → ys[i]? = some y,
  fun i H => ∃ xs ys, H a = some (.lst xs) ∧ H b = some (.lst ys) ∧ xs.length ≤ i⟩
abbrev ZSt (z TI TO i1 i2 a b : Addr) (i : Nat) (h : Heap) : Prop := IsZip h z TI TO .none ∧ IsPair h TI (.ref i1) (.ref i2) ∧ (∃ u v, IsPair h TO u v) ∧ h.IsListIter i1 a i ∧ h.IsListIter i2 b i
theorem turn_zip {P : Program} {w : World} {K : PySem.W.Frag} {elts : List Expr} {x1} {pos : Pos} (z TI TO i1 i2 a b : Addr) (D : ZipApart z TI TO i1 i2 a b) :
    Turn P w K (.Tuple elts x1 pos) (Itz a b) [z, TI, TO, i1, i2] z (ZSt z TI TO i1 i2 a b) where
  mem := by simp
  obj := fun i h st c hc => by
    obtain ⟨gz, gI, ⟨u, v, gO⟩, u1, u2⟩ := st
    simp only [List.mem_cons, List.not_mem_nil, or_false] at hc
    rcases hc with e | e | e | e | e
    · rw [e]; exact ⟨_, gz, fun v y => by cases (show Data.fields _ = Data.cell v from y)⟩
    · rw [e]; exact ⟨_, gI, fun v y => by cases (show Data.seq _ _ = Data.cell v from y)⟩
    · rw [e]; exact ⟨_, gO, fun v y => by cases (show Data.seq _ _ = Data.cell v from y)⟩
    · rw [e]; obtain ⟨o, e, c, d⟩ := u1; exact ⟨o, e, fun v y => by rw [d] at y; cases y⟩
    · rw [e]; obtain ⟨o, e, c, d⟩ := u2; exact ⟨o, e, fun v y => by rw [d] at y; cases y⟩
  keep := fun i h h' st k => ⟨k z (by simp) _ st.1, k TI (by simp) _ st.2.1, (let ⟨u, v, g⟩ := st.2.2.1; ⟨u, v, k TO (by simp) _ g⟩), st.2.2.2.1.at fun o q => k i1 (by simp) o q, st.2.2.2.2.at fun o q => k i2 (by simp) o q⟩
  item := by
    intro X hP hw hK hc i pins s σ H E I hf st hg
    subst hP hw hK
    obtain ⟨gz, gI, ⟨u0, v0, gO⟩, u1, u2⟩ := st
    obtain ⟨xs, ys, x, y, hq1, hq2, hx, hy⟩ := hg
    obtain ⟨hz1, its1, n1, rv1, hl1⟩ := (show ObjOk X.prog X.w H s.heap a (.lst xs) from I.hok a _ hq1)
    obtain ⟨hz2, its2, n2, rv2, hl2⟩ := (show ObjOk X.prog X.w H s.heap b (.lst ys) from I.hok b _ hq2)
    have m1 : s.heap.IsList a its1.toArray := ⟨_, hl1, rfl, n1, rfl⟩
    have m2 : s.heap.IsList b its2.toArray := ⟨_, hl2, rfl, n2, rfl⟩
    obtain ⟨ux, hux, rx⟩ := rv1.get hx
    obtain ⟨uy, huy, ry⟩ := rv2.get hy
    have fz := hf z (by simp)
    have fI := hf TI (by simp)
    have fO := hf TO (by simp)
    have f1 := hf i1 (by simp)
    have f2 := hf i2 (by simp)
    have ltz := Heap.lt_size gz
    refine wpAny_pyNext_zip_item D gz gI gO u1 u2 m1 m2 (x := ux) (y := uy) (by simpa using hux) (by simpa using huy) fun h1 z1 o1 w1 w2 p1 sz1 k1 => ?_
    refine ⟨_, rfl, wpAny_letOwnedTupleGo_zip z1 fun h2 z2 hs2 => ?_⟩
    replace hs2 : Heap.SameBut z h1 h2 := hs2
    have hp : H s.heap.objs.size = none := I.hok.fresh (Nat.le_refl _)
    have k2 : ∀ c o, c ≠ z → c ≠ TO → c ≠ i1 → c ≠ i2 → s.heap.get? c = some o → h2.get? c = some o := fun c o n1 n2 n3 n4 q => (hs2.2 c n1).trans (k1 c o n1 n2 n3 n4 q)
    have kc : ∀ c o, c ∉ [z, TO, i1, i2] → s.heap.get? c = some o → h2.get? c = some o := fun c o hc q => k2 c o (fun e => hc (by simp [e])) (fun e => hc (by simp [e])) (fun e => hc (by simp [e])) (fun e => hc (by simp [e])) q
    have pt : IsPair h2 s.heap.objs.size ux uy := (hs2.2 _ (Nat.ne_of_gt ltz)).trans p1
    have up : ∀ {b : Addr} {v : HO}, H b = some v → (upd H s.heap.objs.size (.tup [x, y])) b = some v := fun q => by rw [upd_ne (ne_of_none q hp)]; exact q
    have ch : ∀ c ∈ [z, TO, i1, i2], FpOk X pins H c := fun c hc => by
      simp only [List.mem_cons, List.not_mem_nil, or_false] at hc
      rcases hc with e | e | e | e <;> rw [e]
      · exact fz
      · exact fO
      · exact f1
      · exact f2
    refine ⟨.ref s.heap.objs.size, upd H s.heap.objs.size (.tup [x, y]), ?_, rfl, ⟨_, x, y, hp, rfl, rfl, fun us hu => ?_, fun us hu => ?_⟩, ⟨z2, ?_, ⟨ux, uy, (hs2.2 _ D.TOz).trans o1⟩, w1.at fun o q => (hs2.2 _ D.i1z).trans q, w2.at fun o q => (hs2.2 _ D.i2z).trans q⟩, fun c hc => ?_⟩
    · show Inv X pins σ _ { s with heap := h2, gens := s.gens, drawn := s.drawn, toks := s.toks }
      refine Inv.step (s := s) (h' := h2) (g' := s.gens) (d' := s.drawn) (t' := s.toks) (ch := [z, TO, i1, i2]) I (fun c hc => ?_) (fun c o _ _ hc q _ => kc c o hc q) (fun c o _ _ hc q _ => ⟨o.slots, kc c o hc q⟩)
        (fun c o _ q n => by rw [upd_ne (Nat.ne_of_lt (Heap.lt_size q))]; exact n) (fun c o hc q => ⟨o, kc c o hc q⟩) (fun _ _ q => up q) (fun _ _ _ q => up q) (fun c ps q => ⟨#[], by rw [up q]; simp⟩) (fun m hm => ?_) (fun c v q => ?_) I.bare
      · obtain ⟨_, g1, _, g3, g4, g5⟩ := ch c hc
        exact ⟨g3, g1, g4, g5⟩
      · obtain ⟨o, es, ep, ho, r⟩ := hm
        exact ⟨o, es, ep, kc _ o (fun hc => (ch _ hc).2.1 rfl) ho, r⟩
      · by_cases e : c = s.heap.objs.size
        · subst e
          rw [upd_same] at q
          cases q
          exact ⟨by show 2 ≤ sizeLine; decide, [ux, uy], .cons rx (.cons ry .nil), ⟨_, pt, rfl, _, rfl⟩⟩
        · rw [upd_ne e] at q
          have ne : ∀ {c : Addr} {v : HO}, H c = some v → c ∉ [z, TO, i1, i2] := fun q hc => by rw [(ch _ hc).1] at q; cases q
          refine (I.hok c v q).stay (fun c' o hc q2 => ?_) (fun c q2 => up q2) (fun c xs q2 => up q2)
          rcases hc with y | y
          · rw [y] at q2 ⊢; exact kc _ _ (ne q) q2
          · exact kc _ _ (ne y) q2
    · rw [hq1] at hu
      cases hu
      exact hx
    · rw [hq2] at hu
      cases hu
      exact hy
    · exact k2 TI _ D.TIz D.TITO D.TIi1 D.TIi2 gI
    · have hl : c < s.heap.objs.size := by
        simp only [List.mem_cons, List.not_mem_nil, or_false] at hc
        rcases hc with e | e | e | e | e <;> rw [e]
        · exact ltz
        · exact Heap.lt_size gI
        · exact Heap.lt_size gO
        · obtain ⟨o, e, _⟩ := u1; exact Heap.lt_size e
        · obtain ⟨o, e, _⟩ := u2; exact Heap.lt_size e
      rw [upd_ne (Nat.ne_of_lt hl)]
      exact (hf c hc).1
  done := by
    intro X hP hw hK hc i pins s σ H E I hf st hg
    subst hP hw hK
    obtain ⟨gz, gI, ⟨u0, v0, gO⟩, u1, u2⟩ := st
    obtain ⟨xs, ys, hq1, hq2, hx⟩ := hg
    obtain ⟨hz1, its1, n1, rv1, hl1⟩ := (show ObjOk X.prog X.w H s.heap a (.lst xs) from I.hok a _ hq1)
    obtain ⟨hz2, its2, n2, rv2, hl2⟩ := (show ObjOk X.prog X.w H s.heap b (.lst ys) from I.hok b _ hq2)
    have m1 : s.heap.IsList a its1.toArray := ⟨_, hl1, rfl, n1, rfl⟩
    have m2 : s.heap.IsList b its2.toArray := ⟨_, hl2, rfl, n2, rfl⟩
    have ln := rv1.length
    have ch : ∀ c ∈ [z, TO, i1, i2], FpOk X pins H c := fun c hc => hf c (by
      simp only [List.mem_cons, List.not_mem_nil, or_false] at hc ⊢
      rcases hc with e | e | e | e
      · exact .inl e
      · exact .inr (.inr (.inl e))
      · exact .inr (.inr (.inr (.inl e)))
      · exact .inr (.inr (.inr (.inr e))))
    refine wpAny_pyNext_zip_end (I.ok.hd hc) D gz gI gO u1 u2 m1 m2 (.inl (by simp; omega)) fun h2 k2 => ⟨rfl, ?_⟩
    have kc : ∀ c o, c ∉ [z, TO, i1, i2] → s.heap.get? c = some o → h2.get? c = some o := fun c o hc q => k2 c o (fun e => hc (by simp [e])) (fun e => hc (by simp [e])) (fun e => hc (by simp [e])) (fun e => hc (by simp [e])) q
    show Inv X pins σ _ { s with heap := h2, gens := s.gens, drawn := s.drawn, toks := s.toks }
    refine Inv.step (s := s) (h' := h2) (g' := s.gens) (d' := s.drawn) (t' := s.toks) (ch := [z, TO, i1, i2]) I (fun c hc => ?_) (fun c o _ _ hc q _ => kc c o hc q) (fun c o _ _ hc q _ => ⟨o.slots, kc c o hc q⟩)
      (fun c o _ q n => n) (fun c o hc q => ⟨o, kc c o hc q⟩) (fun _ _ q => q) (fun _ _ _ q => q) (fun c ps q => ⟨#[], by rw [q]; simp⟩) (fun m hm => ?_) (fun c v q => ?_) I.bare
    · obtain ⟨_, g1, _, g3, g4, g5⟩ := ch c hc
      exact ⟨g3, g1, g4, g5⟩
    · obtain ⟨o, es, ep, ho, r⟩ := hm
      exact ⟨o, es, ep, kc _ o (fun hc => (ch _ hc).2.1 rfl) ho, r⟩
    · have ne : ∀ {c : Addr} {v : HO}, H c = some v → c ∉ [z, TO, i1, i2] := fun q hc => by rw [(ch _ hc).1] at q; cases q
      refine (I.hok c v q).stay (fun c' o hc q2 => ?_) (fun c q2 => q2) (fun c xs q2 => q2)
      rcases hc with y | y
      · rw [y] at q2 ⊢; exact kc _ _ (ne q) q2
      · exact kc _ _ (ne y) q2
  self := fun _ _ _ _ _ st h => wpAny_pyIter_zip st.1 h
def iZip (ta : TA) : TI := fun σ H R => ta σ H fun vs H1 => ∃ l m xs ys, vs = [.ref l, .ref m] ∧ H1 l = some (.lst xs) ∧ H1 m = some (.lst ys) ∧ R (Itz l m) H1
section
variable {X : Cx} {elts : List Expr} {pt : Pos}
theorem pi_zip {x1} {a b : Expr} {ta : TA} {p pos : Pos} (hg : Gl X "zip") (hm : X.mg "zip" = none) (ha : PA X [a, b] ta) (e2 : starEach [a, b] X.env = (false, eval a X.env) :: starEach [b] X.env := by rfl) (e4 : (backTo pos (starEach [b] X.env)).any (·.1) = false := by rfl) :
    PI X (.Tuple elts x1 pt) (.Call (.Name "zip" p) [a, b] [] pos) (iZip ta) := by
  intro pins s σ H R I h
  refine Call_ (ld_blt I hg hm b_zip (PyProof.Rows.callWith_type1 (thn (ha pos pins s σ H _ I h) fun us s1 ⟨vs, H1, I1, r1, q1⟩ => ?_) e2 e4))
  obtain ⟨l, m, xs, ys, e, hq1, hq2, q⟩ := q1
  subst e
  obtain ⟨u, v, rfl, ru, rv⟩ := vals2 r1
  cases (show u = .ref l from ru)
  cases (show v = .ref m from rv)
  obtain ⟨hz1, its1, n1, rv1, hl1⟩ := (show ObjOk X.prog X.w H1 s1.heap l (.lst xs) from I1.hok l _ hq1)
  obtain ⟨hz2, its2, n2, rv2, hl2⟩ := (show ObjOk X.prog X.w H1 s1.heap m (.lst ys) from I1.hok m _ hq2)
  have m1 : s1.heap.IsList l its1.toArray := ⟨_, hl1, rfl, n1, rfl⟩
  have m2 : s1.heap.IsList m its2.toArray := ⟨_, hl2, rfl, n2, rfl⟩
  refine call_zip_2 m1 m2 fun h2 zz zI zO u1 u2 sz kp => ?_
  refine wpAny_pyIter_zip zz ?_
  refine ⟨s1.heap.objs.size + 4, [s1.heap.objs.size + 4, s1.heap.objs.size + 2, s1.heap.objs.size + 3, s1.heap.objs.size, s1.heap.objs.size + 1], _, _, H1, rfl, I1.kept (t' := s1.toks) kp, turn_zip _ _ _ _ _ l m (zipApart_new (Heap.lt_size hl1) (Heap.lt_size hl2)), ⟨zz, zI, ⟨_, _, zO⟩, u1, u2⟩, fun b hb => ?_, q⟩
  have hb' : s1.heap.objs.size ≤ b := by
    simp only [List.mem_cons, List.not_mem_nil, or_false] at hb
    rcases hb with e | e | e | e | e <;> rw [e]
    · exact Nat.le_add_right _ _
    · exact Nat.le_add_right _ _
    · exact Nat.le_add_right _ _
    · exact Nat.le_refl _
    · exact Nat.le_add_right _ _
  exact I1.fpOk hb' (I1.hok.fresh hb')
end
/-- two lists side by side, each pair made to one value that leaves the heap as it is -/
theorem comp_zip {K : PySem.W.Frag} {l m D : Addr} {xs ys : List V} {H1 : Hp} {te : TE} {cv : St} {Q : VK} (f : V → V → V) (hz : xs.length ≤ sizeLine) (hl : xs.length = ys.length) (h1 : H1 l = some (.lst xs)) (h2 : H1 m = some (.lst ys)) (hD : H1 D = none)
    (he : ∀ (i : Nat) x y, xs[i]? = some x → ys[i]? = some y → ∀ (H' : Hp) (R : VK), Same H1 H' → R (f x y) H' → te (some x :: some y :: cv) H' R)
    (q : ∀ H', Same H1 H' → H' D = some (.lst (List.zipWith f xs ys)) → Q (.ref D) H') : tCompB2 K (Itz l m) cv tYes te D H1 Q := by
  refine ⟨fun i k H' => k = xs.length - i ∧ i ≤ xs.length ∧ Same H1 H' ∧ H' D = some (.lst (List.zipWith f (xs.take i) (ys.take i))), ⟨xs.length, by simp, Nat.zero_le _, same_up hD, by rw [upd_same]; simp⟩, ?_⟩
  rintro i k H' ⟨rfl, hi, sm, eD⟩
  by_cases hlt : i < xs.length
  · have hlt2 : i < ys.length := by omega
    have ex := List.getElem?_eq_getElem hlt
    have ey := List.getElem?_eq_getElem hlt2
    refine .inr ⟨⟨xs, ys, _, _, sm _ _ h1, sm _ _ h2, ex, ey⟩, ?_⟩
    rintro v H2 ⟨p, x, y, hp, rfl, rfl, ax, ay⟩
    have e1 := ax xs (sm _ _ h1)
    have e2 := ay ys (sm _ _ h2)
    refine ⟨p, x, y, rfl, SqT.of upd_same, ?_⟩
    unfold tYes
    dsimp only
    rw [if_pos rfl]
    refine he i x y e1 e2 _ _ (sm.trans (same_up hp)) ⟨_, upd_old eD hp, ?_, xs.length - (i + 1), by omega, rfl, hlt, fun b o e => ?_, ?_⟩
    · rw [List.length_zipWith, List.length_take, List.length_take]
      omega
    · rw [upd_ne (ne_of_none e hD)]
      exact upd_old (sm b o e) hp
    · rw [upd_same, List.take_succ, List.take_succ, e1, e2, List.zipWith_append (by rw [List.length_take, List.length_take]; omega)]
      rfl
  · have e : i = xs.length := by omega
    subst e
    refine .inl ⟨⟨xs, ys, sm _ _ h1, sm _ _ h2, Nat.le_refl _⟩, q H' sm ?_⟩
    rw [eD, List.take_length, hl, List.take_length]
/-- a list of pairs, as it stands -/
structure PrsAt (H : Hp) (a : Addr) (ts : List Addr) (ps : List (V × V)) : Prop where
  ls : H a = some (.lst (ts.map V.ref))
  len : ts.length = ps.length
  at_ : ∀ (j : Nat) p, ps[j]? = some p → H (ts.getD j 0) = some (.tup [p.1, p.2])
theorem PrsAt.same {H H' : Hp} {a : Addr} {ts : List Addr} {ps : List (V × V)} (h : PrsAt H a ts ps) (s : Same H H') : PrsAt H' a ts ps := ⟨s _ _ h.ls, h.len, fun j p e => s _ _ (h.at_ j p e)⟩
theorem refs_at {ts : List Addr} {i : Nat} (h : i < ts.length) : (ts.map V.ref)[i]? = some (V.ref (ts.getD i 0)) := by
  rw [List.getElem?_map, List.getD_eq_getElem?_getD, List.getElem?_eq_getElem h]
  rfl
/-- pairs of a list, each made to one value -/
theorem comp_prs {K : PySem.W.Frag} {a D : Addr} {ts : List Addr} {ps : List (V × V)} {H1 : Hp} {te : TE} {cv : St} {Q : VK} (f : V × V → V) (hz : ps.length ≤ sizeLine) (h : PrsAt H1 a ts ps) (hD : H1 D = none)
    (he : ∀ (i : Nat) p, ps[i]? = some p → ∀ (us : List V) (R : VK), R (f p) (upd H1 D (.lst us)) → te (some p.1 :: some p.2 :: cv) (upd H1 D (.lst us)) R)
    (q : Q (.ref D) (upd H1 D (.lst (ps.map f)))) : tCompB2 K (Itl K a) cv tYes te D H1 Q := by
  have w := itl_walk (K := K) (SqL.of h.ls) hD
  have ll : (ts.map V.ref).length = ps.length := by rw [List.length_map]; exact h.len
  refine ⟨fun i k H' => k = ps.length - i ∧ i ≤ ps.length ∧ H' = upd H1 D (.lst ((ps.take i).map f)), ⟨ps.length, by simp, Nat.zero_le _, by simp⟩, ?_⟩
  rintro i k H' ⟨rfl, hi, rfl⟩
  by_cases hlt : i < ps.length
  · have ex := refs_at (ts := ts) (i := i) (by rw [h.len]; exact hlt)
    have ep := List.getElem?_eq_getElem hlt
    obtain ⟨g, y⟩ := w.1 i _ ((ps.take i).map f) ex
    refine .inr ⟨g, fun v H2 hy => ?_⟩
    obtain ⟨rfl, rfl⟩ := y v H2 hy
    refine ⟨_, ps[i].1, ps[i].2, rfl, SqT.of (upd_old (h.at_ i _ ep) hD), ?_⟩
    unfold tYes
    dsimp only
    rw [if_pos rfl]
    refine he i _ ep _ _ ⟨_, upd_same, by rw [List.length_map, List.length_take]; omega, ps.length - (i + 1), by omega, rfl, hlt, ?_⟩
    rw [upd_upd, List.take_succ, ep, List.map_append]
    rfl
  · have e : i = ps.length := by omega
    subst e
    refine .inl ⟨by have := w.2 ((ps.take ps.length).map f); rw [ll] at this; exact this, ?_⟩
    rw [List.take_length]
    exact q
end L2

set_option linter.all false
set_option maxRecDepth 100000
namespace L2
/-! ### texts packed, in numbers -/
def sgs : List Nat := [32,33,34,35,36,38,39,40,41,42,43,44,45,46,47,48,49,50,51,52,53,54,55,56,57,58,59,60,61,62,63,64,65,66,67,68,69,70,71,72,73,74,75,76,77,78,79,80,81,82,83,84,85,86,87,88,89,90,91,92,93,94,95,96,97,98,99,100,101,102,103,104,105,106,107,108,109,110,111,112,113,114,115,116,117,118,119,120,121,122,123,124,125,126]
def ltr : List Nat := [97,98,99,100,101,102,103,104,105,106,107,108,109,110,111,112,113,114,115,116,117,118,119,120,121,122]
def dec (n : Nat) : List Nat := (Nat.toDigits 10 n).map Char.toNat
theorem sgs_len : sgs.length = 94 := rfl
theorem sgs_nodup : sgs.Nodup := by decide +kernel
/-- where a sign stands -/
def plc (c : Nat) : Nat := sgs.idxOf c
theorem plc_lt {c : Nat} (h : c ∈ sgs) : plc c < 94 := List.idxOf_lt_length_of_mem h
theorem idx_eq {ks : List Nat} {c : Nat} (hc : c ∈ ks) : ks[ks.idxOf c]? = some c := by
  have := List.getElem_idxOf (List.idxOf_lt_length_of_mem hc)
  rw [List.getElem?_eq_getElem (List.idxOf_lt_length_of_mem hc)]
  exact congrArg some this
theorem sgs_plc {c : Nat} (h : c ∈ sgs) : sgs[plc c]? = some c := idx_eq h
theorem plc_inj {a b : Nat} (ha : a ∈ sgs) (hb : b ∈ sgs) (h : plc a = plc b) : a = b := by
  have := sgs_plc ha
  rw [h, sgs_plc hb] at this
  exact (Option.some.inj this).symm
def kindsL (l : List Nat) : List Nat := sgs.filter (fun c => decide (c ∈ l))
def cntL (l : List Nat) : List Nat := (kindsL l).map (fun c => l.count c)
def rowL (l : List Nat) : List Nat := l.map (fun c => (kindsL l).idxOf c)
theorem mem_kinds {l : List Nat} (hl : ∀ c ∈ l, c ∈ sgs) {c : Nat} : c ∈ kindsL l ↔ c ∈ l := by
  unfold kindsL
  rw [List.mem_filter, decide_eq_true_eq]
  exact ⟨fun h => h.2, fun h => ⟨hl c h, h⟩⟩
theorem kinds_sgs {l : List Nat} {c : Nat} (h : c ∈ kindsL l) : c ∈ sgs := (List.mem_filter.mp h).1
theorem kinds_nodup (l : List Nat) : (kindsL l).Nodup := sgs_nodup.filter _
theorem kinds_len (l : List Nat) : (kindsL l).length ≤ 94 := List.length_filter_le _ _
theorem kinds_ne {l : List Nat} (hl : ∀ c ∈ l, c ∈ sgs) (h : l ≠ []) : kindsL l ≠ [] := by
  obtain ⟨a, r, rfl⟩ := List.exists_cons_of_ne_nil h
  intro z
  have := (mem_kinds hl (c := a)).mpr List.mem_cons_self
  rw [z] at this
  cases this
/-! the places of the kinds rise -/
theorem plc_rise : (sgs.map plc).Pairwise (· < ·) := by decide +kernel
theorem kinds_rise (l : List Nat) : ((kindsL l).map plc).Pairwise (· < ·) := by
  refine plc_rise.sublist ?_
  exact List.Sublist.map _ List.filter_sublist
theorem idx_map {f : Nat → Nat} : ∀ {ks : List Nat} {c : Nat}, (∀ k ∈ ks, f k = f c → k = c) → c ∈ ks → (ks.map f).idxOf (f c) = ks.idxOf c
  | k :: ks, c, hf, hc => by
    rw [List.map_cons, List.idxOf_cons, List.idxOf_cons]
    by_cases e : k = c
    · subst e; simp
    · have e2 : f k ≠ f c := fun z => e (hf k List.mem_cons_self z)
      rw [show (f k == f c) = false from beq_eq_false_iff_ne.mpr e2, show (k == c) = false from beq_eq_false_iff_ne.mpr e]
      simp only [Bool.false_eq_true, if_false, cond_false]
      rw [idx_map (fun k hk => hf k (List.mem_cons_of_mem _ hk)) (by rcases List.mem_cons.mp hc with z | z; exact absurd z.symm e; exact z)]
theorem row_at {l : List Nat} (hl : ∀ c ∈ l, c ∈ sgs) {c : Nat} (hc : c ∈ l) : ((kindsL l).map plc).idxOf (plc c) = (kindsL l).idxOf c :=
  idx_map (fun k hk e => plc_inj (kinds_sgs hk) (hl c hc) e) ((mem_kinds hl).mpr hc)
theorem idx_nodup : ∀ {ks : List Nat}, ks.Nodup → ∀ {i : Nat} {c : Nat}, ks[i]? = some c → ks.idxOf c = i
  | k :: ks, hn, 0, c, h => by
    cases h; simp
  | k :: ks, hn, i + 1, c, h => by
    rw [List.nodup_cons] at hn
    have hc : c ∈ ks := List.mem_of_getElem? (by simpa using h)
    have e : k ≠ c := fun z => hn.1 (z ▸ hc)
    rw [List.idxOf_cons, show (k == c) = false from beq_eq_false_iff_ne.mpr e]
    simp only [Bool.false_eq_true, if_false, cond_false]
    rw [idx_nodup hn.2 (by simpa using h)]
theorem count_row {l : List Nat} (hl : ∀ c ∈ l, c ∈ sgs) {i c : Nat} (h : (kindsL l)[i]? = some c) : (rowL l).count i = l.count c := by
  unfold rowL
  have : ∀ m : List Nat, (∀ x ∈ m, x ∈ l) → (m.map fun c => (kindsL l).idxOf c).count i = m.count c := by
    intro m
    induction m with
    | nil => intro _; rfl
    | cons a m ih =>
      intro hm
      rw [List.map_cons, List.count_cons, List.count_cons, ih fun x hx => hm x (List.mem_cons_of_mem _ hx)]
      have ha : a ∈ kindsL l := (mem_kinds hl).mpr (hm a List.mem_cons_self)
      have : ((kindsL l).idxOf a == i) = (a == c) := by
        rw [Bool.eq_iff_iff, beq_iff_eq, beq_iff_eq]
        constructor
        · intro e
          have := idx_eq ha
          rw [e, h] at this
          exact (Option.some.inj this).symm
        · rintro rfl
          exact idx_nodup (kinds_nodup l) h
      rw [this]
  exact this l fun _ h => h
theorem cnt_at {l : List Nat} {i c : Nat} (h : (kindsL l)[i]? = some c) : (cntL l)[i]? = some (l.count c) := by
  unfold cntL
  rw [List.getElem?_map, h]; rfl
theorem cnt_len (l : List Nat) : (cntL l).length = (kindsL l).length := List.length_map _
theorem cnt_le {l : List Nat} {n : Nat} (h : n ∈ cntL l) : n ≤ l.length := by
  unfold cntL at h
  rw [List.mem_map] at h
  obtain ⟨c, hc, rfl⟩ := h
  exact List.count_le_length
/-! the sum of the counts -/
theorem sum_count : ∀ (ks : List Nat), ks.Nodup → ∀ (l : List Nat), (∀ c ∈ l, c ∈ ks) → (ks.map fun c => l.count c).sum = l.length
  | ks, hn, [], _ => by
    have : (ks.map fun c => List.count c ([] : List Nat)) = ks.map fun _ => 0 := rfl
    rw [this]
    clear this hn
    induction ks with
    | nil => rfl
    | cons a r ih => simpa using ih
  | ks, hn, a :: l, h => by
    have ih := sum_count ks hn l fun c hc => h c (List.mem_cons_of_mem _ hc)
    have ha := h a List.mem_cons_self
    rw [List.length_cons, ← ih]
    clear ih h
    induction ks with
    | nil => cases ha
    | cons k r ih2 =>
      rw [List.nodup_cons] at hn
      rw [List.map_cons, List.map_cons, List.sum_cons, List.sum_cons, List.count_cons]
      by_cases e : a = k
      · subst e
        have : (r.map fun c => List.count c (a :: l)) = r.map fun c => List.count c l := by
          refine List.map_congr_left fun c hc => ?_
          rw [List.count_cons, show (a == c) = false from beq_eq_false_iff_ne.mpr (fun z => hn.1 (z ▸ hc))]
          rfl
        rw [this]
        simp
        omega
      · have ha' : a ∈ r := by rcases List.mem_cons.mp ha with z | z; exact absurd z e; exact z
        rw [ih2 hn.2 ha', show (a == k) = false from beq_eq_false_iff_ne.mpr e]
        simp
        omega
theorem cnt_sum {l : List Nat} (hl : ∀ c ∈ l, c ∈ sgs) : (cntL l).sum = l.length := sum_count _ (kinds_nodup l) l fun c hc => (mem_kinds hl).mpr hc
/-! cut and joined -/
theorem splitA_app (c : Nat) : ∀ (m acc r : List Nat), c ∉ m → splitA c acc (m ++ c :: r) = (acc ++ m) :: splitA c [] r
  | [], acc, r, _ => by
    rw [List.append_nil, List.nil_append]
    show (if c = c then _ else _) = _
    rw [if_pos rfl]
  | x :: m, acc, r, h => by
    rw [List.cons_append]
    show (if x = c then _ else _) = _
    rw [if_neg (fun z => h (by rw [z]; exact List.mem_cons_self)), splitA_app c m _ r (fun z => h (List.mem_cons_of_mem _ z))]
    simp
theorem split_join (c : Nat) : ∀ {ms : List (List Nat)}, ms ≠ [] → (∀ m ∈ ms, c ∉ m) → splitA c [] (joinL [c] ms) = ms
  | [m], _, h => by
    show splitA c [] m = _
    rw [splitA_none c m [] (h m List.mem_cons_self)]
    rfl
  | m :: n :: r, _, h => by
    show splitA c [] (m ++ [c] ++ joinL [c] (n :: r)) = _
    rw [List.append_assoc, List.singleton_append, splitA_app c m [] _ (h m List.mem_cons_self), split_join c (by simp) fun x hx => h x (List.mem_cons_of_mem _ hx)]
    rfl
theorem idx_app {c : Nat} : ∀ {a : List Nat} (b : List Nat), c ∉ a → (a ++ c :: b).idxOf c = a.length
  | [], b, _ => by simp
  | x :: a, b, h => by
    rw [List.cons_append, List.idxOf_cons, show (x == c) = false from beq_eq_false_iff_ne.mpr (fun z => h (by rw [z]; exact List.mem_cons_self))]
    simp only [Bool.false_eq_true, if_false, cond_false]
    rw [idx_app b (fun z => h (List.mem_cons_of_mem _ z))]
    rfl
theorem cut_app {c : Nat} {a : List Nat} (b : List Nat) (h : c ∉ a) : cutC c (a ++ c :: b) = [a, [c], b] := by
  unfold cutC
  rw [if_pos (by simp), idx_app b h]
  have e1 : (a ++ c :: b).take a.length = a := by simp
  have e2 : (a ++ c :: b).drop (a.length + 1) = b := by
    have : a ++ c :: b = (a ++ [c]) ++ b := by simp
    rw [this, show a.length + 1 = (a ++ [c]).length by simp, List.drop_left]
  rw [e1, e2]
theorem mem_join {c x : Nat} : ∀ {ms : List (List Nat)}, x ∈ joinL [c] ms → x = c ∨ ∃ m ∈ ms, x ∈ m
  | [], h => by cases h
  | [m], h => .inr ⟨m, List.mem_cons_self, h⟩
  | m :: n :: r, h => by
    have h : x ∈ m ++ [c] ++ joinL [c] (n :: r) := h
    rw [List.mem_append, List.mem_append, List.mem_singleton] at h
    rcases h with (h | h) | h
    · exact .inr ⟨m, List.mem_cons_self, h⟩
    · exact .inl h
    · rcases mem_join h with h | ⟨q, hq, hx⟩
      · exact .inl h
      · exact .inr ⟨q, List.mem_cons_of_mem _ hq, hx⟩
theorem join_len {c : Nat} : ∀ {ms : List (List Nat)} {b : Nat}, (∀ m ∈ ms, m.length ≤ b) → (joinL [c] ms).length ≤ ms.length * (b + 1)
  | [], b, _ => Nat.zero_le _
  | [m], b, h => by
    show m.length ≤ _
    have := h m List.mem_cons_self
    simp only [List.length_cons, List.length_nil]
    omega
  | m :: n :: r, b, h => by
    show (m ++ [c] ++ joinL [c] (n :: r)).length ≤ _
    have h1 := h m List.mem_cons_self
    have h2 := join_len (c := c) (ms := n :: r) (b := b) fun x hx => h x (List.mem_cons_of_mem _ hx)
    rw [List.length_append, List.length_append, List.length_cons (as := n :: r), Nat.add_mul]
    simp only [List.length_cons, List.length_nil] at h2 ⊢
    omega
/-! letters -/
def ltrN (n : Nat) : List Nat := if h : n < 26 then [97 + n] else ltrN (n / 26) ++ [97 + n % 26]
termination_by n
decreasing_by exact Nat.div_lt_self (by omega) (by omega)
theorem ltrN_small {n : Nat} (h : n < 26) : ltrN n = [97 + n] := by rw [ltrN, dif_pos h]
theorem ltrN_big {n : Nat} (h : ¬ n < 26) : ltrN n = ltrN (n / 26) ++ [97 + n % 26] := by rw [ltrN, dif_neg h]
theorem ltr_at {k : Nat} (h : k < 26) : ltr[k]? = some (97 + k) := by
  have : ∀ k : Fin 26, ltr[k.val]? = some (97 + k.val) := by decide +kernel
  exact this ⟨k, h⟩
theorem ltr_mem {k : Nat} (h : k < 26) : 97 + k ∈ ltr := List.mem_of_getElem? (ltr_at h)
theorem ltr_idx {k : Nat} (h : k < 26) : ltr.idxOf (97 + k) = k := idx_nodup (by decide +kernel) (ltr_at h)
def ltrVal (l : List Nat) : Nat := l.foldl (fun p c => p * 26 + ltr.idxOf c) 0
theorem ltrVal_snoc (l : List Nat) (c : Nat) : ltrVal (l ++ [c]) = ltrVal l * 26 + ltr.idxOf c := by unfold ltrVal; rw [List.foldl_append]; rfl
theorem ltr_all (n : Nat) : ∀ c ∈ ltrN n, c ∈ ltr := by
  induction n using Nat.strongRecOn with
  | _ n ih =>
    by_cases h : n < 26
    · rw [ltrN_small h]
      intro c hc
      rw [List.mem_singleton] at hc
      subst hc
      exact ltr_mem h
    · rw [ltrN_big h]
      intro c hc
      rcases List.mem_append.mp hc with hc | hc
      · exact ih (n / 26) (Nat.div_lt_self (by omega) (by omega)) c hc
      · rw [List.mem_singleton] at hc
        subst hc
        exact ltr_mem (Nat.mod_lt _ (by omega))
theorem ltr_val (n : Nat) : ltrVal (ltrN n) = n := by
  induction n using Nat.strongRecOn with
  | _ n ih =>
    by_cases h : n < 26
    · rw [ltrN_small h]
      show 0 * 26 + ltr.idxOf (97 + n) = n
      rw [ltr_idx h]; omega
    · rw [ltrN_big h, ltrVal_snoc, ih (n / 26) (Nat.div_lt_self (by omega) (by omega)), ltr_idx (Nat.mod_lt _ (by omega))]
      omega
theorem ltr_len : ∀ (k n : Nat), n < 26 ^ k → (ltrN n).length ≤ k + 1
  | 0, n, h => by
    rw [ltrN_small (by omega)]
    simp
  | k + 1, n, h => by
    by_cases h' : n < 26
    · rw [ltrN_small h']; simp
    · rw [ltrN_big h', List.length_append]
      have := ltr_len k (n / 26) (by rw [Nat.div_lt_iff_lt_mul (by omega)]; rw [Nat.pow_succ] at h; exact h)
      simp only [List.length_cons, List.length_nil]
      omega
end L2

set_option Elab.async false
set_option linter.all false
set_option maxRecDepth 100000
namespace L2
open PySem PySem.Spec PyProof.Rows
section
variable {X : Cx}
/-! ### texts that stand in the program -/
theorem pe_strT {x : Str} {m : List Nat} {j pos} (h : x = tx m) : PE X (.Constant (.str x) j pos) (tC (.str (tx m))) := by
  subst h
  exact pe_str
theorem pe_gstrT {x z : Str} {m : List Nat} {pos : Pos} (h : z = tx m) (hg : Gl X x) (hm : ∃ t, X.mg x = some (.str z t)) (hd : (x == ("__debug__" : Str)) = false := by decide) : PE X (.Name x pos) (tC (.str (tx m))) := by
  subst h
  exact pe_gstr hg hm hd
/-! ### figures -/
theorem dec_text (n : Nat) : (Str.ofString (toString (n : Int))) = tx (dec n) := text_ofNat n
theorem dec_val (n : Nat) : PySem.NumText.digitsVal (dec n) = n := PySem.W.KIN.val_back n
theorem dec_len {k n : Nat} (hk : 1 ≤ k) (h : n < 10 ^ k) : (dec n).length ≤ k := by
  unfold dec
  rw [List.length_map]
  exact digits10_le hk h
theorem dec_ne (n : Nat) : dec n ≠ [] := by
  unfold dec
  intro h
  have p := Nat.length_toDigits_pos (b := 10) (n := n)
  rw [List.map_eq_nil_iff] at h
  rw [h] at p
  exact absurd p (by decide)
theorem dec_fig (n : Nat) : ∀ c ∈ dec n, 48 ≤ c ∧ c ≤ 57 := by
  intro c hc
  unfold dec at hc
  rw [List.mem_map] at hc
  obtain ⟨d, hd, rfl⟩ := hc
  have h := Nat.isDigit_of_mem_toDigits (b := 10) (n := n) (by decide) (by decide) hd
  rw [Char.isDigit, Bool.and_eq_true, decide_eq_true_eq, decide_eq_true_eq] at h
  exact ⟨UInt32.le_iff_toNat_le.mp h.1, UInt32.le_iff_toNat_le.mp h.2⟩
theorem small_log {n : Nat} (h : n < 10 ^ 9) : ((n : Int)).natAbs.log2 < 1920 := by
  rw [Int.natAbs_natCast]
  by_cases h0 : n = 0
  · subst h0; decide
  · exact Nat.lt_trans ((Nat.log2_lt (k := 30) h0).mpr (Nat.lt_trans h (by decide))) (by decide)
/-! ### f'..' -/
def PJs (X : Cx) (es : List Expr) (t : List Nat → St → Hp → VK → Prop) : Prop := ∀ (out : List Nat) (pins : List (Addr × Obj)) (s : Shared) (σ : St) (H : Hp) (Q : VK), Inv X pins σ H s → t out σ H Q → wpAny (model X.prog X.w) X.A (joinParts (tx out) (evalEach es X.env)) (EP X pins σ Q) X.xe s
def jNil : List Nat → St → Hp → VK → Prop := fun out _ H Q => Q (.str (tx out)) H
def jStr (m : List Nat) (t : List Nat → St → Hp → VK → Prop) : List Nat → St → Hp → VK → Prop := fun out σ H Q => (out ++ m).length ≤ sizeLine ∧ t (out ++ m) σ H Q
def jInt (te : TE) (t : List Nat → St → Hp → VK → Prop) : List Nat → St → Hp → VK → Prop := fun out σ H Q => te σ H fun v H1 => ∃ n : Nat, v = .int (n : Int) ∧ n < 10 ^ 9 ∧ (out ++ dec n).length ≤ sizeLine ∧ t (out ++ dec n) σ H1 Q
theorem pj_nil : PJs X [] (fun out σ H Q => out.length ≤ sizeLine ∧ jNil out σ H Q) := by
  intro out pins s σ H Q I ⟨hl, q⟩
  exact joinParts_nil ⟨.str (tx out), H, I.tok _, ⟨_, rfl⟩, q⟩ (by rw [tx_len]; exact hl)
theorem pj_str {e : Expr} {es : List Expr} {m : List Nat} {t : List Nat → St → Hp → VK → Prop} (he : PE X e (tC (.str (tx m)))) (h : PJs X es t) : PJs X (e :: es) (jStr m t) := by
  intro out pins s σ H Q I ⟨hl, q⟩
  show wpAny _ _ (joinParts (tx out) (eval e X.env :: evalEach es X.env)) _ _ _
  refine joinParts_cons (thn (he pins s σ H (fun v H1 => v = .str (tx m) ∧ H1 = H) I ⟨rfl, rfl⟩) fun u s1 ⟨v, H1, I1, r1, e1, e2⟩ => ?_)
  subst e1 e2
  obtain ⟨t', rfl⟩ := r1
  refine ⟨by rw [tx_app, tx_len]; exact hl, ?_⟩
  rw [tx_app]
  exact h _ pins s1 σ _ Q I1 q
theorem pj_int {v : Expr} {es : List Expr} {te : TE} {pos : Pos} {t : List Nat → St → Hp → VK → Prop} (he : PE X v te) (h : PJs X es t) : PJs X (.FormattedValue v (-1) none pos :: es) (jInt te t) := by
  intro out pins s σ H Q I q
  show wpAny _ _ (joinParts (tx out) (eval (.FormattedValue v (-1) none pos) X.env :: evalEach es X.env)) _ _ _
  refine joinParts_cons (FormattedValue_plain (thn (he pins s σ H _ I q) fun u s1 ⟨x, H1, I1, r1, n, e1, hn, hl, q⟩ => ?_))
  subst e1
  obtain ⟨tk, rfl⟩ := r1
  refine formatField_int_small (small_log hn) ?_
  dsimp only
  rw [dec_text, tx_app, tx_len]
  exact ⟨hl, h _ pins _ σ _ Q (I1.tok _) q⟩
theorem pe_joined {v1 v2 : Expr} {rest : List Expr} {pos : Pos} {t : List Nat → St → Hp → VK → Prop} (h : PJs X (v1 :: v2 :: rest) t) : PE X (.JoinedStr (v1 :: v2 :: rest) pos) (fun σ H Q => t [] σ H Q) := by
  intro pins s σ H Q I q
  exact JoinedStr_many (h [] pins s σ H Q I q)
/-! ### str of a number -/
theorem call_strI : CallR X (.type "str") (fun xs H Q => ∃ n : Nat, xs = [.int (n : Int)] ∧ n < 10 ^ 9 ∧ Q (.str (tx (dec n))) H) := by
  intro pins s σ H xs us Q I r h
  obtain ⟨n, rfl, hn, q⟩ := h
  obtain ⟨u, rfl, ru⟩ := vals1 r
  obtain ⟨t, rfl⟩ := ru
  refine str_of_int_fit (N := 1000000000) (by rw [if_neg (by omega)]; omega) (by decide) fun _ => ⟨.str (tx (dec n)), H, I.tok _, ⟨s.toks, ?_⟩, q⟩
  show Value.str (Str.ofString (toString (n : Int))) _ = _
  rw [dec_text]
end
end L2

set_option Elab.async false
set_option linter.all false
set_option maxRecDepth 100000
namespace L2
open PySem
def sg1 : List Nat := sgs.take 64
def sg2 : List Nat := sgs.drop 64
theorem sg12 : sg1 ++ sg2 = sgs := List.take_append_drop 64 sgs
theorem litSIGNS : Str.ofString " !\"#$&'()*+,-./0123456789:;<=>?@ABCDEFGHIJKLMNOPQRSTUVWXYZ[\\]^_`abcdefghijklmnopqrstuvwxyz{|}~" = tx sgs := by decide +kernel
theorem litLETTERS : Str.ofString "abcdefghijklmnopqrstuvwxyz" = tx ltr := by decide +kernel
end L2
namespace Np
open L2 PySem
/-- a text that can be packed -/
structure GT (l : List Nat) : Prop where
  len : l.length ≤ 150
  sg : ∀ c ∈ l, c ∈ sgs
def cntI (l : List Nat) : List Int := (cntL l).map fun (n : Nat) => (n : Int)
def rowI (l : List Nat) : List Int := (rowL l).map fun (n : Nat) => (n : Int)
def pileL (l : List Nat) : Int := layRow (cntI l) (rowI l) 0
theorem sumI : ∀ (l : List Nat), (l.map fun (n : Nat) => (n : Int)).sum = ((l.sum : Nat) : Int)
  | [] => rfl
  | a :: r => by
    rw [List.map_cons, List.sum_cons, List.sum_cons, sumI r]
    omega
theorem cntI_len (l : List Nat) : (cntI l).length = (kindsL l).length := by unfold cntI; rw [List.length_map, cnt_len]
theorem cntI_sum {l : List Nat} (g : GT l) : (cntI l).sum = ((l.length : Nat) : Int) := by unfold cntI; rw [sumI, cnt_sum g.sg]
theorem good_cnt {l : List Nat} (g : GT l) (h0 : l ≠ []) : GoodC (cntI l) := by
  have hk := kinds_ne g.sg h0
  refine ⟨?_, ?_, fun c hc => ?_, ?_⟩
  · rw [cntI_len]
    exact List.length_pos_iff.mpr hk
  · rw [cntI_len]
    have := kinds_len l
    omega
  · unfold cntI at hc
    rw [List.mem_map] at hc
    obtain ⟨n, hn, rfl⟩ := hc
    have := cnt_le hn
    have := g.len
    omega
  · rw [cntI_sum g]
    have := List.length_pos_iff.mpr h0
    omega
theorem cntI_get {l : List Nat} {i c : Nat} (h : (kindsL l)[i]? = some c) : (cntI l).getD i 0 = ((l.count c : Nat) : Int) := by
  rw [List.getD_eq_getElem?_getD]
  unfold cntI
  rw [List.getElem?_map, cnt_at h]
  rfl
theorem ok_at {l : List Nat} (g : GT l) {c : Nat} (hc : c ∈ l) : OkS (cntI l) (((kindsL l).idxOf c : Nat) : Int) := by
  have hk := (mem_kinds g.sg).mpr hc
  have e := idx_eq hk
  refine ⟨by omega, ?_, ?_⟩
  · rw [cntI_len]
    have := List.idxOf_lt_length_of_mem hk
    omega
  · rw [Int.toNat_natCast, cntI_get e]
    have := List.count_pos_iff.mpr hc
    omega
theorem rowI_len (l : List Nat) : (rowI l).length = l.length := by unfold rowI rowL; rw [List.length_map, List.length_map]
theorem ok_row {l : List Nat} (g : GT l) : ∀ k ∈ rowI l, OkS (cntI l) k := by
  intro k hk
  unfold rowI rowL at hk
  rw [List.map_map, List.mem_map] at hk
  obtain ⟨c, hc, rfl⟩ := hk
  exact ok_at g hc
theorem pile_nn {l : List Nat} (g : GT l) : 0 ≤ pileL l := by
  by_cases h0 : l = []
  · subst h0; exact Int.le_refl _
  · exact layRow_nn (good_cnt g h0) (ok_row g) (Int.le_refl 0)
theorem take_back {l : List Nat} (g : GT l) (h0 : l ≠ []) : takeRow (cntI l) l.length (pileL l) = (rowI l, 0) := by
  have := takeRow_layRow (good_cnt g h0) 0 (ok_row g)
  rw [rowI_len] at this
  exact this
theorem lay_top {ns : List Int} (g : GoodC ns) {k : Int} (h : OkS ns k) {p : Int} (hp : 0 ≤ p) : layN ns k.toNat p + 1 ≤ (p + 1) * ns.sum := by
  obtain ⟨h0, h1, h2⟩ := h
  have f := first_top g (k := k.toNat) (by omega)
  unfold layN
  have m1 := Int.emod_lt_of_pos p h2
  have d0 := Int.ediv_nonneg hp (Int.le_of_lt h2)
  have d1 : p / ns.getD k.toNat 0 ≤ p := Int.ediv_le_self _ hp
  have gp := g.pos
  have : (p / ns.getD k.toNat 0 + 1) * ns.sum ≤ (p + 1) * ns.sum := Int.mul_le_mul_of_nonneg_right (by omega) (by omega)
  rw [Int.add_mul, Int.one_mul] at this
  omega
theorem layRow_top {ns : List Int} (g : GoodC ns) : ∀ {rs : List Int}, (∀ k ∈ rs, OkS ns k) → layRow ns rs 0 + 1 ≤ ns.sum ^ rs.length
  | [], _ => by show (0 : Int) + 1 ≤ _; simp
  | k :: rs, h => by
    have ih := layRow_top g (rs := rs) fun x hx => h x (List.mem_cons_of_mem _ hx)
    have nn := layRow_nn g (rs := rs) (p := 0) (fun x hx => h x (List.mem_cons_of_mem _ hx)) (Int.le_refl 0)
    have t := lay_top g (h k List.mem_cons_self) nn
    have gp := g.pos
    show layN ns k.toNat (layRow ns rs 0) + 1 ≤ _
    refine Int.le_trans t ?_
    rw [List.length_cons, Int.pow_succ]
    exact Int.mul_le_mul_of_nonneg_right ih (by omega)
theorem pile_top {l : List Nat} (g : GT l) : (pileL l).toNat < 26 ^ 300 := by
  by_cases h0 : l = []
  · subst h0; exact Nat.pow_pos (show 0 < 26 by decide)
  · have t := layRow_top (good_cnt g h0) (ok_row g)
    rw [rowI_len, cntI_sum g] at t
    have nn := pile_nn g
    have e : (((l.length : Nat) : Int) ^ l.length) = ((l.length ^ l.length : Nat) : Int) := by rw [Int.natCast_pow]
    rw [e] at t
    have t2 : (pileL l).toNat < l.length ^ l.length := by
      have t' : pileL l + 1 ≤ ((l.length ^ l.length : Nat) : Int) := t
      omega
    refine Nat.lt_of_lt_of_le t2 ?_
    refine Nat.le_trans (Nat.pow_le_pow_left (Nat.le_trans g.len (show 150 ≤ 26 ^ 2 by decide)) _) ?_
    rw [← Nat.pow_mul]
    exact Nat.pow_le_pow_right (by decide) (by have := g.len; omega)
/-! the leaf -/
def ent (c n : Nat) : List Nat := dec (plc c) ++ 120 :: dec n
def headL (l : List Nat) : List Nat := joinL [44] ((kindsL l).map fun c => ent c (l.count c))
def leafL (l : List Nat) : List Nat := headL l ++ 59 :: ltrN (pileL l).toNat
theorem kinds_nil : kindsL [] = [] := by decide +kernel
theorem head_nil : headL [] = [] := by unfold headL; rw [kinds_nil]; rfl
theorem leaf_nil : leafL [] = [59, 97] := by
  have e : headL [] = [] := head_nil
  have p : pileL [] = 0 := rfl
  unfold leafL
  rw [e, p]
  show 59 :: ltrN 0 = _
  rw [ltrN_small (by decide)]
theorem ent_sig {c n x : Nat} (h : x ∈ ent c n) : (48 ≤ x ∧ x ≤ 57) ∨ x = 120 := by
  unfold ent at h
  rw [List.mem_append, List.mem_cons] at h
  rcases h with h | h | h
  · exact .inl (dec_fig _ _ h)
  · exact .inr h
  · exact .inl (dec_fig _ _ h)
theorem ent_len {c n : Nat} (hc : c ∈ sgs) (hn : n ≤ 999) : (ent c n).length ≤ 6 := by
  unfold ent
  rw [List.length_append, List.length_cons]
  have h1 := dec_len (k := 2) (n := plc c) (by decide) (by have := plc_lt hc; omega)
  have h2 := dec_len (k := 3) (n := n) (by decide) (by omega)
  omega
theorem head_split {l : List Nat} (g : GT l) (h0 : l ≠ []) : splitA 44 [] (headL l) = (kindsL l).map fun c => ent c (l.count c) := by
  refine split_join 44 (by rw [ne_eq, List.map_eq_nil_iff]; exact kinds_ne g.sg h0) fun m hm => ?_
  rw [List.mem_map] at hm
  obtain ⟨c, _, rfl⟩ := hm
  intro z
  rcases ent_sig z with z | z <;> omega
theorem head_no {l : List Nat} : 59 ∉ headL l := by
  intro z
  rcases mem_join z with z | ⟨m, hm, z⟩
  · cases z
  · rw [List.mem_map] at hm
    obtain ⟨c, _, rfl⟩ := hm
    rcases ent_sig z with z | z <;> omega
theorem leaf_cut (l : List Nat) : cutC 59 (leafL l) = [headL l, [59], ltrN (pileL l).toNat] := cut_app _ head_no
theorem head_ne {l : List Nat} (g : GT l) (h0 : l ≠ []) : headL l ≠ [] := by
  intro z
  have e := head_split g h0
  rw [z] at e
  have hk := kinds_ne g.sg h0
  obtain ⟨c, r, ek⟩ := List.exists_cons_of_ne_nil hk
  rw [ek] at e
  have e2 : [([] : List Nat)] = ent c (l.count c) :: r.map fun c => ent c (l.count c) := e
  have e3 : ([] : List Nat) = ent c (l.count c) := (List.cons.inj e2).1
  unfold ent at e3
  have := congrArg List.length e3
  simp at this
theorem head_len {l : List Nat} (g : GT l) : (headL l).length ≤ 700 := by
  have h := join_len (c := 44) (ms := (kindsL l).map fun c => ent c (l.count c)) (b := 6) fun m hm => by
    rw [List.mem_map] at hm
    obtain ⟨c, hc, rfl⟩ := hm
    exact ent_len (kinds_sgs hc) (by have := List.count_le_length (a := c) (l := l); have := g.len; omega)
  rw [List.length_map] at h
  have := kinds_len l
  show (joinL [44] _).length ≤ _
  omega
theorem ltr_len301 {l : List Nat} (g : GT l) : (ltrN (pileL l).toNat).length ≤ 301 := ltr_len 300 _ (pile_top g)
theorem leaf_len {l : List Nat} (g : GT l) : (leafL l).length ≤ 1010 := by
  unfold leafL
  rw [List.length_append, List.length_cons]
  have := head_len g
  have := ltr_len301 g
  omega
/-! the entries -/
def prsL (l : List Nat) : List (Nat × Nat) := (kindsL l).map fun c => (plc c, l.count c)
def toV (p : Nat × Nat) : V × V := (.int (p.1 : Int), .int (p.2 : Int))
theorem join_one : ∀ (l : List Nat), joinL [] (l.map fun c => [c]) = l
  | [] => rfl
  | [a] => rfl
  | a :: b :: r => by
    show [a] ++ [] ++ joinL [] ((b :: r).map fun c => [c]) = _
    rw [join_one (b :: r)]
    rfl
end Np

set_option Elab.async false
set_option linter.all false
set_option maxRecDepth 100000
namespace L2
open PySem PySem.Spec PyProof.Rows
theorem Inv.drawn {X : Cx} {pins : List (Addr × Obj)} {σ : St} {H : Hp} {s : Shared} (I : Inv X pins σ H s) (d : Drawn) : Inv X pins σ H { s with drawn := d } :=
  ⟨I.ok, I.os, I.bare, I.base, I.loc, I.cell, I.free, I.freeC, I.pin, I.hok, I.len⟩
theorem met_len {M : Int → Bool} {vs : List Value} {b : Nat} (h : Srt.Met M vs) (hb : ∀ k, M k = true → 0 ≤ k ∧ k < (b : Int)) : vs.length ≤ b := by
  have := Srt.nodup_len (l := vs.map numOf) (m := (List.range b).map fun (n : Nat) => (n : Int)) h.nd fun x hx => by
    obtain ⟨h0, h1⟩ := hb x ((h.mem x).mpr hx)
    exact List.mem_map.mpr ⟨x.toNat, List.mem_range.mpr (by omega), by omega⟩
  rw [List.length_map, List.length_map, List.length_range] at this
  exact this
/-- sorted(set(a)) of a list of ints from 0 to 93 -/
def tSortSet (K : PySem.W.Frag) (ta : TE) : TE := fun σ H Q => tCons ta tNil σ H fun vs H2 => ∃ (a : Addr) (ks : List Int), vs = [.ref a] ∧ SqL K H2 a (ks.map V.int) ∧ ks.length ≤ 1000 ∧ (∀ k ∈ ks, 0 ≤ k ∧ k < 94) ∧
  ∀ (D : Addr) (ns : List Int), H2 D = none → ns.Pairwise (· < ·) → (∀ k, k ∈ ns ↔ k ∈ ks) → Q (.ref D) (upd H2 D (.lst (ns.map V.int)))
theorem pe_sortset {X : Cx} {a : Expr} {ta : TE} {p1 p2 pos1 pos2 : Pos} (hc : X.calm = true) (g1 : Gl X "sorted") (m1 : X.mg "sorted" = none) (g2 : Gl X "set") (m2 : X.mg "set" = none) (ha : PE X a ta)
    (e1 : starEach [.Call (.Name "set" p2) [a] [] pos2] X.env = [(false, eval (.Call (.Name "set" p2) [a] [] pos2) X.env)] := by rfl)
    (e2 : starEach [a] X.env = [(false, eval a X.env)] := by rfl) :
    PE X (.Call (.Name "sorted" p1) [.Call (.Name "set" p2) [a] [] pos2] [] pos1) (tSortSet X.K ta) := by
  intro pins s σ H Q I h
  refine wpAny_Call_Name_kw (ld_blt I g1 m1 b_sorted (PyProof.Rows.callWith_builtin1 ?_ e1 rfl))
  rw [e1]
  show wpAny _ _ (spliced ((false, eval (.Call (.Name "set" p2) [a] [] pos2) X.env) :: [])) _ _ s
  refine Calls.spliced_cons (wpAny_Call_Name_kw (ld_blt I g2 m2 b_set ?_))
  refine PyProof.Rows.callWith_type1 (thn ((pa_cons ha pa_nil e2) pos2 pins s σ H _ I h) fun us s1 ⟨vs, H1, I1, r1, q1⟩ => ?_) e2 rfl
  obtain ⟨l, ks, rfl, sl, hl, hk, q⟩ := q1
  obtain ⟨u, rfl, ru⟩ := vals1 r1
  cases (show u = .ref l from ru)
  obtain ⟨its, rv, pl, _⟩ := I1.list sl
  refine Srt.call_setG (I.ok.hd hc) pl.isList (intsAre_of rv) (by show ks.length + 1 < 4096; omega) fun h2 tk g2 kp => ?_
  refine Calls.spliced_nil ?_
  refine Srt.call_sortedSet (s := { s1 with heap := h2, toks := tk }) (I.ok.hd hc) g2 (fun vs mt => ?_) fun D h3 d ns out fD kp3 gD hI srt mem => ?_
  · refine Nat.lt_of_le_of_lt (met_len (b := 94) mt fun k hM => ?_) (by decide)
    rw [List.any_eq_true] at hM
    obtain ⟨y, hy, e⟩ := hM
    have e : y = k := by simpa using e
    rw [← e]
    exact hk y hy
  · obtain ⟨c, gD⟩ := gD
    have kpA : ∀ b o, s1.heap.get? b = some o → h3.get? b = some o := fun b o e => kp3 b o (kp b o (Heap.lt_size e) e)
    have l2 : s1.heap.objs.size < h2.objs.size := by obtain ⟨o, es, ep, t, ho, _⟩ := g2; exact Heap.lt_size ho
    have lD : s1.heap.objs.size ≤ D := Nat.le_trans (Nat.le_of_lt l2) fD
    have fD1 : s1.heap.get? D = none := Heap.get?_none_of_le lD
    have hD : H1 D = none := HOk.fresh I1.hok lD
    have memK : ∀ k, k ∈ ns ↔ k ∈ ks := fun k => by
      rw [← mem k, List.any_eq_true]
      exact ⟨fun ⟨y, hy, e⟩ => by have e : y = k := by simpa using e
                                  rw [← e]; exact hy, fun h => ⟨k, h, by simp⟩⟩
    refine ⟨.ref D, upd H1 D (.lst (ns.map V.int)), ?_, rfl, q D ns hD srt fun k => ?_⟩
    · refine Inv.drawn (s := { s1 with heap := h3, toks := tk }) (I1.grow (t' := tk) kpA (same_up hD) fun b o e => ?_) d
      by_cases z : b = D
      · subst z
        rw [upd_same] at e
        cases e
        have ln : ns.length ≤ 94 := by
          have := Srt.nodup_len (l := ns) (m := (List.range 94).map fun (n : Nat) => (n : Int)) (srt.imp fun {x y} h => Int.ne_of_lt h) fun x hx => by
            obtain ⟨h0, h1⟩ := hk x ((memK x).mp hx)
            exact List.mem_map.mpr ⟨x.toNat, List.mem_range.mpr (by omega), by omega⟩
          rw [List.length_map, List.length_range] at this
          exact this
        exact .inr ⟨fD1, by rw [List.length_map]; exact (by rw [sizeLine_eq]; omega), out, c, vals_ints hI, gD⟩
      · rw [upd_ne z] at e
        exact .inl e
    · exact memK k
end L2

set_option Elab.async false
set_option linter.all false
set_option maxRecDepth 100000
namespace Np
open L2 PySem
theorem atN {α : Type} {xs : List α} {i : Int} {c : α} (h0 : 0 ≤ i) (h : xs[i.toNat]? = some c) : atI xs i = some c := by
  have hl := (List.getElem?_eq_some_iff.mp h).1
  unfold atI ixN
  rw [if_pos h0, if_pos (by omega)]
  exact h
abbrev S1 (c : Nat) : V := .str (tx [c])
abbrev N1 (n : Nat) : V := .int (n : Int)
def sigV (f : Nat → V) : V → V
  | .str z => (match z.cps.toList with | [c] => f c | _ => .non)
  | _ => .non
def sigB (p : Nat → Bool) : V → Bool
  | .str z => (match z.cps.toList with | [c] => p c | _ => false)
  | _ => false
theorem sigV_map (f : Nat → V) : ∀ (l : List Nat), (l.map S1).map (sigV f) = l.map f
  | [] => rfl
  | a :: r => by rw [List.map_cons, List.map_cons, sigV_map f r]; rfl
theorem sigB_filter (p : Nat → Bool) : ∀ (l : List Nat), ((l.map S1).filter (sigB p)).map id = (l.filter p).map S1
  | [] => rfl
  | a :: r => by
    rw [List.map_cons, List.filter_cons, List.filter_cons]
    have e : sigB p (S1 a) = p a := rfl
    rw [e]
    cases p a with
    | true => simp only [if_true, List.map_cons, sigB_filter p r, id]
    | false => simp only [Bool.false_eq_true, if_false, sigB_filter p r]
theorem eq_S1 (a b : Nat) : eqV (S1 a) (S1 b) = decide (a = b) := by
  show (tx [a] == tx [b]) = _
  rw [Bool.eq_iff_iff, beq_iff_eq, decide_eq_true_eq, tx_inj]
  simp
theorem eq_N1 (a b : Nat) : eqV (N1 a) (N1 b) = decide (a = b) := by
  show (((a : Int)) == (b : Int)) = _
  rw [Bool.eq_iff_iff, beq_iff_eq, decide_eq_true_eq]
  omega
theorem idx_before : ∀ {ks : List Nat} {c i x : Nat}, i < ks.idxOf c → ks[i]? = some x → x ≠ c
  | k :: ks, c, 0, x, h, e => by
    cases e
    intro z
    subst z
    simp at h
  | k :: ks, c, i + 1, x, h, e => by
    rw [List.idxOf_cons] at h
    by_cases z : k = c
    · subst z; simp at h
    · rw [show (k == c) = false from beq_eq_false_iff_ne.mpr z] at h
      exact idx_before (ks := ks) (i := i) (by simpa using h) (by simpa using e)
theorem lix_by {f : Nat → V} (hf : ∀ a b, eqV (f a) (f b) = decide (a = b)) {ks : List Nat} {c : Nat} (hc : c ∈ ks) : (∃ z, (ks.map f)[ks.idxOf c]? = some z ∧ eqV z (f c) = true) ∧ ∀ (i : Nat) z, i < ks.idxOf c → (ks.map f)[i]? = some z → eqV z (f c) = false := by
  refine ⟨⟨f c, by rw [List.getElem?_map, idx_eq hc]; rfl, by rw [hf]; simp⟩, fun i z hi e => ?_⟩
  rw [List.getElem?_map] at e
  obtain ⟨x, ex, rfl⟩ := Option.map_eq_some_iff.mp e
  rw [hf]
  exact decide_eq_false (idx_before hi ex)
theorem flat_by {f : Nat → V} (hf : ∀ a, flatV (f a) = true) (ks : List Nat) : (ks.map f).all flatV = true := by
  rw [List.all_eq_true]
  intro x hx
  obtain ⟨a, _, rfl⟩ := List.mem_map.mp hx
  exact hf a
theorem cnt_N1 (k : Nat) : ∀ (l : List Nat), (l.map N1).countP (fun z => eqV z (N1 k)) = l.count k
  | [] => rfl
  | a :: r => by
    rw [List.map_cons, List.countP_cons, cnt_N1 k r, List.count_cons, eq_N1]
    by_cases h : a = k <;> simp [h]
theorem row_N1 (l : List Nat) : (rowI l).map V.int = (rowL l).map N1 := by unfold rowI; rw [List.map_map]; rfl
end Np
namespace L2
open PySem PySem.Spec PyProof.Rows
section
variable {X : Cx} {K : PySem.W.Frag} {o e : Expr} {es : List Expr} {to : TE} {t : TA} {name : Str} {apos cpos : Pos} {T id : String} {r : V → List V → Hp → VK → Prop}
theorem pe_bmK (hK : X.K = K) (pa : PlainAttrs T) (slot : Slot T name id) (hty : typeOf (.builtin id) = pure (.type "method_descriptor")) (hm : MtR X id r) (ho : PE X o to) (ha : PA X (e :: es) t)
    (hbase : attributeBase o name X.env (eval o X.env) = eval o X.env := by rfl)
    (hfew : ((backTo cpos (starEach (e :: es) X.env)).all (fun x => !x.1) && (backToKw cpos (keywordEach [] X.env)).all (fun x => x.1.isSome)
      && decide ((e :: es).length + ([] : List Keyword).length + (if ([] : List Keyword).isEmpty then 0 else 1) < 30)) = true := by rfl)
    (hline : (apos.endLine == cpos.line) = true := by rfl) (hs : starEach (e :: es) X.env = (false, eval e X.env) :: starEach es X.env := by rfl) (hplain : (backTo cpos (starEach es X.env)).any (·.1) = false := by rfl) :
    PE X (.Call (.Attribute o name apos) (e :: es) [] cpos) (tBM K T r to t) := by
  subst hK
  exact pe_bm pa slot hty hm ho ha hbase hfew hline hs hplain
end
end L2

set_option Elab.async false
set_option linter.all false
set_option maxRecDepth 100000
namespace Np
open L2 PySem
def entV : V → V → V
  | .str z, .int n => (match z.cps.toList with | [c] => .str (tx (ent c n.toNat)) | _ => .non)
  | _, _ => .non
theorem zip_ent (g : Nat → Nat) : ∀ ks : List Nat, List.zipWith entV (ks.map S1) (ks.map fun c => N1 (g c)) = (ks.map fun c => ent c (g c)).map fun m => V.str (tx m)
  | [] => rfl
  | c :: r => by
    rw [List.map_cons, List.map_cons, List.zipWith_cons_cons, zip_ent g r]
    rfl
theorem sum_len {b : Nat} : ∀ {ms : List (List Nat)}, (∀ m ∈ ms, m.length ≤ b) → (ms.map List.length).sum ≤ ms.length * b
  | [], _ => Nat.zero_le _
  | m :: r, h => by
    rw [List.map_cons, List.sum_cons, List.length_cons, Nat.add_mul]
    have h1 := h m List.mem_cons_self
    have h2 := sum_len (ms := r) fun x hx => h x (List.mem_cons_of_mem _ hx)
    omega
theorem cnt_V (l : List Nat) : (cntI l).map V.int = (kindsL l).map fun c => N1 (l.count c) := by unfold cntI cntL; rw [List.map_map, List.map_map]; rfl
theorem row_V (l : List Nat) : (rowI l).map V.int = l.map fun c => N1 ((kindsL l).idxOf c) := by unfold rowI rowL; rw [List.map_map, List.map_map]; rfl
theorem ents_len {l : List Nat} (g : GT l) : ∀ m ∈ (kindsL l).map fun c => ent c (l.count c), m.length ≤ 6 := fun m hm => by
  rw [List.mem_map] at hm
  obtain ⟨c, hc, rfl⟩ := hm
  exact ent_len (kinds_sgs hc) (by have := List.count_le_length (a := c) (l := l); have := g.len; omega)
theorem szk {n : Nat} (h : n ≤ 5000) : n ≤ sizeLine := by rw [sizeLine_eq]; omega
theorem range_get {α : Type} (f : Nat → α) (ks : List Nat) : (List.range ks.length).map (fun i => f (ks.getD i 0)) = ks.map f := by
  refine List.ext_getElem? fun i => ?_
  rw [List.getElem?_map, List.getElem?_map]
  by_cases hi : i < ks.length
  · rw [List.getElem?_range hi, List.getElem?_eq_getElem hi]
    show some (f (ks.getD i 0)) = some (f ks[i])
    rw [List.getD_eq_getElem?_getD, List.getElem?_eq_getElem hi]
    rfl
  · rw [List.getElem?_eq_none (by simpa using hi), List.getElem?_eq_none (by simpa using hi)]
    rfl
end Np

set_option Elab.async false
set_option linter.all false
set_option maxRecDepth 100000
namespace Np
open L2 PySem
theorem kit_str {K : PySem.W.Frag} : PySem.W.kitOne K (.type "str") (.type "str") = some true := by rfl
theorem rise_eqI : ∀ {a b : List Int}, a.Pairwise (· < ·) → b.Pairwise (· < ·) → (∀ x, x ∈ a ↔ x ∈ b) → a = b
  | [], [], _, _, _ => rfl
  | [], y :: b, _, _, h => by have := (h y).mpr List.mem_cons_self; cases this
  | x :: a, [], _, _, h => by have := (h x).mp List.mem_cons_self; cases this
  | x :: a, y :: b, ha, hb, h => by
    rw [List.pairwise_cons] at ha hb
    have e : x = y := by
      rcases List.mem_cons.mp ((h x).mp List.mem_cons_self) with z | z
      · exact z
      · rcases List.mem_cons.mp ((h y).mpr List.mem_cons_self) with u | u
        · exact u.symm
        · have := ha.1 y u
          have := hb.1 x z
          omega
    subst e
    refine congrArg (x :: ·) (rise_eqI ha.2 hb.2 fun z => ⟨fun hz => ?_, fun hz => ?_⟩)
    · rcases List.mem_cons.mp ((h z).mp (List.mem_cons_of_mem _ hz)) with u | u
      · subst u; exact absurd (ha.1 _ hz) (Int.lt_irrefl _)
      · exact u
    · rcases List.mem_cons.mp ((h z).mpr (List.mem_cons_of_mem _ hz)) with u | u
      · subst u; exact absurd (hb.1 _ hz) (Int.lt_irrefl _)
      · exact u
theorem places_I {l : List Nat} (g : GT l) {ns : List Int} (srt : ns.Pairwise (· < ·)) (mem : ∀ k, k ∈ ns ↔ k ∈ l.map fun c => ((plc c : Nat) : Int)) : ns = ((kindsL l).map plc).map fun (n : Nat) => (n : Int) := by
  refine rise_eqI srt ?_ fun x => ?_
  · rw [List.pairwise_map]
    exact (kinds_rise l).imp fun {a b} h => by omega
  · rw [mem, List.mem_map, List.map_map, List.mem_map]
    exact ⟨fun ⟨c, h, e⟩ => ⟨c, (mem_kinds g.sg).mpr h, e⟩, fun ⟨c, h, e⟩ => ⟨c, (mem_kinds g.sg).mp h, e⟩⟩
theorem places_V {l : List Nat} : (((kindsL l).map plc).map fun (n : Nat) => (n : Int)).map V.int = ((kindsL l).map plc).map N1 := by rw [List.map_map]; rfl
def numV (f : Nat → V) : V → V
  | .int k => f k.toNat
  | _ => .non
theorem numV_at (f : Nat → V) (k : Nat) : numV f (V.int (0 + (k : Nat))) = f k := by
  show f (0 + ((k : Nat) : Int)).toNat = f k
  rw [show (0 + ((k : Nat) : Int)).toNat = k by omega]
theorem numV_range (f : Nat → V) (n : Nat) : ((List.range n).map fun k => V.int (0 + (k : Nat))).map (numV f) = (List.range n).map f := by
  rw [List.map_map]
  exact List.map_congr_left fun k _ => numV_at f k
theorem counts_V {l : List Nat} (g : GT l) : (List.range (kindsL l).length).map (fun k => N1 ((rowL l).count k)) = (cntI l).map V.int := by
  rw [cnt_V, ← range_get (fun c => N1 (l.count c)) (kindsL l)]
  refine List.map_congr_left fun i hi => ?_
  have hi := List.mem_range.mp hi
  rw [count_row g.sg (c := (kindsL l).getD i 0) (by rw [List.getD_eq_getElem?_getD, List.getElem?_eq_getElem hi]; rfl)]
theorem ents_V (l : List Nat) : (List.range (kindsL l).length).map (fun k => V.str (tx (ent ((kindsL l).getD k 0) (l.count ((kindsL l).getD k 0))))) = ((kindsL l).map fun c => ent c (l.count c)).map fun m => V.str (tx m) := by
  rw [range_get (fun c => V.str (tx (ent c (l.count c)))), List.map_map]
  rfl
theorem ltrN_step (k : Nat) : ltrN k = (if k / 26 = 0 then [] else ltrN (k / 26)) ++ [97 + k % 26] := by
  by_cases h : k < 26
  · rw [ltrN_small h, if_pos (Nat.div_eq_of_lt h), Nat.mod_eq_of_lt h]
    rfl
  · rw [ltrN_big h, if_neg (by omega)]
theorem sgs_getD {i : Nat} (h : i < 94) : sgs[i]? = some (sgs.getD i 0) := by
  rw [List.getD_eq_getElem?_getD, List.getElem?_eq_getElem (by rw [sgs_len]; exact h)]
  rfl
theorem atI26 (k : Nat) : atI ltr ((k : Int) % 26) = some (97 + k % 26) := by
  have h := ltr_at (k := k % 26) (Nat.mod_lt _ (by decide))
  exact atN (by omega) (by rw [show ((k : Int) % 26).toNat = k % 26 by omega]; exact h)
theorem or2 {c t2 : Bool} {A B X : Prop} (hX : (if t2 = true then A else B) → X) (ha : (c = true ∨ t2 = true) → A) (hb : c = false → t2 = false → B) : if c = true then (if true = true then A else B) else X := by
  cases c with
  | true => exact ha (.inl rfl)
  | false =>
    refine hX ?_
    cases t2 with
    | true => exact ha (.inr rfl)
    | false => exact hb rfl rfl
end Np

set_option Elab.async false
set_option linter.all false
set_option maxRecDepth 100000
set_option maxHeartbeats 4000000
namespace L2
open PySem PySem.Spec PyProof.Rows
/-! ### an exception that leaves a comprehension -/
/-- as Fly, whatever stands in the mark of flight -/
structure FlyA (h : Heap) (e : Addr) (cls : Value) (T : Addr) : Prop where
  ob : ∃ t, h.get? e = some (excO cls t (.ref T))
  ne : T ≠ e
  tb : ∃ oT ts, h.get? T = some oT ∧ oT.data = .fields ts ∧ 3 < ts.size
section
variable {M : Model} {A : Around} {E : Value → Shared → Prop} {s : Shared} {e : Addr} {cls t tb0 : Value} {Q : Unit → Shared → Prop}
theorem flight_to {T : Addr} {h : Heap} {fr : Option Addr} (fl : FlyA h e cls T) (q : ∀ h', Trod [T] [] h h' → FlyA h' e cls T → Q () { s with heap := h' }) : wpAny M A (setFlight (.ref e) fr) Q E { s with heap := h } := by
  obtain ⟨⟨t, e1⟩, ne, oT, ts, e2, d, hz⟩ := fl
  unfold setFlight
  refine wpAny_bind (wpAny_field e1 rfl (x := .ref T) rfl ?_)
  rw [if_pos (by simp)]
  refine wpAny_setField e2 d hz (q _ (Trod.put e2 d _) ⟨⟨t, (Heap.get?_update_other _ _ ne).trans e1⟩, ne, _, _, Heap.get?_update_self _ e2 (Obj.isFreed_of_fields (Obj.data_mapFields d _)), Obj.data_mapFields d _, ?_⟩)
  rw [Array.size_setIfInBounds]
  exact hz
theorem pass_on {α : Type} {T : Addr} {h : Heap} {what : String} {env : Env} {Q : α → Shared → Prop} (fl : FlyA h e cls T) (q : ∀ h', Trod [T] [] h h' → FlyA h' e cls T → E (.ref e) { s with heap := h' }) : wpAny M A (passOn what (.ref e) env : Sem α) Q E { s with heap := h } := by
  obtain ⟨t, e1⟩ := fl.ob
  unfold PySem.passOn
  refine wpAny_bind (wpAny_field e1 rfl (x := .ref T) rfl ?_)
  rw [if_neg (by simp)]
  exact wpAny_bind (flight_to (s := s) fl fun h' tr fl' => wpAny_throw (q h' tr fl'))
theorem tail_n {g : Heap} {ob : Obj} {ts : Array Value} (he : g.get? e = some (excO cls t tb0)) (d : ob.data = .fields ts) (hz : 3 < ts.size)
    (q : ∀ h', Trod [e] [] g h' → FlyA h' e cls g.objs.size → Q () { s with heap := h' }) :
    wpAny M A (setField (.ref e) 1 (.ref g.objs.size)) Q E { s with heap := g.push ob } := by
  have hne : g.objs.size ≠ e := Nat.ne_of_gt (Heap.lt_size he)
  have h2 : (g.push ob).get? e = some (excO cls t tb0) := Heap.get?_push_of_some ob he
  refine wpAny_setField h2 rfl (by simp) ?_
  have h3 : ((g.push ob).update e (Obj.mapFields (·.setIfInBounds 1 (Value.ref g.objs.size)))).get? e = some (excO cls t (.ref g.objs.size)) :=
    (Heap.get?_update_self _ h2 rfl).trans rfl
  have hT : ((g.push ob).update e (Obj.mapFields (·.setIfInBounds 1 (Value.ref g.objs.size)))).get? g.objs.size = some ob :=
    (Heap.get?_update_other _ _ (Ne.symm hne)).trans (Heap.get?_push_size g (Obj.isFreed_of_fields d))
  have old : ∀ b o, b ≠ e → g.get? b = some o → ((g.push ob).update e (Obj.mapFields (·.setIfInBounds 1 (Value.ref g.objs.size)))).get? b = some o := fun b o nb q => (Heap.get?_update_other _ _ (Ne.symm nb)).trans (Heap.get?_push_of_some ob q)
  refine q _ ⟨fun b o na nf q => old b o (by simpa using na) q, fun b o na q => ⟨o.slots, old b o (by simpa using na) q⟩, fun b o q => ?_, ?_⟩ ⟨⟨t, h3⟩, hne, ob, ts, hT, d, hz⟩
  · by_cases hb : b = e
    · subst hb; exact ⟨_, h3⟩
    · exact ⟨_, old b o hb q⟩
  · rw [Heap.size_after_update, Heap.size_push]
    exact Nat.le_succ _
theorem note_n {base : Heap} {env : Env} {outer : List Env} {L T0 : Addr} (hfr : A.frames = some (env :: outer)) (hl : s.heap.FunFrames base (env :: outer)) (hf : env.frame = some L)
    (fl : Fly s.heap e cls T0) (q : ∀ h' T, Trod [e, T0] ((env :: outer).filterMap (·.frame)) s.heap h' → s.heap.objs.size ≤ T → FlyA h' e cls T → Q () { s with heap := h' }) :
    wpAny M A (noteFrame (.ref e) env) Q E s := by
  obtain ⟨⟨t, he⟩, ne, oT, ts, eT, dT, h3⟩ := fl
  unfold noteFrame
  simp only [hf]
  refine wpAny_bind (wpAny_field he rfl (x := .ref T0) rfl ?_)
  rw [if_pos (by simp)]
  refine wpAny_bind (wpAny_field eT dT h3 ?_)
  rw [if_neg (by simp [rawInt])]
  have hz := (Array.getElem?_eq_some_iff.mp h3).1
  refine wpAny_bind (wpAny_setField eT dT hz ?_)
  have tr := Trod.put (fs := (env :: outer).filterMap (·.frame)) eT dT (·.setIfInBounds 3 Value.none)
  have nT : ∀ b o, s.heap.get? b = some o → (∀ vs, o.data ≠ .fields vs) → b ∉ [T0] := fun b o eb nf hb => by
    have hb : b = T0 := by simpa using hb
    subst hb
    rw [eT] at eb
    cases eb
    exact nf _ dT
  have he' : (s.heap.update T0 (Obj.mapFields (·.setIfInBounds 3 Value.none))).get? e = some (excO cls t (.ref T0)) := (Heap.get?_update_other _ _ ne).trans he
  have hl' := hl.of_keeps (h' := s.heap.update T0 (Obj.mapFields (·.setIfInBounds 3 Value.none))) fun b o eb nf => by
    obtain ⟨sl, e1⟩ := tr.slot b o (nT b o eb nf) eb
    exact ⟨_, e1, rfl⟩
  have szU : (s.heap.update T0 (Obj.mapFields (·.setIfInBounds 3 Value.none))).objs.size = s.heap.objs.size := Heap.size_after_update ..
  generalize s.heap.update T0 (Obj.mapFields (·.setIfInBounds 3 Value.none)) = hU at tr he' hl' szU ⊢
  have nf : e ∉ (env :: outer).filterMap (·.frame) := fun hm => by
    obtain ⟨_, o, ho, nf⟩ := hl'.mem hm
    rw [he'] at ho
    cases ho
    exact nf _ rfl
  refine wpAny_bind (wpAny_frameOf_fun (s := { s with heap := hU }) hfr hl' hf fun g sg => wpAny_bind (wpAny_entryPlaceOf fun pl hp => ?_))
  unfold EntryCells.newEntry newFields
  refine wpAny_bind (wpAny_newObj_type ?_ (hp.sizeOk5 _ _ _ _ _))
  refine tail_n (s := s) ((sg.2.1 e nf).trans he') rfl (by simp only [List.size_toArray, List.length_append, List.length_cons, List.length_nil] <;> omega) fun h' tr2 fl => ?_
  have tr3 : Trod [e] ((env :: outer).filterMap (·.frame)) hU h' := by
    refine ⟨fun b o na nf eb => tr2.keep b o na (by simp) ((sg.2.1 b nf).trans eb), fun b o na eb => ?_, fun b o eb => ?_, Nat.le_trans (Nat.le_of_eq sg.1.symm) tr2.size⟩
    · obtain ⟨sl, e1⟩ := sg.2.2 b o eb
      obtain ⟨sl', e2⟩ := tr2.slot b _ na e1
      exact ⟨sl', e2⟩
    · obtain ⟨sl, e1⟩ := sg.2.2 b o eb
      exact tr2.there b _ e1
  refine q h' _ ((tr.mono (by simp) (fun _ z => z)).trans (tr3.mono (by simp) (fun _ z => z))) ?_ fl
  have := sg.1
  show s.heap.objs.size ≤ g.objs.size
  exact Nat.le_of_eq (szU.symm.trans this.symm)
theorem note_any {base : Heap} {env : Env} {outer : List Env} {L T0 : Addr} (hfr : A.frames = some (env :: outer)) (hl : s.heap.FunFrames base (env :: outer)) (hf : env.frame = some L)
    (fl : FlyA s.heap e cls T0) (q : ∀ h' T, Trod [e, T0] ((env :: outer).filterMap (·.frame)) s.heap h' → (T = T0 ∨ s.heap.objs.size ≤ T) → Fly h' e cls T → Q () { s with heap := h' }) :
    wpAny M A (noteFrame (.ref e) env) (fun _ s' => wpAny M A (setFlight (.ref e) none) Q E s') E s := by
  obtain ⟨⟨t, he⟩, ne, oT, ts, eT, dT, hz⟩ := fl
  unfold noteFrame
  simp only [hf]
  refine wpAny_bind (wpAny_field he rfl (x := .ref T0) rfl ?_)
  rw [if_pos (by simp)]
  refine wpAny_bind (wpAny_field eT dT (Array.getElem?_eq_getElem hz) ?_)
  by_cases c : (ts[3] == rawInt L) = true
  · rw [if_pos c]
    refine wpAny_pure ?_
    exact flight_off (s := s) (h := s.heap) he eT dT hz ne fun h' tr fl => q h' T0 (tr.mono (by simp) (fun _ z => absurd z (by simp))) (.inl rfl) fl
  rw [if_neg c]
  refine wpAny_bind (wpAny_setField eT dT hz ?_)
  have tr := Trod.put (fs := (env :: outer).filterMap (·.frame)) eT dT (·.setIfInBounds 3 Value.none)
  have nT : ∀ b o, s.heap.get? b = some o → (∀ vs, o.data ≠ .fields vs) → b ∉ [T0] := fun b o eb nf hb => by
    have hb : b = T0 := by simpa using hb
    subst hb
    rw [eT] at eb
    cases eb
    exact nf _ dT
  refine entry_x (base := base) hfr (hl.of_keeps fun b o eb nf => ?_) hf (cls := cls) (t := t) (tb0 := .ref T0) ((Heap.get?_update_other _ _ ne).trans he) fun h' T tr2 sz f2 => ?_
  · obtain ⟨sl, e1⟩ := tr.slot b o (nT b o eb nf) eb
    exact ⟨_, e1, rfl⟩
  · refine q h' T ((tr.mono (by simp) (fun _ z => z)).trans (tr2.mono (by simp) (fun _ z => z))) (.inr ?_) f2
    rw [Heap.size_after_update] at sz
    exact sz
end
theorem note_env {x : Value} {env env' : Env} (h : env.frame = env'.frame) : noteFrame x env = noteFrame x env' := by
  unfold noteFrame PySem.frameOf
  rw [h]
section
variable {X : Cx} {pins : List (Addr × Obj)} {σ : St} {H H' : Hp} {s s' : Shared} {E : XK} {h' : Heap} {b : Addr}
/-- the footprints that may turn are held -/
def Held (X : Cx) (pins : List (Addr × Obj)) : Prop := ∀ b ∈ X.ex, ∃ o, (b, o) ∈ pins
theorem Inv.fpXp (I : Inv X pins σ H s) (hex : Held X pins) (hb : s.heap.get? b = none) (hn : H' b = none) : FpX X pins H' b := by
  refine ⟨hn, fun z => ?_, ?_, fun x c e z => ?_, fun p hp z => ?_⟩
  · obtain ⟨m, ⟨o, _, _, ho, _⟩, _⟩ := I.loc
    rw [z, ho] at hb
    cases hb
  · cases q : X.s₀.heap.get? b with
    | none => rfl
    | some o =>
      obtain ⟨o', e⟩ := I.base.there b o q (fun hx => by
        obtain ⟨o2, h2⟩ := hex b hx
        have := (I.pin _ (List.mem_append_right _ h2)).1
        rw [hb] at this
        cases this)
      rw [hb] at e
      cases e
  · obtain ⟨v, o, ho, _⟩ := I.cell x c e
    rw [z, hb] at ho
    cases ho
  · have := (I.pin p hp).1
    rw [z, hb] at this
    cases this
theorem Inv.xpp {x : Value} (I : Inv X pins σ H s) (hex : Held X pins) (h : CXE X.prog X.w X.stack H s E x s') : XP X pins σ E x s' := by
  obtain ⟨e, C, T, H', rfl, os, bare, un, hok, fl, ⟨n1, n2⟩, ⟨m1, m2⟩, q⟩ := h
  exact ⟨e, C, T, H', rfl, I.call' os un hok bare (fun b z => absurd z (by simp)), fl, I.fpXp hex m1 n1, I.fpXp hex m2 n2, q⟩
def PXp (X : Cx) (e : Expr) (t : TX) : Prop :=
  ∀ (pins : List (Addr × Obj)) (s : Shared) (σ : St) (H : Hp) (Q : VK) (E : XK), Held X pins → Inv X pins σ H s → t σ H Q E → wpAny (model X.prog X.w) X.A (eval e X.env) (EP X pins σ Q) (XP X pins σ E) s
variable {k : Nat} {ps : List Str} {sp : Sp} {x : Str} {p pos : Pos} {e : Expr} {es : List Expr} {t : TA}
theorem px_defp (F : CalX X.prog X.w X.K X.mg X.base k x ps sp) (hr : Room k X.A) (hg : Gl X x) (ha : PA X.nox (e :: es) t) (hdb : (x == ("__debug__" : Str)) = false := by decide) (he : starEach (e :: es) X.env = (false, eval e X.env) :: starEach es X.env := by rfl) (hpl : (backTo pos (starEach es X.env)).any (·.1) = false := by rfl) :
    PXp X (.Call (.Name x p) (e :: es) [] pos) (fun σ H Q E => t σ H fun vs H1 => sp vs H1 Q E) := by
  obtain ⟨f, fd, hm, hk, hb, F⟩ := F.ex
  intro pins s σ H Q E hx I h
  refine wpAny_Call_Name_kw (ld_glob I hg hm ?_ hdb)
  refine PySem.W.callWith_K (h₀ := X.base) I.ok.mod.kin hk (wpAny_mono (ha pos pins s σ H _ (I.wish _) h) (fun us s1 ⟨vs, H1, I1, r, q⟩ => ⟨I1.unwish.kIn, ?_⟩) fun _ _ z => z.elim) he hpl
  have I2 := I1.unwish
  have hl : (us ++ []).length = ps.length := by rw [List.append_nil, ← r.length]; exact F.len _ _ _ _ q
  have hb' := hb s1 us I2.kIn hl
  rw [List.append_nil] at hb'
  refine wpAny_call (codeAny_mono (F.run X.A X.stack s1 H1 ⟨us, []⟩ us vs Q E hr I2.env0 hb' r q) fun r s' hq => ?_)
  cases r with
  | error e => exact I2.xpp hx hq
  | ok fl =>
    cases fl with
    | ret u => exact I2.after hq
    | next => exact False.elim hq
    | brk => exact False.elim hq
    | cont => exact False.elim hq
end
section
variable {P : Program} {w : World} {K : PySem.W.Frag} {mg : Str → Option Value} {base : Heap} {N : List Str} {qual : Str} {scope : Scope} {f : Addr} {cd : Value} {A : Around} {outer : List Env} {s : Shared} {H : Hp} {E : XK}
def XPA (X : Cx) (pins : List (Addr × Obj)) (σ : St) (E : XK) (x : Value) (s' : Shared) : Prop := ∃ e C T H', x = .ref e ∧ Inv X pins σ H' s' ∧ FlyA s'.heap e (.ref C) T ∧ FpX X pins H' e ∧ FpX X pins H' T ∧ E (.ref C) none H'
theorem XPA.leave {pins : List (Addr × Obj)} {σ : St} {x : Value} {s' : Shared} (h : XPA (cxOf (CXE P w) P w K mg base N qual scope f cd A outer s H E) pins σ E x s') : (cxOf (CXE P w) P w K mg base N qual scope f cd A outer s H E).xe x s' := by
  obtain ⟨e, C, T, H', rfl, I, fl, fe, fT, q⟩ := h
  refine wpAny_bind (note_any (base := base) I.ok.frames I.stack rfl fl fun h' T' tr sz fl' => ?_)
  have I2 := I.trod tr (fun b hb => by
    rcases List.mem_cons.mp hb with z | z
    · rw [z]; exact fe
    · have : b = T := by simpa using z
      rw [this]; exact fT)
  rcases sz with z | sz
  · subst z
    exact ⟨e, C, T', H', rfl, I2.os, I2.bare, I2.base, I2.hok, fl', ⟨fe.1, fT.1⟩, ⟨fe.2.2.1, fT.2.2.1⟩, q⟩
  · exact ⟨e, C, T', H', rfl, I2.os, I2.bare, I2.base, I2.hok, fl', ⟨fe.1, I.hok.fresh sz⟩, ⟨fe.2.2.1, Heap.get?_none_of_le (Nat.le_trans I.sz sz)⟩, q⟩
end
section
variable {prog : Program} {w : World} {A : Around} {R : Result → Shared → Prop} {s : Shared}
theorem compLoop_goX {elt target iter : Expr} {ifs : List Expr} {scope : Scope} {pos : Pos} {it acc : Value} {env : Env} (I : Nat → Shared → Prop) (EX : Value → Shared → Prop)
    (hEX : ∀ x s, EX x s → wpAny (model prog w) A (noteFrame x env) (fun _ s' => R (.error x) s') (fun _ _ => False) s)
    (turn : ∀ n s, I n s → wpAny (model prog w) A (pyNext it) (fun r s1 => match r with
      | none => R (.ok .next) s1
      | some v => wpAny (model prog w) A (letOwnedTupleGo target it v) (fun _ s1' => wpAny (model prog w) A (assign target env v) (fun _ s2 =>
          wpAny (model prog w) A (forIn ifs true fun c r => if r = true then do let ok ← isTrue c env (eval c env); pure (ForInStep.yield ok) else pure (ForInStep.yield r)) (fun ok s3 =>
            if ok = true then wpAny (model prog w) A (eval elt env) (fun x s4 =>
              wpAny (model prog w) A (call (.builtin "list.append") [acc, x]) (fun _ s5 => ∃ m, m < n ∧ I m s5) (fun _ _ => False) s4) EX s3
            else ∃ m, m < n ∧ I m s3) (fun _ _ => False) s2) (fun _ _ => False) s1') (fun _ _ => False) s1) (fun _ _ => False) s)
    (n : Nat) (h : I n s) :
    codeAny (model prog w) A (.compLoop (.ListComp elt [⟨target, iter, ifs, 0⟩] scope pos) 0 it acc env) R s := by
  refine codeAny_loop rfl I (fun n s hI => ?_) n h
  show wpAny _ A ((compTurn (.ListComp elt [⟨target, iter, ifs, 0⟩] scope pos) 0 it acc env).onRaise (fun x => do noteFrame x env; theTreesLotGoes x)) _ _ s
  refine wpAny_noted ?_
  rw [compTurn_list]
  refine wpAny_bind (wpAny_standAt (wpAny_bind (wpAny_mono (turn n s hI) (fun r s1 h1 => ?_) fun _ _ h' => h'.elim)))
  cases r with
  | none => exact wpAny_pure h1
  | some v =>
    refine wpAny_bind (wpAny_mono h1 (fun _ s1' h1' => ?_) fun _ _ h' => h'.elim)
    refine wpAny_bind (wpAny_mono h1' (fun _ s2 h2 => wpAny_bind (wpAny_mono h2 (fun ok s3 h3 => ?_) fun _ _ h' => h'.elim)) fun _ _ h' => h'.elim)
    cases ok with
    | false => exact wpAny_pure ⟨rfl, h3⟩
    | true =>
      exact wpAny_bind (wpAny_bind (wpAny_mono h3 (fun x s4 h4 => wpAny_bind (wpAny_mono h4 (fun _ s5 h5 => wpAny_pure (wpAny_pure ⟨rfl, h5⟩)) fun _ _ h' => h'.elim)) fun x s4 h' => wpAny_mono (hEX x s4 h') (fun _ _ z => z) fun _ _ z => z.elim))
end
section
variable {X : Cx} {pins : List (Addr × Obj)} {σ : St} {H : Hp} {s : Shared} {E : XK}
theorem comp_runX {elt iter tg : Expr} {ifs : List Expr} {ws : List Str} {pos ipos : Pos} {sh : V → Hp → List V → Prop} {g : TG} {RR : It → Hp → Prop} {caps : List (Nat × Str)} {scope : Scope} {wi : TI} {tt : TT} {tx : TX} {use : Option (Value → Sem Unit)} {Q : VK} {QQ : Value → Shared → Prop}
    (hst : X.stack = X.env :: X.outer ∧ X.env.frame = some X.env.locals) (hex : X.ex = []) (hlv : ∀ x s', XPA X pins σ E x s' → X.xe x s')
    (hc : X.calm = true) (hi : PI X tg iter wi) (hkd : scope.kind = .function) (hnc : ∀ y ∈ scope.names, y.2 ≠ .cell) (hlc : ∀ y ∈ scope.names, y.2 = .local → scope.names.lookup y.1 = some .local) (hcap : CapOk X scope caps) (hfree : ∀ y ∈ scope.names, y.2 = .free → X.env.scope.names.lookup y.1 = some .cell ∨ X.env.scope.names.lookup y.1 = some .free)
    (ht : ∀ cl s H fp, PTs (cxComp X (ws ++ caps.map (·.2)) scope cl s H fp) ifs tt) (he : ∀ cl s H fp, PXp (cxComp X (ws ++ caps.map (·.2)) scope cl s H fp) elt tx)
    (hpg : ∀ cl s H fp, PG { cxComp X (ws ++ caps.map (·.2)) scope cl s H fp with xe := fun _ _ => False } tg g) (hg : ∀ (pre cv : St) z H vs (R : St → Hp → Prop), pre.length = ws.length → sh z H vs → R (vs.map some ++ cv) H → g z (pre ++ cv) H R) (hln : ∀ z H vs, sh z H vs → vs.length = ws.length)
    (hs : ∀ v, foldedSetIterable iter X.env v = pure v)
    (I : Inv X pins σ H s) (h : wi σ H RR) (hR : ∀ J H1, RR J H1 → ∀ D, H1 D = none → tCompBG sh J (capV caps σ) tt (fun σ H Q => tx σ H Q E) D H1 Q)
    (fin : ∀ (D C : Addr) (H' : Hp) (s' : Shared) (m : Str → Option Value), Inv X pins σ H' s' → s'.heap.Ns C m → FpOk X pins H' C → Q (.ref D) H' → compPost (model X.prog X.w) X.A X.xe use QQ (.ref D) C (.ok .next) s') :
    wpAny (model X.prog X.w) X.A (comprehension (.ListComp elt [⟨tg, iter, ifs, 0⟩] scope pos) scope X.env ipos (newList []) false (eval iter X.env) use) QQ X.xe s := by
  obtain ⟨cl, ecl, hcl, hcl2⟩ := closureFor_ok (scope := scope) (env := X.env) (fun y hy hk => I.ok.has y.1 (hfree y hy hk))
  refine wpAny_comprehension_free (g := ⟨tg, iter, ifs, 0⟩) (gs := []) rfl hs ecl hkd hlc (thn (hi pins s σ H _ I h) fun v s1 h1 => thn h1 fun itv s2 h2 => ?_)
  obtain ⟨it, fp, tn, J, H2, e, I2, T, st2, f2, hD⟩ := h2
  subst e
  refine wpAny_newObj_type (wpAny_newFunctionEnv hnc (by intro y hy; simp at hy) (fun h3 hns3 hsb3 => ?_) hkd) (by size_fits)
  have I3 : Inv X pins σ (upd H2 s2.heap.objs.size (.lst [])) { s2 with heap := s2.heap.push { cls := .type "list", data := .seq ([] : List Value).toArray }, toks := s2.toks } := I2.lnew (ys := []) (its := []) .nil (Nat.zero_le _)
  generalize hS3 : ({ s2 with heap := s2.heap.push { cls := .type "list", data := .seq ([] : List Value).toArray }, toks := s2.toks } : Shared) = s3 at I3
  have hh3 : s3.heap = s2.heap.push { cls := .type "list", data := .seq ([] : List Value).toArray } := by rw [← hS3]
  obtain ⟨W, ⟨m0, w0⟩, turn⟩ := hR J H2 hD s2.heap.objs.size I2.fresh
  dsimp only at hns3 hsb3 ⊢
  have hk3 : ∀ b o, s3.heap.get? b = some o → h3.get? b = some o := fun b o eb => by
    rw [hh3] at eb
    exact hsb3.extBut b o (Nat.ne_of_lt (Heap.lt_size eb)) (Heap.get?_push_of_some _ eb)
  have hD0 : ∀ b ∈ fp, b ≠ s2.heap.objs.size := fun b hb => by
    obtain ⟨o, eo, _⟩ := T.obj _ _ st2 b hb
    exact Nat.ne_of_lt (Heap.lt_size eo)
  have hfp : ∀ b ∈ fp, FpOk X pins (upd H2 s2.heap.objs.size (.lst [])) b ∧ b < s3.heap.objs.size := fun b hb => by
    obtain ⟨o, eo, _⟩ := T.obj _ _ st2 b hb
    refine ⟨⟨by rw [upd_ne (hD0 b hb)]; exact (f2 b hb).1, (f2 b hb).2⟩, ?_⟩
    rw [hh3]
    exact Nat.lt_of_lt_of_le (Heap.lt_size eo) (by rw [Heap.size_push]; exact Nat.le_succ _)
  have hns3' : h3.Ns s3.heap.objs.size fun _ => none := by
    rw [hh3]
    exact hns3
  have I4 := inv_compG (ws := ws) (caps := caps) (scope := scope) (cl := cl) (fp := fp) (h1 := h3) (tk := s3.toks) I3 hkd hnc hcap hcl hcl2 hfp hk3 hns3'
  have tn3 : tn 0 h3 := T.keep _ _ _ st2 fun b hb o eo => hk3 b o (by rw [hh3]; exact Heap.get?_push_of_some _ eo)
  generalize hY : cxComp X (ws ++ caps.map (·.2)) scope cl s3 (upd H2 s2.heap.objs.size (.lst [])) fp = Y at I4
  have fpY : ∀ {H' : Hp}, (∀ b ∈ fp, H' b = none) → ∀ b ∈ fp, FpOk Y [] H' b := fun hn b hb => by
    subst hY
    refine ⟨hn b hb, Nat.ne_of_lt (hfp b hb).2, fun z => ?_, .inl hb, fun y c e => (hfp b hb).1.2.2.2.2.1 y c (hcl y c e), fun p hp => ?_⟩
    · rcases List.mem_cons.mp (I3.stkSub b z) with q | q
      · exact (hfp b hb).1.2.1 q
      · exact (hfp b hb).1.2.2.1 q
    · have hp' : p ∈ ([] : List (Addr × Obj)) := by simpa [cxComp] using hp
      cases hp'
  have fr4 : ∀ b ∈ fp, (upd H2 s2.heap.objs.size (.lst [])) b = none := fun b hb => (hfp b hb).1.1
  have eE : Y.env = compEnvC scope cl s3.heap.objs.size X.env := by subst hY; rfl
  have eP : Y.prog = X.prog := by subst hY; rfl
  have eW : Y.w = X.w := by subst hY; rfl
  have eK : Y.K = X.K := by subst hY; rfl
  have eA : Y.A = X.A := by subst hY; rfl
  have eC : Y.calm = true := by subst hY; exact hc
  have eX : Y.xe = fun _ _ => False := by subst hY; rfl
  have eF : Y.ex = fp := by subst hY; rfl
  have eS : Y.s₀ = s3 := by subst hY; rfl
  have PT_ : PTs Y ifs tt := by subst hY; exact ht cl _ _ _
  have PE_ : PXp Y elt tx := by subst hY; exact he cl _ _ _
  have PG_ : PG Y tg g := by
    subst hY
    exact hpg cl _ _ _
  have back : ∀ {y : St} {H' : Hp} {s' : Shared}, Inv Y [] (y ++ capV caps σ) H' s' → Inv X pins σ H' s' ∧ (∃ m, s'.heap.Ns s3.heap.objs.size m) ∧ FpOk X pins H' s3.heap.objs.size := fun {y H' s'} J' => by
    subst hY
    have J1 : Inv X pins σ H' s' := I3.call' (ch := fp) J'.os J'.base J'.hok J'.bare fun b hb => ⟨(hfp b hb).1.2.2.2.1, (hfp b hb).1.2.1, (hfp b hb).1.2.2.2.2.1, (hfp b hb).1.2.2.2.2.2⟩
    obtain ⟨m, hn, _⟩ := J'.loc
    exact ⟨J1, ⟨m, hn⟩, I3.fpOk (Nat.le_refl _) J'.free⟩
  have loop : ∀ (s4 : Shared) , Inv Y [] (ws.map (fun _ => none) ++ capV caps σ) (upd H2 s2.heap.objs.size (.lst [])) s4 → tn 0 s4.heap →
      codeAny (model X.prog X.w) X.A (.compLoop (.ListComp elt [⟨tg, iter, ifs, 0⟩] scope pos) 0 (.ref it) (.ref s2.heap.objs.size) Y.env)
        (compPost (model X.prog X.w) X.A X.xe use QQ (.ref s2.heap.objs.size) s3.heap.objs.size) s4 := by
    intro s4 I4 tn4
    refine compLoop_goX (fun n s' => ∃ i y H', y.length = ws.length ∧ Inv Y [] (y ++ capV caps σ) H' s' ∧ tn i s'.heap ∧ (∀ b ∈ fp, H' b = none) ∧ W i n H')
      (fun x s' => ∃ e C T H' y, x = .ref e ∧ Inv Y [] (y ++ capV caps σ) H' s' ∧ Fly s'.heap e (.ref C) T ∧ (H' e = none ∧ s3.heap.get? e = none ∧ e ≠ s3.heap.objs.size) ∧ (H' T = none ∧ s3.heap.get? T = none ∧ T ≠ s3.heap.objs.size) ∧ E (.ref C) none H') ?_ ?_ m0 ⟨0, _, _, List.length_map _, I4, tn4, fr4, w0⟩
    · rintro x s5 ⟨e, C, T', H', y, rfl, J', fl, ⟨n1, m1, l1⟩, ⟨n2, m2, l2⟩, q⟩
      obtain ⟨J1, ⟨m, hn⟩, fC⟩ := back J'
      have f1 : FpX X pins H' e := I3.fpX hex m1 n1
      have f2 : FpX X pins H' T' := I3.fpX hex m2 n2
      have ee : Y.env.frame = X.env.frame := by rw [eE]; rfl
      rw [note_env ee]
      refine note_n (base := X.base) (env := X.env) (outer := X.outer) (by rw [← hst.1]; exact J1.ok.frames) (by rw [← hst.1]; exact J1.stack) hst.2 fl fun h6 T6 tr sz fl6 => ?_
      have J2 : Inv X pins σ H' { s5 with heap := h6 } := J1.trod (by rw [hst.1]; exact tr) (fun b hb => by
        rcases List.mem_cons.mp hb with z | z
        · rw [z]; exact f1
        · have : b = T' := by simpa using z
          rw [this]; exact f2)
      have f6 : FpX X pins H' T6 := J1.fpX hex (Heap.get?_none_of_le sz) (J1.hok.fresh sz)
      have hn6 : ∃ m, h6.Ns s3.heap.objs.size m := by
        obtain ⟨o, es, ep, ho, r⟩ := hn
        obtain ⟨sl, e'⟩ := tr.slot _ o (fun z => by
          rcases List.mem_cons.mp z with z | z
          · exact l1 z.symm
          · have z : s3.heap.objs.size = T' := by simpa using z
            exact l2 z.symm) ho
        exact ⟨m, _, es, ep, e', r⟩
      obtain ⟨m6, hn6⟩ := hn6
      have gone : ∃ m, h6.Ns s3.heap.objs.size m ∧ ∀ h7, Heap.SameBut s3.heap.objs.size h6 h7 → ∀ cenv : Env, cenv.locals = s3.heap.objs.size → wpAny (model X.prog X.w) X.A (passOn "comprehension.variables-let-go" (.ref e) cenv : Sem Value) (fun _ _ => False) X.xe { s5 with heap := h7 } := by
        refine ⟨m6, hn6, fun h7 sb cenv _ => ?_⟩
        have J3 : Inv X pins σ H' { s5 with heap := h7 } := J2.turned (s := { s5 with heap := h6 }) (h' := h7) (it := s3.heap.objs.size) (t' := s5.toks) (fun b o hb e => sb.extBut b o hb e) fC.1 fC.2.1 fC.2.2.2.1 fC.2.2.2.2.1 fC.2.2.2.2.2
        have nT6 : T6 ≠ s3.heap.objs.size := fun z => by
          obtain ⟨o, es, ep, ho, r⟩ := hn
          have := Heap.lt_size ho
          exact absurd (z ▸ sz) (Nat.not_le_of_lt this)
        have fl7 : FlyA h7 e (.ref C) T6 := by
          obtain ⟨⟨t, e1⟩, ne, oT, ts, e2, d, hz⟩ := fl6
          exact ⟨⟨t, sb.extBut _ _ l1 e1⟩, ne, oT, ts, sb.extBut _ _ nT6 e2, d, hz⟩
        refine pass_on (s := s5) fl7 fun h8 tr8 fl8 => hlv _ _ ⟨e, C, T6, H', rfl, ?_, fl8, f1, f6, q⟩
        exact J3.trod (tr8.mono (fun _ z => z) (fun _ z => absurd z (by simp))) (fun b hb => by
          have : b = T6 := by simpa using hb
          rw [this]; exact f6)
      cases use <;> exact gone
    rintro n s5 ⟨i, y, H5, ly, I5, st5, fr5, w5⟩
    rcases turn i n H5 w5 with ⟨stop, qn⟩ | ⟨go, step⟩
    · have := T.done Y eP eW eK eC i [] s5 _ H5 (fun _ _ => False) I5 (fpY fr5) st5 stop
      rw [eA] at this
      refine thn this fun r s6 ⟨hr, I6⟩ => ?_
      subst hr
      obtain ⟨J1, ⟨m, hn⟩, fC⟩ := back I6
      exact fin _ _ H5 s6 m J1 hn fC qn
    · have := T.item Y eP eW eK eC i [] s5 _ H5 (fun _ _ => False) I5 (fpY fr5) st5 go
      rw [eA] at this
      refine thn this fun r s6 ⟨u, hr, h6⟩ => ?_
      subst hr
      refine thn h6 fun _ s7 ⟨z, H7, I7, r7, y7, st7, fr7⟩ => ?_
      have I7' := I7.pinned (fpY fr7) (T.obj _ _ st7)
      obtain ⟨vs, hsh, step⟩ := step z H7 y7
      have a1 := PG_ _ s7 _ H7 z u _ I7' r7 (hg y (capV caps σ) z H7 vs (fun σ' H' => σ' = vs.map some ++ capV caps σ ∧ H' = H7) ly hsh ⟨rfl, rfl⟩)
      rw [eP, eW, eA, eX] at a1
      refine thn a1 fun _ s8 ⟨σ8, H8, I8, e8, e8'⟩ => ?_
      subst e8 e8'
      have a2 := PT_ _ s8 _ H8 _ I8 step
      rw [eP, eW, eA, eX] at a2
      refine thn a2 fun ok s9 ⟨H9, I9, q9⟩ => ?_
      have again : ∀ {H' : Hp} {s' : Shared} {m' : Nat}, Inv Y ([] ++ pinsAt fp s7.heap) (vs.map some ++ capV caps σ) H' s' → m' < n → W (i + 1) m' H' → ∃ m, m < n ∧ ∃ i y H', y.length = ws.length ∧ Inv Y [] (y ++ capV caps σ) H' s' ∧ tn i s'.heap ∧ (∀ b ∈ fp, H' b = none) ∧ W i m H' := fun {H' s' m'} J lt w' => by
        refine ⟨m', lt, i + 1, vs.map some, H', by rw [List.length_map]; exact hln _ _ _ hsh, J.unpinned, T.keep _ _ _ st7 fun b hb o e => (J.pin (b, o) (List.mem_append_right _ (List.mem_append_right _ (mem_pinsAt hb e)))).1, fun b hb => ?_, w'⟩
        obtain ⟨o, e, d⟩ := T.obj _ _ st7 b hb
        exact (J.pin (b, o) (List.mem_append_right _ (List.mem_append_right _ (mem_pinsAt hb e)))).2.1
      cases ok with
      | false =>
        obtain ⟨m', lt, w'⟩ := q9
        exact again I9 lt w'
      | true =>
        have hld : Held Y ([] ++ pinsAt fp s7.heap) := fun b hb => by
          rw [eF] at hb
          obtain ⟨o, e, d⟩ := T.obj _ _ st7 b hb
          exact ⟨o, List.mem_append_right _ (mem_pinsAt hb e)⟩
        have a3 := PE_ _ s9 _ H9 _ E hld I9 q9
        rw [eP, eW, eA] at a3
        refine wpAny_mono a3 (fun uv s10 ⟨v, H10, I10, r10, ys, hys, hlt, m', lt, w'⟩ => ?_) fun x s10 ⟨e, C, T', H', ex, I10, fl, fe, fT, q⟩ => ⟨e, C, T', H', vs.map some, ex, I10.unpinned, fl, ⟨fe.1, by have := fe.2.2.1; rw [eS] at this; exact this, by have := fe.2.1; rw [eE] at this; exact this⟩, ⟨fT.1, by have := fT.2.2.1; rw [eS] at this; exact this, by have := fT.2.1; rw [eE] at this; exact this⟩, q⟩
        have a4 := mt_append (X := Y) _ s10 _ H10 (.ref s2.heap.objs.size) [v] (.ref s2.heap.objs.size) [uv] (fun v' H' => H' = upd H10 s2.heap.objs.size (.lst (ys ++ [v]))) I10 rfl (.cons r10 .nil) ⟨_, ys, v, rfl, rfl, hys, hlt, rfl⟩
        rw [eP, eW, eA, eX] at a4
        refine thn a4 fun _ s11 ⟨v11, H11, I11, _, e11⟩ => ?_
        subst e11
        exact again I11 lt w'
  have L := loop { s3 with heap := h3, toks := s3.toks } I4 tn3
  rw [eE] at L
  refine codeAny_compStart_list L (T.self _ 0 _ _ _ (by exact tn3) L)
theorem comp_runX1 {elt iter : Expr} {ifs : List Expr} {x : Str} {px pos ipos : Pos} {caps : List (Nat × Str)} {scope : Scope} {wi : TI} {tt : TT} {tx : TX} {use : Option (Value → Sem Unit)} {Q : VK} {QQ : Value → Shared → Prop}
    (hst : X.stack = X.env :: X.outer ∧ X.env.frame = some X.env.locals) (hex : X.ex = []) (hlv : ∀ x s', XPA X pins σ E x s' → X.xe x s')
    (hc : X.calm = true) (hi : PI X (.Name x px) iter wi) (S : CompSc scope x) (hcap : CapOk X scope caps) (hfree : ∀ y ∈ scope.names, y.2 = .free → X.env.scope.names.lookup y.1 = some .cell ∨ X.env.scope.names.lookup y.1 = some .free)
    (ht : ∀ cl s H fp, PTs (cxComp X (x :: caps.map (·.2)) scope cl s H fp) ifs tt) (he : ∀ cl s H fp, PXp (cxComp X (x :: caps.map (·.2)) scope cl s H fp) elt tx)
    (hs : ∀ v, foldedSetIterable iter X.env v = pure v) (nd : (x :: caps.map (·.2)).Nodup)
    (I : Inv X pins σ H s) (h : tComp wi caps tt (fun σ H Q => tx σ H Q E) σ H Q)
    (fin : ∀ (D C : Addr) (H' : Hp) (s' : Shared) (m : Str → Option Value), Inv X pins σ H' s' → s'.heap.Ns C m → FpOk X pins H' C → Q (.ref D) H' → compPost (model X.prog X.w) X.A X.xe use QQ (.ref D) C (.ok .next) s') :
    wpAny (model X.prog X.w) X.A (comprehension (.ListComp elt [⟨.Name x px, iter, ifs, 0⟩] scope pos) scope X.env ipos (newList []) false (eval iter X.env) use) QQ X.xe s :=
  comp_runX (ws := [x]) (g := gName 0) (sh := fun z _ vs => vs = [z]) hst hex hlv hc hi S.kind S.nocell S.locs hcap hfree ht he
    (fun cl s H fp => pg_name nd rfl (.inl (lookup_relabel_local S.own)) (.inr (lookup_relabel_local S.own)))
    (fun pre cv z H vs R hl e r => by
      subst e
      match pre, hl with
      | [p], _ => exact r)
    (fun z H vs e => by subst e; rfl) hs I h (fun J H1 r D hD => (r D hD).imp fun W w => ⟨w.1, fun i m H' w' => (w.2 i m H' w').imp id fun q => ⟨q.1, fun x H2 y => ⟨[x], rfl, q.2 x H2 y⟩⟩⟩) fin
end
section
variable {P : Program} {w : World} {K : PySem.W.Frag} {mg : Str → Option Value} {base : Heap} {N : List Str} {qual : Str} {scope0 : Scope} {f : Addr} {cd : Value} {A : Around} {outer : List Env} {s0 : Shared} {H0 : Hp} {E : XK}
/-- y = [elt for x in iter], the element may raise -/
theorem ps_setCompX {elt iter : Expr} {ifs : List Expr} {x y : Str} {px py pos spos : Pos} {caps : List (Nat × Str)} {scope : Scope} {wi : TI} {tt : TT} {tx : TX} {i : Nat} (hN : (cxOf (CXE P w) P w K mg base N qual scope0 f cd A outer s0 H0 E).N.Nodup) (hi' : (cxOf (CXE P w) P w K mg base N qual scope0 f cd A outer s0 H0 E).N[i]? = some y) (hx : Loc (cxOf (CXE P w) P w K mg base N qual scope0 f cd A outer s0 H0 E).env.scope y)
    (hc : (cxOf (CXE P w) P w K mg base N qual scope0 f cd A outer s0 H0 E).calm = true) (hi : PI (cxOf (CXE P w) P w K mg base N qual scope0 f cd A outer s0 H0 E) (.Name x px) iter wi) (S : CompSc scope x) (hcap : CapOk (cxOf (CXE P w) P w K mg base N qual scope0 f cd A outer s0 H0 E) scope caps) (hfree : freeB scope (cxOf (CXE P w) P w K mg base N qual scope0 f cd A outer s0 H0 E).env.scope = true)
    (nd : (x :: caps.map (·.2)).Nodup)
    (ht : ∀ cl s H fp, PTs (cxComp (cxOf (CXE P w) P w K mg base N qual scope0 f cd A outer s0 H0 E) (x :: caps.map (·.2)) scope cl s H fp) ifs tt) (he : ∀ cl s H fp, PXp (cxComp (cxOf (CXE P w) P w K mg base N qual scope0 f cd A outer s0 H0 E) (x :: caps.map (·.2)) scope cl s H fp) elt tx)
    (hs : ∀ v, foldedSetIterable iter (cxOf (CXE P w) P w K mg base N qual scope0 f cd A outer s0 H0 E).env v = pure v := by intro _; rfl)
    (hsw : swapsWith (.ListComp elt [⟨.Name x px, iter, ifs, 0⟩] scope pos) (some (.Name y py)) spos.line (cxOf (CXE P w) P w K mg base N qual scope0 f cd A outer s0 H0 E).env = pure true := by rfl)
    (hf : (cxOf (CXE P w) P w K mg base N qual scope0 f cd A outer s0 H0 E).fn y = true ∨ (cxOf (CXE P w) P w K mg base N qual scope0 f cd A outer s0 H0 E).env.scope.names.lookup y = some .local := by first | exact .inl rfl | exact .inr rfl | assumption) :
    PS (cxOf (CXE P w) P w K mg base N qual scope0 f cd A outer s0 H0 E) (.Assign [.Name y py] (.ListComp elt [⟨.Name x px, iter, ifs, 0⟩] scope pos) spos) (tAsg (tComp wi caps tt (fun σ H Q => tx σ H Q E)) (gName i)) := by
  intro pins s σ H D I h
  rw [exec_Assign_Name_used _ _ _ _ hsw]
  refine wpAny_bind (wpAny_standAt (wpAny_bind ?_))
  show wpAny _ _ (do let _ ← comprehension (.ListComp elt [⟨.Name x px, iter, ifs, 0⟩] scope pos) scope (cxOf (CXE P w) P w K mg base N qual scope0 f cd A outer s0 H0 E).env _ (newList []) false (eval iter (cxOf (CXE P w) P w K mg base N qual scope0 f cd A outer s0 H0 E).env) (some (assign (.Name y py) (cxOf (CXE P w) P w K mg base N qual scope0 f cd A outer s0 H0 E).env))) _ _ s
  refine wpAny_bind (wpAny_mono (comp_runX1 (X := cxOf (CXE P w) P w K mg base N qual scope0 f cd A outer s0 H0 E) (E := E) (use := some (assign (.Name y py) (cxOf (CXE P w) P w K mg base N qual scope0 f cd A outer s0 H0 E).env)) (QQ := fun _ s' => SP (cxOf (CXE P w) P w K mg base N qual scope0 f cd A outer s0 H0 E) pins D .next s') ⟨rfl, rfl⟩ rfl (fun x s' z => z.leave) hc hi S hcap (freeB_ok hfree) ht he hs nd I h fun D' C H' s' m I' hn fC q => ?_)
    (fun _ s' hq => wpAny_pure (wpAny_pure hq)) fun _ _ e => e)
  show wpAny _ _ (assign (.Name y py) (cxOf (CXE P w) P w K mg base N qual scope0 f cd A outer s0 H0 E).env (.ref D')) _ _ s'
  refine wpAny_assign_Name (store_ok2 I' hN hi' hx (v := .ref D') rfl (fun s2 I2 hh => ?_) hf)
  obtain ⟨a, sb, ha⟩ := hh
  have hCa : C ≠ a := by
    rcases ha with e | e
    · rw [e]; exact fC.2.1
    · exact fun z => fC.2.2.2.2.1 y a e z.symm
  refine ⟨m, hn.sameBut sb hCa, fun h' sb' => ⟨σ.set i (some (.ref D')), H', ?_, q⟩⟩
  exact I2.turned (it := C) (t' := s2.toks) (fun b o hb e => sb'.extBut b o hb e) fC.1 fC.2.1 fC.2.2.2.1 fC.2.2.2.2.1 fC.2.2.2.2.2
end
end L2

set_option Elab.async false
set_option linter.all false
set_option maxRecDepth 100000
set_option maxHeartbeats 4000000
namespace L2
open PySem PySem.Spec PyProof.Rows
section
variable {X : Cx} {pins : List (Addr × Obj)} {σ : St} {H : Hp} {s : Shared}
/-- a name of ours is let go -/
theorem name_gone {A : Around} {E : Value → Shared → Prop} {i : Nat} {x : Str} {pos : Pos} {Q : Unit → Shared → Prop} (I : Inv X pins σ H s) (hN : X.N.Nodup) (hi : X.N[i]? = some x) (hk : X.env.kindOf x = some .local)
    (h : ∀ s', Inv X pins (σ.set i none) H s' → Q () s') : wpAny (model X.prog X.w) A (do bindName X.env x .none; unbindBehindTheSuite X.env x pos) Q E s := by
  obtain ⟨m, hn, hl⟩ := I.loc
  have hcls : (X.env.scope.kind == .class || (X.env.scope.kind == .module && X.env.locals != X.env.globals)) = false := by rw [I.ok.kind]; rfl
  have cne : ∀ y c, X.env.cells.lookup y = some c → c ≠ X.env.locals := fun y c e z => by
    obtain ⟨w', o, ho, hd⟩ := I.cell y c e
    obtain ⟨oL, es, ep, hoL, hdL, _⟩ := id hn
    rw [z, hoL] at ho
    cases ho
    rw [hdL] at hd
    cases hd
  refine wpAny_nameGoes_keeps hk hn hcls fun h' v hn' hs => h _ ?_
  refine ⟨I.ok, I.os, I.bare, ⟨fun b o e n hb hx => ?_, fun b o e n hb hx => ?_, I.base.free, fun b o e hx => ?_, I.base.tups, I.base.frzs, I.base.tbls⟩, ⟨_, hn', fun j y v' e1 e2 e3 => ?_⟩, fun y c e => ?_, I.free, I.freeC, fun p hp => ?_, fun b u e => ?_, by simpa using I.len⟩
  · exact (hs.2 b (Nat.ne_of_lt (Nat.lt_of_lt_of_le (Heap.lt_size e) I.ok.above))).trans (I.base.keep b o e n hb hx)
  · obtain ⟨sl, e1⟩ := I.base.slot b o e n hb hx
    exact ⟨sl, (hs.2 b (Nat.ne_of_lt (Nat.lt_of_lt_of_le (Heap.lt_size e) I.ok.above))).trans e1⟩
  · obtain ⟨o', e1⟩ := I.base.there b o e hx
    exact ⟨o', (hs.2 b (Nat.ne_of_lt (Nat.lt_of_lt_of_le (Heap.lt_size e) I.ok.above))).trans e1⟩
  · by_cases hj : j = i
    · subst hj
      rw [List.getElem?_set] at e2
      split at e2
      · split at e2 <;> cases e2
      · rename_i z; exact absurd rfl z
    · rw [List.getElem?_set_ne (Ne.symm hj)] at e2
      obtain ⟨u', r', q⟩ := hl j y v' e1 e2 e3
      refine ⟨u', r', ?_⟩
      rcases q with ⟨k, e⟩ | ⟨k, c, e, z⟩
      · refine .inl ⟨k, ?_⟩
        have : y ≠ x := fun e => hj (nodup_ix hN e1 (e ▸ hi))
        simp [this, e]
      · exact .inr ⟨k, c, e, z.sameBut hs (cne y c e)⟩
  · obtain ⟨w', z⟩ := I.cell y c e
    exact ⟨w', z.sameBut hs (cne y c e)⟩
  · obtain ⟨e, n, ne, nf, d⟩ := I.pin p hp
    exact ⟨(hs.2 p.1 ne).trans e, n, ne, nf, d⟩
  · have nl : ∀ b u, H b = some u → b ≠ X.env.locals := fun b u e z => by rw [z, I.free] at e; cases e
    refine (I.hok b u e).stay (fun c v hc q => (hs.2 c ?_).trans q) (fun _ q => q) fun _ _ q => q
    rcases hc with z | z
    · rw [z]; exact nl b u e
    · exact nl c _ z
end
/-! ### try: one statement; except: one own class, named -/
def Ends.drop (D : Ends) (i : Nat) : Ends := { nx := fun σ H => D.nx (σ.set i none) H, ct := fun σ H => D.ct (σ.set i none) H, bk := fun σ H => D.bk (σ.set i none) H, rt := D.rt }
def tTryAs (K : PySem.W.Frag) (D : Addr) (i : Nat) (tb : TSX) (ts : Addr → Addr → TS) : TS := fun De σ H => tb De (fun cls _ H' => ∃ C, cls = .ref C ∧ PySem.W.mroIn K C (.ref D) = some true ∧ ∀ e, H' e = none → ts e C (De.drop i) (σ.set i (some (.ref e))) H') σ H
theorem ps_tryAs {X : Cx} {st b₀ : Stmt} {suite : List Stmt} {x n : Str} {np hpos pos : Pos} {tb : TSX} {ts : Addr → Addr → TS} {D : Addr} {i : Nat} (hN : X.N.Nodup) (hi : X.N[i]? = some n) (hk : X.env.kindOf n = some .local) (hst : X.stack = X.env :: X.outer ∧ X.env.frame = some X.env.locals) (hex : X.ex = []) (hb : PSx X st tb) (hg : Gl X x) (hm : X.mg x = some (.ref D)) (hD : PySem.W.excIn X.K D bmV "ValueError.__new__" = true)
    (hs : ∀ (e C : Addr) (t tb : Value), HdX (X.inX e (excO (.ref C) t tb)) → PSs (X.inX e (excO (.ref C) t tb)) (b₀ :: suite) (ts e C)) (hdb : (x == ("__debug__" : Str)) = false := by decide) :
    PS X (.Try [st] [.ExceptHandler (some (.Name x np)) (some n) (b₀ :: suite) hpos] [] [] pos) (tTryAs X.K D i tb ts) := by
  intro pins s σ H De I h
  refine wpAny_Try_except (wpAny_execs_cons (wpAny_mono (hb pins s σ H De _ I h) (fun f s1 q => ?_) fun x s1 q => ?_))
  · cases f with
    | next => exact wpAny_execs_nil (wpAny_execs_nil q)
    | ret v => exact q
    | brk => exact q
    | cont => exact q
  · obtain ⟨e, C, T, H1, rfl, I1, fl, fe, fT, C', ec, sub, q⟩ := q
    cases ec
    have q := q e fe.1
    have ae : ∀ b ∈ [e, T], FpX X pins H1 b := fun b hb => by
      rcases List.mem_cons.mp hb with z | z
      · rw [z]; exact fe
      · have : b = T := by simpa using z
        rw [this]; exact fT
    refine note_next (base := X.base) (env := X.env) (outer := X.outer) (by rw [← hst.1]; exact I1.ok.frames) (by rw [← hst.1]; exact I1.stack) hst.2 fl fun h2 T2 tr sz fl2 => ?_
    have I2 : Inv X pins σ H1 { s1 with heap := h2 } := I1.trod (by rw [hst.1]; exact tr) ae
    have fT2 : FpX X pins H1 T2 := I1.fpX hex (Heap.get?_none_of_le sz) (I1.hok.fresh sz)
    obtain ⟨bm, N, nm, qn, bs, hdct, sn, sub', ab, col, dd, k0, k1, k2, k3, k5, mN, hC, hN', hni, TL⟩ := exc_obj I.ok.mod.kin hD
    obtain ⟨⟨t2, he2⟩, ne2, oT, tts, eT, dT, h3⟩ := id fl2
    have I3 := I2.inX he2 ⟨_, rfl⟩ fe.1
    refine wpAny_handleBy_cons (codeAny_handlers_test (ld_glob (X := X.inX e (excO (.ref C) t2 (.ref T2))) I3 hg hm ?_ hdb)) (by intro q; cases q)
    refine matches_own (b := true) (C := C) (fun Q hq => PySem.W.looks_mroIn I2.kIn sub _ _ _ _ (fun _ _ q => q) hq) (I2.bk _ _ hC) he2 rfl (TL.hasType (by decide)) (codeAny_handlers_suite_as ?_)
    refine flight_off (s := s1) he2 eT dT (Array.getElem?_eq_some_iff.mp h3).1 ne2 fun h4 tr4 fl4 => ?_
    have I4 : Inv X pins σ H1 { s1 with heap := h4 } := I2.trod (tr4.mono (fun _ z => z) (fun _ z => absurd z (by simp))) (fun b hb => by
      have : b = T2 := by simpa using hb
      rw [this]; exact fT2)
    obtain ⟨t4, he4⟩ := fl4.ob
    have I5 := I4.inX he4 ⟨_, rfl⟩ fe.1
    refine store_ok (X := X.inX e (excO (.ref C) t4 (.ref T2))) I5 hN hi (.inl hk) (v := .ref e) rfl (fun s5 I6 => ?_) (.inr hk)
    refine wpAny_mono (hs e C t4 (.ref T2) inX_hd pins _ _ H1 (De.drop i) I6 q) (fun f s6 q6 => ?_) fun _ _ z => z.elim
    have go : ∀ {σ' : St} {H' : Hp} {R : Shared → Prop}, Inv (X.inX e (excO (.ref C) t4 (.ref T2))) pins σ' H' s6 → (∀ s7, Inv X pins (σ'.set i none) H' s7 → R s7) → wpAny (model X.prog X.w) X.A (do bindName X.env n .none; unbindBehindTheSuite X.env n hpos) (fun _ s7 => R s7) X.xe s6 := fun {σ' H' R} J k => name_gone (J.ofX I.ok.hd) hN hi hk k
    cases f with
    | next => obtain ⟨σ', H', J, z⟩ := q6; exact go J fun s7 J7 => ⟨_, H', J7, z⟩
    | brk => obtain ⟨σ', H', J, z⟩ := q6; exact go J fun s7 J7 => ⟨_, H', J7, z⟩
    | cont => obtain ⟨σ', H', J, z⟩ := q6; exact go J fun s7 J7 => ⟨_, H', J7, z⟩
    | ret u => obtain ⟨v, σ', H', J, r, z⟩ := q6; exact go J fun s7 J7 => ⟨v, _, H', J7, r, z⟩
/-! ### isinstance of an own exception -/
section
open PySem.W
/-- what the fragment tells of an own class of exceptions -/
structure ExcF (K : Frag) (C : Addr) : Prop where
  cl : (clsIn K C).isSome = true
  ga : findIn K (.ref C) "__getattribute__" = some (some (.builtin "BaseException.__getattribute__"))
  gt : findIn K (.ref C) "__getattr__" = some none
  ca : findIn K (.ref C) "__class__" = some (some (.builtin "object.__class__"))
  gs : specialIn K (.builtin "object.__class__") "__get__" = some (some (.builtin "getset_descriptor.__get__"))
  tk : takesIn K (.builtin "object.__class__") = some true
  mo : mroIn K C (.type "object") = some true
  mb : mroIn K C (.type "BaseException") = some true
variable {K : Frag} {prog : Program} {w : World} {A : Around} {E : Value → Shared → Prop} {s : Shared} {x C : Addr} {ox : Obj}
theorem cls_exc {bm : List Value} {n : String} (q : excIn K C bm n = true) : (clsIn K C).isSome = true := by
  unfold excIn at q
  split at q
  · rename_i lk
    unfold clsIn
    rw [lk]
    rfl
  · cases q
theorem exc_entry {tk : Tok} {Q : Fin → Shared → Prop} (Z : ExcF K C) (X : K.In s.heap) (I : InstAt s.heap x ox C none) (h : Q (.done (.ret (.ref C))) s) : wpAny (model prog w) A (Builtin.«object.__getattribute__» ⟨[.ref x, .str "__class__" tk], []⟩) Q E s := by
  have hf : findObj K C none "__class__" = some (.bind (.builtin "getset_descriptor.__get__") (.builtin "object.__class__")) := by
    obtain ⟨cd, hc⟩ := Option.isSome_iff_exists.mp Z.cl
    unfold findObj
    rw [hc, Option.bind_some, Z.ca, Option.bind_some]
    simp [Z.gs, Z.tk]
  obtain ⟨hh, gg, d, t, os⟩ := s
  have L0 := I.type (M := model prog w)
  have L1 := looks_find (M := model prog w) X I hf
  refine wpAny_bind (wpAny_pure (wpAny_bind (wpAny_pure (wpAny_bind (L0.at (wpAny_bind (L1.at ?_)))))))
  show wpAny _ _ (holding [.builtin "object.__class__"] (call (.builtin "getset_descriptor.__get__") [.builtin "object.__class__", .ref x, .ref C]) >>= ret) _ _ _
  exact wpAny_bind (wpAny_holding (wpAny_call (class_get (s := ⟨hh, gg, d, t, os⟩) (ox := ox) (od := none) X I Z.mo (wpAny_pure h))))
theorem exc_check {M : Model} {nameV : Value} {Q : Unit → Shared → Prop} (Z : ExcF K C) (X : K.In s.heap) (I : InstAt s.heap x ox C none) (hq : Q () s) : wpAny M A (checkBuiltinCall "BaseException.__getattribute__" ⟨[.ref x, nameV], []⟩) Q E s := by
  have hk : builtinKind "BaseException.__getattribute__" = some .slot := by decide +kernel
  have hsplit : splitId "BaseException.__getattribute__" = some ("BaseException", "__getattribute__") := by decide +kernel
  have ha := F.args_bexc_ga (.ref x) nameV
  have L0 := I.type (M := M)
  have L1 := looks_mroIn (M := M) X Z.mb
  have LI : Looks M s.heap (isInstance (.ref x) (.type "BaseException")) true := L0.andThen L1
  obtain ⟨hh, gg, d, t, os⟩ := s
  simp only [checkBuiltinCall, hk, hsplit]
  refine wpAny_bind (LI.at ?_)
  repeat (any_goals (first | assumption | wp_step))
theorem exc_class {Q : Option Value → Shared → Prop} (Z : ExcF K C) (X : K.In s.heap) (I : InstAt s.heap x ox C none) (h : Q (some (.ref C)) { s with toks := s.toks + 1 }) : wpAny (model prog w) A (getAttr? (.ref x) "__class__") Q E s := by
  obtain ⟨hh, g, d, t, os⟩ := s
  have L0 := I.type (M := model prog w)
  have L1 := looks_findIn (M := model prog w) X Z.ga
  have L2 := looks_findIn (M := model prog w) X Z.gt
  unfold getAttr? getAttrBy? getAttrBy
  refine wpAny_bind (wpAny_mkText (wpAny_bind (wpAny_attempt (wpAny_holding (wpAny_bind (L0.at (wpAny_bind (L1.at ?_))))))))
  show wpAny _ _ (getAttrByItsOwn _ _ _ _ _ _) _ _ _
  have f3 := F.attr_ValueError.ga.bind (.ref x)
  unfold getAttrByItsOwn
  refine wpAny_bind (L2.at ?_)
  refine wpAny_bind (wpAny_attempt ?_)
  show wpAny _ _ (do let r ← bindSpecial (.builtin "BaseException.__getattribute__") (.ref x); call r.1 (r.2 ++ [Value.str (Str.ofString "__class__") t])) _ _ _
  rw [f3]
  refine wpAny_bind (wpAny_pure ?_)
  show wpAny _ _ (call (.builtin "BaseException.__getattribute__") [.ref x, Value.str (Str.ofString "__class__") t]) _ _ _
  refine wpAny_call (codeAny_call_builtin F.attr_ValueError.ga.plain F.entry_bexc_ga (exc_check (s := ⟨hh, g, d, t + 1, os⟩) Z X I (exc_entry (s := ⟨hh, g, d, t + 1, os⟩) Z X I ?_)))
  exact handed_on rfl (wpAny_pure h)
theorem kitx_exc {t tb : Value} (Z : ExcF K C) : KitX K (.ref x) (.ref C) (fun h => h.get? x = some (excO (.ref C) t tb)) where
  ty := fun M h _ p => InstAt.type (od := none) ⟨p, rfl, rfl, trivial⟩
  it := fun _ _ X _ => by
    obtain ⟨cd, hc⟩ := Option.isSome_iff_exists.mp Z.cl
    unfold clsIn at hc
    split at hc
    · rename_i c' d' cd' sl' ho
      intro A' Q' E' s' k q
      unfold isType loadHead
      exact wpAny_bind (wpAny_loadPart (k _ _ (X _ _ ho)) (wpAny_pure q))
    · cases hc
  ne := fun h tp dd its n sl X htp => by
    obtain ⟨cd, hc⟩ := Option.isSome_iff_exists.mp Z.cl
    refine Bool.eq_false_iff.mpr fun q => ?_
    have e : C = tp := Value.ref.inj (beq_iff_eq.mp q)
    subst e
    unfold clsIn at hc
    split at hc
    · rename_i c' d' cd' sl' ho
      have z := (X _ _ ho).symm.trans htp
      cases z
    · cases hc
  ca := fun X p k => exc_class Z X (ox := excO (.ref C) t tb) ⟨p, rfl, rfl, trivial⟩ k
end
theorem b_ValueError : bootBuiltins "ValueError" = some (.type "ValueError") := by decide +kernel
section
variable {X : Cx}
/-- isinstance(e, C), e the exception that is handled -/
theorem call_isXC {e C : Addr} {t tb : Value} : CallR (X.inX e (excO (.ref C) t tb)) (.builtin "isinstance") (fun xs H Q => ExcF X.K C ∧ ∃ D b, xs = [.ref e, .ref D] ∧ PySem.W.kitOne X.K (.ref C) (.ref D) = some b ∧ Q (.bl b) H) := by
  rintro pins s σ H xs us Q I r ⟨F, D, b, rfl, k, q⟩
  obtain ⟨u, v, rfl, ru, rv⟩ := vals2 r
  cases (show u = .ref e from ru)
  cases (show v = .ref D from rv)
  have pn := I.pin (e, excO (.ref C) t tb) (List.mem_append_left _ (by simp [Cx.inX]))
  exact PySem.W.kia_one (kitx_exc F) I.kIn pn.1 k (fun z => nomatch z) fun tk => ⟨.bl b, H, I.tok tk, rfl, q⟩
theorem call_isXT {e C : Addr} {t tb : Value} : CallR (X.inX e (excO (.ref C) t tb)) (.builtin "isinstance") (fun xs H Q => ExcF X.K C ∧ ∃ D b, xs = [.ref e, .ty D] ∧ PySem.W.kitOne X.K (.ref C) (.type D) = some b ∧ Q (.bl b) H) := by
  rintro pins s σ H xs us Q I r ⟨F, D, b, rfl, k, q⟩
  obtain ⟨u, v, rfl, ru, rv⟩ := vals2 r
  cases (show u = .ref e from ru)
  cases (show v = .type D from rv)
  have pn := I.pin (e, excO (.ref C) t tb) (List.mem_append_left _ (by simp [Cx.inX]))
  exact PySem.W.kia_one (kitx_exc F) I.kIn pn.1 k (fun z => nomatch z) fun tk => ⟨.bl b, H, I.tok tk, rfl, q⟩
end
end L2

set_option Elab.async false
set_option linter.all false
set_option maxRecDepth 100000
namespace Np
open L2 PySem
/-! ### any text read as a leaf -/
def fig (c : Nat) : Bool := decide (48 ≤ c) && decide (c ≤ 57)
def numO (f : List Nat) : Option Nat := if f.length ≤ 3 ∧ 0 < f.length ∧ f.all fig = true then some (PySem.NumText.digitsVal f) else none
theorem dig128 {c : Nat} (h : c < 128) : Unicode.isDigit c = fig c := by
  have : ∀ k : Fin 128, Unicode.isDigit k.val = fig k.val := by decide +kernel
  exact this ⟨c, h⟩
theorem dig_all : ∀ {f : List Nat}, (∀ c ∈ f, c < 128) → f.all Unicode.isDigit = f.all fig
  | [], _ => rfl
  | a :: r, h => by rw [List.all_cons, List.all_cons, dig128 (h a List.mem_cons_self), dig_all fun c hc => h c (List.mem_cons_of_mem _ hc)]
theorem fig_of {f : List Nat} (h : f.all fig = true) : ∀ c ∈ f, 48 ≤ c ∧ c ≤ 57 := fun c hc => by
  have := List.all_eq_true.mp h c hc
  unfold fig at this
  rw [Bool.and_eq_true, decide_eq_true_eq, decide_eq_true_eq] at this
  exact this
theorem num_dec {n : Nat} (h : n ≤ 999) : numO (dec n) = some n := by
  unfold numO
  rw [if_pos ⟨dec_len (k := 3) (by decide) (by omega), List.length_pos_iff.mpr (dec_ne n), List.all_eq_true.mpr fun c hc => by unfold fig; rw [Bool.and_eq_true, decide_eq_true_eq, decide_eq_true_eq]; exact dec_fig n c hc⟩, dec_val]
def cut0 (c : Nat) (l : List Nat) : List Nat := if c ∈ l then l.take (l.idxOf c) else l
def cut1 (c : Nat) (l : List Nat) : List Nat := if c ∈ l then [c] else []
def cut2 (c : Nat) (l : List Nat) : List Nat := if c ∈ l then l.drop (l.idxOf c + 1) else []
theorem cut_eq (c : Nat) (l : List Nat) : cutC c l = [cut0 c l, cut1 c l, cut2 c l] := by
  unfold cutC cut0 cut1 cut2
  by_cases h : c ∈ l
  · simp only [if_pos h]
  · simp only [if_neg h]
/-- a part of a text -/
structure Sub (m l : List Nat) : Prop where
  len : m.length ≤ l.length
  mem : ∀ c ∈ m, c ∈ l
theorem Sub.refl (l : List Nat) : Sub l l := ⟨Nat.le_refl _, fun _ h => h⟩
theorem sub0 (c : Nat) (l : List Nat) : Sub (cut0 c l) l := by
  unfold cut0
  by_cases h : c ∈ l
  · rw [if_pos h]; exact ⟨by rw [List.length_take]; exact Nat.min_le_right _ _, fun x hx => List.mem_of_mem_take hx⟩
  · rw [if_neg h]; exact .refl l
theorem sub2 (c : Nat) (l : List Nat) : Sub (cut2 c l) l := by
  unfold cut2
  by_cases h : c ∈ l
  · rw [if_pos h]; exact ⟨by rw [List.length_drop]; exact Nat.sub_le _ _, fun x hx => List.mem_of_mem_drop hx⟩
  · rw [if_neg h]; exact ⟨Nat.zero_le _, fun x hx => by cases hx⟩
theorem split_sub (c : Nat) : ∀ (l acc : List Nat), ∀ p ∈ splitA c acc l, p.length ≤ acc.length + l.length ∧ ∀ x ∈ p, x ∈ acc ∨ x ∈ l
  | [], acc, p, h => by
    have h : p ∈ [acc] := h
    rw [List.mem_singleton] at h
    subst h
    exact ⟨Nat.le_refl _, fun x hx => .inl hx⟩
  | a :: r, acc, p, h => by
    unfold splitA at h
    rw [List.length_cons]
    by_cases hc : a = c
    · rw [if_pos hc, List.mem_cons] at h
      rcases h with h | h
      · subst h
        exact ⟨by omega, fun x hx => .inl hx⟩
      · obtain ⟨h1, h2⟩ := split_sub c r [] p h
        rw [List.length_nil] at h1
        exact ⟨by omega, fun x hx => (h2 x hx).elim (fun z => by cases z) fun z => .inr (List.mem_cons_of_mem _ z)⟩
    · rw [if_neg hc] at h
      obtain ⟨h1, h2⟩ := split_sub c r (acc ++ [a]) p h
      rw [List.length_append, List.length_singleton] at h1
      refine ⟨by omega, fun x hx => ?_⟩
      rcases h2 x hx with z | z
      · rcases List.mem_append.mp z with z | z
        · exact .inl z
        · rw [List.mem_singleton] at z
          exact .inr (z ▸ List.mem_cons_self)
      · exact .inr (List.mem_cons_of_mem _ z)
theorem part_sub {c : Nat} {l p : List Nat} (h : p ∈ splitA c [] l) : Sub p l := by
  obtain ⟨h1, h2⟩ := split_sub c l [] p h
  rw [List.length_nil, Nat.zero_add] at h1
  exact ⟨h1, fun x hx => (h2 x hx).elim (fun z => by cases z) id⟩
/-- a text that may be handed over as a leaf -/
structure LeafT (m : List Nat) : Prop where
  len : m.length ≤ 3000
  asc : ∀ c ∈ m, c < 128
theorem LeafT.sub {m l : List Nat} (h : LeafT l) (k : Sub m l) : LeafT m := ⟨Nat.le_trans k.len h.len, fun c hc => h.asc c (k.mem c hc)⟩
/-! entries -/
def entO (p : List Nat) : Option (Nat × Nat) := match numO (cut0 120 p), numO (cut2 120 p) with
  | some x, some y => some (x, y)
  | _, _ => none
def entsO : List (List Nat) → Option (List (Nat × Nat))
  | [] => some []
  | p :: r => match entO p, entsO r with
    | some x, some y => some (x :: y)
    | _, _ => none
theorem ents_some : ∀ {ms : List (List Nat)} {es : List (Nat × Nat)}, entsO ms = some es → es.length = ms.length ∧ ∀ (i : Nat) p, ms[i]? = some p → ∃ x, entO p = some x ∧ es[i]? = some x
  | [], es, h => by cases h; exact ⟨rfl, fun i p e => by simp at e⟩
  | m :: r, es, h => by
    unfold entsO at h
    cases h1 : entO m with
    | none => rw [h1] at h; cases h
    | some x =>
      cases h2 : entsO r with
      | none => rw [h1, h2] at h; cases h
      | some y =>
        rw [h1, h2] at h
        cases h
        obtain ⟨e1, e2⟩ := ents_some h2
        refine ⟨by rw [List.length_cons, List.length_cons, e1], fun i p e => ?_⟩
        cases i with
        | zero => cases e; exact ⟨x, h1, rfl⟩
        | succ j => exact e2 j p (by simpa using e)
theorem ents_none : ∀ {ms : List (List Nat)}, entsO ms = none → ∃ (i : Nat) (p : List Nat), ms[i]? = some p ∧ entO p = none
  | [], h => by cases h
  | m :: r, h => by
    unfold entsO at h
    cases h1 : entO m with
    | none => exact ⟨0, m, rfl, h1⟩
    | some x =>
      cases h2 : entsO r with
      | none =>
        obtain ⟨i, p, e1, e2⟩ := ents_none h2
        exact ⟨i + 1, p, by simpa using e1, e2⟩
      | some y => rw [h1, h2] at h; cases h
def okE : Int → List (Nat × Nat) → Bool
  | _, [] => true
  | last, e :: r => if last < (e.1 : Int) ∧ e.1 < 94 then (if e.2 = 0 then false else okE (e.1 : Int) r) else false
def chkE (es : List (Nat × Nat)) : Bool := okE (-1) es && decide ((es.map fun e => e.2).sum ≤ 150)
def parO (m : List Nat) : Option (List (Nat × Nat)) := if m = [] then some [] else match entsO (splitA 44 [] m) with
  | some es => if chkE es = true then some es else none
  | none => none
def pilO (m : List Nat) : Option Nat := if m.all (fun c => decide (c ∈ ltr)) = true then some (ltrVal m) else none
def cntE (es : List (Nat × Nat)) : List Int := es.map fun e => (e.2 : Int)
def textE (es : List (Nat × Nat)) (n : Nat) : List Nat := if es = [] then [] else (takeRow (cntE es) ((es.map fun e => e.2).sum) (n : Int)).1.map fun k => sgs.getD (es.getD k.toNat (0, 0)).1 0
/-- entries that stand for a text -/
structure GE (es : List (Nat × Nat)) : Prop where
  len : es.length ≤ 94
  at_ : ∀ e ∈ es, e.1 < 94 ∧ 1 ≤ e.2
  sum : (es.map fun e => e.2).sum ≤ 150
theorem ok_ge : ∀ {es : List (Nat × Nat)} {last : Int}, -1 ≤ last → okE last es = true → last + 1 + (es.length : Int) ≤ 94 ∨ es = [] ∧ True
  | [], last, _, _ => .inr ⟨rfl, trivial⟩
  | e :: r, last, h0, h => by
    unfold okE at h
    split at h
    · rename_i c
      split at h
      · cases h
      · left
        rw [List.length_cons]
        rcases ok_ge (es := r) (last := (e.1 : Int)) (by omega) h with z | ⟨z, _⟩
        · omega
        · subst z
          rw [List.length_nil]
          omega
    · cases h
theorem okE_at : ∀ {es : List (Nat × Nat)} {last : Int}, okE last es = true → ∀ e ∈ es, e.1 < 94 ∧ 1 ≤ e.2
  | [], _, _, e, he => by cases he
  | a :: r, last, h, e, he => by
    unfold okE at h
    split at h
    · rename_i c
      split at h
      · cases h
      · rename_i c2
        rcases List.mem_cons.mp he with z | z
        · subst z; exact ⟨c.2, by omega⟩
        · exact okE_at h e z
    · cases h
theorem chk_ge {es : List (Nat × Nat)} (h : chkE es = true) : GE es := by
  unfold chkE at h
  rw [Bool.and_eq_true, decide_eq_true_eq] at h
  refine ⟨?_, okE_at h.1, h.2⟩
  rcases ok_ge (by omega) h.1 with z | ⟨z, _⟩
  · omega
  · subst z; exact Nat.zero_le _
theorem cntE_sum : ∀ (es : List (Nat × Nat)), (cntE es).sum = (((es.map fun e => e.2).sum : Nat) : Int)
  | [] => rfl
  | a :: r => by
    have := cntE_sum r
    unfold cntE at this ⊢
    rw [List.map_cons, List.map_cons, List.sum_cons, List.sum_cons, this]
    omega
theorem cntE_len (es : List (Nat × Nat)) : (cntE es).length = es.length := List.length_map _
theorem mem_le_sum : ∀ {es : List (Nat × Nat)} {e : Nat × Nat}, e ∈ es → e.2 ≤ (es.map fun e => e.2).sum
  | a :: r, e, h => by
    rw [List.map_cons, List.sum_cons]
    rcases List.mem_cons.mp h with z | z
    · subst z; omega
    · have := mem_le_sum z; omega
theorem goodE {es : List (Nat × Nat)} (g : GE es) (h0 : es ≠ []) : GoodC (cntE es) := by
  refine ⟨?_, ?_, fun c hc => ?_, ?_⟩
  · rw [cntE_len]; exact List.length_pos_iff.mpr h0
  · rw [cntE_len]; have := g.len; omega
  · unfold cntE at hc
    rw [List.mem_map] at hc
    obtain ⟨e, he, rfl⟩ := hc
    have := mem_le_sum he
    have := g.sum
    omega
  · rw [cntE_sum]
    obtain ⟨e, r, rfl⟩ := List.exists_cons_of_ne_nil h0
    have h1 := (g.at_ e List.mem_cons_self).2
    have h2 := mem_le_sum (List.mem_cons_self (a := e) (l := r))
    omega
theorem sgs_at {i : Nat} (h : i < 94) : sgs.getD i 0 ∈ sgs := List.mem_of_getElem? (sgs_getD h)
theorem text_gt {es : List (Nat × Nat)} (g : GE es) (n : Nat) : GT (textE es n) := by
  unfold textE
  by_cases h0 : es = []
  · rw [if_pos h0]; exact ⟨Nat.zero_le _, fun c hc => by cases hc⟩
  rw [if_neg h0]
  refine ⟨by rw [List.length_map, takeRow_len]; exact g.sum, fun c hc => ?_⟩
  obtain ⟨k, hk, rfl⟩ := List.mem_map.mp hc
  obtain ⟨k0, k1, _⟩ := (takeRow_held (goodE g h0) _ _ k hk).2
  rw [cntE_len] at k1
  have hlt : k.toNat < es.length := by omega
  have hm : es.getD k.toNat (0, 0) ∈ es := by rw [List.getD_eq_getElem?_getD, List.getElem?_eq_getElem hlt]; exact List.getElem_mem hlt
  exact sgs_at (g.at_ _ hm).1
/-! what a text's own leaf is read as -/
theorem ent_read {c n : Nat} (hc : c ∈ sgs) (hn : n ≤ 999) : entO (ent c n) = some (plc c, n) := by
  have hp := plc_lt hc
  have cut : cutC 120 (ent c n) = [dec (plc c), [120], dec n] := cut_app _ fun z => by
    have := dec_fig _ _ z
    omega
  rw [cut_eq] at cut
  have e1 : cut0 120 (ent c n) = dec (plc c) := (List.cons.inj cut).1
  have e2 : cut2 120 (ent c n) = dec n := (List.cons.inj (List.cons.inj (List.cons.inj cut).2).2).1
  unfold entO
  rw [e1, e2, num_dec (by omega), num_dec hn]
theorem ents_read (f : Nat → Nat) : ∀ (ks : List Nat), (∀ c ∈ ks, c ∈ sgs ∧ f c ≤ 999) → entsO (ks.map fun c => ent c (f c)) = some (ks.map fun c => (plc c, f c))
  | [], _ => rfl
  | c :: r, h => by
    have h1 := h c List.mem_cons_self
    rw [List.map_cons, List.map_cons]
    unfold entsO
    rw [ent_read h1.1 h1.2, ents_read f r fun x hx => h x (List.mem_cons_of_mem _ hx)]
theorem ok_read : ∀ {es : List (Nat × Nat)} {last : Int}, (∀ e ∈ es, last < (e.1 : Int) ∧ e.1 < 94 ∧ e.2 ≠ 0) → (es.map fun e => e.1).Pairwise (· < ·) → okE last es = true
  | [], _, _, _ => rfl
  | e :: r, last, h, hp => by
    obtain ⟨h1, h2, h3⟩ := h e List.mem_cons_self
    rw [List.map_cons, List.pairwise_cons] at hp
    unfold okE
    rw [if_pos ⟨h1, h2⟩, if_neg h3]
    refine ok_read (fun x hx => ⟨?_, (h x (List.mem_cons_of_mem _ hx)).2⟩) hp.2
    have := hp.1 x.1 (List.mem_map.mpr ⟨x, hx, rfl⟩)
    omega
theorem par_read {l : List Nat} (g : GT l) : parO (headL l) = some (prsL l) := by
  unfold parO
  by_cases h0 : l = []
  · subst h0
    rw [if_pos head_nil]
    unfold prsL
    rw [kinds_nil]
    rfl
  rw [if_neg (head_ne g h0), head_split g h0, ents_read (fun c => l.count c) (kindsL l) fun c hc => ⟨kinds_sgs hc, by have := List.count_le_length (a := c) (l := l); have := g.len; omega⟩]
  have e : chkE ((kindsL l).map fun c => (plc c, l.count c)) = true := by
    unfold chkE
    rw [Bool.and_eq_true, decide_eq_true_eq]
    constructor
    · refine ok_read (fun e he => ?_) ?_
      · obtain ⟨c, hc, rfl⟩ := List.mem_map.mp he
        have := plc_lt (kinds_sgs hc)
        have := List.count_pos_iff.mpr ((mem_kinds g.sg).mp hc)
        exact ⟨by show (-1 : Int) < ((plc c : Nat) : Int); omega, by show plc c < 94; omega, by show l.count c ≠ 0; omega⟩
      · rw [List.map_map]
        exact kinds_rise l
    · rw [List.map_map]
      have := cnt_sum g.sg
      have e2 : cntL l = (kindsL l).map ((fun e : Nat × Nat => e.2) ∘ fun c => (plc c, l.count c)) := rfl
      rw [← e2, this]
      exact g.len
  show (if chkE ((kindsL l).map fun c => (plc c, l.count c)) = true then some ((kindsL l).map fun c => (plc c, l.count c)) else none) = _
  rw [if_pos e]
  rfl
theorem pil_read (n : Nat) : pilO (ltrN n) = some n := by
  unfold pilO
  rw [if_pos (List.all_eq_true.mpr fun c hc => decide_eq_true (ltr_all n c hc)), ltr_val]
theorem text_read {l : List Nat} (g : GT l) : textE (prsL l) (pileL l).toNat = l := by
  unfold textE
  by_cases h0 : l = []
  · subst h0
    rw [if_pos (by unfold prsL; rw [kinds_nil]; rfl)]
  have hp : prsL l ≠ [] := by unfold prsL; rw [ne_eq, List.map_eq_nil_iff]; exact kinds_ne g.sg h0
  rw [if_neg hp]
  have e1 : cntE (prsL l) = cntI l := by unfold cntE prsL cntI cntL; rw [List.map_map, List.map_map]; rfl
  have e2 : ((prsL l).map fun e => e.2).sum = l.length := by
    have := cnt_sum g.sg
    unfold prsL
    rw [List.map_map]
    exact this
  rw [e1, e2, Int.toNat_of_nonneg (pile_nn g), take_back g h0]
  show (rowI l).map (fun k => sgs.getD ((prsL l).getD k.toNat (0, 0)).1 0) = l
  unfold rowI rowL
  rw [List.map_map, List.map_map]
  have : ∀ m : List Nat, (∀ c ∈ m, c ∈ l) → m.map ((fun k : Int => sgs.getD ((prsL l).getD k.toNat (0, 0)).1 0) ∘ (fun (n : Nat) => (n : Int)) ∘ fun c => (kindsL l).idxOf c) = m := by
    intro m
    induction m with
    | nil => intro _; rfl
    | cons a r ih =>
      intro h
      rw [List.map_cons, ih fun c hc => h c (List.mem_cons_of_mem _ hc)]
      congr 1
      have ha := (mem_kinds g.sg).mpr (h a List.mem_cons_self)
      show sgs.getD ((prsL l).getD (((kindsL l).idxOf a : Nat) : Int).toNat (0, 0)).1 0 = a
      rw [Int.toNat_natCast]
      have e3 : (prsL l).getD ((kindsL l).idxOf a) (0, 0) = (plc a, l.count a) := by
        unfold prsL
        rw [List.getD_eq_getElem?_getD, List.getElem?_map, idx_eq ha]
        rfl
      rw [e3, List.getD_eq_getElem?_getD, sgs_plc (g.sg a (h a List.mem_cons_self))]
      rfl
  exact this l fun _ h => h
/-- what unpacked answers -/
def ansO (m : List Nat) : Option (List Nat) := match parO (cut0 59 m), pilO (cut2 59 m) with
  | some es, some n => if leafL (textE es n) = m then some (textE es n) else none
  | _, _ => none
theorem par_ge {m : List Nat} {es : List (Nat × Nat)} (h : parO m = some es) : GE es := by
  unfold parO at h
  split at h
  · cases h; exact ⟨Nat.zero_le _, (fun e he => by cases he), by decide⟩
  · split at h
    · split at h
      · rename_i c
        cases h
        exact chk_ge c
      · cases h
    · cases h
theorem ans_some {m l : List Nat} (h : ansO m = some l) : GT l ∧ leafL l = m := by
  unfold ansO at h
  split at h
  · rename_i es n h1 h2
    split at h
    · rename_i c
      cases h
      exact ⟨text_gt (par_ge h1) n, c⟩
    · cases h
  · cases h
theorem ans_read {l : List Nat} (g : GT l) : ansO (leafL l) = some l := by
  have c := leaf_cut l
  rw [cut_eq] at c
  have e1 : cut0 59 (leafL l) = headL l := (List.cons.inj c).1
  have e2 : cut2 59 (leafL l) = ltrN (pileL l).toNat := (List.cons.inj (List.cons.inj (List.cons.inj c).2).2).1
  unfold ansO
  rw [e1, e2, par_read g, pil_read]
  show (if leafL (textE (prsL l) (pileL l).toNat) = leafL l then some (textE (prsL l) (pileL l).toNat) else none) = _
  rw [text_read g, if_pos rfl]
theorem ans_none {m : List Nat} (h : ansO m = none) {l : List Nat} (g : GT l) : leafL l ≠ m := fun e => by
  rw [← e, ans_read g] at h
  cases h
/-! of the law -/
theorem leaf_lt {l : List Nat} (g : GT l) : LeafT (leafL l) ∧ (leafL l).length ≤ 1010 := by
  have h := leaf_len g
  refine ⟨⟨by omega, fun c hc => ?_⟩, h⟩
  unfold leafL at hc
  rw [List.mem_append, List.mem_cons] at hc
  rcases hc with hc | hc | hc
  · rcases mem_join hc with z | ⟨m, hm, hx⟩
    · omega
    · obtain ⟨k, _, rfl⟩ := List.mem_map.mp hm
      rcases ent_sig hx with z | z <;> omega
  · omega
  · have := ltr_all _ c hc
    have all : ∀ c ∈ ltr, c < 128 := by decide
    exact all c this
theorem sgs_asc : ∀ c ∈ sgs, c < 128 := by decide
end Np
namespace L2
theorem splitA_pos (c : Nat) : ∀ (m acc : List Nat), 0 < (splitA c acc m).length
  | [], _ => Nat.zero_lt_one
  | x :: m, acc => by
    unfold splitA
    by_cases hc : x = c
    · rw [if_pos hc, List.length_cons]; exact Nat.succ_pos _
    · rw [if_neg hc]; exact splitA_pos c m _
end L2
namespace Np
theorem sum_ge1 : ∀ {cs : List Int}, (∀ c ∈ cs, 1 ≤ c) → (cs.length : Int) ≤ cs.sum ∧ ∀ c ∈ cs, c ≤ cs.sum
  | [], _ => ⟨Int.le_refl _, fun c hc => by cases hc⟩
  | a :: r, h => by
    obtain ⟨h1, h2⟩ := sum_ge1 (cs := r) fun c hc => h c (List.mem_cons_of_mem _ hc)
    have h3 := h a List.mem_cons_self
    rw [List.sum_cons, List.length_cons]
    refine ⟨by omega, fun c hc => ?_⟩
    rcases List.mem_cons.mp hc with z | z
    · subst z; omega
    · have := h2 c z; omega
end Np

set_option Elab.async false
set_option linter.all false
set_option maxRecDepth 100000
set_option maxHeartbeats 4000000
namespace L2
open PySem PySem.Spec PyProof.Rows Np
section
variable {X : Cx}
/-! ### a part of a text -/
def rSlS : V → Option Int → Option Int → Hp → VK → Prop := fun x _ _ H Q => ∃ l, x = .str (tx l) ∧ l.length ≤ sizeLine ∧ ∀ m, Sub m l → Q (.str (tx m)) H
theorem slice_sub (l : List Nat) (a b : Option Int) : ∃ m, Txt.slice (tx l) a b = tx m ∧ Sub m l := by
  have hle := Txt.slice_le (tx l) a b
  unfold Txt.slice at hle ⊢
  split
  · exact ⟨l, rfl, .refl l⟩
  · rename_i c
    rw [if_neg c] at hle
    refine ⟨_, rfl, ⟨?_, fun x hx => ?_⟩⟩
    · rw [tx_len] at hle
      simpa [Str.length] using hle
    · obtain ⟨i, _, e⟩ := List.mem_filterMap.mp hx
      have e : l.toArray[i]? = some x := e
      rw [List.getElem?_toArray] at e
      exact List.mem_of_getElem? e
theorem sl_str : SlR X rSlS := by
  intro pins s σ H x v vl vu lo hi sl Q I rx hs pl pu h
  obtain ⟨l, rfl, hz, q⟩ := h
  obtain ⟨t, rfl⟩ := rx
  refine ⟨"str", _, F.slot_str_getitem.lookup, typeIs_str _ _ _, ?_⟩
  have hz' : (tx l).length ≤ sizeLine := by rw [tx_len]; exact hz
  have fin : ∀ a b t' k, EP X pins σ Q (.str (Txt.slice (tx l) a b) t') { s with toks := k } := fun a b t' k => by
    obtain ⟨m, e, hm⟩ := slice_sub l a b
    rw [e]
    exact ⟨.str (tx m), H, I.tok k, ⟨t', rfl⟩, q m hm⟩
  cases pl with
  | none =>
    cases pu with
    | none => exact wpAny_getItem_str_slice (l := none) (u := none) (st := none) hs rfl (post_val_or_str ⟨Nat.le_trans (Txt.slice_le (tx l) none none) hz', fun t' k => fin _ _ t' k⟩)
    | int j uj => exact wpAny_getItem_str_slice (l := none) (u := some (j, uj)) (st := none) hs rfl (post_val_or_str ⟨Nat.le_trans (Txt.slice_le (tx l) none (some j)) hz', fun t' k => fin _ _ t' k⟩)
  | int i ui =>
    cases pu with
    | none => exact wpAny_getItem_str_slice (l := some (i, ui)) (u := none) (st := none) hs rfl (post_val_or_str ⟨Nat.le_trans (Txt.slice_le (tx l) (some i) none) hz', fun t' k => fin _ _ t' k⟩)
    | int j uj => exact wpAny_getItem_str_slice (l := some (i, ui)) (u := some (j, uj)) (st := none) hs rfl (post_val_or_str ⟨Nat.le_trans (Txt.slice_le (tx l) (some i) (some j)) hz', fun t' k => fin _ _ t' k⟩)
theorem call_maxL (hc : X.calm = true) : CallR X (.builtin "max") (fun xs H Q => ∃ (a : Addr) (ns : List Int), xs = [.ref a] ∧ SqL X.K H a (ns.map V.int) ∧ 0 < ns.length ∧ ∀ i, i ∈ ns → (∀ j ∈ ns, j ≤ i) → Q (.int i) H) := by
  rintro pins s σ H xs us Q I r ⟨a, ns, rfl, h, h0, q⟩
  obtain ⟨u, rfl, ru⟩ := vals1 r
  cases (show u = .ref a from ru)
  obtain ⟨its, hv, pl, hz⟩ := I.list h
  have hi := intsAre_of hv
  obtain ⟨ys, e⟩ := hi.allInts.items
  have hns : ns = ys.toList.map (·.1) := by rw [← hi.numsOf, ← nums_intItems, ← e]
  have hsz : 0 < ys.size := by
    have h3 := h0
    rw [hns, List.length_map, Array.length_toList] at h3
    exact h3
  have hl : s.heap.IsList a (intItems ys) := e ▸ pl.isList
  refine max_intList (I.ok.hd hc) hl hsz fun v h' tk hv hk => ?_
  obtain ⟨t, rfl⟩ := intItems_at hv
  obtain ⟨h1, h2⟩ := argBest_gt (numAt ys) (ys.size - 1)
  refine ⟨.int _, H, I.kept hk, ⟨_, rfl⟩, q _ ?_ fun j hj => ?_⟩
  · rw [hns, numAt_eq]; exact PySem.getD_mem (by rw [List.length_map, Array.length_toList]; omega)
  · rw [hns] at hj
    obtain ⟨k, hk', rfl⟩ := mem_getD hj
    rw [List.length_map, Array.length_toList] at hk'
    rw [← numAt_eq]; exact h2 k (by omega)
/-! ### == of tuples that are the same, flat -/
def rEqTF (K : PySem.W.Frag) : R2 := fun x y H Q => ∃ (a b : Addr) (xs : List V), x = .ref a ∧ y = .ref b ∧ SqT K H a xs ∧ SqT K H b xs ∧ xs.all flatV = true ∧ (∀ x ∈ xs, eqV x x = true) ∧ Q (.bl true) H
theorem op_eqTF (hu : X.A.units < cLine) : OpR X (compareOp .Eq) (rEqTF X.K) := by
  rintro pins s σ H x y v u Q I rx ry ⟨a, b, xs, rfl, rfl, ha, hb, fl, re, q⟩
  cases (show v = .ref a from rx)
  cases (show u = .ref b from ry)
  obtain ⟨is1, v1, p1, _⟩ := I.tuple ha
  obtain ⟨is2, v2, p2, _⟩ := I.tuple hb
  have l1 : is1.length = xs.length := by have := v1.length; omega
  have l2 : is2.length = xs.length := by have := v2.length; omega
  have s1 : is1.toArray.size = xs.length := by simpa using l1
  have s2 : is2.toArray.size = xs.length := by simpa using l2
  refine SeqAt.eq_tupleAt p1 p2 (e := fun _ => true) hu (fun j h1 h2 => ?_) ?_
  · have g1 : j < xs.length := by omega
    obtain ⟨w1, e1, r1⟩ := Vals.get v1 (List.getElem?_eq_getElem g1)
    obtain ⟨w2, e2, r2⟩ := Vals.get v2 (List.getElem?_eq_getElem g1)
    have x1 : is1.toArray[j] = w1 := by
      have : is1.toArray[j]? = some w1 := by simpa using e1
      rw [Array.getElem?_eq_getElem h1] at this
      exact Option.some.inj this
    have x2 : is2.toArray[j] = w2 := by
      have : is2.toArray[j]? = some w2 := by simpa using e2
      rw [Array.getElem?_eq_getElem h2] at this
      exact Option.some.inj this
    have hm : xs[j] ∈ xs := List.getElem_mem g1
    have hf := List.all_eq_true.mp fl _ hm
    have := eqAt_V (A := X.A.in1) (s := s) r1 r2 hf hf
    rw [re _ hm] at this
    rw [x1, x2]
    exact this
  · rw [s1, s2, Nat.min_self, beq_self_eq_true, Bool.and_true]
    have e : ((List.range xs.length).all fun _ => true) = true := by simp
    rw [e]
    exact ⟨.bl true, H, I, rfl, q⟩
end
/-- a comprehension that lays a list of pairs, or stops -/
theorem comp_mkpX {J : It} {n : Nat} {cv : St} {te : TE} {D : Addr} {H1 : Hp} {Q : VK} (good : Nat → Prop) (xs : Nat → V) (pr : Nat → V × V) (hz : n ≤ sizeLine) (hD : H1 D = none)
    (hgo : ∀ i H', i < n → Same H1 H' → J.go i H' ∧ ∀ y H2, J.yld i H' y H2 → y = xs i ∧ H2 = H')
    (hst : ∀ H', Same H1 H' → J.stop n H')
    (hs : ∀ i H' (R : VK), i < n → Same H1 H' → (good i → ∀ p H2, H' p = none → Same H' H2 → H2 p = some (.tup [(pr i).1, (pr i).2]) → R (.ref p) H2) → te (some (xs i) :: cv) H' R)
    (hd : (∀ i, i < n → good i) → ∀ ts H', Same H1 H' → PrsAt H' D ts ((List.range n).map pr) → Q (.ref D) H') : tCompB J cv tYes te D H1 Q := by
  refine ⟨fun i m H' => m = n - i ∧ i ≤ n ∧ (∀ j, j < i → good j) ∧ ∃ ts, Same H1 H' ∧ PrsAt H' D ts ((List.range i).map pr), ⟨n, by simp, Nat.zero_le _, fun j hj => absurd hj (Nat.not_lt_zero _), [], same_up hD, ⟨upd_same, rfl, fun j p e => by simp at e⟩⟩, ?_⟩
  rintro i m H' ⟨rfl, hi, gd, ts, sm, T⟩
  have la : ts.length = i := by rw [T.len]; simp
  by_cases hlt : i < n
  · obtain ⟨g, y⟩ := hgo i H' hlt sm
    refine .inr ⟨g, fun x H2 hy => ?_⟩
    obtain ⟨rfl, rfl⟩ := y x H2 hy
    unfold tYes
    dsimp only
    rw [if_pos rfl]
    refine hs i _ _ hlt sm fun gi p H3 hp s3 e3 => ?_
    refine ⟨_, s3 _ _ T.ls, by rw [List.length_map]; omega, n - (i + 1), by omega, rfl, hlt, fun j hj => by
      by_cases z : j = i
      · subst z; exact gi
      · exact gd j (by omega), ts ++ [p], fun b o e => ?_, ⟨by rw [upd_same, List.map_append]; rfl, by simp [la], fun j q e => ?_⟩⟩
    · rw [upd_ne (ne_of_none e hD)]
      exact s3 _ _ (sm b o e)
    · have npD : p ≠ D := fun z => by rw [z, T.ls] at hp; cases hp
      have hj : j < i + 1 := by
        have := (List.getElem?_eq_some_iff.mp e).1
        simpa using this
      rw [List.getElem?_map, List.getElem?_range hj] at e
      cases e
      by_cases hji : j < i
      · have a1 : (ts ++ [p]).getD j 0 = ts.getD j 0 := by rw [List.getD_eq_getElem?_getD, List.getElem?_append_left (by omega), List.getD_eq_getElem?_getD]
        have q := T.at_ j (pr j) (by rw [List.getElem?_map, List.getElem?_range hji]; rfl)
        have nD : ts.getD j 0 ≠ D := fun z => by rw [z, T.ls] at q; cases q
        rw [a1, upd_ne nD]
        exact s3 _ _ q
      · have ej : j = i := by omega
        subst ej
        have a1 : (ts ++ [p]).getD j 0 = p := by rw [List.getD_eq_getElem?_getD, List.getElem?_append_right (by omega), la]; simp
        rw [a1, upd_ne npD]
        exact e3
  · have e : i = n := by omega
    subst e
    exact .inl ⟨hst _ sm, hd gd ts H' sm T⟩
end L2
namespace L2
open PySem PySem.Spec PyProof.Rows Np
/-! ### a row of texts, written out -/
inductive StrsAre : List Expr → List (List Nat) → Prop where
  | nil : StrsAre [] []
  | cons {x : Str} {j : Nat} {p : Pos} {es : List Expr} {m : List Nat} {ms : List (List Nat)} (h : x = tx m) (t : StrsAre es ms) : StrsAre (.Constant (.str x) j p :: es) (m :: ms)
def tStrs (ms : List (List Nat)) : TA := fun _ H Q => Q (ms.map fun m => V.str (tx m)) H
theorem pa_strs {X : Cx} {es : List Expr} {ms : List (List Nat)} (h : StrsAre es ms) : PA X es (tStrs ms) := by
  induction h with
  | nil => exact pa_nil
  | cons h t ih => exact pa_cons (pe_strT h) ih
end L2
namespace Np
open PySem
theorem kit_tup {K : PySem.W.Frag} : PySem.W.kitOne K (.type "tuple") (.type "str") = some false := by rfl
end Np

set_option maxHeartbeats 4000000
local macro_rules | `(tactic| walk_at "r") => `(tactic| repeat (first | refine ⟨_, rfl, ?_⟩ | refine ⟨_, _, rfl, rfl, ?_⟩ | refine ⟨rfl, ?_⟩ | refine ⟨⟨by first | decide | omega, by first | decide | omega⟩, ?_⟩ | refine ⟨(by show (0 : Int) < _; first | decide | omega), ?_⟩ | refine ⟨.inr ⟨by first | decide | omega, by first | decide | omega⟩, ?_⟩ | refine ⟨.inl ⟨by first | decide | omega, by first | decide | omega⟩, ?_⟩))
namespace T
open PySem L2 Np
def top (i : Nat) : Stmt := PySem.Challenge.pw_numberpile_k17_whole_leaves_that_are_som.main.body.getD i (.Pass ⟨0, 0, 0, 0⟩)
structure BI (mg : Str → Option Value) : Prop where
  ValueError : mg "ValueError" = none
  len : mg "len" = none
  sum : mg "sum" = none
  isinstance : mg "isinstance" = none
  divmod : mg "divmod" = none
  int : mg "int" = none
  range : mg "range" = none
  reversed : mg "reversed" = none
  zip : mg "zip" = none
  min : mg "min" = none
  max : mg "max" = none
  str : mg "str" = none
  sorted : mg "sorted" = none
  set : mg "set" = none
structure GC (mg : Str → Option Value) : Prop where
  MOST_SIGNS : ∃ t, mg "MOST_SIGNS" = some (.int 100 t)
  MOST_COUNT : ∃ t, mg "MOST_COUNT" = some (.int 999 t)
  MOST_TEXT : ∃ t, mg "MOST_TEXT" = some (.int 150 t)
  MOST_FIGURES : ∃ t, mg "MOST_FIGURES" = some (.int 3 t)
  SIGNS : ∃ t, mg "SIGNS" = some (.str (Str.ofString " !\"#$&'()*+,-./0123456789:;<=>?@ABCDEFGHIJKLMNOPQRSTUVWXYZ[\\]^_`abcdefghijklmnopqrstuvwxyz{|}~") t)
  LETTERS : ∃ t, mg "LETTERS" = some (.str (Str.ofString "abcdefghijklmnopqrstuvwxyz") t)
structure XF (K : PySem.W.Frag) (mg : Str → Option Value) (ec : Ec) : Prop where
  mPileError : mg "PileError" = some (.ref ec.pileError)
  oPileError : PySem.W.excIn K ec.pileError bmV "ValueError.__new__" = true
  sPileError : PySem.W.mroIn K ec.pileError (.ref ec.pileError) = some true
  mNoShares : mg "NoShares" = some (.ref ec.noShares)
  oNoShares : PySem.W.excIn K ec.noShares bmV "ValueError.__new__" = true
  sNoShares : PySem.W.mroIn K ec.noShares (.ref ec.noShares) = some true
  pNoShares : PySem.W.mroIn K ec.noShares (.ref ec.pileError) = some true
  mNoPile : mg "NoPile" = some (.ref ec.noPile)
  oNoPile : PySem.W.excIn K ec.noPile bmV "ValueError.__new__" = true
  sNoPile : PySem.W.mroIn K ec.noPile (.ref ec.noPile) = some true
  pNoPile : PySem.W.mroIn K ec.noPile (.ref ec.pileError) = some true
  mNoSign : mg "NoSign" = some (.ref ec.noSign)
  oNoSign : PySem.W.excIn K ec.noSign bmV "ValueError.__new__" = true
  sNoSign : PySem.W.mroIn K ec.noSign (.ref ec.noSign) = some true
  pNoSign : PySem.W.mroIn K ec.noSign (.ref ec.pileError) = some true
  mNoSlot : mg "NoSlot" = some (.ref ec.noSlot)
  oNoSlot : PySem.W.excIn K ec.noSlot bmV "ValueError.__new__" = true
  sNoSlot : PySem.W.mroIn K ec.noSlot (.ref ec.noSlot) = some true
  pNoSlot : PySem.W.mroIn K ec.noSlot (.ref ec.pileError) = some true
  mNoText : mg "NoText" = some (.ref ec.noText)
  oNoText : PySem.W.excIn K ec.noText bmV "ValueError.__new__" = true
  sNoText : PySem.W.mroIn K ec.noText (.ref ec.noText) = some true
  pNoText : PySem.W.mroIn K ec.noText (.ref ec.pileError) = some true
  mNotLeaf : mg "NotLeaf" = some (.ref ec.notLeaf)
  oNotLeaf : PySem.W.excIn K ec.notLeaf bmV "ValueError.__new__" = true
  sNotLeaf : PySem.W.mroIn K ec.notLeaf (.ref ec.notLeaf) = some true
  pNotLeaf : PySem.W.mroIn K ec.notLeaf (.ref ec.pileError) = some true
  fNotLeaf : ExcF K ec.notLeaf
  kNotLeaf_NotLeaf : PySem.W.kitOne K (.ref ec.notLeaf) (.ref ec.notLeaf) = some true
  kNotLeaf_ValueError : PySem.W.kitOne K (.ref ec.notLeaf) (.type "ValueError") = some true
  kNotLeaf_NoText : PySem.W.kitOne K (.ref ec.notLeaf) (.ref ec.noText) = some false
abbrev s_check_counts : Stmt := top 11
theorem sc_check_counts : FnScope ["counts", "count"] ["counts"] (defScope s_check_counts) := ⟨rfl, rfl, rfl, by decide +kernel, rfl, by decide +kernel, by decide +kernel⟩
def sp_check_counts (K : PySem.W.Frag) (ec : Ec) : Sp := fun vs H Q _ => ∃ (a : Addr) (ns : List Int), vs = [.ref a] ∧ SqL K H a (ns.map V.int) ∧ GoodC ns ∧ Q .non H
theorem ok_check_counts {P : Program} {w : World} {K : PySem.W.Frag} {mg : Str → Option Value} {base : Heap} {ec : Ec} (z : BI mg) (g : GC mg) (xf : XF K mg ec) (D : Def K mg "check_counts" s_check_counts ["counts"]) : Cal P w K mg base 1 "check_counts" ["counts"] (sp_check_counts K ec) := by
  refine D.ok sc_check_counts (fun vs H Q E h => ?_) (fun f cdv A outer s H vs Q E hr h => ?_)
  · obtain ⟨a, ns, rfl, hS, g0, q⟩ := h; rfl
  obtain ⟨a, ns, rfl, hS, g0, q⟩ := h
  refine ⟨_, (pss_cons (ps_if (pt_not (pt_chain op_le op_le pe_int (pe_callB call_len_seq rfl z.len b_len (pa_cons (pv 0) pa_nil)) (pe_gint rfl g.MOST_SIGNS))) (pss_one ps_never) pss_nil)
      (pss_cons (ps_for PassesOwn.never rfl (pi_list (pv 0)) (pg_name (i := 1) sc_check_counts.nd rfl (Or.inl rfl)) (pss_one (ps_if (pt_not (pt_chain op_le op_le pe_int (pv 1) (pe_gint rfl g.MOST_COUNT))) (pss_one ps_never) pss_nil)))
      (pss_one (ps_if (pt_cmpR op_eq (pe_callB (call_sum rfl) rfl z.sum b_sum (pa_cons (pv 0) pa_nil)) pe_int (nomark _)) (pss_one ps_never) pss_nil)))), ?_⟩
  have hl : (ns.map V.int).length = ns.length := List.length_map _
  have l0 := g0.len0
  have l1 := g0.len1
  -- the length
  refine ⟨_, rfl, a, _, rfl, .inl hS, _, _, rfl, rfl, _, rfl, ?_⟩
  refine ite2 (fun _ => ?_) (fun c => absurd (decide_eq_true (by rw [hl]; omega)) c)
  refine ⟨_, _, rfl, rfl, _, rfl, ?_⟩
  have e1 : decide (((ns.map V.int).length : Int) ≤ 100) = true := decide_eq_true (by rw [hl]; omega)
  rw [e1]
  refine iteF ?_
  -- the loop
  refine ⟨_, rfl, a, rfl, ⟨_, hS⟩, for_list (K := K) (a := a) (xs := ns.map V.int) (fun i σ H2 => ∃ v, σ = [some (.ref a), v] ∧ H2 = H) ⟨none, rfl, rfl⟩ (fun i σ H2 _ ⟨_, _, e⟩ => e ▸ hS) ?_ ?_⟩
  · rintro i y σ H2 hi ⟨v, rfl, rfl⟩
    obtain ⟨n, hn, rfl⟩ := mem_at hi
    have hr := g0.rng n hn
    refine ⟨_, rfl, _, _, rfl, rfl, _, rfl, ?_⟩
    refine ite2 (fun _ => ?_) (fun c => absurd (decide_eq_true hr.1) c)
    refine ⟨_, _, rfl, rfl, _, rfl, ?_⟩
    have e1 : decide (n ≤ 999) = true := decide_eq_true hr.2
    rw [e1]
    refine iteF ?_
    exact ⟨_, rfl, rfl⟩
  · rintro σ H2 ⟨v, rfl, rfl⟩
    refine ⟨_, rfl, a, ns, rfl, hS, rfl, _, rfl, ?_⟩
    have e1 : decide (V.int ns.sum = V.int 0) = false := decide_eq_false (fun e => by have := V.int.inj e; have := g0.pos; omega)
    rw [e1]
    refine iteF ?_
    exact ⟨_, Less.refl, q⟩
abbrev s_check_sign : Stmt := top 12
theorem sc_check_sign : FnScope ["many", "sign"] ["many", "sign"] (defScope s_check_sign) := ⟨rfl, rfl, rfl, by decide +kernel, rfl, by decide +kernel, by decide +kernel⟩
def sp_check_sign (K : PySem.W.Frag) (ec : Ec) : Sp := fun vs H Q _ => ∃ (m k : Int), vs = [.int m, .int k] ∧ 0 ≤ k ∧ k < m ∧ Q .non H
theorem ok_check_sign {P : Program} {w : World} {K : PySem.W.Frag} {mg : Str → Option Value} {base : Heap} {ec : Ec} (z : BI mg) (g : GC mg) (xf : XF K mg ec) (D : Def K mg "check_sign" s_check_sign ["many", "sign"]) : Cal P w K mg base 1 "check_sign" ["many", "sign"] (sp_check_sign K ec) := by
  refine D.ok sc_check_sign (fun vs H Q E h => ?_) (fun f cdv A outer s H vs Q E hr h => ?_)
  · obtain ⟨m, k, rfl, h0, h1, q⟩ := h; rfl
  obtain ⟨m, k, rfl, h0, h1, q⟩ := h
  refine ⟨_, (pss_one (ps_if (pt_not (pt_chain op_le op_lt pe_int (pv 1) (pv 0))) (pss_one ps_never) pss_nil)), ?_⟩
  refine ⟨_, rfl, _, _, rfl, rfl, _, rfl, ?_⟩
  refine ite2 (fun _ => ?_) (fun c => absurd (decide_eq_true h0) c)
  refine ⟨_, rfl, _, _, rfl, rfl, _, rfl, ?_⟩
  have e1 : decide (k < m) = true := decide_eq_true h1
  rw [e1]
  refine iteF ?_
  exact ⟨_, Less.refl, q⟩
abbrev s_count_of : Stmt := top 13
theorem sc_count_of : FnScope ["counts", "sign"] ["counts", "sign"] (defScope s_count_of) := ⟨rfl, rfl, rfl, by decide +kernel, rfl, by decide +kernel, by decide +kernel⟩
def sp_count_of (K : PySem.W.Frag) (ec : Ec) : Sp := fun vs H Q _ => ∃ (a : Addr) (ns : List Int) (k : Int), vs = [.ref a, .int k] ∧ SqL K H a (ns.map V.int) ∧ 0 ≤ k ∧ k < (ns.length : Int) ∧ 0 < ns.getD k.toNat 0 ∧ Q (.int (ns.getD k.toNat 0)) H
theorem ok_count_of {P : Program} {w : World} {K : PySem.W.Frag} {mg : Str → Option Value} {base : Heap} {ec : Ec} (z : BI mg) (g : GC mg) (xf : XF K mg ec) (D : Def K mg "count_of" s_count_of ["counts", "sign"]) (C_check_sign : Cal P w K mg base 1 "check_sign" ["many", "sign"] (sp_check_sign K ec)) : Cal P w K mg base 2 "count_of" ["counts", "sign"] (sp_count_of K ec) := by
  refine D.ok sc_count_of (fun vs H Q E h => ?_) (fun f cdv A outer s H vs Q E hr h => ?_)
  · obtain ⟨a, ns, k, rfl, hS, h0, h1, h2, q⟩ := h; rfl
  obtain ⟨a, ns, k, rfl, hS, h0, h1, h2, q⟩ := h
  refine ⟨_, (pss_cons (ps_expr (pe_def (C_check_sign.mono (by decide)) hr rfl (pa_cons (pe_callB call_len_seq rfl z.len b_len (pa_cons (pv 0) pa_nil)) (pa_cons (pv 1) pa_nil))))
      (pss_cons (ps_if (pt_cmpR op_eq (pe_ix ix_list (pv 0) (pv 1) (fun _ _ => rfl)) pe_int (nomark _)) (pss_one ps_never) pss_nil)
      (pss_one (ps_ret (pe_ix ix_list (pv 0) (pv 1) (fun _ _ => rfl)))))), ?_⟩
  refine ⟨_, rfl, a, _, rfl, .inl hS, _, rfl, _, _, rfl, h0, by rw [List.length_map]; exact h1, ?_⟩
  refine ⟨_, rfl, _, rfl, a, _, _, _, rfl, rfl, hS, atZ h0 h1, rfl, _, rfl, ?_⟩
  refine ite2 (fun e => absurd (V.int.inj (of_decide_eq_true e)) (by omega)) (fun _ => ?_)
  exact ⟨_, rfl, _, rfl, a, _, _, _, rfl, rfl, hS, atZ h0 h1, _, Less.refl, q⟩
abbrev s_whole : Stmt := top 14
theorem sc_whole : FnScope ["counts"] ["counts"] (defScope s_whole) := ⟨rfl, rfl, rfl, by decide +kernel, rfl, by decide +kernel, by decide +kernel⟩
def sp_whole (K : PySem.W.Frag) (ec : Ec) : Sp := fun vs H Q _ => ∃ (a : Addr) (ns : List Int), vs = [.ref a] ∧ SqL K H a (ns.map V.int) ∧ GoodC ns ∧ Q (.int ns.sum) H
theorem ok_whole {P : Program} {w : World} {K : PySem.W.Frag} {mg : Str → Option Value} {base : Heap} {ec : Ec} (z : BI mg) (g : GC mg) (xf : XF K mg ec) (D : Def K mg "whole" s_whole ["counts"]) (C_check_counts : Cal P w K mg base 1 "check_counts" ["counts"] (sp_check_counts K ec)) : Cal P w K mg base 2 "whole" ["counts"] (sp_whole K ec) := by
  refine D.ok sc_whole (fun vs H Q E h => ?_) (fun f cdv A outer s H vs Q E hr h => ?_)
  · obtain ⟨a, ns, rfl, hS, g0, q⟩ := h; rfl
  obtain ⟨a, ns, rfl, hS, g0, q⟩ := h
  refine ⟨_, (pss_cons (ps_expr (pe_def (C_check_counts.mono (by decide)) hr rfl (pa_cons (pv 0) pa_nil)))
      (pss_one (ps_ret (pe_callB (call_sum rfl) rfl z.sum b_sum (pa_cons (pv 0) pa_nil))))), ?_⟩
  refine ⟨_, rfl, a, ns, rfl, hS, g0, ?_⟩
  refine ⟨_, rfl, a, ns, rfl, hS, ?_⟩
  exact ⟨_, Less.refl, q⟩
abbrev s_first_of : Stmt := top 15
theorem sc_first_of : FnScope ["counts", "sign"] ["counts", "sign"] (defScope s_first_of) := ⟨rfl, rfl, rfl, by decide +kernel, rfl, by decide +kernel, by decide +kernel⟩
def sp_first_of (K : PySem.W.Frag) (ec : Ec) : Sp := fun vs H Q _ => ∃ (a : Addr) (ns : List Int) (k : Int), vs = [.ref a, .int k] ∧ SqL K H a (ns.map V.int) ∧ GoodC ns ∧ 0 ≤ k ∧ k < (ns.length : Int) ∧ Q (.int (first ns k.toNat)) H
theorem ok_first_of {P : Program} {w : World} {K : PySem.W.Frag} {mg : Str → Option Value} {base : Heap} {ec : Ec} (z : BI mg) (g : GC mg) (xf : XF K mg ec) (D : Def K mg "first_of" s_first_of ["counts", "sign"]) (C_check_counts : Cal P w K mg base 1 "check_counts" ["counts"] (sp_check_counts K ec)) (C_check_sign : Cal P w K mg base 1 "check_sign" ["many", "sign"] (sp_check_sign K ec)) : Cal P w K mg base 2 "first_of" ["counts", "sign"] (sp_first_of K ec) := by
  refine D.ok sc_first_of (fun vs H Q E h => ?_) (fun f cdv A outer s H vs Q E hr h => ?_)
  · obtain ⟨a, ns, k, rfl, hS, g0, h0, h1, q⟩ := h; rfl
  obtain ⟨a, ns, k, rfl, hS, g0, h0, h1, q⟩ := h
  refine ⟨_, (pss_cons (ps_expr (pe_def (C_check_counts.mono (by decide)) hr rfl (pa_cons (pv 0) pa_nil)))
      (pss_cons (ps_expr (pe_def (C_check_sign.mono (by decide)) hr rfl (pa_cons (pe_callB call_len_seq rfl z.len b_len (pa_cons (pv 0) pa_nil)) (pa_cons (pv 1) pa_nil))))
      (pss_one (ps_ret (pe_callB (call_sum rfl) rfl z.sum b_sum (pa_cons (pe_slice sl_list (pv 0) po_none (po_some (pv 1))) pa_nil)))))), ?_⟩
  refine ⟨_, rfl, a, ns, rfl, hS, g0, ?_⟩
  refine ⟨_, rfl, a, _, rfl, .inl hS, _, rfl, _, _, rfl, h0, by rw [List.length_map]; exact h1, ?_⟩
  refine ⟨_, rfl, _, rfl, k, rfl, a, _, rfl, hS, fun p hp => ?_⟩
  rw [cut_take _ h0]
  exact ⟨p, _, rfl, SqL.of upd_same, _, Less.same (same_up hp), q⟩
abbrev s_sign_of : Stmt := top 16
theorem sc_sign_of : FnScope ["counts", "slot", "total", "sign", "end"] ["counts", "slot"] (defScope s_sign_of) := ⟨rfl, rfl, rfl, by decide +kernel, rfl, by decide +kernel, by decide +kernel⟩
def sp_sign_of (K : PySem.W.Frag) (ec : Ec) : Sp := fun vs H Q _ => ∃ (a : Addr) (ns : List Int) (s : Int), vs = [.ref a, .int s] ∧ SqL K H a (ns.map V.int) ∧ GoodC ns ∧ 0 ≤ s ∧ s < ns.sum ∧ Q (.int ((signOf ns s : Nat) : Int)) H
theorem ok_sign_of {P : Program} {w : World} {K : PySem.W.Frag} {mg : Str → Option Value} {base : Heap} {ec : Ec} (z : BI mg) (g : GC mg) (xf : XF K mg ec) (D : Def K mg "sign_of" s_sign_of ["counts", "slot"]) (C_whole : Cal P w K mg base 2 "whole" ["counts"] (sp_whole K ec)) : Cal P w K mg base 3 "sign_of" ["counts", "slot"] (sp_sign_of K ec) := by
  refine D.ok sc_sign_of (fun vs H Q E h => ?_) (fun f cdv A outer s H vs Q E hr h => ?_)
  · obtain ⟨a, ns, sl, rfl, hS, g0, h0, h1, q⟩ := h; rfl
  obtain ⟨a, ns, sl, rfl, hS, g0, h0, h1, q⟩ := h
  refine ⟨_, (pss_cons (ps_set (i := 2) sc_sign_of.nd rfl (Or.inl rfl) (pe_def (C_whole.mono (by decide)) hr rfl (pa_cons (pv 0) pa_nil)))
      (pss_cons (ps_if (pt_not (pt_chain op_le op_lt pe_int (pv 1) (pv 2))) (pss_one ps_never) pss_nil)
      (pss_cons (ps_set (i := 3) sc_sign_of.nd rfl (Or.inl rfl) pe_int)
      (pss_cons (ps_set (i := 4) sc_sign_of.nd rfl (Or.inl rfl) (pe_ix ix_list (pv 0) pe_int (fun _ _ => rfl)))
      (pss_cons (ps_while PassesOwn.never (pt_cmpR op_ge (pv 1) (pv 4) (nomark _)) (pss_cons (ps_aug (i := 3) sc_sign_of.nd rfl (Or.inl rfl) pe_int ip_add)
      (pss_one (ps_aug (i := 4) sc_sign_of.nd rfl (Or.inl rfl) (pe_ix ix_list (pv 0) (pv 3) (fun _ _ => rfl)) ip_add))))
      (pss_one (ps_ret (pv 3)))))))), ?_⟩
  have l0 := g0.len0
  refine ⟨_, rfl, a, ns, rfl, hS, g0, ?_⟩
  refine ⟨_, rfl, _, _, rfl, rfl, _, rfl, ?_⟩
  refine ite2 (fun _ => ?_) (fun c => absurd (decide_eq_true h0) c)
  refine ⟨_, rfl, _, _, rfl, rfl, _, rfl, ?_⟩
  have e1 : decide (sl < ns.sum) = true := decide_eq_true h1
  rw [e1]
  refine iteF ?_
  refine ⟨_, rfl, a, _, _, _, rfl, rfl, hS, atN (i := 0) (by omega), ?_⟩
  -- the loop
  refine while_by (fun σ H2 => ∃ k : Nat, σ = [some (.ref a), some (.int sl), some (.int ns.sum), some (.int (k : Int)), some (.int (first ns (k + 1)))] ∧ H2 = H ∧ k < ns.length ∧ first ns k ≤ sl)
    (fun σ _ => match σ with | [_, _, _, some (.int k), _] => ns.length - k.toNat | _ => 0) ⟨0, ?_, rfl, by omega, by rw [first_zero]; exact h0⟩ ?_ ?_
  · rw [first_succ (by omega), first_zero, Int.zero_add]
    rfl
  · rintro σ H2 ⟨k, rfl, rfl, hk, hf⟩
    refine ⟨_, rfl, _, rfl, _, _, rfl, rfl, _, rfl, ?_⟩
    refine ite2 (fun c => ?_) (fun c => ?_)
    · have c' : first ns (k + 1) ≤ sl := of_decide_eq_true c
      have hk1 : k + 1 < ns.length := by
        rcases Nat.lt_or_ge (k + 1) ns.length with z | z
        · exact z
        · have : k + 1 = ns.length := by omega
          rw [this, first_len] at c'
          omega
      refine ⟨_, rfl, _, _, rfl, rfl, ?_⟩
      refine ⟨_, rfl, _, rfl, _, rfl, a, _, _, _, rfl, rfl, hS, atN (i := k + 1) hk1, _, _, rfl, rfl, ?_⟩
      refine ⟨⟨k + 1, ?_, rfl, hk1, c'⟩, ?_⟩
      · rw [first_succ hk1]
        rfl
      · show ns.length - ((k : Int) + 1).toNat < ns.length - ((k : Int)).toNat
        omega
    · have c' : ¬ first ns (k + 1) ≤ sl := of_decide_eq_false (Bool.eq_false_iff.mpr c)
      have e := signOf_unique g0.rng hk hf (by omega)
      rw [e] at q
      exact ⟨_, rfl, _, Less.refl, q⟩
  · rintro σ H2 Q1 Q2 hq ⟨v1, e1, v2, e2, i, j, x1, x2, k, x3, h⟩
    exact ⟨v1, e1, v2, e2, i, j, x1, x2, k, x3, hq _ _ h⟩
abbrev s_check_pile : Stmt := top 18
theorem sc_check_pile : FnScope ["pile"] ["pile"] (defScope s_check_pile) := ⟨rfl, rfl, rfl, by decide +kernel, rfl, by decide +kernel, by decide +kernel⟩
def sp_check_pile (K : PySem.W.Frag) (ec : Ec) : Sp := fun vs H Q _ => ∃ (p : Int), vs = [.int p] ∧ 0 ≤ p ∧ Q .non H
theorem ok_check_pile {P : Program} {w : World} {K : PySem.W.Frag} {mg : Str → Option Value} {base : Heap} {ec : Ec} (z : BI mg) (g : GC mg) (xf : XF K mg ec) (D : Def K mg "check_pile" s_check_pile ["pile"]) : Cal P w K mg base 1 "check_pile" ["pile"] (sp_check_pile K ec) := by
  refine D.ok sc_check_pile (fun vs H Q E h => ?_) (fun f cdv A outer s H vs Q E hr h => ?_)
  · obtain ⟨p, rfl, hp, q⟩ := h; rfl
  obtain ⟨p, rfl, hp, q⟩ := h
  refine ⟨_, (pss_one (ps_if (pt_cmpR op_lt (pv 0) pe_int (nomark _)) (pss_one ps_never) pss_nil)), ?_⟩
  walk_at "r"
  refine ite2 (fun e => absurd (of_decide_eq_true e) (by omega)) (fun _ => ?_)
  exact ⟨_, Less.refl, q⟩
abbrev s_lay : Stmt := top 19
theorem sc_lay : FnScope ["pile", "counts", "sign", "total", "count"] ["pile", "counts", "sign"] (defScope s_lay) := ⟨rfl, rfl, rfl, by decide +kernel, rfl, by decide +kernel, by decide +kernel⟩
def sp_lay (K : PySem.W.Frag) (ec : Ec) : Sp := fun vs H Q _ => ∃ (p : Int) (a : Addr) (ns : List Int) (k : Int), vs = [.int p, .ref a, .int k] ∧ SqL K H a (ns.map V.int) ∧ GoodC ns ∧ 0 ≤ p ∧ 0 ≤ k ∧ k < (ns.length : Int) ∧ 0 < ns.getD k.toNat 0 ∧ Q (.int (layN ns k.toNat p)) H
theorem ok_lay {P : Program} {w : World} {K : PySem.W.Frag} {mg : Str → Option Value} {base : Heap} {ec : Ec} (z : BI mg) (g : GC mg) (xf : XF K mg ec) (D : Def K mg "lay" s_lay ["pile", "counts", "sign"]) (C_whole : Cal P w K mg base 2 "whole" ["counts"] (sp_whole K ec)) (C_check_pile : Cal P w K mg base 1 "check_pile" ["pile"] (sp_check_pile K ec)) (C_count_of : Cal P w K mg base 2 "count_of" ["counts", "sign"] (sp_count_of K ec)) (C_first_of : Cal P w K mg base 2 "first_of" ["counts", "sign"] (sp_first_of K ec)) : Cal P w K mg base 3 "lay" ["pile", "counts", "sign"] (sp_lay K ec) := by
  refine D.ok sc_lay (fun vs H Q E h => ?_) (fun f cdv A outer s H vs Q E hr h => ?_)
  · obtain ⟨p, a, ns, k, rfl, hS, g0, hp, h0, h1, h2, q⟩ := h; rfl
  obtain ⟨p, a, ns, k, rfl, hS, g0, hp, h0, h1, h2, q⟩ := h
  refine ⟨_, (pss_cons (ps_set (i := 3) sc_lay.nd rfl (Or.inl rfl) (pe_def (C_whole.mono (by decide)) hr rfl (pa_cons (pv 1) pa_nil)))
      (pss_cons (ps_expr (pe_def (C_check_pile.mono (by decide)) hr rfl (pa_cons (pv 0) pa_nil)))
      (pss_cons (ps_set (i := 4) sc_lay.nd rfl (Or.inl rfl) (pe_def (C_count_of.mono (by decide)) hr rfl (pa_cons (pv 1) (pa_cons (pv 2) pa_nil))))
      (pss_one (ps_ret (pe_op op_add (pe_op op_add (pe_op op_mul (pe_op op_fdiv (pv 0) (pv 4)) (pv 3)) (pe_def (C_first_of.mono (by decide)) hr rfl (pa_cons (pv 1) (pa_cons (pv 2) pa_nil)))) (pe_op op_mod (pv 0) (pv 4)))))))), ?_⟩
  have hc := g0.at k.toNat
  have gl := g0.le
  have gp := g0.pos
  refine ⟨_, rfl, a, ns, rfl, hS, g0, ?_⟩
  refine ⟨_, rfl, p, rfl, hp, ?_⟩
  refine ⟨_, rfl, _, rfl, a, ns, k, rfl, hS, h0, h1, h2, ?_⟩
  walk_at "r"
  refine ⟨a, ns, k, rfl, hS, g0, h0, h1, ?_⟩
  walk_at "r"
  exact ⟨_, Less.refl, q⟩
abbrev s_take : Stmt := top 20
theorem sc_take : FnScope ["pile", "counts", "total", "slot", "sign"] ["pile", "counts"] (defScope s_take) := ⟨rfl, rfl, rfl, by decide +kernel, rfl, by decide +kernel, by decide +kernel⟩
def sp_take (K : PySem.W.Frag) (ec : Ec) : Sp := fun vs H Q _ => ∃ (p : Int) (a : Addr) (ns : List Int), vs = [.int p, .ref a] ∧ SqL K H a (ns.map V.int) ∧ GoodC ns ∧ 0 ≤ p ∧ ∀ t, H t = none → Q (.ref t) (upd H t (.tup [.int ((takeS ns p : Nat) : Int), .int (takeP ns p)]))
theorem ok_take {P : Program} {w : World} {K : PySem.W.Frag} {mg : Str → Option Value} {base : Heap} {ec : Ec} (z : BI mg) (g : GC mg) (xf : XF K mg ec) (D : Def K mg "take" s_take ["pile", "counts"]) (C_whole : Cal P w K mg base 2 "whole" ["counts"] (sp_whole K ec)) (C_check_pile : Cal P w K mg base 1 "check_pile" ["pile"] (sp_check_pile K ec)) (C_sign_of : Cal P w K mg base 3 "sign_of" ["counts", "slot"] (sp_sign_of K ec)) (C_first_of : Cal P w K mg base 2 "first_of" ["counts", "sign"] (sp_first_of K ec)) : Cal P w K mg base 4 "take" ["pile", "counts"] (sp_take K ec) := by
  refine D.ok sc_take (fun vs H Q E h => ?_) (fun f cdv A outer s H vs Q E hr h => ?_)
  · obtain ⟨p, a, ns, rfl, hS, g0, hp, q⟩ := h; rfl
  obtain ⟨p, a, ns, rfl, hS, g0, hp, q⟩ := h
  refine ⟨_, (pss_cons (ps_set (i := 2) sc_take.nd rfl (Or.inl rfl) (pe_def (C_whole.mono (by decide)) hr rfl (pa_cons (pv 1) pa_nil)))
      (pss_cons (ps_expr (pe_def (C_check_pile.mono (by decide)) hr rfl (pa_cons (pv 0) pa_nil)))
      (pss_cons (ps_set (i := 3) sc_take.nd rfl (Or.inl rfl) (pe_op op_mod (pv 0) (pv 2)))
      (pss_cons (ps_set (i := 4) sc_take.nd rfl (Or.inl rfl) (pe_def (C_sign_of.mono (by decide)) hr rfl (pa_cons (pv 1) (pa_cons (pv 3) pa_nil))))
      (pss_one (ps_ret (pe_tup (pa_cons (pv 4) (pa_cons (pe_op op_sub (pe_op op_add (pe_op op_mul (pe_op op_fdiv (pv 0) (pv 2)) (pe_ix ix_list (pv 1) (pv 4) (fun _ _ => rfl))) (pv 3)) (pe_def (C_first_of.mono (by decide)) hr rfl (pa_cons (pv 1) (pa_cons (pv 4) pa_nil)))) pa_nil))))))))), ?_⟩
  have gl := g0.le
  have gp := g0.pos
  obtain ⟨k1, k2, k3⟩ := take_ok g0 p
  have m0 := Int.emod_nonneg p (show ns.sum ≠ 0 by omega)
  have m1 := Int.emod_lt_of_pos p gp
  have hc := g0.at (takeS ns p)
  refine ⟨_, rfl, a, ns, rfl, hS, g0, ?_⟩
  refine ⟨_, rfl, p, rfl, hp, ?_⟩
  walk_at "r"
  refine ⟨a, ns, p % ns.sum, rfl, hS, g0, m0, m1, ?_⟩
  have es : signOf ns (p % ns.sum) = takeS ns p := rfl
  rw [es]
  walk_at "r"
  refine ⟨a, _, _, _, rfl, rfl, hS, atN k1, ?_⟩
  walk_at "r"
  refine ⟨a, ns, _, rfl, hS, g0, by omega, by omega, ?_⟩
  rw [Int.toNat_natCast]
  refine ⟨_, _, rfl, rfl, (by show 2 ≤ sizeLine; decide), fun t ht => ?_⟩
  exact ⟨_, Less.new (same_up ht) ht upd_same rfl, q t ht⟩
abbrev s_lay_row : Stmt := top 21
theorem sc_lay_row : FnScope ["pile", "counts", "row", "sign"] ["pile", "counts", "row"] (defScope s_lay_row) := ⟨rfl, rfl, rfl, by decide +kernel, rfl, by decide +kernel, by decide +kernel⟩
def sp_lay_row (K : PySem.W.Frag) (ec : Ec) : Sp := fun vs H Q _ => ∃ (p : Int) (a : Addr) (ns : List Int) (r : Addr) (rs : List Int), vs = [.int p, .ref a, .ref r] ∧ SqL K H a (ns.map V.int) ∧ SqL K H r (rs.map V.int) ∧ GoodC ns ∧ 0 ≤ p ∧ (∀ k ∈ rs, OkS ns k) ∧ Q (.int (layRow ns rs p)) H
theorem ok_lay_row {P : Program} {w : World} {K : PySem.W.Frag} {mg : Str → Option Value} {base : Heap} {ec : Ec} (z : BI mg) (g : GC mg) (xf : XF K mg ec) (D : Def K mg "lay_row" s_lay_row ["pile", "counts", "row"]) (C_check_counts : Cal P w K mg base 1 "check_counts" ["counts"] (sp_check_counts K ec)) (C_check_pile : Cal P w K mg base 1 "check_pile" ["pile"] (sp_check_pile K ec)) (C_lay : Cal P w K mg base 3 "lay" ["pile", "counts", "sign"] (sp_lay K ec)) : Cal P w K mg base 4 "lay_row" ["pile", "counts", "row"] (sp_lay_row K ec) := by
  refine D.ok sc_lay_row (fun vs H Q E h => ?_) (fun f cdv A outer s H vs Q E hr h => ?_)
  · obtain ⟨p, a, ns, r, rs, rfl, hS, hR, g0, hp, hk, q⟩ := h; rfl
  obtain ⟨p, a, ns, r, rs, rfl, hS, hR, g0, hp, hk, q⟩ := h
  refine ⟨_, (pss_cons (ps_expr (pe_def (C_check_counts.mono (by decide)) hr rfl (pa_cons (pv 1) pa_nil)))
      (pss_cons (ps_expr (pe_def (C_check_pile.mono (by decide)) hr rfl (pa_cons (pv 0) pa_nil)))
      (pss_cons (ps_for PassesOwn.never rfl (pi_rev rfl z.reversed (pa_cons (pv 2) pa_nil)) (pg_name (i := 3) sc_lay_row.nd rfl (Or.inl rfl)) (pss_one (ps_set (i := 0) sc_lay_row.nd rfl (Or.inl rfl) (pe_def (C_lay.mono (by decide)) hr rfl (pa_cons (pv 0) (pa_cons (pv 1) (pa_cons (pv 3) pa_nil)))))))
      (pss_one (ps_ret (pv 0)))))), ?_⟩
  refine ⟨_, rfl, a, ns, rfl, hS, g0, ?_⟩
  refine ⟨_, rfl, p, rfl, hp, ?_⟩
  refine ⟨_, rfl, r, _, rfl, hR, for_rev (K := K) (a := r) (xs := rs.map V.int) (fun i σ H2 => ∃ v, σ = [some (.int (layRow ns (rs.drop (rs.length - i)) p)), some (.ref a), some (.ref r), v] ∧ H2 = H) ⟨none, ?_, rfl⟩ (fun i σ H2 _ ⟨_, _, e⟩ => e ▸ hR) ?_ ?_⟩
  · rw [Nat.sub_zero, List.drop_length]
    rfl
  · rintro i y σ H2 hi ⟨v, rfl, rfl⟩
    obtain ⟨h1, rfl, hm⟩ := rev_at hi
    obtain ⟨k0, k1, k2⟩ := hk _ hm
    have pn : 0 ≤ layRow ns (rs.drop (rs.length - i)) p := layRow_nn g0 (fun x hx => hk x (List.mem_of_mem_drop hx)) hp
    refine ⟨_, rfl, _, rfl, _, rfl, _, a, ns, _, rfl, hS, g0, pn, k0, k1, k2, some (.int (rs.reverse.getD i 0)), ?_, rfl⟩
    rw [layRow_drop h1]
    rfl
  · rintro σ H2 ⟨v, rfl, rfl⟩
    rw [List.length_map, Nat.sub_self, List.drop_zero]
    exact ⟨_, rfl, _, Less.refl, q⟩
abbrev s_take_row : Stmt := top 22
theorem sc_take_row : FnScope ["pile", "counts", "many", "row", "place", "taken"] ["pile", "counts", "many"] (defScope s_take_row) := ⟨rfl, rfl, rfl, by decide +kernel, rfl, by decide +kernel, by decide +kernel⟩
def sp_take_row (K : PySem.W.Frag) (ec : Ec) : Sp := fun vs H Q _ => ∃ (p : Int) (a : Addr) (ns : List Int) (m : Int), vs = [.int p, .ref a, .int m] ∧ SqL K H a (ns.map V.int) ∧ GoodC ns ∧ 0 ≤ p ∧ 0 ≤ m ∧ m ≤ 1000 ∧
  ∀ r t, H r = none → (upd H r (.lst ((takeRow ns m.toNat p).1.map V.int))) t = none → Q (.ref t) (upd (upd H r (.lst ((takeRow ns m.toNat p).1.map V.int))) t (.tup [.ref r, .int (takeRow ns m.toNat p).2]))
theorem ok_take_row {P : Program} {w : World} {K : PySem.W.Frag} {mg : Str → Option Value} {base : Heap} {ec : Ec} (z : BI mg) (g : GC mg) (xf : XF K mg ec) (D : Def K mg "take_row" s_take_row ["pile", "counts", "many"]) (C_check_counts : Cal P w K mg base 1 "check_counts" ["counts"] (sp_check_counts K ec)) (C_check_pile : Cal P w K mg base 1 "check_pile" ["pile"] (sp_check_pile K ec)) (C_take : Cal P w K mg base 4 "take" ["pile", "counts"] (sp_take K ec)) : Cal P w K mg base 5 "take_row" ["pile", "counts", "many"] (sp_take_row K ec) := by
  refine D.ok sc_take_row (fun vs H Q E h => ?_) (fun f cdv A outer s H vs Q E hr h => ?_)
  · obtain ⟨p, a, ns, m, rfl, hS, g0, hp, h0, h1, q⟩ := h; rfl
  obtain ⟨p, a, ns, m, rfl, hS, g0, hp, h0, h1, q⟩ := h
  refine ⟨_, (pss_cons (ps_expr (pe_def (C_check_counts.mono (by decide)) hr rfl (pa_cons (pv 1) pa_nil)))
      (pss_cons (ps_expr (pe_def (C_check_pile.mono (by decide)) hr rfl (pa_cons (pv 0) pa_nil)))
      (pss_cons (ps_set (i := 3) sc_take_row.nd rfl (Or.inl rfl) (pe_lst pa_nil))
      (pss_cons (ps_for PassesOwn.never rfl (pi_range1 rfl z.range (pa_cons (pv 2) pa_nil)) (pg_name (i := 4) sc_take_row.nd rfl (Or.inl rfl)) (pss_cons (ps_set (i := 5) sc_take_row.nd rfl (Or.inl rfl) (pe_def (C_take.mono (by decide)) hr rfl (pa_cons (pv 0) (pa_cons (pv 1) pa_nil))))
      (pss_cons (ps_expr (pe_bm PySem.F.plainAttrs_list PySem.F.slot_list_append PySem.F.type_list_append mt_append (pv 3) (pa_cons (pe_ix ix_tup (pv 5) pe_int (fun _ _ => rfl)) pa_nil)))
      (pss_one (ps_set (i := 0) sc_take_row.nd rfl (Or.inl rfl) (pe_ix ix_tup (pv 5) pe_int (fun _ _ => rfl)))))))
      (pss_one (ps_ret (pe_tup (pa_cons (pv 3) (pa_cons (pv 0) pa_nil))))))))), ?_⟩
  refine ⟨_, rfl, a, ns, rfl, hS, g0, ?_⟩
  refine ⟨_, rfl, p, rfl, hp, ?_⟩
  refine ⟨(by show 0 ≤ sizeLine; decide), fun r hr' => ?_⟩
  refine ⟨_, rfl, m, rfl, by omega, by omega, for_range (n := m.toNat) (fun i σ H2 => ∃ v w, σ = [some (.int (takeRow ns i p).2), some (.ref a), some (.int m), some (.ref r), v, w] ∧ Same H H2 ∧ H2 r = some (.lst ((takeRow ns i p).1.map V.int))) ⟨none, none, rfl, same_up hr', upd_same⟩ ?_ ?_⟩
  · rintro i σ H2 hi ⟨v, w, rfl, ss, e⟩
    have pn := takeRow_nn g0 i hp
    have ln := takeRow_len ns i p
    refine ⟨_, rfl, _, rfl, _, a, ns, rfl, ss.seq hS, g0, pn, fun t ht => ?_⟩
    have e2 := upd_old (u := .tup [.int ((takeS ns (takeRow ns i p).2 : Nat) : Int), .int (takeP ns (takeRow ns i p).2)]) e ht
    have et : (upd H2 t (.tup [.int ((takeS ns (takeRow ns i p).2 : Nat) : Int), .int (takeP ns (takeRow ns i p).2)])) t = some (.tup [.int ((takeS ns (takeRow ns i p).2 : Nat) : Int), .int (takeP ns (takeRow ns i p).2)]) := upd_same
    have ss2 := ss.trans (same_up (u := .tup [.int ((takeS ns (takeRow ns i p).2 : Nat) : Int), .int (takeP ns (takeRow ns i p).2)]) ht)
    generalize upd H2 t (.tup [.int ((takeS ns (takeRow ns i p).2 : Nat) : Int), .int (takeP ns (takeRow ns i p).2)]) = H3 at e2 et ss2 ⊢
    have ntr : t ≠ r := ne_of et e2 (by intro z; cases z)
    refine ⟨_, rfl, .inl ⟨rfl, _, SqL.of e2⟩, _, rfl, t, _, _, _, rfl, rfl, SqT.of et, rfl, r, _, _, rfl, rfl, e2, small1000 (by rw [List.length_map]; omega), ?_⟩
    refine ⟨_, rfl, t, _, _, _, rfl, rfl, SqT.of (by rw [upd_ne ntr]; exact et), rfl, ?_⟩
    rw [takeRow_snoc]
    refine ⟨_, _, rfl, fun b o q1 => ?_, ?_⟩
    · rw [upd_ne (ne_of_none q1 hr')]
      exact ss2 b o q1
    · rw [upd_same, List.map_append]
      rfl
  · rintro σ H2 ⟨v, w, rfl, ss, e⟩
    refine ⟨_, rfl, _, rfl, (by show 2 ≤ sizeLine; decide), fun t ht => ?_⟩
    have hH : H t = none := ss.free ht
    have ntr : t ≠ r := fun z => by rw [z, e] at ht; cases ht
    have h2t : (upd H r (.lst ((takeRow ns m.toNat p).1.map V.int))) t = none := by rw [upd_ne ntr]; exact hH
    refine ⟨_, Less.add (Less.new (ss.trans (same_up ht)) hr' (upd_old e ht) rfl) h2t upd_same rfl, q r t hr' h2t⟩
abbrev s_check_text : Stmt := top 28
theorem sc_check_text : FnScope ["text", "sign"] ["text"] (defScope s_check_text) := ⟨rfl, rfl, rfl, by decide +kernel, rfl, by decide +kernel, by decide +kernel⟩
def sp_check_text (K : PySem.W.Frag) (ec : Ec) : Sp := fun vs H Q _ => ∃ (l : List Nat), vs = [.str (tx l)] ∧ GT l ∧ Q .non H
theorem ok_check_text {P : Program} {w : World} {K : PySem.W.Frag} {mg : Str → Option Value} {base : Heap} {ec : Ec} (z : BI mg) (g : GC mg) (xf : XF K mg ec) (D : Def K mg "check_text" s_check_text ["text"]) : Cal P w K mg base 1 "check_text" ["text"] (sp_check_text K ec) := by
  refine D.ok sc_check_text (fun vs H Q E h => ?_) (fun f cdv A outer s H vs Q E hr h => ?_)
  · obtain ⟨l, rfl, gl, q⟩ := h; rfl
  obtain ⟨l, rfl, gl, q⟩ := h
  refine ⟨_, (pss_cons (ps_if (pt_cmpR op_gt (pe_callB call_lenT rfl z.len b_len (pa_cons (pv 0) pa_nil)) (pe_gint rfl g.MOST_TEXT) (nomark _)) (pss_one ps_never) pss_nil)
      (pss_one (ps_for PassesOwn.never rfl (pi_str (pv 0)) (pg_name (i := 1) sc_check_text.nd rfl (Or.inl rfl)) (pss_one (ps_if (pt_cmpR op_notinC (pv 1) (pe_gstrT litSIGNS rfl g.SIGNS) (by with_unfolding_all rfl)) (pss_one ps_never) pss_nil))))), ?_⟩
  have hl := gl.len
  refine ⟨_, rfl, l, rfl, szl (by omega), _, _, rfl, rfl, _, rfl, ?_⟩
  refine ite2 (fun c => ?_) (fun c => ?_)
  · have c' := of_decide_eq_true c
    omega
  · refine ⟨_, rfl, l, rfl, for_str (l := l) (fun i σ H2 => H2 = H ∧ ∃ v1, σ = [some (.str (tx l)), v1]) ⟨rfl, _, rfl⟩ ?_ ?_⟩
    · rintro i c σ H2 hi ⟨rfl, v1, rfl⟩
      have hc := gl.sg c (List.mem_of_getElem? hi)
      refine ⟨_, rfl, _, _, rfl, rfl, _, rfl, ?_⟩
      rw [decide_eq_true hc]
      exact ⟨rfl, _, rfl⟩
    · rintro σ H2 ⟨rfl, v1, rfl⟩
      exact ⟨_, Less.refl, q⟩
abbrev s_entry : Stmt := top 29
theorem sc_entry : FnScope ["sign", "count", "place"] ["sign", "count"] (defScope s_entry) := ⟨rfl, rfl, rfl, by decide +kernel, rfl, by decide +kernel, by decide +kernel⟩
def sp_entry (K : PySem.W.Frag) (ec : Ec) : Sp := fun vs H Q _ => ∃ (c n : Nat), vs = [.str (tx [c]), .int (n : Int)] ∧ c ∈ sgs ∧ n ≤ 999 ∧ Q (.str (tx (ent c n))) H
theorem ok_entry {P : Program} {w : World} {K : PySem.W.Frag} {mg : Str → Option Value} {base : Heap} {ec : Ec} (z : BI mg) (g : GC mg) (xf : XF K mg ec) (D : Def K mg "entry" s_entry ["sign", "count"]) : Cal P w K mg base 1 "entry" ["sign", "count"] (sp_entry K ec) := by
  refine D.ok sc_entry (fun vs H Q E h => ?_) (fun f cdv A outer s H vs Q E hr h => ?_)
  · obtain ⟨c, n, rfl, hc, hn, q⟩ := h; rfl
  obtain ⟨c, n, rfl, hc, hn, q⟩ := h
  refine ⟨_, (pss_cons (ps_set (i := 2) sc_entry.nd rfl (Or.inl rfl) (pe_bm PySem.F.plainAttrs_str PySem.F.slot_str_index PySem.F.type_str_index mt_index (pe_gstrT litSIGNS rfl g.SIGNS) (pa_cons (pv 0) pa_nil)))
      (pss_one (ps_ret (pe_joined (pj_int (pv 2) (pj_str (pe_strT (m := [120]) (by decide +kernel)) (pj_int (pv 1) pj_nil))))))), ?_⟩
  refine ⟨rfl, _, rfl, _, _, rfl, rfl, hc, ?_⟩
  have hp := plc_lt hc
  have hl := ent_len hc hn
  have l1 := dec_len (k := 2) (n := plc c) (by decide) (by omega)
  have l2 := dec_len (k := 3) (n := n) (by decide) (by omega)
  have e : ([] ++ dec (plc c) ++ [120]) ++ dec n = ent c n := by unfold ent; simp
  refine ⟨_, rfl, plc c, rfl, by omega, szl (by rw [List.nil_append]; omega), szl (by simp; omega), _, rfl, n, rfl, by omega, szl (by rw [e]; omega), szl (by rw [e]; omega), ?_⟩
  rw [e]
  exact ⟨_, Less.refl, q⟩
abbrev s_letters_of : Stmt := top 30
theorem sc_letters_of : FnScope ["pile", "letters"] ["pile"] (defScope s_letters_of) := ⟨rfl, rfl, rfl, by decide +kernel, rfl, by decide +kernel, by decide +kernel⟩
def sp_letters_of (K : PySem.W.Frag) (ec : Ec) : Sp := fun vs H Q _ => ∃ (n : Nat), vs = [.int (n : Int)] ∧ n < 26 ^ 300 ∧ Q (.str (tx (ltrN n))) H
theorem ok_letters_of {P : Program} {w : World} {K : PySem.W.Frag} {mg : Str → Option Value} {base : Heap} {ec : Ec} (z : BI mg) (g : GC mg) (xf : XF K mg ec) (D : Def K mg "letters_of" s_letters_of ["pile"]) : Cal P w K mg base 1 "letters_of" ["pile"] (sp_letters_of K ec) := by
  refine D.ok sc_letters_of (fun vs H Q E h => ?_) (fun f cdv A outer s H vs Q E hr h => ?_)
  · obtain ⟨n, rfl, hn, q⟩ := h; rfl
  obtain ⟨n, rfl, hn, q⟩ := h
  refine ⟨_, (pss_cons (ps_set (i := 1) sc_letters_of.nd rfl (Or.inl rfl) (pe_ix ix_strT (pe_gstrT litLETTERS rfl g.LETTERS) (pe_op op_mod (pv 0) (pe_callB call_lenT rfl z.len b_len (pa_cons (pe_gstrT litLETTERS rfl g.LETTERS) pa_nil))) (fun _ _ => rfl)))
      (pss_cons (ps_while PassesOwn.never (pt_cmpR op_ge (pv 0) (pe_callB call_lenT rfl z.len b_len (pa_cons (pe_gstrT litLETTERS rfl g.LETTERS) pa_nil)) (nomark _)) (pss_cons (ps_aug (i := 0) sc_letters_of.nd rfl (Or.inl rfl) (pe_callB call_lenT rfl z.len b_len (pa_cons (pe_gstrT litLETTERS rfl g.LETTERS) pa_nil)) ip_fdiv)
      (pss_one (ps_set (i := 1) sc_letters_of.nd rfl (Or.inl rfl) (pe_op op_addT (pe_ix ix_strT (pe_gstrT litLETTERS rfl g.LETTERS) (pe_op op_mod (pv 0) (pe_callB call_lenT rfl z.len b_len (pa_cons (pe_gstrT litLETTERS rfl g.LETTERS) pa_nil))) (fun _ _ => rfl)) (pv 1))))))
      (pss_one (ps_ret (pv 1))))), ?_⟩
  have hl := ltr_len 300 n hn
  have el : ((ltr.length : Nat) : Int) = 26 := rfl
  have at26 : ∀ k : Nat, atI ltr ((k : Int) % ((ltr.length : Nat) : Int)) = some (97 + k % 26) := fun k => by
    have h := ltr_at (k := k % 26) (Nat.mod_lt _ (by decide))
    exact atN (by omega) (by rw [el, show ((k : Int) % 26).toNat = k % 26 by omega]; exact h)
  refine ⟨_, rfl, ltr, rfl, szl (by decide), _, _, rfl, rfl, (by show (0 : Int) < _; decide), ltr, _, _, rfl, rfl, szl (by decide), at26 n, ?_⟩
  refine while_by (fun σ H2 => ∃ (k : Nat) (tl : List Nat), σ = [some (.int (k : Int)), some (.str (tx ((97 + k % 26) :: tl)))] ∧ H2 = H ∧ ltrN n = ltrN k ++ tl) (fun σ H2 => match σ with | [some (.int m), _] => m.toNat | _ => 0) ⟨n, [], rfl, rfl, by simp⟩ ?_ ?_
  · rintro σ H2 ⟨k, tl, rfl, rfl, e⟩
    refine ⟨_, rfl, ltr, rfl, szl (by decide), _, _, rfl, rfl, _, rfl, ?_⟩
    refine ite2 (fun c => ?_) (fun c => ?_)
    · have c' : ((ltr.length : Nat) : Int) ≤ (k : Int) := of_decide_eq_true c
      have hk : 26 ≤ k := by omega
      have e1 := ltrN_big (n := k) (by omega)
      have ln := congrArg List.length e
      rw [e1, List.length_append, List.length_append] at ln
      simp only [List.length_cons, List.length_nil] at ln
      have ed : (k : Int) / ((ltr.length : Nat) : Int) = ((k / 26 : Nat) : Int) := by rw [el]; omega
      refine ⟨_, rfl, ltr, rfl, szl (by decide), _, _, rfl, rfl, ⟨by decide, by decide⟩, ?_⟩
      rw [ed]
      refine ⟨_, rfl, ltr, rfl, szl (by decide), _, _, rfl, rfl, (by show (0 : Int) < _; decide), ltr, _, _, rfl, rfl, szl (by decide), at26 (k / 26), _, rfl, _, _, rfl, rfl, szl (by simp only [List.length_cons, List.length_nil]; omega), ?_⟩
      refine ⟨⟨k / 26, (97 + k % 26) :: tl, rfl, rfl, by rw [e, e1, List.append_assoc]; rfl⟩, ?_⟩
      show ((k / 26 : Nat) : Int).toNat < ((k : Nat) : Int).toNat
      omega
    · have c' : ¬ ((ltr.length : Nat) : Int) ≤ (k : Int) := of_decide_eq_false (Bool.eq_false_iff.mpr c)
      have hk : k < 26 := by omega
      rw [ltrN_small hk] at e
      refine ⟨_, rfl, _, Less.refl, ?_⟩
      rw [Nat.mod_eq_of_lt hk]
      rw [e] at q
      exact q
  · rintro σ H3 Q1 Q2 hq ⟨v1, e1, l, e2, z, i, j, x1, x2, b, x3, h⟩
    exact ⟨v1, e1, l, e2, z, i, j, x1, x2, b, x3, hq _ _ h⟩
abbrev s_packed : Stmt := top 31
theorem sc_packed : FnScope ["text", "kinds", "counts", "pile", "head"] ["text"] (defScope s_packed) := ⟨rfl, rfl, rfl, by decide +kernel, rfl, by decide +kernel, by decide +kernel⟩
def sp_packed (K : PySem.W.Frag) (ec : Ec) : Sp := fun vs H Q _ => ∃ (l : List Nat), vs = [.str (tx l)] ∧ GT l ∧ Q (.str (tx (leafL l))) H
theorem ok_packed {P : Program} {w : World} {K : PySem.W.Frag} {mg : Str → Option Value} {base : Heap} {ec : Ec} (z : BI mg) (g : GC mg) (xf : XF K mg ec) (D : Def K mg "packed" s_packed ["text"]) (C_check_text : Cal P w K mg base 1 "check_text" ["text"] (sp_check_text K ec)) (C_lay_row : Cal P w K mg base 4 "lay_row" ["pile", "counts", "row"] (sp_lay_row K ec)) (C_entry : Cal P w K mg base 1 "entry" ["sign", "count"] (sp_entry K ec)) (C_letters_of : Cal P w K mg base 1 "letters_of" ["pile"] (sp_letters_of K ec)) : Cal P w K mg base 5 "packed" ["text"] (sp_packed K ec) := by
  refine D.ok sc_packed (fun vs H Q E h => ?_) (fun f cdv A outer s H vs Q E hr h => ?_)
  · obtain ⟨l, rfl, gl, q⟩ := h; rfl
  obtain ⟨l, rfl, gl, q⟩ := h
  refine ⟨_, (pss_cons (ps_expr (pe_def (C_check_text.mono (by decide)) hr rfl (pa_cons (pv 0) pa_nil)))
      (pss_cons (ps_if (pt_cmpR op_eq (pv 0) (pe_strT (m := []) (by decide +kernel)) (nomark _)) (pss_one (ps_ret (pe_strT (m := [59, 97]) (by decide +kernel)))) pss_nil)
      (pss_cons (ps_set (i := 1) sc_packed.nd rfl (Or.inr rfl) (pe_comp (caps := [(0, "text")]) rfl (pi_str (pe_gstrT litSIGNS rfl g.SIGNS)) ⟨rfl, by decide +kernel, by decide +kernel, rfl⟩ ⟨⟨rfl, Or.inl rfl, rfl⟩, trivial⟩ rfl (by decide +kernel) (fun _ _ _ _ => pts_one (pt_cmpR op_inC (pv 0) (pv 1) (by with_unfolding_all rfl))) (fun _ _ _ _ => (pv 0))))
      (pss_cons (ps_setComp (i := 2) sc_packed.nd rfl (Or.inl rfl) (caps := [(0, "text")]) rfl (pi_list (pv 1)) ⟨rfl, by decide +kernel, by decide +kernel, rfl⟩ ⟨⟨rfl, Or.inl rfl, rfl⟩, trivial⟩ rfl (by decide +kernel) (fun _ _ _ _ => pts_nil) (fun _ _ _ _ => (pe_bmK (K := K) rfl PySem.F.plainAttrs_str PySem.F.slot_str_count PySem.F.type_str_count mt_count (pv 1) (pa_cons (pv 0) pa_nil))))
      (pss_cons (ps_set (i := 3) sc_packed.nd rfl (Or.inl rfl) (pe_def (C_lay_row.mono (by decide)) hr rfl (pa_cons pe_int (pa_cons (pv 2) (pa_cons (pe_comp (caps := [(1, "kinds")]) rfl (pi_str (pv 0)) ⟨rfl, by decide +kernel, by decide +kernel, rfl⟩ ⟨⟨rfl, Or.inl rfl, rfl⟩, trivial⟩ rfl (by decide +kernel) (fun _ _ _ _ => pts_nil) (fun _ _ _ _ => (pe_bmK (K := K) rfl PySem.F.plainAttrs_list PySem.F.slot_list_index PySem.F.type_list_index mt_lindex (pv 1) (pa_cons (pv 0) pa_nil)))) pa_nil)))))
      (pss_cons (ps_set (i := 4) sc_packed.nd rfl (Or.inl rfl) (pe_bm PySem.F.plainAttrs_str PySem.F.slot_str_join PySem.F.type_str_join mt_join (pe_strT (m := [44]) (by decide +kernel)) (pa_cons (pe_comp2 (caps := []) rfl (pi_zip rfl z.zip (pa_cons (pv 1) (pa_cons (pv 2) pa_nil))) ⟨rfl, by decide +kernel, by decide +kernel, rfl⟩ ⟨rfl, by decide +kernel, by decide +kernel, rfl⟩ trivial rfl (by decide +kernel) (fun _ _ _ _ => pts_nil) (fun _ _ _ _ => (pe_def (C_entry.mono (by decide)) hr rfl (pa_cons (pv 0) (pa_cons (pv 1) pa_nil))))) pa_nil)))
      (pss_one (ps_ret (pe_op op_addT (pe_op op_addT (pv 4) (pe_strT (m := [59]) (by decide +kernel))) (pe_def (C_letters_of.mono (by decide)) hr rfl (pa_cons (pv 3) pa_nil))))))))))), ?_⟩
  have hl := gl.len
  refine ⟨_, rfl, l, rfl, gl, ?_⟩
  refine ⟨_, rfl, rfl, _, rfl, ?_⟩
  refine ite2 (fun c => ?_) (fun c => ?_)
  · have c' := V.str.inj (of_decide_eq_true c)
    rw [tx_inj] at c'
    subst c'
    rw [leaf_nil] at q
    exact ⟨_, Less.refl, q⟩
  have h0 : l ≠ [] := fun z => c (decide_eq_true (by rw [z]))
  refine ⟨sgs, rfl, fun Dk hk => ?_⟩
  have w := its_walk (l := sgs) (D := Dk) (H1 := H)
  refine comp_filter (sigB fun c => decide (c ∈ l)) id (by rw [List.length_map]; exact szl (by decide)) w.1 w.2 ?_ ?_ ?_
  · rintro x hx ys R r
    obtain ⟨c, hc, rfl⟩ := List.mem_map.mp hx
    exact ⟨_, rfl, _, rfl, _, _, rfl, rfl, _, rfl, r⟩
  · rintro x hx _ ys R r
    exact ⟨_, rfl, r⟩
  rw [sigB_filter]
  have eK : sgs.filter (fun c => decide (c ∈ l)) = kindsL l := rfl
  rw [eK]
  have kl := kinds_len l
  have k1 : (upd H Dk (.lst ((kindsL l).map S1))) Dk = some (.lst ((kindsL l).map S1)) := upd_same
  have s1 : Same H (upd H Dk (.lst ((kindsL l).map S1))) := same_up hk
  generalize upd H Dk (.lst ((kindsL l).map S1)) = H1 at s1 k1 ⊢
  refine ⟨_, rfl, Dk, rfl, ⟨_, SqL.of k1⟩, fun Dc hc => ?_⟩
  have w2 := itl_walk (K := K) (SqL.of k1) hc
  refine comp_map (sigV fun c => N1 (l.count c)) (by rw [List.length_map]; exact szl (by omega)) w2.1 w2.2 ?_ ?_
  · rintro x hx ys R r
    obtain ⟨c, hc, rfl⟩ := List.mem_map.mp hx
    exact ⟨_, rfl, rfl, _, rfl, _, _, rfl, rfl, r⟩
  rw [sigV_map, ← cnt_V]
  have c2 : (upd H1 Dc (.lst ((cntI l).map V.int))) Dc = some (.lst ((cntI l).map V.int)) := upd_same
  have k2 : (upd H1 Dc (.lst ((cntI l).map V.int))) Dk = some (.lst ((kindsL l).map S1)) := upd_old k1 hc
  have s2 := s1.trans (same_up (u := .lst ((cntI l).map V.int)) hc)
  generalize upd H1 Dc (.lst ((cntI l).map V.int)) = H2 at s2 c2 k2 ⊢
  refine ⟨_, rfl, _, rfl, l, rfl, fun Dr hr' => ?_⟩
  have w3 := its_walk (l := l) (D := Dr) (H1 := H2)
  refine comp_map (sigV fun c => N1 ((kindsL l).idxOf c)) (by rw [List.length_map]; exact szl (by omega)) w3.1 w3.2 ?_ ?_
  · rintro x hx ys R r
    obtain ⟨c, hc, rfl⟩ := List.mem_map.mp hx
    have lx := lix_by (f := S1) eq_S1 ((mem_kinds gl.sg).mpr hc)
    exact ⟨_, rfl, .inl ⟨rfl, _, SqL.of (upd_old k2 hr')⟩, _, rfl, Dk, _, S1 c, (kindsL l).idxOf c, rfl, rfl, upd_old k2 hr', rfl, flat_by (fun _ => rfl) _, lx.1, lx.2, r⟩
  rw [sigV_map, ← row_V]
  have r3 : (upd H2 Dr (.lst ((rowI l).map V.int))) Dr = some (.lst ((rowI l).map V.int)) := upd_same
  have c3 : (upd H2 Dr (.lst ((rowI l).map V.int))) Dc = some (.lst ((cntI l).map V.int)) := upd_old c2 hr'
  have k3 : (upd H2 Dr (.lst ((rowI l).map V.int))) Dk = some (.lst ((kindsL l).map S1)) := upd_old k2 hr'
  have s3 := s2.trans (same_up (u := .lst ((rowI l).map V.int)) hr')
  generalize upd H2 Dr (.lst ((rowI l).map V.int)) = H3 at s3 r3 c3 k3 ⊢
  refine ⟨0, Dc, cntI l, Dr, rowI l, rfl, SqL.of c3, SqL.of r3, good_cnt gl h0, Int.le_refl _, ok_row gl, ?_⟩
  have ep : layRow (cntI l) (rowI l) 0 = ((pileL l).toNat : Int) := (Int.toNat_of_nonneg (pile_nn gl)).symm
  rw [ep]
  refine ⟨rfl, _, rfl, _, rfl, Dk, Dc, _, _, rfl, k3, c3, fun Dh hh => ?_⟩
  have el : ((kindsL l).map S1).length = ((cntI l).map V.int).length := by rw [List.length_map, List.length_map, cntI_len]
  refine comp_zip entV (by rw [List.length_map]; exact szl (by omega)) el k3 c3 hh ?_ ?_
  · rintro i x y hx hy H' R sm r
    rw [cnt_V, List.getElem?_map] at hy
    rw [List.getElem?_map] at hx
    obtain ⟨c, ec, rfl⟩ := Option.map_eq_some_iff.mp hx
    rw [ec] at hy
    cases hy
    have hc := List.mem_of_getElem? ec
    have := List.count_le_length (a := c) (l := l)
    exact ⟨_, rfl, _, rfl, c, l.count c, rfl, kinds_sgs hc, by omega, r⟩
  rintro H' sm eh
  rw [cnt_V, zip_ent] at eh
  have ls := sum_len (ents_len gl)
  rw [List.length_map] at ls
  refine ⟨[44], Dh, _, rfl, rfl, SqL.of eh, szk (by rw [List.length_map]; show _ + _ * 1 ≤ _; omega), ?_⟩
  have hh1 := head_len gl
  have hh2 := ltr_len301 gl
  refine ⟨_, rfl, headL l, [59], rfl, rfl, szk (by show _ + 1 ≤ _; omega), _, rfl, (pileL l).toNat, rfl, pile_top gl, _, _, rfl, rfl, szk (by rw [List.length_append]; show _ + 1 + _ ≤ _; omega), _, Less.same (s3.trans sm), ?_⟩
  rw [List.append_assoc]
  exact q
abbrev s_number_of : Stmt := top 32
theorem sc_number_of : FnScope ["figures"] ["figures"] (defScope s_number_of) := ⟨rfl, rfl, rfl, by decide +kernel, rfl, by decide +kernel, by decide +kernel⟩
def sp_number_of (K : PySem.W.Frag) (ec : Ec) : Sp := fun vs H Q E => ∃ (f : List Nat), vs = [.str (tx f)] ∧ LeafT f ∧ (∀ n : Nat, numO f = some n → Q (.int (n : Int)) H) ∧ (numO f = none → E (.ref ec.notLeaf) none H)
theorem ok_number_of {P : Program} {w : World} {K : PySem.W.Frag} {mg : Str → Option Value} {base : Heap} {ec : Ec} (z : BI mg) (g : GC mg) (xf : XF K mg ec) (D : Def K mg "number_of" s_number_of ["figures"]) : CalX P w K mg base 1 "number_of" ["figures"] (sp_number_of K ec) := by
  refine D.okX sc_number_of (fun vs H Q E h => ?_) (fun f cdv A outer s H vs Q E hr h => ?_)
  · obtain ⟨f, rfl, lt, q1, q2⟩ := h; rfl
  obtain ⟨f, rfl, lt, q1, q2⟩ := h
  refine ⟨_, (pss_cons (ps_if (PW.pt (pw_or (pt_cmpR op_gt (pe_callB call_lenT rfl z.len b_len (pa_cons (pv 0) pa_nil)) (pe_gint rfl g.MOST_FIGURES) (nomark _)) (pw_or1 (pt_not (pt_truth (pe_bm0 PySem.F.plainAttrs_str PySem.F.slot_str_isdigit PySem.F.type_str_isdigit mt_isdigit (pv 0)) (fun _ => rfl)))))) (pss_one (ps_raise raise_x rfl rfl rfl xf.mNotLeaf xf.oNotLeaf (pa_cons pe_str pa_nil))) pss_nil)
      (pss_one (ps_ret (pe_callTy call_intT rfl z.int b_int (pa_cons (pv 0) pa_nil))))), ?_⟩
  have fl := lt.len
  have da := dig_all lt.asc
  refine ⟨_, rfl, f, rfl, szk (by omega), _, _, rfl, rfl, _, rfl, ?_⟩
  refine or2 (t2 := !(decide (0 < f.length) && f.all Unicode.isDigit)) (fun h => ⟨_, rfl, rfl, f, rfl, rfl, _, rfl, h⟩) (fun gg => ?_) (fun c c2 => ?_)
  · refine ⟨(by show 1 ≤ sizeLine; decide), q2 ?_⟩
    unfold numO
    rw [if_neg]
    rintro ⟨h1, h2, h3⟩
    rcases gg with g | g
    · have g' : (3 : Int) < ((f.length : Nat) : Int) := of_decide_eq_true g
      omega
    · rw [da, h3, decide_eq_true h2] at g
      cases g
  · have c' : ¬ (3 : Int) < ((f.length : Nat) : Int) := of_decide_eq_false c
    rw [da] at c2
    have c3 : (decide (0 < f.length) && f.all fig) = true := by
      cases z : (decide (0 < f.length) && f.all fig) with
      | true => rfl
      | false => rw [z] at c2; cases c2
    rw [Bool.and_eq_true, decide_eq_true_eq] at c3
    refine ⟨_, rfl, f, rfl, fig_of c3.2, List.length_pos_iff.mp c3.1, by omega, q1 _ ?_⟩
    unfold numO
    rw [if_pos ⟨by omega, c3.1, c3.2⟩]
abbrev s_entry_of : Stmt := top 33
theorem sc_entry_of : FnScope ["part", "halves"] ["part"] (defScope s_entry_of) := ⟨rfl, rfl, rfl, by decide +kernel, rfl, by decide +kernel, by decide +kernel⟩
def sp_entry_of (K : PySem.W.Frag) (ec : Ec) : Sp := fun vs H Q E => ∃ (p : List Nat), vs = [.str (tx p)] ∧ LeafT p ∧ (∀ x y : Nat, entO p = some (x, y) → ∀ t H', Same H H' → H t = none → H' t = some (.tup [.int (x : Int), .int (y : Int)]) → Q (.ref t) H') ∧ (entO p = none → ∀ H', Same H H' → E (.ref ec.notLeaf) none H')
theorem ok_entry_of {P : Program} {w : World} {K : PySem.W.Frag} {mg : Str → Option Value} {base : Heap} {ec : Ec} (z : BI mg) (g : GC mg) (xf : XF K mg ec) (D : Def K mg "entry_of" s_entry_of ["part"]) (C_number_of : CalX P w K mg base 1 "number_of" ["figures"] (sp_number_of K ec)) : CalX P w K mg base 2 "entry_of" ["part"] (sp_entry_of K ec) := by
  refine D.okX sc_entry_of (fun vs H Q E h => ?_) (fun f cdv A outer s H vs Q E hr h => ?_)
  · obtain ⟨p, rfl, lt, q1, q2⟩ := h; rfl
  obtain ⟨p, rfl, lt, q1, q2⟩ := h
  refine ⟨_, (pss_cons (ps_set (i := 1) sc_entry_of.nd rfl (Or.inl rfl) (pe_bm PySem.F.plainAttrs_str PySem.F.slot_str_partition PySem.F.type_str_partition mt_part (pv 0) (pa_cons (pe_strT (m := [120]) (by decide +kernel)) pa_nil)))
      (pss_one (ps_ret (pe_tup (pa_cons (PX.pe (px_def (C_number_of.mono (by decide)) hr rfl rfl (pa_cons (pe_ix ix_tup (pv 1) pe_int (fun _ _ => rfl)) pa_nil))) (pa_cons (PX.pe (px_def (C_number_of.mono (by decide)) hr rfl rfl (pa_cons (pe_ix ix_tup (pv 1) pe_int (fun _ _ => rfl)) pa_nil))) pa_nil)))))), ?_⟩
  have pl := lt.len
  refine ⟨_, rfl, rfl, _, _, rfl, rfl, szk (by omega), fun u hu => ?_⟩
  rw [cut_eq]
  have e1 : (upd H u (.tup ([cut0 120 p, cut1 120 p, cut2 120 p].map fun m => V.str (tx m)))) u = some (.tup [.str (tx (cut0 120 p)), .str (tx (cut1 120 p)), .str (tx (cut2 120 p))]) := upd_same
  have s1 := same_up (u := .tup ([cut0 120 p, cut1 120 p, cut2 120 p].map fun m => V.str (tx m))) hu
  generalize upd H u (.tup ([cut0 120 p, cut1 120 p, cut2 120 p].map fun m => V.str (tx m))) = H1 at e1 s1 ⊢
  refine ⟨_, rfl, u, _, _, _, rfl, rfl, SqT.of e1, rfl, _, rfl, lt.sub (sub0 120 p), fun x hx => ?_, fun hx => q2 (by unfold entO; rw [hx]) _ s1⟩
  refine ⟨_, rfl, u, _, _, _, rfl, rfl, SqT.of e1, rfl, _, rfl, lt.sub (sub2 120 p), fun y hy => ?_, fun hy => q2 (by unfold entO; rw [hx, hy]) _ s1⟩
  exact ⟨(by show 2 ≤ sizeLine; decide), fun t ht => q1 x y (by unfold entO; rw [hx, hy]) t _ (s1.trans (same_up ht)) (s1.free ht) upd_same⟩
abbrev s_check_entries : Stmt := top 34
theorem sc_check_entries : FnScope ["entries", "last", "place", "count"] ["entries"] (defScope s_check_entries) := ⟨rfl, rfl, rfl, by decide +kernel, rfl, by decide +kernel, by decide +kernel⟩
def sp_check_entries (K : PySem.W.Frag) (ec : Ec) : Sp := fun vs H Q E => ∃ (a : Addr) (ts : List Addr) (es : List (Nat × Nat)), vs = [.ref a] ∧ PrsAt H a ts (es.map toV) ∧ es.length ≤ 3001 ∧ (chkE es = true → ∀ H', Same H H' → Q .non H') ∧ (chkE es = false → ∀ H', Same H H' → E (.ref ec.notLeaf) none H')
theorem ok_check_entries {P : Program} {w : World} {K : PySem.W.Frag} {mg : Str → Option Value} {base : Heap} {ec : Ec} (z : BI mg) (g : GC mg) (xf : XF K mg ec) (D : Def K mg "check_entries" s_check_entries ["entries"]) : CalX P w K mg base 1 "check_entries" ["entries"] (sp_check_entries K ec) := by
  refine D.okX sc_check_entries (fun vs H Q E h => ?_) (fun f cdv A outer s H vs Q E hr h => ?_)
  · obtain ⟨a, ts, es, rfl, pa, hl, q1, q2⟩ := h; rfl
  obtain ⟨a, ts, es, rfl, pa, hl, q1, q2⟩ := h
  refine ⟨_, (pss_cons (ps_set (i := 1) sc_check_entries.nd rfl (Or.inl rfl) (pe_un un_neg pe_int))
      (pss_cons (ps_for PassesOwn.leaving rfl (pi_list (pv 0)) (pg_tup rfl (pgs_cons (pg_name (i := 2) sc_check_entries.nd rfl (Or.inl rfl)) (pgs_cons (pg_name (i := 3) sc_check_entries.nd rfl (Or.inl rfl)) pgs_nil))) (pss_cons (ps_if (pt_not (pt_chain op_lt op_lt (pv 1) (pv 2) (pe_callB call_lenT rfl z.len b_len (pa_cons (pe_gstrT litSIGNS rfl g.SIGNS) pa_nil)))) (pss_one (ps_raise raise_x rfl rfl rfl xf.mNotLeaf xf.oNotLeaf (pa_cons pe_str pa_nil))) pss_nil)
      (pss_cons (ps_if (pt_cmpR op_eq (pv 3) pe_int (nomark _)) (pss_one (ps_raise raise_x rfl rfl rfl xf.mNotLeaf xf.oNotLeaf (pa_cons pe_str pa_nil))) pss_nil)
      (pss_one (ps_set (i := 1) sc_check_entries.nd rfl (Or.inl rfl) (pv 2))))))
      (pss_one (ps_if (pt_cmpR op_gt (pe_callB (call_sum rfl) rfl z.sum b_sum (pa_cons (pe_comp2 (caps := []) rfl (pi_list (pv 0)) ⟨rfl, by decide +kernel, by decide +kernel, rfl⟩ ⟨rfl, by decide +kernel, by decide +kernel, rfl⟩ trivial rfl (by decide +kernel) (fun _ _ _ _ => pts_nil) (fun _ _ _ _ => (pv 1))) pa_nil)) (pe_gint rfl g.MOST_TEXT) (nomark _)) (pss_one (ps_raise raise_x rfl rfl rfl xf.mNotLeaf xf.oNotLeaf (pa_cons pe_str pa_nil))) pss_nil)))), ?_⟩
  have el : (ts.map V.ref).length = es.length := by rw [List.length_map, pa.len, List.length_map]
  have bad : okE (-1) es = false → chkE es = false := fun z => by unfold chkE; rw [z]; rfl
  refine ⟨_, rfl, ?_⟩
  refine ⟨_, rfl, a, rfl, ⟨_, SqL.of pa.ls⟩, for_list (K := K) (a := a) (xs := ts.map V.ref) (fun i σ H2 => ∃ (z : Int) (v2 v3 : Option V), σ = [some (.ref a), some (.int z), v2, v3] ∧ H2 = H ∧ okE z (es.drop i) = okE (-1) es) ⟨-1, none, none, rfl, rfl, by rw [List.drop_zero]⟩ (fun i σ H2 _ ⟨_, _, _, _, e, _⟩ => e ▸ SqL.of pa.ls) ?_ ?_⟩
  · rintro i y σ H2 hi ⟨z, v2, v3, rfl, rfl, ok⟩
    have hi1 := (List.getElem?_eq_some_iff.mp hi).1
    have hi2 : i < ts.length := by rw [List.length_map] at hi1; exact hi1
    rw [refs_at hi2] at hi
    cases hi
    have hi3 : i < es.length := by omega
    obtain ⟨p, hp⟩ : ∃ p, es[i]? = some p := ⟨_, List.getElem?_eq_getElem hi3⟩
    have e2 : H2 (ts.getD i 0) = some (.tup [.int (p.1 : Int), .int (p.2 : Int)]) := pa.at_ i (toV p) (by rw [List.getElem?_map, hp]; rfl)
    have ed : es.drop i = p :: es.drop (i + 1) := by
      rw [List.drop_eq_getElem_cons hi3]
      rw [List.getElem?_eq_getElem hi3] at hp
      rw [Option.some.inj hp]
    have oc : ∀ (z : Int) (p : Nat × Nat) (r : List (Nat × Nat)), okE z (p :: r) = if z < (p.1 : Int) ∧ p.1 < 94 then (if p.2 = 0 then false else okE (p.1 : Int) r) else false := fun _ _ _ => rfl
    rw [ed, oc] at ok
    refine ⟨_, _, rfl, SqT.of e2, rfl, _, _, rfl, _, _, rfl, rfl, ?_⟩
    refine ⟨_, rfl, _, rfl, _, _, rfl, rfl, _, rfl, ?_⟩
    refine ite2 (fun c => ?_) (fun c => ?_)
    · have c1 : z < (p.1 : Int) := of_decide_eq_true c
      refine ⟨sgs, rfl, szl (by decide), _, _, rfl, rfl, _, rfl, ?_⟩
      by_cases c2 : p.1 < 94
      · have e3 : decide (((p.1 : Nat) : Int) < ((sgs.length : Nat) : Int)) = true := decide_eq_true (by rw [sgs_len]; omega)
        rw [e3]
        refine iteF ?_
        rw [if_pos ⟨c1, c2⟩] at ok
        refine ⟨_, rfl, rfl, _, rfl, ?_⟩
        by_cases c3 : p.2 = 0
        · have e4 : decide (V.int (p.2 : Int) = V.int 0) = true := decide_eq_true (by rw [c3]; rfl)
          rw [e4]
          refine iteT ?_
          rw [if_pos c3] at ok
          exact ⟨(by show 1 ≤ sizeLine; decide), q2 (bad ok.symm) _ (Same.refl _)⟩
        · have e4 : decide (V.int (p.2 : Int) = V.int 0) = false := decide_eq_false (fun e => by have := V.int.inj e; omega)
          rw [e4]
          refine iteF ?_
          rw [if_neg c3] at ok
          exact ⟨_, rfl, (p.1 : Int), some _, some _, rfl, rfl, ok⟩
      · have e3 : decide (((p.1 : Nat) : Int) < ((sgs.length : Nat) : Int)) = false := decide_eq_false (by rw [sgs_len]; omega)
        rw [e3]
        refine iteT ?_
        rw [if_neg (fun z => c2 z.2)] at ok
        exact ⟨(by show 1 ≤ sizeLine; decide), q2 (bad ok.symm) _ (Same.refl _)⟩
    · have c1 : ¬ z < (p.1 : Int) := of_decide_eq_false (Bool.eq_false_iff.mpr c)
      rw [if_neg (fun z => c1 z.1)] at ok
      refine ⟨_, rfl, ?_⟩
      refine iteT ?_
      exact ⟨(by show 1 ≤ sizeLine; decide), q2 (bad ok.symm) _ (Same.refl _)⟩
  · rintro σ H2 ⟨z, v2, v3, rfl, rfl, ok⟩
    rw [el, List.drop_length] at ok
    have ok : true = okE (-1) es := ok
    refine ⟨_, rfl, a, rfl, ⟨_, SqL.of pa.ls⟩, fun D hD => ?_⟩
    refine comp_prs (fun p => p.2) (by rw [List.length_map]; exact szk (by omega)) pa hD ?_ ?_
    · rintro i p hp us R r
      exact ⟨_, rfl, r⟩
    have em : (es.map toV).map (fun p => p.2) = (cntE es).map V.int := by unfold cntE; rw [List.map_map, List.map_map]; rfl
    rw [em]
    refine ⟨D, cntE es, rfl, SqL.of upd_same, _, _, rfl, rfl, _, rfl, ?_⟩
    have sm := same_up (u := .lst ((cntE es).map V.int)) hD
    have es' := cntE_sum es
    by_cases c : (es.map fun e => e.2).sum ≤ 150
    · have e5 : decide ((150 : Int) < (cntE es).sum) = false := decide_eq_false (by omega)
      rw [e5]
      refine iteF ?_
      refine q1 ?_ _ sm
      unfold chkE
      rw [← ok, decide_eq_true c]
      rfl
    · have e5 : decide ((150 : Int) < (cntE es).sum) = true := decide_eq_true (by omega)
      rw [e5]
      refine iteT ?_
      refine ⟨(by show 1 ≤ sizeLine; decide), q2 ?_ _ sm⟩
      unfold chkE
      rw [decide_eq_false c, Bool.and_false]
abbrev s_entries_of : Stmt := top 35
theorem sc_entries_of : FnScope ["head", "entries"] ["head"] (defScope s_entries_of) := ⟨rfl, rfl, rfl, by decide +kernel, rfl, by decide +kernel, by decide +kernel⟩
def sp_entries_of (K : PySem.W.Frag) (ec : Ec) : Sp := fun vs H Q E => ∃ (m : List Nat), vs = [.str (tx m)] ∧ LeafT m ∧ (∀ es, parO m = some es → ∀ a ts H', Same H H' → PrsAt H' a ts (es.map toV) → Q (.ref a) H') ∧ (parO m = none → ∀ H', Same H H' → E (.ref ec.notLeaf) none H')
theorem ok_entries_of {P : Program} {w : World} {K : PySem.W.Frag} {mg : Str → Option Value} {base : Heap} {ec : Ec} (z : BI mg) (g : GC mg) (xf : XF K mg ec) (D : Def K mg "entries_of" s_entries_of ["head"]) (C_entry_of : CalX P w K mg base 2 "entry_of" ["part"] (sp_entry_of K ec)) (C_check_entries : CalX P w K mg base 1 "check_entries" ["entries"] (sp_check_entries K ec)) : CalX P w K mg base 3 "entries_of" ["head"] (sp_entries_of K ec) := by
  refine D.okX sc_entries_of (fun vs H Q E h => ?_) (fun f cdv A outer s H vs Q E hr h => ?_)
  · obtain ⟨m, rfl, lt, q1, q2⟩ := h; rfl
  obtain ⟨m, rfl, lt, q1, q2⟩ := h
  refine ⟨_, (pss_cons (ps_if (pt_cmpR op_eq (pv 0) (pe_strT (m := []) (by decide +kernel)) (nomark _)) (pss_one (ps_ret (pe_lst pa_nil))) pss_nil)
      (pss_cons (ps_setCompX (i := 1) sc_entries_of.nd rfl (Or.inl rfl) (caps := []) rfl (pi_list (pe_bm PySem.F.plainAttrs_str PySem.F.slot_str_split PySem.F.type_str_split mt_split (pv 0) (pa_cons (pe_strT (m := [44]) (by decide +kernel)) pa_nil))) ⟨rfl, by decide +kernel, by decide +kernel, rfl⟩ trivial rfl (by decide +kernel) (fun _ _ _ _ => pts_nil) (fun _ _ _ _ => px_defp (C_entry_of.mono (by decide)) hr rfl (pa_cons (pv 0) pa_nil)))
      (pss_cons (ps_expr (PX.pe (px_def (C_check_entries.mono (by decide)) hr rfl rfl (pa_cons (pv 1) pa_nil))))
      (pss_one (ps_ret (pv 1)))))), ?_⟩
  have ml := lt.len
  refine ⟨_, rfl, rfl, _, rfl, ?_⟩
  refine ite2 (fun c => ?_) (fun c => ?_)
  · have c' := V.str.inj (of_decide_eq_true c)
    rw [tx_inj] at c'
    subst c'
    exact ⟨(by show 0 ≤ sizeLine; decide), fun D hD => q1 [] rfl D [] _ (same_up hD) ⟨upd_same, rfl, fun j p e => by simp at e⟩⟩
  have h0 : m ≠ [] := fun z => c (decide_eq_true (by rw [z]))
  refine ⟨_, rfl, rfl, m, 44, rfl, rfl, by decide, szlt (by omega), fun p hp => ?_⟩
  have msl := splitA_len 44 m []
  have mss : ∀ q ∈ splitA 44 [] m, Sub q m := fun q hq => part_sub hq
  have po : parO m = match entsO (splitA 44 [] m) with | some es => if chkE es = true then some es else none | none => none := by unfold parO; rw [if_neg h0]; try (cases entsO (splitA 44 [] m) <;> rfl)
  generalize splitA 44 [] m = ms at msl mss po ⊢
  have p1 : (upd H p (.lst (ms.map fun m => V.str (tx m)))) p = some (.lst (ms.map fun m => V.str (tx m))) := upd_same
  have s1 := same_up (u := .lst (ms.map fun m => V.str (tx m))) hp
  generalize upd H p (.lst (ms.map fun m => V.str (tx m))) = H1 at s1 p1 ⊢
  refine ⟨p, rfl, ⟨_, SqL.of p1⟩, fun D hD => ?_⟩
  have at_ : ∀ i, i < ms.length → (ms.map fun m => V.str (tx m))[i]? = some (V.str (tx (ms.getD i []))) := fun i hi => by
    rw [List.getElem?_map, List.getD_eq_getElem?_getD, List.getElem?_eq_getElem hi]
    rfl
  have gt_ : ∀ i, i < ms.length → ms[i]? = some (ms.getD i []) := fun i hi => by
    rw [List.getD_eq_getElem?_getD, List.getElem?_eq_getElem hi]
    rfl
  refine comp_mkpX (n := ms.length) (fun i => (entO (ms.getD i [])).isSome = true) (fun i => V.str (tx (ms.getD i []))) (fun i => toV ((entO (ms.getD i [])).getD (0, 0))) (szk (by omega)) hD ?_ ?_ ?_ ?_
  · rintro i H' hi sm
    have sq : SqL K H' p _ := SqL.of (sm _ _ p1)
    refine ⟨⟨_, _, sq, at_ i hi⟩, fun y H2 hy => ⟨?_, hy.1⟩⟩
    have := hy.2 _ sq
    rw [at_ i hi] at this
    exact (Option.some.inj this).symm
  · rintro H' sm
    exact ⟨_, SqL.of (sm _ _ p1), by rw [List.length_map]; exact Nat.le_refl _⟩
  · rintro i H' R hi sm r
    refine ⟨_, rfl, _, rfl, lt.sub (mss _ (List.mem_of_getElem? (gt_ i hi))), fun x y hx t H2 s2 ht e2 => ?_, fun hx H2 s2 => ?_⟩
    · rw [hx] at r
      exact r rfl t H2 ht s2 e2
    · refine q2 ?_ H2 (s1.trans (sm.trans s2))
      rw [po]
      cases z : entsO ms with
      | none => rfl
      | some es =>
        obtain ⟨x, ex, _⟩ := (ents_some z).2 i _ (gt_ i hi)
        rw [hx] at ex
        cases ex
  · rintro gd ts H' sm pr
    cases z : entsO ms with
    | none =>
      obtain ⟨i, q, e1, e2⟩ := ents_none z
      have hi := (List.getElem?_eq_some_iff.mp e1).1
      have := gd i hi
      have e3 := gt_ i hi
      rw [e1] at e3
      rw [← Option.some.inj e3, e2] at this
      cases this
    | some es =>
      obtain ⟨le, ea⟩ := ents_some z
      have em : (List.range ms.length).map (fun i => toV ((entO (ms.getD i [])).getD (0, 0))) = es.map toV := by
        refine List.ext_getElem? fun i => ?_
        rw [List.getElem?_map, List.getElem?_map]
        by_cases hi : i < ms.length
        · obtain ⟨x, e1, e2⟩ := ea i _ (gt_ i hi)
          rw [List.getElem?_range hi, e2]
          show some (toV ((entO (ms.getD i [])).getD (0, 0))) = some (toV x)
          rw [e1]
          rfl
        · rw [List.getElem?_eq_none (by simpa using hi), List.getElem?_eq_none (by omega)]
          rfl
      rw [em] at pr
      rw [z] at po
      have po : parO m = if chkE es = true then some es else none := po
      refine ⟨_, rfl, D, ts, es, rfl, pr, by omega, fun ck H2 s2 => ?_, fun ck H2 s2 => ?_⟩
      · rw [if_pos ck] at po
        exact ⟨_, rfl, q1 es po D ts H2 ((s1.trans sm).trans s2) (pr.same s2)⟩
      · rw [if_neg (by rw [ck]; decide)] at po
        exact q2 po H2 ((s1.trans sm).trans s2)
abbrev s_pile_of : Stmt := top 36
theorem sc_pile_of : FnScope ["letters", "pile", "letter"] ["letters"] (defScope s_pile_of) := ⟨rfl, rfl, rfl, by decide +kernel, rfl, by decide +kernel, by decide +kernel⟩
def sp_pile_of (K : PySem.W.Frag) (ec : Ec) : Sp := fun vs H Q E => ∃ (m : List Nat), vs = [.str (tx m)] ∧ (∀ n, pilO m = some n → Q (.int ((n : Nat) : Int)) H) ∧ (pilO m = none → E (.ref ec.notLeaf) none H)
theorem ok_pile_of {P : Program} {w : World} {K : PySem.W.Frag} {mg : Str → Option Value} {base : Heap} {ec : Ec} (z : BI mg) (g : GC mg) (xf : XF K mg ec) (D : Def K mg "pile_of" s_pile_of ["letters"]) : CalX P w K mg base 1 "pile_of" ["letters"] (sp_pile_of K ec) := by
  refine D.okX sc_pile_of (fun vs H Q E h => ?_) (fun f cdv A outer s H vs Q E hr h => ?_)
  · obtain ⟨m, rfl, q1, q2⟩ := h; rfl
  obtain ⟨m, rfl, q1, q2⟩ := h
  refine ⟨_, (pss_cons (ps_set (i := 1) sc_pile_of.nd rfl (Or.inl rfl) pe_int)
      (pss_cons (ps_for PassesOwn.leaving rfl (pi_str (pv 0)) (pg_name (i := 2) sc_pile_of.nd rfl (Or.inl rfl)) (pss_cons (ps_if (pt_cmpR op_notinC (pv 2) (pe_gstrT litLETTERS rfl g.LETTERS) (by with_unfolding_all rfl)) (pss_one (ps_raise raise_x rfl rfl rfl xf.mNotLeaf xf.oNotLeaf (pa_cons pe_str pa_nil))) pss_nil)
      (pss_one (ps_set (i := 1) sc_pile_of.nd rfl (Or.inl rfl) (pe_op op_add (pe_op op_mul (pv 1) (pe_callB call_lenT rfl z.len b_len (pa_cons (pe_gstrT litLETTERS rfl g.LETTERS) pa_nil))) (pe_bm PySem.F.plainAttrs_str PySem.F.slot_str_index PySem.F.type_str_index mt_index (pe_gstrT litLETTERS rfl g.LETTERS) (pa_cons (pv 2) pa_nil)))))))
      (pss_one (ps_ret (pv 1))))), ?_⟩
  have el : ((ltr.length : Nat) : Int) = 26 := rfl
  refine ⟨_, rfl, m, rfl, for_str (l := m) (fun i σ H2 => ∃ (v2 : Option V), σ = [some (.str (tx m)), some (.int ((ltrVal (m.take i) : Nat) : Int)), v2] ∧ H2 = H ∧ ∀ c ∈ m.take i, c ∈ ltr) ⟨none, rfl, rfl, fun c hc => by simp at hc⟩ ?_ ?_⟩
  · rintro i c σ H2 hi ⟨v2, rfl, rfl, al⟩
    refine ⟨_, rfl, _, _, rfl, rfl, _, rfl, ?_⟩
    by_cases hc : c ∈ ltr
    · rw [decide_eq_true hc]
      refine ⟨_, rfl, ltr, rfl, szl (by decide), _, _, rfl, rfl, ?_⟩
      refine ⟨.inr ⟨by decide, by decide⟩, rfl, _, rfl, ltr, c, rfl, rfl, hc, _, _, rfl, rfl, ?_⟩
      have e : m.take (i + 1) = m.take i ++ [c] := by rw [List.take_succ, hi]; rfl
      refine ⟨some (.str (tx [c])), ?_, rfl, fun x hx => ?_⟩
      · rw [e, ltrVal_snoc, el]
        have : ((ltrVal (m.take i) * 26 + ltr.idxOf c : Nat) : Int) = ((ltrVal (m.take i) : Nat) : Int) * 26 + ((ltr.idxOf c : Nat) : Int) := by omega
        rw [this]
        rfl
      · rw [e, List.mem_append, List.mem_singleton] at hx
        rcases hx with hx | hx
        · exact al x hx
        · rw [hx]; exact hc
    · rw [decide_eq_false hc]
      refine ⟨(by show 1 ≤ sizeLine; decide), q2 ?_⟩
      unfold pilO
      rw [if_neg]
      intro z
      exact hc (of_decide_eq_true (List.all_eq_true.mp z c (List.mem_of_getElem? hi)))
  · rintro σ H2 ⟨v2, rfl, rfl, al⟩
    rw [List.take_length] at al ⊢
    refine ⟨_, rfl, q1 _ ?_⟩
    unfold pilO
    rw [if_pos (List.all_eq_true.mpr fun c hc => decide_eq_true (al c hc))]
abbrev s_text_of : Stmt := top 37
theorem sc_text_of : FnScope ["entries", "pile", "counts", "row"] ["entries", "pile"] (defScope s_text_of) := ⟨rfl, rfl, rfl, by decide +kernel, rfl, by decide +kernel, by decide +kernel⟩
def sp_text_of (K : PySem.W.Frag) (ec : Ec) : Sp := fun vs H Q _ => ∃ (a : Addr) (ts : List Addr) (es : List (Nat × Nat)) (n : Nat), vs = [.ref a, .int (n : Int)] ∧ PrsAt H a ts (es.map toV) ∧ GE es ∧ Q (.str (tx (textE es n))) H
theorem ok_text_of {P : Program} {w : World} {K : PySem.W.Frag} {mg : Str → Option Value} {base : Heap} {ec : Ec} (z : BI mg) (g : GC mg) (xf : XF K mg ec) (D : Def K mg "text_of" s_text_of ["entries", "pile"]) (C_take_row : Cal P w K mg base 5 "take_row" ["pile", "counts", "many"] (sp_take_row K ec)) : Cal P w K mg base 6 "text_of" ["entries", "pile"] (sp_text_of K ec) := by
  refine D.ok sc_text_of (fun vs H Q E h => ?_) (fun f cdv A outer s H vs Q E hr h => ?_)
  · obtain ⟨a, ts, es, n, rfl, pa, ge, q⟩ := h; rfl
  obtain ⟨a, ts, es, n, rfl, pa, ge, q⟩ := h
  refine ⟨_, (pss_cons (ps_if (pt_cmpR op_eq (pe_callB call_len_seq rfl z.len b_len (pa_cons (pv 0) pa_nil)) pe_int (nomark _)) (pss_one (ps_ret (pe_strT (m := []) (by decide +kernel)))) pss_nil)
      (pss_cons (ps_setComp2 (i := 2) sc_text_of.nd rfl (Or.inl rfl) (caps := []) rfl (pi_list (pv 0)) ⟨rfl, by decide +kernel, by decide +kernel, rfl⟩ ⟨rfl, by decide +kernel, by decide +kernel, rfl⟩ trivial rfl (by decide +kernel) (fun _ _ _ _ => pts_nil) (fun _ _ _ _ => (pv 1)))
      (pss_cons (ps_set (i := 3) sc_text_of.nd rfl (Or.inl rfl) (pe_ix ix_tup (pe_def (C_take_row.mono (by decide)) hr rfl (pa_cons (pv 1) (pa_cons (pv 2) (pa_cons (pe_callB (call_sum rfl) rfl z.sum b_sum (pa_cons (pv 2) pa_nil)) pa_nil)))) pe_int (fun _ _ => rfl)))
      (pss_one (ps_ret (pe_bm PySem.F.plainAttrs_str PySem.F.slot_str_join PySem.F.type_str_join mt_join (pe_strT (m := []) (by decide +kernel)) (pa_cons (pe_comp (caps := [(0, "entries")]) rfl (pi_list (pv 3)) ⟨rfl, by decide +kernel, by decide +kernel, rfl⟩ ⟨⟨rfl, Or.inl rfl, rfl⟩, trivial⟩ rfl (by decide +kernel) (fun _ _ _ _ => pts_nil) (fun _ _ _ _ => (pe_ix ix_strT (pe_gstrT litSIGNS rfl g.SIGNS) (pe_ix (ix_tupK (K := K) rfl) (pe_ix (ix_listK (K := K) rfl) (pv 1) (pv 0) (fun _ _ => rfl)) pe_int (fun _ _ => rfl)) (fun _ _ => rfl)))) pa_nil))))))), ?_⟩
  have hl := ge.len
  have hs := ge.sum
  have el : (ts.map V.ref).length = es.length := by rw [List.length_map, pa.len, List.length_map]
  refine ⟨_, rfl, a, _, rfl, .inl (SqL.of pa.ls), ?_⟩
  rw [el]
  refine ⟨rfl, _, rfl, ?_⟩
  refine ite2 (fun c => ?_) (fun c => ?_)
  · have c' : ((es.length : Nat) : Int) = 0 := V.int.inj (of_decide_eq_true c)
    have h0 : es = [] := List.length_eq_zero_iff.mp (by omega)
    subst h0
    exact ⟨_, Less.refl, q⟩
  have h0 : es ≠ [] := fun z => c (decide_eq_true (by rw [z]; rfl))
  refine ⟨_, rfl, a, rfl, ⟨_, SqL.of pa.ls⟩, fun Dc hc => ?_⟩
  refine comp_prs (fun p => p.2) (by rw [List.length_map]; exact szl (by omega)) pa hc ?_ ?_
  · rintro i p hp us R r
    exact ⟨_, rfl, r⟩
  have em : (es.map toV).map (fun p => p.2) = (cntE es).map V.int := by unfold cntE; rw [List.map_map, List.map_map]; rfl
  rw [em]
  have c1 : (upd H Dc (.lst ((cntE es).map V.int))) Dc = some (.lst ((cntE es).map V.int)) := upd_same
  have pa1 := pa.same (same_up (u := .lst ((cntE es).map V.int)) hc)
  have s1 := same_up (u := .lst ((cntE es).map V.int)) hc
  generalize upd H Dc (.lst ((cntE es).map V.int)) = H1 at c1 pa1 s1 ⊢
  have cs := cntE_sum es
  have gc := goodE ge h0
  refine ⟨_, rfl, _, rfl, _, rfl, Dc, cntE es, rfl, SqL.of c1, (n : Int), Dc, cntE es, _, rfl, SqL.of c1, gc, by omega, by omega, by omega, fun r t hr' ht => ?_⟩
  have eS : (cntE es).sum.toNat = (es.map fun e => e.2).sum := by omega
  rw [eS] at ht ⊢
  have held := takeRow_held gc ((es.map fun e => e.2).sum) (n : Int)
  have rlen := takeRow_len (cntE es) ((es.map fun e => e.2).sum) (n : Int)
  have et : textE es n = (takeRow (cntE es) ((es.map fun e => e.2).sum) (n : Int)).1.map fun k => sgs.getD (es.getD k.toNat (0, 0)).1 0 := by unfold textE; rw [if_neg h0]
  rw [et] at q
  generalize (takeRow (cntE es) ((es.map fun e => e.2).sum) (n : Int)) = rw at ht held rlen q ⊢
  have t2 : (upd (upd H1 r (.lst (rw.1.map V.int))) t (.tup [.ref r, .int rw.2])) t = some (.tup [.ref r, .int rw.2]) := upd_same
  have r2 : (upd (upd H1 r (.lst (rw.1.map V.int))) t (.tup [.ref r, .int rw.2])) r = some (.lst (rw.1.map V.int)) := upd_old upd_same ht
  have s2 : Same H1 (upd (upd H1 r (.lst (rw.1.map V.int))) t (.tup [.ref r, .int rw.2])) := (same_up hr').trans (same_up ht)
  show tC (V.int 0) _ (upd (upd H1 r (.lst (rw.1.map V.int))) t (.tup [.ref r, .int rw.2])) _
  generalize upd (upd H1 r (.lst (rw.1.map V.int))) t (.tup [.ref r, .int rw.2]) = H2 at t2 r2 s2 ⊢
  have pa2 := pa1.same s2
  refine ⟨t, _, _, _, rfl, rfl, SqT.of t2, rfl, ?_⟩
  refine ⟨rfl, _, rfl, r, rfl, ⟨_, SqL.of r2⟩, fun Dj hj => ?_⟩
  have wk := itl_walk (K := K) (SqL.of r2) hj
  refine comp_map (numV fun k => S1 (sgs.getD (es.getD k (0, 0)).1 0)) (by rw [List.length_map]; exact szl (by omega)) wk.1 wk.2 ?_ ?_
  · rintro x hx ys R r
    obtain ⟨k, hk, rfl⟩ := List.mem_map.mp hx
    obtain ⟨k0, k1, _⟩ := (held k hk).2
    rw [cntE_len] at k1
    have hlt : k.toNat < es.length := by omega
    have ge1 : es[k.toNat]? = some (es.getD k.toNat (0, 0)) := by rw [List.getD_eq_getElem?_getD, List.getElem?_eq_getElem hlt]; rfl
    have pj := pa2.at_ k.toNat (toV (es.getD k.toNat (0, 0))) (by rw [List.getElem?_map, ge1]; rfl)
    have h94 := (ge.at_ _ (List.mem_of_getElem? ge1)).1
    have r' : R (S1 (sgs.getD (es.getD k.toNat (0, 0)).1 0)) (upd H2 Dj (.lst ys)) := r
    generalize es.getD k.toNat (0, 0) = pp at pj h94 r'
    exact ⟨_, rfl, _, rfl, a, _, _, _, rfl, rfl, SqL.of (upd_old pa2.ls hj), atN k0 (refs_at (by rw [List.length_map] at el; omega)), _, _, _, _, rfl, rfl, SqT.of (upd_old pj hj), rfl, sgs, _, _, rfl, rfl, szl (by decide), atN (by omega) (by rw [Int.toNat_natCast]; exact sgs_getD h94), r'⟩
  have ev : (rw.1.map V.int).map (numV fun k => S1 (sgs.getD (es.getD k (0, 0)).1 0)) = ((rw.1.map fun k => sgs.getD (es.getD k.toNat (0, 0)).1 0).map fun c => [c]).map fun m => V.str (tx m) := by
    rw [List.map_map, List.map_map, List.map_map]
    rfl
  rw [ev]
  refine ⟨[], Dj, _, rfl, rfl, SqL.of upd_same, szk ?_, ?_⟩
  · have := sum_len (b := 1) (ms := (rw.1.map fun k => sgs.getD (es.getD k.toNat (0, 0)).1 0).map fun c => [c]) fun m hm => by
      obtain ⟨c, _, rfl⟩ := List.mem_map.mp hm
      exact Nat.le_refl _
    rw [List.length_map, List.length_map] at this ⊢
    show _ + rw.1.length * 0 ≤ _
    omega
  rw [join_one]
  exact ⟨_, Less.same ((s1.trans s2).trans (same_up hj)), q⟩
abbrev s_unpacked : Stmt := top 38
theorem sc_unpacked : FnScope ["leaf", "parts", "text"] ["leaf"] (defScope s_unpacked) := ⟨rfl, rfl, rfl, by decide +kernel, rfl, by decide +kernel, by decide +kernel⟩
def sp_unpacked (K : PySem.W.Frag) (ec : Ec) : Sp := fun vs H Q E => ∃ (m : List Nat), vs = [.str (tx m)] ∧ LeafT m ∧ (∀ l, ansO m = some l → ∀ H', Same H H' → Q (.str (tx l)) H') ∧ (ansO m = none → ∀ H', Same H H' → E (.ref ec.notLeaf) none H')
theorem ok_unpacked {P : Program} {w : World} {K : PySem.W.Frag} {mg : Str → Option Value} {base : Heap} {ec : Ec} (z : BI mg) (g : GC mg) (xf : XF K mg ec) (D : Def K mg "unpacked" s_unpacked ["leaf"]) (C_text_of : Cal P w K mg base 6 "text_of" ["entries", "pile"] (sp_text_of K ec)) (C_entries_of : CalX P w K mg base 3 "entries_of" ["head"] (sp_entries_of K ec)) (C_pile_of : CalX P w K mg base 1 "pile_of" ["letters"] (sp_pile_of K ec)) (C_packed : Cal P w K mg base 5 "packed" ["text"] (sp_packed K ec)) : CalX P w K mg base 7 "unpacked" ["leaf"] (sp_unpacked K ec) := by
  refine D.okX sc_unpacked (fun vs H Q E h => ?_) (fun f cdv A outer s H vs Q E hr h => ?_)
  · obtain ⟨m, rfl, lt, q1, q2⟩ := h; rfl
  obtain ⟨m, rfl, lt, q1, q2⟩ := h
  refine ⟨_, (pss_cons (ps_set (i := 1) sc_unpacked.nd rfl (Or.inl rfl) (pe_bm PySem.F.plainAttrs_str PySem.F.slot_str_partition PySem.F.type_str_partition mt_part (pv 0) (pa_cons (pe_strT (m := [59]) (by decide +kernel)) pa_nil)))
      (pss_cons (ps_set (i := 2) sc_unpacked.nd rfl (Or.inl rfl) (pe_def (C_text_of.mono (by decide)) hr rfl (pa_cons (PX.pe (px_def (C_entries_of.mono (by decide)) hr rfl rfl (pa_cons (pe_ix ix_tup (pv 1) pe_int (fun _ _ => rfl)) pa_nil))) (pa_cons (PX.pe (px_def (C_pile_of.mono (by decide)) hr rfl rfl (pa_cons (pe_ix ix_tup (pv 1) pe_int (fun _ _ => rfl)) pa_nil))) pa_nil))))
      (pss_cons (ps_if (pt_cmpR op_ne (pe_def (C_packed.mono (by decide)) hr rfl (pa_cons (pv 2) pa_nil)) (pv 0) (nomark _)) (pss_one (ps_raise raise_x rfl rfl rfl xf.mNotLeaf xf.oNotLeaf (pa_cons pe_str pa_nil))) pss_nil)
      (pss_one (ps_ret (pv 2)))))), ?_⟩
  have ml := lt.len
  refine ⟨_, rfl, rfl, _, _, rfl, rfl, szk (by omega), fun p hp => ?_⟩
  rw [cut_eq]
  have p1 : (upd H p (.tup ([cut0 59 m, cut1 59 m, cut2 59 m].map fun m => V.str (tx m)))) p = some (.tup [.str (tx (cut0 59 m)), .str (tx (cut1 59 m)), .str (tx (cut2 59 m))]) := upd_same
  have s1 := same_up (u := .tup ([cut0 59 m, cut1 59 m, cut2 59 m].map fun m => V.str (tx m))) hp
  generalize upd H p (.tup ([cut0 59 m, cut1 59 m, cut2 59 m].map fun m => V.str (tx m))) = H1 at s1 p1 ⊢
  refine ⟨_, rfl, p, _, _, _, rfl, rfl, SqT.of p1, rfl, _, rfl, lt.sub (sub0 59 m), fun es he a ts H2 s2 pa => ?_, fun he H2 s2 => q2 (by unfold ansO; rw [he]) H2 (s1.trans s2)⟩
  have p2 := s2 _ _ p1
  refine ⟨_, rfl, p, _, _, _, rfl, rfl, SqT.of p2, rfl, _, rfl, fun n hn => ?_, fun hn => q2 (by unfold ansO; rw [he, hn]) H2 (s1.trans s2)⟩
  have ge := par_ge he
  have gt := text_gt ge n
  have an : ansO m = if leafL (textE es n) = m then some (textE es n) else none := by unfold ansO; rw [he, hn]
  refine ⟨a, ts, es, n, rfl, pa, ge, ?_⟩
  refine ⟨_, rfl, _, rfl, gt, _, rfl, rfl, _, rfl, ?_⟩
  by_cases c : leafL (textE es n) = m
  · have e : (!decide (V.str (tx (leafL (textE es n))) = V.str (tx m))) = false := by rw [c]; simp
    rw [e]
    refine iteF ?_
    rw [if_pos c] at an
    exact ⟨_, rfl, q1 _ an H2 (s1.trans s2)⟩
  · have e : (!decide (V.str (tx (leafL (textE es n))) = V.str (tx m))) = true := by
      rw [decide_eq_false (fun z => c (tx_inj.mp (V.str.inj z)))]
      rfl
    rw [e]
    refine iteT ?_
    rw [if_neg c] at an
    exact ⟨(by show 1 ≤ sizeLine; decide), q2 an H2 (s1.trans s2)⟩
abbrev s_law_cell_at : Stmt := top 40
theorem sc_law_cell_at : FnScope ["script", "k"] ["script", "k"] (defScope s_law_cell_at) := ⟨rfl, rfl, rfl, by decide +kernel, rfl, by decide +kernel, by decide +kernel⟩
def sp_law_cell_at (K : PySem.W.Frag) (ec : Ec) : Sp := fun vs H Q _ => ∃ (a : Addr) (ns : List Int) (k : Int), vs = [.ref a, .int k] ∧ SqL K H a (ns.map V.int) ∧ 0 ≤ k ∧ Q (.int (cellAt ns k)) H
theorem ok_law_cell_at {P : Program} {w : World} {K : PySem.W.Frag} {mg : Str → Option Value} {base : Heap} {ec : Ec} (z : BI mg) (g : GC mg) (xf : XF K mg ec) (D : Def K mg "_law_cell_at" s_law_cell_at ["script", "k"]) : Cal P w K mg base 1 "_law_cell_at" ["script", "k"] (sp_law_cell_at K ec) := by
  refine D.ok sc_law_cell_at (fun vs H Q E h => ?_) (fun f cdv A outer s H vs Q E hr h => ?_)
  · obtain ⟨a, ns, k, rfl, hS, h0, q⟩ := h; rfl
  obtain ⟨a, ns, k, rfl, hS, h0, q⟩ := h
  refine ⟨_, (pss_cons (ps_if (pt_cmpR op_lt (pv 1) (pe_callB call_len_seq rfl z.len b_len (pa_cons (pv 0) pa_nil)) (nomark _)) (pss_one (ps_ret (pe_ix ix_list (pv 0) (pv 1) (fun _ _ => rfl)))) pss_nil)
      (pss_one (ps_ret pe_int))), ?_⟩
  have hl : (ns.map V.int).length = ns.length := List.length_map _
  refine ⟨_, rfl, _, rfl, a, _, rfl, .inl hS, _, _, rfl, rfl, _, rfl, ?_⟩
  refine ite2 (fun c => ?_) (fun c => ?_)
  · have c' : k < ((ns.map V.int).length : Int) := of_decide_eq_true c
    rw [hl] at c'
    exact ⟨_, rfl, _, rfl, a, _, _, _, rfl, rfl, hS, atZ h0 c', _, Less.refl, q⟩
  · have c' : ¬ k < ((ns.map V.int).length : Int) := of_decide_eq_false (Bool.eq_false_iff.mpr c)
    rw [hl] at c'
    have e : cellAt ns k = 0 := by
      unfold cellAt
      rw [List.getD_eq_getElem?_getD, List.getElem?_eq_none (by omega)]
      rfl
    rw [e] at q
    exact ⟨_, Less.refl, q⟩
abbrev s_law_draw : Stmt := top 41
theorem sc_law_draw : FnScope ["cell", "k", "bound", "one", "two"] ["cell", "k", "bound"] (defScope s_law_draw) := ⟨rfl, rfl, rfl, by decide +kernel, rfl, by decide +kernel, by decide +kernel⟩
def sp_law_draw (K : PySem.W.Frag) (ec : Ec) : Sp := fun vs H Q _ => ∃ (c k b : Int), vs = [.int c, .int k, .int b] ∧ 0 ≤ k ∧ k ≤ 1000000 ∧ 0 < b ∧ Q (.int (draw c k b)) H
theorem ok_law_draw {P : Program} {w : World} {K : PySem.W.Frag} {mg : Str → Option Value} {base : Heap} {ec : Ec} (z : BI mg) (g : GC mg) (xf : XF K mg ec) (D : Def K mg "_law_draw" s_law_draw ["cell", "k", "bound"]) : Cal P w K mg base 1 "_law_draw" ["cell", "k", "bound"] (sp_law_draw K ec) := by
  refine D.ok sc_law_draw (fun vs H Q E h => ?_) (fun f cdv A outer s H vs Q E hr h => ?_)
  · obtain ⟨c, k, b, rfl, h0, h1, hb, q⟩ := h; rfl
  obtain ⟨c, k, b, rfl, h0, h1, hb, q⟩ := h
  refine ⟨_, (pss_cons (ps_set (i := 3) sc_law_draw.nd rfl (Or.inl rfl) (pe_op op_mod (pe_op op_add (pe_op op_add (pe_op op_mul (pe_op op_mod (pv 0) pe_int) pe_int) (pe_op op_mul (pv 1) pe_int)) pe_int) pe_int))
      (pss_cons (ps_set (i := 4) sc_law_draw.nd rfl (Or.inl rfl) (pe_op op_mod (pe_op op_mul (pe_op op_add (pe_op op_mod (pv 0) pe_int) pe_int) (pe_op op_add (pe_op op_add (pe_op op_mul (pv 1) (pv 1)) (pe_op op_mul pe_int (pv 1))) pe_int)) pe_int))
      (pss_one (ps_ret (pe_op op_mod (pe_op op_fdiv (pe_op op_mul (pv 3) (pe_op op_add (pv 4) pe_int)) pe_int) (pv 2)))))), ?_⟩
  have r1 := Int.emod_nonneg c (show (1000003 : Int) ≠ 0 by decide)
  have r2 := Int.emod_lt_of_pos c (show (0 : Int) < 1000003 by decide)
  have r3 := Int.emod_nonneg c (show (7919 : Int) ≠ 0 by decide)
  have r4 := Int.emod_lt_of_pos c (show (0 : Int) < 7919 by decide)
  have r5 := Int.emod_nonneg (c % 1000003 * 48271 + k * 69621 + 11) (show (2147483647 : Int) ≠ 0 by decide)
  have r6 := Int.emod_lt_of_pos (c % 1000003 * 48271 + k * 69621 + 11) (show (0 : Int) < 2147483647 by decide)
  walk_at "r"
  exact ⟨_, Less.refl, q⟩
abbrev s_law_put : Stmt := top 42
theorem sc_law_put : FnScope ["pile", "counts", "sign", "ahead", "count", "parts"] ["pile", "counts", "sign"] (defScope s_law_put) := ⟨rfl, rfl, rfl, by decide +kernel, rfl, by decide +kernel, by decide +kernel⟩
def sp_law_put (K : PySem.W.Frag) (ec : Ec) : Sp := fun vs H Q _ => ∃ (p : Int) (a : Addr) (ns : List Int) (k : Int), vs = [.int p, .ref a, .int k] ∧ SqL K H a (ns.map V.int) ∧ GoodC ns ∧ 0 ≤ k ∧ k < (ns.length : Int) ∧ 0 < ns.getD k.toNat 0 ∧ Q (.int (layN ns k.toNat p)) H
theorem ok_law_put {P : Program} {w : World} {K : PySem.W.Frag} {mg : Str → Option Value} {base : Heap} {ec : Ec} (z : BI mg) (g : GC mg) (xf : XF K mg ec) (D : Def K mg "_law_put" s_law_put ["pile", "counts", "sign"]) : Cal P w K mg base 1 "_law_put" ["pile", "counts", "sign"] (sp_law_put K ec) := by
  refine D.ok sc_law_put (fun vs H Q E h => ?_) (fun f cdv A outer s H vs Q E hr h => ?_)
  · obtain ⟨p, a, ns, k, rfl, hS, g0, h0, h1, h2, q⟩ := h; rfl
  obtain ⟨p, a, ns, k, rfl, hS, g0, h0, h1, h2, q⟩ := h
  refine ⟨_, (pss_cons (ps_set (i := 3) sc_law_put.nd rfl (Or.inl rfl) pe_int)
      (pss_cons (ps_for PassesOwn.never rfl (pi_list (pe_slice sl_list (pv 1) po_none (po_some (pv 2)))) (pg_name (i := 4) sc_law_put.nd rfl (Or.inl rfl)) (pss_one (ps_set (i := 3) sc_law_put.nd rfl (Or.inl rfl) (pe_op op_add (pv 3) (pv 4)))))
      (pss_cons (ps_set (i := 5) sc_law_put.nd rfl (Or.inl rfl) (pe_callB call_divmod rfl z.divmod b_divmod (pa_cons (pv 0) (pa_cons (pe_ix ix_list (pv 1) (pv 2) (fun _ _ => rfl)) pa_nil))))
      (pss_one (ps_ret (pe_op op_add (pe_op op_add (pe_op op_mul (pe_ix ix_tup (pv 5) pe_int (fun _ _ => rfl)) (pe_callB (call_sum rfl) rfl z.sum b_sum (pa_cons (pv 1) pa_nil))) (pv 3)) (pe_ix ix_tup (pv 5) pe_int (fun _ _ => rfl)))))))), ?_⟩
  have hc := g0.at k.toNat
  have gl := g0.le
  have gp := g0.pos
  walk_at "r"
  refine ⟨a, _, rfl, hS, fun t ht => ?_⟩
  rw [cut_take _ h0]
  have h2a := hS.up (u := .lst ((ns.take k.toNat).map V.int)) ht
  have h2t : SqL K (upd H t (.lst ((ns.take k.toNat).map V.int))) t ((ns.take k.toNat).map V.int) := SqL.of upd_same
  have ss := same_up (u := .lst ((ns.take k.toNat).map V.int)) ht
  generalize upd H t (.lst ((ns.take k.toNat).map V.int)) = H2 at h2a h2t ss ⊢
  refine ⟨t, rfl, ⟨_, h2t⟩, for_list (K := K) (a := t) (xs := (ns.take k.toNat).map V.int) (fun i σ H3 => ∃ v, σ = [some (.int p), some (.ref a), some (.int k), some (.int (first ns i)), v, none] ∧ H3 = H2) ⟨none, ?_, rfl⟩ (fun i σ H3 _ ⟨_, _, e⟩ => e ▸ h2t) ?_ ?_⟩
  · rw [first_zero]
    rfl
  · rintro i y σ H3 hi ⟨v, rfl, rfl⟩
    have hik : i < k.toNat := by
      have := (List.getElem?_eq_some_iff.mp hi).1
      rw [List.length_map, List.length_take] at this
      omega
    rw [List.getElem?_map, List.getElem?_take_of_lt hik, List.getElem?_eq_getElem (by omega)] at hi
    have ey : y = .int (ns.getD i 0) := by
      rw [List.getD_eq_getElem?_getD, List.getElem?_eq_getElem (by omega)]
      exact (Option.some.inj hi).symm
    subst ey
    refine ⟨_, rfl, _, rfl, _, _, rfl, rfl, some (.int (ns.getD i 0)), ?_, rfl⟩
    rw [first_succ (by omega)]
    rfl
  · rintro σ H3 ⟨v, rfl, rfl⟩
    have el : ((ns.take k.toNat).map V.int).length = k.toNat := by rw [List.length_map, List.length_take]; omega
    rw [el]
    refine ⟨_, rfl, _, rfl, _, rfl, a, _, _, _, rfl, rfl, h2a, atZ h0 h1, _, _, rfl, ⟨h2, by omega⟩, fun u hu => ?_⟩
    have h3a := h2a.up (u := .tup [.int (p / ns.getD k.toNat 0), .int (p % ns.getD k.toNat 0)]) hu
    refine ⟨_, rfl, u, _, _, _, rfl, rfl, SqT.of upd_same, rfl, ?_⟩
    refine ⟨_, rfl, a, ns, rfl, h3a, _, _, rfl, rfl, .inr ⟨by omega, by omega⟩, _, rfl, _, _, rfl, rfl, ?_⟩
    refine ⟨_, rfl, u, _, _, _, rfl, rfl, SqT.of upd_same, rfl, _, _, rfl, rfl, ?_⟩
    exact ⟨_, Less.same (ss.trans (same_up hu)), q⟩
abbrev s_law_off : Stmt := top 43
theorem sc_law_off : FnScope ["pile", "counts", "parts", "ahead", "sign"] ["pile", "counts"] (defScope s_law_off) := ⟨rfl, rfl, rfl, by decide +kernel, rfl, by decide +kernel, by decide +kernel⟩
def sp_law_off (K : PySem.W.Frag) (ec : Ec) : Sp := fun vs H Q _ => ∃ (p : Int) (a : Addr) (ns : List Int), vs = [.int p, .ref a] ∧ SqL K H a (ns.map V.int) ∧ 0 < ns.length ∧ ns.length ≤ 200 ∧ (∀ c ∈ ns, 1 ≤ c ∧ c ≤ 999) ∧ 0 < ns.sum ∧ ns.sum ≤ 999 ∧ 0 ≤ p ∧ ∀ t (k p' : Int), H t = none → 0 ≤ k → k < (ns.length : Int) → 0 ≤ p' → Q (.ref t) (upd H t (.tup [.int k, .int p']))
theorem ok_law_off {P : Program} {w : World} {K : PySem.W.Frag} {mg : Str → Option Value} {base : Heap} {ec : Ec} (z : BI mg) (g : GC mg) (xf : XF K mg ec) (D : Def K mg "_law_off" s_law_off ["pile", "counts"]) : Cal P w K mg base 1 "_law_off" ["pile", "counts"] (sp_law_off K ec) := by
  refine D.ok sc_law_off (fun vs H Q E h => ?_) (fun f cdv A outer s H vs Q E hr h => ?_)
  · obtain ⟨p, a, ns, rfl, hS, l0, l1, rg, gp, g9, p0, q⟩ := h; rfl
  obtain ⟨p, a, ns, rfl, hS, l0, l1, rg, gp, g9, p0, q⟩ := h
  refine ⟨_, (pss_cons (ps_set (i := 2) sc_law_off.nd rfl (Or.inl rfl) (pe_callB call_divmod rfl z.divmod b_divmod (pa_cons (pv 0) (pa_cons (pe_callB (call_sum rfl) rfl z.sum b_sum (pa_cons (pv 1) pa_nil)) pa_nil))))
      (pss_cons (ps_set (i := 3) sc_law_off.nd rfl (Or.inl rfl) pe_int)
      (pss_cons (ps_for PassesOwn.never rfl (pi_range1 rfl z.range (pa_cons (pe_callB call_len_seq rfl z.len b_len (pa_cons (pv 1) pa_nil)) pa_nil)) (pg_name (i := 4) sc_law_off.nd rfl (Or.inl rfl)) (pss_cons (ps_if (pt_cmpR op_lt (pe_ix ix_tup (pv 2) pe_int (fun _ _ => rfl)) (pe_op op_add (pv 3) (pe_ix ix_list (pv 1) (pv 4) (fun _ _ => rfl))) (nomark _)) (pss_one (ps_ret (pe_tup (pa_cons (pv 4) (pa_cons (pe_op op_sub (pe_op op_add (pe_op op_mul (pe_ix ix_tup (pv 2) pe_int (fun _ _ => rfl)) (pe_ix ix_list (pv 1) (pv 4) (fun _ _ => rfl))) (pe_ix ix_tup (pv 2) pe_int (fun _ _ => rfl))) (pv 3)) pa_nil))))) pss_nil)
      (pss_one (ps_set (i := 3) sc_law_off.nd rfl (Or.inl rfl) (pe_op op_add (pv 3) (pe_ix ix_list (pv 1) (pv 4) (fun _ _ => rfl)))))))
      (pss_one (ps_ret (pe_tup (pa_cons pe_int (pa_cons pe_int pa_nil)))))))), ?_⟩
  have m0 := Int.emod_nonneg p (show ns.sum ≠ 0 by omega)
  have m1 := Int.emod_lt_of_pos p gp
  have d0 := Int.ediv_nonneg p0 (Int.le_of_lt gp)
  have el : (ns.map V.int).length = ns.length := List.length_map _
  walk_at "r"
  refine ⟨a, ns, rfl, hS, _, _, rfl, ⟨gp, by omega⟩, fun u hu => ?_⟩
  have h2a := hS.up (u := .tup [.int (p / ns.sum), .int (p % ns.sum)]) hu
  have h2u : (upd H u (.tup [.int (p / ns.sum), .int (p % ns.sum)])) u = some (.tup [.int (p / ns.sum), .int (p % ns.sum)]) := upd_same
  have ss := same_up (u := .tup [.int (p / ns.sum), .int (p % ns.sum)]) hu
  generalize upd H u (.tup [.int (p / ns.sum), .int (p % ns.sum)]) = H2 at h2a h2u ss ⊢
  generalize p % ns.sum = pm at m0 m1 h2u ⊢
  generalize p / ns.sum = pd at d0 h2u ⊢
  walk_at "r"
  refine ⟨a, _, rfl, .inl h2a, _, rfl, by omega, by omega, for_range (n := (((ns.map V.int).length : Nat) : Int).toNat) (fun i σ H3 => ∃ (v : Option V) (z : Int), σ = [some (.int p), some (.ref a), some (.ref u), some (.int z), v] ∧ H3 = H2 ∧ z ≤ pm) ⟨none, 0, rfl, rfl, m0⟩ ?_ ?_⟩
  · rintro i σ H3 hi ⟨v, z, rfl, rfl, hf⟩
    have hi' : i < ns.length := by omega
    have ei : (0 + (i : Int)) = (i : Int) := Int.zero_add _
    have hci := rg (ns.getD i 0) (Np.getD_mem hi')
    rw [ei]
    refine ⟨_, rfl, u, _, _, _, rfl, rfl, SqT.of h2u, rfl, ?_⟩
    walk_at "r"
    refine ⟨a, _, _, _, rfl, rfl, h2a, atN hi', ?_⟩
    walk_at "r"
    refine ite2 (fun e => ?_) (fun e => ?_)
    · refine ⟨_, rfl, _, rfl, u, _, _, _, rfl, rfl, SqT.of h2u, rfl, ?_⟩
      refine ⟨_, rfl, _, rfl, a, _, _, _, rfl, rfl, h2a, atN hi', _, _, rfl, rfl, .inr ⟨by omega, by omega⟩, ?_⟩
      refine ⟨_, rfl, u, _, _, _, rfl, rfl, SqT.of h2u, rfl, _, _, rfl, rfl, ?_⟩
      refine ⟨_, rfl, _, _, rfl, rfl, (by show 2 ≤ sizeLine; decide), fun t ht => ?_⟩
      have nn := Int.mul_nonneg d0 (show 0 ≤ ns.getD i 0 by omega)
      exact ⟨_, Less.new (ss.trans (same_up ht)) (ss.free ht) upd_same rfl, q t _ _ (ss.free ht) (by omega) (by omega) (by omega)⟩
    · have e' : ¬ pm < z + ns.getD i 0 := of_decide_eq_false (Bool.eq_false_iff.mpr e)
      refine ⟨_, rfl, _, rfl, _, rfl, a, _, _, _, rfl, rfl, h2a, atN hi', _, _, rfl, rfl, ?_⟩
      exact ⟨_, z + ns.getD i 0, rfl, rfl, by omega⟩
  · rintro σ H3 ⟨v, z, rfl, rfl, hf⟩
    refine ⟨(by show 2 ≤ sizeLine; decide), fun t ht => ?_⟩
    exact ⟨_, Less.new (ss.trans (same_up ht)) (ss.free ht) upd_same rfl, q t _ _ (ss.free ht) (by omega) (by omega) (by omega)⟩
abbrev s_law_sign : Stmt := top 44
theorem sc_law_sign : FnScope ["cell", "some"] ["cell"] (defScope s_law_sign) := ⟨rfl, rfl, rfl, by decide +kernel, rfl, by decide +kernel, by decide +kernel⟩
def sp_law_sign (K : PySem.W.Frag) (ec : Ec) : Sp := fun vs H Q _ => ∃ (c : Int), vs = [.int c] ∧ Q (.str (tx [sgs.getD (c % 94).toNat 0])) H
theorem ok_law_sign {P : Program} {w : World} {K : PySem.W.Frag} {mg : Str → Option Value} {base : Heap} {ec : Ec} (z : BI mg) (g : GC mg) (xf : XF K mg ec) (D : Def K mg "_law_sign" s_law_sign ["cell"]) : Cal P w K mg base 1 "_law_sign" ["cell"] (sp_law_sign K ec) := by
  refine D.ok sc_law_sign (fun vs H Q E h => ?_) (fun f cdv A outer s H vs Q E hr h => ?_)
  · obtain ⟨c, rfl, q⟩ := h; rfl
  obtain ⟨c, rfl, q⟩ := h
  refine ⟨_, (pss_cons (ps_set (i := 1) sc_law_sign.nd rfl (Or.inl rfl) (pe_strT (m := sg1) (by decide +kernel)))
      (pss_cons (ps_set (i := 1) sc_law_sign.nd rfl (Or.inl rfl) (pe_op op_addT (pv 1) (pe_strT (m := sg2) (by decide +kernel))))
      (pss_one (ps_ret (pe_ix ix_strT (pv 1) (pe_op op_mod (pv 0) pe_int) (fun _ _ => rfl)))))), ?_⟩
  refine ⟨_, rfl, sg1, sg2, rfl, rfl, szl (by decide), ?_⟩
  rw [sg12]
  have m0 := Int.emod_nonneg c (show (94 : Int) ≠ 0 by decide)
  have m1 := Int.emod_lt_of_pos c (show (0 : Int) < 94 by decide)
  exact ⟨_, rfl, _, rfl, _, _, rfl, rfl, (by show (0 : Int) < 94; decide), sgs, _, _, rfl, rfl, szl (by decide), atN m0 (sgs_getD (by omega)), _, Less.refl, q⟩
abbrev s_law_place : Stmt := top 45
theorem sc_law_place : FnScope ["sign", "some"] ["sign"] (defScope s_law_place) := ⟨rfl, rfl, rfl, by decide +kernel, rfl, by decide +kernel, by decide +kernel⟩
def sp_law_place (K : PySem.W.Frag) (ec : Ec) : Sp := fun vs H Q _ => ∃ (c : Nat), vs = [.str (tx [c])] ∧ c ∈ sgs ∧ Q (.int ((plc c : Nat) : Int)) H
theorem ok_law_place {P : Program} {w : World} {K : PySem.W.Frag} {mg : Str → Option Value} {base : Heap} {ec : Ec} (z : BI mg) (g : GC mg) (xf : XF K mg ec) (D : Def K mg "_law_place" s_law_place ["sign"]) : Cal P w K mg base 1 "_law_place" ["sign"] (sp_law_place K ec) := by
  refine D.ok sc_law_place (fun vs H Q E h => ?_) (fun f cdv A outer s H vs Q E hr h => ?_)
  · obtain ⟨c, rfl, hc, q⟩ := h; rfl
  obtain ⟨c, rfl, hc, q⟩ := h
  refine ⟨_, (pss_cons (ps_set (i := 1) sc_law_place.nd rfl (Or.inl rfl) (pe_strT (m := sg1) (by decide +kernel)))
      (pss_cons (ps_set (i := 1) sc_law_place.nd rfl (Or.inl rfl) (pe_op op_addT (pv 1) (pe_strT (m := sg2) (by decide +kernel))))
      (pss_one (ps_ret (pe_bm PySem.F.plainAttrs_str PySem.F.slot_str_index PySem.F.type_str_index mt_index (pv 1) (pa_cons (pv 0) pa_nil)))))), ?_⟩
  refine ⟨_, rfl, sg1, sg2, rfl, rfl, szl (by decide), ?_⟩
  rw [sg12]
  exact ⟨_, rfl, rfl, _, rfl, sgs, c, rfl, rfl, hc, _, Less.refl, q⟩
abbrev s_law_leaf : Stmt := top 46
theorem sc_law_leaf : FnScope ["text", "places", "row", "counts", "pile", "sign", "letters"] ["text"] (defScope s_law_leaf) := ⟨rfl, rfl, rfl, by decide +kernel, rfl, by decide +kernel, by decide +kernel⟩
def sp_law_leaf (K : PySem.W.Frag) (ec : Ec) : Sp := fun vs H Q _ => ∃ (l : List Nat), vs = [.str (tx l)] ∧ GT l ∧ Q (.str (tx (leafL l))) H
theorem ok_law_leaf {P : Program} {w : World} {K : PySem.W.Frag} {mg : Str → Option Value} {base : Heap} {ec : Ec} (z : BI mg) (g : GC mg) (xf : XF K mg ec) (D : Def K mg "_law_leaf" s_law_leaf ["text"]) (C_law_place : Cal P w K mg base 1 "_law_place" ["sign"] (sp_law_place K ec)) (C_law_put : Cal P w K mg base 1 "_law_put" ["pile", "counts", "sign"] (sp_law_put K ec)) : Cal P w K mg base 2 "_law_leaf" ["text"] (sp_law_leaf K ec) := by
  refine D.ok sc_law_leaf (fun vs H Q E h => ?_) (fun f cdv A outer s H vs Q E hr h => ?_)
  · obtain ⟨l, rfl, gl, q⟩ := h; rfl
  obtain ⟨l, rfl, gl, q⟩ := h
  refine ⟨_, (pss_cons (ps_set (i := 1) sc_law_leaf.nd rfl (Or.inr rfl) (pe_sortset rfl rfl z.sorted rfl z.set (pe_comp (caps := []) rfl (pi_str (pv 0)) ⟨rfl, by decide +kernel, by decide +kernel, rfl⟩ trivial rfl (by decide +kernel) (fun _ _ _ _ => pts_nil) (fun _ _ _ _ => (pe_def (C_law_place.mono (by decide)) hr rfl (pa_cons (pv 0) pa_nil))))))
      (pss_cons (ps_set (i := 2) sc_law_leaf.nd rfl (Or.inr rfl) (pe_comp (caps := [(1, "places")]) rfl (pi_str (pv 0)) ⟨rfl, by decide +kernel, by decide +kernel, rfl⟩ ⟨⟨rfl, Or.inl rfl, rfl⟩, trivial⟩ rfl (by decide +kernel) (fun _ _ _ _ => pts_nil) (fun _ _ _ _ => (pe_bmK (K := K) rfl PySem.F.plainAttrs_list PySem.F.slot_list_index PySem.F.type_list_index mt_lindex (pv 1) (pa_cons (pe_def (C_law_place.mono (by decide)) hr rfl (pa_cons (pv 0) pa_nil)) pa_nil)))))
      (pss_cons (ps_set (i := 3) sc_law_leaf.nd rfl (Or.inr rfl) (pe_comp (caps := [(2, "row")]) rfl (pi_range1 rfl z.range (pa_cons (pe_callB call_len_seq rfl z.len b_len (pa_cons (pv 1) pa_nil)) pa_nil)) ⟨rfl, by decide +kernel, by decide +kernel, rfl⟩ ⟨⟨rfl, Or.inl rfl, rfl⟩, trivial⟩ rfl (by decide +kernel) (fun _ _ _ _ => pts_nil) (fun _ _ _ _ => (pe_bmK (K := K) rfl PySem.F.plainAttrs_list PySem.F.slot_list_count PySem.F.type_list_count mt_lcount (pv 1) (pa_cons (pv 0) pa_nil)))))
      (pss_cons (ps_set (i := 4) sc_law_leaf.nd rfl (Or.inl rfl) pe_int)
      (pss_cons (ps_for PassesOwn.never rfl (pi_rev rfl z.reversed (pa_cons (pv 2) pa_nil)) (pg_name (i := 5) sc_law_leaf.nd rfl (Or.inl rfl)) (pss_one (ps_set (i := 4) sc_law_leaf.nd rfl (Or.inl rfl) (pe_def (C_law_put.mono (by decide)) hr rfl (pa_cons (pv 4) (pa_cons (pv 3) (pa_cons (pv 5) pa_nil)))))))
      (pss_cons (ps_set (i := 6) sc_law_leaf.nd rfl (Or.inl rfl) (pe_strT (m := []) (by decide +kernel)))
      (pss_cons (ps_while PassesOwn.never (PW.pt (pw_or (pt_cmpR op_gt (pv 4) pe_int (nomark _)) (pw_or1 (pt_cmpR op_eq (pv 6) (pe_strT (m := []) (by decide +kernel)) (nomark _))))) (pss_cons (ps_set (i := 6) sc_law_leaf.nd rfl (Or.inl rfl) (pe_op op_addT (pe_ix ix_strT (pe_strT (m := ltr) (by decide +kernel)) (pe_op op_mod (pv 4) pe_int) (fun _ _ => rfl)) (pv 6)))
      (pss_one (ps_set (i := 4) sc_law_leaf.nd rfl (Or.inl rfl) (pe_op op_fdiv (pv 4) pe_int)))))
      (pss_one (ps_ret (pe_op op_addT (pe_op op_addT (pe_bm PySem.F.plainAttrs_str PySem.F.slot_str_join PySem.F.type_str_join mt_join (pe_strT (m := [44]) (by decide +kernel)) (pa_cons (pe_comp (caps := [(3, "counts"), (1, "places")]) rfl (pi_range1 rfl z.range (pa_cons (pe_callB call_len_seq rfl z.len b_len (pa_cons (pv 1) pa_nil)) pa_nil)) ⟨rfl, by decide +kernel, by decide +kernel, rfl⟩ ⟨⟨rfl, Or.inl rfl, rfl⟩, ⟨⟨rfl, Or.inl rfl, rfl⟩, trivial⟩⟩ rfl (by decide +kernel) (fun _ _ _ _ => pts_nil) (fun _ _ _ _ => (pe_op op_addT (pe_op op_addT (pe_callTy call_strI rfl z.str b_str (pa_cons (pe_ix (ix_listK (K := K) rfl) (pv 2) (pv 0) (fun _ _ => rfl)) pa_nil)) (pe_strT (m := [120]) (by decide +kernel))) (pe_callTy call_strI rfl z.str b_str (pa_cons (pe_ix (ix_listK (K := K) rfl) (pv 1) (pv 0) (fun _ _ => rfl)) pa_nil))))) pa_nil)) (pe_strT (m := [59]) (by decide +kernel))) (pv 6))))))))))), ?_⟩
  have hl := gl.len
  have kl := kinds_len l
  refine ⟨_, rfl, l, rfl, fun Dp hp => ?_⟩
  have w1 := its_walk (l := l) (D := Dp) (H1 := H)
  refine comp_map (sigV fun c => N1 (plc c)) (by rw [List.length_map]; exact szl (by omega)) w1.1 w1.2 ?_ ?_
  · rintro x hx ys R r
    obtain ⟨c, hc, rfl⟩ := List.mem_map.mp hx
    exact ⟨_, rfl, c, rfl, gl.sg c hc, r⟩
  rw [sigV_map]
  have e0 : (l.map fun c => N1 (plc c)) = (l.map fun c => ((plc c : Nat) : Int)).map V.int := by rw [List.map_map]; rfl
  rw [e0]
  refine ⟨Dp, l.map fun c => ((plc c : Nat) : Int), rfl, SqL.of upd_same, by rw [List.length_map]; omega, fun k hk => ?_, fun Dn ns hn srt mem => ?_⟩
  · obtain ⟨c, hc, rfl⟩ := List.mem_map.mp hk
    have := plc_lt (gl.sg c hc)
    omega
  rw [places_I gl srt mem, places_V]
  have s1 : Same H (upd (upd H Dp (.lst ((l.map fun c => ((plc c : Nat) : Int)).map V.int))) Dn (.lst (((kindsL l).map plc).map N1))) := (same_up hp).trans (same_up hn)
  have p1 : (upd (upd H Dp (.lst ((l.map fun c => ((plc c : Nat) : Int)).map V.int))) Dn (.lst (((kindsL l).map plc).map N1))) Dn = some (.lst (((kindsL l).map plc).map N1)) := upd_same
  generalize upd (upd H Dp (.lst ((l.map fun c => ((plc c : Nat) : Int)).map V.int))) Dn (.lst (((kindsL l).map plc).map N1)) = H1 at s1 p1 ⊢
  have el : (((kindsL l).map plc).map N1).length = (kindsL l).length := by rw [List.length_map, List.length_map]
  -- row
  refine ⟨_, rfl, l, rfl, fun Dr hr' => ?_⟩
  have w2 := its_walk (l := l) (D := Dr) (H1 := H1)
  refine comp_map (sigV fun c => N1 ((kindsL l).idxOf c)) (by rw [List.length_map]; exact szl (by omega)) w2.1 w2.2 ?_ ?_
  · rintro x hx ys R r
    obtain ⟨c, hc, rfl⟩ := List.mem_map.mp hx
    have lx := lix_by (f := N1) eq_N1 (ks := (kindsL l).map plc) (c := plc c) (List.mem_map.mpr ⟨c, (mem_kinds gl.sg).mpr hc, rfl⟩)
    rw [row_at gl.sg hc] at lx
    exact ⟨_, rfl, .inl ⟨rfl, _, SqL.of (upd_old p1 hr')⟩, _, rfl, c, rfl, gl.sg c hc, Dn, _, N1 (plc c), _, rfl, rfl, upd_old p1 hr', rfl, flat_by (fun _ => rfl) _, lx.1, lx.2, r⟩
  rw [sigV_map, ← row_V]
  have s2 := s1.trans (same_up (u := .lst ((rowI l).map V.int)) hr')
  have p2 := upd_old (u := .lst ((rowI l).map V.int)) p1 hr'
  have r2 : (upd H1 Dr (.lst ((rowI l).map V.int))) Dr = some (.lst ((rowI l).map V.int)) := upd_same
  generalize upd H1 Dr (.lst ((rowI l).map V.int)) = H2 at s2 p2 r2 ⊢
  -- counts
  refine ⟨_, rfl, Dn, _, rfl, .inl (SqL.of p2), _, rfl, by omega, by omega, fun Dc hc => ?_⟩
  rw [Int.toNat_natCast, el]
  have w3 := itr_walk (lo := 0) (n := (kindsL l).length) (D := Dc) (H1 := H2)
  refine comp_map (numV fun k => N1 ((rowL l).count k)) (by rw [List.length_map, List.length_range]; exact szl (by omega)) w3.1 w3.2 ?_ ?_
  · rintro x hx ys R r
    obtain ⟨k, hk, rfl⟩ := List.mem_map.mp hx
    rw [numV_at] at r
    have r2' : (upd H2 Dc (.lst ys)) Dr = some (.lst ((rowL l).map N1)) := by rw [← row_N1]; exact upd_old r2 hc
    refine ⟨_, rfl, .inl ⟨rfl, _, SqL.of r2'⟩, _, rfl, Dr, _, _, rfl, rfl, r2', rfl, flat_by (fun _ => rfl) _, ?_⟩
    have e : V.int (0 + ((k : Nat) : Int)) = N1 k := by rw [Int.zero_add]
    rw [e, cnt_N1]
    exact r
  rw [numV_range, counts_V gl]
  have s3 := s2.trans (same_up (u := .lst ((cntI l).map V.int)) hc)
  have p3 := upd_old (u := .lst ((cntI l).map V.int)) p2 hc
  have r3 := upd_old (u := .lst ((cntI l).map V.int)) r2 hc
  have c3 : (upd H2 Dc (.lst ((cntI l).map V.int))) Dc = some (.lst ((cntI l).map V.int)) := upd_same
  generalize upd H2 Dc (.lst ((cntI l).map V.int)) = H3 at s3 p3 r3 c3 ⊢
  -- the pile
  refine ⟨_, rfl, Dr, _, rfl, SqL.of r3, for_rev (K := K) (a := Dr) (xs := (rowI l).map V.int) (fun i σ H' => ∃ v, σ = [some (.str (tx l)), some (.ref Dn), some (.ref Dr), some (.ref Dc), some (.int (layRow (cntI l) ((rowI l).drop ((rowI l).length - i)) 0)), v, none] ∧ H' = H3) ⟨none, ?_, rfl⟩ (fun i σ H2 _ ⟨_, _, e⟩ => e ▸ SqL.of r3) ?_ ?_⟩
  · rw [Nat.sub_zero, List.drop_length]
    rfl
  · rintro i y σ H' hi ⟨v, rfl, rfl⟩
    obtain ⟨h1, rfl, hm⟩ := rev_at hi
    obtain ⟨k0, k1, k2⟩ := ok_row gl _ hm
    have h0 : l ≠ [] := fun z => by subst z; exact absurd h1 (Nat.not_lt_zero _)
    refine ⟨_, rfl, _, rfl, _, rfl, _, Dc, cntI l, _, rfl, SqL.of c3, good_cnt gl h0, k0, k1, k2, some (.int ((rowI l).reverse.getD i 0)), ?_, rfl⟩
    rw [layRow_drop h1]
    rfl
  rintro σ H' ⟨v, rfl, rfl⟩
  rw [List.length_map, Nat.sub_self, List.drop_zero]
  have ep : layRow (cntI l) (rowI l) 0 = ((pileL l).toNat : Int) := (Int.toNat_of_nonneg (pile_nn gl)).symm
  rw [ep]
  have l301 := ltr_len301 gl
  have hh1 := head_len gl
  refine while_by (fun σ H4 => ∃ (k : Nat) (tl : List Nat) (v5 : Option V), σ = [some (.str (tx l)), some (.ref Dn), some (.ref Dr), some (.ref Dc), some (.int (k : Int)), v5, some (.str (tx tl))] ∧ H4 = H' ∧ ((tl = [] ∧ k = (pileL l).toNat) ∨ (tl ≠ [] ∧ ltrN (pileL l).toNat = (if k = 0 then [] else ltrN k) ++ tl)))
    (fun σ H4 => match σ with | [_, _, _, _, some (.int m), _, some (.str z)] => 2 * m.toNat + (if z.cps.toList.length = 0 then 1 else 0) | _ => 0) ⟨(pileL l).toNat, [], v, rfl, rfl, .inl ⟨rfl, rfl⟩⟩ ?_ ?_
  · rintro σ H4 ⟨k, tl, v5, rfl, rfl, iv⟩
    refine ⟨_, rfl, _, _, rfl, rfl, _, rfl, ?_⟩
    refine or2 (t2 := decide (V.str (tx tl) = V.str (tx []))) (fun h => ⟨_, rfl, rfl, _, rfl, h⟩) (fun gg => ?bd) (fun c c2 => ?ex)
    case bd =>
      have go : ltrN (pileL l).toNat = ltrN k ++ tl := by
        rcases iv with ⟨rfl, rfl⟩ | ⟨n, e⟩
        · rw [List.append_nil]
        · rcases gg with g1 | g1
          · have ck : (0 : Int) < (k : Int) := of_decide_eq_true g1
            rw [if_neg (by omega)] at e
            exact e
          · have c' := V.str.inj (of_decide_eq_true g1)
            rw [tx_inj] at c'
            exact absurd c' n
      have e2 := ltrN_step k
      have ln := congrArg List.length go
      rw [e2, List.length_append, List.length_append] at ln
      simp only [List.length_cons, List.length_nil] at ln
      refine ⟨_, rfl, _, _, rfl, rfl, (by show (0 : Int) < 26; decide), ltr, _, _, rfl, rfl, szl (by decide), atI26 k, _, rfl, _, _, rfl, rfl, szl (by simp only [List.length_cons, List.length_nil]; omega), ?_⟩
      refine ⟨_, rfl, _, _, rfl, rfl, ⟨by decide, by decide⟩, ?_⟩
      have ed : (k : Int) / 26 = ((k / 26 : Nat) : Int) := by omega
      refine ⟨⟨k / 26, (97 + k % 26) :: tl, v5, by rw [← ed]; rfl, rfl, .inr ⟨by simp, by rw [go, e2, List.append_assoc]; rfl⟩⟩, ?_⟩
      show 2 * ((k : Int) / 26).toNat + (if ((97 + k % 26) :: tl).length = 0 then 1 else 0) < 2 * ((k : Nat) : Int).toNat + (if tl.length = 0 then 1 else 0)
      rw [if_neg (by simp), ed]
      rcases gg with g1 | g1
      · have ck : (0 : Int) < (k : Int) := of_decide_eq_true g1
        split <;> omega
      · have c' := V.str.inj (of_decide_eq_true g1)
        rw [tx_inj] at c'
        rw [if_pos (by rw [c']; rfl)]
        omega
    case ex =>
      have ck : ¬ (0 : Int) < (k : Int) := of_decide_eq_false c
      have nt : tl ≠ [] := fun z => of_decide_eq_false c2 (by rw [z])
      have k0 : k = 0 := by omega
      have e : ltrN (pileL l).toNat = tl := by
        rcases iv with ⟨z, _⟩ | ⟨_, e⟩
        · exact absurd z nt
        · rw [if_pos k0] at e; exact e
      subst e
      refine ⟨rfl, _, rfl, Dn, _, rfl, .inl (SqL.of p3), _, rfl, by omega, by omega, fun Dj hj => ?_⟩
      rw [Int.toNat_natCast, el]
      have w5 := itr_walk (lo := 0) (n := (kindsL l).length) (D := Dj) (H1 := H4)
      refine comp_map (numV fun k => V.str (tx (ent ((kindsL l).getD k 0) (l.count ((kindsL l).getD k 0))))) (by rw [List.length_map, List.length_range]; exact szl (by omega)) w5.1 w5.2 ?_ ?_
      · rintro x hx ys R r
        obtain ⟨j, hj', rfl⟩ := List.mem_map.mp hx
        have hj2 := List.mem_range.mp hj'
        rw [numV_at] at r
        have ec : (kindsL l)[j]? = some ((kindsL l).getD j 0) := by rw [List.getD_eq_getElem?_getD, List.getElem?_eq_getElem hj2]; rfl
        generalize (kindsL l).getD j 0 = cc at ec r
        have hcc := List.mem_of_getElem? ec
        have pl := plc_lt (kinds_sgs hcc)
        have cl := List.count_le_length (a := cc) (l := l)
        have tj : (0 + ((j : Nat) : Int)).toNat = j := by omega
        have a1 : atI (((kindsL l).map plc).map N1) (0 + ((j : Nat) : Int)) = some (N1 (plc cc)) := atN (by omega) (by rw [tj, List.map_map, List.getElem?_map, ec]; rfl)
        have a2 : atI ((cntI l).map V.int) (0 + ((j : Nat) : Int)) = some (N1 (l.count cc)) := atN (by omega) (by rw [tj, cnt_V, List.getElem?_map, ec]; rfl)
        have d1 := dec_len (k := 2) (n := plc cc) (by decide) (by omega)
        have d2 := dec_len (k := 3) (n := l.count cc) (by decide) (by omega)
        have ee : dec (plc cc) ++ [120] ++ dec (l.count cc) = ent cc (l.count cc) := by unfold ent; simp
        refine ⟨_, rfl, _, rfl, Dn, _, _, _, rfl, rfl, SqL.of (upd_old p3 hj), a1, plc cc, rfl, by omega, _, [120], rfl, rfl, szl (by show _ + 1 ≤ _; omega), _, rfl, _, rfl, Dc, _, _, _, rfl, rfl, SqL.of (upd_old c3 hj), a2, l.count cc, rfl, by omega, _, _, rfl, rfl, szl (by rw [List.length_append]; show _ + 1 + _ ≤ _; omega), ?_⟩
        rw [ee]
        exact r
      rw [numV_range, ents_V]
      have ls := sum_len (ents_len gl)
      rw [List.length_map] at ls
      refine ⟨[44], Dj, _, rfl, rfl, SqL.of upd_same, szk (by rw [List.length_map]; show _ + _ * 1 ≤ _; omega), ?_⟩
      refine ⟨headL l, [59], rfl, rfl, szk (by show _ + 1 ≤ _; omega), _, rfl, _, _, rfl, rfl, szk (by rw [List.length_append]; show _ + 1 + _ ≤ _; omega), _, Less.same (s3.trans (same_up hj)), ?_⟩
      rw [List.append_assoc]
      exact q
  · rintro σ H4 Q1 Q2 hq ⟨v1, e1, i, j, x1, x2, b, x3, h⟩
    refine ⟨v1, e1, i, j, x1, x2, b, x3, ?_⟩
    dsimp only at h ⊢
    by_cases hb : b = true
    · rw [if_pos hb] at h ⊢
      exact hq _ _ h
    · rw [if_neg hb] at h ⊢
      obtain ⟨v2, e2, sc, b2, x4, h⟩ := h
      exact ⟨v2, e2, sc, b2, x4, hq _ _ h⟩
abbrev s_law_text : Stmt := top 47
theorem sc_law_text : FnScope ["script", "at", "size", "kinds", "text", "k", "cell"] ["script", "at", "size", "kinds"] (defScope s_law_text) := ⟨rfl, rfl, rfl, by decide +kernel, rfl, by decide +kernel, by decide +kernel⟩
def sp_law_text (K : PySem.W.Frag) (ec : Ec) : Sp := fun vs H Q _ => ∃ (a : Addr) (ns : List Int) (p m k : Int), vs = [.ref a, .int p, .int m, .int k] ∧ SqL K H a (ns.map V.int) ∧ 0 ≤ p ∧ 0 ≤ m ∧ m ≤ 150 ∧ 0 ≤ k ∧ k ≤ 1000 ∧ ∀ l, GT l → Q (.str (tx l)) H
theorem ok_law_text {P : Program} {w : World} {K : PySem.W.Frag} {mg : Str → Option Value} {base : Heap} {ec : Ec} (z : BI mg) (g : GC mg) (xf : XF K mg ec) (D : Def K mg "_law_text" s_law_text ["script", "at", "size", "kinds"]) (C_law_draw : Cal P w K mg base 1 "_law_draw" ["cell", "k", "bound"] (sp_law_draw K ec)) (C_law_cell_at : Cal P w K mg base 1 "_law_cell_at" ["script", "k"] (sp_law_cell_at K ec)) (C_law_sign : Cal P w K mg base 1 "_law_sign" ["cell"] (sp_law_sign K ec)) : Cal P w K mg base 2 "_law_text" ["script", "at", "size", "kinds"] (sp_law_text K ec) := by
  refine D.ok sc_law_text (fun vs H Q E h => ?_) (fun f cdv A outer s H vs Q E hr h => ?_)
  · obtain ⟨a, ns, p, m, k, rfl, hS, p0, m0, m1, k0, k1, q⟩ := h; rfl
  obtain ⟨a, ns, p, m, k, rfl, hS, p0, m0, m1, k0, k1, q⟩ := h
  refine ⟨_, (pss_cons (ps_set (i := 4) sc_law_text.nd rfl (Or.inl rfl) (pe_strT (m := []) (by decide +kernel)))
      (pss_cons (ps_for PassesOwn.never rfl (pi_range1 rfl z.range (pa_cons (pv 2) pa_nil)) (pg_name (i := 5) sc_law_text.nd rfl (Or.inl rfl)) (pss_cons (ps_set (i := 6) sc_law_text.nd rfl (Or.inl rfl) (pe_def (C_law_draw.mono (by decide)) hr rfl (pa_cons (pe_def (C_law_cell_at.mono (by decide)) hr rfl (pa_cons (pv 0) (pa_cons (pv 1) pa_nil))) (pa_cons (pv 5) (pa_cons pe_int pa_nil)))))
      (pss_cut (ps_if (pt_cmpR op_gt (pv 3) pe_int (nomark _)) (pss_one (ps_set (i := 6) sc_law_text.nd rfl (Or.inl rfl) (pe_def (C_law_draw.mono (by decide)) hr rfl (pa_cons (pe_def (C_law_cell_at.mono (by decide)) hr rfl (pa_cons (pv 0) (pa_cons (pe_op op_add (pv 1) pe_int) pa_nil))) (pa_cons (pe_op op_mod (pv 6) (pv 3)) (pa_cons pe_int pa_nil)))))) pss_nil)
      (pss_one (ps_set (i := 4) sc_law_text.nd rfl (Or.inl rfl) (pe_op op_addT (pv 4) (pe_def (C_law_sign.mono (by decide)) hr rfl (pa_cons (pv 6) pa_nil))))))))
      (pss_one (ps_ret (pv 4))))), ?_⟩
  refine ⟨_, rfl, m, rfl, by omega, by omega, for_range (n := m.toNat) (fun i σ H2 => ∃ (tl : List Nat) (v5 v6 : Option V), σ = [some (.ref a), some (.int p), some (.int m), some (.int k), some (.str (tx tl)), v5, v6] ∧ H2 = H ∧ tl.length = i ∧ ∀ c ∈ tl, c ∈ sgs) ⟨[], none, none, rfl, rfl, rfl, fun c hc => by cases hc⟩ ?_ ?_⟩
  · rintro i σ H2 hi ⟨tl, v5, v6, rfl, rfl, hlen, hsg⟩
    have go : ∀ cell : Int, GT (tl ++ [sgs.getD (cell % 94).toNat 0]) := fun cell => by
      have m0 := Int.emod_nonneg cell (show (94 : Int) ≠ 0 by decide)
      have m1 := Int.emod_lt_of_pos cell (show (0 : Int) < 94 by decide)
      refine ⟨by rw [List.length_append]; show _ + 1 ≤ _; omega, fun c hc => ?_⟩
      rcases List.mem_append.mp hc with h | h
      · exact hsg c h
      · rw [List.mem_singleton] at h
        subst h
        exact List.mem_of_getElem? (sgs_getD (i := (cell % 94).toNat) (by omega))
    refine ⟨_, rfl, _, rfl, a, ns, _, rfl, hS, p0, _, rfl, _, _, _, rfl, by omega, by omega, by decide, ?_⟩
    refine ⟨fun σ H3 => ∃ cell : Int, σ = [some (.ref a), some (.int p), some (.int m), some (.int k), some (.str (tx tl)), some (.int (0 + (i : Int))), some (.int cell)] ∧ H3 = H2, ?_, ?_⟩
    · refine ⟨_, rfl, _, _, rfl, rfl, _, rfl, ?_⟩
      refine ite2 (fun c => ?_) (fun c => ⟨_, rfl, rfl⟩)
      have c' : (0 : Int) < k := of_decide_eq_true c
      exact ⟨_, rfl, _, rfl, _, _, rfl, rfl, a, ns, _, rfl, hS, by omega, _, rfl, _, rfl, _, _, rfl, rfl, c', _, _, _, rfl, Int.emod_nonneg _ (Int.ne_of_gt c'), Int.le_trans (Int.le_of_lt (Int.emod_lt_of_pos _ c')) (Int.le_trans k1 (by decide)), by decide, _, rfl, rfl⟩
    · rintro σ H3 ⟨cell, rfl, rfl⟩
      exact ⟨_, rfl, _, rfl, cell, rfl, _, _, rfl, rfl, szl (by show _ + 1 ≤ _; omega), tl ++ [sgs.getD (cell % 94).toNat 0], _, _, rfl, rfl, by rw [List.length_append, hlen]; rfl, (go cell).sg⟩
  · rintro σ H2 ⟨tl, v5, v6, rfl, rfl, hlen, hsg⟩
    exact ⟨_, rfl, _, Less.refl, q tl ⟨by omega, hsg⟩⟩
abbrev s_law_changed : Stmt := top 48
theorem sc_law_changed : FnScope ["leaf", "way", "place", "cell", "some", "sign"] ["leaf", "way", "place", "cell"] (defScope s_law_changed) := ⟨rfl, rfl, rfl, by decide +kernel, rfl, by decide +kernel, by decide +kernel⟩
def sp_law_changed (K : PySem.W.Frag) (ec : Ec) : Sp := fun vs H Q _ => ∃ (m : List Nat) (w p c : Int), vs = [.str (tx m), .int w, .int p, .int c] ∧ m.length ≤ 1010 ∧ LeafT m ∧ ∀ r, LeafT r → r.length ≤ 2021 → Q (.str (tx r)) H
def sgn22 : List Nat := [48, 49, 50, 51, 52, 53, 54, 55, 56, 57, 120, 44, 59, 59, 120, 44, 97, 98, 99, 122, 49, 48]
theorem ok_law_changed {P : Program} {w : World} {K : PySem.W.Frag} {mg : Str → Option Value} {base : Heap} {ec : Ec} (z : BI mg) (g : GC mg) (xf : XF K mg ec) (D : Def K mg "_law_changed" s_law_changed ["leaf", "way", "place", "cell"]) (C_law_sign : Cal P w K mg base 1 "_law_sign" ["cell"] (sp_law_sign K ec)) : Cal P w K mg base 2 "_law_changed" ["leaf", "way", "place", "cell"] (sp_law_changed K ec) := by
  refine D.ok sc_law_changed (fun vs H Q E h => ?_) (fun f cdv A outer s H vs Q E hr h => ?_)
  · obtain ⟨m, w, p, c, rfl, ml, lt, q⟩ := h; rfl
  obtain ⟨m, w, p, c, rfl, ml, lt, q⟩ := h
  refine ⟨_, (pss_cons (ps_set (i := 2) sc_law_changed.nd rfl (Or.inl rfl) (pe_op op_mod (pv 2) (pe_op op_add (pe_callB call_lenT rfl z.len b_len (pa_cons (pv 0) pa_nil)) pe_int)))
      (pss_cons (ps_set (i := 4) sc_law_changed.nd rfl (Or.inl rfl) (pe_strT (m := [48, 49, 50, 51, 52, 53, 54, 55, 56, 57, 120, 44, 59, 59, 120, 44, 97, 98, 99, 122, 49, 48]) (by decide +kernel)))
      (pss_cons (ps_set (i := 5) sc_law_changed.nd rfl (Or.inl rfl) (pe_ix ix_strT (pv 4) (pe_op op_mod (pv 3) (pe_callB call_lenT rfl z.len b_len (pa_cons (pv 4) pa_nil))) (fun _ _ => rfl)))
      (pss_cut (ps_if (pt_cmpR op_eq (pe_op op_mod (pe_op op_fdiv (pv 3) pe_int) pe_int) pe_int (nomark _)) (pss_one (ps_set (i := 5) sc_law_changed.nd rfl (Or.inl rfl) (pe_def (C_law_sign.mono (by decide)) hr rfl (pa_cons (pe_op op_fdiv (pv 3) pe_int) pa_nil)))) pss_nil)
      (pss_cons (ps_if (pt_cmpR op_eq (pv 1) pe_int (nomark _)) (pss_one (ps_ret (pe_op op_addT (pe_op op_addT (pe_slice sl_str (pv 0) po_none (po_some (pv 2))) (pv 5)) (pe_slice sl_str (pv 0) (po_some (pv 2)) po_none)))) pss_nil)
      (pss_cons (ps_if (pt_cmpR op_eq (pv 1) pe_int (nomark _)) (pss_one (ps_ret (pe_op op_addT (pe_slice sl_str (pv 0) po_none (po_some (pv 2))) (pe_slice sl_str (pv 0) (po_some (pe_op op_add (pv 2) pe_int)) po_none)))) pss_nil)
      (pss_one (ps_ret (pe_op op_addT (pe_op op_addT (pe_slice sl_str (pv 0) po_none (po_some (pv 2))) (pv 5)) (pe_slice sl_str (pv 0) (po_some (pe_op op_add (pv 2) pe_int)) po_none)))))))))), ?_⟩
  refine ⟨_, rfl, _, rfl, m, rfl, szk (by omega), _, _, rfl, rfl, _, _, rfl, rfl, (by show (0 : Int) < _; omega), ?_⟩
  refine ⟨_, rfl, _, rfl, _, rfl, sgn22, rfl, szl (by decide), _, _, rfl, rfl, (by show (0 : Int) < _; decide), sgn22, _, sgn22.getD (c % 22).toNat 0, rfl, rfl, szl (by decide), ?_, ?_⟩
  · have c0 := Int.emod_nonneg c (show (22 : Int) ≠ 0 by decide)
    have c1 := Int.emod_lt_of_pos c (show (0 : Int) < 22 by decide)
    have hl : (c % 22).toNat < sgn22.length := by show _ < 22; omega
    have e22 : ((sgn22.length : Nat) : Int) = 22 := rfl
    have hg : sgn22[(c % 22).toNat]? = some (sgn22.getD (c % 22).toNat 0) := by rw [List.getD_eq_getElem?_getD, List.getElem?_eq_getElem hl]; rfl
    rw [e22]
    exact atN c0 hg
  have h128 : sgn22.getD (c % 22).toNat 0 < 128 := by
    have all : ∀ x ∈ sgn22, x < 128 := by decide
    by_cases hl : (c % 22).toNat < sgn22.length
    · rw [List.getD_eq_getElem?_getD, List.getElem?_eq_getElem hl]
      exact all _ (List.getElem_mem hl)
    · rw [List.getD_eq_getElem?_getD, List.getElem?_eq_none (by omega)]
      decide
  generalize sgn22.getD (c % 22).toNat 0 = x0 at h128 ⊢
  generalize hpp : p % (((m.length : Nat) : Int) + 1) = pp
  refine ⟨fun σ H2 => ∃ x : Nat, x < 128 ∧ σ = [some (.str (tx m)), some (.int w), some (.int pp), some (.int c), some (.str (tx sgn22)), some (.str (tx [x]))] ∧ H2 = H, ?_, ?_⟩
  · refine ⟨_, rfl, _, _, rfl, rfl, ⟨by decide, by decide⟩, _, _, rfl, rfl, (by show (0 : Int) < 3; decide), rfl, _, rfl, ?_⟩
    refine ite2 (fun _ => ?_) (fun _ => ⟨x0, h128, by rw [← hpp]; rfl, rfl⟩)
    refine ⟨_, rfl, _, _, rfl, rfl, ⟨by decide, by decide⟩, _, rfl, sgs.getD (c / 66 % 94).toNat 0, ?_, by rw [← hpp]; rfl, rfl⟩
    have m0 := Int.emod_nonneg (c / 66) (show (94 : Int) ≠ 0 by decide)
    have m1 := Int.emod_lt_of_pos (c / 66) (show (0 : Int) < 94 by decide)
    exact sgs_asc _ (sgs_at (by omega))
  rintro σ H2 ⟨x, hx, rfl, rfl⟩
  have glue : ∀ a b : List Nat, Sub a m → Sub b m → LeafT (a ++ [x] ++ b) ∧ (a ++ [x] ++ b).length ≤ 2021 := fun a b ha hb => by
    have la := ha.len
    have lb := hb.len
    have ll : (a ++ [x] ++ b).length ≤ 2021 := by rw [List.length_append, List.length_append]; show _ + 1 + _ ≤ _; omega
    refine ⟨⟨by omega, fun c hc => ?_⟩, ll⟩
    rcases List.mem_append.mp hc with hc | hc
    · rcases List.mem_append.mp hc with hc | hc
      · exact lt.asc c (ha.mem c hc)
      · rw [List.mem_singleton] at hc; omega
    · exact lt.asc c (hb.mem c hc)
  have cut : ∀ a b : List Nat, Sub a m → Sub b m → LeafT (a ++ b) ∧ (a ++ b).length ≤ 2021 := fun a b ha hb => by
    have la := ha.len
    have lb := hb.len
    have ll : (a ++ b).length ≤ 2021 := by rw [List.length_append]; omega
    refine ⟨⟨by omega, fun c hc => ?_⟩, ll⟩
    rcases List.mem_append.mp hc with hc | hc
    · exact lt.asc c (ha.mem c hc)
    · exact lt.asc c (hb.mem c hc)
  refine ⟨_, rfl, rfl, _, rfl, ?_⟩
  refine ite2 (fun _ => ?_) (fun _ => ?_)
  · refine ⟨_, rfl, _, rfl, _, rfl, m, rfl, szk (by omega), fun a ha => ?_⟩
    refine ⟨_, rfl, a, [x], rfl, rfl, szk (by have := ha.len; show _ + 1 ≤ _; omega), ?_⟩
    refine ⟨_, rfl, _, rfl, _, rfl, m, rfl, szk (by omega), fun b hb => ?_⟩
    have gl := glue a b ha hb
    exact ⟨_, _, rfl, rfl, szk (by rw [← List.length_append]; omega), _, Less.refl, q _ gl.1 gl.2⟩
  refine ⟨_, rfl, rfl, _, rfl, ?_⟩
  refine ite2 (fun _ => ?_) (fun _ => ?_)
  · refine ⟨_, rfl, _, rfl, _, rfl, m, rfl, szk (by omega), fun a ha => ?_⟩
    refine ⟨_, rfl, _, rfl, _, _, rfl, rfl, _, rfl, m, rfl, szk (by omega), fun b hb => ?_⟩
    have gl := cut a b ha hb
    exact ⟨_, _, rfl, rfl, szk (by rw [← List.length_append]; omega), _, Less.refl, q _ gl.1 gl.2⟩
  · refine ⟨_, rfl, _, rfl, _, rfl, m, rfl, szk (by omega), fun a ha => ?_⟩
    refine ⟨_, rfl, a, [x], rfl, rfl, szk (by have := ha.len; show _ + 1 ≤ _; omega), ?_⟩
    refine ⟨_, rfl, _, rfl, _, _, rfl, rfl, _, rfl, m, rfl, szk (by omega), fun b hb => ?_⟩
    have gl := glue a b ha hb
    exact ⟨_, _, rfl, rfl, szk (by rw [← List.length_append]; omega), _, Less.refl, q _ gl.1 gl.2⟩
abbrev s_law_odd : Stmt := top 49
theorem sc_law_odd : FnScope ["cell", "some"] ["cell"] (defScope s_law_odd) := ⟨rfl, rfl, rfl, by decide +kernel, rfl, by decide +kernel, by decide +kernel⟩
def sp_law_odd (K : PySem.W.Frag) (ec : Ec) : Sp := fun vs H Q _ => ∃ (c : Int), vs = [.int c] ∧ ∀ r, LeafT r → r.length ≤ 9 → Q (.str (tx r)) H
def odd1 : List (List Nat) := [[], [59], [97], [59, 98], [59, 97, 97], [49, 120, 49], [49, 120, 49, 59], [120, 59, 97], [49, 120, 48, 59, 97], [57, 52, 120, 49, 59, 97], [48, 120, 48, 49, 59, 97], [48, 48, 120, 49, 59, 97], [49, 120, 49, 44, 59, 97], [44, 59, 97]]
def odd2 : List (List Nat) := [[49, 120, 49, 59, 97, 59], [49, 120, 49, 59, 65], [49, 120, 49, 44, 49, 120, 49, 59, 97], [50, 120, 49, 44, 49, 120, 49, 59, 97], [49, 32, 120, 49, 59, 97], [48, 120, 49, 53, 49, 59, 97], [48, 120, 49, 53, 48, 59, 97], [43, 49, 120, 49, 59, 97], [49, 95, 48, 120, 49, 59, 97]]
theorem odd_all : ∀ m ∈ odd1 ++ odd2, m.length ≤ 9 ∧ ∀ c ∈ m, c < 128 := by decide
theorem ok_law_odd {P : Program} {w : World} {K : PySem.W.Frag} {mg : Str → Option Value} {base : Heap} {ec : Ec} (z : BI mg) (g : GC mg) (xf : XF K mg ec) (D : Def K mg "_law_odd" s_law_odd ["cell"]) : Cal P w K mg base 1 "_law_odd" ["cell"] (sp_law_odd K ec) := by
  refine D.ok sc_law_odd (fun vs H Q E h => ?_) (fun f cdv A outer s H vs Q E hr h => ?_)
  · obtain ⟨c, rfl, q⟩ := h; rfl
  obtain ⟨c, rfl, q⟩ := h
  obtain ⟨es1, es2, rest, p1, p2, p3, p4, p5, p6, p7, p8, h1, h2, er, eb⟩ : ∃ (es1 es2 : List Expr) (rest : Stmt) (p1 p2 p3 p4 p5 p6 p7 p8 : Pos), StrsAre es1 odd1 ∧ StrsAre es2 odd2 ∧ rest = (defBody s_law_odd).getD 2 (.Pass ⟨0, 0, 0, 0⟩) ∧ defBody s_law_odd = [.Assign [.Name "some" p1] (.List es1 p2) p3, .Assign [.Name "some" p4] (.BinOp (.Name "some" p5) .Add (.List es2 p6) p7) p8, rest] := ⟨_, _, _, _, _, _, _, _, _, _, _, .cons (by decide +kernel) (.cons (by decide +kernel) (.cons (by decide +kernel) (.cons (by decide +kernel) (.cons (by decide +kernel) (.cons (by decide +kernel) (.cons (by decide +kernel) (.cons (by decide +kernel) (.cons (by decide +kernel) (.cons (by decide +kernel) (.cons (by decide +kernel) (.cons (by decide +kernel) (.cons (by decide +kernel) (.cons (by decide +kernel) .nil))))))))))))), .cons (by decide +kernel) (.cons (by decide +kernel) (.cons (by decide +kernel) (.cons (by decide +kernel) (.cons (by decide +kernel) (.cons (by decide +kernel) (.cons (by decide +kernel) (.cons (by decide +kernel) (.cons (by decide +kernel) .nil)))))))), rfl, rfl⟩
  rw [eb, er]
  clear er eb
  refine ⟨_, (pss_cons (ps_set (i := 1) sc_law_odd.nd rfl (Or.inl rfl) (pe_lst (pa_strs h1)))
      (pss_cons (ps_set (i := 1) sc_law_odd.nd rfl (Or.inl rfl) (pe_op op_cat (pv 1) (pe_lst (pa_strs h2))))
      (pss_one (ps_ret (pe_ix ix_list (pv 1) (pe_op op_mod (pv 0) (pe_callB call_len_seq rfl z.len b_len (pa_cons (pv 1) pa_nil))) (fun _ _ => rfl)))))), ?_⟩
  refine ⟨by rw [List.length_map]; exact szl (by decide), fun a ha => ?_⟩
  have a1 : (upd H a (.lst (odd1.map fun m => V.str (tx m)))) a = some (.lst (odd1.map fun m => V.str (tx m))) := upd_same
  have s1 := same_up (u := .lst (odd1.map fun m => V.str (tx m))) ha
  generalize upd H a (.lst (odd1.map fun m => V.str (tx m))) = H1 at a1 s1 ⊢
  refine ⟨_, rfl, by rw [List.length_map]; exact szl (by decide), fun b hb => ?_⟩
  have a2 := upd_old (u := .lst (odd2.map fun m => V.str (tx m))) a1 hb
  have b2 : (upd H1 b (.lst (odd2.map fun m => V.str (tx m)))) b = some (.lst (odd2.map fun m => V.str (tx m))) := upd_same
  have s2 := s1.trans (same_up (u := .lst (odd2.map fun m => V.str (tx m))) hb)
  generalize upd H1 b (.lst (odd2.map fun m => V.str (tx m))) = H2 at a2 b2 s2 ⊢
  refine ⟨a, b, _, _, rfl, rfl, a2, b2, by rw [List.length_map, List.length_map]; exact szl (by decide), fun d hd => ?_⟩
  rw [← List.map_append]
  have d3 : (upd H2 d (.lst ((odd1 ++ odd2).map fun m => V.str (tx m)))) d = some (.lst ((odd1 ++ odd2).map fun m => V.str (tx m))) := upd_same
  have s3 := s2.trans (same_up (u := .lst ((odd1 ++ odd2).map fun m => V.str (tx m))) hd)
  generalize upd H2 d (.lst ((odd1 ++ odd2).map fun m => V.str (tx m))) = H3 at d3 s3 ⊢
  have c0 := Int.emod_nonneg c (show (23 : Int) ≠ 0 by decide)
  have c1 := Int.emod_lt_of_pos c (show (0 : Int) < 23 by decide)
  have hlt : (c % 23).toNat < (odd1 ++ odd2).length := by show _ < 23; omega
  have hm : (odd1 ++ odd2)[(c % 23).toNat]? = some ((odd1 ++ odd2).getD (c % 23).toNat []) := by rw [List.getD_eq_getElem?_getD, List.getElem?_eq_getElem hlt]; rfl
  have al := odd_all _ (List.mem_of_getElem? hm)
  have el : ((((odd1 ++ odd2).map fun m => V.str (tx m)).length : Nat) : Int) = 23 := by rw [List.length_map]; rfl
  refine ⟨_, rfl, _, rfl, _, rfl, d, _, rfl, .inl (SqL.of d3), ?_⟩
  rw [el]
  exact ⟨_, _, rfl, rfl, (by show (0 : Int) < 23; decide), d, _, _, _, rfl, rfl, SqL.of d3, atN c0 (by rw [List.getElem?_map, hm]; rfl), _, Less.same s3, q _ ⟨by omega, al.2⟩ al.1⟩
abbrev s_law_number : Stmt := top 50
theorem sc_law_number : FnScope ["word", "sign"] ["word"] (defScope s_law_number) := ⟨rfl, rfl, rfl, by decide +kernel, rfl, by decide +kernel, by decide +kernel⟩
def sp_law_number (K : PySem.W.Frag) (ec : Ec) : Sp := fun vs H Q _ => ∃ (f : List Nat), vs = [.str (tx f)] ∧ LeafT f ∧ ∀ n : Int, Q (.int n) H
theorem ok_law_number {P : Program} {w : World} {K : PySem.W.Frag} {mg : Str → Option Value} {base : Heap} {ec : Ec} (z : BI mg) (g : GC mg) (xf : XF K mg ec) (D : Def K mg "_law_number" s_law_number ["word"]) : Cal P w K mg base 1 "_law_number" ["word"] (sp_law_number K ec) := by
  refine D.ok sc_law_number (fun vs H Q E h => ?_) (fun f cdv A outer s H vs Q E hr h => ?_)
  · obtain ⟨f, rfl, lt, q⟩ := h; rfl
  obtain ⟨f, rfl, lt, q⟩ := h
  refine ⟨_, (pss_cons (ps_if (PW.pt (pw_or (pt_cmpR op_lt (pe_callB call_lenT rfl z.len b_len (pa_cons (pv 0) pa_nil)) pe_int (nomark _)) (pw_or1 (pt_cmpR op_gt (pe_callB call_lenT rfl z.len b_len (pa_cons (pv 0) pa_nil)) pe_int (nomark _))))) (pss_one (ps_ret (pe_un un_neg pe_int))) pss_nil)
      (pss_cons (ps_for PassesOwn.never rfl (pi_str (pv 0)) (pg_name (i := 1) sc_law_number.nd rfl (Or.inl rfl)) (pss_one (ps_if (pt_cmpR op_notinC (pv 1) (pe_strT (m := [48, 49, 50, 51, 52, 53, 54, 55, 56, 57]) (by decide +kernel)) (by with_unfolding_all rfl)) (pss_one (ps_ret (pe_un un_neg pe_int))) pss_nil)))
      (pss_one (ps_ret (pe_callTy call_intT rfl z.int b_int (pa_cons (pv 0) pa_nil)))))), ?_⟩
  have fl := lt.len
  refine ⟨_, rfl, f, rfl, szk (by omega), _, _, rfl, rfl, _, rfl, ?_⟩
  refine or2 (t2 := decide ((3 : Int) < ((f.length : Nat) : Int))) (fun h => ⟨_, rfl, f, rfl, szk (by omega), _, _, rfl, rfl, _, rfl, h⟩) (fun gg => ?_) (fun c c2 => ?_)
  · exact ⟨_, rfl, _, Less.refl, q _⟩
  have c' : ¬ ((f.length : Nat) : Int) < 1 := of_decide_eq_false c
  have c2' : ¬ (3 : Int) < ((f.length : Nat) : Int) := of_decide_eq_false c2
  refine ⟨_, rfl, f, rfl, for_str (l := f) (fun i σ H2 => ∃ (v1 : Option V), σ = [some (.str (tx f)), v1] ∧ H2 = H ∧ ∀ c ∈ f.take i, 48 ≤ c ∧ c ≤ 57) ⟨none, rfl, rfl, fun c hc => by simp at hc⟩ ?_ ?_⟩
  · rintro i c σ H2 hi ⟨v1, rfl, rfl, al⟩
    refine ⟨_, rfl, _, _, rfl, rfl, _, rfl, ?_⟩
    by_cases hc : c ∈ [48, 49, 50, 51, 52, 53, 54, 55, 56, 57]
    · rw [decide_eq_true hc]
      have e : f.take (i + 1) = f.take i ++ [c] := by rw [List.take_succ, hi]; rfl
      refine ⟨some (.str (tx [c])), rfl, rfl, fun x hx => ?_⟩
      rw [e, List.mem_append, List.mem_singleton] at hx
      rcases hx with hx | hx
      · exact al x hx
      · subst hx
        have all : ∀ c ∈ [48, 49, 50, 51, 52, 53, 54, 55, 56, 57], 48 ≤ c ∧ c ≤ 57 := by decide
        exact all x hc
    · rw [decide_eq_false hc]
      exact ⟨_, rfl, _, Less.refl, q _⟩
  · rintro σ H2 ⟨v1, rfl, rfl, al⟩
    rw [List.take_length] at al
    exact ⟨_, rfl, f, rfl, al, fun z => c' (by rw [z]; decide), by omega, _, Less.refl, q _⟩
abbrev s_law_told : Stmt := top 51
theorem sc_law_told : FnScope ["leaf", "cut", "places", "counts", "piece", "mid", "pile", "letter", "text", "k", "found"] ["leaf"] (defScope s_law_told) := ⟨rfl, rfl, rfl, by decide +kernel, rfl, by decide +kernel, by decide +kernel⟩
def sp_law_told (K : PySem.W.Frag) (ec : Ec) : Sp := fun vs H Q _ => ∃ (m : List Nat), vs = [.str (tx m)] ∧ LeafT m ∧ ∀ l, GT l → Q (.str (tx l)) H
theorem ok_law_told {P : Program} {w : World} {K : PySem.W.Frag} {mg : Str → Option Value} {base : Heap} {ec : Ec} (z : BI mg) (g : GC mg) (xf : XF K mg ec) (D : Def K mg "_law_told" s_law_told ["leaf"]) (C_law_number : Cal P w K mg base 1 "_law_number" ["word"] (sp_law_number K ec)) (C_law_off : Cal P w K mg base 1 "_law_off" ["pile", "counts"] (sp_law_off K ec)) (C_law_sign : Cal P w K mg base 1 "_law_sign" ["cell"] (sp_law_sign K ec)) : Cal P w K mg base 2 "_law_told" ["leaf"] (sp_law_told K ec) := by
  refine D.ok sc_law_told (fun vs H Q E h => ?_) (fun f cdv A outer s H vs Q E hr h => ?_)
  · obtain ⟨m, rfl, lt, q⟩ := h; rfl
  obtain ⟨m, rfl, lt, q⟩ := h
  refine ⟨_, (pss_cons (ps_set (i := 1) sc_law_told.nd rfl (Or.inl rfl) (pe_bm PySem.F.plainAttrs_str PySem.F.slot_str_find PySem.F.type_str_find mt_find (pv 0) (pa_cons (pe_strT (m := [59]) (by decide +kernel)) pa_nil)))
      (pss_cons (ps_set (i := 2) sc_law_told.nd rfl (Or.inl rfl) (pe_lst pa_nil))
      (pss_cons (ps_set (i := 3) sc_law_told.nd rfl (Or.inl rfl) (pe_lst pa_nil))
      (pss_cons (ps_for PassesOwn.never rfl (pi_list (pe_bm PySem.F.plainAttrs_str PySem.F.slot_str_split PySem.F.type_str_split mt_split (pe_slice sl_str (pv 0) po_none (po_some (pe_callB (call_max2 rfl) rfl z.max b_max (pa_cons (pv 1) (pa_cons pe_int pa_nil))))) (pa_cons (pe_strT (m := [44]) (by decide +kernel)) pa_nil))) (pg_name (i := 4) sc_law_told.nd rfl (Or.inl rfl)) (pss_cons (ps_set (i := 5) sc_law_told.nd rfl (Or.inl rfl) (pe_bm PySem.F.plainAttrs_str PySem.F.slot_str_find PySem.F.type_str_find mt_find (pv 4) (pa_cons (pe_strT (m := [120]) (by decide +kernel)) pa_nil)))
      (pss_cons (ps_expr (pe_bm PySem.F.plainAttrs_list PySem.F.slot_list_append PySem.F.type_list_append mt_append (pv 2) (pa_cons (pe_def (C_law_number.mono (by decide)) hr rfl (pa_cons (pe_slice sl_str (pv 4) po_none (po_some (pe_callB (call_max2 rfl) rfl z.max b_max (pa_cons (pv 5) (pa_cons pe_int pa_nil))))) pa_nil)) pa_nil)))
      (pss_one (ps_expr (pe_bm PySem.F.plainAttrs_list PySem.F.slot_list_append PySem.F.type_list_append mt_append (pv 3) (pa_cons (pe_def (C_law_number.mono (by decide)) hr rfl (pa_cons (pe_slice sl_str (pv 4) (po_some (pe_op op_add (pv 5) pe_int)) po_none) pa_nil)) pa_nil)))))))
      (pss_cons (ps_if (PW.pt (pw_or (pt_cmpR op_lt (pv 1) pe_int (nomark _)) (pw_or (pt_cmpR op_lt (pe_callB (call_minL rfl) rfl z.min b_min (pa_cons (pv 2) pa_nil)) pe_int (nomark _)) (pw_or (pt_cmpR op_gt (pe_callB (call_maxL rfl) rfl z.max b_max (pa_cons (pv 2) pa_nil)) pe_int (nomark _)) (pw_or (pt_cmpR op_lt (pe_callB (call_minL rfl) rfl z.min b_min (pa_cons (pv 3) pa_nil)) pe_int (nomark _)) (pw_or1 (pt_cmpR op_gt (pe_callB (call_sum rfl) rfl z.sum b_sum (pa_cons (pv 3) pa_nil)) pe_int (nomark _)))))))) (pss_one (ps_ret (pe_strT (m := []) (by decide +kernel)))) pss_nil)
      (pss_cons (ps_set (i := 6) sc_law_told.nd rfl (Or.inl rfl) pe_int)
      (pss_cons (ps_for PassesOwn.never rfl (pi_str (pe_slice sl_str (pv 0) (po_some (pe_op op_add (pv 1) pe_int)) po_none)) (pg_name (i := 7) sc_law_told.nd rfl (Or.inl rfl)) (pss_cons (ps_if (pt_cmpR op_notinC (pv 7) (pe_strT (m := ltr) (by decide +kernel)) (by with_unfolding_all rfl)) (pss_one (ps_ret (pe_strT (m := []) (by decide +kernel)))) pss_nil)
      (pss_one (ps_set (i := 6) sc_law_told.nd rfl (Or.inl rfl) (pe_op op_add (pe_op op_mul pe_int (pv 6)) (pe_bm PySem.F.plainAttrs_str PySem.F.slot_str_index PySem.F.type_str_index mt_index (pe_strT (m := ltr) (by decide +kernel)) (pa_cons (pv 7) pa_nil)))))))
      (pss_cons (ps_set (i := 8) sc_law_told.nd rfl (Or.inl rfl) (pe_strT (m := []) (by decide +kernel)))
      (pss_cons (ps_for PassesOwn.never rfl (pi_range1 rfl z.range (pa_cons (pe_callB (call_sum rfl) rfl z.sum b_sum (pa_cons (pv 3) pa_nil)) pa_nil)) (pg_name (i := 9) sc_law_told.nd rfl (Or.inl rfl)) (pss_cons (ps_set (i := 10) sc_law_told.nd rfl (Or.inl rfl) (pe_def (C_law_off.mono (by decide)) hr rfl (pa_cons (pv 6) (pa_cons (pv 3) pa_nil))))
      (pss_cons (ps_set (i := 8) sc_law_told.nd rfl (Or.inl rfl) (pe_op op_addT (pv 8) (pe_def (C_law_sign.mono (by decide)) hr rfl (pa_cons (pe_ix ix_list (pv 2) (pe_ix ix_tup (pv 10) pe_int (fun _ _ => rfl)) (fun _ _ => rfl)) pa_nil))))
      (pss_one (ps_set (i := 6) sc_law_told.nd rfl (Or.inl rfl) (pe_ix ix_tup (pv 10) pe_int (fun _ _ => rfl)))))))
      (pss_one (ps_ret (pv 8)))))))))))), ?_⟩
  have ml := lt.len
  have gn : GT [] := ⟨Nat.zero_le _, fun c hc => by cases hc⟩
  refine ⟨_, rfl, rfl, _, _, rfl, rfl, ?_⟩
  generalize (if 59 ∈ m then ((m.idxOf 59 : Nat) : Int) else -1) = ck
  refine ⟨(by show 0 ≤ sizeLine; decide), fun pl hpl => ?_⟩
  refine ⟨(by show 0 ≤ sizeLine; decide), fun cl hcl => ?_⟩
  have npc : pl ≠ cl := fun z => by rw [← z, upd_same] at hcl; cases hcl
  have hclH : H cl = none := (same_up hpl).free hcl
  have s1 := (same_up (u := .lst []) hpl).trans (same_up (u := .lst []) hcl)
  have p1 : (upd (upd H pl (.lst [])) cl (.lst [])) pl = some (.lst (([] : List Int).map V.int)) := upd_old upd_same hcl
  have c1 : (upd (upd H pl (.lst [])) cl (.lst [])) cl = some (.lst (([] : List Int).map V.int)) := upd_same
  generalize upd (upd H pl (.lst [])) cl (.lst []) = H1 at s1 p1 c1 ⊢
  refine ⟨_, rfl, _, rfl, _, _, rfl, _, rfl, m, rfl, szk (by omega), fun m2 h2 => ?_⟩
  have lt2 := lt.sub h2
  have ml2 := lt2.len
  refine ⟨rfl, m2, 44, rfl, rfl, by decide, szlt (by omega), fun sp hsp => ?_⟩
  have msl := splitA_len 44 m2 []
  have mss : ∀ q ∈ splitA 44 [] m2, LeafT q := fun q hq => lt2.sub (part_sub hq)
  have mpos : 0 < (splitA 44 [] m2).length := splitA_pos 44 m2 []
  generalize splitA 44 [] m2 = ms at msl mss mpos ⊢
  have nsp : sp ≠ pl := (ne_of_none p1 hsp).symm
  have nsc : sp ≠ cl := (ne_of_none c1 hsp).symm
  have s2 := s1.trans (same_up (u := .lst (ms.map fun m => V.str (tx m))) hsp)
  have p2 := upd_old (u := .lst (ms.map fun m => V.str (tx m))) p1 hsp
  have c2 := upd_old (u := .lst (ms.map fun m => V.str (tx m))) c1 hsp
  have l2 : (upd H1 sp (.lst (ms.map fun m => V.str (tx m)))) sp = some (.lst (ms.map fun m => V.str (tx m))) := upd_same
  generalize upd H1 sp (.lst (ms.map fun m => V.str (tx m))) = H2 at s2 p2 c2 l2 ⊢
  refine ⟨sp, rfl, ⟨_, SqL.of l2⟩, for_list (K := K) (a := sp) (xs := ms.map fun m => V.str (tx m)) (fun i σ H3 => ∃ (ps cs : List Int) (v4 v5 : Option V), σ = [some (.str (tx m)), some (.int ck), some (.ref pl), some (.ref cl), v4, v5, none, none, none, none, none] ∧ H3 pl = some (.lst (ps.map V.int)) ∧ H3 cl = some (.lst (cs.map V.int)) ∧ ps.length = i ∧ cs.length = i ∧ Same H H3 ∧ H3 sp = some (.lst (ms.map fun m => V.str (tx m)))) ⟨[], [], none, none, rfl, p2, c2, rfl, rfl, s2, l2⟩ (fun i σ H3 _ ⟨_, _, _, _, _, _, _, _, _, _, e⟩ => SqL.of e) ?_ ?_⟩
  · rintro i y σ H3 hi ⟨ps, cs, v4, v5, rfl, pp, pc, lp, lc, sm, ls⟩
    have hi1 := (List.getElem?_eq_some_iff.mp hi).1
    rw [List.length_map] at hi1
    rw [List.getElem?_map] at hi
    obtain ⟨w, hw, rfl⟩ := Option.map_eq_some_iff.mp hi
    have ltw := mss w (List.mem_of_getElem? hw)
    have lw := ltw.len
    refine ⟨_, rfl, rfl, _, _, rfl, rfl, ?_⟩
    generalize (if 120 ∈ w then ((w.idxOf 120 : Nat) : Int) else -1) = mk
    refine ⟨_, rfl, .inl ⟨rfl, _, SqL.of pp⟩, _, rfl, _, rfl, _, _, rfl, _, rfl, w, rfl, szk (by omega), fun a ha => ?_⟩
    refine ⟨a, rfl, ltw.sub ha, fun n => ?_⟩
    refine ⟨pl, _, _, rfl, rfl, pp, szlt (by rw [List.length_map]; omega), ?_⟩
    have e1 : (ps.map V.int) ++ [.int n] = (ps ++ [n]).map V.int := by rw [List.map_append]; rfl
    rw [e1]
    have pp4 : (upd H3 pl (.lst ((ps ++ [n]).map V.int))) pl = some (.lst ((ps ++ [n]).map V.int)) := upd_same
    have pc4 : (upd H3 pl (.lst ((ps ++ [n]).map V.int))) cl = some (.lst (cs.map V.int)) := by rw [upd_ne npc.symm]; exact pc
    have ls4 : (upd H3 pl (.lst ((ps ++ [n]).map V.int))) sp = some (.lst (ms.map fun m => V.str (tx m))) := by rw [upd_ne nsp]; exact ls
    have sm4 : Same H (upd H3 pl (.lst ((ps ++ [n]).map V.int))) := fun b o e => by rw [upd_ne (ne_of_none e hpl)]; exact sm b o e
    generalize upd H3 pl (.lst ((ps ++ [n]).map V.int)) = H4 at pp4 pc4 ls4 sm4 ⊢
    refine ⟨_, rfl, .inl ⟨rfl, _, SqL.of pc4⟩, _, rfl, _, rfl, _, _, rfl, rfl, _, rfl, w, rfl, szk (by omega), fun b hb => ?_⟩
    refine ⟨b, rfl, ltw.sub hb, fun n2 => ?_⟩
    refine ⟨cl, _, _, rfl, rfl, pc4, szlt (by rw [List.length_map]; omega), ?_⟩
    have e2 : (cs.map V.int) ++ [.int n2] = (cs ++ [n2]).map V.int := by rw [List.map_append]; rfl
    rw [e2]
    exact ⟨ps ++ [n], cs ++ [n2], _, _, rfl, by rw [upd_ne npc]; exact pp4, upd_same, by rw [List.length_append, lp]; rfl, by rw [List.length_append, lc]; rfl, fun b o e => by rw [upd_ne (ne_of_none e hclH)]; exact sm4 b o e, by rw [upd_ne nsc]; exact ls4⟩
  rintro σ H3 ⟨ps, cs, v4, v5, rfl, pp, pc, lp, lc, sm, _⟩
  rw [List.length_map] at lp lc
  refine ⟨_, rfl, _, _, rfl, rfl, _, rfl, ?_⟩
  refine ite2 (fun c => iteT ⟨_, Less.same sm, q [] gn⟩) (fun c => ?_)
  refine ⟨_, rfl, pl, ps, rfl, SqL.of pp, by omega, fun mn hmn hle => ?_⟩
  refine ⟨_, _, rfl, rfl, _, rfl, ?_⟩
  refine ite2 (fun c => iteT ⟨_, Less.same sm, q [] gn⟩) (fun c2 => ?_)
  refine ⟨_, rfl, pl, ps, rfl, SqL.of pp, by omega, fun mx hmx hge => ?_⟩
  refine ⟨_, _, rfl, rfl, _, rfl, ?_⟩
  refine ite2 (fun c => iteT ⟨_, Less.same sm, q [] gn⟩) (fun c3 => ?_)
  refine ⟨_, rfl, cl, cs, rfl, SqL.of pc, by omega, fun mc hmc hlc => ?_⟩
  refine ⟨_, _, rfl, rfl, _, rfl, ?_⟩
  refine ite2 (fun c => iteT ⟨_, Less.same sm, q [] gn⟩) (fun c4 => ?_)
  refine ⟨_, rfl, cl, cs, rfl, SqL.of pc, _, _, rfl, rfl, _, rfl, ?_⟩
  refine ite2 (fun c => ⟨_, Less.same sm, q [] gn⟩) (fun c5 => ?_)
  have c4' : ¬ mc < 1 := of_decide_eq_false (Bool.eq_false_iff.mpr c4)
  have c5' : ¬ 150 < cs.sum := of_decide_eq_false (Bool.eq_false_iff.mpr c5)
  have rg : ∀ c ∈ cs, 1 ≤ c := fun c hc => by have := hlc c hc; omega
  obtain ⟨g1, g2⟩ := sum_ge1 rg
  refine ⟨_, rfl, _, rfl, _, _, rfl, rfl, _, rfl, m, rfl, szk (by omega), fun m3 h3 => ?_⟩
  refine ⟨m3, rfl, for_str (l := m3) (fun i σ H4 => ∃ (n : Nat) (v4 v5 v7 : Option V), σ = [some (.str (tx m)), some (.int ck), some (.ref pl), some (.ref cl), v4, v5, some (.int (n : Int)), v7, none, none, none] ∧ H4 = H3) ⟨0, v4, v5, none, rfl, rfl⟩ ?_ ?_⟩
  · rintro i c σ H4 hi ⟨n, v4, v5, v7, rfl, rfl⟩
    refine ⟨_, rfl, _, _, rfl, rfl, _, rfl, ?_⟩
    by_cases hc : c ∈ ltr
    · rw [decide_eq_true hc]
      refine ⟨_, rfl, _, _, rfl, rfl, .inl ⟨by decide, by decide⟩, rfl, _, rfl, ltr, c, rfl, rfl, hc, _, _, rfl, rfl, ?_⟩
      refine ⟨26 * n + ltr.idxOf c, v4, v5, some (.str (tx [c])), ?_, rfl⟩
      rw [show (((26 * n + ltr.idxOf c : Nat)) : Int) = 26 * (n : Int) + ((ltr.idxOf c : Nat) : Int) by omega]
      rfl
    · rw [decide_eq_false hc]
      exact ⟨_, Less.same sm, q [] gn⟩
  rintro σ H4 ⟨n, v4, v5, v7, rfl, rfl⟩
  refine ⟨_, rfl, cl, cs, rfl, SqL.of pc, _, rfl, by omega, by omega, for_range (n := cs.sum.toNat) (fun i σ H5 => ∃ (tl : List Nat) (p : Int) (v9 v10 : Option V), σ = [some (.str (tx m)), some (.int ck), some (.ref pl), some (.ref cl), v4, v5, some (.int p), v7, some (.str (tx tl)), v9, v10] ∧ Same H4 H5 ∧ 0 ≤ p ∧ tl.length = i ∧ ∀ c ∈ tl, c ∈ sgs) ⟨[], (n : Int), none, none, rfl, Same.refl _, by omega, rfl, fun c hc => by cases hc⟩ ?_ ?_⟩
  · rintro i σ H5 hi ⟨tl, p, v9, v10, rfl, s5, hp, htl, hsg⟩
    refine ⟨_, rfl, _, rfl, p, cl, cs, rfl, SqL.of (s5 _ _ pc), by omega, by omega, fun c hc => ⟨rg c hc, by have := g2 c hc; omega⟩, by omega, by omega, hp, fun t k p' ht k0 k1 p0 => ?_⟩
    have t6 : (upd H5 t (.tup [.int k, .int p'])) t = some (.tup [.int k, .int p']) := upd_same
    have s6 := s5.trans (same_up (u := .tup [.int k, .int p']) ht)
    generalize upd H5 t (.tup [.int k, .int p']) = H6 at t6 s6 ⊢
    refine ⟨_, rfl, _, rfl, _, rfl, t, _, _, _, rfl, rfl, SqT.of t6, rfl, pl, _, _, _, rfl, rfl, SqL.of (s6 _ _ pp), atZ k0 (by omega), ps.getD k.toNat 0, rfl, _, _, rfl, rfl, szl (by show _ + 1 ≤ _; omega), ?_⟩
    have m0 := Int.emod_nonneg (ps.getD k.toNat 0) (show (94 : Int) ≠ 0 by decide)
    have m1 := Int.emod_lt_of_pos (ps.getD k.toNat 0) (show (0 : Int) < 94 by decide)
    refine ⟨_, rfl, t, _, _, _, rfl, rfl, SqT.of t6, rfl, ?_⟩
    refine ⟨tl ++ [sgs.getD (ps.getD k.toNat 0 % 94).toNat 0], p', _, _, rfl, s6, p0, by rw [List.length_append, htl]; rfl, fun c hc => ?_⟩
    rcases List.mem_append.mp hc with h | h
    · exact hsg c h
    · rw [List.mem_singleton] at h
      subst h
      exact sgs_at (by omega)
  · rintro σ H5 ⟨tl, p, v9, v10, rfl, s5, hp, htl, hsg⟩
    exact ⟨_, rfl, _, Less.same (sm.trans s5), q tl ⟨by omega, hsg⟩⟩
abbrev s_law_asked : Stmt := top 52
theorem sc_law_asked : FnScope ["leaf", "told", "e"] ["leaf"] (defScope s_law_asked) := ⟨rfl, rfl, rfl, by decide +kernel, rfl, by decide +kernel, by decide +kernel⟩
def sp_law_asked (K : PySem.W.Frag) (ec : Ec) : Sp := fun vs H Q _ => ∃ (m : List Nat), vs = [.str (tx m)] ∧ LeafT m ∧ (∀ l, ansO m = some l → ∀ H', Same H H' → Q (.str (tx l)) H') ∧ (ansO m = none → ∀ t H', Same H H' → H' t = some (.tup [.bl true, .bl true, .bl false]) → Q (.ref t) H')
theorem ok_law_asked {P : Program} {w : World} {K : PySem.W.Frag} {mg : Str → Option Value} {base : Heap} {ec : Ec} (z : BI mg) (g : GC mg) (xf : XF K mg ec) (D : Def K mg "_law_asked" s_law_asked ["leaf"]) (C_unpacked : CalX P w K mg base 7 "unpacked" ["leaf"] (sp_unpacked K ec)) : Cal P w K mg base 8 "_law_asked" ["leaf"] (sp_law_asked K ec) := by
  refine D.okH sc_law_asked (fun vs H Q E h => ?_) (fun f cdv A outer s H vs Q E hr h => ?_)
  · obtain ⟨m, rfl, lt, q1, q2⟩ := h; rfl
  obtain ⟨m, rfl, lt, q1, q2⟩ := h
  refine ⟨_, (pss_cons (ps_set (i := 1) sc_law_asked.nd rfl (Or.inl rfl) pe_non)
      (pss_cons (ps_tryAs (i := 2) sc_law_asked.nd rfl rfl ⟨rfl, rfl⟩ rfl (psx_set (i := 1) sc_law_asked.nd rfl (Or.inl rfl) (px_def (C_unpacked.mono (by decide)) hr rfl rfl (pa_cons (pv 0) pa_nil))) rfl xf.mPileError xf.oPileError (fun _ _ _ _ hx => (pss_one (ps_set (i := 1) sc_law_asked.nd rfl (Or.inl rfl) (pe_tup (pa_cons (pe_callB call_isXC rfl z.isinstance b_isinstance (pa_cons (pv 2) (pa_cons (pe_gref rfl xf.mNotLeaf) pa_nil))) (pa_cons (pe_callB call_isXT rfl z.isinstance b_isinstance (pa_cons (pv 2) (pa_cons (pe_bty rfl z.ValueError b_ValueError) pa_nil))) (pa_cons (pe_callB call_isXC rfl z.isinstance b_isinstance (pa_cons (pv 2) (pa_cons (pe_gref rfl xf.mNoText) pa_nil))) pa_nil))))))))
      (pss_one (ps_ret (pv 1))))), ?_⟩
  refine ⟨_, rfl, m, rfl, lt, fun l hl H' sm => ?_, fun hn H' sm => ?_⟩
  · exact ⟨_, rfl, q1 l hl H' sm⟩
  refine ⟨ec.notLeaf, rfl, xf.pNotLeaf, fun e he => ?_⟩
  refine ⟨_, rfl, xf.fNotLeaf, _, _, rfl, xf.kNotLeaf_NotLeaf, ?_⟩
  refine ⟨_, rfl, xf.fNotLeaf, _, _, rfl, xf.kNotLeaf_ValueError, ?_⟩
  refine ⟨_, rfl, xf.fNotLeaf, _, _, rfl, xf.kNotLeaf_NoText, ?_⟩
  refine ⟨(by show 3 ≤ sizeLine; decide), fun t ht => ?_⟩
  exact ⟨_, rfl, q2 hn t _ (sm.trans (same_up ht)) upd_same⟩
abbrev s_law : Stmt := top 53
theorem sc_law : FnScope ["script", "size", "kinds", "leaf", "way", "row", "k", "found"] ["script"] (defScope s_law) := ⟨rfl, rfl, rfl, by decide +kernel, rfl, by decide +kernel, by decide +kernel⟩
def sp_law (K : PySem.W.Frag) (ec : Ec) : Sp := fun vs H Q _ => ∃ (a : Addr) (ns : List Int), vs = [.ref a] ∧ SqL K H a (ns.map V.int) ∧ ns.length ≤ 63 ∧ ∀ H', Q (.bl true) H'
theorem ok_law {P : Program} {w : World} {K : PySem.W.Frag} {mg : Str → Option Value} {base : Heap} {ec : Ec} {f : Addr} {fd : FuncData} (z : BI mg) (g : GC mg) (xf : XF K mg ec) (F : Fun K "law" "law" s_law f fd) (C_law_cell_at : Cal P w K mg base 1 "_law_cell_at" ["script", "k"] (sp_law_cell_at K ec)) (C_law_leaf : Cal P w K mg base 2 "_law_leaf" ["text"] (sp_law_leaf K ec)) (C_law_text : Cal P w K mg base 2 "_law_text" ["script", "at", "size", "kinds"] (sp_law_text K ec)) (C_law_changed : Cal P w K mg base 2 "_law_changed" ["leaf", "way", "place", "cell"] (sp_law_changed K ec)) (C_law_odd : Cal P w K mg base 1 "_law_odd" ["cell"] (sp_law_odd K ec)) (C_law_draw : Cal P w K mg base 1 "_law_draw" ["cell", "k", "bound"] (sp_law_draw K ec)) (C_law_asked : Cal P w K mg base 8 "_law_asked" ["leaf"] (sp_law_asked K ec)) (C_law_told : Cal P w K mg base 2 "_law_told" ["leaf"] (sp_law_told K ec)) : FnOk P w K mg base CX0 9 f fd ["script"] (sp_law K ec) := by
  refine F.okD sc_law (fun vs H Q E h => ?_) (fun cdv A outer s H vs Q E hr h => ?_)
  · obtain ⟨a, ns, rfl, hS, hlen, q⟩ := h; rfl
  obtain ⟨a, ns, rfl, hS, hlen, q⟩ := h
  refine ⟨_, (pss_cons (ps_set (i := 1) sc_law.nd rfl (Or.inl rfl) (pe_op op_mod (pe_def (C_law_cell_at.mono (by decide)) hr rfl (pa_cons (pv 0) (pa_cons pe_int pa_nil))) pe_int))
      (pss_cut (ps_if (pt_cmpR op_eq (pe_op op_mod (pe_op op_fdiv (pe_def (C_law_cell_at.mono (by decide)) hr rfl (pa_cons (pv 0) (pa_cons pe_int pa_nil))) pe_int) pe_int) pe_int (nomark _)) (pss_one (ps_set (i := 1) sc_law.nd rfl (Or.inl rfl) (pe_op op_add pe_int (pe_op op_mod (pe_op op_fdiv (pe_def (C_law_cell_at.mono (by decide)) hr rfl (pa_cons (pv 0) (pa_cons pe_int pa_nil))) pe_int) pe_int)))) pss_nil)
      (pss_cons (ps_set (i := 2) sc_law.nd rfl (Or.inl rfl) (pe_op op_mul (pe_op op_mod (pe_def (C_law_cell_at.mono (by decide)) hr rfl (pa_cons (pv 0) (pa_cons pe_int pa_nil))) pe_int) (pe_op op_add pe_int (pe_op op_mod (pe_op op_fdiv (pe_def (C_law_cell_at.mono (by decide)) hr rfl (pa_cons (pv 0) (pa_cons pe_int pa_nil))) pe_int) pe_int))))
      (pss_cons (ps_set (i := 3) sc_law.nd rfl (Or.inl rfl) (pe_def (C_law_leaf.mono (by decide)) hr rfl (pa_cons (pe_def (C_law_text.mono (by decide)) hr rfl (pa_cons (pv 0) (pa_cons pe_int (pa_cons (pv 1) (pa_cons (pv 2) pa_nil))))) pa_nil)))
      (pss_cons (ps_set (i := 4) sc_law.nd rfl (Or.inl rfl) (pe_op op_mod (pe_def (C_law_cell_at.mono (by decide)) hr rfl (pa_cons (pv 0) (pa_cons pe_int pa_nil))) pe_int))
      (pss_cut (ps_if (pt_cmpR op_gt (pv 4) pe_int (nomark _)) (pss_one (ps_set (i := 3) sc_law.nd rfl (Or.inl rfl) (pe_def (C_law_changed.mono (by decide)) hr rfl (pa_cons (pv 3) (pa_cons (pv 4) (pa_cons (pe_def (C_law_cell_at.mono (by decide)) hr rfl (pa_cons (pv 0) (pa_cons pe_int pa_nil))) (pa_cons (pe_def (C_law_cell_at.mono (by decide)) hr rfl (pa_cons (pv 0) (pa_cons pe_int pa_nil))) pa_nil))))))) pss_nil)
      (pss_cut (ps_if (pt_cmpR op_eq (pe_op op_mod (pe_op op_fdiv (pe_def (C_law_cell_at.mono (by decide)) hr rfl (pa_cons (pv 0) (pa_cons pe_int pa_nil))) pe_int) pe_int) pe_int (nomark _)) (pss_one (ps_set (i := 3) sc_law.nd rfl (Or.inl rfl) (pe_def (C_law_odd.mono (by decide)) hr rfl (pa_cons (pe_def (C_law_cell_at.mono (by decide)) hr rfl (pa_cons (pv 0) (pa_cons pe_int pa_nil))) pa_nil)))) pss_nil)
      (pss_cut (ps_if (pt_cmpR op_eq (pe_op op_mod (pe_op op_fdiv (pe_def (C_law_cell_at.mono (by decide)) hr rfl (pa_cons (pv 0) (pa_cons pe_int pa_nil))) pe_int) pe_int) pe_int (nomark _)) (pss_cons (ps_setComp (i := 5) sc_law.nd rfl (Or.inl rfl) (caps := [(0, "script")]) rfl (pi_range1 rfl z.range (pa_cons (pe_op op_add pe_int (pe_op op_mod (pe_def (C_law_cell_at.mono (by decide)) hr rfl (pa_cons (pv 0) (pa_cons pe_int pa_nil))) pe_int)) pa_nil)) ⟨rfl, by decide +kernel, by decide +kernel, rfl⟩ ⟨⟨rfl, Or.inl rfl, rfl⟩, trivial⟩ rfl (by decide +kernel) (fun _ _ _ _ => pts_nil) (fun _ _ _ _ => (pe_def (C_law_draw.mono (by decide)) hr rfl (pa_cons (pe_def (C_law_cell_at.mono (by decide)) hr rfl (pa_cons (pv 1) (pa_cons pe_int pa_nil))) (pa_cons (pv 0) (pa_cons pe_int pa_nil))))))
      (pss_cons (ps_set (i := 3) sc_law.nd rfl (Or.inl rfl) (pe_slice sl_str (pv 3) po_none (po_some (pe_op op_add (pe_bm PySem.F.plainAttrs_str PySem.F.slot_str_find PySem.F.type_str_find mt_find (pv 3) (pa_cons (pe_strT (m := [59]) (by decide +kernel)) pa_nil)) pe_int))))
      (pss_one (ps_for PassesOwn.never rfl (pi_list (pv 5)) (pg_name (i := 6) sc_law.nd rfl (Or.inl rfl)) (pss_one (ps_set (i := 3) sc_law.nd rfl (Or.inl rfl) (pe_op op_addT (pv 3) (pe_ix ix_strT (pe_strT (m := ltr) (by decide +kernel)) (pv 6) (fun _ _ => rfl))))))))) pss_nil)
      (pss_cons (ps_set (i := 7) sc_law.nd rfl (Or.inl rfl) (pe_def (C_law_asked.mono (by decide)) hr rfl (pa_cons (pv 3) pa_nil)))
      (pss_cons (ps_if (pt_truth (pe_callB call_isinst rfl z.isinstance b_isinstance (pa_cons (pv 7) (pa_cons (pe_bty rfl z.str b_str) pa_nil))) (fun _ => rfl)) (pss_one (ps_ret (pe_cmpR op_eq (pe_def (C_law_leaf.mono (by decide)) hr rfl (pa_cons (pv 7) pa_nil)) (pv 3) (nomark _)))) pss_nil)
      (pss_one (ps_ret (pe_and (pe_cmpR (op_eqTF (hU hr)) (pv 7) (pe_tup (pa_cons pe_bl (pa_cons pe_bl (pa_cons pe_bl pa_nil)))) (nomark _)) (pe_one (pe_cmpR op_ne (pe_def (C_law_leaf.mono (by decide)) hr rfl (pa_cons (pe_def (C_law_told.mono (by decide)) hr rfl (pa_cons (pv 3) pa_nil)) pa_nil)) (pv 3) (nomark _)))))))))))))))), ?_⟩
  refine ⟨_, rfl, a, ns, _, rfl, hS, by decide, _, _, rfl, rfl, (by show (0 : Int) < 13; decide), ?_⟩
  refine ⟨fun σ H' => ∃ m : Int, σ = [some (.ref a), some (.int m), none, none, none, none, none, none] ∧ H' = H ∧ 0 ≤ m ∧ m ≤ 150, ?_, ?_⟩
  · refine ⟨_, rfl, a, ns, _, rfl, hS, by decide, _, _, rfl, rfl, ⟨by decide, by decide⟩, _, _, rfl, rfl, (by show (0 : Int) < 8; decide), rfl, _, rfl, ?_⟩
    refine ite2 (fun c => ?_) (fun c => ?_)
    · have z0 := Int.emod_nonneg (cellAt ns 0 / 104) (show (60 : Int) ≠ 0 by decide)
      have z1 := Int.emod_lt_of_pos (cellAt ns 0 / 104) (show (0 : Int) < 60 by decide)
      exact ⟨_, rfl, a, ns, _, rfl, hS, by decide, _, _, rfl, rfl, ⟨by decide, by decide⟩, _, _, rfl, rfl, (by show (0 : Int) < 60; decide), _, _, rfl, rfl, _, rfl, rfl, by omega, by omega⟩
    · exact ⟨_, rfl, rfl, Int.emod_nonneg _ (by decide), by have := Int.emod_lt_of_pos (cellAt ns 0) (show (0 : Int) < 13 by decide); omega⟩
  rintro σ H' ⟨m, rfl, rfl, m0, m1⟩
  have x0 := Int.emod_nonneg (cellAt ns 3) (show (2 : Int) ≠ 0 by decide)
  have x1 := Int.emod_lt_of_pos (cellAt ns 3) (show (0 : Int) < 2 by decide)
  have y0 := Int.emod_nonneg (cellAt ns 3 / 2) (show (3 : Int) ≠ 0 by decide)
  have y1 := Int.emod_lt_of_pos (cellAt ns 3 / 2) (show (0 : Int) < 3 by decide)
  have kk : 0 ≤ cellAt ns 3 % 2 * (1 + cellAt ns 3 / 2 % 3) ∧ cellAt ns 3 % 2 * (1 + cellAt ns 3 / 2 % 3) ≤ 1000 := by
    generalize cellAt ns 3 / 2 % 3 = y at y0 y1
    generalize cellAt ns 3 % 2 = x at x0 x1
    have hx : x = 0 ∨ x = 1 := by omega
    rcases hx with rfl | rfl <;> omega
  refine ⟨_, rfl, a, ns, _, rfl, hS, by decide, _, _, rfl, rfl, (by show (0 : Int) < 2; decide), _, rfl, a, ns, _, rfl, hS, by decide, _, _, rfl, rfl, ⟨by decide, by decide⟩, _, _, rfl, rfl, (by show (0 : Int) < 3; decide), _, _, rfl, rfl, _, _, rfl, rfl, .inl ⟨by omega, by omega⟩, ?_⟩
  refine ⟨_, rfl, _, rfl, _, rfl, a, ns, 1, m, _, rfl, hS, by decide, m0, m1, kk.1, kk.2, fun l gl => ?_⟩
  refine ⟨l, rfl, gl, ?_⟩
  have lf := leaf_lt gl
  generalize leafL l = lf0 at lf ⊢
  refine ⟨_, rfl, a, ns, _, rfl, hS, by decide, _, _, rfl, rfl, (by show (0 : Int) < 4; decide), ?_⟩
  refine ⟨fun σ H2 => ∃ (r : List Nat) (v2 v4 : Option V), LeafT r ∧ r.length ≤ 2021 ∧ σ = [some (.ref a), some (.int m), v2, some (.str (tx r)), v4, none, none, none] ∧ H2 = H', ?_, ?_⟩
  · refine ⟨_, rfl, _, _, rfl, rfl, _, rfl, ?_⟩
    refine ite2 (fun c => ?_) (fun c => ⟨lf0, _, _, lf.1, by omega, rfl, rfl⟩)
    exact ⟨_, rfl, _, rfl, _, rfl, a, ns, _, rfl, hS, by decide, _, rfl, a, ns, _, rfl, hS, by decide, lf0, _, _, _, rfl, lf.2, lf.1, fun r lr hr2 => ⟨r, _, _, lr, hr2, rfl, rfl⟩⟩
  rintro σ H2 ⟨r, v2, v4, lr, hr2, rfl, rfl⟩
  refine ⟨fun σ H3 => ∃ (r : List Nat) (v2 v4 : Option V), LeafT r ∧ r.length ≤ 2021 ∧ σ = [some (.ref a), some (.int m), v2, some (.str (tx r)), v4, none, none, none] ∧ H3 = H2, ?_, ?_⟩
  · refine ⟨_, rfl, a, ns, _, rfl, hS, by decide, _, _, rfl, rfl, ⟨by decide, by decide⟩, _, _, rfl, rfl, (by show (0 : Int) < 8; decide), rfl, _, rfl, ?_⟩
    refine ite2 (fun c => ?_) (fun c => ⟨r, v2, v4, lr, hr2, rfl, rfl⟩)
    exact ⟨_, rfl, a, ns, _, rfl, hS, by decide, _, rfl, fun r' l' h' => ⟨r', _, _, l', by omega, rfl, rfl⟩⟩
  rintro σ H3 ⟨r, v2, v4, lr, hr2, rfl, rfl⟩
  refine ⟨fun σ H4 => ∃ (r : List Nat) (v2 v4 v5 v6 : Option V), LeafT r ∧ σ = [some (.ref a), some (.int m), v2, some (.str (tx r)), v4, v5, v6, none] ∧ Same H3 H4, ?_, ?_⟩
  · refine ⟨_, rfl, a, ns, _, rfl, hS, by decide, _, _, rfl, rfl, ⟨by decide, by decide⟩, _, _, rfl, rfl, (by show (0 : Int) < 8; decide), rfl, _, rfl, ?_⟩
    refine ite2 (fun c => ?_) (fun c => ⟨r, v2, v4, _, _, lr, rfl, Same.refl _⟩)
    have w0 := Int.emod_nonneg (cellAt ns 7) (show (9 : Int) ≠ 0 by decide)
    have w1 := Int.emod_lt_of_pos (cellAt ns 7) (show (0 : Int) < 9 by decide)
    refine ⟨_, rfl, a, ns, _, rfl, hS, by decide, _, _, rfl, rfl, (by show (0 : Int) < 9; decide), _, _, rfl, rfl, _, rfl, by omega, by omega, fun D hD => ?_⟩
    have wl : (1 + cellAt ns 7 % 9).toNat ≤ 9 := by omega
    generalize (1 + cellAt ns 7 % 9).toNat = wn at wl ⊢
    have wk := itr_walk (lo := 0) (n := wn) (D := D) (H1 := H3)
    refine comp_map (numV fun k => V.int (draw (cellAt ns 6) (k : Int) 26)) (by rw [List.length_map, List.length_range]; exact szl (by omega)) wk.1 wk.2 ?_ ?_
    · rintro x hx ys R rr
      obtain ⟨k, hk, rfl⟩ := List.mem_map.mp hx
      have hk2 := List.mem_range.mp hk
      rw [numV_at] at rr
      have e0 : (0 + ((k : Nat) : Int)) = (k : Int) := Int.zero_add _
      refine ⟨_, rfl, a, ns, _, rfl, hS.up hD, by decide, _, rfl, _, _, _, rfl, by omega, by omega, by decide, ?_⟩
      rw [e0]
      exact rr
    rw [numV_range]
    have d1 : (upd H3 D (.lst ((List.range wn).map fun (k : Nat) => V.int (draw (cellAt ns 6) (k : Int) 26)))) D = some (.lst ((List.range wn).map fun (k : Nat) => V.int (draw (cellAt ns 6) (k : Int) 26))) := upd_same
    have s1 := same_up (u := .lst ((List.range wn).map fun (k : Nat) => V.int (draw (cellAt ns 6) (k : Int) 26))) hD
    generalize upd H3 D (.lst ((List.range wn).map fun (k : Nat) => V.int (draw (cellAt ns 6) (k : Int) 26))) = H4 at d1 s1 ⊢
    have rl := lr.len
    refine ⟨_, rfl, _, rfl, rfl, _, _, rfl, rfl, _, _, rfl, rfl, _, rfl, r, rfl, szk (by omega), fun r3 h3 => ?_⟩
    have lr3 := lr.sub h3
    have hl3 := h3.len
    refine ⟨_, rfl, D, rfl, ⟨_, SqL.of d1⟩, for_list (K := K) (a := D) (xs := (List.range wn).map fun (k : Nat) => V.int (draw (cellAt ns 6) (k : Int) 26)) (fun i σ H5 => ∃ (r4 : List Nat) (v6 : Option V), σ = [some (.ref a), some (.int m), v2, some (.str (tx r4)), v4, some (.ref D), v6, none] ∧ H5 = H4 ∧ r4.length ≤ 2021 + i ∧ ∀ c ∈ r4, c < 128) ⟨r3, none, rfl, rfl, by omega, lr3.asc⟩ (fun i σ H2 _ ⟨_, _, _, e, _⟩ => e ▸ SqL.of d1) ?_ ?_⟩
    · rintro i y σ H5 hi ⟨r4, v6, rfl, rfl, l4, a4⟩
      have hi1 := (List.getElem?_eq_some_iff.mp hi).1
      rw [List.length_map, List.length_range] at hi1
      rw [List.getElem?_map, List.getElem?_range hi1] at hi
      cases hi
      obtain ⟨g0, g1⟩ := draw_rng (cellAt ns 6) (i : Int) (show (0 : Int) < 26 by decide)
      refine ⟨_, rfl, _, rfl, ltr, _, 97 + (draw (cellAt ns 6) (i : Int) 26).toNat, rfl, rfl, szl (by decide), atN g0 (ltr_at (by omega)), _, _, rfl, rfl, szk (by show _ + 1 ≤ _; omega), ?_⟩
      refine ⟨r4 ++ [97 + (draw (cellAt ns 6) (i : Int) 26).toNat], _, rfl, rfl, by rw [List.length_append]; show _ + 1 ≤ _; omega, fun c hc => ?_⟩
      rcases List.mem_append.mp hc with h | h
      · exact a4 c h
      · rw [List.mem_singleton] at h; omega
    · rintro σ H5 ⟨r4, v6, rfl, rfl, l4, a4⟩
      rw [List.length_map, List.length_range] at l4
      exact ⟨r4, v2, v4, _, v6, ⟨by omega, a4⟩, rfl, s1⟩
  rintro σ H4 ⟨r, v2, v4, v5, v6, lr, rfl, s4⟩
  refine ⟨_, rfl, r, rfl, lr, fun l hl H5 s5 => ?_, fun hn t H5 s5 e5 => ?_⟩
  · obtain ⟨gl, el⟩ := ans_some hl
    refine ⟨_, rfl, _, _, _, _, rfl, .str _, kit_str, _, rfl, ?_⟩
    refine ite2 (fun _ => ?_) (fun c => absurd rfl c)
    refine ⟨_, rfl, l, rfl, gl, _, rfl, rfl, ?_⟩
    have e : decide (V.str (tx (leafL l)) = V.str (tx r)) = true := by rw [el]; simp
    rw [e]
    exact ⟨_, Less.same (s4.trans s5), q _⟩
  · refine ⟨_, rfl, _, _, _, _, rfl, .tup e5, kit_tup, _, rfl, ?_⟩
    refine ite2 (fun c => absurd c (by decide)) (fun _ => ?_)
    refine ⟨_, rfl, (by show 3 ≤ sizeLine; decide), fun u hu => ?_⟩
    refine ⟨t, u, _, rfl, rfl, SqT.of (upd_old e5 hu), SqT.of upd_same, rfl, by decide, ?_⟩
    refine ⟨_, rfl, ?_⟩
    refine iteT ?_
    refine ⟨_, rfl, r, rfl, lr, fun l gl => ?_⟩
    refine ⟨l, rfl, gl, _, rfl, rfl, ?_⟩
    have e : (!decide (V.str (tx (leafL l)) = V.str (tx r))) = true := by
      rw [decide_eq_false (fun z => ans_none hn gl (tx_inj.mp (V.str.inj z)))]
      rfl
    rw [e]
    exact ⟨_, Less.same ((s4.trans s5).trans (same_up hu)), q _⟩
def sp_law0 (K : PySem.W.Frag) : Sp := fun vs H Q _ => ∃ (a : Addr) (ns : List Int), vs = [.ref a] ∧ SqL K H a (ns.map V.int) ∧ ns.length ≤ 63 ∧ ∀ H', Q (.bl true) H'
theorem all_mk {l : PySem.W.OpenLaw} {w : World} {K : PySem.W.Frag} {h : Heap} {mg : Str → Option Value} {fa : Addr} (X : K.In h) (G : h.Ns mainGlobals mg) (hfa : mg "law" = some (.ref fa)) {KxPileError KxNoShares KxNoPile KxNoSign KxNoSlot KxNoText KxNotLeaf : Addr} {f0 : Addr} {od0 an0 : Option Addr} {sl0 : Array (Option Value)} {oc0 kV0 dc0 pm0 cd0 ct0 : Value} {f1 : Addr} {od1 an1 : Option Addr} {sl1 : Array (Option Value)} {oc1 kV1 dc1 pm1 cd1 ct1 : Value} {f2 : Addr} {od2 an2 : Option Addr} {sl2 : Array (Option Value)} {oc2 kV2 dc2 pm2 cd2 ct2 : Value} {f3 : Addr} {od3 an3 : Option Addr} {sl3 : Array (Option Value)} {oc3 kV3 dc3 pm3 cd3 ct3 : Value} {f4 : Addr} {od4 an4 : Option Addr} {sl4 : Array (Option Value)} {oc4 kV4 dc4 pm4 cd4 ct4 : Value} {f5 : Addr} {od5 an5 : Option Addr} {sl5 : Array (Option Value)} {oc5 kV5 dc5 pm5 cd5 ct5 : Value} {f6 : Addr} {od6 an6 : Option Addr} {sl6 : Array (Option Value)} {oc6 kV6 dc6 pm6 cd6 ct6 : Value} {f7 : Addr} {od7 an7 : Option Addr} {sl7 : Array (Option Value)} {oc7 kV7 dc7 pm7 cd7 ct7 : Value} {f8 : Addr} {od8 an8 : Option Addr} {sl8 : Array (Option Value)} {oc8 kV8 dc8 pm8 cd8 ct8 : Value} {f9 : Addr} {od9 an9 : Option Addr} {sl9 : Array (Option Value)} {oc9 kV9 dc9 pm9 cd9 ct9 : Value} {f10 : Addr} {od10 an10 : Option Addr} {sl10 : Array (Option Value)} {oc10 kV10 dc10 pm10 cd10 ct10 : Value} {f11 : Addr} {od11 an11 : Option Addr} {sl11 : Array (Option Value)} {oc11 kV11 dc11 pm11 cd11 ct11 : Value} {f12 : Addr} {od12 an12 : Option Addr} {sl12 : Array (Option Value)} {oc12 kV12 dc12 pm12 cd12 ct12 : Value} {f13 : Addr} {od13 an13 : Option Addr} {sl13 : Array (Option Value)} {oc13 kV13 dc13 pm13 cd13 ct13 : Value} {f14 : Addr} {od14 an14 : Option Addr} {sl14 : Array (Option Value)} {oc14 kV14 dc14 pm14 cd14 ct14 : Value} {f15 : Addr} {od15 an15 : Option Addr} {sl15 : Array (Option Value)} {oc15 kV15 dc15 pm15 cd15 ct15 : Value} {f16 : Addr} {od16 an16 : Option Addr} {sl16 : Array (Option Value)} {oc16 kV16 dc16 pm16 cd16 ct16 : Value} {f17 : Addr} {od17 an17 : Option Addr} {sl17 : Array (Option Value)} {oc17 kV17 dc17 pm17 cd17 ct17 : Value} {f18 : Addr} {od18 an18 : Option Addr} {sl18 : Array (Option Value)} {oc18 kV18 dc18 pm18 cd18 ct18 : Value} {f19 : Addr} {od19 an19 : Option Addr} {sl19 : Array (Option Value)} {oc19 kV19 dc19 pm19 cd19 ct19 : Value} {f20 : Addr} {od20 an20 : Option Addr} {sl20 : Array (Option Value)} {oc20 kV20 dc20 pm20 cd20 ct20 : Value} {f21 : Addr} {od21 an21 : Option Addr} {sl21 : Array (Option Value)} {oc21 kV21 dc21 pm21 cd21 ct21 : Value} {f22 : Addr} {od22 an22 : Option Addr} {sl22 : Array (Option Value)} {oc22 kV22 dc22 pm22 cd22 ct22 : Value} {f23 : Addr} {od23 an23 : Option Addr} {sl23 : Array (Option Value)} {oc23 kV23 dc23 pm23 cd23 ct23 : Value} {f24 : Addr} {od24 an24 : Option Addr} {sl24 : Array (Option Value)} {oc24 kV24 dc24 pm24 cd24 ct24 : Value} {f25 : Addr} {od25 an25 : Option Addr} {sl25 : Array (Option Value)} {oc25 kV25 dc25 pm25 cd25 ct25 : Value} {f26 : Addr} {od26 an26 : Option Addr} {sl26 : Array (Option Value)} {oc26 kV26 dc26 pm26 cd26 ct26 : Value} {f27 : Addr} {od27 an27 : Option Addr} {sl27 : Array (Option Value)} {oc27 kV27 dc27 pm27 cd27 ct27 : Value} {f28 : Addr} {od28 an28 : Option Addr} {sl28 : Array (Option Value)} {oc28 kV28 dc28 pm28 cd28 ct28 : Value} {f29 : Addr} {od29 an29 : Option Addr} {sl29 : Array (Option Value)} {oc29 kV29 dc29 pm29 cd29 ct29 : Value} {f30 : Addr} {od30 an30 : Option Addr} {sl30 : Array (Option Value)} {oc30 kV30 dc30 pm30 cd30 ct30 : Value} {f31 : Addr} {od31 an31 : Option Addr} {sl31 : Array (Option Value)} {oc31 kV31 dc31 pm31 cd31 ct31 : Value} {f32 : Addr} {od32 an32 : Option Addr} {sl32 : Array (Option Value)} {oc32 kV32 dc32 pm32 cd32 ct32 : Value} {f33 : Addr} {od33 an33 : Option Addr} {sl33 : Array (Option Value)} {oc33 kV33 dc33 pm33 cd33 ct33 : Value} {f34 : Addr} {od34 an34 : Option Addr} {sl34 : Array (Option Value)} {oc34 kV34 dc34 pm34 cd34 ct34 : Value} {f35 : Addr} {od35 an35 : Option Addr} {sl35 : Array (Option Value)} {oc35 kV35 dc35 pm35 cd35 ct35 : Value} {tk_MOST_SIGNS : Tok} {tk_MOST_COUNT : Tok} {tk_MOST_TEXT : Tok} {tk_MOST_FIGURES : Tok} {tk_SIGNS : Tok} {tk_LETTERS : Tok}
    (xaPileError : PySem.W.nsIn K mainGlobals "PileError" = some (some (.ref KxPileError)))
    (xoPileError : PySem.W.excIn K KxPileError bmV "ValueError.__new__" = true)
    (xsPileError : PySem.W.mroIn K KxPileError (.ref KxPileError) = some true)
    (xaNoShares : PySem.W.nsIn K mainGlobals "NoShares" = some (some (.ref KxNoShares)))
    (xoNoShares : PySem.W.excIn K KxNoShares bmV "ValueError.__new__" = true)
    (xsNoShares : PySem.W.mroIn K KxNoShares (.ref KxNoShares) = some true)
    (xpNoShares : PySem.W.mroIn K KxNoShares (.ref KxPileError) = some true)
    (xaNoPile : PySem.W.nsIn K mainGlobals "NoPile" = some (some (.ref KxNoPile)))
    (xoNoPile : PySem.W.excIn K KxNoPile bmV "ValueError.__new__" = true)
    (xsNoPile : PySem.W.mroIn K KxNoPile (.ref KxNoPile) = some true)
    (xpNoPile : PySem.W.mroIn K KxNoPile (.ref KxPileError) = some true)
    (xaNoSign : PySem.W.nsIn K mainGlobals "NoSign" = some (some (.ref KxNoSign)))
    (xoNoSign : PySem.W.excIn K KxNoSign bmV "ValueError.__new__" = true)
    (xsNoSign : PySem.W.mroIn K KxNoSign (.ref KxNoSign) = some true)
    (xpNoSign : PySem.W.mroIn K KxNoSign (.ref KxPileError) = some true)
    (xaNoSlot : PySem.W.nsIn K mainGlobals "NoSlot" = some (some (.ref KxNoSlot)))
    (xoNoSlot : PySem.W.excIn K KxNoSlot bmV "ValueError.__new__" = true)
    (xsNoSlot : PySem.W.mroIn K KxNoSlot (.ref KxNoSlot) = some true)
    (xpNoSlot : PySem.W.mroIn K KxNoSlot (.ref KxPileError) = some true)
    (xaNoText : PySem.W.nsIn K mainGlobals "NoText" = some (some (.ref KxNoText)))
    (xoNoText : PySem.W.excIn K KxNoText bmV "ValueError.__new__" = true)
    (xsNoText : PySem.W.mroIn K KxNoText (.ref KxNoText) = some true)
    (xpNoText : PySem.W.mroIn K KxNoText (.ref KxPileError) = some true)
    (xaNotLeaf : PySem.W.nsIn K mainGlobals "NotLeaf" = some (some (.ref KxNotLeaf)))
    (xoNotLeaf : PySem.W.excIn K KxNotLeaf bmV "ValueError.__new__" = true)
    (xsNotLeaf : PySem.W.mroIn K KxNotLeaf (.ref KxNotLeaf) = some true)
    (xpNotLeaf : PySem.W.mroIn K KxNotLeaf (.ref KxPileError) = some true)
    (xgs : PySem.W.specialIn K (.builtin "object.__class__") "__get__" = some (some (.builtin "getset_descriptor.__get__")))
    (xtk : PySem.W.takesIn K (.builtin "object.__class__") = some true)
    (xgaNotLeaf : PySem.W.findIn K (.ref KxNotLeaf) "__getattribute__" = some (some (.builtin "BaseException.__getattribute__")))
    (xgtNotLeaf : PySem.W.findIn K (.ref KxNotLeaf) "__getattr__" = some none)
    (xcaNotLeaf : PySem.W.findIn K (.ref KxNotLeaf) "__class__" = some (some (.builtin "object.__class__")))
    (xmoNotLeaf : PySem.W.mroIn K KxNotLeaf (.type "object") = some true)
    (xmbNotLeaf : PySem.W.mroIn K KxNotLeaf (.type "BaseException") = some true)
    (xkNotLeaf_NotLeaf : PySem.W.kitOne K (.ref KxNotLeaf) (.ref KxNotLeaf) = some true)
    (xkNotLeaf_ValueError : PySem.W.kitOne K (.ref KxNotLeaf) (.type "ValueError") = some true)
    (xkNotLeaf_NoText : PySem.W.kitOne K (.ref KxNotLeaf) (.ref KxNoText) = some false)
    (a0 : PySem.W.nsIn K mainGlobals "check_counts" = some (some (.ref f0)))
    (l0 : K.lookup f0 = some ⟨oc0, od0, .func (PySem.W.fnOf "check_counts" "check_counts" (defArgs s_check_counts) (defBody s_check_counts) (defScope s_check_counts) .none kV0 dc0 pm0 an0 cd0 ct0), sl0⟩) (c0 : PySem.W.codeIn K cd0 "check_counts" = true)
    (k0 : PySem.W.keepIn K (.ref f0) = true)
    (a1 : PySem.W.nsIn K mainGlobals "check_sign" = some (some (.ref f1)))
    (l1 : K.lookup f1 = some ⟨oc1, od1, .func (PySem.W.fnOf "check_sign" "check_sign" (defArgs s_check_sign) (defBody s_check_sign) (defScope s_check_sign) .none kV1 dc1 pm1 an1 cd1 ct1), sl1⟩) (c1 : PySem.W.codeIn K cd1 "check_sign" = true)
    (k1 : PySem.W.keepIn K (.ref f1) = true)
    (a2 : PySem.W.nsIn K mainGlobals "count_of" = some (some (.ref f2)))
    (l2 : K.lookup f2 = some ⟨oc2, od2, .func (PySem.W.fnOf "count_of" "count_of" (defArgs s_count_of) (defBody s_count_of) (defScope s_count_of) .none kV2 dc2 pm2 an2 cd2 ct2), sl2⟩) (c2 : PySem.W.codeIn K cd2 "count_of" = true)
    (k2 : PySem.W.keepIn K (.ref f2) = true)
    (a3 : PySem.W.nsIn K mainGlobals "whole" = some (some (.ref f3)))
    (l3 : K.lookup f3 = some ⟨oc3, od3, .func (PySem.W.fnOf "whole" "whole" (defArgs s_whole) (defBody s_whole) (defScope s_whole) .none kV3 dc3 pm3 an3 cd3 ct3), sl3⟩) (c3 : PySem.W.codeIn K cd3 "whole" = true)
    (k3 : PySem.W.keepIn K (.ref f3) = true)
    (a4 : PySem.W.nsIn K mainGlobals "first_of" = some (some (.ref f4)))
    (l4 : K.lookup f4 = some ⟨oc4, od4, .func (PySem.W.fnOf "first_of" "first_of" (defArgs s_first_of) (defBody s_first_of) (defScope s_first_of) .none kV4 dc4 pm4 an4 cd4 ct4), sl4⟩) (c4 : PySem.W.codeIn K cd4 "first_of" = true)
    (k4 : PySem.W.keepIn K (.ref f4) = true)
    (a5 : PySem.W.nsIn K mainGlobals "sign_of" = some (some (.ref f5)))
    (l5 : K.lookup f5 = some ⟨oc5, od5, .func (PySem.W.fnOf "sign_of" "sign_of" (defArgs s_sign_of) (defBody s_sign_of) (defScope s_sign_of) .none kV5 dc5 pm5 an5 cd5 ct5), sl5⟩) (c5 : PySem.W.codeIn K cd5 "sign_of" = true)
    (k5 : PySem.W.keepIn K (.ref f5) = true)
    (a6 : PySem.W.nsIn K mainGlobals "check_pile" = some (some (.ref f6)))
    (l6 : K.lookup f6 = some ⟨oc6, od6, .func (PySem.W.fnOf "check_pile" "check_pile" (defArgs s_check_pile) (defBody s_check_pile) (defScope s_check_pile) .none kV6 dc6 pm6 an6 cd6 ct6), sl6⟩) (c6 : PySem.W.codeIn K cd6 "check_pile" = true)
    (k6 : PySem.W.keepIn K (.ref f6) = true)
    (a7 : PySem.W.nsIn K mainGlobals "lay" = some (some (.ref f7)))
    (l7 : K.lookup f7 = some ⟨oc7, od7, .func (PySem.W.fnOf "lay" "lay" (defArgs s_lay) (defBody s_lay) (defScope s_lay) .none kV7 dc7 pm7 an7 cd7 ct7), sl7⟩) (c7 : PySem.W.codeIn K cd7 "lay" = true)
    (k7 : PySem.W.keepIn K (.ref f7) = true)
    (a8 : PySem.W.nsIn K mainGlobals "take" = some (some (.ref f8)))
    (l8 : K.lookup f8 = some ⟨oc8, od8, .func (PySem.W.fnOf "take" "take" (defArgs s_take) (defBody s_take) (defScope s_take) .none kV8 dc8 pm8 an8 cd8 ct8), sl8⟩) (c8 : PySem.W.codeIn K cd8 "take" = true)
    (k8 : PySem.W.keepIn K (.ref f8) = true)
    (a9 : PySem.W.nsIn K mainGlobals "lay_row" = some (some (.ref f9)))
    (l9 : K.lookup f9 = some ⟨oc9, od9, .func (PySem.W.fnOf "lay_row" "lay_row" (defArgs s_lay_row) (defBody s_lay_row) (defScope s_lay_row) .none kV9 dc9 pm9 an9 cd9 ct9), sl9⟩) (c9 : PySem.W.codeIn K cd9 "lay_row" = true)
    (k9 : PySem.W.keepIn K (.ref f9) = true)
    (a10 : PySem.W.nsIn K mainGlobals "take_row" = some (some (.ref f10)))
    (l10 : K.lookup f10 = some ⟨oc10, od10, .func (PySem.W.fnOf "take_row" "take_row" (defArgs s_take_row) (defBody s_take_row) (defScope s_take_row) .none kV10 dc10 pm10 an10 cd10 ct10), sl10⟩) (c10 : PySem.W.codeIn K cd10 "take_row" = true)
    (k10 : PySem.W.keepIn K (.ref f10) = true)
    (a11 : PySem.W.nsIn K mainGlobals "check_text" = some (some (.ref f11)))
    (l11 : K.lookup f11 = some ⟨oc11, od11, .func (PySem.W.fnOf "check_text" "check_text" (defArgs s_check_text) (defBody s_check_text) (defScope s_check_text) .none kV11 dc11 pm11 an11 cd11 ct11), sl11⟩) (c11 : PySem.W.codeIn K cd11 "check_text" = true)
    (k11 : PySem.W.keepIn K (.ref f11) = true)
    (a12 : PySem.W.nsIn K mainGlobals "entry" = some (some (.ref f12)))
    (l12 : K.lookup f12 = some ⟨oc12, od12, .func (PySem.W.fnOf "entry" "entry" (defArgs s_entry) (defBody s_entry) (defScope s_entry) .none kV12 dc12 pm12 an12 cd12 ct12), sl12⟩) (c12 : PySem.W.codeIn K cd12 "entry" = true)
    (k12 : PySem.W.keepIn K (.ref f12) = true)
    (a13 : PySem.W.nsIn K mainGlobals "letters_of" = some (some (.ref f13)))
    (l13 : K.lookup f13 = some ⟨oc13, od13, .func (PySem.W.fnOf "letters_of" "letters_of" (defArgs s_letters_of) (defBody s_letters_of) (defScope s_letters_of) .none kV13 dc13 pm13 an13 cd13 ct13), sl13⟩) (c13 : PySem.W.codeIn K cd13 "letters_of" = true)
    (k13 : PySem.W.keepIn K (.ref f13) = true)
    (a14 : PySem.W.nsIn K mainGlobals "packed" = some (some (.ref f14)))
    (l14 : K.lookup f14 = some ⟨oc14, od14, .func (PySem.W.fnOf "packed" "packed" (defArgs s_packed) (defBody s_packed) (defScope s_packed) .none kV14 dc14 pm14 an14 cd14 ct14), sl14⟩) (c14 : PySem.W.codeIn K cd14 "packed" = true)
    (k14 : PySem.W.keepIn K (.ref f14) = true)
    (a15 : PySem.W.nsIn K mainGlobals "number_of" = some (some (.ref f15)))
    (l15 : K.lookup f15 = some ⟨oc15, od15, .func (PySem.W.fnOf "number_of" "number_of" (defArgs s_number_of) (defBody s_number_of) (defScope s_number_of) .none kV15 dc15 pm15 an15 cd15 ct15), sl15⟩) (c15 : PySem.W.codeIn K cd15 "number_of" = true)
    (k15 : PySem.W.keepIn K (.ref f15) = true)
    (a16 : PySem.W.nsIn K mainGlobals "entry_of" = some (some (.ref f16)))
    (l16 : K.lookup f16 = some ⟨oc16, od16, .func (PySem.W.fnOf "entry_of" "entry_of" (defArgs s_entry_of) (defBody s_entry_of) (defScope s_entry_of) .none kV16 dc16 pm16 an16 cd16 ct16), sl16⟩) (c16 : PySem.W.codeIn K cd16 "entry_of" = true)
    (k16 : PySem.W.keepIn K (.ref f16) = true)
    (a17 : PySem.W.nsIn K mainGlobals "check_entries" = some (some (.ref f17)))
    (l17 : K.lookup f17 = some ⟨oc17, od17, .func (PySem.W.fnOf "check_entries" "check_entries" (defArgs s_check_entries) (defBody s_check_entries) (defScope s_check_entries) .none kV17 dc17 pm17 an17 cd17 ct17), sl17⟩) (c17 : PySem.W.codeIn K cd17 "check_entries" = true)
    (k17 : PySem.W.keepIn K (.ref f17) = true)
    (a18 : PySem.W.nsIn K mainGlobals "entries_of" = some (some (.ref f18)))
    (l18 : K.lookup f18 = some ⟨oc18, od18, .func (PySem.W.fnOf "entries_of" "entries_of" (defArgs s_entries_of) (defBody s_entries_of) (defScope s_entries_of) .none kV18 dc18 pm18 an18 cd18 ct18), sl18⟩) (c18 : PySem.W.codeIn K cd18 "entries_of" = true)
    (k18 : PySem.W.keepIn K (.ref f18) = true)
    (a19 : PySem.W.nsIn K mainGlobals "pile_of" = some (some (.ref f19)))
    (l19 : K.lookup f19 = some ⟨oc19, od19, .func (PySem.W.fnOf "pile_of" "pile_of" (defArgs s_pile_of) (defBody s_pile_of) (defScope s_pile_of) .none kV19 dc19 pm19 an19 cd19 ct19), sl19⟩) (c19 : PySem.W.codeIn K cd19 "pile_of" = true)
    (k19 : PySem.W.keepIn K (.ref f19) = true)
    (a20 : PySem.W.nsIn K mainGlobals "text_of" = some (some (.ref f20)))
    (l20 : K.lookup f20 = some ⟨oc20, od20, .func (PySem.W.fnOf "text_of" "text_of" (defArgs s_text_of) (defBody s_text_of) (defScope s_text_of) .none kV20 dc20 pm20 an20 cd20 ct20), sl20⟩) (c20 : PySem.W.codeIn K cd20 "text_of" = true)
    (k20 : PySem.W.keepIn K (.ref f20) = true)
    (a21 : PySem.W.nsIn K mainGlobals "unpacked" = some (some (.ref f21)))
    (l21 : K.lookup f21 = some ⟨oc21, od21, .func (PySem.W.fnOf "unpacked" "unpacked" (defArgs s_unpacked) (defBody s_unpacked) (defScope s_unpacked) .none kV21 dc21 pm21 an21 cd21 ct21), sl21⟩) (c21 : PySem.W.codeIn K cd21 "unpacked" = true)
    (k21 : PySem.W.keepIn K (.ref f21) = true)
    (a22 : PySem.W.nsIn K mainGlobals "_law_cell_at" = some (some (.ref f22)))
    (l22 : K.lookup f22 = some ⟨oc22, od22, .func (PySem.W.fnOf "_law_cell_at" "_law_cell_at" (defArgs s_law_cell_at) (defBody s_law_cell_at) (defScope s_law_cell_at) .none kV22 dc22 pm22 an22 cd22 ct22), sl22⟩) (c22 : PySem.W.codeIn K cd22 "_law_cell_at" = true)
    (k22 : PySem.W.keepIn K (.ref f22) = true)
    (a23 : PySem.W.nsIn K mainGlobals "_law_draw" = some (some (.ref f23)))
    (l23 : K.lookup f23 = some ⟨oc23, od23, .func (PySem.W.fnOf "_law_draw" "_law_draw" (defArgs s_law_draw) (defBody s_law_draw) (defScope s_law_draw) .none kV23 dc23 pm23 an23 cd23 ct23), sl23⟩) (c23 : PySem.W.codeIn K cd23 "_law_draw" = true)
    (k23 : PySem.W.keepIn K (.ref f23) = true)
    (a24 : PySem.W.nsIn K mainGlobals "_law_put" = some (some (.ref f24)))
    (l24 : K.lookup f24 = some ⟨oc24, od24, .func (PySem.W.fnOf "_law_put" "_law_put" (defArgs s_law_put) (defBody s_law_put) (defScope s_law_put) .none kV24 dc24 pm24 an24 cd24 ct24), sl24⟩) (c24 : PySem.W.codeIn K cd24 "_law_put" = true)
    (k24 : PySem.W.keepIn K (.ref f24) = true)
    (a25 : PySem.W.nsIn K mainGlobals "_law_off" = some (some (.ref f25)))
    (l25 : K.lookup f25 = some ⟨oc25, od25, .func (PySem.W.fnOf "_law_off" "_law_off" (defArgs s_law_off) (defBody s_law_off) (defScope s_law_off) .none kV25 dc25 pm25 an25 cd25 ct25), sl25⟩) (c25 : PySem.W.codeIn K cd25 "_law_off" = true)
    (k25 : PySem.W.keepIn K (.ref f25) = true)
    (a26 : PySem.W.nsIn K mainGlobals "_law_sign" = some (some (.ref f26)))
    (l26 : K.lookup f26 = some ⟨oc26, od26, .func (PySem.W.fnOf "_law_sign" "_law_sign" (defArgs s_law_sign) (defBody s_law_sign) (defScope s_law_sign) .none kV26 dc26 pm26 an26 cd26 ct26), sl26⟩) (c26 : PySem.W.codeIn K cd26 "_law_sign" = true)
    (k26 : PySem.W.keepIn K (.ref f26) = true)
    (a27 : PySem.W.nsIn K mainGlobals "_law_place" = some (some (.ref f27)))
    (l27 : K.lookup f27 = some ⟨oc27, od27, .func (PySem.W.fnOf "_law_place" "_law_place" (defArgs s_law_place) (defBody s_law_place) (defScope s_law_place) .none kV27 dc27 pm27 an27 cd27 ct27), sl27⟩) (c27 : PySem.W.codeIn K cd27 "_law_place" = true)
    (k27 : PySem.W.keepIn K (.ref f27) = true)
    (a28 : PySem.W.nsIn K mainGlobals "_law_leaf" = some (some (.ref f28)))
    (l28 : K.lookup f28 = some ⟨oc28, od28, .func (PySem.W.fnOf "_law_leaf" "_law_leaf" (defArgs s_law_leaf) (defBody s_law_leaf) (defScope s_law_leaf) .none kV28 dc28 pm28 an28 cd28 ct28), sl28⟩) (c28 : PySem.W.codeIn K cd28 "_law_leaf" = true)
    (k28 : PySem.W.keepIn K (.ref f28) = true)
    (a29 : PySem.W.nsIn K mainGlobals "_law_text" = some (some (.ref f29)))
    (l29 : K.lookup f29 = some ⟨oc29, od29, .func (PySem.W.fnOf "_law_text" "_law_text" (defArgs s_law_text) (defBody s_law_text) (defScope s_law_text) .none kV29 dc29 pm29 an29 cd29 ct29), sl29⟩) (c29 : PySem.W.codeIn K cd29 "_law_text" = true)
    (k29 : PySem.W.keepIn K (.ref f29) = true)
    (a30 : PySem.W.nsIn K mainGlobals "_law_changed" = some (some (.ref f30)))
    (l30 : K.lookup f30 = some ⟨oc30, od30, .func (PySem.W.fnOf "_law_changed" "_law_changed" (defArgs s_law_changed) (defBody s_law_changed) (defScope s_law_changed) .none kV30 dc30 pm30 an30 cd30 ct30), sl30⟩) (c30 : PySem.W.codeIn K cd30 "_law_changed" = true)
    (k30 : PySem.W.keepIn K (.ref f30) = true)
    (a31 : PySem.W.nsIn K mainGlobals "_law_odd" = some (some (.ref f31)))
    (l31 : K.lookup f31 = some ⟨oc31, od31, .func (PySem.W.fnOf "_law_odd" "_law_odd" (defArgs s_law_odd) (defBody s_law_odd) (defScope s_law_odd) .none kV31 dc31 pm31 an31 cd31 ct31), sl31⟩) (c31 : PySem.W.codeIn K cd31 "_law_odd" = true)
    (k31 : PySem.W.keepIn K (.ref f31) = true)
    (a32 : PySem.W.nsIn K mainGlobals "_law_number" = some (some (.ref f32)))
    (l32 : K.lookup f32 = some ⟨oc32, od32, .func (PySem.W.fnOf "_law_number" "_law_number" (defArgs s_law_number) (defBody s_law_number) (defScope s_law_number) .none kV32 dc32 pm32 an32 cd32 ct32), sl32⟩) (c32 : PySem.W.codeIn K cd32 "_law_number" = true)
    (k32 : PySem.W.keepIn K (.ref f32) = true)
    (a33 : PySem.W.nsIn K mainGlobals "_law_told" = some (some (.ref f33)))
    (l33 : K.lookup f33 = some ⟨oc33, od33, .func (PySem.W.fnOf "_law_told" "_law_told" (defArgs s_law_told) (defBody s_law_told) (defScope s_law_told) .none kV33 dc33 pm33 an33 cd33 ct33), sl33⟩) (c33 : PySem.W.codeIn K cd33 "_law_told" = true)
    (k33 : PySem.W.keepIn K (.ref f33) = true)
    (a34 : PySem.W.nsIn K mainGlobals "_law_asked" = some (some (.ref f34)))
    (l34 : K.lookup f34 = some ⟨oc34, od34, .func (PySem.W.fnOf "_law_asked" "_law_asked" (defArgs s_law_asked) (defBody s_law_asked) (defScope s_law_asked) .none kV34 dc34 pm34 an34 cd34 ct34), sl34⟩) (c34 : PySem.W.codeIn K cd34 "_law_asked" = true)
    (k34 : PySem.W.keepIn K (.ref f34) = true)
    (a35 : PySem.W.nsIn K mainGlobals "law" = some (some (.ref f35)))
    (l35 : K.lookup f35 = some ⟨oc35, od35, .func (PySem.W.fnOf "law" "law" (defArgs s_law) (defBody s_law) (defScope s_law) .none kV35 dc35 pm35 an35 cd35 ct35), sl35⟩) (c35 : PySem.W.codeIn K cd35 "law" = true)
    (k35 : PySem.W.keepIn K (.ref f35) = true)
    (z_ValueError : PySem.W.nsIn K mainGlobals "ValueError" = some none)
    (z_len : PySem.W.nsIn K mainGlobals "len" = some none)
    (z_sum : PySem.W.nsIn K mainGlobals "sum" = some none)
    (z_isinstance : PySem.W.nsIn K mainGlobals "isinstance" = some none)
    (z_divmod : PySem.W.nsIn K mainGlobals "divmod" = some none)
    (z_int : PySem.W.nsIn K mainGlobals "int" = some none)
    (z_range : PySem.W.nsIn K mainGlobals "range" = some none)
    (z_reversed : PySem.W.nsIn K mainGlobals "reversed" = some none)
    (z_zip : PySem.W.nsIn K mainGlobals "zip" = some none)
    (z_min : PySem.W.nsIn K mainGlobals "min" = some none)
    (z_max : PySem.W.nsIn K mainGlobals "max" = some none)
    (z_str : PySem.W.nsIn K mainGlobals "str" = some none)
    (z_sorted : PySem.W.nsIn K mainGlobals "sorted" = some none)
    (z_set : PySem.W.nsIn K mainGlobals "set" = some none)
    (g_MOST_SIGNS : PySem.W.nsIn K mainGlobals "MOST_SIGNS" = some (some (.int 100 tk_MOST_SIGNS)))
    (g_MOST_COUNT : PySem.W.nsIn K mainGlobals "MOST_COUNT" = some (some (.int 999 tk_MOST_COUNT)))
    (g_MOST_TEXT : PySem.W.nsIn K mainGlobals "MOST_TEXT" = some (some (.int 150 tk_MOST_TEXT)))
    (g_MOST_FIGURES : PySem.W.nsIn K mainGlobals "MOST_FIGURES" = some (some (.int 3 tk_MOST_FIGURES)))
    (g_SIGNS : PySem.W.nsIn K mainGlobals "SIGNS" = some (some (.str (Str.ofString " !\"#$&'()*+,-./0123456789:;<=>?@ABCDEFGHIJKLMNOPQRSTUVWXYZ[\\]^_`abcdefghijklmnopqrstuvwxyz{|}~") tk_SIGNS)))
    (g_LETTERS : PySem.W.nsIn K mainGlobals "LETTERS" = some (some (.str (Str.ofString "abcdefghijklmnopqrstuvwxyz") tk_LETTERS)))
    : ∃ fd : FuncData, (∀ (s : Shared) (v : Value), BindsTo s fd ⟨[v], []⟩ [("script", v)]) ∧ ∀ base : Heap, K.In base → base.Ns mainGlobals mg → FnOk l.prog w K mg base CX0 9 fa fd ["script"] (sp_law0 K) := by
  have e := hfa.symm.trans (PySem.W.mg_of X G a35)
  cases e
  have z : BI mg := ⟨PySem.W.mg_none_of X G z_ValueError, PySem.W.mg_none_of X G z_len, PySem.W.mg_none_of X G z_sum, PySem.W.mg_none_of X G z_isinstance, PySem.W.mg_none_of X G z_divmod, PySem.W.mg_none_of X G z_int, PySem.W.mg_none_of X G z_range, PySem.W.mg_none_of X G z_reversed, PySem.W.mg_none_of X G z_zip, PySem.W.mg_none_of X G z_min, PySem.W.mg_none_of X G z_max, PySem.W.mg_none_of X G z_str, PySem.W.mg_none_of X G z_sorted, PySem.W.mg_none_of X G z_set⟩
  have g : GC mg := ⟨⟨_, PySem.W.mg_of X G g_MOST_SIGNS⟩, ⟨_, PySem.W.mg_of X G g_MOST_COUNT⟩, ⟨_, PySem.W.mg_of X G g_MOST_TEXT⟩, ⟨_, PySem.W.mg_of X G g_MOST_FIGURES⟩, ⟨_, PySem.W.mg_of X G g_SIGNS⟩, ⟨_, PySem.W.mg_of X G g_LETTERS⟩⟩
  have xf : XF K mg ⟨KxPileError, KxNoShares, KxNoPile, KxNoSign, KxNoSlot, 0, KxNoText, KxNotLeaf⟩ := { mPileError := PySem.W.mg_of X G xaPileError, oPileError := xoPileError, sPileError := xsPileError, mNoShares := PySem.W.mg_of X G xaNoShares, oNoShares := xoNoShares, sNoShares := xsNoShares, pNoShares := xpNoShares, mNoPile := PySem.W.mg_of X G xaNoPile, oNoPile := xoNoPile, sNoPile := xsNoPile, pNoPile := xpNoPile, mNoSign := PySem.W.mg_of X G xaNoSign, oNoSign := xoNoSign, sNoSign := xsNoSign, pNoSign := xpNoSign, mNoSlot := PySem.W.mg_of X G xaNoSlot, oNoSlot := xoNoSlot, sNoSlot := xsNoSlot, pNoSlot := xpNoSlot, mNoText := PySem.W.mg_of X G xaNoText, oNoText := xoNoText, sNoText := xsNoText, pNoText := xpNoText, mNotLeaf := PySem.W.mg_of X G xaNotLeaf, oNotLeaf := xoNotLeaf, sNotLeaf := xsNotLeaf, pNotLeaf := xpNotLeaf, fNotLeaf := ⟨cls_exc xoNotLeaf, xgaNotLeaf, xgtNotLeaf, xcaNotLeaf, xgs, xtk, xmoNotLeaf, xmbNotLeaf⟩, kNotLeaf_NotLeaf := xkNotLeaf_NotLeaf, kNotLeaf_ValueError := xkNotLeaf_ValueError, kNotLeaf_NoText := xkNotLeaf_NoText }
  refine ⟨PySem.W.fnOf "law" "law" (defArgs s_law) (defBody s_law) (defScope s_law) .none kV35 dc35 pm35 an35 cd35 ct35, fun s v => .of_eq rfl, fun base _ _ => ?_⟩
  have C_check_counts := ok_check_counts (P := l.prog) (w := w) (base := base) (ec := ⟨KxPileError, KxNoShares, KxNoPile, KxNoSign, KxNoSlot, 0, KxNoText, KxNotLeaf⟩) z g xf (def_mk X G a0 l0 c0 k0 (fun _ _ _ _ _ _ => us1 (fun _ => rfl))) 
  have C_check_sign := ok_check_sign (P := l.prog) (w := w) (base := base) (ec := ⟨KxPileError, KxNoShares, KxNoPile, KxNoSign, KxNoSlot, 0, KxNoText, KxNotLeaf⟩) z g xf (def_mk X G a1 l1 c1 k1 (fun _ _ _ _ _ _ => us2 (fun _ _ => rfl))) 
  have C_count_of := ok_count_of (P := l.prog) (w := w) (base := base) (ec := ⟨KxPileError, KxNoShares, KxNoPile, KxNoSign, KxNoSlot, 0, KxNoText, KxNotLeaf⟩) z g xf (def_mk X G a2 l2 c2 k2 (fun _ _ _ _ _ _ => us2 (fun _ _ => rfl))) C_check_sign
  have C_whole := ok_whole (P := l.prog) (w := w) (base := base) (ec := ⟨KxPileError, KxNoShares, KxNoPile, KxNoSign, KxNoSlot, 0, KxNoText, KxNotLeaf⟩) z g xf (def_mk X G a3 l3 c3 k3 (fun _ _ _ _ _ _ => us1 (fun _ => rfl))) C_check_counts
  have C_first_of := ok_first_of (P := l.prog) (w := w) (base := base) (ec := ⟨KxPileError, KxNoShares, KxNoPile, KxNoSign, KxNoSlot, 0, KxNoText, KxNotLeaf⟩) z g xf (def_mk X G a4 l4 c4 k4 (fun _ _ _ _ _ _ => us2 (fun _ _ => rfl))) C_check_counts C_check_sign
  have C_sign_of := ok_sign_of (P := l.prog) (w := w) (base := base) (ec := ⟨KxPileError, KxNoShares, KxNoPile, KxNoSign, KxNoSlot, 0, KxNoText, KxNotLeaf⟩) z g xf (def_mk X G a5 l5 c5 k5 (fun _ _ _ _ _ _ => us2 (fun _ _ => rfl))) C_whole
  have C_check_pile := ok_check_pile (P := l.prog) (w := w) (base := base) (ec := ⟨KxPileError, KxNoShares, KxNoPile, KxNoSign, KxNoSlot, 0, KxNoText, KxNotLeaf⟩) z g xf (def_mk X G a6 l6 c6 k6 (fun _ _ _ _ _ _ => us1 (fun _ => rfl))) 
  have C_lay := ok_lay (P := l.prog) (w := w) (base := base) (ec := ⟨KxPileError, KxNoShares, KxNoPile, KxNoSign, KxNoSlot, 0, KxNoText, KxNotLeaf⟩) z g xf (def_mk X G a7 l7 c7 k7 (fun _ _ _ _ _ _ => us3 (fun _ _ _ => rfl))) C_whole C_check_pile C_count_of C_first_of
  have C_take := ok_take (P := l.prog) (w := w) (base := base) (ec := ⟨KxPileError, KxNoShares, KxNoPile, KxNoSign, KxNoSlot, 0, KxNoText, KxNotLeaf⟩) z g xf (def_mk X G a8 l8 c8 k8 (fun _ _ _ _ _ _ => us2 (fun _ _ => rfl))) C_whole C_check_pile C_sign_of C_first_of
  have C_lay_row := ok_lay_row (P := l.prog) (w := w) (base := base) (ec := ⟨KxPileError, KxNoShares, KxNoPile, KxNoSign, KxNoSlot, 0, KxNoText, KxNotLeaf⟩) z g xf (def_mk X G a9 l9 c9 k9 (fun _ _ _ _ _ _ => us3 (fun _ _ _ => rfl))) C_check_counts C_check_pile C_lay
  have C_take_row := ok_take_row (P := l.prog) (w := w) (base := base) (ec := ⟨KxPileError, KxNoShares, KxNoPile, KxNoSign, KxNoSlot, 0, KxNoText, KxNotLeaf⟩) z g xf (def_mk X G a10 l10 c10 k10 (fun _ _ _ _ _ _ => us3 (fun _ _ _ => rfl))) C_check_counts C_check_pile C_take
  have C_check_text := ok_check_text (P := l.prog) (w := w) (base := base) (ec := ⟨KxPileError, KxNoShares, KxNoPile, KxNoSign, KxNoSlot, 0, KxNoText, KxNotLeaf⟩) z g xf (def_mk X G a11 l11 c11 k11 (fun _ _ _ _ _ _ => us1 (fun _ => rfl))) 
  have C_entry := ok_entry (P := l.prog) (w := w) (base := base) (ec := ⟨KxPileError, KxNoShares, KxNoPile, KxNoSign, KxNoSlot, 0, KxNoText, KxNotLeaf⟩) z g xf (def_mk X G a12 l12 c12 k12 (fun _ _ _ _ _ _ => us2 (fun _ _ => rfl))) 
  have C_letters_of := ok_letters_of (P := l.prog) (w := w) (base := base) (ec := ⟨KxPileError, KxNoShares, KxNoPile, KxNoSign, KxNoSlot, 0, KxNoText, KxNotLeaf⟩) z g xf (def_mk X G a13 l13 c13 k13 (fun _ _ _ _ _ _ => us1 (fun _ => rfl))) 
  have C_packed := ok_packed (P := l.prog) (w := w) (base := base) (ec := ⟨KxPileError, KxNoShares, KxNoPile, KxNoSign, KxNoSlot, 0, KxNoText, KxNotLeaf⟩) z g xf (def_mk X G a14 l14 c14 k14 (fun _ _ _ _ _ _ => us1 (fun _ => rfl))) C_check_text C_lay_row C_entry C_letters_of
  have C_number_of := ok_number_of (P := l.prog) (w := w) (base := base) (ec := ⟨KxPileError, KxNoShares, KxNoPile, KxNoSign, KxNoSlot, 0, KxNoText, KxNotLeaf⟩) z g xf (def_mk X G a15 l15 c15 k15 (fun _ _ _ _ _ _ => us1 (fun _ => rfl))) 
  have C_entry_of := ok_entry_of (P := l.prog) (w := w) (base := base) (ec := ⟨KxPileError, KxNoShares, KxNoPile, KxNoSign, KxNoSlot, 0, KxNoText, KxNotLeaf⟩) z g xf (def_mk X G a16 l16 c16 k16 (fun _ _ _ _ _ _ => us1 (fun _ => rfl))) C_number_of
  have C_check_entries := ok_check_entries (P := l.prog) (w := w) (base := base) (ec := ⟨KxPileError, KxNoShares, KxNoPile, KxNoSign, KxNoSlot, 0, KxNoText, KxNotLeaf⟩) z g xf (def_mk X G a17 l17 c17 k17 (fun _ _ _ _ _ _ => us1 (fun _ => rfl))) 
  have C_entries_of := ok_entries_of (P := l.prog) (w := w) (base := base) (ec := ⟨KxPileError, KxNoShares, KxNoPile, KxNoSign, KxNoSlot, 0, KxNoText, KxNotLeaf⟩) z g xf (def_mk X G a18 l18 c18 k18 (fun _ _ _ _ _ _ => us1 (fun _ => rfl))) C_entry_of C_check_entries
  have C_pile_of := ok_pile_of (P := l.prog) (w := w) (base := base) (ec := ⟨KxPileError, KxNoShares, KxNoPile, KxNoSign, KxNoSlot, 0, KxNoText, KxNotLeaf⟩) z g xf (def_mk X G a19 l19 c19 k19 (fun _ _ _ _ _ _ => us1 (fun _ => rfl))) 
  have C_text_of := ok_text_of (P := l.prog) (w := w) (base := base) (ec := ⟨KxPileError, KxNoShares, KxNoPile, KxNoSign, KxNoSlot, 0, KxNoText, KxNotLeaf⟩) z g xf (def_mk X G a20 l20 c20 k20 (fun _ _ _ _ _ _ => us2 (fun _ _ => rfl))) C_take_row
  have C_unpacked := ok_unpacked (P := l.prog) (w := w) (base := base) (ec := ⟨KxPileError, KxNoShares, KxNoPile, KxNoSign, KxNoSlot, 0, KxNoText, KxNotLeaf⟩) z g xf (def_mk X G a21 l21 c21 k21 (fun _ _ _ _ _ _ => us1 (fun _ => rfl))) C_text_of C_entries_of C_pile_of C_packed
  have C_law_cell_at := ok_law_cell_at (P := l.prog) (w := w) (base := base) (ec := ⟨KxPileError, KxNoShares, KxNoPile, KxNoSign, KxNoSlot, 0, KxNoText, KxNotLeaf⟩) z g xf (def_mk X G a22 l22 c22 k22 (fun _ _ _ _ _ _ => us2 (fun _ _ => rfl))) 
  have C_law_draw := ok_law_draw (P := l.prog) (w := w) (base := base) (ec := ⟨KxPileError, KxNoShares, KxNoPile, KxNoSign, KxNoSlot, 0, KxNoText, KxNotLeaf⟩) z g xf (def_mk X G a23 l23 c23 k23 (fun _ _ _ _ _ _ => us3 (fun _ _ _ => rfl))) 
  have C_law_put := ok_law_put (P := l.prog) (w := w) (base := base) (ec := ⟨KxPileError, KxNoShares, KxNoPile, KxNoSign, KxNoSlot, 0, KxNoText, KxNotLeaf⟩) z g xf (def_mk X G a24 l24 c24 k24 (fun _ _ _ _ _ _ => us3 (fun _ _ _ => rfl))) 
  have C_law_off := ok_law_off (P := l.prog) (w := w) (base := base) (ec := ⟨KxPileError, KxNoShares, KxNoPile, KxNoSign, KxNoSlot, 0, KxNoText, KxNotLeaf⟩) z g xf (def_mk X G a25 l25 c25 k25 (fun _ _ _ _ _ _ => us2 (fun _ _ => rfl))) 
  have C_law_sign := ok_law_sign (P := l.prog) (w := w) (base := base) (ec := ⟨KxPileError, KxNoShares, KxNoPile, KxNoSign, KxNoSlot, 0, KxNoText, KxNotLeaf⟩) z g xf (def_mk X G a26 l26 c26 k26 (fun _ _ _ _ _ _ => us1 (fun _ => rfl))) 
  have C_law_place := ok_law_place (P := l.prog) (w := w) (base := base) (ec := ⟨KxPileError, KxNoShares, KxNoPile, KxNoSign, KxNoSlot, 0, KxNoText, KxNotLeaf⟩) z g xf (def_mk X G a27 l27 c27 k27 (fun _ _ _ _ _ _ => us1 (fun _ => rfl))) 
  have C_law_leaf := ok_law_leaf (P := l.prog) (w := w) (base := base) (ec := ⟨KxPileError, KxNoShares, KxNoPile, KxNoSign, KxNoSlot, 0, KxNoText, KxNotLeaf⟩) z g xf (def_mk X G a28 l28 c28 k28 (fun _ _ _ _ _ _ => us1 (fun _ => rfl))) C_law_place C_law_put
  have C_law_text := ok_law_text (P := l.prog) (w := w) (base := base) (ec := ⟨KxPileError, KxNoShares, KxNoPile, KxNoSign, KxNoSlot, 0, KxNoText, KxNotLeaf⟩) z g xf (def_mk X G a29 l29 c29 k29 (fun _ _ _ _ _ _ => us4 (fun _ _ _ _ => rfl))) C_law_draw C_law_cell_at C_law_sign
  have C_law_changed := ok_law_changed (P := l.prog) (w := w) (base := base) (ec := ⟨KxPileError, KxNoShares, KxNoPile, KxNoSign, KxNoSlot, 0, KxNoText, KxNotLeaf⟩) z g xf (def_mk X G a30 l30 c30 k30 (fun _ _ _ _ _ _ => us4 (fun _ _ _ _ => rfl))) C_law_sign
  have C_law_odd := ok_law_odd (P := l.prog) (w := w) (base := base) (ec := ⟨KxPileError, KxNoShares, KxNoPile, KxNoSign, KxNoSlot, 0, KxNoText, KxNotLeaf⟩) z g xf (def_mk X G a31 l31 c31 k31 (fun _ _ _ _ _ _ => us1 (fun _ => rfl))) 
  have C_law_number := ok_law_number (P := l.prog) (w := w) (base := base) (ec := ⟨KxPileError, KxNoShares, KxNoPile, KxNoSign, KxNoSlot, 0, KxNoText, KxNotLeaf⟩) z g xf (def_mk X G a32 l32 c32 k32 (fun _ _ _ _ _ _ => us1 (fun _ => rfl))) 
  have C_law_told := ok_law_told (P := l.prog) (w := w) (base := base) (ec := ⟨KxPileError, KxNoShares, KxNoPile, KxNoSign, KxNoSlot, 0, KxNoText, KxNotLeaf⟩) z g xf (def_mk X G a33 l33 c33 k33 (fun _ _ _ _ _ _ => us1 (fun _ => rfl))) C_law_number C_law_off C_law_sign
  have C_law_asked := ok_law_asked (P := l.prog) (w := w) (base := base) (ec := ⟨KxPileError, KxNoShares, KxNoPile, KxNoSign, KxNoSlot, 0, KxNoText, KxNotLeaf⟩) z g xf (def_mk X G a34 l34 c34 k34 (fun _ _ _ _ _ _ => us1 (fun _ => rfl))) C_unpacked
  exact ok_law (ec := ⟨KxPileError, KxNoShares, KxNoPile, KxNoSign, KxNoSlot, 0, KxNoText, KxNotLeaf⟩) z g xf (fun_mk (st := s_law) l35 c35 k35) C_law_cell_at C_law_leaf C_law_text C_law_changed C_law_odd C_law_draw C_law_asked C_law_told
theorem walk {l : PySem.W.OpenLaw} {q : Program} {loose : List Str} {XP : (Str → Option Value) → Heap → Prop} {YP : World → Heap → Prop} {d : DefRec} {K : Params → PySem.W.Frag} (hn : l.most = some 63) (hdf : d.params.defaults = [])
    (hY : ∀ (w : World) (h : Heap), YP w h → (K w.params).In h)
    (F : ∀ (w : World) (mg : Str → Option Value) (fa : Addr) (h : Heap), (K w.params).In h → h.Ns mainGlobals mg → mg d.name = some (.ref fa) →
      ∃ fd : FuncData, (∀ (s : Shared) (u : Value), BindsTo s fd ⟨[u], []⟩ [("script", u)]) ∧ ∀ base : Heap, (K w.params).In base → base.Ns mainGlobals mg → FnOk l.prog w (K w.params) mg base CX0 9 fa fd ["script"] (sp_law0 (K w.params))) :
    PySem.W.WalkO q loose XP YP l.row.toRowW d [] (fun f vs => PySem.call f vs) :=
  L2.walk_of (n := 63) (k := 9) (x := "script") (CX := fun _ => CX0) (sp := fun w => sp_law0 (K w.params)) hn (by decide) hdf ⟨rfl, by decide, by decide⟩ hY F (fun _ _ a ns hl _ hS => ⟨a, ns, rfl, hS, hl, fun _ => rfl⟩) fun _ _ _ _ _ z => z
end T
open PySem PySem.W PyProof.Rows
theorem PySem.W.Fast.tw387073973982255897 : True := trivial
theorem PySem.W.Fast.tw1797258630815054365 : True := trivial
theorem PySem.W.Fast.tw10989653003118427847 : True := trivial
theorem PySem.W.Fast.tw14668416993800759823 : True := trivial
theorem PySem.W.Fast.tw12349256754959451305 : True := trivial
theorem PySem.W.Fast.tw16384515916283811851 : True := trivial
theorem PySem.W.Fast.tw14878425799333174563 : True := trivial
theorem PySem.W.Fast.tw12056897153894701918 : True := trivial
theorem PySem.W.Fast.tw13969915343898391387 : True := trivial
theorem PySem.W.Fast.tw6840131215465352118 : True := trivial
theorem PySem.W.Fast.tw5054872904035734067 : True := trivial
theorem PySem.W.Fast.tw6452914074061972530 : True := trivial
theorem PySem.W.Fast.tw7168959590973117642 : True := trivial
theorem PySem.W.Fast.tw7198012756752111649 : True := trivial
theorem PySem.W.Fast.tw6626771582091512706 : True := trivial
theorem PySem.W.Fast.tw1986579635942608693 : True := trivial
theorem PySem.W.Fast.tw17616928902374972674 : True := trivial
theorem PySem.W.Fast.tw6262543824081366402 : True := trivial
theorem PySem.W.Fast.tw11019692957493013279 : True := trivial
theorem PySem.W.Fast.tw4940492592327326359 : True := trivial
theorem PySem.W.Fast.tw13916934555793786907 : True := trivial
theorem PySem.W.Fast.tw12255225102605329234 : True := trivial
theorem PySem.W.Fast.tw11850112425785907501 : True := trivial
theorem PySem.W.Fast.tw16755280216496415196 : True := trivial
theorem PySem.W.Fast.tw151264438116230093 : True := trivial
theorem PySem.W.Fast.tw16342249516791318374 : True := trivial
theorem PySem.W.Fast.tw13919447035608757385 : True := trivial
theorem PySem.W.Fast.tw2106837074534575247 : True := trivial
theorem PySem.W.Fast.tw11245123641114564077 : True := trivial
theorem PySem.W.Fast.tw7280273626194836547 : True := trivial
theorem PySem.W.Fast.tw2085699677614082522 : True := trivial
theorem PySem.W.Fast.tw4730490032816826518 : True := trivial
theorem PySem.W.Fast.tw12938624245651039042 : True := trivial
theorem PySem.W.Fast.tw1474218310733741942 : True := trivial
theorem PySem.W.Fast.tw1442425819445116172 : True := trivial
theorem PySem.W.Fast.tw11848370125080965856 : True := trivial
theorem PySem.W.Fast.tw13301005570946576112 : True := trivial
theorem PySem.W.Fast.tw6177536093964729841 : True := trivial
theorem PySem.W.Fast.tw6151384323551615143 : True := trivial
theorem PySem.W.Fast.tw9112761773863571311 : True := trivial
theorem PySem.W.Fast.tw17825601845730871544 : True := trivial
theorem PySem.W.Fast.tw944639183255028982 : True := trivial
theorem PySem.W.Fast.tw14641445159686627978 : True := trivial
theorem PySem.W.Fast.tw12860913000049342818 : True := trivial
theorem PySem.W.Fast.tw7873601968825800316 : True := trivial
theorem PySem.W.Fast.tw983433690984801100 : True := trivial
theorem PySem.W.Fast.tw15876162063769290405 : True := trivial
theorem PySem.W.Fast.tw5176630512075780963 : True := trivial
theorem PySem.W.Fast.tw13383183730020098032 : True := trivial
theorem PySem.W.Fast.tw11392019242392993023 : True := trivial
theorem PySem.W.Fast.tw17178574859230580605 : True := trivial
theorem PySem.W.Fast.tw17476227705411388176 : True := trivial
theorem PySem.W.Fast.tw15800811238579435471 : True := trivial
theorem PySem.W.Fast.tw3169426235638858540 : True := trivial
theorem PySem.W.Fast.tw9162121771184653281 : True := trivial
theorem PySem.W.Fast.tw5341721288528949209 : True := trivial
theorem PySem.W.Fast.tw3639287545387984159 : True := trivial
theorem PySem.W.Fast.tw10319746904290254909 : True := trivial
theorem PySem.W.Fast.tw6091767871838317256 : True := trivial
theorem PySem.W.Fast.tw4112695727234851453 : True := trivial
theorem PySem.W.Fast.tw16118464853955957374 : True := trivial
theorem PySem.W.Fast.tw11266977236549908796 : True := trivial
theorem PySem.W.Fast.tw9316749532730324212 : True := trivial
theorem PySem.W.Fast.tw6703097873233542487 : True := trivial
theorem PySem.W.Fast.tw17933859232196708873 : True := trivial
theorem PySem.W.Fast.tw10215017949784884794 : True := trivial
theorem PySem.W.Fast.tw13277929686102094519 : True := trivial
theorem PySem.W.Fast.tw15258833196506552675 : True := trivial
theorem PySem.W.Fast.tw16381767648186944981 : True := trivial
theorem PySem.W.Fast.tw3155665520240458612 : True := trivial
theorem PySem.W.Fast.tw18156041421440447659 : True := trivial
theorem PySem.W.Fast.tw15682522416392990427 : True := trivial
theorem PySem.W.Fast.tw11913977166361371212 : True := trivial
theorem PySem.W.Fast.tw14832772145445415022 : True := trivial
theorem PySem.W.Fast.tw989670273279166391 : True := trivial
theorem PySem.W.Fast.tw290849669092137269 : True := trivial
theorem PySem.W.Fast.tw10971896200970286460 : True := trivial
theorem PySem.W.Fast.tw12619023926146787217 : True := trivial
theorem PySem.W.Fast.tw3174793478741241045 : True := trivial
theorem PySem.W.Fast.tw2289537668579455962 : True := trivial
theorem PySem.W.Fast.tw67026747792936394 : True := trivial
theorem PySem.W.Fast.tw9951994540631739953 : True := trivial
theorem PySem.W.Fast.tw3804371730691603425 : True := trivial
theorem PySem.W.Fast.tw12309374492454413768 : True := trivial
theorem PySem.W.Fast.tw16526839170508154980 : True := trivial
theorem PySem.W.Fast.tw10111266549742141346 : True := trivial
theorem PySem.W.Fast.tw13814101836931019857 : True := trivial
theorem PySem.W.Fast.tw896604036297455449 : True := trivial
theorem PySem.W.Fast.tw17128902548475256353 : True := trivial
theorem PySem.W.Fast.tw14690947555212578811 : True := trivial
theorem PySem.W.Fast.tw11036616642003614068 : True := trivial
theorem PySem.W.Fast.tw13553343210310516674 : True := trivial
theorem PySem.W.Fast.tw8221509923305406022 : True := trivial
theorem PySem.W.Fast.tw8762273197091880430 : True := trivial
theorem PySem.W.Fast.tw17947902475405410209 : True := trivial
theorem PySem.W.Fast.tw13335485356977653340 : True := trivial
theorem PySem.W.Fast.tw1549604185767856087 : True := trivial
theorem PySem.W.Fast.tw7215078887618632010 : True := trivial
theorem PySem.W.Fast.tw10667477182714800487 : True := trivial
theorem PySem.W.Fast.tw6930300788448525740 : True := trivial
theorem PySem.W.Fast.tw13134688187778209344 : True := trivial
theorem PySem.W.Fast.tw9717509360526057154 : True := trivial
theorem PySem.W.Fast.tw3818102379836410485 : True := trivial
theorem PySem.W.Fast.tw10258184952450868128 : True := trivial
theorem PySem.W.Fast.tw8027585838578458630 : True := trivial
theorem PySem.W.Fast.tw6213245228735531605 : True := trivial
theorem PySem.W.Fast.tw15134832318933792893 : True := trivial
theorem PySem.W.Fast.tw6031221728133460994 : True := trivial
theorem PySem.W.Fast.tw1702332198655422482 : True := trivial
theorem PySem.W.Fast.tw7254787490626710756 : True := trivial
theorem PySem.W.Fast.tw7109455396813596185 : True := trivial
theorem PySem.W.Fast.tw14256537038383234994 : True := trivial
theorem PySem.W.Fast.tw1711294232986919880 : True := trivial
theorem PySem.W.Fast.tw6880354621789536377 : True := trivial
theorem PySem.W.Fast.tw14100766195909274884 : True := trivial
theorem PySem.W.Fast.tw18353883331535228031 : True := trivial
theorem PySem.W.Fast.tw11746817869947892321 : True := trivial
theorem PySem.W.Fast.tw707532479407652285 : True := trivial
theorem PySem.W.Fast.tw3516911774406596004 : True := trivial
theorem PySem.W.Fast.tw12041804056553435826 : True := trivial
theorem PySem.W.Fast.tw4370896469690596020 : True := trivial
theorem PySem.W.Fast.tw17434398517011585483 : True := trivial
theorem PySem.W.Fast.tw17837279675149327715 : True := trivial
theorem PySem.W.Fast.tw12956053960030631895 : True := trivial
theorem PySem.W.Fast.tw11024890470157107235 : True := trivial
theorem PySem.W.Fast.tw10503063498488030846 : True := trivial
theorem PySem.W.Fast.tw16520927909954395833 : True := trivial
theorem PySem.W.Fast.tw835980976923601220 : True := trivial
theorem PySem.W.Fast.tw4268275890948571821 : True := trivial
theorem PySem.W.Fast.tw3057132439160640775 : True := trivial
theorem PySem.W.Fast.tw9833116190840170386 : True := trivial
theorem PySem.W.Fast.tw7450792650209590537 : True := trivial
theorem PySem.W.Fast.tw11165068160023488176 : True := trivial
theorem PySem.W.Fast.tw14374860521056636168 : True := trivial
theorem PySem.W.Fast.tw6281915325405587195 : True := trivial
theorem PySem.W.Fast.tw16062901368701823271 : True := trivial
theorem PySem.W.Fast.tw441962434176364936 : True := trivial
theorem PySem.W.Fast.tw10858266770170627586 : True := trivial
theorem PySem.W.Fast.tw3048256792220565826 : True := trivial
theorem PySem.W.Fast.tw10879237586571379808 : True := trivial
theorem PySem.W.Fast.tw12695928262216346672 : True := trivial
theorem PySem.W.Fast.tw2970739409033896181 : True := trivial
theorem PySem.W.Fast.tw17078206897938468534 : True := trivial
theorem PySem.W.Fast.tw16896905022569570197 : True := trivial
theorem PySem.W.Fast.tw1271660372750213466 : True := trivial
theorem PySem.W.Fast.tw13721580204590582460 : True := trivial
theorem PySem.W.Fast.tw13809802696545189925 : True := trivial
theorem PySem.W.Fast.tw16667134624324088199 : True := trivial
theorem PySem.W.Fast.tw5910930147043875860 : True := trivial
theorem PySem.W.Fast.tw9566242588542744164 : True := trivial
theorem PySem.W.Fast.tw5661955577294175048 : True := trivial
theorem PySem.W.Fast.tw5835219983126596516 : True := trivial
theorem PySem.W.Fast.tw11827383663710753384 : True := trivial
theorem PySem.W.Fast.tw16494202965637289084 : True := trivial
theorem PySem.W.Fast.tw14433050546692059681 : True := trivial
theorem PySem.W.Fast.tw16173881919579326613 : True := trivial
theorem PySem.W.Fast.tw6342588805862486821 : True := trivial
theorem PySem.W.Fast.tw16579037577120867363 : True := trivial
theorem PySem.W.Fast.tw13355544259194991933 : True := trivial
theorem PySem.W.Fast.tw16302421892906968065 : True := trivial
theorem PySem.W.Fast.tw3596704783169426725 : True := trivial
theorem PySem.W.Fast.tw7658332343245466728 : True := trivial
theorem PySem.W.Fast.tw13727318909817713225 : True := trivial
theorem PySem.W.Fast.tw6886009437805213037 : True := trivial
theorem PySem.W.Fast.tw6875531576164166668 : True := trivial
theorem PySem.W.Fast.tw15348314031501357224 : True := trivial
theorem PySem.W.Fast.tw9390092257384871106 : True := trivial
theorem PySem.W.Fast.tw6785205704751362882 : True := trivial
theorem PySem.W.Fast.tw1446252105965592559 : True := trivial
theorem PySem.W.Fast.tw9872911049227038962 : True := trivial
theorem PySem.W.Fast.tw6525991238801375341 : True := trivial
theorem PySem.W.Fast.tw10456971467126672275 : True := trivial
theorem PySem.W.Fast.tw16891752106741383866 : True := trivial
theorem PySem.W.Fast.tw9784962728307565508 : True := trivial
theorem PySem.W.Fast.tw18134167288695011333 : True := trivial
theorem PySem.W.Fast.tw12659587802460336153 : True := trivial
theorem PySem.W.Fast.tw17143109067974000930 : True := trivial
theorem PySem.W.Fast.tw12238679299900256570 : True := trivial
theorem PySem.W.Fast.tw14289137737234343098 : True := trivial
theorem PySem.W.Fast.tw4285977055892262591 : True := trivial
theorem PySem.W.Fast.tw5178930360134094140 : True := trivial
theorem PySem.W.Fast.tw16917838423830761128 : True := trivial
theorem PySem.W.Fast.tw4400771349202095651 : True := trivial
theorem PySem.W.Fast.tw12870436929154090050 : True := trivial
theorem PySem.W.Fast.tw13847686929201723324 : True := trivial
theorem PySem.W.Fast.tw8872230015655029197 : True := trivial
theorem PySem.W.Fast.tw10638963966925326091 : True := trivial
theorem PySem.W.Fast.tw15520237892015518220 : True := trivial
theorem PySem.W.Fast.tw1644220303895298635 : True := trivial
theorem PySem.W.Fast.tw10332043176023733082 : True := trivial
theorem PySem.W.Fast.tw5709895491497014478 : True := trivial
theorem PySem.W.Fast.tw17054974225913279525 : True := trivial
theorem PySem.W.Fast.tw1867254702010134057 : True := trivial
theorem PySem.W.Fast.tw8484195310051544875 : True := trivial
theorem PySem.W.Fast.tw14739104396845528540 : True := trivial
theorem PySem.W.Fast.tw14113295600425001898 : True := trivial
theorem PySem.W.Fast.tw18260096750315133919 : True := trivial
theorem PySem.W.Fast.tw9245137940790246657 : True := trivial
theorem PySem.W.Fast.tw9906649393795634440 : True := trivial
theorem PySem.W.Fast.tw5484018430704004945 : True := trivial
theorem PySem.W.Fast.tw13732907253535903356 : True := trivial
theorem PySem.W.Fast.tw14690807549976936476 : True := trivial
theorem PySem.W.Fast.tw9929715168765210116 : True := trivial
theorem PySem.W.Fast.tw1940108223286551017 : True := trivial
theorem PySem.W.Fast.tw3545871069108446632 : True := trivial
theorem PySem.W.Fast.tw6356142455526432049 : True := trivial
theorem PySem.W.Fast.tw17188399418646466044 : True := trivial
theorem PySem.W.Fast.tw12651042397868245295 : True := trivial
theorem PySem.W.Fast.tw14977461647880419964 : True := trivial
theorem PySem.W.Fast.tw14435174433147164121 : True := trivial
theorem PySem.W.Fast.tw13783097791728534813 : True := trivial
theorem PySem.W.Fast.tw13821795026400847318 : True := trivial
theorem PySem.W.Fast.tw1325988220275543973 : True := trivial
theorem PySem.W.Fast.tw12770578934590120579 : True := trivial
theorem PySem.W.Fast.tw87633458993164273 : True := trivial
theorem PySem.W.Fast.tw10618007564984342897 : True := trivial
theorem PySem.W.Fast.tw329924770813221818 : True := trivial
theorem PySem.W.Fast.tw15605541374348386207 : True := trivial
theorem PySem.W.Fast.tw15029972154759711700 : True := trivial
theorem PySem.W.Fast.tw17957355622581832997 : True := trivial
theorem PySem.W.Fast.tw14955992977887702107 : True := trivial
theorem PySem.W.Fast.tw10572766277860478497 : True := trivial
theorem PySem.W.Fast.tw12606058899426054290 : True := trivial
theorem PySem.W.Fast.tw12664754584393542803 : True := trivial
theorem PySem.W.Fast.tw4327805264358561392 : True := trivial
theorem PySem.W.Fast.tw17398964788803235472 : True := trivial
theorem PySem.W.Fast.tw12259843763722297969 : True := trivial
theorem PySem.W.Fast.tw12699836296665022189 : True := trivial
theorem PySem.W.Fast.tw3489103679503534279 : True := trivial
theorem PySem.W.Fast.tw3758827443978763300 : True := trivial
theorem PySem.W.Fast.tw2315322220784487565 : True := trivial
theorem PySem.W.Fast.tw6941499958339707017 : True := trivial
theorem PySem.W.Fast.tw5310812835568845381 : True := trivial
theorem PySem.W.Fast.tw1835661048031817581 : True := trivial
theorem PySem.W.Fast.tw15057853932799059250 : True := trivial
theorem PySem.W.Fast.tw4948998810067133431 : True := trivial
theorem PySem.W.Fast.tw15769461300985317398 : True := trivial
theorem PySem.W.Fast.tw1264384939975315741 : True := trivial
theorem PySem.W.Fast.tw195841483133836005 : True := trivial
theorem PySem.W.Fast.tw1859756772898099265 : True := trivial
theorem PySem.W.Fast.tw15794559255667815175 : True := trivial
theorem PySem.W.Fast.tw10155087788333093468 : True := trivial
theorem PySem.W.Fast.tw18393775736143429352 : True := trivial
theorem PySem.W.Fast.tw13673041028154474807 : True := trivial
theorem PySem.W.Fast.tw15668594139812553780 : True := trivial
theorem PySem.W.Fast.tw2063385709657429991 : True := trivial
theorem PySem.W.Fast.tw14212018380428804548 : True := trivial
theorem PySem.W.Fast.tw11162664255477420106 : True := trivial
theorem PySem.W.Fast.tw1638175858280153521 : True := trivial
theorem PySem.W.Fast.tw209072763024788589 : True := trivial
theorem PySem.W.Fast.tw10684843965488744552 : True := trivial
theorem PySem.W.Fast.tw16046652210231625382 : True := trivial
theorem PySem.W.Fast.tw940200637918367950 : True := trivial
theorem PySem.W.Fast.tw16785080420997292418 : True := trivial
theorem PySem.W.Fast.tw3912250134479777804 : True := trivial
theorem PySem.W.Fast.tw14004047402458851528 : True := trivial
theorem PySem.W.Fast.tw16088336918917642848 : True := trivial
theorem PySem.W.Fast.tw14976671853452712517 : True := trivial
theorem PySem.W.Fast.tw4357525771466843333 : True := trivial
theorem PySem.W.Fast.tw9824010941014927522 : True := trivial
theorem PySem.W.Fast.tw1456344739985320526 : True := trivial
theorem PySem.W.Fast.tw13370452883292509557 : True := trivial
theorem PySem.W.Fast.tw790583596719997757 : True := trivial
theorem PySem.W.Fast.tw9217655762277868713 : True := trivial
theorem PySem.W.Fast.tw15088989218258128957 : True := trivial
theorem PySem.W.Fast.tw11567301311866663611 : True := trivial
theorem PySem.W.Fast.tw11162039677153342955 : True := trivial
theorem PySem.W.Fast.tw16285466163058665820 : True := trivial
theorem PySem.W.Fast.tw14963755004083350675 : True := trivial
theorem PySem.W.Fast.tw12494588308110956888 : True := trivial
theorem PySem.W.Fast.tw1502130183553632465 : True := trivial
theorem PySem.W.Fast.tw10429974645515788853 : True := trivial
theorem PySem.W.Fast.tw4432154746467275641 : True := trivial
theorem PySem.W.Fast.tw13924056588539021858 : True := trivial
theorem PySem.W.Fast.tw1910582491539469022 : True := trivial
theorem PySem.W.Fast.tw15097097721595316081 : True := trivial
theorem PySem.W.Fast.tw163359224082140127 : True := trivial
theorem PySem.W.Fast.tw10425563311332287677 : True := trivial
theorem PySem.W.Fast.tw6054550419375138388 : True := trivial
theorem PySem.W.Fast.tw12869657194651534551 : True := trivial
theorem PySem.W.Fast.tw3129116213566563958 : True := trivial
theorem PySem.W.Fast.tw5310155121733639079 : True := trivial
theorem PySem.W.Fast.tw4374053058966913178 : True := trivial
theorem PySem.W.Fast.tw11781436726766041140 : True := trivial
theorem PySem.W.Fast.tw13000497680544284488 : True := trivial
theorem PySem.W.Fast.tw15029676969404151378 : True := trivial
theorem PySem.W.Fast.tw708679342218226077 : True := trivial
theorem PySem.W.Fast.tw13874845863744008558 : True := trivial
theorem PySem.W.Fast.tw9285051279230070216 : True := trivial
theorem PySem.W.Fast.tw8497373241976650933 : True := trivial
theorem PySem.W.Fast.tw18231663464407327795 : True := trivial
theorem PySem.W.Fast.tw13776785210136669422 : True := trivial
theorem PySem.W.Fast.tw12351783099401493639 : True := trivial
theorem PySem.W.Fast.tw14813980074033869582 : True := trivial
theorem PySem.W.Fast.tw5078503629475261429 : True := trivial
theorem PySem.W.Fast.tw11679512767576450028 : True := trivial
theorem PySem.W.Fast.tw7928598997712544088 : True := trivial
theorem PySem.W.Fast.tw12352200178176168746 : True := trivial
theorem PySem.W.Fast.tw8645956405681369675 : True := trivial
theorem PySem.W.Fast.tw14077989965317905895 : True := trivial
theorem PySem.W.Fast.tw9410679555468523939 : True := trivial
theorem PySem.W.Fast.tw16390507609621567188 : True := trivial
theorem PySem.W.Fast.tw7598318766523774734 : True := trivial
theorem PySem.W.Fast.tw4528616073638067101 : True := trivial
theorem PySem.W.Fast.tw14833744840672808024 : True := trivial
theorem PySem.W.Fast.tw6673411576173783184 : True := trivial
theorem PySem.W.Fast.tw7980582289352770501 : True := trivial
theorem PySem.W.Fast.tw8457567553640991379 : True := trivial
theorem PySem.W.Fast.tw9274365055656871019 : True := trivial
theorem PySem.W.Fast.tw2543190182438322187 : True := trivial
theorem PySem.W.Fast.tw15014366991493451202 : True := trivial
theorem PySem.W.Fast.tw2445113233035801032 : True := trivial
theorem PySem.W.Fast.tw1518925052599347106 : True := trivial
theorem PySem.W.Fast.tw9295840833269228788 : True := trivial
theorem PySem.W.Fast.tw12989153762951295339 : True := trivial
theorem PySem.W.Fast.tw3081214988659009838 : True := trivial
theorem PySem.W.Fast.tw15181778500120111021 : True := trivial
theorem PySem.W.Fast.tw16250665381855951322 : True := trivial
theorem PySem.W.Fast.tw10162868372531227585 : True := trivial
theorem PySem.W.Fast.tw5594404343789854524 : True := trivial
theorem PySem.W.Fast.tw17219880502731871652 : True := trivial
theorem PySem.W.Fast.tw10335710745176862174 : True := trivial
theorem PySem.W.Fast.tw15893406800162922573 : True := trivial
theorem PySem.W.Fast.tw16798562387852090022 : True := trivial
theorem PySem.W.Fast.tw11024404105513023510 : True := trivial
theorem PySem.W.Fast.tw16207259364469035283 : True := trivial
theorem PySem.W.Fast.tw17558162302318240559 : True := trivial
theorem PySem.W.Fast.tw14746520862478104518 : True := trivial
theorem PySem.W.Fast.tw11108012116352767664 : True := trivial
set_option maxRecDepth 100000 in
set_option maxHeartbeats 0 in
theorem PySem.Challenge.cw_numberpile_k17_whole_leaves_that_are_som_holds : PySem.Challenge.rw_numberpile_k17_whole_leaves_that_are_som.Holds := by
  w_on; o_law; k_head; (case hw => w_witness2)
  k_fill
  refine T.walk (l := PySem.Challenge.rw_numberpile_k17_whole_leaves_that_are_som) rfl rfl (fun w h Y => PySem.W.kIn_of Y) ?F
  case F =>
    intro w mg fa h KX G hmg
    refine' T.all_mk KX G hmg ?xaPileError ?xoPileError ?xsPileError ?xaNoShares ?xoNoShares ?xsNoShares ?xpNoShares ?xaNoPile ?xoNoPile ?xsNoPile ?xpNoPile ?xaNoSign ?xoNoSign ?xsNoSign ?xpNoSign ?xaNoSlot ?xoNoSlot ?xsNoSlot ?xpNoSlot ?xaNoText ?xoNoText ?xsNoText ?xpNoText ?xaNotLeaf ?xoNotLeaf ?xsNotLeaf ?xpNotLeaf ?xgs ?xtk ?xgaNotLeaf ?xgtNotLeaf ?xcaNotLeaf ?xmoNotLeaf ?xmbNotLeaf ?xkNotLeaf_NotLeaf ?xkNotLeaf_ValueError ?xkNotLeaf_NoText ?a0 ?l0 ?c0 ?k0 ?a1 ?l1 ?c1 ?k1 ?a2 ?l2 ?c2 ?k2 ?a3 ?l3 ?c3 ?k3 ?a4 ?l4 ?c4 ?k4 ?a5 ?l5 ?c5 ?k5 ?a6 ?l6 ?c6 ?k6 ?a7 ?l7 ?c7 ?k7 ?a8 ?l8 ?c8 ?k8 ?a9 ?l9 ?c9 ?k9 ?a10 ?l10 ?c10 ?k10 ?a11 ?l11 ?c11 ?k11 ?a12 ?l12 ?c12 ?k12 ?a13 ?l13 ?c13 ?k13 ?a14 ?l14 ?c14 ?k14 ?a15 ?l15 ?c15 ?k15 ?a16 ?l16 ?c16 ?k16 ?a17 ?l17 ?c17 ?k17 ?a18 ?l18 ?c18 ?k18 ?a19 ?l19 ?c19 ?k19 ?a20 ?l20 ?c20 ?k20 ?a21 ?l21 ?c21 ?k21 ?a22 ?l22 ?c22 ?k22 ?a23 ?l23 ?c23 ?k23 ?a24 ?l24 ?c24 ?k24 ?a25 ?l25 ?c25 ?k25 ?a26 ?l26 ?c26 ?k26 ?a27 ?l27 ?c27 ?k27 ?a28 ?l28 ?c28 ?k28 ?a29 ?l29 ?c29 ?k29 ?a30 ?l30 ?c30 ?k30 ?a31 ?l31 ?c31 ?k31 ?a32 ?l32 ?c32 ?k32 ?a33 ?l33 ?c33 ?k33 ?a34 ?l34 ?c34 ?k34 ?a35 ?l35 ?c35 ?k35 ?z_ValueError ?z_len ?z_sum ?z_isinstance ?z_divmod ?z_int ?z_range ?z_reversed ?z_zip ?z_min ?z_max ?z_str ?z_sorted ?z_set ?g_MOST_SIGNS ?g_MOST_COUNT ?g_MOST_TEXT ?g_MOST_FIGURES ?g_SIGNS ?g_LETTERS
    (case xaPileError => k_is)
    (case xoPileError => k_exc)
    (case xsPileError => k_is)
    (case xaNoShares => k_is)
    (case xoNoShares => k_exc)
    (case xsNoShares => k_is)
    (case xpNoShares => k_is)
    (case xaNoPile => k_is)
    (case xoNoPile => k_exc)
    (case xsNoPile => k_is)
    (case xpNoPile => k_is)
    (case xaNoSign => k_is)
    (case xoNoSign => k_exc)
    (case xsNoSign => k_is)
    (case xpNoSign => k_is)
    (case xaNoSlot => k_is)
    (case xoNoSlot => k_exc)
    (case xsNoSlot => k_is)
    (case xpNoSlot => k_is)
    (case xaNoText => k_is)
    (case xoNoText => k_exc)
    (case xsNoText => k_is)
    (case xpNoText => k_is)
    (case xaNotLeaf => k_is)
    (case xoNotLeaf => k_exc)
    (case xsNotLeaf => k_is)
    (case xpNotLeaf => k_is)
    (case xgs => k_is)
    (case xtk => k_is)
    (case xgaNotLeaf => k_is)
    (case xgtNotLeaf => k_is)
    (case xcaNotLeaf => k_is)
    (case xmoNotLeaf => k_is)
    (case xmbNotLeaf => k_is)
    (case xkNotLeaf_NotLeaf => kit_is)
    (case xkNotLeaf_ValueError => kit_is)
    (case xkNotLeaf_NoText => kit_is)
    (case a0 => k_is)
    (case l0 => k_is)
    (case c0 => k_is)
    (case k0 => k_is)
    (case a1 => k_is)
    (case l1 => k_is)
    (case c1 => k_is)
    (case k1 => k_is)
    (case a2 => k_is)
    (case l2 => k_is)
    (case c2 => k_is)
    (case k2 => k_is)
    (case a3 => k_is)
    (case l3 => k_is)
    (case c3 => k_is)
    (case k3 => k_is)
    (case a4 => k_is)
    (case l4 => k_is)
    (case c4 => k_is)
    (case k4 => k_is)
    (case a5 => k_is)
    (case l5 => k_is)
    (case c5 => k_is)
    (case k5 => k_is)
    (case a6 => k_is)
    (case l6 => k_is)
    (case c6 => k_is)
    (case k6 => k_is)
    (case a7 => k_is)
    (case l7 => k_is)
    (case c7 => k_is)
    (case k7 => k_is)
    (case a8 => k_is)
    (case l8 => k_is)
    (case c8 => k_is)
    (case k8 => k_is)
    (case a9 => k_is)
    (case l9 => k_is)
    (case c9 => k_is)
    (case k9 => k_is)
    (case a10 => k_is)
    (case l10 => k_is)
    (case c10 => k_is)
    (case k10 => k_is)
    (case a11 => k_is)
    (case l11 => k_is)
    (case c11 => k_is)
    (case k11 => k_is)
    (case a12 => k_is)
    (case l12 => k_is)
    (case c12 => k_is)
    (case k12 => k_is)
    (case a13 => k_is)
    (case l13 => k_is)
    (case c13 => k_is)
    (case k13 => k_is)
    (case a14 => k_is)
    (case l14 => k_is)
    (case c14 => k_is)
    (case k14 => k_is)
    (case a15 => k_is)
    (case l15 => k_is)
    (case c15 => k_is)
    (case k15 => k_is)
    (case a16 => k_is)
    (case l16 => k_is)
    (case c16 => k_is)
    (case k16 => k_is)
    (case a17 => k_is)
    (case l17 => k_is)
    (case c17 => k_is)
    (case k17 => k_is)
    (case a18 => k_is)
    (case l18 => k_is)
    (case c18 => k_is)
    (case k18 => k_is)
    (case a19 => k_is)
    (case l19 => k_is)
    (case c19 => k_is)
    (case k19 => k_is)
    (case a20 => k_is)
    (case l20 => k_is)
    (case c20 => k_is)
    (case k20 => k_is)
    (case a21 => k_is)
    (case l21 => k_is)
    (case c21 => k_is)
    (case k21 => k_is)
    (case a22 => k_is)
    (case l22 => k_is)
    (case c22 => k_is)
    (case k22 => k_is)
    (case a23 => k_is)
    (case l23 => k_is)
    (case c23 => k_is)
    (case k23 => k_is)
    (case a24 => k_is)
    (case l24 => k_is)
    (case c24 => k_is)
    (case k24 => k_is)
    (case a25 => k_is)
    (case l25 => k_is)
    (case c25 => k_is)
    (case k25 => k_is)
    (case a26 => k_is)
    (case l26 => k_is)
    (case c26 => k_is)
    (case k26 => k_is)
    (case a27 => k_is)
    (case l27 => k_is)
    (case c27 => k_is)
    (case k27 => k_is)
    (case a28 => k_is)
    (case l28 => k_is)
    (case c28 => k_is)
    (case k28 => k_is)
    (case a29 => k_is)
    (case l29 => k_is)
    (case c29 => k_is)
    (case k29 => k_is)
    (case a30 => k_is)
    (case l30 => k_is)
    (case c30 => k_is)
    (case k30 => k_is)
    (case a31 => k_is)
    (case l31 => k_is)
    (case c31 => k_is)
    (case k31 => k_is)
    (case a32 => k_is)
    (case l32 => k_is)
    (case c32 => k_is)
    (case k32 => k_is)
    (case a33 => k_is)
    (case l33 => k_is)
    (case c33 => k_is)
    (case k33 => k_is)
    (case a34 => k_is)
    (case l34 => k_is)
    (case c34 => k_is)
    (case k34 => k_is)
    (case a35 => k_is)
    (case l35 => k_is)
    (case c35 => k_is)
    (case k35 => k_is)
    (case z_ValueError => k_is)
    (case z_len => k_is)
    (case z_sum => k_is)
    (case z_isinstance => k_is)
    (case z_divmod => k_is)
    (case z_int => k_is)
    (case z_range => k_is)
    (case z_reversed => k_is)
    (case z_zip => k_is)
    (case z_min => k_is)
    (case z_max => k_is)
    (case z_str => k_is)
    (case z_sorted => k_is)
    (case z_set => k_is)
    (case g_MOST_SIGNS => k_is)
    (case g_MOST_COUNT => k_is)
    (case g_MOST_TEXT => k_is)
    (case g_MOST_FIGURES => k_is)
    (case g_SIGNS => k_is)
    (case g_LETTERS => k_is)
