import PyProof.Rows.All
import Wide.All
import OpenK.AllK
import Wide.FinOn
import Lean
import PyProof.EqAt
import PyProof.EqKinds
import PyProof.TupleCall
import PyProof.NeKinds
import PyProof.ZipIter
import PyProof.ListNew
import PyProof.ListRange
import KE.KRevIter
import KE.KIntText
import PyProof.Rows.SortShell
import PyProof.Rows.SetFrom
import PyProof.Rows.SortWalk
import PyProof.Rows.FStr
import PyProof.Rows.StrKeys3
import PyProof.Rows.StrIntSpec
import PyProof.NsDelKeeps
import KE.KIsAll
import PyProof.ExcArgsOwn
import PyProof.ExcAttrAll.ValueError
import PySem.Challenge.RW_numberpile_k19_each_refusal_its_own
set_option Elab.async false
set_option linter.all false
set_option maxRecDepth 100000
namespace L2
abbrev Pq := List (PySem.Addr × PySem.Obj)
abbrev Mq := PySem.Str -> Option PySem.Value
abbrev Fq := PySem.W.Frag
end L2
open L2 (Pq Mq Fq)
namespace L2
open PySem PySem.Spec PyProof.Rows
abbrev Key := Sum Int Str
def zel : Key -> Value -> Bool
 | .inl k, v => Value.isInt k v
 | .inr x, v => Value.isStrOf x v
def keyH (w : World) : Key -> Int
 | .inl k => hashInt k
 | .inr x => hashStr w x
theorem yr : ∀ {k : Key} {v : Value}, zel k v = true -> (∃ i t, k = Sum.inl i /\ v = Value.int i t) \/ (∃ x t, k = Sum.inr x /\ v = Value.str x t)
 | .inl i, v, h => by
  obtain ⟨t, e⟩ := Value.isInt_shape (k := i) (v := v) h
  exact .inl ⟨i, t, rfl, e⟩
 | .inr x, v, h => by
  obtain ⟨t, e⟩ := Value.isStrOf_shape (x := x) (v := v) h
  exact .inr ⟨x, t, rfl, e⟩
theorem zew (a b : Int) : decide ((Sum.inl a : Key) = Sum.inl b) = (a == b) := by
 by_cases e : a = b
 ·subst e; simp
 ·have h : ¬ (Sum.inl a : Key) = Sum.inl b := fun q => e (Sum.inl.inj q)
  rw [decide_eq_false h]
  exact (beq_eq_false_iff_ne.mpr e).symm
theorem zex (a b : Str) : decide ((Sum.inr a : Key) = Sum.inr b) = decide (a = b) := by
 by_cases e : a = b
 ·subst e; simp
 ·have h : ¬ (Sum.inr a : Key) = Sum.inr b := fun q => e (Sum.inr.inj q)
  rw [decide_eq_false h, decide_eq_false e]
theorem zey (a : Int) (b : Str) : decide ((Sum.inl a : Key) = Sum.inr b) = false := decide_eq_false (fun q => nomatch q)
theorem zez (a : Str) (b : Int) : decide ((Sum.inr a : Key) = Sum.inl b) = false := decide_eq_false (fun q => nomatch q)
def zao (prog : Program) (w : World) : PySem.KeyKind prog w Key where
 is := zel
 hash := keyH w
 inj := fun v a b ha hb => by
  rcases yr ha with ⟨i, t, rfl, rfl⟩ | ⟨x, t, rfl, rfl⟩
  ·rcases yr hb with ⟨j, u, rfl, e⟩ | ⟨y, u, rfl, e⟩
   ·injection e with e1 _; rw [e1]
   ·exact nomatch e
  ·rcases yr hb with ⟨j, u, rfl, e⟩ | ⟨y, u, rfl, e⟩
   ·exact nomatch e
   ·injection e with e1 _; rw [e1]
 byValue := fun k v h => by
  rcases yr h with ⟨i, t, rfl, rfl⟩ | ⟨x, t, rfl, rfl⟩ <;> rfl
 pyHash := fun hv h => by
  rcases yr hv with ⟨i, t, rfl, rfl⟩ | ⟨x, t, rfl, rfl⟩
  ·exact wpAny_pyHash_int h
  ·exact wpAny_pyHash_str h
 eqBool := fun hu hv h => by
  rcases yr hu with ⟨i, t, rfl, rfl⟩ | ⟨x, t, rfl, rfl⟩
  ·rcases yr hv with ⟨j, u, rfl, rfl⟩ | ⟨y, u, rfl, rfl⟩
   ·rw [zew] at h; exact wpAny_eqBool_int h
   ·rw [zey] at h; exact SeqAt.EqAt.int_str i t y u _ _ _ _ h
  ·rcases yr hv with ⟨j, u, rfl, rfl⟩ | ⟨y, u, rfl, rfl⟩
   ·rw [zez] at h; exact SeqAt.EqAt.str_int x t j u _ _ _ _ h
   ·rw [zex] at h; exact wpAny_eqBool_str h
 «strs» := fun k x t v h => by
  rcases yr h with ⟨i, u, rfl, e⟩ | ⟨y, u, rfl, e⟩
  ·exact nomatch e
  ·injection e with e1 _
   subst e1
   cases v <;> rfl
end L2
namespace L2
open PySem PySem.Spec PyProof.Rows
inductive V where
 | non | bl (b : Bool) | int (i : Int) | str (x : Str) | byt (b : Array UInt8) | flt (b : UInt64) | ref (a : Addr) | ty (n : String)
 deriving DecidableEq
def RelV : V -> Value -> Prop
 | .non, u => u = Value.none
 | .bl b, u => u = Value.bool b
 | .int i, u => ∃ t, u = Value.int i t
 | .str x, u => ∃ t, u = Value.str x t
 | .byt b, u => ∃ t, u = Value.bytes b t
 | .flt b, u => ∃ t, u = Value.float b t
 | .ref a, u => u = Value.ref a
 | .ty n, u => u = Value.type n
abbrev Vals : List V -> List Value -> Prop := Paired RelV
theorem Vals.length {xs : List V} {us : List Value} (r : Vals xs us) : xs.length = us.length := Paired.length r
theorem Vals.get : ∀ {xs : List V} {us : List Value} {i : Nat} {x : V}, Vals xs us -> xs[i]? = some x -> ∃ u, us[i]? = some u /\ RelV x u
 | _, _, _, _, .nil, e => by simp at e
 | _, _, 0, _, .cons r _, e => by simp at e; subst e; exact ⟨_, rfl, r⟩
 | _, _, i + 1, x, .cons _ t, e => by
  obtain ⟨u, h1, h2⟩ := Vals.get (i := i) (x := x) t (by simpa using e)
  exact ⟨u, by simpa using h1, h2⟩
theorem Vals.set {x : V} {u : Value} (r : RelV x u) : ∀ {xs : List V} {us : List Value} (i : Nat), Vals xs us -> Vals (xs.set i x) (us.set i u)
 | _, _, _, .nil => .nil
 | _, _, 0, .cons _ t => .cons r t
 | _, _, i + 1, .cons q t => .cons q (Vals.set r i t)
theorem Vals.append : ∀ {xs ys : List V} {us ws : List Value}, Vals xs us -> Vals ys ws -> Vals (xs ++ ys) (us ++ ws)
 | _, _, _, _, .nil, s => s
 | _, _, _, _, .cons r t, s => .cons r (Vals.append t s)
theorem Vals.take : ∀ {xs : List V} {us : List Value} (n : Nat), Vals xs us -> Vals (xs.take n) (us.take n)
 | _, _, 0, _ => .nil
 | _, _, _ + 1, .nil => .nil
 | _, _, n + 1, .cons r t => .cons r (Vals.take n t)
theorem Vals.drop : ∀ {xs : List V} {us : List Value} (n : Nat), Vals xs us -> Vals (xs.drop n) (us.drop n)
 | _, _, 0, r => r
 | _, _, _ + 1, .nil => .nil
 | _, _, n + 1, .cons _ t => Vals.drop n t
def RelO : Option V -> Option Value -> Prop
 | some v, some u => RelV v u
 | none, none => True
 | _, _ => False
def KV {κ : Type} : List (κ × V) -> List (κ × Value) -> Prop := Paired fun (p : κ × V) (q : κ × Value) => p.1 = q.1 /\ RelV p.2 q.2
def kV : Key -> V
 | .inl i => .int i
 | .inr x => .str x
inductive HO where
 | lst (xs : List V)
 | tup (xs : List V)
 | dK (kvs : List (Key × V)) | dT (kvs : List (List Key × V))
 | set (S : Int -> Bool) (n : Nat)
 | ins (C dx : Addr) (fs : List (Str × V))
 | own (x : Addr)
 | xd (fs : List (Str × V))
 | met (f x : Addr)
 | rng (lo hi : Int)
 | frz (o : Obj) (u : HO)
 | tbl (ps : Array Value)
 | ext (φ : Heap -> Prop)
abbrev Hp := Addr -> Option HO
def upd (H : Hp) (a : Addr) (o : HO) : Hp := fun b => if b = a then some o else H b
theorem zh {H : Hp} {a : Addr} {o : HO} : upd H a o a = some o := by unfold upd; rw [if_pos rfl]
theorem zj {H : Hp} {a b : Addr} {o : HO} (h : b ≠ a) : upd H a o b = H b := by unfold upd; rw [if_neg h]
theorem yM {H : Hp} {a : Addr} {o u : HO} : upd (upd H a o) a u = upd H a u := by
 funext b; unfold upd; split <;> rfl
theorem xR {H : Hp} {a b : Addr} {o u : HO} (h : H a = some o) (h' : H b = some u) (d : o ≠ u) : a ≠ b := by
 intro e; subst e; rw [h] at h'; exact d (Option.some.inj h')
theorem zu {H : Hp} {a b : Addr} {o : HO} (h : H a = some o) (h' : H b = none) : a ≠ b := by
 intro e; subst e; rw [h] at h'; cases h'
section
variable (P : Program) (w : World)
def ObjOk (H : Hp) (h : Heap) (a : Addr) : HO -> Prop
 | .lst xs => xs.length <= sizeLine /\ ∃ (its : List Value) (n : Nat), Vals xs its /\ h.get? a = some { cls := .type "list", data := .seq its.toArray n }
 | .tup xs => xs.length <= sizeLine /\ ∃ its : List Value, Vals xs its /\ IsTup h a its.toArray
 | .dK kvs => kvs.length <= sizeLine /\ (a == sysModules) = false /\ ∃ vs, KV kvs vs /\ h.DictOf (zao P w) a vs
 | .dT _ => False
 | .set S n => h.SetOf (intKind P w) a S n
 | .ins C dx fs => H dx = some (.own a) /\ fs.length <= 1000 /\ dx ≠ a /\ h.get? a = some (PySem.W.instObj C dx) ∧
   ∃ mA, h.Ns1 dx mA /\ (∀ f, RelO (fs.lookup f) (mA f)) /\ PySem.Within mA (fs.map (·.1))
 | .own _ => ∃ o, h.get? a = some o
 | .xd fs => ∃ mA, h.Ns1 a mA /\ ∀ f, RelO (fs.lookup f) (mA f)
 | .rng lo hi => ∃ t u v, h.get? a = some { cls := .type "range", data := .fields #[.int lo t, .int hi u, .int 1 v] }
 | .frz o u => h.get? a = some o /\ ObjOk H h a u
 | .tbl ps => h.get? a = some { cls := .none, data := .fields ps }
 | .met f x => h.get? a = some (PySem.W.methodObj (.ref f) (.ref x))
 | .ext φ => φ h /\ (∃ o, h.get? a = some o) /\ ∀ h1 h2 : Heap, φ h1 -> (∀ o, h1.get? a = some o -> h2.get? a = some o) -> φ h2
def HOk (H : Hp) (h : Heap) : Prop := ∀ a o, H a = some o -> ObjOk P w H h a o
end
section
variable {P : Program} {w : World} {H H' : Hp} {h h' : Heap} {a : Addr} {o : HO}
theorem ObjOk.lt (x : ObjOk P w H h a o) : a < h.objs.size := by
 cases o with
 | lst xs => obtain ⟨_, _, _, _, e⟩ := x; exact Heap.lt_size e
 | tup xs => obtain ⟨_, _, _, p⟩ := x; exact p.lt
 | dK kvs => obtain ⟨_, _, _, _, o, _, _, e, _⟩ := x; exact Heap.lt_size e
 | dT kvs => exact (show False from x).elim
 | set S n => obtain ⟨o, _, _, _, e, _⟩ := x; exact Heap.lt_size e
 | ins C dx fs => obtain ⟨_, _, _, e, _⟩ := x; exact Heap.lt_size e
 | own y => obtain ⟨_, e⟩ := x; exact Heap.lt_size e
 | xd fs => obtain ⟨_, ⟨_, _, _, e, _⟩, _⟩ := x; exact Heap.lt_size e
 | rng lo hi => obtain ⟨_, _, _, e⟩ := x; exact Heap.lt_size e
 | frz ob u => obtain ⟨e, _⟩ := x; exact Heap.lt_size e
 | tbl ps => exact Heap.lt_size (show h.get? a = some _ from x)
 | met f y => exact Heap.lt_size (show h.get? a = some _ from x)
 | ext φ => obtain ⟨_, ⟨_, e⟩, _⟩ := x; exact Heap.lt_size e
theorem ObjOk.stay (x : ObjOk P w H h a o) (k : ∀ b u, (b = a \/ H b = some (.own a)) -> h.get? b = some u -> h'.get? b = some u)
  (ho : ∀ b, H b = some (.own a) -> H' b = some (.own a)) (ht : ∀ b xs, H b = some (.tup xs) -> H' b = some (.tup xs)) : ObjOk P w H' h' a o := by
 induction o with
 | lst xs => obtain ⟨z, its, n, r, e⟩ := x; exact ⟨z, its, n, r, k _ _ (.inl rfl) e⟩
 | tup xs => obtain ⟨z, its, r, ob, e, c⟩ := x; exact ⟨z, its, r, ob, k _ _ (.inl rfl) e, c⟩
 | dK kvs => obtain ⟨z, y, vs, r, ob, es, ep, e, c⟩ := x; exact ⟨z, y, vs, r, ob, es, ep, k _ _ (.inl rfl) e, c⟩
 | dT kvs => exact (show False from x).elim
 | set S n => obtain ⟨ob, es, ep, t, e, c⟩ := x; exact ⟨ob, es, ep, t, k _ _ (.inl rfl) e, c⟩
 | ins C dx fs =>
  obtain ⟨d, z, ne, e, mA, ⟨od, es, ep, e2, c⟩, r⟩ := x
  exact ⟨ho _ d, z, ne, k _ _ (.inl rfl) e, mA, ⟨od, es, ep, k _ _ (.inr d) e2, c⟩, r⟩
 | own y => obtain ⟨ob, e⟩ := x; exact ⟨ob, k _ _ (.inl rfl) e⟩
 | xd fs => obtain ⟨mA, ⟨od, es, ep, e, c⟩, r⟩ := x; exact ⟨mA, ⟨od, es, ep, k _ _ (.inl rfl) e, c⟩, r⟩
 | rng lo hi => obtain ⟨t, u, v, e⟩ := x; exact ⟨t, u, v, k _ _ (.inl rfl) e⟩
 | frz ob u ih => obtain ⟨e, q⟩ := x; exact ⟨k _ _ (.inl rfl) e, ih q⟩
 | tbl ps =>
  have e : h.get? a = some { cls := .none, data := .fields ps } := x
  show h'.get? a = some { cls := .none, data := .fields ps }
  exact k a _ (.inl rfl) e
 | met f y =>
  have e : h.get? a = some (PySem.W.methodObj (.ref f) (.ref y)) := x
  show h'.get? a = some (PySem.W.methodObj (.ref f) (.ref y))
  exact k a _ (.inl rfl) e
 | ext φ => obtain ⟨p, ⟨o, e⟩, st⟩ := x; exact ⟨st _ _ p fun o q => k _ _ (.inl rfl) q, ⟨o, k _ _ (.inl rfl) e⟩, st⟩
theorem HOk.lt (x : HOk P w H h) (e : H a = some o) : a < h.objs.size := (x a o e).lt
theorem HOk.fresh (x : HOk P w H h) (e : h.objs.size <= a) : H a = none := by
 cases q : H a with
 | none => rfl
 | some u => exact absurd (Nat.lt_of_lt_of_le (x.lt q) e) (Nat.lt_irrefl _)
theorem HOk.kept (x : HOk P w H h) (k : ∀ b u, h.get? b = some u -> h'.get? b = some u) : HOk P w H h' := fun a o e =>
 (x a o e).stay (fun b u _ q => k b u q) (fun _ q => q) fun _ _ q => q
theorem HOk.laid (x : HOk P w H h) (k : ∀ b u, h.get? b = some u -> h'.get? b = some u) (hp : h.objs.size <= a) (new : ObjOk P w (upd H a o) h' a o) : HOk P w (upd H a o) h' := fun b u e => by
 have hn := x.fresh hp
 by_cases hb : b = a
 ·subst hb; rw [zh] at e; cases e; exact new
 ·rw [zj hb] at e
  exact (x b u e).stay (fun c v _ q => k c v q) (fun c q => by rw [zj (zu q hn)]; exact q) fun c xs q => by rw [zj (zu q hn)]; exact q
end
def Rd (H : Hp) (a : Addr) (u : HO) : Prop := H a = some u \/ ∃ o, H a = some (.frz o u)
theorem Rd.ok {P : Program} {w : World} {H : Hp} {h : Heap} {a : Addr} {u : HO} (r : Rd H a u) (x : HOk P w H h) : ObjOk P w H h a u := by
 rcases r with r | ⟨o, r⟩
 ·exact x a u r
 ·obtain ⟨_, q⟩ := x a _ r
  exact q
def Mut : Option HO -> Prop
 | some (.lst _) => True
 | some (.dK _) => True
 | some (.dT _) => True
 | some (.set _ _) => True
 | some (.ins _ _ _) => True
 | some (.ext _) => True
 | _ => False
section
variable {P : Program} {w : World} {H : Hp} {h h' : Heap} {x e : Addr} {o' : HO}
theorem HOk.write (ok : HOk P w H h) (mu : Mut (H x)) (he : e = x \/ H e = some (.own x)) (k : ∀ b u, b ≠ e -> h.get? b = some u -> h'.get? b = some u) (heo : ∃ u, h'.get? e = some u)
  (new : ObjOk P w (upd H x o') h' x o') : HOk P w (upd H x o') h' := fun b u q => by
 have nown : ∀ c y, H c = some (.own y) -> c ≠ x := fun c y r z => by subst z; rw [r] at mu; exact mu
 have ntup : ∀ c xs, H c = some (.tup xs) -> c ≠ x := fun c xs r z => by subst z; rw [r] at mu; exact mu
 by_cases hb : b = x
 ·subst hb; rw [zh] at q; cases q; exact new
 ·rw [zj hb] at q
  by_cases hbe : b = e
  ·have q' : H b = some (.own x) := by
    rcases he with z | z
    ·exact absurd (hbe.trans z) hb
    ·rw [hbe]; exact z
   rw [q] at q'; cases q'
   obtain ⟨v, hv⟩ := heo
   exact ⟨v, by rw [hbe]; exact hv⟩
  ·refine (ok b u q).stay (fun c v hc r => k c v ?_ r) (fun c r => by rw [zj (nown c b r)]; exact r) fun c xs r => by rw [zj (ntup c xs r)]; exact r
   rcases hc with rfl | hc
   ·exact hbe
   ·rintro rfl
    rcases he with z | z
    ·exact nown c b hc z
    ·rw [hc] at z; cases z; exact hb rfl
end
structure Un (fs ex : List Addr) (H H' : Hp) (h h' : Heap) : Prop where
 keep : ∀ b o, h.get? b = some o -> H b = none -> b ∉ fs -> b ∉ ex -> h'.get? b = some o
 slot : ∀ b o, h.get? b = some o -> H b = none -> b ∈ fs -> b ∉ ex -> ∃ sl, h'.get? b = some { o with slots := sl }
 free : ∀ b o, h.get? b = some o -> H b = none -> b ∉ ex -> H' b = none
 there : ∀ b o, h.get? b = some o -> b ∉ ex -> ∃ o', h'.get? b = some o'
 tups : ∀ b xs, H b = some (.tup xs) -> H' b = some (.tup xs)
 frzs : ∀ b o u, H b = some (.frz o u) -> H' b = some (.frz o u)
 tbls : ∀ b ps, H b = some (.tbl ps) -> ∃ more, H' b = some (.tbl (ps ++ more))
section
variable {fs fs' ex ex' : List Addr} {H H1 H2 : Hp} {h h1 h2 h' : Heap} {a x e : Addr} {o : HO}
theorem Un.any (u : Un fs ex H H1 h h1) {b : Addr} {ob : Obj} (q : h.get? b = some ob) (n : H b = none) (hx : b ∉ ex) : ∃ sl, h1.get? b = some { ob with slots := sl } := by
 by_cases hb : b ∈ fs
 ·exact u.slot b ob q n hb hx
 ·exact ⟨ob.slots, u.keep b ob q n hb hx⟩
theorem Un.kept (k : ∀ b u, h.get? b = some u -> h'.get? b = some u) : Un fs ex H H h h' :=
 ⟨fun b ob q _ _ _ => k b ob q, fun b ob q _ _ _ => ⟨ob.slots, k b ob q⟩, fun _ _ _ n _ => n, fun b ob q _ => ⟨ob, k b ob q⟩, fun _ _ q => q, fun _ _ _ q => q, fun _ ps q => ⟨#[], by rw [q]; simp⟩⟩
theorem Un.refl : Un fs ex H H h h := Un.kept fun _ _ q => q
theorem Un.laid (k : ∀ b u, h.get? b = some u -> h'.get? b = some u) (hp : h.objs.size <= a) (hn : H a = none) : Un fs ex H (upd H a o) h h' where
 keep := fun b u q _ _ _ => k b u q
 slot := fun b u q _ _ _ => ⟨u.slots, k b u q⟩
 free := fun b u q n _ => by rw [zj (Nat.ne_of_lt (Nat.lt_of_lt_of_le (Heap.lt_size q) hp))]; exact n
 there := fun b u q _ => ⟨u, k b u q⟩
 tups := fun b xs q => by rw [zj (zu q hn)]; exact q
 frzs := fun b u xs q => by rw [zj (zu q hn)]; exact q
 tbls := fun b ps q => ⟨#[], by rw [zj (zu q hn), q]; simp⟩
theorem Un.write (mu : Mut (H x)) (he : e = x \/ H e = some (.own x)) (k : ∀ b u, b ≠ e -> h.get? b = some u -> h'.get? b = some u) (heo : ∃ u, h'.get? e = some u) : Un fs ex H (upd H x o) h h' := by
 have hx : ∀ b, H b = none -> b ≠ x := fun b n z => by subst z; rw [n] at mu; exact mu
 have hb : ∀ b, H b = none -> b ≠ e := fun b n z => by
  subst z
  rcases he with r | r
  ·exact hx b n r
  ·rw [n] at r; cases r
 have hm : ∀ b u, H b = some u -> ¬ Mut (some u) -> b ≠ x := fun b u q nm z => by subst z; rw [q] at mu; exact nm mu
 refine ⟨fun b u q n _ _ => k b u (hb b n) q, fun b u q n _ _ => ⟨u.slots, k b u (hb b n) q⟩, fun b u q n _ => by rw [zj (hx b n)]; exact n, fun b u q _ => ?_,
  fun b xs q => by rw [zj (hm b _ q fun z => z)]; exact q, fun b u xs q => by rw [zj (hm b _ q fun z => z)]; exact q, fun b ps q => ⟨#[], by rw [zj (hm b _ q fun z => z), q]; simp⟩⟩
 by_cases hbe : b = e
 ·subst hbe; exact heo
 ·exact ⟨u, k b u hbe q⟩
end
def trk (h : Heap) (H : Hp) : List Addr := (List.range h.objs.size).filter fun a => (H a).isSome
def kB (h : Heap) (H : Hp) : Heap := PySem.W.hideAll h (trk h H)
theorem zaO (h : Heap) (H : Hp) : (kB h H).objs.size = h.objs.size := PySem.W.hideAll_size _ _
theorem zbQ {h : Heap} {H : Hp} {b : Addr} {o : Obj} (e : h.get? b = some o) (n : H b = none) : (kB h H).get? b = some o :=
 PySem.W.hideAll_get _ e fun hm => by
  have q : (H b).isSome = true := (List.mem_filter.mp hm).2
  rw [n] at q; simp at q
theorem zdJ {h : Heap} {H : Hp} {b : Addr} {o : Obj} (e : (kB h H).get? b = some o) : h.get? b = some o /\ H b = none := by
 have e' : h.get? b = some o := PySem.W.of_hideAll (trk h H) e
 refine ⟨e', ?_⟩
 cases q : H b with
 | none => rfl
 | some x =>
  have hm : b ∈ trk h H := List.mem_filter.mpr ⟨List.mem_range.mpr (Heap.lt_size e'), by simp [q]⟩
  have z : (kB h H).get? b = none := PySem.W.hideAll_none (trk h H) hm
  rw [z] at e; cases e
def zdK (g h : Heap) (L : Addr) : Pq := (List.range h.objs.size).filterMap fun a => if a = L \/ (g.get? a).isSome = true then none else (h.get? a).map fun o => (a, o)
def rest (g h : Heap) (L d : Addr) : Pq := (zdK g h L).filter fun p => decide (p.1 ≠ d)
end L2
namespace L2
open PySem PySem.Spec PyProof.Rows
structure Mod (K : Fq) (mg : Mq) (base : Heap) : Prop where
 kin : K.In base
 glob : base.Ns mainGlobals mg
 blt : ∃ mb, base.Ns builtinsNs mb /\ ∀ x : Str, x ≠ "__name__" -> mb x = bootBuiltins x
 nolimit : base.NoLimit
structure Cx where
 prog : Program
 w : World
 K : Fq
 mg : Mq
 base : Heap
 A : Around
 N : List Str
 s₀ : Shared
 H₀ : Hp
 env : Env
 outer : List Env
 stack : List Env
 ex : List Addr
 fn : Str -> Bool
 calm : Bool
 pn : Pq
 xe : Value -> Shared -> Prop
def frs (l : List Env) : List Addr := l.filterMap (·.frame)
abbrev Cx.fs (X : Cx) : List Addr := frs X.outer
def Vis (sc : Scope) (x : Str) : Prop := sc.names.lookup x = some .local \/ sc.names.lookup x = some .cell \/ sc.names.lookup x = some .free
def Loc (sc : Scope) (x : Str) : Prop := sc.names.lookup x = some .local \/ sc.names.lookup x = some .cell
def Look (env : Env) (h : Heap) (m : Mq) (x : Str) (u : Value) : Prop :=
 (env.kindOf x = some .local /\ m x = some u) \/ ((env.kindOf x = some .cell \/ env.kindOf x = some .free) /\ ∃ c, env.cells.lookup x = some c /\ h.IsCell c (some u))
structure Cx.Ok (X : Cx) : Prop where
 mod : Mod X.K X.mg X.base
 kind : X.env.scope.kind = .function
 glob : X.env.globals = mainGlobals
 blt : X.env.builtins = builtinsNs
 above : X.s₀.heap.objs.size <= X.env.locals
 inj : ∀ x y c, X.env.cells.lookup x = some c -> X.env.cells.lookup y = some c -> x = y
 has : ∀ x, (X.env.kindOf x = some .cell \/ X.env.kindOf x = some .free) -> ∃ c, X.env.cells.lookup x = some c
 cab : ∀ x c, X.fn x = true -> X.env.cells.lookup x = some c -> X.s₀.heap.objs.size <= c
 hd : X.calm = true -> X.A.handled = none
 frames : X.A.frames = some X.stack
 stk : X.stack = X.outer \/ (X.stack = X.env :: X.outer /\ X.env.frame = some X.env.locals)
 exf : ∀ b ∈ X.ex, b ≠ X.env.locals /\ ∀ x c, X.env.cells.lookup x = some c -> c ≠ b
 bs : ∀ b o, X.base.get? b = some o -> X.s₀.heap.get? b = some o /\ X.H₀ b = none
 bsz : X.base.objs.size <= X.s₀.heap.objs.size
 noex : ∀ b o, X.base.get? b = some o -> b ∉ X.ex
 exfs : ∀ b ∈ X.ex, b ∉ X.fs
 funs : X.s₀.heap.FunFrames X.base X.outer
 frf : ∀ b ∈ X.fs, X.H₀ b = none
structure Inv (X : Cx) (pins : Pq) (σ : List (Option V)) (H : Hp) (s : Shared) : Prop where
 ok : X.Ok
 os : s.os = X.s₀.os
 bare : AllBare s.gens
 base : Un X.fs X.ex X.H₀ H X.s₀.heap s.heap
 loc : ∃ m, s.heap.Ns X.env.locals m /\ ∀ (i : Nat) (x : Str) (v : V), X.N[i]? = some x -> σ[i]? = some (some v) -> Vis X.env.scope x -> ∃ u, RelV v u /\ Look X.env s.heap m x u
 cell : ∀ x c, X.env.cells.lookup x = some c -> ∃ v, s.heap.IsCell c v
 free : H X.env.locals = none
 freeC : ∀ x c, X.env.cells.lookup x = some c -> H c = none
 pin : ∀ p ∈ X.pn ++ pins, s.heap.get? p.1 = some p.2 /\ H p.1 = none /\ p.1 ≠ X.env.locals /\ p.1 ∉ X.fs /\ ∀ v, p.2.data ≠ .cell v
 hok : HOk X.prog X.w H s.heap
 len : σ.length = X.N.length
section
variable {X : Cx} {pins : Pq} {σ : List (Option V)} {H H' : Hp} {s : Shared} {h' : Heap}
theorem Cx.Ok.nofr (ok : X.Ok) {b : Addr} {o : Obj} (e : X.base.get? b = some o) : b ∉ X.fs := fun hb => by
 have := (ok.funs.mem hb).1
 rw [e] at this; cases this
theorem Inv.bs (I : Inv X pins σ H s) : ∀ b o, X.base.get? b = some o -> s.heap.get? b = some o /\ H b = none := fun b o e =>
 ⟨I.base.keep b o (I.ok.bs b o e).1 (I.ok.bs b o e).2 (I.ok.nofr e) (I.ok.noex b o e), I.base.free b o (I.ok.bs b o e).1 (I.ok.bs b o e).2 (I.ok.noex b o e)⟩
theorem Inv.bk (I : Inv X pins σ H s) : ∀ b o, X.base.get? b = some o -> s.heap.get? b = some o := fun b o e => (I.bs b o e).1
theorem Inv.mod (I : Inv X pins σ H s) : Mod X.K X.mg X.base := I.ok.mod
theorem Inv.kIn (I : Inv X pins σ H s) : X.K.In s.heap := I.ok.mod.kin.keeps I.bk
theorem Inv.lt (I : Inv X pins σ H s) : X.env.locals < s.heap.objs.size := let ⟨_, hn, _⟩ := I.loc; hn.lt
theorem Inv.sz (I : Inv X pins σ H s) : X.s₀.heap.objs.size <= s.heap.objs.size := Nat.le_trans I.ok.above (Nat.le_of_lt I.lt)
theorem Inv.nofs (I : Inv X pins σ H s) {a : Addr} (h : s.heap.objs.size <= a) : a ∉ X.fs := fun hb => by
 obtain ⟨_, o, ho, _⟩ := I.ok.funs.mem hb
 exact absurd (Nat.lt_of_lt_of_le (Heap.lt_size ho) (Nat.le_trans I.sz h)) (Nat.lt_irrefl _)
theorem Inv.cne (I : Inv X pins σ H s) : ∀ x c, X.env.cells.lookup x = some c -> c ≠ X.env.locals := fun x c e z => by
 obtain ⟨v, o, ho, hd⟩ := I.cell x c e
 obtain ⟨m, ⟨o', es, ep, ho', hd', _⟩, _⟩ := I.loc
 rw [z, ho'] at ho; cases ho; rw [hd'] at hd; cases hd
theorem Inv.funs (I : Inv X pins σ H s) : s.heap.FunFrames X.base X.outer := by
 have all : ∀ (l : List Env), (∀ b ∈ frs l, b ∈ X.fs) -> X.s₀.heap.FunFrames X.base l -> s.heap.FunFrames X.base l := by
  intro l
  induction l with
  | nil => intro _ _; trivial
  | cons env r ih =>
   intro hs hl
   obtain ⟨hk, ⟨L, o, hf, hn, ho, hd⟩, hr⟩ := hl
   have hL : L ∈ X.fs := hs L (by unfold frs; rw [List.filterMap_cons, hf]; exact List.mem_cons_self)
   obtain ⟨sl, e⟩ := I.base.slot L o ho (I.ok.frf L hL) hL fun z => I.ok.exfs L z hL
   exact ⟨hk, ⟨L, _, hf, hn, e, hd⟩, ih (fun b hb => hs b (by unfold frs; rw [List.filterMap_cons, hf]; exact List.mem_cons_of_mem _ hb)) hr⟩
 exact all X.outer (fun _ hb => hb) I.ok.funs
theorem Inv.stack (I : Inv X pins σ H s) : s.heap.FunFrames X.base X.stack := by
 rcases I.ok.stk with e | ⟨e, hf⟩
 ·rw [e]; exact I.funs
 ·rw [e]
  obtain ⟨m, hn, _⟩ := I.loc
  refine .cons (by rw [I.ok.kind]; decide) hf hn ?_ I.funs
  exact Heap.get?_none_of_le (Nat.le_trans I.ok.bsz I.ok.above)
theorem Inv.stkSub (I : Inv X pins σ H s) : ∀ b ∈ frs X.stack, b ∈ X.env.locals :: X.fs := fun b hb => by
 rcases I.ok.stk with e | ⟨e, hf⟩
 ·rw [e] at hb; exact List.mem_cons_of_mem _ hb
 ·rw [e] at hb
  unfold frs at hb
  rw [List.filterMap_cons, hf] at hb
  exact hb
theorem Inv.stkFree (I : Inv X pins σ H s) : ∀ b ∈ frs X.stack, H b = none := fun b hb => by
 rcases List.mem_cons.mp (I.stkSub b hb) with e | hb
 ·rw [e]; exact I.free
 ·obtain ⟨_, o, ho, _⟩ := I.ok.funs.mem hb
  exact I.base.free b o ho (I.ok.frf b hb) fun z => I.ok.exfs b z hb
theorem Inv.step {g' : Array GenState} {t' : Nat} {d' : Drawn} {ch : List Addr} (I : Inv X pins σ H s)
  (hch : ∀ b ∈ ch, (b ∈ X.ex \/ X.s₀.heap.objs.size <= b) /\ b ≠ X.env.locals /\ (∀ x c, X.env.cells.lookup x = some c -> c ≠ b) /\ ∀ p ∈ X.pn ++ pins, p.1 ≠ b)
  (keep : ∀ b o, b ≠ X.env.locals -> b ∉ X.fs -> b ∉ ch -> s.heap.get? b = some o -> H b = none -> h'.get? b = some o)
  (slot : ∀ b o, b ≠ X.env.locals -> b ∈ X.fs -> b ∉ ch -> s.heap.get? b = some o -> H b = none -> ∃ sl, h'.get? b = some { o with slots := sl }) (free : ∀ b o, b ∉ ch -> s.heap.get? b = some o -> H b = none -> H' b = none)
  (there : ∀ b o, b ∉ ch -> s.heap.get? b = some o -> ∃ o', h'.get? b = some o')
  (tups : ∀ b xs, H b = some (.tup xs) -> H' b = some (.tup xs)) (frzs : ∀ b o u, H b = some (.frz o u) -> H' b = some (.frz o u)) (tbls : ∀ b ps, H b = some (.tbl ps) -> ∃ more, H' b = some (.tbl (ps ++ more)))
  (ns : ∀ m, s.heap.Ns X.env.locals m -> h'.Ns X.env.locals m) (hok : HOk X.prog X.w H' h') (hg : AllBare g') :
  Inv X pins σ H' { s with heap := h', gens := g', drawn := d', toks := t' } := by
 have neL : ∀ b o, X.s₀.heap.get? b = some o -> b ≠ X.env.locals := fun b o e => Nat.ne_of_lt (Nat.lt_of_lt_of_le (Heap.lt_size e) I.ok.above)
 have neC : ∀ b o, X.s₀.heap.get? b = some o -> b ∉ X.ex -> b ∉ ch := fun b o e hx hb => by
  rcases (hch b hb).1 with z | z
  ·exact hx z
  ·exact absurd (Nat.lt_of_lt_of_le (Heap.lt_size e) z) (Nat.lt_irrefl _)
 have cellK : ∀ x c, X.env.cells.lookup x = some c -> ∀ v, s.heap.IsCell c v -> h'.IsCell c v := fun x c e v ⟨o, ho, hd⟩ => by
  have nch : c ∉ ch := fun z => (hch c z).2.2.1 x c e rfl
  by_cases hc : c ∈ X.fs
  ·obtain ⟨sl, q⟩ := slot c o (I.cne x c e) hc nch ho (I.freeC x c e)
   exact ⟨_, q, hd⟩
  ·exact ⟨o, keep c o (I.cne x c e) hc nch ho (I.freeC x c e), hd⟩
 refine ⟨I.ok, I.os, hg, ⟨fun b o e n hb hx => ?_, fun b o e n hb hx => ?_, fun b o e n hx => ?_, fun b o e hx => ?_, fun b xs e => tups b xs (I.base.tups b xs e), fun b o xs e => frzs b o xs (I.base.frzs b o xs e), fun b ps e => ?_⟩, ?_, fun x c e => ?_, ?_, fun x c e => ?_, fun p hp => ?_, hok, I.len⟩
 ·exact keep b o (neL b o e) hb (neC b o e hx) (I.base.keep b o e n hb hx) (I.base.free b o e n hx)
 ·obtain ⟨sl, e1⟩ := I.base.slot b o e n hb hx
  obtain ⟨sl', e2⟩ := slot b _ (neL b o e) hb (neC b o e hx) e1 (I.base.free b o e n hx)
  exact ⟨sl', e2⟩
 ·obtain ⟨o', e1⟩ := I.base.there b o e hx
  exact free b o' (neC b o e hx) e1 (I.base.free b o e n hx)
 ·obtain ⟨o', e1⟩ := I.base.there b o e hx
  exact there b o' (neC b o e hx) e1
 ·obtain ⟨m1, e1⟩ := I.base.tbls b ps e
  obtain ⟨m2, e2⟩ := tbls b _ e1
  exact ⟨m1 ++ m2, by rw [e2, Array.append_assoc]⟩
 ·obtain ⟨m, hn, hl⟩ := I.loc
  refine ⟨m, ns m hn, fun i x v e1 e2 e3 => ?_⟩
  obtain ⟨u, r, l⟩ := hl i x v e1 e2 e3
  refine ⟨u, r, ?_⟩
  rcases l with l | ⟨k, c, e, z⟩
  ·exact .inl l
  ·exact .inr ⟨k, c, e, cellK x c e _ z⟩
 ·obtain ⟨v, z⟩ := I.cell x c e
  exact ⟨v, cellK x c e v z⟩
 ·obtain ⟨m, ⟨o, _, _, ho, _⟩, _⟩ := I.loc
  exact free _ o (fun z => (hch _ z).2.1 rfl) ho I.free
 ·obtain ⟨v, o, ho, hd⟩ := I.cell x c e
  exact free c o (fun z => (hch c z).2.2.1 x c e rfl) ho (I.freeC x c e)
 ·obtain ⟨e, n, ne, nf, d⟩ := I.pin p hp
  have nch : p.1 ∉ ch := fun z => (hch p.1 z).2.2.2 p hp rfl
  exact ⟨keep p.1 p.2 ne nf nch e n, free p.1 p.2 nch e n, ne, nf, d⟩
theorem Inv.un {t' : Nat} (I : Inv X pins σ H s) (u : Un X.fs [] H H' s.heap h') (hok : HOk X.prog X.w H' h') : Inv X pins σ H' { s with heap := h', toks := t' } := by
 obtain ⟨m, ⟨o, es, ep, ho, r⟩, _⟩ := id I.loc
 obtain ⟨sl, hL⟩ := u.any ho I.free (by simp)
 exact I.step (g' := s.gens) (d' := s.drawn) (ch := []) (fun _ z => nomatch z) (fun b o _ hb _ e n => u.keep b o e n hb (by simp)) (fun b o _ hb _ e n => u.slot b o e n hb (by simp)) (fun b o _ e n => u.free b o e n (by simp)) (fun b o _ e => u.there b o e (by simp)) u.tups u.frzs u.tbls (fun m' hm => by
  obtain ⟨o', es', ep', ho', r'⟩ := hm
  rw [ho] at ho'; cases ho'
  exact ⟨_, es', ep', hL, r'⟩) hok I.bare
theorem Inv.call {g' : Array GenState} {t' : Nat} {d' : Drawn} {ch : List Addr} (I : Inv X pins σ H s) (u : Un (frs X.stack) ch H H' s.heap h') (hok : HOk X.prog X.w H' h') (hg : AllBare g')
  (hch : ∀ b ∈ ch, (b ∈ X.ex \/ X.s₀.heap.objs.size <= b) /\ b ≠ X.env.locals /\ (∀ x c, X.env.cells.lookup x = some c -> c ≠ b) /\ ∀ p ∈ X.pn ++ pins, p.1 ≠ b) :
  Inv X pins σ H' { s with heap := h', gens := g', drawn := d', toks := t' } := by
 obtain ⟨m, ⟨o, es, ep, ho, r⟩, _⟩ := id I.loc
 obtain ⟨sl, hL⟩ := u.any ho I.free fun z => (hch _ z).2.1 rfl
 exact I.step (ch := ch) hch (fun b o hL hb hc e n => u.keep b o e n (fun z => (List.mem_cons.mp (I.stkSub b z)).elim hL hb) hc) (fun b o _ _ hc e n => u.any e n hc) (fun b o hc e n => u.free b o e n hc) (fun b o hc e => u.there b o e hc) u.tups u.frzs u.tbls (fun m' hm => by
  obtain ⟨o', es', ep', ho', r'⟩ := hm
  rw [ho] at ho'; cases ho'
  exact ⟨_, es', ep', hL, r'⟩) hok hg
theorem Inv.turned {t' : Nat} {it : Addr} (I : Inv X pins σ H s) (k : ∀ b o, b ≠ it -> s.heap.get? b = some o -> h'.get? b = some o) (hn : H it = none) (hL : it ≠ X.env.locals)
  (h1 : it ∈ X.ex \/ X.s₀.heap.objs.size <= it) (h2 : ∀ x c, X.env.cells.lookup x = some c -> c ≠ it) (h3 : ∀ p ∈ X.pn ++ pins, p.1 ≠ it) : Inv X pins σ H { s with heap := h', toks := t' } := by
 have nit : ∀ b u, H b = some u -> b ≠ it := fun b u e z => by rw [z, hn] at e; cases e
 refine I.step (g' := s.gens) (d' := s.drawn) (ch := [it]) (fun b hb => ?_) (fun b o _ _ hc e _ => k b o (fun z => hc (by simp [z])) e) (fun b o _ _ hc e _ => ⟨o.slots, k b o (fun z => hc (by simp [z])) e⟩) (fun _ _ _ _ n => n)
  (fun b o hc e => ⟨o, k b o (fun z => hc (by simp [z])) e⟩) (fun _ _ e => e) (fun _ _ _ e => e) (fun b ps e => ⟨#[], by rw [e]; simp⟩) (fun m hm => ?_) (fun b u e => ?_) I.bare
 ·have e : b = it := by simpa using hb
  subst e
  exact ⟨h1, hL, h2, h3⟩
 ·obtain ⟨o, es, ep, ho, r⟩ := hm
  exact ⟨o, es, ep, k _ o (Ne.symm hL) ho, r⟩
 ·refine (I.hok b u e).stay (fun c v hc q => k c v ?_ q) (fun _ q => q) fun _ _ q => q
  rcases hc with z | z
  ·rw [z]; exact nit b u e
  ·exact nit c _ z
theorem Inv.tok (I : Inv X pins σ H s) (t : Nat) : Inv X pins σ H { s with toks := t } := I.un (h' := s.heap) (t' := t) Un.refl I.hok
theorem Inv.kept {t' : Nat} (I : Inv X pins σ H s) (k : ∀ b u, s.heap.get? b = some u -> h'.get? b = some u) : Inv X pins σ H { s with heap := h', toks := t' } := I.un (Un.kept k) (I.hok.kept k)
theorem Inv.laid {a : Addr} {o : HO} {t' : Nat} (I : Inv X pins σ H s) (k : ∀ b u, s.heap.get? b = some u -> h'.get? b = some u) (hp : s.heap.objs.size <= a) (new : ObjOk X.prog X.w (upd H a o) h' a o) :
  Inv X pins σ (upd H a o) { s with heap := h', toks := t' } := I.un (Un.laid k hp (I.hok.fresh hp)) (I.hok.laid k hp new)
theorem Inv.write {x e : Addr} {o : HO} {t' : Nat} (I : Inv X pins σ H s) (mu : Mut (H x)) (he : e = x \/ H e = some (.own x)) (k : ∀ b u, b ≠ e -> s.heap.get? b = some u -> h'.get? b = some u) (heo : ∃ u, h'.get? e = some u)
  (new : ObjOk X.prog X.w (upd H x o) h' x o) : Inv X pins σ (upd H x o) { s with heap := h', toks := t' } := I.un (Un.write mu he k heo) (I.hok.write mu he k heo new)
theorem Inv.pins_of {pins' : Pq} (I : Inv X pins σ H s) (h : ∀ p ∈ pins', s.heap.get? p.1 = some p.2 /\ H p.1 = none /\ p.1 ≠ X.env.locals /\ p.1 ∉ X.fs /\ ∀ v, p.2.data ≠ .cell v) : Inv X pins' σ H s :=
 ⟨I.ok, I.os, I.bare, I.base, I.loc, I.cell, I.free, I.freeC, fun p hp => (List.mem_append.mp hp).elim (fun z => I.pin p (List.mem_append_left _ z)) (h p), I.hok, I.len⟩
theorem qk {N : List Str} (hN : N.Nodup) {i j : Nat} {x : Str} (a : N[i]? = some x) (b : N[j]? = some x) : i = j := by
 obtain ⟨h1, e1⟩ := List.getElem?_eq_some_iff.mp a
 obtain ⟨h2, e2⟩ := List.getElem?_eq_some_iff.mp b
 exact (List.getElem_inj hN).mp (e1.trans e2.symm)
theorem xX {M : Model} {A : Around} {E : Value -> Shared -> Prop} {i : Nat} {x : Str} {v : V} {u : Value} {Q : Unit -> Shared -> Prop} (I : Inv X pins σ H s) (hN : X.N.Nodup) (hi : X.N[i]? = some x) (hx : Loc X.env.scope x) (r : RelV v u)
  (h : ∀ s', Inv X pins (σ.set i (some v)) H s' -> (∃ a, Heap.SameBut a s.heap s'.heap /\ (a = X.env.locals \/ X.env.cells.lookup x = some a)) -> Q () s') (hf : X.fn x = true \/ X.env.scope.names.lookup x = some .local := by first | exact .inl rfl | exact .inr rfl | assumption) : wpAny M A (storeName X.env x u) Q E s := by
 obtain ⟨m, hn, hl⟩ := id I.loc
 have hcls : (X.env.scope.kind == .class || (X.env.scope.kind == .module && X.env.locals != X.env.globals)) = false := by rw [I.ok.kind]; rfl
 have hiσ : i < σ.length := by rw [I.len]; exact (List.getElem?_eq_some_iff.mp hi).1
 have cne := I.cne
 have tracked : ∀ {a : Addr} {h' : Heap}, (∃ o, s.heap.get? a = some o /\ H a = none) -> Heap.SameBut a s.heap h' -> HOk X.prog X.w H h' := fun {a h'} ha hs b ob e => by
  obtain ⟨_, _, hfree⟩ := ha
  refine (I.hok b ob e).stay (fun c w' hc q => (hs.2 c ?_).trans q) (fun _ q => q) fun _ _ q => q
  rintro rfl
  rcases hc with rfl | hc
  ·rw [hfree] at e; cases e
  ·rw [hfree] at hc; cases hc
 rcases hx with hk | hk
 ·refine wpAny_storeName_local hk hn (fun h' hn' hs => ?_) hcls
  obtain ⟨oL, _, _, hoL, _⟩ := id hn
  refine h _ ⟨I.ok, I.os, I.bare, ⟨fun b o e n hb hx => ?_, fun b o e n hb hx => ?_, I.base.free, fun b o e hx => ?_, I.base.tups, I.base.frzs, I.base.tbls⟩, ⟨_, hn', fun j y v' e1 e2 e3 => ?_⟩, fun y c e => ?_, I.free, I.freeC, fun p hp => ?_, tracked ⟨oL, hoL, I.free⟩ hs, by simpa using I.len⟩ ⟨_, hs, .inl rfl⟩
  ·exact (hs.2 b (Nat.ne_of_lt (Nat.lt_of_lt_of_le (Heap.lt_size e) I.ok.above))).trans (I.base.keep b o e n hb hx)
  ·obtain ⟨sl, e1⟩ := I.base.slot b o e n hb hx
   exact ⟨sl, (hs.2 b (Nat.ne_of_lt (Nat.lt_of_lt_of_le (Heap.lt_size e) I.ok.above))).trans e1⟩
  ·obtain ⟨o', e1⟩ := I.base.there b o e hx
   exact ⟨o', (hs.2 b (Nat.ne_of_lt (Nat.lt_of_lt_of_le (Heap.lt_size e) I.ok.above))).trans e1⟩
  ·by_cases hj : j = i
   ·subst hj
    rw [hi] at e1; cases e1
    rw [List.getElem?_set_self hiσ] at e2
    cases e2
    exact ⟨u, r, .inl ⟨hk, by simp⟩⟩
   ·rw [List.getElem?_set_ne (Ne.symm hj)] at e2
    obtain ⟨u', r', q⟩ := hl j y v' e1 e2 e3
    refine ⟨u', r', ?_⟩
    rcases q with ⟨k, e⟩ | ⟨k, c, e, z⟩
    ·refine .inl ⟨k, ?_⟩
     have : y ≠ x := fun e => hj (qk hN e1 (e ▸ hi))
     simp [this, e]
    ·exact .inr ⟨k, c, e, z.sameBut hs (cne y c e)⟩
  ·obtain ⟨w', z⟩ := I.cell y c e
   exact ⟨w', z.sameBut hs (cne y c e)⟩
  ·obtain ⟨e, n, ne, nf, d⟩ := I.pin p hp
   exact ⟨(hs.2 p.1 ne).trans e, n, ne, nf, d⟩
 ·have hfn : X.fn x = true := by
   rcases hf with z | z
   ·exact z
   ·rw [z] at hk; cases hk
  obtain ⟨c, hc⟩ := I.ok.has x (.inl hk)
  obtain ⟨w', z⟩ := I.cell x c hc
  refine wpAny_storeName_cell I.ok.kind hk hc z (fun h' hc' hs => ?_)
  obtain ⟨oc, hoc, hocd⟩ := id z
  refine h { s with heap := h' } ⟨I.ok, I.os, I.bare, ⟨fun b o e n hb hx => ?_, fun b o e n hb hx => ?_, I.base.free, fun b o e hx => ?_, I.base.tups, I.base.frzs, I.base.tbls⟩, ⟨m, hn.sameBut hs (Ne.symm (cne x c hc)), fun j y v' e1 e2 e3 => ?_⟩, fun y c' e => ?_, I.free, I.freeC, fun p hp => ?_, tracked ⟨oc, hoc, I.freeC x c hc⟩ hs, by simpa using I.len⟩ ⟨c, hs, .inr hc⟩
  ·exact (hs.2 b (Nat.ne_of_lt (Nat.lt_of_lt_of_le (Heap.lt_size e) (I.ok.cab x c hfn hc)))).trans (I.base.keep b o e n hb hx)
  ·obtain ⟨sl, e1⟩ := I.base.slot b o e n hb hx
   exact ⟨sl, (hs.2 b (Nat.ne_of_lt (Nat.lt_of_lt_of_le (Heap.lt_size e) (I.ok.cab x c hfn hc)))).trans e1⟩
  ·obtain ⟨o', e1⟩ := I.base.there b o e hx
   exact ⟨o', (hs.2 b (Nat.ne_of_lt (Nat.lt_of_lt_of_le (Heap.lt_size e) (I.ok.cab x c hfn hc)))).trans e1⟩
  ·by_cases hj : j = i
   ·subst hj
    rw [hi] at e1; cases e1
    rw [List.getElem?_set_self hiσ] at e2
    cases e2
    exact ⟨u, r, .inr ⟨.inl hk, c, hc, hc'⟩⟩
   ·rw [List.getElem?_set_ne (Ne.symm hj)] at e2
    obtain ⟨u', r', q⟩ := hl j y v' e1 e2 e3
    refine ⟨u', r', ?_⟩
    rcases q with q | ⟨k, c', e, z'⟩
    ·exact .inl q
    ·refine .inr ⟨k, c', e, z'.sameBut hs ?_⟩
     rintro rfl
     exact hj (qk hN e1 (I.ok.inj _ _ _ e hc ▸ hi))
  ·by_cases hcc : c' = c
   ·subst hcc; exact ⟨_, hc'⟩
   ·obtain ⟨w2, z2⟩ := I.cell y c' e
    exact ⟨w2, z2.sameBut hs hcc⟩
  ·obtain ⟨e, n, ne, nf, d⟩ := I.pin p hp
   refine ⟨(hs.2 p.1 ?_).trans e, n, ne, nf, d⟩
   intro q
   rw [q, hoc] at e
   have q' : oc = p.2 := Option.some.inj e
   exact d w' (by rw [<- q']; exact hocd)
theorem jr {M : Model} {A : Around} {E : Value -> Shared -> Prop} {i : Nat} {x : Str} {v : V} {u : Value} {Q : Unit -> Shared -> Prop} (I : Inv X pins σ H s) (hN : X.N.Nodup) (hi : X.N[i]? = some x) (hx : Loc X.env.scope x) (r : RelV v u)
  (h : ∀ s', Inv X pins (σ.set i (some v)) H s' -> Q () s') (hf : X.fn x = true \/ X.env.scope.names.lookup x = some .local := by first | exact .inl rfl | exact .inr rfl | assumption) : wpAny M A (storeName X.env x u) Q E s :=
 xX I hN hi hx r (fun s' I' _ => h s' I') hf
theorem Inv.call' {s' : Shared} {ch : List Addr} (I : Inv X pins σ H s) (ho : s'.os = s.os) (u : Un (frs X.stack) ch H H' s.heap s'.heap) (hok : HOk X.prog X.w H' s'.heap) (hg : AllBare s'.gens)
  (hch : ∀ b ∈ ch, (b ∈ X.ex \/ X.s₀.heap.objs.size <= b) /\ b ≠ X.env.locals /\ (∀ x c, X.env.cells.lookup x = some c -> c ≠ b) /\ ∀ p ∈ X.pn ++ pins, p.1 ≠ b) : Inv X pins σ H' s' := by
 obtain ⟨h', g', d', t', o'⟩ := s'
 have e : o' = s.os := ho
 subst e
 exact I.call (g' := g') (t' := t') (d' := d') u hok hg hch
end
abbrev XK := Value -> Option Addr -> Hp -> Prop
abbrev St := List (Option V)
abbrev VK := V -> Hp -> Prop
abbrev TE := St -> Hp -> VK -> Prop
abbrev TT := St -> Hp -> (Bool -> Hp -> Prop) -> Prop
abbrev TA := St -> Hp -> (List V -> Hp -> Prop) -> Prop
structure Ends where
 nx : St -> Hp -> Prop
 rt : VK
 bk : St -> Hp -> Prop := fun _ _ => False
 ct : St -> Hp -> Prop := fun _ _ => False
abbrev TS := Ends -> St -> Hp -> Prop
def EP (X : Cx) (pins : Pq) (σ : St) (Q : VK) (u : Value) (s' : Shared) : Prop := ∃ v H', Inv X pins σ H' s' /\ RelV v u /\ Q v H'
def TP (X : Cx) (pins : Pq) (σ : St) (Q : Bool -> Hp -> Prop) (b : Bool) (s' : Shared) : Prop := ∃ H', Inv X pins σ H' s' /\ Q b H'
def AP (X : Cx) (pins : Pq) (σ : St) (Q : List V -> Hp -> Prop) (us : List Value) (s' : Shared) : Prop := ∃ vs H', Inv X pins σ H' s' /\ Vals vs us /\ Q vs H'
def SP (X : Cx) (pins : Pq) (D : Ends) (f : Flow) (s' : Shared) : Prop :=
 match f with
 | .next => ∃ σ' H', Inv X pins σ' H' s' /\ D.nx σ' H'
 | .brk => ∃ σ' H', Inv X pins σ' H' s' /\ D.bk σ' H'
 | .cont => ∃ σ' H', Inv X pins σ' H' s' /\ D.ct σ' H'
 | .ret u => ∃ v σ' H', Inv X pins σ' H' s' /\ RelV v u /\ D.rt v H'
def PE (X : Cx) (e : Expr) (t : TE) : Prop :=
 ∀ (pins : Pq) (s : Shared) (σ : St) (H : Hp) (Q : VK), Inv X pins σ H s -> t σ H Q -> wpAny (model X.prog X.w) X.A (eval e X.env) (EP X pins σ Q) X.xe s
def PT (X : Cx) (e : Expr) (t : TT) : Prop :=
 ∀ (pins : Pq) (s : Shared) (σ : St) (H : Hp) (Q : Bool -> Hp -> Prop), Inv X pins σ H s -> t σ H Q -> wpAny (model X.prog X.w) X.A (isTrue e X.env (eval e X.env)) (TP X pins σ Q) X.xe s
def PW (X : Cx) (e : Expr) (t : TT) : Prop :=
 ∀ (whole : Sem Value) (pins : Pq) (s : Shared) (σ : St) (H : Hp) (Q : Bool -> Hp -> Prop), Inv X pins σ H s -> t σ H Q -> wpAny (model X.prog X.w) X.A (isTrue e X.env whole) (TP X pins σ Q) X.xe s
theorem PW.pt {X : Cx} {e : Expr} {t : TT} (h : PW X e t) : PT X e t := h _
def PA (X : Cx) (es : List Expr) (t : TA) : Prop :=
 ∀ (pos : Pos) (pins : Pq) (s : Shared) (σ : St) (H : Hp) (Q : List V -> Hp -> Prop), Inv X pins σ H s -> t σ H Q -> wpAny (model X.prog X.w) X.A (spliced (backTo pos (starEach es X.env))) (AP X pins σ Q) X.xe s
def PS (X : Cx) (st : Stmt) (t : TS) : Prop :=
 ∀ (pins : Pq) (s : Shared) (σ : St) (H : Hp) (D : Ends), Inv X pins σ H s -> t D σ H -> wpAny (model X.prog X.w) X.A (exec st X.env) (SP X pins D) X.xe s
def PSs (X : Cx) (st : List Stmt) (t : TS) : Prop :=
 ∀ (pins : Pq) (s : Shared) (σ : St) (H : Hp) (D : Ends), Inv X pins σ H s -> t D σ H -> wpAny (model X.prog X.w) X.A (execs st X.env) (SP X pins D) X.xe s
theorem thn {α : Type} {t : Sem α} {Q Q' : α -> Shared -> Prop} {M : Model} {A : Around} {E : Value -> Shared -> Prop} {s : Shared} (h : wpAny M A t Q E s) (hQ : ∀ a s, Q a s -> Q' a s) : wpAny M A t Q' E s := wpAny_mono h hQ fun _ _ x => x
end L2
namespace L2
open PySem PySem.Spec PyProof.Rows
section
variable {X : Cx}
theorem bin {a b : Expr} {ta tb : TE} (ha : PE X a ta) (hb : PE X b tb) {pins : Pq} {s : Shared} {σ : St} {H : Hp} {R : V -> V -> Hp -> Prop} (I : Inv X pins σ H s) (h : ta σ H fun x H1 => tb σ H1 fun y H2 => R x y H2)
  {α : Type} {Q : α -> Shared -> Prop} {f : Value -> Value -> Sem α}
  (hf : ∀ v u s2 x y H2, Inv X pins σ H2 s2 -> RelV x v -> RelV y u -> R x y H2 -> wpAny (model X.prog X.w) X.A (f v u) Q X.xe s2) :
  wpAny (model X.prog X.w) X.A (eval a X.env) (fun v s₁ => wpAny (model X.prog X.w) X.A (eval b X.env) (fun u s₂ => wpAny (model X.prog X.w) X.A (f v u) Q X.xe s₂) X.xe s₁) X.xe s := by
 refine thn (ha pins s σ H _ I h) fun v s1 ⟨x, H1, I1, r1, q1⟩ => ?_
 refine thn (hb pins s1 σ H1 _ I1 q1) fun u s2 ⟨y, H2, I2, r2, q2⟩ => ?_
 exact hf v u s2 x y H2 I2 r1 r2 q2
def tVar (i : Nat) : TE := fun σ H Q => ∃ v, σ[i]? = some (some v) /\ Q v H
def tC (v : V) : TE := fun _ H Q => Q v H
theorem zeA {i : Nat} {x : Str} {pos : Pos} (hN : X.N[i]? = some x) (hv : Vis X.env.scope x) (hd : (x == ("__debug__" : Str)) = false := by decide) (hcd : (x == ("__classdict__" : Str)) = false := by decide) : PE X (.Name x pos) (tVar i) := by
 intro pins s σ H Q I h
 obtain ⟨v, e, h⟩ := h
 obtain ⟨m, hn, hl⟩ := I.loc
 obtain ⟨u, r, l⟩ := hl i x v hN e hv
 have fin : EP X pins σ Q u s := ⟨v, H, I, r, h⟩
 rcases l with ⟨hk, hm⟩ | ⟨hk, c, hc, hcell⟩
 ·exact wpAny_Name (wpAny_loadName_local I.ok.kind hk hn hm fin) hd
 ·rcases hk with hk | hk
  ·exact wpAny_Name (wpAny_loadName_cell I.ok.kind hk hc hcell fin) hd
  ·exact wpAny_Name (wpAny_loadName_free I.ok.kind hk hc hcell fin hcd) hd
theorem zb {i j pos} : PE X (.Constant (.int i) j pos) (tC (.int i)) := fun _ _ _ H _ I h => wpAny_Constant_int ⟨.int i, H, I.tok _, ⟨_, rfl⟩, h⟩
theorem yd {x j pos} : PE X (.Constant (.str x) j pos) (tC (.str x)) := fun _ _ _ H _ I h => Calls.Constant_str ⟨.str x, H, I.tok _, ⟨_, rfl⟩, h⟩
def Gl (X : Cx) (x : Str) : Prop := X.env.kindOf x = some .globalImplicit
theorem yT {E : Value -> Shared -> Prop} {pins : Pq} {s : Shared} {σ : St} {H : Hp} {x : Str} {u : Value} {pos : Pos} {Q : Value -> Shared -> Prop} (I : Inv X pins σ H s) (hg : Gl X x) (hm : X.mg x = some u) (h : Q u s)
  (hd : (x == ("__debug__" : Str)) = false := by decide) : wpAny (model X.prog X.w) X.A (eval (.Name x pos) X.env) Q E s :=
 Calls.Name_function_global I.ok.kind hg (Calls.loadGlobal_global (by rw [I.ok.glob]; exact I.mod.glob.keeps I.bk) hm h) hd
theorem xK {E : Value -> Shared -> Prop} {pins : Pq} {s : Shared} {σ : St} {H : Hp} {x : Str} {u : Value} {pos : Pos} {Q : Value -> Shared -> Prop} (I : Inv X pins σ H s) (hg : Gl X x) (hm : X.mg x = none) (hv : bootBuiltins x = some u) (h : Q u s)
  (hn : x ≠ "__name__" := by decide) (hd : (x == ("__debug__" : Str)) = false := by decide) : wpAny (model X.prog X.w) X.A (eval (.Name x pos) X.env) Q E s := by
 obtain ⟨mb, h1, h2⟩ := I.mod.blt
 exact Calls.Name_function_global I.ok.kind hg (Calls.loadGlobal_builtin (by rw [I.ok.glob]; exact I.mod.glob.keeps I.bk) hm (by rw [I.ok.blt]; exact h1.keeps I.bk) ((h2 x hn).trans hv) h) hd
theorem kC {x : Str} {v : V} {u : Value} {pos : Pos} (hg : Gl X x) (hm : X.mg x = some u) (r : RelV v u) (hd : (x == ("__debug__" : Str)) = false := by decide) : PE X (.Name x pos) (tC v) :=
 fun _ _ _ H _ I h => yT I hg hm ⟨v, H, I, r, h⟩ hd
theorem zdL {x : Str} {v : V} {u : Value} {pos : Pos} (hg : Gl X x) (hm : X.mg x = none) (hv : bootBuiltins x = some u) (r : RelV v u) (hn : x ≠ "__name__" := by decide) (hd : (x == ("__debug__" : Str)) = false := by decide) : PE X (.Name x pos) (tC v) :=
 fun _ _ _ H _ I h => xK I hg hm hv ⟨v, H, I, r, h⟩ hn hd
variable {a b : Expr} {ta tb : TE} {pos : Pos}
variable {tA tB' : TT} {rest : List Expr}
def tAnd (t u : TT) : TT := fun σ H Q => t σ H fun c H1 => if c = true then u σ H1 Q else Q false H1
def tOr (t u : TT) : TT := fun σ H Q => t σ H fun c H1 => if c = true then Q true H1 else u σ H1 Q
def tNot (t : TT) : TT := fun σ H Q => t σ H fun c H1 => Q (!c) H1
theorem zdM (ha : PT X a tA) : PW X (.BoolOp .And [a] pos) tA := by
 intro wh pins s σ H Q I h
 refine isTrue_and (thn (ha pins s σ H Q I h) fun c s1 e => ?_)
 cases c with
 | true => exact isTrue_and_nil e
 | false => exact e
theorem zeB (ha : PT X a tA) : PW X (.BoolOp .Or [a] pos) tA := by
 intro wh pins s σ H Q I h
 refine isTrue_or (thn (ha pins s σ H Q I h) fun c s1 e => ?_)
 cases c with
 | false => exact isTrue_or_nil e
 | true => exact e
theorem zeC (ha : PT X a tA) (hb : PW X (.BoolOp .And (b :: rest) pos) tB') : PW X (.BoolOp .And (a :: b :: rest) pos) (tAnd tA tB') := by
 intro wh pins s σ H Q I h
 refine isTrue_and (thn (ha pins s σ H _ I h) fun c s1 ⟨H1, I1, q1⟩ => ?_)
 cases c with
 | true => exact hb wh pins s1 σ H1 Q I1 q1
 | false => exact ⟨H1, I1, q1⟩
theorem pw_or (ha : PT X a tA) (hb : PW X (.BoolOp .Or (b :: rest) pos) tB') : PW X (.BoolOp .Or (a :: b :: rest) pos) (tOr tA tB') := by
 intro wh pins s σ H Q I h
 refine isTrue_or (thn (ha pins s σ H _ I h) fun c s1 ⟨H1, I1, q1⟩ => ?_)
 cases c with
 | true => exact ⟨H1, I1, q1⟩
 | false => exact hb wh pins s1 σ H1 Q I1 q1
theorem yv (ha : PT X a tA) : PT X (.UnaryOp .Not a pos) (tNot tA) := by
 intro pins s σ H Q I h
 exact isTrue_not (ha pins s σ H (fun c H1 => Q (!c) H1) I h)
def tOrV (ta tb : TE) : TE := fun σ H Q => ta σ H fun x H1 => ∃ c, x = .bl c /\ if c = true then Q (.bl true) H1 else tb σ H1 Q
theorem zeD {op} {t : TE} (h : PE X a t) : PE X (.BoolOp op [a] pos) t := fun pins s σ H Q I hw => BoolOp_one (h pins s σ H Q I hw)
theorem pe_or (ha : PE X a ta) (hb : PE X (.BoolOp .Or (b :: rest) pos) tb) : PE X (.BoolOp .Or (a :: b :: rest) pos) (tOrV ta tb) := by
 intro pins s σ H Q I h
 refine BoolOp_or (thn (ha pins s σ H _ I h) fun v s1 ⟨x, H1, I1, r1, q1⟩ => ?_)
 obtain ⟨c, rfl, q1⟩ := q1
 cases r1
 refine wpAny_truthy_bool ?_
 cases c with
 | false => exact hb pins s1 σ H1 Q I1 q1
 | true => exact ⟨.bl true, H1, I1, rfl, q1⟩
end
end L2
namespace L2
open PySem PySem.Spec PyProof.Rows
def SqL (K : Fq) (H : Hp) (a : Addr) (xs : List V) : Prop :=
 Rd H a (.lst xs) ∨
  ∃ (o : Obj) (its : Array Value) (n : Nat), K.lookup a = some o /\ o.cls = .type "list" /\ o.dict = none /\ o.data = .seq its n /\ its.size <= sizeLine /\ Vals xs its.toList
def SqT (K : Fq) (H : Hp) (a : Addr) (xs : List V) : Prop :=
 Rd H a (.tup xs) ∨
  ∃ (o : Obj) (its : Array Value) (n : Nat), K.lookup a = some o /\ o.cls = .type "tuple" /\ o.data = .seq its n /\ its.size <= sizeLine /\ Vals xs its.toList
def absV : Value -> Option V
 | .none => some .non
 | .bool b => some (.bl b)
 | .int i _ => some (.int i)
 | .str x _ => some (.str x)
 | .bytes b _ => some (.byt b)
 | .float b _ => some (.flt b)
 | .ref a => some (.ref a)
 | .type n => some (.ty n)
 | _ => none
theorem RelV.abs {x : V} {u : Value} (r : RelV x u) : absV u = some x := by
 cases x with
 | non => cases r; rfl
 | bl _ => cases r; rfl
 | int _ => obtain ⟨t, rfl⟩ := r; rfl
 | str _ => obtain ⟨t, rfl⟩ := r; rfl
 | byt _ => obtain ⟨t, rfl⟩ := r; rfl
 | flt _ => obtain ⟨t, rfl⟩ := r; rfl
 | ref _ => cases r; rfl
 | ty _ => cases r; rfl
theorem RelV.inj {x y : V} {u : Value} (r : RelV x u) (q : RelV y u) : x = y := Option.some.inj (r.abs.symm.trans q.abs)
theorem Vals.inj : ∀ {xs ys : List V} {us : List Value}, Vals xs us -> Vals ys us -> xs = ys
 | _, _, _, .nil, .nil => rfl
 | _, _, _, .cons r t, .cons r' t' => by rw [r.inj r', Vals.inj t t']
section
variable {X : Cx} {pins : Pq} {σ : St} {H : Hp} {s : Shared} {a : Addr} {xs ys : List V}
theorem SqL.of {K : Fq} (h : H a = some (.lst xs)) : SqL K H a xs := .inl (.inl h)
theorem SqT.of {K : Fq} (h : H a = some (.tup xs)) : SqT K H a xs := .inl (.inl h)
theorem Inv.list (I : Inv X pins σ H s) (h : SqL X.K H a xs) : ∃ its : List Value, Vals xs its /\ PlainL s.heap a its.toArray /\ xs.length <= sizeLine := by
 rcases h with h | ⟨o, its, n, hk, hc, hd, hs, hz, r⟩
 ·obtain ⟨z, its, n, r, e⟩ := h.ok I.hok
  exact ⟨its, r, ⟨_, n, e, rfl, rfl, rfl⟩, z⟩
 ·refine ⟨its.toList, r, ⟨o, n, I.kIn a o hk, hc, hd, by simpa using hs⟩, ?_⟩
  have e := r.length
  simp only [Array.length_toList] at e
  omega
theorem Inv.tuple (I : Inv X pins σ H s) (h : SqT X.K H a xs) : ∃ its : List Value, Vals xs its /\ IsTup s.heap a its.toArray /\ xs.length <= sizeLine := by
 rcases h with h | ⟨o, its, n, hk, hc, hs, hz, r⟩
 ·obtain ⟨z, its, r, p⟩ := h.ok I.hok
  exact ⟨its, r, p, z⟩
 ·refine ⟨its.toList, r, ⟨o, I.kIn a o hk, hc, n, by simpa using hs⟩, ?_⟩
  have e := r.length
  simp only [Array.length_toList] at e
  omega
theorem Inv.list_inj (I : Inv X pins σ H s) (h : SqL X.K H a xs) (h' : SqL X.K H a ys) : xs = ys := by
 obtain ⟨its, r, ⟨o, n, e, _, _, d⟩, _⟩ := I.list h
 obtain ⟨its', r', ⟨o', n', e', _, _, d'⟩, _⟩ := I.list h'
 rw [e] at e'; cases e'
 rw [d] at d'
 injection d' with d1 _
 have : its = its' := by simpa using congrArg Array.toList d1
 subst this
 exact r.inj r'
end
abbrev Cx.wish (X : Cx) (E : Value -> Shared -> Prop) : Cx := { X with xe := E }
abbrev Cx.nox (X : Cx) : Cx := X.wish fun _ _ => False
theorem Cx.Ok.wish {X : Cx} (ok : X.Ok) (E : Value -> Shared -> Prop) : (X.wish E).Ok :=
 ⟨ok.mod, ok.kind, ok.glob, ok.blt, ok.above, ok.inj, ok.has, ok.cab, ok.hd, ok.frames, ok.stk, ok.exf, ok.bs, ok.bsz, ok.noex, ok.exfs, ok.funs, ok.frf⟩
theorem Cx.Ok.unwish {X : Cx} {E : Value -> Shared -> Prop} (ok : (X.wish E).Ok) : X.Ok :=
 ⟨ok.mod, ok.kind, ok.glob, ok.blt, ok.above, ok.inj, ok.has, ok.cab, ok.hd, ok.frames, ok.stk, ok.exf, ok.bs, ok.bsz, ok.noex, ok.exfs, ok.funs, ok.frf⟩
section
variable {X : Cx} {pins : Pq} {σ : St} {H : Hp} {s : Shared} {E : Value -> Shared -> Prop}
theorem Inv.wish (I : Inv X pins σ H s) (E : Value -> Shared -> Prop) : Inv (X.wish E) pins σ H s := ⟨I.ok.wish E, I.os, I.bare, I.base, I.loc, I.cell, I.free, I.freeC, I.pin, I.hok, I.len⟩
theorem Inv.unwish (I : Inv (X.wish E) pins σ H s) : Inv X pins σ H s := ⟨I.ok.unwish, I.os, I.bare, I.base, I.loc, I.cell, I.free, I.freeC, I.pin, I.hok, I.len⟩
theorem SP.unwish {D : Ends} {f : Flow} {s' : Shared} (h : SP (X.wish E) pins D f s') : SP X pins D f s' := by
 cases f with
 | next => obtain ⟨σ', H', I, q⟩ := h; exact ⟨σ', H', I.unwish, q⟩
 | brk => obtain ⟨σ', H', I, q⟩ := h; exact ⟨σ', H', I.unwish, q⟩
 | cont => obtain ⟨σ', H', I, q⟩ := h; exact ⟨σ', H', I.unwish, q⟩
 | ret u => obtain ⟨v, σ', H', I, r, q⟩ := h; exact ⟨v, σ', H', I.unwish, r, q⟩
theorem PSs.nox {st : List Stmt} {t : TS} (h : PSs X.nox st t) : PSs X st t := fun pins s σ H D I hw =>
 wpAny_mono (h pins s σ H D (I.wish _) hw) (fun _ _ q => q.unwish) fun _ _ z => False.elim z
end
section
variable {X : Cx} {st : Stmt} {rest : List Stmt} {t u : TS} {e : Expr} {te : TE} {pos : Pos}
def tNext : TS := fun D σ H => D.nx σ H
def tSeq (t u : TS) : TS := fun D σ H => t { D with nx := u D } σ H
theorem zE : PSs X [] tNext := fun _ _ σ H _ I h => wpAny_execs_nil ⟨σ, H, I, h⟩
theorem zf (h1 : PS X st t) (h2 : PSs X rest u) : PSs X (st :: rest) (tSeq t u) := by
 intro pins s σ H D I h
 refine wpAny_execs_cons (thn (h1 pins s σ H { D with nx := u D } I h) fun f s1 q => ?_)
 cases f with
 | next =>
  obtain ⟨σ', H', I', q⟩ := q
  exact h2 pins s1 σ' H' D I' q
 | ret v => exact q
 | brk => exact q
 | cont => exact q
theorem ze (h1 : PS X st t) : PSs X [st] t := by
 intro pins s σ H D I h
 refine wpAny_execs_cons (thn (h1 pins s σ H D I h) fun f s1 q => ?_)
 cases f with
 | next => exact wpAny_execs_nil q
 | ret v => exact q
 | brk => exact q
 | cont => exact q
theorem Inv.quiet {pins : Pq} {σ : St} {H : Hp} {s : Shared} (I : Inv X pins σ H s) : interactive X.env = false := by simp [interactive, I.ok.kind]
def tDrop (te : TE) : TS := fun D σ H => te σ H fun _ H1 => D.nx σ H1
theorem zi (he : PE X e te) (hs : swapsWith e none pos.line X.env = pure false := by rfl) : PS X (.Expr e pos) (tDrop te) := by
 intro pins s σ H D I h
 exact wpAny_Expr_any (thn (he pins s σ H _ I h) fun v s1 ⟨x, H1, I1, r1, q1⟩ => ⟨σ, H1, I1, q1⟩) I.quiet hs
def tRet (te : TE) : TS := fun D σ H => te σ H D.rt
theorem zV (he : PE X e te) : PS X (.Return (some e) pos) (tRet te) := by
 intro pins s σ H D I h
 exact wpAny_Return_some (thn (he pins s σ H _ I h) fun v s1 ⟨x, H1, I1, r1, q1⟩ => ⟨x, σ, H1, I1, r1, q1⟩)
def tIfS (c : TT) (t u : TS) : TS := fun D σ H => c σ H fun b H1 => if b = true then t D σ H1 else u D σ H1
theorem zy {c : Expr} {a b : List Stmt} {tc : TT} (hc : PT X c tc) (ha : PSs X a t) (hb : PSs X b u) : PS X (.If c a b pos) (tIfS tc t u) := by
 intro pins s σ H D I h
 refine wpAny_If (thn (hc pins s σ H _ I h) fun d s1 ⟨H1, I1, q1⟩ => ?_)
 cases d with
 | true => exact ha pins s1 σ H1 D I1 q1
 | false => exact hb pins s1 σ H1 D I1 q1
def zeE : TS := fun _ _ _ => False
theorem yf : PS X st zeE := fun _ _ _ _ _ _ h => h.elim
end
abbrev TG := V -> St -> Hp -> (St -> Hp -> Prop) -> Prop
abbrev TGs := List V -> St -> Hp -> (St -> Hp -> Prop) -> Prop
def PG (X : Cx) (target : Expr) (t : TG) : Prop :=
 ∀ (pins : Pq) (s : Shared) (σ : St) (H : Hp) (v : V) (u : Value) (Q : St -> Hp -> Prop), Inv X pins σ H s -> RelV v u -> t v σ H Q →
  wpAny (model X.prog X.w) X.A (assign target X.env u) (fun _ s' => ∃ σ' H', Inv X pins σ' H' s' /\ Q σ' H') X.xe s
def PGs (X : Cx) (ts : List Expr) (t : TGs) : Prop :=
 ∀ (pins : Pq) (s : Shared) (σ : St) (H : Hp) (vs : List V) (us : List Value) (Q : St -> Hp -> Prop), Inv X pins σ H s -> Vals vs us -> t vs σ H Q →
  wpAny (model X.prog X.w) X.A (assignInOrder ((assignEach ts X.env).map (·.2)) us) (fun _ s' => ∃ σ' H', Inv X pins σ' H' s' /\ Q σ' H') X.xe s
abbrev TSet := V -> V -> V -> Hp -> (Hp -> Prop) -> Prop
def PSet (X : Cx) (t : TSet) : Prop :=
 ∀ (pins : Pq) (s : Shared) (σ : St) (H : Hp) (o i v : V) (ov iv u : Value) (Q : Hp -> Prop), Inv X pins σ H s -> RelV o ov -> RelV i iv -> RelV v u -> t o i v H Q →
  wpAny (model X.prog X.w) X.A (setItem ov iv u) (fun _ s' => ∃ H', Inv X pins σ H' s' /\ Q H') X.xe s
abbrev TIp := V -> V -> Hp -> VK -> Prop
def PIp (X : Cx) (op : Operator) (t : TIp) : Prop :=
 ∀ (pins : Pq) (s : Shared) (σ : St) (H : Hp) (x y : V) (v u : Value) (Q : VK), Inv X pins σ H s -> RelV x v -> RelV y u -> t x y H Q →
  wpAny (model X.prog X.w) X.A (inplaceOp op v u) (EP X pins σ Q) X.xe s
section
variable {X : Cx} {pos : Pos}
def js (i : Nat) : TG := fun v σ H Q => Q (σ.set i (some v)) H
theorem zX {i : Nat} {x : Str} (hN : X.N.Nodup) (hi : X.N[i]? = some x) (hx : Loc X.env.scope x) (hf : X.fn x = true \/ X.env.scope.names.lookup x = some .local := by first | exact .inl rfl | exact .inr rfl | assumption) : PG X (.Name x pos) (js i) := by
 intro pins s σ H v u Q I r h
 exact wpAny_assign_Name (jr I hN hi hx r (fun s' I' => ⟨_, H, I', h⟩) hf)
def gNil : TGs := fun vs σ H Q => vs = [] /\ Q σ H
def zbR (t : TG) (u : TGs) : TGs := fun vs σ H Q => ∃ v r, vs = v :: r /\ t v σ H fun σ' H' => u r σ' H' Q
theorem jt : PGs X [] gNil := by
 intro pins s σ H vs us Q I r h
 obtain ⟨e, h⟩ := h
 subst e
 cases r
 exact assignInOrder_nil ⟨σ, H, I, h⟩
theorem yK {e : Expr} {es : List Expr} {t : TG} {u : TGs} (h1 : PG X e t) (h2 : PGs X es u)
  (hs : (assignEach (e :: es) X.env).map (·.2) = assign e X.env :: (assignEach es X.env).map (·.2) := by rfl) : PGs X (e :: es) (zbR t u) := by
 intro pins s σ H vs us Q I r h
 obtain ⟨v, vr, e1, h⟩ := h
 subst e1
 cases r with
 | cons r rr =>
  rw [hs]
  refine assignInOrder_cons (thn (h1 pins s σ H _ _ _ I r h) fun _ s1 ⟨σ1, H1, I1, q1⟩ => ?_)
  exact h2 pins s1 σ1 H1 _ _ Q I1 rr q1
def gTup (K : Fq) (n : Nat) (t : TGs) : TG := fun v σ H Q => ∃ a xs, v = .ref a /\ SqT K H a xs /\ xs.length = n /\ t xs σ H Q
theorem ql {es : List Expr} {k : Nat} {t : TGs} {n : Nat} (hc : X.calm = true) (h : PGs X es t)
  (hn : (assignEach es X.env).length = n := by rfl) (hst : (assignEach es X.env).findIdx? (·.1) = none := by rfl) : PG X (.Tuple es k pos) (gTup X.K n t) := by
 intro pins s σ H v u Q I r hw
 obtain ⟨a, xs, e1, hq, hl, hw⟩ := hw
 subst e1
 cases r
 obtain ⟨its, rv, ht, hz⟩ := I.tuple hq
 refine assign_Tuple_tuple (I.ok.hd hc) ht (by simp [hn, <- hl, rv.length]) hst fun h' hx => ?_
 have I1 : Inv X pins σ H { s with heap := h' } := I.kept (t' := s.toks) fun b o e => hx b o (Nat.ne_of_lt (Heap.lt_size e)) e
 exact h pins _ σ H xs _ Q I1 (by simpa using rv) hw
def gSub (to ti : TE) (t : TSet) : TG := fun v σ H Q => to σ H fun o H1 => ti σ H1 fun i H2 => t o i v H2 fun H3 => Q σ H3
theorem zeF {o i : Expr} {to ti : TE} {t : TSet} (ho : PE X o to) (hi : PE X i ti) (hs : PSet X t)
  (ha : ∀ v, assign (.Subscript o i pos) X.env v = (do
   let ov <- holding [v] (eval o X.env)
   let iv <- holding [v, ov] (eval i X.env)
   standAt pos
   holding [v, ov, iv] (setItem ov iv v)
   release [v, ov, iv] []) := by intro _; rfl) : PG X (.Subscript o i pos) (gSub to ti t) := by
 intro pins s σ H v u Q I r h
 rw [ha]
 refine wpAny_bind (wpAny_holding (thn (ho pins s σ H _ I h) fun ov s1 ⟨x, H1, I1, r1, q1⟩ => ?_))
 refine wpAny_bind (wpAny_holding (thn (hi pins s1 σ H1 _ I1 q1) fun iv s2 ⟨y, H2, I2, r2, q2⟩ => ?_))
 refine wpAny_bind (wpAny_standAt (wpAny_bind (wpAny_holding (thn (hs pins s2 σ H2 x y v ov iv u _ I2 r1 r2 r q2) fun _ s3 ⟨H3, I3, q3⟩ => ?_))))
 exact wpAny_release ⟨σ, H3, I3, q3⟩
def zbS (te : TE) (g : TG) : TS := fun D σ H => te σ H fun x H1 => g x σ H1 D.nx
theorem zeG {tg e : Expr} {te : TE} {g : TG} (he : PE X e te) (hg : PG X tg g) (hs : swapsWithSole [tg] e pos.line X.env = pure false := by rfl) (hw : swappedStores [tg] e X.env = pure none := by rfl)
  (h1 : (assignEach [tg] X.env).map (·.2) = [assign tg X.env] := by rfl) : PS X (.Assign [tg] e pos) (zbS te g) := by
 intro pins s σ H D I h
 refine wpAny_Assign_stores (thn (he pins s σ H _ I h) fun v s1 ⟨x, H1, I1, r1, q1⟩ => ?_) hs hw
 rw [h1]
 exact thn (hg pins s1 σ H1 x v _ I1 r1 q1) fun _ s2 q => q
theorem zx {i : Nat} {x : Str} {e : Expr} {te : TE} {pos' : Pos} (hN : X.N.Nodup) (hi : X.N[i]? = some x) (hx : Loc X.env.scope x) (he : PE X e te) (hs : swapsWith e (some (.Name x pos')) pos.line X.env = pure false := by rfl) (hf : X.fn x = true \/ X.env.scope.names.lookup x = some .local := by first | exact .inl rfl | exact .inr rfl | assumption) :
  PS X (.Assign [.Name x pos'] e pos) (zbS te (js i)) := by
 intro pins s σ H D I h
 refine wpAny_Assign_Name (thn (he pins s σ H _ I h) fun v s1 ⟨y, H1, I1, r1, q1⟩ => ?_) hs
 exact jr I1 hN hi hx r1 (fun s2 I2 => ⟨_, H1, I2, q1⟩) hf
def tAug (i : Nat) (te : TE) (ti : TIp) : TS := fun D σ H => ∃ x, σ[i]? = some (some x) /\ te σ H fun y H1 => ti x y H1 fun z H2 => D.nx (σ.set i (some z)) H2
theorem jL {i : Nat} {x : Str} {e : Expr} {te : TE} {op : Operator} {ti : TIp} {pos' : Pos} (hN : X.N.Nodup) (hi : X.N[i]? = some x) (hx : Loc X.env.scope x) (he : PE X e te) (ho : PIp X op ti) (hf : X.fn x = true \/ X.env.scope.names.lookup x = some .local := by first | exact .inl rfl | exact .inr rfl | assumption) :
  PS X (.AugAssign (.Name x pos') op e pos) (tAug i te ti) := by
 intro pins s σ H D I h
 obtain ⟨v, e1, h⟩ := h
 obtain ⟨m, hn, hl⟩ := I.loc
 have vis : Vis X.env.scope x := by rcases hx with k | k; exact .inl k; exact .inr (.inl k)
 obtain ⟨u, r, l⟩ := hl i x v hi e1 vis
 refine wpAny_AugAssign_Name ?_
 have go : wpAny (model X.prog X.w) X.A (eval e X.env) (fun w s₂ => wpAny (model X.prog X.w) X.A (inplaceOp op u w) (fun r s₃ => wpAny (model X.prog X.w) X.A (storeName X.env x r) (fun _ => SP X pins D .next) X.xe s₃) X.xe s₂) X.xe s := by
  refine thn (he pins s σ H _ I h) fun w s1 ⟨y, H1, I1, r1, q1⟩ => ?_
  refine thn (ho pins s1 σ H1 v y u w _ I1 r r1 q1) fun z s2 ⟨zv, H2, I2, r2, q2⟩ => ?_
  exact jr I2 hN hi hx r2 (fun s3 I3 => ⟨_, H2, I3, q2⟩) hf
 rcases l with ⟨hk, hm⟩ | ⟨hk, c, hc, hcell⟩
 ·exact wpAny_loadName_local I.ok.kind hk hn hm go
 ·rcases hk with hk | hk
  ·exact wpAny_loadName_cell I.ok.kind hk hc hcell go
  ·rcases hx with k | k
   ·have : X.env.scope.names.lookup x = some .free := hk
    rw [k] at this; cases this
   ·have : X.env.scope.names.lookup x = some .free := hk
    rw [k] at this; cases this
def ipI (f : Int -> Int -> Int) : TIp := fun x y H Q => ∃ i j, x = .int i /\ y = .int j /\ Q (.int (f i j)) H
theorem ww : PIp X .Add (ipI fun i j => i + j) := by
 intro pins s σ H x y v u Q I r1 r2 h
 obtain ⟨i, j, e1, e2, q⟩ := h
 subst e1; subst e2
 obtain ⟨t, rfl⟩ := r1
 obtain ⟨t', rfl⟩ := r2
 exact iadd_int ⟨.int _, H, I.tok _, ⟨_, rfl⟩, q⟩
theorem zeH : PIp X .Sub (ipI fun i j => i - j) := by
 intro pins s σ H x y v u Q I r1 r2 h
 obtain ⟨i, j, e1, e2, q⟩ := h
 subst e1; subst e2
 obtain ⟨t, rfl⟩ := r1
 obtain ⟨t', rfl⟩ := r2
 exact isub_int ⟨.int _, H, I.tok _, ⟨_, rfl⟩, q⟩
end
section
variable {X : Cx} {pos : Pos}
def zbT (c : TT) (tb : TS) : TS := fun D σ H => ∃ W : Nat -> St -> Hp -> Prop, (∃ m, W m σ H) /\ ∀ m σ H, W m σ H →
 c σ H fun b H1 => if b = true then ∃ N : St -> Hp -> Prop, (∀ σ' H', N σ' H' -> ∃ m', m' < m /\ W m' σ' H') /\ tb { D with nx := N, ct := N, bk := D.nx } σ H1 else D.nx σ H1
theorem yY {c : Expr} {body : List Stmt} {tc : TT} {tb : TS} (hp : PassesOwn (model X.prog X.w) X.A X.env X.xe) (hc : PT X c tc) (hb : PSs X body tb) : PS X (.While c body [] pos) (zbT tc tb) := by
 intro pins s σ H D I h
 obtain ⟨W, ⟨m0, w0⟩, turn⟩ := h
 refine wpAny_While (codeAny_whileLoop (fun n s' => ∃ σ' H', Inv X pins σ' H' s' /\ W n σ' H') ?_ m0 ⟨σ, H, I, w0⟩)
 rintro n s1 ⟨σ1, H1, I1, w1⟩
 refine wpAny_passesOwn hp (thn (hc pins s1 σ1 H1 _ I1 (turn n σ1 H1 w1)) fun b s2 ⟨H2, I2, q2⟩ => ?_)
 cases b with
 | true =>
  obtain ⟨N, hN, q2⟩ := q2
  rw [if_pos rfl]
  refine wpAny_passesOwn hp (thn (hb pins s2 σ1 H2 _ I2 q2) fun f s3 q3 => ?_)
  cases f with
  | next =>
   obtain ⟨σ3, H3, I3, n3⟩ := q3
   obtain ⟨m', hm, w3⟩ := hN σ3 H3 n3
   exact ⟨m', hm, σ3, H3, I3, w3⟩
  | cont =>
   obtain ⟨σ3, H3, I3, n3⟩ := q3
   obtain ⟨m', hm, w3⟩ := hN σ3 H3 n3
   exact ⟨m', hm, σ3, H3, I3, w3⟩
  | brk => exact q3
  | ret v => exact q3
 | false =>
  rw [if_neg Bool.false_ne_true]
  exact wpAny_execs_nil ⟨σ1, H2, I2, q2⟩
end
structure It where
 go : Nat -> Hp -> Prop
 yld : Nat -> Hp -> V -> Hp -> Prop
 stop : Nat -> Hp -> Prop
def xB (X : Cx) (pins : Pq) (H : Hp) (b : Addr) : Prop :=
 H b = none /\ b ≠ X.env.locals /\ b ∉ X.fs /\ (b ∈ X.ex \/ X.s₀.heap.objs.size <= b) /\ (∀ x c, X.env.cells.lookup x = some c -> c ≠ b) /\ ∀ p ∈ X.pn ++ pins, p.1 ≠ b
theorem Inv.fpOk {X : Cx} {pins : Pq} {σ : St} {H H' : Hp} {s : Shared} {b : Addr} (I : Inv X pins σ H s) (hb : s.heap.objs.size <= b) (hn : H' b = none) : xB X pins H' b := by
 refine ⟨hn, Nat.ne_of_gt (Nat.lt_of_lt_of_le I.lt hb), I.nofs hb, .inr (Nat.le_trans I.sz hb), fun x c e z => ?_, fun p hp z => ?_⟩
 ·obtain ⟨v, q⟩ := I.cell x c e
  exact absurd (Nat.lt_of_lt_of_le q.lt (by rw [z]; exact hb)) (Nat.lt_irrefl _)
 ·exact absurd (Nat.lt_of_lt_of_le (Heap.lt_size (I.pin p hp).1) (by rw [z]; exact hb)) (Nat.lt_irrefl _)
structure vo (P : Program) (w : World) (K : Fq) (tg : Expr) (J : It) (fp : List Addr) (it : Addr) (tn : Nat -> Heap -> Prop) : Prop where
 mem : it ∈ fp
 obj : ∀ i h, tn i h -> ∀ b ∈ fp, ∃ o, h.get? b = some o /\ ∀ v, o.data ≠ .cell v
 keep : ∀ i h h', tn i h -> (∀ b ∈ fp, ∀ o, h.get? b = some o -> h'.get? b = some o) -> tn i h'
 item : ∀ (X : Cx), X.prog = P -> X.w = w -> X.K = K -> X.calm = true -> ∀ (i : Nat) (pins : Pq) (s : Shared) (σ : St) (H : Hp) (E : Value -> Shared -> Prop), Inv X pins σ H s -> (∀ b ∈ fp, xB X pins H b) -> tn i s.heap -> J.go i H →
  wpAny (model P w) X.A (pyNext (.ref it)) (fun r s1 => ∃ u, r = some u ∧
   wpAny (model P w) X.A (letOwnedTupleGo tg (.ref it) u) (fun _ s2 => ∃ x H', Inv X pins σ H' s2 /\ RelV x u /\ J.yld i H x H' /\ tn (i + 1) s2.heap /\ ∀ b ∈ fp, H' b = none) E s1) E s
 done : ∀ (X : Cx), X.prog = P -> X.w = w -> X.K = K -> X.calm = true -> ∀ (i : Nat) (pins : Pq) (s : Shared) (σ : St) (H : Hp) (E : Value -> Shared -> Prop), Inv X pins σ H s -> (∀ b ∈ fp, xB X pins H b) -> tn i s.heap -> J.stop i H →
  wpAny (model P w) X.A (pyNext (.ref it)) (fun r s1 => r = none /\ Inv X pins σ H s1) E s
 self : ∀ (A : Around) (i : Nat) (s : Shared) (Q : Value -> Shared -> Prop) (E : Value -> Shared -> Prop), tn i s.heap -> Q (.ref it) s -> wpAny (model P w) A (pyIter (.ref it)) Q E s
abbrev TI := St -> Hp -> (It -> Hp -> Prop) -> Prop
def PIE (X : Cx) (pins : Pq) (σ : St) (tg : Expr) (R : It -> Hp -> Prop) (itv : Value) (s2 : Shared) : Prop :=
 ∃ (it : Addr) (fp : List Addr) (tn : Nat -> Heap -> Prop) (J : It) (H' : Hp), itv = .ref it /\ Inv X pins σ H' s2 /\ vo X.prog X.w X.K tg J fp it tn /\ tn 0 s2.heap /\ (∀ b ∈ fp, xB X pins H' b) /\ R J H'
def PI (X : Cx) (tg iter : Expr) (wi : TI) : Prop :=
 ∀ (pins : Pq) (s : Shared) (σ : St) (H : Hp) (R : It -> Hp -> Prop), Inv X pins σ H s -> wi σ H R →
  wpAny (model X.prog X.w) X.A (eval iter X.env) (fun v s1 => wpAny (model X.prog X.w) X.A (pyIter v) (PIE X pins σ tg R) X.xe s1) X.xe s
theorem zbU {M : Model} {A : Around} {E : Value -> Shared -> Prop} {s : Shared} {tg : Expr} {it : Addr} {u : Value} {o : Obj} {n : String} {vs : Array Value} {Q : Unit -> Shared -> Prop} (ho : s.heap.get? it = some o) (hc : o.cls = .type n) (hd : o.data = .fields vs)
    (hn : ["enumerate", "zip", "dict_itemiterator", "dict_reverseitemiterator", "odict_iterator", "itertools.zip_longest", "itertools.pairwise"].contains n = false) (hQ : Q () s) : wpAny M A (letOwnedTupleGo tg (.ref it) u) Q E s := by
  unfold letOwnedTupleGo
  cases tg <;> first
    | exact wpAny_pure hQ
    | (cases u <;> first
        | exact wpAny_pure hQ
        | (refine wpAny_bind (wpAny_load ho ?_)
           rw [hc, hd]
           show wpAny M A (if (["enumerate", "zip", "dict_itemiterator", "dict_reverseitemiterator", "odict_iterator", "itertools.zip_longest", "itertools.pairwise"].contains n && vs[0]? == some (rawInt _)) = true then _ else _) Q E s
           rw [if_neg (by intro h; rw [hn, Bool.false_and] at h; cases h)]
           exact wpAny_pure hQ))
def Itl (K : Fq) (a : Addr) : It :=
 ⟨fun i H => ∃ xs x, SqL K H a xs /\ xs[i]? = some x, fun i H x H' => H' = H /\ ∀ xs, SqL K H a xs -> xs[i]? = some x, fun i H => ∃ xs, SqL K H a xs /\ xs.length <= i⟩
def Itr (lo : Int) (n : Nat) : It := ⟨fun i _ => i < n, fun i H x H' => H' = H /\ x = .int (lo + i), fun i _ => n <= i⟩
theorem zaP {P : Program} {w : World} {K : Fq} {tg : Expr} (a it : Addr) : vo P w K tg (Itl K a) [it] it (fun i h => h.IsListIter it a i) where
 mem := by simp
 obj := fun i h st b hb => by
  have e : b = it := by simpa using hb
  subst e
  obtain ⟨o, e, c, d⟩ := st
  exact ⟨o, e, fun v z => by rw [d] at z; cases z⟩
 keep := fun i h h' st k => st.at fun o e => k it (by simp) o e
 item := by
  intro X hP hw hK hc i pins s σ H E I hf st hg
  subst hP hw hK
  obtain ⟨xs, x, hq, hx⟩ := hg
  obtain ⟨its, rv, p, hz⟩ := I.list hq
  obtain ⟨u, hu, ru⟩ := rv.get hx
  obtain ⟨f0, f1, f2, f3, f4, f5⟩ := hf it (by simp)
  refine wpAny_pyNext_list_item st p.isList (x := u) (by simpa using hu) fun h' st' sb => ?_
  have I1 : Inv X pins σ H { s with heap := h' } := I.turned (t' := s.toks) (fun b o hb e => (sb.2 b hb).trans e) f0 f1 f3 f4 f5
  obtain ⟨o, e, c, d⟩ := id st'
  exact ⟨u, rfl, zbU (s := { s with heap := h' }) e c d (by decide) ⟨x, H, I1, ru, ⟨rfl, fun ys hy => by rw [I.list_inj hy hq]; exact hx⟩, st', fun b hb => (hf b hb).1⟩⟩
 done := by
  intro X hP hw hK hc i pins s σ H E I hf st hg
  subst hP hw hK
  obtain ⟨xs, hq, hx⟩ := hg
  obtain ⟨its, rv, p, hz⟩ := I.list hq
  obtain ⟨f0, f1, f2, f3, f4, f5⟩ := hf it (by simp)
  have hl := rv.length
  exact wpAny_pyNext_list_end (I.ok.hd hc) st p.isList (by simp; omega) fun h' eb => ⟨rfl, I.turned (t' := s.toks) (fun b o hb e => eb b o hb e) f0 f1 f3 f4 f5⟩
 self := fun _ _ _ _ _ st h => wpAny_pyIter_listiter st h
theorem wx {P : Program} {w : World} {K : Fq} {tg : Expr} (it : Addr) (lo : Int) (n : Nat) : vo P w K tg (Itr lo n) [it] it (fun i h => IsRangeIter h it (lo + (i : Nat) * 1) ((n : Int) - (i : Nat)) 1) where
 mem := by simp
 obj := fun i h st b hb => by
  have e : b = it := by simpa using hb
  subst e
  exact ⟨_, st, fun v z => by
   have z' : Data.fields _ = Data.cell v := z
   cases z'⟩
 keep := fun i h h' st k => k it (by simp) _ st
 item := by
  intro X hP hw hK hc i pins s σ H E I hf st hg
  subst hP hw hK
  obtain ⟨f0, f1, f2, f3, f4, f5⟩ := hf it (by simp)
  have W := Walks.range (prog := X.prog) (w := X.w) (I.ok.hd hc) it lo 1 n
  refine W.item i s _ _ hg st fun v h' tk hv st' kk => ?_
  obtain ⟨t, rfl⟩ := hv
  have I1 : Inv X pins σ H { s with heap := h', toks := tk } := I.turned (fun b o hb e => kk b o (by simpa using hb) e) f0 f1 f3 f4 f5
  refine ⟨_, rfl, zbU (s := { s with heap := h', toks := tk }) (n := "range_iterator") st' rfl rfl (by decide) ⟨.int (lo + i), H, I1, ⟨t, ?_⟩, ⟨rfl, rfl⟩, st', fun b hb => (hf b hb).1⟩⟩
  rw [Int.mul_one]
 done := by
  intro X hP hw hK hc i pins s σ H E I hf st hg
  subst hP hw hK
  obtain ⟨f0, f1, f2, f3, f4, f5⟩ := hf it (by simp)
  exact wpAny_pyNext_range_end (I.ok.hd hc) st (by have : n <= i := hg; omega) fun h' eb => ⟨rfl, I.turned (t' := s.toks) (fun b o hb e => eb b o hb e) f0 f1 f3 f4 f5⟩
 self := fun _ _ _ _ _ st h => wpAny_pyIter_rangeiter st h
end L2
namespace L2
open PySem PySem.Spec PyProof.Rows
section
variable {X : Cx} {tg : Expr}
def iList (K : Fq) (tl : TE) : TI := fun σ H R => tl σ H fun x H1 => ∃ a, x = .ref a /\ (∃ xs, SqL K H1 a xs) /\ R (Itl K a) H1
theorem yN {l : Expr} {tl : TE} (hl : PE X l tl) : PI X tg l (iList X.K tl) := by
 intro pins s σ H R I h
 refine thn (hl pins s σ H _ I h) fun v s1 ⟨x, H1, I1, r1, q1⟩ => ?_
 obtain ⟨a, e, ⟨xs, hq⟩, q⟩ := q1
 subst e
 cases r1
 obtain ⟨its, rv, p, hz⟩ := I1.list hq
 refine wpAny_pyIter_list p.isList ?_
 refine ⟨s1.heap.objs.size, [s1.heap.objs.size], _, _, H1, rfl, I1.kept (t' := s1.toks) fun b o e => Heap.get?_push_of_some _ e, zaP a _, ⟨_, Heap.get?_push_size _ rfl, rfl, rfl⟩, fun b hb => ?_, q⟩
 have e : b = s1.heap.objs.size := by simpa using hb
 subst e
 exact I1.fpOk (Nat.le_refl _) (I1.hok.fresh (Nat.le_refl _))
theorem zbV {pins : Pq} {σ : St} {H : Hp} {s : Shared} {R : It -> Hp -> Prop} {E : Value -> Shared -> Prop} {lo hi : Int} {t u v : Tok} {tk : Nat} (I : Inv X pins σ H s) (h1 : -(2 ^ 62) <= lo) (h2 : lo < 2 ^ 62) (h3 : -(2 ^ 62) <= hi) (h4 : hi < 2 ^ 62)
  (q : R (Itr lo (hi - lo).toNat) H) : wpAny (model X.prog X.w) X.A (pyIter (.ref s.heap.objs.size)) (PIE X pins σ tg R) E { s with heap := s.heap.push { cls := .type "range", data := .fields #[.int lo t, .int hi u, .int 1 v] }, toks := tk } := by
 refine wpAny_pyIter_range (IsRange.new ..) (small_one h1 h2 h3 h4) ?_
 have I1 : Inv X pins σ H { s with heap := s.heap.push { cls := .type "range", data := .fields #[.int lo t, .int hi u, .int 1 v] }, toks := tk } := I.kept fun b o e => Heap.get?_push_of_some _ e
 refine ⟨(s.heap.push { cls := .type "range", data := .fields #[.int lo t, .int hi u, .int 1 v] }).objs.size, [(s.heap.push { cls := .type "range", data := .fields #[.int lo t, .int hi u, .int 1 v] }).objs.size], _, _, H, rfl,
  I1.kept (t' := tk) fun b o e => Heap.get?_push_of_some _ e, wx _ lo (hi - lo).toNat, ?_, fun b hb => ?_, q⟩
 ·have e1 : lo + ((0 : Nat) : Int) * 1 = lo := by simp
  have e2 : (((hi - lo).toNat : Nat) : Int) - ((0 : Nat) : Int) = Builtin.Range.rangeSize lo hi 1 := by rw [rangeSize_one]; split <;> omega
  show IsRangeIter _ _ (lo + ((0 : Nat) : Int) * 1) ((((hi - lo).toNat : Nat) : Int) - ((0 : Nat) : Int)) 1
  rw [e1, e2]
  exact Heap.get?_push_size _ rfl
 ·have e : b = (s.heap.push { cls := .type "range", data := .fields #[.int lo t, .int hi u, .int 1 v] }).objs.size := by simpa using hb
  subst e
  exact I1.fpOk (Nat.le_refl _) (I1.hok.fresh (Nat.le_refl _))
def iRng1 (ta : TA) : TI := fun σ H R => ta σ H fun vs H1 => ∃ j : Int, vs = [.int j] /\ -(2 ^ 62) <= j /\ j < 2 ^ 62 /\ R (Itr 0 j.toNat) H1
theorem xC {a : Expr} {ta : TA} {p pos : Pos} (hg : Gl X "range") (hm : X.mg "range" = none) (ha : PA X [a] ta) (hs : starEach [a] X.env = [(false, eval a X.env)] := by rfl) : PI X tg (.Call (.Name "range" p) [a] [] pos) (iRng1 ta) := by
 intro pins s σ H R I h
 refine Call_ (xK I hg hm boot_range (PyProof.Rows.callWith_type1 (thn (ha pos pins s σ H _ I h) fun us s1 ⟨vs, H1, I1, r1, q1⟩ => ?_) hs rfl))
 obtain ⟨j, e, q1, q2, q⟩ := q1
 subst e
 cases r1 with
 | cons r rr =>
  cases rr
  obtain ⟨t, rfl⟩ := r
  exact call_range_1 (zbV I1 (by omega) (by omega) q1 q2 (by simpa using q))
def tFor (wi : TI) (g : TG) (tb : TS) : TS := fun D σ H => wi σ H fun J H1 => ∃ W : Nat -> Nat -> St -> Hp -> Prop, (∃ m, W 0 m σ H1) /\ ∀ i m σ H, W i m σ H →
 (J.stop i H /\ D.nx σ H) \/ (J.go i H /\ ∃ N : St -> Hp -> Prop, (∀ σ' H', N σ' H' -> ∃ m', m' < m /\ W (i + 1) m' σ' H') /\ ∀ x H', J.yld i H x H' -> g x σ H' fun σ2 H2 => tb { D with nx := N, ct := N, bk := D.nx } σ2 H2)
def jf (fp : List Addr) (h : Heap) : Pq := fp.filterMap fun b => (h.get? b).map fun o => (b, o)
theorem yQ {fp : List Addr} {h : Heap} {b : Addr} {o : Obj} (hb : b ∈ fp) (e : h.get? b = some o) : (b, o) ∈ jf fp h := List.mem_filterMap.mpr ⟨b, hb, by rw [e]; rfl⟩
theorem zaQ {fp : List Addr} {h : Heap} {p : Addr × Obj} (hp : p ∈ jf fp h) : p.1 ∈ fp /\ h.get? p.1 = some p.2 := by
 obtain ⟨b, hb, e⟩ := List.mem_filterMap.mp hp
 cases q : h.get? b with
 | none => rw [q] at e; cases e
 | some o =>
  rw [q] at e
  have e' : (b, o) = p := Option.some.inj e
  subst e'
  exact ⟨hb, q⟩
theorem Inv.pinned {pins : Pq} {σ : St} {H : Hp} {s : Shared} {fp : List Addr} (I : Inv X pins σ H s) (hf : ∀ b ∈ fp, xB X pins H b) (ho : ∀ b ∈ fp, ∃ o, s.heap.get? b = some o /\ ∀ v, o.data ≠ .cell v) : Inv X (pins ++ jf fp s.heap) σ H s :=
 I.pins_of fun p hp => (List.mem_append.mp hp).elim (fun z => I.pin p (List.mem_append_right _ z)) fun z => by
  obtain ⟨hb, e⟩ := zaQ z
  obtain ⟨f0, f1, f2, _⟩ := hf p.1 hb
  obtain ⟨o, e', d⟩ := ho p.1 hb
  rw [e] at e'; cases e'
  exact ⟨e, f0, f1, f2, d⟩
theorem Inv.unpinned {pins pl : Pq} {σ : St} {H : Hp} {s : Shared} (I : Inv X (pins ++ pl) σ H s) : Inv X pins σ H s := I.pins_of fun p hp => I.pin p (List.mem_append_right _ (List.mem_append_left _ hp))
theorem yE {iter : Expr} {body : List Stmt} {wi : TI} {g : TG} {tb : TS} {pos : Pos} (hp : PassesOwn (model X.prog X.w) X.A X.env X.xe) (hc : X.calm = true) (hi : PI X tg iter wi) (hg : PG X tg g) (hb : PSs X body tb)
  (hs : ∀ x, foldedSetIterable iter X.env x = pure x := by intro _; rfl) : PS X (.For tg iter body [] pos) (tFor wi g tb) := by
 intro pins s σ H D I h
 refine wpAny_For (thn (hi pins s σ H _ I h) fun v s1 h1 => thn h1 fun itv s2 h2 => ?_) hs
 obtain ⟨it, fp, tn, J, H2, e, I2, T, st2, f2, W, ⟨m0, w0⟩, turn⟩ := h2
 subst e
 have stat : ∀ {H' : Hp}, (∀ b ∈ fp, H' b = none) -> ∀ b ∈ fp, xB X pins H' b := fun hn b hb => ⟨hn b hb, (f2 b hb).2⟩
 refine codeAny_forLoop_any (fun n s' => ∃ i σ' H', Inv X pins σ' H' s' /\ tn i s'.heap /\ (∀ b ∈ fp, H' b = none) /\ W i n σ' H') ?_ m0 ⟨0, σ, H2, I2, st2, fun b hb => (f2 b hb).1, w0⟩
 rintro n s3 ⟨i, σ3, H3, I3, st3, fr3, w3⟩
 rcases turn i n σ3 H3 w3 with ⟨stop, qn⟩ | ⟨go, N, hN, step⟩
 ·refine wpAny_passesOwn hp (thn (T.done X rfl rfl rfl hc i pins s3 σ3 H3 X.xe I3 (stat fr3) st3 stop) fun r s4 ⟨hr, I4⟩ => ?_)
  subst hr
  exact wpAny_execs_nil ⟨σ3, H3, I4, qn⟩
 ·refine wpAny_passesOwn hp (thn (T.item X rfl rfl rfl hc i pins s3 σ3 H3 X.xe I3 (stat fr3) st3 go) fun r s4 ⟨u, hr, h4⟩ => ?_)
  subst hr
  refine wpAny_passesOwn hp (thn h4 fun _ s5 ⟨x, H5, I5, r5, y5, st5, fr5⟩ => ?_)
  have I5' := I5.pinned (stat fr5) (T.obj _ _ st5)
  refine wpAny_passesOwn hp (thn (hg _ s5 σ3 H5 x u _ I5' r5 (step x H5 y5)) fun _ s6 ⟨σ6, H6, I6, q6⟩ => ?_)
  refine wpAny_passesOwn hp (thn (hb _ s6 σ6 H6 _ I6 q6) fun f s7 q7 => ?_)
  have again : ∀ {σ7 : St} {H7 : Hp}, Inv X (pins ++ jf fp s5.heap) σ7 H7 s7 -> N σ7 H7 -> ∃ m, m < n /\ ∃ i σ' H', Inv X pins σ' H' s7 /\ tn i s7.heap /\ (∀ b ∈ fp, H' b = none) /\ W i m σ' H' := fun {σ7 H7} I7 n7 => by
   obtain ⟨m', hm, w7⟩ := hN σ7 H7 n7
   refine ⟨m', hm, i + 1, σ7, H7, I7.unpinned, T.keep _ _ _ st5 fun b hb o e => (I7.pin (b, o) (List.mem_append_right _ (List.mem_append_right _ (yQ hb e)))).1, fun b hb => ?_, w7⟩
   obtain ⟨o, e, d⟩ := T.obj _ _ st5 b hb
   exact (I7.pin (b, o) (List.mem_append_right _ (List.mem_append_right _ (yQ hb e)))).2.1
  cases f with
  | next => obtain ⟨σ7, H7, I7, n7⟩ := q7; exact again I7 n7
  | cont => obtain ⟨σ7, H7, I7, n7⟩ := q7; exact again I7 n7
  | brk => obtain ⟨σ7, H7, I7, q7⟩ := q7; exact ⟨σ7, H7, I7.unpinned, q7⟩
  | ret v => obtain ⟨x7, σ7, H7, I7, r7, q7⟩ := q7; exact ⟨x7, σ7, H7, I7.unpinned, r7, q7⟩
end
theorem xb {K : Fq} {a : Addr} {xs : List V} {g : TG} {tb : TS} {D : Ends} {σ : St} {H : Hp} (Pv : Nat -> St -> Hp -> Prop) (h0 : Pv 0 σ H) (hl : ∀ i σ H, i <= xs.length -> Pv i σ H -> SqL K H a xs)
  (hs : ∀ i x σ H, xs[i]? = some x -> Pv i σ H -> g x σ H fun σ2 H2 => tb { D with nx := Pv (i + 1), ct := Pv (i + 1), bk := D.nx } σ2 H2) (hd : ∀ σ H, Pv xs.length σ H -> D.nx σ H) :
  ∃ W : Nat -> Nat -> St -> Hp -> Prop, (∃ m, W 0 m σ H) /\ ∀ i m σ H, W i m σ H →
   ((Itl K a).stop i H /\ D.nx σ H) \/ ((Itl K a).go i H /\ ∃ N : St -> Hp -> Prop, (∀ σ' H', N σ' H' -> ∃ m', m' < m /\ W (i + 1) m' σ' H') /\ ∀ x H', (Itl K a).yld i H x H' -> g x σ H' fun σ2 H2 => tb { D with nx := N, ct := N, bk := D.nx } σ2 H2) := by
 refine ⟨fun i m σ H => m = xs.length - i /\ i <= xs.length /\ Pv i σ H, ⟨xs.length, by simp, Nat.zero_le _, h0⟩, ?_⟩
 rintro i m σ H ⟨rfl, hi, p⟩
 have q := hl i σ H hi p
 by_cases hlt : i < xs.length
 ·refine .inr ⟨⟨xs, xs[i], q, by simp [hlt]⟩, Pv (i + 1), fun σ' H' p' => ⟨xs.length - (i + 1), by omega, rfl, hlt, p'⟩, fun x H' y => ?_⟩
  obtain ⟨e, y⟩ := y
  subst e
  exact hs i x σ _ (y xs q) p
 ·have e : i = xs.length := by omega
  subst e
  exact .inl ⟨⟨xs, q, Nat.le_refl _⟩, hd σ H p⟩
theorem jM {lo : Int} {n : Nat} {g : TG} {tb : TS} {D : Ends} {σ : St} {H : Hp} (Pv : Nat -> St -> Hp -> Prop) (h0 : Pv 0 σ H)
  (hs : ∀ i σ H, i < n -> Pv i σ H -> g (.int (lo + i)) σ H fun σ2 H2 => tb { D with nx := Pv (i + 1), ct := Pv (i + 1), bk := D.nx } σ2 H2) (hd : ∀ σ H, Pv n σ H -> D.nx σ H) :
  ∃ W : Nat -> Nat -> St -> Hp -> Prop, (∃ m, W 0 m σ H) /\ ∀ i m σ H, W i m σ H →
   ((Itr lo n).stop i H /\ D.nx σ H) \/ ((Itr lo n).go i H /\ ∃ N : St -> Hp -> Prop, (∀ σ' H', N σ' H' -> ∃ m', m' < m /\ W (i + 1) m' σ' H') /\ ∀ x H', (Itr lo n).yld i H x H' -> g x σ H' fun σ2 H2 => tb { D with nx := N, ct := N, bk := D.nx } σ2 H2) := by
 refine ⟨fun i m σ H => m = n - i /\ i <= n /\ Pv i σ H, ⟨n, by simp, Nat.zero_le _, h0⟩, ?_⟩
 rintro i m σ H ⟨rfl, hi, p⟩
 by_cases hlt : i < n
 ·refine .inr ⟨hlt, Pv (i + 1), fun σ' H' p' => ⟨n - (i + 1), by omega, rfl, hlt, p'⟩, fun x H' y => ?_⟩
  obtain ⟨e, y⟩ := y
  subst e y
  exact hs i σ _ hlt p
 ·have e : i = n := by omega
  subst e
  exact .inl ⟨Nat.le_refl _, hd σ H p⟩
theorem xg {c : TT} {tb : TS} {D : Ends} {σ : St} {H : Hp} (Pv : St -> Hp -> Prop) (μ : St -> Hp -> Nat) (h0 : Pv σ H)
  (hs : ∀ σ H, Pv σ H -> c σ H fun b H1 => if b = true then tb { D with nx := fun σ' H' => Pv σ' H' /\ μ σ' H' < μ σ H, ct := fun σ' H' => Pv σ' H' /\ μ σ' H' < μ σ H, bk := D.nx } σ H1 else D.nx σ H1)
  (mono : ∀ σ H Q Q', (∀ b H1, Q b H1 -> Q' b H1) -> c σ H Q -> c σ H Q') : zbT c tb D σ H := by
 refine ⟨fun m σ H => m = μ σ H /\ Pv σ H, ⟨_, rfl, h0⟩, ?_⟩
 rintro m σ H ⟨rfl, p⟩
 refine mono σ H _ _ (fun b H1 q => ?_) (hs σ H p)
 cases b with
 | true => exact ⟨_, fun σ' H' ⟨p', l⟩ => ⟨_, l, rfl, p'⟩, q⟩
 | false => exact q
end L2
namespace L2
open PySem PySem.Spec PyProof.Rows
abbrev R2 := V -> V -> Hp -> VK -> Prop
def OpR (X : Cx) (f : Value -> Value -> Sem Value) (r : R2) : Prop :=
 ∀ (pins : Pq) (s : Shared) (σ : St) (H : Hp) (x y : V) (v u : Value) (Q : VK), Inv X pins σ H s -> RelV x v -> RelV y u -> r x y H Q →
  wpAny (model X.prog X.w) X.A (f v u) (EP X pins σ Q) X.xe s
def UnR (X : Cx) (f : Value -> Sem Value) (r : V -> Hp -> VK -> Prop) : Prop :=
 ∀ (pins : Pq) (s : Shared) (σ : St) (H : Hp) (x : V) (v : Value) (Q : VK), Inv X pins σ H s -> RelV x v -> r x H Q →
  wpAny (model X.prog X.w) X.A (f v) (EP X pins σ Q) X.xe s
def xS (X : Cx) (f : Value) (r : List V -> Hp -> VK -> Prop) : Prop :=
 ∀ (pins : Pq) (s : Shared) (σ : St) (H : Hp) (xs : List V) (us : List Value) (Q : VK), Inv X pins σ H s -> Vals xs us -> r xs H Q →
  wpAny (model X.prog X.w) X.A (call f us) (EP X pins σ Q) X.xe s
def TruR (X : Cx) (r : V -> Hp -> (Bool -> Hp -> Prop) -> Prop) : Prop :=
 ∀ (pins : Pq) (s : Shared) (σ : St) (H : Hp) (x : V) (v : Value) (Q : Bool -> Hp -> Prop), Inv X pins σ H s -> RelV x v -> r x H Q →
  wpAny (model X.prog X.w) X.A (truthy v) (TP X pins σ Q) X.xe s
def tOp (r : R2) (ta tb : TE) : TE := fun σ H Q => ta σ H fun x H1 => tb σ H1 fun y H2 => r x y H2 Q
def tUn (r : V -> Hp -> VK -> Prop) (ta : TE) : TE := fun σ H Q => ta σ H fun x H1 => r x H1 Q
def rI (C : Int -> Int -> Prop) (g : Int -> Int -> V) : R2 := fun x y H Q => ∃ i j, x = .int i /\ y = .int j /\ C i j /\ Q (g i j) H
def rI0 (g : Int -> Int -> V) : R2 := fun x y H Q => ∃ i j, x = .int i /\ y = .int j /\ Q (g i j) H
def rU (g : Int -> V) : V -> Hp -> VK -> Prop := fun x H Q => ∃ i, x = .int i /\ Q (g i) H
section
variable {X : Cx} {a b c : Expr} {ta tb tc : TE} {pos : Pos}
theorem binT (ha : PE X a ta) (hb : PE X b tb) {pins : Pq} {s : Shared} {σ : St} {H : Hp} {R : V -> V -> Hp -> Prop} (I : Inv X pins σ H s)
  (h : ta σ H fun x H1 => tb σ H1 fun y H2 => R x y H2) {Q : Value -> Shared -> Prop} {f : Value -> Value -> Sem Value}
  (hf : ∀ v u s2 x y H2, Inv X pins σ H2 s2 -> RelV x v -> RelV y u -> R x y H2 -> wpAny (model X.prog X.w) X.A (f v u) Q X.xe s2) :
  wpAny (model X.prog X.w) X.A (eval a X.env) (fun v s₁ => wpAny (model X.prog X.w) X.A (eval b X.env) (fun u s₂ => wpAny (model X.prog X.w) X.A (f v u) Q X.xe s₂) X.xe s₁) X.xe s := by
 refine thn (ha pins s σ H _ I h) fun v s1 ⟨x, H1, I1, r1, q1⟩ => ?_
 refine thn (hb pins s1 σ H1 _ I1 q1) fun u s2 ⟨y, H2, I2, r2, q2⟩ => ?_
 exact hf v u s2 x y H2 I2 r1 r2 q2
theorem zq {op : Operator} {r : R2} (ho : OpR X (binaryOp op) r) (ha : PE X a ta) (hb : PE X b tb) : PE X (.BinOp a op b pos) (tOp r ta tb) := by
 intro pins s σ H Q I h
 exact wpAny_BinOp (binT ha hb I h fun v u s2 x y H2 I2 rx ry q => ho pins s2 σ H2 x y v u Q I2 rx ry q)
theorem yG {op : UnaryOp} {r : V -> Hp -> VK -> Prop} (ho : UnR X (unaryOp op) r) (ha : PE X a ta) : PE X (.UnaryOp op a pos) (tUn r ta) := by
 intro pins s σ H Q I h
 exact UnaryOp_ (thn (ha pins s σ H _ I h) fun v s1 ⟨x, H1, I1, r1, q1⟩ => ho pins s1 σ H1 x v Q I1 r1 q1)
theorem opI {f : Value -> Value -> Sem Value} {C : Int -> Int -> Prop} {g : Int -> Int -> Int}
  (rule : ∀ (i j : Int) (t u : Tok) (s : Shared) (Q : Value -> Shared -> Prop) (E : Value -> Shared -> Prop), C i j -> Q (.int (g i j) s.toks) { s with toks := s.toks + 1 } -> wpAny (model X.prog X.w) X.A (f (.int i t) (.int j u)) Q E s) :
  OpR X f (rI C fun i j => .int (g i j)) := by
 intro pins s σ H x y v u Q I rx ry h
 obtain ⟨i, j, rfl, rfl, hc, q⟩ := h
 obtain ⟨t, rfl⟩ := rx
 obtain ⟨t', rfl⟩ := ry
 exact rule i j t t' s _ _ hc ⟨.int (g i j), H, I.tok _, ⟨_, rfl⟩, q⟩
theorem opI0 {f : Value -> Value -> Sem Value} {g : Int -> Int -> Int}
  (rule : ∀ (i j : Int) (t u : Tok) (s : Shared) (Q : Value -> Shared -> Prop) (E : Value -> Shared -> Prop), Q (.int (g i j) s.toks) { s with toks := s.toks + 1 } -> wpAny (model X.prog X.w) X.A (f (.int i t) (.int j u)) Q E s) :
  OpR X f (rI0 fun i j => .int (g i j)) := by
 intro pins s σ H x y v u Q I rx ry h
 obtain ⟨i, j, rfl, rfl, q⟩ := h
 obtain ⟨t, rfl⟩ := rx
 obtain ⟨t', rfl⟩ := ry
 exact rule i j t t' s _ _ ⟨.int (g i j), H, I.tok _, ⟨_, rfl⟩, q⟩
theorem opB0 {f : Value -> Value -> Sem Value} {g : Int -> Int -> Bool}
  (rule : ∀ (i j : Int) (t u : Tok) (s : Shared) (Q : Value -> Shared -> Prop) (E : Value -> Shared -> Prop), Q (.bool (g i j)) s -> wpAny (model X.prog X.w) X.A (f (.int i t) (.int j u)) Q E s) :
  OpR X f (rI0 fun i j => .bl (g i j)) := by
 intro pins s σ H x y v u Q I rx ry h
 obtain ⟨i, j, rfl, rfl, q⟩ := h
 obtain ⟨t, rfl⟩ := rx
 obtain ⟨t', rfl⟩ := ry
 exact rule i j t t' s _ _ ⟨.bl (g i j), H, I, rfl, q⟩
def CDiv (i j : Int) : Prop := 0 < j /\ j < 1073741824
def CPow (i j : Int) : Prop := 0 <= j /\ j <= 1000000 /\ i.natAbs < 2 ^ 64
def CMul (i j : Int) : Prop := (-(2 ^ 64) < i /\ i < 2 ^ 64) \/ (-(2 ^ 64) < j /\ j < 2 ^ 64)
theorem CMul.ok {i j : Int} (h : CMul i j) : IntMulOk i j := by
 rcases h with ⟨h1, h2⟩ | ⟨h1, h2⟩
 ·exact .of_left (intBits_le_64 h1 h2)
 ·exact .of_right (intBits_le_64 h1 h2)
theorem z8 : OpR X (binaryOp .Add) (rI0 fun i j => .int (i + j)) := opI0 fun _ _ _ _ _ _ _ q => add_int q
theorem xz : OpR X (binaryOp .Sub) (rI0 fun i j => .int (i - j)) := opI0 fun _ _ _ _ _ _ _ q => sub_int q
theorem y0 : OpR X (binaryOp .Mult) (rI CMul fun i j => .int (i * j)) := opI fun _ _ _ _ _ _ _ hc q => mul_int q hc.ok
theorem yi : OpR X (binaryOp .FloorDiv) (rI CDiv fun i j => .int (i / j)) := opI fun i j _ _ _ _ _ hc q => by
 have h1 : (0 : Int) < j := hc.1
 have h2 : j < 1073741824 := hc.2
 exact floordiv_int (by omega) (by rw [Int.fdiv_eq_ediv_of_nonneg i (by omega)]; exact q) (.inl (PyProof.noPylong_small (by omega)))
theorem zR : OpR X (binaryOp .Mod) (rI (fun _ j => 0 < j) fun i j => .int (i % j)) := opI fun i j _ _ _ _ _ hc q => by
 have h1 : (0 : Int) < j := hc
 exact mod_int' (by omega) (by rw [Int.fmod_eq_emod_of_nonneg i (by omega)]; exact q)
theorem zbW : OpR X (binaryOp .Pow) (rI CPow fun i j => .int (i ^ j.toNat)) := opI fun _ _ _ _ _ _ _ hc q => pow_int_small hc.1 hc.2.1 hc.2.2 q
theorem zbX : OpR X (inplaceOp .FloorDiv) (rI CDiv fun i j => .int (i / j)) := opI fun i j _ _ _ _ _ hc q => by
 have h1 : (0 : Int) < j := hc.1
 have h2 : j < 1073741824 := hc.2
 exact ifloordiv_int (by omega) (by rw [Int.fdiv_eq_ediv_of_nonneg i (by omega)]; exact q) (.inl (PyProof.noPylong_small (by omega)))
theorem unI {f : Value -> Sem Value} {g : Int -> Int}
  (rule : ∀ (i : Int) (t : Tok) (s : Shared) (Q : Value -> Shared -> Prop) (E : Value -> Shared -> Prop), Q (.int (g i) s.toks) { s with toks := s.toks + 1 } -> wpAny (model X.prog X.w) X.A (f (.int i t)) Q E s) :
  UnR X f (rU fun i => .int (g i)) := by
 intro pins s σ H x v Q I rx h
 obtain ⟨i, rfl, q⟩ := h
 obtain ⟨t, rfl⟩ := rx
 exact rule i t s _ _ ⟨.int (g i), H, I.tok _, ⟨_, rfl⟩, q⟩
theorem yn : UnR X (unaryOp .USub) (rU fun i => .int (-i)) := unI fun _ _ _ _ _ q => neg_int q
end
def scal : V -> V -> Bool
 | .non, .non => true | .non, .int _ => true | .int _, .non => true | .non, .bl _ => true | .bl _, .non => true | .non, .str _ => true | .str _, .non => true
 | .int _, .int _ => true | .bl _, .bl _ => true | .str _, .str _ => true | .byt _, .byt _ => true
 | .int _, .str _ => true | .str _, .int _ => true | .bl _, .str _ => true | .str _, .bl _ => true
 | _, _ => false
def rEq : R2 := fun x y H Q => scal x y = true /\ Q (.bl (decide (x = y))) H
def rNe : R2 := fun x y H Q => scal x y = true /\ Q (.bl (!decide (x = y))) H
theorem zap {i j : Int} : decide (V.int i = V.int j) = (i == j) := by
 rw [Bool.eq_iff_iff]
 simp
theorem zbY {i j : Bool} : decide (V.bl i = V.bl j) = (i == j) := by
 rw [Bool.eq_iff_iff]
 simp
theorem zaq {i j : Str} : decide (V.str i = V.str j) = (i == j) := by
 rw [Bool.eq_iff_iff]
 simp
theorem zar {i j : Array UInt8} : decide (V.byt i = V.byt j) = (i.toList == j.toList) := by
 rw [Bool.eq_iff_iff]
 cases i
 cases j
 simp
section
variable {X : Cx} {a b c : Expr} {ta tb tc : TE} {pos : Pos}
theorem zZ {pins : Pq} {σ : St} {H : Hp} {s : Shared} {Q : VK} {k k' : Bool} (I : Inv X pins σ H s) (q : Q (.bl k) H) (e : k = k') : EP X pins σ Q (.bool k') s := by
 subst e
 exact ⟨.bl k, H, I, rfl, q⟩
theorem zH : OpR X (compareOp .Eq) rEq := by
 intro pins s σ H x y v u Q I rx ry h
 obtain ⟨hs, q⟩ := h
 cases x with
 | non =>
  cases rx
  cases y with
  | non => cases ry; exact PySem.EqNone.eq_none_none (zZ I q (by simp))
  | bl j => cases ry; exact PySem.EqNone.eq_none_bool (zZ I q (by simp))
  | int j => obtain ⟨t', rfl⟩ := ry; exact PySem.EqNone.eq_none_int (zZ I q (by simp))
  | str j => obtain ⟨t', rfl⟩ := ry; exact PySem.EqNone.eq_none_str (zZ I q (by simp))
  | _ => exact absurd (show false = true from hs) Bool.false_ne_true
 | bl i =>
  cases rx
  cases y with
  | non => cases ry; exact PySem.EqNone.eq_bool_none (zZ I q (by simp))
  | bl j => cases ry; exact eq_bool (zZ I q zbY)
  | str j => obtain ⟨t', rfl⟩ := ry; exact PySem.EqMixed.eq_bool_str (zZ I q (by simp))
  | _ => exact absurd (show false = true from hs) Bool.false_ne_true
 | int i =>
  obtain ⟨t, rfl⟩ := rx
  cases y with
  | non => cases ry; exact PySem.EqNone.eq_int_none (zZ I q (by simp))
  | int j => obtain ⟨t', rfl⟩ := ry; exact eq_int (zZ I q zap)
  | str j => obtain ⟨t', rfl⟩ := ry; exact PySem.EqMixed.eq_int_str (zZ I q (by simp))
  | _ => exact absurd (show false = true from hs) Bool.false_ne_true
 | str i =>
  obtain ⟨t, rfl⟩ := rx
  cases y with
  | non => cases ry; exact PySem.EqNone.eq_str_none (zZ I q (by simp))
  | bl j => cases ry; exact PySem.EqMixed.eq_str_bool (zZ I q (by simp))
  | int j => obtain ⟨t', rfl⟩ := ry; exact PySem.EqMixed.eq_str_int (zZ I q (by simp))
  | str j => obtain ⟨t', rfl⟩ := ry; exact eq_str (zZ I q zaq)
  | _ => exact absurd (show false = true from hs) Bool.false_ne_true
 | byt i =>
  obtain ⟨t, rfl⟩ := rx
  cases y with
  | byt j => obtain ⟨t', rfl⟩ := ry; exact PySem.W.eq_bytes (zZ I q zar)
  | _ => exact absurd (show false = true from hs) Bool.false_ne_true
 | _ => cases y <;> exact absurd (show false = true from hs) Bool.false_ne_true
theorem vp : OpR X (compareOp .NotEq) rNe := by
 intro pins s σ H x y v u Q I rx ry h
 obtain ⟨hs, q⟩ := h
 cases x with
 | non =>
  cases rx
  cases y with
  | non => cases ry; exact PySem.EqNone.ne_none_none (zZ I q (by simp))
  | bl j => cases ry; exact PySem.EqNone.ne_none_bool (zZ I q (by simp))
  | int j => obtain ⟨t', rfl⟩ := ry; exact PySem.EqNone.ne_none_int (zZ I q (by simp))
  | str j => obtain ⟨t', rfl⟩ := ry; exact PySem.EqNone.ne_none_str (zZ I q (by simp))
  | _ => exact absurd (show false = true from hs) Bool.false_ne_true
 | bl i =>
  cases rx
  cases y with
  | non => cases ry; exact PySem.EqNone.ne_bool_none (zZ I q (by simp))
  | bl j => cases ry; exact ne_bool (zZ I q (congrArg not zbY))
  | str j => obtain ⟨t', rfl⟩ := ry; exact PySem.EqMixed.ne_bool_str (zZ I q (by simp))
  | _ => exact absurd (show false = true from hs) Bool.false_ne_true
 | int i =>
  obtain ⟨t, rfl⟩ := rx
  cases y with
  | non => cases ry; exact PySem.EqNone.ne_int_none (zZ I q (by simp))
  | int j => obtain ⟨t', rfl⟩ := ry; exact ne_int (zZ I q (congrArg not zap))
  | str j => obtain ⟨t', rfl⟩ := ry; exact PySem.EqMixed.ne_int_str (zZ I q (by simp))
  | _ => exact absurd (show false = true from hs) Bool.false_ne_true
 | str i =>
  obtain ⟨t, rfl⟩ := rx
  cases y with
  | non => cases ry; exact PySem.EqNone.ne_str_none (zZ I q (by simp))
  | bl j => cases ry; exact PySem.EqMixed.ne_str_bool (zZ I q (by simp))
  | int j => obtain ⟨t', rfl⟩ := ry; exact PySem.EqMixed.ne_str_int (zZ I q (by simp))
  | str j => obtain ⟨t', rfl⟩ := ry; exact ne_str (zZ I q (congrArg not zaq))
  | _ => exact absurd (show false = true from hs) Bool.false_ne_true
 | byt i =>
  obtain ⟨t, rfl⟩ := rx
  cases y with
  | byt j => obtain ⟨t', rfl⟩ := ry; exact PySem.W.ne_bytes (zZ I q (congrArg not zar))
  | _ => exact absurd (show false = true from hs) Bool.false_ne_true
 | _ => cases y <;> exact absurd (show false = true from hs) Bool.false_ne_true
theorem xh : OpR X (compareOp .Lt) (rI0 fun i j => .bl (decide (i < j))) := opB0 fun _ _ _ _ _ _ _ q => lt_int q
theorem yo : OpR X (compareOp .LtE) (rI0 fun i j => .bl (decide (i <= j))) := opB0 fun _ _ _ _ _ _ _ q => le_int q
theorem qm : OpR X (compareOp .Gt) (rI0 fun i j => .bl (decide (j < i))) := opB0 fun _ _ _ _ _ _ _ q => gt_int q
theorem zbZ : OpR X (compareOp .GtE) (rI0 fun i j => .bl (decide (j <= i))) := opB0 fun _ _ _ _ _ _ _ q => ge_int q
theorem zaR : OpR X (compareOp .In) (fun x y H Q => ∃ i j, x = .str i /\ y = .str j /\ Q (.bl (!(Builtin.Str.occurrences j i 0 j.length 1).isEmpty)) H) := by
 intro pins s σ H x y v u Q I rx ry h
 obtain ⟨i, j, rfl, rfl, q⟩ := h
 obtain ⟨t, rfl⟩ := rx
 obtain ⟨t', rfl⟩ := ry
 exact in_str (zZ I q rfl)
theorem zt (b : Expr) {op : CmpOp} (h : op ≠ .In := by decide) (h2 : op ≠ .NotIn := by decide) : behindInMarks op b = false := by
 have e1 : (op == CmpOp.In) = false := by cases op <;> first | rfl | exact absurd rfl h
 have e2 : (op == CmpOp.NotIn) = false := by cases op <;> first | rfl | exact absurd rfl h2
 cases b <;> simp [behindInMarks, e1, e2]
theorem kD {op : CmpOp} {r : R2} (ho : OpR X (compareOp op) r) (ha : PE X a ta) (hb : PE X b tb) (hm : behindInMarks op b = false) : PE X (.Compare a [op] [b] pos) (tOp r ta tb) := by
 intro pins s σ H Q I h
 exact wpAny_Compare1 (binT ha hb I h fun v u s2 x y H2 I2 rx ry q => ho pins s2 σ H2 x y v u Q I2 rx ry q) hm
def zem (t : TE) : TT := fun σ H Q => t σ H fun x H' => ∃ k, x = .bl k /\ Q k H'
theorem zl {op : CmpOp} {r : R2} (ho : OpR X (compareOp op) r) (ha : PE X a ta) (hb : PE X b tb) (hm : behindInMarks op b = false) : PT X (.Compare a [op] [b] pos) (zem (tOp r ta tb)) := by
 intro pins s σ H Q I h
 refine wpAny_isTrue_Compare1 (thn (ha pins s σ H _ I h) fun v s1 ⟨x, H1, I1, r1, q1⟩ => thn (hb pins s1 σ H1 _ I1 q1) fun u s2 ⟨y, H2, I2, r2, q2⟩ =>
  thn (ho pins s2 σ H2 x y v u _ I2 r1 r2 q2) fun c s3 ⟨z, H3, I3, r3, k, e, q3⟩ => ?_) hm
 subst e
 cases r3
 exact wpAny_truthy_bool ⟨H3, I3, q3⟩
def zeI (r r' : R2) (ta tb tc : TE) : TE := fun σ H Q => ta σ H fun x H1 => tb σ H1 fun y H2 => r x y H2 fun z H3 => ∃ k, z = .bl k ∧
 (if k = true then tc σ H3 fun w' H4 => r' y w' H4 Q else Q (.bl false) H3)
theorem z6 {op op' : CmpOp} {r r' : R2} (ho : OpR X (compareOp op) r) (ho' : OpR X (compareOp op') r') (ha : PE X a ta) (hb : PE X b tb) (hc : PE X c tc)
  (hm : lastMarks [op, op'] [b, c] = false := by with_unfolding_all rfl) : PT X (.Compare a [op, op'] [b, c] pos) (zem (zeI r r' ta tb tc)) := by
 intro pins s σ H Q I h
 refine isTrue_chain (thn (ha pins s σ H _ I h) fun v s1 ⟨x, H1, I1, r1, q1⟩ => test_link (thn (hb pins s1 σ H1 _ I1 q1) fun u s2 ⟨y, H2, I2, r2, q2⟩ =>
  thn (ho pins s2 σ H2 x y v u _ I2 r1 r2 q2) fun d s3 ⟨z, H3, I3, r3, k, e, q3⟩ => ?_)) hm
 subst e
 cases r3
 refine wpAny_truthy_bool ?_
 cases k with
 | false =>
  obtain ⟨k', e', q'⟩ := q3
  cases e'
  exact ite_ff ⟨H3, I3, q'⟩
 | true =>
  refine ite_tt (test_last (thn (hc pins s3 σ H3 _ I3 q3) fun w' s4 ⟨z', H4, I4, r4, q4⟩ => thn (ho' pins s4 σ H4 y z' u w' _ I4 r2 r4 q4) fun d' s5 ⟨z2, H5, I5, r5, k2, e2, q5⟩ => ?_))
  subst e2
  cases r5
  exact wpAny_truthy_bool ⟨H5, I5, q5⟩
def TruV (K : Fq) (x : V) (H : Hp) (k : Bool) : Prop :=
 match x with
 | .non => k = false
 | .bl b => k = b
 | .int i => k = (i != 0)
 | .str y => y.length <= sizeLine /\ k = ((y.length : Int) != 0)
 | .byt y => y.size <= sizeLine /\ k = ((y.size : Int) != 0)
 | .ref p => (∃ xs, SqL K H p xs /\ k = !xs.isEmpty) \/ (∃ xs, SqT K H p xs /\ k = !xs.isEmpty) \/ ∃ kvs, H p = some (.dK kvs) /\ k = !kvs.isEmpty
 | _ => False
theorem wy {κ : Type} {kvs : List (κ × V)} {vs : List (κ × Value)} (r : KV kvs vs) : (!vs.isEmpty) = !kvs.isEmpty := by
 cases r <;> rfl
theorem qo {xs : List V} {its : List Value} (r : Vals xs its) : (!its.toArray.isEmpty) = !xs.isEmpty := by
 cases r <;> simp
theorem jg : (sizeLine : Nat) < 2 ^ 63 := by rw [sizeLine_eq]; decide
theorem zeJ : TruR X (fun x H Q => ∃ k, TruV X.K x H k /\ Q k H) := by
 intro pins s σ H x v Q I rx h
 obtain ⟨k, e, q⟩ := h
 have hl := jg
 have hs : sizeLine = 16777216 := sizeLine_eq
 cases x with
 | non =>
  cases rx
  have e' : k = false := e
  subst e'
  exact truthy_none ⟨H, I, q⟩
 | bl b =>
  cases rx
  have e' : k = b := e
  subst e'
  exact wpAny_truthy_bool ⟨H, I, q⟩
 | int i =>
  obtain ⟨t, rfl⟩ := rx
  have e' : k = (i != 0) := e
  subst e'
  exact PySem.P.truthy_int ⟨H, I, q⟩
 | str y =>
  obtain ⟨t, rfl⟩ := rx
  obtain ⟨hy, e'⟩ : y.length <= sizeLine /\ k = ((y.length : Int) != 0) := e
  subst e'
  exact PySem.P.truthy_str (by omega) ⟨H, I.tok _, q⟩
 | byt y =>
  obtain ⟨t, rfl⟩ := rx
  obtain ⟨hy, e'⟩ : y.size <= sizeLine /\ k = ((y.size : Int) != 0) := e
  subst e'
  exact PySem.W.truthy_bytes (by omega) ⟨H, I.tok _, q⟩
 | ref p =>
  cases rx
  have e' : (∃ xs, SqL X.K H p xs /\ k = !xs.isEmpty) \/ (∃ xs, SqT X.K H p xs /\ k = !xs.isEmpty) \/ ∃ kvs, H p = some (.dK kvs) /\ k = !kvs.isEmpty := e
  rcases e' with ⟨xs, hx, e'⟩ | ⟨xs, hx, e'⟩ | ⟨kvs, hx, e'⟩
  ·subst e'
   obtain ⟨its, r, pl, hz⟩ := I.list hx
   have hlen := r.length
   exact wpAny_truthy_list pl.isList (by simp only [List.size_toArray]; omega) ⟨H, I.tok _, by rw [qo r]; exact q⟩
  ·subst e'
   obtain ⟨its, r, pl, hz⟩ := I.tuple hx
   have hlen := r.length
   exact truthy_tuple pl (by simp only [List.size_toArray]; omega) ⟨H, I.tok _, by rw [qo r]; exact q⟩
  ·subst e'
   obtain ⟨hz, hS, vs, r, m⟩ : kvs.length <= sizeLine /\ (p == sysModules) = false /\ ∃ vs, KV kvs vs /\ s.heap.DictOf (zao X.prog X.w) p vs := I.hok p _ hx
   have hlen : kvs.length = vs.length := Paired.length r
   exact wpAny_truthy_dict hS m (by omega) ⟨H, I.tok _, by rw [wy r]; exact q⟩
 | _ => exact (show False from e).elim
theorem zb0 (ha : PE X a ta) (he : ∀ whole, isTrue a X.env whole = (do let v <- whole; standAt a.pos; holding [v] (truthy v))) :
  PT X a (fun σ H Q => ta σ H fun x H' => ∃ k, TruV X.K x H' k /\ Q k H') := by
 intro pins s σ H Q I h
 exact isTrue_plain (thn (ha pins s σ H _ I h) fun v s1 ⟨x, H1, I1, r1, q1⟩ => zeJ pins s1 σ H1 x v Q I1 r1 q1) (he _)
theorem wz : OpR X (binaryOp .Add) (fun x y H Q => ∃ i j, x = .str i /\ y = .str j /\ i.length + j.length <= sizeLine /\ Q (.str (i ++ j)) H) := by
 intro pins s σ H x y v u Q I rx ry h
 obtain ⟨i, j, rfl, rfl, hz, q⟩ := h
 obtain ⟨t, rfl⟩ := rx
 obtain ⟨t', rfl⟩ := ry
 exact add_str (fun t' tk => ⟨.str (i ++ j), H, I.tok _, ⟨_, rfl⟩, q⟩) hz
theorem ju {x : V} {us : List Value} (r : Vals [x] us) : ∃ u, us = [u] /\ RelV x u := by
 cases r with
 | cons r1 r2 => cases r2; exact ⟨_, rfl, r1⟩
theorem zas {x y : V} {us : List Value} (r : Vals [x, y] us) : ∃ u w', us = [u, w'] /\ RelV x u /\ RelV y w' := by
 cases r with
 | cons r1 r2 =>
  cases r2 with
  | cons r3 r4 => cases r4; exact ⟨_, _, rfl, r1, r3⟩
end
end L2
namespace L2
open PySem PySem.Spec PyProof.Rows
structure ObjM (h : Heap) (x dx C : Addr) (mA : Mq) : Prop where
 obj : h.get? x = some (PySem.W.instObj C dx)
 ns : h.Ns1 dx mA
 ne : dx ≠ x
theorem zaS {h : Heap} {dx : Addr} {mA : Mq} (n : h.Ns1 dx mA) : ∃ od, h.get? dx = some od /\ ∀ name, PySem.W.lookIn name od = some (mA name) := by
 obtain ⟨o, es, ep, ho, hd, hk, _, hm⟩ := n
 refine ⟨o, ho, fun name => ?_⟩
 have e := hm name
 unfold nsFind findBy at e
 rw [<- Array.find?_toList] at e
 unfold PySem.W.lookIn
 rw [hd]
 dsimp only
 split
 ·rename_i y q
  rw [q] at e
  exact congrArg some e
 ·rename_i q
  rw [q] at e
  have a : es.toList.any (·.refKey) = false := by
   rw [List.any_eq_false]
   intro y hy
   obtain ⟨z, t, hkey⟩ := hk y (Array.mem_toList_iff.mp hy)
   simp [DictEntry.refKey, hkey]
  have a' : ¬ es.toList.any (·.refKey) = true := by rw [a]; exact Bool.false_ne_true
  rw [if_neg a']
  exact congrArg some e
theorem ObjM.look {h : Heap} {x dx C : Addr} {mA : Mq} (I : ObjM h x dx C mA) : ∃ od, PySem.W.InstAt h x (PySem.W.instObj C dx) C (some od) /\ ∀ name, PySem.W.lookIn name od = some (mA name) :=
 let ⟨od, ho, hl⟩ := zaS I.ns
 ⟨od, ⟨I.obj, rfl, rfl, ho⟩, hl⟩
section
variable {prog : Program} {w : World} {A : Around} {E : Value -> Shared -> Prop} {s : Shared} {K : Fq} {x dx C f : Addr} {mA : Mq} {name : Str} {v : Value}
theorem zdN {expr : Bool} {Q : Value -> Shared -> Prop} (X : K.In s.heap) (I : ObjM s.heap x dx C mA) (hg : PySem.W.plainGet K C name = true) (hh : PySem.W.hasDictIn K C = true)
  (ha : PySem.W.findIn K (.ref C) name = some none) (hv : mA name = some v) (hv' : PySem.W.handedIn v = true) (h : Q v { s with toks := s.toks + 1 }) :
  wpAny (model prog w) A (getAttr (.ref x) name expr) Q E s := by
 obtain ⟨od, J, hl⟩ := I.look
 exact PySem.W.get_value X J (PySem.W.plainGet_of hg).1 (PySem.W.findObj_own hh ha rfl (by rw [hl, hv])) hv' h
theorem zb1 {pl : Sem Bool} {Q : Value × List Value -> Shared -> Prop} (X : K.In s.heap) (I : ObjM s.heap x dx C mA) (hg : PySem.W.plainGet K C name = true)
  (hf : PySem.W.findIn K (.ref C) name = some (some (.ref f))) (ht : PySem.W.isFn K (.ref f) = true) (hv : mA name = none) (h : Q (.ref f, [.ref x]) s) :
  wpAny (model prog w) A (getMethod (.ref x) name pl) Q E s := by
 obtain ⟨od, J, hl⟩ := I.look
 exact PySem.W.method_fn X J (PySem.W.plainGet_of hg).1 (PySem.W.plainGet_of hg).2 hf (beq_iff_eq.mp ht) (by show (PySem.W.lookIn name od).map (·.isSome) = some false; rw [hl, hv]; rfl) h
theorem zdO {ns : List Str} {Q : Unit -> Shared -> Prop} (X : K.In s.heap) (I : ObjM s.heap x dx C mA)
  (hs : PySem.W.findIn K (.ref C) "__setattr__" = some (some (.builtin "object.__setattr__"))) (hp : PySem.W.plainOver K C = true) (ht : PySem.W.takerIn K C name = some none) (hh : PySem.W.hasDictIn K C = true)
  (hw : PySem.Within mA ns) (hsz : ns.length <= sizeLine)
  (h : ∀ h', ObjM h' x dx C (fun y => if y = name then some v else mA y) -> Heap.SameBut dx s.heap h' -> Q () { s with heap := h', toks := s.toks + 2 }) :
  wpAny (model prog w) A (setAttr (.ref x) name v) Q E s := by
 obtain ⟨od, J, hl⟩ := I.look
 refine PySem.W.set_plain X J hs (PySem.W.osa_open (s := { s with toks := s.toks + 1 }) (r := none) X J hp ht fun b => ?_)
 obtain ⟨cd, hc, hd'⟩ := PySem.W.any_some hh
 have hx : s.heap.get? x = some ⟨.ref C, some dx, .plain, #[]⟩ := I.obj
 refine wpAny_bind (wpAny_pure (wpAny_bind (wpAny_bind (wpAny_loadPart hx (wpAny_bind (PySem.W.Looks.here (s := { s with toks := s.toks + 1 }) (PySem.W.looks_clsIn X hc) ?_))))))
 rw [hd']
 refine wpAny_pure (a := some dx) (wpAny_bind (wpAny_pure (wpAny_bind ?_)))
 refine wpAny_nsSet1 (s := { s with toks := s.toks + 1 }) I.ns fun h' hn2 hs2 => ?_
 obtain ⟨oD, esD, epD, hoD, hdD, hcD⟩ := hn2.count (PySem.Within.cons name v hw)
 refine wpAny_bind (wpAny_lookBehind hoD (by rw [hdD]; exact pastItsLine_dict (Nat.le_trans hcD (by rw [List.length_cons]; omega))) ?_)
 exact wpAny_pure (h _ ⟨(hs2.2 _ (Ne.symm I.ne)).trans I.obj, hn2, I.ne⟩ hs2)
theorem zb2 {R : Result -> Shared -> Prop} {vs : List Value} {kw : List (Str × Value)} (X : K.In s.heap) (hm : PySem.W.makesIn K C = true)
  (hi : PySem.W.findIn K (.ref C) "__init__" = some (some (.ref f))) (hf : PySem.W.typeIn K (.ref f) = some (.type "function"))
  (h : codeAny (model prog w) (A.under (.builtin "type.__call__" ⟨.ref C :: vs, kw⟩)) (.call (.ref f) ⟨.ref (s.heap.objs.size + 1) :: vs, kw⟩) (PySem.W.InitBack (s.heap.objs.size + 1) R)
   { s with heap := (s.heap.push PySem.W.emptyDict).push (PySem.W.instObj C s.heap.objs.size) }) :
  codeAny (model prog w) A (.call (.ref C) ⟨vs, kw⟩) R s := by
 obtain ⟨hh, g, d, t, os⟩ := s
 exact PySem.W.make_core (PySem.W.makes_of X hm) (PySem.W.looks_findIn X hi) (fun self => PySem.W.bind_fn X self hf) (.inl rfl) h
end
def yA (f : Str) (v : V) : List (Str × V) -> List (Str × V)
 | [] => [(f, v)]
 | (g, x) :: r => if g = f then (g, v) :: r else (g, x) :: yA f v r
theorem j7 (f g : Str) (v : V) : ∀ fs : List (Str × V), (yA f v fs).lookup g = if g = f then some v else fs.lookup g
 | [] => by
  show List.lookup g [(f, v)] = _
  by_cases h : g = f
  ·have hb : (g == f) = true := beq_iff_eq.mpr h
   simp only [List.lookup, hb, if_pos h]
  ·have hb : (g == f) = false := beq_eq_false_iff_ne.mpr h
   simp only [List.lookup, hb, if_neg h]
 | (k, x) :: r => by
  have ih := j7 f g v r
  rw [show yA f v ((k, x) :: r) = (if k = f then (k, v) :: r else (k, x) :: yA f v r) from rfl]
  by_cases hk : k = f
  ·rw [if_pos hk]
   by_cases h : g = k
   ·have hb : (g == k) = true := beq_iff_eq.mpr h
    simp only [List.lookup, hb, if_pos (h.trans hk)]
   ·have hb : (g == k) = false := beq_eq_false_iff_ne.mpr h
    simp only [List.lookup, hb, if_neg (fun e : g = f => h (e.trans hk.symm))]
  ·rw [if_neg hk]
   by_cases h : g = k
   ·have hb : (g == k) = true := beq_iff_eq.mpr h
    simp only [List.lookup, hb, if_neg (fun e : g = f => hk (h.symm.trans e))]
   ·have hb : (g == k) = false := beq_eq_false_iff_ne.mpr h
    simp only [List.lookup, hb]
    exact ih
theorem jN (f : Str) (v : V) : ∀ fs : List (Str × V), f ∈ (yA f v fs).map (·.1) /\ ∀ g, g ∈ fs.map (·.1) -> g ∈ (yA f v fs).map (·.1)
 | [] => ⟨by simp [yA], fun g h => by simp at h⟩
 | (k, x) :: r => by
  obtain ⟨i1, i2⟩ := jN f v r
  rw [show yA f v ((k, x) :: r) = (if k = f then (k, v) :: r else (k, x) :: yA f v r) from rfl]
  by_cases hk : k = f
  ·rw [if_pos hk]
   subst hk
   exact ⟨by simp, fun g h => by simpa using h⟩
  ·rw [if_neg hk]
   refine ⟨?_, fun g h => ?_⟩
   ·rw [List.map_cons]
    exact List.mem_cons_of_mem _ i1
   ·rw [List.map_cons] at h |-
    rcases List.mem_cons.mp h with e | e
    ·exact List.mem_cons.mpr (.inl e)
    ·exact List.mem_cons_of_mem _ (i2 g e)
theorem j8 (f : Str) (v : V) : ∀ fs : List (Str × V), (yA f v fs).length <= fs.length + 1
 | [] => by simp [yA]
 | (k, x) :: r => by
  have ih := j8 f v r
  rw [show yA f v ((k, x) :: r) = (if k = f then (k, v) :: r else (k, x) :: yA f v r) from rfl]
  by_cases hk : k = f
  ·rw [if_pos hk, List.length_cons, List.length_cons]; omega
  ·rw [if_neg hk, List.length_cons, List.length_cons]; omega
theorem RelO.some_of {v : V} {o : Option Value} (r : RelO (some v) o) : ∃ u, o = some u /\ RelV v u := by
 cases o with
 | none => exact (show False from r).elim
 | some u => exact ⟨u, rfl, r⟩
theorem RelO.none_of {o : Option Value} (r : RelO none o) : o = none := by
 cases o with
 | none => rfl
 | some u => exact (show False from r).elim
theorem zaT {v : V} {u : Value} (r : RelV v u) : PySem.W.handedIn u = true := by
 cases v with
 | non => cases (show u = Value.none from r); rfl
 | bl b => cases (show u = Value.bool b from r); rfl
 | int i => obtain ⟨t, e⟩ := (show ∃ t, u = Value.int i t from r); cases e; rfl
 | str x => obtain ⟨t, e⟩ := (show ∃ t, u = Value.str x t from r); cases e; rfl
 | byt b => obtain ⟨t, e⟩ := (show ∃ t, u = Value.bytes b t from r); cases e; rfl
 | flt b => obtain ⟨t, e⟩ := (show ∃ t, u = Value.float b t from r); cases e; rfl
 | ref a => cases (show u = Value.ref a from r); rfl
 | ty n => cases (show u = Value.type n from r); rfl
section
variable {P : Program} {w : World} {H H' : Hp} {h h' : Heap} {a C dx : Addr} {fs fs' : List (Str × V)}
theorem kE (hok : HOk P w H h) (e : H a = some (.ins C dx fs)) : ∃ mA, ObjM h a dx C mA /\ (∀ f, RelO (fs.lookup f) (mA f)) /\ PySem.Within mA (fs.map (·.1)) /\ fs.length <= 1000 /\ H dx = some (.own a) := by
 obtain ⟨d, z, ne, ob, mA, n, r, q⟩ := (show ObjOk P w H h a (.ins C dx fs) from hok a _ e)
 exact ⟨mA, ⟨ob, n, ne⟩, r, q, z, d⟩
end
structure Cls (K : Fq) (C : Addr) : Prop where
 pg : PySem.W.plainGet K C Str.empty = true
 hd : PySem.W.hasDictIn K C = true
 po : PySem.W.plainOver K C = true
 sa : PySem.W.findIn K (.ref C) "__setattr__" = some (some (.builtin "object.__setattr__"))
theorem Cls.get {K : Fq} {C : Addr} (c : Cls K C) (f : Str) : PySem.W.plainGet K C f = true := c.pg
def NoAttr (K : Fq) (C : Addr) (f : Str) : Prop := PySem.W.findIn K (.ref C) f = some none
theorem NoAttr.taker {K : Fq} {C : Addr} {f : Str} (n : NoAttr K C f) : PySem.W.takerIn K C f = some none := by
 unfold PySem.W.takerIn
 rw [show PySem.W.findIn K (.ref C) f = some none from n]
 rfl
structure Meth (K : Fq) (C : Addr) (m : Str) (f : Addr) : Prop where
 at_ : PySem.W.findIn K (.ref C) m = some (some (.ref f))
 fn : PySem.W.isFn K (.ref f) = true
 kp : PySem.W.keepIn K (.ref f) = true
section
variable {X : Cx} {pins : Pq} {σ : St} {H : Hp} {s : Shared} {a C dx : Addr} {fs : List (Str × V)} {f : Str} {v : V} {A : Around} {E : Value -> Shared -> Prop}
theorem wA {b : Bool} {Q : Value -> Shared -> Prop} (I : Inv X pins σ H s) (e : H a = some (.ins C dx fs)) (c : Cls X.K C) (n : NoAttr X.K C f) (l : fs.lookup f = some v)
  (h : ∀ u s', Inv X pins σ H s' -> RelV v u -> Q u s') : wpAny (model X.prog X.w) A (getAttr (.ref a) f b) Q E s := by
 obtain ⟨mA, O, r, _, _, _⟩ := kE I.hok e
 obtain ⟨u, hu, ru⟩ := RelO.some_of (v := v) (o := mA f) (by rw [<- l]; exact r f)
 exact zdN I.kIn O (c.get f) c.hd n hu (zaT ru) (h u _ (I.tok _) ru)
theorem xL {m : Str} {g : Addr} {pl : Sem Bool} {Q : Value × List Value -> Shared -> Prop} (I : Inv X pins σ H s) (e : H a = some (.ins C dx fs)) (c : Cls X.K C) (k : Meth X.K C m g) (l : fs.lookup m = none)
  (h : Q (.ref g, [.ref a]) s) : wpAny (model X.prog X.w) A (getMethod (.ref a) m pl) Q E s := by
 obtain ⟨mA, O, r, _, _, _⟩ := kE I.hok e
 have hn : mA m = none := RelO.none_of (by rw [<- l]; exact r m)
 exact zb1 I.kIn O (c.get m) k.at_ k.fn hn h
theorem wB {y : V} {u : Value} {Q : Unit -> Shared -> Prop} (I : Inv X pins σ H s) (e : H a = some (.ins C dx fs)) (c : Cls X.K C) (n : NoAttr X.K C f) (hl : fs.length < 1000) (ry : RelV y u)
  (h : ∀ s', Inv X pins σ (upd H a (.ins C dx (yA f y fs))) s' -> Q () s') : wpAny (model X.prog X.w) A (setAttr (.ref a) f u) Q E s := by
 obtain ⟨mA, O, r, wi, _, ho⟩ := kE I.hok e
 have hz : (fs.map (·.1)).length <= sizeLine := by rw [List.length_map, sizeLine_eq]; omega
 refine zdO I.kIn O c.sa c.po n.taker c.hd wi hz fun h' O' sb => h _ ?_
 have hd : ∃ o, h'.get? dx = some o := let ⟨o, _, _, e', _⟩ := O'.ns; ⟨o, e'⟩
 refine I.write (x := a) (e := dx) (by rw [e]; exact True.intro) (.inr ho) (fun b q hb z => (sb.2 b hb).trans z) hd ?_
 refine ⟨by rw [zj O.ne]; exact ho, ?_, O.ne, O'.obj, _, O'.ns, fun g => ?_, fun g hg => ?_⟩
 ·have := j8 f y fs; omega
 ·show RelO ((yA f y fs).lookup g) (if g = f then some u else mA g)
  rw [j7]
  by_cases q : g = f
  ·rw [if_pos q, if_pos q]; exact ry
  ·rw [if_neg q, if_neg q]; exact r g
 ·by_cases q : g = f
  ·rw [q]; exact (jN f y fs).1
  ·refine (jN f y fs).2 g (wi g fun z => hg ?_)
   show (if g = f then some u else mA g) = none
   rw [if_neg q]; exact z
theorem Inv.made (I : Inv X pins σ H s) : Inv X pins σ (upd (upd H s.heap.objs.size (.own (s.heap.objs.size + 1))) (s.heap.objs.size + 1) (.ins C s.heap.objs.size []))
  { s with heap := (s.heap.push PySem.W.emptyDict).push (PySem.W.instObj C s.heap.objs.size) } := by
 have e1 : (s.heap.push PySem.W.emptyDict).get? s.heap.objs.size = some PySem.W.emptyDict := Heap.get?_push_size s.heap rfl
 have e2 : ((s.heap.push PySem.W.emptyDict).push (PySem.W.instObj C s.heap.objs.size)).get? (s.heap.objs.size + 1) = some (PySem.W.instObj C s.heap.objs.size) := by
  have := Heap.get?_push_size (s.heap.push PySem.W.emptyDict) (o := PySem.W.instObj C s.heap.objs.size) rfl
  rwa [Heap.size_push] at this
 have e3 : (s.heap.push PySem.W.emptyDict).Ns s.heap.objs.size (fun _ => none) := ⟨PySem.W.emptyDict, #[], _, e1, rfl, (fun e he => absurd he (by simp)), fun _ => rfl⟩
 have I1 := I.laid (a := s.heap.objs.size) (o := .own (s.heap.objs.size + 1)) (h' := s.heap.push PySem.W.emptyDict) (t' := s.toks) (fun b u q => Heap.get?_push_of_some _ q) (Nat.le_refl _) ⟨_, e1⟩
 refine I1.laid (a := s.heap.objs.size + 1) (o := .ins C s.heap.objs.size []) (t' := s.toks) (fun b u q => Heap.get?_push_of_some _ q) (Nat.le_of_eq (Heap.size_push _ _)) ?_
 have ne : s.heap.objs.size ≠ s.heap.objs.size + 1 := Nat.ne_of_lt (Nat.lt_succ_self _)
 refine ⟨by rw [zj ne, zh], Nat.zero_le _, ne, e2, fun _ => none, (Heap.Ns1.of_empty e3).at fun o q => Heap.get?_push_of_some _ q, fun _ => True.intro, fun y hy => absurd rfl hy⟩
theorem zdP {prog : Program} {w : World} {env : Env} {e : Expr} {f : Str} {pos : Pos} {s : Shared} {Q : Value -> Shared -> Prop} (hb : attributeBase e f env (eval e env) = eval e env)
  (h : wpAny (model prog w) A (eval e env) (fun o s₁ => wpAny (model prog w) A (getAttr o f true) Q E s₁) E s) : wpAny (model prog w) A (eval (.Attribute e f pos) env) Q E s :=
 Attribute_any_ h (by rw [arm_eval_Attribute, hb])
end
def tFld (K : Fq) (ta : TE) (f : Str) : TE := fun σ H Q => ta σ H fun x H1 => ∃ a C dx fs v, x = .ref a /\ H1 a = some (.ins C dx fs) /\ Cls K C /\ NoAttr K C f /\ fs.lookup f = some v /\ Q v H1
def sFld (K : Fq) (ta tv : TE) (f : Str) : TS := fun D σ H => tv σ H fun y H1 => ta σ H1 fun x H2 => ∃ a C dx fs, x = .ref a /\ H2 a = some (.ins C dx fs) /\ Cls K C /\ NoAttr K C f /\ fs.length < 1000 ∧
 D.nx σ (upd H2 a (.ins C dx (yA f y fs)))
section
variable {X : Cx} {o e value : Expr} {f : Str} {pos pos' tpos : Pos} {ta tv : TE}
theorem z5 (he : PE X e ta) (hb : attributeBase e f X.env (eval e X.env) = eval e X.env) : PE X (.Attribute e f pos) (tFld X.K ta f) := by
 intro pins s σ H Q I h
 refine zdP hb (thn (he pins s σ H _ I h) fun u s1 ⟨x, H1, I1, rx, a, C, dx, fs, v, ex, ea, c, n, l, q⟩ => ?_)
 subst ex
 obtain rfl : u = Value.ref a := rx
 exact wA I1 ea c n l fun u' s2 I2 ru => ⟨v, H1, I2, ru, q⟩
theorem yw (ha : PE X o ta) (hv : PE X value tv) (hs : swapsWith value (some (.Attribute o f pos')) pos.line X.env = pure false) : PS X (.Assign [.Attribute o f pos'] value pos) (sFld X.K ta tv f) := by
 intro pins s σ H D I h
 refine plainObj_wpAny_Assign_Attribute (thn (hv pins s σ H _ I h) fun u s1 ⟨y, H1, I1, ry, q⟩ => thn (ha pins s1 σ H1 _ I1 q) fun ov s2 ⟨x, H2, I2, rx, a, C, dx, fs, ex, ea, c, n, l, q2⟩ => ?_) hs
 subst ex
 obtain rfl : ov = Value.ref a := rx
 exact wB I2 ea c n l ry fun s3 I3 => ⟨σ, _, I3, q2⟩
end
section
variable {X : Cx} {pins : Pq} {σ : St} {H : Hp} {s : Shared} {A : Around} {E : Value -> Shared -> Prop} {Q : Value -> Shared -> Prop} {c : Value} {b : Bool}
end
end L2
namespace L2
open PySem PySem.Spec PyProof.Rows
structure Room (k : Nat) (A : Around) : Prop where
 hd : A.handled = none
 dp : A.depth + 3 * k + 5 < recursionLimit
 un : A.units + 16 * k + 200 < cLine
theorem Room.mono {j k : Nat} {A : Around} (r : Room k A) (h : j <= k) : Room j A := ⟨r.hd, by have := r.dp; omega, by have := r.un; omega⟩
theorem Room.deeper {k : Nat} {A : Around} (r : Room (k + 1) A) (env : Env) : Room k (A.deeper env) :=
 ⟨r.hd, by have := r.dp; show A.depth + 1 + 3 * k + 5 < _; omega, by have := r.un; show A.units + 3 + 16 * k + 200 < _; omega⟩
theorem wC {A : Around} {C : Addr} {us : List Value} {kw : List (Str × Value)} : (A.under (.builtin "type.__call__" ⟨.ref C :: us, kw⟩)).depth = A.depth + 1 := by
 first | rfl | simp [Around.under, Code.weight, Code.isCreation, Code.isGuard, Code.isCaller, Code.frames, Code.isFrame, guardIds]
theorem wD {A : Around} {C : Addr} {us : List Value} {kw : List (Str × Value)} : (A.under (.builtin "type.__call__" ⟨.ref C :: us, kw⟩)).units = A.units + 1 := by
 first | rfl | simp [Around.under, Code.cUnits, Code.frames, Code.isFrame]
theorem Room.make {k : Nat} {A : Around} (r : Room (k + 1) A) (C : Addr) (us : List Value) (kw : List (Str × Value)) : Room k (A.under (.builtin "type.__call__" ⟨.ref C :: us, kw⟩)) :=
 ⟨r.hd, by have := r.dp; rw [wC]; omega, by have := r.un; rw [wD]; omega⟩
theorem Room.depth {k : Nat} {A : Around} (r : Room k A) : A.depth < recursionLimit := by have := r.dp; omega
theorem Room.units0 {k : Nat} {A : Around} (r : Room k A) : A.units < cLine := by have := r.un; omega
def tNil : TA := fun _ H Q => Q [] H
def zat (ta : TE) (tr : TA) : TA := fun σ H Q => ta σ H fun x H1 => tr σ H1 fun xs H2 => Q (x :: xs) H2
section
variable {X : Cx} {e : Expr} {es : List Expr} {te : TE} {t : TA} {pos : Pos}
theorem za : PA X [] tNil := fun _ _ _ _ H Q I h => Calls.spliced_nil ⟨[], H, I, .nil, h⟩
theorem zc (ha : PE X e te) (hr : PA X es t) (hs : starEach (e :: es) X.env = (false, eval e X.env) :: starEach es X.env := by rfl) : PA X (e :: es) (zat te t) := by
 intro pos pins s σ H Q I h
 rw [hs]
 show wpAny _ _ (spliced ((false, eval e X.env) :: backTo pos (starEach es X.env))) _ _ s
 refine Calls.spliced_cons (thn (ha pins s σ H _ I h) fun u s1 ⟨x, H1, I1, r1, q1⟩ => ?_)
 exact thn (hr pos pins s1 σ H1 _ I1 q1) fun us s2 ⟨xs, H2, I2, r2, q2⟩ => ⟨x :: xs, H2, I2, .cons r1 r2, q2⟩
def tTup (t : TA) : TE := fun σ H Q => t σ H fun xs H1 => xs.length <= sizeLine /\ ∀ p, H1 p = none -> Q (.ref p) (upd H1 p (.tup xs))
def tLst (t : TA) : TE := fun σ H Q => t σ H fun xs H1 => xs.length <= sizeLine /\ ∀ p, H1 p = none -> Q (.ref p) (upd H1 p (.lst xs))
theorem kG {x1} (h : PA X es t) : PE X (.Tuple es x1 pos) (tTup t) := by
 intro pins s σ H Q I hq
 refine wpAny_Tuple_spliced (thn (h pos pins s σ H _ I hq) fun us s1 ⟨xs, H1, I1, r, z, q⟩ => ⟨by rw [<- r.length]; exact z, ?_⟩)
 have hf : H1 s1.heap.objs.size = none := I1.hok.fresh (Nat.le_refl _)
 refine ⟨.ref s1.heap.objs.size, upd H1 s1.heap.objs.size (.tup xs), I1.laid (t' := s1.toks) (fun b u e => Heap.get?_push_of_some _ e) (Nat.le_refl _) ?_, rfl, q _ hf⟩
 exact ⟨z, us, r, ⟨_, Heap.get?_push_size _ rfl, rfl, _, rfl⟩⟩
theorem xi (h : PA X es t) : PE X (.List es pos) (tLst t) := by
 intro pins s σ H Q I hq
 refine wpAny_List_spliced (thn (h pos pins s σ H _ I hq) fun us s1 ⟨xs, H1, I1, r, z, q⟩ => ⟨by rw [<- r.length]; exact z, ?_⟩)
 have hf : H1 s1.heap.objs.size = none := I1.hok.fresh (Nat.le_refl _)
 refine ⟨.ref s1.heap.objs.size, upd H1 s1.heap.objs.size (.lst xs), I1.laid (t' := s1.toks) (fun b u e => Heap.get?_push_of_some _ e) (Nat.le_refl _) ?_, rfl, q _ hf⟩
 exact ⟨z, us, 0, r, Heap.get?_push_size _ rfl⟩
end
abbrev Sp := List V -> Hp -> VK -> XK -> Prop
abbrev CXT := List Env -> Hp -> Shared -> XK -> Value -> Shared -> Prop
structure Env0 (P : Program) (w : World) (K : Fq) (mg : Mq) (base : Heap) (A : Around) (outer : List Env) (s : Shared) (H : Hp) : Prop where
 frames : A.frames = some outer
 mod : Mod K mg base
 bs : ∀ b o, base.get? b = some o -> s.heap.get? b = some o /\ H b = none
 bsz : base.objs.size <= s.heap.objs.size
 funs : s.heap.FunFrames base outer
 frf : ∀ b ∈ frs outer, H b = none
 hok : HOk P w H s.heap
 bare : AllBare s.gens
def CE (outer : List Env) (P : Program) (w : World) (H : Hp) (s : Shared) (Q : VK) (u : Value) (s' : Shared) : Prop :=
 ∃ v H', s'.os = s.os /\ AllBare s'.gens /\ Un (frs outer) [] H H' s.heap s'.heap /\ HOk P w H' s'.heap /\ RelV v u /\ Q v H'
def CR (CX : CXT) (outer : List Env) (P : Program) (w : World) (H : Hp) (s : Shared) (Q : VK) (E : XK) (r : Result) (s' : Shared) : Prop :=
 match r with
 | .ok (.ret u) => CE outer P w H s Q u s'
 | .ok _ => False
 | .error e => CX outer H s E e s'
structure FnOk (P : Program) (w : World) (K : Fq) (mg : Mq) (base : Heap) (CX : CXT) (k : Nat) (f : Addr) (fd : FuncData) (ps : List Str) (sp : Sp) : Prop where
 len : ∀ vs H Q E, sp vs H Q E -> vs.length = ps.length
 run : ∀ (A : Around) (outer : List Env) (s : Shared) (H : Hp) (args : Args) (us : List Value) (vs : List V) (Q : VK) (E : XK), Room k A -> Env0 P w K mg base A outer s H -> BindsTo s fd args (ps.zip us) -> Vals vs us -> sp vs H Q E →
  codeAny (model P w) A (.call (.ref f) args) (CR CX outer P w H s Q E) s
theorem FnOk.mono {P : Program} {w : World} {K : Fq} {mg : Mq} {base : Heap} {CX : CXT} {j k : Nat} {f : Addr} {fd : FuncData} {ps : List Str} {sp : Sp} (F : FnOk P w K mg base CX j f fd ps sp) (h : j <= k) :
  FnOk P w K mg base CX k f fd ps sp := ⟨F.len, fun A outer s H args us vs Q E hr => F.run A outer s H args us vs Q E (hr.mono h)⟩
theorem FnOk.imp {P : Program} {w : World} {K : Fq} {mg : Mq} {base : Heap} {CX : CXT} {k : Nat} {f : Addr} {fd : FuncData} {ps : List Str} {sp sp' : Sp} (F : FnOk P w K mg base CX k f fd ps sp)
  (h : ∀ vs H Q E, sp' vs H Q E -> sp vs H Q E) : FnOk P w K mg base CX k f fd ps sp' :=
 ⟨fun vs H Q E q => F.len vs H Q E (h _ _ _ _ q), fun A outer s H args us vs Q E hr he hb hv hs => F.run A outer s H args us vs Q E hr he hb hv (h _ _ _ _ hs)⟩
theorem Env0.make {P : Program} {w : World} {K : Fq} {mg : Mq} {base : Heap} {A : Around} {outer : List Env} {s : Shared} {H : Hp} (e : Env0 P w K mg base A outer s H) (C : Addr) (us : List Value) (kw : List (Str × Value)) :
  Env0 P w K mg base (A.under (.builtin "type.__call__" ⟨.ref C :: us, kw⟩)) outer s H := ⟨by first | exact e.frames | (simpa [Around.under, Code.envs, Code.isFrame, pushEnvs] using e.frames), e.mod, e.bs, e.bsz, e.funs, e.frf, e.hok, e.bare⟩
section
variable {X : Cx} {pins : Pq} {σ : St} {H : Hp} {s s' : Shared}
theorem Inv.env0 (I : Inv X pins σ H s) : Env0 X.prog X.w X.K X.mg X.base X.A X.stack s H :=
 ⟨I.ok.frames, I.ok.mod, I.bs, Nat.le_trans I.ok.bsz I.sz, I.stack, I.stkFree, I.hok, I.bare⟩
theorem Inv.after {Q : VK} {u : Value} (I : Inv X pins σ H s) (h : CE X.stack X.prog X.w H s Q u s') : EP X pins σ Q u s' := by
 obtain ⟨v, H', os, bare, un, hok, r, q⟩ := h
 obtain ⟨hh, g, d, t, os'⟩ := s'
 obtain rfl : os' = s.os := os
 exact ⟨v, H', I.call (h' := hh) (g' := g) (d' := d) (t' := t) (ch := []) un hok bare (fun b z => absurd z (by simp)), r, q⟩
end
def vq (sp : Sp) (dvs : List V) (E : XK) (t : TA) : TE := fun σ H Q => t σ H fun vs H1 => sp (vs ++ dvs) H1 Q E
def Binds (K : Fq) (fd : FuncData) (ps : List Str) (ds : List Value) : Prop :=
 ∀ (s : Shared) (us : List Value), K.In s.heap -> (us ++ ds).length = ps.length -> BindsTo s fd ⟨us, []⟩ (ps.zip (us ++ ds))
theorem Binds.all {K : Fq} {fd : FuncData} {ps : List Str} (h : ∀ us : List Value, us.length = ps.length -> bindArgs fd ⟨us, []⟩ = pure (ps.zip us)) : Binds K fd ps [] := fun s us _ hl => by
 rw [List.append_nil] at hl |-
 exact .of_eq (h us hl)
def y6 (CX : CXT) (X : Cx) (E : XK) : Prop := ∀ (pins : Pq) (σ : St) (H : Hp) (s : Shared) (e : Value) (s' : Shared), Inv X pins σ H s -> CX X.stack H s E e s' -> X.xe e s'
section
variable {X : Cx} {CX : CXT} {k : Nat} {f C : Addr} {fd : FuncData} {ps : List Str} {sp : Sp} {dvs : List V} {ds : List Value} {E : XK} {x m : Str} {p pos apos : Pos} {e o : Expr} {es : List Expr} {ta : TE} {t : TA}
theorem jh {pins : Pq} {σ : St} {H : Hp} {s : Shared} {Q : VK} {us : List Value} {vs : List V} (F : FnOk X.prog X.w X.K X.mg X.base CX k f fd ps sp) (hr : Room k X.A) (hb : Binds X.K fd ps ds) (hd : Vals dvs ds) (hx : y6 CX X E)
  (I : Inv X pins σ H s) (r : Vals vs us) (h : sp (vs ++ dvs) H Q E) : wpAny (model X.prog X.w) X.A (call (.ref f) us) (EP X pins σ Q) X.xe s := by
 have r2 : Vals (vs ++ dvs) (us ++ ds) := r.append hd
 have hl : (us ++ ds).length = ps.length := by rw [<- r2.length]; exact F.len _ _ _ _ h
 refine wpAny_call (codeAny_mono (F.run X.A X.stack s H ⟨us, []⟩ (us ++ ds) (vs ++ dvs) Q E hr I.env0 (hb s us I.kIn hl) r2 h) fun r s' hq => ?_)
 cases r with
 | error e => exact hx pins σ H s e s' I hq
 | ok fl =>
  cases fl with
  | ret u => exact I.after hq
  | next => exact False.elim hq
  | brk => exact False.elim hq
  | cont => exact False.elim hq
theorem zau (F : FnOk X.prog X.w X.K X.mg X.base CX k f fd ps sp) (hr : Room k X.A) (hg : Gl X x) (hm : X.mg x = some (.ref f)) (hk : PySem.W.keepIn X.K (.ref f) = true) (hb : Binds X.K fd ps ds) (hd : Vals dvs ds) (hx : y6 CX X E)
  (ha : PA X (e :: es) t) (hdb : (x == ("__debug__" : Str)) = false := by decide) (he : starEach (e :: es) X.env = (false, eval e X.env) :: starEach es X.env := by rfl) (hpl : (backTo pos (starEach es X.env)).any (·.1) = false := by rfl) :
  PE X (.Call (.Name x p) (e :: es) [] pos) (vq sp dvs E t) := by
 intro pins s σ H Q I h
 refine wpAny_Call_Name_kw (yT I hg hm ?_ hdb)
 refine PySem.W.callWith_K (h₀ := X.base) I.ok.mod.kin hk (thn (ha pos pins s σ H _ I h) fun us s1 ⟨vs, H1, I1, r, q⟩ => ⟨I1.kIn, ?_⟩) he hpl
 exact jh F hr hb hd hx I1 r q
structure Mk (K : Fq) (C f : Addr) : Prop where
 makes : PySem.W.makesIn K C = true
 init : PySem.W.findIn K (.ref C) "__init__" = some (some (.ref f))
 fn : PySem.W.isFn K (.ref f) = true
 kp : PySem.W.keepIn K (.ref C) = true
theorem vt {pins : Pq} {σ : St} {H : Hp} {s : Shared} {Q : VK} {us : List Value} {vs : List V} (M : Mk X.K C f) (F : FnOk X.prog X.w X.K X.mg X.base CX k f fd ps sp) (hr : Room (k + 1) X.A) (hb : Binds X.K fd ps ds) (hd : Vals dvs ds)
  (hx : y6 CX X E) (I : Inv X pins σ H s) (r : Vals vs us)
  (h : ∀ x dx, H x = none -> H dx = none -> dx ≠ x -> sp (.ref x :: (vs ++ dvs)) (upd (upd H dx (.own x)) x (.ins C dx [])) (fun v H2 => v = .non /\ Q (.ref x) H2) E) :
  wpAny (model X.prog X.w) X.A (call (.ref C) us) (EP X pins σ Q) X.xe s := by
 have hq := h (s.heap.objs.size + 1) s.heap.objs.size (I.hok.fresh (Nat.le_succ _)) (I.hok.fresh (Nat.le_refl _)) (Nat.ne_of_lt (Nat.lt_succ_self _))
 have I2 := Inv.made (C := C) I
 have r2 : Vals (V.ref (s.heap.objs.size + 1) :: (vs ++ dvs)) (Value.ref (s.heap.objs.size + 1) :: (us ++ ds)) := .cons rfl (r.append hd)
 have hl : (Value.ref (s.heap.objs.size + 1) :: us ++ ds).length = ps.length := by
  have e := r2.length
  rw [F.len _ _ _ _ hq] at e
  exact e.symm
 refine wpAny_call (zb2 (f := f) I.kIn M.makes M.init (beq_iff_eq.mp M.fn) (codeAny_mono (F.run _ X.stack _ _ ⟨Value.ref (s.heap.objs.size + 1) :: us, []⟩ (Value.ref (s.heap.objs.size + 1) :: (us ++ ds)) _ _ E (hr.make C us [])
  (I2.env0.make C us []) (hb _ (Value.ref (s.heap.objs.size + 1) :: us) I2.kIn hl) r2 hq) fun r s' hq' => ?_))
 cases r with
 | error e => exact hx pins σ _ _ e s' I2 hq'
 | ok fl =>
  cases fl with
  | ret u =>
   obtain ⟨v, H', I3, rv, ev, q3⟩ := I2.after hq'
   subst ev
   exact ⟨rv, ⟨V.ref (s.heap.objs.size + 1), H', I3, rfl, q3⟩⟩
  | next => exact False.elim hq'
  | brk => exact False.elim hq'
  | cont => exact False.elim hq'
end
section
variable {X : Cx} {CX : CXT} {k : Nat} {f C : Addr} {fd : FuncData} {ps ks : List Str} {sp : Sp} {E : XK} {x m : Str} {p pos apos kpos : Pos} {e o : Expr} {es : List Expr} {kws : List Keyword} {te ta : TE} {t tk : TA} {nm : Option Str}
variable {g : List Value -> List Value -> List Value} {gV : List V -> List V -> List V}
end
structure zm (N P : List Str) (sc : Scope) : Prop where
 kind : sc.kind = .function
 co : sc.isCoroutine = false
 gen : sc.isGenerator = false
 nd : N.Nodup
 pre : N.take P.length = P
 par : ∀ x ∈ P, sc.names.lookup x = some .local \/ sc.names.lookup x = some .cell
 nofree : ∀ y ∈ sc.names, y.2 ≠ .free
theorem qR {kindOf : Str -> Option NameKind} {x : Str} : ∀ {binds : List (Str × Value)} {m : Mq}, (∀ v, (x, v) ∉ binds) -> bindL kindOf binds m x = m x
 | [], _, _ => rfl
 | (n, v) :: r, m, h => by
  unfold bindL
  rw [qR fun w hw => h w (List.mem_cons_of_mem _ hw)]
  split
  ·have : x ≠ n := by rintro rfl; exact h v List.mem_cons_self
   simp [this]
  ·rfl
theorem qS {kindOf : Str -> Option NameKind} {x : Str} : ∀ {binds : List (Str × Value)} {m : Mq}, (∀ v, (x, v) ∉ binds) -> bindC kindOf binds m x = m x
 | [], _, _ => rfl
 | (n, v) :: r, m, h => by
  unfold bindC
  rw [qS fun w hw => h w (List.mem_cons_of_mem _ hw)]
  split
  ·rfl
  ·have : x ≠ n := by rintro rfl; exact h v List.mem_cons_self
   simp [this]
theorem qT {kindOf : Str -> Option NameKind} {x : Str} {v : Value} : ∀ {P : List Str} {vs : List Value} {i : Nat} {m : Mq}, P.Nodup -> P[i]? = some x -> vs[i]? = some v -> kindOf x = some .local →
  bindL kindOf (P.zip vs) m x = some v
 | [], _, _, _, _, h, _, _ => by simp at h
 | _ :: _, [], _, _, _, _, h, _ => by simp at h
 | p :: P, w :: vs, 0, m, nd, h1, h2, hk => by
  simp at h1 h2; subst h1; subst h2
  show bindL kindOf ((p, w) :: P.zip vs) m p = _
  unfold bindL
  rw [qR fun v hv => (List.nodup_cons.mp nd).1 (List.of_mem_zip hv).1, if_pos hk]
  simp
 | p :: P, w :: vs, i + 1, m, nd, h1, h2, hk => by
  show bindL kindOf ((p, w) :: P.zip vs) m x = _
  unfold bindL
  exact qT (i := i) (List.nodup_cons.mp nd).2 (by simpa using h1) (by simpa using h2) hk
theorem qU {kindOf : Str -> Option NameKind} {x : Str} {v : Value} : ∀ {P : List Str} {vs : List Value} {i : Nat} {m : Mq}, P.Nodup -> P[i]? = some x -> vs[i]? = some v -> kindOf x ≠ some .local →
  bindC kindOf (P.zip vs) m x = some v
 | [], _, _, _, _, h, _, _ => by simp at h
 | _ :: _, [], _, _, _, _, h, _ => by simp at h
 | p :: P, w :: vs, 0, m, nd, h1, h2, hk => by
  simp at h1 h2; subst h1; subst h2
  show bindC kindOf ((p, w) :: P.zip vs) m p = _
  unfold bindC
  rw [qS fun v hv => (List.nodup_cons.mp nd).1 (List.of_mem_zip hv).1, if_neg hk]
  simp
 | p :: P, w :: vs, i + 1, m, nd, h1, h2, hk => by
  show bindC kindOf ((p, w) :: P.zip vs) m x = _
  unfold bindC
  exact qU (i := i) (List.nodup_cons.mp nd).2 (by simpa using h1) (by simpa using h2) hk
def yt (N : List Str) (vs : List V) : St := vs.map some ++ List.replicate (N.length - vs.length) none
def yh (CX : CXT) (P : Program) (w : World) (K : Fq) (mg : Mq) (base : Heap) (N : List Str) (qual : Str) (scope : Scope) (f : Addr) (cd : Value) (A : Around) (outer : List Env) (s : Shared) (H : Hp) (E : XK) : Cx where
 prog := P
 w := w
 K := K
 mg := mg
 base := base
 A := A.deeper (envOfC qual scope s.heap.objs.size f cd)
 N := N
 s₀ := s
 H₀ := H
 env := envOfC qual scope s.heap.objs.size f cd
 outer := outer
 stack := envOfC qual scope s.heap.objs.size f cd :: outer
 ex := []
 calm := true
 fn := fun _ => true
 pn := []
 xe := fun e s' => wpAny (model P w) (A.deeper (envOfC qual scope s.heap.objs.size f cd)) (leaving (envOfC qual scope s.heap.objs.size f cd) e) (fun _ s'' => CX outer H s E e s'') (fun e' s'' => CX outer H s E e' s'') s'
theorem vv {sc : Scope} {n : Nat} {x : Str} (h : sc.names.lookup x = some .cell) : ∃ c, (cellsFrom n sc.names []).lookup x = some c := by
 have q := PySem.W.cellsFrom_some sc.names n [] (.inl h)
 exact Option.isSome_iff_exists.mp q
theorem qV {CX : CXT} {P : Program} {w : World} {K : Fq} {mg : Mq} {base : Heap} {N ps : List Str} {qual : Str} {scope : Scope} {f : Addr} {cd : Value} {A : Around} {outer : List Env} {s s1 : Shared} {H : Hp} {E : XK} {us : List Value} {vs : List V}
  (S : zm N ps scope) (hd : A.handled = none) (e0 : Env0 P w K mg base A outer s H) (hl : vs.length = ps.length) (r : Vals vs us)
  (x : InCallC s s.heap.objs.size (bindL (envOfC qual scope s.heap.objs.size f cd).kindOf (ps.zip us) fun _ => none) (cellsFrom (s.heap.objs.size + 1) scope.names []) (bindC (envOfC qual scope s.heap.objs.size f cd).kindOf (ps.zip us) fun _ => none) s1) :
  Inv (yh CX P w K mg base N qual scope f cd A outer s H E) [] (yt N vs) H s1 := by
 have hpl : ps.length <= N.length := by have := congrArg List.length S.pre; rw [List.length_take] at this; omega
 obtain ⟨h1, tk, rfl, hk⟩ := x.done
 have noA : ∀ b : Addr, b ∉ (yh CX P w K mg base N qual scope f cd A outer s H E).ex := fun b z => absurd (show b ∈ ([] : List Addr) from z) (by simp)
 refine ⟨⟨e0.mod, S.kind, rfl, rfl, Nat.le_refl _, fun y z c h1 h2 => ?_, fun y hy => ?_, fun y c _ h => ?_, fun _ => hd, Around.frames_deeper e0.frames, .inr ⟨rfl, rfl⟩, fun b z => absurd z (noA b), e0.bs, e0.bsz, fun b _ _ => noA b, fun b z => absurd z (noA b), e0.funs, e0.frf⟩,
  rfl, e0.bare, Un.kept hk, ⟨_, x.toInCall.ns, fun i y v h1 h2 h3 => ?_⟩, fun y c h => ⟨_, x.cell y c h⟩, e0.hok.fresh (Nat.le_refl _), fun y c h => ?_, fun p hp => absurd (show p ∈ ([] : Pq) from hp) (by simp), e0.hok.kept hk, ?_⟩
 ·exact name_of_addr x.apart (PySem.mem_of_lookup h1) (PySem.mem_of_lookup h2)
 ·have hy : scope.names.lookup y = some .cell \/ scope.names.lookup y = some .free := hy
  rcases hy with hy | hy
  ·exact vv hy
  ·exact absurd rfl (S.nofree _ (PySem.mem_of_lookup hy))
 ·exact Nat.le_of_lt (x.above y c (PySem.mem_of_lookup h))
 ·have hi : i < vs.length := by
   unfold yt at h2
   by_cases hi : i < vs.length
   ·exact hi
   ·rw [List.getElem?_append_right (by simpa using hi)] at h2
    rw [List.getElem?_replicate] at h2
    split at h2 <;> cases h2
  have ha : vs[i]? = some v := by
   unfold yt at h2
   rw [List.getElem?_append_left (by simpa using hi), List.getElem?_map] at h2
   cases e : vs[i]? with
   | none => rw [e] at h2; cases h2
   | some a => rw [e] at h2; cases h2; rfl
  obtain ⟨u, hu, rv⟩ := r.get ha
  have hp : ps[i]? = some y := by
   rw [<- S.pre, List.getElem?_take_of_lt (by omega)]; exact h1
  have ndP : ps.Nodup := by rw [<- S.pre]; exact S.nd.sublist (List.take_sublist _ _)
  refine ⟨u, rv, ?_⟩
  rcases S.par y (List.mem_of_getElem? hp) with k | k
  ·exact .inl ⟨k, qT ndP hp hu k⟩
  ·obtain ⟨c, e⟩ := vv (n := s.heap.objs.size + 1) k
   refine .inr ⟨.inl k, c, e, ?_⟩
   have q := x.cell y c e
   rw [qU ndP hp hu (by show scope.names.lookup y ≠ _; rw [k]; decide)] at q
   exact q
 ·exact e0.hok.fresh (Nat.le_of_lt (x.above y c (PySem.mem_of_lookup h)))
 ·unfold yt
  show _ = N.length
  rw [List.length_append, List.length_map, List.length_replicate]
  omega
theorem qW {CX : CXT} {P : Program} {w : World} {K : Fq} {mg : Mq} {base : Heap} {k : Nat} {f : Addr} {name qual : Str} {params : Arguments} {body : List Stmt} {scope : Scope} {dV kV doc pm cdv ct oc : Value} {an od : Option Addr}
  {osl : Array (Option Value)} {N ps : List Str} {sp : Sp} (lk : K.lookup f = some ⟨oc, od, .func (PySem.W.fnOf name qual params body scope dV kV doc pm an cdv ct), osl⟩) (hcd : PySem.W.codeIn K cdv qual = true) (S : zm N ps scope)
  (len : ∀ vs H Q E, sp vs H Q E -> vs.length = ps.length)
  (hbody : ∀ (A : Around) (outer : List Env) (s : Shared) (H : Hp) (vs : List V) (Q : VK) (E : XK), Room k (A.deeper (envOfC qual scope s.heap.objs.size f cdv)) -> sp vs H Q E →
   ∃ t, PSs (yh CX P w K mg base N qual scope f cdv A outer s H E) body t /\ t { nx := fun _ H' => Q .non H', rt := Q } (yt N vs) H) :
  FnOk P w K mg base CX (k + 1) f (PySem.W.fnOf name qual params body scope dV kV doc pm an cdv ct) ps sp := by
 refine ⟨len, fun A outer s H args us vs Q E hr e0 hb r hsp => ?_⟩
 have hl := len _ _ _ _ hsp
 have KX : K.In s.heap := e0.mod.kin.keeps fun b o e => (e0.bs b o e).1
 have lim : s.heap.NoLimit := e0.mod.nolimit.keeps fun b o e => (e0.bs b o e).1
 have hkind : ∀ y ∈ ps.zip us, scope.names.lookup y.1 = some .local \/ (scope.names.lookup y.1 = some .cell /\ ((cellsFrom (s.heap.objs.size + 1) scope.names []).lookup y.1).isSome = true) := fun ⟨n, v⟩ hy => by
  rcases S.par n (List.of_mem_zip hy).1 with q | q
  ·exact .inl q
  ·exact .inr ⟨q, PySem.W.cellsFrom_some _ _ _ (.inl q)⟩
 refine codeAny_call_function hr.depth (KX _ _ lk) rfl S.co S.gen rfl (PySem.W.codeRec_of KX hcd) (hb _ _ _ _ ?_)
 refine wpAny_newFunctionEnv_cells S.kind hkind fun env he s1 x => ?_
 subst he
 refine ⟨lim.keeps x.toInCall.keep, codeAny_func ?_⟩
 obtain ⟨t, ht, hq⟩ := hbody A outer s H vs Q E (hr.deeper _) hsp
 have I : Inv (yh CX P w K mg base N qual scope f cdv A outer s H E) [] (yt N vs) H s1 := qV S hr.hd e0 hl r x
 refine wpAny_mono (ht [] s1 (yt N vs) H _ I hq) (fun fl s' hs => ?_) fun e s' hs => hs
 have fin : ∀ {σ' : St} {H' : Hp} {v : V} {u : Value}, Inv (yh CX P w K mg base N qual scope f cdv A outer s H E) [] σ' H' s' -> RelV v u -> Q v H' -> CE outer P w H s Q u s' :=
  fun {σ' H' v u} J rv q => ⟨v, H', J.os, J.bare, J.base, J.hok, rv, q⟩
 cases fl with
 | ret u =>
  obtain ⟨v, σ', H', J, rv, q⟩ := hs
  exact fin J rv q
 | next =>
  obtain ⟨σ', H', J, q⟩ := hs
  exact fin (v := V.non) (u := Value.none) J rfl q
 | brk =>
  obtain ⟨_, _, _, q⟩ := hs
  exact False.elim q
 | cont =>
  obtain ⟨_, _, _, q⟩ := hs
  exact False.elim q
end L2
namespace L2
open PySem PySem.Spec PyProof.Rows
section
variable {X : Cx} {x : Str} {p pos : Pos} {e : Expr} {es : List Expr} {t : TA} {id T : String} {r : List V -> Hp -> VK -> Prop}
def tCB (r : List V -> Hp -> VK -> Prop) (t : TA) : TE := fun σ H Q => t σ H fun vs H1 => r vs H1 Q
theorem zw (hc : xS X (.builtin id) r) (hg : Gl X x) (hm : X.mg x = none) (hv : bootBuiltins x = some (.builtin id)) (ha : PA X (e :: es) t) (hn : x ≠ "__name__" := by decide) (hdb : (x == ("__debug__" : Str)) = false := by decide)
  (he : starEach (e :: es) X.env = (false, eval e X.env) :: starEach es X.env := by rfl) (hpl : (backTo pos (starEach es X.env)).any (·.1) = false := by rfl) : PE X (.Call (.Name x p) (e :: es) [] pos) (tCB r t) := by
 intro pins s σ H Q I h
 refine wpAny_Call_Name_kw (xK I hg hm hv ?_ hn hdb)
 exact PyProof.Rows.callWith_builtin1 (thn (ha pos pins s σ H _ I h) fun us s1 ⟨vs, H1, I1, r1, q1⟩ => hc pins s1 σ H1 vs us Q I1 r1 q1) he hpl
theorem yV (hc : xS X (.type T) r) (hg : Gl X x) (hm : X.mg x = none) (hv : bootBuiltins x = some (.type T)) (ha : PA X (e :: es) t) (hn : x ≠ "__name__" := by decide) (hdb : (x == ("__debug__" : Str)) = false := by decide)
  (he : starEach (e :: es) X.env = (false, eval e X.env) :: starEach es X.env := by rfl) (hpl : (backTo pos (starEach es X.env)).any (·.1) = false := by rfl) : PE X (.Call (.Name x p) (e :: es) [] pos) (tCB r t) := by
 intro pins s σ H Q I h
 refine wpAny_Call_Name_kw (xK I hg hm hv ?_ hn hdb)
 exact PyProof.Rows.callWith_type1 (thn (ha pos pins s σ H _ I h) fun us s1 ⟨vs, H1, I1, r1, q1⟩ => hc pins s1 σ H1 vs us Q I1 r1 q1) he hpl
end
end L2
namespace HT
open PySem PyProof.Rows
section
open PySem.SeqAt
open PySem.AutoSeq1 (wpAny_loadPart')
open PySem.MeetsSeq PySem.MeetsSeq2 PySem.MeetsSeq3
end
section
variable {prog : Program} {w : World} {A : Around} {E : Value -> Shared -> Prop} {s : Shared}
def sIx (n d : Nat) : Option Int -> Nat
 | none => d
 | some v => if v < 0 then (v + (n : Int)).toNat else min v.toNat n
theorem sIx_none (n d : Nat) : sIx n d none = d := rfl
theorem sIx_nat (n d k : Nat) : sIx n d (some (k : Int)) = min k n := by
 show (if (k : Int) < 0 then ((k : Int) + (n : Int)).toNat else min (k : Int).toNat n) = min k n
 rw [if_neg (by omega), Int.toNat_natCast]
end
end HT
namespace L2
open PySem PySem.Spec PyProof.Rows
abbrev TO := St -> Hp -> (Option Int -> Hp -> Prop) -> Prop
def PO (X : Cx) (e : Option Expr) (t : TO) : Prop :=
 ∀ (pins : Pq) (s : Shared) (σ : St) (H : Hp) (Q : Option Int -> Hp -> Prop), Inv X pins σ H s -> t σ H Q →
  wpAny (model X.prog X.w) X.A (evalPart e X.env) (fun u s' => ∃ o H', Inv X pins σ H' s' /\ IsPart u o /\ Q o H') X.xe s
def zdQ : TO := fun _ H Q => Q none H
def tPart (t : TE) : TO := fun σ H Q => t σ H fun x H1 => ∃ i, x = .int i /\ Q (some i) H1
theorem qp {ns : List Int} : ∀ {us : List Value}, Vals (ns.map V.int) us -> IntsAre us ns := by
 induction ns with
 | nil => intro us r; rw [List.map_nil] at r; cases r; exact .nil
 | cons n ns ih =>
  intro us r
  rw [List.map_cons] at r
  cases r with
  | cons r1 r2 =>
   obtain ⟨t, e⟩ := r1
   subst e
   exact .cons n t (ih r2)
section
variable {X : Cx} {e : Expr} {te : TE} {lo hi : Option Expr} {tl th : TO} {pos p2 : Pos}
theorem zdR : PO X none zdQ := by
 intro pins s σ H Q I h
 rw [evalPart_none]
 exact wpAny_pure ⟨none, H, I, .none, h⟩
theorem zdS (h : PE X e te) : PO X (some e) (tPart te) := by
 intro pins s σ H Q I hw
 rw [evalPart_some]
 refine thn (h pins s σ H _ I hw) fun u s1 ⟨x, H1, I1, r1, q1⟩ => ?_
 obtain ⟨i, rfl, q⟩ := q1
 obtain ⟨t, rfl⟩ := r1
 exact ⟨some i, H1, I1, .int i t, q⟩
def SlR (X : Cx) (r : V -> Option Int -> Option Int -> Hp -> VK -> Prop) : Prop :=
 ∀ (pins : Pq) (s : Shared) (σ : St) (H : Hp) (x : V) (v vl vu : Value) (lo hi : Option Int) (sl : Addr) (Q : VK), Inv X pins σ H s -> RelV x v -> s.heap.IsSliceOf sl vl vu .none -> IsPart vl lo -> IsPart vu hi -> r x lo hi H Q →
  ∃ T id, typeLookup (.type T) "__getitem__" = pure (some (.builtin id)) /\ s.TypeIs v T /\ wpAny (model X.prog X.w) X.A (getItem v (.ref sl)) (EP X pins σ Q) X.xe s
def tSl (r : V -> Option Int -> Option Int -> Hp -> VK -> Prop) (te : TE) (tl th : TO) : TE := fun σ H Q => te σ H fun x H1 => tl σ H1 fun l H2 => th σ H2 fun u H3 => r x l u H3 Q
theorem zb3 {r : V -> Option Int -> Option Int -> Hp -> VK -> Prop} (hr : SlR X r) (he : PE X e te) (hl : PO X lo tl) (hu : PO X hi th) : PE X (.Subscript e (.Slice lo hi none p2) pos) (tSl r te tl th) := by
 intro pins s σ H Q I h
 refine Subscript_ (thn (he pins s σ H _ I h) fun v s1 ⟨x, H1, I1, r1, q1⟩ => ?_)
 refine wpAny_Slice (thn (hl pins s1 σ H1 _ I1 q1) fun vl s2 ⟨l, H2, I2, pl, q2⟩ => thn (hu pins s2 σ H2 _ I2 q2) fun vu s3 ⟨u, H3, I3, pu, q3⟩ => ?_)
 rw [evalPart_none]
 refine wpAny_pure ?_
 have I4 : Inv X pins σ H3 { s3 with heap := s3.heap.push { cls := .type "slice", data := .fields #[vl, vu, .none] } } := I3.kept (t' := s3.toks) fun b ob q => Heap.get?_push_of_some _ q
 obtain ⟨T, id, hT, ht, hg⟩ := hr pins { s3 with heap := s3.heap.push { cls := .type "slice", data := .fields #[vl, vu, .none] } } σ H3 x v vl vu l u s3.heap.objs.size Q I4 r1 (Heap.IsSliceOf.new ..) pl pu q3
 show wpAny (model X.prog X.w) X.A (subscriptTail e (.Slice lo hi none p2) v (.ref s3.heap.objs.size)) (EP X pins σ Q) X.xe { s3 with heap := s3.heap.push { cls := .type "slice", data := .fields #[vl, vu, .none] } }
 exact tail_any (ops := [.ref s3.heap.objs.size, v]) ht hT hg (by with_unfolding_all rfl)
def zaU (xs : List V) (lo hi : Option Int) : List V := (xs.drop (HT.sIx xs.length 0 lo)).take (HT.sIx xs.length xs.length hi - HT.sIx xs.length 0 lo)
theorem vw (xs : List V) (lo hi : Option Int) : (zaU xs lo hi).length <= xs.length := by
 unfold zaU
 rw [List.length_take, List.length_drop]
 omega
end
end L2
namespace L2
open PySem PySem.Spec PyProof.Rows
def ixN (n : Nat) (i : Int) : Option Nat := if 0 <= i then (if i < n then some i.toNat else none) else if -(n : Int) <= i then some (i + n).toNat else none
def atI {α : Type} (xs : List α) (i : Int) : Option α := (ixN xs.length i).bind fun j => xs[j]?
theorem zav {n : Nat} {i : Int} {j : Nat} (h : ixN n i = some j) : seqIndex? i n = some j /\ j < n /\ -(n : Int) <= i /\ i < n := by
 unfold ixN at h
 by_cases h0 : 0 <= i
 ·rw [if_pos h0] at h
  by_cases h1 : i < n
  ·rw [if_pos h1] at h
   have e : i.toNat = j := Option.some.inj h
   exact ⟨by rw [seqIndex_of h0 h1, e], by omega, by omega, h1⟩
  ·rw [if_neg h1] at h; cases h
 ·rw [if_neg h0] at h
  by_cases h1 : -(n : Int) <= i
  ·rw [if_pos h1] at h
   have e : (i + n).toNat = j := Option.some.inj h
   exact ⟨by rw [seqIndex_neg (by omega) h1, e], by omega, h1, by omega⟩
  ·rw [if_neg h1] at h; cases h
theorem kH {α : Type} {xs : List α} {i : Int} {v : α} (h : atI xs i = some v) : ∃ j, seqIndex? i xs.length = some j /\ xs[j]? = some v /\ j < xs.length /\ -(xs.length : Int) <= i /\ i < xs.length := by
 unfold atI at h
 cases e : ixN xs.length i with
 | none => rw [e] at h; cases h
 | some j =>
  rw [e] at h
  obtain ⟨h1, h2, h3, h4⟩ := zav e
  exact ⟨j, h1, h, h2, h3, h4⟩
theorem qg {α : Type} {xs : List α} {j : Nat} {v : α} (h : xs[j]? = some v) : atI xs (j : Int) = some v := by
 have hj : j < xs.length := (List.getElem?_eq_some_iff.mp h).1
 have e : ixN xs.length (j : Int) = some j := by
  unfold ixN
  rw [if_pos (by omega), if_pos (by omega)]; simp
 unfold atI; rw [e]; exact h
def zdT (b : Expr) : Prop := ∀ o i, subscripted b false o i = operate [o, i] (getItem o i)
def IxR (X : Cx) (r : R2) : Prop :=
 ∀ (value slice : Expr) (pins : Pq) (s : Shared) (σ : St) (H : Hp) (x y : V) (v u : Value) (Q : VK), Inv X pins σ H s -> RelV x v -> RelV y u -> r x y H Q →
  subscripted slice false v u = operate [v, u] (getItem v u) -> wpAny (model X.prog X.w) X.A (subscriptTail value slice v u) (EP X pins σ Q) X.xe s
def MtR (X : Cx) (id : String) (r : V -> List V -> Hp -> VK -> Prop) : Prop :=
 ∀ (pins : Pq) (s : Shared) (σ : St) (H : Hp) (x : V) (xs : List V) (v : Value) (us : List Value) (Q : VK), Inv X pins σ H s -> RelV x v -> Vals xs us -> r x xs H Q →
  wpAny (model X.prog X.w) X.A (call (.builtin id) (v :: us)) (EP X pins σ Q) X.xe s
section
variable {X : Cx} {a b : Expr} {ta tb : TE} {pos : Pos}
theorem zU {r : R2} (hr : IxR X r) (ha : PE X a ta) (hb : PE X b tb) (hs : zdT b) : PE X (.Subscript a b pos) (tOp r ta tb) := by
 intro pins s σ H Q I h
 exact Subscript_ (binT ha hb I h fun v u s2 x y H2 I2 rx ry q => hr a b pins s2 σ H2 x y v u Q I2 rx ry q (hs _ _))
def rIxL (K : Fq) : R2 := fun x y H Q => ∃ p xs i v, x = .ref p /\ y = .int i /\ SqL K H p xs /\ atI xs i = some v /\ Q v H
def rIxT (K : Fq) : R2 := fun x y H Q => ∃ p xs i v, x = .ref p /\ y = .int i /\ SqT K H p xs /\ atI xs i = some v /\ Q v H
def rIxS : R2 := fun x y H Q => ∃ z i c, x = .str z /\ y = .int i /\ z.length <= sizeLine /\ atI z.cps.toList i = some c /\ Q (.str ⟨#[c]⟩) H
theorem zK : IxR X (rIxL X.K) := by
 intro value slice pins s σ H x y v u Q I rx ry h hs
 obtain ⟨p, xs, i, z, rfl, rfl, hq, he, q⟩ := h
 cases rx
 obtain ⟨t, rfl⟩ := ry
 obtain ⟨its, r, pl, hz⟩ := I.list hq
 obtain ⟨j, h1, h2, h3, h4, h5⟩ := kH he
 obtain ⟨w, ew, rw'⟩ := r.get h2
 have hl := r.length
 have hn := jg
 have fin : EP X pins σ Q w s := ⟨z, H, I, rw', q⟩
 by_cases h0 : 0 <= i
 ·have hj : i.toNat = j := by
   rw [seqIndex_of h0 h5] at h1
   exact Option.some.inj h1
  exact item_listR pl.isList h0 (by omega) (by rw [hj]; simpa using ew) fin hs
 ·have hj : (i + (its.toArray.size : Int)).toNat = j := by
   rw [seqIndex_neg (by omega) h4] at h1
   rw [List.size_toArray, <- hl]
   exact Option.some.inj h1
  exact subscriptTail_builtinR (x := w) pl.isList.typeIs slot_list_getitem.lookup
   (wpAny_getItem_list_neg (Q := fun r s' => r = w /\ EP X pins σ Q r s') pl.isList (by omega) (by rw [List.size_toArray] <;> omega) (by omega) (by rw [hj]; simpa using ew) ⟨rfl, fin⟩) hs
theorem y8 : IxR X (rIxT X.K) := by
 intro value slice pins s σ H x y v u Q I rx ry h hs
 obtain ⟨p, xs, i, z, rfl, rfl, hq, he, q⟩ := h
 cases rx
 obtain ⟨t, rfl⟩ := ry
 obtain ⟨its, r, pl, hz⟩ := I.tuple hq
 obtain ⟨j, h1, h2, h3, h4, h5⟩ := kH he
 obtain ⟨w, ew, rw'⟩ := r.get h2
 have hl := r.length
 have hn := jg
 have fin : EP X pins σ Q w s := ⟨z, H, I, rw', q⟩
 exact subscriptTail_builtinR (x := w) pl.typeIs slot_tuple_getitem.lookup
  (getItem_tuple (j := j) (Q := fun r s' => r = w /\ EP X pins σ Q r s') pl (by omega) (by omega) (by rw [List.size_toArray, <- hl]; exact h1) (by simpa using ew) ⟨rfl, fin⟩) hs
theorem zeK : IxR X rIxS := by
 intro value slice pins s σ H x y v u Q I rx ry h hs
 obtain ⟨z, i, c, rfl, rfl, hz, he, q⟩ := h
 obtain ⟨t, rfl⟩ := rx
 obtain ⟨t', rfl⟩ := ry
 obtain ⟨j, h1, h2, h3, h4, h5⟩ := kH he
 have hl : z.cps.toList.length = z.length := by simp [Str.length]
 rw [hl] at h1 h4 h5
 have hn := jg
 exact tail_any (typeIs_str s z t) slot_str_getitem.lookup (getItem_str (c := c) (by
  have e1 : decide (i < -(2 ^ 63 : Int)) = false := decide_eq_false (by omega)
  have e2 : decide (i ≥ 2 ^ 63) = false := decide_eq_false (by omega)
  rw [e1, e2, Bool.or_false]) (by rw [h1]; simpa using h2) ⟨.str ⟨#[c]⟩, H, I.tok _, ⟨_, rfl⟩, q⟩) hs
theorem wE (its : List Value) (n j : Nat) (u : Value) : Obj.mapSeq (·.setIfInBounds j u) { cls := .type "list", data := .seq its.toArray n } = { cls := .type "list", data := .seq (its.set j u).toArray n } := by
 simp [Obj.mapSeq]
theorem Inv.lst {pins : Pq} {σ : St} {H : Hp} {s : Shared} {p : Addr} {xs : List V} (I : Inv X pins σ H s) (h : H p = some (.lst xs)) :
  ∃ (its : List Value) (n : Nat), Vals xs its /\ s.heap.get? p = some { cls := .type "list", data := .seq its.toArray n } /\ xs.length <= sizeLine := by
 obtain ⟨z, its, n, r, e⟩ := I.hok p _ h
 exact ⟨its, n, r, e, z⟩
theorem Inv.lstUpd {pins : Pq} {σ : St} {H : Hp} {s : Shared} {p : Addr} {xs ys : List V} {its its' : List Value} {n n' : Nat} {f : Obj -> Obj} (I : Inv X pins σ H s) (h : H p = some (.lst xs))
  (ho : s.heap.get? p = some { cls := .type "list", data := .seq its.toArray n }) (hf : f { cls := .type "list", data := .seq its.toArray n } = { cls := .type "list", data := .seq its'.toArray n' }) (r : Vals ys its') (hz : ys.length <= sizeLine) (t : Nat) :
  Inv X pins σ (upd H p (.lst ys)) { s with heap := s.heap.update p f, toks := t } := by
 have e : (s.heap.update p f).get? p = some { cls := .type "list", data := .seq its'.toArray n' } := by
  rw [Heap.get?_update_self f ho (by rw [hf] <;> rfl), hf]
 refine I.write (x := p) (e := p) (by rw [h]; trivial) (.inl rfl) (fun b u hb q => (Heap.get?_update_other _ _ (Ne.symm hb)).trans q) ⟨_, e⟩ ?_
 exact ⟨hz, its', n', r, e⟩
def rSetL : V -> V -> V -> Hp -> (Hp -> Prop) -> Prop := fun o i v H Q => ∃ p xs k j, o = .ref p /\ i = .int k /\ H p = some (.lst xs) /\ ixN xs.length k = some j /\ Q (upd H p (.lst (xs.set j v)))
theorem zb4 : PSet X rSetL := by
 intro pins s σ H o i v ov iv u Q I ro ri rv h
 obtain ⟨p, xs, k, j, rfl, rfl, hp, hj, q⟩ := h
 cases ro
 obtain ⟨t, rfl⟩ := ri
 obtain ⟨its, n, r, ho, hz⟩ := I.lst hp
 obtain ⟨h1, h2, h3, h4⟩ := zav hj
 have hl := r.length
 have hn := jg
 have I' : Inv X pins σ (upd H p (.lst (xs.set j v))) { s with heap := s.heap.update p (Obj.mapSeq (·.setIfInBounds j u)) } :=
  I.lstUpd hp ho (wE its n j u) (r.set rv j) (by rw [List.length_set]; exact hz) s.toks
 by_cases h0 : 0 <= k
 ·have hk : k.toNat = j := by
   rw [seqIndex_of h0 h4] at h1
   exact Option.some.inj h1
  exact PySem.W.ki_setAt ho h0 (by omega) (by rw [List.size_toArray, <- hl]; exact h4) (by rw [hk]; exact ⟨_, I', q⟩)
 ·have hk : (k + (its.toArray.size : Int)).toNat = j := by
   rw [seqIndex_neg (by omega) h3] at h1
   rw [List.size_toArray, <- hl]
   exact Option.some.inj h1
  exact PySem.W.ki_setBack ho (by omega) (by rw [List.size_toArray, <- hl]; exact h3) (by omega) (by rw [hk]; exact ⟨_, I', q⟩)
theorem kI (lo hi : Option Int) (n : Nat) : (sliceBounds lo hi none n).1 = ((HT.sIx n 0 lo : Nat) : Int) /\ (sliceBounds lo hi none n).2.1 = ((HT.sIx n n hi : Nat) : Int) /\ (sliceBounds lo hi none n).2.2 = 1 := by
 refine ⟨?_, ?_, rfl⟩
 ·cases lo with
  | none => simp [sliceBounds, HT.sIx]
  | some i =>
   simp only [sliceBounds, HT.sIx, Option.getD_none, show (1 : Int) > 0 by decide, if_true]
   by_cases h : i < 0
   ·simp only [h, if_true] <;> omega
   ·simp only [h, if_false] <;> omega
 ·cases hi with
  | none => simp [sliceBounds, HT.sIx]
  | some i =>
   simp only [sliceBounds, HT.sIx, Option.getD_none, show (1 : Int) > 0 by decide, if_true]
   by_cases h : i < 0
   ·simp only [h, if_true] <;> omega
   ·simp only [h, if_false] <;> omega
theorem qN (its : List Value) (lo hi : Option Int) : slicePick its.toArray lo hi none = ((its.drop (HT.sIx its.length 0 lo)).take (HT.sIx its.length its.length hi - HT.sIx its.length 0 lo)).toArray := by
 obtain ⟨h1, h2, h3⟩ := kI lo hi its.toArray.size
 unfold slicePick
 rw [h1, h2, h3]
 simp only [sliceRange_one, pick_run, List.size_toArray] <;> rfl
def rSlL (K : Fq) : V -> Option Int -> Option Int -> Hp -> VK -> Prop := fun x lo hi H Q => ∃ a xs, x = .ref a /\ SqL K H a xs /\ ∀ p, H p = none -> Q (.ref p) (upd H p (.lst (zaU xs lo hi)))
theorem zdU : SlR X (rSlL X.K) := by
 intro pins s σ H x v vl vu lo hi sl Q I rx hs pl pu h
 obtain ⟨a, xs, rfl, hx, q⟩ := h
 cases rx
 obtain ⟨its, r, ht, hz⟩ := I.list hx
 have hlen := r.length
 refine ⟨"list", _, slot_list_getitem.lookup, ht.isList.typeIs, ?_⟩
 refine wpAny_getItem_list_slice ht.isList hs pl pu .none (by simp) ?_ (by rw [List.size_toArray] <;> omega)
 rw [qN, <- hlen]
 refine ⟨.ref s.heap.objs.size, _, I.laid (t' := s.toks) (o := .lst (zaU xs lo hi)) (fun b ob q => Heap.get?_push_of_some _ q) (Nat.le_refl _) ?_, rfl, q _ (I.hok.fresh (Nat.le_refl _))⟩
 exact ⟨Nat.le_trans (vw xs lo hi) hz, _, 0, (r.drop (HT.sIx xs.length 0 lo)).take (HT.sIx xs.length xs.length hi - HT.sIx xs.length 0 lo), Heap.get?_push_size _ rfl⟩
def xP : V -> Bool
 | .non => true
 | .bl _ => true
 | .int _ => true
 | .str _ => true
 | _ => false
def eqV : V -> V -> Bool
 | .non, .non => true
 | .bl a, .bl b => a == b
 | .bl a, .int b => (if a then 1 else 0) == b
 | .int a, .bl b => a == (if b then 1 else 0)
 | .int a, .int b => a == b
 | .str a, .str b => a == b
 | _, _ => false
theorem zb5 {A : Around} {s : Shared} {y x : V} {u v : Value} (ry : RelV y u) (rx : RelV x v) (fy : xP y = true) (fx : xP x = true) : SeqAt.EqAt A s u v (eqV y x) := by
 cases y with
 | non =>
  cases ry
  cases x with
  | non => cases rx; exact SeqAt.EqAt.same _
  | bl b => cases rx; exact SeqAt.EqAt.none_bool b
  | int b => obtain ⟨t, rfl⟩ := rx; exact SeqAt.EqAt.none_int b t
  | str b => obtain ⟨t, rfl⟩ := rx; exact SeqAt.EqAt.none_str b t
  | _ => exact absurd (show false = true from fx) Bool.false_ne_true
 | bl a =>
  cases ry
  cases x with
  | non => cases rx; exact SeqAt.EqAt.bool_none a
  | bl b => cases rx; exact SeqAt.EqAt.bool_bool a b
  | int b => obtain ⟨t, rfl⟩ := rx; exact SeqAt.EqAt.bool_int a b t
  | str b => obtain ⟨t, rfl⟩ := rx; exact SeqAt.EqAt.bool_str a b t
  | _ => exact absurd (show false = true from fx) Bool.false_ne_true
 | int a =>
  obtain ⟨t', rfl⟩ := ry
  cases x with
  | non => cases rx; exact SeqAt.EqAt.int_none a t'
  | bl b => cases rx; exact SeqAt.EqAt.int_bool a t' b
  | int b => obtain ⟨t, rfl⟩ := rx; exact SeqAt.EqAt.int_int a t' b t
  | str b => obtain ⟨t, rfl⟩ := rx; exact SeqAt.EqAt.int_str a t' b t
  | _ => exact absurd (show false = true from fx) Bool.false_ne_true
 | str a =>
  obtain ⟨t', rfl⟩ := ry
  cases x with
  | non => cases rx; exact SeqAt.EqAt.str_none a t'
  | bl b => cases rx; exact SeqAt.EqAt.str_bool a t' b
  | int b => obtain ⟨t, rfl⟩ := rx; exact SeqAt.EqAt.str_int a t' b t
  | str b => obtain ⟨t, rfl⟩ := rx; exact SeqAt.EqAt.str_str a t' b t
  | _ => exact absurd (show false = true from fx) Bool.false_ne_true
 | _ => exact absurd (show false = true from fy) Bool.false_ne_true
def eqU (x : V) (u : Value) : Bool := match u with
 | .none => eqV .non x
 | .bool b => eqV (.bl b) x
 | .int i _ => eqV (.int i) x
 | .str z _ => eqV (.str z) x
 | _ => false
theorem zb6 {x y : V} {u : Value} (r : RelV y u) (f : xP y = true) : eqU x u = eqV y x := by
 cases y with
 | non => cases r; rfl
 | bl b => cases r; rfl
 | int i => obtain ⟨t, rfl⟩ := r; rfl
 | str z => obtain ⟨t, rfl⟩ := r; rfl
 | _ => exact absurd (show false = true from f) Bool.false_ne_true
theorem vx {A : Around} {s : Shared} {x : V} {v : Value} (rx : RelV x v) (fx : xP x = true) : ∀ {xs : List V} {us : List Value}, Vals xs us -> xs.all xP = true -> ∀ u ∈ us, SeqAt.EqAt A s u v (eqU x u)
 | _, _, .nil, _ => fun u hu => by cases hu
 | y :: xs, u :: us, .cons r t, f => fun u' hu => by
  rw [List.all_cons, Bool.and_eq_true] at f
  rcases List.mem_cons.mp hu with rfl | hu
  ·rw [zb6 r f.1]; exact zb5 r rx f.1 fx
  ·exact vx rx fx t f.2 u' hu
theorem kJ : OpR X (compareOp .NotIn) (fun x y H Q => ∃ i j, x = .str i /\ y = .str j /\ Q (.bl (!(!(Builtin.Str.occurrences j i 0 j.length 1).isEmpty))) H) := by
 intro pins s σ H x y v u Q I rx ry h
 obtain ⟨i, j, rfl, rfl, q⟩ := h
 obtain ⟨t, rfl⟩ := rx
 obtain ⟨t', rfl⟩ := ry
 exact notIn_str ⟨.bl _, H, I, rfl, q⟩
theorem zC : xS X (.builtin "len") (fun xs H Q => ∃ p ys, xs = [.ref p] /\ (SqL X.K H p ys \/ SqT X.K H p ys) /\ Q (.int ys.length) H) := by
 intro pins s σ H xs us Q I r h
 obtain ⟨p, ys, rfl, hq, q⟩ := h
 obtain ⟨u, rfl, rx⟩ := ju r
 cases rx
 have hn := jg
 rcases hq with hq | hq
 ·obtain ⟨its, r', pl, hz⟩ := I.list hq
  have hlen := r'.length
  exact Calls.call_len_list pl.isList (by simp only [List.size_toArray] <;> omega) ⟨.int ys.length, H, I.tok _, ⟨s.toks + 1, by rw [List.size_toArray, hlen]⟩, q⟩
 ·obtain ⟨its, r', pl, hz⟩ := I.tuple hq
  have hlen := r'.length
  exact len_tuple pl (by simp only [List.size_toArray] <;> omega) ⟨.int ys.length, H, I.tok _, ⟨s.toks + 1, by rw [List.size_toArray, hlen]⟩, q⟩
theorem kK : xS X (.builtin "len") (fun xs H Q => ∃ z, xs = [.str z] /\ z.length <= sizeLine /\ Q (.int z.length) H) := by
 intro pins s σ H xs us Q I r h
 obtain ⟨z, rfl, hz, q⟩ := h
 obtain ⟨u, rfl, t, rfl⟩ := ju r
 have hn := jg
 exact len_str (by omega) ⟨.int z.length, H, I.tok _, ⟨_, rfl⟩, q⟩
theorem yI : xS X (.type "list") (fun xs H Q => ∃ p ys, xs = [.ref p] /\ (SqL X.K H p ys \/ SqT X.K H p ys) /\ ∀ l, H l = none -> Q (.ref l) (upd H l (.lst ys))) := by
 intro pins s σ H xs us Q I r h
 obtain ⟨p, ys, rfl, hq, q⟩ := h
 obtain ⟨u, rfl, rx⟩ := ju r
 cases rx
 have fin : ∀ (its : List Value), Vals ys its -> ys.length <= sizeLine -> ∀ (h' : Heap) (c' : Nat), (∀ b o', s.heap.get? b = some o' -> h'.get? b = some o') →
   h'.get? s.heap.objs.size = some { cls := .type "list", dict := none, data := .seq its.toArray c', slots := #[] } -> EP X pins σ Q (.ref s.heap.objs.size) { s with heap := h' } := fun its r' hz h' c' kp e =>
  ⟨.ref s.heap.objs.size, _, I.laid (t' := s.toks) kp (Nat.le_refl _) (show ObjOk X.prog X.w _ h' _ (.lst ys) from ⟨hz, its, c', r', e⟩), rfl, q _ (I.hok.fresh (Nat.le_refl _))⟩
 rcases hq with hq | hq
 ·obtain ⟨its, r', pl, hz⟩ := I.list hq
  have hlen := r'.length
  obtain ⟨o, ho, hc, n, hd⟩ := pl.isList
  exact call_list_seq p (.inl rfl) ho hc hd (fun h' c' kp e => fin its r' hz h' c' kp e) (by simp only [List.size_toArray] <;> omega)
 ·obtain ⟨its, r', pl, hz⟩ := I.tuple hq
  have hlen := r'.length
  obtain ⟨o, ho, hc, n, hd⟩ := pl
  exact call_list_seq p (.inr rfl) ho hc hd (fun h' c' kp e => fin its r' hz h' c' kp e) (by simp only [List.size_toArray] <;> omega)
def tyV (K : Fq) (T : String) (x : V) (H : Hp) : Prop := match x with
 | .str _ => T = "str"
 | .int _ => T = "int"
 | .ref p => (T = "list" /\ ∃ xs, SqL K H p xs) \/ (T = "tuple" /\ ∃ o, K.lookup p = some o /\ o.cls = .type "tuple" /\ o.dict = none) ∨
   (T = "dict" /\ ((∃ kvs, H p = some (.dK kvs)) \/ ∃ kvs, H p = some (.dT kvs))) \/ (T = "set" /\ ∃ S n, H p = some (.set S n))
 | _ => False
theorem zb7 {pins : Pq} {σ : St} {H : Hp} {s : Shared} {T : String} {x : V} {v : Value} (I : Inv X pins σ H s) (r : RelV x v) (ty : tyV X.K T x H) :
  s.TypeIs v T /\ ∀ a, v = .ref a -> ∃ ob, s.heap.get? a = some ob /\ ob.dict = none := by
 cases x with
 | str z =>
  obtain ⟨t, rfl⟩ := r
  cases (show T = "str" from ty)
  exact ⟨typeIs_str s z t, fun _ e => nomatch e⟩
 | int i =>
  obtain ⟨t, rfl⟩ := r
  cases (show T = "int" from ty)
  exact ⟨typeIs_int s i t, fun _ e => nomatch e⟩
 | ref p =>
  cases r
  rcases ty with ⟨rfl, xs, hq⟩ | ⟨rfl, o, hk, hc, hd⟩ | ⟨rfl, hk⟩ | ⟨rfl, S, n, hk⟩
  ·obtain ⟨its, _, pl, _⟩ := I.list hq
   refine ⟨pl.isList.typeIs, fun a e => ?_⟩
   cases e
   obtain ⟨o, n, e, c, hd, _⟩ := pl
   exact ⟨o, e, hd⟩
  ·refine ⟨⟨o, I.kIn p o hk, hc⟩, fun a e => ?_⟩
   cases e
   exact ⟨o, I.kIn _ o hk, hd⟩
  ·have z : ∃ o, s.heap.get? p = some o /\ o.ExactDict := by
    rcases hk with ⟨kvs, hk⟩ | ⟨kvs, hk⟩
    ·obtain ⟨_, _, _, _, o, _, _, e, ex, _⟩ := I.hok p _ hk
     exact ⟨o, e, ex⟩
    ·exact (show False from I.hok p _ hk).elim
   obtain ⟨o, e, ex⟩ := z
   refine ⟨⟨o, e, ex.1⟩, fun a e2 => ?_⟩
   cases e2
   exact ⟨o, e, ex.2.1⟩
  ·obtain ⟨o, _, _, _, e, ex, _⟩ := I.hok p _ hk
   refine ⟨⟨o, e, ex.1⟩, fun a e2 => ?_⟩
   cases e2
   exact ⟨o, e, ex.2.1⟩
 | _ => exact False.elim ty
def tBM0 (K : Fq) (T : String) (r : V -> List V -> Hp -> VK -> Prop) (to : TE) : TE := fun σ H Q => to σ H fun x H1 => tyV K T x H1 /\ r x [] H1 Q
def tBM (K : Fq) (T : String) (r : V -> List V -> Hp -> VK -> Prop) (to : TE) (t : TA) : TE := fun σ H Q => to σ H fun x H1 => tyV K T x H1 /\ t σ H1 fun xs H2 => r x xs H2 Q
variable {o e : Expr} {es : List Expr} {to : TE} {t : TA} {name : Str} {apos cpos : Pos} {T id : String} {r : V -> List V -> Hp -> VK -> Prop}
theorem wF (pa : PlainAttrs T) (slot : Slot T name id) (hty : typeOf (.builtin id) = pure (.type "method_descriptor")) (hm : MtR X id r) (ho : PE X o to)
  (hbase : attributeBase o name X.env (eval o X.env) = eval o X.env := by rfl) (hline : (apos.endLine == cpos.line) = true := by rfl) : PE X (.Call (.Attribute o name apos) [] [] cpos) (tBM0 X.K T r to) := by
 intro pins s σ H Q I h
 refine wpAny_Call_method0_late hbase hline (thn (ho pins s σ H _ I h) fun v s1 ⟨x, H1, I1, r1, ty, q1⟩ => ?_)
 obtain ⟨h1, h2⟩ := zb7 I1 r1 ty
 exact ⟨T, id, pa, slot, hty, h1, h2, Calls.callWith_builtin rfl (PySem.evalArgs_none (hm pins s1 σ H1 x [] v [] Q I1 r1 .nil q1))⟩
theorem xv (pa : PlainAttrs T) (slot : Slot T name id) (hty : typeOf (.builtin id) = pure (.type "method_descriptor")) (hm : MtR X id r) (ho : PE X o to) (ha : PA X (e :: es) t)
  (hbase : attributeBase o name X.env (eval o X.env) = eval o X.env := by rfl)
  (hfew : ((backTo cpos (starEach (e :: es) X.env)).all (fun x => !x.1) && (backToKw cpos (keywordEach [] X.env)).all (fun x => x.1.isSome)
   && decide ((e :: es).length + ([] : List Keyword).length + (if ([] : List Keyword).isEmpty then 0 else 1) < 30)) = true := by rfl)
  (hline : (apos.endLine == cpos.line) = true := by rfl) (hs : starEach (e :: es) X.env = (false, eval e X.env) :: starEach es X.env := by rfl) (hplain : (backTo cpos (starEach es X.env)).any (·.1) = false := by rfl) :
  PE X (.Call (.Attribute o name apos) (e :: es) [] cpos) (tBM X.K T r to t) := by
 intro pins s σ H Q I h
 refine wpAny_Call_method_late hbase hfew hline rfl (thn (ho pins s σ H _ I h) fun v s1 ⟨x, H1, I1, r1, ty, q1⟩ => ?_)
 obtain ⟨h1, h2⟩ := zb7 I1 r1 ty
 refine ⟨T, id, pa, slot, hty, h1, h2, ?_⟩
 have hA := ha cpos pins s1 σ H1 _ I1 q1
 rw [hs] at hA |-
 refine Calls.callWith_builtin (by show (false || (backTo cpos (starEach es X.env)).any (·.1)) = false; rw [hplain] <;> rfl) (Calls.evalArgs_plain ?_)
 exact thn hA fun us s2 ⟨vs, H2, I2, r2, q2⟩ => hm pins s2 σ H2 x vs v us Q I2 r1 r2 q2
end
end L2
namespace L2
open PySem PySem.Spec PyProof.Rows
def MtM (X : Cx) (id : String) (r : V -> List V -> Hp -> VK -> Prop) : Prop :=
 ∀ (pins : Pq) (s : Shared) (σ : St) (H : Hp) (x : V) (xs : List V) (v : Value) (us : List Value) (Q : VK), Inv X pins σ H s -> RelV x v -> Vals xs us -> r x xs H Q →
  wpAny (model X.prog X.w) X.A (call (.builtin id) (v :: us)) (EP X pins σ Q) X.xe s
theorem Vals.one : ∀ {x : V} {us : List Value}, Vals [x] us -> ∃ u, us = [u] /\ RelV x u
 | _, _, .cons r .nil => ⟨_, rfl, r⟩
theorem Vals.zero : ∀ {us : List Value}, Vals [] us -> us = []
 | _, .nil => rfl
theorem Vals.dropLast {xs : List V} {us : List Value} (h : Vals xs us) : Vals xs.dropLast us.dropLast := by
 induction h with
 | nil => exact .nil
 | cons r t ih =>
  cases t with
  | nil => exact .nil
  | cons q t' => exact .cons r ih
theorem Vals.rep {xs : List V} {us : List Value} (h : Vals xs us) : ∀ k : Nat, Vals (List.replicate k xs).flatten (List.replicate k us).flatten
 | 0 => .nil
 | k + 1 => by
  rw [List.replicate_succ, List.replicate_succ, List.flatten_cons, List.flatten_cons]
  exact Vals.append h (Vals.rep h k)
theorem wG {α : Type} (l : List α) : l.eraseIdx (l.length - 1) = l.dropLast := by
 induction l with
 | nil => rfl
 | cons a r ih =>
  cases r with
  | nil => rfl
  | cons b r =>
   have e : (a :: b :: r).length - 1 = ((b :: r).length - 1) + 1 := by
    have h1 : (a :: b :: r).length = r.length + 2 := rfl
    have h2 : (b :: r).length = r.length + 1 := rfl
    omega
   rw [e, List.eraseIdx_cons_succ, ih]
   all_goals rfl
theorem qX (its : List Value) : ∀ (k : Nat) (acc : List Value),
  List.foldl (fun x1 x2 => x1 ++ x2) acc.toArray (List.replicate k its.toArray) = (acc ++ (List.replicate k its).flatten).toArray
 | 0, acc => by simp
 | k + 1, acc => by
  have e : acc.toArray ++ its.toArray = (acc ++ its).toArray := by simp
  have e2 : (acc ++ its) ++ (List.replicate k its).flatten = acc ++ (List.replicate (k + 1) its).flatten := by
   rw [List.replicate_succ, List.flatten_cons, List.append_assoc]
  rw [<- e2, <- qX its k (acc ++ its), <- e, List.replicate_succ, List.foldl_cons]
section
variable {X : Cx} {pins : Pq} {σ : St} {H : Hp} {s : Shared} {l b : Addr} {xs ys zs : List V}
theorem Inv.lset {its its' : List Value} {n : Nat} {f : Array Value -> Array Value} {t' : Nat} (I : Inv X pins σ H s) (hH : H l = some (.lst xs))
  (e : s.heap.get? l = some { cls := .type "list", data := .seq its.toArray n }) (hf : f its.toArray = its'.toArray) (hv : Vals ys its') (hz : ys.length <= sizeLine) :
  Inv X pins σ (upd H l (.lst ys)) { s with heap := s.heap.update l (Obj.mapSeq f), toks := t' } := by
 have q := PySem.IsL.update e f
 rw [hf] at q
 refine I.write (x := l) (e := l) (by rw [hH]; exact trivial) (.inl rfl) (fun b' u hb hu => (Heap.get?_update_other s.heap (Obj.mapSeq f) (Ne.symm hb)).trans hu) ⟨_, q⟩ ?_
 exact ⟨hz, its', _, hv, q⟩
theorem Inv.lnew {its : List Value} {t' : Nat} (I : Inv X pins σ H s) (hv : Vals ys its) (hz : ys.length <= sizeLine) :
  Inv X pins σ (upd H s.heap.objs.size (.lst ys)) { s with heap := s.heap.push { cls := .type "list", data := .seq its.toArray }, toks := t' } :=
 I.laid (fun _ _ q => Heap.get?_push_of_some _ q) (Nat.le_refl _) ⟨hz, its, 0, hv, Heap.get?_push_size _ rfl⟩
theorem Inv.fresh (I : Inv X pins σ H s) : H s.heap.objs.size = none := I.hok.fresh (Nat.le_refl _)
theorem Inv.lstM (I : Inv X pins σ H s) (hH : H l = some (.lst xs)) : xs.length <= sizeLine /\ ∃ (its : List Value) (n : Nat), Vals xs its /\ xs.length = its.length /\ s.heap.get? l = some { cls := .type "list", data := .seq its.toArray n } := by
 obtain ⟨z, its, n, r, e⟩ := I.hok l _ hH
 exact ⟨z, its, n, r, r.length, e⟩
theorem zb8 {n : Nat} (h : n <= sizeLine) : Builtin.List.listTooLong n = false := by
 unfold Builtin.List.listTooLong
 exact decide_eq_false (by omega)
end
section
variable {X : Cx}
def zdV : V -> List V -> Hp -> VK -> Prop := fun x vs H Q => ∃ l xs y, x = .ref l /\ vs = [y] /\ H l = some (.lst xs) /\ xs.length < sizeLine /\ Q .non (upd H l (.lst (xs ++ [y])))
theorem yS : MtM X "list.append" zdV := by
 intro pins s σ H x vs v us Q I rx rv h
 obtain ⟨l, xs, y, rfl, rfl, hH, hz, q⟩ := h
 cases rx
 obtain ⟨u, rfl, ru⟩ := rv.one
 obtain ⟨z, its, n, r, hl, e⟩ := I.lstM hH
 refine call_meets F.slot_list_append ⟨_, e, rfl⟩ F.entry_list_append (F.args_list_append_2 _ _) (PySem.list_append l its.toArray n u (by rw [List.size_toArray]; omega)) ⟨e, ?_⟩
 refine ⟨.non, _, I.lset (its' := its ++ [u]) hH e (by simp) (r.append (.cons ru .nil)) ?_, rfl, q⟩
 rw [List.length_append, List.length_singleton]
 omega
def rPop : V -> List V -> Hp -> VK -> Prop := fun x vs H Q => ∃ l xs y, x = .ref l /\ vs = [] /\ H l = some (.lst xs) /\ xs[xs.length - 1]? = some y /\ Q y (upd H l (.lst xs.dropLast))
theorem zb9 : MtM X "list.pop" rPop := by
 intro pins s σ H x vs v us Q I rx rv h
 obtain ⟨l, xs, y, rfl, rfl, hH, hy, q⟩ := h
 cases rx
 have hus := rv.zero
 subst hus
 obtain ⟨z, its, n, r, hl, e⟩ := I.lstM hH
 obtain ⟨u, hu, ru⟩ := r.get hy
 have hy' : its.toArray[its.toArray.size - 1]? = some u := by
  show its.toArray[its.length - 1]? = some u
  rw [<- Array.getElem?_toList, <- hl]
  exact hu
 refine call_meets F.slot_list_pop ⟨_, e, rfl⟩ F.entry_list_pop (F.args_list_pop_1 _) (MeetsSeq.list_pop_last l its.toArray n u hy' (by rw [List.size_toArray]; omega)) ⟨e, ?_⟩
 refine ⟨y, _, I.lset (its' := its.dropLast) hH e ?_ r.dropLast ?_, ru, q⟩
 ·show its.toArray.eraseIdxIfInBounds (its.toArray.size - 1) = its.dropLast.toArray
  rw [List.size_toArray, List.eraseIdxIfInBounds_toArray, wG]
 ·rw [List.length_dropLast]
  omega
def rCat : R2 := fun x y H Q => ∃ l b xs zs, x = .ref l /\ y = .ref b /\ H l = some (.lst xs) /\ H b = some (.lst zs) /\ xs.length + zs.length <= sizeLine /\ ∀ p, H p = none -> Q (.ref p) (upd H p (.lst (xs ++ zs)))
theorem zeL : OpR X (binaryOp .Add) rCat := by
 intro pins s σ H x y v u Q I rx ry h
 obtain ⟨l, b, xs, zs, rfl, rfl, hH, hB, hz, q⟩ := h
 cases rx
 cases ry
 obtain ⟨z, its, n, r, hl, e⟩ := I.lstM hH
 obtain ⟨z2, its2, n2, r2, hl2, e2⟩ := I.lstM hB
 refine PySem.P.add_list e e2 ?_ (by rw [List.size_toArray, List.size_toArray]; omega)
 have ea : its.toArray ++ its2.toArray = (its ++ its2).toArray := by simp
 rw [ea]
 exact ⟨.ref _, _, I.lnew (t' := s.toks) (r.append r2) (by rw [List.length_append]; omega), rfl, q _ I.fresh⟩
def rRep : R2 := fun x y H Q => ∃ l k xs, x = .ref l /\ y = .int k /\ H l = some (.lst xs) /\ -(2 ^ 63) <= k /\ k < 2 ^ 63 /\ xs.length * k.toNat <= sizeLine ∧
 ∀ p, H p = none -> Q (.ref p) (upd H p (.lst (List.replicate k.toNat xs).flatten))
theorem zdW {α : Type} (xs : List α) (k : Nat) : (List.replicate k xs).flatten.length = k * xs.length := by
 induction k with
 | zero => simp
 | succ k ih => rw [List.replicate_succ, List.flatten_cons, List.length_append, ih, Nat.succ_mul, Nat.add_comm]
theorem wH : OpR X (binaryOp .Mult) rRep := by
 intro pins s σ H x y v u Q I rx ry h
 obtain ⟨l, k, xs, rfl, rfl, hH, h1, h2, hz, q⟩ := h
 cases rx
 obtain ⟨t, rfl⟩ := ry
 obtain ⟨z, its, n, r, hl, e⟩ := I.lstM hH
 have hlen : its.toArray.size * k.toNat <= sizeLine := by rw [List.size_toArray, <- hl]; exact hz
 have hcap : ¬ its.toArray.size * k.toNat > (2 ^ 63 - 1) / 8 := by
  have : (sizeLine : Nat) <= (2 ^ 63 - 1) / 8 := by decide
  omega
 have hfit : ¬ (!Builtin.List.listFitsIndex k) = true := by
  rw [fitsIndex_both h1 h2]
  exact Bool.false_ne_true
 have hlong : ¬ Builtin.List.listTooLong (its.toArray.size * k.toNat) = true := by
  rw [zb8 hlen]
  exact Bool.false_ne_true
 have hnew : List.foldl (fun x1 x2 => x1 ++ x2) #[] (List.replicate (if its.toArray.isEmpty = true then 0 else k.toNat) its.toArray) = (List.replicate k.toNat its).flatten.toArray := by
  have f0 : ∀ m : Nat, List.foldl (fun x1 x2 => x1 ++ x2) #[] (List.replicate m its.toArray) = (List.replicate m its).flatten.toArray := fun m => by
   have := qX its m []
   rw [List.nil_append] at this
   exact this
  rw [f0]
  cases its with
  | nil => simp
  | cons a r' => rw [if_neg (by simp)]
 refine wpAny_binaryOp_repeat_ref (T := "list") (U := "int") (by decide) ⟨_, e, rfl⟩ (fun s' => typeIs_int s' k t) noFill_list_mul F.fills_int_mul F.slot_int_rmul repeat_list F.slot_int_index.lookup
  (call_meets F.slot_int_rmul (typeIs_int s k t) F.entry_int_rmul (F.args_int_rmul_2 _ _) (int___rmul___int_list k t l its.toArray n)
   ⟨e, rfl, ⟨_, e, rfl⟩, call_meets F.slot_list_mul ⟨_, e, rfl⟩ F.entry_list_mul (F.args_list_mul_2 _ _) (AutoListH.list___mul___list_int_3 l its.toArray n k t hfit hcap hlong) ⟨e, ?_⟩⟩)
 rw [hnew]
 exact ⟨.ref _, _, I.lnew (t' := s.toks) (r.rep k.toNat) (by rw [zdW, Nat.mul_comm]; exact hz), rfl, q _ I.fresh⟩
end
section
variable {prog : Program} {w : World} {A : Around} {E : Value -> Shared -> Prop} {s : Shared}
end
section
variable {X : Cx}
end
end L2
namespace Att
open PySem PySem.W PySem.Calls PyProof.Rows
theorem qe {P : Params} {h : Heap} : ∀ (ns : List Int) (vs : List Value), WellAll P h vs (ns.map WData.int) -> IntsAre vs ns := by
 intro ns
 induction ns with
 | nil =>
  intro vs w
  rw [List.map_nil] at w
  cases w
  exact .nil
 | cons n ns ih =>
  intro vs w
  rw [List.map_cons] at w
  cases w with
  | cons a b =>
   cases a
   exact .cons _ _ (ih _ b)
theorem zaV {l : OpenLaw} {n : Nat} (hn : l.most = some n) {P : Params} {h : Heap} {args : List WData} {vals : List Value}
  (hpre : l.row.toRowW.claim.pre args = true) (hwl : WellAll P h vals args) :
  ∃ a vs ns, vals = [Value.ref a] /\ args = [WData.list (ns.map WData.int)] /\ h.get? a = some { cls := .type "list", data := .seq vs.toArray } /\ IntsAre vs ns /\ ns.length <= n := by
 have hsh : WShape.hasAll [] args [.list .int] = true := (pre_splitW hpre).1
 have hc : l.pre.holds [] { args := args } = true := (pre_splitW hpre).2
 obtain ⟨d, r, rfl, h1, h2⟩ := hasAllW_cons hsh
 obtain rfl := hasAllW_nil h2
 obtain ⟨xs, rfl, h3⟩ := hasW_list h1
 obtain ⟨ns, rfl⟩ := items_int h3
 have hlen : ns.length <= n := by
  unfold OpenLaw.pre at hc
  have h4 : (WTm.not (.lt (.lit (.int (n : Int))) (.len (.arg 0)))).holds [] { args := [.list (ns.map .int)] } = true := by
   have h4 := (holds_andW hc).1
   rw [hn] at h4
   exact h4
  have h5 := condW_of h4 (w_not (w_lt w_lit (w_len_list (w_arg rfl))))
  rw [List.length_map] at h5
  refine Nat.le_of_not_lt fun q => ?_
  have q' : (n : Int) < ((ns.length : Nat) : Int) := by omega
  first
   | (rw [decide_eq_true q'] at h5; exact absurd h5 (by decide))
   | (simp at h5; omega)
 cases hwl with
 | cons w1 w2 =>
  cases w2
  cases w1 with
  | list ho hall => exact ⟨_, _, ns, rfl, rfl, ho, qe ns _ hall, hlen⟩
theorem zaW (l : OpenLaw) (args : List WData) : l.row.toRowW.claim.post args (.bool true) args = true :=
 postW_of (r := l.row.toRowW) (X := (true == true))
  (show WShape.has [] (.bool true) .bool = true by first | rfl | decide | simp [WShape.has, WShape.arms, WShape.armsAll])
  (show (WTm.eq .res (.lit (.bool true))).value [] { args := args, res := some (.bool true), after := args } = some (.bool (true == true)) from w_eq_bool (w_res rfl) w_lit) rfl
theorem attach_call {l : OpenLaw} {n : Nat} {q : Program} {loose : List Str} {XP : (Mq) -> Heap -> Prop} {YP : World -> Heap -> Prop} {d : DefRec}
  (hn : l.most = some n) (hdf : d.params.defaults = [])
  (call : ∀ (w : World) (s₀ s₁ : Shared) (mg mb : Mq) (fa : Addr) (o : Obj) (pm cd doc : Value) (a : Addr) (vs : List Value) (ns : List Int),
   Ground q loose [] XP w s₀ mg mb s₁.heap -> YP w s₁.heap →
   s₁.heap.get? fa = some o -> o.data = .func (docDef d.name d.params d.body d.scope pm cd doc) -> s₁.heap.CodeRec cd d.name -> mg d.name = some (.ref fa) →
   s₁.heap.get? a = some { cls := .type "list", data := .seq vs.toArray } -> IntsAre vs ns -> ns.length <= n -> s₁.gens = #[] →
   codeAny (model l.prog w) callerA (.call (.ref fa) ⟨[.ref a], []⟩) (fun r s' => r = .ok (.ret (.bool true)) /\ OldK s₁.heap s'.heap /\ s'.os = s₁.os /\ AllBare s'.gens) s₁) :
  WalkO q loose XP YP l.row.toRowW d [] (fun f vs => PySem.call f vs) := by
 intro w s₀ s₁ mg mb G Y fa o pm cd doc dV kV ho hd hcd hD hmg hg args vals as hpre hlay hrd hwl hlo
 obtain rfl : dV = .none := Dflts.none hD hdf
 obtain rfl : kV = .none := Dflts.noKw hD
 obtain ⟨a, vs, ns, rfl, rfl, hobj, hints, hlen⟩ := zaV hn hpre hwl
 refine enter_call (codeAny_mono (call w s₀ s₁ mg mb fa o pm cd doc a vs ns G Y ho (fd_plain hd) hcd hmg hobj hints hlen hg) fun r s' hq => ?_)
 obtain ⟨rfl, h2, h3, h4⟩ := hq
 exact ⟨.inl ⟨.bool true, .bool true, [], rfl, fun _ => rfl, .bool true, zaW l _, fun _ => ⟨List.Pairwise.nil, fun _ hm => (nomatch hm)⟩⟩, h2, h3, h4⟩
section
variable {prog : Program} {w : World} {A : Around} {E : Value -> Shared -> Prop} {s : Shared} {K : Frag}
end
end Att
namespace L2
open PySem PySem.Spec PyProof.Rows
theorem qY : ∀ {vs : List Value} {ns : List Int}, IntsAre vs ns -> Vals (ns.map V.int) vs
 | _, _, .nil => .nil
 | _, _, .cons n t h => .cons ⟨t, rfl⟩ (qY h)
def Only (H : Hp) : Prop := ∀ b, H b = none \/ ∃ o xs, H b = some (.frz o (.lst xs))
theorem zca {P : Program} {w : World} {K : Fq} {mg mb : Mq} {CX : CXT} {k : Nat} {fa a : Addr} {fd : FuncData} {x : Str} {sp : Sp} {s₁ : Shared} {vs : List Value} {ns : List Int}
  (KX : K.In s₁.heap) (hns : s₁.heap.Ns mainGlobals mg) (hb : s₁.heap.Ns builtinsNs mb) (hbb : ∀ x : Str, x ≠ "__name__" -> mb x = bootBuiltins x) (hlim : s₁.heap.NoLimit) (hg : s₁.gens = #[])
  (ha : s₁.heap.get? a = some { cls := .type "list", data := .seq vs.toArray }) (hi : IntsAre vs ns) (hl : ns.length <= sizeLine) (hr : Room k callerA)
  (F : ∀ base : Heap, K.In base -> base.Ns mainGlobals mg -> FnOk P w K mg base CX k fa fd [x] sp) (hbind : ∀ (s : Shared) (u : Value), BindsTo s fd ⟨[u], []⟩ [(x, u)])
  (hsp : ∀ H : Hp, Only H -> SqL K H a (ns.map V.int) -> sp [.ref a] H (fun v _ => v = .bl true) fun _ _ _ => False)
  (hCX : ∀ H e s', CX [] H s₁ (fun _ _ _ => False) e s' -> False) :
  codeAny (model P w) callerA (.call (.ref fa) ⟨[.ref a], []⟩) (fun r s' => r = .ok (.ret (.bool true)) /\ OldK s₁.heap s'.heap /\ s'.os = s₁.os /\ AllBare s'.gens) s₁ := by
 have rv := qY hi
 have lenV := hi.length
 have core : ∀ H : Hp, Only H -> SqL K H a (ns.map V.int) -> HOk P w H s₁.heap -> (∀ b, H b ≠ none -> b = a) -> (H a ≠ none -> K.lookup a = none) →
   codeAny (model P w) callerA (.call (.ref fa) ⟨[.ref a], []⟩) (fun r s' => r = .ok (.ret (.bool true)) /\ OldK s₁.heap s'.heap /\ s'.os = s₁.os /\ AllBare s'.gens) s₁ := by
  intro H hO hS hok hA hK
  have base_of : ∀ {b : Addr} {o : Obj}, s₁.heap.get? b = some o -> H b = none -> (kB s₁.heap H).get? b = some o := fun e n => zbQ e n
  have noA : ∀ {b : Addr} {o : Obj} {es : Array DictEntry} {ep : Nat}, s₁.heap.get? b = some o -> o.data = .dict es ep -> H b = none := fun {b o es ep} e d => by
   cases q : H b with
   | none => rfl
   | some u =>
    have e' : b = a := hA b (by rw [q]; simp)
    subst e'
    rw [ha] at e; cases e
    have d' : Data.seq vs.toArray _ = Data.dict es ep := d
    cases d'
  have nsK : ∀ {b : Addr} {m : Mq}, s₁.heap.Ns b m -> (kB s₁.heap H).Ns b m := fun {b m} ⟨o, es, ep, e, d, r⟩ => ⟨o, es, ep, base_of e (noA e d), d, r⟩
  have hKb : K.In (kB s₁.heap H) := fun b o e => base_of (KX b o e) (by
   cases q : H b with
   | none => rfl
   | some u =>
    have e' : b = a := hA b (by rw [q]; simp)
    subst e'
    rw [hK (by rw [q]; simp)] at e; cases e)
  have hM : Mod K mg (kB s₁.heap H) := ⟨hKb, nsK hns, ⟨mb, nsK hb, hbb⟩, let ⟨mc, h1, h2⟩ := hlim; ⟨mc, nsK h1, h2⟩⟩
  have e0 : Env0 P w K mg (kB s₁.heap H) callerA [] s₁ H := ⟨rfl, hM, fun b o e => zdJ e, Nat.le_of_eq (zaO _ _), trivial, fun b hb => absurd (show b ∈ ([] : List Addr) from hb) (by simp), hok, .of_eq hg⟩
  refine codeAny_mono ((F _ hKb (nsK hns)).run callerA [] s₁ H ⟨[.ref a], []⟩ [.ref a] [.ref a] _ _ hr e0 (hbind s₁ (.ref a)) (.cons rfl .nil) (hsp H hO hS)) fun r s' h => ?_
  cases r with
  | error e => exact (hCX H e s' h).elim
  | ok fl =>
   cases fl with
   | next => exact False.elim h
   | brk => exact False.elim h
   | cont => exact False.elim h
   | ret u =>
    obtain ⟨v, H', os, bare, un, hok', r', q⟩ := h
    have q' : v = .bl true := q
    subst q'
    obtain rfl : u = Value.bool true := r'
    refine ⟨rfl, OldK.of_keep fun b o e => ?_, os, bare⟩
    cases q : H b with
    | none => exact un.keep b o e q (by intro z; exact absurd (show b ∈ ([] : List Addr) from z) (by simp)) (by simp)
    | some u =>
     rcases hO b with z | ⟨ob, xs, z⟩
     ·rw [q] at z; cases z
     ·have z2 := un.frzs b ob _ z
      obtain ⟨e1, _⟩ := hok b _ z
      obtain ⟨e2, _⟩ := hok' b _ z2
      rw [e] at e1; cases e1
      exact e2
 cases hk : K.lookup a with
 | some o =>
  have e := KX a o hk
  rw [ha] at e
  cases e
  refine core (fun _ => none) (fun _ => .inl rfl) (.inr ⟨_, vs.toArray, _, hk, rfl, rfl, rfl, by rw [List.size_toArray, lenV]; exact hl, by simpa using rv⟩) (fun b u z => by have z' : (none : Option HO) = some u := z; cases z') (fun b z => absurd rfl z) fun z => absurd rfl z
 | none =>
  refine core (fun b => if b = a then some (.frz { cls := .type "list", data := .seq vs.toArray } (.lst (ns.map V.int))) else none) (fun b => ?_) (.inl (.inr ⟨{ cls := .type "list", data := .seq vs.toArray }, if_pos rfl⟩)) (fun b u z => ?_) (fun b z => ?_) fun _ => hk
  ·by_cases hb : b = a
   ·exact .inr ⟨_, _, if_pos hb⟩
   ·exact .inl (if_neg hb)
  ·by_cases hb : b = a
   ·have z' := (if_pos hb).symm.trans z
    cases z'
    subst hb
    exact ⟨ha, by rw [List.length_map]; exact hl, vs, _, rv, ha⟩
   ·have z' := (if_neg hb).symm.trans z
    cases z'
  ·by_cases hb : b = a
   ·exact hb
   ·exact absurd (if_neg hb) z
end L2
namespace L2
open PySem PySem.Spec PyProof.Rows
theorem walk_of {l : PySem.W.OpenLaw} {n k : Nat} {q : Program} {loose : List Str} {XP : (Mq) -> Heap -> Prop} {YP : World -> Heap -> Prop} {d : DefRec} {K : Params -> Fq} {CX : World -> CXT} {sp : World -> Sp} {x : Str}
  (hn : l.most = some n) (hn2 : n <= sizeLine) (hdf : d.params.defaults = []) (hr : Room k callerA)
  (hY : ∀ (w : World) (h : Heap), YP w h -> (K w.params).In h)
  (F : ∀ (w : World) (mg : Mq) (fa : Addr) (h : Heap), (K w.params).In h -> h.Ns mainGlobals mg -> mg d.name = some (.ref fa) →
   ∃ fd : FuncData, (∀ (s : Shared) (u : Value), BindsTo s fd ⟨[u], []⟩ [(x, u)]) ∧
    ∀ base : Heap, (K w.params).In base -> base.Ns mainGlobals mg -> FnOk l.prog w (K w.params) mg base (CX w) k fa fd [x] (sp w))
  (hsp : ∀ (w : World) (H : Hp) (a : Addr) (ns : List Int), ns.length <= n -> Only H -> SqL (K w.params) H a (ns.map V.int) -> sp w [.ref a] H (fun v _ => v = .bl true) fun _ _ _ => False)
  (hCX : ∀ (w : World) (H : Hp) (s : Shared) (e : Value) (s' : Shared), CX w [] H s (fun _ _ _ => False) e s' -> False) :
  PySem.W.WalkO q loose XP YP l.row.toRowW d [] (fun f vs => PySem.call f vs) := by
 refine Att.attach_call hn hdf fun w s₀ s₁ mg mb fa o pm cd doc a vs ns G Y ho hd hcd hmg hobj hints hlen hg => ?_
 have KX := hY w _ Y
 obtain ⟨fd, hb, hF⟩ := F w mg fa _ KX G.T.g hmg
 exact zca KX G.T.g G.T.b G.T.builtins G.T.nolimit hg hobj hints (Nat.le_trans hlen hn2) hr hF hb (fun H hO hS => hsp w H a ns hlen hO hS) fun H e s' => hCX w H s₁ e s'
end L2
namespace L2
open PySem PySem.Spec PyProof.Rows
def yj (s : Stmt) (j : Nat) : Stmt := match s with
 | .ClassDef _ _ _ body _ _ _ _ _ _ _ => body.getD j (.Pass ⟨0, 0, 0, 0⟩)
 | _ => .Pass ⟨0, 0, 0, 0⟩
def zo (s : Stmt) : Arguments := match s with
 | .FunctionDef _ a _ _ _ _ _ _ _ _ => a
 | _ => { posonlyargs := [], args := [], vararg := none, kwonlyargs := [], kw_defaults := [], kwarg := none, defaults := [] }
def zk (s : Stmt) : List Stmt := match s with
 | .FunctionDef _ _ b _ _ _ _ _ _ _ => b
 | _ => []
def zd (s : Stmt) : Scope := match s with
 | .FunctionDef _ _ _ _ _ _ sc _ _ _ => sc
 | _ => { kind := .function, names := [], isGenerator := false, isCoroutine := false }
abbrev CX0 : CXT := fun _ _ _ _ _ _ => False
abbrev E0 : XK := fun _ _ _ => False
theorem zaw {X : Cx} : y6 CX0 X E0 := fun _ _ _ _ _ _ _ h => h.elim
structure Fun (K : Fq) (x qual : Str) (st : Stmt) (f : Addr) (fd : FuncData) : Prop where
 ex : ∃ (oc : Value) (od : Option Addr) (kV doc pm : Value) (an : Option Addr) (cdv ct : Value) (osl : Array (Option Value)),
  fd = PySem.W.fnOf x qual (zo st) (zk st) (zd st) .none kV doc pm an cdv ct /\ K.lookup f = some ⟨oc, od, .func fd, osl⟩ /\ PySem.W.codeIn K cdv qual = true
 kp : PySem.W.keepIn K (.ref f) = true
section
variable {P : Program} {w : World} {K : Fq} {mg : Mq} {base : Heap}
theorem Fun.ok {x qual : Str} {st : Stmt} {f : Addr} {fd : FuncData} {N ps : List Str} {k : Nat} {sp : Sp} (F : Fun K x qual st f fd) (S : zm N ps (zd st)) (len : ∀ vs H Q E, sp vs H Q E -> vs.length = ps.length)
  (hbody : ∀ (cdv : Value) (A : Around) (outer : List Env) (s : Shared) (H : Hp) (vs : List V) (Q : VK) (E : XK), Room k (A.deeper (envOfC qual (zd st) s.heap.objs.size f cdv)) -> sp vs H Q E →
   ∃ t, PSs (yh CX0 P w K mg base N qual (zd st) f cdv A outer s H E).nox (zk st) t /\ t { nx := fun _ H' => Q .non H', rt := Q } (yt N vs) H) : FnOk P w K mg base CX0 (k + 1) f fd ps sp := by
 obtain ⟨oc, od, kV, doc, pm, an, cdv, ct, osl, rfl, lk, hcd⟩ := F.ex
 refine qW lk hcd S len fun A outer s H vs Q E hr hsp => ?_
 obtain ⟨t, h, q⟩ := hbody cdv A outer s H vs Q E hr hsp
 exact ⟨t, h.nox, q⟩
theorem Fun.binds {x qual : Str} {st : Stmt} {f : Addr} {fd : FuncData} {ps : List Str} (F : Fun K x qual st f fd)
  (h : ∀ (kV doc pm : Value) (an : Option Addr) (cdv ct : Value) (us : List Value), us.length = ps.length -> bindArgs (PySem.W.fnOf x qual (zo st) (zk st) (zd st) .none kV doc pm an cdv ct) ⟨us, []⟩ = pure (ps.zip us)) : Binds K fd ps [] := by
 obtain ⟨oc, od, kV, doc, pm, an, cdv, ct, osl, rfl, lk, hcd⟩ := F.ex
 exact .all (h kV doc pm an cdv ct)
theorem wI {x qual : Str} {st : Stmt} {f : Addr} {oc : Value} {od an : Option Addr} {osl : Array (Option Value)} {kV doc pm cdv ct : Value} (l : K.lookup f = some ⟨oc, od, .func (PySem.W.fnOf x qual (zo st) (zk st) (zd st) .none kV doc pm an cdv ct), osl⟩)
  (c : PySem.W.codeIn K cdv qual = true) (k : PySem.W.keepIn K (.ref f) = true) : Fun K x qual st f (PySem.W.fnOf x qual (zo st) (zk st) (zd st) .none kV doc pm an cdv ct) := ⟨⟨oc, od, kV, doc, pm, an, cdv, ct, osl, rfl, l, c⟩, k⟩
end
theorem jO {n : Nat} (h : n <= 1000) : n < sizeLine := Nat.lt_of_le_of_lt h (by decide)
section
variable {X : Cx}
theorem pv (i : Nat) {x : Str} {pos : Pos} (hN : X.N[i]? = some x := by rfl) (hv : Vis X.env.scope x := by first | exact Or.inl rfl | exact Or.inr (Or.inl rfl) | exact Or.inr (Or.inr rfl)) (hd : (x == ("__debug__" : Str)) = false := by decide)
  (hcd : (x == ("__classdict__" : Str)) = false := by decide) : PE X (.Name x pos) (tVar i) := zeA hN hv hd hcd
end
theorem xD {A B : Prop} (h : B) : if false = true then A else B := by
 rw [if_neg Bool.false_ne_true]
 exact h
theorem yR {A B : Prop} (h : A) : if true = true then A else B := by
 rw [if_pos rfl]
 exact h
theorem zL {c A B : Prop} [Decidable c] (h1 : c -> A) (h2 : ¬ c -> B) : if c then A else B := by
 by_cases h : c
 ·rw [if_pos h]
  exact h1 h
 ·rw [if_neg h]
  exact h2 h
def Same (H H' : Hp) : Prop := ∀ b o, H b = some o -> H' b = some o
theorem Same.refl (H : Hp) : Same H H := fun _ _ h => h
theorem Same.trans {H H1 H2 : Hp} (a : Same H H1) (b : Same H1 H2) : Same H H2 := fun c o h => b c o (a c o h)
theorem Same.free {H H' : Hp} (e : Same H H') {l : Addr} (h : H' l = Option.none) : H l = Option.none := by
 cases q : H l with
 | none => rfl
 | some o =>
  rw [e l o q] at h
  cases h
theorem Same.seq {K : Fq} {H H' : Hp} {a : Addr} {xs : List V} (e : Same H H') (h : SqL K H a xs) : SqL K H' a xs := by
 rcases h with (h | ⟨o, h⟩) | h
 ·exact .inl (.inl (e _ _ h))
 ·exact .inl (.inr ⟨o, e _ _ h⟩)
 ·exact .inr h
end L2
namespace L2
open PySem PySem.Spec PyProof.Rows
theorem kM {env : Env} : ∀ (names : List (Str × NameKind)) (acc : List (Str × Addr)),
  (∀ y ∈ names, y.2 = .free -> ∃ c, env.cells.lookup y.1 = some c) -> (∀ n c, acc.lookup n = some c -> env.cells.lookup n = some c) →
  ∃ cl, (forIn names acc (fun (x : Str × NameKind) (r : List (Str × Addr)) => if (x.2 == NameKind.free) = true then (do let a <- cellOf env x.1; pure (ForInStep.yield ((x.1, a) :: r))) else pure (ForInStep.yield r)) : Sem (List (Str × Addr))) = pure cl ∧
   (∀ n c, cl.lookup n = some c -> env.cells.lookup n = some c) /\ (∀ y ∈ names, y.2 = .free -> ∃ c, cl.lookup y.1 = some c) /\ ∀ n c, acc.lookup n = some c -> ∃ c, cl.lookup n = some c
 | [], acc, _, h => ⟨acc, rfl, h, (fun y z => absurd z (by simp)), fun _ c z => ⟨c, z⟩⟩
 | (n, k) :: r, acc, hf, h => by
  by_cases hk : k = .free
  ·obtain ⟨c, hc⟩ := hf (n, k) List.mem_cons_self hk
   obtain ⟨cl, e, a, b, d⟩ := kM (env := env) r ((n, c) :: acc) (fun y hy => hf y (List.mem_cons_of_mem _ hy)) (fun m c' e => by
    by_cases hm : m = n
    ·subst hm
     rw [List.lookup_cons, beq_self_eq_true] at e
     cases e
     exact hc
    ·have : (m == n) = false := beq_eq_false_iff_ne.mpr hm
     rw [List.lookup_cons, this] at e
     exact h m c' e)
   have hcell : cellOf env n = pure c := by unfold cellOf; rw [hc]
   refine ⟨cl, ?_, a, fun y hy hk' => ?_, fun m c' e => ?_⟩
   ·rw [List.forIn_cons]
    subst hk
    show (do let x <- (do let a <- cellOf env n; pure (ForInStep.yield ((n, a) :: acc))); _) = _
    rw [hcell]
    exact e
   ·rcases List.mem_cons.mp hy with z | z
    ·subst z
     exact d n c (by rw [List.lookup_cons, beq_self_eq_true])
    ·exact b y z hk'
   ·by_cases hm : m = n
    ·subst hm
     exact d m c (by rw [List.lookup_cons, beq_self_eq_true])
    ·have : (m == n) = false := beq_eq_false_iff_ne.mpr hm
     exact d m c' (by rw [List.lookup_cons, this]; exact e)
  ·obtain ⟨cl, e, a, b, d⟩ := kM (env := env) r acc (fun y hy => hf y (List.mem_cons_of_mem _ hy)) h
   refine ⟨cl, ?_, a, fun y hy hk' => ?_, d⟩
   ·rw [List.forIn_cons]
    have hb : (k == NameKind.free) = false := by simpa using hk
    dsimp only
    rw [hb]
    exact e
   ·rcases List.mem_cons.mp hy with z | z
    ·subst z
     exact absurd hk' hk
    ·exact b y z hk'
theorem x9 {scope : Scope} {env : Env} (hf : ∀ y ∈ scope.names, y.2 = .free -> ∃ c, env.cells.lookup y.1 = some c) :
  ∃ cl, closureFor scope env = pure cl /\ (∀ n c, cl.lookup n = some c -> env.cells.lookup n = some c) /\ (∀ y ∈ scope.names, y.2 = .free -> ∃ c, cl.lookup y.1 = some c) := by
 obtain ⟨cl, e, a, b, _⟩ := kM (env := env) scope.names [] hf (fun _ _ z => by cases z)
 refine ⟨cl, ?_, a, b⟩
 have e' : closureFor scope env = (forIn scope.names [] (fun (x : Str × NameKind) (r : List (Str × Addr)) => if (x.2 == NameKind.free) = true then (do let a <- cellOf env x.1; pure (ForInStep.yield ((x.1, a) :: r))) else pure (ForInStep.yield r)) : Sem (List (Str × Addr))) >>= fun r => pure r := by
  unfold closureFor
  rfl
 rw [e', e]
 rfl
section
variable {prog : Program} {w : World} {A : Around} {R : Result -> Shared -> Prop} {s : Shared}
theorem vy {elt target iter : Expr} {ifs : List Expr} {scope : Scope} {pos : Pos} {it acc : Value} {env : Env} (I : Nat -> Shared -> Prop)
  (turn : ∀ n s, I n s -> wpAny (model prog w) A (pyNext it) (fun r s1 => match r with
   | none => R (.ok .next) s1
   | some v => wpAny (model prog w) A (letOwnedTupleGo target it v) (fun _ s1' => wpAny (model prog w) A (assign target env v) (fun _ s2 =>
     wpAny (model prog w) A (forIn ifs true fun c r => if r = true then do let ok <- isTrue c env (eval c env); pure (ForInStep.yield ok) else pure (ForInStep.yield r)) (fun ok s3 =>
      if ok = true then wpAny (model prog w) A (eval elt env) (fun x s4 =>
       wpAny (model prog w) A (call (.builtin "list.append") [acc, x]) (fun _ s5 => ∃ m, m < n /\ I m s5) (fun _ _ => False) s4) (fun _ _ => False) s3
      else ∃ m, m < n /\ I m s3) (fun _ _ => False) s2) (fun _ _ => False) s1') (fun _ _ => False) s1) (fun _ _ => False) s)
  (n : Nat) (h : I n s) :
  codeAny (model prog w) A (.compLoop (.ListComp elt [⟨target, iter, ifs, 0⟩] scope pos) 0 it acc env) R s := by
 refine codeAny_loop rfl I (fun n s hI => ?_) n h
 show wpAny _ A ((compTurn (.ListComp elt [⟨target, iter, ifs, 0⟩] scope pos) 0 it acc env).onRaise (fun x => do noteFrame x env; theTreesLotGoes x)) _ _ s
 refine wpAny_noted ?_
 rw [compTurn_list]
 refine wpAny_bind (wpAny_standAt (wpAny_bind (wpAny_mono (turn n s hI) (fun r s1 h1 => ?_) fun _ _ h' => h'.elim)))
 cases r with
 | none => exact wpAny_pure h1
 | some v =>
  refine wpAny_bind (wpAny_mono h1 (fun _ s1' h1' => ?_) fun _ _ h' => h'.elim)
  refine wpAny_bind (wpAny_mono h1' (fun _ s2 h2 => wpAny_bind (wpAny_mono h2 (fun ok s3 h3 => ?_) fun _ _ h' => h'.elim)) fun _ _ h' => h'.elim)
  cases ok with
  | false => exact wpAny_pure ⟨rfl, h3⟩
  | true =>
   exact wpAny_bind (wpAny_bind (wpAny_mono h3 (fun x s4 h4 => wpAny_bind (wpAny_mono h4 (fun _ s5 h5 => wpAny_pure (wpAny_pure ⟨rfl, h5⟩)) fun _ _ h' => h'.elim)) fun _ _ h' => h'.elim))
end
def ya (X : Cx) (N : List Str) (scope : Scope) (cl : List (Str × Addr)) (s : Shared) (H : Hp) (fp : List Addr) : Cx :=
 { X with N := N, s₀ := s, H₀ := H, env := compEnvC scope cl s.heap.objs.size X.env, outer := X.stack, stack := X.stack, ex := fp, fn := fun _ => false, pn := [], xe := fun _ _ => False }
def CapOk (X : Cx) (scope : Scope) : List (Nat × Str) -> Prop
 | [] => True
 | p :: r => (X.N[p.1]? = some p.2 /\ (X.env.scope.names.lookup p.2 = some .cell \/ X.env.scope.names.lookup p.2 = some .free) /\ scope.names.lookup p.2 = some .free) /\ CapOk X scope r
theorem CapOk.get {X : Cx} {scope : Scope} : ∀ {caps : List (Nat × Str)} {k : Nat} {p : Nat × Str}, CapOk X scope caps -> caps[k]? = some p →
  X.N[p.1]? = some p.2 /\ (X.env.scope.names.lookup p.2 = some .cell \/ X.env.scope.names.lookup p.2 = some .free) /\ scope.names.lookup p.2 = some .free
 | [], _, _, _, e => by simp at e
 | _ :: _, 0, _, h, e => by simp at e; subst e; exact h.1
 | _ :: _, k + 1, p, h, e => CapOk.get (k := k) h.2 (by simpa using e)
def xj (caps : List (Nat × Str)) (σ : St) : St := caps.map fun p => (σ[p.1]?).getD none
def PTs (X : Cx) (ifs : List Expr) (t : TT) : Prop :=
 ∀ (pins : Pq) (s : Shared) (σ : St) (H : Hp) (Q : Bool -> Hp -> Prop), Inv X pins σ H s -> t σ H Q →
  wpAny (model X.prog X.w) X.A (forIn ifs true fun c r => if r = true then do let ok <- isTrue c X.env (eval c X.env); pure (ForInStep.yield ok) else pure (ForInStep.yield r)) (TP X pins σ Q) X.xe s
theorem zdX {X : Cx} {c : Expr} {t : TT} (hc : PT X c t) : PTs X [c] t := fun pins s σ H Q I h => wpAny_tests_one (hc pins s σ H Q I h)
structure xk (scope : Scope) (x : Str) : Prop where
 kind : scope.kind = .function
 nocell : ∀ y ∈ scope.names, y.2 ≠ .cell
 locs : ∀ y ∈ scope.names, y.2 = .local -> scope.names.lookup y.1 = some .local
 own : scope.names.lookup x = some .local
def tCompB (J : It) (cv : St) (tt : TT) (te : TE) (D : Addr) (H1 : Hp) (Q : VK) : Prop := ∃ W : Nat -> Nat -> Hp -> Prop, (∃ m, W 0 m (upd H1 D (.lst []))) /\ ∀ i m H', W i m H' →
 (J.stop i H' /\ Q (.ref D) H') \/ (J.go i H' /\ ∀ x H2, J.yld i H' x H2 -> tt (some x :: cv) H2 fun b H3 => if b = true then te (some x :: cv) H3 fun v H4 => ∃ ys, H4 D = some (.lst ys) /\ ys.length < sizeLine /\ ∃ m', m' < m /\ W (i + 1) m' (upd H4 D (.lst (ys ++ [v])))
  else ∃ m', m' < m /\ W (i + 1) m' H3)
def zax (sh : V -> Hp -> List V -> Prop) (J : It) (cv : St) (tt : TT) (te : TE) (D : Addr) (H1 : Hp) (Q : VK) : Prop := ∃ W : Nat -> Nat -> Hp -> Prop, (∃ m, W 0 m (upd H1 D (.lst []))) /\ ∀ i m H', W i m H' →
 (J.stop i H' /\ Q (.ref D) H') \/ (J.go i H' /\ ∀ x H2, J.yld i H' x H2 -> ∃ vs, sh x H2 vs /\ tt (vs.map some ++ cv) H2 fun b H3 => if b = true then te (vs.map some ++ cv) H3 fun v H4 => ∃ ys, H4 D = some (.lst ys) /\ ys.length < sizeLine /\ ∃ m', m' < m /\ W (i + 1) m' (upd H4 D (.lst (ys ++ [v])))
  else ∃ m', m' < m /\ W (i + 1) m' H3)
def jP : TT := fun _ H Q => Q true H
def vz (wi : TI) (caps : List (Nat × Str)) (tt : TT) (te : TE) : TE := fun σ H Q => wi σ H fun J H1 => ∀ D, H1 D = none -> tCompB J (xj caps σ) tt te D H1 Q
def qZ (sc out : Scope) : Bool := sc.names.all fun y => y.2 != .free || (match out.names.lookup y.1 with | some .cell => true | some .free => true | _ => false)
theorem xT {sc out : Scope} (h : qZ sc out = true) : ∀ y ∈ sc.names, y.2 = .free -> out.names.lookup y.1 = some .cell \/ out.names.lookup y.1 = some .free := fun y hy hk => by
 have := List.all_eq_true.mp h y hy
 rw [hk] at this
 have e : (NameKind.free != NameKind.free) = false := rfl
 rw [e, Bool.false_or] at this
 cases q : out.names.lookup y.1 with
 | none => rw [q] at this; cases this
 | some k =>
  rw [q] at this
  cases k with
  | cell => exact .inl rfl
  | free => exact .inr rfl
  | _ => cases this
theorem yX {X : Cx} : PTs X [] jP := fun _ _ _ H _ I h => wpAny_tests_nil ⟨H, I, h⟩
theorem xl {env : Env} : ∀ {names : List (Str × NameKind)} {x : Str} {k : NameKind}, (names.map fun (n, k) => if (k == NameKind.free && env.scope.kind == .function && env.kindOf n == some .cell) then (n, NameKind.cell) else (n, k)).lookup x = some k →
  ∃ k', (x, k') ∈ names /\ (k = k' \/ (k' = .free /\ k = .cell))
 | [], _, _, h => by simp at h
 | (n, k0) :: r, x, k, h => by
  have ih := @xl env r x k
  rw [List.map_cons] at h
  by_cases hx : x = n
  ·subst hx
   by_cases hc : (k0 == NameKind.free && env.scope.kind == .function && env.kindOf x == some .cell) = true
   ·have h' : some NameKind.cell = some k := by
     dsimp only at h
     rw [if_pos hc, List.lookup_cons, beq_self_eq_true] at h
     exact h
    cases h'
    refine ⟨k0, List.mem_cons_self, .inr ⟨?_, rfl⟩⟩
    rw [Bool.and_eq_true, Bool.and_eq_true] at hc
    simpa using hc.1.1
   ·have h' : some k0 = some k := by
     dsimp only at h
     rw [if_neg hc, List.lookup_cons, beq_self_eq_true] at h
     exact h
    cases h'
    exact ⟨k0, List.mem_cons_self, .inl rfl⟩
  ·have hb : (x == n) = false := beq_eq_false_iff_ne.mpr hx
   have h' : (r.map fun (n, k) => if (k == NameKind.free && env.scope.kind == .function && env.kindOf n == some .cell) then (n, NameKind.cell) else (n, k)).lookup x = some k := by
    dsimp only at h
    by_cases hc : (k0 == NameKind.free && env.scope.kind == .function && env.kindOf n == some .cell) = true
    ·rw [if_pos hc, List.lookup_cons, hb] at h
     exact h
    ·rw [if_neg hc, List.lookup_cons, hb] at h
     exact h
   obtain ⟨k', m, e⟩ := ih h'
   exact ⟨k', List.mem_cons_of_mem _ m, e⟩
theorem kN {env : Env} {scope : Scope} {x : Str} (h : scope.names.lookup x = some .free) : (relabel scope env).names.lookup x = some .cell \/ (relabel scope env).names.lookup x = some .free := by
 have go : ∀ names : List (Str × NameKind), names.lookup x = some .free -> (names.map fun (n, k) => if (k == NameKind.free && env.scope.kind == .function && env.kindOf n == some .cell) then (n, NameKind.cell) else (n, k)).lookup x = some .cell ∨
   (names.map fun (n, k) => if (k == NameKind.free && env.scope.kind == .function && env.kindOf n == some .cell) then (n, NameKind.cell) else (n, k)).lookup x = some .free := by
  intro names
  induction names with
  | nil => intro h; cases h
  | cons p r ih =>
   obtain ⟨n, k⟩ := p
   intro h
   rw [List.map_cons]
   dsimp only
   by_cases hx : x = n
   ·subst hx
    rw [List.lookup_cons, beq_self_eq_true] at h
    cases h
    by_cases hc : (NameKind.free == NameKind.free && env.scope.kind == .function && env.kindOf x == some .cell) = true
    ·rw [if_pos hc, List.lookup_cons, beq_self_eq_true]; exact .inl rfl
    ·rw [if_neg hc, List.lookup_cons, beq_self_eq_true]; exact .inr rfl
   ·have hb : (x == n) = false := beq_eq_false_iff_ne.mpr hx
    rw [List.lookup_cons, hb] at h
    by_cases hc : (k == NameKind.free && env.scope.kind == .function && env.kindOf n == some .cell) = true
    ·rw [if_pos hc, List.lookup_cons, hb]; exact ih h
    ·rw [if_neg hc, List.lookup_cons, hb]; exact ih h
 exact go _ h
section
variable {X : Cx} {pins : Pq} {σ : St} {H : Hp} {s : Shared}
theorem q0 {ws : List Str} {caps : List (Nat × Str)} {scope : Scope} {cl : List (Str × Addr)} {fp : List Addr} {h1 : Heap} {tk : Nat} (I : Inv X pins σ H s) (hkd : scope.kind = .function) (hnc : ∀ y ∈ scope.names, y.2 ≠ .cell) (hcap : CapOk X scope caps)
  (hcl : ∀ n c, cl.lookup n = some c -> X.env.cells.lookup n = some c) (hcl2 : ∀ y ∈ scope.names, y.2 = .free -> ∃ c, cl.lookup y.1 = some c) (hfp : ∀ b ∈ fp, xB X pins H b /\ b < s.heap.objs.size)
  (hk : ∀ b o, s.heap.get? b = some o -> h1.get? b = some o) (hns : h1.Ns s.heap.objs.size fun _ => none) :
  Inv (ya X (ws ++ caps.map (·.2)) scope cl s H fp) [] (ws.map (fun _ => none) ++ xj caps σ) H { s with heap := h1, toks := tk } := by
 have nn : ∀ p, p ∈ (ya X (ws ++ caps.map (·.2)) scope cl s H fp).pn ++ [] -> False := fun p hp => by
  have hp' : p ∈ ([] : Pq) := by simpa [ya] using hp
  cases hp'
 refine ⟨⟨I.ok.mod, hkd, I.ok.glob, I.ok.blt, Nat.le_refl _, fun a b c e1 e2 => I.ok.inj a b c (hcl a c e1) (hcl b c e2), fun y hy => ?_, fun _ _ z => (by cases z), I.ok.hd, I.ok.frames, .inl rfl, fun b hb => ⟨Nat.ne_of_lt (hfp b hb).2, fun y c e => (hfp b hb).1.2.2.2.2.1 y c (hcl y c e)⟩, I.bs,
   Nat.le_trans I.ok.bsz I.sz, fun b o e hb => ?_, fun b hb z => ?_, I.stack, I.stkFree⟩, I.os.symm ▸ rfl, I.bare, Un.kept hk, ⟨_, hns, fun i y v e1 e2 e3 => ?_⟩, fun y c e => ?_, I.hok.fresh (Nat.le_refl _), fun y c e => I.freeC y c (hcl y c e), fun p hp => (nn p hp).elim, I.hok.kept hk, ?_⟩
 ·have hy' : ∃ k', (y, k') ∈ scope.names /\ k' = .free := by
   rcases hy with hy | hy
   ·obtain ⟨k', m, e⟩ := xl (env := X.env) (names := scope.names) hy
    rcases e with e | e
    ·exact absurd e.symm (hnc _ m)
    ·exact ⟨k', m, e.1⟩
   ·obtain ⟨k', m, e⟩ := xl (env := X.env) (names := scope.names) hy
    rcases e with e | e
    ·exact ⟨k', m, e.symm⟩
    ·cases e.2
  obtain ⟨k', m, rfl⟩ := hy'
  exact hcl2 _ m rfl
 ·rcases (hfp b hb).1.2.2.2.1 with z | z
  ·exact I.ok.noex b o e z
  ·exact absurd (Nat.lt_of_lt_of_le (Heap.lt_size e) (Nat.le_trans I.ok.bsz z)) (Nat.lt_irrefl _)
 ·rcases List.mem_cons.mp (I.stkSub b z) with q | q
  ·exact (hfp b hb).1.2.1 q
  ·exact (hfp b hb).1.2.2.1 q
 ·by_cases hi : i < ws.length
  ·rw [List.getElem?_append_left (by rw [List.length_map]; exact hi), List.getElem?_map, List.getElem?_eq_getElem hi] at e2
   cases e2
  ·obtain ⟨k, ek⟩ : ∃ k, k = i - ws.length := ⟨_, rfl⟩
   have e1' : (caps.map (·.2))[k]? = some y := by
    have : (ws ++ caps.map (·.2))[i]? = some y := e1
    rw [List.getElem?_append_right (by omega)] at this
    rw [ek]; exact this
   have e2' : (xj caps σ)[k]? = some (some v) := by
    rw [List.getElem?_append_right (by rw [List.length_map]; omega), List.length_map] at e2
    rw [ek]; exact e2
   rw [List.getElem?_map] at e1'
   unfold xj at e2'
   rw [List.getElem?_map] at e2'
   cases q : caps[k]? with
   | none => rw [q] at e1'; cases e1'
   | some p =>
    rw [q] at e1' e2'
    have ey : p.2 = y := Option.some.inj e1'
    have ev : (σ[p.1]?).getD none = some v := Option.some.inj e2'
    obtain ⟨c1, c2, c3⟩ := hcap.get q
    rw [ey] at c1 c2 c3
    have ev' : σ[p.1]? = some (some v) := by
     cases r : σ[p.1]? with
     | none => rw [r] at ev; cases ev
     | some o => rw [r] at ev; exact congrArg some ev
    obtain ⟨m, hn, hl⟩ := I.loc
    obtain ⟨u, ru, lk⟩ := hl p.1 y v c1 ev' (c2.elim (fun z => .inr (.inl z)) fun z => .inr (.inr z))
    refine ⟨u, ru, .inr ⟨kN c3, ?_⟩⟩
    rcases lk with ⟨kk, _⟩ | ⟨_, c, ec, oc, hoc, hd⟩
    ·have kk' : X.env.scope.names.lookup y = some .local := kk
     rcases c2 with z | z <;> (rw [z] at kk'; cases kk')
    ·obtain ⟨c', hc'⟩ := hcl2 (y, .free) (PySem.mem_of_lookup c3) rfl
     have := hcl _ _ hc'
     rw [ec] at this
     cases this
     exact ⟨c, hc', oc, hk _ _ hoc, hd⟩
 ·obtain ⟨v, oc, hoc, hd⟩ := I.cell y c (hcl y c e)
  exact ⟨v, oc, hk _ _ hoc, hd⟩
 ·show _ = (ws ++ caps.map (·.2)).length
  unfold xj
  simp
theorem ka {elt iter tg : Expr} {ifs : List Expr} {ws : List Str} {pos ipos : Pos} {sh : V -> Hp -> List V -> Prop} {g : TG} {RR : It -> Hp -> Prop} {caps : List (Nat × Str)} {scope : Scope} {wi : TI} {tt : TT} {te : TE} {use : Option (Value -> Sem Unit)} {Q : VK} {QQ : Value -> Shared -> Prop}
  (hc : X.calm = true) (hi : PI X tg iter wi) (hkd : scope.kind = .function) (hnc : ∀ y ∈ scope.names, y.2 ≠ .cell) (hlc : ∀ y ∈ scope.names, y.2 = .local -> scope.names.lookup y.1 = some .local) (hcap : CapOk X scope caps) (hfree : ∀ y ∈ scope.names, y.2 = .free -> X.env.scope.names.lookup y.1 = some .cell \/ X.env.scope.names.lookup y.1 = some .free)
  (ht : ∀ cl s H fp, PTs (ya X (ws ++ caps.map (·.2)) scope cl s H fp) ifs tt) (he : ∀ cl s H fp, PE (ya X (ws ++ caps.map (·.2)) scope cl s H fp) elt te)
  (hpg : ∀ cl s H fp, PG { ya X (ws ++ caps.map (·.2)) scope cl s H fp with xe := fun _ _ => False } tg g) (hg : ∀ (pre cv : St) z H vs (R : St -> Hp -> Prop), pre.length = ws.length -> sh z H vs -> R (vs.map some ++ cv) H -> g z (pre ++ cv) H R) (hln : ∀ z H vs, sh z H vs -> vs.length = ws.length)
  (hs : ∀ v, foldedSetIterable iter X.env v = pure v)
  (I : Inv X pins σ H s) (h : wi σ H RR) (hR : ∀ J H1, RR J H1 -> ∀ D, H1 D = none -> zax sh J (xj caps σ) tt te D H1 Q)
  (fin : ∀ (D C : Addr) (H' : Hp) (s' : Shared) (m : Mq), Inv X pins σ H' s' -> s'.heap.Ns C m -> xB X pins H' C -> Q (.ref D) H' -> compPost (model X.prog X.w) X.A X.xe use QQ (.ref D) C (.ok .next) s') :
  wpAny (model X.prog X.w) X.A (comprehension (.ListComp elt [⟨tg, iter, ifs, 0⟩] scope pos) scope X.env ipos (newList []) false (eval iter X.env) use) QQ X.xe s := by
 obtain ⟨cl, ecl, hcl, hcl2⟩ := x9 (scope := scope) (env := X.env) (fun y hy hk => I.ok.has y.1 (hfree y hy hk))
 refine wpAny_comprehension_free (g := ⟨tg, iter, ifs, 0⟩) (gs := []) rfl hs ecl hkd hlc (thn (hi pins s σ H _ I h) fun v s1 h1 => thn h1 fun itv s2 h2 => ?_)
 obtain ⟨it, fp, tn, J, H2, e, I2, T, st2, f2, hD⟩ := h2
 subst e
 refine wpAny_newObj_type (wpAny_newFunctionEnv hnc (by intro y hy; simp at hy) (fun h3 hns3 hsb3 => ?_) hkd) (by size_fits)
 have I3 : Inv X pins σ (upd H2 s2.heap.objs.size (.lst [])) { s2 with heap := s2.heap.push { cls := .type "list", data := .seq ([] : List Value).toArray }, toks := s2.toks } := I2.lnew (ys := []) (its := []) .nil (Nat.zero_le _)
 generalize hS3 : ({ s2 with heap := s2.heap.push { cls := .type "list", data := .seq ([] : List Value).toArray }, toks := s2.toks } : Shared) = s3 at I3
 have hh3 : s3.heap = s2.heap.push { cls := .type "list", data := .seq ([] : List Value).toArray } := by rw [<- hS3]
 obtain ⟨W, ⟨m0, w0⟩, turn⟩ := hR J H2 hD s2.heap.objs.size I2.fresh
 dsimp only at hns3 hsb3 |-
 have hk3 : ∀ b o, s3.heap.get? b = some o -> h3.get? b = some o := fun b o eb => by
  rw [hh3] at eb
  exact hsb3.extBut b o (Nat.ne_of_lt (Heap.lt_size eb)) (Heap.get?_push_of_some _ eb)
 have hD0 : ∀ b ∈ fp, b ≠ s2.heap.objs.size := fun b hb => by
  obtain ⟨o, eo, _⟩ := T.obj _ _ st2 b hb
  exact Nat.ne_of_lt (Heap.lt_size eo)
 have hfp : ∀ b ∈ fp, xB X pins (upd H2 s2.heap.objs.size (.lst [])) b /\ b < s3.heap.objs.size := fun b hb => by
  obtain ⟨o, eo, _⟩ := T.obj _ _ st2 b hb
  refine ⟨⟨by rw [zj (hD0 b hb)]; exact (f2 b hb).1, (f2 b hb).2⟩, ?_⟩
  rw [hh3]
  exact Nat.lt_of_lt_of_le (Heap.lt_size eo) (by rw [Heap.size_push]; exact Nat.le_succ _)
 have hns3' : h3.Ns s3.heap.objs.size fun _ => none := by
  rw [hh3]
  exact hns3
 have I4 := q0 (ws := ws) (caps := caps) (scope := scope) (cl := cl) (fp := fp) (h1 := h3) (tk := s3.toks) I3 hkd hnc hcap hcl hcl2 hfp hk3 hns3'
 have tn3 : tn 0 h3 := T.keep _ _ _ st2 fun b hb o eo => hk3 b o (by rw [hh3]; exact Heap.get?_push_of_some _ eo)
 generalize hY : ya X (ws ++ caps.map (·.2)) scope cl s3 (upd H2 s2.heap.objs.size (.lst [])) fp = Y at I4
 have fpY : ∀ {H' : Hp}, (∀ b ∈ fp, H' b = none) -> ∀ b ∈ fp, xB Y [] H' b := fun hn b hb => by
  subst hY
  refine ⟨hn b hb, Nat.ne_of_lt (hfp b hb).2, fun z => ?_, .inl hb, fun y c e => (hfp b hb).1.2.2.2.2.1 y c (hcl y c e), fun p hp => ?_⟩
  ·rcases List.mem_cons.mp (I3.stkSub b z) with q | q
   ·exact (hfp b hb).1.2.1 q
   ·exact (hfp b hb).1.2.2.1 q
  ·have hp' : p ∈ ([] : Pq) := by simpa [ya] using hp
   cases hp'
 have fr4 : ∀ b ∈ fp, (upd H2 s2.heap.objs.size (.lst [])) b = none := fun b hb => (hfp b hb).1.1
 have eE : Y.env = compEnvC scope cl s3.heap.objs.size X.env := by subst hY; rfl
 have eP : Y.prog = X.prog := by subst hY; rfl
 have eW : Y.w = X.w := by subst hY; rfl
 have eK : Y.K = X.K := by subst hY; rfl
 have eA : Y.A = X.A := by subst hY; rfl
 have eC : Y.calm = true := by subst hY; exact hc
 have eX : Y.xe = fun _ _ => False := by subst hY; rfl
 have PT_ : PTs Y ifs tt := by subst hY; exact ht cl _ _ _
 have PE_ : PE Y elt te := by subst hY; exact he cl _ _ _
 have PG_ : PG Y tg g := by
  subst hY
  exact hpg cl _ _ _
 have back : ∀ {y : St} {H' : Hp} {s' : Shared}, Inv Y [] (y ++ xj caps σ) H' s' -> Inv X pins σ H' s' /\ (∃ m, s'.heap.Ns s3.heap.objs.size m) /\ xB X pins H' s3.heap.objs.size := fun {y H' s'} J' => by
  subst hY
  have J1 : Inv X pins σ H' s' := I3.call' (ch := fp) J'.os J'.base J'.hok J'.bare fun b hb => ⟨(hfp b hb).1.2.2.2.1, (hfp b hb).1.2.1, (hfp b hb).1.2.2.2.2.1, (hfp b hb).1.2.2.2.2.2⟩
  obtain ⟨m, hn, _⟩ := J'.loc
  exact ⟨J1, ⟨m, hn⟩, I3.fpOk (Nat.le_refl _) J'.free⟩
 have loop : ∀ (s4 : Shared) , Inv Y [] (ws.map (fun _ => none) ++ xj caps σ) (upd H2 s2.heap.objs.size (.lst [])) s4 -> tn 0 s4.heap →
   codeAny (model X.prog X.w) X.A (.compLoop (.ListComp elt [⟨tg, iter, ifs, 0⟩] scope pos) 0 (.ref it) (.ref s2.heap.objs.size) Y.env)
    (compPost (model X.prog X.w) X.A X.xe use QQ (.ref s2.heap.objs.size) s3.heap.objs.size) s4 := by
  intro s4 I4 tn4
  refine vy (fun n s' => ∃ i y H', y.length = ws.length /\ Inv Y [] (y ++ xj caps σ) H' s' /\ tn i s'.heap /\ (∀ b ∈ fp, H' b = none) /\ W i n H') ?_ m0 ⟨0, _, _, List.length_map _, I4, tn4, fr4, w0⟩
  rintro n s5 ⟨i, y, H5, ly, I5, st5, fr5, w5⟩
  rcases turn i n H5 w5 with ⟨stop, qn⟩ | ⟨go, step⟩
  ·have := T.done Y eP eW eK eC i [] s5 _ H5 (fun _ _ => False) I5 (fpY fr5) st5 stop
   rw [eA] at this
   refine thn this fun r s6 ⟨hr, I6⟩ => ?_
   subst hr
   obtain ⟨J1, ⟨m, hn⟩, fC⟩ := back I6
   exact fin _ _ H5 s6 m J1 hn fC qn
  ·have := T.item Y eP eW eK eC i [] s5 _ H5 (fun _ _ => False) I5 (fpY fr5) st5 go
   rw [eA] at this
   refine thn this fun r s6 ⟨u, hr, h6⟩ => ?_
   subst hr
   refine thn h6 fun _ s7 ⟨z, H7, I7, r7, y7, st7, fr7⟩ => ?_
   have I7' := I7.pinned (fpY fr7) (T.obj _ _ st7)
   obtain ⟨vs, hsh, step⟩ := step z H7 y7
   have a1 := PG_ _ s7 _ H7 z u _ I7' r7 (hg y (xj caps σ) z H7 vs (fun σ' H' => σ' = vs.map some ++ xj caps σ /\ H' = H7) ly hsh ⟨rfl, rfl⟩)
   rw [eP, eW, eA, eX] at a1
   refine thn a1 fun _ s8 ⟨σ8, H8, I8, e8, e8'⟩ => ?_
   subst e8 e8'
   have a2 := PT_ _ s8 _ H8 _ I8 step
   rw [eP, eW, eA, eX] at a2
   refine thn a2 fun ok s9 ⟨H9, I9, q9⟩ => ?_
   have again : ∀ {H' : Hp} {s' : Shared} {m' : Nat}, Inv Y ([] ++ jf fp s7.heap) (vs.map some ++ xj caps σ) H' s' -> m' < n -> W (i + 1) m' H' -> ∃ m, m < n /\ ∃ i y H', y.length = ws.length /\ Inv Y [] (y ++ xj caps σ) H' s' /\ tn i s'.heap /\ (∀ b ∈ fp, H' b = none) /\ W i m H' := fun {H' s' m'} J lt w' => by
    refine ⟨m', lt, i + 1, vs.map some, H', by rw [List.length_map]; exact hln _ _ _ hsh, J.unpinned, T.keep _ _ _ st7 fun b hb o e => (J.pin (b, o) (List.mem_append_right _ (List.mem_append_right _ (yQ hb e)))).1, fun b hb => ?_, w'⟩
    obtain ⟨o, e, d⟩ := T.obj _ _ st7 b hb
    exact (J.pin (b, o) (List.mem_append_right _ (List.mem_append_right _ (yQ hb e)))).2.1
   cases ok with
   | false =>
    obtain ⟨m', lt, w'⟩ := q9
    exact again I9 lt w'
   | true =>
    have a3 := PE_ _ s9 _ H9 _ I9 q9
    rw [eP, eW, eA, eX] at a3
    refine thn a3 fun uv s10 ⟨v, H10, I10, r10, ys, hys, hlt, m', lt, w'⟩ => ?_
    have a4 := yS (X := Y) _ s10 _ H10 (.ref s2.heap.objs.size) [v] (.ref s2.heap.objs.size) [uv] (fun v' H' => H' = upd H10 s2.heap.objs.size (.lst (ys ++ [v]))) I10 rfl (.cons r10 .nil) ⟨_, ys, v, rfl, rfl, hys, hlt, rfl⟩
    rw [eP, eW, eA, eX] at a4
    refine thn a4 fun _ s11 ⟨v11, H11, I11, _, e11⟩ => ?_
    subst e11
    exact again I11 lt w'
 have L := loop { s3 with heap := h3, toks := s3.toks } I4 tn3
 rw [eE] at L
 refine codeAny_compStart_list L (T.self _ 0 _ _ _ (by exact tn3) L)
theorem vA {elt iter : Expr} {ifs : List Expr} {x : Str} {px pos ipos : Pos} {caps : List (Nat × Str)} {scope : Scope} {wi : TI} {tt : TT} {te : TE} {use : Option (Value -> Sem Unit)} {Q : VK} {QQ : Value -> Shared -> Prop}
  (hc : X.calm = true) (hi : PI X (.Name x px) iter wi) (S : xk scope x) (hcap : CapOk X scope caps) (hfree : ∀ y ∈ scope.names, y.2 = .free -> X.env.scope.names.lookup y.1 = some .cell \/ X.env.scope.names.lookup y.1 = some .free)
  (ht : ∀ cl s H fp, PTs (ya X (x :: caps.map (·.2)) scope cl s H fp) ifs tt) (he : ∀ cl s H fp, PE (ya X (x :: caps.map (·.2)) scope cl s H fp) elt te)
  (hs : ∀ v, foldedSetIterable iter X.env v = pure v) (nd : (x :: caps.map (·.2)).Nodup)
  (I : Inv X pins σ H s) (h : vz wi caps tt te σ H Q)
  (fin : ∀ (D C : Addr) (H' : Hp) (s' : Shared) (m : Mq), Inv X pins σ H' s' -> s'.heap.Ns C m -> xB X pins H' C -> Q (.ref D) H' -> compPost (model X.prog X.w) X.A X.xe use QQ (.ref D) C (.ok .next) s') :
  wpAny (model X.prog X.w) X.A (comprehension (.ListComp elt [⟨.Name x px, iter, ifs, 0⟩] scope pos) scope X.env ipos (newList []) false (eval iter X.env) use) QQ X.xe s :=
 ka (ws := [x]) (g := js 0) (sh := fun z _ vs => vs = [z]) hc hi S.kind S.nocell S.locs hcap hfree ht he
  (fun cl s H fp => zX nd rfl (.inl (lookup_relabel_local S.own)) (.inr (lookup_relabel_local S.own)))
  (fun pre cv z H vs R hl e r => by
   subst e
   match pre, hl with
   | [p], _ => exact r)
  (fun z H vs e => by subst e; rfl) hs I h (fun J H1 r D hD => (r D hD).imp fun W w => ⟨w.1, fun i m H' w' => (w.2 i m H' w').imp id fun q => ⟨q.1, fun x H2 y => ⟨[x], rfl, q.2 x H2 y⟩⟩⟩) fin
end
end L2
namespace L2
open PySem PySem.Spec PyProof.Rows
section
variable {X : Cx} {pins : Pq} {σ : St} {H : Hp} {s : Shared}
theorem jv {elt iter : Expr} {ifs : List Expr} {x : Str} {px pos : Pos} {caps : List (Nat × Str)} {scope : Scope} {wi : TI} {tt : TT} {te : TE}
  (hc : X.calm = true) (hi : PI X (.Name x px) iter wi) (S : xk scope x) (hcap : CapOk X scope caps) (hfree : qZ scope X.env.scope = true)
  (nd : (x :: caps.map (·.2)).Nodup)
  (ht : ∀ cl s H fp, PTs (ya X (x :: caps.map (·.2)) scope cl s H fp) ifs tt) (he : ∀ cl s H fp, PE (ya X (x :: caps.map (·.2)) scope cl s H fp) elt te)
  (hs : ∀ v, foldedSetIterable iter X.env v = pure v := by intro _; rfl) :
  PE X (.ListComp elt [⟨.Name x px, iter, ifs, 0⟩] scope pos) (vz wi caps tt te) := by
 intro pins s σ H Q I h
 rw [eval_ListComp]
 refine vA (use := none) hc hi S hcap (xT hfree) ht he hs nd I h fun D C H' s' m I' hn fC q => ?_
 refine ⟨m, hn, fun h' sb => ⟨.ref D, H', ?_, rfl, q⟩⟩
 exact I'.turned (it := C) (t' := s'.toks) (fun b o hb e => sb.extBut b o hb e) fC.1 fC.2.1 fC.2.2.2.1 fC.2.2.2.2.1 fC.2.2.2.2.2
theorem qq {elt iter : Expr} {ifs : List Expr} {x y : Str} {px py pos spos : Pos} {caps : List (Nat × Str)} {scope : Scope} {wi : TI} {tt : TT} {te : TE} {i : Nat} (hN : X.N.Nodup) (hi' : X.N[i]? = some y) (hx : Loc X.env.scope y)
  (hc : X.calm = true) (hi : PI X (.Name x px) iter wi) (S : xk scope x) (hcap : CapOk X scope caps) (hfree : qZ scope X.env.scope = true)
  (nd : (x :: caps.map (·.2)).Nodup)
  (ht : ∀ cl s H fp, PTs (ya X (x :: caps.map (·.2)) scope cl s H fp) ifs tt) (he : ∀ cl s H fp, PE (ya X (x :: caps.map (·.2)) scope cl s H fp) elt te)
  (hs : ∀ v, foldedSetIterable iter X.env v = pure v := by intro _; rfl)
  (hsw : swapsWith (.ListComp elt [⟨.Name x px, iter, ifs, 0⟩] scope pos) (some (.Name y py)) spos.line X.env = pure true := by rfl)
  (hf : X.fn y = true \/ X.env.scope.names.lookup y = some .local := by first | exact .inl rfl | exact .inr rfl | assumption) :
  PS X (.Assign [.Name y py] (.ListComp elt [⟨.Name x px, iter, ifs, 0⟩] scope pos) spos) (zbS (vz wi caps tt te) (js i)) := by
 intro pins s σ H D I h
 rw [exec_Assign_Name_used _ _ _ _ hsw]
 refine wpAny_bind (wpAny_standAt (wpAny_bind ?_))
 show wpAny _ X.A (do let _ <- comprehension (.ListComp elt [⟨.Name x px, iter, ifs, 0⟩] scope pos) scope X.env _ (newList []) false (eval iter X.env) (some (assign (.Name y py) X.env))) _ _ s
 refine wpAny_bind (wpAny_mono (vA (use := some (assign (.Name y py) X.env)) (QQ := fun _ s' => SP X pins D .next s') hc hi S hcap (xT hfree) ht he hs nd I h fun D' C H' s' m I' hn fC q => ?_)
  (fun _ s' hq => wpAny_pure (wpAny_pure hq)) fun _ _ e => e)
 show wpAny _ X.A (assign (.Name y py) X.env (.ref D')) _ _ s'
 refine wpAny_assign_Name (xX I' hN hi' hx (v := .ref D') rfl (fun s2 I2 hh => ?_) hf)
 obtain ⟨a, sb, ha⟩ := hh
 have hCa : C ≠ a := by
  rcases ha with e | e
  ·rw [e]; exact fC.2.1
  ·exact fun z => fC.2.2.2.2.1 y a e z.symm
 refine ⟨m, hn.sameBut sb hCa, fun h' sb' => ⟨σ.set i (some (.ref D')), H', ?_, q⟩⟩
 exact I2.turned (it := C) (t' := s2.toks) (fun b o hb e => sb'.extBut b o hb e) fC.1 fC.2.1 fC.2.2.2.1 fC.2.2.2.2.1 fC.2.2.2.2.2
theorem j9 {J : It} {xs : List V} {D : Addr} {H1 : Hp} {tt : TT} {te : TE} {cv : St} {Q : VK} (p : V -> Bool) (f : V -> V) (hz : xs.length <= sizeLine)
  (hgo : ∀ i x ys, xs[i]? = some x -> J.go i (upd H1 D (.lst ys)) /\ ∀ y H2, J.yld i (upd H1 D (.lst ys)) y H2 -> y = x /\ H2 = upd H1 D (.lst ys))
  (hst : ∀ ys, J.stop xs.length (upd H1 D (.lst ys)))
  (ht : ∀ x, x ∈ xs -> ∀ (ys : List V) (R : Bool -> Hp -> Prop), R (p x) (upd H1 D (.lst ys)) -> tt (some x :: cv) (upd H1 D (.lst ys)) R)
  (he : ∀ x, x ∈ xs -> p x = true -> ∀ (ys : List V) (R : VK), R (f x) (upd H1 D (.lst ys)) -> te (some x :: cv) (upd H1 D (.lst ys)) R)
  (q : Q (.ref D) (upd H1 D (.lst ((xs.filter p).map f)))) :
  tCompB J cv tt te D H1 Q := by
 refine ⟨fun i m H' => m = xs.length - i /\ i <= xs.length /\ H' = upd H1 D (.lst (((xs.take i).filter p).map f)), ⟨xs.length, by simp, Nat.zero_le _, by simp⟩, ?_⟩
 rintro i m H' ⟨rfl, hi, rfl⟩
 by_cases hlt : i < xs.length
 ·have ex : xs[i]? = some xs[i] := List.getElem?_eq_getElem hlt
  obtain ⟨g, y⟩ := hgo i xs[i] (((xs.take i).filter p).map f) ex
  have hm : xs[i] ∈ xs := List.getElem_mem hlt
  refine .inr ⟨g, fun x H2 hy => ?_⟩
  obtain ⟨rfl, rfl⟩ := y x H2 hy
  have et := take_succ_filter p xs i xs[i] ex
  refine ht _ hm _ _ ?_
  cases hp : p xs[i] with
  | false =>
   rw [if_neg (by simp)]
   refine ⟨xs.length - (i + 1), by omega, rfl, hlt, ?_⟩
   rw [et, hp]
   simp
  | true =>
   rw [if_pos rfl]
   refine he _ hm hp _ _ ⟨_, zh, ?_, xs.length - (i + 1), by omega, rfl, hlt, ?_⟩
   ·have : ((xs.take i).filter p).length <= (xs.take i).length := List.length_filter_le _ _
    rw [List.length_map]
    rw [List.length_take] at this
    omega
   ·rw [yM, et, hp]
    simp
 ·have e : i = xs.length := by omega
  subst e
  refine .inl ⟨hst _, ?_⟩
  rw [List.take_length]
  exact q
theorem jw {J : It} {xs : List V} {D : Addr} {H1 : Hp} {te : TE} {cv : St} {Q : VK} (f : V -> V) (hz : xs.length <= sizeLine)
  (hgo : ∀ i x ys, xs[i]? = some x -> J.go i (upd H1 D (.lst ys)) /\ ∀ y H2, J.yld i (upd H1 D (.lst ys)) y H2 -> y = x /\ H2 = upd H1 D (.lst ys))
  (hst : ∀ ys, J.stop xs.length (upd H1 D (.lst ys)))
  (he : ∀ x, x ∈ xs -> ∀ (ys : List V) (R : VK), R (f x) (upd H1 D (.lst ys)) -> te (some x :: cv) (upd H1 D (.lst ys)) R)
  (q : Q (.ref D) (upd H1 D (.lst (xs.map f)))) :
  tCompB J cv jP te D H1 Q :=
 j9 (tt := jP) (fun _ => true) f hz hgo hst (fun _ _ _ _ r => r) (fun x hx _ => he x hx) (by rw [List.filter_eq_self.mpr (fun _ _ => rfl)]; exact q)
theorem zcb {lo : Int} {n : Nat} {D : Addr} {H1 : Hp} : (∀ i x ys, ((List.range n).map fun k => V.int (lo + (k : Nat)))[i]? = some x -> (Itr lo n).go i (upd H1 D (.lst ys)) /\ ∀ y H2, (Itr lo n).yld i (upd H1 D (.lst ys)) y H2 -> y = x /\ H2 = upd H1 D (.lst ys)) ∧
  ∀ ys, (Itr lo n).stop ((List.range n).map fun k => V.int (lo + (k : Nat))).length (upd H1 D (.lst ys)) := by
 refine ⟨fun i x ys e => ?_, fun ys => by show n <= _; simp⟩
 rw [List.getElem?_map] at e
 have hi : i < n := by
  by_cases hi : i < n
  ·exact hi
  ·rw [List.getElem?_eq_none (by simpa using hi)] at e
   cases e
 rw [List.getElem?_range hi] at e
 have e' : V.int (lo + (i : Nat)) = x := Option.some.inj e
 subst e'
 exact ⟨hi, fun y H2 h => ⟨h.2, h.1⟩⟩
theorem qr {K : Fq} {a D : Addr} {xs : List V} {H1 : Hp} (h : SqL K H1 a xs) (hD : H1 D = none) : (∀ i x ys, xs[i]? = some x -> (Itl K a).go i (upd H1 D (.lst ys)) /\ ∀ y H2, (Itl K a).yld i (upd H1 D (.lst ys)) y H2 -> y = x /\ H2 = upd H1 D (.lst ys)) ∧
  ∀ ys, (Itl K a).stop xs.length (upd H1 D (.lst ys)) := by
 have up : ∀ ys, SqL K (upd H1 D (.lst ys)) a xs := fun ys => Same.seq (fun b o q => by rw [zj (zu q hD)]; exact q) h
 refine ⟨fun i x ys e => ⟨⟨xs, x, up ys, e⟩, fun y H2 hh => ⟨?_, hh.1⟩⟩, fun ys => ⟨xs, up ys, Nat.le_refl _⟩⟩
 have := hh.2 xs (up ys)
 rw [e] at this
 exact (Option.some.inj this).symm
end
def tCut (t u : TS) : TS := fun D σ H => ∃ R : St -> Hp -> Prop, t { D with nx := R } σ H /\ ∀ σ' H', R σ' H' -> u D σ' H'
theorem zdY {X : Cx} {st : Stmt} {rest : List Stmt} {t u : TS} (h1 : PS X st t) (h2 : PSs X rest u) : PSs X (st :: rest) (tCut t u) := by
 intro pins s σ H D I ⟨R, h, k⟩
 have h3 : PSs X rest (fun D' σ' H' => D' = D /\ R σ' H') := fun pins s σ H D' I' ⟨e, r⟩ => e ▸ h2 pins s σ H D I' (k σ H r)
 exact zf (t := fun D' σ' H' => D' = { D with nx := fun σ' H' => D = D /\ R σ' H' } /\ σ' = σ /\ H' = H) (fun pins' s' σ' H' D' I' ⟨e, e1, e2⟩ => by
  subst e e1 e2
  refine thn (h1 pins' s' _ _ { D with nx := R } I' h) fun f s2 hf => ?_
  cases f with
  | next => obtain ⟨σ2, H2, I2, r⟩ := hf; exact ⟨σ2, H2, I2, rfl, r⟩
  | _ => exact hf) h3 pins s σ H D I ⟨rfl, rfl, rfl⟩
theorem zF {H : Hp} {a p : Addr} {o u : HO} (h : H a = some o) (hp : H p = none) : upd H p u a = some o := by rw [zj (zu h hp)]; exact h
theorem SqL.up {K : Fq} {H : Hp} {a p : Addr} {xs : List V} {u : HO} (h : SqL K H a xs) (hp : H p = none) : SqL K (upd H p u) a xs := Same.seq (fun _ _ q => zF q hp) h
theorem zB {H : Hp} {p : Addr} {u : HO} (hp : H p = none) : Same H (upd H p u) := fun _ _ q => zF q hp
def zcc : HO -> Bool
 | .ins _ _ _ => false
 | .frz _ _ => false
 | _ => true
def fixO : HO -> Bool
 | .tup _ => true
 | .frz _ _ => true
 | .tbl _ => true
 | .own _ => true
 | _ => false
structure Less (H H2 H' : Hp) : Prop where
 sub : Same H2 H'
 dep : ∀ a o, H2 a = some o -> H a = some o \/ zcc o = true \/ ∃ C dx fs, o = .ins C dx fs /\ H2 dx = some (.own a)
 kept : ∀ a o, H a = some o -> fixO o = true -> H2 a = some o
theorem Less.same {H H' : Hp} (s : Same H H') : Less H H H' := ⟨s, fun _ _ e => .inl e, fun _ _ e _ => e⟩
theorem Less.refl {H : Hp} : Less H H H := .same (Same.refl H)
theorem Less.new {H H' : Hp} {p : Addr} {o : HO} (s : Same H H') (hp : H p = none) (e : H' p = some o) (f : zcc o = true) : Less H (upd H p o) H' := by
 refine ⟨fun a u q => ?_, fun a u q => ?_, fun a u q _ => zF q hp⟩
 ·by_cases h : a = p
  ·subst h; rw [zh] at q; cases q; exact e
  ·rw [zj h] at q; exact s a u q
 ·by_cases h : a = p
  ·subst h; rw [zh] at q; cases q; exact .inr (.inl f)
  ·rw [zj h] at q; exact .inl q
theorem ObjOk.less {P : Program} {w : World} {H H2 H' : Hp} {h h0 : Heap} {a : Addr} {o : HO} (L : Less H H2 H') (d : ObjOk P w H h0 a o) (x : ObjOk P w H' h a o) : ObjOk P w H2 h a o := by
 induction o with
 | ins C dx fs =>
  obtain ⟨_, z, ne, e1, e2⟩ := x
  exact ⟨L.kept _ _ d.1 rfl, z, ne, e1, e2⟩
 | frz ob u ih => exact ⟨x.1, ih d.2 x.2⟩
 | _ => exact x
theorem HOk.less {P : Program} {w : World} {H H2 H' : Hp} {h h0 : Heap} (L : Less H H2 H') (ok0 : HOk P w H h0) (ok : HOk P w H' h) : HOk P w H2 h := fun a o e => by
 have x := ok a o (L.sub a o e)
 rcases L.dep a o e with q | q | ⟨C, dx, fs, rfl, q⟩
 ·exact ObjOk.less L (ok0 a o q) x
 ·cases o with
  | ins C dx fs => cases q
  | frz ob u => cases q
  | _ => exact x
 ·obtain ⟨_, z⟩ := x
  exact ⟨q, z⟩
theorem Un.less {fs : List Addr} {H H2 H' : Hp} {h h' : Heap} (L : Less H H2 H') (u : Un fs [] H H' h h') : Un fs [] H H2 h h' :=
  { keep := u.keep, slot := u.slot, there := u.there
    free := fun b o e n hx => by
      have q := u.free b o e n hx
      cases z : H2 b with
      | none => rfl
      | some v => rw [L.sub b v z] at q; cases q
    tups := fun b xs e => L.kept b _ e rfl
    frzs := fun b o v e => L.kept b _ e rfl
    tbls := fun b ps e => ⟨#[], by rw [L.kept b _ e rfl]; simp⟩ }
theorem FnOk.drop {P : Program} {w : World} {K : Fq} {mg : Mq} {base : Heap} {CX : CXT} {k : Nat} {f : Addr} {fd : FuncData} {ps : List Str} {sp sp' : Sp} (F : FnOk P w K mg base CX k f fd ps sp)
  (h : ∀ vs H Q E, sp' vs H Q E -> sp vs H (fun v H' => ∃ H2, Less H H2 H' /\ Q v H2) E) : FnOk P w K mg base CX k f fd ps sp' := by
 refine ⟨fun vs H Q E z => F.len vs H _ E (h vs H Q E z), fun A outer s H args us vs Q E hr e0 hb r z => ?_⟩
 refine codeAny_mono (F.run A outer s H args us vs _ E hr e0 hb r (h vs H Q E z)) fun q s' hq => ?_
 cases q with
 | error e => exact hq
 | ok fl =>
  cases fl with
  | ret u =>
   obtain ⟨v, H', o1, o2, o3, o4, o5, H2, L, q2⟩ := hq
   exact ⟨v, H2, o1, o2, Un.less L o3, HOk.less L e0.hok o4, o5, q2⟩
  | _ => exact hq
structure Cal (P : Program) (w : World) (K : Fq) (mg : Mq) (base : Heap) (k : Nat) (x : Str) (ps : List Str) (sp : Sp) : Prop where
 ex : ∃ f fd, mg x = some (.ref f) /\ PySem.W.keepIn K (.ref f) = true /\ Binds K fd ps [] /\ FnOk P w K mg base CX0 k f fd ps sp
structure Def (K : Fq) (mg : Mq) (x : Str) (st : Stmt) (ps : List Str) : Prop where
 ex : ∃ f fd, Fun K x x st f fd /\ Binds K fd ps [] /\ mg x = some (.ref f)
section
variable {P : Program} {w : World} {K : Fq} {mg : Mq} {base : Heap}
theorem Cal.mono {j k : Nat} {x : Str} {ps : List Str} {sp : Sp} (C : Cal P w K mg base j x ps sp) (h : j <= k) : Cal P w K mg base k x ps sp :=
 let ⟨f, fd, a, b, c, d⟩ := C.ex
 ⟨f, fd, a, b, c, d.mono h⟩
theorem Cal.imp {k : Nat} {x : Str} {ps : List Str} {sp sp' : Sp} (C : Cal P w K mg base k x ps sp) (h : ∀ vs H Q E, sp' vs H Q E -> sp vs H Q E) : Cal P w K mg base k x ps sp' :=
 let ⟨f, fd, a, b, c, d⟩ := C.ex
 ⟨f, fd, a, b, c, d.imp h⟩
theorem Fun.okD {x qual : Str} {st : Stmt} {f : Addr} {fd : FuncData} {N ps : List Str} {k : Nat} {sp : Sp} (F : Fun K x qual st f fd) (S : zm N ps (zd st)) (len : ∀ vs H Q E, sp vs H Q E -> vs.length = ps.length)
  (hbody : ∀ (cdv : Value) (A : Around) (outer : List Env) (s : Shared) (H : Hp) (vs : List V) (Q : VK) (E : XK), Room k (A.deeper (envOfC qual (zd st) s.heap.objs.size f cdv)) -> sp vs H Q E →
   ∃ t, PSs (yh CX0 P w K mg base N qual (zd st) f cdv A outer s H E).nox (zk st) t /\ t { nx := fun _ H' => ∃ H2, Less H H2 H' /\ Q .non H2, rt := fun v H' => ∃ H2, Less H H2 H' /\ Q v H2 } (yt N vs) H) : FnOk P w K mg base CX0 (k + 1) f fd ps sp := by
 refine FnOk.drop (sp := fun vs H Q E => ∃ Q0, sp vs H Q0 E /\ Q = fun v H' => ∃ H2, Less H H2 H' /\ Q0 v H2) (F.ok S (fun vs H Q E ⟨Q0, z, _⟩ => len vs H Q0 E z) fun cdv A outer s H vs Q E hr ⟨Q0, z, e⟩ => ?_) fun vs H Q E z => ⟨Q, z, rfl⟩
 subst e
 exact hbody cdv A outer s H vs Q0 E hr z
theorem Def.ok {x : Str} {st : Stmt} {N ps : List Str} {k : Nat} {sp : Sp} (D : Def K mg x st ps) (S : zm N ps (zd st)) (len : ∀ vs H Q E, sp vs H Q E -> vs.length = ps.length)
  (hbody : ∀ (f : Addr) (cdv : Value) (A : Around) (outer : List Env) (s : Shared) (H : Hp) (vs : List V) (Q : VK) (E : XK), Room k (A.deeper (envOfC x (zd st) s.heap.objs.size f cdv)) -> sp vs H Q E →
   ∃ t, PSs (yh CX0 P w K mg base N x (zd st) f cdv A outer s H E).nox (zk st) t /\ t { nx := fun _ H' => ∃ H2, Less H H2 H' /\ Q .non H2, rt := fun v H' => ∃ H2, Less H H2 H' /\ Q v H2 } (yt N vs) H) : Cal P w K mg base (k + 1) x ps sp := by
 obtain ⟨f, fd, F, b, m⟩ := D.ex
 exact ⟨f, fd, m, F.kp, b, F.okD S len (hbody f)⟩
theorem zP {h : Heap} {x : Str} {st : Stmt} {ps : List Str} {f : Addr} {oc : Value} {od an : Option Addr} {osl : Array (Option Value)} {kV doc pm cdv ct : Value} (X : K.In h) (G : h.Ns mainGlobals mg) (a : PySem.W.nsIn K mainGlobals x = some (some (.ref f)))
  (l : K.lookup f = some ⟨oc, od, .func (PySem.W.fnOf x x (zo st) (zk st) (zd st) .none kV doc pm an cdv ct), osl⟩) (c : PySem.W.codeIn K cdv x = true) (k : PySem.W.keepIn K (.ref f) = true)
  (hb : ∀ (kV doc pm : Value) (an : Option Addr) (cdv ct : Value) (us : List Value), us.length = ps.length -> bindArgs (PySem.W.fnOf x x (zo st) (zk st) (zd st) .none kV doc pm an cdv ct) ⟨us, []⟩ = pure (ps.zip us)) : Def K mg x st ps :=
 ⟨f, _, wI l c k, (wI l c k).binds hb, PySem.W.mg_of X G a⟩
end
section
variable {X : Cx} {k : Nat} {x : Str} {ps : List Str} {sp : Sp} {p pos : Pos} {e : Expr} {es : List Expr} {t : TA}
theorem zN (C : Cal X.prog X.w X.K X.mg X.base k x ps sp) (hr : Room k X.A) (hg : Gl X x) (ha : PA X (e :: es) t) (hdb : (x == ("__debug__" : Str)) = false := by decide) (he : starEach (e :: es) X.env = (false, eval e X.env) :: starEach es X.env := by rfl) (hpl : (backTo pos (starEach es X.env)).any (·.1) = false := by rfl) :
  PE X (.Call (.Name x p) (e :: es) [] pos) (vq sp [] E0 t) :=
 let ⟨_, _, a, b, c, d⟩ := C.ex
 zau d hr hg a b c .nil zaw ha hdb he hpl
end
section
variable {X : Cx}
theorem xE (hc : X.calm = true) : xS X (.builtin "sum") (fun xs H Q => ∃ (a : Addr) (ns : List Int), xs = [.ref a] /\ SqL X.K H a (ns.map V.int) /\ Q (.int ns.sum) H) := by
 rintro pins s σ H xs us Q I r ⟨a, ns, rfl, h, q⟩
 obtain ⟨u, rfl, ru⟩ := ju r
 cases (show u = .ref a from ru)
 obtain ⟨its, hv, pl, hz⟩ := I.list h
 have hi := qp hv
 obtain ⟨ys, e⟩ := hi.allInts.items
 have hl : s.heap.IsList a (intItems ys) := e ▸ pl.isList
 refine sum_intListG (I.ok.hd hc) hl fun h' tk t' hk => ?_
 have es : preSum (numAt ys) ys.size = ns.sum := by
  rw [preSum_eq, List.take_of_length_le (by simp), <- nums_intItems, <- e]
  exact congrArg List.sum hi.numsOf
 rw [es]
 exact ⟨.int ns.sum, H, I.kept hk, ⟨_, rfl⟩, q⟩
end
end L2
namespace L2
open PySem PySem.Spec PyProof.Rows
theorem yg : bootBuiltins "len" = some (.builtin "len") := by decide +kernel
theorem kb : bootBuiltins "sum" = some (.builtin "sum") := by decide +kernel
theorem yu : bootBuiltins "isinstance" = some (.builtin "isinstance") := by decide +kernel
theorem ji : bootBuiltins "list" = some (.type "list") := by decide +kernel
theorem b_int : bootBuiltins "int" = some (.type "int") := by decide +kernel
theorem wJ : bootBuiltins "reversed" = some (.type "reversed") := by decide +kernel
theorem zen : bootBuiltins "zip" = some (.type "zip") := by decide +kernel
theorem zeo : bootBuiltins "min" = some (.builtin "min") := by decide +kernel
theorem vB : bootBuiltins "enumerate" = some (.type "enumerate") := by decide +kernel
structure BI (mg : Mq) : Prop where
 len : mg "len" = none
 sum : mg "sum" = none
 isinstance : mg "isinstance" = none
 divmod : mg "divmod" = none
 list : mg "list" = none
 tuple : mg "tuple" = none
 int : mg "int" = none
 bool : mg "bool" = none
 range : mg "range" = none
 reversed : mg "reversed" = none
 zip : mg "zip" = none
 min : mg "min" = none
 max : mg "max" = none
 enumerate : mg "enumerate" = none
 str : mg "str" = none
 sorted : mg "sorted" = none
 set : mg "set" = none
theorem hU {A : Around} {k : Nat} (hr : Room k A) : A.units < cLine := hr.units0
theorem zcd {ns : List Int} {i : Nat} (h : i < ns.length) : (ns.map V.int)[i]? = some (.int (ns.getD i 0)) := by
 rw [List.getElem?_map, List.getElem?_eq_getElem h]
 show some (V.int ns[i]) = _
 rw [List.getD_eq_getElem?_getD, List.getElem?_eq_getElem h]
 rfl
theorem atN {ns : List Int} {i : Nat} (h : i < ns.length) : atI (ns.map V.int) (i : Int) = some (.int (ns.getD i 0)) := qg (zcd h)
theorem atZ {ns : List Int} {i : Int} (h0 : 0 <= i) (h : i < (ns.length : Int)) : atI (ns.map V.int) i = some (.int (ns.getD i.toNat 0)) := by
 have e : i = ((i.toNat : Nat) : Int) := by omega
 have := atN (ns := ns) (i := i.toNat) (by omega)
 rw [<- e] at this
 exact this
theorem ixZ {n : Nat} {i : Int} (h0 : 0 <= i) (h : i < (n : Int)) : ixN n i = some i.toNat := by
 unfold ixN
 rw [if_pos h0, if_pos h]
theorem map_set (ns : List Int) (i : Nat) (v : Int) : (ns.map V.int).set i (.int v) = (ns.set i v).map V.int := by rw [List.map_set]
theorem zce (ns : List Int) {k : Int} (h0 : 0 <= k) : zaU (ns.map V.int) none (some k) = (ns.take k.toNat).map V.int := by
 unfold zaU
 rw [HT.sIx_none, List.drop_zero, Nat.sub_zero, List.length_map]
 have e : k = ((k.toNat : Nat) : Int) := by omega
 rw [e, HT.sIx_nat, <- List.map_take]
 congr 1
 rw [Int.toNat_natCast]
 rcases Nat.le_total k.toNat ns.length with h | h
 ·rw [Nat.min_eq_left h]
 ·rw [Nat.min_eq_right h, List.take_of_length_le (Nat.le_refl _), List.take_of_length_le h]
theorem zeM {ns : List Int} {i : Nat} {y : V} (h : (ns.map V.int)[i]? = some y) : ∃ n, n ∈ ns /\ y = .int n := by
 rw [List.getElem?_map] at h
 cases e : ns[i]? with
 | none => rw [e] at h; cases h
 | some n => rw [e] at h; exact ⟨n, List.mem_of_getElem? e, (Option.some.inj h).symm⟩
theorem yq {X : Cx} {x : Str} {i : Int} {pos : Pos} (hg : Gl X x) (hm : ∃ t, X.mg x = some (.int i t)) (hd : (x == ("__debug__" : Str)) = false := by decide) : PE X (.Name x pos) (tC (.int i)) :=
 let ⟨t, e⟩ := hm
 kC hg e (v := .int i) ⟨t, rfl⟩ hd
theorem zeN {X : Cx} {x : Str} {T : String} {pos : Pos} (hg : Gl X x) (hm : X.mg x = none) (hv : bootBuiltins x = some (.type T)) (hn : x ≠ "__name__" := by decide) (hd : (x == ("__debug__" : Str)) = false := by decide) : PE X (.Name x pos) (tC (.ty T)) :=
 zdL hg hm hv (v := .ty T) rfl hn hd
theorem szl {n : Nat} (h : n <= 1000) : n <= sizeLine := Nat.le_of_lt (jO h)
end L2
namespace Np
open L2
structure GoodC (ns : List Int) : Prop where
 len0 : 1 <= ns.length
 len1 : ns.length <= 100
 rng : ∀ c ∈ ns, 0 <= c /\ c <= 999
 pos : 0 < ns.sum
theorem wK : ∀ {ns : List Int}, (∀ c ∈ ns, 0 <= c /\ c <= 999) -> 0 <= ns.sum /\ ns.sum <= 999 * (ns.length : Int)
 | [], _ => by simp
 | c :: r, h => by
  have h1 := h c List.mem_cons_self
  have h2 := wK (ns := r) fun x hx => h x (List.mem_cons_of_mem _ hx)
  rw [List.sum_cons, List.length_cons]
  omega
theorem GoodC.le {ns : List Int} (g : GoodC ns) : ns.sum <= 99900 := by
 have := (wK g.rng).2
 have := g.len1
 omega
def first (ns : List Int) (k : Nat) : Int := (ns.take k).sum
theorem yB (ns : List Int) : first ns 0 = 0 := by simp [first]
theorem yH {ns : List Int} {k : Nat} (h : k < ns.length) : first ns (k + 1) = first ns k + ns.getD k 0 := by
 unfold first
 rw [List.take_succ, List.sum_append, List.getD_eq_getElem?_getD, List.getElem?_eq_getElem h]
 simp
theorem xa (ns : List Int) : first ns ns.length = ns.sum := by unfold first; rw [List.take_length]
theorem getD_mem {ns : List Int} {k : Nat} (h : k < ns.length) : ns.getD k 0 ∈ ns := by
 rw [List.getD_eq_getElem?_getD, List.getElem?_eq_getElem h]
 exact List.getElem_mem h
theorem GoodC.at {ns : List Int} (g : GoodC ns) (k : Nat) : 0 <= ns.getD k 0 /\ ns.getD k 0 <= 999 := by
 by_cases h : k < ns.length
 ·exact g.rng _ (getD_mem h)
 ·rw [List.getD_eq_getElem?_getD, List.getElem?_eq_none (by omega)]
  exact ⟨Int.le_refl _, by decide⟩
theorem yx {ns : List Int} (h : ∀ c ∈ ns, 0 <= c /\ c <= 999) {i j : Nat} (hij : i <= j) (hj : j <= ns.length) : first ns i <= first ns j := by
 induction j with
 | zero =>
  have : i = 0 := by omega
  subst this; exact Int.le_refl _
 | succ j ih =>
  rcases Nat.lt_or_ge i (j + 1) with q | q
  ·have := ih (by omega) (by omega)
   rw [yH (by omega)]
   have := (h _ (getD_mem (ns := ns) (k := j) (by omega))).1
   omega
  ·have : i = j + 1 := by omega
   subst this; exact Int.le_refl _
def signOf : List Int -> Int -> Nat
 | [], _ => 0
 | c :: r, s => if s < c then 0 else signOf r (s - c) + 1
theorem xF : ∀ {ns : List Int} {s : Int}, 0 <= s -> s < ns.sum -> signOf ns s < ns.length /\ first ns (signOf ns s) <= s /\ s < first ns (signOf ns s) + ns.getD (signOf ns s) 0
 | [], s, h0, h => by simp at h; omega
 | c :: r, s, h0, h => by
  unfold signOf
  by_cases q : s < c
  ·rw [if_pos q]
   exact ⟨by simp, by simp [first]; exact h0, by simp [first]; exact q⟩
  ·rw [if_neg q]
   rw [List.sum_cons] at h
   obtain ⟨a, b, d⟩ := xF (ns := r) (s := s - c) (by omega) (by omega)
   have e : first (c :: r) (signOf r (s - c) + 1) = c + first r (signOf r (s - c)) := by simp [first]
   have e' : (c :: r).getD (signOf r (s - c) + 1) 0 = r.getD (signOf r (s - c)) 0 := by simp
   rw [e, e', List.length_cons]
   omega
theorem ja {ns : List Int} (h : ∀ c ∈ ns, 0 <= c /\ c <= 999) {s : Int} {k : Nat} (hk : k < ns.length) (h1 : first ns k <= s) (h2 : s < first ns (k + 1)) : signOf ns s = k := by
 have h0 : 0 <= s := by
  have := yx h (Nat.zero_le k) (by omega)
  rw [yB] at this
  omega
 have hs : s < ns.sum := by
  have := yx h (show k + 1 <= ns.length from hk) (Nat.le_refl _)
  rw [xa] at this
  omega
 obtain ⟨a, b, d⟩ := xF h0 hs
 rw [<- yH a] at d
 rcases Nat.lt_trichotomy (signOf ns s) k with q | q | q
 ·have := yx h (show signOf ns s + 1 <= k from q) (by omega)
  omega
 ·exact q
 ·have := yx h (show k + 1 <= signOf ns s from q) (by omega)
  omega
def xm (ns : List Int) (k : Int) : Int := ns.getD k.toNat 0
end Np
namespace Np
open L2
def kO (ns : List Int) (k : Nat) (p : Int) : Int := p / ns.getD k 0 * ns.sum + first ns k + p % ns.getD k 0
def takeS (ns : List Int) (p : Int) : Nat := signOf ns (p % ns.sum)
def yD (ns : List Int) (p : Int) : Int := p / ns.sum * ns.getD (takeS ns p) 0 + p % ns.sum - first ns (takeS ns p)
theorem zcf {ns : List Int} (g : GoodC ns) {k : Nat} (h : k <= ns.length) : 0 <= first ns k := by
 have := yx g.rng (Nat.zero_le k) h
 rw [yB] at this
 exact this
theorem zaX {ns : List Int} (g : GoodC ns) {k : Nat} (h : k < ns.length) : first ns k + ns.getD k 0 <= ns.sum := by
 have := yx g.rng (show k + 1 <= ns.length from h) (Nat.le_refl _)
 rw [xa, yH h] at this
 exact this
theorem zcg {ns : List Int} (g : GoodC ns) {k : Nat} (h : k < ns.length) (hc : 0 < ns.getD k 0) {p : Int} (hp : 0 <= p) : 0 <= kO ns k p := by
 have a := Int.emod_nonneg p (show ns.getD k 0 ≠ 0 by omega)
 have c := zcf g (Nat.le_of_lt h)
 have e := Int.mul_nonneg (Int.ediv_nonneg hp (Int.le_of_lt hc)) (Int.le_of_lt g.pos)
 unfold kO
 omega
theorem jx {ns : List Int} (g : GoodC ns) (p : Int) : takeS ns p < ns.length /\ first ns (takeS ns p) <= p % ns.sum /\ p % ns.sum < first ns (takeS ns p) + ns.getD (takeS ns p) 0 :=
 xF (Int.emod_nonneg p (by have := g.pos; omega)) (Int.emod_lt_of_pos p g.pos)
theorem qs {ns : List Int} (g : GoodC ns) (p : Int) : 0 < ns.getD (takeS ns p) 0 := by
 obtain ⟨_, b, c⟩ := jx g p
 omega
theorem zdZ {ns : List Int} (g : GoodC ns) {p : Int} (hp : 0 <= p) : 0 <= yD ns p := by
 obtain ⟨_, b, c⟩ := jx g p
 have d := qs g p
 have e := Int.mul_nonneg (Int.ediv_nonneg hp (Int.le_of_lt g.pos)) (Int.le_of_lt d)
 unfold yD
 omega
def zch (ns : List Int) : List Int := ((List.range ns.length).filter fun k => decide (0 < ns.getD k 0)).map fun k => ((k : Nat) : Int)
theorem held_mem {ns : List Int} {x : Int} : x ∈ zch ns ↔ ∃ k : Nat, k < ns.length /\ 0 < ns.getD k 0 /\ x = (k : Int) := by
 unfold zch
 rw [List.mem_map]
 constructor
 ·rintro ⟨k, hk, rfl⟩
  rw [List.mem_filter, List.mem_range] at hk
  exact ⟨k, hk.1, of_decide_eq_true hk.2, rfl⟩
 ·rintro ⟨k, h1, h2, rfl⟩
  exact ⟨k, List.mem_filter.mpr ⟨List.mem_range.mpr h1, decide_eq_true h2⟩, rfl⟩
end Np
namespace L2
end L2
namespace L2
open PySem PySem.Spec PyProof.Rows
section
variable {X : Cx} {K : Fq}
theorem zci (e : X.K = K) : IxR X (rIxL K) := e ▸ zK
theorem zd0 (e : X.K = K) : IxR X (rIxT K) := e ▸ y8
end
end L2
namespace L2
open PySem PySem.Spec PyProof.Rows
def Itv (K : Fq) (a : Addr) (n : Nat) : It :=
 ⟨fun i H => ∃ xs x, SqL K H a xs /\ i < n /\ xs[n - 1 - i]? = some x, fun i H x H' => H' = H /\ ∀ xs, SqL K H a xs -> xs[n - 1 - i]? = some x, fun i _ => i = n⟩
theorem zcj {P : Program} {w : World} {K : Fq} {tg : Expr} (a it : Addr) (n : Nat) : vo P w K tg (Itv K a n) [it] it (fun i h => i <= n /\ h.IsRevIter it a ((n : Int) - 1 - (i : Nat))) where
 mem := by simp
 obj := fun i h st b hb => by
  have e : b = it := by simpa using hb
  subst e
  obtain ⟨_, o, e, c, d⟩ := st
  exact ⟨o, e, fun v z => by rw [d] at z; cases z⟩
 keep := fun i h h' st k => ⟨st.1, st.2.at fun o e => k it (by simp) o e⟩
 item := by
  intro X hP hw hK hc i pins s σ H E I hf st hg
  subst hP hw hK
  obtain ⟨xs, x, hq, hi, hx⟩ := hg
  obtain ⟨its, rv, p, hz⟩ := I.list hq
  obtain ⟨u, hu, ru⟩ := rv.get hx
  obtain ⟨f0, f1, f2, f3, f4, f5⟩ := hf it (by simp)
  have e1 : (n : Int) - 1 - (i : Nat) = ((n - 1 - i : Nat) : Int) := by omega
  have hit := st.2
  rw [e1] at hit
  refine wpAny_pyNext_rev_item hit p.isList (x := u) (by simpa using hu) fun h' st' sb => ?_
  have I1 : Inv X pins σ H { s with heap := h' } := I.turned (t' := s.toks) (fun b o hb e => (sb.2 b hb).trans e) f0 f1 f3 f4 f5
  have e2 : ((n - 1 - i : Nat) : Int) - 1 = (n : Int) - 1 - ((i + 1 : Nat) : Int) := by omega
  rw [e2] at st'
  obtain ⟨o, e, c, d⟩ := id st'
  exact ⟨u, rfl, zbU (s := { s with heap := h' }) e c d (by decide) ⟨x, H, I1, ru, ⟨rfl, fun ys hy => by rw [I.list_inj hy hq]; exact hx⟩, ⟨hi, st'⟩, fun b hb => (hf b hb).1⟩⟩
 done := by
  intro X hP hw hK hc i pins s σ H E I hf st hg
  subst hP hw hK
  obtain ⟨f0, f1, f2, f3, f4, f5⟩ := hf it (by simp)
  have hg' : i = n := hg
  subst hg'
  have e : (i : Int) - 1 - (i : Nat) = -1 := by omega
  have hit := st.2
  rw [e] at hit
  exact wpAny_pyNext_rev_end (I.ok.hd hc) hit fun h' eb => ⟨rfl, I.turned (t' := s.toks) (fun b o hb e => eb b o hb e) f0 f1 f3 f4 f5⟩
 self := fun _ _ _ _ _ st h => wpAny_pyIter_revIter st.2 h
section
variable {X : Cx} {tg : Expr}
def iRev (K : Fq) (ta : TA) : TI := fun σ H R => ta σ H fun vs H1 => ∃ a xs, vs = [.ref a] /\ SqL K H1 a xs /\ R (Itv K a xs.length) H1
theorem kQ {a : Expr} {ta : TA} {p pos : Pos} (hg : Gl X "reversed") (hm : X.mg "reversed" = none) (ha : PA X [a] ta) (hs : starEach [a] X.env = [(false, eval a X.env)] := by rfl) : PI X tg (.Call (.Name "reversed" p) [a] [] pos) (iRev X.K ta) := by
 intro pins s σ H R I h
 refine Call_ (xK I hg hm wJ (PyProof.Rows.callWith_type1 (thn (ha pos pins s σ H _ I h) fun us s1 ⟨vs, H1, I1, r1, q1⟩ => ?_) hs rfl))
 obtain ⟨l, xs, e, hq, q⟩ := q1
 subst e
 obtain ⟨u, rfl, ru⟩ := ju r1
 cases (show u = .ref l from ru)
 obtain ⟨its, rv, pl, hz⟩ := I1.list hq
 refine call_reversed_list pl.isList ?_
 have en : (its.toArray.size : Int) = (xs.length : Int) := by rw [List.size_toArray, rv.length]
 rw [en]
 have hit : ({ s1 with heap := s1.heap.push (revObj l ((xs.length : Int) - 1)) } : Shared).heap.IsRevIter s1.heap.objs.size l ((xs.length : Int) - 1) := ⟨_, Heap.get?_push_size _ rfl, rfl, rfl⟩
 refine wpAny_pyIter_revIter hit ?_
 refine ⟨s1.heap.objs.size, [s1.heap.objs.size], _, _, H1, rfl, I1.kept (t' := s1.toks) fun b o e => Heap.get?_push_of_some _ e, zcj l _ xs.length, ⟨Nat.zero_le _, ?_⟩, fun b hb => ?_, q⟩
 ·have e0 : (xs.length : Int) - 1 - ((0 : Nat) : Int) = (xs.length : Int) - 1 := by omega
  rw [e0]
  exact hit
 ·have e : b = s1.heap.objs.size := by simpa using hb
  subst e
  exact I1.fpOk (Nat.le_refl _) (I1.hok.fresh (Nat.le_refl _))
end
theorem qh {K : Fq} {a : Addr} {xs : List V} {g : TG} {tb : TS} {D : Ends} {σ : St} {H : Hp} (Pv : Nat -> St -> Hp -> Prop) (h0 : Pv 0 σ H) (hl : ∀ i σ H, i <= xs.length -> Pv i σ H -> SqL K H a xs)
  (hs : ∀ i x σ H, xs.reverse[i]? = some x -> Pv i σ H -> g x σ H fun σ2 H2 => tb { D with nx := Pv (i + 1), ct := Pv (i + 1), bk := D.nx } σ2 H2) (hd : ∀ σ H, Pv xs.length σ H -> D.nx σ H) :
  ∃ W : Nat -> Nat -> St -> Hp -> Prop, (∃ m, W 0 m σ H) /\ ∀ i m σ H, W i m σ H →
   ((Itv K a xs.length).stop i H /\ D.nx σ H) \/ ((Itv K a xs.length).go i H /\ ∃ N : St -> Hp -> Prop, (∀ σ' H', N σ' H' -> ∃ m', m' < m /\ W (i + 1) m' σ' H') /\ ∀ x H', (Itv K a xs.length).yld i H x H' -> g x σ H' fun σ2 H2 => tb { D with nx := N, ct := N, bk := D.nx } σ2 H2) := by
 refine ⟨fun i m σ H => m = xs.length - i /\ i <= xs.length /\ Pv i σ H, ⟨xs.length, by simp, Nat.zero_le _, h0⟩, ?_⟩
 rintro i m σ H ⟨rfl, hi, p⟩
 have q := hl i σ H hi p
 by_cases hlt : i < xs.length
 ·have ex : xs[xs.length - 1 - i]? = some (xs[xs.length - 1 - i]'(by omega)) := List.getElem?_eq_getElem (by omega)
  refine .inr ⟨⟨xs, _, q, hlt, ex⟩, Pv (i + 1), fun σ' H' p' => ⟨xs.length - (i + 1), by omega, rfl, hlt, p'⟩, fun x H' y => ?_⟩
  obtain ⟨e, y⟩ := y
  subst e
  refine hs i x σ _ ?_ p
  rw [List.getElem?_reverse hlt]
  exact y xs q
 ·have e : i = xs.length := by omega
  subst e
  exact .inl ⟨rfl, hd σ H p⟩
theorem Less.add {H H2 H' : Hp} {p : Addr} {o : HO} (L : Less H H2 H') (hp : H2 p = none) (e : H' p = some o) (f : zcc o = true) : Less H (upd H2 p o) H' := by
 refine ⟨fun a u q => ?_, fun a u q => ?_, fun a u q z => zF (L.kept a u q z) hp⟩
 ·by_cases h : a = p
  ·subst h; rw [zh] at q; cases q; exact e
  ·rw [zj h] at q; exact L.sub a u q
 ·by_cases h : a = p
  ·subst h; rw [zh] at q; cases q; exact .inr (.inl f)
  ·rw [zj h] at q
   rcases L.dep a u q with z | z | ⟨C, dx, fs, z, z'⟩
   ·exact .inl z
   ·exact .inr (.inl z)
   ·exact .inr (.inr ⟨C, dx, fs, z, zF z' hp⟩)
end L2
namespace Np
open L2
def OkS (ns : List Int) (k : Int) : Prop := 0 <= k /\ k < (ns.length : Int) /\ 0 < ns.getD k.toNat 0
def xn (ns : List Int) (rs : List Int) (p : Int) : Int := rs.foldr (fun k p => kO ns k.toNat p) p
def zS (ns : List Int) : Nat -> Int -> List Int × Int
 | 0, p => ([], p)
 | n + 1, p => (((takeS ns p : Nat) : Int) :: (zS ns n (yD ns p)).1, (zS ns n (yD ns p)).2)
theorem jy (ns : List Int) : ∀ (n : Nat) (p : Int), zS ns (n + 1) p = ((zS ns n p).1 ++ [((takeS ns (zS ns n p).2 : Nat) : Int)], yD ns (zS ns n p).2)
 | 0, p => rfl
 | n + 1, p => by
  have ih := jy ns n (yD ns p)
  show (((takeS ns p : Nat) : Int) :: (zS ns (n + 1) (yD ns p)).1, (zS ns (n + 1) (yD ns p)).2) = _
  rw [ih]
  rfl
theorem xw (ns : List Int) : ∀ (n : Nat) (p : Int), (zS ns n p).1.length = n
 | 0, _ => rfl
 | n + 1, p => by
  show ((zS ns n (yD ns p)).1).length + 1 = n + 1
  rw [xw]
theorem qt {ns : List Int} (g : GoodC ns) : ∀ (n : Nat) {p : Int}, 0 <= p -> 0 <= (zS ns n p).2
 | 0, _, h => h
 | n + 1, p, h => qt g n (zdZ g h)
theorem xM {ns : List Int} (g : GoodC ns) : ∀ (n : Nat) (p : Int), ∀ k ∈ (zS ns n p).1, k ∈ zch ns /\ OkS ns k
 | 0, _, k, h => by cases h
 | n + 1, p, k, h => by
  rcases List.mem_cons.mp h with e | e
  ·subst e
   have a := (jx g p).1
   have b := qs g p
   exact ⟨held_mem.mpr ⟨_, a, b, rfl⟩, by omega, by omega, by rw [Int.toNat_natCast]; exact b⟩
  ·exact xM g n _ k e
theorem xY {ns : List Int} (g : GoodC ns) : ∀ {rs : List Int} {p : Int}, (∀ k ∈ rs, OkS ns k) -> 0 <= p -> 0 <= xn ns rs p
 | [], _, _, h => h
 | k :: rs, p, h, hp => by
  obtain ⟨a, b, c⟩ := h k List.mem_cons_self
  exact zcg g (by omega) c (xY g (fun x hx => h x (List.mem_cons_of_mem _ hx)) hp)
theorem vC {ns rs : List Int} {p : Int} {i : Nat} (h : i < rs.length) : xn ns (rs.drop (rs.length - (i + 1))) p = kO ns ((rs.reverse.getD i 0)).toNat (xn ns (rs.drop (rs.length - i)) p) := by
 have e : rs.length - (i + 1) < rs.length := by omega
 rw [List.drop_eq_getElem_cons e]
 have e2 : rs.length - (i + 1) + 1 = rs.length - i := by omega
 rw [e2]
 show kO ns (rs[rs.length - (i + 1)]).toNat (xn ns (rs.drop (rs.length - i)) p) = _
 congr 2
 rw [List.getD_eq_getElem?_getD, List.getElem?_reverse h, List.getElem?_eq_getElem (by omega)]
 show _ = rs[rs.length - 1 - i]
 congr 1
 omega
theorem wL {rs : List Int} {i : Nat} {y : V} (h : (rs.map V.int).reverse[i]? = some y) : i < rs.length /\ y = .int (rs.reverse.getD i 0) /\ rs.reverse.getD i 0 ∈ rs := by
 rw [<- List.map_reverse, List.getElem?_map] at h
 have hi : i < rs.reverse.length := by
  by_cases hi : i < rs.reverse.length
  ·exact hi
  ·rw [List.getElem?_eq_none (by omega)] at h
   cases h
 have hm : rs.reverse.getD i 0 ∈ rs := List.mem_reverse.mp (getD_mem hi)
 rw [List.getElem?_eq_getElem hi] at h
 refine ⟨by simpa using hi, ?_, hm⟩
 rw [List.getD_eq_getElem?_getD, List.getElem?_eq_getElem hi]
 exact (Option.some.inj h).symm
end Np
namespace Np
open L2
end Np
namespace L2
open PySem PySem.Spec PyProof.Rows
structure FunD (K : Fq) (x qual : Str) (st : Stmt) (dv : Value) (f : Addr) (fd : FuncData) : Prop where
 ex : ∃ (oc : Value) (od : Option Addr) (kV doc pm : Value) (an : Option Addr) (cdv ct : Value) (osl : Array (Option Value)),
  fd = PySem.W.fnOf x qual (zo st) (zk st) (zd st) dv kV doc pm an cdv ct /\ K.lookup f = some ⟨oc, od, .func fd, osl⟩ /\ PySem.W.codeIn K cdv qual = true
section
variable {P : Program} {w : World} {K : Fq} {mg : Mq} {base : Heap}
theorem yk {x qual : Str} {st : Stmt} {f : Addr} {oc : Value} {od an : Option Addr} {osl : Array (Option Value)} {dv kV doc pm cdv ct : Value} (l : K.lookup f = some ⟨oc, od, .func (PySem.W.fnOf x qual (zo st) (zk st) (zd st) dv kV doc pm an cdv ct), osl⟩)
  (c : PySem.W.codeIn K cdv qual = true) : FunD K x qual st dv f (PySem.W.fnOf x qual (zo st) (zk st) (zd st) dv kV doc pm an cdv ct) := ⟨oc, od, kV, doc, pm, an, cdv, ct, osl, rfl, l, c⟩
theorem FunD.ok {x qual : Str} {st : Stmt} {dv : Value} {f : Addr} {fd : FuncData} {N ps : List Str} {k : Nat} {sp : Sp} (F : FunD K x qual st dv f fd) (S : zm N ps (zd st)) (len : ∀ vs H Q E, sp vs H Q E -> vs.length = ps.length)
  (hbody : ∀ (cdv : Value) (A : Around) (outer : List Env) (s : Shared) (H : Hp) (vs : List V) (Q : VK) (E : XK), Room k (A.deeper (envOfC qual (zd st) s.heap.objs.size f cdv)) -> sp vs H Q E →
   ∃ t, PSs (yh CX0 P w K mg base N qual (zd st) f cdv A outer s H E).nox (zk st) t /\ t { nx := fun _ H' => Q .non H', rt := Q } (yt N vs) H) : FnOk P w K mg base CX0 (k + 1) f fd ps sp := by
 obtain ⟨oc, od, kV, doc, pm, an, cdv, ct, osl, rfl, lk, hcd⟩ := F.ex
 refine qW lk hcd S len fun A outer s H vs Q E hr hsp => ?_
 obtain ⟨t, h, q⟩ := hbody cdv A outer s H vs Q E hr hsp
 exact ⟨t, h.nox, q⟩
theorem FunD.okD {x qual : Str} {st : Stmt} {dv : Value} {f : Addr} {fd : FuncData} {N ps : List Str} {k : Nat} {sp : Sp} (F : FunD K x qual st dv f fd) (S : zm N ps (zd st)) (len : ∀ vs H Q E, sp vs H Q E -> vs.length = ps.length)
  (hbody : ∀ (cdv : Value) (A : Around) (outer : List Env) (s : Shared) (H : Hp) (vs : List V) (Q : VK) (E : XK), Room k (A.deeper (envOfC qual (zd st) s.heap.objs.size f cdv)) -> sp vs H Q E →
   ∃ t, PSs (yh CX0 P w K mg base N qual (zd st) f cdv A outer s H E).nox (zk st) t /\ t { nx := fun _ H' => ∃ H2, Less H H2 H' /\ Q .non H2, rt := fun v H' => ∃ H2, Less H H2 H' /\ Q v H2 } (yt N vs) H) : FnOk P w K mg base CX0 (k + 1) f fd ps sp := by
 refine FnOk.drop (sp := fun vs H Q E => ∃ Q0, sp vs H Q0 E /\ Q = fun v H' => ∃ H2, Less H H2 H' /\ Q0 v H2) (F.ok S (fun vs H Q E ⟨Q0, z, _⟩ => len vs H Q0 E z) fun cdv A outer s H vs Q E hr ⟨Q0, z, e⟩ => ?_) fun vs H Q E z => ⟨Q, z, rfl⟩
 subst e
 exact hbody cdv A outer s H vs Q0 E hr z
structure CalA (P : Program) (w : World) (K : Fq) (mg : Mq) (base : Heap) (k : Nat) (x : Str) (sp : Sp) : Prop where
 ex : ∃ f, mg x = some (.ref f) /\ PySem.W.keepIn K (.ref f) = true /\ ∀ (X : Cx), X.prog = P -> X.w = w -> X.K = K -> X.mg = mg -> X.base = base -> Room k X.A -> ∀ (pins : Pq) (σ : St) (H : Hp) (s : Shared) (Q : VK) (vs : List V) (us : List Value),
  Inv X pins σ H s -> Vals vs us -> sp vs H Q E0 -> wpAny (model X.prog X.w) X.A (call (.ref f) us) (EP X pins σ Q) X.xe s
theorem CalA.mono {j k : Nat} {x : Str} {sp : Sp} (C : CalA P w K mg base j x sp) (h : j <= k) : CalA P w K mg base k x sp :=
 let ⟨f, a, b, c⟩ := C.ex
 ⟨f, a, b, fun X h1 h2 h3 h4 h5 hr => c X h1 h2 h3 h4 h5 (hr.mono h)⟩
structure CalM (P : Program) (w : World) (K : Fq) (mg : Mq) (base : Heap) (k : Nat) (C : Addr) (m : Str) (ps : List Str) (sp : Sp) : Prop where
 ex : ∃ f fd, Meth K C m f /\ Binds K fd ps [] /\ FnOk P w K mg base CX0 k f fd ps sp
theorem CalM.mono {j k : Nat} {C : Addr} {m : Str} {ps : List Str} {sp : Sp} (F : CalM P w K mg base j C m ps sp) (h : j <= k) : CalM P w K mg base k C m ps sp :=
 let ⟨f, fd, a, b, c⟩ := F.ex
 ⟨f, fd, a, b, c.mono h⟩
structure DefM (K : Fq) (C : Addr) (m qual : Str) (st : Stmt) (ps : List Str) : Prop where
 ex : ∃ f fd, FunD K m qual st .none f fd /\ Binds K fd ps [] /\ Meth K C m f
theorem DefM.ok {C : Addr} {m qual : Str} {st : Stmt} {N ps : List Str} {k : Nat} {sp : Sp} (D : DefM K C m qual st ps) (S : zm N ps (zd st)) (len : ∀ vs H Q E, sp vs H Q E -> vs.length = ps.length)
  (hbody : ∀ (f : Addr) (cdv : Value) (A : Around) (outer : List Env) (s : Shared) (H : Hp) (vs : List V) (Q : VK) (E : XK), Room k (A.deeper (envOfC qual (zd st) s.heap.objs.size f cdv)) -> sp vs H Q E →
   ∃ t, PSs (yh CX0 P w K mg base N qual (zd st) f cdv A outer s H E).nox (zk st) t /\ t { nx := fun _ H' => ∃ H2, Less H H2 H' /\ Q .non H2, rt := fun v H' => ∃ H2, Less H H2 H' /\ Q v H2 } (yt N vs) H) : CalM P w K mg base (k + 1) C m ps sp := by
 obtain ⟨f, fd, F, b, m⟩ := D.ex
 exact ⟨f, fd, m, b, F.okD S len (hbody f)⟩
theorem DefM.okH {C : Addr} {m qual : Str} {st : Stmt} {N ps : List Str} {k : Nat} {sp : Sp} (D : DefM K C m qual st ps) (S : zm N ps (zd st)) (len : ∀ vs H Q E, sp vs H Q E -> vs.length = ps.length)
  (hbody : ∀ (f : Addr) (cdv : Value) (A : Around) (outer : List Env) (s : Shared) (H : Hp) (vs : List V) (Q : VK) (E : XK), Room k (A.deeper (envOfC qual (zd st) s.heap.objs.size f cdv)) -> sp vs H Q E →
   ∃ t, PSs (yh CX0 P w K mg base N qual (zd st) f cdv A outer s H E).nox (zk st) t /\ t { nx := fun _ H' => Q .non H', rt := Q } (yt N vs) H) : CalM P w K mg base (k + 1) C m ps sp := by
 obtain ⟨f, fd, F, b, m⟩ := D.ex
 exact ⟨f, fd, m, b, F.ok S len (hbody f)⟩
structure DefI (K : Fq) (C : Addr) (qual : Str) (st : Stmt) (ps : List Str) (dvs : List V) : Prop where
 ex : ∃ dv f fd ds, FunD K "__init__" qual st dv f fd /\ Binds K fd ps [] /\ Binds K fd ps ds /\ Vals dvs ds /\ Mk K C f
structure DefC (K : Fq) (mg : Mq) (x : Str) (C : Addr) (m qual : Str) (st : Stmt) (ps : List Str) : Prop where
 ex : ∃ f fd, FunD K m qual st .none f fd /\ Binds K fd ps [] /\ mg x = some (.ref C) /\ PySem.W.readsIn K C (.type "type") = true /\ PySem.W.findCls K (.ref C) (.type "type") m = some (.val (.ref f)) ∧
  PySem.W.specialIn K (.ref C) "__getattribute__" = some (some (.builtin "type.__getattribute__")) /\ PySem.W.keepIn K (.ref f) = true
structure CalC (P : Program) (w : World) (K : Fq) (mg : Mq) (base : Heap) (k : Nat) (x : Str) (m : Str) (ps : List Str) (sp : Sp) : Prop where
 ex : ∃ C f fd, Binds K fd ps [] /\ mg x = some (.ref C) /\ PySem.W.readsIn K C (.type "type") = true /\ PySem.W.findCls K (.ref C) (.type "type") m = some (.val (.ref f)) ∧
  PySem.W.specialIn K (.ref C) "__getattribute__" = some (some (.builtin "type.__getattribute__")) /\ PySem.W.keepIn K (.ref f) = true /\ FnOk P w K mg base CX0 k f fd ps sp
theorem CalC.mono {j k : Nat} {x m : Str} {ps : List Str} {sp : Sp} (F : CalC P w K mg base j x m ps sp) (h : j <= k) : CalC P w K mg base k x m ps sp :=
 let ⟨C, f, fd, a, b, c, d, e, g, i⟩ := F.ex
 ⟨C, f, fd, a, b, c, d, e, g, i.mono h⟩
end
section
variable {X : Cx} {k : Nat} {x m : Str} {ps : List Str} {sp : Sp} {p pos apos : Pos} {e o : Expr} {es : List Expr} {t : TA} {ta : TE}
theorem kR (C : CalA X.prog X.w X.K X.mg X.base k x sp) (hr : Room k X.A) (hg : Gl X x) (ha : PA X (e :: es) t) (hdb : (x == ("__debug__" : Str)) = false := by decide) (he : starEach (e :: es) X.env = (false, eval e X.env) :: starEach es X.env := by rfl) (hpl : (backTo pos (starEach es X.env)).any (·.1) = false := by rfl) :
  PE X (.Call (.Name x p) (e :: es) [] pos) (fun σ H Q => t σ H fun vs H1 => sp vs H1 Q E0) := by
 obtain ⟨f, hm, hk, run⟩ := C.ex
 intro pins s σ H Q I h
 refine wpAny_Call_Name_kw (yT I hg hm ?_ hdb)
 refine PySem.W.callWith_K (h₀ := X.base) I.ok.mod.kin hk (thn (ha pos pins s σ H _ I h) fun us s1 ⟨vs, H1, I1, r, q⟩ => ⟨I1.kIn, ?_⟩) he hpl
 exact run X rfl rfl rfl rfl rfl hr pins σ H1 s1 Q vs us I1 r q
def zck (Cs : Addr -> Prop) (m : Str) (spm : Addr -> Sp) (ta : TE) (t : TA) : TE := fun σ H Q => ta σ H fun x H1 => ∃ a C dx fs, x = .ref a /\ H1 a = some (.ins C dx fs) /\ Cs C /\ fs.lookup m = none /\ t σ H1 fun vs H2 => spm C (x :: vs) H2 Q E0
theorem zcl {pl : Sem Bool} {Cs : Addr -> Prop} {spm : Addr -> Sp} (he : PE X o ta) (hC : ∀ C, Cs C -> Cls X.K C /\ CalM X.prog X.w X.K X.mg X.base k C m ps (spm C)) (hr : Room k X.A) (ha : PA X (e :: es) t)
  (hst : starEach (e :: es) X.env = (false, eval e X.env) :: starEach es X.env := by rfl) (hpl : (backTo pos (starEach es X.env)).any (·.1) = false := by rfl)
  (ht : eval (.Call (.Attribute o m apos) (e :: es) [] pos) X.env = (do
   let ov <- eval o X.env
   standAt apos.atName
   let (f, first) <- holding [ov] (getMethod ov m pl)
   callWith pos f first (backTo pos (starEach (e :: es) X.env)) (backToKw pos (keywordEach [] X.env))) := by rfl) :
  PE X (.Call (.Attribute o m apos) (e :: es) [] pos) (zck Cs m spm ta t) := by
 intro pins s σ H Q I h
 refine PySem.W.methodCall_KW (pl := pl) (thn (he pins s σ H _ I h) fun u s1 ⟨x, H1, I1, rx, a, C, dx, fs, ex, ea, hc, l, q⟩ => ?_) ht
 subst ex
 obtain rfl : u = Value.ref a := rx
 obtain ⟨c, f, fd, hm, hb, F⟩ := hC C hc
 refine xL I1 ea c hm l ?_
 refine PySem.W.callWith_K (first := [.ref a]) (h₀ := X.base) I.ok.mod.kin hm.kp (thn (ha pos pins s1 σ H1 _ I1 q) fun us s2 ⟨vs, H2, I2, r, q2⟩ => ⟨I2.kIn, ?_⟩) hst hpl
 exact jh (us := .ref a :: us) (vs := .ref a :: vs) (dvs := []) (ds := []) F hr hb .nil zaw I2 (.cons rfl r) (by rw [List.append_nil]; exact q2)
theorem kd {pl : Sem Bool} {Cs : Addr -> Prop} {spm : Addr -> Sp} (he : PE X o ta) (hC : ∀ C, Cs C -> Cls X.K C /\ CalM X.prog X.w X.K X.mg X.base k C m ps (spm C)) (hr : Room k X.A)
  (ht : eval (.Call (.Attribute o m apos) [] [] pos) X.env = (do
   let ov <- eval o X.env
   standAt apos.atName
   let (f, first) <- holding [ov] (getMethod ov m pl)
   callWith pos f first (backTo pos (starEach [] X.env)) (backToKw pos (keywordEach [] X.env))) := by rfl) :
  PE X (.Call (.Attribute o m apos) [] [] pos) (zck Cs m spm ta tNil) := by
 intro pins s σ H Q I h
 refine PySem.W.methodCall_KW (pl := pl) (thn (he pins s σ H _ I h) fun u s1 ⟨x, H1, I1, rx, a, C, dx, fs, ex, ea, hc, l, q⟩ => ?_) ht
 subst ex
 obtain rfl : u = Value.ref a := rx
 obtain ⟨c, f, fd, hm, hb, F⟩ := hC C hc
 refine xL I1 ea c hm l ?_
 exact PySem.W.callWith_K0 (first := [.ref a]) I1.kIn hm.kp (jh (us := [.ref a]) (vs := [.ref a]) (dvs := []) (ds := []) F hr hb .nil zaw I1 (.cons rfl .nil) q)
theorem kS {pl : Sem Bool} (C : CalC X.prog X.w X.K X.mg X.base k x m ps sp) (hr : Room k X.A) (hg : Gl X x) (ha : PA X (e :: es) t) (hdb : (x == ("__debug__" : Str)) = false := by decide)
  (hst : starEach (e :: es) X.env = (false, eval e X.env) :: starEach es X.env := by rfl) (hpl : (backTo pos (starEach es X.env)).any (·.1) = false := by rfl)
  (ht : eval (.Call (.Attribute (.Name x p) m apos) (e :: es) [] pos) X.env = (do
   let ov <- eval (.Name x p) X.env
   standAt apos.atName
   let (f, first) <- holding [ov] (getMethod ov m pl)
   callWith pos f first (backTo pos (starEach (e :: es) X.env)) (backToKw pos (keywordEach [] X.env))) := by rfl) :
  PE X (.Call (.Attribute (.Name x p) m apos) (e :: es) [] pos) (vq sp [] E0 t) := by
 obtain ⟨D, f, fd, hb, hm, h1, h2, h3, hk, F⟩ := C.ex
 intro pins s σ H Q I h
 refine PySem.W.methodCall_KW (pl := pl) (yT I hg hm ?_ hdb) ht
 refine PySem.W.method_cls I.kIn h3 (PySem.W.cls_value I.kIn h1 h2 rfl ?_)
 have I' := I.tok (s.toks + 1)
 refine PySem.W.callWith_K (first := []) (h₀ := X.base) I.ok.mod.kin hk (thn (ha pos pins { s with toks := s.toks + 1 } σ H _ I' h) fun us s2 ⟨vs, H2, I2, r, q2⟩ => ⟨I2.kIn, ?_⟩) hst hpl
 exact jh (us := us) (vs := vs) F hr hb .nil zaw I2 r q2
theorem xN {x : Str} {C : Addr} {pos : Pos} (hg : Gl X x) (hm : X.mg x = some (.ref C)) (hd : (x == ("__debug__" : Str)) = false := by decide) : PE X (.Name x pos) (tC (.ref C)) := kC hg hm (v := .ref C) rfl hd
end
theorem zJ {f g : Str} {v x : V} {r : List (Str × V)} (h : ¬ g = f) : yA f v ((g, x) :: r) = (g, x) :: yA f v r := by
 show (if g = f then _ else _) = _
 rw [if_neg h]
theorem zd1 {f : Str} {v x : V} {r : List (Str × V)} : yA f v ((f, x) :: r) = (f, v) :: r := by
 show (if f = f then _ else _) = _
 rw [if_pos rfl]
end L2
namespace Np
open L2 PySem
structure Cl where
 P : Addr
 L : Addr
 F : Addr
 M : Addr
 S : Addr
 O : Addr
structure zcm (K : Fq) (C : Addr) : Prop where
 cl : Cls K C
 nMany : NoAttr K C "many"
 nStep : NoAttr K C "step"
 nLearnt : NoAttr K C "learnt"
 nKept : NoAttr K C "kept"
 nTeller : NoAttr K C "teller"
 nBehind : NoAttr K C "behind"
 c1 : PySem.W.findIn K (.ref C) "__class__" = some (some (.builtin "object.__class__"))
 c2 : PySem.W.specialIn K (.builtin "object.__class__") "__get__" = some (some (.builtin "getset_descriptor.__get__"))
 c3 : PySem.W.takesIn K (.builtin "object.__class__") = some true
 c4 : PySem.W.mroIn K C (.type "object") = some true
def wM (m : Int) (l : Addr) : List (Str × V) := [("many", .int m), ("kept", .ref l)]
def kT (m s : Int) (l : Addr) : List (Str × V) := [("many", .int m), ("step", .int s), ("learnt", .ref l)]
def vD (m s : Int) (t b : Addr) : List (Str × V) := [("many", .int m), ("step", .int s), ("teller", .ref t), ("behind", .ref b)]
theorem ne_ms : ¬ (("many" : Str) = "step") := by decide +kernel
theorem ne_mk : ¬ (("many" : Str) = "kept") := by decide +kernel
theorem ne_ml : ¬ (("many" : Str) = "learnt") := by decide +kernel
theorem ne_sl : ¬ (("step" : Str) = "learnt") := by decide +kernel
theorem ne_mt : ¬ (("many" : Str) = "teller") := by decide +kernel
theorem ne_st : ¬ (("step" : Str) = "teller") := by decide +kernel
theorem ne_mb : ¬ (("many" : Str) = "behind") := by decide +kernel
theorem ne_sb : ¬ (("step" : Str) = "behind") := by decide +kernel
theorem ne_tb : ¬ (("teller" : Str) = "behind") := by decide +kernel
theorem zcn (m : Int) (l : Addr) : yA "kept" (.ref l) ([("many", .int m)] : List (Str × V)) = wM m l := by rw [zJ ne_mk]; rfl
theorem qv (m s : Int) : yA "step" (.int s) ([("many", .int m)] : List (Str × V)) = ([("many", .int m), ("step", .int s)] : List (Str × V)) := by rw [zJ ne_ms]; rfl
theorem wO (m s : Int) (l : Addr) : yA "learnt" (.ref l) ([("many", .int m), ("step", .int s)] : List (Str × V)) = kT m s l := by rw [zJ ne_ml, zJ ne_sl]; rfl
theorem wP (m s : Int) (l : Addr) : yA "teller" (.ref l) ([("many", .int m), ("step", .int s)] : List (Str × V)) = ([("many", .int m), ("step", .int s), ("teller", .ref l)] : List (Str × V)) := by rw [zJ ne_mt, zJ ne_st]; rfl
theorem wQ (m s : Int) (t b : Addr) : yA "behind" (.ref b) ([("many", .int m), ("step", .int s), ("teller", .ref t)] : List (Str × V)) = vD m s t b := by rw [zJ ne_mb, zJ ne_sb, zJ ne_tb]; rfl
theorem zn {f g : Str} {v : V} {r : List (Str × V)} (h : ¬ f = g) : List.lookup f ((g, v) :: r) = List.lookup f r := by
 rw [List.lookup_cons, beq_eq_false_iff_ne.mpr h]
theorem z7 {f : Str} {v : V} {r : List (Str × V)} : List.lookup f ((f, v) :: r) = some v := by rw [List.lookup_cons, beq_self_eq_true]
theorem zay (m : Int) (l : Addr) : (wM m l).lookup ("many" : Str) = some (.int m) := z7
theorem zaz (m : Int) (l : Addr) : (wM m l).lookup ("kept" : Str) = some (.ref l) := by unfold wM; rw [zn (by decide +kernel), z7]
theorem zaA (m s : Int) (l : Addr) : (kT m s l).lookup ("many" : Str) = some (.int m) := z7
theorem zd2 (m s : Int) (l : Addr) : (kT m s l).lookup ("step" : Str) = some (.int s) := by unfold kT; rw [zn (by decide +kernel), z7]
theorem zaY (m s : Int) (l : Addr) : (kT m s l).lookup ("learnt" : Str) = some (.ref l) := by unfold kT; rw [zn (by decide +kernel), zn (by decide +kernel), z7]
theorem zaZ (m s : Int) (t b : Addr) : (vD m s t b).lookup ("teller" : Str) = some (.ref t) := by unfold vD; rw [zn (by decide +kernel), zn (by decide +kernel), z7]
theorem nP {f : Str} (h1 : ¬ f = "many") (h2 : ¬ f = "kept") (m : Int) (l : Addr) : (wM m l).lookup f = none := by unfold wM; rw [zn h1, zn h2]; rfl
theorem nL {f : Str} (h1 : ¬ f = "many") (h2 : ¬ f = "step") (h3 : ¬ f = "learnt") (m s : Int) (l : Addr) : (kT m s l).lookup f = none := by unfold kT; rw [zn h1, zn h2, zn h3]; rfl
theorem nF {f : Str} (h1 : ¬ f = "many") (h2 : ¬ f = "step") (h3 : ¬ f = "teller") (h4 : ¬ f = "behind") (m s : Int) (t b : Addr) : (vD m s t b).lookup f = none := by unfold vD; rw [zn h1, zn h2, zn h3, zn h4]; rfl
structure PlainAt (C : Addr) (H : Hp) (x l : Addr) (ns : List Int) : Prop where
 ob : ∃ dx, H x = some (.ins C dx (wM (ns.length : Int) l))
 ls : H l = some (.lst (ns.map V.int))
structure LearnAt (C : Addr) (H : Hp) (x l : Addr) (m s : Int) (t : List Int) : Prop where
 ob : ∃ dx, H x = some (.ins C dx (kT m s l))
 ls : H l = some (.lst (t.map V.int))
def xA (m : Int) : List Int := List.replicate m.toNat 1
theorem za0 (m : Nat) : (List.replicate m ([.int 1] : List V)).flatten = (List.replicate m (1 : Int)).map V.int := by
 induction m with
 | zero => rfl
 | succ m ih => rw [List.replicate_succ, List.replicate_succ, List.flatten_cons, ih]; rfl
theorem _root_.L2.SqL.upd_ins {K : Fq} {H : Hp} {a x : Addr} {xs : List V} {C dx : Addr} {fs : List (Str × V)} {o : HO} (h : SqL K H a xs) (hx : H x = some (.ins C dx fs)) : SqL K (upd H x o) a xs := by
 rcases h with h | h
 ·rcases h with h | ⟨ob, h⟩
  ·exact .inl (.inl (by rw [zj (xR h hx (by intro z; cases z))]; exact h))
  ·exact .inl (.inr ⟨ob, by rw [zj (xR h hx (by intro z; cases z))]; exact h⟩)
 ·exact .inr h
theorem ye {H H' : Hp} {x dx : Addr} {o : HO} (nx : H x = none) (ndx : H dx = none) (k : ∀ b u, (upd (upd H dx (.own x)) x o) b = some u -> b ≠ x -> H' b = some u) : Same H H' := fun b u e =>
 k b u (by rw [zj (zu e nx), zj (zu e ndx)]; exact e) (zu e nx)
theorem yO {H : Hp} {x dx l : Addr} {o : HO} (e : (upd (upd H dx (.own x)) x o) l = none) : H l = none := by
 by_cases h1 : l = x
 ·subst h1; rw [zh] at e; cases e
 ·rw [zj h1] at e
  by_cases h2 : l = dx
  ·subst h2; rw [zh] at e; cases e
  ·rw [zj h2] at e; exact e
theorem qa {K : Fq} {H : Hp} {x dx a : Addr} {xs : List V} {o : HO} (h : SqL K H a xs) (nx : H x = none) (ndx : H dx = none) (nd : dx ≠ x) : SqL K (upd (upd H dx (.own x)) x o) a xs :=
 (h.up ndx).up (by rw [zj nd.symm]; exact nx)
end Np
namespace Np
open L2 PySem
end Np
namespace Np
open L2 PySem
theorem PlainAt.same {C : Addr} {H H' : Hp} {x l : Addr} {ns : List Int} (p : PlainAt C H x l ns) (s : Same H H') : PlainAt C H' x l ns :=
 let ⟨⟨dx, e⟩, e2⟩ := p
 ⟨⟨dx, s _ _ e⟩, s _ _ e2⟩
theorem LearnAt.same {C : Addr} {H H' : Hp} {x l : Addr} {m st : Int} {t : List Int} (p : LearnAt C H x l m st t) (s : Same H H') : LearnAt C H' x l m st t :=
 let ⟨⟨dx, e⟩, e2⟩ := p
 ⟨⟨dx, s _ _ e⟩, s _ _ e2⟩
structure FollowAt (T : Cl) (H : Hp) (x bh l0 k0 : Addr) (ls ks : List Addr) (m st : Int) (cur : Option Nat) (b0 : List Int) (ts : List (List Int)) : Prop where
 ob : ∃ dx, H x = some (.ins T.F dx (vD m st (match cur with | none => l0 | some i => ls.getD i 0) bh))
 bh_ : H bh = some (.lst (ls.map V.ref))
 beg : LearnAt T.L H l0 k0 m st b0
 eachL : ∀ i, i < ls.length -> LearnAt T.L H (ls.getD i 0) (ks.getD i 0) m st (ts.getD i [])
 l1 : ls.length = m.toNat
 l2 : ks.length = m.toNat
 l3 : ts.length = m.toNat
 nd1 : (l0 :: ls).Nodup
 nd2 : (k0 :: ks).Nodup
 cu : ∀ i, cur = some i -> i < m.toNat
inductive Mo where
 | pl (ns : List Int)
 | le (m s : Int) (t : List Int)
 | fo (m s : Int) (cur : Option Nat) (b : List Int) (ts : List (List Int))
def Mo.many : Mo -> Int
 | .pl ns => (ns.length : Int)
 | .le m _ _ => m
 | .fo m _ _ _ _ => m
def Mo.tells : Mo -> List Int
 | .pl ns => ns
 | .le _ _ t => t
 | .fo _ _ cur b ts => match cur with | none => b | some i => ts.getD i []
def MoAt (T : Cl) (H : Hp) (x : Addr) (own : List Addr) : Mo -> Prop
 | .pl ns => ∃ l, own = [x, l] /\ PlainAt T.P H x l ns
 | .le m s t => ∃ l, own = [x, l] /\ LearnAt T.L H x l m s t
 | .fo m s cur b ts => ∃ bh l0 k0 ls ks, own = x :: bh :: l0 :: k0 :: (ls ++ ks) /\ FollowAt T H x bh l0 k0 ls ks m s cur b ts
theorem FollowAt.same {T : Cl} {H H' : Hp} {x bh l0 k0 : Addr} {ls ks : List Addr} {m st : Int} {cur : Option Nat} {b0 : List Int} {ts : List (List Int)} (p : FollowAt T H x bh l0 k0 ls ks m st cur b0 ts) (s : Same H H') : FollowAt T H' x bh l0 k0 ls ks m st cur b0 ts :=
 { p with ob := let ⟨dx, e⟩ := p.ob; ⟨dx, s _ _ e⟩, bh_ := s _ _ p.bh_, beg := p.beg.same s, eachL := fun i hi => (p.eachL i hi).same s }
end Np
namespace Np
open L2 PySem
end Np
namespace Np
open L2 PySem
end Np
namespace L2
open PySem PySem.Spec PyProof.Rows
theorem ke {K : Fq} {fd : FuncData} {ps : List Str} {d : Value} (hp : ps.length = 3) (h : ∀ (s : Shared) (a b : Value), K.In s.heap -> BindsTo s fd ⟨[a, b], []⟩ (ps.zip [a, b, d])) : Binds K fd ps [d] := fun s us hK hl => by
 have e : us.length = 2 := by rw [List.length_append, hp] at hl; simpa using hl
 match us, e with
 | [a, b], _ => exact h s a b hK
theorem qb {K : Fq} {fd : FuncData} {ps : List Str} (hp : ps.length = 3) (h : ∀ (s : Shared) (a b c : Value), K.In s.heap -> BindsTo s fd ⟨[a, b, c], []⟩ (ps.zip [a, b, c])) : Binds K fd ps [] := fun s us hK hl => by
 have e : us.length = 3 := by rw [List.append_nil, hp] at hl; exact hl
 match us, e with
 | [a, b, c], _ => exact h s a b c hK
end L2
namespace L2
open PySem PySem.Spec PyProof.Rows
theorem zco {n : Nat} {lo : Int} {cv : St} {te : TE} {D : Addr} {H1 : Hp} {Q : VK} (Pv : Nat -> List V -> Hp -> Prop) (hz : n <= sizeLine) (h0 : Pv 0 [] (upd H1 D (.lst [])))
  (hD : ∀ i ys H', Pv i ys H' -> H' D = some (.lst ys) /\ ys.length = i)
  (hs : ∀ i ys H', i < n -> Pv i ys H' -> te (some (.int (lo + (i : Nat))) :: cv) H' fun v H4 => H4 D = some (.lst ys) /\ Pv (i + 1) (ys ++ [v]) (upd H4 D (.lst (ys ++ [v]))))
  (mono : ∀ σ H (Q Q' : VK), (∀ v H, Q v H -> Q' v H) -> te σ H Q -> te σ H Q')
  (hd : ∀ ys H', Pv n ys H' -> Q (.ref D) H') : tCompB (Itr lo n) cv jP te D H1 Q := by
 refine ⟨fun i m H' => m = n - i /\ i <= n /\ ∃ ys, Pv i ys H', ⟨n, by simp, Nat.zero_le _, [], h0⟩, ?_⟩
 rintro i m H' ⟨rfl, hi, ys, p⟩
 by_cases hlt : i < n
 ·refine .inr ⟨hlt, fun x H2 y => ?_⟩
  obtain ⟨e, y⟩ := y
  subst e y
  unfold jP
  dsimp only
  rw [if_pos rfl]
  refine mono _ _ _ _ (fun v H4 q => ?_) (hs i ys _ hlt p)
  exact ⟨ys, q.1, by have := (hD i ys _ p).2; omega, n - (i + 1), by omega, rfl, hlt, _, q.2⟩
 ·have e : i = n := by omega
  subst e
  exact .inl ⟨Nat.le_refl _, hd ys _ p⟩
end L2
namespace Np
open L2 PySem
theorem yU {ls : List Addr} {i : Nat} (h : i < ls.length) : (ls.map V.ref)[i]? = some (.ref (ls.getD i 0)) := by
 rw [List.getElem?_map, List.getElem?_eq_getElem h, List.getD_eq_getElem?_getD, List.getElem?_eq_getElem h]
 rfl
theorem xx {α : Type} {ls : List α} {d : α} {i : Nat} (h : i < ls.length) : ls.getD i d ∈ ls := by
 rw [List.getD_eq_getElem?_getD, List.getElem?_eq_getElem h]
 exact List.getElem_mem h
theorem zd3 {ls : List Addr} {i j : Nat} (nd : ls.Nodup) (hi : i < ls.length) (hj : j < ls.length) (n : i ≠ j) : ls.getD i 0 ≠ ls.getD j 0 := fun e => by
 rw [List.getD_eq_getElem?_getD, List.getElem?_eq_getElem hi, List.getD_eq_getElem?_getD, List.getElem?_eq_getElem hj] at e
 exact n ((List.getElem_inj nd).mp e)
theorem jc {α : Type} {ls : List α} {d v : α} {i : Nat} (h : i < ls.length) : (ls.set i v).getD i d = v := by
 rw [List.getD_eq_getElem?_getD, List.getElem?_set_self h]
 rfl
theorem xU {α : Type} {ls : List α} {d v : α} {i j : Nat} (n : i ≠ j) : (ls.set i v).getD j d = ls.getD j d := by
 rw [List.getD_eq_getElem?_getD, List.getElem?_set_ne n, List.getD_eq_getElem?_getD]
section
variable {T : Cl} {H H' : Hp} {x bh l0 k0 : Addr} {ls ks : List Addr} {m st : Int} {cur : Option Nat} {b0 : List Int} {ts : List (List Int)}
def tlA (l0 : Addr) (ls : List Addr) : Option Nat -> Addr
 | none => l0
 | some i => ls.getD i 0
def tkA (k0 : Addr) (ks : List Addr) : Option Nat -> Addr
 | none => k0
 | some i => ks.getD i 0
theorem FollowAt.tell (F : FollowAt T H x bh l0 k0 ls ks m st cur b0 ts) : LearnAt T.L H (tlA l0 ls cur) (tkA k0 ks cur) m st (Mo.fo m st cur b0 ts).tells := by
 cases cur with
 | none => exact F.beg
 | some i => exact F.eachL i (by rw [F.l1]; exact F.cu i rfl)
theorem FollowAt.ob' (F : FollowAt T H x bh l0 k0 ls ks m st cur b0 ts) : ∃ dx, H x = some (.ins T.F dx (vD m st (tlA l0 ls cur) bh)) := by
 obtain ⟨dx, e⟩ := F.ob
 cases cur <;> exact ⟨dx, e⟩
end
end Np
namespace L2
open PySem PySem.Spec PyProof.Rows
abbrev ZipH (h : Heap) (z TI TO T : Addr) (b : Bool) : Prop := h.get? z = some { cls := .type "zip", data := .fields #[rawInt T, .bool b, .bool false, .ref TI, .ref TO] }
section
variable {prog : Program} {w : World} {A : Around} {E : Value -> Shared -> Prop} {s : Shared}
theorem zeO {M : Model} {a : Addr} {o : Obj} {Q : Option Obj -> Shared -> Prop} (e : s.heap.get? a = some o) (q : Q (some o) s) : wpAny M A (loadIfAlive a) Q E s := fun Γ p _ => by
 show Sem.wp M Γ (Sem.loadIfAlive a Sem.pure) _ _ p s
 rw [Sem.wp_loadIfAlive, e]
 exact q
theorem zep {z TI TO T : Addr} {b : Bool} {oT : Obj} {Q : Bool -> Shared -> Prop} (gz : ZipH s.heap z TI TO T b) (gT : s.heap.get? T = some oT)
  (q : ∀ h', ZipH h' z TI TO T true -> Heap.SameBut z s.heap h' -> Q false { s with heap := h' }) : wpAny (model prog w) A (Builtin.SmallTypes.ownedTupleIsFree (.ref z)) Q E s := by
 unfold Builtin.SmallTypes.ownedTupleIsFree
 refine wpAny_bind (wpAny_field gz rfl (x := rawInt T) rfl ?_)
 show wpAny _ _ (loadIfAlive T >>= _) _ _ _
 refine wpAny_bind (zeO gT ?_)
 show wpAny _ _ (field (.ref z) 1 >>= _) _ _ _
 refine wpAny_bind (wpAny_field gz rfl (x := Value.bool b) rfl ?_)
 cases b with
 | true => exact wpAny_pure (q _ gz (Heap.SameBut.refl ..))
 | false => exact wpAny_bind (wpAny_setField_rec gz (by simp) fun h' e sb => wpAny_pure (q h' e sb))
theorem za1 {z TI TO T i1 i2 l1 l2 : Addr} {b : Bool} {oT : Obj} {k : Nat} {xs ys : Array Value} {x y : Value} {Q : Value -> Shared -> Prop} (D : ZipApart z TI TO i1 i2 l1 l2)
  (gz : ZipH s.heap z TI TO T b) (gT : s.heap.get? T = some oT) (gI : IsPair s.heap TI (.ref i1) (.ref i2)) (u1 : s.heap.IsListIter i1 l1 k) (u2 : s.heap.IsListIter i2 l2 k)
  (v1 : s.heap.IsList l1 xs) (v2 : s.heap.IsList l2 ys) (ex : xs[k]? = some x) (ey : ys[k]? = some y)
  (q : ∀ h', ZipH h' z TI TO T true -> h'.IsListIter i1 l1 (k + 1) -> h'.IsListIter i2 l2 (k + 1) -> IsPair h' s.heap.objs.size x y →
   (∀ c o, c ≠ z -> c ≠ i1 -> c ≠ i2 -> s.heap.get? c = some o -> h'.get? c = some o) -> Q (.ref s.heap.objs.size) { s with heap := h' }) :
  wpAny (model prog w) A (Builtin.«zip.__next__» ⟨[.ref z], []⟩) (fun fin s' => ∃ v, fin = .done (.ret v) /\ Q v s') E s := by
 show wpAny _ _ (field (.ref z) 2 >>= _) _ _ s
 refine wpAny_bind (wpAny_field gz rfl (x := Value.bool false) rfl ?_)
 show wpAny _ _ (field (.ref z) 3 >>= _) _ _ s
 refine wpAny_bind (wpAny_field gz rfl (x := Value.ref TI) rfl ?_)
 refine wpAny_bind (wpAny_seqItems gI rfl ?_)
 show wpAny _ _ (Builtin.SmallTypes.ownedTupleIsFree (.ref z) >>= _) _ _ s
 refine wpAny_bind (zep gz gT fun h1 z1 b1 => ?_)
 simp only [Bool.false_eq_true, if_false]
 refine wpAny_bind ?_
 have w1 : h1.IsListIter i1 l1 k := u1.extBut b1.extBut D.i1z
 have w2 : h1.IsListIter i2 l2 k := u2.extBut b1.extBut D.i2z
 have g1 : h1.IsList l1 xs := v1.extBut b1.extBut D.l1z
 have g2 : h1.IsList l2 ys := v2.extBut b1.extBut D.l2z
 rw [<- Array.forIn_toList]
 simp only [List.forIn_cons, List.forIn_nil]
 refine wpAny_bind (wpAny_bind (wpAny_holding ?_))
 show wpAny _ _ (Builtin.SmallTypes.nextOf (.ref i1) >>= _) _ _ _
 refine wpAny_bind (wpAny_nextOf_list_item (s := { s with heap := h1 }) w1 g1 ex fun h2 a1 b2 => wpAny_pure (wpAny_pure ?_))
 dsimp only
 refine wpAny_bind (wpAny_bind (wpAny_holding ?_))
 show wpAny _ _ (Builtin.SmallTypes.nextOf (.ref i2) >>= _) _ _ _
 refine wpAny_bind (wpAny_nextOf_list_item (s := { s with heap := h2 }) (w2.extBut b2.extBut D.i12.symm) (g2.extBut b2.extBut D.l2i1) ey fun h3 a2 b3 => wpAny_pure (wpAny_pure (wpAny_pure ?_)))
 have sz : h3.objs.size = s.heap.objs.size := by rw [b3.1]; show h2.objs.size = _; rw [b2.1]; exact b1.1
 refine wpAny_bind (wpAny_newTuple (wpAny_pure ⟨_, rfl, ?_⟩) (by show 2 <= sizeLine; decide))
 show Q (.ref h3.objs.size) _
 rw [sz]
 have old : ∀ c o, c ≠ z -> c ≠ i1 -> c ≠ i2 -> s.heap.get? c = some o -> h3.get? c = some o := fun c o n1 n2 n3 e => b3.extBut _ _ n3 (b2.extBut _ _ n2 (b1.extBut _ _ n1 e))
 have z3 : ZipH h3 z TI TO T true := b3.extBut _ _ D.i2z.symm (b2.extBut _ _ D.i1z.symm z1)
 have a13 : h3.IsListIter i1 l1 (k + 1) := a1.extBut b3.extBut D.i12
 refine q _ (Heap.get?_push_of_some _ z3) (a13.at fun o e => Heap.get?_push_of_some _ e) (a2.at fun o e => Heap.get?_push_of_some _ e) ?_ fun c o n1 n2 n3 e => Heap.get?_push_of_some _ (old c o n1 n2 n3 e)
 rw [<- sz]
 exact Heap.get?_push_size _ rfl
theorem zcp {z TI TO T i1 i2 l1 l2 : Addr} {b : Bool} {oT : Obj} {k : Nat} {xs : Array Value} {Q : Fin -> Shared -> Prop} (hh : A.handled = none) (D : ZipApart z TI TO i1 i2 l1 l2)
  (gz : ZipH s.heap z TI TO T b) (gT : s.heap.get? T = some oT) (gI : IsPair s.heap TI (.ref i1) (.ref i2)) (u1 : s.heap.IsListIter i1 l1 k) (v1 : s.heap.IsList l1 xs) (ex : xs[k]? = none)
  (q : ∀ h' e, (∀ c o, c ≠ z -> c ≠ i1 -> s.heap.get? c = some o -> h'.get? c = some o) -> (∃ o, h'.get? e = some o /\ o.cls = .type "StopIteration") -> E (.ref e) { s with heap := h' }) :
  wpAny (model prog w) A (Builtin.«zip.__next__» ⟨[.ref z], []⟩) Q E s := by
 show wpAny _ _ (field (.ref z) 2 >>= _) _ _ s
 refine wpAny_bind (wpAny_field gz rfl (x := Value.bool false) rfl ?_)
 show wpAny _ _ (field (.ref z) 3 >>= _) _ _ s
 refine wpAny_bind (wpAny_field gz rfl (x := Value.ref TI) rfl ?_)
 refine wpAny_bind (wpAny_seqItems gI rfl ?_)
 show wpAny _ _ (Builtin.SmallTypes.ownedTupleIsFree (.ref z) >>= _) _ _ s
 refine wpAny_bind (zep gz gT fun h1 z1 b1 => ?_)
 simp only [Bool.false_eq_true, if_false]
 refine wpAny_bind ?_
 rw [<- Array.forIn_toList]
 simp only [List.forIn_cons, List.forIn_nil]
 refine wpAny_bind (wpAny_bind (wpAny_holding ?_))
 show wpAny _ _ (Builtin.SmallTypes.nextOf (.ref i1) >>= _) _ _ _
 exact wpAny_bind (wpAny_nextOf_list_end (s := { s with heap := h1 }) hh (u1.extBut b1.extBut D.i1z) (v1.extBut b1.extBut D.l1z) ex fun h2 e b2 he => q h2 e (fun c o n1 n2 ec => b2 _ _ n2 (b1.extBut _ _ n1 ec)) he)
structure ZipAt (h : Heap) (z TI TO i1 i2 l1 l2 : Addr) (k : Nat) : Prop where
 gI : IsPair h TI (.ref i1) (.ref i2)
 u1 : h.IsListIter i1 l1 k
 u2 : h.IsListIter i2 l2 k
 st : (k = 0 /\ IsZip h z TI TO .none /\ IsPair h TO .none .none) \/ ∃ T b oT, ZipH h z TI TO T b /\ h.get? T = some oT /\ T ≠ z /\ T ≠ TO /\ T ≠ i1 /\ T ≠ i2
theorem ZipAt.ty {z TI TO i1 i2 l1 l2 : Addr} {k : Nat} (Z : ZipAt s.heap z TI TO i1 i2 l1 l2 k) : s.TypeIs (.ref z) "zip" := by
 rcases Z.st with ⟨_, e, _⟩ | ⟨T, b, oT, e, _⟩
 ·exact ⟨_, e, rfl⟩
 ·exact ⟨_, e, rfl⟩
theorem ZipAt.other {h h' : Heap} {z TI TO i1 i2 l1 l2 : Addr} {k : Nat} (Z : ZipAt h z TI TO i1 i2 l1 l2 k) (e : ∀ c o, h.get? c = some o -> (c = z \/ c = TI \/ c = TO \/ c = i1 \/ c = i2 \/ (∃ T b, ZipH h z TI TO T b /\ c = T)) -> h'.get? c = some o) : ZipAt h' z TI TO i1 i2 l1 l2 k := by
 refine ⟨e _ _ Z.gI (.inr (.inl rfl)), Z.u1.at fun o q => e _ o q (.inr (.inr (.inr (.inl rfl)))), Z.u2.at fun o q => e _ o q (.inr (.inr (.inr (.inr (.inl rfl))))), ?_⟩
 rcases Z.st with ⟨k0, a, b⟩ | ⟨T, b, oT, a, c, d⟩
 ·exact .inl ⟨k0, e _ _ a (.inl rfl), e _ _ b (.inr (.inr (.inl rfl)))⟩
 ·exact .inr ⟨T, b, oT, e _ _ a (.inl rfl), e _ _ c (.inr (.inr (.inr (.inr (.inr ⟨T, b, a, rfl⟩))))), d⟩
theorem ZipH.inj {h : Heap} {z TI TO T T' : Addr} {b b' : Bool} (e : ZipH h z TI TO T b) (e' : ZipH h z TI TO T' b') : T = T' := by
 have q := Option.some.inj (e.symm.trans e')
 injection q with _ _ q _
 injection q with q
 have q2 := congrArg (fun a : Array Value => a[0]?) q
 have q3 : rawInt (T : Int) = rawInt (T' : Int) := Option.some.inj q2
 injection q3 with q4 _
 exact Int.ofNat.inj q4
theorem zcq {z TI TO i1 i2 l1 l2 : Addr} {k : Nat} {xs ys : Array Value} {x y : Value} {Q : Option Value -> Shared -> Prop} (D : ZipApart z TI TO i1 i2 l1 l2) (Z : ZipAt s.heap z TI TO i1 i2 l1 l2 k) (lz : z < s.heap.objs.size)
  (v1 : s.heap.IsList l1 xs) (v2 : s.heap.IsList l2 ys) (ex : xs[k]? = some x) (ey : ys[k]? = some y)
  (q : ∀ h', ZipAt h' z TI TO i1 i2 l1 l2 (k + 1) -> IsPair h' s.heap.objs.size x y -> (∀ c o, c ≠ z -> c ≠ TO -> c ≠ i1 -> c ≠ i2 -> s.heap.get? c = some o -> h'.get? c = some o) -> (∀ T b, ZipH h' z TI TO T b -> T = s.heap.objs.size \/ ∃ b', ZipH s.heap z TI TO T b') -> Q (some (.ref s.heap.objs.size)) { s with heap := h' }) :
  wpAny (model prog w) A (pyNext (.ref z)) Q E s := by
 have hT := Z.ty
 have nT : ∀ c o, s.heap.get? c = some o -> s.heap.objs.size ≠ c := fun c o e => Nat.ne_of_gt (Heap.lt_size e)
 have n1 : s.heap.objs.size ≠ i1 := by obtain ⟨o, e, _⟩ := Z.u1; exact nT _ _ e
 have n2 : s.heap.objs.size ≠ i2 := by obtain ⟨o, e, _⟩ := Z.u2; exact nT _ _ e
 rcases Z.st with ⟨k0, gz, gO⟩ | ⟨T, b, oT, gz, gT, d1, d2, d3, d4⟩
 ·refine wpAny_pyNext_zip_item D gz Z.gI gO Z.u1 Z.u2 v1 v2 ex ey fun h' a1 a2 a3 a4 a5 a6 a7 => ?_
  exact q h' ⟨a7 _ _ D.TIz D.TITO D.TIi1 D.TIi2 Z.gI, a3, a4, .inr ⟨_, false, _, a1, a5, nT _ _ gz, nT _ _ gO, n1, n2⟩⟩ a5 a7 fun T b e => .inl (e.inj a1)
 ·unfold pyNext
  refine wpAny_bind (wpAny_attempt (wpAny_callSpecial?_slot (name := Str.ofString "__next__") hT F.slot_zip_next (wpAny_call_entry F.slot_zip_next hT F.entry_zip_next (za1 D gz gT Z.gI Z.u1 Z.u2 v1 v2 ex ey fun h' a1 a2 a3 a4 a5 => ?_) (F.args_zip_next_1 _))))
  exact wpAny_pure (q h' ⟨a5 _ _ D.TIz D.TIi1 D.TIi2 Z.gI, a2, a3, .inr ⟨T, true, oT, a1, a5 _ _ d1 d3 d4 gT, d1, d2, d3, d4⟩⟩ a4 (fun c o m1 _ m3 m4 e => a5 c o m1 m3 m4 e) fun T' b' e => .inr ⟨b, by rw [e.inj a1]; exact gz⟩)
theorem zcr {z TI TO i1 i2 l1 l2 : Addr} {k : Nat} {xs ys : Array Value} {Q : Option Value -> Shared -> Prop} (hh : A.handled = none) (D : ZipApart z TI TO i1 i2 l1 l2) (Z : ZipAt s.heap z TI TO i1 i2 l1 l2 k)
  (v1 : s.heap.IsList l1 xs) (v2 : s.heap.IsList l2 ys) (ex : xs[k]? = none) (q : ∀ h', (∀ c o, c ≠ z -> c ≠ TO -> c ≠ i1 -> c ≠ i2 -> s.heap.get? c = some o -> h'.get? c = some o) -> Q none { s with heap := h' }) :
  wpAny (model prog w) A (pyNext (.ref z)) Q E s := by
 have hT := Z.ty
 rcases Z.st with ⟨k0, gz, gO⟩ | ⟨T, b, oT, gz, gT, d1, d2, d3, d4⟩
 ·exact wpAny_pyNext_zip_end hh D gz Z.gI gO Z.u1 Z.u2 v1 v2 (.inl ex) q
 ·unfold pyNext
  refine wpAny_bind (wpAny_attempt (wpAny_callSpecial?_slot (name := Str.ofString "__next__") hT F.slot_zip_next (wpAny_call_entry F.slot_zip_next hT F.entry_zip_next (zcp hh D gz gT Z.gI Z.u1 v1 ex fun h' e ek he => ?_) (F.args_zip_next_1 _))))
  obtain ⟨o, ho, hc⟩ := he
  exact wpAny_bind (wpAny_isInstance (T := "StopIteration") (b := true) ⟨o, ho, hc⟩ isSubtype_stop (wpAny_pure (q _ fun c o m1 _ m3 _ e => ek c o m1 m3 e)))
end
end L2
namespace L2
open PySem PySem.Spec PyProof.Rows
theorem wR : typeLookup (.type "zip") "__len__" = pure none := by rw [typeLookup_type, builtinLookup_eq_fast]; kernel_rfl
theorem vE : typeLookup (.type "zip") "__length_hint__" = pure none := by rw [typeLookup_type, builtinLookup_eq_fast]; kernel_rfl
section
variable {prog : Program} {w : World} {A : Around} {R : Result -> Shared -> Prop} {s : Shared}
structure wS (h0 h : Heap) (z TI TO i1 i2 l1 l2 S : Addr) (xs ys : List Value) (ts : List Addr) (i : Nat) : Prop where
 Z : ZipAt h z TI TO i1 i2 l1 l2 i
 v1 : h.IsList l1 xs.toArray
 v2 : h.IsList l2 ys.toArray
 ls : ∃ c, h.get? S = some { cls := .type "list", data := .seq (ts.map Value.ref).toArray c }
 ln : ts.length = i
 tp : ∀ j, j < i -> ∃ x y, xs[j]? = some x /\ ys[j]? = some y /\ IsPair h (ts.getD j 0) x y /\ h0.objs.size <= ts.getD j 0 /\ ts.getD j 0 ≠ S /\ ts.getD j 0 ≠ z /\ ts.getD j 0 ≠ TO /\ ts.getD j 0 ≠ i1 /\ ts.getD j 0 ≠ i2
 kp : ∀ c o, h0.get? c = some o -> h.get? c = some o
 bg : h0.objs.size <= h.objs.size
 tO : TO < h.objs.size
theorem zcs {h0 : Heap} {z TI TO i1 i2 l1 l2 S : Addr} {xs ys : List Value} (hh : A.in1.handled = none) (D : ZipApart z TI TO i1 i2 l1 l2) (nS : S ≠ z /\ S ≠ TI /\ S ≠ TO /\ S ≠ i1 /\ S ≠ i2 /\ S ≠ l1 /\ S ≠ l2)
  (old : ∀ c ∈ [S, z, TO, i1, i2], h0.get? c = none) (hl : xs.length = ys.length) (hz : xs.length <= sizeLine)
  (fin : ∀ ts h', wS h0 h' z TI TO i1 i2 l1 l2 S xs ys ts xs.length -> ∀ h2, (∀ c o, c ≠ z -> c ≠ TO -> c ≠ i1 -> c ≠ i2 -> h'.get? c = some o -> h2.get? c = some o) -> R (.ok (.ret .none)) { s with heap := h2 }) :
  ∀ (m i : Nat) (ts : List Addr) (h : Heap), xs.length - i = m -> i <= xs.length -> wS h0 h z TI TO i1 i2 l1 l2 S xs ys ts i -> (∀ T b, ZipH h z TI TO T b -> T ≠ S) →
   codeAny (model prog w) A (.builtin "list.extend.loop" ⟨[.ref S, .ref z, .none], []⟩) R { s with heap := h } := by
 intro m
 induction m with
 | zero =>
  intro i ts h hm hi Rn _
  have ei : i = xs.length := by omega
  subst ei
  refine codeAny_builtin F.entry_extend_loop ?_
  rw [Around.under_plainId F.plain_extend_loop _]
  show wpAny _ A.in1 (pyNext (.ref z) >>= _) _ _ _
  exact wpAny_bind (zcr (s := { s with heap := h }) hh D Rn.Z Rn.v1 Rn.v2 (by simp) fun h2 k2 => wpAny_pure (fin ts h Rn h2 k2))
 | succ m ih =>
  intro i ts h hm hi Rn nTS
  have hlt : i < xs.length := by omega
  refine codeAny_builtin F.entry_extend_loop ?_
  rw [Around.under_plainId F.plain_extend_loop _]
  show wpAny _ A.in1 (pyNext (.ref z) >>= _) _ _ _
  have ex : xs.toArray[i]? = some xs[i] := by simp [hlt]
  have ey : ys.toArray[i]? = some (ys[i]'(by omega)) := by simp [show i < ys.length by omega]
  obtain ⟨c0, eS⟩ := Rn.ls
  have lz : z < h.objs.size := by
   obtain ⟨o, e, _⟩ := Rn.Z.ty (s := { s with heap := h })
   exact Heap.lt_size e
  refine wpAny_bind (zcq (s := { s with heap := h }) D Rn.Z lz Rn.v1 Rn.v2 ex ey fun h1 Z1 p1 k1 zT => ?_)
  dsimp only at p1 k1 zT |-
  have eS1 := k1 S _ nS.1 nS.2.2.1 nS.2.2.2.1 nS.2.2.2.2.1 eS
  have nf : ∀ c o, h.get? c = some o -> h.objs.size ≠ c := fun c o e => Nat.ne_of_gt (Heap.lt_size e)
  show wpAny _ A.in1 (updateSeq S (·.push (.ref h.objs.size)) >>= _) _ _ _
  have szS : (ts.map Value.ref).toArray.size = i := by rw [List.size_toArray, List.length_map, Rn.ln]
  refine wpAny_bind (wpAny_updateSeq (s := { s with heap := h1 }) eS1 rfl (wpAny_pure ⟨plainId_quiet F.plain_extend_loop _, ?_⟩) (by rw [szS]; omega) (by show ((ts.map Value.ref).toArray.push (.ref h.objs.size)).size <= sizeLine + 1; rw [Array.size_push, szS]; omega))
  have oth : ∀ c o, c ≠ S -> h1.get? c = some o -> (h1.update S (Obj.mapSeq (·.push (.ref h.objs.size)))).get? c = some o := fun c o n e => (Heap.get?_update_other _ _ (Ne.symm n)).trans e
  have upS := Heap.get?_update_self (Obj.mapSeq (·.push (Value.ref h.objs.size))) eS1 rfl
  have nSz : h.objs.size ≠ S := nf _ _ eS
  have nTS1 : ∀ T b, ZipH h1 z TI TO T b -> T ≠ S := fun T b e => by
   rcases zT T b e with q | ⟨b', q⟩
   ·rw [q]; exact nSz
   ·exact nTS T b' q
  have nz : h.objs.size ≠ z := Nat.ne_of_gt lz
  have nTO : h.objs.size ≠ TO := by
   rcases Rn.Z.st with ⟨_, _, gO⟩ | ⟨T, b, oT, gz, gT, d1, d2, d3, d4⟩
   ·exact nf _ _ gO
   ·intro q
    exact absurd Rn.tO (by rw [q]; exact Nat.lt_irrefl _)
  have ni1 : h.objs.size ≠ i1 := by obtain ⟨o, e, _⟩ := Rn.Z.u1; exact nf _ _ e
  have ni2 : h.objs.size ≠ i2 := by obtain ⟨o, e, _⟩ := Rn.Z.u2; exact nf _ _ e
  refine ih (i + 1) (ts ++ [h.objs.size]) _ (by omega) hlt ⟨?_, ?_, ?_, ?_, ?_, fun j hj => ?_, fun c o e => ?_, ?_, ?_⟩ ?_
  ·refine Z1.other fun c o e hc => oth c o ?_ e
   rcases hc with q | q | q | q | q | ⟨T, b, q1, q2⟩
   ·rw [q]; exact nS.1.symm
   ·rw [q]; exact nS.2.1.symm
   ·rw [q]; exact nS.2.2.1.symm
   ·rw [q]; exact nS.2.2.2.1.symm
   ·rw [q]; exact nS.2.2.2.2.1.symm
   ·rw [q2]; exact nTS1 T b q1
  ·exact Rn.v1.at fun o e => oth l1 o nS.2.2.2.2.2.1.symm (k1 l1 o D.l1z D.l1TO D.l1i1 D.l1i2 e)
  ·exact Rn.v2.at fun o e => oth l2 o nS.2.2.2.2.2.2.symm (k1 l2 o D.l2z D.l2TO D.l2i1 D.l2i2 e)
  ·rw [upS, List.map_append]
   simp [Obj.mapSeq]
  ·rw [List.length_append, Rn.ln]; rfl
  ·by_cases hji : j < i
   ·obtain ⟨x, y, e1, e2, e3, e4, e5, e6, e7, e8, e9⟩ := Rn.tp j hji
    have eg : (ts ++ [h.objs.size]).getD j 0 = ts.getD j 0 := by rw [List.getD_eq_getElem?_getD, List.getElem?_append_left (by rw [Rn.ln]; exact hji), List.getD_eq_getElem?_getD]
    rw [eg]
    exact ⟨x, y, e1, e2, oth _ _ e5 (k1 _ _ e6 e7 e8 e9 e3), e4, e5, e6, e7, e8, e9⟩
   ·have ej : j = i := by omega
    subst ej
    have eg : (ts ++ [h.objs.size]).getD j 0 = h.objs.size := by rw [List.getD_eq_getElem?_getD, List.getElem?_append_right (by rw [Rn.ln]; exact Nat.le_refl _), Rn.ln, Nat.sub_self]; rfl
    rw [eg]
    exact ⟨xs[j], ys[j], List.getElem?_eq_getElem _, List.getElem?_eq_getElem _, oth _ _ nSz p1, Rn.bg, nSz, nz, nTO, ni1, ni2⟩
  ·have nS' : ∀ c' ∈ [S, z, TO, i1, i2], c ≠ c' := fun c' hc q => by rw [q, old c' hc] at e; cases e
   exact oth _ _ (nS' S (by simp)) (k1 _ _ (nS' z (by simp)) (nS' TO (by simp)) (nS' i1 (by simp)) (nS' i2 (by simp)) (Rn.kp c o e))
  ·refine Nat.le_trans Rn.bg (Nat.le_of_lt ?_)
   exact Heap.lt_size (oth _ _ nSz p1)
  ·exact Nat.lt_trans Rn.tO (Heap.lt_size (oth _ _ nSz p1))
  ·intro T b e
   have e1 : ZipH h1 z TI TO T b := by
    have q : (h1.update S (Obj.mapSeq (·.push (.ref h.objs.size)))).get? z = h1.get? z := Heap.get?_update_other _ _ nS.1
    exact q.symm.trans e
   exact nTS1 T b e1
end
end L2
namespace L2
open PySem PySem.Spec PyProof.Rows
section
variable {prog : Program} {w : World} {A : Around} {E : Value -> Shared -> Prop} {s : Shared}
theorem qO {h0 : Heap} {z TI TO i1 i2 l1 l2 : Addr} {xs ys : List Value} {Q : Value -> Shared -> Prop} (hh : A.handled = none) (D : ZipApart z TI TO i1 i2 l1 l2) (Z : ZipAt s.heap z TI TO i1 i2 l1 l2 0) (zz : IsZip s.heap z TI TO .none)
  (v1 : s.heap.IsList l1 xs.toArray) (v2 : s.heap.IsList l2 ys.toArray) (hl : xs.length = ys.length) (hz : xs.length <= sizeLine) (old : ∀ c ∈ [z, TO, i1, i2], h0.get? c = none) (kp : ∀ c o, h0.get? c = some o -> s.heap.get? c = some o) (bg : h0.objs.size <= s.heap.objs.size) (tO : TO < s.heap.objs.size)
  (q : ∀ ts h', wS h0 h' z TI TO i1 i2 l1 l2 s.heap.objs.size xs ys ts xs.length -> ∀ h2, (∀ c o, c ≠ z -> c ≠ TO -> c ≠ i1 -> c ≠ i2 -> h'.get? c = some o -> h2.get? c = some o) -> Q (.ref s.heap.objs.size) { s with heap := h2 }) :
  wpAny (model prog w) A (call (.type "list") [.ref z]) Q E s := by
 have nf : ∀ c o, s.heap.get? c = some o -> s.heap.objs.size ≠ c := fun c o e => Nat.ne_of_gt (Heap.lt_size e)
 have nS : s.heap.objs.size ≠ z /\ s.heap.objs.size ≠ TI /\ s.heap.objs.size ≠ TO /\ s.heap.objs.size ≠ i1 /\ s.heap.objs.size ≠ i2 /\ s.heap.objs.size ≠ l1 /\ s.heap.objs.size ≠ l2 :=
  ⟨nf _ _ zz, nf _ _ Z.gI, Nat.ne_of_gt tO, by obtain ⟨o, e, _⟩ := Z.u1; exact nf _ _ e, by obtain ⟨o, e, _⟩ := Z.u2; exact nf _ _ e, by obtain ⟨o, e, _⟩ := v1; exact nf _ _ e, by obtain ⟨o, e, _⟩ := v2; exact nf _ _ e⟩
 have old5 : ∀ c ∈ [s.heap.objs.size, z, TO, i1, i2], h0.get? c = none := fun c hc => by
  rcases List.mem_cons.mp hc with e | e
  ·rw [e]; exact Heap.get?_none_of_le bg
  ·exact old c e
 refine callType_codes (Q₁ := fun o1 s1 => o1 = .ref s.heap.objs.size /\ s1 = { s with heap := s.heap.push { cls := .type "list", data := .seq #[] } }) F.called_list (F.typeCall_list_1 _) F.entry_list_init (code_list_new _ ⟨rfl, rfl⟩) fun o1 s1 e1 => ?_
 obtain ⟨rfl, rfl⟩ := e1
 have gS : (s.heap.push { cls := .type "list", data := .seq #[] }).get? s.heap.objs.size = some { cls := .type "list", data := .seq #[] } := Heap.get?_push_size _ rfl
 refine ⟨⟨_, gS, rfl⟩, F.args_list_init_2 _ _, ?_⟩
 generalize eS : s.heap.objs.size = S at nS old5 gS q |-
 have up : ∀ c o, s.heap.get? c = some o -> (s.heap.push { cls := .type "list", data := .seq #[] }).get? c = some o := fun c o e => Heap.get?_push_of_some _ e
 show wpAny _ _ (do let cs <- Builtin.List.listItems (.ref S); Builtin.List.listUpdate (.ref S) (fun _ => #[]); letGo cs.toList.reverse; Builtin.List.listExtendWith (.ref S) (.ref z) .none) _ _ _
 refine wpAny_bind ?_
 unfold Builtin.List.listItems
 refine wpAny_bind (wpAny_seqItems gS rfl (wpAny_pure ?_))
 show wpAny _ _ (updateSeq S (fun _ => #[]) >>= _) _ _ _
 refine wpAny_bind (wpAny_updateSeq gS rfl (wpAny_bind (wpAny_letGo ?_)))
 have g2 := Heap.get?_update_self (Obj.mapSeq (fun _ => (#[] : Array Value))) gS rfl
 have o2 : ∀ c o, c ≠ S -> s.heap.get? c = some o -> ((s.heap.push { cls := .type "list", data := .seq #[] }).update S (Obj.mapSeq (fun _ => (#[] : Array Value)))).get? c = some o := fun c o n e => (Heap.get?_update_other _ _ (Ne.symm n)).trans (up c o e)
 generalize (s.heap.push { cls := .type "list", data := .seq #[] }).update S (Obj.mapSeq (fun _ => (#[] : Array Value))) = h2 at g2 o2 |-
 obtain ⟨c2, g2'⟩ : ∃ c, h2.get? S = some { cls := .type "list", data := .seq #[] c } := ⟨_, g2⟩
 have ty2 : ({ s with heap := h2 } : Shared).TypeIs (.ref z) "zip" := ⟨_, o2 _ _ nS.1.symm zz, rfl⟩
 unfold Builtin.List.listExtendWith
 refine wpAny_bind (wpAny_typeOf ty2 ?_)
 have b1 : Builtin.List.listSameRef (.ref S) (.ref z) = false := by simp [Builtin.List.listSameRef, nS.1]
 have b2 : (Value.type "zip" == Value.type "list") = false := by decide
 have b3 : (Value.type "zip" == Value.type "tuple") = false := by decide
 simp only [b1, b2, b3, Bool.or_false, Bool.false_eq_true, if_false]
 refine wpAny_bind (wpAny_pyIter_zip (s := { s with heap := h2 }) (o2 _ _ nS.1.symm zz) (wpAny_bind (wpAny_holding ?_)))
 unfold Builtin.List.listLengthHint
 refine wpAny_bind (wpAny_specialOf ty2 wR ?_)
 show wpAny _ _ (specialOf (Value.ref z) (Str.ofString "__length_hint__") >>= _) _ _ _
 refine wpAny_bind (wpAny_specialOf ty2 vE (wpAny_pure ?_))
 show wpAny _ _ (rule "list.extend.makes-room" >>= fun _ => Builtin.List.listTouch (.ref S) >>= fun _ => again (.builtin "list.extend.loop" ⟨[.ref S, .ref z, .none], []⟩)) _ _ _
 refine wpAny_bind (wpAny_rule (wpAny_bind ?_))
 show wpAny _ _ (updateSeq S (·.push .none) >>= fun _ => updateSeq S (·.pop)) _ _ _
 refine wpAny_bind (wpAny_updateSeq (s := { s with heap := h2 }) g2' rfl ?_)
 have g3 := Heap.get?_update_self (Obj.mapSeq (·.push Value.none)) g2' rfl
 refine wpAny_updateSeq (hz := by seq_fits) g3 rfl ?_
 have g4 := Heap.get?_update_self (Obj.mapSeq (·.pop)) g3 rfl
 have o4 : ∀ c o, c ≠ S -> s.heap.get? c = some o -> ((h2.update S (Obj.mapSeq (·.push Value.none))).update S (Obj.mapSeq (·.pop))).get? c = some o := fun c o n e => (Heap.get?_update_other _ _ (Ne.symm n)).trans ((Heap.get?_update_other _ _ (Ne.symm n)).trans (o2 c o n e))
 have z4 : h2.objs.size <= ((h2.update S (Obj.mapSeq (·.push Value.none))).update S (Obj.mapSeq (·.pop))).objs.size := by
  have u1 := (Heap.SameBut.update h2 S (Obj.mapSeq (·.push Value.none))).1
  have u2 := (Heap.SameBut.update (h2.update S (Obj.mapSeq (·.push Value.none))) S (Obj.mapSeq (·.pop))).1
  rw [u2, u1]
  exact Nat.le_refl _
 generalize (h2.update S (Obj.mapSeq (·.push Value.none))).update S (Obj.mapSeq (·.pop)) = h4 at g4 o4 z4 |-
 have lS : S < h4.objs.size := Heap.lt_size g4
 have Z4 : ZipAt h4 z TI TO i1 i2 l1 l2 0 := Z.other fun c o e hc => o4 c o (by rw [<- eS]; exact Ne.symm (nf c o e)) e
 have ne : ∀ c o, s.heap.get? c = some o -> c ≠ S := fun c o e => by rw [<- eS]; exact Ne.symm (nf c o e)
 refine wpAny_pure ⟨plainId_quiet F.plain_extend_loop _, zcs (s := s) (A := A.in1) (R := wants (fun r s2 => r = .none /\ Q (.ref S) s2) E) (show A.in1.in1.handled = none from hh) D nS old5 hl hz (fun ts h' Rn k2 hk => ⟨rfl, q ts h' Rn k2 hk⟩) xs.length 0 [] h4 (Nat.sub_zero _) (Nat.zero_le _) ⟨Z4, v1.at fun o e => o4 l1 o nS.2.2.2.2.2.1.symm e, v2.at fun o e => o4 l2 o nS.2.2.2.2.2.2.symm e, ⟨_, g4⟩, rfl, fun j hj => absurd hj (Nat.not_lt_zero _), fun c o e => o4 c o (ne _ _ (kp c o e)) (kp c o e), Nat.le_trans bg (by rw [eS]; exact Nat.le_of_lt lS), Nat.lt_trans tO (by rw [eS]; exact lS)⟩ fun T b e => ?_⟩
 have q1 : h4.get? z = some { cls := .type "zip", data := .fields #[.none, .bool false, .bool false, .ref TI, .ref TO] } := o4 _ _ nS.1.symm zz
 have q2 := Option.some.inj (q1.symm.trans e)
 injection q2 with _ _ q2 _
 injection q2 with q2
 have q3 := congrArg (fun a : Array Value => a[0]?) q2
 cases (Option.some.inj q3)
end
end L2
namespace L2
open PySem PySem.Spec PyProof.Rows
section
variable {X : Cx} {pins : Pq} {σ : St} {H H' : Hp} {s : Shared} {h' : Heap}
theorem Inv.grow {t' : Nat} (I : Inv X pins σ H s) (k : ∀ b o, s.heap.get? b = some o -> h'.get? b = some o) (sub : Same H H')
  (new : ∀ b o, H' b = some o -> H b = some o \/ (s.heap.get? b = none /\ ObjOk X.prog X.w H' h' b o)) : Inv X pins σ H' { s with heap := h', toks := t' } := by
 refine I.un ⟨fun b o e _ _ _ => k b o e, fun b o e _ _ _ => ⟨o.slots, k b o e⟩, fun b o e n _ => ?_, fun b o e _ => ⟨o, k b o e⟩, fun b xs e => sub _ _ e, fun b o u e => sub _ _ e, fun b ps e => ⟨#[], by rw [sub _ _ e]; simp⟩⟩ fun b o e => ?_
 ·cases q : H' b with
  | none => rfl
  | some u =>
   rcases new b u q with z | ⟨z, _⟩
   ·rw [n] at z; cases z
   ·rw [z] at e; cases e
 ·rcases new b o e with z | ⟨_, z⟩
  ·exact (I.hok b o z).stay (fun c u _ q => k c u q) (fun c q => sub _ _ q) fun c xs q => sub _ _ q
  ·exact z
def tZipL (K : Fq) (ta tb : TE) : TE := fun σ H Q => zat ta (zat tb tNil) σ H fun vs H2 => ∃ la lb xs ys, vs = [.ref la, .ref lb] /\ SqL K H2 la xs /\ SqL K H2 lb ys /\ xs.length = ys.length ∧
 ∀ D (ts : List Addr) H', Same H2 H' -> H2 D = none -> ts.length = xs.length -> H' D = some (.lst (ts.map V.ref)) -> (∀ (j : Nat) x y, xs[j]? = some x -> ys[j]? = some y -> H' (ts.getD j 0) = some (.tup [x, y])) -> Q (.ref D) H'
theorem zd4 {a b : Expr} {ta tb : TE} {p1 p2 pos1 pos2 : Pos} (hc : X.calm = true) (g1 : Gl X "list") (m1 : X.mg "list" = none) (g2 : Gl X "zip") (m2 : X.mg "zip" = none) (ha : PE X a ta) (hb : PE X b tb)
  (e1 : starEach [.Call (.Name "zip" p2) [a, b] [] pos2] X.env = [(false, eval (.Call (.Name "zip" p2) [a, b] [] pos2) X.env)] := by rfl)
  (e2 : starEach [a, b] X.env = (false, eval a X.env) :: starEach [b] X.env := by rfl) (e3 : starEach [b] X.env = [(false, eval b X.env)] := by rfl) (e4 : (backTo pos2 (starEach [b] X.env)).any (·.1) = false := by rfl) :
  PE X (.Call (.Name "list" p1) [.Call (.Name "zip" p2) [a, b] [] pos2] [] pos1) (tZipL X.K ta tb) := by
 intro pins s σ H Q I h
 refine wpAny_Call_Name_kw (xK I g1 m1 ji ?_)
 refine PyProof.Rows.callWith_type1 ?_ e1 rfl
 rw [e1]
 show wpAny _ _ (spliced ((false, eval (.Call (.Name "zip" p2) [a, b] [] pos2) X.env) :: [])) _ _ s
 refine Calls.spliced_cons ?_
 refine wpAny_Call_Name_kw (xK I g2 m2 zen ?_)
 refine PyProof.Rows.callWith_type1 (thn ((zc ha (zc hb za e3) e2) pos2 pins s σ H _ I h) fun us s1 ⟨vs, H1, I1, r1, q1⟩ => ?_) e2 e4
 obtain ⟨la, lb, xs, ys, rfl, sa, sb, hl, q⟩ := q1
 obtain ⟨u, v, rfl, ru, rv⟩ := zas r1
 cases (show u = .ref la from ru)
 cases (show v = .ref lb from rv)
 obtain ⟨is1, w1, n1, z1⟩ := I1.list sa
 obtain ⟨is2, w2, n2, z2⟩ := I1.list sb
 have c1 := w1.length
 have c2 := w2.length
 have la1 : la < s1.heap.objs.size := by obtain ⟨o, e, _⟩ := n1.isList; exact Heap.lt_size e
 have lb1 : lb < s1.heap.objs.size := by obtain ⟨o, e, _⟩ := n2.isList; exact Heap.lt_size e
 refine call_zip_2 n1.isList n2.isList fun h2 zz zI zO u1 u2 sz kp => ?_
 refine Calls.spliced_nil ?_
 have gt : ∀ c, s1.heap.objs.size <= c -> s1.heap.get? c = none := fun c hc => Heap.get?_none_of_le hc
 refine qO (s := { s1 with heap := h2 }) (h0 := s1.heap) (xs := is1) (ys := is2) (I.ok.hd hc) (zipApart_new la1 lb1) ⟨zI, u1, u2, .inl ⟨rfl, zz, zO⟩⟩ zz (n1.isList.at fun o e => kp _ _ e) (n2.isList.at fun o e => kp _ _ e) (by omega) (by omega) (fun c hc => ?_) kp (by show _ <= h2.objs.size; omega) (by show _ < h2.objs.size; omega) ?_
 ·simp only [List.mem_cons, List.not_mem_nil, or_false] at hc
  rcases hc with e | e | e | e <;> rw [e] <;> exact gt _ (by omega)
 intro ts h3 Rn h4 k4
 have lt := Rn.ln
 have Sg : s1.heap.get? h2.objs.size = none := gt _ (by omega)
 have nS : ∀ c, (c = s1.heap.objs.size + 4 \/ c = s1.heap.objs.size + 3 \/ c = s1.heap.objs.size \/ c = s1.heap.objs.size + 1) -> h2.objs.size ≠ c := fun c hc => by omega
 obtain ⟨cc, eS⟩ := Rn.ls
 have eS4 := k4 h2.objs.size _ (nS _ (.inl rfl)) (nS _ (.inr (.inl rfl))) (nS _ (.inr (.inr (.inl rfl)))) (nS _ (.inr (.inr (.inr rfl)))) eS
 have lenV : xs.length <= sizeLine := z1
 let Hn : Hp := fun c => if c = h2.objs.size then some (.lst (ts.map V.ref)) else if hx : ∃ j, j < xs.length /\ ts.getD j 0 = c then some (.tup [xs.getD hx.choose .non, ys.getD hx.choose .non]) else H1 c
 have lx : is1.length = xs.length := c1.symm
 have getV : ∀ {zs : List V} {us : List Value} {j : Nat} {x : Value}, Vals zs us -> us[j]? = some x -> RelV (zs.getD j .non) x := fun {zs us j x} r e => by
  have hj : j < zs.length := by rw [r.length]; exact (List.getElem?_eq_some_iff.mp e).1
  obtain ⟨u, eu, ru⟩ := r.get (List.getElem?_eq_getElem hj)
  rw [e] at eu
  cases eu
  rw [List.getD_eq_getElem?_getD, List.getElem?_eq_getElem hj]
  exact ru
 have tupAt : ∀ j, j < xs.length -> Hn (ts.getD j 0) = some (.tup [xs.getD j .non, ys.getD j .non]) := fun j hj => by
  obtain ⟨x, y, e1, e2, e3, e4, e5, _⟩ := Rn.tp j (by omega)
  have hx : ∃ i, i < xs.length /\ ts.getD i 0 = ts.getD j 0 := ⟨j, hj, rfl⟩
  show (if ts.getD j 0 = h2.objs.size then _ else if hx : ∃ i, i < xs.length /\ ts.getD i 0 = ts.getD j 0 then some (HO.tup [xs.getD hx.choose .non, ys.getD hx.choose .non]) else H1 (ts.getD j 0)) = _
  rw [if_neg e5, dif_pos hx]
  have sp := hx.choose_spec
  obtain ⟨x', y', f1, f2, f3, _⟩ := Rn.tp hx.choose (by omega)
  rw [sp.2] at f3
  have ee := Option.some.inj (e3.symm.trans f3)
  injection ee with _ _ ee _
  injection ee with ee
  have ex : x = x' := Option.some.inj (congrArg (fun a : Array Value => a[0]?) ee)
  have ey : y = y' := Option.some.inj (congrArg (fun a : Array Value => a[1]?) ee)
  have r1 := (getV w1 f1).inj (ex ▸ getV w1 e1)
  have r2 := (getV w2 f2).inj (ey ▸ getV w2 e2)
  rw [r1, r2]
 have atS : Hn h2.objs.size = some (.lst (ts.map V.ref)) := by
  show (if h2.objs.size = h2.objs.size then _ else _) = _
  rw [if_pos rfl]
 have oldH : ∀ c, c ≠ h2.objs.size -> (¬ ∃ j, j < xs.length /\ ts.getD j 0 = c) -> Hn c = H1 c := fun c n1 n2 => by
  show (if c = h2.objs.size then _ else if hx : ∃ j, j < xs.length /\ ts.getD j 0 = c then _ else H1 c) = _
  rw [if_neg n1, dif_neg n2]
 have sm : Same H1 Hn := fun c o e => by
  have lc : c < s1.heap.objs.size := I1.hok.lt e
  rw [oldH c (Nat.ne_of_lt (Nat.lt_of_lt_of_le lc (by omega))) (fun ⟨j, hj, ej⟩ => by
   obtain ⟨x, y, _, _, _, e4, _⟩ := Rn.tp j (by omega)
   rw [ej] at e4
   exact absurd e4 (Nat.not_le_of_lt lc))]
  exact e
 have refs : ∀ us : List Addr, Vals (us.map V.ref) (us.map Value.ref) := fun us => by
  induction us with
  | nil => exact .nil
  | cons a r ih => exact .cons rfl ih
 have kept : ∀ c o, s1.heap.get? c = some o -> h4.get? c = some o := fun c o e => by
  have lc := Heap.lt_size e
  exact k4 c o (Nat.ne_of_lt (Nat.lt_of_lt_of_le lc (Nat.le_add_right _ _))) (Nat.ne_of_lt (Nat.lt_of_lt_of_le lc (Nat.le_add_right _ _))) (Nat.ne_of_lt lc) (Nat.ne_of_lt (Nat.lt_of_lt_of_le lc (Nat.le_add_right _ _))) (Rn.kp c o e)
 have I4 : Inv X pins σ Hn { s1 with heap := h4, toks := s1.toks } := I1.grow kept sm fun c o e => by
  by_cases n1 : c = h2.objs.size
  ·subst n1
   rw [atS] at e
   cases e
   exact .inr ⟨Sg, by rw [List.length_map, lt, lx]; exact lenV, ts.map Value.ref, cc, refs ts, eS4⟩
  ·by_cases n2 : ∃ j, j < xs.length /\ ts.getD j 0 = c
   ·obtain ⟨j, hj, rfl⟩ := n2
    rw [tupAt j hj] at e
    cases e
    obtain ⟨x, y, e1, e2, e3, e4, e5, e6, e7, e8, e9⟩ := Rn.tp j (by omega)
    exact .inr ⟨gt _ e4, (by show 2 <= sizeLine; decide), [x, y], .cons (getV w1 e1) (.cons (getV w2 e2) .nil), _, k4 _ _ e6 e7 e8 e9 e3, rfl, _, rfl⟩
   ·rw [oldH c n1 n2] at e
    exact .inl e
 refine ⟨.ref h2.objs.size, Hn, I4, rfl, q h2.objs.size ts Hn sm (I1.hok.fresh (by omega)) (by omega) atS fun j x y ex ey => ?_⟩
 have hj : j < xs.length := (List.getElem?_eq_some_iff.mp ex).1
 have := tupAt j hj
 rw [List.getD_eq_getElem?_getD (l := xs), ex, List.getD_eq_getElem?_getD (l := ys), ey] at this
 exact this
end
end L2
namespace Np
open L2 PySem
theorem vF {ts : List Addr} {i : Nat} {y : V} (h : (ts.map V.ref).reverse[i]? = some y) : i < ts.length /\ y = .ref (ts.getD (ts.length - 1 - i) 0) := by
 have hi : i < (ts.map V.ref).length := by
  by_cases hi : i < (ts.map V.ref).length
  ·exact hi
  ·rw [List.getElem?_eq_none (by rw [List.length_reverse]; omega)] at h; cases h
 rw [List.getElem?_reverse hi] at h
 rw [List.length_map] at hi h
 rw [yU (by omega)] at h
 exact ⟨hi, (Option.some.inj h).symm⟩
end Np
namespace L2
open PySem PySem.Spec PyProof.Rows
section
variable {X : Cx} {tg : Expr}
end
end L2
namespace L2
open PySem PySem.Spec PyProof.Rows
section
variable {prog : Program} {w : World} {A : Around} {E : Value -> Shared -> Prop} {s : Shared}
end
section
variable {X : Cx} {tg : Expr}
end
end L2
namespace L2
open PySem PySem.Spec PyProof.Rows
end L2
namespace Np
open L2 PySem
end Np
set_option maxHeartbeats 4000000
namespace L2
open PySem
def yF (cls t tb : Value) : Obj := { cls := cls, data := .fields #[t, tb, .none, .none, .bool false, .none] }
structure Fly (h : Heap) (e : Addr) (cls : Value) (T : Addr) : Prop where
 ob : ∃ t, h.get? e = some (yF cls t (.ref T))
 ne : T ≠ e
 tb : ∃ oT ts, h.get? T = some oT /\ oT.data = .fields ts /\ ts[3]? = some Value.none
structure Trod (as fs : List Addr) (h h' : Heap) : Prop where
 keep : ∀ b o, b ∉ as -> b ∉ fs -> h.get? b = some o -> h'.get? b = some o
 slot : ∀ b o, b ∉ as -> h.get? b = some o -> ∃ sl, h'.get? b = some { o with slots := sl }
 there : ∀ b o, h.get? b = some o -> ∃ o', h'.get? b = some o'
 size : h.objs.size <= h'.objs.size
theorem Trod.trans {as fs : List Addr} {h h1 h2 : Heap} (x : Trod as fs h h1) (y : Trod as fs h1 h2) : Trod as fs h h2 where
 keep := fun b o ha hf e => y.keep b o ha hf (x.keep b o ha hf e)
 slot := fun b o ha e => by
  obtain ⟨s1, e1⟩ := x.slot b o ha e
  obtain ⟨s2, e2⟩ := y.slot b _ ha e1
  exact ⟨s2, e2⟩
 there := fun b o e => let ⟨o1, e1⟩ := x.there b o e; y.there b o1 e1
 size := Nat.le_trans x.size y.size
theorem Trod.mono {as as' fs fs' : List Addr} {h h' : Heap} (x : Trod as fs h h') (ha : ∀ b ∈ as, b ∈ as') (hf : ∀ b ∈ fs, b ∈ fs') : Trod as' fs' h h' :=
 ⟨fun b o na nf e => x.keep b o (fun z => na (ha b z)) (fun z => nf (hf b z)) e, fun b o na e => x.slot b o (fun z => na (ha b z)) e, x.there, x.size⟩
theorem Trod.put {h : Heap} {a : Addr} {o : Obj} {vs : Array Value} {fs : List Addr} (e : h.get? a = some o) (d : o.data = .fields vs) (f : Array Value -> Array Value) : Trod [a] fs h (h.update a (Obj.mapFields f)) where
 keep := fun b u na _ q => (Heap.get?_update_other _ _ (fun z => na (by simp [z]))).trans q
 slot := fun b u na q => ⟨u.slots, (Heap.get?_update_other _ _ (fun z => na (by simp [z]))).trans q⟩
 there := fun b u q => by
  by_cases hb : b = a
  ·subst hb
   exact ⟨_, Heap.get?_update_self _ e (Obj.isFreed_of_fields (Obj.data_mapFields d f))⟩
  ·exact ⟨u, (Heap.get?_update_other _ _ (Ne.symm hb)).trans q⟩
 size := Nat.le_of_eq (Heap.size_after_update ..).symm
section
variable {M : Model} {A : Around} {E : Value -> Shared -> Prop} {s : Shared} {e : Addr} {cls t tb0 : Value} {Q : Unit -> Shared -> Prop}
theorem jj {T : Addr} {h : Heap} {oT : Obj} {ts : Array Value} (e1 : h.get? e = some (yF cls t (.ref T))) (e2 : h.get? T = some oT) (d : oT.data = .fields ts) (hz : 3 < ts.size) (ne : T ≠ e)
  (q : ∀ h', Trod [T] [] h h' -> Fly h' e cls T -> Q () { s with heap := h' }) : wpAny M A (setFlight (.ref e) none) Q E { s with heap := h } := by
 unfold setFlight
 refine wpAny_bind (wpAny_field e1 rfl (x := .ref T) rfl ?_)
 rw [if_pos (by simp)]
 refine wpAny_setField e2 d hz (q _ (Trod.put e2 d _) ⟨⟨t, (Heap.get?_update_other _ _ ne).trans e1⟩, ne, _, _, Heap.get?_update_self _ e2 (Obj.isFreed_of_fields (Obj.data_mapFields d _)), Obj.data_mapFields d _, ?_⟩)
 rw [Array.getElem?_setIfInBounds_self_of_lt hz]
 rfl
theorem zeP {g : Heap} {ob : Obj} {ts : Array Value} (he : g.get? e = some (yF cls t tb0)) (d : ob.data = .fields ts) (hz : 3 < ts.size)
  (q : ∀ h', Trod [e] [] g h' -> Fly h' e cls g.objs.size -> Q () { s with heap := h' }) :
  wpAny M A (setField (.ref e) 1 (.ref g.objs.size)) (fun _ s' => wpAny M A (setFlight (.ref e) none) Q E s') E { s with heap := g.push ob } := by
 have hne : g.objs.size ≠ e := Nat.ne_of_gt (Heap.lt_size he)
 have h2 : (g.push ob).get? e = some (yF cls t tb0) := Heap.get?_push_of_some ob he
 refine wpAny_setField h2 rfl (by simp) ?_
 have h3 : ((g.push ob).update e (Obj.mapFields (·.setIfInBounds 1 (Value.ref g.objs.size)))).get? e = some (yF cls t (.ref g.objs.size)) :=
  (Heap.get?_update_self _ h2 rfl).trans rfl
 have hT : ((g.push ob).update e (Obj.mapFields (·.setIfInBounds 1 (Value.ref g.objs.size)))).get? g.objs.size = some ob :=
  (Heap.get?_update_other _ _ (Ne.symm hne)).trans (Heap.get?_push_size g (Obj.isFreed_of_fields d))
 refine jj (s := s) h3 hT d hz hne fun h' tr fl => q h' ⟨fun b o na nf q => ?_, fun b o na q => ?_, fun b o q => ?_, ?_⟩ fl
 all_goals have old : ∀ b o, b ≠ e -> g.get? b = some o -> ((g.push ob).update e (Obj.mapFields (·.setIfInBounds 1 (Value.ref g.objs.size)))).get? b = some o := fun b o nb q => (Heap.get?_update_other _ _ (Ne.symm nb)).trans (Heap.get?_push_of_some ob q)
 ·exact tr.keep b o (by simpa using Nat.ne_of_lt (Heap.lt_size q)) (by simp) (old b o (by simpa using na) q)
 ·exact tr.slot b o (by simpa using Nat.ne_of_lt (Heap.lt_size q)) (old b o (by simpa using na) q)
 ·by_cases hb : b = e
  ·subst hb; exact tr.there _ _ h3
  ·exact tr.there _ _ (old b o hb q)
 ·have := tr.size
  rw [Heap.size_after_update, Heap.size_push] at this
  omega
theorem kU {base : Heap} {env : Env} {outer : List Env} {L : Addr} {head : Value} {had : Bool} (hfr : A.frames = some (env :: outer)) (hl : s.heap.FunFrames base (env :: outer)) (hf : env.frame = some L)
  (he : s.heap.get? e = some (yF cls t tb0)) (q : ∀ h' T, Trod [e] ((env :: outer).filterMap (·.frame)) s.heap h' -> s.heap.objs.size <= T -> Fly h' e cls T -> Q () { s with heap := h' }) :
  wpAny M A (do let fo <- frameOf env; let pl <- entryPlaceOf L had; let x <- EntryCells.newEntry head fo .none (rawInt L) .none pl; setField (.ref e) 1 x) (fun _ s' => wpAny M A (setFlight (.ref e) none) Q E s') E s := by
 have ne : e ∉ (env :: outer).filterMap (·.frame) := fun hm => by
  obtain ⟨_, o, ho, nf⟩ := hl.mem hm
  rw [he] at ho
  cases ho
  exact nf _ rfl
 refine wpAny_bind (wpAny_frameOf_fun hfr hl hf fun g sg => wpAny_bind (wpAny_entryPlaceOf fun pl hp => ?_))
 unfold EntryCells.newEntry newFields
 refine wpAny_bind (wpAny_newObj_type ?_ (hp.sizeOk5 _ _ _ _ _))
 refine zeP (s := s) ((sg.2.1 e ne).trans he) rfl (by simp only [List.size_toArray, List.length_append, List.length_cons, List.length_nil] <;> omega) fun h' tr fl => ?_
 refine q h' _ ⟨fun b o na nf eb => tr.keep b o na (by simp) ((sg.2.1 b nf).trans eb), fun b o na eb => ?_, fun b o eb => ?_, ?_⟩ (Nat.le_of_eq sg.1.symm) fl
 ·obtain ⟨sl, e1⟩ := sg.2.2 b o eb
  obtain ⟨sl', e2⟩ := tr.slot b _ na e1
  exact ⟨sl', e2⟩
 ·obtain ⟨sl, e1⟩ := sg.2.2 b o eb
  exact tr.there b _ e1
 ·exact Nat.le_trans (Nat.le_of_eq sg.1.symm) tr.size
theorem wT {base : Heap} {env : Env} {outer : List Env} {L : Addr} (hfr : A.frames = some (env :: outer)) (hl : s.heap.FunFrames base (env :: outer)) (hf : env.frame = some L)
  (he : s.heap.get? e = some (yF cls t .none)) (q : ∀ h' T, Trod [e] ((env :: outer).filterMap (·.frame)) s.heap h' -> s.heap.objs.size <= T -> Fly h' e cls T -> Q () { s with heap := h' }) :
  wpAny M A (noteFrame (.ref e) env) (fun _ s' => wpAny M A (setFlight (.ref e) none) Q E s') E s := by
 unfold noteFrame
 simp only [hf]
 refine wpAny_bind (wpAny_field he rfl (x := .none) rfl ?_)
 rw [if_neg (by decide)]
 exact kU hfr hl hf he q
theorem kf {base : Heap} {env : Env} {outer : List Env} {L T0 : Addr} (hfr : A.frames = some (env :: outer)) (hl : s.heap.FunFrames base (env :: outer)) (hf : env.frame = some L)
  (fl : Fly s.heap e cls T0) (q : ∀ h' T, Trod [e, T0] ((env :: outer).filterMap (·.frame)) s.heap h' -> s.heap.objs.size <= T -> Fly h' e cls T -> Q () { s with heap := h' }) :
  wpAny M A (noteFrame (.ref e) env) (fun _ s' => wpAny M A (setFlight (.ref e) none) Q E s') E s := by
 obtain ⟨⟨t, he⟩, ne, oT, ts, eT, dT, h3⟩ := fl
 unfold noteFrame
 simp only [hf]
 refine wpAny_bind (wpAny_field he rfl (x := .ref T0) rfl ?_)
 rw [if_pos (by simp)]
 refine wpAny_bind (wpAny_field eT dT h3 ?_)
 rw [if_neg (by simp [rawInt])]
 have hz := (Array.getElem?_eq_some_iff.mp h3).1
 refine wpAny_bind (wpAny_setField eT dT hz ?_)
 have tr := Trod.put (fs := (env :: outer).filterMap (·.frame)) eT dT (·.setIfInBounds 3 Value.none)
 have nT : ∀ b o, s.heap.get? b = some o -> (∀ vs, o.data ≠ .fields vs) -> b ∉ [T0] := fun b o eb nf hb => by
  have hb : b = T0 := by simpa using hb
  subst hb
  rw [eT] at eb
  cases eb
  exact nf _ dT
 refine kU (base := base) hfr (hl.of_keeps fun b o eb nf => ?_) hf (cls := cls) (t := t) (tb0 := .ref T0) ((Heap.get?_update_other _ _ ne).trans he) fun h' T tr2 sz f2 => ?_
 ·obtain ⟨sl, e1⟩ := tr.slot b o (nT b o eb nf) eb
  exact ⟨_, e1, rfl⟩
 ·refine q h' T ((tr.mono (by simp) (fun _ z => z)).trans (tr2.mono (by simp) (fun _ z => z))) ?_ f2
  rw [Heap.size_after_update] at sz
  exact sz
theorem vG {base : Heap} {env : Env} {outer : List Env} {L : Addr} (hfr : A.frames = some (env :: outer)) (hl : s.heap.FunFrames base (env :: outer)) (hf : env.frame = some L)
  (he : s.heap.get? e = some (yF cls t .none)) (q : ∀ h' T, Trod [e] ((env :: outer).filterMap (·.frame)) s.heap h' -> s.heap.objs.size <= T -> Fly h' e cls T -> Q () { s with heap := h' }) :
  wpAny M A (leaving env (.ref e)) Q E s := wpAny_bind (wT hfr hl hf he q)
theorem wU {base : Heap} {env : Env} {outer : List Env} {L T0 : Addr} (hfr : A.frames = some (env :: outer)) (hl : s.heap.FunFrames base (env :: outer)) (hf : env.frame = some L)
  (fl : Fly s.heap e cls T0) (q : ∀ h' T, Trod [e, T0] ((env :: outer).filterMap (·.frame)) s.heap h' -> s.heap.objs.size <= T -> Fly h' e cls T -> Q () { s with heap := h' }) :
  wpAny M A (leaving env (.ref e)) Q E s := wpAny_bind (kf hfr hl hf fl q)
end
theorem vH {M : Model} {A : Around} {E : Value -> Shared -> Prop} {nm' q' : Str} {C D N' : Addr} {bs' bm' : List Value} {hdct' : Bool} {sn' : List Str} {sub' : List Value} {ab' : Bool} {col' : Option Bool} {dd' : Option Addr} {j0 j1 j2 j3 j5 : Option Value} {newId' : String}
  {h : Heap} {g : Array GenState} {d : Drawn} {t : Nat} {os : OsState} {e : Addr} {oe : Obj} {Q : Bool -> Shared -> Prop} {b : Bool}
  (hC : ∀ (Q : Bool -> Shared -> Prop), Q b ⟨h, g, d, t, os⟩ -> wpAny M A (isSubtype (.ref C) (.ref D)) Q E ⟨h, g, d, t, os⟩) (hD : h.get? D = some (excClassObj nm' q' D N' bs' bm' hdct' sn' sub' ab' col' dd' j0 j1 j2 j3 j5 newId'))
  (he : h.get? e = some oe) (hcls : oe.cls = .ref C) (hbase : bm'.contains (.type "BaseException") = true) (hq : Q b ⟨h, g, d, t, os⟩) :
  wpAny M A (excMatches (.ref e) (.ref D)) Q E ⟨h, g, d, t, os⟩ := by
 have hcB : (Value.ref D :: bm').contains (.type "BaseException") = true := by rw [List.contains_cons, hbase, Bool.or_true]
 have f := tc_notTuple
 unfold excMatches
 repeat (first | (with_reducible refine wpAny_loadPart_at he ?_; rw [hcls]) | with_reducible refine wpAny_loadPart_at hD ?_ | (with_reducible refine wpAny_isSubtype_exc hD ?_; rw [hcB]) | with_reducible refine hC _ ?_ | wp_step)
 cases b <;> (wp_walk; exact hq)
end L2
namespace L2
open PySem
section
variable {prog : Program} {w : World} {A : Around} {E : Value -> Shared -> Prop} {s : Shared} {e : Addr} {cls t tb : Value}
end
end L2
namespace L2
open PySem PySem.Spec PyProof.Rows
structure Ec where
 pileError : Addr
 noShares : Addr
 noPile : Addr
 noSign : Addr
 noSlot : Addr
 noMore : Addr
 noText : Addr
 notLeaf : Addr
abbrev bmV : List Value := [.type "ValueError", .type "Exception", .type "BaseException", .type "object"]
theorem zaB {K : Fq} {h : Heap} {C : Addr} {bmB : List Value} {nid : String} (X : K.In h) (q : PySem.W.excIn K C bmB nid = true) :
  ∃ bm N nm qn bs hdct sn sub ab col dd k0 k1 k2 k3 k5 mN, h.get? C = some (excClassObj nm qn C N bs bm hdct sn sub ab col dd k0 k1 k2 k3 k5 nid) /\ h.Ns N mN /\ mN "__init__" = none /\ OwnTail h bmB bm := by
 unfold PySem.W.excIn at q
 split at q
 ·rename_i dd cd sl lk
  split at q
  ·rename_i C2 bm k0 k1 k2 k3 n k5 em es
   simp only [Bool.and_eq_true, beq_iff_eq, Bool.not_eq_true'] at q
   obtain ⟨⟨⟨⟨⟨e1, e2⟩, nd⟩, tl⟩, ok⟩, ni⟩ := q
   subst e1 e2
   obtain ⟨nm, bs, mro, ns, qn, hd, sn, sub, ab, col, del⟩ := cd
   dsimp only at em nd ok ni
   subst em nd
   obtain ⟨l⟩ := sl
   dsimp only at es
   subst es
   exact ⟨bm, ns, nm, qn, bs, hd, sn, sub, ab, col, dd, k0, k1, k2, k3, k5, _, X _ _ lk, .of_isNs (PySem.W.isNs_of_in X ok), PySem.W.nsMap_none_of_in X ok ni, PySem.W.tail_of_in X tl⟩
  ·cases q
 ·cases q
theorem ObjOk.is {P : Program} {w : World} {H : Hp} {h : Heap} {a : Addr} {o : HO} (x : ObjOk P w H h a o) : ∃ u, h.get? a = some u := by
 cases o with
 | lst xs => obtain ⟨_, _, _, _, e⟩ := x; exact ⟨_, e⟩
 | tup xs => obtain ⟨_, _, _, p⟩ := x; obtain ⟨o, e, _⟩ := p; exact ⟨o, e⟩
 | dK kvs => obtain ⟨_, _, _, _, o, _, _, e, _⟩ := x; exact ⟨_, e⟩
 | dT kvs => exact (show False from x).elim
 | set S n => obtain ⟨o, _, _, _, e, _⟩ := x; exact ⟨_, e⟩
 | ins C dx fs => obtain ⟨_, _, _, e, _⟩ := x; exact ⟨_, e⟩
 | own y => obtain ⟨o, e⟩ := x; exact ⟨o, e⟩
 | xd fs => obtain ⟨_, ⟨_, _, _, e, _⟩, _⟩ := x; exact ⟨_, e⟩
 | rng lo hi => obtain ⟨_, _, _, e⟩ := x; exact ⟨_, e⟩
 | frz ob u => obtain ⟨e, _⟩ := x; exact ⟨_, e⟩
 | tbl ps => exact ⟨_, show h.get? a = some _ from x⟩
 | met f y => exact ⟨_, show h.get? a = some _ from x⟩
 | ext φ => obtain ⟨_, ⟨o, e⟩, _⟩ := x; exact ⟨o, e⟩
theorem HOk.none_of {P : Program} {w : World} {H : Hp} {h : Heap} {a : Addr} (ok : HOk P w H h) (e : h.get? a = none) : H a = none := by
 cases q : H a with
 | none => rfl
 | some o =>
  obtain ⟨u, eu⟩ := (ok a o q).is
  rw [e] at eu
  cases eu
section
variable {X : Cx} {pins : Pq} {σ : St} {H H' : Hp} {s s' : Shared} {E : XK} {h' : Heap} {b : Addr}
def FpX (X : Cx) (pins : Pq) (H : Hp) (b : Addr) : Prop :=
 H b = none /\ b ≠ X.env.locals /\ X.s₀.heap.get? b = none /\ (∀ x c, X.env.cells.lookup x = some c -> c ≠ b) /\ ∀ p ∈ X.pn ++ pins, p.1 ≠ b
theorem Inv.fpX (I : Inv X pins σ H s) (hex : X.ex = []) (hb : s.heap.get? b = none) (hn : H' b = none) : FpX X pins H' b := by
 refine ⟨hn, fun z => ?_, ?_, fun x c e z => ?_, fun p hp z => ?_⟩
 ·obtain ⟨m, ⟨o, _, _, ho, _⟩, _⟩ := I.loc
  rw [z, ho] at hb
  cases hb
 ·cases q : X.s₀.heap.get? b with
  | none => rfl
  | some o =>
   obtain ⟨o', e⟩ := I.base.there b o q (by rw [hex]; simp)
   rw [hb] at e
   cases e
 ·obtain ⟨v, o, ho, _⟩ := I.cell x c e
  rw [z, hb] at ho
  cases ho
 ·have := (I.pin p hp).1
  rw [z, hb] at this
  cases this
theorem Inv.trod {as : List Addr} (I : Inv X pins σ H s) (tr : Trod as (frs X.stack) s.heap h') (ha : ∀ b ∈ as, FpX X pins H b) : Inv X pins σ H { s with heap := h' } := by
 have nst : ∀ b, b ≠ X.env.locals -> b ∉ X.fs -> b ∉ frs X.stack := fun b n1 n2 z => (List.mem_cons.mp (I.stkSub b z)).elim n1 n2
 have neL : ∀ b o, X.s₀.heap.get? b = some o -> b ≠ X.env.locals := fun b o e => Nat.ne_of_lt (Nat.lt_of_lt_of_le (Heap.lt_size e) I.ok.above)
 have nas : ∀ b o, X.s₀.heap.get? b = some o -> b ∉ as := fun b o e z => by
  have := (ha b z).2.2.1
  rw [e] at this
  cases this
 have cellK : ∀ x c, X.env.cells.lookup x = some c -> ∀ v, s.heap.IsCell c v -> h'.IsCell c v := fun x c e v ⟨o, ho, hd⟩ => by
  obtain ⟨sl, q⟩ := tr.slot c o (fun z => (ha c z).2.2.2.1 x c e rfl) ho
  exact ⟨_, q, hd⟩
 have trkd : ∀ c u, H c = some u -> c ∉ as /\ c ∉ frs X.stack := fun c u e => ⟨(fun z => by rw [(ha c z).1] at e; cases e), (fun z => by rw [I.stkFree c z] at e; cases e)⟩
 refine ⟨I.ok, I.os, I.bare, ⟨fun b o e n hb hx => ?_, fun b o e n hb hx => ?_, fun b o e n hx => I.base.free b o e n hx, fun b o e hx => ?_, I.base.tups, I.base.frzs, I.base.tbls⟩, ?_, fun x c e => ?_, I.free, I.freeC, fun p hp => ?_, fun b u e => ?_, I.len⟩
 ·exact tr.keep b o (nas b o e) (nst b (neL b o e) hb) (I.base.keep b o e n hb hx)
 ·obtain ⟨sl, e1⟩ := I.base.slot b o e n hb hx
  obtain ⟨sl', e2⟩ := tr.slot b _ (nas b o e) e1
  exact ⟨sl', e2⟩
 ·obtain ⟨o', e1⟩ := I.base.there b o e hx
  exact tr.there b o' e1
 ·obtain ⟨m, hn, hl⟩ := I.loc
  have hn' : h'.Ns X.env.locals m := by
   obtain ⟨o, es, ep, ho, r⟩ := hn
   obtain ⟨sl, e⟩ := tr.slot _ o (fun z => (ha _ z).2.1 rfl) ho
   exact ⟨_, es, ep, e, r⟩
  refine ⟨m, hn', fun i x v e1 e2 e3 => ?_⟩
  obtain ⟨u, r, l⟩ := hl i x v e1 e2 e3
  refine ⟨u, r, ?_⟩
  rcases l with l | ⟨k, c, e, z⟩
  ·exact .inl l
  ·exact .inr ⟨k, c, e, cellK x c e _ z⟩
 ·obtain ⟨v, z⟩ := I.cell x c e
  exact ⟨v, cellK x c e v z⟩
 ·obtain ⟨e, n, ne, nf, d⟩ := I.pin p hp
  exact ⟨tr.keep p.1 p.2 (fun z => (ha _ z).2.2.2.2 p hp rfl) (nst _ ne nf) e, n, ne, nf, d⟩
 ·refine (I.hok b u e).stay (fun c v hc q => ?_) (fun _ q => q) fun _ _ q => q
  have t : ∃ u, H c = some u := by
   rcases hc with z | z
   ·exact ⟨u, by rw [z]; exact e⟩
   ·exact ⟨_, z⟩
  obtain ⟨u', e'⟩ := t
  exact tr.keep c v (trkd c u' e').1 (trkd c u' e').2 q
def CXE (P : Program) (w : World) : CXT := fun outer H s E x s' => ∃ e C T H', x = .ref e /\ s'.os = s.os /\ AllBare s'.gens /\ Un (frs outer) [] H H' s.heap s'.heap /\ HOk P w H' s'.heap /\ Fly s'.heap e (.ref C) T ∧
 (H' e = none /\ H' T = none) /\ (s.heap.get? e = none /\ s.heap.get? T = none) /\ E (.ref C) none H'
def XP (X : Cx) (pins : Pq) (σ : St) (E : XK) (x : Value) (s' : Shared) : Prop := ∃ e C T H', x = .ref e /\ Inv X pins σ H' s' /\ Fly s'.heap e (.ref C) T /\ FpX X pins H' e /\ FpX X pins H' T /\ E (.ref C) none H'
theorem Inv.xp {x : Value} (I : Inv X pins σ H s) (hex : X.ex = []) (h : CXE X.prog X.w X.stack H s E x s') : XP X pins σ E x s' := by
 obtain ⟨e, C, T, H', rfl, os, bare, un, hok, fl, ⟨n1, n2⟩, ⟨m1, m2⟩, q⟩ := h
 exact ⟨e, C, T, H', rfl, I.call' os un hok bare (fun b z => absurd z (by simp)), fl, I.fpX hex m1 n1, I.fpX hex m2 n2, q⟩
end
section
variable {P : Program} {w : World} {K : Fq} {mg : Mq} {base : Heap} {N : List Str} {qual : Str} {scope : Scope} {f : Addr} {cd : Value} {A : Around} {outer : List Env} {s : Shared} {H : Hp} {E : XK}
theorem XP.leave {pins : Pq} {σ : St} {x : Value} {s' : Shared} (h : XP (yh (CXE P w) P w K mg base N qual scope f cd A outer s H E) pins σ E x s') : (yh (CXE P w) P w K mg base N qual scope f cd A outer s H E).xe x s' := by
 obtain ⟨e, C, T, H', rfl, I, fl, fe, fT, q⟩ := h
 refine wU (base := base) I.ok.frames I.stack rfl fl fun h' T' tr sz fl' => ?_
 have I2 := I.trod tr (fun b hb => by
  rcases List.mem_cons.mp hb with z | z
  ·rw [z]; exact fe
  ·have : b = T := by simpa using z
   rw [this]; exact fT)
 exact ⟨e, C, T', H', rfl, I2.os, I2.bare, I2.base, I2.hok, fl', ⟨fe.1, I.hok.fresh sz⟩, ⟨fe.2.2.1, Heap.get?_none_of_le (Nat.le_trans I.sz sz)⟩, q⟩
def vI (X : Cx) (E : XK) : Prop := ∀ (pins : Pq) (σ : St) (H : Hp) (s : Shared) (e C : Addr) (t : Value), Inv X pins σ H s -> s.heap.get? e = some (yF (.ref C) t .none) -> FpX X pins H e -> E (.ref C) none H -> X.xe (.ref e) s
theorem zW : vI (yh (CXE P w) P w K mg base N qual scope f cd A outer s H E) E := by
 intro pins σ H1 s1 e C t I he fe q
 refine vG (base := base) I.ok.frames I.stack rfl he fun h' T' tr sz fl' => ?_
 have I2 := I.trod tr (fun b hb => by
  have : b = e := by simpa using hb
  rw [this]; exact fe)
 exact ⟨e, C, T', H1, rfl, I2.os, I2.bare, I2.base, I2.hok, fl', ⟨fe.1, I.hok.fresh sz⟩, ⟨fe.2.2.1, Heap.get?_none_of_le (Nat.le_trans I.sz sz)⟩, q⟩
end
def zeQ (C : Addr) (E : XK) (t : TA) : TS := fun _ σ H => t σ H fun vs H1 => vs.length <= sizeLine /\ E (.ref C) none H1
theorem zQ {X : Cx} {E : XK} {x : Str} {C : Addr} {e₀ : Expr} {es : List Expr} {t : TA} {np cpos pos : Pos} (hr : vI X E) (hc : X.calm = true) (hex : X.ex = []) (hg : Gl X x) (hm : X.mg x = some (.ref C)) (ho : PySem.W.excIn X.K C bmV "ValueError.__new__" = true) (ha : PA X (e₀ :: es) t)
  (hdb : (x == ("__debug__" : Str)) = false := by decide) (he : starEach (e₀ :: es) X.env = (false, eval e₀ X.env) :: starEach es X.env := by rfl) (hpl : (backTo cpos (starEach es X.env)).any (·.1) = false := by rfl) :
  PS X (.Raise (some (.Call (.Name x np) (e₀ :: es) [] cpos)) none pos) (zeQ C E t) := by
 intro pins s σ H D I h
 obtain ⟨bm, N, nm, qn, bs, hdct, sn, sub, ab, col, dd, k0, k1, k2, k3, k5, mN, hC, hN, hni, T⟩ := zaB I.ok.mod.kin ho
 refine wpAny_Raise_call_subU (C := C) (nm := nm) (q := qn) (N := N) (bs := bs) (bm := bm) (hdct := hdct) (sn := sn) (sub := sub) (ab := ab) (col := col) (dd := dd) (k0 := k0) (k1 := k1) (k2 := k2) (k3 := k3) (k5 := k5)
  PySem.F.excBase_ValueError (by decide) PySem.F.excBase_ValueError (mN := mN) (T.hasType (by decide)) (I.ok.hd hc) (by rw [he]; show (false || (backTo cpos (starEach es X.env)).any (·.1)) = false; rw [hpl]; rfl) hni (yT I hg hm ⟨rfl, ?_⟩ hdb)
 have hz := ha cpos pins s σ H _ I h
 rw [he] at hz |-
 refine Calls.evalArgs_plain (thn hz fun us s2 ⟨vs, H1, I1, r, z, q⟩ => ⟨rfl, by rw [<- r.length]; exact z, I1.bk _ _ hC, hN.keeps I1.bk, T.keeps I1.bk, fun h' e hm => ?_⟩)
 obtain ⟨tt, a, _, _⟩ := hm.there
 exact hr pins σ H1 _ e C (.ref tt) (I1.kept (t' := s2.toks) hm.keeps) a (I1.fpX hex hm.new (I1.hok.none_of hm.new)) q
end L2
namespace L2
open PySem PySem.Spec PyProof.Rows
section
variable {P : Program} {w : World} {K : Fq} {mg : Mq} {base : Heap} {k j : Nat} {f C : Addr} {fd : FuncData} {ps N : List Str} {sp : Sp} {x m qual : Str} {st : Stmt}
theorem FnOk.cal (F : FnOk P w K mg base (CXE P w) k f fd ps sp) : FnOk P w K mg base CX0 k f fd ps (fun vs H Q _ => sp vs H Q E0) :=
 ⟨fun vs H Q _ h => F.len vs H Q E0 h, fun A outer s H args us vs Q _ hr e0 hb r h => codeAny_mono (F.run A outer s H args us vs Q E0 hr e0 hb r h) fun q s' hq => by
  cases q with
  | error e =>
   obtain ⟨_, _, _, _, _, _, _, _, _, _, _, _, z⟩ := hq
   exact z.elim
  | ok fl => cases fl <;> exact hq⟩
structure CalX (P : Program) (w : World) (K : Fq) (mg : Mq) (base : Heap) (k : Nat) (x : Str) (ps : List Str) (sp : Sp) : Prop where
 ex : ∃ f fd, mg x = some (.ref f) /\ PySem.W.keepIn K (.ref f) = true /\ Binds K fd ps [] /\ FnOk P w K mg base (CXE P w) k f fd ps sp
structure CalMX (P : Program) (w : World) (K : Fq) (mg : Mq) (base : Heap) (k : Nat) (C : Addr) (m : Str) (ps : List Str) (sp : Sp) : Prop where
 ex : ∃ f fd, Meth K C m f /\ Binds K fd ps [] /\ FnOk P w K mg base (CXE P w) k f fd ps sp
theorem CalX.mono (F : CalX P w K mg base j x ps sp) (h : j <= k) : CalX P w K mg base k x ps sp := let ⟨f, fd, a, b, c, d⟩ := F.ex; ⟨f, fd, a, b, c, d.mono h⟩
theorem CalMX.mono (F : CalMX P w K mg base j C m ps sp) (h : j <= k) : CalMX P w K mg base k C m ps sp := let ⟨f, fd, a, b, c⟩ := F.ex; ⟨f, fd, a, b, c.mono h⟩
theorem CalX.cal (F : CalX P w K mg base k x ps sp) : Cal P w K mg base k x ps (fun vs H Q _ => sp vs H Q E0) := let ⟨f, fd, a, b, c, d⟩ := F.ex; ⟨f, fd, a, b, c, d.cal⟩
theorem CalMX.cal (F : CalMX P w K mg base k C m ps sp) : CalM P w K mg base k C m ps (fun vs H Q _ => sp vs H Q E0) := let ⟨f, fd, a, b, c⟩ := F.ex; ⟨f, fd, a, b, c.cal⟩
theorem Def.okX (D : Def K mg x st ps) (S : zm N ps (zd st)) (len : ∀ vs H Q E, sp vs H Q E -> vs.length = ps.length)
  (hbody : ∀ (f : Addr) (cdv : Value) (A : Around) (outer : List Env) (s : Shared) (H : Hp) (vs : List V) (Q : VK) (E : XK), Room k (A.deeper (envOfC x (zd st) s.heap.objs.size f cdv)) -> sp vs H Q E →
   ∃ t, PSs (yh (CXE P w) P w K mg base N x (zd st) f cdv A outer s H E) (zk st) t /\ t { nx := fun _ H' => Q .non H', rt := Q } (yt N vs) H) : CalX P w K mg base (k + 1) x ps sp := by
 obtain ⟨f, fd, F, b, m⟩ := D.ex
 obtain ⟨oc, od, kV, doc, pm, an, cdv, ct, osl, rfl, lk, hcd⟩ := F.ex
 exact ⟨f, _, m, F.kp, b, qW lk hcd S len fun A outer s H vs Q E hr hsp => hbody f cdv A outer s H vs Q E hr hsp⟩
theorem DefM.okX (D : DefM K C m qual st ps) (S : zm N ps (zd st)) (len : ∀ vs H Q E, sp vs H Q E -> vs.length = ps.length)
  (hbody : ∀ (f : Addr) (cdv : Value) (A : Around) (outer : List Env) (s : Shared) (H : Hp) (vs : List V) (Q : VK) (E : XK), Room k (A.deeper (envOfC qual (zd st) s.heap.objs.size f cdv)) -> sp vs H Q E →
   ∃ t, PSs (yh (CXE P w) P w K mg base N qual (zd st) f cdv A outer s H E) (zk st) t /\ t { nx := fun _ H' => Q .non H', rt := Q } (yt N vs) H) : CalMX P w K mg base (k + 1) C m ps sp := by
 obtain ⟨f, fd, F, b, m⟩ := D.ex
 obtain ⟨oc, od, kV, doc, pm, an, cdv, ct, osl, rfl, lk, hcd⟩ := F.ex
 exact ⟨f, _, m, b, qW lk hcd S len fun A outer s H vs Q E hr hsp => hbody f cdv A outer s H vs Q E hr hsp⟩
end
abbrev TX := St -> Hp -> VK -> XK -> Prop
def PX (X : Cx) (e : Expr) (t : TX) : Prop :=
 ∀ (pins : Pq) (s : Shared) (σ : St) (H : Hp) (Q : VK) (E : XK), Inv X pins σ H s -> t σ H Q E -> wpAny (model X.prog X.w) X.A (eval e X.env) (EP X pins σ Q) (XP X pins σ E) s
section
variable {X : Cx} {k : Nat} {f C : Addr} {fd : FuncData} {ps : List Str} {sp : Sp} {E : XK} {x m : Str} {p pos apos : Pos} {e o : Expr} {es : List Expr} {ta te : TE} {t : TA} {tx : TX}
theorem PX.pe {P : Program} {w : World} {K : Fq} {mg : Mq} {base : Heap} {N : List Str} {qual : Str} {scope : Scope} {cd : Value} {A : Around} {outer : List Env} {s : Shared} {H : Hp}
  (h : PX (yh (CXE P w) P w K mg base N qual scope f cd A outer s H E) e tx) : PE (yh (CXE P w) P w K mg base N qual scope f cd A outer s H E) e (fun σ H Q => tx σ H Q E) :=
 fun pins s σ H Q I q => wpAny_mono (h pins s σ H Q E I q) (fun _ _ z => z) fun _ _ z => z.leave
theorem zd5 {pins : Pq} {σ : St} {H : Hp} {s : Shared} {Q : VK} {us : List Value} {vs : List V} (F : FnOk X.prog X.w X.K X.mg X.base (CXE X.prog X.w) k f fd ps sp) (hr : Room k X.A) (hb : Binds X.K fd ps []) (hex : X.ex = [])
  (I : Inv X pins σ H s) (r : Vals vs us) (h : sp vs H Q E) : wpAny (model X.prog X.w) X.A (call (.ref f) us) (EP X pins σ Q) (XP X pins σ E) s := by
 have hl : (us ++ []).length = ps.length := by rw [List.append_nil, <- r.length]; exact F.len _ _ _ _ h
 have hb' := hb s us I.kIn hl
 rw [List.append_nil] at hb'
 refine wpAny_call (codeAny_mono (F.run X.A X.stack s H ⟨us, []⟩ us vs Q E hr I.env0 hb' r h) fun r s' hq => ?_)
 cases r with
 | error e => exact I.xp hex hq
 | ok fl =>
  cases fl with
  | ret u => exact I.after hq
  | next => exact False.elim hq
  | brk => exact False.elim hq
  | cont => exact False.elim hq
theorem jQ (F : CalX X.prog X.w X.K X.mg X.base k x ps sp) (hr : Room k X.A) (hex : X.ex = []) (hg : Gl X x) (ha : PA X.nox (e :: es) t) (hdb : (x == ("__debug__" : Str)) = false := by decide) (he : starEach (e :: es) X.env = (false, eval e X.env) :: starEach es X.env := by rfl) (hpl : (backTo pos (starEach es X.env)).any (·.1) = false := by rfl) :
  PX X (.Call (.Name x p) (e :: es) [] pos) (fun σ H Q E => t σ H fun vs H1 => sp vs H1 Q E) := by
 obtain ⟨f, fd, hm, hk, hb, F⟩ := F.ex
 intro pins s σ H Q E I h
 refine wpAny_Call_Name_kw (yT I hg hm ?_ hdb)
 refine PySem.W.callWith_K (h₀ := X.base) I.ok.mod.kin hk (wpAny_mono (ha pos pins s σ H _ (I.wish _) h) (fun us s1 ⟨vs, H1, I1, r, q⟩ => ⟨I1.unwish.kIn, ?_⟩) fun _ _ z => z.elim) he hpl
 exact zd5 F hr hb hex I1.unwish r q
abbrev TSX := Ends -> XK -> St -> Hp -> Prop
def PSx (X : Cx) (st : Stmt) (t : TSX) : Prop :=
 ∀ (pins : Pq) (s : Shared) (σ : St) (H : Hp) (D : Ends) (E : XK), Inv X pins σ H s -> t D E σ H -> wpAny (model X.prog X.w) X.A (exec st X.env) (SP X pins D) (XP X pins σ E) s
theorem zct (he : PX X e tx) (hs : swapsWith e none pos.line X.env = pure false := by rfl) : PSx X (.Expr e pos) (fun D E σ H => tx σ H (fun _ H1 => D.nx σ H1) E) := by
 intro pins s σ H D E I h
 exact wpAny_Expr_any (thn (he pins s σ H _ E I h) fun v s1 ⟨x, H1, I1, r1, q1⟩ => ⟨σ, H1, I1, q1⟩) I.quiet hs
end
def Cx.inX (X : Cx) (e : Addr) (o : Obj) : Cx := { X with A := X.A.mark (some (.ref e)), calm := false, pn := X.pn ++ [(e, o)], xe := fun _ _ => False }
def HdX (X : Cx) : Prop := X.A.handled = none \/ ∃ e cls t tb, X.A.handled = some (.ref e) /\ (e, yF cls t tb) ∈ X.pn
section
variable {X : Cx} {pins : Pq} {σ : St} {H : Hp} {s : Shared} {e : Addr} {o : Obj}
theorem zeR {cls t tb : Value} : HdX (X.inX e (yF cls t tb)) := .inr ⟨e, cls, t, tb, rfl, by simp [Cx.inX]⟩
theorem Inv.inX (I : Inv X pins σ H s) (he : s.heap.get? e = some o) (hd : ∃ vs, o.data = .fields vs) (hn : H e = none) : Inv (X.inX e o) pins σ H s := by
 obtain ⟨vs, hd⟩ := hd
 have ok := I.ok
 refine ⟨⟨ok.mod, ok.kind, ok.glob, ok.blt, ok.above, ok.inj, ok.has, ok.cab, (fun z => nomatch z), ok.frames, ok.stk, ok.exf, ok.bs, ok.bsz, ok.noex, ok.exfs, ok.funs, ok.frf⟩, I.os, I.bare, I.base, I.loc, I.cell, I.free, I.freeC, fun p hp => ?_, I.hok, I.len⟩
 rcases List.mem_append.mp hp with z | z
 ·rcases List.mem_append.mp z with z | z
  ·exact I.pin p (List.mem_append_left _ z)
  ·have z : p = (e, o) := by simpa using z
   subst z
   refine ⟨he, hn, fun z => ?_, fun z => ?_, fun v z => ?_⟩
   ·obtain ⟨m, ⟨o', es, ep, ho, hd', _⟩, _⟩ := I.loc
    rw [<- show e = X.env.locals from z, he] at ho
    cases ho
    rw [hd] at hd'
    cases hd'
   ·obtain ⟨_, o', ho, nf⟩ := I.funs.mem z
    rw [he] at ho
    cases ho
    exact nf _ hd
   ·rw [hd] at z
    cases z
 ·exact I.pin p (List.mem_append_right _ z)
theorem Inv.ofX (I : Inv (X.inX e o) pins σ H s) (hd : X.calm = true -> X.A.handled = none) : Inv X pins σ H s := by
 have ok := I.ok
 exact ⟨⟨ok.mod, ok.kind, ok.glob, ok.blt, ok.above, ok.inj, ok.has, ok.cab, hd, ok.frames, ok.stk, ok.exf, ok.bs, ok.bsz, ok.noex, ok.exfs, ok.funs, ok.frf⟩, I.os, I.bare, I.base, I.loc, I.cell, I.free, I.freeC, fun p hp => I.pin p (by
  rcases List.mem_append.mp hp with z | z
  ·exact List.mem_append_left _ (List.mem_append_left _ z)
  ·exact List.mem_append_right _ z), I.hok, I.len⟩
end
structure RoomH (k : Nat) (A : Around) : Prop where
 dp : A.depth + 3 * k + 5 < recursionLimit
 un : A.units + 16 * k + 200 < cLine
section
variable {k j : Nat} {A : Around}
theorem Room.h (r : Room k A) : RoomH k A := ⟨r.dp, r.un⟩
theorem RoomH.mono (r : RoomH k A) (h : j <= k) : RoomH j A := ⟨by have := r.dp; omega, by have := r.un; omega⟩
theorem RoomH.deeper (r : RoomH (k + 1) A) (env : Env) : RoomH k (A.deeper env) :=
 ⟨by have := r.dp; show A.depth + 1 + 3 * k + 5 < _; omega, by have := r.un; show A.units + 3 + 16 * k + 200 < _; omega⟩
theorem RoomH.depth (r : RoomH k A) : A.depth < recursionLimit := by have := r.dp; omega
theorem RoomH.mark (r : RoomH k A) (v : Option Value) : RoomH k (A.mark v) := ⟨r.dp, r.un⟩
end
theorem withR {k : Nat} {A : Around} {P : Prop} (h : RoomH k A) (f : RoomH k A -> P) : P := f h
def HdAt (A : Around) (h : Heap) (H : Hp) : Prop := A.handled = none \/ ∃ e cls t tb, A.handled = some (.ref e) /\ h.get? e = some (yF cls t tb) /\ H e = none
def jR (A : Around) (h : Heap) : Pq := match A.handled with
 | some (.ref e) => (match h.get? e with | some o => [(e, o)] | none => [])
 | _ => []
section
variable {P : Program} {w : World} {K : Fq} {mg : Mq} {base : Heap} {k j : Nat} {f C : Addr} {fd : FuncData} {ps N : List Str} {sp sp' : Sp} {x m qual : Str} {st : Stmt}
def cxH (P : Program) (w : World) (K : Fq) (mg : Mq) (base : Heap) (N : List Str) (qual : Str) (scope : Scope) (f : Addr) (cd : Value) (A : Around) (outer : List Env) (s : Shared) (H : Hp) : Cx :=
 { yh CX0 P w K mg base N qual scope f cd A outer s H E0 with calm := false, pn := jR A s.heap, xe := fun _ _ => False }
theorem wV {scope : Scope} {cd : Value} {A : Around} {outer : List Env} {s s1 : Shared} {H : Hp} {us : List Value} {vs : List V}
  (S : zm N ps scope) (hd : HdAt A s.heap H) (e0 : Env0 P w K mg base A outer s H) (hl : vs.length = ps.length) (r : Vals vs us)
  (x : InCallC s s.heap.objs.size (bindL (envOfC qual scope s.heap.objs.size f cd).kindOf (ps.zip us) fun _ => none) (cellsFrom (s.heap.objs.size + 1) scope.names []) (bindC (envOfC qual scope s.heap.objs.size f cd).kindOf (ps.zip us) fun _ => none) s1) :
  Inv (cxH P w K mg base N qual scope f cd A outer s H) [] (yt N vs) H s1 := by
 have e0' : Env0 P w K mg base { A with handled := none } outer s H := ⟨e0.frames, e0.mod, e0.bs, e0.bsz, e0.funs, e0.frf, e0.hok, e0.bare⟩
 have I : Inv (yh CX0 P w K mg base N qual scope f cd { A with handled := none } outer s H E0) [] (yt N vs) H s1 := qV S rfl e0' hl r x
 have ok := I.ok
 refine ⟨⟨ok.mod, ok.kind, ok.glob, ok.blt, ok.above, ok.inj, ok.has, ok.cab, (fun z => nomatch z), ok.frames, ok.stk, ok.exf, ok.bs, ok.bsz, ok.noex, ok.exfs, ok.funs, ok.frf⟩, I.os, I.bare, I.base, I.loc, I.cell, I.free, I.freeC, fun p hp => ?_, I.hok, I.len⟩
 obtain ⟨h1, tk, rfl, hk⟩ := x.done
 have hp : p ∈ jR A s.heap := by simpa [cxH] using hp
 rcases hd with z | ⟨e, cls, t, tb, a, b, c⟩
 ·unfold jR at hp
  rw [z] at hp
  simp at hp
 ·unfold jR at hp
  rw [a] at hp
  dsimp only at hp
  rw [b] at hp
  have hp : p = (e, yF cls t tb) := by simpa using hp
  subst hp
  refine ⟨hk _ _ b, c, Nat.ne_of_lt (Heap.lt_size b), fun z => ?_, fun v z => nomatch z⟩
  obtain ⟨_, o, ho, nf⟩ := e0.funs.mem z
  rw [b] at ho
  cases ho
  exact nf _ rfl
end
section
variable {X : Cx} {k : Nat} {f C : Addr} {fd : FuncData} {ps : List Str} {sp : Sp} {x m : Str} {p pos apos : Pos} {e o tg : Expr} {es : List Expr} {ta : TE} {t : TA}
end
end L2
set_option maxHeartbeats 4000000
namespace Np
open L2 PySem
structure KeptAt (H : Hp) (D : Addr) (as : List Addr) (kt : List (List Int)) : Prop where
 ls : H D = some (.lst (as.map V.ref))
 len : as.length = kt.length
 at_ : ∀ i, i < kt.length -> H (as.getD i 0) = some (.lst ((kt.getD i []).map V.int))
theorem KeptAt.frame {H H' : Hp} {D : Addr} {as : List Addr} {kt : List (List Int)} (k : KeptAt H D as kt) (s : ∀ b o, b ∈ D :: as -> H b = some o -> H' b = some o) : KeptAt H' D as kt :=
 ⟨s _ _ (by simp) k.ls, k.len, fun i hi => s _ _ (List.mem_cons_of_mem _ (xx (by rw [k.len]; exact hi))) (k.at_ i hi)⟩
theorem KeptAt.same {H H' : Hp} {D : Addr} {as : List Addr} {kt : List (List Int)} (k : KeptAt H D as kt) (s : Same H H') : KeptAt H' D as kt := k.frame fun b o _ e => s b o e
section
variable {T : Cl} {B H H' : Hp} {x : Addr} {own own' : List Addr} {M M' : Mo} {D : Addr} {as : List Addr} {kt : List (List Int)} {r : Addr} {rs : List Int}
end
end Np
namespace L2
open PySem PySem.Spec PyProof.Rows
section
variable {X : Cx}
theorem kg (hc : X.calm = true) : xS X (.builtin "min") (fun xs H Q => ∃ (a : Addr) (ns : List Int), xs = [.ref a] /\ SqL X.K H a (ns.map V.int) /\ 0 < ns.length /\ ∀ i, i ∈ ns -> (∀ j ∈ ns, i <= j) -> Q (.int i) H) := by
 rintro pins s σ H xs us Q I r ⟨a, ns, rfl, h, h0, q⟩
 obtain ⟨u, rfl, ru⟩ := ju r
 cases (show u = .ref a from ru)
 obtain ⟨its, hv, pl, hz⟩ := I.list h
 have hi := qp hv
 obtain ⟨ys, e⟩ := hi.allInts.items
 have hns : ns = ys.toList.map (·.1) := by rw [<- hi.numsOf, <- nums_intItems, <- e]
 have hsz : 0 < ys.size := by
  have h3 := h0
  rw [hns, List.length_map, Array.length_toList] at h3
  exact h3
 have hl : s.heap.IsList a (intItems ys) := e ▸ pl.isList
 refine min_intList (I.ok.hd hc) hl hsz fun v h' tk hv hk => ?_
 obtain ⟨t, rfl⟩ := intItems_at hv
 obtain ⟨h1, h2⟩ := argBest_lt (numAt ys) (ys.size - 1)
 refine ⟨.int _, H, I.kept hk, ⟨_, rfl⟩, q _ ?_ fun j hj => ?_⟩
 ·rw [hns, numAt_eq]; exact getD_mem (by rw [List.length_map, Array.length_toList]; omega)
 ·rw [hns] at hj
  obtain ⟨k, hk', rfl⟩ := mem_getD hj
  rw [List.length_map, Array.length_toList] at hk'
  rw [<- numAt_eq]; exact h2 k (by omega)
end
end L2
namespace Np
open L2 PySem
structure zeq (H1 H : Hp) (D : Addr) (as : List Addr) (rows : List (List Int)) : Prop where
 kp : KeptAt H D as rows
 sm : Same H1 H
 nd : (D :: as).Nodup
 fr : ∀ b ∈ D :: as, H1 b = none
theorem zcu {J : It} {n : Nat} {cv : St} {te : TE} {D : Addr} {H1 : Hp} {Q : VK} (xs : Nat -> V) (row : Nat -> List Int) (hz : n <= sizeLine) (hD : H1 D = none)
  (hgo : ∀ i H', i < n -> Same H1 H' -> J.go i H' /\ ∀ y H2, J.yld i H' y H2 -> y = xs i /\ H2 = H')
  (hst : ∀ H', Same H1 H' -> J.stop n H')
  (hs : ∀ i H' (R : VK), i < n -> Same H1 H' -> (∀ p, H' p = none -> R (.ref p) (upd H' p (.lst ((row i).map V.int)))) -> te (some (xs i) :: cv) H' R)
  (hd : ∀ as H', zeq H1 H' D as ((List.range n).map row) -> Q (.ref D) H') : tCompB J cv jP te D H1 Q := by
 refine ⟨fun i m H' => m = n - i /\ i <= n /\ ∃ as, zeq H1 H' D as ((List.range i).map row), ⟨n, by simp, Nat.zero_le _, [], ⟨zh, rfl, fun i hi => absurd hi (Nat.not_lt_zero _)⟩, zB hD, by simp, fun b hb => by
  have : b = D := by simpa using hb
  rw [this]; exact hD⟩, ?_⟩
 rintro i m H' ⟨rfl, hi, as, T⟩
 have la : as.length = i := by rw [T.kp.len]; simp
 by_cases hlt : i < n
 ·obtain ⟨g, y⟩ := hgo i H' hlt T.sm
  refine .inr ⟨g, fun x H2 hy => ?_⟩
  obtain ⟨rfl, rfl⟩ := y x H2 hy
  unfold jP
  dsimp only
  rw [if_pos rfl]
  refine hs i _ _ hlt T.sm fun p hp => ?_
  have npD : p ≠ D := fun z => by rw [z, T.kp.ls] at hp; cases hp
  have hD' : upd H2 p (.lst ((row i).map V.int)) D = some (.lst (as.map V.ref)) := zF T.kp.ls hp
  refine ⟨_, hD', by rw [List.length_map]; omega, n - (i + 1), by omega, rfl, hlt, as ++ [p], ⟨by rw [zh, List.map_append]; rfl, by simp [la], fun j hj => ?_⟩, fun b o e => ?_, ?_, fun b hb => ?_⟩
  ·rw [List.length_map, List.length_range] at hj
   by_cases hji : j < i
   ·have a1 : (as ++ [p]).getD j 0 = as.getD j 0 := by rw [List.getD_eq_getElem?_getD, List.getElem?_append_left (by omega), List.getD_eq_getElem?_getD]
    have q := T.kp.at_ j (by simpa using hji)
    have nD : as.getD j 0 ≠ D := fun z => (List.nodup_cons.mp T.nd).1 (by rw [<- z]; exact xx (by omega))
    have a2 : ((List.range (i + 1)).map row).getD j [] = row j := by rw [List.getD_eq_getElem?_getD, List.getElem?_map, List.getElem?_range (by omega)]; rfl
    have a3 : ((List.range i).map row).getD j [] = row j := by rw [List.getD_eq_getElem?_getD, List.getElem?_map, List.getElem?_range (by omega)]; rfl
    rw [a3] at q
    rw [a1, a2, zj nD]
    exact zF q hp
   ·have ej : j = i := by omega
    subst ej
    have a1 : (as ++ [p]).getD j 0 = p := by rw [List.getD_eq_getElem?_getD, List.getElem?_append_right (by omega), la, Nat.sub_self]; rfl
    have a2 : ((List.range (j + 1)).map row).getD j [] = row j := by rw [List.getD_eq_getElem?_getD, List.getElem?_map, List.getElem?_range (by omega)]; rfl
    rw [a1, a2, zj npD]
    exact zh
  ·rw [zj (zu e hD)]
   exact zF (T.sm b o e) hp
  ·rw [<- List.cons_append]
   refine List.nodup_append.mpr ⟨T.nd, by simp, fun a ha b hb => ?_⟩
   have eb : b = p := by simpa using hb
   subst eb
   rcases List.mem_cons.mp ha with z | z
   ·rw [z]; exact npD.symm
   ·obtain ⟨j, hj, ej⟩ := List.getElem_of_mem z
    have q := T.kp.at_ j (by rw [<- T.kp.len]; exact hj)
    rw [List.getD_eq_getElem?_getD, List.getElem?_eq_getElem hj] at q
    rw [<- ej]
    exact zu q hp
  ·rcases List.mem_cons.mp hb with z | z
   ·rw [z]; exact hD
   ·rcases List.mem_append.mp z with y | y
    ·exact T.fr b (List.mem_cons_of_mem _ y)
    ·have eb : b = p := by simpa using y
     rw [eb]
     exact T.sm.free hp
 ·have e : i = n := by omega
  subst e
  exact .inl ⟨hst _ T.sm, hd as _ T⟩
theorem zcv {K : Fq} {a : Addr} {xs : List V} {H1 : Hp} (h : SqL K H1 a xs) : (∀ i H', i < xs.length -> Same H1 H' -> (Itl K a).go i H' /\ ∀ y H2, (Itl K a).yld i H' y H2 -> y = xs.getD i .non /\ H2 = H') /\ ∀ H', Same H1 H' -> (Itl K a).stop xs.length H' := by
 refine ⟨fun i H' hi s => ?_, fun H' s => ⟨xs, Same.seq s h, Nat.le_refl _⟩⟩
 have e : xs[i]? = some (xs.getD i .non) := by rw [List.getD_eq_getElem?_getD, List.getElem?_eq_getElem hi]; rfl
 refine ⟨⟨xs, _, Same.seq s h, e⟩, fun y H2 hh => ⟨?_, hh.1⟩⟩
 have := hh.2 xs (Same.seq s h)
 rw [e] at this
 exact (Option.some.inj this).symm
structure TabL (K : Fq) (H : Hp) (a : Addr) (as : List Addr) (rows : List (List Int)) : Prop where
 ls : SqL K H a (as.map V.ref)
 len : as.length = rows.length
 at_ : ∀ i, i < rows.length -> SqL K H (as.getD i 0) ((rows.getD i []).map V.int)
theorem KeptAt.tab {K : Fq} {H : Hp} {a : Addr} {as : List Addr} {rows : List (List Int)} (k : KeptAt H a as rows) : TabL K H a as rows := ⟨.of k.ls, k.len, fun i hi => .of (k.at_ i hi)⟩
theorem TabL.ix {K : Fq} {H : Hp} {a : Addr} {as : List Addr} {rows : List (List Int)} (t : TabL K H a as rows) {i : Int} (h0 : 0 <= i) (h1 : i < (rows.length : Int)) : atI (as.map V.ref) i = some (.ref (as.getD i.toNat 0)) := by
 have e : i = ((i.toNat : Nat) : Int) := by omega
 have := qg (yU (ls := as) (i := i.toNat) (by rw [t.len]; omega))
 rw [<- e] at this
 exact this
theorem TabL.rowZ {K : Fq} {H : Hp} {a : Addr} {as : List Addr} {rows : List (List Int)} (t : TabL K H a as rows) {i : Int} (h0 : 0 <= i) (h1 : i < (rows.length : Int)) : SqL K H (as.getD i.toNat 0) ((rows.getD i.toNat []).map V.int) := t.at_ _ (by omega)
theorem zcw {as : List Addr} {i : Nat} {y : V} (h : (as.map V.ref)[i]? = some y) : i < as.length /\ y = .ref (as.getD i 0) := by
 have hi : i < as.length := by
  have := (List.getElem?_eq_some_iff.mp h).1
  simpa using this
 rw [yU hi] at h
 exact ⟨hi, (Option.some.inj h).symm⟩
structure qf (ns : List Int) : Prop where
 g : GoodC ns
 one : ∀ c ∈ ns, 1 <= c
structure vJ (prior : List Int) (given back : List (List Int)) : Prop where
 p : qf prior
 g0 : given.length = prior.length
 gr : ∀ i, i < given.length -> qf (given.getD i []) /\ (given.getD i []).length = back.length
 br : ∀ i, i < back.length -> qf (back.getD i []) /\ (back.getD i []).length = prior.length
section
variable {prior : List Int} {given back : List (List Int)}
end
theorem zcx {α : Type} {n i : Nat} (f : Nat -> List α) (h : i < n) : ((List.range n).map f).getD i [] = f i := by
 rw [List.getD_eq_getElem?_getD, List.getElem?_map, List.getElem?_range h]
 rfl
structure zd6 (K : Fq) (C : Addr) : Prop where
 cl : Cls K C
 nKept : NoAttr K C "kept"
 nBase : NoAttr K C "base"
 nGrain : NoAttr K C "grain"
 nLow : NoAttr K C "low"
 nNumber : NoAttr K C "number"
 nWords : NoAttr K C "words"
structure zeS (K : Fq) (C : Addr) : Prop where
 cl : Cls K C
 nKept : NoAttr K C "kept"
 nTotal : NoAttr K C "total"
 nSigns : NoAttr K C "signs"
 nPlaces : NoAttr K C "places"
 nNumbers : NoAttr K C "numbers"
theorem wW {K : Fq} {fd : FuncData} {ps : List Str} (hp : ps.length = 4) (h : ∀ (s : Shared) (a b c d : Value), K.In s.heap -> BindsTo s fd ⟨[a, b, c, d], []⟩ (ps.zip [a, b, c, d])) : Binds K fd ps [] := fun s us hK hl => by
 have e : us.length = 4 := by rw [List.append_nil, hp] at hl; exact hl
 match us, e with
 | [a, b, c, d], _ => exact h s a b c d hK
theorem vK {K : Fq} {fd : FuncData} {ps : List Str} {d : Value} (hp : ps.length = 4) (h : ∀ (s : Shared) (a b c : Value), K.In s.heap -> BindsTo s fd ⟨[a, b, c], []⟩ (ps.zip [a, b, c, d])) : Binds K fd ps [d] := fun s us hK hl => by
 have e : us.length = 3 := by rw [List.length_append, hp] at hl; simpa using hl
 match us, e with
 | [a, b, c], _ => exact h s a b c hK
end Np
namespace Np
open L2 PySem
end Np
namespace L2
open PySem PySem.Spec PyProof.Rows
section
variable {X : Cx}
theorem zaC : PIp X .FloorDiv (fun x y H Q => ∃ i j, x = .int i /\ y = .int j /\ CDiv i j /\ Q (.int (i / j)) H) := by
 rintro pins s σ H x y v u Q I rx ry ⟨i, j, rfl, rfl, hc, q⟩
 exact zbX pins s σ H _ _ v u Q I rx ry ⟨i, j, rfl, rfl, hc, q⟩
end
end L2
namespace Np
open L2 PySem
section
variable {b bd : Int} (hb : 2 <= b) (hd : 0 < bd)
include hb
end
def xo (b lo : Int) : List Int -> Int -> Option (Int × List Int)
 | [], n => if n < lo then none else some (n, [])
 | w :: r, n => if n < lo then xo b lo r (b * n + w) else some (n, w :: r)
theorem vL {b lo n : Int} (h : lo <= n) : ∀ (r : List Int), xo b lo r n = some (n, r)
 | [] => by unfold xo; rw [if_neg (by omega)]
 | w :: r => by unfold xo; rw [if_neg (by omega)]
structure SOk (cs : List Int) (b g n : Int) (ws : List Int) : Prop where
 gc : GoodC cs
 b0 : 2 <= b
 b1 : b <= 1000
 g0 : 1 <= g
 g1 : g <= 100
 n0 : g * cs.sum <= n
 n1 : n < g * cs.sum * b
 wr : ∀ w ∈ ws, 0 <= w /\ w < b
def jS (cs : List Int) (b g n : Int) (ws : List Int) : Option (Int × List Int) := xo b (g * cs.sum) ws.reverse (yD cs n)
section
variable {cs : List Int} {b g n : Int} {ws : List Int}
theorem zeT {cs : List Int} (g : GoodC cs) {k : Nat} (h : k < cs.length) : cs.getD k 0 <= cs.sum := by
 have h1 := yx g.rng (i := 0) (j := k) (Nat.zero_le _) (by omega)
 have h2 := yx g.rng (i := k + 1) (j := cs.length) (by omega) (Nat.le_refl _)
 rw [yB] at h1
 rw [yH h, xa] at h2
 omega
theorem SOk.low (o : SOk cs b g n ws) : 0 < g * cs.sum := Int.mul_pos (by have := o.g0; omega) o.gc.pos
theorem SOk.off (o : SOk cs b g n ws) : yD cs n < g * cs.sum * b /\ 0 <= n := by
 have sp := o.gc.pos
 have n0 := o.n0
 have lo := o.low
 obtain ⟨k1, k2, k3⟩ := jx o.gc n
 have le := zeT o.gc k1
 have ps := qs o.gc n
 have e2 : g * cs.sum * b = g * b * cs.sum := by rw [Int.mul_assoc, Int.mul_comm cs.sum, Int.mul_assoc]
 have n1 := o.n1
 have q2 : n / cs.sum < g * b := Int.ediv_lt_of_lt_mul sp (by omega)
 refine ⟨?_, by omega⟩
 have e : yD cs n = n / cs.sum * cs.getD (takeS cs n) 0 + n % cs.sum - first cs (takeS cs n) := rfl
 rw [e]
 have h1 := Int.mul_le_mul_of_nonneg_right (show n / cs.sum + 1 <= g * b by omega) (show 0 <= cs.getD (takeS cs n) 0 by omega)
 rw [Int.add_mul, Int.one_mul] at h1
 have gb : 0 <= g * b := Int.mul_nonneg (by have := o.g0; omega) (by have := o.b0; omega)
 have h2 := Int.mul_le_mul_of_nonneg_left le gb
 omega
theorem kh (gc : GoodC cs) (b0 : 2 <= b) (b1 : b <= 1000) (g0 : 1 <= g) (g1 : g <= 100) : SOk cs b g (g * cs.sum) [] := by
 have lo : 0 < g * cs.sum := Int.mul_pos (by omega) gc.pos
 have : g * cs.sum * 2 <= g * cs.sum * b := Int.mul_le_mul_of_nonneg_left b0 (by omega)
 exact ⟨gc, b0, b1, g0, g1, by omega, by omega, fun w hw => by simp at hw⟩
end
def xG (b g lo n : Int) (kl wl : Addr) : List (Str × V) := [("kept", .ref kl), ("base", .int b), ("grain", .int g), ("low", .int lo), ("number", .int n), ("words", .ref wl)]
section
variable (b g lo n n' : Int) (kl wl : Addr)
theorem zaD : (xG b g lo n kl wl).lookup ("kept" : Str) = some (.ref kl) := z7
theorem zaE : (xG b g lo n kl wl).lookup ("base" : Str) = some (.int b) := by unfold xG; rw [zn (by decide +kernel), z7]
theorem zcy : (xG b g lo n kl wl).lookup ("grain" : Str) = some (.int g) := by unfold xG; rw [zn (by decide +kernel), zn (by decide +kernel), z7]
theorem zeU : (xG b g lo n kl wl).lookup ("low" : Str) = some (.int lo) := by unfold xG; rw [zn (by decide +kernel), zn (by decide +kernel), zn (by decide +kernel), z7]
theorem za2 : (xG b g lo n kl wl).lookup ("number" : Str) = some (.int n) := by unfold xG; rw [zn (by decide +kernel), zn (by decide +kernel), zn (by decide +kernel), zn (by decide +kernel), z7]
theorem jz : (xG b g lo n kl wl).lookup ("words" : Str) = some (.ref wl) := by unfold xG; rw [zn (by decide +kernel), zn (by decide +kernel), zn (by decide +kernel), zn (by decide +kernel), zn (by decide +kernel), z7]
theorem zeV : (xG b g lo n kl wl).lookup ("lay_sign" : Str) = none := by unfold xG; rw [zn (by decide +kernel), zn (by decide +kernel), zn (by decide +kernel), zn (by decide +kernel), zn (by decide +kernel), zn (by decide +kernel)]; rfl
theorem zd7 : (xG b g lo n kl wl).lookup ("take_sign" : Str) = none := by unfold xG; rw [zn (by decide +kernel), zn (by decide +kernel), zn (by decide +kernel), zn (by decide +kernel), zn (by decide +kernel), zn (by decide +kernel)]; rfl
theorem vM : yA "number" (.int n') (xG b g lo n kl wl) = xG b g lo n' kl wl := by
 unfold xG
 rw [zJ (by decide +kernel), zJ (by decide +kernel), zJ (by decide +kernel), zJ (by decide +kernel), zd1]
theorem za3 : yA "base" (.int b) ([("kept", .ref kl)] : List (Str × V)) = ([("kept", .ref kl), ("base", .int b)] : List (Str × V)) := by rw [zJ (by decide +kernel)]; rfl
theorem wX : yA "grain" (.int g) ([("kept", .ref kl), ("base", .int b)] : List (Str × V)) = ([("kept", .ref kl), ("base", .int b), ("grain", .int g)] : List (Str × V)) := by rw [zJ (by decide +kernel), zJ (by decide +kernel)]; rfl
theorem zcz : yA "low" (.int lo) ([("kept", .ref kl), ("base", .int b), ("grain", .int g)] : List (Str × V)) = ([("kept", .ref kl), ("base", .int b), ("grain", .int g), ("low", .int lo)] : List (Str × V)) := by rw [zJ (by decide +kernel), zJ (by decide +kernel), zJ (by decide +kernel)]; rfl
theorem za4 : yA "number" (.int n) ([("kept", .ref kl), ("base", .int b), ("grain", .int g), ("low", .int lo)] : List (Str × V)) = ([("kept", .ref kl), ("base", .int b), ("grain", .int g), ("low", .int lo), ("number", .int n)] : List (Str × V)) := by rw [zJ (by decide +kernel), zJ (by decide +kernel), zJ (by decide +kernel), zJ (by decide +kernel)]; rfl
theorem wY : yA "words" (.ref wl) ([("kept", .ref kl), ("base", .int b), ("grain", .int g), ("low", .int lo), ("number", .int n)] : List (Str × V)) = xG b g lo n kl wl := by rw [zJ (by decide +kernel), zJ (by decide +kernel), zJ (by decide +kernel), zJ (by decide +kernel), zJ (by decide +kernel)]; rfl
theorem za5 : ([("kept", .ref kl), ("base", .int b), ("grain", .int g), ("low", .int lo)] : List (Str × V)).lookup ("low" : Str) = some (.int lo) := by rw [zn (by decide +kernel), zn (by decide +kernel), zn (by decide +kernel), z7]
end
structure StAt (C : Addr) (H : Hp) (x kl wl : Addr) (cs : List Int) (b g n : Int) (ws : List Int) : Prop where
 ob : ∃ dx, H x = some (.ins C dx (xG b g (g * cs.sum) n kl wl))
 kp : H kl = some (.lst (cs.map V.int))
 wd : H wl = some (.lst (ws.map V.int))
 ne : kl ≠ wl
theorem StAt.frame {C : Addr} {H H' : Hp} {x kl wl : Addr} {cs : List Int} {b g n : Int} {ws : List Int} (p : StAt C H x kl wl cs b g n ws) (s : ∀ a o, a = x \/ a = kl \/ a = wl -> H a = some o -> H' a = some o) : StAt C H' x kl wl cs b g n ws :=
 let ⟨⟨dx, e⟩, k, w, n⟩ := p
 ⟨⟨dx, s _ _ (.inl rfl) e⟩, s _ _ (.inr (.inl rfl)) k, s _ _ (.inr (.inr rfl)) w, n⟩
theorem StAt.same {C : Addr} {H H' : Hp} {x kl wl : Addr} {cs : List Int} {b g n : Int} {ws : List Int} (p : StAt C H x kl wl cs b g n ws) (s : Same H H') : StAt C H' x kl wl cs b g n ws := p.frame fun a o _ e => s a o e
theorem StAt.nxk {C : Addr} {H : Hp} {x kl wl : Addr} {cs : List Int} {b g n : Int} {ws : List Int} (p : StAt C H x kl wl cs b g n ws) : x ≠ kl := let ⟨dx, e⟩ := p.ob; xR e p.kp (by intro z; cases z)
theorem StAt.nxw {C : Addr} {H : Hp} {x kl wl : Addr} {cs : List Int} {b g n : Int} {ws : List Int} (p : StAt C H x kl wl cs b g n ws) : x ≠ wl := let ⟨dx, e⟩ := p.ob; xR e p.wd (by intro z; cases z)
def qw (H : Hp) (x : Addr) : Nat :=
 match H x with
 | some (.lst xs) => xs.length
 | _ => 0
theorem ki {H : Hp} {x : Addr} {xs : List V} (e : H x = some (.lst xs)) : qw H x = xs.length := by unfold qw; rw [e]
theorem qP {ws : List Int} {l : Nat} (h : l < ws.length) : (ws.take (l + 1)).reverse = ws.getD l 0 :: (ws.take l).reverse := by
 rw [List.take_succ, List.getElem?_eq_getElem h, List.reverse_append, List.getD_eq_getElem?_getD, List.getElem?_eq_getElem h]
 rfl
theorem wZ {ws : List Int} {j : Nat} (h : j + 1 <= ws.length) : (ws.take (j + 1)).dropLast = ws.take j := by
 rw [List.dropLast_eq_take, List.length_take, List.take_take]
 congr 1
 omega
end Np
namespace L2
theorem us1 {α : Type} {P : List α -> Prop} (h : ∀ a0, P [a0]) : ∀ us : List α, us.length = 1 -> P us
 | [a0], _ => h a0
theorem us2 {α : Type} {P : List α -> Prop} (h : ∀ a0 a1, P [a0, a1]) : ∀ us : List α, us.length = 2 -> P us
 | [a0, a1], _ => h a0 a1
theorem us3 {α : Type} {P : List α -> Prop} (h : ∀ a0 a1 a2, P [a0, a1, a2]) : ∀ us : List α, us.length = 3 -> P us
 | [a0, a1, a2], _ => h a0 a1 a2
theorem us4 {α : Type} {P : List α -> Prop} (h : ∀ a0 a1 a2 a3, P [a0, a1, a2, a3]) : ∀ us : List α, us.length = 4 -> P us
 | [a0, a1, a2, a3], _ => h a0 a1 a2 a3
theorem us5 {α : Type} {P : List α -> Prop} (h : ∀ a0 a1 a2 a3 a4, P [a0, a1, a2, a3, a4]) : ∀ us : List α, us.length = 5 -> P us
 | [a0, a1, a2, a3, a4], _ => h a0 a1 a2 a3 a4
end L2
namespace Np
open L2 PySem
def ext (R H' : Hp) (l : List Addr) : Hp := fun b => if b ∈ l then H' b else R b
end Np
namespace L2
open PySem PySem.Spec PyProof.Rows
section
variable {X : Cx} {k : Nat} {m : Str} {ps : List Str} {pos apos : Pos} {e o : Expr} {ta : TE}
end
section
variable {X : Cx}
end
end L2
namespace Np
open L2 PySem
section
variable {T : Cl} {R H H' : Hp} {x kl wl : Addr} {cs : List Int} {b g : Int} {s s' : Int × List Int}
end
end Np
namespace L2
open PySem PySem.Spec PyProof.Rows
def Ite (a : Addr) : It := ⟨fun i H => ∃ xs x, H a = some (.lst xs) /\ xs[i]? = some x, fun i H y H' => ∃ p x, H p = none /\ y = .ref p /\ H' = upd H p (.tup [.int ((i : Nat) : Int), x]) /\ ∀ xs, H a = some (.lst xs) -> xs[i]? = some x, fun i H => ∃ xs, H a = some (.lst xs) /\ xs.length <= i⟩
theorem za6 {P : Program} {w : World} {K : Fq} {elts : List Expr} {x1} {pos : Pos} (a e it : Addr) (hne : e ≠ it) : vo P w K (.Tuple elts x1 pos) (Ite a) [e, it] e (fun i h => (∃ old, IsEnum h e it ((i : Nat) : Int) old) /\ h.IsListIter it a i) where
 mem := by simp
 obj := fun i h st b hb => by
  obtain ⟨⟨old, he⟩, o, ei, c, d⟩ := st
  rcases List.mem_cons.mp hb with z | z
  ·rw [z]
   exact ⟨_, he, fun v y => by
    have y' : Data.fields _ = Data.cell v := y
    cases y'⟩
  ·have z : b = it := by simpa using z
   rw [z]
   exact ⟨o, ei, fun v y => by rw [d] at y; cases y⟩
 keep := fun i h h' st k => ⟨let ⟨old, he⟩ := st.1; ⟨old, k e (by simp) _ he⟩, st.2.at fun o q => k it (by simp) o q⟩
 item := by
  intro X hP hw hK hc i pins s σ H E I hf st hg
  subst hP hw hK
  obtain ⟨⟨old, he⟩, hit⟩ := st
  obtain ⟨xs, x, hq, hx⟩ := hg
  obtain ⟨hz, its, n, rv, hl0⟩ := (show ObjOk X.prog X.w H s.heap a (.lst xs) from I.hok a _ hq)
  have hl : s.heap.IsList a its.toArray := ⟨_, hl0, rfl, n, rfl⟩
  obtain ⟨u, hu, ru⟩ := rv.get hx
  obtain ⟨e0, e1, e2, e3, e4, e5⟩ := hf e (by simp)
  obtain ⟨f0, f1, f2, f3, f4, f5⟩ := hf it (by simp)
  have lte := Heap.lt_size he
  obtain ⟨oi, hoi, _⟩ := id hit
  have lti := Heap.lt_size hoi
  refine wpAny_pyNext_enum_item he hit hl (x := u) (by simpa using hu) hne fun h1 heo hit1 ht1 hz1 hk1 => ?_
  refine ⟨_, rfl, wpAny_letOwnedTupleGo_enum heo fun h2 he2 hs2 => ?_⟩
  replace hs2 : Heap.SameBut e h1 h2 := hs2
  have hp : H s.heap.objs.size = none := I.hok.fresh (Nat.le_refl _)
  have k2 : ∀ b o, b ≠ e -> b ≠ it -> s.heap.get? b = some o -> h2.get? b = some o := fun b o n1 n2 q => (hs2.2 b n1).trans (hk1 b o n1 n2 q)
  have ht2 : h2.get? s.heap.objs.size = some { cls := .type "tuple", data := .seq #[.int (i : Int) s.toks, u] } := (hs2.2 _ (Nat.ne_of_gt lte)).trans ht1
  have nb : ∀ {b : Addr} {v : HO}, H b = some v -> b ≠ s.heap.objs.size := fun q => zu q hp
  have up : ∀ {b : Addr} {v : HO}, H b = some v -> (upd H s.heap.objs.size (.tup [.int ((i : Nat) : Int), x])) b = some v := fun q => by rw [zj (nb q)]; exact q
  refine ⟨.ref s.heap.objs.size, upd H s.heap.objs.size (.tup [.int ((i : Nat) : Int), x]), ?_, rfl, ⟨_, x, hp, rfl, rfl, fun ys hy => ?_⟩, ⟨⟨u, ?_⟩, ?_⟩, fun b hb => ?_⟩
  ·show Inv X pins σ _ { s with heap := h2, gens := s.gens, drawn := s.drawn, toks := s.toks + 1 }
   refine Inv.step (s := s) (h' := h2) (g' := s.gens) (d' := s.drawn) (t' := s.toks + 1) (ch := [e, it]) I (fun b hb => ?_) (fun b o _ _ hc q _ => k2 b o (fun z => hc (by simp [z])) (fun z => hc (by simp [z])) q) (fun b o _ _ hc q _ => ⟨o.slots, k2 b o (fun z => hc (by simp [z])) (fun z => hc (by simp [z])) q⟩)
    (fun b o _ q n => by rw [zj (Nat.ne_of_lt (Heap.lt_size q))]; exact n) (fun b o hc q => ⟨o, k2 b o (fun z => hc (by simp [z])) (fun z => hc (by simp [z])) q⟩) (fun _ _ q => up q) (fun _ _ _ q => up q) (fun b ps q => ⟨#[], by rw [up q]; simp⟩) (fun m hm => ?_) (fun b v q => ?_) I.bare
   ·rcases List.mem_cons.mp hb with z | z
    ·rw [z]; exact ⟨e3, e1, e4, e5⟩
    ·have z : b = it := by simpa using z
     rw [z]; exact ⟨f3, f1, f4, f5⟩
   ·obtain ⟨o, es, ep, ho, r⟩ := hm
    exact ⟨o, es, ep, k2 _ o (Ne.symm e1) (Ne.symm f1) ho, r⟩
   ·by_cases z : b = s.heap.objs.size
    ·subst z
     rw [zh] at q
     cases q
     exact ⟨by show 2 <= sizeLine; decide, [.int (i : Int) s.toks, u], .cons ⟨_, rfl⟩ (.cons ru .nil), ⟨_, ht2, rfl, _, rfl⟩⟩
    ·rw [zj z] at q
     have ne1 : ∀ {c : Addr} {v : HO}, H c = some v -> c ≠ e := fun q y => by rw [y, e0] at q; cases q
     have ne2 : ∀ {c : Addr} {v : HO}, H c = some v -> c ≠ it := fun q y => by rw [y, f0] at q; cases q
     refine (I.hok b v q).stay (fun c o hc q2 => ?_) (fun c q2 => up q2) (fun c xs q2 => up q2)
     rcases hc with y | y
     ·rw [y] at q2 |-; exact k2 _ _ (ne1 q) (ne2 q) q2
     ·exact k2 _ _ (ne1 y) (ne2 y) q2
  ·rw [hq] at hy
   cases hy
   exact hx
  ·have ei : (((i + 1 : Nat) : Nat) : Int) = (i : Int) + 1 := by omega
   rw [ei]
   exact he2
  ·exact hit1.at fun o q => (hs2.2 _ (Ne.symm hne)).trans q
  ·rcases List.mem_cons.mp hb with z | z
   ·rw [z, zj (Nat.ne_of_lt lte)]; exact e0
   ·have z : b = it := by simpa using z
    rw [z, zj (Nat.ne_of_lt lti)]; exact f0
 done := by
  intro X hP hw hK hc i pins s σ H E I hf st hg
  subst hP hw hK
  obtain ⟨⟨old, he⟩, hit⟩ := st
  obtain ⟨xs, hq, hx⟩ := hg
  obtain ⟨hz, its, n, rv, hl0⟩ := (show ObjOk X.prog X.w H s.heap a (.lst xs) from I.hok a _ hq)
  have hl : s.heap.IsList a its.toArray := ⟨_, hl0, rfl, n, rfl⟩
  have ln := rv.length
  obtain ⟨f0, f1, f2, f3, f4, f5⟩ := hf it (by simp)
  exact wpAny_pyNext_enum_end (I.ok.hd hc) he hit hl (by simp; omega) fun h' eb => ⟨rfl, I.turned (t' := s.toks) (fun b o hb q => eb b o hb q) f0 f1 f3 f4 f5⟩
 self := fun _ _ _ _ _ st h => let ⟨_, he⟩ := st.1; wpAny_pyIter_enum he h
def iEnum (ta : TA) : TI := fun σ H R => ta σ H fun vs H1 => ∃ l xs, vs = [.ref l] /\ H1 l = some (.lst xs) /\ R (Ite l) H1
section
variable {X : Cx} {elts : List Expr} {pt : Pos}
theorem zaF {x1} {a : Expr} {ta : TA} {p pos : Pos} (hg : Gl X "enumerate") (hm : X.mg "enumerate" = none) (ha : PA X [a] ta) (hs : starEach [a] X.env = [(false, eval a X.env)] := by rfl) : PI X (.Tuple elts x1 pt) (.Call (.Name "enumerate" p) [a] [] pos) (iEnum ta) := by
 intro pins s σ H R I h
 refine Call_ (xK I hg hm vB (PyProof.Rows.callWith_type1 (thn (ha pos pins s σ H _ I h) fun us s1 ⟨vs, H1, I1, r1, q1⟩ => ?_) hs rfl))
 obtain ⟨l, xs, e, hq, q⟩ := q1
 subst e
 obtain ⟨u, rfl, ru⟩ := ju r1
 cases (show u = .ref l from ru)
 obtain ⟨hz, its, n, rv, hl0⟩ := (show ObjOk X.prog X.w H1 s1.heap l (.lst xs) from I1.hok l _ hq)
 refine call_enumerate_1 (n := n) hl0 fun h' he hit hsz hk => ?_
 have hne : s1.heap.objs.size + 1 ≠ s1.heap.objs.size := Nat.succ_ne_self _
 refine wpAny_pyIter_enum he ?_
 refine ⟨s1.heap.objs.size + 1, [s1.heap.objs.size + 1, s1.heap.objs.size], _, _, H1, rfl, I1.kept (t' := s1.toks) hk, za6 l _ _ hne, ⟨⟨.none, he⟩, hit⟩, fun b hb => ?_, q⟩
 rcases List.mem_cons.mp hb with z | z
 ·rw [z]; exact I1.fpOk (Nat.le_succ _) (I1.hok.fresh (Nat.le_succ _))
 ·have z : b = s1.heap.objs.size := by simpa using z
  rw [z]; exact I1.fpOk (Nat.le_refl _) (I1.hok.fresh (Nat.le_refl _))
end
theorem vN {a : Addr} {xs : List V} {g : TG} {tb : TS} {D : Ends} {σ : St} {H : Hp} (Pv : Nat -> St -> Hp -> Prop) (h0 : Pv 0 σ H) (hl : ∀ i σ H, i <= xs.length -> Pv i σ H -> H a = some (.lst xs))
  (hs : ∀ i x p σ H, xs[i]? = some x -> Pv i σ H -> H p = none -> g (.ref p) σ (upd H p (.tup [.int ((i : Nat) : Int), x])) fun σ2 H2 => tb { D with nx := Pv (i + 1), ct := Pv (i + 1), bk := D.nx } σ2 H2) (hd : ∀ σ H, Pv xs.length σ H -> D.nx σ H) :
  ∃ W : Nat -> Nat -> St -> Hp -> Prop, (∃ m, W 0 m σ H) /\ ∀ i m σ H, W i m σ H →
   ((Ite a).stop i H /\ D.nx σ H) \/ ((Ite a).go i H /\ ∃ N : St -> Hp -> Prop, (∀ σ' H', N σ' H' -> ∃ m', m' < m /\ W (i + 1) m' σ' H') /\ ∀ x H', (Ite a).yld i H x H' -> g x σ H' fun σ2 H2 => tb { D with nx := N, ct := N, bk := D.nx } σ2 H2) := by
 refine ⟨fun i m σ H => m = xs.length - i /\ i <= xs.length /\ Pv i σ H, ⟨xs.length, by simp, Nat.zero_le _, h0⟩, ?_⟩
 rintro i m σ H ⟨rfl, hi, p⟩
 have q := hl i σ H hi p
 by_cases hlt : i < xs.length
 ·have ex : xs[i]? = some xs[i] := List.getElem?_eq_getElem hlt
  refine .inr ⟨⟨xs, _, q, ex⟩, Pv (i + 1), fun σ' H' p' => ⟨xs.length - (i + 1), by omega, rfl, hlt, p'⟩, ?_⟩
  rintro y H' ⟨b, x, hb, rfl, rfl, hx⟩
  have := hx xs q
  exact hs i x b σ H this p hb
 ·have e : i = xs.length := by omega
  subst e
  exact .inl ⟨⟨xs, q, Nat.le_refl _⟩, hd σ H p⟩
end L2
namespace L2
open PySem PySem.Spec PyProof.Rows
section
variable {X : Cx}
end
end L2
namespace Np
open L2 PySem
def jd (w : Nat) : Nat -> Nat -> Nat
 | 0, s => s
 | f + 1, s => if 1 < Nat.gcd s w then jd w f (s + 1) else s
def step0 (w : Nat) : Nat := w / 2 + w / 8 + 3
def stepOf (w : Nat) : Nat := jd w (3 * w + 1 - step0 w) (step0 w)
theorem vO {w : Nat} (h : 1 <= w) : step0 w <= 3 * w + 1 := by unfold step0; omega
theorem vP (w : Nat) : Nat.gcd (3 * w + 1) w = 1 := by
 rw [Nat.gcd_comm, Nat.gcd_rec, Nat.add_mod, Nat.mul_mod_left, Nat.zero_add, Nat.mod_mod]
 rcases Nat.lt_or_ge 1 w with h | h
 ·rw [Nat.mod_eq_of_lt h, Nat.gcd_one_left]
 ·rcases Nat.eq_zero_or_pos w with z | z
  ·subst z; rfl
  ·have : w = 1 := by omega
   subst this; rfl
theorem zcA {w s : Nat} (h : s <= 3 * w + 1) (c : 1 < Nat.gcd s w) : s < 3 * w + 1 /\ jd w (3 * w + 1 - s) s = jd w (3 * w + 1 - (s + 1)) (s + 1) := by
 have ne : s ≠ 3 * w + 1 := fun z => by rw [z, vP] at c; omega
 have lt : s < 3 * w + 1 := by omega
 refine ⟨lt, ?_⟩
 obtain ⟨f, e⟩ : ∃ f, 3 * w + 1 - s = f + 1 := ⟨3 * w + 1 - s - 1, by omega⟩
 have e2 : 3 * w + 1 - (s + 1) = f := by omega
 rw [e, e2]
 show (if 1 < Nat.gcd s w then jd w f (s + 1) else s) = _
 rw [if_pos c]
theorem w4 {w s f : Nat} (c : ¬ 1 < Nat.gcd s w) : jd w f s = s := by
 cases f with
 | zero => rfl
 | succ f => show (if 1 < Nat.gcd s w then jd w f (s + 1) else s) = s; rw [if_neg c]
theorem kj {w : Nat} (hw : 1 <= w) : ∀ (f s : Nat), s + f = 3 * w + 1 -> Nat.gcd (jd w f s) w = 1
 | 0, s, h => by
  have : s = 3 * w + 1 := by omega
  show Nat.gcd s w = 1
  rw [this, vP]
 | f + 1, s, h => by
  show Nat.gcd (if 1 < Nat.gcd s w then jd w f (s + 1) else s) w = 1
  by_cases c : 1 < Nat.gcd s w
  ·rw [if_pos c]; exact kj hw f (s + 1) (by omega)
  ·rw [if_neg c]
   have : 0 < Nat.gcd s w := Nat.gcd_pos_of_pos_right _ hw
   omega
theorem qx {w : Nat} (hw : 1 <= w) : Nat.gcd (stepOf w) w = 1 := kj hw _ _ (by have := vO hw; omega)
def xy (cs : List Int) (st w : Nat) : Nat -> List Int
 | 0 => List.replicate w 0
 | i + 1 => (xy cs st w i).set (i * st % w) ((signOf cs (i : Int) : Nat) : Int)
def wN (cs : List Int) : Nat := cs.sum.toNat
def z9 (cs : List Int) : List Int := xy cs (stepOf (wN cs)) (wN cs) (wN cs)
theorem xZ (cs : List Int) (st w : Nat) : ∀ i, (xy cs st w i).length = w
 | 0 => List.length_replicate ..
 | i + 1 => by show ((xy cs st w i).set _ _).length = w; rw [List.length_set]; exact xZ cs st w i
theorem vQ {st w i j : Nat} (g : Nat.gcd st w = 1) (hi : i < w) (hj : j < w) (e : i * st % w = j * st % w) : i = j := by
 have key : ∀ {i j : Nat}, i <= j -> j < w -> i * st % w = j * st % w -> i = j := fun {i j} hij hj e => by
  have h1 : w ∣ j * st - i * st := Nat.dvd_of_mod_eq_zero (Nat.sub_mod_eq_zero_of_mod_eq e.symm)
  rw [<- Nat.sub_mul] at h1
  have h2 : w ∣ j - i := Nat.Coprime.dvd_of_dvd_mul_right (show Nat.Coprime w st from by unfold Nat.Coprime; rw [Nat.gcd_comm]; exact g) h1
  rcases Nat.eq_zero_or_pos (j - i) with z | z
  ·omega
  ·have := Nat.le_of_dvd z h2
   omega
 rcases Nat.le_total i j with h | h
 ·exact key h hj e
 ·exact (key h hi e.symm).symm
theorem vR {cs : List Int} {st w : Nat} (g : Nat.gcd st w = 1) : ∀ (i : Nat), i <= w -> ∀ k, k < i -> (xy cs st w i).getD (k * st % w) 0 = ((signOf cs (k : Int) : Nat) : Int)
 | 0, _, k, h => absurd h (Nat.not_lt_zero _)
 | i + 1, hi, k, h => by
  have hw : 0 < w := by omega
  show ((xy cs st w i).set (i * st % w) _).getD (k * st % w) 0 = _
  by_cases z : k = i
  ·subst z
   exact jc (by rw [xZ]; exact Nat.mod_lt _ hw)
  ·have ne : i * st % w ≠ k * st % w := fun e => z (vQ g (by omega) (by omega) e.symm)
   rw [xU ne]
   exact vR g i (by omega) k (by omega)
theorem za7 {st w : Nat} (g : Nat.gcd st w = 1) : ((List.range w).map fun k => k * st % w).Perm (List.range w) := by
 have nd : ((List.range w).map fun k => k * st % w).Nodup := by
  refine List.pairwise_iff_getElem.mpr fun a b ha hb hab e => ?_
  rw [List.length_map, List.length_range] at ha hb
  rw [List.getElem_map, List.getElem_range, List.getElem_map, List.getElem_range] at e
  have := vQ g ha hb e
  omega
 refine (List.perm_ext_iff_of_nodup nd List.nodup_range).mpr fun a => ⟨fun h => ?_, fun h => ?_⟩
 ·obtain ⟨k, hk, rfl⟩ := List.mem_map.mp h
  have := List.mem_range.mp hk
  exact List.mem_range.mpr (Nat.mod_lt _ (by omega))
 ·have sub : ∀ x ∈ ((List.range w).map fun k => k * st % w), x ∈ List.range w := fun x hx => by
   obtain ⟨k, hk, rfl⟩ := List.mem_map.mp hx
   have := List.mem_range.mp hk
   exact List.mem_range.mpr (Nat.mod_lt _ (by omega))
  false_or_by_contra
  rename_i hn
  have nd2 : (a :: ((List.range w).map fun k => k * st % w)).Nodup := List.nodup_cons.mpr ⟨hn, nd⟩
  have sub2 : (a :: ((List.range w).map fun k => k * st % w)) ⊆ List.range w := fun x hx => by
   rcases List.mem_cons.mp hx with z | z
   ·rw [z]; exact h
   ·exact sub x z
  have := List.Nodup.length_le_of_subset nd2 sub2
  rw [List.length_cons, List.length_map, List.length_range] at this
  omega
end Np
namespace Np
open L2 PySem
theorem szl2 {n : Nat} (h : n <= 200000) : n <= sizeLine := by rw [sizeLine_eq]; omega
theorem szlt {n : Nat} (h : n <= 199999) : n < sizeLine := by rw [sizeLine_eq]; omega
theorem GoodC.wpos {cs : List Int} (g : GoodC cs) : 1 <= wN cs /\ ((wN cs : Nat) : Int) = cs.sum /\ wN cs <= 99900 := by
 have := g.pos
 have := g.le
 unfold wN
 omega
theorem zcB {cs : List Int} (g : GoodC cs) {i s : Nat} (hi : i < wN cs) (hs : s < cs.length) : signOf cs (i : Int) = s ↔ first cs s <= (i : Int) /\ (i : Int) < first cs (s + 1) := by
 obtain ⟨w1, w2, w3⟩ := g.wpos
 obtain ⟨a, b, c⟩ := xF (ns := cs) (s := (i : Int)) (by omega) (by omega)
 constructor
 ·intro e
  rw [<- e]
  exact ⟨b, by rw [yH a]; exact c⟩
 ·intro h
  exact ja g.rng hs h.1 h.2
def posP (cs : List Int) (s : Nat) (p : Nat) : Bool := decide ((z9 cs).getD p 0 = ((s : Nat) : Int))
def jk (cs : List Int) (s i : Nat) : List Nat := (List.range i).filter (posP cs s)
theorem qy (cs : List Int) : (z9 cs).length = wN cs := xZ _ _ _ _
theorem za8 {cs : List Int} (g : GoodC cs) {k : Nat} (hk : k < wN cs) : (z9 cs).getD (k * stepOf (wN cs) % wN cs) 0 = ((signOf cs (k : Int) : Nat) : Int) :=
 vR (qx g.wpos.1) _ (Nat.le_refl _) k hk
theorem za9 {cs : List Int} (g : GoodC cs) {p : Nat} (hp : p < wN cs) : ∃ s : Nat, (z9 cs).getD p 0 = (s : Int) /\ s < cs.length /\ 0 < cs.getD s 0 := by
 obtain ⟨w1, w2, w3⟩ := g.wpos
 have hm : p ∈ (List.range (wN cs)).map fun k => k * stepOf (wN cs) % wN cs := (za7 (qx w1)).mem_iff.mpr (List.mem_range.mpr hp)
 obtain ⟨k, hk, rfl⟩ := List.mem_map.mp hm
 have hk' := List.mem_range.mp hk
 obtain ⟨a, b, c⟩ := xF (ns := cs) (s := (k : Int)) (by omega) (by omega)
 exact ⟨_, za8 g hk', a, by omega⟩
theorem zba (cs : List Int) (s i : Nat) : jk cs s (i + 1) = jk cs s i ++ (if (z9 cs).getD i 0 = ((s : Nat) : Int) then [i] else []) := by
 unfold jk
 rw [List.range_succ, List.filter_append]
 congr 1
 by_cases c : (z9 cs).getD i 0 = ((s : Nat) : Int)
 ·rw [if_pos c]
  simp only [List.filter_cons, posP, c]
  rfl
 ·rw [if_neg c]
  simp only [List.filter_cons, posP, decide_eq_false c]
  rfl
def jT (cs : List Int) (p : Nat) : Int := cs.getD ((z9 cs).getD p 0).toNat 0 + ((jk cs ((z9 cs).getD p 0).toNat p).length : Int)
def yZ (cs : List Int) (i : Nat) : List Int := (List.range i).map (jT cs)
def yP (cs : List Int) (i : Nat) : List (List Int) := (List.range cs.length).map fun s => (jk cs s i).map fun p => ((p : Nat) : Int)
theorem km (cs : List Int) (i : Nat) : (yZ cs i).length = i := by unfold yZ; rw [List.length_map, List.length_range]
theorem zcC {cs : List Int} {i p : Nat} (h : p < i) : (yZ cs i).getD p 0 = jT cs p := by
 unfold yZ
 rw [List.getD_eq_getElem?_getD, List.getElem?_map, List.getElem?_range h]
 rfl
theorem w6 {cs : List Int} {i s : Nat} (h : s < cs.length) : (yP cs i).getD s [] = (jk cs s i).map fun p => ((p : Nat) : Int) := zcx _ h
theorem kW {cs : List Int} {i s : Nat} (hs : s < cs.length) (e : (z9 cs).getD i 0 = ((s : Nat) : Int)) : yP cs (i + 1) = (yP cs i).set s (((jk cs s i).map fun p => ((p : Nat) : Int)) ++ [((i : Nat) : Int)]) := by
 unfold yP
 refine List.ext_getElem (by simp) fun j h1 h2 => ?_
 rw [List.getElem_set, List.getElem_map, List.getElem_range, zba]
 by_cases z : s = j
 ·subst z
  rw [if_pos rfl, if_pos e, List.map_append]
  rfl
 ·rw [if_neg z, if_neg (fun y => z (by have := e.symm.trans y; omega)), List.append_nil, List.getElem_map, List.getElem_range]
def x6 (w : Int) (kl sg pl nl : Addr) : List (Str × V) := [("kept", .ref kl), ("total", .int w), ("signs", .ref sg), ("places", .ref pl), ("numbers", .ref nl)]
section
variable (w : Int) (kl sg pl nl : Addr)
theorem kX : (x6 w kl sg pl nl).lookup ("kept" : Str) = some (.ref kl) := z7
theorem xH : (x6 w kl sg pl nl).lookup ("total" : Str) = some (.int w) := by unfold x6; rw [zn (by decide +kernel), z7]
theorem zcD : (x6 w kl sg pl nl).lookup ("signs" : Str) = some (.ref sg) := by unfold x6; rw [zn (by decide +kernel), zn (by decide +kernel), z7]
theorem w8 : (x6 w kl sg pl nl).lookup ("numbers" : Str) = some (.ref nl) := by unfold x6; rw [zn (by decide +kernel), zn (by decide +kernel), zn (by decide +kernel), zn (by decide +kernel), z7]
theorem nO {f : Str} (h1 : ¬ f = "kept") (h2 : ¬ f = "total") (h3 : ¬ f = "signs") (h4 : ¬ f = "places") (h5 : ¬ f = "numbers") : (x6 w kl sg pl nl).lookup f = none := by unfold x6; rw [zn h1, zn h2, zn h3, zn h4, zn h5]; rfl
theorem xI : (x6 w kl sg pl nl).lookup ("check_number" : Str) = none := nO _ _ _ _ _ (by decide +kernel) (by decide +kernel) (by decide +kernel) (by decide +kernel) (by decide +kernel)
theorem kn : (x6 w kl sg pl nl).lookup ("raised" : Str) = none := nO _ _ _ _ _ (by decide +kernel) (by decide +kernel) (by decide +kernel) (by decide +kernel) (by decide +kernel)
theorem qz : (x6 w kl sg pl nl).lookup ("lowered" : Str) = none := nO _ _ _ _ _ (by decide +kernel) (by decide +kernel) (by decide +kernel) (by decide +kernel) (by decide +kernel)
theorem zaG : (x6 w kl sg pl nl).lookup ("laid" : Str) = none := nO _ _ _ _ _ (by decide +kernel) (by decide +kernel) (by decide +kernel) (by decide +kernel) (by decide +kernel)
theorem vS : (x6 w kl sg pl nl).lookup ("taken" : Str) = none := nO _ _ _ _ _ (by decide +kernel) (by decide +kernel) (by decide +kernel) (by decide +kernel) (by decide +kernel)
theorem w9 : yA "total" (.int w) ([("kept", .ref kl)] : List (Str × V)) = ([("kept", .ref kl), ("total", .int w)] : List (Str × V)) := by rw [zJ (by decide +kernel)]; rfl
theorem zaa : yA "signs" (.ref sg) ([("kept", .ref kl), ("total", .int w)] : List (Str × V)) = ([("kept", .ref kl), ("total", .int w), ("signs", .ref sg)] : List (Str × V)) := by rw [zJ (by decide +kernel), zJ (by decide +kernel)]; rfl
theorem vT : yA "places" (.ref pl) ([("kept", .ref kl), ("total", .int w), ("signs", .ref sg)] : List (Str × V)) = ([("kept", .ref kl), ("total", .int w), ("signs", .ref sg), ("places", .ref pl)] : List (Str × V)) := by rw [zJ (by decide +kernel), zJ (by decide +kernel), zJ (by decide +kernel)]; rfl
theorem kY : yA "numbers" (.ref nl) ([("kept", .ref kl), ("total", .int w), ("signs", .ref sg), ("places", .ref pl)] : List (Str × V)) = x6 w kl sg pl nl := by rw [zJ (by decide +kernel), zJ (by decide +kernel), zJ (by decide +kernel), zJ (by decide +kernel)]; rfl
end
structure SlAt (C : Addr) (H : Hp) (x : Addr) (cs : List Int) : Prop where
 gc : GoodC cs
 ex : ∃ dx kl sg pl nl as, H x = some (.ins C dx (x6 cs.sum kl sg pl nl)) /\ H kl = some (.lst (cs.map V.int)) /\ H sg = some (.lst ((z9 cs).map V.int)) /\ KeptAt H pl as (yP cs (wN cs)) /\ H nl = some (.lst ((yZ cs (wN cs)).map V.int))
theorem SlAt.same {C : Addr} {H H' : Hp} {x : Addr} {cs : List Int} (p : SlAt C H x cs) (s : Same H H') : SlAt C H' x cs :=
 let ⟨g, dx, kl, sg, pl, nl, as, a, b, c, d, e⟩ := p
 ⟨g, dx, kl, sg, pl, nl, as, s _ _ a, s _ _ b, s _ _ c, d.same s, s _ _ e⟩
theorem KeptAt.set {H : Hp} {D : Addr} {as : List Addr} {rows : List (List Int)} (k : KeptAt H D as rows) (nd : (D :: as).Nodup) {s : Nat} (hs : s < rows.length) (row : List Int) : KeptAt (upd H (as.getD s 0) (.lst (row.map V.int))) D as (rows.set s row) := by
 have hs' : s < as.length := by rw [k.len]; exact hs
 have nD : D ≠ as.getD s 0 := fun z => (List.nodup_cons.mp nd).1 (by rw [z]; exact xx hs')
 refine ⟨by rw [zj nD]; exact k.ls, by rw [List.length_set]; exact k.len, fun i hi => ?_⟩
 rw [List.length_set] at hi
 by_cases z : s = i
 ·subst z
  rw [zh, jc hs]
 ·rw [zj (zd3 (List.nodup_cons.mp nd).2 (by rw [k.len]; exact hi) hs' (fun y => z y.symm)), xU z]
  exact k.at_ i hi
def zer (C : Addr) (H H' : Hp) (x : Addr) (cs : List Int) : Prop := ∀ H'', (∀ b o, H' b = some o -> H b = none \/ b = x -> H'' b = some o) -> SlAt C H'' x cs
end Np
namespace L2
open PySem PySem.Spec PyProof.Rows
section
variable {X : Cx}
end
end L2
namespace Np
open L2 PySem
section
variable {cs : List Int} (gc : GoodC cs)
include gc
end
end Np
namespace L2
open PySem PySem.Spec PyProof.Rows
abbrev tx (l : List Nat) : Str := ⟨l.toArray⟩
theorem ym (l : List Nat) : (tx l).length = l.length := by show l.toArray.size = _; simp
theorem jU (l m : List Nat) : tx l ++ tx m = tx (l ++ m) := PyProof.Rows.ext_toList (by rw [PySem.W.KT.app_list])
theorem tx_inj {l m : List Nat} : tx l = tx m ↔ l = m := ⟨fun h => by have := congrArg (fun s : Str => s.cps.toList) h; exact this, fun h => by rw [h]⟩
theorem zd8 {X : Cx} {x : Str} {z : Str} {pos : Pos} (hg : Gl X x) (hm : ∃ t, X.mg x = some (.str z t)) (hd : (x == ("__debug__" : Str)) = false := by decide) : PE X (.Name x pos) (tC (.str z)) :=
 let ⟨t, e⟩ := hm
 kC hg e (v := .str z) ⟨t, rfl⟩ hd
def Its (l : List Nat) : It := ⟨fun i _ => i < l.length, fun i H y H' => H' = H /\ ∃ c, l[i]? = some c /\ y = .str (tx [c]), fun i _ => l.length <= i⟩
theorem zeW {M : Model} {A : Around} {E : Value -> Shared -> Prop} {s : Shared} {tg : Expr} {it : Addr} {x : Str} {t : Tok} {Q : Unit -> Shared -> Prop} (hQ : Q () s) : wpAny M A (letOwnedTupleGo tg (.ref it) (.str x t)) Q E s := by
 unfold letOwnedTupleGo
 cases tg <;> exact wpAny_pure hQ
theorem vU {P : Program} {w : World} {K : Fq} {tg : Expr} {nm : String} (it : Addr) (l : List Nat) (t : Tok)
  (W : ∀ A' : Around, A'.handled = none -> Walks P w A' it [it] [it] (tx l).cps.size (SignAt (tx l)) (fun i h => h.IsStrIter it nm (tx l) t i))
  (Dn : ∀ (A : Around) (s : Shared) (i : Nat) (Q : Option Value -> Shared -> Prop) (E : Value -> Shared -> Prop), A.handled = none -> s.heap.IsStrIter it nm (tx l) t i -> (tx l).cps[i]? = none -> (∀ h', Heap.ExtBut it s.heap h' -> Q none { s with heap := h' }) -> wpAny (model P w) A (pyNext (.ref it)) Q E s)
  (S : ∀ (A : Around) (i : Nat) (s : Shared) (Q : Value -> Shared -> Prop) (E : Value -> Shared -> Prop), s.heap.IsStrIter it nm (tx l) t i -> Q (.ref it) s -> wpAny (model P w) A (pyIter (.ref it)) Q E s) :
  vo P w K tg (Its l) [it] it (fun i h => h.IsStrIter it nm (tx l) t i) where
 mem := by simp
 obj := fun i h st b hb => by
  have e : b = it := by simpa using hb
  subst e
  obtain ⟨o, e, c, d⟩ := st
  exact ⟨o, e, fun v z => by rw [d] at z; cases z⟩
 keep := fun i h h' st k => let ⟨o, e, r⟩ := st; ⟨o, k it (by simp) o e, r⟩
 item := by
  intro X hP hw hK hc i pins s σ H E I hf st hg
  subst hP hw hK
  obtain ⟨f0, f1, f2, f3, f4, f5⟩ := hf it (by simp)
  have hg' : i < (tx l).cps.size := by
   have hg : i < l.length := hg
   show i < l.toArray.size
   simpa using hg
  refine (W X.A (I.ok.hd hc)).item i s _ _ hg' st fun v h' tk hv st' kk => ?_
  obtain ⟨c, u, hcu, rfl⟩ := hv
  have I1 : Inv X pins σ H { s with heap := h', toks := tk } := I.turned (fun b o hb e => kk b o (by simpa using hb) e) f0 f1 f3 f4 f5
  exact ⟨_, rfl, zeW ⟨.str (tx [c]), H, I1, ⟨u, rfl⟩, ⟨rfl, c, by simpa using hcu, rfl⟩, st', fun b hb => (hf b hb).1⟩⟩
 done := by
  intro X hP hw hK hc i pins s σ H E I hf st hg
  subst hP hw hK
  obtain ⟨f0, f1, f2, f3, f4, f5⟩ := hf it (by simp)
  have hg : l.length <= i := hg
  exact Dn X.A s i _ _ (I.ok.hd hc) st (by simpa using hg) fun h' eb => ⟨rfl, I.turned (t' := s.toks) (fun b o hb e => eb b o hb e) f0 f1 f3 f4 f5⟩
 self := S
def iStr (tl : TE) : TI := fun σ H R => tl σ H fun x H1 => ∃ l, x = .str (tx l) /\ R (Its l) H1
section
variable {X : Cx} {tg : Expr}
theorem qA {l : Expr} {tl : TE} (hl : PE X l tl) : PI X tg l (iStr tl) := by
 intro pins s σ H R I h
 refine thn (hl pins s σ H _ I h) fun v s1 ⟨x, H1, I1, r1, q1⟩ => ?_
 obtain ⟨m, e, q⟩ := q1
 subst e
 obtain ⟨t, rfl⟩ := r1
 have fin : ∀ (o : Obj) (nm : String), vo X.prog X.w X.K tg (Its m) [s1.heap.objs.size] s1.heap.objs.size (fun i h => h.IsStrIter s1.heap.objs.size nm (tx m) t i) -> (s1.heap.push o).IsStrIter s1.heap.objs.size nm (tx m) t 0 -> PIE X pins σ tg R (.ref s1.heap.objs.size) { s1 with heap := s1.heap.push o } := fun o nm T st => by
  refine ⟨s1.heap.objs.size, [s1.heap.objs.size], _, _, H1, rfl, I1.kept (t' := s1.toks) fun b o e => Heap.get?_push_of_some _ e, T, st, fun b hb => ?_, q⟩
  have e : b = s1.heap.objs.size := by simpa using hb
  subst e
  exact I1.fpOk (Nat.le_refl _) (I1.hok.fresh (Nat.le_refl _))
 cases ha : (tx m).cps.all (· < 128)
 ·exact wpAny_pyIter_wide ha (fin _ "str_iterator" (vU _ _ _ (fun A' hA => Walks.strWide hA _ _ _) (fun A s i Q E hh st hx hq => wpAny_pyNext_wide_end hh st hx hq) fun A i s Q E st h => wpAny_pyIter_striter_wide st h) ⟨_, Heap.get?_push_size _ rfl, rfl, rfl⟩)
 ·exact wpAny_pyIter_ascii ha (fin _ "str_ascii_iterator" (vU _ _ _ (fun A' hA => Walks.strAscii hA _ _ _) (fun A s i Q E hh st hx hq => wpAny_pyNext_ascii_end hh st hx hq) fun A i s Q E st h => wpAny_pyIter_striter_ascii st h) ⟨_, Heap.get?_push_size _ rfl, rfl, rfl⟩)
end
theorem kZ {l : List Nat} {g : TG} {tb : TS} {D : Ends} {σ : St} {H : Hp} (Pv : Nat -> St -> Hp -> Prop) (h0 : Pv 0 σ H)
  (hs : ∀ (i c : Nat) σ H, l[i]? = some c -> Pv i σ H -> g (.str (tx [c])) σ H fun σ2 H2 => tb { D with nx := Pv (i + 1), ct := Pv (i + 1), bk := D.nx } σ2 H2) (hd : ∀ σ H, Pv l.length σ H -> D.nx σ H) :
  ∃ W : Nat -> Nat -> St -> Hp -> Prop, (∃ m, W 0 m σ H) /\ ∀ i m σ H, W i m σ H →
   ((Its l).stop i H /\ D.nx σ H) \/ ((Its l).go i H /\ ∃ N : St -> Hp -> Prop, (∀ σ' H', N σ' H' -> ∃ m', m' < m /\ W (i + 1) m' σ' H') /\ ∀ x H', (Its l).yld i H x H' -> g x σ H' fun σ2 H2 => tb { D with nx := N, ct := N, bk := D.nx } σ2 H2) := by
 refine ⟨fun i m σ H => m = l.length - i /\ i <= l.length /\ Pv i σ H, ⟨l.length, by simp, Nat.zero_le _, h0⟩, ?_⟩
 rintro i m σ H ⟨rfl, hi, p⟩
 by_cases hlt : i < l.length
 ·refine .inr ⟨hlt, Pv (i + 1), fun σ' H' p' => ⟨l.length - (i + 1), by omega, rfl, hlt, p'⟩, fun x H' y => ?_⟩
  obtain ⟨rfl, c, hc, rfl⟩ := y
  exact hs i c σ _ hc p
 ·have e : i = l.length := by omega
  subst e
  exact .inl ⟨Nat.le_refl _, hd σ H p⟩
theorem vV {l : List Nat} {D : Addr} {H1 : Hp} : (∀ i x ys, (l.map fun c => V.str (tx [c]))[i]? = some x -> (Its l).go i (upd H1 D (.lst ys)) /\ ∀ y H2, (Its l).yld i (upd H1 D (.lst ys)) y H2 -> y = x /\ H2 = upd H1 D (.lst ys)) ∧
  ∀ ys, (Its l).stop (l.map fun c => V.str (tx [c])).length (upd H1 D (.lst ys)) := by
 refine ⟨fun i x ys e => ?_, fun ys => by show l.length <= _; simp⟩
 rw [List.getElem?_map] at e
 have hi : i < l.length := by
  by_cases hi : i < l.length
  ·exact hi
  ·rw [List.getElem?_eq_none (by simpa using hi)] at e
   cases e
 refine ⟨hi, fun y H2 h => ⟨?_, h.1⟩⟩
 obtain ⟨_, c, hc, rfl⟩ := h
 rw [hc] at e
 exact Option.some.inj e
end L2
namespace L2
open PySem PySem.Spec PyProof.Rows
def jm (c : Nat) : List Nat -> Nat -> List Nat
 | [], _ => []
 | a :: r, k => if a = c then k :: jm c r (k + 1) else jm c r (k + 1)
theorem jA (c : Nat) : ∀ (l : List Nat) (k : Nat), (jm c l k).length = l.count c
 | [], _ => rfl
 | a :: r, k => by
  unfold jm
  by_cases h : a = c
  ·rw [if_pos h, List.length_cons, jA c r, List.count_cons, if_pos (by simpa using h)]
  ·rw [if_neg h, jA c r, List.count_cons, if_neg (by simpa using h)]; rfl
theorem qi (l : List Nat) (c lim : Nat) : ∀ (m pre : List Nat) (st : Array Nat × Nat), l = pre ++ m -> st.snd <= pre.length →
  (forIn (List.range' pre.length (m.length + 1)) st (StrLaws.occBody (tx l) (tx [c]) l.length lim)).run.fst.toList = st.fst.toList ++ (jm c m pre.length).take (lim - st.fst.size)
 | [], pre, st, e, h => by
  have e2 : pre = l := by rw [e, List.append_nil]
  rw [List.length_nil, Nat.zero_add, List.range'_succ, List.forIn_cons]
  unfold StrLaws.occBody
  have c2 : ¬ (((st.fst.size < lim /\ st.snd <= pre.length) /\ pre.length + (tx [c]).length <= l.length) /\ Builtin.Str.subAt (tx l) (tx [c]) pre.length = true) := fun z => by
   have z1 : pre.length + 1 <= l.length := z.1.2
   rw [e2] at z1
   omega
  rw [if_neg c2]
  show st.fst.toList = _
  simp [jm]
 | a :: m, pre, st, e, h => by
  have at0 : l[pre.length]? = some a := by rw [e]; simp
  have e' : l = (pre ++ [a]) ++ m := by rw [e]; simp
  have len' : (pre ++ [a]).length = pre.length + 1 := by simp
  have sub := StrLaws.subAt_one (tx l) c pre.length
  have ll : (tx l).length = l.length := ym l
  rw [ll] at sub
  rw [List.length_cons, List.range'_succ, List.forIn_cons]
  unfold jm
  by_cases hc : a = c
  ·have hs := sub.mpr (by rw [at0, hc])
   by_cases hl : st.fst.size < lim
   ·have step : StrLaws.occBody (tx l) (tx [c]) l.length lim pre.length st = pure (ForInStep.yield (st.fst.push pre.length, pre.length + (tx [c]).length)) := by
     unfold StrLaws.occBody
     rw [if_pos ⟨⟨⟨hl, h⟩, hs.1⟩, hs.2⟩]
    rw [step]
    show (forIn (List.range' (pre.length + 1) (m.length + 1)) (st.fst.push pre.length, pre.length + (tx [c]).length) (StrLaws.occBody (tx l) (tx [c]) l.length lim)).run.fst.toList = _
    have ih := qi l c lim m (pre ++ [a]) (st.fst.push pre.length, pre.length + (tx [c]).length) e' (by rw [len']; exact Nat.le_refl _)
    rw [len'] at ih
    rw [ih, if_pos hc]
    have e3 : lim - st.fst.size = (lim - (st.fst.size + 1)) + 1 := by omega
    rw [e3, List.take_succ_cons, Array.toList_push, Array.size_push, List.append_assoc]
    rfl
   ·have step : StrLaws.occBody (tx l) (tx [c]) l.length lim pre.length st = pure (ForInStep.yield (st.fst, st.snd)) := by
     unfold StrLaws.occBody
     rw [if_neg (fun z => hl z.1.1.1)]
    rw [step]
    show (forIn (List.range' (pre.length + 1) (m.length + 1)) st (StrLaws.occBody (tx l) (tx [c]) l.length lim)).run.fst.toList = _
    have ih := qi l c lim m (pre ++ [a]) st e' (by rw [len']; omega)
    rw [len'] at ih
    have e3 : lim - st.fst.size = 0 := by omega
    rw [ih, e3]
    simp
  ·have step : StrLaws.occBody (tx l) (tx [c]) l.length lim pre.length st = pure (ForInStep.yield (st.fst, st.snd)) := by
    unfold StrLaws.occBody
    rw [if_neg (fun z => hc (by
     have := sub.mp ⟨z.1.2, z.2⟩
     have at1 : (tx l).cps.toList[pre.length]? = some a := at0
     rw [at1] at this
     exact Option.some.inj this))]
   rw [step]
   show (forIn (List.range' (pre.length + 1) (m.length + 1)) st (StrLaws.occBody (tx l) (tx [c]) l.length lim)).run.fst.toList = _
   have ih := qi l c lim m (pre ++ [a]) st e' (by rw [len']; omega)
   rw [len'] at ih
   rw [ih, if_neg hc]
theorem jB (l : List Nat) (c lim : Nat) : Builtin.Str.occurrences (tx l) (tx [c]) 0 (tx l).length lim = (jm c l 0).take lim := by
 rw [StrLaws.occ_eq, ym]
 have := qi l c lim l [] (#[], 0) rfl (Nat.le_refl _)
 simpa using this
theorem zbb (l : List Nat) (c : Nat) : (Builtin.Str.occurrences (tx l) (tx [c]) 0 (tx l).length ((tx l).length + 1)).length = l.count c := by
 rw [jB, List.length_take, jA, ym]
 have := List.count_le_length (a := c) (l := l)
 omega
theorem qB (c : Nat) : ∀ (l : List Nat) (k : Nat), c ∈ l -> ∃ r, jm c l k = (k + l.idxOf c) :: r
 | [], _, h => by cases h
 | a :: r, k, h => by
  unfold jm
  by_cases hc : a = c
  ·rw [if_pos hc, hc, List.idxOf_cons_self]; exact ⟨_, rfl⟩
  ·obtain ⟨q, e⟩ := qB c r (k + 1) (by rcases List.mem_cons.mp h with z | z; exact absurd z.symm hc; exact z)
   rw [if_neg hc, e, List.idxOf_cons, show (a == c) = false from beq_eq_false_iff_ne.mpr hc]
   exact ⟨q, by show _ = (k + (r.idxOf c + 1)) :: q; rw [Nat.add_assoc, Nat.add_comm 1]⟩
theorem ko (c : Nat) : ∀ (l : List Nat) (k : Nat), c ∉ l -> jm c l k = []
 | [], _, h => rfl
 | a :: r, k, h => by
  unfold jm
  rw [if_neg (fun z => h (by rw [z]; exact List.mem_cons_self)), ko c r _ (fun z => h (List.mem_cons_of_mem _ z))]
theorem va (l : List Nat) (c : Nat) (h : c ∈ l) : Builtin.Str.occurrences (tx l) (tx [c]) 0 (tx l).length 1 = [l.idxOf c] := by
 obtain ⟨r, e⟩ := qB c l 0 h
 rw [jB, e]
 simp
theorem zcE (l : List Nat) (c lim : Nat) (h : c ∉ l) : Builtin.Str.occurrences (tx l) (tx [c]) 0 (tx l).length lim = [] := by
 rw [jB, ko c l 0 h]
 simp
theorem zcF (l : List Nat) (c : Nat) : (!(Builtin.Str.occurrences (tx l) (tx [c]) 0 (tx l).length 1).isEmpty) = decide (c ∈ l) := StrLaws.found_one (tx l) c
def yy (c : Nat) : List Nat -> List Nat -> List (List Nat)
 | acc, [] => [acc]
 | acc, a :: r => if a = c then acc :: yy c [] r else yy c (acc ++ [a]) r
theorem jV (l : List Nat) (c : Nat) : ∀ (m pre : List Nat) (a : Nat), l = pre ++ m -> a <= pre.length -> StrLaws.partsFrom (tx l) 1 a (jm c m pre.length) = (yy c (pre.drop a) m).map tx
 | [], pre, a, e, h => by
  have e2 : pre = l := by rw [e, List.append_nil]
  show [Builtin.Str.strSub (tx l) a (tx l).length] = [tx (pre.drop a)]
  rw [e2]
  congr 1
  refine PyProof.Rows.ext_toList ?_
  rw [StrLaws.strSub_toList, ym]
  show List.take (l.length - a) (l.drop a) = l.drop a
  rw [List.take_of_length_le]
  rw [List.length_drop]
  exact Nat.le_refl _
 | x :: m, pre, a, e, h => by
  have e' : l = (pre ++ [x]) ++ m := by rw [e]; simp
  have len' : (pre ++ [x]).length = pre.length + 1 := by simp
  unfold jm yy
  by_cases hc : x = c
  ·rw [if_pos hc, if_pos hc]
   have ih := jV l c m (pre ++ [x]) (pre.length + 1) e' (by rw [len']; exact Nat.le_refl _)
   rw [len'] at ih
   have e0 : (pre ++ [x]).drop (pre.length + 1) = [] := List.drop_eq_nil_of_le (by rw [len']; exact Nat.le_refl _)
   rw [e0] at ih
   show Builtin.Str.strSub (tx l) a pre.length :: StrLaws.partsFrom (tx l) 1 (pre.length + 1) (jm c m (pre.length + 1)) = tx (pre.drop a) :: (yy c [] m).map tx
   rw [ih]
   congr 1
   refine PyProof.Rows.ext_toList ?_
   rw [StrLaws.strSub_toList]
   show List.take (pre.length - a) (l.drop a) = pre.drop a
   rw [e, List.drop_append_of_le_length h, List.take_append_of_le_length (by rw [List.length_drop]; exact Nat.le_refl _), List.take_of_length_le (by rw [List.length_drop]; exact Nat.le_refl _)]
  ·rw [if_neg hc, if_neg hc]
   have ih := jV l c m (pre ++ [x]) a e' (by rw [len']; omega)
   rw [len', List.drop_append_of_le_length h] at ih
   exact ih
theorem zbc (l : List Nat) (c : Nat) : Builtin.Str.partsBetween (tx l) (Builtin.Str.occurrences (tx l) (tx [c]) 0 (tx l).length ((tx l).length + 1)) (tx [c]).length = (yy c [] l).map tx := by
 rw [jB, List.take_of_length_le, StrLaws.partsBetween_eq]
 ·exact jV l c l [] 0 rfl (Nat.le_refl _)
 ·rw [jA, ym]
  have := List.count_le_length (a := c) (l := l)
  omega
theorem xq (c : Nat) : ∀ (m acc : List Nat), (yy c acc m).length <= m.length + 1
 | [], _ => Nat.le_refl _
 | x :: m, acc => by
  unfold yy
  by_cases hc : x = c
  ·rw [if_pos hc, List.length_cons, List.length_cons]
   have := xq c m []
   omega
  ·rw [if_neg hc, List.length_cons]
   have := xq c m (acc ++ [x])
   omega
theorem qc (c : Nat) : ∀ (m acc : List Nat), c ∉ m -> yy c acc m = [acc ++ m]
 | [], acc, _ => by rw [List.append_nil]; rfl
 | x :: m, acc, h => by
  unfold yy
  rw [if_neg (fun z => h (by rw [z]; exact List.mem_cons_self)), qc c m _ (fun z => h (List.mem_cons_of_mem _ z))]
  simp
end L2
namespace L2
open PySem PySem.Spec PyProof.Rows
section
variable {X : Cx}
theorem zeX : OpR X (compareOp .In) (fun x y H Q => ∃ c l, x = .str (tx [c]) /\ y = .str (tx l) /\ Q (.bl (decide (c ∈ l))) H) := by
 intro pins s σ H x y v u Q I rx ry h
 obtain ⟨c, l, rfl, rfl, q⟩ := h
 refine zaR pins s σ H _ _ v u Q I rx ry ⟨_, _, rfl, rfl, ?_⟩
 rw [zcF]
 exact q
theorem jW : OpR X (compareOp .NotIn) (fun x y H Q => ∃ c l, x = .str (tx [c]) /\ y = .str (tx l) /\ Q (.bl (!decide (c ∈ l))) H) := by
 intro pins s σ H x y v u Q I rx ry h
 obtain ⟨c, l, rfl, rfl, q⟩ := h
 refine kJ pins s σ H _ _ v u Q I rx ry ⟨_, _, rfl, rfl, ?_⟩
 rw [zcF]
 exact q
theorem vb : OpR X (binaryOp .Add) (fun x y H Q => ∃ l m, x = .str (tx l) /\ y = .str (tx m) /\ l.length + m.length <= sizeLine /\ Q (.str (tx (l ++ m))) H) := by
 intro pins s σ H x y v u Q I rx ry h
 obtain ⟨l, m, rfl, rfl, hz, q⟩ := h
 refine wz pins s σ H _ _ v u Q I rx ry ⟨_, _, rfl, rfl, by rw [ym, ym]; exact hz, ?_⟩
 rw [jU]
 exact q
theorem yJ : xS X (.builtin "len") (fun xs H Q => ∃ l, xs = [.str (tx l)] /\ l.length <= sizeLine /\ Q (.int (l.length : Nat)) H) := by
 intro pins s σ H xs us Q I r h
 obtain ⟨l, rfl, hz, q⟩ := h
 refine kK pins s σ H _ us Q I r ⟨_, rfl, by rw [ym]; exact hz, ?_⟩
 rw [ym]
 exact q
theorem vc : IxR X (fun x y H Q => ∃ l i c, x = .str (tx l) /\ y = .int i /\ l.length <= sizeLine /\ atI l i = some c /\ Q (.str (tx [c])) H) := by
 intro value slice pins s σ H x y v u Q I rx ry h hs
 obtain ⟨l, i, c, rfl, rfl, hz, e, q⟩ := h
 exact zeK value slice pins s σ H _ _ v u Q I rx ry ⟨_, i, c, rfl, rfl, by rw [ym]; exact hz, e, q⟩ hs
theorem vW : MtR X "str.index" (fun x xs H Q => ∃ l c, x = .str (tx l) /\ xs = [.str (tx [c])] /\ c ∈ l /\ Q (.int (l.idxOf c : Nat)) H) := by
 intro pins s σ H x xs v us Q I rx rs h
 obtain ⟨l, c, rfl, rfl, hm, q⟩ := h
 obtain ⟨t, rfl⟩ := rx
 obtain ⟨u, rfl, ru⟩ := rs.one
 obtain ⟨t', rfl⟩ := ru
 exact SC.index (va l c hm) ⟨.int _, H, I.tok _, ⟨_, rfl⟩, q⟩
theorem zcG : MtR X "str.count" (fun x xs H Q => ∃ l c, x = .str (tx l) /\ xs = [.str (tx [c])] /\ Q (.int (l.count c : Nat)) H) := by
 intro pins s σ H x xs v us Q I rx rs h
 obtain ⟨l, c, rfl, rfl, q⟩ := h
 obtain ⟨t, rfl⟩ := rx
 obtain ⟨u, rfl, ru⟩ := rs.one
 obtain ⟨t', rfl⟩ := ru
 refine SC.count ⟨.int _, H, I.tok _, ⟨_, rfl⟩, ?_⟩
 show Q (.int ((Builtin.Str.occurrences (tx l) (tx [c]) 0 (tx l).length ((tx l).length + 1)).length : Nat)) H
 rw [zbb]
 exact q
theorem mt_find : MtR X "str.find" (fun x xs H Q => ∃ l c, x = .str (tx l) /\ xs = [.str (tx [c])] /\ Q (.int (if c ∈ l then (l.idxOf c : Int) else -1)) H) := by
 intro pins s σ H x xs v us Q I rx rs h
 obtain ⟨l, c, rfl, rfl, q⟩ := h
 obtain ⟨t, rfl⟩ := rx
 obtain ⟨u, rfl, ru⟩ := rs.one
 obtain ⟨t', rfl⟩ := ru
 refine SC.find ⟨.int _, H, I.tok _, ⟨_, rfl⟩, ?_⟩
 have e : Txt.find (tx l) (tx [c]) = (match Builtin.Str.occurrences (tx l) (tx [c]) 0 (tx l).length 1 with | i :: _ => (i : Int) | [] => -1) := rfl
 rw [e]
 by_cases hm : c ∈ l
 ·rw [if_pos hm] at q
  rw [va l c hm]
  exact q
 ·rw [if_neg hm] at q
  rw [zcE l c 1 hm]
  exact q
theorem zab : MtR X "str.isdigit" (fun x xs H Q => ∃ l, x = .str (tx l) /\ xs = [] /\ Q (.bl (decide (0 < l.length) && l.all Unicode.isDigit)) H) := by
 intro pins s σ H x xs v us Q I rx rs h
 obtain ⟨l, rfl, rfl, q⟩ := h
 obtain ⟨t, rfl⟩ := rx
 cases rs.zero
 refine SC.isdigit ⟨.bl _, H, I, rfl, ?_⟩
 have e : Txt.isdigit (tx l) = (decide (0 < l.length) && l.all Unicode.isDigit) := by
  show (decide ((tx l).length > 0) && l.toArray.all Unicode.isDigit) = _
  rw [ym]
  simp
 rw [e]
 exact q
def cutC (c : Nat) (l : List Nat) : List (List Nat) := if c ∈ l then [l.take (l.idxOf c), [c], l.drop (l.idxOf c + 1)] else [l, [], []]
theorem zaH : MtR X "str.partition" (fun x xs H Q => ∃ l c, x = .str (tx l) /\ xs = [.str (tx [c])] /\ l.length <= sizeLine /\ ∀ p, H p = none -> Q (.ref p) (upd H p (.tup ((cutC c l).map fun m => .str (tx m))))) := by
 intro pins s σ H x xs v us Q I rx rs h
 obtain ⟨l, c, rfl, rfl, hz, q⟩ := h
 obtain ⟨t, rfl⟩ := rx
 obtain ⟨u, rfl, ru⟩ := rs.one
 obtain ⟨t', rfl⟩ := ru
 refine call_meets F.slot_str_partition (typeIs_str _ _ _) F.entry_str_partition (F.args_str_partition_2 _ _) (meets_str_partition (tx l) (tx [c]) t t' rfl (by rw [ym]; exact hz)) ?_
 show wants _ _ _ (match Builtin.Str.occurrences (tx l) (tx [c]) 0 (tx l).length 1 with | i :: _ => _ | [] => _)
 have q := q s.heap.objs.size I.fresh
 unfold cutC at q
 by_cases hm : c ∈ l
 ·rw [if_pos hm] at q
  rw [va l c hm]
  refine ⟨.ref s.heap.objs.size, _, I.laid (t' := s.toks + 1 + 1) (fun _ _ z => Heap.get?_push_of_some _ z) (Nat.le_refl _) ?_, rfl, q⟩
  refine ⟨(by show 3 <= sizeLine; decide), _, ?_, ⟨_, Heap.get?_push_size _ rfl, rfl, _, rfl⟩⟩
  have e1 : Builtin.Str.strSub (tx l) 0 (l.idxOf c) = tx (l.take (l.idxOf c)) := PyProof.Rows.ext_toList (by rw [StrLaws.strSub_toList]; simp)
  have e2 : Builtin.Str.strSub (tx l) (l.idxOf c + (tx [c]).length) (tx l).length = tx (l.drop (l.idxOf c + 1)) := PyProof.Rows.ext_toList (by
   rw [StrLaws.strSub_toList, ym, ym]
   show List.take (l.length - (l.idxOf c + 1)) (l.drop (l.idxOf c + 1)) = l.drop (l.idxOf c + 1)
   rw [List.take_of_length_le (by rw [List.length_drop]; exact Nat.le_refl _)])
  rw [e1, e2]
  exact .cons ⟨_, rfl⟩ (.cons ⟨_, rfl⟩ (.cons ⟨_, rfl⟩ .nil))
 ·rw [if_neg hm] at q
  rw [zcE l c 1 hm]
  refine ⟨.ref s.heap.objs.size, _, I.laid (t' := s.toks + 1) (fun _ _ z => Heap.get?_push_of_some _ z) (Nat.le_refl _) ?_, rfl, q⟩
  exact ⟨(by show 3 <= sizeLine; decide), _, .cons ⟨_, rfl⟩ (.cons ⟨_, rfl⟩ (.cons ⟨_, rfl⟩ .nil)), ⟨_, Heap.get?_push_size _ rfl, rfl, _, rfl⟩⟩
theorem kq : ∀ (ms : List (List Nat)) (k : Nat), Vals (ms.map fun m => V.str (tx m)) (strsFrom k (ms.map tx))
 | [], _ => .nil
 | m :: r, k => .cons ⟨_, rfl⟩ (kq r (k + 1))
theorem zd9 (l : List Nat) {c : Nat} (h : c < 256) : ¬ Builtin.Str.strKind (tx l) < Builtin.Str.strKind (tx [c]) := by
 have e : Builtin.Str.strKind (tx [c]) = 1 := by
  unfold Builtin.Str.strKind
  rw [if_pos]
  show (#[c] : Array Nat).all (fun x => decide (x < 256)) = true
  simp [h]
 rw [e]
 unfold Builtin.Str.strKind
 split
 ·decide
 ·split <;> decide
theorem zcH : MtR X "str.split" (fun x xs H Q => ∃ l c, x = .str (tx l) /\ xs = [.str (tx [c])] /\ c < 256 /\ l.length < sizeLine /\ ∀ p, H p = none -> Q (.ref p) (upd H p (.lst ((yy c [] l).map fun m => .str (tx m))))) := by
 intro pins s σ H x xs v us Q I rx rs h
 obtain ⟨l, c, rfl, rfl, hc, hz, q⟩ := h
 obtain ⟨t, rfl⟩ := rx
 obtain ⟨u, rfl, ru⟩ := rs.one
 obtain ⟨t', rfl⟩ := ru
 have q := q s.heap.objs.size I.fresh
 have hz' : (tx l).length <= sizeLine := by rw [ym]; omega
 have one : (yy c [] l) = [l] -> EP X pins σ Q (.ref s.heap.objs.size) { s with heap := s.heap.push { cls := .type "list", data := .seq [Value.str (tx l) t].toArray } } := fun e => by
  rw [e] at q
  exact ⟨.ref s.heap.objs.size, _, I.lnew (ys := [.str (tx l)]) (its := [Value.str (tx l) t]) (t' := s.toks) (.cons ⟨_, rfl⟩ .nil) (by show 1 <= sizeLine; decide), rfl, q⟩
 cases h1 : (decide ((tx l).length < (tx [c]).length) || decide (Builtin.Str.strKind (tx l) < Builtin.Str.strKind (tx [c])))
 ·cases hf : (Builtin.Str.occurrences (tx l) (tx [c]) 0 (tx l).length ((tx l).length + 1)).isEmpty
  ·have e := zbc l c
   refine call_meets F.slot_str_split (typeIs_str _ _ _) F.entry_str_split (F.args_str_split_2 _ _) (meets_str_split_sep (tx l) (tx [c]) t t' h1 rfl hf hz' (by
    rw [e, List.length_map]
    have := xq c l []
    omega)) ?_
   show wants _ _ _ { s with toks := _, heap := s.heap.push { cls := .type "list", data := .seq (strsFrom s.toks (Builtin.Str.partsBetween (tx l) (Builtin.Str.occurrences (tx l) (tx [c]) 0 (tx l).length ((tx l).length + 1)) (tx [c]).length)).toArray } }
   rw [e]
   refine ⟨.ref s.heap.objs.size, _, I.lnew (its := strsFrom s.toks ((yy c [] l).map tx)) (kq _ _) ?_, rfl, q⟩
   rw [List.length_map]
   have := xq c l []
   omega
  ·have hn : c ∉ l := fun hm => by
    obtain ⟨r, e⟩ := qB c l 0 hm
    rw [jB, e] at hf
    simp at hf
   exact call_meets F.slot_str_split (typeIs_str _ _ _) F.entry_str_split (F.args_str_split_2 _ _) (meets_str_split_not_found (tx l) (tx [c]) t t' h1 rfl hf) (one (qc c l [] hn))
 ·have h0 : l = [] := by
   rw [Bool.or_eq_true, decide_eq_true_eq, decide_eq_true_eq] at h1
   rcases h1 with z | z
   ·rw [ym] at z
    have z : l.length < 1 := z
    exact List.length_eq_zero_iff.mp (by omega)
   ·exact absurd z (zd9 l hc)
  exact call_meets F.slot_str_split (typeIs_str _ _ _) F.entry_str_split (F.args_str_split_2 _ _) (meets_str_split_cannot_occur (tx l) (tx [c]) t t' h1) (one (by rw [h0]; rfl))
def jC (sep : List Nat) : List (List Nat) -> List Nat
 | [] => []
 | [m] => m
 | m :: n :: r => m ++ sep ++ jC sep (n :: r)
theorem zaI (sep : List Nat) : ∀ ms : List (List Nat), Str.join (tx sep) (ms.map tx) = tx (jC sep ms)
 | [] => rfl
 | [m] => rfl
 | m :: n :: r => by
  show tx m ++ tx sep ++ Str.join (tx sep) ((n :: r).map tx) = _
  rw [zaI sep (n :: r), jU, jU]
  rfl
theorem ku : ∀ {ms : List (List Nat)} {us : List Value}, Vals (ms.map fun m => V.str (tx m)) us -> ∃ l : List (Str × Tok), us = strValues l /\ l.map (·.1) = ms.map tx
 | [], _, .nil => ⟨[], rfl, rfl⟩
 | m :: r, _, .cons ⟨t, e⟩ h => by
  obtain ⟨l, e1, e2⟩ := ku (ms := r) h
  exact ⟨(tx m, t) :: l, by rw [e, e1]; rfl, by rw [List.map_cons, e2]; rfl⟩
theorem zaJ : MtR X "str.join" (fun x xs H Q => ∃ sep a ms, x = .str (tx sep) /\ xs = [.ref a] /\ SqL X.K H a (ms.map fun m => V.str (tx m)) /\ (ms.map List.length).sum + ms.length * sep.length <= sizeLine /\ Q (.str (tx (jC sep ms))) H) := by
 intro pins s σ H x xs v us Q I rx rs h
 obtain ⟨sep, a, ms, rfl, rfl, hq, hz, q⟩ := h
 obtain ⟨t, rfl⟩ := rx
 obtain ⟨u, rfl, ru⟩ := rs.one
 cases (show u = .ref a from ru)
 obtain ⟨its, rv, pl, _⟩ := I.list hq
 obtain ⟨l, e1, e2⟩ := ku rv
 have hl : s.heap.IsList a (strValues l).toArray := by rw [<- e1]; exact pl.isList
 refine SC.join hl e2 ?_ fun t' k => ⟨.str _, H, I.tok _, ⟨t', ?_⟩, q⟩
 ·unfold JoinOk
  rw [Bool.not_eq_true']
  unfold Builtin.Str.tooLong
  refine decide_eq_false ?_
  rw [StrLaws.joinTotal, List.map_map]
  have e3 : (List.map (Str.length ∘ tx) ms) = ms.map List.length := by
   refine List.map_congr_left fun m _ => ?_
   exact ym m
  have e4 : (tx sep).length = sep.length := ym sep
  rw [List.length_map]
  show ¬ ((List.map (Str.length ∘ tx) ms).sum + ms.length * (tx sep).length > sizeLine)
  rw [e3, e4]
  omega
 ·show Value.str (Builtin.Str.glued (tx sep) (ms.map tx)) t' = _
  rw [StrLaws.glued_eq_join, zaI]
theorem zbd : MtR X "list.index" (fun x xs H Q => ∃ a ys y j, x = .ref a /\ xs = [y] /\ H a = some (.lst ys) /\ xP y = true /\ ys.all xP = true /\ (∃ z, ys[j]? = some z /\ eqV z y = true) /\ (∀ (i : Nat) z, i < j -> ys[i]? = some z -> eqV z y = false) /\ Q (.int (j : Nat)) H) := by
 intro pins s σ H x xs v us Q I rx rs h
 obtain ⟨a, ys, y, j, rfl, rfl, hq, fy, fs, ⟨z, hj, hit⟩, hno, q⟩ := h
 cases rx
 obtain ⟨u, rfl, ru⟩ := rs.one
 obtain ⟨hz, its, n, rv, e⟩ := (show ObjOk X.prog X.w H s.heap a (.lst ys) from I.hok a _ hq)
 have lj : j < ys.length := (List.getElem?_eq_some_iff.mp hj).1
 have ln := rv.length
 have fl : ∀ {i : Nat} {z : V}, ys[i]? = some z -> xP z = true := fun {i z} ez => List.all_eq_true.mp fs z (List.mem_of_getElem? ez)
 have szl : sizeLine < 2 ^ 62 := by decide
 have at1 : ∀ (i : Nat) (hi : i < its.toArray.size) (z : V), ys[i]? = some z -> eqU y its.toArray[i] = eqV z y := fun i hi z ez => by
  obtain ⟨w, ew, rw'⟩ := rv.get ez
  have : its.toArray[i] = w := by
   have h2 : its[i]? = some w := ew
   have h3 : i < its.length := by simpa using hi
   rw [List.getElem?_eq_getElem h3] at h2
   simpa using Option.some.inj h2
  rw [this, zb6 rw' (fl ez)]
 refine call_meets F.slot_list_index ⟨_, e, rfl⟩ F.entry_list_index (F.args_list_index_2 _ _) (SeqAt.list_indexAt a its.toArray n none #[] u (eqU y) j (by simp; omega) (by omega) (by rw [at1 j (by simp; omega) z hj]; exact hit) (fun m hm hlt => by
  have hm' : m < ys.length := by omega
  rw [at1 m hm _ (List.getElem?_eq_getElem hm')]
  exact hno m _ hlt (List.getElem?_eq_getElem hm'))) ⟨e, fun w hw => vx ru fy rv fs w (by simpa using hw), ?_⟩
 exact ⟨.int _, H, I.tok _, ⟨_, rfl⟩, q⟩
theorem zbe : xS X (.type "int") (fun xs H Q => ∃ l, xs = [.str (tx l)] /\ (∀ c ∈ l, 48 <= c /\ c <= 57) /\ l ≠ [] /\ l.length <= 100 /\ Q (.int (PySem.NumText.digitsVal l : Nat)) H) := by
 intro pins s σ H xs us Q I r h
 obtain ⟨l, rfl, hd, hne, hl, q⟩ := h
 obtain ⟨u, rfl, ru⟩ := ju r
 obtain ⟨t, rfl⟩ := ru
 exact PySem.W.KIN.call_text (PySem.intText_digits (x := tx l) hd hne (by rw [ym]; omega)) (by rw [ym]; omega) ⟨.int _, H, I.tok _, ⟨_, rfl⟩, q⟩
end
end L2
local macro_rules | `(tactic| walk_at "z") => `(tactic| (extract_lets +onlyGivenNames -merge -underBinder z0; subst z0))
local macro_rules | `(tactic| walk_at "j") => `(tactic| (extract_lets +onlyGivenNames -merge -underBinder j0; generalize hj : j0 = j; have hk := hj.symm; clear hj; subst j0; revert j hk))
namespace L2.Srt
open PySem PyProof.Rows
abbrev P3 := Array (Nat × Nat × Nat)
section
variable {prog : Program} {w : World} {A : Around} {E : Value -> Shared -> Prop} {s : Shared} {a₀ : Array Keyed} {p : P3}
end
end L2.Srt
local macro_rules | `(tactic| walk_at "z") => `(tactic| (extract_lets +onlyGivenNames -merge -underBinder z0; subst z0))
local macro_rules | `(tactic| walk_at "j") => `(tactic| (extract_lets +onlyGivenNames -merge -underBinder j0; generalize hj : j0 = j; have hk := hj.symm; clear hj; subst j0; revert j hk))
namespace L2.Srt
open PySem PyProof.Rows
section
variable {r : Keyed -> Keyed -> Prop} {la lb out : List Keyed} {ia ib : Nat}
end
section
variable {prog : Program} {w : World} {A : Around} {E : Value -> Shared -> Prop} {s : Shared} {a₀ : Array Keyed} {p : P3}
end
end L2.Srt
local macro_rules | `(tactic| walk_at "z") => `(tactic| (extract_lets +onlyGivenNames -merge -underBinder z0; subst z0))
local macro_rules | `(tactic| walk_at "j") => `(tactic| (extract_lets +onlyGivenNames -merge -underBinder j0; generalize hj : j0 = j; have hk := hj.symm; clear hj; subst j0; revert j hk))
namespace L2.Srt
open PySem PyProof.Rows
section
variable {prog : Program} {w : World} {A : Around} {E : Value -> Shared -> Prop} {s : Shared} {a₀ : Array Keyed} {p : P3}
end
end L2.Srt
local macro_rules | `(tactic| walk_at "z") => `(tactic| (extract_lets +onlyGivenNames -merge -underBinder z0; subst z0))
local macro_rules | `(tactic| walk_at "j") => `(tactic| (extract_lets +onlyGivenNames -merge -underBinder j0; generalize hj : j0 = j; have hk := hj.symm; clear hj; subst j0; revert j hk))
namespace L2.Srt
open PySem PyProof.Rows
section
variable {prog : Program} {w : World} {A : Around} {E : Value -> Shared -> Prop} {s : Shared} {a₀ : Array Keyed} {p : P3}
end
end L2.Srt
local macro_rules | `(tactic| walk_at "z") => `(tactic| (extract_lets +onlyGivenNames -merge -underBinder z0; subst z0))
local macro_rules | `(tactic| walk_at "j") => `(tactic| (extract_lets +onlyGivenNames -merge -underBinder j0; generalize hj : j0 = j; have hk := hj.symm; clear hj; subst j0; revert j hk))
namespace L2.Srt
open PySem PyProof.Rows
section
variable {prog : Program} {w : World} {A : Around} {E : Value -> Shared -> Prop} {s : Shared} {a₀ : Array Keyed} {p : P3}
end
end L2.Srt
local macro_rules | `(tactic| walk_at "z") => `(tactic| (extract_lets +onlyGivenNames -merge -underBinder z0; subst z0))
local macro_rules | `(tactic| walk_at "j") => `(tactic| (extract_lets +onlyGivenNames -merge -underBinder j0; generalize hj : j0 = j; have hk := hj.symm; clear hj; subst j0; revert j hk))
namespace L2.Srt
open PySem PyProof.Rows
section
variable {prog : Program} {w : World} {A : Around} {E : Value -> Shared -> Prop} {s : Shared} {a₀ : Array Keyed} {p : P3}
end
end L2.Srt
namespace L2.Srt
open PySem PyProof.Rows
def Rise (xs : Array Nat) : Prop := xs.toList.Pairwise (· < ·)
structure GT (bt : Bool) (t : SetTable) : Prop where
 led : bt = false -> t.led = true
 dum : t.dummies = #[]
 rise : t.plain = true -> Rise t.place
end L2.Srt
namespace L2.Srt
open PySem PyProof.Rows
section
variable {prog : Program} {w : World} {A : Around} {E : Value -> Shared -> Prop} {s : Shared}
end
end L2.Srt
set_option maxHeartbeats 3200000
namespace L2.Srt
open PySem PyProof.Rows
section
variable {prog : Program} {w : World} {A : Around} {E : Value -> Shared -> Prop} {s : Shared}
end
end L2.Srt
set_option maxHeartbeats 3200000
namespace L2.Srt
open PySem PyProof.Rows
section
variable {prog : Program} {w : World} {A : Around} {E : Value -> Shared -> Prop} {s : Shared}
end
end L2.Srt
namespace L2.Srt
open PySem PyProof.Rows
section
variable {prog : Program} {w : World} {A : Around} {E : Value -> Shared -> Prop} {s : Shared}
namespace F
end F
end
end L2.Srt
namespace L2.Srt
open PySem PyProof.Rows
section
variable {prog : Program} {w : World} {A : Around} {E : Value -> Shared -> Prop} {s : Shared}
end
end L2.Srt
namespace L2.Srt
open PySem PyProof.Rows
namespace F
end F
section
variable {prog : Program} {w : World} {A : Around} {E : Value -> Shared -> Prop} {s : Shared}
end
end L2.Srt
namespace L2.Srt
open PySem PyProof.Rows
section
variable {prog : Program} {w : World} {A : Around} {E : Value -> Shared -> Prop} {s : Shared}
end
end L2.Srt
namespace L2
open PySem PySem.Spec PyProof.Rows
def vd (K : Fq) (J : It) (cv : St) (tt : TT) (te : TE) (D : Addr) (H1 : Hp) (Q : VK) : Prop := ∃ W : Nat -> Nat -> Hp -> Prop, (∃ m, W 0 m (upd H1 D (.lst []))) /\ ∀ i m H', W i m H' →
 (J.stop i H' /\ Q (.ref D) H') \/ (J.go i H' /\ ∀ x H2, J.yld i H' x H2 -> ∃ t a b, x = .ref t /\ SqT K H2 t [a, b] /\ tt (some a :: some b :: cv) H2 fun ok H3 => if ok = true then te (some a :: some b :: cv) H3 fun v H4 => ∃ ys, H4 D = some (.lst ys) /\ ys.length < sizeLine /\ ∃ m', m' < m /\ W (i + 1) m' (upd H4 D (.lst (ys ++ [v])))
  else ∃ m', m' < m /\ W (i + 1) m' H3)
def zac (K : Fq) (wi : TI) (caps : List (Nat × Str)) (tt : TT) (te : TE) : TE := fun σ H Q => wi σ H fun J H1 => ∀ D, H1 D = none -> vd K J (xj caps σ) tt te D H1 Q
section
variable {X : Cx} {pins : Pq} {σ : St} {H : Hp} {s : Shared}
theorem kv {elt iter : Expr} {ifs : List Expr} {x x2 : Str} {px px2 pos ipos pt : Pos} {kt : Nat} {caps : List (Nat × Str)} {scope : Scope} {wi : TI} {tt : TT} {te : TE} {use : Option (Value -> Sem Unit)} {Q : VK} {QQ : Value -> Shared -> Prop}
  (hc : X.calm = true) (hi : PI X (.Tuple [.Name x px, .Name x2 px2] kt pt) iter wi) (S : xk scope x) (S2 : xk scope x2) (hcap : CapOk X scope caps) (hfree : ∀ y ∈ scope.names, y.2 = .free -> X.env.scope.names.lookup y.1 = some .cell \/ X.env.scope.names.lookup y.1 = some .free)
  (ht : ∀ cl s H fp, PTs (ya X (x :: x2 :: caps.map (·.2)) scope cl s H fp) ifs tt) (he : ∀ cl s H fp, PE (ya X (x :: x2 :: caps.map (·.2)) scope cl s H fp) elt te)
  (hs : ∀ v, foldedSetIterable iter X.env v = pure v) (nd : (x :: x2 :: caps.map (·.2)).Nodup)
  (I : Inv X pins σ H s) (h : zac X.K wi caps tt te σ H Q)
  (fin : ∀ (D C : Addr) (H' : Hp) (s' : Shared) (m : Mq), Inv X pins σ H' s' -> s'.heap.Ns C m -> xB X pins H' C -> Q (.ref D) H' -> compPost (model X.prog X.w) X.A X.xe use QQ (.ref D) C (.ok .next) s') :
  wpAny (model X.prog X.w) X.A (comprehension (.ListComp elt [⟨.Tuple [.Name x px, .Name x2 px2] kt pt, iter, ifs, 0⟩] scope pos) scope X.env ipos (newList []) false (eval iter X.env) use) QQ X.xe s :=
 ka (ws := [x, x2]) (g := gTup X.K 2 (zbR (js 0) (zbR (js 1) gNil))) (sh := fun z H vs => ∃ t a b, z = V.ref t /\ SqT X.K H t [a, b] /\ vs = [a, b]) hc hi S.kind S.nocell S.locs hcap hfree ht he
  (fun cl s H fp => ql hc (yK (zX (i := 0) nd rfl (.inl (lookup_relabel_local S.own)) (.inr (lookup_relabel_local S.own))) (yK (zX (i := 1) nd rfl (.inl (lookup_relabel_local S2.own)) (.inr (lookup_relabel_local S2.own))) jt)))
  (fun pre cv z H vs R hl e r => by
   obtain ⟨t, a, b, rfl, q, rfl⟩ := e
   match pre, hl with
   | [p1, p2], _ => exact ⟨t, [a, b], rfl, q, rfl, a, [b], rfl, b, [], rfl, rfl, r⟩)
  (fun z H vs e => by obtain ⟨t, a, b, _, _, rfl⟩ := e; rfl) hs I h (fun J H1 r D hD => (r D hD).imp fun W w => ⟨w.1, fun i m H' w' => (w.2 i m H' w').imp id fun q => ⟨q.1, fun x H2 y => (q.2 x H2 y).elim fun t z => z.elim fun a z => z.elim fun b z => ⟨[a, b], ⟨t, a, b, z.1, z.2.1, rfl⟩, z.2.2⟩⟩⟩) fin
end
section
variable {X : Cx} {pins : Pq} {σ : St} {H : Hp} {s : Shared}
theorem vX {elt iter : Expr} {ifs : List Expr} {x x2 : Str} {px px2 pos pt : Pos} {kt : Nat} {caps : List (Nat × Str)} {scope : Scope} {wi : TI} {tt : TT} {te : TE}
  (hc : X.calm = true) (hi : PI X (.Tuple [.Name x px, .Name x2 px2] kt pt) iter wi) (S : xk scope x) (S2 : xk scope x2) (hcap : CapOk X scope caps) (hfree : qZ scope X.env.scope = true)
  (nd : (x :: x2 :: caps.map (·.2)).Nodup)
  (ht : ∀ cl s H fp, PTs (ya X (x :: x2 :: caps.map (·.2)) scope cl s H fp) ifs tt) (he : ∀ cl s H fp, PE (ya X (x :: x2 :: caps.map (·.2)) scope cl s H fp) elt te)
  (hs : ∀ v, foldedSetIterable iter X.env v = pure v := by intro _; rfl) :
  PE X (.ListComp elt [⟨.Tuple [.Name x px, .Name x2 px2] kt pt, iter, ifs, 0⟩] scope pos) (zac X.K wi caps tt te) := by
 intro pins s σ H Q I h
 rw [eval_ListComp]
 refine kv (use := none) hc hi S S2 hcap (xT hfree) ht he hs nd I h fun D C H' s' m I' hn fC q => ?_
 refine ⟨m, hn, fun h' sb => ⟨.ref D, H', ?_, rfl, q⟩⟩
 exact I'.turned (it := C) (t' := s'.toks) (fun b o hb e => sb.extBut b o hb e) fC.1 fC.2.1 fC.2.2.2.1 fC.2.2.2.2.1 fC.2.2.2.2.2
theorem vY {elt iter : Expr} {ifs : List Expr} {x x2 y : Str} {px px2 py pos spos pt : Pos} {kt : Nat} {caps : List (Nat × Str)} {scope : Scope} {wi : TI} {tt : TT} {te : TE} {i : Nat} (hN : X.N.Nodup) (hi' : X.N[i]? = some y) (hx : Loc X.env.scope y)
  (hc : X.calm = true) (hi : PI X (.Tuple [.Name x px, .Name x2 px2] kt pt) iter wi) (S : xk scope x) (S2 : xk scope x2) (hcap : CapOk X scope caps) (hfree : qZ scope X.env.scope = true)
  (nd : (x :: x2 :: caps.map (·.2)).Nodup)
  (ht : ∀ cl s H fp, PTs (ya X (x :: x2 :: caps.map (·.2)) scope cl s H fp) ifs tt) (he : ∀ cl s H fp, PE (ya X (x :: x2 :: caps.map (·.2)) scope cl s H fp) elt te)
  (hs : ∀ v, foldedSetIterable iter X.env v = pure v := by intro _; rfl)
  (hsw : swapsWith (.ListComp elt [⟨.Tuple [.Name x px, .Name x2 px2] kt pt, iter, ifs, 0⟩] scope pos) (some (.Name y py)) spos.line X.env = pure true := by rfl)
  (hf : X.fn y = true \/ X.env.scope.names.lookup y = some .local := by first | exact .inl rfl | exact .inr rfl | assumption) :
  PS X (.Assign [.Name y py] (.ListComp elt [⟨.Tuple [.Name x px, .Name x2 px2] kt pt, iter, ifs, 0⟩] scope pos) spos) (zbS (zac X.K wi caps tt te) (js i)) := by
 intro pins s σ H D I h
 rw [exec_Assign_Name_used _ _ _ _ hsw]
 refine wpAny_bind (wpAny_standAt (wpAny_bind ?_))
 show wpAny _ X.A (do let _ <- comprehension (.ListComp elt [⟨.Tuple [.Name x px, .Name x2 px2] kt pt, iter, ifs, 0⟩] scope pos) scope X.env _ (newList []) false (eval iter X.env) (some (assign (.Name y py) X.env))) _ _ s
 refine wpAny_bind (wpAny_mono (kv (use := some (assign (.Name y py) X.env)) (QQ := fun _ s' => SP X pins D .next s') hc hi S S2 hcap (xT hfree) ht he hs nd I h fun D' C H' s' m I' hn fC q => ?_)
  (fun _ s' hq => wpAny_pure (wpAny_pure hq)) fun _ _ e => e)
 show wpAny _ X.A (assign (.Name y py) X.env (.ref D')) _ _ s'
 refine wpAny_assign_Name (xX I' hN hi' hx (v := .ref D') rfl (fun s2 I2 hh => ?_) hf)
 obtain ⟨a, sb, ha⟩ := hh
 have hCa : C ≠ a := by
  rcases ha with e | e
  ·rw [e]; exact fC.2.1
  ·exact fun z => fC.2.2.2.2.1 y a e z.symm
 refine ⟨m, hn.sameBut sb hCa, fun h' sb' => ⟨σ.set i (some (.ref D')), H', ?_, q⟩⟩
 exact I2.turned (it := C) (t' := s2.toks) (fun b o hb e => sb'.extBut b o hb e) fC.1 fC.2.1 fC.2.2.2.1 fC.2.2.2.2.1 fC.2.2.2.2.2
end
end L2
namespace L2
open PySem PySem.Spec PyProof.Rows
def Itz (a b : Addr) : It := ⟨fun i H => ∃ xs ys x y, H a = some (.lst xs) /\ H b = some (.lst ys) /\ xs[i]? = some x /\ ys[i]? = some y,
 fun i H v H' => ∃ p x y, H p = none /\ v = .ref p /\ H' = upd H p (.tup [x, y]) /\ (∀ xs, H a = some (.lst xs) -> xs[i]? = some x) /\ ∀ ys, H b = some (.lst ys) -> ys[i]? = some y,
 fun i H => ∃ xs ys, H a = some (.lst xs) /\ H b = some (.lst ys) /\ xs.length <= i⟩
abbrev ZSt (z TI TO i1 i2 a b : Addr) (i : Nat) (h : Heap) : Prop := IsZip h z TI TO .none /\ IsPair h TI (.ref i1) (.ref i2) /\ (∃ u v, IsPair h TO u v) /\ h.IsListIter i1 a i /\ h.IsListIter i2 b i
theorem zcI {P : Program} {w : World} {K : Fq} {elts : List Expr} {x1} {pos : Pos} (z TI TO i1 i2 a b : Addr) (D : ZipApart z TI TO i1 i2 a b) :
  vo P w K (.Tuple elts x1 pos) (Itz a b) [z, TI, TO, i1, i2] z (ZSt z TI TO i1 i2 a b) where
 mem := by simp
 obj := fun i h st c hc => by
  obtain ⟨gz, gI, ⟨u, v, gO⟩, u1, u2⟩ := st
  simp only [List.mem_cons, List.not_mem_nil, or_false] at hc
  rcases hc with e | e | e | e | e
  ·rw [e]; exact ⟨_, gz, fun v y => by cases (show Data.fields _ = Data.cell v from y)⟩
  ·rw [e]; exact ⟨_, gI, fun v y => by cases (show Data.seq _ _ = Data.cell v from y)⟩
  ·rw [e]; exact ⟨_, gO, fun v y => by cases (show Data.seq _ _ = Data.cell v from y)⟩
  ·rw [e]; obtain ⟨o, e, c, d⟩ := u1; exact ⟨o, e, fun v y => by rw [d] at y; cases y⟩
  ·rw [e]; obtain ⟨o, e, c, d⟩ := u2; exact ⟨o, e, fun v y => by rw [d] at y; cases y⟩
 keep := fun i h h' st k => ⟨k z (by simp) _ st.1, k TI (by simp) _ st.2.1, (let ⟨u, v, g⟩ := st.2.2.1; ⟨u, v, k TO (by simp) _ g⟩), st.2.2.2.1.at fun o q => k i1 (by simp) o q, st.2.2.2.2.at fun o q => k i2 (by simp) o q⟩
 item := by
  intro X hP hw hK hc i pins s σ H E I hf st hg
  subst hP hw hK
  obtain ⟨gz, gI, ⟨u0, v0, gO⟩, u1, u2⟩ := st
  obtain ⟨xs, ys, x, y, hq1, hq2, hx, hy⟩ := hg
  obtain ⟨hz1, its1, n1, rv1, hl1⟩ := (show ObjOk X.prog X.w H s.heap a (.lst xs) from I.hok a _ hq1)
  obtain ⟨hz2, its2, n2, rv2, hl2⟩ := (show ObjOk X.prog X.w H s.heap b (.lst ys) from I.hok b _ hq2)
  have m1 : s.heap.IsList a its1.toArray := ⟨_, hl1, rfl, n1, rfl⟩
  have m2 : s.heap.IsList b its2.toArray := ⟨_, hl2, rfl, n2, rfl⟩
  obtain ⟨ux, hux, rx⟩ := rv1.get hx
  obtain ⟨uy, huy, ry⟩ := rv2.get hy
  have fz := hf z (by simp)
  have fI := hf TI (by simp)
  have fO := hf TO (by simp)
  have f1 := hf i1 (by simp)
  have f2 := hf i2 (by simp)
  have ltz := Heap.lt_size gz
  refine wpAny_pyNext_zip_item D gz gI gO u1 u2 m1 m2 (x := ux) (y := uy) (by simpa using hux) (by simpa using huy) fun h1 z1 o1 w1 w2 p1 sz1 k1 => ?_
  refine ⟨_, rfl, wpAny_letOwnedTupleGo_zip z1 fun h2 z2 hs2 => ?_⟩
  replace hs2 : Heap.SameBut z h1 h2 := hs2
  have hp : H s.heap.objs.size = none := I.hok.fresh (Nat.le_refl _)
  have k2 : ∀ c o, c ≠ z -> c ≠ TO -> c ≠ i1 -> c ≠ i2 -> s.heap.get? c = some o -> h2.get? c = some o := fun c o n1 n2 n3 n4 q => (hs2.2 c n1).trans (k1 c o n1 n2 n3 n4 q)
  have kc : ∀ c o, c ∉ [z, TO, i1, i2] -> s.heap.get? c = some o -> h2.get? c = some o := fun c o hc q => k2 c o (fun e => hc (by simp [e])) (fun e => hc (by simp [e])) (fun e => hc (by simp [e])) (fun e => hc (by simp [e])) q
  have pt : IsPair h2 s.heap.objs.size ux uy := (hs2.2 _ (Nat.ne_of_gt ltz)).trans p1
  have up : ∀ {b : Addr} {v : HO}, H b = some v -> (upd H s.heap.objs.size (.tup [x, y])) b = some v := fun q => by rw [zj (zu q hp)]; exact q
  have ch : ∀ c ∈ [z, TO, i1, i2], xB X pins H c := fun c hc => by
   simp only [List.mem_cons, List.not_mem_nil, or_false] at hc
   rcases hc with e | e | e | e <;> rw [e]
   ·exact fz
   ·exact fO
   ·exact f1
   ·exact f2
  refine ⟨.ref s.heap.objs.size, upd H s.heap.objs.size (.tup [x, y]), ?_, rfl, ⟨_, x, y, hp, rfl, rfl, fun us hu => ?_, fun us hu => ?_⟩, ⟨z2, ?_, ⟨ux, uy, (hs2.2 _ D.TOz).trans o1⟩, w1.at fun o q => (hs2.2 _ D.i1z).trans q, w2.at fun o q => (hs2.2 _ D.i2z).trans q⟩, fun c hc => ?_⟩
  ·show Inv X pins σ _ { s with heap := h2, gens := s.gens, drawn := s.drawn, toks := s.toks }
   refine Inv.step (s := s) (h' := h2) (g' := s.gens) (d' := s.drawn) (t' := s.toks) (ch := [z, TO, i1, i2]) I (fun c hc => ?_) (fun c o _ _ hc q _ => kc c o hc q) (fun c o _ _ hc q _ => ⟨o.slots, kc c o hc q⟩)
    (fun c o _ q n => by rw [zj (Nat.ne_of_lt (Heap.lt_size q))]; exact n) (fun c o hc q => ⟨o, kc c o hc q⟩) (fun _ _ q => up q) (fun _ _ _ q => up q) (fun c ps q => ⟨#[], by rw [up q]; simp⟩) (fun m hm => ?_) (fun c v q => ?_) I.bare
   ·obtain ⟨_, g1, _, g3, g4, g5⟩ := ch c hc
    exact ⟨g3, g1, g4, g5⟩
   ·obtain ⟨o, es, ep, ho, r⟩ := hm
    exact ⟨o, es, ep, kc _ o (fun hc => (ch _ hc).2.1 rfl) ho, r⟩
   ·by_cases e : c = s.heap.objs.size
    ·subst e
     rw [zh] at q
     cases q
     exact ⟨by show 2 <= sizeLine; decide, [ux, uy], .cons rx (.cons ry .nil), ⟨_, pt, rfl, _, rfl⟩⟩
    ·rw [zj e] at q
     have ne : ∀ {c : Addr} {v : HO}, H c = some v -> c ∉ [z, TO, i1, i2] := fun q hc => by rw [(ch _ hc).1] at q; cases q
     refine (I.hok c v q).stay (fun c' o hc q2 => ?_) (fun c q2 => up q2) (fun c xs q2 => up q2)
     rcases hc with y | y
     ·rw [y] at q2 |-; exact kc _ _ (ne q) q2
     ·exact kc _ _ (ne y) q2
  ·rw [hq1] at hu
   cases hu
   exact hx
  ·rw [hq2] at hu
   cases hu
   exact hy
  ·exact k2 TI _ D.TIz D.TITO D.TIi1 D.TIi2 gI
  ·have hl : c < s.heap.objs.size := by
    simp only [List.mem_cons, List.not_mem_nil, or_false] at hc
    rcases hc with e | e | e | e | e <;> rw [e]
    ·exact ltz
    ·exact Heap.lt_size gI
    ·exact Heap.lt_size gO
    ·obtain ⟨o, e, _⟩ := u1; exact Heap.lt_size e
    ·obtain ⟨o, e, _⟩ := u2; exact Heap.lt_size e
   rw [zj (Nat.ne_of_lt hl)]
   exact (hf c hc).1
 done := by
  intro X hP hw hK hc i pins s σ H E I hf st hg
  subst hP hw hK
  obtain ⟨gz, gI, ⟨u0, v0, gO⟩, u1, u2⟩ := st
  obtain ⟨xs, ys, hq1, hq2, hx⟩ := hg
  obtain ⟨hz1, its1, n1, rv1, hl1⟩ := (show ObjOk X.prog X.w H s.heap a (.lst xs) from I.hok a _ hq1)
  obtain ⟨hz2, its2, n2, rv2, hl2⟩ := (show ObjOk X.prog X.w H s.heap b (.lst ys) from I.hok b _ hq2)
  have m1 : s.heap.IsList a its1.toArray := ⟨_, hl1, rfl, n1, rfl⟩
  have m2 : s.heap.IsList b its2.toArray := ⟨_, hl2, rfl, n2, rfl⟩
  have ln := rv1.length
  have ch : ∀ c ∈ [z, TO, i1, i2], xB X pins H c := fun c hc => hf c (by
   simp only [List.mem_cons, List.not_mem_nil, or_false] at hc |-
   rcases hc with e | e | e | e
   ·exact .inl e
   ·exact .inr (.inr (.inl e))
   ·exact .inr (.inr (.inr (.inl e)))
   ·exact .inr (.inr (.inr (.inr e))))
  refine wpAny_pyNext_zip_end (I.ok.hd hc) D gz gI gO u1 u2 m1 m2 (.inl (by simp; omega)) fun h2 k2 => ⟨rfl, ?_⟩
  have kc : ∀ c o, c ∉ [z, TO, i1, i2] -> s.heap.get? c = some o -> h2.get? c = some o := fun c o hc q => k2 c o (fun e => hc (by simp [e])) (fun e => hc (by simp [e])) (fun e => hc (by simp [e])) (fun e => hc (by simp [e])) q
  show Inv X pins σ _ { s with heap := h2, gens := s.gens, drawn := s.drawn, toks := s.toks }
  refine Inv.step (s := s) (h' := h2) (g' := s.gens) (d' := s.drawn) (t' := s.toks) (ch := [z, TO, i1, i2]) I (fun c hc => ?_) (fun c o _ _ hc q _ => kc c o hc q) (fun c o _ _ hc q _ => ⟨o.slots, kc c o hc q⟩)
   (fun c o _ q n => n) (fun c o hc q => ⟨o, kc c o hc q⟩) (fun _ _ q => q) (fun _ _ _ q => q) (fun c ps q => ⟨#[], by rw [q]; simp⟩) (fun m hm => ?_) (fun c v q => ?_) I.bare
  ·obtain ⟨_, g1, _, g3, g4, g5⟩ := ch c hc
   exact ⟨g3, g1, g4, g5⟩
  ·obtain ⟨o, es, ep, ho, r⟩ := hm
   exact ⟨o, es, ep, kc _ o (fun hc => (ch _ hc).2.1 rfl) ho, r⟩
  ·have ne : ∀ {c : Addr} {v : HO}, H c = some v -> c ∉ [z, TO, i1, i2] := fun q hc => by rw [(ch _ hc).1] at q; cases q
   refine (I.hok c v q).stay (fun c' o hc q2 => ?_) (fun c q2 => q2) (fun c xs q2 => q2)
   rcases hc with y | y
   ·rw [y] at q2 |-; exact kc _ _ (ne q) q2
   ·exact kc _ _ (ne y) q2
 self := fun _ _ _ _ _ st h => wpAny_pyIter_zip st.1 h
def iZip (ta : TA) : TI := fun σ H R => ta σ H fun vs H1 => ∃ l m xs ys, vs = [.ref l, .ref m] /\ H1 l = some (.lst xs) /\ H1 m = some (.lst ys) /\ R (Itz l m) H1
section
variable {X : Cx} {elts : List Expr} {pt : Pos}
theorem zeY {x1} {a b : Expr} {ta : TA} {p pos : Pos} (hg : Gl X "zip") (hm : X.mg "zip" = none) (ha : PA X [a, b] ta) (e2 : starEach [a, b] X.env = (false, eval a X.env) :: starEach [b] X.env := by rfl) (e4 : (backTo pos (starEach [b] X.env)).any (·.1) = false := by rfl) :
  PI X (.Tuple elts x1 pt) (.Call (.Name "zip" p) [a, b] [] pos) (iZip ta) := by
 intro pins s σ H R I h
 refine Call_ (xK I hg hm zen (PyProof.Rows.callWith_type1 (thn (ha pos pins s σ H _ I h) fun us s1 ⟨vs, H1, I1, r1, q1⟩ => ?_) e2 e4))
 obtain ⟨l, m, xs, ys, e, hq1, hq2, q⟩ := q1
 subst e
 obtain ⟨u, v, rfl, ru, rv⟩ := zas r1
 cases (show u = .ref l from ru)
 cases (show v = .ref m from rv)
 obtain ⟨hz1, its1, n1, rv1, hl1⟩ := (show ObjOk X.prog X.w H1 s1.heap l (.lst xs) from I1.hok l _ hq1)
 obtain ⟨hz2, its2, n2, rv2, hl2⟩ := (show ObjOk X.prog X.w H1 s1.heap m (.lst ys) from I1.hok m _ hq2)
 have m1 : s1.heap.IsList l its1.toArray := ⟨_, hl1, rfl, n1, rfl⟩
 have m2 : s1.heap.IsList m its2.toArray := ⟨_, hl2, rfl, n2, rfl⟩
 refine call_zip_2 m1 m2 fun h2 zz zI zO u1 u2 sz kp => ?_
 refine wpAny_pyIter_zip zz ?_
 refine ⟨s1.heap.objs.size + 4, [s1.heap.objs.size + 4, s1.heap.objs.size + 2, s1.heap.objs.size + 3, s1.heap.objs.size, s1.heap.objs.size + 1], _, _, H1, rfl, I1.kept (t' := s1.toks) kp, zcI _ _ _ _ _ l m (zipApart_new (Heap.lt_size hl1) (Heap.lt_size hl2)), ⟨zz, zI, ⟨_, _, zO⟩, u1, u2⟩, fun b hb => ?_, q⟩
 have hb' : s1.heap.objs.size <= b := by
  simp only [List.mem_cons, List.not_mem_nil, or_false] at hb
  rcases hb with e | e | e | e | e <;> rw [e]
  ·exact Nat.le_add_right _ _
  ·exact Nat.le_add_right _ _
  ·exact Nat.le_add_right _ _
  ·exact Nat.le_refl _
  ·exact Nat.le_add_right _ _
 exact I1.fpOk hb' (I1.hok.fresh hb')
end
theorem zcJ {K : Fq} {l m D : Addr} {xs ys : List V} {H1 : Hp} {te : TE} {cv : St} {Q : VK} (f : V -> V -> V) (hz : xs.length <= sizeLine) (hl : xs.length = ys.length) (h1 : H1 l = some (.lst xs)) (h2 : H1 m = some (.lst ys)) (hD : H1 D = none)
  (he : ∀ (i : Nat) x y, xs[i]? = some x -> ys[i]? = some y -> ∀ (H' : Hp) (R : VK), Same H1 H' -> R (f x y) H' -> te (some x :: some y :: cv) H' R)
  (q : ∀ H', Same H1 H' -> H' D = some (.lst (List.zipWith f xs ys)) -> Q (.ref D) H') : vd K (Itz l m) cv jP te D H1 Q := by
 refine ⟨fun i k H' => k = xs.length - i /\ i <= xs.length /\ Same H1 H' /\ H' D = some (.lst (List.zipWith f (xs.take i) (ys.take i))), ⟨xs.length, by simp, Nat.zero_le _, zB hD, by rw [zh]; simp⟩, ?_⟩
 rintro i k H' ⟨rfl, hi, sm, eD⟩
 by_cases hlt : i < xs.length
 ·have hlt2 : i < ys.length := by omega
  have ex := List.getElem?_eq_getElem hlt
  have ey := List.getElem?_eq_getElem hlt2
  refine .inr ⟨⟨xs, ys, _, _, sm _ _ h1, sm _ _ h2, ex, ey⟩, ?_⟩
  rintro v H2 ⟨p, x, y, hp, rfl, rfl, ax, ay⟩
  have e1 := ax xs (sm _ _ h1)
  have e2 := ay ys (sm _ _ h2)
  refine ⟨p, x, y, rfl, SqT.of zh, ?_⟩
  unfold jP
  dsimp only
  rw [if_pos rfl]
  refine he i x y e1 e2 _ _ (sm.trans (zB hp)) ⟨_, zF eD hp, ?_, xs.length - (i + 1), by omega, rfl, hlt, fun b o e => ?_, ?_⟩
  ·rw [List.length_zipWith, List.length_take, List.length_take]
   omega
  ·rw [zj (zu e hD)]
   exact zF (sm b o e) hp
  ·rw [zh, List.take_succ, List.take_succ, e1, e2, List.zipWith_append (by rw [List.length_take, List.length_take]; omega)]
   rfl
 ·have e : i = xs.length := by omega
  subst e
  refine .inl ⟨⟨xs, ys, sm _ _ h1, sm _ _ h2, Nat.le_refl _⟩, q H' sm ?_⟩
  rw [eD, List.take_length, hl, List.take_length]
structure PrsAt (H : Hp) (a : Addr) (ts : List Addr) (ps : List (V × V)) : Prop where
 ls : H a = some (.lst (ts.map V.ref))
 len : ts.length = ps.length
 at_ : ∀ (j : Nat) p, ps[j]? = some p -> H (ts.getD j 0) = some (.tup [p.1, p.2])
theorem PrsAt.same {H H' : Hp} {a : Addr} {ts : List Addr} {ps : List (V × V)} (h : PrsAt H a ts ps) (s : Same H H') : PrsAt H' a ts ps := ⟨s _ _ h.ls, h.len, fun j p e => s _ _ (h.at_ j p e)⟩
theorem ve {ts : List Addr} {i : Nat} (h : i < ts.length) : (ts.map V.ref)[i]? = some (V.ref (ts.getD i 0)) := by
 rw [List.getElem?_map, List.getD_eq_getElem?_getD, List.getElem?_eq_getElem h]
 rfl
theorem vZ {K : Fq} {a D : Addr} {ts : List Addr} {ps : List (V × V)} {H1 : Hp} {te : TE} {cv : St} {Q : VK} (f : V × V -> V) (hz : ps.length <= sizeLine) (h : PrsAt H1 a ts ps) (hD : H1 D = none)
  (he : ∀ (i : Nat) p, ps[i]? = some p -> ∀ (us : List V) (R : VK), R (f p) (upd H1 D (.lst us)) -> te (some p.1 :: some p.2 :: cv) (upd H1 D (.lst us)) R)
  (q : Q (.ref D) (upd H1 D (.lst (ps.map f)))) : vd K (Itl K a) cv jP te D H1 Q := by
 have w := qr (K := K) (SqL.of h.ls) hD
 have ll : (ts.map V.ref).length = ps.length := by rw [List.length_map]; exact h.len
 refine ⟨fun i k H' => k = ps.length - i /\ i <= ps.length /\ H' = upd H1 D (.lst ((ps.take i).map f)), ⟨ps.length, by simp, Nat.zero_le _, by simp⟩, ?_⟩
 rintro i k H' ⟨rfl, hi, rfl⟩
 by_cases hlt : i < ps.length
 ·have ex := ve (ts := ts) (i := i) (by rw [h.len]; exact hlt)
  have ep := List.getElem?_eq_getElem hlt
  obtain ⟨g, y⟩ := w.1 i _ ((ps.take i).map f) ex
  refine .inr ⟨g, fun v H2 hy => ?_⟩
  obtain ⟨rfl, rfl⟩ := y v H2 hy
  refine ⟨_, ps[i].1, ps[i].2, rfl, SqT.of (zF (h.at_ i _ ep) hD), ?_⟩
  unfold jP
  dsimp only
  rw [if_pos rfl]
  refine he i _ ep _ _ ⟨_, zh, by rw [List.length_map, List.length_take]; omega, ps.length - (i + 1), by omega, rfl, hlt, ?_⟩
  rw [yM, List.take_succ, ep, List.map_append]
  rfl
 ·have e : i = ps.length := by omega
  subst e
  refine .inl ⟨by have := w.2 ((ps.take ps.length).map f); rw [ll] at this; exact this, ?_⟩
  rw [List.take_length]
  exact q
end L2
namespace L2
def sgs : List Nat := [32,33,34,35,36,38,39,40,41,42,43,44,45,46,47,48,49,50,51,52,53,54,55,56,57,58,59,60,61,62,63,64,65,66,67,68,69,70,71,72,73,74,75,76,77,78,79,80,81,82,83,84,85,86,87,88,89,90,91,92,93,94,95,96,97,98,99,100,101,102,103,104,105,106,107,108,109,110,111,112,113,114,115,116,117,118,119,120,121,122,123,124,125,126]
def ltr : List Nat := [97,98,99,100,101,102,103,104,105,106,107,108,109,110,111,112,113,114,115,116,117,118,119,120,121,122]
def dec (n : Nat) : List Nat := (Nat.toDigits 10 n).map Char.toNat
theorem vf : sgs.length = 94 := rfl
theorem sgs_nodup : sgs.Nodup := by decide +kernel
def plc (c : Nat) : Nat := sgs.idxOf c
theorem zcK {c : Nat} (h : c ∈ sgs) : plc c < 94 := List.idxOf_lt_length_of_mem h
theorem zcL {ks : List Nat} {c : Nat} (hc : c ∈ ks) : ks[ks.idxOf c]? = some c := by
 have := List.getElem_idxOf (List.idxOf_lt_length_of_mem hc)
 rw [List.getElem?_eq_getElem (List.idxOf_lt_length_of_mem hc)]
 exact congrArg some this
def yb (l : List Nat) : List Nat := sgs.filter (fun c => decide (c ∈ l))
def v8 (l : List Nat) : List Nat := (yb l).map (fun c => l.count c)
def rowL (l : List Nat) : List Nat := l.map (fun c => (yb l).idxOf c)
theorem x0 {l : List Nat} (hl : ∀ c ∈ l, c ∈ sgs) {c : Nat} : c ∈ yb l ↔ c ∈ l := by
 unfold yb
 rw [List.mem_filter, decide_eq_true_eq]
 exact ⟨fun h => h.2, fun h => ⟨hl c h, h⟩⟩
theorem jX {l : List Nat} {c : Nat} (h : c ∈ yb l) : c ∈ sgs := (List.mem_filter.mp h).1
theorem v9 (l : List Nat) : (yb l).Nodup := sgs_nodup.filter _
theorem jY (l : List Nat) : (yb l).length <= 94 := List.length_filter_le _ _
theorem zcM {l : List Nat} (hl : ∀ c ∈ l, c ∈ sgs) (h : l ≠ []) : yb l ≠ [] := by
 obtain ⟨a, r, rfl⟩ := List.exists_cons_of_ne_nil h
 intro z
 have := (x0 hl (c := a)).mpr List.mem_cons_self
 rw [z] at this
 cases this
theorem zeZ {l : List Nat} {i c : Nat} (h : (yb l)[i]? = some c) : (v8 l)[i]? = some (l.count c) := by
 unfold v8
 rw [List.getElem?_map, h]; rfl
theorem zea (l : List Nat) : (v8 l).length = (yb l).length := List.length_map _
theorem ze0 {l : List Nat} {n : Nat} (h : n ∈ v8 l) : n <= l.length := by
 unfold v8 at h
 rw [List.mem_map] at h
 obtain ⟨c, hc, rfl⟩ := h
 exact List.count_le_length
theorem kx : ∀ (ks : List Nat), ks.Nodup -> ∀ (l : List Nat), (∀ c ∈ l, c ∈ ks) -> (ks.map fun c => l.count c).sum = l.length
 | ks, hn, [], _ => by
  have : (ks.map fun c => List.count c ([] : List Nat)) = ks.map fun _ => 0 := rfl
  rw [this]
  clear this hn
  induction ks with
  | nil => rfl
  | cons a r ih => simpa using ih
 | ks, hn, a :: l, h => by
  have ih := kx ks hn l fun c hc => h c (List.mem_cons_of_mem _ hc)
  have ha := h a List.mem_cons_self
  rw [List.length_cons, <- ih]
  clear ih h
  induction ks with
  | nil => cases ha
  | cons k r ih2 =>
   rw [List.nodup_cons] at hn
   rw [List.map_cons, List.map_cons, List.sum_cons, List.sum_cons, List.count_cons]
   by_cases e : a = k
   ·subst e
    have : (r.map fun c => List.count c (a :: l)) = r.map fun c => List.count c l := by
     refine List.map_congr_left fun c hc => ?_
     rw [List.count_cons, show (a == c) = false from beq_eq_false_iff_ne.mpr (fun z => hn.1 (z ▸ hc))]
     rfl
    rw [this]
    simp
    omega
   ·have ha' : a ∈ r := by rcases List.mem_cons.mp ha with z | z; exact absurd z e; exact z
    rw [ih2 hn.2 ha', show (a == k) = false from beq_eq_false_iff_ne.mpr e]
    simp
    omega
theorem zeb {l : List Nat} (hl : ∀ c ∈ l, c ∈ sgs) : (v8 l).sum = l.length := kx _ (v9 l) l fun c hc => (x0 hl).mpr hc
theorem wa {c : Nat} : ∀ {ms : List (List Nat)} {b : Nat}, (∀ m ∈ ms, m.length <= b) -> (jC [c] ms).length <= ms.length * (b + 1)
 | [], b, _ => Nat.zero_le _
 | [m], b, h => by
  show m.length <= _
  have := h m List.mem_cons_self
  simp only [List.length_cons, List.length_nil]
  omega
 | m :: n :: r, b, h => by
  show (m ++ [c] ++ jC [c] (n :: r)).length <= _
  have h1 := h m List.mem_cons_self
  have h2 := wa (c := c) (ms := n :: r) (b := b) fun x hx => h x (List.mem_cons_of_mem _ hx)
  rw [List.length_append, List.length_append, List.length_cons (as := n :: r), Nat.add_mul]
  simp only [List.length_cons, List.length_nil] at h2 |-
  omega
def x8 (n : Nat) : List Nat := if h : n < 26 then [97 + n] else x8 (n / 26) ++ [97 + n % 26]
termination_by n
decreasing_by exact Nat.div_lt_self (by omega) (by omega)
theorem xr {n : Nat} (h : n < 26) : x8 n = [97 + n] := by rw [x8, dif_pos h]
theorem qC {n : Nat} (h : ¬ n < 26) : x8 n = x8 (n / 26) ++ [97 + n % 26] := by rw [x8, dif_neg h]
theorem ze1 {k : Nat} (h : k < 26) : ltr[k]? = some (97 + k) := by
 have : ∀ k : Fin 26, ltr[k.val]? = some (97 + k.val) := by decide +kernel
 exact this ⟨k, h⟩
def jn (l : List Nat) : Nat := l.foldl (fun p c => p * 26 + ltr.idxOf c) 0
theorem wb (l : List Nat) (c : Nat) : jn (l ++ [c]) = jn l * 26 + ltr.idxOf c := by unfold jn; rw [List.foldl_append]; rfl
theorem vg : ∀ (k n : Nat), n < 26 ^ k -> (x8 n).length <= k + 1
 | 0, n, h => by
  rw [xr (by omega)]
  simp
 | k + 1, n, h => by
  by_cases h' : n < 26
  ·rw [xr h']; simp
  ·rw [qC h', List.length_append]
   have := vg k (n / 26) (by rw [Nat.div_lt_iff_lt_mul (by omega)]; rw [Nat.pow_succ] at h; exact h)
   simp only [List.length_cons, List.length_nil]
   omega
end L2
namespace L2
open PySem PySem.Spec PyProof.Rows
section
variable {X : Cx}
theorem yl {x : Str} {m : List Nat} {j pos} (h : x = tx m) : PE X (.Constant (.str x) j pos) (tC (.str (tx m))) := by
 subst h
 exact yd
theorem yp {x z : Str} {m : List Nat} {pos : Pos} (h : z = tx m) (hg : Gl X x) (hm : ∃ t, X.mg x = some (.str z t)) (hd : (x == ("__debug__" : Str)) = false := by decide) : PE X (.Name x pos) (tC (.str (tx m))) := by
 subst h
 exact zd8 hg hm hd
theorem zcN (n : Nat) : (Str.ofString (toString (n : Int))) = tx (dec n) := text_ofNat n
theorem qj {k n : Nat} (hk : 1 <= k) (h : n < 10 ^ k) : (dec n).length <= k := by
 unfold dec
 rw [List.length_map]
 exact digits10_le hk h
theorem zbf {n : Nat} (h : n < 10 ^ 9) : ((n : Int)).natAbs.log2 < 1920 := by
 rw [Int.natAbs_natCast]
 by_cases h0 : n = 0
 ·subst h0; decide
 ·exact Nat.lt_trans ((Nat.log2_lt (k := 30) h0).mpr (Nat.lt_trans h (by decide))) (by decide)
def PJs (X : Cx) (es : List Expr) (t : List Nat -> St -> Hp -> VK -> Prop) : Prop := ∀ (out : List Nat) (pins : Pq) (s : Shared) (σ : St) (H : Hp) (Q : VK), Inv X pins σ H s -> t out σ H Q -> wpAny (model X.prog X.w) X.A (joinParts (tx out) (evalEach es X.env)) (EP X pins σ Q) X.xe s
def jNil : List Nat -> St -> Hp -> VK -> Prop := fun out _ H Q => Q (.str (tx out)) H
def jStr (m : List Nat) (t : List Nat -> St -> Hp -> VK -> Prop) : List Nat -> St -> Hp -> VK -> Prop := fun out σ H Q => (out ++ m).length <= sizeLine /\ t (out ++ m) σ H Q
def jInt (te : TE) (t : List Nat -> St -> Hp -> VK -> Prop) : List Nat -> St -> Hp -> VK -> Prop := fun out σ H Q => te σ H fun v H1 => ∃ n : Nat, v = .int (n : Int) /\ n < 10 ^ 9 /\ (out ++ dec n).length <= sizeLine /\ t (out ++ dec n) σ H1 Q
theorem ze2 : PJs X [] (fun out σ H Q => out.length <= sizeLine /\ jNil out σ H Q) := by
 intro out pins s σ H Q I ⟨hl, q⟩
 exact joinParts_nil ⟨.str (tx out), H, I.tok _, ⟨_, rfl⟩, q⟩ (by rw [ym]; exact hl)
theorem ze3 {e : Expr} {es : List Expr} {m : List Nat} {t : List Nat -> St -> Hp -> VK -> Prop} (he : PE X e (tC (.str (tx m)))) (h : PJs X es t) : PJs X (e :: es) (jStr m t) := by
 intro out pins s σ H Q I ⟨hl, q⟩
 show wpAny _ _ (joinParts (tx out) (eval e X.env :: evalEach es X.env)) _ _ _
 refine joinParts_cons (thn (he pins s σ H (fun v H1 => v = .str (tx m) /\ H1 = H) I ⟨rfl, rfl⟩) fun u s1 ⟨v, H1, I1, r1, e1, e2⟩ => ?_)
 subst e1 e2
 obtain ⟨t', rfl⟩ := r1
 refine ⟨by rw [jU, ym]; exact hl, ?_⟩
 rw [jU]
 exact h _ pins s1 σ _ Q I1 q
theorem zcO {v : Expr} {es : List Expr} {te : TE} {pos : Pos} {t : List Nat -> St -> Hp -> VK -> Prop} (he : PE X v te) (h : PJs X es t) : PJs X (.FormattedValue v (-1) none pos :: es) (jInt te t) := by
 intro out pins s σ H Q I q
 show wpAny _ _ (joinParts (tx out) (eval (.FormattedValue v (-1) none pos) X.env :: evalEach es X.env)) _ _ _
 refine joinParts_cons (FormattedValue_plain (thn (he pins s σ H _ I q) fun u s1 ⟨x, H1, I1, r1, n, e1, hn, hl, q⟩ => ?_))
 subst e1
 obtain ⟨tk, rfl⟩ := r1
 refine formatField_int_small (zbf hn) ?_
 dsimp only
 rw [zcN, jU, ym]
 exact ⟨hl, h _ pins _ σ _ Q (I1.tok _) q⟩
theorem zbg {v1 v2 : Expr} {rest : List Expr} {pos : Pos} {t : List Nat -> St -> Hp -> VK -> Prop} (h : PJs X (v1 :: v2 :: rest) t) : PE X (.JoinedStr (v1 :: v2 :: rest) pos) (fun σ H Q => t [] σ H Q) := by
 intro pins s σ H Q I q
 exact JoinedStr_many (h [] pins s σ H Q I q)
end
end L2
namespace L2
open PySem
theorem xJ : Str.ofString " !\"#$&'()*+,-./0123456789:;<=>?@ABCDEFGHIJKLMNOPQRSTUVWXYZ[\\]^_`abcdefghijklmnopqrstuvwxyz{|}~" = tx sgs := by decide +kernel
theorem yC : Str.ofString "abcdefghijklmnopqrstuvwxyz" = tx ltr := by decide +kernel
end L2
namespace Np
open L2 PySem
structure GT (l : List Nat) : Prop where
 len : l.length <= 150
 sg : ∀ c ∈ l, c ∈ sgs
def xu (l : List Nat) : List Int := (v8 l).map fun (n : Nat) => (n : Int)
def jp (l : List Nat) : List Int := (rowL l).map fun (n : Nat) => (n : Int)
def xt (l : List Nat) : Int := xn (xu l) (jp l) 0
theorem sumI : ∀ (l : List Nat), (l.map fun (n : Nat) => (n : Int)).sum = ((l.sum : Nat) : Int)
 | [] => rfl
 | a :: r => by
  rw [List.map_cons, List.sum_cons, List.sum_cons, sumI r]
  omega
theorem jD (l : List Nat) : (xu l).length = (yb l).length := by unfold xu; rw [List.length_map, zea]
theorem wc {l : List Nat} (g : GT l) : (xu l).sum = ((l.length : Nat) : Int) := by unfold xu; rw [sumI, zeb g.sg]
theorem qD {l : List Nat} (g : GT l) (h0 : l ≠ []) : GoodC (xu l) := by
 have hk := zcM g.sg h0
 refine ⟨?_, ?_, fun c hc => ?_, ?_⟩
 ·rw [jD]
  exact List.length_pos_iff.mpr hk
 ·rw [jD]
  have := jY l
  omega
 ·unfold xu at hc
  rw [List.mem_map] at hc
  obtain ⟨n, hn, rfl⟩ := hc
  have := ze0 hn
  have := g.len
  omega
 ·rw [wc g]
  have := List.length_pos_iff.mpr h0
  omega
theorem zcP {l : List Nat} {i c : Nat} (h : (yb l)[i]? = some c) : (xu l).getD i 0 = ((l.count c : Nat) : Int) := by
 rw [List.getD_eq_getElem?_getD]
 unfold xu
 rw [List.getElem?_map, zeZ h]
 rfl
theorem ok_at {l : List Nat} (g : GT l) {c : Nat} (hc : c ∈ l) : OkS (xu l) (((yb l).idxOf c : Nat) : Int) := by
 have hk := (x0 g.sg).mpr hc
 have e := zcL hk
 refine ⟨by omega, ?_, ?_⟩
 ·rw [jD]
  have := List.idxOf_lt_length_of_mem hk
  omega
 ·rw [Int.toNat_natCast, zcP e]
  have := List.count_pos_iff.mpr hc
  omega
theorem zcQ (l : List Nat) : (jp l).length = l.length := by unfold jp rowL; rw [List.length_map, List.length_map]
theorem zad {l : List Nat} (g : GT l) : ∀ k ∈ jp l, OkS (xu l) k := by
 intro k hk
 unfold jp rowL at hk
 rw [List.map_map, List.mem_map] at hk
 obtain ⟨c, hc, rfl⟩ := hk
 exact ok_at g hc
theorem zaK {l : List Nat} (g : GT l) : 0 <= xt l := by
 by_cases h0 : l = []
 ·subst h0; exact Int.le_refl _
 ·exact xY (qD g h0) (zad g) (Int.le_refl 0)
theorem zec {ns : List Int} (g : GoodC ns) {k : Int} (h : OkS ns k) {p : Int} (hp : 0 <= p) : kO ns k.toNat p + 1 <= (p + 1) * ns.sum := by
 obtain ⟨h0, h1, h2⟩ := h
 have f := zaX g (k := k.toNat) (by omega)
 unfold kO
 have m1 := Int.emod_lt_of_pos p h2
 have d0 := Int.ediv_nonneg hp (Int.le_of_lt h2)
 have d1 : p / ns.getD k.toNat 0 <= p := Int.ediv_le_self _ hp
 have gp := g.pos
 have : (p / ns.getD k.toNat 0 + 1) * ns.sum <= (p + 1) * ns.sum := Int.mul_le_mul_of_nonneg_right (by omega) (by omega)
 rw [Int.add_mul, Int.one_mul] at this
 omega
theorem qE {ns : List Int} (g : GoodC ns) : ∀ {rs : List Int}, (∀ k ∈ rs, OkS ns k) -> xn ns rs 0 + 1 <= ns.sum ^ rs.length
 | [], _ => by show (0 : Int) + 1 <= _; simp
 | k :: rs, h => by
  have ih := qE g (rs := rs) fun x hx => h x (List.mem_cons_of_mem _ hx)
  have nn := xY g (rs := rs) (p := 0) (fun x hx => h x (List.mem_cons_of_mem _ hx)) (Int.le_refl 0)
  have t := zec g (h k List.mem_cons_self) nn
  have gp := g.pos
  show kO ns k.toNat (xn ns rs 0) + 1 <= _
  refine Int.le_trans t ?_
  rw [List.length_cons, Int.pow_succ]
  exact Int.mul_le_mul_of_nonneg_right ih (by omega)
theorem we {l : List Nat} (g : GT l) : (xt l).toNat < 26 ^ 300 := by
 by_cases h0 : l = []
 ·subst h0; exact Nat.pow_pos (show 0 < 26 by decide)
 ·have t := qE (qD g h0) (zad g)
  rw [zcQ, wc g] at t
  have nn := zaK g
  have e : (((l.length : Nat) : Int) ^ l.length) = ((l.length ^ l.length : Nat) : Int) := by rw [Int.natCast_pow]
  rw [e] at t
  have t2 : (xt l).toNat < l.length ^ l.length := by
   have t' : xt l + 1 <= ((l.length ^ l.length : Nat) : Int) := t
   omega
  refine Nat.lt_of_lt_of_le t2 ?_
  refine Nat.le_trans (Nat.pow_le_pow_left (Nat.le_trans g.len (show 150 <= 26 ^ 2 by decide)) _) ?_
  rw [<- Nat.pow_mul]
  exact Nat.pow_le_pow_right (by decide) (by have := g.len; omega)
def ent (c n : Nat) : List Nat := dec (plc c) ++ 120 :: dec n
def qd (l : List Nat) : List Nat := jC [44] ((yb l).map fun c => ent c (l.count c))
def je (l : List Nat) : List Nat := qd l ++ 59 :: x8 (xt l).toNat
theorem zbh : yb [] = [] := by decide +kernel
theorem zcR : qd [] = [] := by unfold qd; rw [zbh]; rfl
theorem zcS : je [] = [59, 97] := by
 have e : qd [] = [] := zcR
 have p : xt [] = 0 := rfl
 unfold je
 rw [e, p]
 show 59 :: x8 0 = _
 rw [xr (by decide)]
theorem vh {c n : Nat} (hc : c ∈ sgs) (hn : n <= 999) : (ent c n).length <= 6 := by
 unfold ent
 rw [List.length_append, List.length_cons]
 have h1 := qj (k := 2) (n := plc c) (by decide) (by have := zcK hc; omega)
 have h2 := qj (k := 3) (n := n) (by decide) (by omega)
 omega
theorem zcT {l : List Nat} (g : GT l) : (qd l).length <= 700 := by
 have h := wa (c := 44) (ms := (yb l).map fun c => ent c (l.count c)) (b := 6) fun m hm => by
  rw [List.mem_map] at hm
  obtain ⟨c, hc, rfl⟩ := hm
  exact vh (jX hc) (by have := List.count_le_length (a := c) (l := l); have := g.len; omega)
 rw [List.length_map] at h
 have := jY l
 show (jC [44] _).length <= _
 omega
theorem zae {l : List Nat} (g : GT l) : (x8 (xt l).toNat).length <= 301 := vg 300 _ (we g)
def toV (p : Nat × Nat) : V × V := (.int (p.1 : Int), .int (p.2 : Int))
theorem wf : ∀ (l : List Nat), jC [] (l.map fun c => [c]) = l
 | [] => rfl
 | [a] => rfl
 | a :: b :: r => by
  show [a] ++ [] ++ jC [] ((b :: r).map fun c => [c]) = _
  rw [wf (b :: r)]
  rfl
end Np
namespace L2
open PySem PySem.Spec PyProof.Rows
end L2
namespace Np
open L2 PySem
theorem atN {α : Type} {xs : List α} {i : Int} {c : α} (h0 : 0 <= i) (h : xs[i.toNat]? = some c) : atI xs i = some c := by
 have hl := (List.getElem?_eq_some_iff.mp h).1
 unfold atI ixN
 rw [if_pos h0, if_pos (by omega)]
 exact h
abbrev S1 (c : Nat) : V := .str (tx [c])
abbrev N1 (n : Nat) : V := .int (n : Int)
def sigV (f : Nat -> V) : V -> V
 | .str z => (match z.cps.toList with | [c] => f c | _ => .non)
 | _ => .non
def sigB (p : Nat -> Bool) : V -> Bool
 | .str z => (match z.cps.toList with | [c] => p c | _ => false)
 | _ => false
theorem qF (f : Nat -> V) : ∀ (l : List Nat), (l.map S1).map (sigV f) = l.map f
 | [] => rfl
 | a :: r => by rw [List.map_cons, List.map_cons, qF f r]; rfl
theorem xV (p : Nat -> Bool) : ∀ (l : List Nat), ((l.map S1).filter (sigB p)).map id = (l.filter p).map S1
 | [] => rfl
 | a :: r => by
  rw [List.map_cons, List.filter_cons, List.filter_cons]
  have e : sigB p (S1 a) = p a := rfl
  rw [e]
  cases p a with
  | true => simp only [if_true, List.map_cons, xV p r, id]
  | false => simp only [Bool.false_eq_true, if_false, xV p r]
theorem eq_S1 (a b : Nat) : eqV (S1 a) (S1 b) = decide (a = b) := by
 show (tx [a] == tx [b]) = _
 rw [Bool.eq_iff_iff, beq_iff_eq, decide_eq_true_eq, tx_inj]
 simp
theorem qG : ∀ {ks : List Nat} {c i x : Nat}, i < ks.idxOf c -> ks[i]? = some x -> x ≠ c
 | k :: ks, c, 0, x, h, e => by
  cases e
  intro z
  subst z
  simp at h
 | k :: ks, c, i + 1, x, h, e => by
  rw [List.idxOf_cons] at h
  by_cases z : k = c
  ·subst z; simp at h
  ·rw [show (k == c) = false from beq_eq_false_iff_ne.mpr z] at h
   exact qG (ks := ks) (i := i) (by simpa using h) (by simpa using e)
theorem ze4 {f : Nat -> V} (hf : ∀ a b, eqV (f a) (f b) = decide (a = b)) {ks : List Nat} {c : Nat} (hc : c ∈ ks) : (∃ z, (ks.map f)[ks.idxOf c]? = some z /\ eqV z (f c) = true) /\ ∀ (i : Nat) z, i < ks.idxOf c -> (ks.map f)[i]? = some z -> eqV z (f c) = false := by
 refine ⟨⟨f c, by rw [List.getElem?_map, zcL hc]; rfl, by rw [hf]; simp⟩, fun i z hi e => ?_⟩
 rw [List.getElem?_map] at e
 obtain ⟨x, ex, rfl⟩ := Option.map_eq_some_iff.mp e
 rw [hf]
 exact decide_eq_false (qG hi ex)
theorem zed {f : Nat -> V} (hf : ∀ a, xP (f a) = true) (ks : List Nat) : (ks.map f).all xP = true := by
 rw [List.all_eq_true]
 intro x hx
 obtain ⟨a, _, rfl⟩ := List.mem_map.mp hx
 exact hf a
end Np
namespace L2
open PySem PySem.Spec PyProof.Rows
section
variable {X : Cx} {K : Fq} {o e : Expr} {es : List Expr} {to : TE} {t : TA} {name : Str} {apos cpos : Pos} {T id : String} {r : V -> List V -> Hp -> VK -> Prop}
theorem zcU (hK : X.K = K) (pa : PlainAttrs T) (slot : Slot T name id) (hty : typeOf (.builtin id) = pure (.type "method_descriptor")) (hm : MtR X id r) (ho : PE X o to) (ha : PA X (e :: es) t)
  (hbase : attributeBase o name X.env (eval o X.env) = eval o X.env := by rfl)
  (hfew : ((backTo cpos (starEach (e :: es) X.env)).all (fun x => !x.1) && (backToKw cpos (keywordEach [] X.env)).all (fun x => x.1.isSome)
   && decide ((e :: es).length + ([] : List Keyword).length + (if ([] : List Keyword).isEmpty then 0 else 1) < 30)) = true := by rfl)
  (hline : (apos.endLine == cpos.line) = true := by rfl) (hs : starEach (e :: es) X.env = (false, eval e X.env) :: starEach es X.env := by rfl) (hplain : (backTo cpos (starEach es X.env)).any (·.1) = false := by rfl) :
  PE X (.Call (.Attribute o name apos) (e :: es) [] cpos) (tBM K T r to t) := by
 subst hK
 exact xv pa slot hty hm ho ha hbase hfew hline hs hplain
end
end L2
namespace Np
open L2 PySem
def entV : V -> V -> V
 | .str z, .int n => (match z.cps.toList with | [c] => .str (tx (ent c n.toNat)) | _ => .non)
 | _, _ => .non
theorem zaL (g : Nat -> Nat) : ∀ ks : List Nat, List.zipWith entV (ks.map S1) (ks.map fun c => N1 (g c)) = (ks.map fun c => ent c (g c)).map fun m => V.str (tx m)
 | [] => rfl
 | c :: r => by
  rw [List.map_cons, List.map_cons, List.zipWith_cons_cons, zaL g r]
  rfl
theorem vi {b : Nat} : ∀ {ms : List (List Nat)}, (∀ m ∈ ms, m.length <= b) -> (ms.map List.length).sum <= ms.length * b
 | [], _ => Nat.zero_le _
 | m :: r, h => by
  rw [List.map_cons, List.sum_cons, List.length_cons, Nat.add_mul]
  have h1 := h m List.mem_cons_self
  have h2 := vi (ms := r) fun x hx => h x (List.mem_cons_of_mem _ hx)
  omega
theorem zcV (l : List Nat) : (xu l).map V.int = (yb l).map fun c => N1 (l.count c) := by unfold xu v8; rw [List.map_map, List.map_map]; rfl
theorem row_V (l : List Nat) : (jp l).map V.int = l.map fun c => N1 ((yb l).idxOf c) := by unfold jp rowL; rw [List.map_map, List.map_map]; rfl
theorem zcW {l : List Nat} (g : GT l) : ∀ m ∈ (yb l).map fun c => ent c (l.count c), m.length <= 6 := fun m hm => by
 rw [List.mem_map] at hm
 obtain ⟨c, hc, rfl⟩ := hm
 exact vh (jX hc) (by have := List.count_le_length (a := c) (l := l); have := g.len; omega)
theorem szk {n : Nat} (h : n <= 5000) : n <= sizeLine := by rw [sizeLine_eq]; omega
end Np
namespace Np
open L2 PySem
def numV (f : Nat -> V) : V -> V
 | .int k => f k.toNat
 | _ => .non
theorem zbi (k : Nat) : x8 k = (if k / 26 = 0 then [] else x8 (k / 26)) ++ [97 + k % 26] := by
 by_cases h : k < 26
 ·rw [xr h, if_pos (Nat.div_eq_of_lt h), Nat.mod_eq_of_lt h]
  rfl
 ·rw [qC h, if_neg (by omega)]
theorem wg {i : Nat} (h : i < 94) : sgs[i]? = some (sgs.getD i 0) := by
 rw [List.getD_eq_getElem?_getD, List.getElem?_eq_getElem (by rw [vf]; exact h)]
 rfl
theorem or2 {c t2 : Bool} {A B X : Prop} (hX : (if t2 = true then A else B) -> X) (ha : (c = true \/ t2 = true) -> A) (hb : c = false -> t2 = false -> B) : if c = true then (if true = true then A else B) else X := by
 cases c with
 | true => exact ha (.inl rfl)
 | false =>
  refine hX ?_
  cases t2 with
  | true => exact ha (.inr rfl)
  | false => exact hb rfl rfl
end Np
set_option maxHeartbeats 4000000
namespace L2
open PySem PySem.Spec PyProof.Rows
structure vj (h : Heap) (e : Addr) (cls : Value) (T : Addr) : Prop where
 ob : ∃ t, h.get? e = some (yF cls t (.ref T))
 ne : T ≠ e
 tb : ∃ oT ts, h.get? T = some oT /\ oT.data = .fields ts /\ 3 < ts.size
section
variable {M : Model} {A : Around} {E : Value -> Shared -> Prop} {s : Shared} {e : Addr} {cls t tb0 : Value} {Q : Unit -> Shared -> Prop}
theorem zbj {T : Addr} {h : Heap} {fr : Option Addr} (fl : vj h e cls T) (q : ∀ h', Trod [T] [] h h' -> vj h' e cls T -> Q () { s with heap := h' }) : wpAny M A (setFlight (.ref e) fr) Q E { s with heap := h } := by
 obtain ⟨⟨t, e1⟩, ne, oT, ts, e2, d, hz⟩ := fl
 unfold setFlight
 refine wpAny_bind (wpAny_field e1 rfl (x := .ref T) rfl ?_)
 rw [if_pos (by simp)]
 refine wpAny_setField e2 d hz (q _ (Trod.put e2 d _) ⟨⟨t, (Heap.get?_update_other _ _ ne).trans e1⟩, ne, _, _, Heap.get?_update_self _ e2 (Obj.isFreed_of_fields (Obj.data_mapFields d _)), Obj.data_mapFields d _, ?_⟩)
 rw [Array.size_setIfInBounds]
 exact hz
theorem zee {α : Type} {T : Addr} {h : Heap} {what : String} {env : Env} {Q : α -> Shared -> Prop} (fl : vj h e cls T) (q : ∀ h', Trod [T] [] h h' -> vj h' e cls T -> E (.ref e) { s with heap := h' }) : wpAny M A (passOn what (.ref e) env : Sem α) Q E { s with heap := h } := by
 obtain ⟨t, e1⟩ := fl.ob
 unfold PySem.passOn
 refine wpAny_bind (wpAny_field e1 rfl (x := .ref T) rfl ?_)
 rw [if_neg (by simp)]
 exact wpAny_bind (zbj (s := s) fl fun h' tr fl' => wpAny_throw (q h' tr fl'))
theorem ze5 {g : Heap} {ob : Obj} {ts : Array Value} (he : g.get? e = some (yF cls t tb0)) (d : ob.data = .fields ts) (hz : 3 < ts.size)
  (q : ∀ h', Trod [e] [] g h' -> vj h' e cls g.objs.size -> Q () { s with heap := h' }) :
  wpAny M A (setField (.ref e) 1 (.ref g.objs.size)) Q E { s with heap := g.push ob } := by
 have hne : g.objs.size ≠ e := Nat.ne_of_gt (Heap.lt_size he)
 have h2 : (g.push ob).get? e = some (yF cls t tb0) := Heap.get?_push_of_some ob he
 refine wpAny_setField h2 rfl (by simp) ?_
 have h3 : ((g.push ob).update e (Obj.mapFields (·.setIfInBounds 1 (Value.ref g.objs.size)))).get? e = some (yF cls t (.ref g.objs.size)) :=
  (Heap.get?_update_self _ h2 rfl).trans rfl
 have hT : ((g.push ob).update e (Obj.mapFields (·.setIfInBounds 1 (Value.ref g.objs.size)))).get? g.objs.size = some ob :=
  (Heap.get?_update_other _ _ (Ne.symm hne)).trans (Heap.get?_push_size g (Obj.isFreed_of_fields d))
 have old : ∀ b o, b ≠ e -> g.get? b = some o -> ((g.push ob).update e (Obj.mapFields (·.setIfInBounds 1 (Value.ref g.objs.size)))).get? b = some o := fun b o nb q => (Heap.get?_update_other _ _ (Ne.symm nb)).trans (Heap.get?_push_of_some ob q)
 refine q _ ⟨fun b o na nf q => old b o (by simpa using na) q, fun b o na q => ⟨o.slots, old b o (by simpa using na) q⟩, fun b o q => ?_, ?_⟩ ⟨⟨t, h3⟩, hne, ob, ts, hT, d, hz⟩
 ·by_cases hb : b = e
  ·subst hb; exact ⟨_, h3⟩
  ·exact ⟨_, old b o hb q⟩
 ·rw [Heap.size_after_update, Heap.size_push]
  exact Nat.le_succ _
theorem ze6 {base : Heap} {env : Env} {outer : List Env} {L T0 : Addr} (hfr : A.frames = some (env :: outer)) (hl : s.heap.FunFrames base (env :: outer)) (hf : env.frame = some L)
  (fl : Fly s.heap e cls T0) (q : ∀ h' T, Trod [e, T0] ((env :: outer).filterMap (·.frame)) s.heap h' -> s.heap.objs.size <= T -> vj h' e cls T -> Q () { s with heap := h' }) :
  wpAny M A (noteFrame (.ref e) env) Q E s := by
 obtain ⟨⟨t, he⟩, ne, oT, ts, eT, dT, h3⟩ := fl
 unfold noteFrame
 simp only [hf]
 refine wpAny_bind (wpAny_field he rfl (x := .ref T0) rfl ?_)
 rw [if_pos (by simp)]
 refine wpAny_bind (wpAny_field eT dT h3 ?_)
 rw [if_neg (by simp [rawInt])]
 have hz := (Array.getElem?_eq_some_iff.mp h3).1
 refine wpAny_bind (wpAny_setField eT dT hz ?_)
 have tr := Trod.put (fs := (env :: outer).filterMap (·.frame)) eT dT (·.setIfInBounds 3 Value.none)
 have nT : ∀ b o, s.heap.get? b = some o -> (∀ vs, o.data ≠ .fields vs) -> b ∉ [T0] := fun b o eb nf hb => by
  have hb : b = T0 := by simpa using hb
  subst hb
  rw [eT] at eb
  cases eb
  exact nf _ dT
 have he' : (s.heap.update T0 (Obj.mapFields (·.setIfInBounds 3 Value.none))).get? e = some (yF cls t (.ref T0)) := (Heap.get?_update_other _ _ ne).trans he
 have hl' := hl.of_keeps (h' := s.heap.update T0 (Obj.mapFields (·.setIfInBounds 3 Value.none))) fun b o eb nf => by
  obtain ⟨sl, e1⟩ := tr.slot b o (nT b o eb nf) eb
  exact ⟨_, e1, rfl⟩
 have szU : (s.heap.update T0 (Obj.mapFields (·.setIfInBounds 3 Value.none))).objs.size = s.heap.objs.size := Heap.size_after_update ..
 generalize s.heap.update T0 (Obj.mapFields (·.setIfInBounds 3 Value.none)) = hU at tr he' hl' szU |-
 have nf : e ∉ (env :: outer).filterMap (·.frame) := fun hm => by
  obtain ⟨_, o, ho, nf⟩ := hl'.mem hm
  rw [he'] at ho
  cases ho
  exact nf _ rfl
 refine wpAny_bind (wpAny_frameOf_fun (s := { s with heap := hU }) hfr hl' hf fun g sg => wpAny_bind (wpAny_entryPlaceOf fun pl hp => ?_))
 unfold EntryCells.newEntry newFields
 refine wpAny_bind (wpAny_newObj_type ?_ (hp.sizeOk5 _ _ _ _ _))
 refine ze5 (s := s) ((sg.2.1 e nf).trans he') rfl (by simp only [List.size_toArray, List.length_append, List.length_cons, List.length_nil] <;> omega) fun h' tr2 fl => ?_
 have tr3 : Trod [e] ((env :: outer).filterMap (·.frame)) hU h' := by
  refine ⟨fun b o na nf eb => tr2.keep b o na (by simp) ((sg.2.1 b nf).trans eb), fun b o na eb => ?_, fun b o eb => ?_, Nat.le_trans (Nat.le_of_eq sg.1.symm) tr2.size⟩
  ·obtain ⟨sl, e1⟩ := sg.2.2 b o eb
   obtain ⟨sl', e2⟩ := tr2.slot b _ na e1
   exact ⟨sl', e2⟩
  ·obtain ⟨sl, e1⟩ := sg.2.2 b o eb
   exact tr2.there b _ e1
 refine q h' _ ((tr.mono (by simp) (fun _ z => z)).trans (tr3.mono (by simp) (fun _ z => z))) ?_ fl
 have := sg.1
 show s.heap.objs.size <= g.objs.size
 exact Nat.le_of_eq (szU.symm.trans this.symm)
theorem zcX {base : Heap} {env : Env} {outer : List Env} {L T0 : Addr} (hfr : A.frames = some (env :: outer)) (hl : s.heap.FunFrames base (env :: outer)) (hf : env.frame = some L)
  (fl : vj s.heap e cls T0) (q : ∀ h' T, Trod [e, T0] ((env :: outer).filterMap (·.frame)) s.heap h' -> (T = T0 \/ s.heap.objs.size <= T) -> Fly h' e cls T -> Q () { s with heap := h' }) :
  wpAny M A (noteFrame (.ref e) env) (fun _ s' => wpAny M A (setFlight (.ref e) none) Q E s') E s := by
 obtain ⟨⟨t, he⟩, ne, oT, ts, eT, dT, hz⟩ := fl
 unfold noteFrame
 simp only [hf]
 refine wpAny_bind (wpAny_field he rfl (x := .ref T0) rfl ?_)
 rw [if_pos (by simp)]
 refine wpAny_bind (wpAny_field eT dT (Array.getElem?_eq_getElem hz) ?_)
 by_cases c : (ts[3] == rawInt L) = true
 ·rw [if_pos c]
  refine wpAny_pure ?_
  exact jj (s := s) (h := s.heap) he eT dT hz ne fun h' tr fl => q h' T0 (tr.mono (by simp) (fun _ z => absurd z (by simp))) (.inl rfl) fl
 rw [if_neg c]
 refine wpAny_bind (wpAny_setField eT dT hz ?_)
 have tr := Trod.put (fs := (env :: outer).filterMap (·.frame)) eT dT (·.setIfInBounds 3 Value.none)
 have nT : ∀ b o, s.heap.get? b = some o -> (∀ vs, o.data ≠ .fields vs) -> b ∉ [T0] := fun b o eb nf hb => by
  have hb : b = T0 := by simpa using hb
  subst hb
  rw [eT] at eb
  cases eb
  exact nf _ dT
 refine kU (base := base) hfr (hl.of_keeps fun b o eb nf => ?_) hf (cls := cls) (t := t) (tb0 := .ref T0) ((Heap.get?_update_other _ _ ne).trans he) fun h' T tr2 sz f2 => ?_
 ·obtain ⟨sl, e1⟩ := tr.slot b o (nT b o eb nf) eb
  exact ⟨_, e1, rfl⟩
 ·refine q h' T ((tr.mono (by simp) (fun _ z => z)).trans (tr2.mono (by simp) (fun _ z => z))) (.inr ?_) f2
  rw [Heap.size_after_update] at sz
  exact sz
end
theorem zcY {x : Value} {env env' : Env} (h : env.frame = env'.frame) : noteFrame x env = noteFrame x env' := by
 unfold noteFrame PySem.frameOf
 rw [h]
section
variable {X : Cx} {pins : Pq} {σ : St} {H H' : Hp} {s s' : Shared} {E : XK} {h' : Heap} {b : Addr}
def Held (X : Cx) (pins : Pq) : Prop := ∀ b ∈ X.ex, ∃ o, (b, o) ∈ pins
theorem Inv.fpXp (I : Inv X pins σ H s) (hex : Held X pins) (hb : s.heap.get? b = none) (hn : H' b = none) : FpX X pins H' b := by
 refine ⟨hn, fun z => ?_, ?_, fun x c e z => ?_, fun p hp z => ?_⟩
 ·obtain ⟨m, ⟨o, _, _, ho, _⟩, _⟩ := I.loc
  rw [z, ho] at hb
  cases hb
 ·cases q : X.s₀.heap.get? b with
  | none => rfl
  | some o =>
   obtain ⟨o', e⟩ := I.base.there b o q (fun hx => by
    obtain ⟨o2, h2⟩ := hex b hx
    have := (I.pin _ (List.mem_append_right _ h2)).1
    rw [hb] at this
    cases this)
   rw [hb] at e
   cases e
 ·obtain ⟨v, o, ho, _⟩ := I.cell x c e
  rw [z, hb] at ho
  cases ho
 ·have := (I.pin p hp).1
  rw [z, hb] at this
  cases this
theorem Inv.xpp {x : Value} (I : Inv X pins σ H s) (hex : Held X pins) (h : CXE X.prog X.w X.stack H s E x s') : XP X pins σ E x s' := by
 obtain ⟨e, C, T, H', rfl, os, bare, un, hok, fl, ⟨n1, n2⟩, ⟨m1, m2⟩, q⟩ := h
 exact ⟨e, C, T, H', rfl, I.call' os un hok bare (fun b z => absurd z (by simp)), fl, I.fpXp hex m1 n1, I.fpXp hex m2 n2, q⟩
def PXp (X : Cx) (e : Expr) (t : TX) : Prop :=
 ∀ (pins : Pq) (s : Shared) (σ : St) (H : Hp) (Q : VK) (E : XK), Held X pins -> Inv X pins σ H s -> t σ H Q E -> wpAny (model X.prog X.w) X.A (eval e X.env) (EP X pins σ Q) (XP X pins σ E) s
variable {k : Nat} {ps : List Str} {sp : Sp} {x : Str} {p pos : Pos} {e : Expr} {es : List Expr} {t : TA}
theorem zef (F : CalX X.prog X.w X.K X.mg X.base k x ps sp) (hr : Room k X.A) (hg : Gl X x) (ha : PA X.nox (e :: es) t) (hdb : (x == ("__debug__" : Str)) = false := by decide) (he : starEach (e :: es) X.env = (false, eval e X.env) :: starEach es X.env := by rfl) (hpl : (backTo pos (starEach es X.env)).any (·.1) = false := by rfl) :
  PXp X (.Call (.Name x p) (e :: es) [] pos) (fun σ H Q E => t σ H fun vs H1 => sp vs H1 Q E) := by
 obtain ⟨f, fd, hm, hk, hb, F⟩ := F.ex
 intro pins s σ H Q E hx I h
 refine wpAny_Call_Name_kw (yT I hg hm ?_ hdb)
 refine PySem.W.callWith_K (h₀ := X.base) I.ok.mod.kin hk (wpAny_mono (ha pos pins s σ H _ (I.wish _) h) (fun us s1 ⟨vs, H1, I1, r, q⟩ => ⟨I1.unwish.kIn, ?_⟩) fun _ _ z => z.elim) he hpl
 have I2 := I1.unwish
 have hl : (us ++ []).length = ps.length := by rw [List.append_nil, <- r.length]; exact F.len _ _ _ _ q
 have hb' := hb s1 us I2.kIn hl
 rw [List.append_nil] at hb'
 refine wpAny_call (codeAny_mono (F.run X.A X.stack s1 H1 ⟨us, []⟩ us vs Q E hr I2.env0 hb' r q) fun r s' hq => ?_)
 cases r with
 | error e => exact I2.xpp hx hq
 | ok fl =>
  cases fl with
  | ret u => exact I2.after hq
  | next => exact False.elim hq
  | brk => exact False.elim hq
  | cont => exact False.elim hq
end
section
variable {P : Program} {w : World} {K : Fq} {mg : Mq} {base : Heap} {N : List Str} {qual : Str} {scope : Scope} {f : Addr} {cd : Value} {A : Around} {outer : List Env} {s : Shared} {H : Hp} {E : XK}
def XPA (X : Cx) (pins : Pq) (σ : St) (E : XK) (x : Value) (s' : Shared) : Prop := ∃ e C T H', x = .ref e /\ Inv X pins σ H' s' /\ vj s'.heap e (.ref C) T /\ FpX X pins H' e /\ FpX X pins H' T /\ E (.ref C) none H'
theorem XPA.leave {pins : Pq} {σ : St} {x : Value} {s' : Shared} (h : XPA (yh (CXE P w) P w K mg base N qual scope f cd A outer s H E) pins σ E x s') : (yh (CXE P w) P w K mg base N qual scope f cd A outer s H E).xe x s' := by
 obtain ⟨e, C, T, H', rfl, I, fl, fe, fT, q⟩ := h
 refine wpAny_bind (zcX (base := base) I.ok.frames I.stack rfl fl fun h' T' tr sz fl' => ?_)
 have I2 := I.trod tr (fun b hb => by
  rcases List.mem_cons.mp hb with z | z
  ·rw [z]; exact fe
  ·have : b = T := by simpa using z
   rw [this]; exact fT)
 rcases sz with z | sz
 ·subst z
  exact ⟨e, C, T', H', rfl, I2.os, I2.bare, I2.base, I2.hok, fl', ⟨fe.1, fT.1⟩, ⟨fe.2.2.1, fT.2.2.1⟩, q⟩
 ·exact ⟨e, C, T', H', rfl, I2.os, I2.bare, I2.base, I2.hok, fl', ⟨fe.1, I.hok.fresh sz⟩, ⟨fe.2.2.1, Heap.get?_none_of_le (Nat.le_trans I.sz sz)⟩, q⟩
end
section
variable {prog : Program} {w : World} {A : Around} {R : Result -> Shared -> Prop} {s : Shared}
theorem vk {elt target iter : Expr} {ifs : List Expr} {scope : Scope} {pos : Pos} {it acc : Value} {env : Env} (I : Nat -> Shared -> Prop) (EX : Value -> Shared -> Prop)
  (hEX : ∀ x s, EX x s -> wpAny (model prog w) A (noteFrame x env) (fun _ s' => R (.error x) s') (fun _ _ => False) s)
  (turn : ∀ n s, I n s -> wpAny (model prog w) A (pyNext it) (fun r s1 => match r with
   | none => R (.ok .next) s1
   | some v => wpAny (model prog w) A (letOwnedTupleGo target it v) (fun _ s1' => wpAny (model prog w) A (assign target env v) (fun _ s2 =>
     wpAny (model prog w) A (forIn ifs true fun c r => if r = true then do let ok <- isTrue c env (eval c env); pure (ForInStep.yield ok) else pure (ForInStep.yield r)) (fun ok s3 =>
      if ok = true then wpAny (model prog w) A (eval elt env) (fun x s4 =>
       wpAny (model prog w) A (call (.builtin "list.append") [acc, x]) (fun _ s5 => ∃ m, m < n /\ I m s5) (fun _ _ => False) s4) EX s3
      else ∃ m, m < n /\ I m s3) (fun _ _ => False) s2) (fun _ _ => False) s1') (fun _ _ => False) s1) (fun _ _ => False) s)
  (n : Nat) (h : I n s) :
  codeAny (model prog w) A (.compLoop (.ListComp elt [⟨target, iter, ifs, 0⟩] scope pos) 0 it acc env) R s := by
 refine codeAny_loop rfl I (fun n s hI => ?_) n h
 show wpAny _ A ((compTurn (.ListComp elt [⟨target, iter, ifs, 0⟩] scope pos) 0 it acc env).onRaise (fun x => do noteFrame x env; theTreesLotGoes x)) _ _ s
 refine wpAny_noted ?_
 rw [compTurn_list]
 refine wpAny_bind (wpAny_standAt (wpAny_bind (wpAny_mono (turn n s hI) (fun r s1 h1 => ?_) fun _ _ h' => h'.elim)))
 cases r with
 | none => exact wpAny_pure h1
 | some v =>
  refine wpAny_bind (wpAny_mono h1 (fun _ s1' h1' => ?_) fun _ _ h' => h'.elim)
  refine wpAny_bind (wpAny_mono h1' (fun _ s2 h2 => wpAny_bind (wpAny_mono h2 (fun ok s3 h3 => ?_) fun _ _ h' => h'.elim)) fun _ _ h' => h'.elim)
  cases ok with
  | false => exact wpAny_pure ⟨rfl, h3⟩
  | true =>
   exact wpAny_bind (wpAny_bind (wpAny_mono h3 (fun x s4 h4 => wpAny_bind (wpAny_mono h4 (fun _ s5 h5 => wpAny_pure (wpAny_pure ⟨rfl, h5⟩)) fun _ _ h' => h'.elim)) fun x s4 h' => wpAny_mono (hEX x s4 h') (fun _ _ z => z) fun _ _ z => z.elim))
end
section
variable {X : Cx} {pins : Pq} {σ : St} {H : Hp} {s : Shared} {E : XK}
theorem zbk {elt iter tg : Expr} {ifs : List Expr} {ws : List Str} {pos ipos : Pos} {sh : V -> Hp -> List V -> Prop} {g : TG} {RR : It -> Hp -> Prop} {caps : List (Nat × Str)} {scope : Scope} {wi : TI} {tt : TT} {tx : TX} {use : Option (Value -> Sem Unit)} {Q : VK} {QQ : Value -> Shared -> Prop}
  (hst : X.stack = X.env :: X.outer /\ X.env.frame = some X.env.locals) (hex : X.ex = []) (hlv : ∀ x s', XPA X pins σ E x s' -> X.xe x s')
  (hc : X.calm = true) (hi : PI X tg iter wi) (hkd : scope.kind = .function) (hnc : ∀ y ∈ scope.names, y.2 ≠ .cell) (hlc : ∀ y ∈ scope.names, y.2 = .local -> scope.names.lookup y.1 = some .local) (hcap : CapOk X scope caps) (hfree : ∀ y ∈ scope.names, y.2 = .free -> X.env.scope.names.lookup y.1 = some .cell \/ X.env.scope.names.lookup y.1 = some .free)
  (ht : ∀ cl s H fp, PTs (ya X (ws ++ caps.map (·.2)) scope cl s H fp) ifs tt) (he : ∀ cl s H fp, PXp (ya X (ws ++ caps.map (·.2)) scope cl s H fp) elt tx)
  (hpg : ∀ cl s H fp, PG { ya X (ws ++ caps.map (·.2)) scope cl s H fp with xe := fun _ _ => False } tg g) (hg : ∀ (pre cv : St) z H vs (R : St -> Hp -> Prop), pre.length = ws.length -> sh z H vs -> R (vs.map some ++ cv) H -> g z (pre ++ cv) H R) (hln : ∀ z H vs, sh z H vs -> vs.length = ws.length)
  (hs : ∀ v, foldedSetIterable iter X.env v = pure v)
  (I : Inv X pins σ H s) (h : wi σ H RR) (hR : ∀ J H1, RR J H1 -> ∀ D, H1 D = none -> zax sh J (xj caps σ) tt (fun σ H Q => tx σ H Q E) D H1 Q)
  (fin : ∀ (D C : Addr) (H' : Hp) (s' : Shared) (m : Mq), Inv X pins σ H' s' -> s'.heap.Ns C m -> xB X pins H' C -> Q (.ref D) H' -> compPost (model X.prog X.w) X.A X.xe use QQ (.ref D) C (.ok .next) s') :
  wpAny (model X.prog X.w) X.A (comprehension (.ListComp elt [⟨tg, iter, ifs, 0⟩] scope pos) scope X.env ipos (newList []) false (eval iter X.env) use) QQ X.xe s := by
 obtain ⟨cl, ecl, hcl, hcl2⟩ := x9 (scope := scope) (env := X.env) (fun y hy hk => I.ok.has y.1 (hfree y hy hk))
 refine wpAny_comprehension_free (g := ⟨tg, iter, ifs, 0⟩) (gs := []) rfl hs ecl hkd hlc (thn (hi pins s σ H _ I h) fun v s1 h1 => thn h1 fun itv s2 h2 => ?_)
 obtain ⟨it, fp, tn, J, H2, e, I2, T, st2, f2, hD⟩ := h2
 subst e
 refine wpAny_newObj_type (wpAny_newFunctionEnv hnc (by intro y hy; simp at hy) (fun h3 hns3 hsb3 => ?_) hkd) (by size_fits)
 have I3 : Inv X pins σ (upd H2 s2.heap.objs.size (.lst [])) { s2 with heap := s2.heap.push { cls := .type "list", data := .seq ([] : List Value).toArray }, toks := s2.toks } := I2.lnew (ys := []) (its := []) .nil (Nat.zero_le _)
 generalize hS3 : ({ s2 with heap := s2.heap.push { cls := .type "list", data := .seq ([] : List Value).toArray }, toks := s2.toks } : Shared) = s3 at I3
 have hh3 : s3.heap = s2.heap.push { cls := .type "list", data := .seq ([] : List Value).toArray } := by rw [<- hS3]
 obtain ⟨W, ⟨m0, w0⟩, turn⟩ := hR J H2 hD s2.heap.objs.size I2.fresh
 dsimp only at hns3 hsb3 |-
 have hk3 : ∀ b o, s3.heap.get? b = some o -> h3.get? b = some o := fun b o eb => by
  rw [hh3] at eb
  exact hsb3.extBut b o (Nat.ne_of_lt (Heap.lt_size eb)) (Heap.get?_push_of_some _ eb)
 have hD0 : ∀ b ∈ fp, b ≠ s2.heap.objs.size := fun b hb => by
  obtain ⟨o, eo, _⟩ := T.obj _ _ st2 b hb
  exact Nat.ne_of_lt (Heap.lt_size eo)
 have hfp : ∀ b ∈ fp, xB X pins (upd H2 s2.heap.objs.size (.lst [])) b /\ b < s3.heap.objs.size := fun b hb => by
  obtain ⟨o, eo, _⟩ := T.obj _ _ st2 b hb
  refine ⟨⟨by rw [zj (hD0 b hb)]; exact (f2 b hb).1, (f2 b hb).2⟩, ?_⟩
  rw [hh3]
  exact Nat.lt_of_lt_of_le (Heap.lt_size eo) (by rw [Heap.size_push]; exact Nat.le_succ _)
 have hns3' : h3.Ns s3.heap.objs.size fun _ => none := by
  rw [hh3]
  exact hns3
 have I4 := q0 (ws := ws) (caps := caps) (scope := scope) (cl := cl) (fp := fp) (h1 := h3) (tk := s3.toks) I3 hkd hnc hcap hcl hcl2 hfp hk3 hns3'
 have tn3 : tn 0 h3 := T.keep _ _ _ st2 fun b hb o eo => hk3 b o (by rw [hh3]; exact Heap.get?_push_of_some _ eo)
 generalize hY : ya X (ws ++ caps.map (·.2)) scope cl s3 (upd H2 s2.heap.objs.size (.lst [])) fp = Y at I4
 have fpY : ∀ {H' : Hp}, (∀ b ∈ fp, H' b = none) -> ∀ b ∈ fp, xB Y [] H' b := fun hn b hb => by
  subst hY
  refine ⟨hn b hb, Nat.ne_of_lt (hfp b hb).2, fun z => ?_, .inl hb, fun y c e => (hfp b hb).1.2.2.2.2.1 y c (hcl y c e), fun p hp => ?_⟩
  ·rcases List.mem_cons.mp (I3.stkSub b z) with q | q
   ·exact (hfp b hb).1.2.1 q
   ·exact (hfp b hb).1.2.2.1 q
  ·have hp' : p ∈ ([] : Pq) := by simpa [ya] using hp
   cases hp'
 have fr4 : ∀ b ∈ fp, (upd H2 s2.heap.objs.size (.lst [])) b = none := fun b hb => (hfp b hb).1.1
 have eE : Y.env = compEnvC scope cl s3.heap.objs.size X.env := by subst hY; rfl
 have eP : Y.prog = X.prog := by subst hY; rfl
 have eW : Y.w = X.w := by subst hY; rfl
 have eK : Y.K = X.K := by subst hY; rfl
 have eA : Y.A = X.A := by subst hY; rfl
 have eC : Y.calm = true := by subst hY; exact hc
 have eX : Y.xe = fun _ _ => False := by subst hY; rfl
 have eF : Y.ex = fp := by subst hY; rfl
 have eS : Y.s₀ = s3 := by subst hY; rfl
 have PT_ : PTs Y ifs tt := by subst hY; exact ht cl _ _ _
 have PE_ : PXp Y elt tx := by subst hY; exact he cl _ _ _
 have PG_ : PG Y tg g := by
  subst hY
  exact hpg cl _ _ _
 have back : ∀ {y : St} {H' : Hp} {s' : Shared}, Inv Y [] (y ++ xj caps σ) H' s' -> Inv X pins σ H' s' /\ (∃ m, s'.heap.Ns s3.heap.objs.size m) /\ xB X pins H' s3.heap.objs.size := fun {y H' s'} J' => by
  subst hY
  have J1 : Inv X pins σ H' s' := I3.call' (ch := fp) J'.os J'.base J'.hok J'.bare fun b hb => ⟨(hfp b hb).1.2.2.2.1, (hfp b hb).1.2.1, (hfp b hb).1.2.2.2.2.1, (hfp b hb).1.2.2.2.2.2⟩
  obtain ⟨m, hn, _⟩ := J'.loc
  exact ⟨J1, ⟨m, hn⟩, I3.fpOk (Nat.le_refl _) J'.free⟩
 have loop : ∀ (s4 : Shared) , Inv Y [] (ws.map (fun _ => none) ++ xj caps σ) (upd H2 s2.heap.objs.size (.lst [])) s4 -> tn 0 s4.heap →
   codeAny (model X.prog X.w) X.A (.compLoop (.ListComp elt [⟨tg, iter, ifs, 0⟩] scope pos) 0 (.ref it) (.ref s2.heap.objs.size) Y.env)
    (compPost (model X.prog X.w) X.A X.xe use QQ (.ref s2.heap.objs.size) s3.heap.objs.size) s4 := by
  intro s4 I4 tn4
  refine vk (fun n s' => ∃ i y H', y.length = ws.length /\ Inv Y [] (y ++ xj caps σ) H' s' /\ tn i s'.heap /\ (∀ b ∈ fp, H' b = none) /\ W i n H')
   (fun x s' => ∃ e C T H' y, x = .ref e /\ Inv Y [] (y ++ xj caps σ) H' s' /\ Fly s'.heap e (.ref C) T /\ (H' e = none /\ s3.heap.get? e = none /\ e ≠ s3.heap.objs.size) /\ (H' T = none /\ s3.heap.get? T = none /\ T ≠ s3.heap.objs.size) /\ E (.ref C) none H') ?_ ?_ m0 ⟨0, _, _, List.length_map _, I4, tn4, fr4, w0⟩
  ·rintro x s5 ⟨e, C, T', H', y, rfl, J', fl, ⟨n1, m1, l1⟩, ⟨n2, m2, l2⟩, q⟩
   obtain ⟨J1, ⟨m, hn⟩, fC⟩ := back J'
   have f1 : FpX X pins H' e := I3.fpX hex m1 n1
   have f2 : FpX X pins H' T' := I3.fpX hex m2 n2
   have ee : Y.env.frame = X.env.frame := by rw [eE]; rfl
   rw [zcY ee]
   refine ze6 (base := X.base) (env := X.env) (outer := X.outer) (by rw [<- hst.1]; exact J1.ok.frames) (by rw [<- hst.1]; exact J1.stack) hst.2 fl fun h6 T6 tr sz fl6 => ?_
   have J2 : Inv X pins σ H' { s5 with heap := h6 } := J1.trod (by rw [hst.1]; exact tr) (fun b hb => by
    rcases List.mem_cons.mp hb with z | z
    ·rw [z]; exact f1
    ·have : b = T' := by simpa using z
     rw [this]; exact f2)
   have f6 : FpX X pins H' T6 := J1.fpX hex (Heap.get?_none_of_le sz) (J1.hok.fresh sz)
   have hn6 : ∃ m, h6.Ns s3.heap.objs.size m := by
    obtain ⟨o, es, ep, ho, r⟩ := hn
    obtain ⟨sl, e'⟩ := tr.slot _ o (fun z => by
     rcases List.mem_cons.mp z with z | z
     ·exact l1 z.symm
     ·have z : s3.heap.objs.size = T' := by simpa using z
      exact l2 z.symm) ho
    exact ⟨m, _, es, ep, e', r⟩
   obtain ⟨m6, hn6⟩ := hn6
   have gone : ∃ m, h6.Ns s3.heap.objs.size m /\ ∀ h7, Heap.SameBut s3.heap.objs.size h6 h7 -> ∀ cenv : Env, cenv.locals = s3.heap.objs.size -> wpAny (model X.prog X.w) X.A (passOn "comprehension.variables-let-go" (.ref e) cenv : Sem Value) (fun _ _ => False) X.xe { s5 with heap := h7 } := by
    refine ⟨m6, hn6, fun h7 sb cenv _ => ?_⟩
    have J3 : Inv X pins σ H' { s5 with heap := h7 } := J2.turned (s := { s5 with heap := h6 }) (h' := h7) (it := s3.heap.objs.size) (t' := s5.toks) (fun b o hb e => sb.extBut b o hb e) fC.1 fC.2.1 fC.2.2.2.1 fC.2.2.2.2.1 fC.2.2.2.2.2
    have nT6 : T6 ≠ s3.heap.objs.size := fun z => by
     obtain ⟨o, es, ep, ho, r⟩ := hn
     have := Heap.lt_size ho
     exact absurd (z ▸ sz) (Nat.not_le_of_lt this)
    have fl7 : vj h7 e (.ref C) T6 := by
     obtain ⟨⟨t, e1⟩, ne, oT, ts, e2, d, hz⟩ := fl6
     exact ⟨⟨t, sb.extBut _ _ l1 e1⟩, ne, oT, ts, sb.extBut _ _ nT6 e2, d, hz⟩
    refine zee (s := s5) fl7 fun h8 tr8 fl8 => hlv _ _ ⟨e, C, T6, H', rfl, ?_, fl8, f1, f6, q⟩
    exact J3.trod (tr8.mono (fun _ z => z) (fun _ z => absurd z (by simp))) (fun b hb => by
     have : b = T6 := by simpa using hb
     rw [this]; exact f6)
   cases use <;> exact gone
  rintro n s5 ⟨i, y, H5, ly, I5, st5, fr5, w5⟩
  rcases turn i n H5 w5 with ⟨stop, qn⟩ | ⟨go, step⟩
  ·have := T.done Y eP eW eK eC i [] s5 _ H5 (fun _ _ => False) I5 (fpY fr5) st5 stop
   rw [eA] at this
   refine thn this fun r s6 ⟨hr, I6⟩ => ?_
   subst hr
   obtain ⟨J1, ⟨m, hn⟩, fC⟩ := back I6
   exact fin _ _ H5 s6 m J1 hn fC qn
  ·have := T.item Y eP eW eK eC i [] s5 _ H5 (fun _ _ => False) I5 (fpY fr5) st5 go
   rw [eA] at this
   refine thn this fun r s6 ⟨u, hr, h6⟩ => ?_
   subst hr
   refine thn h6 fun _ s7 ⟨z, H7, I7, r7, y7, st7, fr7⟩ => ?_
   have I7' := I7.pinned (fpY fr7) (T.obj _ _ st7)
   obtain ⟨vs, hsh, step⟩ := step z H7 y7
   have a1 := PG_ _ s7 _ H7 z u _ I7' r7 (hg y (xj caps σ) z H7 vs (fun σ' H' => σ' = vs.map some ++ xj caps σ /\ H' = H7) ly hsh ⟨rfl, rfl⟩)
   rw [eP, eW, eA, eX] at a1
   refine thn a1 fun _ s8 ⟨σ8, H8, I8, e8, e8'⟩ => ?_
   subst e8 e8'
   have a2 := PT_ _ s8 _ H8 _ I8 step
   rw [eP, eW, eA, eX] at a2
   refine thn a2 fun ok s9 ⟨H9, I9, q9⟩ => ?_
   have again : ∀ {H' : Hp} {s' : Shared} {m' : Nat}, Inv Y ([] ++ jf fp s7.heap) (vs.map some ++ xj caps σ) H' s' -> m' < n -> W (i + 1) m' H' -> ∃ m, m < n /\ ∃ i y H', y.length = ws.length /\ Inv Y [] (y ++ xj caps σ) H' s' /\ tn i s'.heap /\ (∀ b ∈ fp, H' b = none) /\ W i m H' := fun {H' s' m'} J lt w' => by
    refine ⟨m', lt, i + 1, vs.map some, H', by rw [List.length_map]; exact hln _ _ _ hsh, J.unpinned, T.keep _ _ _ st7 fun b hb o e => (J.pin (b, o) (List.mem_append_right _ (List.mem_append_right _ (yQ hb e)))).1, fun b hb => ?_, w'⟩
    obtain ⟨o, e, d⟩ := T.obj _ _ st7 b hb
    exact (J.pin (b, o) (List.mem_append_right _ (List.mem_append_right _ (yQ hb e)))).2.1
   cases ok with
   | false =>
    obtain ⟨m', lt, w'⟩ := q9
    exact again I9 lt w'
   | true =>
    have hld : Held Y ([] ++ jf fp s7.heap) := fun b hb => by
     rw [eF] at hb
     obtain ⟨o, e, d⟩ := T.obj _ _ st7 b hb
     exact ⟨o, List.mem_append_right _ (yQ hb e)⟩
    have a3 := PE_ _ s9 _ H9 _ E hld I9 q9
    rw [eP, eW, eA] at a3
    refine wpAny_mono a3 (fun uv s10 ⟨v, H10, I10, r10, ys, hys, hlt, m', lt, w'⟩ => ?_) fun x s10 ⟨e, C, T', H', ex, I10, fl, fe, fT, q⟩ => ⟨e, C, T', H', vs.map some, ex, I10.unpinned, fl, ⟨fe.1, by have := fe.2.2.1; rw [eS] at this; exact this, by have := fe.2.1; rw [eE] at this; exact this⟩, ⟨fT.1, by have := fT.2.2.1; rw [eS] at this; exact this, by have := fT.2.1; rw [eE] at this; exact this⟩, q⟩
    have a4 := yS (X := Y) _ s10 _ H10 (.ref s2.heap.objs.size) [v] (.ref s2.heap.objs.size) [uv] (fun v' H' => H' = upd H10 s2.heap.objs.size (.lst (ys ++ [v]))) I10 rfl (.cons r10 .nil) ⟨_, ys, v, rfl, rfl, hys, hlt, rfl⟩
    rw [eP, eW, eA, eX] at a4
    refine thn a4 fun _ s11 ⟨v11, H11, I11, _, e11⟩ => ?_
    subst e11
    exact again I11 lt w'
 have L := loop { s3 with heap := h3, toks := s3.toks } I4 tn3
 rw [eE] at L
 refine codeAny_compStart_list L (T.self _ 0 _ _ _ (by exact tn3) L)
theorem zaf {elt iter : Expr} {ifs : List Expr} {x : Str} {px pos ipos : Pos} {caps : List (Nat × Str)} {scope : Scope} {wi : TI} {tt : TT} {tx : TX} {use : Option (Value -> Sem Unit)} {Q : VK} {QQ : Value -> Shared -> Prop}
  (hst : X.stack = X.env :: X.outer /\ X.env.frame = some X.env.locals) (hex : X.ex = []) (hlv : ∀ x s', XPA X pins σ E x s' -> X.xe x s')
  (hc : X.calm = true) (hi : PI X (.Name x px) iter wi) (S : xk scope x) (hcap : CapOk X scope caps) (hfree : ∀ y ∈ scope.names, y.2 = .free -> X.env.scope.names.lookup y.1 = some .cell \/ X.env.scope.names.lookup y.1 = some .free)
  (ht : ∀ cl s H fp, PTs (ya X (x :: caps.map (·.2)) scope cl s H fp) ifs tt) (he : ∀ cl s H fp, PXp (ya X (x :: caps.map (·.2)) scope cl s H fp) elt tx)
  (hs : ∀ v, foldedSetIterable iter X.env v = pure v) (nd : (x :: caps.map (·.2)).Nodup)
  (I : Inv X pins σ H s) (h : vz wi caps tt (fun σ H Q => tx σ H Q E) σ H Q)
  (fin : ∀ (D C : Addr) (H' : Hp) (s' : Shared) (m : Mq), Inv X pins σ H' s' -> s'.heap.Ns C m -> xB X pins H' C -> Q (.ref D) H' -> compPost (model X.prog X.w) X.A X.xe use QQ (.ref D) C (.ok .next) s') :
  wpAny (model X.prog X.w) X.A (comprehension (.ListComp elt [⟨.Name x px, iter, ifs, 0⟩] scope pos) scope X.env ipos (newList []) false (eval iter X.env) use) QQ X.xe s :=
 zbk (ws := [x]) (g := js 0) (sh := fun z _ vs => vs = [z]) hst hex hlv hc hi S.kind S.nocell S.locs hcap hfree ht he
  (fun cl s H fp => zX nd rfl (.inl (lookup_relabel_local S.own)) (.inr (lookup_relabel_local S.own)))
  (fun pre cv z H vs R hl e r => by
   subst e
   match pre, hl with
   | [p], _ => exact r)
  (fun z H vs e => by subst e; rfl) hs I h (fun J H1 r D hD => (r D hD).imp fun W w => ⟨w.1, fun i m H' w' => (w.2 i m H' w').imp id fun q => ⟨q.1, fun x H2 y => ⟨[x], rfl, q.2 x H2 y⟩⟩⟩) fin
end
section
variable {P : Program} {w : World} {K : Fq} {mg : Mq} {base : Heap} {N : List Str} {qual : Str} {scope0 : Scope} {f : Addr} {cd : Value} {A : Around} {outer : List Env} {s0 : Shared} {H0 : Hp} {E : XK}
theorem wj {elt iter : Expr} {ifs : List Expr} {x y : Str} {px py pos spos : Pos} {caps : List (Nat × Str)} {scope : Scope} {wi : TI} {tt : TT} {tx : TX} {i : Nat} (hN : (yh (CXE P w) P w K mg base N qual scope0 f cd A outer s0 H0 E).N.Nodup) (hi' : (yh (CXE P w) P w K mg base N qual scope0 f cd A outer s0 H0 E).N[i]? = some y) (hx : Loc (yh (CXE P w) P w K mg base N qual scope0 f cd A outer s0 H0 E).env.scope y)
  (hc : (yh (CXE P w) P w K mg base N qual scope0 f cd A outer s0 H0 E).calm = true) (hi : PI (yh (CXE P w) P w K mg base N qual scope0 f cd A outer s0 H0 E) (.Name x px) iter wi) (S : xk scope x) (hcap : CapOk (yh (CXE P w) P w K mg base N qual scope0 f cd A outer s0 H0 E) scope caps) (hfree : qZ scope (yh (CXE P w) P w K mg base N qual scope0 f cd A outer s0 H0 E).env.scope = true)
  (nd : (x :: caps.map (·.2)).Nodup)
  (ht : ∀ cl s H fp, PTs (ya (yh (CXE P w) P w K mg base N qual scope0 f cd A outer s0 H0 E) (x :: caps.map (·.2)) scope cl s H fp) ifs tt) (he : ∀ cl s H fp, PXp (ya (yh (CXE P w) P w K mg base N qual scope0 f cd A outer s0 H0 E) (x :: caps.map (·.2)) scope cl s H fp) elt tx)
  (hs : ∀ v, foldedSetIterable iter (yh (CXE P w) P w K mg base N qual scope0 f cd A outer s0 H0 E).env v = pure v := by intro _; rfl)
  (hsw : swapsWith (.ListComp elt [⟨.Name x px, iter, ifs, 0⟩] scope pos) (some (.Name y py)) spos.line (yh (CXE P w) P w K mg base N qual scope0 f cd A outer s0 H0 E).env = pure true := by rfl)
  (hf : (yh (CXE P w) P w K mg base N qual scope0 f cd A outer s0 H0 E).fn y = true \/ (yh (CXE P w) P w K mg base N qual scope0 f cd A outer s0 H0 E).env.scope.names.lookup y = some .local := by first | exact .inl rfl | exact .inr rfl | assumption) :
  PS (yh (CXE P w) P w K mg base N qual scope0 f cd A outer s0 H0 E) (.Assign [.Name y py] (.ListComp elt [⟨.Name x px, iter, ifs, 0⟩] scope pos) spos) (zbS (vz wi caps tt (fun σ H Q => tx σ H Q E)) (js i)) := by
 intro pins s σ H D I h
 rw [exec_Assign_Name_used _ _ _ _ hsw]
 refine wpAny_bind (wpAny_standAt (wpAny_bind ?_))
 show wpAny _ _ (do let _ <- comprehension (.ListComp elt [⟨.Name x px, iter, ifs, 0⟩] scope pos) scope (yh (CXE P w) P w K mg base N qual scope0 f cd A outer s0 H0 E).env _ (newList []) false (eval iter (yh (CXE P w) P w K mg base N qual scope0 f cd A outer s0 H0 E).env) (some (assign (.Name y py) (yh (CXE P w) P w K mg base N qual scope0 f cd A outer s0 H0 E).env))) _ _ s
 refine wpAny_bind (wpAny_mono (zaf (X := yh (CXE P w) P w K mg base N qual scope0 f cd A outer s0 H0 E) (E := E) (use := some (assign (.Name y py) (yh (CXE P w) P w K mg base N qual scope0 f cd A outer s0 H0 E).env)) (QQ := fun _ s' => SP (yh (CXE P w) P w K mg base N qual scope0 f cd A outer s0 H0 E) pins D .next s') ⟨rfl, rfl⟩ rfl (fun x s' z => z.leave) hc hi S hcap (xT hfree) ht he hs nd I h fun D' C H' s' m I' hn fC q => ?_)
  (fun _ s' hq => wpAny_pure (wpAny_pure hq)) fun _ _ e => e)
 show wpAny _ _ (assign (.Name y py) (yh (CXE P w) P w K mg base N qual scope0 f cd A outer s0 H0 E).env (.ref D')) _ _ s'
 refine wpAny_assign_Name (xX I' hN hi' hx (v := .ref D') rfl (fun s2 I2 hh => ?_) hf)
 obtain ⟨a, sb, ha⟩ := hh
 have hCa : C ≠ a := by
  rcases ha with e | e
  ·rw [e]; exact fC.2.1
  ·exact fun z => fC.2.2.2.2.1 y a e z.symm
 refine ⟨m, hn.sameBut sb hCa, fun h' sb' => ⟨σ.set i (some (.ref D')), H', ?_, q⟩⟩
 exact I2.turned (it := C) (t' := s2.toks) (fun b o hb e => sb'.extBut b o hb e) fC.1 fC.2.1 fC.2.2.2.1 fC.2.2.2.2.1 fC.2.2.2.2.2
end
end L2
set_option maxHeartbeats 4000000
namespace L2
open PySem PySem.Spec PyProof.Rows
section
variable {X : Cx} {pins : Pq} {σ : St} {H : Hp} {s : Shared}
theorem zbl {A : Around} {E : Value -> Shared -> Prop} {i : Nat} {x : Str} {pos : Pos} {Q : Unit -> Shared -> Prop} (I : Inv X pins σ H s) (hN : X.N.Nodup) (hi : X.N[i]? = some x) (hk : X.env.kindOf x = some .local)
  (h : ∀ s', Inv X pins (σ.set i none) H s' -> Q () s') : wpAny (model X.prog X.w) A (do bindName X.env x .none; unbindBehindTheSuite X.env x pos) Q E s := by
 obtain ⟨m, hn, hl⟩ := I.loc
 have hcls : (X.env.scope.kind == .class || (X.env.scope.kind == .module && X.env.locals != X.env.globals)) = false := by rw [I.ok.kind]; rfl
 have cne : ∀ y c, X.env.cells.lookup y = some c -> c ≠ X.env.locals := fun y c e z => by
  obtain ⟨w', o, ho, hd⟩ := I.cell y c e
  obtain ⟨oL, es, ep, hoL, hdL, _⟩ := id hn
  rw [z, hoL] at ho
  cases ho
  rw [hdL] at hd
  cases hd
 refine wpAny_nameGoes_keeps hk hn hcls fun h' v hn' hs => h _ ?_
 refine ⟨I.ok, I.os, I.bare, ⟨fun b o e n hb hx => ?_, fun b o e n hb hx => ?_, I.base.free, fun b o e hx => ?_, I.base.tups, I.base.frzs, I.base.tbls⟩, ⟨_, hn', fun j y v' e1 e2 e3 => ?_⟩, fun y c e => ?_, I.free, I.freeC, fun p hp => ?_, fun b u e => ?_, by simpa using I.len⟩
 ·exact (hs.2 b (Nat.ne_of_lt (Nat.lt_of_lt_of_le (Heap.lt_size e) I.ok.above))).trans (I.base.keep b o e n hb hx)
 ·obtain ⟨sl, e1⟩ := I.base.slot b o e n hb hx
  exact ⟨sl, (hs.2 b (Nat.ne_of_lt (Nat.lt_of_lt_of_le (Heap.lt_size e) I.ok.above))).trans e1⟩
 ·obtain ⟨o', e1⟩ := I.base.there b o e hx
  exact ⟨o', (hs.2 b (Nat.ne_of_lt (Nat.lt_of_lt_of_le (Heap.lt_size e) I.ok.above))).trans e1⟩
 ·by_cases hj : j = i
  ·subst hj
   rw [List.getElem?_set] at e2
   split at e2
   ·split at e2 <;> cases e2
   ·rename_i z; exact absurd rfl z
  ·rw [List.getElem?_set_ne (Ne.symm hj)] at e2
   obtain ⟨u', r', q⟩ := hl j y v' e1 e2 e3
   refine ⟨u', r', ?_⟩
   rcases q with ⟨k, e⟩ | ⟨k, c, e, z⟩
   ·refine .inl ⟨k, ?_⟩
    have : y ≠ x := fun e => hj (qk hN e1 (e ▸ hi))
    simp [this, e]
   ·exact .inr ⟨k, c, e, z.sameBut hs (cne y c e)⟩
 ·obtain ⟨w', z⟩ := I.cell y c e
  exact ⟨w', z.sameBut hs (cne y c e)⟩
 ·obtain ⟨e, n, ne, nf, d⟩ := I.pin p hp
  exact ⟨(hs.2 p.1 ne).trans e, n, ne, nf, d⟩
 ·have nl : ∀ b u, H b = some u -> b ≠ X.env.locals := fun b u e z => by rw [z, I.free] at e; cases e
  refine (I.hok b u e).stay (fun c v hc q => (hs.2 c ?_).trans q) (fun _ q => q) fun _ _ q => q
  rcases hc with z | z
  ·rw [z]; exact nl b u e
  ·exact nl c _ z
end
def Ends.drop (D : Ends) (i : Nat) : Ends := { nx := fun σ H => D.nx (σ.set i none) H, ct := fun σ H => D.ct (σ.set i none) H, bk := fun σ H => D.bk (σ.set i none) H, rt := D.rt }
def ze7 (K : Fq) (D : Addr) (i : Nat) (tb : TSX) (ts : Addr -> Addr -> TS) : TS := fun De σ H => tb De (fun cls _ H' => ∃ C, cls = .ref C /\ PySem.W.mroIn K C (.ref D) = some true /\ ∀ e, H' e = none -> ts e C (De.drop i) (σ.set i (some (.ref e))) H') σ H
theorem zcZ {X : Cx} {st b₀ : Stmt} {suite : List Stmt} {x n : Str} {np hpos pos : Pos} {tb : TSX} {ts : Addr -> Addr -> TS} {D : Addr} {i : Nat} (hN : X.N.Nodup) (hi : X.N[i]? = some n) (hk : X.env.kindOf n = some .local) (hst : X.stack = X.env :: X.outer /\ X.env.frame = some X.env.locals) (hex : X.ex = []) (hb : PSx X st tb) (hg : Gl X x) (hm : X.mg x = some (.ref D)) (hD : PySem.W.excIn X.K D bmV "ValueError.__new__" = true)
  (hs : ∀ (e C : Addr) (t tb : Value), HdX (X.inX e (yF (.ref C) t tb)) -> PSs (X.inX e (yF (.ref C) t tb)) (b₀ :: suite) (ts e C)) (hdb : (x == ("__debug__" : Str)) = false := by decide) :
  PS X (.Try [st] [.ExceptHandler (some (.Name x np)) (some n) (b₀ :: suite) hpos] [] [] pos) (ze7 X.K D i tb ts) := by
 intro pins s σ H De I h
 refine wpAny_Try_except (wpAny_execs_cons (wpAny_mono (hb pins s σ H De _ I h) (fun f s1 q => ?_) fun x s1 q => ?_))
 ·cases f with
  | next => exact wpAny_execs_nil (wpAny_execs_nil q)
  | ret v => exact q
  | brk => exact q
  | cont => exact q
 ·obtain ⟨e, C, T, H1, rfl, I1, fl, fe, fT, C', ec, sub, q⟩ := q
  cases ec
  have q := q e fe.1
  have ae : ∀ b ∈ [e, T], FpX X pins H1 b := fun b hb => by
   rcases List.mem_cons.mp hb with z | z
   ·rw [z]; exact fe
   ·have : b = T := by simpa using z
    rw [this]; exact fT
  refine kf (base := X.base) (env := X.env) (outer := X.outer) (by rw [<- hst.1]; exact I1.ok.frames) (by rw [<- hst.1]; exact I1.stack) hst.2 fl fun h2 T2 tr sz fl2 => ?_
  have I2 : Inv X pins σ H1 { s1 with heap := h2 } := I1.trod (by rw [hst.1]; exact tr) ae
  have fT2 : FpX X pins H1 T2 := I1.fpX hex (Heap.get?_none_of_le sz) (I1.hok.fresh sz)
  obtain ⟨bm, N, nm, qn, bs, hdct, sn, sub', ab, col, dd, k0, k1, k2, k3, k5, mN, hC, hN', hni, TL⟩ := zaB I.ok.mod.kin hD
  obtain ⟨⟨t2, he2⟩, ne2, oT, tts, eT, dT, h3⟩ := id fl2
  have I3 := I2.inX he2 ⟨_, rfl⟩ fe.1
  refine wpAny_handleBy_cons (codeAny_handlers_test (yT (X := X.inX e (yF (.ref C) t2 (.ref T2))) I3 hg hm ?_ hdb)) (by intro q; cases q)
  refine vH (b := true) (C := C) (fun Q hq => PySem.W.looks_mroIn I2.kIn sub _ _ _ _ (fun _ _ q => q) hq) (I2.bk _ _ hC) he2 rfl (TL.hasType (by decide)) (codeAny_handlers_suite_as ?_)
  refine jj (s := s1) he2 eT dT (Array.getElem?_eq_some_iff.mp h3).1 ne2 fun h4 tr4 fl4 => ?_
  have I4 : Inv X pins σ H1 { s1 with heap := h4 } := I2.trod (tr4.mono (fun _ z => z) (fun _ z => absurd z (by simp))) (fun b hb => by
   have : b = T2 := by simpa using hb
   rw [this]; exact fT2)
  obtain ⟨t4, he4⟩ := fl4.ob
  have I5 := I4.inX he4 ⟨_, rfl⟩ fe.1
  refine jr (X := X.inX e (yF (.ref C) t4 (.ref T2))) I5 hN hi (.inl hk) (v := .ref e) rfl (fun s5 I6 => ?_) (.inr hk)
  refine wpAny_mono (hs e C t4 (.ref T2) zeR pins _ _ H1 (De.drop i) I6 q) (fun f s6 q6 => ?_) fun _ _ z => z.elim
  have go : ∀ {σ' : St} {H' : Hp} {R : Shared -> Prop}, Inv (X.inX e (yF (.ref C) t4 (.ref T2))) pins σ' H' s6 -> (∀ s7, Inv X pins (σ'.set i none) H' s7 -> R s7) -> wpAny (model X.prog X.w) X.A (do bindName X.env n .none; unbindBehindTheSuite X.env n hpos) (fun _ s7 => R s7) X.xe s6 := fun {σ' H' R} J k => zbl (J.ofX I.ok.hd) hN hi hk k
  cases f with
  | next => obtain ⟨σ', H', J, z⟩ := q6; exact go J fun s7 J7 => ⟨_, H', J7, z⟩
  | brk => obtain ⟨σ', H', J, z⟩ := q6; exact go J fun s7 J7 => ⟨_, H', J7, z⟩
  | cont => obtain ⟨σ', H', J, z⟩ := q6; exact go J fun s7 J7 => ⟨_, H', J7, z⟩
  | ret u => obtain ⟨v, σ', H', J, r, z⟩ := q6; exact go J fun s7 J7 => ⟨v, _, H', J7, r, z⟩
section
open PySem.W
structure jZ (K : Frag) (C : Addr) : Prop where
 cl : (clsIn K C).isSome = true
 ga : findIn K (.ref C) "__getattribute__" = some (some (.builtin "BaseException.__getattribute__"))
 gt : findIn K (.ref C) "__getattr__" = some none
 ca : findIn K (.ref C) "__class__" = some (some (.builtin "object.__class__"))
 gs : specialIn K (.builtin "object.__class__") "__get__" = some (some (.builtin "getset_descriptor.__get__"))
 tk : takesIn K (.builtin "object.__class__") = some true
 mo : mroIn K C (.type "object") = some true
 mb : mroIn K C (.type "BaseException") = some true
variable {K : Frag} {prog : Program} {w : World} {A : Around} {E : Value -> Shared -> Prop} {s : Shared} {x C : Addr} {ox : Obj}
theorem xO {bm : List Value} {n : String} (q : excIn K C bm n = true) : (clsIn K C).isSome = true := by
 unfold excIn at q
 split at q
 ·rename_i lk
  unfold clsIn
  rw [lk]
  rfl
 ·cases q
theorem zbm {tk : Tok} {Q : Fin -> Shared -> Prop} (Z : jZ K C) (X : K.In s.heap) (I : InstAt s.heap x ox C none) (h : Q (.done (.ret (.ref C))) s) : wpAny (model prog w) A (Builtin.«object.__getattribute__» ⟨[.ref x, .str "__class__" tk], []⟩) Q E s := by
 have hf : findObj K C none "__class__" = some (.bind (.builtin "getset_descriptor.__get__") (.builtin "object.__class__")) := by
  obtain ⟨cd, hc⟩ := Option.isSome_iff_exists.mp Z.cl
  unfold findObj
  rw [hc, Option.bind_some, Z.ca, Option.bind_some]
  simp [Z.gs, Z.tk]
 obtain ⟨hh, gg, d, t, os⟩ := s
 have L0 := I.type (M := model prog w)
 have L1 := looks_find (M := model prog w) X I hf
 refine wpAny_bind (wpAny_pure (wpAny_bind (wpAny_pure (wpAny_bind (L0.at (wpAny_bind (L1.at ?_)))))))
 show wpAny _ _ (holding [.builtin "object.__class__"] (call (.builtin "getset_descriptor.__get__") [.builtin "object.__class__", .ref x, .ref C]) >>= ret) _ _ _
 exact wpAny_bind (wpAny_holding (wpAny_call (class_get (s := ⟨hh, gg, d, t, os⟩) (ox := ox) (od := none) X I Z.mo (wpAny_pure h))))
theorem zbn {M : Model} {nameV : Value} {Q : Unit -> Shared -> Prop} (Z : jZ K C) (X : K.In s.heap) (I : InstAt s.heap x ox C none) (hq : Q () s) : wpAny M A (checkBuiltinCall "BaseException.__getattribute__" ⟨[.ref x, nameV], []⟩) Q E s := by
 have hk : builtinKind "BaseException.__getattribute__" = some .slot := by decide +kernel
 have hsplit : splitId "BaseException.__getattribute__" = some ("BaseException", "__getattribute__") := by decide +kernel
 have ha := F.args_bexc_ga (.ref x) nameV
 have L0 := I.type (M := M)
 have L1 := looks_mroIn (M := M) X Z.mb
 have LI : Looks M s.heap (isInstance (.ref x) (.type "BaseException")) true := L0.andThen L1
 obtain ⟨hh, gg, d, t, os⟩ := s
 simp only [checkBuiltinCall, hk, hsplit]
 refine wpAny_bind (LI.at ?_)
 repeat (any_goals (first | assumption | wp_step))
theorem zbo {Q : Option Value -> Shared -> Prop} (Z : jZ K C) (X : K.In s.heap) (I : InstAt s.heap x ox C none) (h : Q (some (.ref C)) { s with toks := s.toks + 1 }) : wpAny (model prog w) A (getAttr? (.ref x) "__class__") Q E s := by
 obtain ⟨hh, g, d, t, os⟩ := s
 have L0 := I.type (M := model prog w)
 have L1 := looks_findIn (M := model prog w) X Z.ga
 have L2 := looks_findIn (M := model prog w) X Z.gt
 unfold getAttr? getAttrBy? getAttrBy
 refine wpAny_bind (wpAny_mkText (wpAny_bind (wpAny_attempt (wpAny_holding (wpAny_bind (L0.at (wpAny_bind (L1.at ?_))))))))
 show wpAny _ _ (getAttrByItsOwn _ _ _ _ _ _) _ _ _
 have f3 := F.attr_ValueError.ga.bind (.ref x)
 unfold getAttrByItsOwn
 refine wpAny_bind (L2.at ?_)
 refine wpAny_bind (wpAny_attempt ?_)
 show wpAny _ _ (do let r <- bindSpecial (.builtin "BaseException.__getattribute__") (.ref x); call r.1 (r.2 ++ [Value.str (Str.ofString "__class__") t])) _ _ _
 rw [f3]
 refine wpAny_bind (wpAny_pure ?_)
 show wpAny _ _ (call (.builtin "BaseException.__getattribute__") [.ref x, Value.str (Str.ofString "__class__") t]) _ _ _
 refine wpAny_call (codeAny_call_builtin F.attr_ValueError.ga.plain F.entry_bexc_ga (zbn (s := ⟨hh, g, d, t + 1, os⟩) Z X I (zbm (s := ⟨hh, g, d, t + 1, os⟩) Z X I ?_)))
 exact handed_on rfl (wpAny_pure h)
theorem wm {t tb : Value} (Z : jZ K C) : KitX K (.ref x) (.ref C) (fun h => h.get? x = some (yF (.ref C) t tb)) where
 ty := fun M h _ p => InstAt.type (od := none) ⟨p, rfl, rfl, trivial⟩
 it := fun _ _ X _ => by
  obtain ⟨cd, hc⟩ := Option.isSome_iff_exists.mp Z.cl
  unfold clsIn at hc
  split at hc
  ·rename_i c' d' cd' sl' ho
   intro A' Q' E' s' k q
   unfold isType loadHead
   exact wpAny_bind (wpAny_loadPart (k _ _ (X _ _ ho)) (wpAny_pure q))
  ·cases hc
 ne := fun h tp dd its n sl X htp => by
  obtain ⟨cd, hc⟩ := Option.isSome_iff_exists.mp Z.cl
  refine Bool.eq_false_iff.mpr fun q => ?_
  have e : C = tp := Value.ref.inj (beq_iff_eq.mp q)
  subst e
  unfold clsIn at hc
  split at hc
  ·rename_i c' d' cd' sl' ho
   have z := (X _ _ ho).symm.trans htp
   cases z
  ·cases hc
 ca := fun X p k => zbo Z X (ox := yF (.ref C) t tb) ⟨p, rfl, rfl, trivial⟩ k
end
theorem vm : bootBuiltins "ValueError" = some (.type "ValueError") := by decide +kernel
section
variable {X : Cx}
end
end L2
namespace Np
open L2 PySem
def fig (c : Nat) : Bool := decide (48 <= c) && decide (c <= 57)
def zbp (f : List Nat) : Option Nat := if f.length <= 3 /\ 0 < f.length /\ f.all fig = true then some (PySem.NumText.digitsVal f) else none
theorem ze8 {c : Nat} (h : c < 128) : Unicode.isDigit c = fig c := by
 have : ∀ k : Fin 128, Unicode.isDigit k.val = fig k.val := by decide +kernel
 exact this ⟨c, h⟩
theorem zaM : ∀ {f : List Nat}, (∀ c ∈ f, c < 128) -> f.all Unicode.isDigit = f.all fig
 | [], _ => rfl
 | a :: r, h => by rw [List.all_cons, List.all_cons, ze8 (h a List.mem_cons_self), zaM fun c hc => h c (List.mem_cons_of_mem _ hc)]
theorem ze9 {f : List Nat} (h : f.all fig = true) : ∀ c ∈ f, 48 <= c /\ c <= 57 := fun c hc => by
 have := List.all_eq_true.mp h c hc
 unfold fig at this
 rw [Bool.and_eq_true, decide_eq_true_eq, decide_eq_true_eq] at this
 exact this
def jE (c : Nat) (l : List Nat) : List Nat := if c ∈ l then l.take (l.idxOf c) else l
def qQ (c : Nat) (l : List Nat) : List Nat := if c ∈ l then [c] else []
def jF (c : Nat) (l : List Nat) : List Nat := if c ∈ l then l.drop (l.idxOf c + 1) else []
theorem zc0 (c : Nat) (l : List Nat) : cutC c l = [jE c l, qQ c l, jF c l] := by
 unfold cutC jE qQ jF
 by_cases h : c ∈ l
 ·simp only [if_pos h]
 ·simp only [if_neg h]
structure Sub (m l : List Nat) : Prop where
 len : m.length <= l.length
 mem : ∀ c ∈ m, c ∈ l
theorem Sub.refl (l : List Nat) : Sub l l := ⟨Nat.le_refl _, fun _ h => h⟩
theorem sub0 (c : Nat) (l : List Nat) : Sub (jE c l) l := by
 unfold jE
 by_cases h : c ∈ l
 ·rw [if_pos h]; exact ⟨by rw [List.length_take]; exact Nat.min_le_right _ _, fun x hx => List.mem_of_mem_take hx⟩
 ·rw [if_neg h]; exact .refl l
theorem sub2 (c : Nat) (l : List Nat) : Sub (jF c l) l := by
 unfold jF
 by_cases h : c ∈ l
 ·rw [if_pos h]; exact ⟨by rw [List.length_drop]; exact Nat.sub_le _ _, fun x hx => List.mem_of_mem_drop hx⟩
 ·rw [if_neg h]; exact ⟨Nat.zero_le _, fun x hx => by cases hx⟩
theorem j4 (c : Nat) : ∀ (l acc : List Nat), ∀ p ∈ yy c acc l, p.length <= acc.length + l.length /\ ∀ x ∈ p, x ∈ acc \/ x ∈ l
 | [], acc, p, h => by
  have h : p ∈ [acc] := h
  rw [List.mem_singleton] at h
  subst h
  exact ⟨Nat.le_refl _, fun x hx => .inl hx⟩
 | a :: r, acc, p, h => by
  unfold yy at h
  rw [List.length_cons]
  by_cases hc : a = c
  ·rw [if_pos hc, List.mem_cons] at h
   rcases h with h | h
   ·subst h
    exact ⟨by omega, fun x hx => .inl hx⟩
   ·obtain ⟨h1, h2⟩ := j4 c r [] p h
    rw [List.length_nil] at h1
    exact ⟨by omega, fun x hx => (h2 x hx).elim (fun z => by cases z) fun z => .inr (List.mem_cons_of_mem _ z)⟩
  ·rw [if_neg hc] at h
   obtain ⟨h1, h2⟩ := j4 c r (acc ++ [a]) p h
   rw [List.length_append, List.length_singleton] at h1
   refine ⟨by omega, fun x hx => ?_⟩
   rcases h2 x hx with z | z
   ·rcases List.mem_append.mp z with z | z
    ·exact .inl z
    ·rw [List.mem_singleton] at z
     exact .inr (z ▸ List.mem_cons_self)
   ·exact .inr (List.mem_cons_of_mem _ z)
theorem zc1 {c : Nat} {l p : List Nat} (h : p ∈ yy c [] l) : Sub p l := by
 obtain ⟨h1, h2⟩ := j4 c l [] p h
 rw [List.length_nil, Nat.zero_add] at h1
 exact ⟨h1, fun x hx => (h2 x hx).elim (fun z => by cases z) id⟩
structure LeafT (m : List Nat) : Prop where
 len : m.length <= 3000
 asc : ∀ c ∈ m, c < 128
theorem LeafT.sub {m l : List Nat} (h : LeafT l) (k : Sub m l) : LeafT m := ⟨Nat.le_trans k.len h.len, fun c hc => h.asc c (k.mem c hc)⟩
def jG (p : List Nat) : Option (Nat × Nat) := match zbp (jE 120 p), zbp (jF 120 p) with
 | some x, some y => some (x, y)
 | _, _ => none
def xQ : List (List Nat) -> Option (List (Nat × Nat))
 | [] => some []
 | p :: r => match jG p, xQ r with
  | some x, some y => some (x :: y)
  | _, _ => none
theorem j6 : ∀ {ms : List (List Nat)} {es : List (Nat × Nat)}, xQ ms = some es -> es.length = ms.length /\ ∀ (i : Nat) p, ms[i]? = some p -> ∃ x, jG p = some x /\ es[i]? = some x
 | [], es, h => by cases h; exact ⟨rfl, fun i p e => by simp at e⟩
 | m :: r, es, h => by
  unfold xQ at h
  cases h1 : jG m with
  | none => rw [h1] at h; cases h
  | some x =>
   cases h2 : xQ r with
   | none => rw [h1, h2] at h; cases h
   | some y =>
    rw [h1, h2] at h
    cases h
    obtain ⟨e1, e2⟩ := j6 h2
    refine ⟨by rw [List.length_cons, List.length_cons, e1], fun i p e => ?_⟩
    cases i with
    | zero => cases e; exact ⟨x, h1, rfl⟩
    | succ j => exact e2 j p (by simpa using e)
theorem ky : ∀ {ms : List (List Nat)}, xQ ms = none -> ∃ (i : Nat) (p : List Nat), ms[i]? = some p /\ jG p = none
 | [], h => by cases h
 | m :: r, h => by
  unfold xQ at h
  cases h1 : jG m with
  | none => exact ⟨0, m, rfl, h1⟩
  | some x =>
   cases h2 : xQ r with
   | none =>
    obtain ⟨i, p, e1, e2⟩ := ky h2
    exact ⟨i + 1, p, by simpa using e1, e2⟩
   | some y => rw [h1, h2] at h; cases h
def okE : Int -> List (Nat × Nat) -> Bool
 | _, [] => true
 | last, e :: r => if last < (e.1 : Int) /\ e.1 < 94 then (if e.2 = 0 then false else okE (e.1 : Int) r) else false
def qH (es : List (Nat × Nat)) : Bool := okE (-1) es && decide ((es.map fun e => e.2).sum <= 150)
def wn (m : List Nat) : Option (List (Nat × Nat)) := if m = [] then some [] else match xQ (yy 44 [] m) with
 | some es => if qH es = true then some es else none
 | none => none
def zc2 (m : List Nat) : Option Nat := if m.all (fun c => decide (c ∈ ltr)) = true then some (jn m) else none
def y9 (es : List (Nat × Nat)) : List Int := es.map fun e => (e.2 : Int)
def yL (es : List (Nat × Nat)) (n : Nat) : List Nat := if es = [] then [] else (zS (y9 es) ((es.map fun e => e.2).sum) (n : Int)).1.map fun k => sgs.getD (es.getD k.toNat (0, 0)).1 0
structure GE (es : List (Nat × Nat)) : Prop where
 len : es.length <= 94
 at_ : ∀ e ∈ es, e.1 < 94 /\ 1 <= e.2
 sum : (es.map fun e => e.2).sum <= 150
theorem zes : ∀ {es : List (Nat × Nat)} {last : Int}, -1 <= last -> okE last es = true -> last + 1 + (es.length : Int) <= 94 \/ es = [] /\ True
 | [], last, _, _ => .inr ⟨rfl, trivial⟩
 | e :: r, last, h0, h => by
  unfold okE at h
  split at h
  ·rename_i c
   split at h
   ·cases h
   ·left
    rw [List.length_cons]
    rcases zes (es := r) (last := (e.1 : Int)) (by omega) h with z | ⟨z, _⟩
    ·omega
    ·subst z
     rw [List.length_nil]
     omega
  ·cases h
theorem zc3 : ∀ {es : List (Nat × Nat)} {last : Int}, okE last es = true -> ∀ e ∈ es, e.1 < 94 /\ 1 <= e.2
 | [], _, _, e, he => by cases he
 | a :: r, last, h, e, he => by
  unfold okE at h
  split at h
  ·rename_i c
   split at h
   ·cases h
   ·rename_i c2
    rcases List.mem_cons.mp he with z | z
    ·subst z; exact ⟨c.2, by omega⟩
    ·exact zc3 h e z
  ·cases h
theorem zfa {es : List (Nat × Nat)} (h : qH es = true) : GE es := by
 unfold qH at h
 rw [Bool.and_eq_true, decide_eq_true_eq] at h
 refine ⟨?_, zc3 h.1, h.2⟩
 rcases zes (by omega) h.1 with z | ⟨z, _⟩
 ·omega
 ·subst z; exact Nat.zero_le _
theorem jH : ∀ (es : List (Nat × Nat)), (y9 es).sum = (((es.map fun e => e.2).sum : Nat) : Int)
 | [] => rfl
 | a :: r => by
  have := jH r
  unfold y9 at this |-
  rw [List.map_cons, List.map_cons, List.sum_cons, List.sum_cons, this]
  omega
theorem jI (es : List (Nat × Nat)) : (y9 es).length = es.length := List.length_map _
theorem jq : ∀ {es : List (Nat × Nat)} {e : Nat × Nat}, e ∈ es -> e.2 <= (es.map fun e => e.2).sum
 | a :: r, e, h => by
  rw [List.map_cons, List.sum_cons]
  rcases List.mem_cons.mp h with z | z
  ·subst z; omega
  ·have := jq z; omega
theorem zet {es : List (Nat × Nat)} (g : GE es) (h0 : es ≠ []) : GoodC (y9 es) := by
 refine ⟨?_, ?_, fun c hc => ?_, ?_⟩
 ·rw [jI]; exact List.length_pos_iff.mpr h0
 ·rw [jI]; have := g.len; omega
 ·unfold y9 at hc
  rw [List.mem_map] at hc
  obtain ⟨e, he, rfl⟩ := hc
  have := jq he
  have := g.sum
  omega
 ·rw [jH]
  obtain ⟨e, r, rfl⟩ := List.exists_cons_of_ne_nil h0
  have h1 := (g.at_ e List.mem_cons_self).2
  have h2 := jq (List.mem_cons_self (a := e) (l := r))
  omega
theorem zfb {i : Nat} (h : i < 94) : sgs.getD i 0 ∈ sgs := List.mem_of_getElem? (wg h)
theorem zeg {es : List (Nat × Nat)} (g : GE es) (n : Nat) : GT (yL es n) := by
 unfold yL
 by_cases h0 : es = []
 ·rw [if_pos h0]; exact ⟨Nat.zero_le _, fun c hc => by cases hc⟩
 rw [if_neg h0]
 refine ⟨by rw [List.length_map, xw]; exact g.sum, fun c hc => ?_⟩
 obtain ⟨k, hk, rfl⟩ := List.mem_map.mp hc
 obtain ⟨k0, k1, _⟩ := (xM (zet g h0) _ _ k hk).2
 rw [jI] at k1
 have hlt : k.toNat < es.length := by omega
 have hm : es.getD k.toNat (0, 0) ∈ es := by rw [List.getD_eq_getElem?_getD, List.getElem?_eq_getElem hlt]; exact List.getElem_mem hlt
 exact zfb (g.at_ _ hm).1
def wo (m : List Nat) : Option (List Nat) := match wn (jE 59 m), zc2 (jF 59 m) with
 | some es, some n => if je (yL es n) = m then some (yL es n) else none
 | _, _ => none
theorem zfc {m : List Nat} {es : List (Nat × Nat)} (h : wn m = some es) : GE es := by
 unfold wn at h
 split at h
 ·cases h; exact ⟨Nat.zero_le _, (fun e he => by cases he), by decide⟩
 ·split at h
  ·split at h
   ·rename_i c
    cases h
    exact zfa c
   ·cases h
  ·cases h
end Np
namespace L2
end L2
namespace Np
end Np
set_option maxHeartbeats 4000000
namespace L2
open PySem PySem.Spec PyProof.Rows Np
section
variable {X : Cx}
end
theorem zbq {J : It} {n : Nat} {cv : St} {te : TE} {D : Addr} {H1 : Hp} {Q : VK} (good : Nat -> Prop) (xs : Nat -> V) (pr : Nat -> V × V) (hz : n <= sizeLine) (hD : H1 D = none)
  (hgo : ∀ i H', i < n -> Same H1 H' -> J.go i H' /\ ∀ y H2, J.yld i H' y H2 -> y = xs i /\ H2 = H')
  (hst : ∀ H', Same H1 H' -> J.stop n H')
  (hs : ∀ i H' (R : VK), i < n -> Same H1 H' -> (good i -> ∀ p H2, H' p = none -> Same H' H2 -> H2 p = some (.tup [(pr i).1, (pr i).2]) -> R (.ref p) H2) -> te (some (xs i) :: cv) H' R)
  (hd : (∀ i, i < n -> good i) -> ∀ ts H', Same H1 H' -> PrsAt H' D ts ((List.range n).map pr) -> Q (.ref D) H') : tCompB J cv jP te D H1 Q := by
 refine ⟨fun i m H' => m = n - i /\ i <= n /\ (∀ j, j < i -> good j) /\ ∃ ts, Same H1 H' /\ PrsAt H' D ts ((List.range i).map pr), ⟨n, by simp, Nat.zero_le _, fun j hj => absurd hj (Nat.not_lt_zero _), [], zB hD, ⟨zh, rfl, fun j p e => by simp at e⟩⟩, ?_⟩
 rintro i m H' ⟨rfl, hi, gd, ts, sm, T⟩
 have la : ts.length = i := by rw [T.len]; simp
 by_cases hlt : i < n
 ·obtain ⟨g, y⟩ := hgo i H' hlt sm
  refine .inr ⟨g, fun x H2 hy => ?_⟩
  obtain ⟨rfl, rfl⟩ := y x H2 hy
  unfold jP
  dsimp only
  rw [if_pos rfl]
  refine hs i _ _ hlt sm fun gi p H3 hp s3 e3 => ?_
  refine ⟨_, s3 _ _ T.ls, by rw [List.length_map]; omega, n - (i + 1), by omega, rfl, hlt, fun j hj => by
   by_cases z : j = i
   ·subst z; exact gi
   ·exact gd j (by omega), ts ++ [p], fun b o e => ?_, ⟨by rw [zh, List.map_append]; rfl, by simp [la], fun j q e => ?_⟩⟩
  ·rw [zj (zu e hD)]
   exact s3 _ _ (sm b o e)
  ·have npD : p ≠ D := fun z => by rw [z, T.ls] at hp; cases hp
   have hj : j < i + 1 := by
    have := (List.getElem?_eq_some_iff.mp e).1
    simpa using this
   rw [List.getElem?_map, List.getElem?_range hj] at e
   cases e
   by_cases hji : j < i
   ·have a1 : (ts ++ [p]).getD j 0 = ts.getD j 0 := by rw [List.getD_eq_getElem?_getD, List.getElem?_append_left (by omega), List.getD_eq_getElem?_getD]
    have q := T.at_ j (pr j) (by rw [List.getElem?_map, List.getElem?_range hji]; rfl)
    have nD : ts.getD j 0 ≠ D := fun z => by rw [z, T.ls] at q; cases q
    rw [a1, zj nD]
    exact s3 _ _ q
   ·have ej : j = i := by omega
    subst ej
    have a1 : (ts ++ [p]).getD j 0 = p := by rw [List.getD_eq_getElem?_getD, List.getElem?_append_right (by omega), la]; simp
    rw [a1, zj npD]
    exact e3
 ·have e : i = n := by omega
  subst e
  exact .inl ⟨hst _ sm, hd gd ts H' sm T⟩
end L2
namespace L2
open PySem PySem.Spec PyProof.Rows Np
end L2
namespace Np
open PySem
end Np
namespace L2
open PySem PySem.Spec PyProof.Rows
abbrev BSp := List V -> Hp -> XK -> Prop
abbrev orS (sp : Sp) (bd : BSp) : Sp := fun vs H Q E => sp vs H Q E0 \/ bd vs H E
abbrev wq (H : Hp) (E : XK) : XK := fun c o H' => ∃ H2, Less H H2 H' /\ E c o H2
section
variable {P : Program} {w : World} {K : Fq} {mg : Mq} {base : Heap} {k j : Nat} {f C : Addr} {fd : FuncData} {ps N : List Str} {sp sp1 sp2 : Sp} {bd bd1 bd2 : BSp} {x m qual : Str} {st : Stmt} {dv : Value} {dvs : List V}
theorem FnOk.dropX {sp sp' : Sp} (F : FnOk P w K mg base (CXE P w) k f fd ps sp)
  (h : ∀ vs H Q E, sp' vs H Q E -> sp vs H (fun v H' => ∃ H2, Less H H2 H' /\ Q v H2) (wq H E)) : FnOk P w K mg base (CXE P w) k f fd ps sp' := by
 refine ⟨fun vs H Q E z => F.len vs H _ _ (h vs H Q E z), fun A outer s H args us vs Q E hr e0 hb r z => ?_⟩
 refine codeAny_mono (F.run A outer s H args us vs _ _ hr e0 hb r (h vs H Q E z)) fun q s' hq => ?_
 cases q with
 | error e =>
  obtain ⟨e, C, T, H', a1, a2, a3, a4, a5, a6, ⟨n1, n2⟩, a8, H2, L, q2⟩ := hq
  have no : ∀ b, H' b = none -> H2 b = none := fun b hb => by
   cases z : H2 b with
   | none => rfl
   | some v => rw [L.sub b v z] at hb; cases hb
  exact ⟨e, C, T, H2, a1, a2, a3, Un.less L a4, HOk.less L e0.hok a5, a6, ⟨no _ n1, no _ n2⟩, a8, q2⟩
 | ok fl =>
  cases fl with
  | ret u =>
   obtain ⟨v, H', o1, o2, o3, o4, o5, H2, L, q2⟩ := hq
   exact ⟨v, H2, o1, o2, Un.less L o3, HOk.less L e0.hok o4, o5, q2⟩
  | _ => exact hq
theorem FnOk.or (F1 : FnOk P w K mg base CX0 k f fd ps sp) (F2 : FnOk P w K mg base (CXE P w) k f fd ps (fun vs H _ E => bd vs H E)) : FnOk P w K mg base (CXE P w) k f fd ps (orS sp bd) := by
 refine ⟨fun vs H Q E z => z.elim (fun z => F1.len vs H Q E0 z) (fun z => F2.len vs H Q E z), fun A outer s H args us vs Q E hr e0 hb r z => ?_⟩
 rcases z with z | z
 ·refine codeAny_mono (F1.run A outer s H args us vs Q E0 hr e0 hb r z) fun q s' hq => ?_
  cases q with
  | error e => exact hq.elim
  | ok fl => cases fl <;> exact hq
 ·exact F2.run A outer s H args us vs Q E hr e0 hb r z
theorem fnR {x qual : Str} {dv kV doc pm cdv ct oc : Value} {an od : Option Addr} {osl : Array (Option Value)} (lk : K.lookup f = some ⟨oc, od, .func (PySem.W.fnOf x qual (zo st) (zk st) (zd st) dv kV doc pm an cdv ct), osl⟩) (hcd : PySem.W.codeIn K cdv qual = true)
  (S : zm N ps (zd st)) (len : ∀ vs H E, bd vs H E -> vs.length = ps.length)
  (hbody : ∀ (A : Around) (outer : List Env) (s : Shared) (H : Hp) (vs : List V) (E : XK), Room k (A.deeper (envOfC qual (zd st) s.heap.objs.size f cdv)) -> bd vs H E →
   ∃ t, PSs (yh (CXE P w) P w K mg base N qual (zd st) f cdv A outer s H (wq H E)) (zk st) t /\ t { nx := fun _ _ => False, rt := fun _ _ => False } (yt N vs) H) :
  FnOk P w K mg base (CXE P w) (k + 1) f (PySem.W.fnOf x qual (zo st) (zk st) (zd st) dv kV doc pm an cdv ct) ps (fun vs H _ E => bd vs H E) := by
 refine FnOk.dropX (sp := fun vs H Q E => ∃ E1, bd vs H E1 /\ E = wq H E1 /\ ∀ v H', False -> Q v H') (qW lk hcd S (fun vs H Q E ⟨E1, z, _⟩ => len vs H E1 z) fun A outer s H vs Q E hr ⟨E1, z, e, hq⟩ => ?_) fun vs H Q E z => ⟨E, z, rfl, fun _ _ z => z.elim⟩
 subst e
 obtain ⟨t, h, q⟩ := hbody A outer s H vs E1 hr z
 refine ⟨fun D σ H => t { nx := fun _ _ => False, rt := fun _ _ => False } σ H, fun pins s1 σ H1 D I h1 => ?_, q⟩
 refine wpAny_mono (h pins s1 σ H1 _ I h1) (fun fl s2 z => ?_) fun _ _ z => z
 cases fl with
 | next => obtain ⟨_, _, _, z⟩ := z; exact z.elim
 | ret u => obtain ⟨_, _, _, _, _, z⟩ := z; exact z.elim
 | brk => obtain ⟨_, _, _, z⟩ := z; exact z.elim
 | cont => obtain ⟨_, _, _, z⟩ := z; exact z.elim
theorem fnR0 {x qual : Str} {dv kV doc pm cdv ct oc : Value} {an od : Option Addr} {osl : Array (Option Value)} (lk : K.lookup f = some ⟨oc, od, .func (PySem.W.fnOf x qual (zo st) (zk st) (zd st) dv kV doc pm an cdv ct), osl⟩) (hcd : PySem.W.codeIn K cdv qual = true)
  (S : zm N ps (zd st)) (len : ∀ vs H E, bd vs H E -> vs.length = ps.length)
  (hbody : ∀ (A : Around) (outer : List Env) (s : Shared) (H : Hp) (vs : List V) (E : XK), Room k (A.deeper (envOfC qual (zd st) s.heap.objs.size f cdv)) -> bd vs H E →
   ∃ t, PSs (yh (CXE P w) P w K mg base N qual (zd st) f cdv A outer s H E) (zk st) t /\ t { nx := fun _ _ => False, rt := fun _ _ => False } (yt N vs) H) :
  FnOk P w K mg base (CXE P w) (k + 1) f (PySem.W.fnOf x qual (zo st) (zk st) (zd st) dv kV doc pm an cdv ct) ps (fun vs H _ E => bd vs H E) := by
 refine qW lk hcd S (fun vs H Q E z => len vs H E z) fun A outer s H vs Q E hr z => ?_
 obtain ⟨t, h, q⟩ := hbody A outer s H vs E hr z
 refine ⟨fun D σ H => t { nx := fun _ _ => False, rt := fun _ _ => False } σ H, fun pins s1 σ H1 D I h1 => ?_, q⟩
 refine wpAny_mono (h pins s1 σ H1 _ I h1) (fun fl s2 z => ?_) fun _ _ z => z
 cases fl with
 | next => obtain ⟨_, _, _, z⟩ := z; exact z.elim
 | ret u => obtain ⟨_, _, _, _, _, z⟩ := z; exact z.elim
 | brk => obtain ⟨_, _, _, z⟩ := z; exact z.elim
 | cont => obtain ⟨_, _, _, z⟩ := z; exact z.elim
abbrev zeu (P : Program) (w : World) (K : Fq) (mg : Mq) (base : Heap) (k : Nat) (N : List Str) (qual : Str) (st : Stmt) (bd : BSp) : Prop :=
 ∀ (f : Addr) (cdv : Value) (A : Around) (outer : List Env) (s : Shared) (H : Hp) (vs : List V) (E : XK), Room k (A.deeper (envOfC qual (zd st) s.heap.objs.size f cdv)) -> bd vs H E →
   ∃ t, PSs (yh (CXE P w) P w K mg base N qual (zd st) f cdv A outer s H E) (zk st) t /\ t { nx := fun _ _ => False, rt := fun _ _ => False } (yt N vs) H
theorem FunD.okR0 (F : FunD K x qual st dv f fd) (S : zm N ps (zd st)) (len : ∀ vs H E, bd vs H E -> vs.length = ps.length) (hb : zeu P w K mg base k N qual st bd) : FnOk P w K mg base (CXE P w) (k + 1) f fd ps (fun vs H _ E => bd vs H E) := by
 obtain ⟨oc, od, kV, doc, pm, an, cdv, ct, osl, rfl, lk, hcd⟩ := F.ex
 exact fnR0 lk hcd S len (hb f cdv)
abbrev zag (P : Program) (w : World) (K : Fq) (mg : Mq) (base : Heap) (k : Nat) (N : List Str) (qual : Str) (st : Stmt) (bd : BSp) : Prop :=
 ∀ (f : Addr) (cdv : Value) (A : Around) (outer : List Env) (s : Shared) (H : Hp) (vs : List V) (E : XK), Room k (A.deeper (envOfC qual (zd st) s.heap.objs.size f cdv)) -> bd vs H E →
   ∃ t, PSs (yh (CXE P w) P w K mg base N qual (zd st) f cdv A outer s H (wq H E)) (zk st) t /\ t { nx := fun _ _ => False, rt := fun _ _ => False } (yt N vs) H
theorem Fun.okR (F : Fun K x qual st f fd) (S : zm N ps (zd st)) (len : ∀ vs H E, bd vs H E -> vs.length = ps.length) (hb : zag P w K mg base k N qual st bd) : FnOk P w K mg base (CXE P w) (k + 1) f fd ps (fun vs H _ E => bd vs H E) := by
 obtain ⟨oc, od, kV, doc, pm, an, cdv, ct, osl, rfl, lk, hcd⟩ := F.ex
 exact fnR lk hcd S len (hb f cdv)
theorem FunD.okR (F : FunD K x qual st dv f fd) (S : zm N ps (zd st)) (len : ∀ vs H E, bd vs H E -> vs.length = ps.length) (hb : zag P w K mg base k N qual st bd) : FnOk P w K mg base (CXE P w) (k + 1) f fd ps (fun vs H _ E => bd vs H E) := by
 obtain ⟨oc, od, kV, doc, pm, an, cdv, ct, osl, rfl, lk, hcd⟩ := F.ex
 exact fnR lk hcd S len (hb f cdv)
theorem Def.okR (D : Def K mg x st ps) (S : zm N ps (zd st)) (len : ∀ vs H E, bd vs H E -> vs.length = ps.length) (hb : zag P w K mg base k N x st bd) : CalX P w K mg base (k + 1) x ps (fun vs H _ E => bd vs H E) := by
 obtain ⟨f, fd, F, b, m⟩ := D.ex
 exact ⟨f, fd, m, F.kp, b, F.okR S len hb⟩
theorem Def.okB (D : Def K mg x st ps) (S : zm N ps (zd st)) (len : ∀ vs H Q E, sp vs H Q E -> vs.length = ps.length) (len2 : ∀ vs H E, bd vs H E -> vs.length = ps.length)
  (hbody : ∀ (f : Addr) (cdv : Value) (A : Around) (outer : List Env) (s : Shared) (H : Hp) (vs : List V) (Q : VK) (E : XK), Room k (A.deeper (envOfC x (zd st) s.heap.objs.size f cdv)) -> sp vs H Q E →
   ∃ t, PSs (yh CX0 P w K mg base N x (zd st) f cdv A outer s H E).nox (zk st) t /\ t { nx := fun _ H' => ∃ H2, Less H H2 H' /\ Q .non H2, rt := fun v H' => ∃ H2, Less H H2 H' /\ Q v H2 } (yt N vs) H)
  (hb : zag P w K mg base k N x st bd) : CalX P w K mg base (k + 1) x ps (orS sp bd) := by
 obtain ⟨f, fd, F, b, m⟩ := D.ex
 exact ⟨f, fd, m, F.kp, b, (F.okD S len (hbody f)).or (F.okR S len2 hb)⟩
theorem DefM.okB (D : DefM K C m qual st ps) (S : zm N ps (zd st)) (len : ∀ vs H Q E, sp vs H Q E -> vs.length = ps.length) (len2 : ∀ vs H E, bd vs H E -> vs.length = ps.length)
  (hbody : ∀ (f : Addr) (cdv : Value) (A : Around) (outer : List Env) (s : Shared) (H : Hp) (vs : List V) (Q : VK) (E : XK), Room k (A.deeper (envOfC qual (zd st) s.heap.objs.size f cdv)) -> sp vs H Q E →
   ∃ t, PSs (yh CX0 P w K mg base N qual (zd st) f cdv A outer s H E).nox (zk st) t /\ t { nx := fun _ H' => ∃ H2, Less H H2 H' /\ Q .non H2, rt := fun v H' => ∃ H2, Less H H2 H' /\ Q v H2 } (yt N vs) H)
  (hb : zag P w K mg base k N qual st bd) : CalMX P w K mg base (k + 1) C m ps (orS sp bd) := by
 obtain ⟨f, fd, F, b, m⟩ := D.ex
 exact ⟨f, fd, m, b, (F.okD S len (hbody f)).or (F.okR S len2 hb)⟩
theorem DefM.okR (D : DefM K C m qual st ps) (S : zm N ps (zd st)) (len : ∀ vs H E, bd vs H E -> vs.length = ps.length) (hb : zag P w K mg base k N qual st bd) : CalMX P w K mg base (k + 1) C m ps (fun vs H _ E => bd vs H E) := by
 obtain ⟨f, fd, F, b, m⟩ := D.ex
 exact ⟨f, fd, m, b, F.okR S len hb⟩
theorem zfd {X : Cx} : y6 (CXE X.prog X.w) X E0 := fun _ _ _ _ _ _ _ h => by
 obtain ⟨_, _, _, _, _, _, _, _, _, _, _, _, z⟩ := h
 exact z.elim
theorem CalX.good (F : CalX P w K mg base k x ps (orS sp bd)) : Cal P w K mg base k x ps (fun vs H Q _ => sp vs H Q E0) := F.cal.imp fun _ _ _ _ h => .inl h
theorem CalM.imp {sp sp' : Sp} (F : CalM P w K mg base k C m ps sp) (h : ∀ vs H Q E, sp' vs H Q E -> sp vs H Q E) : CalM P w K mg base k C m ps sp' := let ⟨f, fd, a, b, c⟩ := F.ex; ⟨f, fd, a, b, c.imp h⟩
theorem CalMX.good (F : CalMX P w K mg base k C m ps (orS sp bd)) : CalM P w K mg base k C m ps (fun vs H Q _ => sp vs H Q E0) := F.cal.imp fun _ _ _ _ h => .inl h
structure CalAX (P : Program) (w : World) (K : Fq) (mg : Mq) (base : Heap) (k : Nat) (x : Str) (sp : Sp) : Prop where
 ex : ∃ f, mg x = some (.ref f) /\ PySem.W.keepIn K (.ref f) = true /\ ∀ (X : Cx), X.prog = P -> X.w = w -> X.K = K -> X.mg = mg -> X.base = base -> Room k X.A -> ∀ (pins : Pq) (σ : St) (H : Hp) (s : Shared) (Q : VK) (E : XK) (vs : List V) (us : List Value),
  y6 (CXE X.prog X.w) X E -> Inv X pins σ H s -> Vals vs us -> sp vs H Q E -> wpAny (model X.prog X.w) X.A (call (.ref f) us) (EP X pins σ Q) X.xe s
theorem CalAX.mono (C : CalAX P w K mg base j x sp) (h : j <= k) : CalAX P w K mg base k x sp :=
 let ⟨f, a, b, c⟩ := C.ex
 ⟨f, a, b, fun X h1 h2 h3 h4 h5 hr => c X h1 h2 h3 h4 h5 (hr.mono h)⟩
theorem CalAX.good (C : CalAX P w K mg base k x (orS sp bd)) : CalA P w K mg base k x (fun vs H Q _ => sp vs H Q E0) :=
 let ⟨f, a, b, c⟩ := C.ex
 ⟨f, a, b, fun X h1 h2 h3 h4 h5 hr pins σ H s Q vs us I r h => c X h1 h2 h3 h4 h5 hr pins σ H s Q E0 vs us zfd I r (.inl h)⟩
theorem DefI.okB (D : DefI K C qual st ps dvs) (hm : mg x = some (.ref C)) (S : zm N ps (zd st)) (len : ∀ vs H Q E, sp vs H Q E -> vs.length = ps.length) (len2 : ∀ vs H E, bd vs H E -> vs.length = ps.length)
  (hbody : ∀ (f : Addr) (cdv : Value) (A : Around) (outer : List Env) (s : Shared) (H : Hp) (vs : List V) (Q : VK) (E : XK), Room k (A.deeper (envOfC qual (zd st) s.heap.objs.size f cdv)) -> sp vs H Q E →
   ∃ t, PSs (yh CX0 P w K mg base N qual (zd st) f cdv A outer s H E).nox (zk st) t /\ t { nx := fun _ H' => Q .non H', rt := Q } (yt N vs) H)
  (h1 : ∀ vs H Q, sp1 vs H Q E0 -> ∀ x dx, H x = none -> H dx = none -> dx ≠ x -> sp (.ref x :: vs) (upd (upd H dx (.own x)) x (.ins C dx [])) (fun v H2 => v = .non /\ Q (.ref x) H2) E0)
  (h2 : ∀ vs H Q, sp2 vs H Q E0 -> ∀ x dx, H x = none -> H dx = none -> dx ≠ x -> sp (.ref x :: (vs ++ dvs)) (upd (upd H dx (.own x)) x (.ins C dx [])) (fun v H2 => v = .non /\ Q (.ref x) H2) E0)
  (hb : zeu P w K mg base k N qual st bd)
  (g1 : ∀ vs H E, bd1 vs H E -> ∀ x dx, H x = none -> H dx = none -> dx ≠ x -> bd (.ref x :: vs) (upd (upd H dx (.own x)) x (.ins C dx [])) E)
  (g2 : ∀ vs H E, bd2 vs H E -> ∀ x dx, H x = none -> H dx = none -> dx ≠ x -> bd (.ref x :: (vs ++ dvs)) (upd (upd H dx (.own x)) x (.ins C dx [])) E) :
  CalAX P w K mg base (k + 2) x (orS sp1 bd1) /\ CalAX P w K mg base (k + 2) x (orS sp2 bd2) := by
 obtain ⟨dv, f, fd, ds, F, b, b2, hd, M⟩ := D.ex
 have G : FnOk P w K mg base (CXE P w) (k + 1) f fd ps (orS sp bd) := (F.ok S len (hbody f)).or (F.okR0 S len2 hb)
 refine ⟨⟨C, hm, M.kp, fun X e1 e2 e3 e4 e5 hr pins σ H s Q E vs us hp I r h => ?_⟩, ⟨C, hm, M.kp, fun X e1 e2 e3 e4 e5 hr pins σ H s Q E vs us hp I r h => ?_⟩⟩
 ·subst e1 e2 e3 e4 e5
  refine vt M G hr b .nil hp I r (fun x dx n1 n2 n3 => ?_)
  rw [List.append_nil]
  exact h.imp (fun h => h1 vs H Q h x dx n1 n2 n3) (fun h => g1 vs H E h x dx n1 n2 n3)
 ·subst e1 e2 e3 e4 e5
  exact vt M G hr b2 hd hp I r (fun x dx n1 n2 n3 => h.imp (fun h => h2 vs H Q h x dx n1 n2 n3) (fun h => g2 vs H E h x dx n1 n2 n3))
structure CalCX (P : Program) (w : World) (K : Fq) (mg : Mq) (base : Heap) (k : Nat) (x : Str) (m : Str) (ps : List Str) (sp : Sp) : Prop where
 ex : ∃ C f fd, Binds K fd ps [] /\ mg x = some (.ref C) /\ PySem.W.readsIn K C (.type "type") = true /\ PySem.W.findCls K (.ref C) (.type "type") m = some (.val (.ref f)) ∧
  PySem.W.specialIn K (.ref C) "__getattribute__" = some (some (.builtin "type.__getattribute__")) /\ PySem.W.keepIn K (.ref f) = true /\ FnOk P w K mg base (CXE P w) k f fd ps sp
theorem CalCX.mono (F : CalCX P w K mg base j x m ps sp) (h : j <= k) : CalCX P w K mg base k x m ps sp :=
 let ⟨C, f, fd, a, b, c, d, e, g, i⟩ := F.ex
 ⟨C, f, fd, a, b, c, d, e, g, i.mono h⟩
theorem CalCX.good (F : CalCX P w K mg base k x m ps (orS sp bd)) : CalC P w K mg base k x m ps (fun vs H Q _ => sp vs H Q E0) :=
 let ⟨C, f, fd, a, b, c, d, e, g, i⟩ := F.ex
 ⟨C, f, fd, a, b, c, d, e, g, i.cal.imp fun _ _ _ _ h => .inl h⟩
theorem DefC.okBH (D : DefC K mg x C m qual st ps) (S : zm N ps (zd st)) (len : ∀ vs H Q E, sp vs H Q E -> vs.length = ps.length) (len2 : ∀ vs H E, bd vs H E -> vs.length = ps.length)
  (hbody : ∀ (f : Addr) (cdv : Value) (A : Around) (outer : List Env) (s : Shared) (H : Hp) (vs : List V) (Q : VK) (E : XK), Room k (A.deeper (envOfC qual (zd st) s.heap.objs.size f cdv)) -> sp vs H Q E →
   ∃ t, PSs (yh CX0 P w K mg base N qual (zd st) f cdv A outer s H E).nox (zk st) t /\ t { nx := fun _ H' => Q .non H', rt := Q } (yt N vs) H)
  (hb : zag P w K mg base k N qual st bd) : CalCX P w K mg base (k + 1) x m ps (orS sp bd) := by
 obtain ⟨f, fd, F, b, c1, c2, c3, c4, c5⟩ := D.ex
 exact ⟨C, f, fd, b, c1, c2, c3, c4, c5, (F.ok S len (hbody f)).or (F.okR S len2 hb)⟩
end
section
variable {P : Program} {w : World} {K : Fq} {mg : Mq} {base : Heap} {N : List Str} {qual : Str} {scope : Scope} {f : Addr} {cd : Value} {A : Around} {outer : List Env} {s : Shared} {H : Hp} {E : XK}
theorem zr : y6 (CXE P w) (yh (CXE P w) P w K mg base N qual scope f cd A outer s H E) E := fun pins σ H s e s' I h => (I.xp rfl h).leave
end
section
variable {X : Cx} {k : Nat} {x m : Str} {ps : List Str} {sp : Sp} {E : XK} {p pos apos : Pos} {e o : Expr} {es : List Expr} {t : TA} {ta : TE}
theorem zp (C : CalX X.prog X.w X.K X.mg X.base k x ps sp) (hp : y6 (CXE X.prog X.w) X E) (hr : Room k X.A) (hg : Gl X x) (ha : PA X (e :: es) t) (hdb : (x == ("__debug__" : Str)) = false := by decide) (he : starEach (e :: es) X.env = (false, eval e X.env) :: starEach es X.env := by rfl) (hpl : (backTo pos (starEach es X.env)).any (·.1) = false := by rfl) :
  PE X (.Call (.Name x p) (e :: es) [] pos) (vq sp [] E t) :=
 let ⟨_, _, a, b, c, d⟩ := C.ex
 zau d hr hg a b c .nil hp ha hdb he hpl
theorem zY (C : CalAX X.prog X.w X.K X.mg X.base k x sp) (hp : y6 (CXE X.prog X.w) X E) (hr : Room k X.A) (hg : Gl X x) (ha : PA X (e :: es) t) (hdb : (x == ("__debug__" : Str)) = false := by decide) (he : starEach (e :: es) X.env = (false, eval e X.env) :: starEach es X.env := by rfl) (hpl : (backTo pos (starEach es X.env)).any (·.1) = false := by rfl) :
  PE X (.Call (.Name x p) (e :: es) [] pos) (fun σ H Q => t σ H fun vs H1 => sp vs H1 Q E) := by
 obtain ⟨f, hm, hk, run⟩ := C.ex
 intro pins s σ H Q I h
 refine wpAny_Call_Name_kw (yT I hg hm ?_ hdb)
 refine PySem.W.callWith_K (h₀ := X.base) I.ok.mod.kin hk (thn (ha pos pins s σ H _ I h) fun us s1 ⟨vs, H1, I1, r, q⟩ => ⟨I1.kIn, ?_⟩) he hpl
 exact run X rfl rfl rfl rfl rfl hr pins σ H1 s1 Q E vs us hp I1 r q
theorem yc {pl : Sem Bool} {Cs : Addr -> Prop} {spm : Addr -> Sp} (he : PE X o ta) (hC : ∀ C, Cs C -> Cls X.K C /\ CalMX X.prog X.w X.K X.mg X.base k C m ps (spm C)) (hp : y6 (CXE X.prog X.w) X E) (hr : Room k X.A) (ha : PA X (e :: es) t)
  (hst : starEach (e :: es) X.env = (false, eval e X.env) :: starEach es X.env := by rfl) (hpl : (backTo pos (starEach es X.env)).any (·.1) = false := by rfl)
  (ht : eval (.Call (.Attribute o m apos) (e :: es) [] pos) X.env = (do
   let ov <- eval o X.env
   standAt apos.atName
   let (f, first) <- holding [ov] (getMethod ov m pl)
   callWith pos f first (backTo pos (starEach (e :: es) X.env)) (backToKw pos (keywordEach [] X.env))) := by rfl) :
  PE X (.Call (.Attribute o m apos) (e :: es) [] pos) (fun σ H Q => ta σ H fun x H1 => ∃ a C dx fs, x = .ref a /\ H1 a = some (.ins C dx fs) /\ Cs C /\ fs.lookup m = none /\ t σ H1 fun vs H2 => spm C (x :: vs) H2 Q E) := by
 intro pins s σ H Q I h
 refine PySem.W.methodCall_KW (pl := pl) (thn (he pins s σ H _ I h) fun u s1 ⟨x, H1, I1, rx, a, C, dx, fs, ex, ea, hc, l, q⟩ => ?_) ht
 subst ex
 obtain rfl : u = Value.ref a := rx
 obtain ⟨c, f, fd, hm, hb, F⟩ := hC C hc
 refine xL I1 ea c hm l ?_
 refine PySem.W.callWith_K (first := [.ref a]) (h₀ := X.base) I.ok.mod.kin hm.kp (thn (ha pos pins s1 σ H1 _ I1 q) fun us s2 ⟨vs, H2, I2, r, q2⟩ => ⟨I2.kIn, ?_⟩) hst hpl
 exact jh (us := .ref a :: us) (vs := .ref a :: vs) (dvs := []) (ds := []) F hr hb .nil hp I2 (.cons rfl r) (by rw [List.append_nil]; exact q2)
theorem zah {pl : Sem Bool} {Cs : Addr -> Prop} {spm : Addr -> Sp} (he : PE X o ta) (hC : ∀ C, Cs C -> Cls X.K C /\ CalMX X.prog X.w X.K X.mg X.base k C m ps (spm C)) (hp : y6 (CXE X.prog X.w) X E) (hr : Room k X.A)
  (ht : eval (.Call (.Attribute o m apos) [] [] pos) X.env = (do
   let ov <- eval o X.env
   standAt apos.atName
   let (f, first) <- holding [ov] (getMethod ov m pl)
   callWith pos f first (backTo pos (starEach [] X.env)) (backToKw pos (keywordEach [] X.env))) := by rfl) :
  PE X (.Call (.Attribute o m apos) [] [] pos) (fun σ H Q => ta σ H fun x H1 => ∃ a C dx fs, x = .ref a /\ H1 a = some (.ins C dx fs) /\ Cs C /\ fs.lookup m = none /\ spm C [x] H1 Q E) := by
 intro pins s σ H Q I h
 refine PySem.W.methodCall_KW (pl := pl) (thn (he pins s σ H _ I h) fun u s1 ⟨x, H1, I1, rx, a, C, dx, fs, ex, ea, hc, l, q⟩ => ?_) ht
 subst ex
 obtain rfl : u = Value.ref a := rx
 obtain ⟨c, f, fd, hm, hb, F⟩ := hC C hc
 refine xL I1 ea c hm l ?_
 exact PySem.W.callWith_K0 (first := [.ref a]) I1.kIn hm.kp (jh (us := [.ref a]) (vs := [.ref a]) (dvs := []) (ds := []) F hr hb .nil hp I1 (.cons rfl .nil) q)
theorem wt {pl : Sem Bool} (C : CalCX X.prog X.w X.K X.mg X.base k x m ps sp) (hp : y6 (CXE X.prog X.w) X E) (hr : Room k X.A) (hg : Gl X x) (ha : PA X (e :: es) t) (hdb : (x == ("__debug__" : Str)) = false := by decide)
  (hst : starEach (e :: es) X.env = (false, eval e X.env) :: starEach es X.env := by rfl) (hpl : (backTo pos (starEach es X.env)).any (·.1) = false := by rfl)
  (ht : eval (.Call (.Attribute (.Name x p) m apos) (e :: es) [] pos) X.env = (do
   let ov <- eval (.Name x p) X.env
   standAt apos.atName
   let (f, first) <- holding [ov] (getMethod ov m pl)
   callWith pos f first (backTo pos (starEach (e :: es) X.env)) (backToKw pos (keywordEach [] X.env))) := by rfl) :
  PE X (.Call (.Attribute (.Name x p) m apos) (e :: es) [] pos) (vq sp [] E t) := by
 obtain ⟨D, f, fd, hb, hm, h1, h2, h3, hk, F⟩ := C.ex
 intro pins s σ H Q I h
 refine PySem.W.methodCall_KW (pl := pl) (yT I hg hm ?_ hdb) ht
 refine PySem.W.method_cls I.kIn h3 (PySem.W.cls_value I.kIn h1 h2 rfl ?_)
 have I' := I.tok (s.toks + 1)
 refine PySem.W.callWith_K (first := []) (h₀ := X.base) I.ok.mod.kin hk (thn (ha pos pins { s with toks := s.toks + 1 } σ H _ I' h) fun us s2 ⟨vs, H2, I2, r, q2⟩ => ⟨I2.kIn, ?_⟩) hst hpl
 exact jh (us := us) (vs := vs) F hr hb .nil hp I2 r q2
end
end L2
namespace L2
open PySem PySem.Spec PyProof.Rows Np
def zai (ns : List Int) (k : Int) : Prop := ¬ (0 <= k /\ k < (ns.length : Int)) \/ (0 <= k /\ k < (ns.length : Int) /\ ns.getD k.toNat 0 = 0)
def zc4 (rows : List (List Int)) (n l : Int) : Prop := n = (rows.length : Int) /\ ∀ i, i < rows.length -> qf (rows.getD i []) /\ ((rows.getD i []).length : Int) = l
theorem zaj {ns : List Int} {i : Nat} {y : V} (h : (ns.map V.int)[i]? = some y) : ∃ n, ns[i]? = some n /\ y = .int n := by
 rw [List.getElem?_map] at h
 cases e : ns[i]? with
 | none => rw [e] at h; cases h
 | some n => rw [e] at h; cases h; exact ⟨n, rfl, rfl⟩
theorem zbr {ns : List Int} {i : Nat} {n : Int} {P : Int -> Prop} (h : ns[i]? = some n) (a : ∀ c ∈ ns.take i, P c) (b : P n) : ∀ c ∈ ns.take (i + 1), P c := by
 intro c hc
 rw [List.take_add_one, h] at hc
 rcases List.mem_append.mp hc with z | z
 ·exact a c z
 ·have : c = n := by simpa using z
  rw [this]; exact b
def PBad (ns rs : List Int) : Prop := (∃ j, j < rs.length /\ (∀ i, i < j -> 0 <= rs.getD i 0 /\ rs.getD i 0 < (ns.length : Int)) /\ ¬ (0 <= rs.getD j 0 /\ rs.getD j 0 < (ns.length : Int))) \/ (0 < rs.length /\ (∀ i, i < rs.length -> 0 <= rs.getD i 0 /\ rs.getD i 0 < (ns.length : Int)) /\ ns.getD (rs.getD (rs.length - 1) 0).toNat 0 = 0)
end L2
namespace L2
open PySem PySem.Spec PyProof.Rows Np
section
variable {X : Cx}
def rEqLF (K : Fq) : R2 := fun x y H Q => ∃ (a b : Addr) (xs : List V), x = .ref a /\ y = .ref b /\ SqL K H a xs /\ SqL K H b xs /\ xs.all xP = true /\ (∀ x ∈ xs, eqV x x = true) /\ Q (.bl true) H
theorem zeh (hu : X.A.units < cLine) : OpR X (compareOp .Eq) (rEqLF X.K) := by
 rintro pins s σ H x y v u Q I rx ry ⟨a, b, xs, rfl, rfl, ha, hb, fl, re, q⟩
 cases (show v = .ref a from rx)
 cases (show u = .ref b from ry)
 obtain ⟨is1, v1, p1, _⟩ := I.list ha
 obtain ⟨is2, v2, p2, _⟩ := I.list hb
 have l1 : is1.length = xs.length := by have := v1.length; omega
 have l2 : is2.length = xs.length := by have := v2.length; omega
 have s1 : is1.toArray.size = xs.length := by simpa using l1
 have s2 : is2.toArray.size = xs.length := by simpa using l2
 refine SeqAt.eq_listAt p1.isList p2.isList (e := fun _ => true) (by rw [s1, s2]) hu (fun j h1 h2 => ?_) ?_
 ·have g1 : j < xs.length := by omega
  obtain ⟨w1, e1, r1⟩ := Vals.get v1 (List.getElem?_eq_getElem g1)
  obtain ⟨w2, e2, r2⟩ := Vals.get v2 (List.getElem?_eq_getElem g1)
  have x1 : is1.toArray[j] = w1 := by
   have : is1.toArray[j]? = some w1 := by simpa using e1
   rw [Array.getElem?_eq_getElem h1] at this
   exact Option.some.inj this
  have x2 : is2.toArray[j] = w2 := by
   have : is2.toArray[j]? = some w2 := by simpa using e2
   rw [Array.getElem?_eq_getElem h2] at this
   exact Option.some.inj this
  have hm : xs[j] ∈ xs := List.getElem_mem g1
  have hf := List.all_eq_true.mp fl _ hm
  have := zb5 (A := X.A.in1) (s := s) r1 r2 hf hf
  rw [re _ hm] at this
  rw [x1, x2]
  exact this
 ·rw [s1]
  have e : ((List.range xs.length).all fun _ => true) = true := by simp
  rw [e]
  exact ⟨.bl true, H, I, rfl, q⟩
theorem zei (c : Nat) : ∀ n : Nat, (List.replicate n (tx [c]).cps).foldl (· ++ ·) #[] = (List.replicate n c).toArray := by
 have : ∀ (n : Nat) (a : Array Nat), (List.replicate n #[c]).foldl (· ++ ·) a = a ++ (List.replicate n c).toArray := by
  intro n
  induction n with
  | zero => intro a; simp
  | succ n ih =>
   intro a
   rw [List.replicate_succ, List.foldl_cons, ih, List.replicate_succ, Array.append_assoc]
   exact congrArg (a ++ ·) (Array.ext' (by simp))
 intro n
 show (List.replicate n #[c]).foldl (· ++ ·) #[] = _
 rw [this]
 simp
theorem zaN : OpR X (binaryOp .Mult) (fun x y H Q => ∃ (c : Nat) (n : Int), x = .str (tx [c]) /\ y = .int n /\ 2 <= n /\ n <= 5000 /\ Q (.str (tx (List.replicate n.toNat c))) H) := by
 intro pins s σ H x y v u Q I rx ry h
 obtain ⟨c, n, rfl, rfl, h0, h1, q⟩ := h
 obtain ⟨t, rfl⟩ := rx
 obtain ⟨t', rfl⟩ := ry
 have hl : (tx [c]).length = 1 := ym _
 refine PySem.P.mul_str (by rw [decide_eq_false (by omega), decide_eq_false (by omega)]; rfl) (fun _ _ => ?_) (fun _ _ => ?_) ?_
 ·rw [hl]
  have : 1 <= (2 ^ 63 - 1) / n := by
   rw [Int.le_ediv_iff_mul_le (by omega)]
   omega
  show ¬ (1 : Int) > _
  omega
 ·rw [hl]
  unfold Builtin.Str.tooLong
  rw [decide_eq_false]
  have := szk (n := 1 * n.toNat) (by omega)
  omega
 ·rw [if_neg (by omega), if_neg (by rw [hl]; simp; omega), zei]
  refine ⟨?_, ⟨.str _, H, I.tok _, ⟨_, rfl⟩, q⟩⟩
  show (tx (List.replicate n.toNat c)).length <= _
  rw [ym, List.length_replicate]
  exact szk (by omega)
end
section
variable {P : Program} {w : World} {K : Fq} {mg : Mq} {base : Heap} {k j : Nat} {f : Addr} {fd : FuncData} {ps N : List Str} {x qual : Str} {st : Stmt} {sw : Addr -> VK -> Hp -> Prop}
structure CalW (P : Program) (w : World) (K : Fq) (mg : Mq) (base : Heap) (k : Nat) (x : Str) (sw : Addr -> VK -> Hp -> Prop) : Prop where
 ex : ∃ f fd, mg x = some (.ref f) /\ PySem.W.keepIn K (.ref f) = true /\ Binds K fd ["e"] [] /\ ∀ (A : Around) (outer : List Env) (s : Shared) (H : Hp) (args : Args) (Q : VK) (e C : Addr) (t tb : Value), RoomH k A -> A.handled = some (.ref e) -> s.heap.get? e = some (yF (.ref C) t tb) -> H e = none →
  Env0 P w K mg base A outer s H -> BindsTo s fd args ((["e"] : List Str).zip [.ref e]) -> sw C Q H -> codeAny (model P w) A (.call (.ref f) args) (CR CX0 outer P w H s Q E0) s
theorem CalW.mono (F : CalW P w K mg base j x sw) (h : j <= k) : CalW P w K mg base k x sw := let ⟨f, fd, a, b, c, d⟩ := F.ex; ⟨f, fd, a, b, c, fun A outer s H args Q e C t tb hr => d A outer s H args Q e C t tb (hr.mono h)⟩
theorem Def.okW (D : Def K mg x st ["e"]) (S : zm N ["e"] (zd st))
  (hbody : ∀ (f : Addr) (cdv : Value) (A : Around) (outer : List Env) (s : Shared) (H : Hp) (Q : VK) (e C : Addr) (t tb : Value), RoomH k (A.deeper (envOfC x (zd st) s.heap.objs.size f cdv)) -> (e, yF (.ref C) t tb) ∈ (cxH P w K mg base N x (zd st) f cdv A outer s H).pn -> sw C Q H →
   ∃ t, PSs (cxH P w K mg base N x (zd st) f cdv A outer s H) (zk st) t /\ t { nx := fun _ H' => Q .non H', rt := Q } (yt N [.ref e]) H) : CalW P w K mg base (k + 1) x sw := by
 obtain ⟨f, fd, F, b, m⟩ := D.ex
 obtain ⟨oc, od, kV, doc, pm, an, cdv, ct, osl, rfl, lk, hcd⟩ := F.ex
 refine ⟨f, _, m, F.kp, b, fun A outer s H args Q e C t tb hr hA he hn e0 hb hsp => ?_⟩
 have hh : HdAt A s.heap H := .inr ⟨e, .ref C, t, tb, hA, he, hn⟩
 have r : Vals [V.ref e] [Value.ref e] := .cons rfl .nil
 have KX : K.In s.heap := e0.mod.kin.keeps fun b o e => (e0.bs b o e).1
 have lim : s.heap.NoLimit := e0.mod.nolimit.keeps fun b o e => (e0.bs b o e).1
 have hkind : ∀ y ∈ (["e"] : List Str).zip [Value.ref e], (zd st).names.lookup y.1 = some .local \/ ((zd st).names.lookup y.1 = some .cell /\ ((cellsFrom (s.heap.objs.size + 1) (zd st).names []).lookup y.1).isSome = true) := fun ⟨n, v⟩ hy => by
  rcases S.par n (List.of_mem_zip hy).1 with q | q
  ·exact .inl q
  ·exact .inr ⟨q, PySem.W.cellsFrom_some _ _ _ (.inl q)⟩
 refine codeAny_call_function hr.depth (KX _ _ lk) rfl S.co S.gen rfl (PySem.W.codeRec_of KX hcd) (hb _ _ _ _ ?_)
 refine wpAny_newFunctionEnv_cells S.kind hkind fun env he' s1 xc => ?_
 subst he'
 refine ⟨lim.keeps xc.toInCall.keep, codeAny_func ?_⟩
 obtain ⟨t', ht, hq⟩ := hbody f cdv A outer s H Q e C t tb (hr.deeper _) (by
  show _ ∈ jR A s.heap
  unfold jR
  rw [hA]
  dsimp only
  rw [he]
  simp) hsp
 have I : Inv (cxH P w K mg base N x (zd st) f cdv A outer s H) [] (yt N [.ref e]) H s1 := wV S hh e0 rfl r xc
 refine wpAny_mono (ht [] s1 (yt N [.ref e]) H _ I hq) (fun fl s' hs => ?_) fun e s' hs => False.elim hs
 have fin : ∀ {σ' : St} {H' : Hp} {v : V} {u : Value}, Inv (cxH P w K mg base N x (zd st) f cdv A outer s H) [] σ' H' s' -> RelV v u -> Q v H' -> CE outer P w H s Q u s' :=
  fun {σ' H' v u} J rv q => ⟨v, H', J.os, J.bare, J.base, J.hok, rv, q⟩
 cases fl with
 | ret u =>
  obtain ⟨v, σ', H', J, rv, q⟩ := hs
  exact fin J rv q
 | next =>
  obtain ⟨σ', H', J, q⟩ := hs
  exact fin (v := V.non) (u := Value.none) J rfl q
 | brk =>
  obtain ⟨_, _, _, q⟩ := hs
  exact False.elim q
 | cont =>
  obtain ⟨_, _, _, q⟩ := hs
  exact False.elim q
end
section
variable {X : Cx} {k : Nat} {x : Str} {p pos : Pos} {a : Expr} {ta : TA} {sw : Addr -> VK -> Hp -> Prop}
theorem zej {e C : Addr} {t tb : Value} (F : CalW X.prog X.w X.K X.mg X.base k x sw) (hr : RoomH k (X.inX e (yF (.ref C) t tb)).A) (hg : Gl (X.inX e (yF (.ref C) t tb)) x) (ha : PA (X.inX e (yF (.ref C) t tb)) [a] ta) (hdb : (x == ("__debug__" : Str)) = false := by decide) (he : starEach [a] X.env = (false, eval a X.env) :: starEach [] X.env := by rfl) (hpl : (backTo pos (starEach [] X.env)).any (·.1) = false := by rfl) :
  PE (X.inX e (yF (.ref C) t tb)) (.Call (.Name x p) [a] [] pos) (fun σ H Q => ta σ H fun vs H1 => vs = [.ref e] /\ sw C Q H1) := by
 obtain ⟨f, fd, hm, hk, hb, F⟩ := F.ex
 intro pins s σ H Q I h
 refine wpAny_Call_Name_kw (yT I hg hm ?_ hdb)
 refine PySem.W.callWith_K (h₀ := X.base) I.ok.mod.kin hk (thn (ha pos pins s σ H _ I h) fun us s1 ⟨vs, H1, I1, r, ev, q⟩ => ⟨I1.kIn, ?_⟩) he hpl
 subst ev
 obtain ⟨u, rfl, ru⟩ := ju r
 cases (show u = .ref e from ru)
 have hb' := hb s1 [.ref e] I1.kIn rfl
 rw [List.append_nil] at hb'
 have pn := I1.pin (e, yF (.ref C) t tb) (List.mem_append_left _ (by simp [Cx.inX]))
 refine wpAny_call (codeAny_mono (F (X.inX e (yF (.ref C) t tb)).A X.stack s1 H1 ⟨[.ref e], []⟩ Q e C t tb hr rfl pn.1 pn.2.1 I1.env0 hb' q) fun r s' hq => ?_)
 cases r with
 | error e => exact False.elim hq
 | ok fl =>
  cases fl with
  | ret u => exact I1.after hq
  | next => exact False.elim hq
  | brk => exact False.elim hq
  | cont => exact False.elim hq
theorem yW {e C : Addr} {t tb : Value} (hp : (e, yF (.ref C) t tb) ∈ X.pn) : xS X (.builtin "isinstance") (fun xs H Q => jZ X.K C /\ ∃ D b, xs = [.ref e, .ref D] /\ PySem.W.kitOne X.K (.ref C) (.ref D) = some b /\ Q (.bl b) H) := by
 rintro pins s σ H xs us Q I r ⟨F, D, b, rfl, k, q⟩
 obtain ⟨u, v, rfl, ru, rv⟩ := zas r
 cases (show u = .ref e from ru)
 cases (show v = .ref D from rv)
 have pn := I.pin (e, yF (.ref C) t tb) (List.mem_append_left _ hp)
 exact PySem.W.kia_one (wm F) I.kIn pn.1 k (fun z => nomatch z) fun tk => ⟨.bl b, H, I.tok tk, rfl, q⟩
theorem zbs {e C : Addr} {t tb : Value} (hp : (e, yF (.ref C) t tb) ∈ X.pn) : xS X (.builtin "isinstance") (fun xs H Q => jZ X.K C /\ ∃ D b, xs = [.ref e, .ty D] /\ PySem.W.kitOne X.K (.ref C) (.type D) = some b /\ Q (.bl b) H) := by
 rintro pins s σ H xs us Q I r ⟨F, D, b, rfl, k, q⟩
 obtain ⟨u, v, rfl, ru, rv⟩ := zas r
 cases (show u = .ref e from ru)
 cases (show v = .type D from rv)
 have pn := I.pin (e, yF (.ref C) t tb) (List.mem_append_left _ hp)
 exact PySem.W.kia_one (wm F) I.kIn pn.1 k (fun z => nomatch z) fun tk => ⟨.bl b, H, I.tok tk, rfl, q⟩
end
def ecAt (ec : Ec) : Nat -> Addr
 | 0 => ec.noShares
 | 1 => ec.noPile
 | 2 => ec.noSign
 | 3 => ec.noSlot
 | 4 => ec.noMore
 | 5 => ec.noText
 | _ => ec.notLeaf
def qI (w : Nat) : List V := [.bl (decide (0 = w)), .bl (decide (1 = w)), .bl (decide (2 = w)), .bl (decide (3 = w)), .bl (decide (4 = w)), .bl (decide (5 = w)), .bl (decide (6 = w)), .bl true]
theorem zc5 {m : List Nat} (h : ∀ c, m.getLast? = some c -> c < 97) : wo m = none := by
 unfold wo
 split
 ·rename_i es n _ _
  by_cases c : je (yL es n) = m
  ·exfalso
   have e := zbi (xt (yL es n)).toNat
   have z : m.getLast? = some (97 + (xt (yL es n)).toNat % 26) := by
    rw [<- c]
    unfold je
    rw [e]
    generalize (if (xt (yL es n)).toNat / 26 = 0 then [] else x8 ((xt (yL es n)).toNat / 26)) = X
    rw [show qd (yL es n) ++ 59 :: (X ++ [97 + (xt (yL es n)).toNat % 26]) = (qd (yL es n) ++ 59 :: X) ++ [97 + (xt (yL es n)).toNat % 26] from by simp]
    exact List.getLast?_concat
   have := h _ z
   omega
  ·rw [if_neg c]
 ·rfl
end L2
namespace L2
open PySem PySem.Spec PyProof.Rows Np
theorem and2 {c : Bool} {A B X : Prop} (hX : c = true -> X) (hb : c = false -> B) : if c = true then X else (if false = true then A else B) := by
 cases c with
 | true => rw [if_pos rfl]; exact hX rfl
 | false => rw [if_neg Bool.false_ne_true, if_neg Bool.false_ne_true]; exact hb rfl
theorem qJ {n : Nat} (h : 0 < n) (xs : List V) (hl : xs.length = n) (z : Int) : ∃ i, i < n /\ ∃ y, xs[i]? = some y /\ atI xs (z % (n : Int)) = some y := by
 have m0 := Int.emod_nonneg z (show (n : Int) ≠ 0 by omega)
 have m1 := Int.emod_lt_of_pos z (show (0 : Int) < n by omega)
 have hi : (z % (n : Int)).toNat < xs.length := by omega
 refine ⟨(z % (n : Int)).toNat, by omega, xs[(z % (n : Int)).toNat], List.getElem?_eq_getElem hi, ?_⟩
 have e : z % (n : Int) = (((z % (n : Int)).toNat : Nat) : Int) := by omega
 conv => lhs; rw [e]
 exact qg (List.getElem?_eq_getElem hi)
theorem at2 (a b : V) (z : Int) : ∃ y, atI [a, b] (z % 2) = some y /\ (y = a \/ y = b) := by
 obtain ⟨i, hi, y, e, h⟩ := qJ (n := 2) (by decide) [a, b] rfl z
 refine ⟨y, h, ?_⟩
 match i, hi, e with
 | 0, _, e => exact .inl (Option.some.inj e).symm
 | 1, _, e => exact .inr (Option.some.inj e).symm
theorem at3 (a b c : V) (z : Int) : ∃ y, atI [a, b, c] (z % 3) = some y /\ (y = a \/ y = b \/ y = c) := by
 obtain ⟨i, hi, y, e, h⟩ := qJ (n := 3) (by decide) [a, b, c] rfl z
 refine ⟨y, h, ?_⟩
 match i, hi, e with
 | 0, _, e => exact .inl (Option.some.inj e).symm
 | 1, _, e => exact .inr (.inl (Option.some.inj e).symm)
 | 2, _, e => exact .inr (.inr (Option.some.inj e).symm)
theorem at4 (a b c d : V) (z : Int) : ∃ y, atI [a, b, c, d] (z % 4) = some y /\ (y = a \/ y = b \/ y = c \/ y = d) := by
 obtain ⟨i, hi, y, e, h⟩ := qJ (n := 4) (by decide) [a, b, c, d] rfl z
 refine ⟨y, h, ?_⟩
 match i, hi, e with
 | 0, _, e => exact .inl (Option.some.inj e).symm
 | 1, _, e => exact .inr (.inl (Option.some.inj e).symm)
 | 2, _, e => exact .inr (.inr (.inl (Option.some.inj e).symm))
 | 3, _, e => exact .inr (.inr (.inr (Option.some.inj e).symm))
theorem at5 (a b c d f : V) (z : Int) : ∃ y, atI [a, b, c, d, f] (z % 5) = some y /\ (y = a \/ y = b \/ y = c \/ y = d \/ y = f) := by
 obtain ⟨i, hi, y, e, h⟩ := qJ (n := 5) (by decide) [a, b, c, d, f] rfl z
 refine ⟨y, h, ?_⟩
 match i, hi, e with
 | 0, _, e => exact .inl (Option.some.inj e).symm
 | 1, _, e => exact .inr (.inl (Option.some.inj e).symm)
 | 2, _, e => exact .inr (.inr (.inl (Option.some.inj e).symm))
 | 3, _, e => exact .inr (.inr (.inr (.inl (Option.some.inj e).symm)))
 | 4, _, e => exact .inr (.inr (.inr (.inr (Option.some.inj e).symm)))
theorem at8 (a b c d f g k l : V) (z : Int) : ∃ y, atI [a, b, c, d, f, g, k, l] (z % 8) = some y /\ (y = a \/ y = b \/ y = c \/ y = d \/ y = f \/ y = g \/ y = k \/ y = l) := by
 obtain ⟨i, hi, y, e, h⟩ := qJ (n := 8) (by decide) [a, b, c, d, f, g, k, l] rfl z
 refine ⟨y, h, ?_⟩
 match i, hi, e with
 | 0, _, e => exact .inl (Option.some.inj e).symm
 | 1, _, e => exact .inr (.inl (Option.some.inj e).symm)
 | 2, _, e => exact .inr (.inr (.inl (Option.some.inj e).symm))
 | 3, _, e => exact .inr (.inr (.inr (.inl (Option.some.inj e).symm)))
 | 4, _, e => exact .inr (.inr (.inr (.inr (.inl (Option.some.inj e).symm))))
 | 5, _, e => exact .inr (.inr (.inr (.inr (.inr (.inl (Option.some.inj e).symm)))))
 | 6, _, e => exact .inr (.inr (.inr (.inr (.inr (.inr (.inl (Option.some.inj e).symm))))))
 | 7, _, e => exact .inr (.inr (.inr (.inr (.inr (.inr (.inr (Option.some.inj e).symm))))))
theorem qK (a b c z : Int) : ∃ v : Int, atI [V.int a, .int b, .int c] (z % 3) = some (.int v) /\ (v = a \/ v = b \/ v = c) := by
 obtain ⟨y, h, rfl | rfl | rfl⟩ := at3 (.int a) (.int b) (.int c) z
 ·exact ⟨a, h, .inl rfl⟩
 ·exact ⟨b, h, .inr (.inl rfl)⟩
 ·exact ⟨c, h, .inr (.inr rfl)⟩
theorem zc6 (a b c d z : Int) : ∃ v : Int, atI [V.int a, .int b, .int c, .int d] (z % 4) = some (.int v) /\ (v = a \/ v = b \/ v = c \/ v = d) := by
 obtain ⟨y, h, rfl | rfl | rfl | rfl⟩ := at4 (.int a) (.int b) (.int c) (.int d) z
 ·exact ⟨a, h, .inl rfl⟩
 ·exact ⟨b, h, .inr (.inl rfl)⟩
 ·exact ⟨c, h, .inr (.inr (.inl rfl))⟩
 ·exact ⟨d, h, .inr (.inr (.inr rfl))⟩
theorem TabL.one {K : Fq} {H : Hp} {g p : Addr} {r : List Int} (hg : H g = some (.lst [.ref p])) (hp : SqL K H p (r.map V.int)) : TabL K H g [p] [r] :=
 ⟨SqL.of hg, rfl, fun i hi => match i, hi with | 0, _ => hp⟩
theorem TabL.two {K : Fq} {H : Hp} {g p1 p2 : Addr} {r1 r2 : List Int} (hg : H g = some (.lst [.ref p1, .ref p2])) (h1 : SqL K H p1 (r1.map V.int)) (h2 : SqL K H p2 (r2.map V.int)) : TabL K H g [p1, p2] [r1, r2] :=
 ⟨SqL.of hg, rfl, fun i hi => match i, hi with | 0, _ => h1 | 1, _ => h2⟩
theorem TabL.three {K : Fq} {H : Hp} {g p1 p2 p3 : Addr} {r1 r2 r3 : List Int} (hg : H g = some (.lst [.ref p1, .ref p2, .ref p3])) (h1 : SqL K H p1 (r1.map V.int)) (h2 : SqL K H p2 (r2.map V.int)) (h3 : SqL K H p3 (r3.map V.int)) : TabL K H g [p1, p2, p3] [r1, r2, r3] :=
 ⟨SqL.of hg, rfl, fun i hi => match i, hi with | 0, _ => h1 | 1, _ => h2 | 2, _ => h3⟩
theorem big40 : ¬ GoodC [2, 0, 10 ^ 40] := fun g => absurd (g.rng _ (List.mem_cons_of_mem _ (List.mem_cons_of_mem _ List.mem_cons_self))).2 (by decide +kernel)
theorem zfe : ¬ GoodC (List.replicate 101 1) := fun g => absurd g.len1 (by rw [List.length_replicate]; decide)
def jJ : List V := (List.replicate 101 (1 : Int)).map V.int
theorem zff : (List.replicate (101 : Int).toNat ([.int 1] : List V)).flatten = jJ := by decide +kernel
theorem zfg : ([.int 1] : List V).length * (101 : Int).toNat <= sizeLine := by rw [sizeLine_eq]; decide
theorem lst40 : ([.int 2, .int 0, (fun (i j : Int) => V.int (i ^ j.toNat)) 10 40] : List V) = ([2, 0, 10 ^ 40] : List Int).map V.int := by
 show [V.int 2, V.int 0, V.int (10 ^ (40 : Int).toNat)] = [V.int 2, V.int 0, V.int (10 ^ 40)]
 rw [show (40 : Int).toNat = 40 from rfl]
theorem zbt : GoodC [1, 2] := ⟨by decide, by decide, by decide, by decide⟩
theorem gd23 : GoodC [2, 3] := ⟨by decide, by decide, by decide, by decide⟩
theorem xW : GoodC [1, 0, 2] := ⟨by decide, by decide, by decide, by decide⟩
theorem zev : GoodC [1, 2, 3] := ⟨by decide, by decide, by decide, by decide⟩
theorem fu1 : qf [1] := ⟨⟨by decide, by decide, by decide, by decide⟩, by decide⟩
theorem fu111 : qf [1, 1, 1] := ⟨⟨by decide, by decide, by decide, by decide⟩, by decide⟩
theorem tb1 : vJ [1] [[1]] [[1]] := ⟨fu1, rfl, fun i hi => match i, hi with | 0, _ => ⟨fu1, rfl⟩, fun i hi => match i, hi with | 0, _ => ⟨fu1, rfl⟩⟩
theorem tb3 : vJ [1] [[1, 1, 1]] [[1], [1], [1]] := ⟨fu1, rfl, fun i hi => match i, hi with | 0, _ => ⟨fu111, rfl⟩, fun i hi => match i, hi with | 0, _ => ⟨fu1, rfl⟩ | 1, _ => ⟨fu1, rfl⟩ | 2, _ => ⟨fu1, rfl⟩⟩
theorem zfh : ∀ p, p < wN [1, 2, 3] -> jT [1, 2, 3] p < ([1, 2, 3] : List Int).sum := by decide +kernel
theorem zek {g : Int} (h : 1 <= g) : jS [1, 2] 10 g (g * ([1, 2] : List Int).sum) [] = none := by
 unfold jS
 have e : yD [1, 2] (g * ([1, 2] : List Int).sum) = g := by
  have es : ([1, 2] : List Int).sum = 3 := by decide
  unfold yD takeS
  rw [es]
  have m : g * 3 % 3 = 0 := by omega
  have d : g * 3 / 3 = g := by omega
  rw [m, d]
  have s0 : signOf [1, 2] 0 = 0 := by decide +kernel
  rw [s0]
  show g * 1 + 0 - first [1, 2] 0 = g
  rw [yB]
  omega
 rw [e]
 show xo 10 (g * ([1, 2] : List Int).sum) [] g = none
 unfold xo
 have es : ([1, 2] : List Int).sum = 3 := by decide
 rw [es, if_pos (by omega)]
theorem zc7 {far v : Int} (hf : 0 <= far) (h : v = -1 - far \/ v = 3 \/ v = 3 + far \/ v = 1) : zai [1, 0, 2] v := by
 rcases h with rfl | rfl | rfl | rfl
 ·exact .inl fun z => by omega
 ·exact .inl fun z => absurd z.2 (by decide)
 ·exact .inl fun z => by have := z.2; have e : (([1, 0, 2] : List Int).length : Int) = 3 := rfl; omega
 ·exact .inr ⟨by decide, by decide, rfl⟩
end L2
namespace L2
open PySem PySem.Spec PyProof.Rows Np
def zak : Expr -> Bool
 | .Starred _ _ => false
 | _ => true
theorem zG {e : Expr} {es : List Expr} {env : Env} (h : zak e = true) : starEach (e :: es) env = (false, eval e env) :: starEach es env := by
 cases e <;> first | rfl | cases h
theorem zM {pos : Pos} {env : Env} : ∀ {es : List Expr}, es.all zak = true -> (backTo pos (starEach es env)).any (·.1) = false
 | [], _ => rfl
 | e :: es, h => by
  rw [List.all_cons, Bool.and_eq_true] at h
  rw [zG h.1]
  have := zM (pos := pos) (env := env) h.2
  exact this
theorem pbad {far v : Int} (hf : 0 <= far) (h : v = -1 - far \/ v = 3 \/ v = 3 + far \/ v = 1) : PBad [1, 0, 2] [2, 0, v] := by
 by_cases c : v = 1
 ·subst c
  exact .inr ⟨by decide, by decide, rfl⟩
 ·refine .inl ⟨2, by show 2 < 3; decide, fun i hi => ?_, fun z => ?_⟩
  ·match i, hi with
   | 0, _ => exact (show (0 : Int) <= 2 /\ (2 : Int) < 3 from ⟨by decide, by decide⟩)
   | 1, _ => exact (show (0 : Int) <= 0 /\ (0 : Int) < 3 from ⟨by decide, by decide⟩)
  ·have z1 : 0 <= v := z.1
   have z2 : v < 3 := z.2
   omega
def whF (w0 : Nat) : V -> V
 | .int k => .bl (decide (V.int k = V.int (w0 : Int)) || decide (V.int k = V.int 7))
 | y => y
theorem zc8 {w0 : Nat} (h : w0 < 7) : ((List.range 8).map fun k => V.int (0 + ((k : Nat) : Int))).map (whF w0) = qI w0 := by
 have hw' : w0 = 0 \/ w0 = 1 \/ w0 = 2 \/ w0 = 3 \/ w0 = 4 \/ w0 = 5 \/ w0 = 6 := by omega
 rcases hw' with rfl | rfl | rfl | rfl | rfl | rfl | rfl <;> decide +kernel
theorem zc9 {w0 : Nat} (h : w0 < 7) : (qI w0).all xP = true /\ ∀ x ∈ qI w0, eqV x x = true := by
 have hw' : w0 = 0 \/ w0 = 1 \/ w0 = 2 \/ w0 = 3 \/ w0 = 4 \/ w0 = 5 \/ w0 = 6 := by omega
 rcases hw' with rfl | rfl | rfl | rfl | rfl | rfl | rfl <;> decide +kernel
theorem yz {X : Cx} {st : Stmt} {rest : List Stmt} {t : TS} (h1 : PS X st t) : PSs X (st :: rest) (fun D σ H => t { D with nx := fun _ _ => False } σ H) := by
 intro pins s σ H D I h
 refine wpAny_execs_cons (thn (h1 pins s σ H _ I h) fun f s1 q => ?_)
 cases f with
 | next => obtain ⟨σ', H', I', q⟩ := q; exact q.elim
 | ret v => exact q
 | brk => exact q
 | cont => exact q
theorem zl0 : 0 <= sizeLine := by decide
theorem zl1 : 1 <= sizeLine := by decide
theorem zl2 : 2 <= sizeLine := by decide
theorem zl3 : 3 <= sizeLine := by decide
theorem zl4 : 4 <= sizeLine := by decide
theorem zl5 : 5 <= sizeLine := by decide
theorem zl8 : 8 <= sizeLine := by decide
section
variable {P : Program} {w : World} {K : Fq} {mg : Mq} {base : Heap} {j k : Nat} {x m : Str} {C : Addr} {ps : List Str} {sp : Sp} {sw : Addr -> VK -> Hp -> Prop}
theorem Cal.up (F : Cal P w K mg base j x ps sp) (h : j <= k := by decide) : Cal P w K mg base k x ps sp := F.mono h
theorem CalX.up (F : CalX P w K mg base j x ps sp) (h : j <= k := by decide) : CalX P w K mg base k x ps sp := F.mono h
theorem CalM.up (F : CalM P w K mg base j C m ps sp) (h : j <= k := by decide) : CalM P w K mg base k C m ps sp := F.mono h
theorem CalMX.up (F : CalMX P w K mg base j C m ps sp) (h : j <= k := by decide) : CalMX P w K mg base k C m ps sp := F.mono h
theorem CalA.up (F : CalA P w K mg base j x sp) (h : j <= k := by decide) : CalA P w K mg base k x sp := F.mono h
theorem CalAX.up (F : CalAX P w K mg base j x sp) (h : j <= k := by decide) : CalAX P w K mg base k x sp := F.mono h
theorem CalC.up (F : CalC P w K mg base j x m ps sp) (h : j <= k := by decide) : CalC P w K mg base k x m ps sp := F.mono h
theorem CalCX.up (F : CalCX P w K mg base j x m ps sp) (h : j <= k := by decide) : CalCX P w K mg base k x m ps sp := F.mono h
theorem CalW.up (F : CalW P w K mg base j x sw) (h : j <= k := by decide) : CalW P w K mg base k x sw := F.mono h
end
theorem zA {H : Hp} {p : Addr} (n : H p = none) (xs : List V) : ∃ H1, H1 = upd H p (.lst xs) /\ Same H H1 /\ H1 p = some (.lst xs) := ⟨_, rfl, zB n, zh⟩
theorem zi2 : (0 : Int) < 2 := by decide
theorem zi3 : (0 : Int) < 3 := by decide
theorem zi4 : (0 : Int) < 4 := by decide
theorem zi5 : (0 : Int) < 5 := by decide
theorem zi6 : (0 : Int) < 6 := by decide
theorem zi7 : (0 : Int) < 7 := by decide
theorem zi8 : (0 : Int) < 8 := by decide
theorem zi10 : (0 : Int) < 10 := by decide
theorem zi24 : (0 : Int) < 24 := by decide
theorem zi100 : (0 : Int) < 100 := by decide
theorem zi900 : (0 : Int) < 900 := by decide
theorem zg (X : Cx) (e : Expr) (es : List Expr) (te : TE) (t : TA) (ha : PE X e te) (hr : PA X es t) (hp : zak e = true) : PA X (e :: es) (zat te t) := zc ha hr (zG hp)
theorem zD (X : Cx) (es : List Expr) (t : TA) (pos : Pos) (h : PA X es t) : PE X (.List es pos) (tLst t) := xi h
end L2
set_option maxHeartbeats 4000000
local macro_rules | `(tactic| walk_at "l") => `(tactic| (intros; rename_i h; repeat (first | (obtain ⟨hv, _⟩ := h; subst hv; rfl) | (obtain ⟨_, h⟩ := h))))
local macro_rules | `(tactic| walk_at "s") => `(tactic| exact ⟨rfl, rfl, rfl, by decide +kernel, rfl, by decide +kernel, by decide +kernel⟩)
local macro_rules | `(tactic| walk_at "r") => `(tactic| repeat (first | refine ⟨_, rfl, ?_⟩ | refine ⟨_, _, rfl, rfl, ?_⟩ | refine ⟨rfl, ?_⟩ | refine ⟨⟨by first | decide | omega, by first | decide | omega⟩, ?_⟩ | refine ⟨(by show (0 : Int) < _; first | decide | omega), ?_⟩ | refine ⟨.inr ⟨by first | decide | omega, by first | decide | omega⟩, ?_⟩ | refine ⟨.inl ⟨by first | decide | omega, by first | decide | omega⟩, ?_⟩))
namespace T
open PySem L2 Np
open PySem.W (nsIn findIn kitOne mroIn excIn keepIn codeIn fnOf isFn makesIn plainGet hasDictIn plainOver specialIn takesIn readsIn findCls mg_of mg_none_of Frag)
def top (i : Nat) : Stmt := PySem.Challenge.pw_numberpile_k19_each_refusal_its_own.main.body.getD i (.Pass ⟨0, 0, 0, 0⟩)
structure BI (mg : Mq) : Prop where
 ValueError : mg "ValueError" = none
 len : mg "len" = none
 sum : mg "sum" = none
 isinstance : mg "isinstance" = none
 list : mg "list" = none
 int : mg "int" = none
 range : mg "range" = none
 reversed : mg "reversed" = none
 zip : mg "zip" = none
 min : mg "min" = none
 enumerate : mg "enumerate" = none
structure GC (mg : Mq) : Prop where
 MOST_SIGNS : ∃ t, mg "MOST_SIGNS" = some (.int 100 t)
 MOST_COUNT : ∃ t, mg "MOST_COUNT" = some (.int 999 t)
 MOST_TEXT : ∃ t, mg "MOST_TEXT" = some (.int 150 t)
 MOST_FIGURES : ∃ t, mg "MOST_FIGURES" = some (.int 3 t)
 SIGNS : ∃ t, mg "SIGNS" = some (.str (Str.ofString " !\"#$&'()*+,-./0123456789:;<=>?@ABCDEFGHIJKLMNOPQRSTUVWXYZ[\\]^_`abcdefghijklmnopqrstuvwxyz{|}~") t)
 LETTERS : ∃ t, mg "LETTERS" = some (.str (Str.ofString "abcdefghijklmnopqrstuvwxyz") t)
 MOST_STEP : ∃ t, mg "MOST_STEP" = some (.int 9 t)
 LEAST_BASE : ∃ t, mg "LEAST_BASE" = some (.int 2 t)
 MOST_BASE : ∃ t, mg "MOST_BASE" = some (.int 1000 t)
 MOST_GRAIN : ∃ t, mg "MOST_GRAIN" = some (.int 100 t)
structure TF (K : Frag) (mg : Mq) (T : Cl) : Prop where
 mM : mg "Model" = some (.ref T.M)
 fP : zcm K T.P
 mP : mg "Plain" = some (.ref T.P)
 kP : kitOne K (.ref T.P) (.ref T.M) = some true
 fL : zcm K T.L
 mL : mg "Learner" = some (.ref T.L)
 kL : kitOne K (.ref T.L) (.ref T.M) = some true
 fF : zcm K T.F
 mF : mg "Follower" = some (.ref T.F)
 kF : kitOne K (.ref T.F) (.ref T.M) = some true
 fO : zeS K T.O
 mO : mg "Slots" = some (.ref T.O)
 fS : zd6 K T.S
 mS : mg "Stream" = some (.ref T.S)
 nPL : T.P ≠ T.L
 nPF : T.P ≠ T.F
 nLP : T.L ≠ T.P
 nLF : T.L ≠ T.F
 nFP : T.F ≠ T.P
 nFL : T.F ≠ T.L
def Av (T : Cl) (C : Addr) : Prop := C = T.P \/ C = T.L \/ C = T.F \/ C = T.O \/ C = T.S
structure XF (K : Frag) (mg : Mq) (ec : Ec) : Prop where
 m0 : mg "PileError" = some (.ref ec.pileError)
 o0 : excIn K ec.pileError bmV "ValueError.__new__" = true
 m1 : mg "NoShares" = some (.ref ec.noShares)
 o1 : excIn K ec.noShares bmV "ValueError.__new__" = true
 p1 : mroIn K ec.noShares (.ref ec.pileError) = some true
 m2 : mg "NoPile" = some (.ref ec.noPile)
 o2 : excIn K ec.noPile bmV "ValueError.__new__" = true
 p2 : mroIn K ec.noPile (.ref ec.pileError) = some true
 m3 : mg "NoSign" = some (.ref ec.noSign)
 o3 : excIn K ec.noSign bmV "ValueError.__new__" = true
 p3 : mroIn K ec.noSign (.ref ec.pileError) = some true
 m4 : mg "NoSlot" = some (.ref ec.noSlot)
 o4 : excIn K ec.noSlot bmV "ValueError.__new__" = true
 p4 : mroIn K ec.noSlot (.ref ec.pileError) = some true
 m5 : mg "NoMore" = some (.ref ec.noMore)
 o5 : excIn K ec.noMore bmV "ValueError.__new__" = true
 p5 : mroIn K ec.noMore (.ref ec.pileError) = some true
 m6 : mg "NoText" = some (.ref ec.noText)
 o6 : excIn K ec.noText bmV "ValueError.__new__" = true
 p6 : mroIn K ec.noText (.ref ec.pileError) = some true
 m7 : mg "NotLeaf" = some (.ref ec.notLeaf)
 o7 : excIn K ec.notLeaf bmV "ValueError.__new__" = true
 p7 : mroIn K ec.notLeaf (.ref ec.pileError) = some true
 f1 : jZ K ec.noShares
 k1_1 : kitOne K (.ref ec.noShares) (.ref ec.noShares) = some true
 k1_2 : kitOne K (.ref ec.noShares) (.ref ec.noPile) = some false
 k1_3 : kitOne K (.ref ec.noShares) (.ref ec.noSign) = some false
 k1_4 : kitOne K (.ref ec.noShares) (.ref ec.noSlot) = some false
 k1_5 : kitOne K (.ref ec.noShares) (.ref ec.noMore) = some false
 k1_6 : kitOne K (.ref ec.noShares) (.ref ec.noText) = some false
 k1_7 : kitOne K (.ref ec.noShares) (.ref ec.notLeaf) = some false
 k1_8 : kitOne K (.ref ec.noShares) (.type "ValueError") = some true
 f2 : jZ K ec.noPile
 k2_1 : kitOne K (.ref ec.noPile) (.ref ec.noShares) = some false
 k2_2 : kitOne K (.ref ec.noPile) (.ref ec.noPile) = some true
 k2_3 : kitOne K (.ref ec.noPile) (.ref ec.noSign) = some false
 k2_4 : kitOne K (.ref ec.noPile) (.ref ec.noSlot) = some false
 k2_5 : kitOne K (.ref ec.noPile) (.ref ec.noMore) = some false
 k2_6 : kitOne K (.ref ec.noPile) (.ref ec.noText) = some false
 k2_7 : kitOne K (.ref ec.noPile) (.ref ec.notLeaf) = some false
 k2_8 : kitOne K (.ref ec.noPile) (.type "ValueError") = some true
 f3 : jZ K ec.noSign
 k3_1 : kitOne K (.ref ec.noSign) (.ref ec.noShares) = some false
 k3_2 : kitOne K (.ref ec.noSign) (.ref ec.noPile) = some false
 k3_3 : kitOne K (.ref ec.noSign) (.ref ec.noSign) = some true
 k3_4 : kitOne K (.ref ec.noSign) (.ref ec.noSlot) = some false
 k3_5 : kitOne K (.ref ec.noSign) (.ref ec.noMore) = some false
 k3_6 : kitOne K (.ref ec.noSign) (.ref ec.noText) = some false
 k3_7 : kitOne K (.ref ec.noSign) (.ref ec.notLeaf) = some false
 k3_8 : kitOne K (.ref ec.noSign) (.type "ValueError") = some true
 f4 : jZ K ec.noSlot
 k4_1 : kitOne K (.ref ec.noSlot) (.ref ec.noShares) = some false
 k4_2 : kitOne K (.ref ec.noSlot) (.ref ec.noPile) = some false
 k4_3 : kitOne K (.ref ec.noSlot) (.ref ec.noSign) = some false
 k4_4 : kitOne K (.ref ec.noSlot) (.ref ec.noSlot) = some true
 k4_5 : kitOne K (.ref ec.noSlot) (.ref ec.noMore) = some false
 k4_6 : kitOne K (.ref ec.noSlot) (.ref ec.noText) = some false
 k4_7 : kitOne K (.ref ec.noSlot) (.ref ec.notLeaf) = some false
 k4_8 : kitOne K (.ref ec.noSlot) (.type "ValueError") = some true
 f5 : jZ K ec.noMore
 k5_1 : kitOne K (.ref ec.noMore) (.ref ec.noShares) = some false
 k5_2 : kitOne K (.ref ec.noMore) (.ref ec.noPile) = some false
 k5_3 : kitOne K (.ref ec.noMore) (.ref ec.noSign) = some false
 k5_4 : kitOne K (.ref ec.noMore) (.ref ec.noSlot) = some false
 k5_5 : kitOne K (.ref ec.noMore) (.ref ec.noMore) = some true
 k5_6 : kitOne K (.ref ec.noMore) (.ref ec.noText) = some false
 k5_7 : kitOne K (.ref ec.noMore) (.ref ec.notLeaf) = some false
 k5_8 : kitOne K (.ref ec.noMore) (.type "ValueError") = some true
 f6 : jZ K ec.noText
 k6_1 : kitOne K (.ref ec.noText) (.ref ec.noShares) = some false
 k6_2 : kitOne K (.ref ec.noText) (.ref ec.noPile) = some false
 k6_3 : kitOne K (.ref ec.noText) (.ref ec.noSign) = some false
 k6_4 : kitOne K (.ref ec.noText) (.ref ec.noSlot) = some false
 k6_5 : kitOne K (.ref ec.noText) (.ref ec.noMore) = some false
 k6_6 : kitOne K (.ref ec.noText) (.ref ec.noText) = some true
 k6_7 : kitOne K (.ref ec.noText) (.ref ec.notLeaf) = some false
 k6_8 : kitOne K (.ref ec.noText) (.type "ValueError") = some true
 f7 : jZ K ec.notLeaf
 k7_1 : kitOne K (.ref ec.notLeaf) (.ref ec.noShares) = some false
 k7_2 : kitOne K (.ref ec.notLeaf) (.ref ec.noPile) = some false
 k7_3 : kitOne K (.ref ec.notLeaf) (.ref ec.noSign) = some false
 k7_4 : kitOne K (.ref ec.notLeaf) (.ref ec.noSlot) = some false
 k7_5 : kitOne K (.ref ec.notLeaf) (.ref ec.noMore) = some false
 k7_6 : kitOne K (.ref ec.notLeaf) (.ref ec.noText) = some false
 k7_7 : kitOne K (.ref ec.notLeaf) (.ref ec.notLeaf) = some true
 k7_8 : kitOne K (.ref ec.notLeaf) (.type "ValueError") = some true
section
variable (P : Program) (w : World) {K : Frag} {mg : Mq} (base : Heap) {T : Cl} {ec : Ec} (z : BI mg) (g : GC mg) (tf : TF K mg T) (xf : XF K mg ec)
include z g tf xf
abbrev sx0 : Stmt := top 13
def Sx0 : zm ["counts", "count"] ["counts"] (zd sx0) := by walk_at "s"
def Px0 (K : Frag) (T : Cl) (ec : Ec) : Sp := fun vs H Q _ => ∃ (a : Addr) (ns : List Int), vs = [.ref a] /\ SqL K H a (ns.map V.int) /\ GoodC ns /\ Q .non H
def Bx0 (K : Frag) (T : Cl) (ec : Ec) : BSp := fun vs H E => ∃ (a : Addr) (ns : List Int), vs = [.ref a] /\ SqL K H a (ns.map V.int) /\ ¬ GoodC ns /\ E (.ref ec.noShares) none H
abbrev Yx0 : Prop := CalX P w K mg base 1 "check_counts" ["counts"] (orS (Px0 K T ec) (Bx0 K T ec))
theorem ox0 (D : Def K mg "check_counts" sx0 ["counts"]) : @Yx0 P w K mg base T ec := by
 refine D.okB Sx0 ?_ ?_ (fun _ _ _ _ _ H vs Q E hr h => ?_) (fun _ _ _ _ _ H vs E hr h => ?_)
 ·walk_at "l"
 ·walk_at "l"
 ·obtain ⟨a, ns, rfl, hS, g0, q⟩ := h
  refine ⟨_, (zf (zy (yv (z6 yo yo zb (zw zC rfl z.len yg (zc (pv 0) za)) (yq rfl g.MOST_SIGNS))) (ze yf) zE)
   (zf (yE PassesOwn.never rfl (yN (pv 0)) (zX (i := 1) Sx0.nd rfl (Or.inl rfl)) (ze (zy (yv (z6 yo yo zb (pv 1) (yq rfl g.MOST_COUNT))) (ze yf) zE)))
   (ze (zy (zl zH (zw (xE rfl) rfl z.sum kb (zc (pv 0) za)) zb (zt _)) (ze yf) zE)))), ?_⟩
  have hl : (ns.map V.int).length = ns.length := List.length_map _
  have l0 := g0.len0
  have l1 := g0.len1
  refine ⟨_, rfl, a, _, rfl, .inl hS, _, _, rfl, rfl, _, rfl, ?_⟩
  refine zL (fun _ => ?_) (fun c => absurd (decide_eq_true (by rw [hl]; omega)) c)
  refine ⟨_, _, rfl, rfl, _, rfl, ?_⟩
  have e1 : decide (((ns.map V.int).length : Int) <= 100) = true := decide_eq_true (by rw [hl]; omega)
  rw [e1]
  refine xD ?_
  refine ⟨_, rfl, a, rfl, ⟨_, hS⟩, xb (K := K) (a := a) (xs := ns.map V.int) (fun i σ H2 => ∃ v, σ = [some (.ref a), v] /\ H2 = H) ⟨none, rfl, rfl⟩ (fun i σ H2 _ ⟨_, _, e⟩ => e ▸ hS) ?_ ?_⟩
  ·rintro i y σ H2 hi ⟨v, rfl, rfl⟩
   obtain ⟨n, hn, rfl⟩ := zeM hi
   have hr := g0.rng n hn
   refine ⟨_, rfl, _, _, rfl, rfl, _, rfl, ?_⟩
   refine zL (fun _ => ?_) (fun c => absurd (decide_eq_true hr.1) c)
   refine ⟨_, _, rfl, rfl, _, rfl, ?_⟩
   have e1 : decide (n <= 999) = true := decide_eq_true hr.2
   rw [e1]
   refine xD ?_
   exact ⟨_, rfl, rfl⟩
  ·rintro σ H2 ⟨v, rfl, rfl⟩
   refine ⟨_, rfl, a, ns, rfl, hS, rfl, _, rfl, ?_⟩
   have e1 : decide (V.int ns.sum = V.int 0) = false := decide_eq_false (fun e => by have := V.int.inj e; have := g0.pos; omega)
   rw [e1]
   refine xD ?_
   exact ⟨_, Less.refl, q⟩
 ·obtain ⟨a, ns, rfl, hS, ng, q⟩ := h
  refine ⟨_, (zf (zy (yv (z6 yo yo zb (zw zC rfl z.len yg (zc (pv 0) za)) (yq rfl g.MOST_SIGNS))) (ze (zQ zW rfl rfl rfl xf.m1 xf.o1 (zc yd za))) zE)
   (zf (yE PassesOwn.leaving rfl (yN (pv 0)) (zX (i := 1) Sx0.nd rfl (Or.inl rfl)) (ze (zy (yv (z6 yo yo zb (pv 1) (yq rfl g.MOST_COUNT))) (ze (zQ zW rfl rfl rfl xf.m1 xf.o1 (zc yd za))) zE)))
   (ze (zy (zl zH (zw (xE rfl) rfl z.sum kb (zc (pv 0) za)) zb (zt _)) (ze (zQ zW rfl rfl rfl xf.m1 xf.o1 (zc yd za))) zE)))), ?_⟩
  have hl : (ns.map V.int).length = ns.length := List.length_map _
  refine ⟨_, rfl, a, _, rfl, .inl hS, _, _, rfl, rfl, _, rfl, ?_⟩
  refine zL (fun c => ?_) (fun c => ?_)
  ·have c0 : (1 : Int) <= ((ns.map V.int).length : Int) := of_decide_eq_true c
   refine ⟨_, _, rfl, rfl, _, rfl, ?_⟩
   by_cases l1 : ns.length <= 100
   ·have e1 : decide (((ns.map V.int).length : Int) <= 100) = true := decide_eq_true (by rw [hl]; omega)
    rw [e1]
    refine xD ?_
    refine ⟨_, rfl, a, rfl, ⟨_, hS⟩, xb (K := K) (a := a) (xs := ns.map V.int) (fun i σ H2 => ∃ v, σ = [some (.ref a), v] /\ H2 = H /\ ∀ c ∈ ns.take i, 0 <= c /\ c <= 999) ⟨none, rfl, rfl, fun c hc => by simp at hc⟩ (fun i σ H2 _ ⟨_, _, e, _⟩ => e ▸ hS) ?_ ?_⟩
    ·rintro i y σ H2 hi ⟨v, rfl, rfl, hj⟩
     obtain ⟨n, hn, rfl⟩ := zaj hi
     refine ⟨_, rfl, _, _, rfl, rfl, _, rfl, ?_⟩
     refine zL (fun c => ?_) (fun c => ?_)
     ·refine ⟨_, _, rfl, rfl, _, rfl, ?_⟩
      by_cases c2 : n <= 999
      ·have e1 : decide (n <= 999) = true := decide_eq_true c2
       rw [e1]
       refine xD ?_
       exact ⟨_, rfl, rfl, zbr hn hj ⟨of_decide_eq_true c, c2⟩⟩
      ·have e1 : decide (n <= 999) = false := decide_eq_false c2
       rw [e1]
       refine yR ?_
       exact ⟨zl1, _, Less.refl, q⟩
     ·refine ⟨_, rfl, ?_⟩
      refine yR ?_
      exact ⟨zl1, _, Less.refl, q⟩
    ·rintro σ H2 ⟨v, rfl, rfl, hj⟩
     refine ⟨_, rfl, a, ns, rfl, hS, rfl, _, rfl, ?_⟩
     rw [hl, List.take_length] at hj
     by_cases s0 : ns.sum = 0
     ·have e1 : decide (V.int ns.sum = V.int 0) = true := decide_eq_true (by rw [s0])
      rw [e1]
      refine yR ?_
      exact ⟨zl1, _, Less.refl, q⟩
     ·rw [hl] at c0
      exact absurd ⟨by omega, l1, hj, by have := (wK hj).1; omega⟩ ng
   ·have e1 : decide (((ns.map V.int).length : Int) <= 100) = false := decide_eq_false (by rw [hl]; omega)
    rw [e1]
    refine yR ?_
    exact ⟨zl1, _, Less.refl, q⟩
  ·refine ⟨_, rfl, ?_⟩
   refine yR ?_
   exact ⟨zl1, _, Less.refl, q⟩
abbrev sx1 : Stmt := top 14
def Sx1 : zm ["many", "sign"] ["many", "sign"] (zd sx1) := by walk_at "s"
def Px1 (K : Frag) (T : Cl) (ec : Ec) : Sp := fun vs H Q _ => ∃ (m k : Int), vs = [.int m, .int k] /\ 0 <= k /\ k < m /\ Q .non H
def Bx1 (K : Frag) (T : Cl) (ec : Ec) : BSp := fun vs H E => ∃ (m k : Int), vs = [.int m, .int k] /\ ¬ (0 <= k /\ k < m) /\ E (.ref ec.noSign) none H
abbrev Yx1 : Prop := CalX P w K mg base 1 "check_sign" ["many", "sign"] (orS (Px1 K T ec) (Bx1 K T ec))
theorem ox1 (D : Def K mg "check_sign" sx1 ["many", "sign"]) : @Yx1 P w K mg base T ec := by
 refine D.okB Sx1 ?_ ?_ (fun _ _ _ _ _ H vs Q E hr h => ?_) (fun _ _ _ _ _ H vs E hr h => ?_)
 ·walk_at "l"
 ·walk_at "l"
 ·obtain ⟨m, k, rfl, h0, h1, q⟩ := h
  refine ⟨_, (ze (zy (yv (z6 yo xh zb (pv 1) (pv 0))) (ze yf) zE)), ?_⟩
  refine ⟨_, rfl, _, _, rfl, rfl, _, rfl, ?_⟩
  refine zL (fun _ => ?_) (fun c => absurd (decide_eq_true h0) c)
  refine ⟨_, rfl, _, _, rfl, rfl, _, rfl, ?_⟩
  have e1 : decide (k < m) = true := decide_eq_true h1
  rw [e1]
  refine xD ?_
  exact ⟨_, Less.refl, q⟩
 ·obtain ⟨m, k, rfl, n, q⟩ := h
  refine ⟨_, (ze (zy (yv (z6 yo xh zb (pv 1) (pv 0))) (ze (zQ zW rfl rfl rfl xf.m3 xf.o3 (zc yd za))) zE)), ?_⟩
  refine ⟨_, rfl, _, _, rfl, rfl, _, rfl, ?_⟩
  refine zL (fun c => ?_) (fun c => ?_)
  ·have h0 : 0 <= k := of_decide_eq_true c
   refine ⟨_, rfl, _, _, rfl, rfl, _, rfl, ?_⟩
   have e1 : decide (k < m) = false := decide_eq_false (fun z => n ⟨h0, z⟩)
   rw [e1]
   refine yR ?_
   exact ⟨zl1, _, Less.refl, q⟩
  ·refine ⟨_, rfl, ?_⟩
   refine yR ?_
   exact ⟨zl1, _, Less.refl, q⟩
abbrev sx2 : Stmt := top 15
def Sx2 : zm ["counts", "sign"] ["counts", "sign"] (zd sx2) := by walk_at "s"
def Px2 (K : Frag) (T : Cl) (ec : Ec) : Sp := fun vs H Q _ => ∃ (a : Addr) (ns : List Int) (k : Int), vs = [.ref a, .int k] /\ SqL K H a (ns.map V.int) /\ 0 <= k /\ k < (ns.length : Int) /\ 0 < ns.getD k.toNat 0 /\ Q (.int (ns.getD k.toNat 0)) H
def Bx2 (K : Frag) (T : Cl) (ec : Ec) : BSp := fun vs H E => ∃ (a : Addr) (ns : List Int) (k : Int), vs = [.ref a, .int k] /\ SqL K H a (ns.map V.int) /\ zai ns k /\ E (.ref ec.noSign) none H
abbrev Yx2 : Prop := CalX P w K mg base 2 "count_of" ["counts", "sign"] (orS (Px2 K T ec) (Bx2 K T ec))
theorem ox2 (D : Def K mg "count_of" sx2 ["counts", "sign"]) (Cx1 : @Yx1 P w K mg base T ec) : @Yx2 P w K mg base T ec := by
 refine D.okB Sx2 ?_ ?_ (fun _ _ _ _ _ H vs Q E hr h => ?_) (fun _ _ _ _ _ H vs E hr h => ?_)
 ·walk_at "l"
 ·walk_at "l"
 ·obtain ⟨a, ns, k, rfl, hS, h0, h1, h2, q⟩ := h
  refine ⟨_, (zf (zi (zN (Cx1.good.up) hr rfl (zc (zw zC rfl z.len yg (zc (pv 0) za)) (zc (pv 1) za))))
   (zf (zy (zl zH (zU zK (pv 0) (pv 1) (fun _ _ => rfl)) zb (zt _)) (ze yf) zE)
   (ze (zV (zU zK (pv 0) (pv 1) (fun _ _ => rfl)))))), ?_⟩
  refine ⟨_, rfl, a, _, rfl, .inl hS, _, rfl, _, _, rfl, h0, by rw [List.length_map]; exact h1, ?_⟩
  refine ⟨_, rfl, _, rfl, a, _, _, _, rfl, rfl, hS, atZ h0 h1, rfl, _, rfl, ?_⟩
  refine zL (fun e => absurd (V.int.inj (of_decide_eq_true e)) (by omega)) (fun _ => ?_)
  exact ⟨_, rfl, _, rfl, a, _, _, _, rfl, rfl, hS, atZ h0 h1, _, Less.refl, q⟩
 ·obtain ⟨a, ns, k, rfl, hS, h, q⟩ := h
  refine ⟨_, (zf (zi (zp (Cx1.up) zr hr rfl (zc (zw zC rfl z.len yg (zc (pv 0) za)) (zc (pv 1) za))))
   (yz (zy (zl zH (zU zK (pv 0) (pv 1) (fun _ _ => rfl)) zb (zt _)) (ze (zQ zW rfl rfl rfl xf.m3 xf.o3 (zc yd za))) zE))), ?_⟩
  rcases h with n | ⟨h0, h1, h2⟩
  ·exact ⟨_, rfl, a, _, rfl, .inl hS, _, rfl, .inr ⟨_, _, rfl, by rw [List.length_map]; exact n, _, Less.refl, q⟩⟩
  ·refine ⟨_, rfl, a, _, rfl, .inl hS, _, rfl, .inl ⟨_, _, rfl, h0, by rw [List.length_map]; exact h1, ?_⟩⟩
   refine ⟨_, rfl, _, rfl, a, _, _, _, rfl, rfl, hS, atZ h0 h1, rfl, _, rfl, ?_⟩
   have e1 : decide (V.int (ns.getD k.toNat 0) = V.int 0) = true := decide_eq_true (by rw [h2])
   rw [e1]
   refine yR ?_
   exact ⟨zl1, _, Less.refl, q⟩
abbrev sx3 : Stmt := top 16
def Sx3 : zm ["counts"] ["counts"] (zd sx3) := by walk_at "s"
def Px3 (K : Frag) (T : Cl) (ec : Ec) : Sp := fun vs H Q _ => ∃ (a : Addr) (ns : List Int), vs = [.ref a] /\ SqL K H a (ns.map V.int) /\ GoodC ns /\ Q (.int ns.sum) H
def Bx3 (K : Frag) (T : Cl) (ec : Ec) : BSp := fun vs H E => ∃ (a : Addr) (ns : List Int), vs = [.ref a] /\ SqL K H a (ns.map V.int) /\ ¬ GoodC ns /\ E (.ref ec.noShares) none H
abbrev Yx3 : Prop := CalX P w K mg base 2 "whole" ["counts"] (orS (Px3 K T ec) (Bx3 K T ec))
theorem ox3 (D : Def K mg "whole" sx3 ["counts"]) (Cx0 : @Yx0 P w K mg base T ec) : @Yx3 P w K mg base T ec := by
 refine D.okB Sx3 ?_ ?_ (fun _ _ _ _ _ H vs Q E hr h => ?_) (fun _ _ _ _ _ H vs E hr h => ?_)
 ·walk_at "l"
 ·walk_at "l"
 ·obtain ⟨a, ns, rfl, hS, g0, q⟩ := h
  refine ⟨_, (zf (zi (zN (Cx0.good.up) hr rfl (zc (pv 0) za)))
   (ze (zV (zw (xE rfl) rfl z.sum kb (zc (pv 0) za))))), ?_⟩
  refine ⟨_, rfl, a, ns, rfl, hS, g0, ?_⟩
  refine ⟨_, rfl, a, ns, rfl, hS, ?_⟩
  exact ⟨_, Less.refl, q⟩
 ·obtain ⟨a, ns, rfl, hS, ng, q⟩ := h
  refine ⟨_, (yz (zi (zp (Cx0.up) zr hr rfl (zc (pv 0) za)))), ?_⟩
  exact ⟨_, rfl, .inr ⟨a, ns, rfl, hS, ng, _, Less.refl, q⟩⟩
abbrev sx4 : Stmt := top 17
def Sx4 : zm ["counts", "sign"] ["counts", "sign"] (zd sx4) := by walk_at "s"
def Px4 (K : Frag) (T : Cl) (ec : Ec) : Sp := fun vs H Q _ => ∃ (a : Addr) (ns : List Int) (k : Int), vs = [.ref a, .int k] /\ SqL K H a (ns.map V.int) /\ GoodC ns /\ 0 <= k /\ k < (ns.length : Int) /\ Q (.int (first ns k.toNat)) H
def Bx4 (K : Frag) (T : Cl) (ec : Ec) : BSp := fun vs H E => ∃ (a : Addr) (ns : List Int) (k : Int), vs = [.ref a, .int k] /\ SqL K H a (ns.map V.int) /\ ((¬ GoodC ns /\ E (.ref ec.noShares) none H) \/ (GoodC ns /\ ¬ (0 <= k /\ k < (ns.length : Int)) /\ E (.ref ec.noSign) none H))
abbrev Yx4 : Prop := CalX P w K mg base 2 "first_of" ["counts", "sign"] (orS (Px4 K T ec) (Bx4 K T ec))
theorem ox4 (D : Def K mg "first_of" sx4 ["counts", "sign"]) (Cx0 : @Yx0 P w K mg base T ec) (Cx1 : @Yx1 P w K mg base T ec) : @Yx4 P w K mg base T ec := by
 refine D.okB Sx4 ?_ ?_ (fun _ _ _ _ _ H vs Q E hr h => ?_) (fun _ _ _ _ _ H vs E hr h => ?_)
 ·walk_at "l"
 ·walk_at "l"
 ·obtain ⟨a, ns, k, rfl, hS, g0, h0, h1, q⟩ := h
  refine ⟨_, (zf (zi (zN (Cx0.good.up) hr rfl (zc (pv 0) za)))
   (zf (zi (zN (Cx1.good.up) hr rfl (zc (zw zC rfl z.len yg (zc (pv 0) za)) (zc (pv 1) za))))
   (ze (zV (zw (xE rfl) rfl z.sum kb (zc (zb3 zdU (pv 0) zdR (zdS (pv 1))) za)))))), ?_⟩
  refine ⟨_, rfl, a, ns, rfl, hS, g0, ?_⟩
  refine ⟨_, rfl, a, _, rfl, .inl hS, _, rfl, _, _, rfl, h0, by rw [List.length_map]; exact h1, ?_⟩
  refine ⟨_, rfl, _, rfl, k, rfl, a, _, rfl, hS, fun p hp => ?_⟩
  rw [zce _ h0]
  exact ⟨p, _, rfl, SqL.of zh, _, Less.same (zB hp), q⟩
 ·obtain ⟨a, ns, k, rfl, hS, h⟩ := h
  refine ⟨_, (zf (zi (zp (Cx0.up) zr hr rfl (zc (pv 0) za)))
   (yz (zi (zp (Cx1.up) zr hr rfl (zc (zw zC rfl z.len yg (zc (pv 0) za)) (zc (pv 1) za)))))), ?_⟩
  rcases h with ⟨ng, q⟩ | ⟨g0, n, q⟩
  ·exact ⟨_, rfl, .inr ⟨a, ns, rfl, hS, ng, _, Less.refl, q⟩⟩
  ·refine ⟨_, rfl, .inl ⟨a, ns, rfl, hS, g0, ?_⟩⟩
   exact ⟨_, rfl, a, _, rfl, .inl hS, _, rfl, .inr ⟨_, _, rfl, by rw [List.length_map]; exact n, _, Less.refl, q⟩⟩
abbrev sx5 : Stmt := top 18
def Sx5 : zm ["counts", "slot", "total", "sign", "end"] ["counts", "slot"] (zd sx5) := by walk_at "s"
def Px5 (K : Frag) (T : Cl) (ec : Ec) : Sp := fun vs H Q _ => ∃ (a : Addr) (ns : List Int) (s : Int), vs = [.ref a, .int s] /\ SqL K H a (ns.map V.int) /\ GoodC ns /\ 0 <= s /\ s < ns.sum /\ Q (.int ((signOf ns s : Nat) : Int)) H
def Bx5 (K : Frag) (T : Cl) (ec : Ec) : BSp := fun vs H E => ∃ (a : Addr) (ns : List Int) (s : Int), vs = [.ref a, .int s] /\ SqL K H a (ns.map V.int) /\ ((¬ GoodC ns /\ E (.ref ec.noShares) none H) \/ (GoodC ns /\ ¬ (0 <= s /\ s < ns.sum) /\ E (.ref ec.noSlot) none H))
abbrev Yx5 : Prop := CalX P w K mg base 3 "sign_of" ["counts", "slot"] (orS (Px5 K T ec) (Bx5 K T ec))
theorem ox5 (D : Def K mg "sign_of" sx5 ["counts", "slot"]) (Cx3 : @Yx3 P w K mg base T ec) : @Yx5 P w K mg base T ec := by
 refine D.okB Sx5 ?_ ?_ (fun _ _ _ _ _ H vs Q E hr h => ?_) (fun _ _ _ _ _ H vs E hr h => ?_)
 ·walk_at "l"
 ·walk_at "l"
 ·obtain ⟨a, ns, sl, rfl, hS, g0, h0, h1, q⟩ := h
  refine ⟨_, (zf (zx (i := 2) Sx5.nd rfl (Or.inl rfl) (zN (Cx3.good.up) hr rfl (zc (pv 0) za)))
   (zf (zy (yv (z6 yo xh zb (pv 1) (pv 2))) (ze yf) zE)
   (zf (zx (i := 3) Sx5.nd rfl (Or.inl rfl) zb)
   (zf (zx (i := 4) Sx5.nd rfl (Or.inl rfl) (zU zK (pv 0) zb (fun _ _ => rfl)))
   (zf (yY PassesOwn.never (zl zbZ (pv 1) (pv 4) (zt _)) (zf (jL (i := 3) Sx5.nd rfl (Or.inl rfl) zb ww)
   (ze (jL (i := 4) Sx5.nd rfl (Or.inl rfl) (zU zK (pv 0) (pv 3) (fun _ _ => rfl)) ww))))
   (ze (zV (pv 3)))))))), ?_⟩
  have l0 := g0.len0
  refine ⟨_, rfl, a, ns, rfl, hS, g0, ?_⟩
  refine ⟨_, rfl, _, _, rfl, rfl, _, rfl, ?_⟩
  refine zL (fun _ => ?_) (fun c => absurd (decide_eq_true h0) c)
  refine ⟨_, rfl, _, _, rfl, rfl, _, rfl, ?_⟩
  have e1 : decide (sl < ns.sum) = true := decide_eq_true h1
  rw [e1]
  refine xD ?_
  refine ⟨_, rfl, a, _, _, _, rfl, rfl, hS, atN (i := 0) (by omega), ?_⟩
  refine xg (fun σ H2 => ∃ k : Nat, σ = [some (.ref a), some (.int sl), some (.int ns.sum), some (.int (k : Int)), some (.int (first ns (k + 1)))] /\ H2 = H /\ k < ns.length /\ first ns k <= sl)
   (fun σ _ => match σ with | [_, _, _, some (.int k), _] => ns.length - k.toNat | _ => 0) ⟨0, ?_, rfl, by omega, by rw [yB]; exact h0⟩ ?_ ?_
  ·rw [yH (by omega), yB, Int.zero_add]
   rfl
  ·rintro σ H2 ⟨k, rfl, rfl, hk, hf⟩
   refine ⟨_, rfl, _, rfl, _, _, rfl, rfl, _, rfl, ?_⟩
   refine zL (fun c => ?_) (fun c => ?_)
   ·have c' : first ns (k + 1) <= sl := of_decide_eq_true c
    have hk1 : k + 1 < ns.length := by
     rcases Nat.lt_or_ge (k + 1) ns.length with z | z
     ·exact z
     ·have : k + 1 = ns.length := by omega
      rw [this, xa] at c'
      omega
    refine ⟨_, rfl, _, _, rfl, rfl, ?_⟩
    refine ⟨_, rfl, _, rfl, _, rfl, a, _, _, _, rfl, rfl, hS, atN (i := k + 1) hk1, _, _, rfl, rfl, ?_⟩
    refine ⟨⟨k + 1, ?_, rfl, hk1, c'⟩, ?_⟩
    ·rw [yH hk1]
     rfl
    ·show ns.length - ((k : Int) + 1).toNat < ns.length - ((k : Int)).toNat
     omega
   ·have c' : ¬ first ns (k + 1) <= sl := of_decide_eq_false (Bool.eq_false_iff.mpr c)
    have e := ja g0.rng hk hf (by omega)
    rw [e] at q
    exact ⟨_, rfl, _, Less.refl, q⟩
  ·rintro σ H2 Q1 Q2 hq ⟨v1, e1, v2, e2, i, j, x1, x2, k, x3, h⟩
   exact ⟨v1, e1, v2, e2, i, j, x1, x2, k, x3, hq _ _ h⟩
 ·obtain ⟨a, ns, sl, rfl, hS, h⟩ := h
  refine ⟨_, (zf (zx (i := 2) Sx5.nd rfl (Or.inl rfl) (zp (Cx3.up) zr hr rfl (zc (pv 0) za)))
   (yz (zy (yv (z6 yo xh zb (pv 1) (pv 2))) (ze (zQ zW rfl rfl rfl xf.m4 xf.o4 (zc yd za))) zE))), ?_⟩
  rcases h with ⟨ng, q⟩ | ⟨g0, n, q⟩
  ·exact ⟨_, rfl, .inr ⟨a, ns, rfl, hS, ng, _, Less.refl, q⟩⟩
  ·refine ⟨_, rfl, .inl ⟨a, ns, rfl, hS, g0, ?_⟩⟩
   refine ⟨_, rfl, _, _, rfl, rfl, _, rfl, ?_⟩
   refine zL (fun c => ?_) (fun c => ?_)
   ·have h0 : 0 <= sl := of_decide_eq_true c
    refine ⟨_, rfl, _, _, rfl, rfl, _, rfl, ?_⟩
    have e1 : decide (sl < ns.sum) = false := decide_eq_false (fun z => n ⟨h0, z⟩)
    rw [e1]
    refine yR ?_
    exact ⟨zl1, _, Less.refl, q⟩
   ·refine ⟨_, rfl, ?_⟩
    refine yR ?_
    exact ⟨zl1, _, Less.refl, q⟩
abbrev sx6 : Stmt := top 20
def Sx6 : zm ["pile"] ["pile"] (zd sx6) := by walk_at "s"
def Px6 (K : Frag) (T : Cl) (ec : Ec) : Sp := fun vs H Q _ => ∃ (p : Int), vs = [.int p] /\ 0 <= p /\ Q .non H
def Bx6 (K : Frag) (T : Cl) (ec : Ec) : BSp := fun vs H E => ∃ (p : Int), vs = [.int p] /\ p < 0 /\ E (.ref ec.noPile) none H
abbrev Yx6 : Prop := CalX P w K mg base 1 "check_pile" ["pile"] (orS (Px6 K T ec) (Bx6 K T ec))
theorem ox6 (D : Def K mg "check_pile" sx6 ["pile"]) : @Yx6 P w K mg base T ec := by
 refine D.okB Sx6 ?_ ?_ (fun _ _ _ _ _ H vs Q E hr h => ?_) (fun _ _ _ _ _ H vs E hr h => ?_)
 ·walk_at "l"
 ·walk_at "l"
 ·obtain ⟨p, rfl, hp, q⟩ := h
  refine ⟨_, (ze (zy (zl xh (pv 0) zb (zt _)) (ze yf) zE)), ?_⟩
  walk_at "r"
  refine zL (fun e => absurd (of_decide_eq_true e) (by omega)) (fun _ => ?_)
  exact ⟨_, Less.refl, q⟩
 ·obtain ⟨p, rfl, hp, q⟩ := h
  refine ⟨_, (ze (zy (zl xh (pv 0) zb (zt _)) (ze (zQ zW rfl rfl rfl xf.m2 xf.o2 (zc yd za))) zE)), ?_⟩
  walk_at "r"
  refine zL (fun e => ?_) (fun c => absurd (decide_eq_true hp) c)
  exact ⟨zl1, _, Less.refl, q⟩
abbrev sx7 : Stmt := top 21
def Sx7 : zm ["pile", "counts", "sign", "total", "count"] ["pile", "counts", "sign"] (zd sx7) := by walk_at "s"
def Px7 (K : Frag) (T : Cl) (ec : Ec) : Sp := fun vs H Q _ => ∃ (p : Int) (a : Addr) (ns : List Int) (k : Int), vs = [.int p, .ref a, .int k] /\ SqL K H a (ns.map V.int) /\ GoodC ns /\ 0 <= p /\ 0 <= k /\ k < (ns.length : Int) /\ 0 < ns.getD k.toNat 0 /\ Q (.int (kO ns k.toNat p)) H
def Bx7 (K : Frag) (T : Cl) (ec : Ec) : BSp := fun vs H E => ∃ (p : Int) (a : Addr) (ns : List Int) (k : Int), vs = [.int p, .ref a, .int k] /\ SqL K H a (ns.map V.int) /\ ((¬ GoodC ns /\ E (.ref ec.noShares) none H) \/ (GoodC ns /\ p < 0 /\ E (.ref ec.noPile) none H) \/ (GoodC ns /\ 0 <= p /\ zai ns k /\ E (.ref ec.noSign) none H))
abbrev Yx7 : Prop := CalX P w K mg base 3 "lay" ["pile", "counts", "sign"] (orS (Px7 K T ec) (Bx7 K T ec))
theorem ox7 (D : Def K mg "lay" sx7 ["pile", "counts", "sign"]) (Cx3 : @Yx3 P w K mg base T ec) (Cx6 : @Yx6 P w K mg base T ec) (Cx2 : @Yx2 P w K mg base T ec) (Cx4 : @Yx4 P w K mg base T ec) : @Yx7 P w K mg base T ec := by
 refine D.okB Sx7 ?_ ?_ (fun _ _ _ _ _ H vs Q E hr h => ?_) (fun _ _ _ _ _ H vs E hr h => ?_)
 ·walk_at "l"
 ·walk_at "l"
 ·obtain ⟨p, a, ns, k, rfl, hS, g0, hp, h0, h1, h2, q⟩ := h
  refine ⟨_, (zf (zx (i := 3) Sx7.nd rfl (Or.inl rfl) (zN (Cx3.good.up) hr rfl (zc (pv 1) za)))
   (zf (zi (zN (Cx6.good.up) hr rfl (zc (pv 0) za)))
   (zf (zx (i := 4) Sx7.nd rfl (Or.inl rfl) (zN (Cx2.good.up) hr rfl (zc (pv 1) (zc (pv 2) za))))
   (ze (zV (zq z8 (zq z8 (zq y0 (zq yi (pv 0) (pv 4)) (pv 3)) (zN (Cx4.good.up) hr rfl (zc (pv 1) (zc (pv 2) za)))) (zq zR (pv 0) (pv 4)))))))), ?_⟩
  have hc := g0.at k.toNat
  have gl := g0.le
  have gp := g0.pos
  refine ⟨_, rfl, a, ns, rfl, hS, g0, ?_⟩
  refine ⟨_, rfl, p, rfl, hp, ?_⟩
  refine ⟨_, rfl, _, rfl, a, ns, k, rfl, hS, h0, h1, h2, ?_⟩
  walk_at "r"
  refine ⟨a, ns, k, rfl, hS, g0, h0, h1, ?_⟩
  walk_at "r"
  exact ⟨_, Less.refl, q⟩
 ·obtain ⟨p, a, ns, k, rfl, hS, h⟩ := h
  refine ⟨_, (zf (zx (i := 3) Sx7.nd rfl (Or.inl rfl) (zp (Cx3.up) zr hr rfl (zc (pv 1) za)))
   (zf (zi (zp (Cx6.up) zr hr rfl (zc (pv 0) za)))
   (yz (zx (i := 4) Sx7.nd rfl (Or.inl rfl) (zp (Cx2.up) zr hr rfl (zc (pv 1) (zc (pv 2) za))))))), ?_⟩
  rcases h with ⟨ng, q⟩ | ⟨g0, hp, q⟩ | ⟨g0, hp, n, q⟩
  ·exact ⟨_, rfl, .inr ⟨a, ns, rfl, hS, ng, _, Less.refl, q⟩⟩
  ·refine ⟨_, rfl, .inl ⟨a, ns, rfl, hS, g0, ?_⟩⟩
   exact ⟨_, rfl, .inr ⟨p, rfl, hp, _, Less.refl, q⟩⟩
  ·refine ⟨_, rfl, .inl ⟨a, ns, rfl, hS, g0, ?_⟩⟩
   refine ⟨_, rfl, .inl ⟨p, rfl, hp, ?_⟩⟩
   exact ⟨_, rfl, _, rfl, .inr ⟨a, ns, k, rfl, hS, n, _, Less.refl, q⟩⟩
abbrev sx8 : Stmt := top 22
def Sx8 : zm ["pile", "counts", "total", "slot", "sign"] ["pile", "counts"] (zd sx8) := by walk_at "s"
def Px8 (K : Frag) (T : Cl) (ec : Ec) : Sp := fun vs H Q _ => ∃ (p : Int) (a : Addr) (ns : List Int), vs = [.int p, .ref a] /\ SqL K H a (ns.map V.int) /\ GoodC ns /\ 0 <= p /\ ∀ t, H t = none -> Q (.ref t) (upd H t (.tup [.int ((takeS ns p : Nat) : Int), .int (yD ns p)]))
def Bx8 (K : Frag) (T : Cl) (ec : Ec) : BSp := fun vs H E => ∃ (p : Int) (a : Addr) (ns : List Int), vs = [.int p, .ref a] /\ SqL K H a (ns.map V.int) /\ ((¬ GoodC ns /\ E (.ref ec.noShares) none H) \/ (GoodC ns /\ p < 0 /\ E (.ref ec.noPile) none H))
abbrev Yx8 : Prop := CalX P w K mg base 4 "take" ["pile", "counts"] (orS (Px8 K T ec) (Bx8 K T ec))
theorem ox8 (D : Def K mg "take" sx8 ["pile", "counts"]) (Cx3 : @Yx3 P w K mg base T ec) (Cx6 : @Yx6 P w K mg base T ec) (Cx5 : @Yx5 P w K mg base T ec) (Cx4 : @Yx4 P w K mg base T ec) : @Yx8 P w K mg base T ec := by
 refine D.okB Sx8 ?_ ?_ (fun _ _ _ _ _ H vs Q E hr h => ?_) (fun _ _ _ _ _ H vs E hr h => ?_)
 ·walk_at "l"
 ·walk_at "l"
 ·obtain ⟨p, a, ns, rfl, hS, g0, hp, q⟩ := h
  refine ⟨_, (zf (zx (i := 2) Sx8.nd rfl (Or.inl rfl) (zN (Cx3.good.up) hr rfl (zc (pv 1) za)))
   (zf (zi (zN (Cx6.good.up) hr rfl (zc (pv 0) za)))
   (zf (zx (i := 3) Sx8.nd rfl (Or.inl rfl) (zq zR (pv 0) (pv 2)))
   (zf (zx (i := 4) Sx8.nd rfl (Or.inl rfl) (zN (Cx5.good.up) hr rfl (zc (pv 1) (zc (pv 3) za))))
   (ze (zV (kG (zc (pv 4) (zc (zq xz (zq z8 (zq y0 (zq yi (pv 0) (pv 2)) (zU zK (pv 1) (pv 4) (fun _ _ => rfl))) (pv 3)) (zN (Cx4.good.up) hr rfl (zc (pv 1) (zc (pv 4) za)))) za))))))))), ?_⟩
  have gl := g0.le
  have gp := g0.pos
  obtain ⟨k1, k2, k3⟩ := jx g0 p
  have m0 := Int.emod_nonneg p (show ns.sum ≠ 0 by omega)
  have m1 := Int.emod_lt_of_pos p gp
  have hc := g0.at (takeS ns p)
  refine ⟨_, rfl, a, ns, rfl, hS, g0, ?_⟩
  refine ⟨_, rfl, p, rfl, hp, ?_⟩
  walk_at "r"
  refine ⟨a, ns, p % ns.sum, rfl, hS, g0, m0, m1, ?_⟩
  have es : signOf ns (p % ns.sum) = takeS ns p := rfl
  rw [es]
  walk_at "r"
  refine ⟨a, _, _, _, rfl, rfl, hS, atN k1, ?_⟩
  walk_at "r"
  refine ⟨a, ns, _, rfl, hS, g0, by omega, by omega, ?_⟩
  rw [Int.toNat_natCast]
  refine ⟨_, _, rfl, rfl, zl2, fun t ht => ?_⟩
  exact ⟨_, Less.new (zB ht) ht zh rfl, q t ht⟩
 ·obtain ⟨p, a, ns, rfl, hS, h⟩ := h
  refine ⟨_, (zf (zx (i := 2) Sx8.nd rfl (Or.inl rfl) (zp (Cx3.up) zr hr rfl (zc (pv 1) za)))
   (yz (zi (zp (Cx6.up) zr hr rfl (zc (pv 0) za))))), ?_⟩
  rcases h with ⟨ng, q⟩ | ⟨g0, hp, q⟩
  ·exact ⟨_, rfl, .inr ⟨a, ns, rfl, hS, ng, _, Less.refl, q⟩⟩
  ·refine ⟨_, rfl, .inl ⟨a, ns, rfl, hS, g0, ?_⟩⟩
   exact ⟨_, rfl, .inr ⟨p, rfl, hp, _, Less.refl, q⟩⟩
abbrev sx9 : Stmt := top 23
def Sx9 : zm ["pile", "counts", "row", "sign"] ["pile", "counts", "row"] (zd sx9) := by walk_at "s"
def Px9 (K : Frag) (T : Cl) (ec : Ec) : Sp := fun vs H Q _ => ∃ (p : Int) (a : Addr) (ns : List Int) (r : Addr) (rs : List Int), vs = [.int p, .ref a, .ref r] /\ SqL K H a (ns.map V.int) /\ SqL K H r (rs.map V.int) /\ GoodC ns /\ 0 <= p /\ (∀ k ∈ rs, OkS ns k) /\ Q (.int (xn ns rs p)) H
def Bx9 (K : Frag) (T : Cl) (ec : Ec) : BSp := fun vs H E => ∃ (p : Int) (a : Addr) (ns : List Int) (r : Addr) (rs : List Int), vs = [.int p, .ref a, .ref r] /\ SqL K H a (ns.map V.int) /\ SqL K H r (rs.map V.int) /\ ((¬ GoodC ns /\ E (.ref ec.noShares) none H) \/ (GoodC ns /\ p < 0 /\ E (.ref ec.noPile) none H) \/ (GoodC ns /\ 0 <= p /\ (∃ j, j < rs.length /\ zai ns (rs.reverse.getD j 0) /\ ∀ i, i < j -> OkS ns (rs.reverse.getD i 0)) /\ E (.ref ec.noSign) none H))
abbrev Yx9 : Prop := CalX P w K mg base 4 "lay_row" ["pile", "counts", "row"] (orS (Px9 K T ec) (Bx9 K T ec))
theorem ox9 (D : Def K mg "lay_row" sx9 ["pile", "counts", "row"]) (Cx0 : @Yx0 P w K mg base T ec) (Cx6 : @Yx6 P w K mg base T ec) (Cx7 : @Yx7 P w K mg base T ec) : @Yx9 P w K mg base T ec := by
 refine D.okB Sx9 ?_ ?_ (fun _ _ _ _ _ H vs Q E hr h => ?_) (fun _ _ _ _ _ H vs E hr h => ?_)
 ·walk_at "l"
 ·walk_at "l"
 ·obtain ⟨p, a, ns, r, rs, rfl, hS, hR, g0, hp, hk, q⟩ := h
  refine ⟨_, (zf (zi (zN (Cx0.good.up) hr rfl (zc (pv 1) za)))
   (zf (zi (zN (Cx6.good.up) hr rfl (zc (pv 0) za)))
   (zf (yE PassesOwn.never rfl (kQ rfl z.reversed (zc (pv 2) za)) (zX (i := 3) Sx9.nd rfl (Or.inl rfl)) (ze (zx (i := 0) Sx9.nd rfl (Or.inl rfl) (zN (Cx7.good.up) hr rfl (zc (pv 0) (zc (pv 1) (zc (pv 3) za)))))))
   (ze (zV (pv 0)))))), ?_⟩
  refine ⟨_, rfl, a, ns, rfl, hS, g0, ?_⟩
  refine ⟨_, rfl, p, rfl, hp, ?_⟩
  refine ⟨_, rfl, r, _, rfl, hR, qh (K := K) (a := r) (xs := rs.map V.int) (fun i σ H2 => ∃ v, σ = [some (.int (xn ns (rs.drop (rs.length - i)) p)), some (.ref a), some (.ref r), v] /\ H2 = H) ⟨none, ?_, rfl⟩ (fun i σ H2 _ ⟨_, _, e⟩ => e ▸ hR) ?_ ?_⟩
  ·rw [Nat.sub_zero, List.drop_length]
   rfl
  ·rintro i y σ H2 hi ⟨v, rfl, rfl⟩
   obtain ⟨h1, rfl, hm⟩ := wL hi
   obtain ⟨k0, k1, k2⟩ := hk _ hm
   have pn : 0 <= xn ns (rs.drop (rs.length - i)) p := xY g0 (fun x hx => hk x (List.mem_of_mem_drop hx)) hp
   refine ⟨_, rfl, _, rfl, _, rfl, _, a, ns, _, rfl, hS, g0, pn, k0, k1, k2, some (.int (rs.reverse.getD i 0)), ?_, rfl⟩
   rw [vC h1]
   rfl
  ·rintro σ H2 ⟨v, rfl, rfl⟩
   rw [List.length_map, Nat.sub_self, List.drop_zero]
   exact ⟨_, rfl, _, Less.refl, q⟩
 ·obtain ⟨p, a, ns, r, rs, rfl, hS, hR, h⟩ := h
  refine ⟨_, (zf (zi (zp (Cx0.up) zr hr rfl (zc (pv 1) za)))
   (zf (zi (zp (Cx6.up) zr hr rfl (zc (pv 0) za)))
   (yz (yE PassesOwn.leaving rfl (kQ rfl z.reversed (zc (pv 2) za)) (zX (i := 3) Sx9.nd rfl (Or.inl rfl)) (ze (zx (i := 0) Sx9.nd rfl (Or.inl rfl) (zp (Cx7.up) zr hr rfl (zc (pv 0) (zc (pv 1) (zc (pv 3) za)))))))))), ?_⟩
  rcases h with ⟨ng, q⟩ | ⟨g0, hp, q⟩ | ⟨g0, hp, ⟨j, jl, jb, jo⟩, q⟩
  ·exact ⟨_, rfl, .inr ⟨a, ns, rfl, hS, ng, _, Less.refl, q⟩⟩
  ·refine ⟨_, rfl, .inl ⟨a, ns, rfl, hS, g0, ?_⟩⟩
   exact ⟨_, rfl, .inr ⟨p, rfl, hp, _, Less.refl, q⟩⟩
  refine ⟨_, rfl, .inl ⟨a, ns, rfl, hS, g0, ?_⟩⟩
  refine ⟨_, rfl, .inl ⟨p, rfl, hp, ?_⟩⟩
  refine ⟨_, rfl, r, _, rfl, hR, qh (K := K) (a := r) (xs := rs.map V.int) (fun i σ H2 => ∃ (z : Int) (v : Option V), σ = [some (.int z), some (.ref a), some (.ref r), v] /\ H2 = H /\ 0 <= z /\ i <= j) ⟨p, none, rfl, rfl, hp, Nat.zero_le _⟩ (fun i σ H2 _ ⟨_, _, _, e, _⟩ => e ▸ hR) ?_ ?_⟩
  ·rintro i y σ H2 hi ⟨z, v, rfl, rfl, hz, ij⟩
   obtain ⟨h1, rfl, hm⟩ := wL hi
   by_cases e : i = j
   ·subst e
    exact ⟨_, rfl, _, rfl, _, rfl, .inr ⟨_, a, ns, _, rfl, hS, .inr (.inr ⟨g0, hz, jb, _, Less.refl, q⟩)⟩⟩
   ·obtain ⟨k0, k1, k2⟩ := jo i (by omega)
    exact ⟨_, rfl, _, rfl, _, rfl, .inl ⟨_, a, ns, _, rfl, hS, g0, hz, k0, k1, k2, _, some (.int (rs.reverse.getD i 0)), rfl, rfl, zcg g0 (by omega) k2 hz, by omega⟩⟩
  ·rintro σ H2 ⟨z, v, rfl, rfl, hz, ij⟩
   rw [List.length_map] at ij
   omega
abbrev zda : Stmt := top 24
def Sx10 : zm ["pile", "counts", "many", "row", "place", "taken"] ["pile", "counts", "many"] (zd zda) := by walk_at "s"
def Px10 (K : Frag) (T : Cl) (ec : Ec) : Sp := fun vs H Q _ => ∃ (p : Int) (a : Addr) (ns : List Int) (m : Int), vs = [.int p, .ref a, .int m] /\ SqL K H a (ns.map V.int) /\ GoodC ns /\ 0 <= p /\ 0 <= m /\ m <= 1000 ∧
 ∀ r t, H r = none -> (upd H r (.lst ((zS ns m.toNat p).1.map V.int))) t = none -> Q (.ref t) (upd (upd H r (.lst ((zS ns m.toNat p).1.map V.int))) t (.tup [.ref r, .int (zS ns m.toNat p).2]))
def Bx10 (K : Frag) (T : Cl) (ec : Ec) : BSp := fun vs H E => ∃ (p : Int) (a : Addr) (ns : List Int) (m : Int), vs = [.int p, .ref a, .int m] /\ SqL K H a (ns.map V.int) /\ ((¬ GoodC ns /\ E (.ref ec.noShares) none H) \/ (GoodC ns /\ p < 0 /\ E (.ref ec.noPile) none H))
abbrev Yx10 : Prop := CalX P w K mg base 5 "take_row" ["pile", "counts", "many"] (orS (Px10 K T ec) (Bx10 K T ec))
theorem ox10 (D : Def K mg "take_row" zda ["pile", "counts", "many"]) (Cx0 : @Yx0 P w K mg base T ec) (Cx6 : @Yx6 P w K mg base T ec) (Cx8 : @Yx8 P w K mg base T ec) : @Yx10 P w K mg base T ec := by
 refine D.okB Sx10 ?_ ?_ (fun _ _ _ _ _ H vs Q E hr h => ?_) (fun _ _ _ _ _ H vs E hr h => ?_)
 ·walk_at "l"
 ·walk_at "l"
 ·obtain ⟨p, a, ns, m, rfl, hS, g0, hp, h0, h1, q⟩ := h
  refine ⟨_, (zf (zi (zN (Cx0.good.up) hr rfl (zc (pv 1) za)))
   (zf (zi (zN (Cx6.good.up) hr rfl (zc (pv 0) za)))
   (zf (zx (i := 3) Sx10.nd rfl (Or.inl rfl) (xi za))
   (zf (yE PassesOwn.never rfl (xC rfl z.range (zc (pv 2) za)) (zX (i := 4) Sx10.nd rfl (Or.inl rfl)) (zf (zx (i := 5) Sx10.nd rfl (Or.inl rfl) (zN (Cx8.good.up) hr rfl (zc (pv 0) (zc (pv 1) za))))
   (zf (zi (xv PySem.F.plainAttrs_list PySem.F.slot_list_append PySem.F.type_list_append yS (pv 3) (zc (zU y8 (pv 5) zb (fun _ _ => rfl)) za)))
   (ze (zx (i := 0) Sx10.nd rfl (Or.inl rfl) (zU y8 (pv 5) zb (fun _ _ => rfl)))))))
   (ze (zV (kG (zc (pv 3) (zc (pv 0) za))))))))), ?_⟩
  refine ⟨_, rfl, a, ns, rfl, hS, g0, ?_⟩
  refine ⟨_, rfl, p, rfl, hp, ?_⟩
  refine ⟨zl0, fun r hr' => ?_⟩
  refine ⟨_, rfl, m, rfl, by omega, by omega, jM (n := m.toNat) (fun i σ H2 => ∃ v w, σ = [some (.int (zS ns i p).2), some (.ref a), some (.int m), some (.ref r), v, w] /\ Same H H2 /\ H2 r = some (.lst ((zS ns i p).1.map V.int))) ⟨none, none, rfl, zB hr', zh⟩ ?_ ?_⟩
  ·rintro i σ H2 hi ⟨v, w, rfl, ss, e⟩
   have pn := qt g0 i hp
   have ln := xw ns i p
   refine ⟨_, rfl, _, rfl, _, a, ns, rfl, ss.seq hS, g0, pn, fun t ht => ?_⟩
   have e2 := zF (u := .tup [.int ((takeS ns (zS ns i p).2 : Nat) : Int), .int (yD ns (zS ns i p).2)]) e ht
   have et : (upd H2 t (.tup [.int ((takeS ns (zS ns i p).2 : Nat) : Int), .int (yD ns (zS ns i p).2)])) t = some (.tup [.int ((takeS ns (zS ns i p).2 : Nat) : Int), .int (yD ns (zS ns i p).2)]) := zh
   have ss2 := ss.trans (zB (u := .tup [.int ((takeS ns (zS ns i p).2 : Nat) : Int), .int (yD ns (zS ns i p).2)]) ht)
   generalize upd H2 t (.tup [.int ((takeS ns (zS ns i p).2 : Nat) : Int), .int (yD ns (zS ns i p).2)]) = H3 at e2 et ss2 |-
   have ntr : t ≠ r := xR et e2 (by intro z; cases z)
   refine ⟨_, rfl, .inl ⟨rfl, _, SqL.of e2⟩, _, rfl, t, _, _, _, rfl, rfl, SqT.of et, rfl, r, _, _, rfl, rfl, e2, jO (by rw [List.length_map]; omega), ?_⟩
   refine ⟨_, rfl, t, _, _, _, rfl, rfl, SqT.of (by rw [zj ntr]; exact et), rfl, ?_⟩
   rw [jy]
   refine ⟨_, _, rfl, fun b o q1 => ?_, ?_⟩
   ·rw [zj (zu q1 hr')]
    exact ss2 b o q1
   ·rw [zh, List.map_append]
    rfl
  ·rintro σ H2 ⟨v, w, rfl, ss, e⟩
   refine ⟨_, rfl, _, rfl, zl2, fun t ht => ?_⟩
   have hH : H t = none := ss.free ht
   have ntr : t ≠ r := fun z => by rw [z, e] at ht; cases ht
   have h2t : (upd H r (.lst ((zS ns m.toNat p).1.map V.int))) t = none := by rw [zj ntr]; exact hH
   refine ⟨_, Less.add (Less.new (ss.trans (zB ht)) hr' (zF e ht) rfl) h2t zh rfl, q r t hr' h2t⟩
 ·obtain ⟨p, a, ns, m, rfl, hS, h⟩ := h
  refine ⟨_, (zf (zi (zp (Cx0.up) zr hr rfl (zc (pv 1) za)))
   (yz (zi (zp (Cx6.up) zr hr rfl (zc (pv 0) za))))), ?_⟩
  rcases h with ⟨ng, q⟩ | ⟨g0, hp, q⟩
  ·exact ⟨_, rfl, .inr ⟨a, ns, rfl, hS, ng, _, Less.refl, q⟩⟩
  ·refine ⟨_, rfl, .inl ⟨a, ns, rfl, hS, g0, ?_⟩⟩
   exact ⟨_, rfl, .inr ⟨p, rfl, hp, _, Less.refl, q⟩⟩
abbrev zdb : Stmt := top 26
def Sx11 : zm ["counts"] ["counts"] (zd zdb) := by walk_at "s"
def Px11 (K : Frag) (T : Cl) (ec : Ec) : Sp := fun vs H Q _ => ∃ (a : Addr) (ns : List Int), vs = [.ref a] /\ SqL K H a (ns.map V.int) /\ qf ns /\ Q .non H
def Bx11 (K : Frag) (T : Cl) (ec : Ec) : BSp := fun vs H E => ∃ (a : Addr) (ns : List Int), vs = [.ref a] /\ SqL K H a (ns.map V.int) /\ ¬ qf ns /\ E (.ref ec.noShares) none H
abbrev Yx11 : Prop := CalX P w K mg base 2 "check_full" ["counts"] (orS (Px11 K T ec) (Bx11 K T ec))
theorem ox11 (D : Def K mg "check_full" zdb ["counts"]) (Cx0 : @Yx0 P w K mg base T ec) : @Yx11 P w K mg base T ec := by
 refine D.okB Sx11 ?_ ?_ (fun _ _ _ _ _ H vs Q E hr h => ?_) (fun _ _ _ _ _ H vs E hr h => ?_)
 ·walk_at "l"
 ·walk_at "l"
 ·obtain ⟨a, ns, rfl, hS, g0, q⟩ := h
  refine ⟨_, (zf (zi (zN (Cx0.good.up) hr rfl (zc (pv 0) za)))
   (ze (zy (zl zH (zw (kg rfl) rfl z.min zeo (zc (pv 0) za)) zb (zt _)) (ze yf) zE))), ?_⟩
  refine ⟨_, rfl, a, ns, rfl, hS, g0.g, ?_⟩
  refine ⟨_, rfl, a, ns, rfl, hS, g0.g.len0, fun i hi _ => ?_⟩
  have h1 := g0.one i hi
  walk_at "r"
  refine zL (fun e => absurd (V.int.inj (of_decide_eq_true e)) (by omega)) (fun _ => ?_)
  exact ⟨_, Less.refl, q⟩
 ·obtain ⟨a, ns, rfl, hS, nf, q⟩ := h
  refine ⟨_, (zf (zi (zp (Cx0.up) zr hr rfl (zc (pv 0) za)))
   (ze (zy (zl zH (zw (kg rfl) rfl z.min zeo (zc (pv 0) za)) zb (zt _)) (ze (zQ zW rfl rfl rfl xf.m1 xf.o1 (zc yd za))) zE))), ?_⟩
  by_cases g0 : GoodC ns
  ·refine ⟨_, rfl, .inl ⟨a, ns, rfl, hS, g0, ?_⟩⟩
   refine ⟨_, rfl, a, ns, rfl, hS, g0.len0, fun i hi hm => ?_⟩
   walk_at "r"
   have h1 := g0.rng i hi
   by_cases c : i = 0
   ·have e1 : decide (V.int i = V.int 0) = true := decide_eq_true (by rw [c])
    rw [e1]
    refine yR ?_
    exact ⟨zl1, _, Less.refl, q⟩
   ·exact absurd ⟨g0, fun c hc => by have := hm c hc; omega⟩ nf
  ·exact ⟨_, rfl, .inr ⟨a, ns, rfl, hS, g0, _, Less.refl, q⟩⟩
abbrev zdc : Stmt := top 27
def Sx12 : zm ["rows", "many", "length", "counts"] ["rows", "many", "length"] (zd zdc) := by walk_at "s"
def Px12 (K : Frag) (T : Cl) (ec : Ec) : Sp := fun vs H Q _ => ∃ (a : Addr) (as : List Addr) (rows : List (List Int)) (l : Int), vs = [.ref a, .int (rows.length : Int), .int l] /\ TabL K H a as rows /\ (∀ i, i < rows.length -> qf (rows.getD i []) /\ ((rows.getD i []).length : Int) = l) /\ Q .non H
def Bx12 (K : Frag) (T : Cl) (ec : Ec) : BSp := fun vs H E => ∃ (a : Addr) (as : List Addr) (rows : List (List Int)) (n l : Int), vs = [.ref a, .int n, .int l] /\ TabL K H a as rows /\ ¬ zc4 rows n l /\ E (.ref ec.noShares) none H
abbrev Yx12 : Prop := CalX P w K mg base 3 "check_rows" ["rows", "many", "length"] (orS (Px12 K T ec) (Bx12 K T ec))
theorem ox12 (D : Def K mg "check_rows" zdc ["rows", "many", "length"]) (Cx11 : @Yx11 P w K mg base T ec) : @Yx12 P w K mg base T ec := by
 refine D.okB Sx12 ?_ ?_ (fun _ _ _ _ _ H vs Q E hr h => ?_) (fun _ _ _ _ _ H vs E hr h => ?_)
 ·walk_at "l"
 ·walk_at "l"
 ·obtain ⟨a, as, rows, l, rfl, tb, hr0, q⟩ := h
  refine ⟨_, (zf (zy (zl vp (zw zC rfl z.len yg (zc (pv 0) za)) (pv 1) (zt _)) (ze yf) zE)
   (ze (yE PassesOwn.never rfl (yN (pv 0)) (zX (i := 3) Sx12.nd rfl (Or.inl rfl)) (zf (zi (zN (Cx11.good.up) hr rfl (zc (pv 3) za)))
   (ze (zy (zl vp (zw zC rfl z.len yg (zc (pv 3) za)) (pv 2) (zt _)) (ze yf) zE)))))), ?_⟩
  have el : (as.map V.ref).length = rows.length := by rw [List.length_map]; exact tb.len
  refine ⟨_, rfl, a, _, rfl, .inl tb.ls, _, rfl, rfl, _, rfl, ?_⟩
  refine zL (fun e => ?_) (fun _ => ?_)
  ·rw [el] at e
   simp at e
  refine ⟨_, rfl, a, rfl, ⟨_, tb.ls⟩, xb (K := K) (a := a) (xs := as.map V.ref) (fun i σ H2 => ∃ v, σ = [some (.ref a), some (.int (rows.length : Int)), some (.int l), v] /\ H2 = H) ⟨none, rfl, rfl⟩ (fun i σ H2 _ ⟨_, _, e⟩ => e ▸ tb.ls) ?_ ?_⟩
  ·rintro i y σ H2 hi ⟨v, rfl, rfl⟩
   obtain ⟨h1, rfl⟩ := zcw hi
   have h2 : i < rows.length := by rw [<- tb.len]; exact h1
   have f := hr0 i h2
   have s := tb.at_ i h2
   refine ⟨_, rfl, _, _, rfl, s, f.1, ?_⟩
   refine ⟨_, rfl, _, _, rfl, .inl s, _, rfl, rfl, _, rfl, ?_⟩
   refine zL (fun e => ?_) (fun _ => ?_)
   ·rw [List.length_map, f.2] at e
    simp at e
   ·exact ⟨_, rfl, rfl⟩
  ·rintro σ H2 ⟨v, rfl, rfl⟩
   exact ⟨_, Less.refl, q⟩
 ·obtain ⟨a, as, rows, n, l, rfl, tb, nr, q⟩ := h
  refine ⟨_, (zf (zy (zl vp (zw zC rfl z.len yg (zc (pv 0) za)) (pv 1) (zt _)) (ze (zQ zW rfl rfl rfl xf.m1 xf.o1 (zc yd za))) zE)
   (ze (yE PassesOwn.leaving rfl (yN (pv 0)) (zX (i := 3) Sx12.nd rfl (Or.inl rfl)) (zf (zi (zp (Cx11.up) zr hr rfl (zc (pv 3) za)))
   (ze (zy (zl vp (zw zC rfl z.len yg (zc (pv 3) za)) (pv 2) (zt _)) (ze (zQ zW rfl rfl rfl xf.m1 xf.o1 (zc yd za))) zE)))))), ?_⟩
  have el : (as.map V.ref).length = rows.length := by rw [List.length_map]; exact tb.len
  refine ⟨_, rfl, a, _, rfl, .inl tb.ls, _, rfl, rfl, _, rfl, ?_⟩
  rw [el]
  by_cases c : n = (rows.length : Int)
  rotate_left
  ·have e1 : (!decide (V.int (rows.length : Int) = V.int n)) = true := by
    rw [decide_eq_false (fun e => c (V.int.inj e).symm)]
    rfl
   rw [e1]
   refine yR ?_
   exact ⟨zl1, _, Less.refl, q⟩
  have e1 : (!decide (V.int (rows.length : Int) = V.int n)) = false := by
   rw [decide_eq_true (by rw [c])]
   rfl
  rw [e1]
  refine xD ?_
  refine ⟨_, rfl, a, rfl, ⟨_, tb.ls⟩, xb (K := K) (a := a) (xs := as.map V.ref) (fun i σ H2 => ∃ v, σ = [some (.ref a), some (.int n), some (.int l), v] /\ H2 = H /\ ∀ j, j < i -> qf (rows.getD j []) /\ ((rows.getD j []).length : Int) = l) ⟨none, rfl, rfl, fun j hj => absurd hj (Nat.not_lt_zero _)⟩ (fun i σ H2 _ ⟨_, _, e, _⟩ => e ▸ tb.ls) ?_ ?_⟩
  ·rintro i y σ H2 hi ⟨v, rfl, rfl, hj⟩
   obtain ⟨h1, rfl⟩ := zcw hi
   have h2 : i < rows.length := by rw [<- tb.len]; exact h1
   have s := tb.at_ i h2
   by_cases f : qf (rows.getD i [])
   ·refine ⟨_, rfl, .inl ⟨_, _, rfl, s, f, ?_⟩⟩
    refine ⟨_, rfl, _, _, rfl, .inl s, _, rfl, rfl, _, rfl, ?_⟩
    rw [List.length_map]
    by_cases c2 : ((rows.getD i []).length : Int) = l
    ·have e1 : (!decide (V.int ((rows.getD i []).length : Int) = V.int l)) = false := by
      rw [decide_eq_true (by rw [c2])]
      rfl
     rw [e1]
     refine xD ?_
     refine ⟨_, rfl, rfl, fun j hj2 => ?_⟩
     rcases Nat.lt_or_ge j i with z | z
     ·exact hj j z
     ·have : j = i := by omega
      subst this
      exact ⟨f, c2⟩
    ·have e1 : (!decide (V.int ((rows.getD i []).length : Int) = V.int l)) = true := by
      rw [decide_eq_false (fun e => c2 (V.int.inj e))]
      rfl
     rw [e1]
     refine yR ?_
     exact ⟨zl1, _, Less.refl, q⟩
   ·exact ⟨_, rfl, .inr ⟨_, _, rfl, s, f, _, Less.refl, q⟩⟩
  ·rintro σ H2 ⟨v, rfl, rfl, hj⟩
   rw [el] at hj
   exact absurd ⟨c, hj⟩ nr
abbrev zdd : Stmt := top 28
def Sx13 : zm ["prior", "given", "back", "many"] ["prior", "given", "back"] (zd zdd) := by walk_at "s"
def Px13 (K : Frag) (T : Cl) (ec : Ec) : Sp := fun vs H Q _ => ∃ (a g b : Addr) (gs bs : List Addr) (prior : List Int) (given back : List (List Int)), vs = [.ref a, .ref g, .ref b] /\ SqL K H a (prior.map V.int) /\ TabL K H g gs given /\ TabL K H b bs back /\ vJ prior given back /\ Q .non H
def Bx13 (K : Frag) (T : Cl) (ec : Ec) : BSp := fun vs H E => ∃ (a g b : Addr) (gs bs : List Addr) (prior : List Int) (given back : List (List Int)), vs = [.ref a, .ref g, .ref b] /\ SqL K H a (prior.map V.int) /\ TabL K H g gs given /\ TabL K H b bs back /\ ¬ vJ prior given back /\ E (.ref ec.noShares) none H
abbrev Yx13 : Prop := CalX P w K mg base 4 "check_tables" ["prior", "given", "back"] (orS (Px13 K T ec) (Bx13 K T ec))
theorem ox13 (D : Def K mg "check_tables" zdd ["prior", "given", "back"]) (Cx11 : @Yx11 P w K mg base T ec) (Cx12 : @Yx12 P w K mg base T ec) : @Yx13 P w K mg base T ec := by
 refine D.okB Sx13 ?_ ?_ (fun _ _ _ _ _ H vs Q E hr h => ?_) (fun _ _ _ _ _ H vs E hr h => ?_)
 ·walk_at "l"
 ·walk_at "l"
 ·obtain ⟨a, g, b, gs, bs, prior, given, back, rfl, hS, tg, tb, t, q⟩ := h
  refine ⟨_, (zf (zi (zN (Cx11.good.up) hr rfl (zc (pv 0) za)))
   (zf (zy (zl zH (zw zC rfl z.len yg (zc (pv 1) za)) zb (zt _)) (ze yf) zE)
   (zf (zx (i := 3) Sx13.nd rfl (Or.inl rfl) (zw zC rfl z.len yg (zc (zU zK (pv 1) zb (fun _ _ => rfl)) za)))
   (zf (zi (zN (Cx12.good.up) hr rfl (zc (pv 1) (zc (zw zC rfl z.len yg (zc (pv 0) za)) (zc (pv 3) za)))))
   (ze (zi (zN (Cx12.good.up) hr rfl (zc (pv 2) (zc (pv 3) (zc (zw zC rfl z.len yg (zc (pv 0) za)) za)))))))))), ?_⟩
  have p0 := t.p.g.len0
  have g0 := t.g0
  have eg : (gs.map V.ref).length = given.length := by rw [List.length_map]; exact tg.len
  have h0 := t.gr 0 (by omega)
  refine ⟨_, rfl, a, prior, rfl, hS, t.p, ?_⟩
  refine ⟨_, rfl, g, _, rfl, .inl tg.ls, rfl, _, rfl, ?_⟩
  refine zL (fun e => ?_) (fun _ => ?_)
  ·rw [eg] at e
   have := V.int.inj (of_decide_eq_true e)
   omega
  refine ⟨_, rfl, g, _, _, _, rfl, rfl, tg.ls, tg.ix (i := 0) (by omega) (by omega), ?_⟩
  refine ⟨_, _, rfl, .inl (tg.rowZ (i := 0) (by omega) (by omega)), ?_⟩
  have e1 : (((given.getD (0 : Int).toNat []).map V.int).length : Int) = (back.length : Int) := by rw [List.length_map]; exact congrArg _ h0.2
  rw [e1]
  refine ⟨_, rfl, _, rfl, a, _, rfl, .inl hS, _, rfl, g, gs, given, (back.length : Int), ?_, tg, fun i hi => ⟨(t.gr i hi).1, congrArg _ (t.gr i hi).2⟩, ?_⟩
  ·rw [List.length_map, g0]
   rfl
  refine ⟨_, rfl, _, rfl, _, rfl, a, _, rfl, .inl hS, b, bs, back, (prior.length : Int), ?_, tb, fun i hi => ⟨(t.br i hi).1, congrArg _ (t.br i hi).2⟩, ?_⟩
  ·rw [List.length_map]
   rfl
  exact ⟨_, Less.refl, q⟩
 ·obtain ⟨a, g, b, gs, bs, prior, given, back, rfl, hS, tg, tb, nt, q⟩ := h
  refine ⟨_, (zf (zi (zp (Cx11.up) zr hr rfl (zc (pv 0) za)))
   (zf (zy (zl zH (zw zC rfl z.len yg (zc (pv 1) za)) zb (zt _)) (ze (zQ zW rfl rfl rfl xf.m1 xf.o1 (zc yd za))) zE)
   (zf (zx (i := 3) Sx13.nd rfl (Or.inl rfl) (zw zC rfl z.len yg (zc (zU zK (pv 1) zb (fun _ _ => rfl)) za)))
   (zf (zi (zp (Cx12.up) zr hr rfl (zc (pv 1) (zc (zw zC rfl z.len yg (zc (pv 0) za)) (zc (pv 3) za)))))
   (ze (zi (zp (Cx12.up) zr hr rfl (zc (pv 2) (zc (pv 3) (zc (zw zC rfl z.len yg (zc (pv 0) za)) za)))))))))), ?_⟩
  have eg : (gs.map V.ref).length = given.length := by rw [List.length_map]; exact tg.len
  by_cases f : qf prior
  rotate_left
  ·exact ⟨_, rfl, .inr ⟨a, prior, rfl, hS, f, _, Less.refl, q⟩⟩
  refine ⟨_, rfl, .inl ⟨a, prior, rfl, hS, f, ?_⟩⟩
  refine ⟨_, rfl, g, _, rfl, .inl tg.ls, rfl, _, rfl, ?_⟩
  rw [eg]
  by_cases g0 : given.length = 0
  ·have e1 : decide (V.int (given.length : Int) = V.int 0) = true := decide_eq_true (by rw [g0]; rfl)
   rw [e1]
   refine yR ?_
   exact ⟨zl1, _, Less.refl, q⟩
  have e1 : decide (V.int (given.length : Int) = V.int 0) = false := decide_eq_false (fun e => by have := V.int.inj e; omega)
  rw [e1]
  refine xD ?_
  refine ⟨_, rfl, g, _, _, _, rfl, rfl, tg.ls, tg.ix (i := 0) (by omega) (by omega), ?_⟩
  refine ⟨_, _, rfl, .inl (tg.rowZ (i := 0) (by omega) (by omega)), ?_⟩
  have e2 : (((given.getD (0 : Int).toNat []).map V.int).length : Int) = ((given.getD 0 []).length : Int) := by rw [List.length_map]; rfl
  have e3 : ((prior.map V.int).length : Int) = (prior.length : Int) := by rw [List.length_map]
  rw [e2]
  by_cases r1 : zc4 given (prior.length : Int) ((given.getD 0 []).length : Int)
  rotate_left
  ·refine ⟨_, rfl, _, rfl, a, _, rfl, .inl hS, _, rfl, ?_⟩
   rw [e3]
   exact .inr ⟨g, gs, given, _, _, rfl, tg, r1, _, Less.refl, q⟩
  refine ⟨_, rfl, _, rfl, a, _, rfl, .inl hS, _, rfl, ?_⟩
  rw [e3, r1.1]
  refine .inl ⟨g, gs, given, _, rfl, tg, r1.2, ?_⟩
  refine ⟨_, rfl, _, rfl, _, rfl, a, _, rfl, .inl hS, ?_⟩
  rw [e3]
  refine .inr ⟨b, bs, back, _, _, rfl, tb, fun r2 => nt ⟨f, by have := r1.1; omega, fun i hi => ⟨(r1.2 i hi).1, by have := (r1.2 i hi).2; have := r2.1; omega⟩, fun i hi => ⟨(r2.2 i hi).1, by have := (r2.2 i hi).2; omega⟩⟩, _, Less.refl, q⟩
abbrev zde : Stmt := top 29
def Sx14 : zm ["pile", "prior", "given", "back", "sign", "chosen", "hidden"] ["pile", "prior", "given", "back", "sign"] (zd zde) := by walk_at "s"
def Bx14 (K : Frag) (T : Cl) (ec : Ec) : BSp := fun vs H E => ∃ (p k : Int) (a g b : Addr) (gs bs : List Addr) (prior : List Int) (given back : List (List Int)), vs = [.int p, .ref a, .ref g, .ref b, .int k] /\ SqL K H a (prior.map V.int) /\ TabL K H g gs given /\ TabL K H b bs back /\ ((¬ vJ prior given back /\ E (.ref ec.noShares) none H) \/ (vJ prior given back /\ p < 0 /\ E (.ref ec.noPile) none H) \/ (vJ prior given back /\ 0 <= p /\ ¬ (0 <= k /\ k < (back.length : Int)) /\ E (.ref ec.noSign) none H))
abbrev zbu : Prop := CalX P w K mg base 5 "lay_hidden" ["pile", "prior", "given", "back", "sign"] (fun vs H _ E => Bx14 K T ec vs H E)
theorem ox14 (D : Def K mg "lay_hidden" zde ["pile", "prior", "given", "back", "sign"]) (Cx13 : @Yx13 P w K mg base T ec) (Cx6 : @Yx6 P w K mg base T ec) (Cx1 : @Yx1 P w K mg base T ec) : @zbu P w K mg base T ec := by
 refine D.okR Sx14 ?_ (fun _ _ _ _ _ H vs E hr h => ?_)
 ·walk_at "l"
 ·obtain ⟨p, k, a, g, b, gs, bs, prior, given, back, rfl, hS, tg, tb, h⟩ := h
  refine ⟨_, (zf (zi (zp (Cx13.up) zr hr rfl (zc (pv 1) (zc (pv 2) (zc (pv 3) za)))))
   (zf (zi (zp (Cx6.up) zr hr rfl (zc (pv 0) za)))
   (yz (zi (zp (Cx1.up) zr hr rfl (zc (zw zC rfl z.len yg (zc (pv 3) za)) (zc (pv 4) za))))))), ?_⟩
  have eb : (bs.map V.ref).length = back.length := by rw [List.length_map]; exact tb.len
  rcases h with ⟨t, q⟩ | ⟨t, hp, q⟩ | ⟨t, hp, n, q⟩
  ·exact ⟨_, rfl, _, rfl, _, rfl, .inr ⟨a, g, b, gs, bs, prior, given, back, rfl, hS, tg, tb, t, _, Less.refl, q⟩⟩
  ·refine ⟨_, rfl, _, rfl, _, rfl, .inl ⟨a, g, b, gs, bs, prior, given, back, rfl, hS, tg, tb, t, ?_⟩⟩
   exact ⟨_, rfl, .inr ⟨p, rfl, hp, _, Less.refl, q⟩⟩
  ·refine ⟨_, rfl, _, rfl, _, rfl, .inl ⟨a, g, b, gs, bs, prior, given, back, rfl, hS, tg, tb, t, ?_⟩⟩
   refine ⟨_, rfl, .inl ⟨p, rfl, hp, ?_⟩⟩
   exact ⟨_, rfl, b, _, rfl, .inl tb.ls, _, rfl, .inr ⟨_, _, rfl, by rw [eb]; exact n, _, Less.refl, q⟩⟩
abbrev zdf : Stmt := top 30
def Sx15 : zm ["pile", "prior", "given", "back", "chosen", "hidden", "taken", "sign"] ["pile", "prior", "given", "back"] (zd zdf) := by walk_at "s"
def Bx15 (K : Frag) (T : Cl) (ec : Ec) : BSp := fun vs H E => ∃ (p : Int) (a g b : Addr) (gs bs : List Addr) (prior : List Int) (given back : List (List Int)), vs = [.int p, .ref a, .ref g, .ref b] /\ SqL K H a (prior.map V.int) /\ TabL K H g gs given /\ TabL K H b bs back /\ ¬ vJ prior given back /\ E (.ref ec.noShares) none H
abbrev Yx15 : Prop := CalX P w K mg base 5 "take_hidden" ["pile", "prior", "given", "back"] (fun vs H _ E => Bx15 K T ec vs H E)
theorem ox15 (D : Def K mg "take_hidden" zdf ["pile", "prior", "given", "back"]) (Cx13 : @Yx13 P w K mg base T ec) : @Yx15 P w K mg base T ec := by
 refine D.okR Sx15 ?_ (fun _ _ _ _ _ H vs E hr h => ?_)
 ·walk_at "l"
 ·obtain ⟨p, a, g, b, gs, bs, prior, given, back, rfl, hS, tg, tb, t, q⟩ := h
  refine ⟨_, (yz (zi (zp (Cx13.up) zr hr rfl (zc (pv 1) (zc (pv 2) (zc (pv 3) za)))))), ?_⟩
  exact ⟨_, rfl, _, rfl, _, rfl, .inr ⟨a, g, b, gs, bs, prior, given, back, rfl, hS, tg, tb, t, _, Less.refl, q⟩⟩
abbrev zdg : Stmt := top 36
def Sx16 : zm ["text", "sign"] ["text"] (zd zdg) := by walk_at "s"
def Px16 (K : Frag) (T : Cl) (ec : Ec) : Sp := fun vs H Q _ => ∃ (l : List Nat), vs = [.str (tx l)] /\ GT l /\ Q .non H
def Bx16 (K : Frag) (T : Cl) (ec : Ec) : BSp := fun vs H E => ∃ (l : List Nat), vs = [.str (tx l)] /\ ¬ GT l /\ l.length <= 2000 /\ E (.ref ec.noText) none H
abbrev Yx16 : Prop := CalX P w K mg base 1 "check_text" ["text"] (orS (Px16 K T ec) (Bx16 K T ec))
theorem ox16 (D : Def K mg "check_text" zdg ["text"]) : @Yx16 P w K mg base T ec := by
 refine D.okB Sx16 ?_ ?_ (fun _ _ _ _ _ H vs Q E hr h => ?_) (fun _ _ _ _ _ H vs E hr h => ?_)
 ·walk_at "l"
 ·walk_at "l"
 ·obtain ⟨l, rfl, gl, q⟩ := h
  refine ⟨_, (zf (zy (zl qm (zw yJ rfl z.len yg (zc (pv 0) za)) (yq rfl g.MOST_TEXT) (zt _)) (ze yf) zE)
   (ze (yE PassesOwn.never rfl (qA (pv 0)) (zX (i := 1) Sx16.nd rfl (Or.inl rfl)) (ze (zy (zl jW (pv 1) (yp xJ rfl g.SIGNS) (by with_unfolding_all rfl)) (ze yf) zE))))), ?_⟩
  have hl := gl.len
  refine ⟨_, rfl, l, rfl, szl (by omega), _, _, rfl, rfl, _, rfl, ?_⟩
  refine zL (fun c => ?_) (fun c => ?_)
  ·have c' := of_decide_eq_true c
   omega
  ·refine ⟨_, rfl, l, rfl, kZ (l := l) (fun i σ H2 => H2 = H /\ ∃ v1, σ = [some (.str (tx l)), v1]) ⟨rfl, _, rfl⟩ ?_ ?_⟩
   ·rintro i c σ H2 hi ⟨rfl, v1, rfl⟩
    have hc := gl.sg c (List.mem_of_getElem? hi)
    refine ⟨_, rfl, _, _, rfl, rfl, _, rfl, ?_⟩
    rw [decide_eq_true hc]
    exact ⟨rfl, _, rfl⟩
   ·rintro σ H2 ⟨rfl, v1, rfl⟩
    exact ⟨_, Less.refl, q⟩
 ·obtain ⟨l, rfl, ng, hl, q⟩ := h
  refine ⟨_, (zf (zy (zl qm (zw yJ rfl z.len yg (zc (pv 0) za)) (yq rfl g.MOST_TEXT) (zt _)) (ze (zQ zW rfl rfl rfl xf.m6 xf.o6 (zc yd za))) zE)
   (ze (yE PassesOwn.leaving rfl (qA (pv 0)) (zX (i := 1) Sx16.nd rfl (Or.inl rfl)) (ze (zy (zl jW (pv 1) (yp xJ rfl g.SIGNS) (by with_unfolding_all rfl)) (ze (zQ zW rfl rfl rfl xf.m6 xf.o6 (zc yd za))) zE))))), ?_⟩
  refine ⟨_, rfl, l, rfl, szk (by omega), _, _, rfl, rfl, _, rfl, ?_⟩
  refine zL (fun c => ?_) (fun c => ?_)
  ·exact ⟨zl1, _, Less.refl, q⟩
  ·have c' : ¬ (150 : Int) < ((l.length : Nat) : Int) := fun z => c (decide_eq_true z)
   refine ⟨_, rfl, l, rfl, kZ (l := l) (fun i σ H2 => H2 = H /\ (∃ v1, σ = [some (.str (tx l)), v1]) /\ ∀ j c, j < i -> l[j]? = some c -> c ∈ sgs) ⟨rfl, ⟨_, rfl⟩, fun j c hj => absurd hj (Nat.not_lt_zero _)⟩ ?_ ?_⟩
   ·rintro i c σ H2 hi ⟨rfl, ⟨v1, rfl⟩, hj⟩
    refine ⟨_, rfl, _, _, rfl, rfl, _, rfl, ?_⟩
    by_cases hc : c ∈ sgs
    ·rw [decide_eq_true hc]
     refine ⟨rfl, ⟨_, rfl⟩, fun j d h1 h2 => ?_⟩
     rcases Nat.lt_or_ge j i with z | z
     ·exact hj j d z h2
     ·have e : j = i := by omega
      rw [e, hi] at h2
      rw [<- Option.some.inj h2]
      exact hc
    ·rw [decide_eq_false hc]
     exact ⟨zl1, _, Less.refl, q⟩
   ·rintro σ H2 ⟨rfl, ⟨v1, rfl⟩, hj⟩
    refine absurd ⟨by omega, fun c hc => ?_⟩ ng
    obtain ⟨j, h1, h2⟩ := List.getElem_of_mem hc
    exact hj j c h1 (by rw [List.getElem?_eq_getElem h1, h2])
abbrev zdh : Stmt := top 37
def Sx17 : zm ["sign", "count", "place"] ["sign", "count"] (zd zdh) := by walk_at "s"
def Px17 (K : Frag) (T : Cl) (ec : Ec) : Sp := fun vs H Q _ => ∃ (c n : Nat), vs = [.str (tx [c]), .int (n : Int)] /\ c ∈ sgs /\ n <= 999 /\ Q (.str (tx (ent c n))) H
abbrev Yx17 : Prop := Cal P w K mg base 1 "entry" ["sign", "count"] (Px17 K T ec)
theorem ox17 (D : Def K mg "entry" zdh ["sign", "count"]) : @Yx17 P w K mg base T ec := by
 refine D.ok Sx17 ?_ (fun _ _ _ _ _ H vs Q E hr h => ?_)
 ·walk_at "l"
 obtain ⟨c, n, rfl, hc, hn, q⟩ := h
 refine ⟨_, (zf (zx (i := 2) Sx17.nd rfl (Or.inl rfl) (xv PySem.F.plainAttrs_str PySem.F.slot_str_index PySem.F.type_str_index vW (yp xJ rfl g.SIGNS) (zc (pv 0) za)))
   (ze (zV (zbg (zcO (pv 2) (ze3 (yl (m := [120]) (by decide +kernel)) (zcO (pv 1) ze2))))))), ?_⟩
 refine ⟨rfl, _, rfl, _, _, rfl, rfl, hc, ?_⟩
 have hp := zcK hc
 have hl := vh hc hn
 have l1 := qj (k := 2) (n := plc c) (by decide) (by omega)
 have l2 := qj (k := 3) (n := n) (by decide) (by omega)
 have e : ([] ++ dec (plc c) ++ [120]) ++ dec n = ent c n := by unfold ent; simp
 refine ⟨_, rfl, plc c, rfl, by omega, szl (by rw [List.nil_append]; omega), szl (by simp; omega), _, rfl, n, rfl, by omega, szl (by rw [e]; omega), szl (by rw [e]; omega), ?_⟩
 rw [e]
 exact ⟨_, Less.refl, q⟩
abbrev zdi : Stmt := top 38
def Sx18 : zm ["pile", "letters"] ["pile"] (zd zdi) := by walk_at "s"
def Px18 (K : Frag) (T : Cl) (ec : Ec) : Sp := fun vs H Q _ => ∃ (n : Nat), vs = [.int (n : Int)] /\ n < 26 ^ 300 /\ Q (.str (tx (x8 n))) H
abbrev Yx18 : Prop := Cal P w K mg base 1 "letters_of" ["pile"] (Px18 K T ec)
theorem ox18 (D : Def K mg "letters_of" zdi ["pile"]) : @Yx18 P w K mg base T ec := by
 refine D.ok Sx18 ?_ (fun _ _ _ _ _ H vs Q E hr h => ?_)
 ·walk_at "l"
 obtain ⟨n, rfl, hn, q⟩ := h
 refine ⟨_, (zf (zx (i := 1) Sx18.nd rfl (Or.inl rfl) (zU vc (yp yC rfl g.LETTERS) (zq zR (pv 0) (zw yJ rfl z.len yg (zc (yp yC rfl g.LETTERS) za))) (fun _ _ => rfl)))
   (zf (yY PassesOwn.never (zl zbZ (pv 0) (zw yJ rfl z.len yg (zc (yp yC rfl g.LETTERS) za)) (zt _)) (zf (jL (i := 0) Sx18.nd rfl (Or.inl rfl) (zw yJ rfl z.len yg (zc (yp yC rfl g.LETTERS) za)) zaC)
   (ze (zx (i := 1) Sx18.nd rfl (Or.inl rfl) (zq vb (zU vc (yp yC rfl g.LETTERS) (zq zR (pv 0) (zw yJ rfl z.len yg (zc (yp yC rfl g.LETTERS) za))) (fun _ _ => rfl)) (pv 1))))))
   (ze (zV (pv 1))))), ?_⟩
 have hl := vg 300 n hn
 have el : ((ltr.length : Nat) : Int) = 26 := rfl
 have at26 : ∀ k : Nat, atI ltr ((k : Int) % ((ltr.length : Nat) : Int)) = some (97 + k % 26) := fun k => by
  have h := ze1 (k := k % 26) (Nat.mod_lt _ (by decide))
  exact atN (by omega) (by rw [el, show ((k : Int) % 26).toNat = k % 26 by omega]; exact h)
 refine ⟨_, rfl, ltr, rfl, szl (by decide), _, _, rfl, rfl, (by show (0 : Int) < _; decide), ltr, _, _, rfl, rfl, szl (by decide), at26 n, ?_⟩
 refine xg (fun σ H2 => ∃ (k : Nat) (tl : List Nat), σ = [some (.int (k : Int)), some (.str (tx ((97 + k % 26) :: tl)))] /\ H2 = H /\ x8 n = x8 k ++ tl) (fun σ H2 => match σ with | [some (.int m), _] => m.toNat | _ => 0) ⟨n, [], rfl, rfl, by simp⟩ ?_ ?_
 ·rintro σ H2 ⟨k, tl, rfl, rfl, e⟩
  refine ⟨_, rfl, ltr, rfl, szl (by decide), _, _, rfl, rfl, _, rfl, ?_⟩
  refine zL (fun c => ?_) (fun c => ?_)
  ·have c' : ((ltr.length : Nat) : Int) <= (k : Int) := of_decide_eq_true c
   have hk : 26 <= k := by omega
   have e1 := qC (n := k) (by omega)
   have ln := congrArg List.length e
   rw [e1, List.length_append, List.length_append] at ln
   simp only [List.length_cons, List.length_nil] at ln
   have ed : (k : Int) / ((ltr.length : Nat) : Int) = ((k / 26 : Nat) : Int) := by rw [el]; omega
   refine ⟨_, rfl, ltr, rfl, szl (by decide), _, _, rfl, rfl, ⟨by decide, by decide⟩, ?_⟩
   rw [ed]
   refine ⟨_, rfl, ltr, rfl, szl (by decide), _, _, rfl, rfl, (by show (0 : Int) < _; decide), ltr, _, _, rfl, rfl, szl (by decide), at26 (k / 26), _, rfl, _, _, rfl, rfl, szl (by simp only [List.length_cons, List.length_nil]; omega), ?_⟩
   refine ⟨⟨k / 26, (97 + k % 26) :: tl, rfl, rfl, by rw [e, e1, List.append_assoc]; rfl⟩, ?_⟩
   show ((k / 26 : Nat) : Int).toNat < ((k : Nat) : Int).toNat
   omega
  ·have c' : ¬ ((ltr.length : Nat) : Int) <= (k : Int) := of_decide_eq_false (Bool.eq_false_iff.mpr c)
   have hk : k < 26 := by omega
   rw [xr hk] at e
   refine ⟨_, rfl, _, Less.refl, ?_⟩
   rw [Nat.mod_eq_of_lt hk]
   rw [e] at q
   exact q
 ·rintro σ H3 Q1 Q2 hq ⟨v1, e1, l, e2, z, i, j, x1, x2, b, x3, h⟩
  exact ⟨v1, e1, l, e2, z, i, j, x1, x2, b, x3, hq _ _ h⟩
abbrev zdj : Stmt := top 39
def Sx19 : zm ["text", "kinds", "counts", "pile", "head"] ["text"] (zd zdj) := by walk_at "s"
def Px19 (K : Frag) (T : Cl) (ec : Ec) : Sp := fun vs H Q _ => ∃ (l : List Nat), vs = [.str (tx l)] /\ GT l /\ Q (.str (tx (je l))) H
def Bx19 (K : Frag) (T : Cl) (ec : Ec) : BSp := fun vs H E => ∃ (l : List Nat), vs = [.str (tx l)] /\ ¬ GT l /\ l.length <= 2000 /\ E (.ref ec.noText) none H
abbrev Yx19 : Prop := CalX P w K mg base 5 "packed" ["text"] (orS (Px19 K T ec) (Bx19 K T ec))
theorem ox19 (D : Def K mg "packed" zdj ["text"]) (Cx16 : @Yx16 P w K mg base T ec) (Cx9 : @Yx9 P w K mg base T ec) (Cx17 : @Yx17 P w K mg base T ec) (Cx18 : @Yx18 P w K mg base T ec) : @Yx19 P w K mg base T ec := by
 refine D.okB Sx19 ?_ ?_ (fun _ _ _ _ _ H vs Q E hr h => ?_) (fun _ _ _ _ _ H vs E hr h => ?_)
 ·walk_at "l"
 ·walk_at "l"
 ·obtain ⟨l, rfl, gl, q⟩ := h
  refine ⟨_, (zf (zi (zN (Cx16.good.up) hr rfl (zc (pv 0) za)))
   (zf (zy (zl zH (pv 0) (yl (m := []) (by decide +kernel)) (zt _)) (ze (zV (yl (m := [59, 97]) (by decide +kernel)))) zE)
   (zf (zx (i := 1) Sx19.nd rfl (Or.inr rfl) (jv (caps := [(0, "text")]) rfl (qA (yp xJ rfl g.SIGNS)) ⟨rfl, by decide +kernel, by decide +kernel, rfl⟩ ⟨⟨rfl, Or.inl rfl, rfl⟩, trivial⟩ rfl (by decide +kernel) (fun _ _ _ _ => zdX (zl zeX (pv 0) (pv 1) (by with_unfolding_all rfl))) (fun _ _ _ _ => (pv 0))))
   (zf (qq (i := 2) Sx19.nd rfl (Or.inl rfl) (caps := [(0, "text")]) rfl (yN (pv 1)) ⟨rfl, by decide +kernel, by decide +kernel, rfl⟩ ⟨⟨rfl, Or.inl rfl, rfl⟩, trivial⟩ rfl (by decide +kernel) (fun _ _ _ _ => yX) (fun _ _ _ _ => (zcU (K := K) rfl PySem.F.plainAttrs_str PySem.F.slot_str_count PySem.F.type_str_count zcG (pv 1) (zc (pv 0) za))))
   (zf (zx (i := 3) Sx19.nd rfl (Or.inl rfl) (zN (Cx9.good.up) hr rfl (zc zb (zc (pv 2) (zc (jv (caps := [(1, "kinds")]) rfl (qA (pv 0)) ⟨rfl, by decide +kernel, by decide +kernel, rfl⟩ ⟨⟨rfl, Or.inl rfl, rfl⟩, trivial⟩ rfl (by decide +kernel) (fun _ _ _ _ => yX) (fun _ _ _ _ => (zcU (K := K) rfl PySem.F.plainAttrs_list PySem.F.slot_list_index PySem.F.type_list_index zbd (pv 1) (zc (pv 0) za)))) za)))))
   (zf (zx (i := 4) Sx19.nd rfl (Or.inl rfl) (xv PySem.F.plainAttrs_str PySem.F.slot_str_join PySem.F.type_str_join zaJ (yl (m := [44]) (by decide +kernel)) (zc (vX (caps := []) rfl (zeY rfl z.zip (zc (pv 1) (zc (pv 2) za))) ⟨rfl, by decide +kernel, by decide +kernel, rfl⟩ ⟨rfl, by decide +kernel, by decide +kernel, rfl⟩ trivial rfl (by decide +kernel) (fun _ _ _ _ => yX) (fun _ _ _ _ => (zN (Cx17.up) hr rfl (zc (pv 0) (zc (pv 1) za))))) za)))
   (ze (zV (zq vb (zq vb (pv 4) (yl (m := [59]) (by decide +kernel))) (zN (Cx18.up) hr rfl (zc (pv 3) za))))))))))), ?_⟩
  have hl := gl.len
  refine ⟨_, rfl, l, rfl, gl, ?_⟩
  refine ⟨_, rfl, rfl, _, rfl, ?_⟩
  refine zL (fun c => ?_) (fun c => ?_)
  ·have c' := V.str.inj (of_decide_eq_true c)
   rw [tx_inj] at c'
   subst c'
   rw [zcS] at q
   exact ⟨_, Less.refl, q⟩
  have h0 : l ≠ [] := fun z => c (decide_eq_true (by rw [z]))
  refine ⟨sgs, rfl, fun Dk hk => ?_⟩
  have w := vV (l := sgs) (D := Dk) (H1 := H)
  refine j9 (sigB fun c => decide (c ∈ l)) id (by rw [List.length_map]; exact szl (by decide)) w.1 w.2 ?_ ?_ ?_
  ·rintro x hx ys R r
   obtain ⟨c, hc, rfl⟩ := List.mem_map.mp hx
   exact ⟨_, rfl, _, rfl, _, _, rfl, rfl, _, rfl, r⟩
  ·rintro x hx _ ys R r
   exact ⟨_, rfl, r⟩
  rw [xV]
  have eK : sgs.filter (fun c => decide (c ∈ l)) = yb l := rfl
  rw [eK]
  have kl := jY l
  have k1 : (upd H Dk (.lst ((yb l).map S1))) Dk = some (.lst ((yb l).map S1)) := zh
  have s1 : Same H (upd H Dk (.lst ((yb l).map S1))) := zB hk
  generalize upd H Dk (.lst ((yb l).map S1)) = H1 at s1 k1 |-
  refine ⟨_, rfl, Dk, rfl, ⟨_, SqL.of k1⟩, fun Dc hc => ?_⟩
  have w2 := qr (K := K) (SqL.of k1) hc
  refine jw (sigV fun c => N1 (l.count c)) (by rw [List.length_map]; exact szl (by omega)) w2.1 w2.2 ?_ ?_
  ·rintro x hx ys R r
   obtain ⟨c, hc, rfl⟩ := List.mem_map.mp hx
   exact ⟨_, rfl, rfl, _, rfl, _, _, rfl, rfl, r⟩
  rw [qF, <- zcV]
  have c2 : (upd H1 Dc (.lst ((xu l).map V.int))) Dc = some (.lst ((xu l).map V.int)) := zh
  have k2 : (upd H1 Dc (.lst ((xu l).map V.int))) Dk = some (.lst ((yb l).map S1)) := zF k1 hc
  have s2 := s1.trans (zB (u := .lst ((xu l).map V.int)) hc)
  generalize upd H1 Dc (.lst ((xu l).map V.int)) = H2 at s2 c2 k2 |-
  refine ⟨_, rfl, _, rfl, l, rfl, fun Dr hr' => ?_⟩
  have w3 := vV (l := l) (D := Dr) (H1 := H2)
  refine jw (sigV fun c => N1 ((yb l).idxOf c)) (by rw [List.length_map]; exact szl (by omega)) w3.1 w3.2 ?_ ?_
  ·rintro x hx ys R r
   obtain ⟨c, hc, rfl⟩ := List.mem_map.mp hx
   have lx := ze4 (f := S1) eq_S1 ((x0 gl.sg).mpr hc)
   exact ⟨_, rfl, .inl ⟨rfl, _, SqL.of (zF k2 hr')⟩, _, rfl, Dk, _, S1 c, (yb l).idxOf c, rfl, rfl, zF k2 hr', rfl, zed (fun _ => rfl) _, lx.1, lx.2, r⟩
  rw [qF, <- row_V]
  have r3 : (upd H2 Dr (.lst ((jp l).map V.int))) Dr = some (.lst ((jp l).map V.int)) := zh
  have c3 : (upd H2 Dr (.lst ((jp l).map V.int))) Dc = some (.lst ((xu l).map V.int)) := zF c2 hr'
  have k3 : (upd H2 Dr (.lst ((jp l).map V.int))) Dk = some (.lst ((yb l).map S1)) := zF k2 hr'
  have s3 := s2.trans (zB (u := .lst ((jp l).map V.int)) hr')
  generalize upd H2 Dr (.lst ((jp l).map V.int)) = H3 at s3 r3 c3 k3 |-
  refine ⟨0, Dc, xu l, Dr, jp l, rfl, SqL.of c3, SqL.of r3, qD gl h0, Int.le_refl _, zad gl, ?_⟩
  have ep : xn (xu l) (jp l) 0 = ((xt l).toNat : Int) := (Int.toNat_of_nonneg (zaK gl)).symm
  rw [ep]
  refine ⟨rfl, _, rfl, _, rfl, Dk, Dc, _, _, rfl, k3, c3, fun Dh hh => ?_⟩
  have el : ((yb l).map S1).length = ((xu l).map V.int).length := by rw [List.length_map, List.length_map, jD]
  refine zcJ entV (by rw [List.length_map]; exact szl (by omega)) el k3 c3 hh ?_ ?_
  ·rintro i x y hx hy H' R sm r
   rw [zcV, List.getElem?_map] at hy
   rw [List.getElem?_map] at hx
   obtain ⟨c, ec, rfl⟩ := Option.map_eq_some_iff.mp hx
   rw [ec] at hy
   cases hy
   have hc := List.mem_of_getElem? ec
   have := List.count_le_length (a := c) (l := l)
   exact ⟨_, rfl, _, rfl, c, l.count c, rfl, jX hc, by omega, r⟩
  rintro H' sm eh
  rw [zcV, zaL] at eh
  have ls := vi (zcW gl)
  rw [List.length_map] at ls
  refine ⟨[44], Dh, _, rfl, rfl, SqL.of eh, szk (by rw [List.length_map]; show _ + _ * 1 <= _; omega), ?_⟩
  have hh1 := zcT gl
  have hh2 := zae gl
  refine ⟨_, rfl, qd l, [59], rfl, rfl, szk (by show _ + 1 <= _; omega), _, rfl, (xt l).toNat, rfl, we gl, _, _, rfl, rfl, szk (by rw [List.length_append]; show _ + 1 + _ <= _; omega), _, Less.same (s3.trans sm), ?_⟩
  rw [List.append_assoc]
  exact q
 ·obtain ⟨l, rfl, ng, hl, q⟩ := h
  refine ⟨_, (yz (zi (zp (Cx16.up) zr hr rfl (zc (pv 0) za)))), ?_⟩
  exact ⟨_, rfl, .inr ⟨l, rfl, ng, hl, _, Less.refl, q⟩⟩
abbrev zdk : Stmt := top 40
def Sx20 : zm ["figures"] ["figures"] (zd zdk) := by walk_at "s"
def Px20 (K : Frag) (T : Cl) (ec : Ec) : Sp := fun vs H Q E => ∃ (f : List Nat), vs = [.str (tx f)] /\ LeafT f /\ (∀ n : Nat, zbp f = some n -> Q (.int (n : Int)) H) /\ (zbp f = none -> E (.ref ec.notLeaf) none H)
abbrev Yx20 : Prop := CalX P w K mg base 1 "number_of" ["figures"] (Px20 K T ec)
theorem ox20 (D : Def K mg "number_of" zdk ["figures"]) : @Yx20 P w K mg base T ec := by
 refine D.okX Sx20 ?_ (fun _ _ _ _ _ H vs Q E hr h => ?_)
 ·walk_at "l"
 obtain ⟨f, rfl, lt, q1, q2⟩ := h
 refine ⟨_, (zf (zy (PW.pt (pw_or (zl qm (zw yJ rfl z.len yg (zc (pv 0) za)) (yq rfl g.MOST_FIGURES) (zt _)) (zeB (yv (zb0 (wF PySem.F.plainAttrs_str PySem.F.slot_str_isdigit PySem.F.type_str_isdigit zab (pv 0)) (fun _ => rfl)))))) (ze (zQ zW rfl rfl rfl xf.m7 xf.o7 (zc yd za))) zE)
   (ze (zV (yV zbe rfl z.int b_int (zc (pv 0) za))))), ?_⟩
 have fl := lt.len
 have da := zaM lt.asc
 refine ⟨_, rfl, f, rfl, szk (by omega), _, _, rfl, rfl, _, rfl, ?_⟩
 refine or2 (t2 := !(decide (0 < f.length) && f.all Unicode.isDigit)) (fun h => ⟨_, rfl, rfl, f, rfl, rfl, _, rfl, h⟩) (fun gg => ?_) (fun c c2 => ?_)
 ·refine ⟨zl1, q2 ?_⟩
  unfold zbp
  rw [if_neg]
  rintro ⟨h1, h2, h3⟩
  rcases gg with g | g
  ·have g' : (3 : Int) < ((f.length : Nat) : Int) := of_decide_eq_true g
   omega
  ·rw [da, h3, decide_eq_true h2] at g
   cases g
 ·have c' : ¬ (3 : Int) < ((f.length : Nat) : Int) := of_decide_eq_false c
  rw [da] at c2
  have c3 : (decide (0 < f.length) && f.all fig) = true := by
   cases z : (decide (0 < f.length) && f.all fig) with
   | true => rfl
   | false => rw [z] at c2; cases c2
  rw [Bool.and_eq_true, decide_eq_true_eq] at c3
  refine ⟨_, rfl, f, rfl, ze9 c3.2, List.length_pos_iff.mp c3.1, by omega, q1 _ ?_⟩
  unfold zbp
  rw [if_pos ⟨by omega, c3.1, c3.2⟩]
abbrev zdl : Stmt := top 41
def Sx21 : zm ["part", "halves"] ["part"] (zd zdl) := by walk_at "s"
def Px21 (K : Frag) (T : Cl) (ec : Ec) : Sp := fun vs H Q E => ∃ (p : List Nat), vs = [.str (tx p)] /\ LeafT p /\ (∀ x y : Nat, jG p = some (x, y) -> ∀ t H', Same H H' -> H t = none -> H' t = some (.tup [.int (x : Int), .int (y : Int)]) -> Q (.ref t) H') /\ (jG p = none -> ∀ H', Same H H' -> E (.ref ec.notLeaf) none H')
abbrev Yx21 : Prop := CalX P w K mg base 2 "entry_of" ["part"] (Px21 K T ec)
theorem ox21 (D : Def K mg "entry_of" zdl ["part"]) (Cx20 : @Yx20 P w K mg base T ec) : @Yx21 P w K mg base T ec := by
 refine D.okX Sx21 ?_ (fun _ _ _ _ _ H vs Q E hr h => ?_)
 ·walk_at "l"
 obtain ⟨p, rfl, lt, q1, q2⟩ := h
 refine ⟨_, (zf (zx (i := 1) Sx21.nd rfl (Or.inl rfl) (xv PySem.F.plainAttrs_str PySem.F.slot_str_partition PySem.F.type_str_partition zaH (pv 0) (zc (yl (m := [120]) (by decide +kernel)) za)))
   (ze (zV (kG (zc (PX.pe (jQ (Cx20.up) hr rfl rfl (zc (zU y8 (pv 1) zb (fun _ _ => rfl)) za))) (zc (PX.pe (jQ (Cx20.up) hr rfl rfl (zc (zU y8 (pv 1) zb (fun _ _ => rfl)) za))) za)))))), ?_⟩
 have pl := lt.len
 refine ⟨_, rfl, rfl, _, _, rfl, rfl, szk (by omega), fun u hu => ?_⟩
 rw [zc0]
 have e1 : (upd H u (.tup ([jE 120 p, qQ 120 p, jF 120 p].map fun m => V.str (tx m)))) u = some (.tup [.str (tx (jE 120 p)), .str (tx (qQ 120 p)), .str (tx (jF 120 p))]) := zh
 have s1 := zB (u := .tup ([jE 120 p, qQ 120 p, jF 120 p].map fun m => V.str (tx m))) hu
 generalize upd H u (.tup ([jE 120 p, qQ 120 p, jF 120 p].map fun m => V.str (tx m))) = H1 at e1 s1 |-
 refine ⟨_, rfl, u, _, _, _, rfl, rfl, SqT.of e1, rfl, _, rfl, lt.sub (sub0 120 p), fun x hx => ?_, fun hx => q2 (by unfold jG; rw [hx]) _ s1⟩
 refine ⟨_, rfl, u, _, _, _, rfl, rfl, SqT.of e1, rfl, _, rfl, lt.sub (sub2 120 p), fun y hy => ?_, fun hy => q2 (by unfold jG; rw [hx, hy]) _ s1⟩
 exact ⟨zl2, fun t ht => q1 x y (by unfold jG; rw [hx, hy]) t _ (s1.trans (zB ht)) (s1.free ht) zh⟩
abbrev zdm : Stmt := top 42
def Sx22 : zm ["entries", "last", "place", "count"] ["entries"] (zd zdm) := by walk_at "s"
def Px22 (K : Frag) (T : Cl) (ec : Ec) : Sp := fun vs H Q E => ∃ (a : Addr) (ts : List Addr) (es : List (Nat × Nat)), vs = [.ref a] /\ PrsAt H a ts (es.map toV) /\ es.length <= 3001 /\ (qH es = true -> ∀ H', Same H H' -> Q .non H') /\ (qH es = false -> ∀ H', Same H H' -> E (.ref ec.notLeaf) none H')
abbrev Yx22 : Prop := CalX P w K mg base 1 "check_entries" ["entries"] (Px22 K T ec)
theorem ox22 (D : Def K mg "check_entries" zdm ["entries"]) : @Yx22 P w K mg base T ec := by
 refine D.okX Sx22 ?_ (fun _ _ _ _ _ H vs Q E hr h => ?_)
 ·walk_at "l"
 obtain ⟨a, ts, es, rfl, pa, hl, q1, q2⟩ := h
 refine ⟨_, (zf (zx (i := 1) Sx22.nd rfl (Or.inl rfl) (yG yn zb))
   (zf (yE PassesOwn.leaving rfl (yN (pv 0)) (ql rfl (yK (zX (i := 2) Sx22.nd rfl (Or.inl rfl)) (yK (zX (i := 3) Sx22.nd rfl (Or.inl rfl)) jt))) (zf (zy (yv (z6 xh xh (pv 1) (pv 2) (zw yJ rfl z.len yg (zc (yp xJ rfl g.SIGNS) za)))) (ze (zQ zW rfl rfl rfl xf.m7 xf.o7 (zc yd za))) zE)
   (zf (zy (zl zH (pv 3) zb (zt _)) (ze (zQ zW rfl rfl rfl xf.m7 xf.o7 (zc yd za))) zE)
   (ze (zx (i := 1) Sx22.nd rfl (Or.inl rfl) (pv 2))))))
   (ze (zy (zl qm (zw (xE rfl) rfl z.sum kb (zc (vX (caps := []) rfl (yN (pv 0)) ⟨rfl, by decide +kernel, by decide +kernel, rfl⟩ ⟨rfl, by decide +kernel, by decide +kernel, rfl⟩ trivial rfl (by decide +kernel) (fun _ _ _ _ => yX) (fun _ _ _ _ => (pv 1))) za)) (yq rfl g.MOST_TEXT) (zt _)) (ze (zQ zW rfl rfl rfl xf.m7 xf.o7 (zc yd za))) zE)))), ?_⟩
 have el : (ts.map V.ref).length = es.length := by rw [List.length_map, pa.len, List.length_map]
 have bad : okE (-1) es = false -> qH es = false := fun z => by unfold qH; rw [z]; rfl
 refine ⟨_, rfl, ?_⟩
 refine ⟨_, rfl, a, rfl, ⟨_, SqL.of pa.ls⟩, xb (K := K) (a := a) (xs := ts.map V.ref) (fun i σ H2 => ∃ (z : Int) (v2 v3 : Option V), σ = [some (.ref a), some (.int z), v2, v3] /\ H2 = H /\ okE z (es.drop i) = okE (-1) es) ⟨-1, none, none, rfl, rfl, by rw [List.drop_zero]⟩ (fun i σ H2 _ ⟨_, _, _, _, e, _⟩ => e ▸ SqL.of pa.ls) ?_ ?_⟩
 ·rintro i y σ H2 hi ⟨z, v2, v3, rfl, rfl, ok⟩
  have hi1 := (List.getElem?_eq_some_iff.mp hi).1
  have hi2 : i < ts.length := by rw [List.length_map] at hi1; exact hi1
  rw [ve hi2] at hi
  cases hi
  have hi3 : i < es.length := by omega
  obtain ⟨p, hp⟩ : ∃ p, es[i]? = some p := ⟨_, List.getElem?_eq_getElem hi3⟩
  have e2 : H2 (ts.getD i 0) = some (.tup [.int (p.1 : Int), .int (p.2 : Int)]) := pa.at_ i (toV p) (by rw [List.getElem?_map, hp]; rfl)
  have ed : es.drop i = p :: es.drop (i + 1) := by
   rw [List.drop_eq_getElem_cons hi3]
   rw [List.getElem?_eq_getElem hi3] at hp
   rw [Option.some.inj hp]
  have oc : ∀ (z : Int) (p : Nat × Nat) (r : List (Nat × Nat)), okE z (p :: r) = if z < (p.1 : Int) /\ p.1 < 94 then (if p.2 = 0 then false else okE (p.1 : Int) r) else false := fun _ _ _ => rfl
  rw [ed, oc] at ok
  refine ⟨_, _, rfl, SqT.of e2, rfl, _, _, rfl, _, _, rfl, rfl, ?_⟩
  refine ⟨_, rfl, _, rfl, _, _, rfl, rfl, _, rfl, ?_⟩
  refine zL (fun c => ?_) (fun c => ?_)
  ·have c1 : z < (p.1 : Int) := of_decide_eq_true c
   refine ⟨sgs, rfl, szl (by decide), _, _, rfl, rfl, _, rfl, ?_⟩
   by_cases c2 : p.1 < 94
   ·have e3 : decide (((p.1 : Nat) : Int) < ((sgs.length : Nat) : Int)) = true := decide_eq_true (by rw [vf]; omega)
    rw [e3]
    refine xD ?_
    rw [if_pos ⟨c1, c2⟩] at ok
    refine ⟨_, rfl, rfl, _, rfl, ?_⟩
    by_cases c3 : p.2 = 0
    ·have e4 : decide (V.int (p.2 : Int) = V.int 0) = true := decide_eq_true (by rw [c3]; rfl)
     rw [e4]
     refine yR ?_
     rw [if_pos c3] at ok
     exact ⟨zl1, q2 (bad ok.symm) _ (Same.refl _)⟩
    ·have e4 : decide (V.int (p.2 : Int) = V.int 0) = false := decide_eq_false (fun e => by have := V.int.inj e; omega)
     rw [e4]
     refine xD ?_
     rw [if_neg c3] at ok
     exact ⟨_, rfl, (p.1 : Int), some _, some _, rfl, rfl, ok⟩
   ·have e3 : decide (((p.1 : Nat) : Int) < ((sgs.length : Nat) : Int)) = false := decide_eq_false (by rw [vf]; omega)
    rw [e3]
    refine yR ?_
    rw [if_neg (fun z => c2 z.2)] at ok
    exact ⟨zl1, q2 (bad ok.symm) _ (Same.refl _)⟩
  ·have c1 : ¬ z < (p.1 : Int) := of_decide_eq_false (Bool.eq_false_iff.mpr c)
   rw [if_neg (fun z => c1 z.1)] at ok
   refine ⟨_, rfl, ?_⟩
   refine yR ?_
   exact ⟨zl1, q2 (bad ok.symm) _ (Same.refl _)⟩
 ·rintro σ H2 ⟨z, v2, v3, rfl, rfl, ok⟩
  rw [el, List.drop_length] at ok
  have ok : true = okE (-1) es := ok
  refine ⟨_, rfl, a, rfl, ⟨_, SqL.of pa.ls⟩, fun D hD => ?_⟩
  refine vZ (fun p => p.2) (by rw [List.length_map]; exact szk (by omega)) pa hD ?_ ?_
  ·rintro i p hp us R r
   exact ⟨_, rfl, r⟩
  have em : (es.map toV).map (fun p => p.2) = (y9 es).map V.int := by unfold y9; rw [List.map_map, List.map_map]; rfl
  rw [em]
  refine ⟨D, y9 es, rfl, SqL.of zh, _, _, rfl, rfl, _, rfl, ?_⟩
  have sm := zB (u := .lst ((y9 es).map V.int)) hD
  have es' := jH es
  by_cases c : (es.map fun e => e.2).sum <= 150
  ·have e5 : decide ((150 : Int) < (y9 es).sum) = false := decide_eq_false (by omega)
   rw [e5]
   refine xD ?_
   refine q1 ?_ _ sm
   unfold qH
   rw [<- ok, decide_eq_true c]
   rfl
  ·have e5 : decide ((150 : Int) < (y9 es).sum) = true := decide_eq_true (by omega)
   rw [e5]
   refine yR ?_
   refine ⟨zl1, q2 ?_ _ sm⟩
   unfold qH
   rw [decide_eq_false c, Bool.and_false]
abbrev zdn : Stmt := top 43
def Sx23 : zm ["head", "entries"] ["head"] (zd zdn) := by walk_at "s"
def Px23 (K : Frag) (T : Cl) (ec : Ec) : Sp := fun vs H Q E => ∃ (m : List Nat), vs = [.str (tx m)] /\ LeafT m /\ (∀ es, wn m = some es -> ∀ a ts H', Same H H' -> PrsAt H' a ts (es.map toV) -> Q (.ref a) H') /\ (wn m = none -> ∀ H', Same H H' -> E (.ref ec.notLeaf) none H')
abbrev Yx23 : Prop := CalX P w K mg base 3 "entries_of" ["head"] (Px23 K T ec)
theorem ox23 (D : Def K mg "entries_of" zdn ["head"]) (Cx21 : @Yx21 P w K mg base T ec) (Cx22 : @Yx22 P w K mg base T ec) : @Yx23 P w K mg base T ec := by
 refine D.okX Sx23 ?_ (fun _ _ _ _ _ H vs Q E hr h => ?_)
 ·walk_at "l"
 obtain ⟨m, rfl, lt, q1, q2⟩ := h
 refine ⟨_, (zf (zy (zl zH (pv 0) (yl (m := []) (by decide +kernel)) (zt _)) (ze (zV (xi za))) zE)
   (zf (wj (i := 1) Sx23.nd rfl (Or.inl rfl) (caps := []) rfl (yN (xv PySem.F.plainAttrs_str PySem.F.slot_str_split PySem.F.type_str_split zcH (pv 0) (zc (yl (m := [44]) (by decide +kernel)) za))) ⟨rfl, by decide +kernel, by decide +kernel, rfl⟩ trivial rfl (by decide +kernel) (fun _ _ _ _ => yX) (fun _ _ _ _ => zef (Cx21.up) hr rfl (zc (pv 0) za)))
   (zf (zi (PX.pe (jQ (Cx22.up) hr rfl rfl (zc (pv 1) za))))
   (ze (zV (pv 1)))))), ?_⟩
 have ml := lt.len
 refine ⟨_, rfl, rfl, _, rfl, ?_⟩
 refine zL (fun c => ?_) (fun c => ?_)
 ·have c' := V.str.inj (of_decide_eq_true c)
  rw [tx_inj] at c'
  subst c'
  exact ⟨zl0, fun D hD => q1 [] rfl D [] _ (zB hD) ⟨zh, rfl, fun j p e => by simp at e⟩⟩
 have h0 : m ≠ [] := fun z => c (decide_eq_true (by rw [z]))
 refine ⟨_, rfl, rfl, m, 44, rfl, rfl, by decide, szlt (by omega), fun p hp => ?_⟩
 have msl := xq 44 m []
 have mss : ∀ q ∈ yy 44 [] m, Sub q m := fun q hq => zc1 hq
 have po : wn m = match xQ (yy 44 [] m) with | some es => if qH es = true then some es else none | none => none := by unfold wn; rw [if_neg h0]; try (cases xQ (yy 44 [] m) <;> rfl)
 generalize yy 44 [] m = ms at msl mss po |-
 have p1 : (upd H p (.lst (ms.map fun m => V.str (tx m)))) p = some (.lst (ms.map fun m => V.str (tx m))) := zh
 have s1 := zB (u := .lst (ms.map fun m => V.str (tx m))) hp
 generalize upd H p (.lst (ms.map fun m => V.str (tx m))) = H1 at s1 p1 |-
 refine ⟨p, rfl, ⟨_, SqL.of p1⟩, fun D hD => ?_⟩
 have at_ : ∀ i, i < ms.length -> (ms.map fun m => V.str (tx m))[i]? = some (V.str (tx (ms.getD i []))) := fun i hi => by
  rw [List.getElem?_map, List.getD_eq_getElem?_getD, List.getElem?_eq_getElem hi]
  rfl
 have gt_ : ∀ i, i < ms.length -> ms[i]? = some (ms.getD i []) := fun i hi => by
  rw [List.getD_eq_getElem?_getD, List.getElem?_eq_getElem hi]
  rfl
 refine zbq (n := ms.length) (fun i => (jG (ms.getD i [])).isSome = true) (fun i => V.str (tx (ms.getD i []))) (fun i => toV ((jG (ms.getD i [])).getD (0, 0))) (szk (by omega)) hD ?_ ?_ ?_ ?_
 ·rintro i H' hi sm
  have sq : SqL K H' p _ := SqL.of (sm _ _ p1)
  refine ⟨⟨_, _, sq, at_ i hi⟩, fun y H2 hy => ⟨?_, hy.1⟩⟩
  have := hy.2 _ sq
  rw [at_ i hi] at this
  exact (Option.some.inj this).symm
 ·rintro H' sm
  exact ⟨_, SqL.of (sm _ _ p1), by rw [List.length_map]; exact Nat.le_refl _⟩
 ·rintro i H' R hi sm r
  refine ⟨_, rfl, _, rfl, lt.sub (mss _ (List.mem_of_getElem? (gt_ i hi))), fun x y hx t H2 s2 ht e2 => ?_, fun hx H2 s2 => ?_⟩
  ·rw [hx] at r
   exact r rfl t H2 ht s2 e2
  ·refine q2 ?_ H2 (s1.trans (sm.trans s2))
   rw [po]
   cases z : xQ ms with
   | none => rfl
   | some es =>
    obtain ⟨x, ex, _⟩ := (j6 z).2 i _ (gt_ i hi)
    rw [hx] at ex
    cases ex
 ·rintro gd ts H' sm pr
  cases z : xQ ms with
  | none =>
   obtain ⟨i, q, e1, e2⟩ := ky z
   have hi := (List.getElem?_eq_some_iff.mp e1).1
   have := gd i hi
   have e3 := gt_ i hi
   rw [e1] at e3
   rw [<- Option.some.inj e3, e2] at this
   cases this
  | some es =>
   obtain ⟨le, ea⟩ := j6 z
   have em : (List.range ms.length).map (fun i => toV ((jG (ms.getD i [])).getD (0, 0))) = es.map toV := by
    refine List.ext_getElem? fun i => ?_
    rw [List.getElem?_map, List.getElem?_map]
    by_cases hi : i < ms.length
    ·obtain ⟨x, e1, e2⟩ := ea i _ (gt_ i hi)
     rw [List.getElem?_range hi, e2]
     show some (toV ((jG (ms.getD i [])).getD (0, 0))) = some (toV x)
     rw [e1]
     rfl
    ·rw [List.getElem?_eq_none (by simpa using hi), List.getElem?_eq_none (by omega)]
     rfl
   rw [em] at pr
   rw [z] at po
   have po : wn m = if qH es = true then some es else none := po
   refine ⟨_, rfl, D, ts, es, rfl, pr, by omega, fun ck H2 s2 => ?_, fun ck H2 s2 => ?_⟩
   ·rw [if_pos ck] at po
    exact ⟨_, rfl, q1 es po D ts H2 ((s1.trans sm).trans s2) (pr.same s2)⟩
   ·rw [if_neg (by rw [ck]; decide)] at po
    exact q2 po H2 ((s1.trans sm).trans s2)
abbrev zdo : Stmt := top 44
def Sx24 : zm ["letters", "pile", "letter"] ["letters"] (zd zdo) := by walk_at "s"
def Px24 (K : Frag) (T : Cl) (ec : Ec) : Sp := fun vs H Q E => ∃ (m : List Nat), vs = [.str (tx m)] /\ (∀ n, zc2 m = some n -> Q (.int ((n : Nat) : Int)) H) /\ (zc2 m = none -> E (.ref ec.notLeaf) none H)
abbrev Yx24 : Prop := CalX P w K mg base 1 "pile_of" ["letters"] (Px24 K T ec)
theorem ox24 (D : Def K mg "pile_of" zdo ["letters"]) : @Yx24 P w K mg base T ec := by
 refine D.okX Sx24 ?_ (fun _ _ _ _ _ H vs Q E hr h => ?_)
 ·walk_at "l"
 obtain ⟨m, rfl, q1, q2⟩ := h
 refine ⟨_, (zf (zx (i := 1) Sx24.nd rfl (Or.inl rfl) zb)
   (zf (yE PassesOwn.leaving rfl (qA (pv 0)) (zX (i := 2) Sx24.nd rfl (Or.inl rfl)) (zf (zy (zl jW (pv 2) (yp yC rfl g.LETTERS) (by with_unfolding_all rfl)) (ze (zQ zW rfl rfl rfl xf.m7 xf.o7 (zc yd za))) zE)
   (ze (zx (i := 1) Sx24.nd rfl (Or.inl rfl) (zq z8 (zq y0 (pv 1) (zw yJ rfl z.len yg (zc (yp yC rfl g.LETTERS) za))) (xv PySem.F.plainAttrs_str PySem.F.slot_str_index PySem.F.type_str_index vW (yp yC rfl g.LETTERS) (zc (pv 2) za)))))))
   (ze (zV (pv 1))))), ?_⟩
 have el : ((ltr.length : Nat) : Int) = 26 := rfl
 refine ⟨_, rfl, m, rfl, kZ (l := m) (fun i σ H2 => ∃ (v2 : Option V), σ = [some (.str (tx m)), some (.int ((jn (m.take i) : Nat) : Int)), v2] /\ H2 = H /\ ∀ c ∈ m.take i, c ∈ ltr) ⟨none, rfl, rfl, fun c hc => by simp at hc⟩ ?_ ?_⟩
 ·rintro i c σ H2 hi ⟨v2, rfl, rfl, al⟩
  refine ⟨_, rfl, _, _, rfl, rfl, _, rfl, ?_⟩
  by_cases hc : c ∈ ltr
  ·rw [decide_eq_true hc]
   refine ⟨_, rfl, ltr, rfl, szl (by decide), _, _, rfl, rfl, ?_⟩
   refine ⟨.inr ⟨by decide, by decide⟩, rfl, _, rfl, ltr, c, rfl, rfl, hc, _, _, rfl, rfl, ?_⟩
   have e : m.take (i + 1) = m.take i ++ [c] := by rw [List.take_succ, hi]; rfl
   refine ⟨some (.str (tx [c])), ?_, rfl, fun x hx => ?_⟩
   ·rw [e, wb, el]
    have : ((jn (m.take i) * 26 + ltr.idxOf c : Nat) : Int) = ((jn (m.take i) : Nat) : Int) * 26 + ((ltr.idxOf c : Nat) : Int) := by omega
    rw [this]
    rfl
   ·rw [e, List.mem_append, List.mem_singleton] at hx
    rcases hx with hx | hx
    ·exact al x hx
    ·rw [hx]; exact hc
  ·rw [decide_eq_false hc]
   refine ⟨zl1, q2 ?_⟩
   unfold zc2
   rw [if_neg]
   intro z
   exact hc (of_decide_eq_true (List.all_eq_true.mp z c (List.mem_of_getElem? hi)))
 ·rintro σ H2 ⟨v2, rfl, rfl, al⟩
  rw [List.take_length] at al |-
  refine ⟨_, rfl, q1 _ ?_⟩
  unfold zc2
  rw [if_pos (List.all_eq_true.mpr fun c hc => decide_eq_true (al c hc))]
abbrev zdp : Stmt := top 45
def Sx25 : zm ["entries", "pile", "counts", "row"] ["entries", "pile"] (zd zdp) := by walk_at "s"
def Px25 (K : Frag) (T : Cl) (ec : Ec) : Sp := fun vs H Q _ => ∃ (a : Addr) (ts : List Addr) (es : List (Nat × Nat)) (n : Nat), vs = [.ref a, .int (n : Int)] /\ PrsAt H a ts (es.map toV) /\ GE es /\ Q (.str (tx (yL es n))) H
abbrev Yx25 : Prop := Cal P w K mg base 6 "text_of" ["entries", "pile"] (Px25 K T ec)
theorem ox25 (D : Def K mg "text_of" zdp ["entries", "pile"]) (Cx10 : @Yx10 P w K mg base T ec) : @Yx25 P w K mg base T ec := by
 refine D.ok Sx25 ?_ (fun _ _ _ _ _ H vs Q E hr h => ?_)
 ·walk_at "l"
 obtain ⟨a, ts, es, n, rfl, pa, ge, q⟩ := h
 refine ⟨_, (zf (zy (zl zH (zw zC rfl z.len yg (zc (pv 0) za)) zb (zt _)) (ze (zV (yl (m := []) (by decide +kernel)))) zE)
   (zf (vY (i := 2) Sx25.nd rfl (Or.inl rfl) (caps := []) rfl (yN (pv 0)) ⟨rfl, by decide +kernel, by decide +kernel, rfl⟩ ⟨rfl, by decide +kernel, by decide +kernel, rfl⟩ trivial rfl (by decide +kernel) (fun _ _ _ _ => yX) (fun _ _ _ _ => (pv 1)))
   (zf (zx (i := 3) Sx25.nd rfl (Or.inl rfl) (zU y8 (zN (Cx10.good.up) hr rfl (zc (pv 1) (zc (pv 2) (zc (zw (xE rfl) rfl z.sum kb (zc (pv 2) za)) za)))) zb (fun _ _ => rfl)))
   (ze (zV (xv PySem.F.plainAttrs_str PySem.F.slot_str_join PySem.F.type_str_join zaJ (yl (m := []) (by decide +kernel)) (zc (jv (caps := [(0, "entries")]) rfl (yN (pv 3)) ⟨rfl, by decide +kernel, by decide +kernel, rfl⟩ ⟨⟨rfl, Or.inl rfl, rfl⟩, trivial⟩ rfl (by decide +kernel) (fun _ _ _ _ => yX) (fun _ _ _ _ => (zU vc (yp xJ rfl g.SIGNS) (zU (zd0 (K := K) rfl) (zU (zci (K := K) rfl) (pv 1) (pv 0) (fun _ _ => rfl)) zb (fun _ _ => rfl)) (fun _ _ => rfl)))) za))))))), ?_⟩
 have hl := ge.len
 have hs := ge.sum
 have el : (ts.map V.ref).length = es.length := by rw [List.length_map, pa.len, List.length_map]
 refine ⟨_, rfl, a, _, rfl, .inl (SqL.of pa.ls), ?_⟩
 rw [el]
 refine ⟨rfl, _, rfl, ?_⟩
 refine zL (fun c => ?_) (fun c => ?_)
 ·have c' : ((es.length : Nat) : Int) = 0 := V.int.inj (of_decide_eq_true c)
  have h0 : es = [] := List.length_eq_zero_iff.mp (by omega)
  subst h0
  exact ⟨_, Less.refl, q⟩
 have h0 : es ≠ [] := fun z => c (decide_eq_true (by rw [z]; rfl))
 refine ⟨_, rfl, a, rfl, ⟨_, SqL.of pa.ls⟩, fun Dc hc => ?_⟩
 refine vZ (fun p => p.2) (by rw [List.length_map]; exact szl (by omega)) pa hc ?_ ?_
 ·rintro i p hp us R r
  exact ⟨_, rfl, r⟩
 have em : (es.map toV).map (fun p => p.2) = (y9 es).map V.int := by unfold y9; rw [List.map_map, List.map_map]; rfl
 rw [em]
 have c1 : (upd H Dc (.lst ((y9 es).map V.int))) Dc = some (.lst ((y9 es).map V.int)) := zh
 have pa1 := pa.same (zB (u := .lst ((y9 es).map V.int)) hc)
 have s1 := zB (u := .lst ((y9 es).map V.int)) hc
 generalize upd H Dc (.lst ((y9 es).map V.int)) = H1 at c1 pa1 s1 |-
 have cs := jH es
 have gc := zet ge h0
 refine ⟨_, rfl, _, rfl, _, rfl, Dc, y9 es, rfl, SqL.of c1, (n : Int), Dc, y9 es, _, rfl, SqL.of c1, gc, by omega, by omega, by omega, fun r t hr' ht => ?_⟩
 have eS : (y9 es).sum.toNat = (es.map fun e => e.2).sum := by omega
 rw [eS] at ht |-
 have held := xM gc ((es.map fun e => e.2).sum) (n : Int)
 have rlen := xw (y9 es) ((es.map fun e => e.2).sum) (n : Int)
 have et : yL es n = (zS (y9 es) ((es.map fun e => e.2).sum) (n : Int)).1.map fun k => sgs.getD (es.getD k.toNat (0, 0)).1 0 := by unfold yL; rw [if_neg h0]
 rw [et] at q
 generalize (zS (y9 es) ((es.map fun e => e.2).sum) (n : Int)) = rw at ht held rlen q |-
 have t2 : (upd (upd H1 r (.lst (rw.1.map V.int))) t (.tup [.ref r, .int rw.2])) t = some (.tup [.ref r, .int rw.2]) := zh
 have r2 : (upd (upd H1 r (.lst (rw.1.map V.int))) t (.tup [.ref r, .int rw.2])) r = some (.lst (rw.1.map V.int)) := zF zh ht
 have s2 : Same H1 (upd (upd H1 r (.lst (rw.1.map V.int))) t (.tup [.ref r, .int rw.2])) := (zB hr').trans (zB ht)
 show tC (V.int 0) _ (upd (upd H1 r (.lst (rw.1.map V.int))) t (.tup [.ref r, .int rw.2])) _
 generalize upd (upd H1 r (.lst (rw.1.map V.int))) t (.tup [.ref r, .int rw.2]) = H2 at t2 r2 s2 |-
 have pa2 := pa1.same s2
 refine ⟨t, _, _, _, rfl, rfl, SqT.of t2, rfl, ?_⟩
 refine ⟨rfl, _, rfl, r, rfl, ⟨_, SqL.of r2⟩, fun Dj hj => ?_⟩
 have wk := qr (K := K) (SqL.of r2) hj
 refine jw (numV fun k => S1 (sgs.getD (es.getD k (0, 0)).1 0)) (by rw [List.length_map]; exact szl (by omega)) wk.1 wk.2 ?_ ?_
 ·rintro x hx ys R r
  obtain ⟨k, hk, rfl⟩ := List.mem_map.mp hx
  obtain ⟨k0, k1, _⟩ := (held k hk).2
  rw [jI] at k1
  have hlt : k.toNat < es.length := by omega
  have ge1 : es[k.toNat]? = some (es.getD k.toNat (0, 0)) := by rw [List.getD_eq_getElem?_getD, List.getElem?_eq_getElem hlt]; rfl
  have pj := pa2.at_ k.toNat (toV (es.getD k.toNat (0, 0))) (by rw [List.getElem?_map, ge1]; rfl)
  have h94 := (ge.at_ _ (List.mem_of_getElem? ge1)).1
  have r' : R (S1 (sgs.getD (es.getD k.toNat (0, 0)).1 0)) (upd H2 Dj (.lst ys)) := r
  generalize es.getD k.toNat (0, 0) = pp at pj h94 r'
  exact ⟨_, rfl, _, rfl, a, _, _, _, rfl, rfl, SqL.of (zF pa2.ls hj), atN k0 (ve (by rw [List.length_map] at el; omega)), _, _, _, _, rfl, rfl, SqT.of (zF pj hj), rfl, sgs, _, _, rfl, rfl, szl (by decide), atN (by omega) (by rw [Int.toNat_natCast]; exact wg h94), r'⟩
 have ev : (rw.1.map V.int).map (numV fun k => S1 (sgs.getD (es.getD k (0, 0)).1 0)) = ((rw.1.map fun k => sgs.getD (es.getD k.toNat (0, 0)).1 0).map fun c => [c]).map fun m => V.str (tx m) := by
  rw [List.map_map, List.map_map, List.map_map]
  rfl
 rw [ev]
 refine ⟨[], Dj, _, rfl, rfl, SqL.of zh, szk ?_, ?_⟩
 ·have := vi (b := 1) (ms := (rw.1.map fun k => sgs.getD (es.getD k.toNat (0, 0)).1 0).map fun c => [c]) fun m hm => by
   obtain ⟨c, _, rfl⟩ := List.mem_map.mp hm
   exact Nat.le_refl _
  rw [List.length_map, List.length_map] at this |-
  show _ + rw.1.length * 0 <= _
  omega
 rw [wf]
 exact ⟨_, Less.same ((s1.trans s2).trans (zB hj)), q⟩
abbrev zdq : Stmt := top 46
def Sx26 : zm ["leaf", "parts", "text"] ["leaf"] (zd zdq) := by walk_at "s"
def Px26 (K : Frag) (T : Cl) (ec : Ec) : Sp := fun vs H Q E => ∃ (m : List Nat), vs = [.str (tx m)] /\ LeafT m /\ (∀ l, wo m = some l -> ∀ H', Same H H' -> Q (.str (tx l)) H') /\ (wo m = none -> ∀ H', Same H H' -> E (.ref ec.notLeaf) none H')
abbrev Yx26 : Prop := CalX P w K mg base 7 "unpacked" ["leaf"] (Px26 K T ec)
theorem ox26 (D : Def K mg "unpacked" zdq ["leaf"]) (Cx25 : @Yx25 P w K mg base T ec) (Cx23 : @Yx23 P w K mg base T ec) (Cx24 : @Yx24 P w K mg base T ec) (Cx19 : @Yx19 P w K mg base T ec) : @Yx26 P w K mg base T ec := by
 refine D.okX Sx26 ?_ (fun _ _ _ _ _ H vs Q E hr h => ?_)
 ·walk_at "l"
 obtain ⟨m, rfl, lt, q1, q2⟩ := h
 refine ⟨_, (zf (zx (i := 1) Sx26.nd rfl (Or.inl rfl) (xv PySem.F.plainAttrs_str PySem.F.slot_str_partition PySem.F.type_str_partition zaH (pv 0) (zc (yl (m := [59]) (by decide +kernel)) za)))
   (zf (zx (i := 2) Sx26.nd rfl (Or.inl rfl) (zN (Cx25.up) hr rfl (zc (PX.pe (jQ (Cx23.up) hr rfl rfl (zc (zU y8 (pv 1) zb (fun _ _ => rfl)) za))) (zc (PX.pe (jQ (Cx24.up) hr rfl rfl (zc (zU y8 (pv 1) zb (fun _ _ => rfl)) za))) za))))
   (zf (zy (zl vp (zN (Cx19.good.up) hr rfl (zc (pv 2) za)) (pv 0) (zt _)) (ze (zQ zW rfl rfl rfl xf.m7 xf.o7 (zc yd za))) zE)
   (ze (zV (pv 2)))))), ?_⟩
 have ml := lt.len
 refine ⟨_, rfl, rfl, _, _, rfl, rfl, szk (by omega), fun p hp => ?_⟩
 rw [zc0]
 have p1 : (upd H p (.tup ([jE 59 m, qQ 59 m, jF 59 m].map fun m => V.str (tx m)))) p = some (.tup [.str (tx (jE 59 m)), .str (tx (qQ 59 m)), .str (tx (jF 59 m))]) := zh
 have s1 := zB (u := .tup ([jE 59 m, qQ 59 m, jF 59 m].map fun m => V.str (tx m))) hp
 generalize upd H p (.tup ([jE 59 m, qQ 59 m, jF 59 m].map fun m => V.str (tx m))) = H1 at s1 p1 |-
 refine ⟨_, rfl, p, _, _, _, rfl, rfl, SqT.of p1, rfl, _, rfl, lt.sub (sub0 59 m), fun es he a ts H2 s2 pa => ?_, fun he H2 s2 => q2 (by unfold wo; rw [he]) H2 (s1.trans s2)⟩
 have p2 := s2 _ _ p1
 refine ⟨_, rfl, p, _, _, _, rfl, rfl, SqT.of p2, rfl, _, rfl, fun n hn => ?_, fun hn => q2 (by unfold wo; rw [he, hn]) H2 (s1.trans s2)⟩
 have ge := zfc he
 have gt := zeg ge n
 have an : wo m = if je (yL es n) = m then some (yL es n) else none := by unfold wo; rw [he, hn]
 refine ⟨a, ts, es, n, rfl, pa, ge, ?_⟩
 refine ⟨_, rfl, _, rfl, gt, _, rfl, rfl, _, rfl, ?_⟩
 by_cases c : je (yL es n) = m
 ·have e : (!decide (V.str (tx (je (yL es n))) = V.str (tx m))) = false := by rw [c]; simp
  rw [e]
  refine xD ?_
  rw [if_pos c] at an
  exact ⟨_, rfl, q1 _ an H2 (s1.trans s2)⟩
 ·have e : (!decide (V.str (tx (je (yL es n))) = V.str (tx m))) = true := by
   rw [decide_eq_false (fun z => c (tx_inj.mp (V.str.inj z)))]
   rfl
  rw [e]
  refine yR ?_
  rw [if_neg c] at an
  exact ⟨zl1, q2 an H2 (s1.trans s2)⟩
abbrev zbv : Stmt := yj (top 49) 0
def Sx27 : zm ["self", "many"] ["self", "many"] (zd zbv) := by walk_at "s"
def Px27 (K : Frag) (T : Cl) (ec : Ec) : Sp := fun vs H Q _ => ∃ (x C dx : Addr) (m : Int), vs = [.ref x, .int m] /\ H x = some (.ins C dx []) /\ zcm K C /\ 1 <= m /\ m <= 100 /\ Q .non (upd H x (.ins C dx [("many", .int m)]))
def Bx27 (K : Frag) (T : Cl) (ec : Ec) : BSp := fun vs H E => ∃ (x C dx : Addr) (m : Int), vs = [.ref x, .int m] /\ H x = some (.ins C dx []) /\ zcm K C /\ ¬ (1 <= m /\ m <= 100) /\ E (.ref ec.noShares) none H
abbrev Yx27 : Prop := CalCX P w K mg base 1 "Model" "__init__" ["self", "many"] (orS (Px27 K T ec) (Bx27 K T ec))
theorem ox27 (D : DefC K mg "Model" T.M "__init__" "Model.__init__" zbv ["self", "many"]) : @Yx27 P w K mg base T ec := by
 refine D.okBH Sx27 ?_ ?_ (fun _ _ _ _ _ H vs Q E hr h => ?_) (fun _ _ _ _ _ H vs E hr h => ?_)
 ·walk_at "l"
 ·walk_at "l"
 ·obtain ⟨x, C, dx, m, rfl, hx, cf, h1, h2, q⟩ := h
  refine ⟨_, (zf (zy (yv (z6 yo yo zb (pv 1) (yq rfl g.MOST_SIGNS))) (ze yf) zE)
   (ze (yw (pv 0) (pv 1) rfl))), ?_⟩
  walk_at "r"
  refine zL (fun _ => ?_) (fun c => absurd (decide_eq_true h1) c)
  refine ⟨_, _, rfl, rfl, _, rfl, ?_⟩
  have e1 : decide (m <= 100) = true := decide_eq_true h2
  rw [e1]
  refine xD ?_
  exact ⟨_, rfl, _, rfl, x, C, dx, [], rfl, hx, cf.cl, cf.nMany, (by show 0 < 1000; decide), q⟩
 ·obtain ⟨x, C, dx, m, rfl, hx, cf, n, q⟩ := h
  refine ⟨_, (yz (zy (yv (z6 yo yo zb (pv 1) (yq rfl g.MOST_SIGNS))) (ze (zQ zW rfl rfl rfl xf.m1 xf.o1 (zc yd za))) zE)), ?_⟩
  walk_at "r"
  refine zL (fun c => ?_) (fun c => ?_)
  ·refine ⟨_, _, rfl, rfl, _, rfl, ?_⟩
   have e1 : decide (m <= 100) = false := decide_eq_false (fun z => n ⟨of_decide_eq_true c, z⟩)
   rw [e1]
   refine yR ?_
   exact ⟨zl1, _, Less.refl, q⟩
  ·refine ⟨_, rfl, ?_⟩
   refine yR ?_
   exact ⟨zl1, _, Less.refl, q⟩
abbrev zbw : Stmt := yj (top 50) 0
def Sx28 : zm ["self", "counts"] ["self", "counts"] (zd zbw) := by walk_at "s"
def Px28 (K : Frag) (T : Cl) (ec : Ec) : Sp := fun vs H Q _ => ∃ (x dx a : Addr) (ns : List Int), vs = [.ref x, .ref a] /\ H x = some (.ins T.P dx []) /\ SqL K H a (ns.map V.int) /\ GoodC ns ∧
 ∀ l H', H l = none -> PlainAt T.P H' x l ns -> (∀ b o, H b = some o -> b ≠ x -> H' b = some o) -> Q .non H'
def Bx28 (K : Frag) (T : Cl) (ec : Ec) : BSp := fun vs H E => ∃ (x dx a : Addr) (ns : List Int), vs = [.ref x, .ref a] /\ H x = some (.ins T.P dx []) /\ SqL K H a (ns.map V.int) /\ ¬ GoodC ns /\ E (.ref ec.noShares) none H
def Bx29 (K : Frag) (T : Cl) (ec : Ec) : BSp := fun vs H E => ∃ (a : Addr) (ns : List Int), vs = [.ref a] /\ SqL K H a (ns.map V.int) /\ ¬ GoodC ns /\ ∀ H', Same H H' -> E (.ref ec.noShares) none H'
def Px29 (K : Frag) (T : Cl) : Sp := fun vs H Q _ => ∃ (a : Addr) (ns : List Int), vs = [.ref a] /\ SqL K H a (ns.map V.int) /\ GoodC ns /\ ∀ x l H', H x = none -> H l = none -> PlainAt T.P H' x l ns -> Same H H' -> Q (.ref x) H'
abbrev zdr : Prop := CalAX P w K mg base 3 "Plain" (orS (Px29 K T) (Bx29 K T ec))
theorem ox28 (D : DefI K T.P "Plain.__init__" zbw ["self", "counts"] []) (Cx0 : @Yx0 P w K mg base T ec) (Cx27 : @Yx27 P w K mg base T ec) : @zdr P w K mg base T ec /\ @zdr P w K mg base T ec := by
 refine D.okB (sp := Px28 K T ec) (bd := Bx28 K T ec) tf.mP Sx28 ?_ ?_ (fun _ _ _ _ _ H vs Q E hr h => ?_) (fun vs H Q h x dx nx ndx nd => ?_) (fun vs H Q h x dx nx ndx nd => ?_) (fun _ _ _ _ _ H vs E hr h => ?_) (fun vs H E h x dx nx ndx nd => ?_) (fun vs H E h x dx nx ndx nd => ?_)
 ·walk_at "l"
 ·walk_at "l"
 ·obtain ⟨x, dx, a, ns, rfl, hx, hS, g0, q⟩ := h
  refine ⟨_, (zf (zi (zN (Cx0.good.up) hr rfl (zc (pv 1) za)))
   (zf (zi (kS (Cx27.good.up) hr rfl (zc (pv 0) (zc (zw zC rfl z.len yg (zc (pv 1) za)) za))))
   (ze (yw (pv 0) (yV yI rfl z.list ji (zc (pv 1) za)) rfl)))), ?_⟩
  have el : (ns.map V.int).length = ns.length := List.length_map _
  have l0 := g0.len0
  have l1 := g0.len1
  refine ⟨_, rfl, a, ns, rfl, hS, g0, ?_⟩
  refine ⟨_, rfl, _, rfl, a, _, rfl, .inl hS, x, T.P, dx, _, rfl, hx, tf.fP, by omega, by omega, ?_⟩
  rw [el]
  refine ⟨_, rfl, a, _, rfl, .inl (hS.upd_ins hx), fun l hl => ?_⟩
  have nlx : l ≠ x := fun z => by subst z; rw [zh] at hl; cases hl
  have hl' : H l = none := by rw [zj nlx] at hl; exact hl
  refine ⟨_, rfl, x, T.P, dx, _, rfl, zF zh hl, tf.fP.cl, tf.fP.nKept, (by show 1 < 1000; decide), ?_⟩
  rw [zcn]
  refine q l _ hl' ⟨⟨dx, zh⟩, ?_⟩ fun b o e nb => ?_
  ·rw [zj nlx, zh]
  ·rw [zj nb, zj (zu e hl'), zj nb]
   exact e
 ·obtain ⟨a, ns, rfl, hS, g0, q⟩ := h
  exact ⟨x, dx, a, ns, rfl, zh, qa hS nx ndx nd, g0, fun l H' hl pa fr => ⟨rfl, q x l H' nx (yO hl) pa (ye nx ndx fr)⟩⟩
 ·obtain ⟨a, ns, rfl, hS, g0, q⟩ := h
  exact ⟨x, dx, a, ns, rfl, zh, qa hS nx ndx nd, g0, fun l H' hl pa fr => ⟨rfl, q x l H' nx (yO hl) pa (ye nx ndx fr)⟩⟩
 ·obtain ⟨x, dx, a, ns, rfl, hx, hS, ng, q⟩ := h
  refine ⟨_, (yz (zi (zp (Cx0.up) zr hr rfl (zc (pv 1) za)))), ?_⟩
  exact ⟨_, rfl, .inr ⟨a, ns, rfl, hS, ng, q⟩⟩
 ·obtain ⟨a, ns, rfl, hS, ng, q⟩ := h
  exact ⟨x, dx, a, ns, rfl, zh, qa hS nx ndx nd, ng, q _ (ye nx ndx fun _ _ e _ => e)⟩
 ·obtain ⟨a, ns, rfl, hS, ng, q⟩ := h
  exact ⟨x, dx, a, ns, rfl, zh, qa hS nx ndx nd, ng, q _ (ye nx ndx fun _ _ e _ => e)⟩
abbrev zbx : Stmt := yj (top 50) 1
def Sx30 : zm ["self"] ["self"] (zd zbx) := by walk_at "s"
def Px30 (K : Frag) (T : Cl) (ec : Ec) : Sp := fun vs H Q _ => ∃ (x l : Addr) (ns : List Int), vs = [.ref x] /\ PlainAt T.P H x l ns /\ ∀ p, H p = none -> Q (.ref p) (upd H p (.lst (ns.map V.int)))
abbrev Yx30 : Prop := CalM P w K mg base 1 T.P "counts" ["self"] (Px30 K T ec)
theorem ox30 (D : DefM K T.P "counts" "Plain.counts" zbx ["self"]) : @Yx30 P w K mg base T ec := by
 refine D.ok Sx30 ?_ (fun _ _ _ _ _ H vs Q E hr h => ?_)
 ·walk_at "l"
 obtain ⟨x, l, ns, rfl, pa, q⟩ := h
 refine ⟨_, (ze (zV (yV yI rfl z.list ji (zc (z5 (pv 0) rfl) za)))), ?_⟩
 obtain ⟨⟨dx, hx⟩, hl⟩ := pa
 refine ⟨_, rfl, x, T.P, dx, _, _, rfl, hx, tf.fP.cl, tf.fP.nKept, zaz _ _, l, _, rfl, .inl (SqL.of hl), fun p hp => ?_⟩
 exact ⟨_, Less.new (zB hp) hp zh rfl, q p hp⟩
abbrev zby : Stmt := yj (top 50) 2
def Sx31 : zm ["self", "sign"] ["self", "sign"] (zd zby) := by walk_at "s"
def Px31 (K : Frag) (T : Cl) (ec : Ec) : Sp := fun vs H Q _ => ∃ (x l : Addr) (ns : List Int) (k : Int), vs = [.ref x, .int k] /\ PlainAt T.P H x l ns /\ 0 <= k /\ k < (ns.length : Int) /\ Q .non H
def Bx31 (K : Frag) (T : Cl) (ec : Ec) : BSp := fun vs H E => ∃ (x l : Addr) (ns : List Int) (k : Int), vs = [.ref x, .int k] /\ PlainAt T.P H x l ns /\ ¬ (0 <= k /\ k < (ns.length : Int)) /\ E (.ref ec.noSign) none H
abbrev Yx31 : Prop := CalMX P w K mg base 2 T.P "see" ["self", "sign"] (orS (Px31 K T ec) (Bx31 K T ec))
theorem ox31 (D : DefM K T.P "see" "Plain.see" zby ["self", "sign"]) (Cx1 : @Yx1 P w K mg base T ec) : @Yx31 P w K mg base T ec := by
 refine D.okB Sx31 ?_ ?_ (fun _ _ _ _ _ H vs Q E hr h => ?_) (fun _ _ _ _ _ H vs E hr h => ?_)
 ·walk_at "l"
 ·walk_at "l"
 ·obtain ⟨x, l, ns, k, rfl, pa, h0, h1, q⟩ := h
  refine ⟨_, (ze (zi (zN (Cx1.good.up) hr rfl (zc (z5 (pv 0) rfl) (zc (pv 1) za))))), ?_⟩
  obtain ⟨⟨dx, hx⟩, hl⟩ := pa
  refine ⟨_, rfl, x, T.P, dx, _, _, rfl, hx, tf.fP.cl, tf.fP.nMany, zay _ _, _, rfl, _, _, rfl, h0, h1, ?_⟩
  exact ⟨_, Less.refl, q⟩
 ·obtain ⟨x, l, ns, k, rfl, pa, n, q⟩ := h
  refine ⟨_, (ze (zi (zp (Cx1.up) zr hr rfl (zc (z5 (pv 0) rfl) (zc (pv 1) za))))), ?_⟩
  obtain ⟨⟨dx, hx⟩, hl⟩ := pa
  exact ⟨_, rfl, x, T.P, dx, _, _, rfl, hx, tf.fP.cl, tf.fP.nMany, zay _ _, _, rfl, .inr ⟨_, _, rfl, n, _, Less.refl, q⟩⟩
abbrev zbz : Stmt := yj (top 50) 3
def Sx32 : zm ["self"] ["self"] (zd zbz) := by walk_at "s"
def Px32 (K : Frag) (T : Cl) (ec : Ec) : Sp := fun vs H Q _ => ∃ (x l : Addr) (ns : List Int), vs = [.ref x] /\ PlainAt T.P H x l ns /\ GoodC ns /\ ∀ x' l' H', H x' = none -> H l' = none -> PlainAt T.P H' x' l' ns -> Same H H' -> Q (.ref x') H'
abbrev Yx32 : Prop := CalM P w K mg base 4 T.P "fresh" ["self"] (Px32 K T ec)
theorem ox32 (D : DefM K T.P "fresh" "Plain.fresh" zbz ["self"]) (Cx29 : @zdr P w K mg base T ec) : @Yx32 P w K mg base T ec := by
 refine D.okH Sx32 ?_ (fun _ _ _ _ _ H vs Q E hr h => ?_)
 ·walk_at "l"
 obtain ⟨x, l, ns, rfl, pa, g0, q⟩ := h
 refine ⟨_, (ze (zV (kR (Cx29.good.up) hr rfl (zc (z5 (pv 0) rfl) za)))), ?_⟩
 obtain ⟨⟨dx, hx⟩, hl⟩ := pa
 refine ⟨_, rfl, x, T.P, dx, _, _, rfl, hx, tf.fP.cl, tf.fP.nKept, zaz _ _, ?_⟩
 exact ⟨l, ns, rfl, SqL.of hl, g0, fun x' l' H' n1 n2 p s => q x' l' H' n1 n2 p s⟩
abbrev zbA : Stmt := yj (top 51) 0
def Sx33 : zm ["self", "many", "step"] ["self", "many", "step"] (zd zbA) := by walk_at "s"
def Px33 (K : Frag) (T : Cl) (ec : Ec) : Sp := fun vs H Q _ => ∃ (x dx : Addr) (m s : Int), vs = [.ref x, .int m, .int s] /\ H x = some (.ins T.L dx []) /\ 1 <= m /\ m <= 100 /\ 1 <= s /\ s <= 9 ∧
 ∀ l H', H l = none -> LearnAt T.L H' x l m s (xA m) -> (∀ b o, H b = some o -> b ≠ x -> H' b = some o) -> Q .non H'
def Bx33 (K : Frag) (T : Cl) (ec : Ec) : BSp := fun vs H E => ∃ (x dx : Addr) (m s : Int), vs = [.ref x, .int m, .int s] /\ H x = some (.ins T.L dx []) /\ ¬ (1 <= m /\ m <= 100 /\ 1 <= s /\ s <= 9) /\ ∀ H', (∀ b o, H b = some o -> b ≠ x -> H' b = some o) -> E (.ref ec.noShares) none H'
def Bx34 (K : Frag) (T : Cl) (ec : Ec) : BSp := fun vs H E => ∃ (m s : Int), vs = [.int m, .int s] /\ ¬ (1 <= m /\ m <= 100 /\ 1 <= s /\ s <= 9) /\ ∀ H', Same H H' -> E (.ref ec.noShares) none H'
def Bx35 (K : Frag) (T : Cl) (ec : Ec) : BSp := fun vs H E => ∃ (m : Int), vs = [.int m] /\ ¬ (1 <= m /\ m <= 100) /\ ∀ H', Same H H' -> E (.ref ec.noShares) none H'
def Px34 (K : Frag) (T : Cl) : Sp := fun vs H Q _ => ∃ (m s : Int), vs = [.int m, .int s] /\ 1 <= m /\ m <= 100 /\ 1 <= s /\ s <= 9 /\ ∀ x l H', H x = none -> H l = none -> LearnAt T.L H' x l m s (xA m) -> Same H H' -> Q (.ref x) H'
def Px35 (K : Frag) (T : Cl) : Sp := fun vs H Q _ => ∃ (m : Int), vs = [.int m] /\ 1 <= m /\ m <= 100 /\ ∀ x l H', H x = none -> H l = none -> LearnAt T.L H' x l m 1 (xA m) -> Same H H' -> Q (.ref x) H'
abbrev zds : Prop := CalAX P w K mg base 3 "Learner" (orS (Px34 K T) (Bx34 K T ec))
abbrev Yx35 : Prop := CalAX P w K mg base 3 "Learner" (orS (Px35 K T) (Bx35 K T ec))
theorem ox33 (D : DefI K T.L "Learner.__init__" zbA ["self", "many", "step"] [.int 1]) (Cx27 : @Yx27 P w K mg base T ec) : @zds P w K mg base T ec /\ @Yx35 P w K mg base T ec := by
 refine D.okB (sp := Px33 K T ec) (bd := Bx33 K T ec) tf.mL Sx33 ?_ ?_ (fun _ _ _ _ _ H vs Q E hr h => ?_) (fun vs H Q h x dx nx ndx nd => ?_) (fun vs H Q h x dx nx ndx nd => ?_) (fun _ _ _ _ _ H vs E hr h => ?_) (fun vs H E h x dx nx ndx nd => ?_) (fun vs H E h x dx nx ndx nd => ?_)
 ·walk_at "l"
 ·walk_at "l"
 ·obtain ⟨x, dx, m, st, rfl, hx, h1, h2, h3, h4, q⟩ := h
  refine ⟨_, (zf (zi (kS (Cx27.good.up) hr rfl (zc (pv 0) (zc (pv 1) za))))
   (zf (zy (yv (z6 yo yo zb (pv 2) (yq rfl g.MOST_STEP))) (ze yf) zE)
   (zf (yw (pv 0) (pv 2) rfl)
   (ze (yw (pv 0) (zq wH (xi (zc zb za)) (pv 1)) rfl))))), ?_⟩
  refine ⟨_, rfl, _, rfl, x, T.L, dx, m, rfl, hx, tf.fL, h1, h2, ?_⟩
  walk_at "r"
  refine zL (fun _ => ?_) (fun c => absurd (decide_eq_true h3) c)
  refine ⟨_, _, rfl, rfl, _, rfl, ?_⟩
  have e1 : decide (st <= 9) = true := decide_eq_true h4
  rw [e1]
  refine xD ?_
  refine ⟨_, rfl, _, rfl, x, T.L, dx, _, rfl, zh, tf.fL.cl, tf.fL.nStep, (by show 1 < 1000; decide), ?_⟩
  rw [qv, yM]
  refine ⟨zl1, fun t ht => ?_⟩
  have ntx : t ≠ x := fun z => by subst z; rw [zh] at ht; cases ht
  have ht' : H t = none := by rw [zj ntx] at ht; exact ht
  refine ⟨_, rfl, t, m, _, rfl, rfl, zh, by omega, by omega, szl (by show 1 * m.toNat <= 1000; omega), fun l hl => ?_⟩
  rw [za0]
  have nlt : l ≠ t := fun z => by subst z; rw [zh] at hl; cases hl
  rw [zj nlt] at hl
  have nlx : l ≠ x := fun z => by subst z; rw [zh] at hl; cases hl
  have hl' : H l = none := by rw [zj nlx] at hl; exact hl
  refine ⟨_, rfl, x, T.L, dx, _, rfl, (by rw [zj nlx.symm, zj ntx.symm, zh]), tf.fL.cl, tf.fL.nLearnt, (by show 2 < 1000; decide), ?_⟩
  rw [wO]
  refine q l _ hl' ⟨⟨dx, zh⟩, ?_⟩ fun b o e nb => ?_
  ·rw [zj nlx, zh]
   rfl
  ·rw [zj nb, zj (zu e hl'), zj (zu e ht'), zj nb]
   exact e
 ·obtain ⟨m, st, rfl, h1, h2, h3, h4, q⟩ := h
  exact ⟨x, dx, m, st, rfl, zh, h1, h2, h3, h4, fun l H' hl pa fr => ⟨rfl, q x l H' nx (yO hl) pa (ye nx ndx fr)⟩⟩
 ·obtain ⟨m, rfl, h1, h2, q⟩ := h
  exact ⟨x, dx, m, 1, rfl, zh, h1, h2, by decide, by decide, fun l H' hl pa fr => ⟨rfl, q x l H' nx (yO hl) pa (ye nx ndx fr)⟩⟩
 ·obtain ⟨x, dx, m, st, rfl, hx, nb, q⟩ := h
  refine ⟨_, (zf (zi (wt (Cx27.up) zr hr rfl (zc (pv 0) (zc (pv 1) za))))
   (yz (zy (yv (z6 yo yo zb (pv 2) (yq rfl g.MOST_STEP))) (ze (zQ zW rfl rfl rfl xf.m1 xf.o1 (zc yd za))) zE))), ?_⟩
  by_cases hm : 1 <= m /\ m <= 100
  ·obtain ⟨h1, h2⟩ := hm
   refine ⟨_, rfl, _, rfl, .inl ⟨x, T.L, dx, m, rfl, hx, tf.fL, h1, h2, ?_⟩⟩
   walk_at "r"
   have q' := q (upd H x (.ins T.L dx [("many", .int m)])) (fun b o e nb => by rw [zj nb]; exact e)
   refine zL (fun c => ?_) (fun c => ?_)
   ·have c1 : 1 <= st := of_decide_eq_true c
    refine ⟨_, _, rfl, rfl, _, rfl, ?_⟩
    have e1 : decide (st <= 9) = false := decide_eq_false (fun z => nb ⟨h1, h2, c1, z⟩)
    rw [e1]
    refine yR ?_
    exact ⟨zl1, q'⟩
   ·refine ⟨_, rfl, ?_⟩
    refine yR ?_
    exact ⟨zl1, q'⟩
  ·exact ⟨_, rfl, _, rfl, .inr ⟨x, T.L, dx, m, rfl, hx, tf.fL, hm, q _ (fun b o e _ => e)⟩⟩
 ·obtain ⟨m, st, rfl, nb, q⟩ := h
  exact ⟨x, dx, m, st, rfl, zh, nb, fun H' fr => q H' (ye nx ndx fr)⟩
 ·obtain ⟨m, rfl, nb, q⟩ := h
  exact ⟨x, dx, m, 1, rfl, zh, fun z => nb ⟨z.1, z.2.1⟩, fun H' fr => q H' (ye nx ndx fr)⟩
abbrev zbB : Stmt := yj (top 51) 1
def Sx36 : zm ["self"] ["self"] (zd zbB) := by walk_at "s"
def Px36 (K : Frag) (T : Cl) (ec : Ec) : Sp := fun vs H Q _ => ∃ (x l : Addr) (m s : Int) (t : List Int), vs = [.ref x] /\ LearnAt T.L H x l m s t /\ ∀ p, H p = none -> Q (.ref p) (upd H p (.lst (t.map V.int)))
abbrev Yx36 : Prop := CalM P w K mg base 1 T.L "counts" ["self"] (Px36 K T ec)
theorem ox36 (D : DefM K T.L "counts" "Learner.counts" zbB ["self"]) : @Yx36 P w K mg base T ec := by
 refine D.ok Sx36 ?_ (fun _ _ _ _ _ H vs Q E hr h => ?_)
 ·walk_at "l"
 obtain ⟨x, l, m, st, t, rfl, pa, q⟩ := h
 refine ⟨_, (ze (zV (yV yI rfl z.list ji (zc (z5 (pv 0) rfl) za)))), ?_⟩
 obtain ⟨⟨dx, hx⟩, hl⟩ := pa
 refine ⟨_, rfl, x, T.L, dx, _, _, rfl, hx, tf.fL.cl, tf.fL.nLearnt, zaY _ _ _, l, _, rfl, .inl (SqL.of hl), fun p hp => ?_⟩
 exact ⟨_, Less.new (zB hp) hp zh rfl, q p hp⟩
abbrev zbC : Stmt := yj (top 51) 2
def Sx37 : zm ["self", "sign"] ["self", "sign"] (zd zbC) := by walk_at "s"
def Bx37 (K : Frag) (T : Cl) (ec : Ec) : BSp := fun vs H E => ∃ (x l : Addr) (m s : Int) (t : List Int) (k : Int), vs = [.ref x, .int k] /\ LearnAt T.L H x l m s t /\ ¬ (0 <= k /\ k < m) /\ E (.ref ec.noSign) none H
abbrev Yx37 : Prop := CalMX P w K mg base 2 T.L "see" ["self", "sign"] (fun vs H _ E => Bx37 K T ec vs H E)
theorem ox37 (D : DefM K T.L "see" "Learner.see" zbC ["self", "sign"]) (Cx1 : @Yx1 P w K mg base T ec) : @Yx37 P w K mg base T ec := by
 refine D.okR Sx37 ?_ (fun _ _ _ _ _ H vs E hr h => ?_)
 ·walk_at "l"
 ·obtain ⟨x, l, m, st, t, k, rfl, pa, n, q⟩ := h
  refine ⟨_, (yz (zi (zp (Cx1.up) zr hr rfl (zc (z5 (pv 0) rfl) (zc (pv 1) za))))), ?_⟩
  obtain ⟨⟨dx, hx⟩, hl⟩ := pa
  exact ⟨_, rfl, x, T.L, dx, _, _, rfl, hx, tf.fL.cl, tf.fL.nMany, zaA _ _ _, _, rfl, .inr ⟨_, _, rfl, n, _, Less.refl, q⟩⟩
abbrev zbD : Stmt := yj (top 51) 3
def Sx38 : zm ["self"] ["self"] (zd zbD) := by walk_at "s"
def Px38 (K : Frag) (T : Cl) (ec : Ec) : Sp := fun vs H Q _ => ∃ (x l : Addr) (m s : Int) (t : List Int), vs = [.ref x] /\ LearnAt T.L H x l m s t /\ 1 <= m /\ m <= 100 /\ 1 <= s /\ s <= 9 /\ ∀ x' l' H', H x' = none -> H l' = none -> LearnAt T.L H' x' l' m s (xA m) -> Same H H' -> Q (.ref x') H'
abbrev Yx38 : Prop := CalM P w K mg base 4 T.L "fresh" ["self"] (Px38 K T ec)
theorem ox38 (D : DefM K T.L "fresh" "Learner.fresh" zbD ["self"]) (Cx34 : @zds P w K mg base T ec) : @Yx38 P w K mg base T ec := by
 refine D.okH Sx38 ?_ (fun _ _ _ _ _ H vs Q E hr h => ?_)
 ·walk_at "l"
 obtain ⟨x, l, m, st, t, rfl, pa, h1, h2, h3, h4, q⟩ := h
 refine ⟨_, (ze (zV (kR (Cx34.good.up) hr rfl (zc (z5 (pv 0) rfl) (zc (z5 (pv 0) rfl) za))))), ?_⟩
 obtain ⟨⟨dx, hx⟩, hl⟩ := pa
 refine ⟨_, rfl, x, T.L, dx, _, _, rfl, hx, tf.fL.cl, tf.fL.nMany, zaA _ _ _, ?_⟩
 refine ⟨_, rfl, x, T.L, dx, _, _, rfl, hx, tf.fL.cl, tf.fL.nStep, zd2 _ _ _, ?_⟩
 exact ⟨m, st, rfl, h1, h2, h3, h4, q⟩
abbrev zbE : Stmt := yj (top 52) 0
def Sx39 : zm ["self", "many", "step"] ["self", "many", "step"] (zd zbE) := by walk_at "s"
def Px39 (K : Frag) (T : Cl) (ec : Ec) : Sp := fun vs H Q _ => ∃ (x dx : Addr) (m s : Int), vs = [.ref x, .int m, .int s] /\ H x = some (.ins T.F dx []) /\ 1 <= m /\ m <= 100 /\ 1 <= s /\ s <= 9 ∧
 ∀ bh l0 k0 ls ks H', (∀ b ∈ bh :: l0 :: k0 :: (ls ++ ks), H b = none) -> FollowAt T H' x bh l0 k0 ls ks m s none (xA m) (List.replicate m.toNat (xA m)) -> (∀ b o, H b = some o -> b ≠ x -> H' b = some o) -> Q .non H'
def Bx39 (K : Frag) (T : Cl) (ec : Ec) : BSp := fun vs H E => ∃ (x dx : Addr) (m s : Int), vs = [.ref x, .int m, .int s] /\ H x = some (.ins T.F dx []) /\ ¬ (1 <= m /\ m <= 100 /\ 1 <= s /\ s <= 9) /\ ∀ H', (∀ b o, H b = some o -> b ≠ x -> H' b = some o) -> E (.ref ec.noShares) none H'
def Bx40 (K : Frag) (T : Cl) (ec : Ec) : BSp := fun vs H E => ∃ (m s : Int), vs = [.int m, .int s] /\ ¬ (1 <= m /\ m <= 100 /\ 1 <= s /\ s <= 9) /\ ∀ H', Same H H' -> E (.ref ec.noShares) none H'
def Bx41 (K : Frag) (T : Cl) (ec : Ec) : BSp := fun vs H E => ∃ (m : Int), vs = [.int m] /\ ¬ (1 <= m /\ m <= 100) /\ ∀ H', Same H H' -> E (.ref ec.noShares) none H'
def Px40 (K : Frag) (T : Cl) : Sp := fun vs H Q _ => ∃ (m s : Int), vs = [.int m, .int s] /\ 1 <= m /\ m <= 100 /\ 1 <= s /\ s <= 9 /\ ∀ x own H', MoAt T H' x own (.fo m s none (xA m) (List.replicate m.toNat (xA m))) -> (∀ b ∈ own, H b = none) -> Same H H' -> Q (.ref x) H'
def Px41 (K : Frag) (T : Cl) : Sp := fun vs H Q _ => ∃ (m : Int), vs = [.int m] /\ 1 <= m /\ m <= 100 /\ ∀ x own H', MoAt T H' x own (.fo m 1 none (xA m) (List.replicate m.toNat (xA m))) -> (∀ b ∈ own, H b = none) -> Same H H' -> Q (.ref x) H'
abbrev Yx40 : Prop := CalAX P w K mg base 5 "Follower" (orS (Px40 K T) (Bx40 K T ec))
abbrev Yx41 : Prop := CalAX P w K mg base 5 "Follower" (orS (Px41 K T) (Bx41 K T ec))
theorem ox39 (D : DefI K T.F "Follower.__init__" zbE ["self", "many", "step"] [.int 1]) (Cx27 : @Yx27 P w K mg base T ec) (Cx34 : @zds P w K mg base T ec) : @Yx40 P w K mg base T ec /\ @Yx41 P w K mg base T ec := by
 refine D.okB (sp := Px39 K T ec) (bd := Bx39 K T ec) tf.mF Sx39 ?_ ?_ (fun _ _ _ _ _ H vs Q E hr h => ?_) (fun vs H Q h x dx nx ndx nd => ?_) (fun vs H Q h x dx nx ndx nd => ?_) (fun _ _ _ _ _ H vs E hr h => ?_) (fun vs H E h x dx nx ndx nd => ?_) (fun vs H E h x dx nx ndx nd => ?_)
 ·walk_at "l"
 ·walk_at "l"
 ·obtain ⟨x, dx, m, st, rfl, hx, h1, h2, h3, h4, q⟩ := h
  refine ⟨_, (zf (zi (kS (Cx27.good.up) hr rfl (zc (pv 0) (zc (pv 1) za))))
   (zf (yw (pv 0) (pv 2) rfl)
   (zf (yw (pv 0) (kR (Cx34.good.up) hr rfl (zc (pv 1) (zc (pv 2) za))) rfl)
   (ze (yw (pv 0) (jv (caps := [(1, "many"), (2, "step")]) rfl (xC rfl z.range (zc (pv 1) za)) ⟨rfl, by decide +kernel, by decide +kernel, rfl⟩ ⟨⟨rfl, Or.inl rfl, rfl⟩, ⟨⟨rfl, Or.inl rfl, rfl⟩, trivial⟩⟩ rfl (by decide +kernel) (fun _ _ _ _ => yX) (fun _ _ _ _ => (kR (Cx34.good.up) hr rfl (zc (pv 1) (zc (pv 2) za))))) rfl))))), ?_⟩
  refine ⟨_, rfl, _, rfl, x, T.F, dx, m, rfl, hx, tf.fF, h1, h2, ?_⟩
  refine ⟨_, rfl, _, rfl, x, T.F, dx, _, rfl, zh, tf.fF.cl, tf.fF.nStep, (by show 1 < 1000; decide), ?_⟩
  rw [qv, yM]
  refine ⟨_, rfl, _, rfl, m, st, rfl, h1, h2, h3, h4, fun l0 k0 H1 nl0 nk0 la0 s1 => ?_⟩
  have x1 := s1 _ _ (zh (H := H) (a := x) (o := .ins T.F dx [("many", .int m), ("step", .int st)]))
  refine ⟨_, rfl, x, T.F, dx, _, rfl, x1, tf.fF.cl, tf.fF.nTeller, (by show 2 < 1000; decide), ?_⟩
  rw [wP]
  have fH : ∀ b, (upd H x (.ins T.F dx [("many", .int m), ("step", .int st)])) b = none -> H b = none := fun b e => by
   by_cases z : b = x
   ·rw [z, zh] at e; cases e
   ·rw [zj z] at e; exact e
  have nl0x : l0 ≠ x := fun z => by rw [z, zh] at nl0; cases nl0
  have nk0x : k0 ≠ x := fun z => by rw [z, zh] at nk0; cases nk0
  have fr1 : ∀ b o, H b = some o -> b ≠ x -> (upd H1 x (.ins T.F dx [("many", .int m), ("step", .int st), ("teller", .ref l0)])) b = some o := fun b o e nb => by
   rw [zj nb]
   exact s1 _ _ (by rw [zj nb]; exact e)
  have la1 : LearnAt T.L (upd H1 x (.ins T.F dx [("many", .int m), ("step", .int st), ("teller", .ref l0)])) l0 k0 m st (xA m) := by
   obtain ⟨⟨d, e1⟩, e2⟩ := la0
   exact ⟨⟨d, by rw [zj nl0x]; exact e1⟩, by rw [zj nk0x]; exact e2⟩
  have x2 : (upd H1 x (.ins T.F dx [("many", .int m), ("step", .int st), ("teller", .ref l0)])) x = some (.ins T.F dx [("many", .int m), ("step", .int st), ("teller", .ref l0)]) := zh
  have hn1 := fH _ nl0
  have hn2 := fH _ nk0
  have fe : ∀ b, (upd H1 x (.ins T.F dx [("many", .int m), ("step", .int st), ("teller", .ref l0)])) b = none -> H b = none := fun b e => by
   by_cases z : b = x
   ·rw [z, zh] at e; cases e
   ·rw [zj z] at e; exact fH b (s1.free e)
  generalize upd H1 x (.ins T.F dx [("many", .int m), ("step", .int st), ("teller", .ref l0)]) = H2 at fr1 la1 x2 fe |-
  refine ⟨_, rfl, m, rfl, by omega, by omega, fun D hD => ?_⟩
  refine zco (fun i ys H3 => ∃ ls ks : List Addr, ys = ls.map V.ref /\ H3 D = some (.lst ys) /\ ls.length = i /\ ks.length = i /\ (∀ j, j < i -> LearnAt T.L H3 (ls.getD j 0) (ks.getD j 0) m st (xA m)) /\ (l0 :: ls).Nodup /\ (k0 :: ks).Nodup /\ (∀ b ∈ ls ++ ks, H2 b = none /\ b ≠ D) /\ ∀ b o, H2 b = some o -> H3 b = some o) (szl (by omega))
   ⟨[], [], rfl, zh, rfl, rfl, fun j hj => absurd hj (Nat.not_lt_zero _), by simp, by simp, fun b hb => by simp at hb, fun b o e => zF e hD⟩ (fun i ys H3 ⟨ls, ks, e1, e2, e3, _⟩ => ⟨e2, by rw [e1, List.length_map]; exact e3⟩) ?_ ?_ ?_
  ·rintro i ys H3 hi ⟨ls, ks, rfl, e2, e3, e4, e5, e6, e7, e8, e9⟩
   refine ⟨_, rfl, _, rfl, m, st, rfl, h1, h2, h3, h4, fun y k H4 ny nk la s4 => ⟨s4 _ _ e2, ls ++ [y], ks ++ [k], by rw [List.map_append]; rfl, zh, by rw [List.length_append, e3]; rfl, by rw [List.length_append, e4]; rfl, fun j hj => ?_, ?_, ?_, fun b hb => ?_, fun b o e => ?_⟩⟩
   ·have nD : ∀ (b : Addr) (o : HO), H3 b = some o -> b ≠ D -> (upd H4 D (.lst (ls.map V.ref ++ [.ref y]))) b = some o := fun b o e n => by rw [zj n]; exact s4 _ _ e
    have keep : ∀ (a c : Addr), LearnAt T.L H4 a c m st (xA m) -> a ≠ D -> c ≠ D -> LearnAt T.L (upd H4 D (.lst (ls.map V.ref ++ [.ref y]))) a c m st (xA m) := fun a c ⟨⟨d, q1⟩, q2⟩ n1 n2 => ⟨⟨d, by rw [zj n1]; exact q1⟩, by rw [zj n2]; exact q2⟩
    by_cases hji : j < i
    ·have a1 : (ls ++ [y]).getD j 0 = ls.getD j 0 := by rw [List.getD_eq_getElem?_getD, List.getElem?_append_left (by omega), List.getD_eq_getElem?_getD]
     have a2 : (ks ++ [k]).getD j 0 = ks.getD j 0 := by rw [List.getD_eq_getElem?_getD, List.getElem?_append_left (by omega), List.getD_eq_getElem?_getD]
     rw [a1, a2]
     exact keep _ _ ((e5 j hji).same s4) (e8 _ (List.mem_append_left _ (xx (by omega)))).2 (e8 _ (List.mem_append_right _ (xx (by omega)))).2
    ·have ej : j = i := by omega
     subst ej
     have a1 : (ls ++ [y]).getD j 0 = y := by rw [List.getD_eq_getElem?_getD, List.getElem?_append_right (by omega), e3, Nat.sub_self]; rfl
     have a2 : (ks ++ [k]).getD j 0 = k := by rw [List.getD_eq_getElem?_getD, List.getElem?_append_right (by omega), e4, Nat.sub_self]; rfl
     rw [a1, a2]
     exact keep _ _ la (fun z => by rw [z, e2] at ny; cases ny) (fun z => by rw [z, e2] at nk; cases nk)
   ·have q := la1
    obtain ⟨⟨d, q1⟩, _⟩ := q
    rw [<- List.cons_append]
    refine List.nodup_append.mpr ⟨e6, by simp, fun a ha b hb => ?_⟩
    have eb : b = y := by simpa using hb
    subst eb
    rcases List.mem_cons.mp ha with z | z
    ·rw [z]; exact zu (e9 _ _ q1) ny
    ·obtain ⟨j, hj, ej⟩ := List.getElem_of_mem z
     have q2 := (e5 j (by omega)).ob
     obtain ⟨d2, q2⟩ := q2
     rw [List.getD_eq_getElem?_getD, List.getElem?_eq_getElem hj] at q2
     rw [<- ej]
     exact zu q2 ny
   ·rw [<- List.cons_append]
    refine List.nodup_append.mpr ⟨e7, by simp, fun a ha b hb => ?_⟩
    have eb : b = k := by simpa using hb
    subst eb
    rcases List.mem_cons.mp ha with z | z
    ·rw [z]; exact zu (e9 _ _ la1.ls) nk
    ·obtain ⟨j, hj, ej⟩ := List.getElem_of_mem z
     have q2 := (e5 j (by omega)).ls
     have hk : j < ks.length := hj
     rw [List.getD_eq_getElem?_getD (l := ks), List.getElem?_eq_getElem hk] at q2
     rw [<- ej]
     exact zu q2 nk
   ·have nyD : y ≠ D := fun z => by rw [z, e2] at ny; cases ny
    have nkD : k ≠ D := fun z => by rw [z, e2] at nk; cases nk
    have fr3 : ∀ b, H3 b = none -> H2 b = none := fun b e => by
     cases q : H2 b with
     | none => rfl
     | some o => rw [e9 _ _ q] at e; cases e
    simp only [List.mem_append, List.mem_singleton] at hb
    rcases hb with (z | z) | (z | z)
    ·exact e8 b (List.mem_append_left _ z)
    ·rw [z]; exact ⟨fr3 _ ny, nyD⟩
    ·exact e8 b (List.mem_append_right _ z)
    ·rw [z]; exact ⟨fr3 _ nk, nkD⟩
   ·rw [zj (zu e hD)]
    exact s4 _ _ (e9 _ _ e)
  ·rintro σ H3 Q1 Q2 hq ⟨v1, w1, v2, w2, m', s', r1, r2, r3, r4, r5, r6⟩
   exact ⟨v1, w1, v2, w2, m', s', r1, r2, r3, r4, r5, fun a b c d e f g => hq _ _ (r6 a b c d e f g)⟩
  rintro ys H3 ⟨ls, ks, rfl, e2, e3, e4, e5, e6, e7, e8, e9⟩
  refine ⟨_, rfl, x, T.F, dx, _, rfl, e9 _ _ x2, tf.fF.cl, tf.fF.nBehind, (by show 3 < 1000; decide), ?_⟩
  rw [wQ]
  have nDx : D ≠ x := fun z => by rw [z, x2] at hD; cases hD
  have nx3 : ∀ b, H2 b = none -> b ≠ x := fun b e z => by rw [z, x2] at e; cases e
  have keepL : ∀ (a c : Addr) (t : List Int), LearnAt T.L H3 a c m st t -> a ≠ x -> c ≠ x -> LearnAt T.L (upd H3 x (.ins T.F dx (vD m st l0 D))) a c m st t := fun a c t ⟨⟨d, q1⟩, q2⟩ n1 n2 => ⟨⟨d, by rw [zj n1]; exact q1⟩, by rw [zj n2]; exact q2⟩
  have la3 : LearnAt T.L H3 l0 k0 m st (xA m) := ⟨let ⟨d, q⟩ := la1.ob; ⟨d, e9 _ _ q⟩, e9 _ _ la1.ls⟩
  refine q D l0 k0 ls ks _ (fun b hb => ?_) { ob := ⟨dx, zh⟩, bh_ := by rw [zj nDx]; exact e2, beg := keepL _ _ _ la3 nl0x nk0x, eachL := fun j hj => ?_, l1 := e3, l2 := e4, l3 := List.length_replicate, nd1 := e6, nd2 := e7, cu := fun i hi => by cases hi } fun b o e nb => ?_
  ·simp only [List.mem_cons] at hb
   rcases hb with z | z | z | z
   ·rw [z]; exact fe D hD
   ·rw [z]; exact hn1
   ·rw [z]; exact hn2
   ·exact fe b (e8 b z).1
  ·have er : (List.replicate m.toNat (xA m)).getD j [] = xA m := by
    rw [List.getD_eq_getElem?_getD, List.getElem?_replicate, if_pos (by omega)]
    rfl
   rw [er]
   exact keepL _ _ _ (e5 j (by omega)) (nx3 _ (e8 _ (List.mem_append_left _ (xx hj))).1) (nx3 _ (e8 _ (List.mem_append_right _ (xx (by omega)))).1)
  ·rw [zj nb]
   exact e9 _ _ (fr1 b o e nb)
 ·obtain ⟨m, st, rfl, h1, h2, h3, h4, q⟩ := h
  exact ⟨x, dx, m, st, rfl, zh, h1, h2, h3, h4, fun bh l0 k0 ls ks H' ho pa fr => ⟨rfl, q x (x :: bh :: l0 :: k0 :: (ls ++ ks)) H' ⟨bh, l0, k0, ls, ks, rfl, pa⟩ (fun b hb => by
   rcases List.mem_cons.mp hb with z | z
   ·rw [z]; exact nx
   ·exact yO (ho b z)) (ye nx ndx fr)⟩⟩
 ·obtain ⟨m, rfl, h1, h2, q⟩ := h
  exact ⟨x, dx, m, 1, rfl, zh, h1, h2, by decide, by decide, fun bh l0 k0 ls ks H' ho pa fr => ⟨rfl, q x (x :: bh :: l0 :: k0 :: (ls ++ ks)) H' ⟨bh, l0, k0, ls, ks, rfl, pa⟩ (fun b hb => by
   rcases List.mem_cons.mp hb with z | z
   ·rw [z]; exact nx
   ·exact yO (ho b z)) (ye nx ndx fr)⟩⟩
 ·obtain ⟨x, dx, m, st, rfl, hx, nb, q⟩ := h
  refine ⟨_, (zf (zi (wt (Cx27.up) zr hr rfl (zc (pv 0) (zc (pv 1) za))))
   (zf (yw (pv 0) (pv 2) rfl)
   (yz (yw (pv 0) (zY (Cx34.up) zr hr rfl (zc (pv 1) (zc (pv 2) za))) rfl)))), ?_⟩
  by_cases hm : 1 <= m /\ m <= 100
  ·obtain ⟨h1, h2⟩ := hm
   refine ⟨_, rfl, _, rfl, .inl ⟨x, T.F, dx, m, rfl, hx, tf.fF, h1, h2, ?_⟩⟩
   refine ⟨_, rfl, _, rfl, x, T.F, dx, _, rfl, zh, tf.fF.cl, tf.fF.nStep, (by show 1 < 1000; decide), ?_⟩
   rw [qv, yM]
   exact ⟨_, rfl, _, rfl, .inr ⟨m, st, rfl, nb, fun H' sm => q H' (fun b o e n => sm b o (by rw [zj n]; exact e))⟩⟩
  ·exact ⟨_, rfl, _, rfl, .inr ⟨x, T.F, dx, m, rfl, hx, tf.fF, hm, q _ (fun b o e _ => e)⟩⟩
 ·obtain ⟨m, st, rfl, nb, q⟩ := h
  exact ⟨x, dx, m, st, rfl, zh, nb, fun H' fr => q H' (ye nx ndx fr)⟩
 ·obtain ⟨m, rfl, nb, q⟩ := h
  exact ⟨x, dx, m, 1, rfl, zh, fun z => nb ⟨z.1, z.2.1⟩, fun H' fr => q H' (ye nx ndx fr)⟩
abbrev zbF : Stmt := yj (top 52) 2
def Sx42 : zm ["self", "sign"] ["self", "sign"] (zd zbF) := by walk_at "s"
def Bx42 (K : Frag) (T : Cl) (ec : Ec) : BSp := fun vs H E => ∃ (x bh l0 k0 : Addr) (ls ks : List Addr) (m s : Int) (cur : Option Nat) (b : List Int) (ts : List (List Int)) (k : Int), vs = [.ref x, .int k] /\ FollowAt T H x bh l0 k0 ls ks m s cur b ts /\ ¬ (0 <= k /\ k < m) /\ E (.ref ec.noSign) none H
abbrev Yx42 : Prop := CalMX P w K mg base 3 T.F "see" ["self", "sign"] (fun vs H _ E => Bx42 K T ec vs H E)
theorem ox42 (D : DefM K T.F "see" "Follower.see" zbF ["self", "sign"]) (Cx37 : @Yx37 P w K mg base T ec) : @Yx42 P w K mg base T ec := by
 refine D.okR Sx42 ?_ (fun _ _ _ _ _ H vs E hr h => ?_)
 ·walk_at "l"
 ·obtain ⟨x, bh, l0, k0, ls, ks, m, st, cur, b0, ts, k, rfl, F, n, q⟩ := h
  refine ⟨_, (yz (zi (yc (Cs := fun C => C = T.L) (spm := fun _ => fun vs H _ E => Bx37 K T ec vs H E) (z5 (pv 0) rfl) (fun _ e => by subst e; exact ⟨tf.fL.cl, Cx37.up⟩) zr hr (zc (pv 1) za)))), ?_⟩
  obtain ⟨dx, hx⟩ := F.ob'
  have tl := F.tell
  obtain ⟨dt, et⟩ := tl.ob
  refine ⟨_, rfl, x, T.F, dx, _, _, rfl, hx, tf.fF.cl, tf.fF.nTeller, zaZ _ _ _ _, ?_⟩
  exact ⟨_, T.L, dt, _, rfl, et, rfl, nL (by decide +kernel) (by decide +kernel) (by decide +kernel) _ _ _, _, rfl, _, _, m, st, _, k, rfl, tl, n, _, Less.refl, q⟩
end
def kz (T : Cl) (C : Addr) : Prop := C = T.P \/ C = T.L
def qL (K : Frag) (T : Cl) (ec : Ec) (C : Addr) : Sp := fun vs H Q E => (C = T.P /\ Px30 K T ec vs H Q E) \/ (C = T.L /\ Px36 K T ec vs H Q E)
theorem zal {P : Program} {w : World} {K : Frag} {mg : Mq} {base : Heap} {T : Cl} {ec : Ec} {k : Nat} (tf : TF K mg T) (Cx29 : CalM P w K mg base k T.P "counts" ["self"] (Px30 K T ec)) (Cx34 : CalM P w K mg base k T.L "counts" ["self"] (Px36 K T ec)) : ∀ C, kz T C -> Cls K C /\ CalM P w K mg base k C "counts" ["self"] (qL K T ec C) := by
 rintro C (rfl | rfl)
 ·obtain ⟨f, fd, a, b, c⟩ := Cx29.ex
  refine ⟨tf.fP.cl, f, fd, a, b, c.imp fun vs H Q E h => ?_⟩
  rcases h with ⟨e, h⟩ | ⟨e, h⟩
  ·exact h
  ·exact absurd e tf.nPL
 ·obtain ⟨f, fd, a, b, c⟩ := Cx34.ex
  refine ⟨tf.fL.cl, f, fd, a, b, c.imp fun vs H Q E h => ?_⟩
  rcases h with ⟨e, h⟩ | ⟨e, h⟩
  ·exact absurd e tf.nLP
  ·exact h
def zam (T : Cl) (C : Addr) : Prop := C = T.P \/ C = T.L \/ C = T.F
def qM (K : Frag) (T : Cl) (ec : Ec) (C : Addr) : Sp := fun vs H Q E => (C = T.P /\ orS (Px31 K T ec) (Bx31 K T ec) vs H Q E) \/ (C = T.L /\ Bx37 K T ec vs H E) \/ (C = T.F /\ Bx42 K T ec vs H E)
theorem wu {P : Program} {w : World} {K : Frag} {mg : Mq} {base : Heap} {T : Cl} {ec : Ec} {k : Nat} (tf : TF K mg T) (Cx29 : CalMX P w K mg base k T.P "see" ["self", "sign"] (orS (Px31 K T ec) (Bx31 K T ec))) (Cx34 : CalMX P w K mg base k T.L "see" ["self", "sign"] (fun vs H _ E => Bx37 K T ec vs H E)) (Cx40 : CalMX P w K mg base k T.F "see" ["self", "sign"] (fun vs H _ E => Bx42 K T ec vs H E)) : ∀ C, zam T C -> Cls K C /\ CalMX P w K mg base k C "see" ["self", "sign"] (qM K T ec C) := by
 rintro C (rfl | rfl | rfl)
 ·obtain ⟨f, fd, a, b, c⟩ := Cx29.ex
  refine ⟨tf.fP.cl, f, fd, a, b, c.imp fun vs H Q E h => ?_⟩
  rcases h with ⟨e, h⟩ | ⟨e, h⟩ | ⟨e, h⟩
  ·exact h
  ·exact absurd e tf.nPL
  ·exact absurd e tf.nPF
 ·obtain ⟨f, fd, a, b, c⟩ := Cx34.ex
  refine ⟨tf.fL.cl, f, fd, a, b, c.imp fun vs H Q E h => ?_⟩
  rcases h with ⟨e, h⟩ | ⟨e, h⟩ | ⟨e, h⟩
  ·exact absurd e tf.nLP
  ·exact h
  ·exact absurd e tf.nLF
 ·obtain ⟨f, fd, a, b, c⟩ := Cx40.ex
  refine ⟨tf.fF.cl, f, fd, a, b, c.imp fun vs H Q E h => ?_⟩
  rcases h with ⟨e, h⟩ | ⟨e, h⟩ | ⟨e, h⟩
  ·exact absurd e tf.nFP
  ·exact absurd e tf.nFL
  ·exact h
def wv (T : Cl) (C : Addr) : Prop := C = T.P \/ C = T.L
def kA (K : Frag) (T : Cl) (ec : Ec) (C : Addr) : Sp := fun vs H Q E => (C = T.P /\ Px32 K T ec vs H Q E) \/ (C = T.L /\ Px38 K T ec vs H Q E)
theorem zbG {P : Program} {w : World} {K : Frag} {mg : Mq} {base : Heap} {T : Cl} {ec : Ec} {k : Nat} (tf : TF K mg T) (Cx29 : CalM P w K mg base k T.P "fresh" ["self"] (Px32 K T ec)) (Cx34 : CalM P w K mg base k T.L "fresh" ["self"] (Px38 K T ec)) : ∀ C, wv T C -> Cls K C /\ CalM P w K mg base k C "fresh" ["self"] (kA K T ec C) := by
 rintro C (rfl | rfl)
 ·obtain ⟨f, fd, a, b, c⟩ := Cx29.ex
  refine ⟨tf.fP.cl, f, fd, a, b, c.imp fun vs H Q E h => ?_⟩
  rcases h with ⟨e, h⟩ | ⟨e, h⟩
  ·exact h
  ·exact absurd e tf.nPL
 ·obtain ⟨f, fd, a, b, c⟩ := Cx34.ex
  refine ⟨tf.fL.cl, f, fd, a, b, c.imp fun vs H Q E h => ?_⟩
  rcases h with ⟨e, h⟩ | ⟨e, h⟩
  ·exact absurd e tf.nLP
  ·exact h
section
variable (P : Program) (w : World) {K : Frag} {mg : Mq} (base : Heap) {T : Cl} {ec : Ec} (z : BI mg) (g : GC mg) (tf : TF K mg T) (xf : XF K mg ec)
include z g tf xf
abbrev zdt : Stmt := top 53
def Sx43 : zm ["pile", "model", "row", "pupil", "told", "sign", "counts"] ["pile", "model", "row"] (zd zdt) := by walk_at "s"
def Bx43 (K : Frag) (T : Cl) (ec : Ec) : BSp := fun vs H E => ∃ (p : Int) (x r : Addr), vs = [.int p, .ref x, .ref r] /\ ((p < 0 /\ E (.ref ec.noPile) none H) \/ (0 <= p /\ ∃ (l : Addr) (m s : Int) (t rs : List Int), LearnAt T.L H x l m s t /\ SqL K H r (rs.map V.int) /\ 0 < rs.length /\ 1 <= m /\ m <= 100 /\ 1 <= s /\ s <= 9 /\ ¬ (0 <= rs.getD 0 0 /\ rs.getD 0 0 < m) /\ E (.ref ec.noSign) none H) ∨
 (0 <= p /\ ∃ (l : Addr) (ns rs : List Int), PlainAt T.P H x l ns /\ GoodC ns /\ SqL K H r (rs.map V.int) /\ rs.length <= 900 /\ PBad ns rs /\ E (.ref ec.noSign) none H))
abbrev Yx43 : Prop := CalX P w K mg base 5 "press" ["pile", "model", "row"] (fun vs H _ E => Bx43 K T ec vs H E)
theorem ox43 (D : Def K mg "press" zdt ["pile", "model", "row"]) (Cx6 : @Yx6 P w K mg base T ec) (Cx32 : @Yx32 P w K mg base T ec) (Cx38 : @Yx38 P w K mg base T ec) (Cx30 : @Yx30 P w K mg base T ec) (Cx36 : @Yx36 P w K mg base T ec) (Cx31 : @Yx31 P w K mg base T ec) (Cx37 : @Yx37 P w K mg base T ec) (Cx42 : @Yx42 P w K mg base T ec) (Cx7 : @Yx7 P w K mg base T ec) : @Yx43 P w K mg base T ec := by
 refine D.okR Sx43 ?_ (fun _ _ _ _ _ H vs E hr h => ?_)
 ·walk_at "l"
 ·obtain ⟨p, x, r, rfl, h⟩ := h
  refine ⟨_, (zf (zi (zp (Cx6.up) zr hr rfl (zc (pv 0) za)))
   (zf (zx (i := 3) Sx43.nd rfl (Or.inl rfl) (kd (Cs := wv T) (spm := kA K T ec) (pv 1) (zbG tf (Cx32.up) (Cx38.up)) hr))
   (zf (zx (i := 4) Sx43.nd rfl (Or.inl rfl) (xi za))
   (zf (yE PassesOwn.leaving rfl (yN (pv 2)) (zX (i := 5) Sx43.nd rfl (Or.inl rfl)) (zf (zi (xv PySem.F.plainAttrs_list PySem.F.slot_list_append PySem.F.type_list_append yS (pv 4) (zc (kd (Cs := kz T) (spm := qL K T ec) (pv 3) (zal tf (Cx30.up) (Cx36.up)) hr) za)))
   (ze (zi (yc (Cs := zam T) (spm := qM K T ec) (pv 3) (wu tf (Cx31.up) (Cx37.up) (Cx42.up)) zr hr (zc (pv 5) za))))))
   (yz (yE PassesOwn.leaving rfl (kQ rfl z.reversed (zc (zd4 rfl rfl z.list rfl z.zip (pv 2) (pv 4)) za)) (ql rfl (yK (zX (i := 5) Sx43.nd rfl (Or.inl rfl)) (yK (zX (i := 6) Sx43.nd rfl (Or.inl rfl)) jt))) (ze (zx (i := 0) Sx43.nd rfl (Or.inl rfl) (zp (Cx7.up) zr hr rfl (zc (pv 0) (zc (pv 6) (zc (pv 5) za)))))))))))), ?_⟩
  rcases h with ⟨hp, q⟩ | ⟨hp, l, m, st, t, rs, la, hR, rl, m0, m1, s0, s1, nk, q⟩ | ⟨hp, l, ns, rs, pa, gc, hR, rl, pb, q⟩
  ·exact ⟨_, rfl, .inr ⟨p, rfl, hp, _, Less.refl, q⟩⟩
  ·refine ⟨_, rfl, .inl ⟨p, rfl, hp, ?_⟩⟩
   obtain ⟨dx0, hx0⟩ := la.ob
   refine ⟨_, rfl, x, T.L, dx0, _, rfl, hx0, .inr rfl, nL (by decide +kernel) (by decide +kernel) (by decide +kernel) _ _ _, .inr ⟨rfl, x, l, m, st, t, rfl, la, m0, m1, s0, s1, fun x' l' H1 n1 n2 la1 sm => ?_⟩⟩
   refine ⟨zl0, fun tl htl => ?_⟩
   have s2 := sm.trans (zB (u := .lst []) htl)
   have la2 : LearnAt T.L (upd H1 tl (.lst [])) x' l' m st (xA m) := by
    obtain ⟨⟨d, e1⟩, e2⟩ := la1
    exact ⟨⟨d, zF e1 htl⟩, zF e2 htl⟩
   have t2 : (upd H1 tl (.lst [])) tl = some (.lst []) := zh
   have htH : H tl = none := sm.free htl
   generalize upd H1 tl (.lst []) = H2 at s2 la2 t2 |-
   refine ⟨_, rfl, r, rfl, ⟨_, s2.seq hR⟩, xb (K := K) (a := r) (xs := rs.map V.int) (fun i σ H3 => ∃ (v : Option V), σ = [some (.int p), some (.ref x), some (.ref r), some (.ref x'), some (.ref tl), v, none] /\ H3 = H2 /\ i = 0) ⟨none, rfl, rfl, rfl⟩ (fun i σ H3 _ ⟨_, _, e, _⟩ => e ▸ s2.seq hR) ?_ ?_⟩
   ·rintro i y σ H3 hi ⟨v, rfl, rfl, e0⟩
    subst e0
    obtain ⟨k, hk, rfl⟩ := zaj hi
    have ek : rs.getD 0 0 = k := by rw [List.getD_eq_getElem?_getD, hk]; rfl
    rw [ek] at nk
    obtain ⟨dx, hx⟩ := la2.ob
    refine ⟨_, rfl, .inl ⟨rfl, _, SqL.of t2⟩, _, rfl, x', T.L, dx, _, rfl, hx, .inr rfl, nL (by decide +kernel) (by decide +kernel) (by decide +kernel) _ _ _, .inr ⟨rfl, x', l', m, st, _, rfl, la2, fun p1 hp1 => ?_⟩⟩
    refine ⟨tl, _, _, rfl, rfl, zF t2 hp1, (by show 0 < sizeLine; decide), ?_⟩
    have nx' : x' ≠ tl := xR hx t2 (by intro z; cases z)
    have nl' : l' ≠ tl := fun z => by
     have := la1.ls
     rw [z, htl] at this
     cases this
    have np : tl ≠ p1 := fun z => by rw [<- z, t2] at hp1; cases hp1
    have la3 : LearnAt T.L (upd (upd H3 p1 (.lst ((xA m).map V.int))) tl (.lst ([] ++ [.ref p1]))) x' l' m st (xA m) := by
     obtain ⟨⟨d, e1⟩, e2⟩ := la2
     exact ⟨⟨d, by rw [zj nx']; exact zF e1 hp1⟩, by rw [zj nl']; exact zF e2 hp1⟩
    have s3 : Same H (upd (upd H3 p1 (.lst ((xA m).map V.int))) tl (.lst ([] ++ [.ref p1]))) := fun b o e => by
     rw [zj (zu e htH)]
     exact zF (s2 _ _ e) hp1
    obtain ⟨d3, hx3⟩ := la3.ob
    exact ⟨_, rfl, x', T.L, d3, _, rfl, hx3, .inr (.inl rfl), nL (by decide +kernel) (by decide +kernel) (by decide +kernel) _ _ _, _, rfl, .inr (.inl ⟨rfl, x', l', m, st, _, k, rfl, la3, nk, _, Less.same s3, q⟩)⟩
   ·rintro σ H3 ⟨v, rfl, rfl, e0⟩
    rw [List.length_map] at e0
    omega
  ·refine ⟨_, rfl, .inl ⟨p, rfl, hp, ?_⟩⟩
   obtain ⟨dx0, hx0⟩ := pa.ob
   refine ⟨_, rfl, x, T.P, dx0, _, rfl, hx0, .inl rfl, nP (by decide +kernel) (by decide +kernel) _ _, .inl ⟨rfl, x, l, ns, rfl, pa, gc, fun x' l' H1 n1 n2 pa1 sm => ?_⟩⟩
   refine ⟨zl0, fun tl htl => ?_⟩
   have s2 := sm.trans (zB (u := .lst []) htl)
   have htH : H tl = none := sm.free htl
   have pa2 : PlainAt T.P (upd H1 tl (.lst [])) x' l' ns := by
    obtain ⟨⟨d, e1⟩, e2⟩ := pa1
    exact ⟨⟨d, zF e1 htl⟩, zF e2 htl⟩
   have nlt : l' ≠ tl := fun z => by
    have := pa1.ls
    rw [z, htl] at this
    cases this
   refine ⟨_, rfl, r, rfl, ⟨_, s2.seq hR⟩, xb (K := K) (a := r) (xs := rs.map V.int) (fun i σ H3 => ∃ (as : List Addr) (v : Option V), σ = [some (.int p), some (.ref x), some (.ref r), some (.ref x'), some (.ref tl), v, none] /\ PlainAt T.P H3 x' l' ns /\ Same H H3 /\ H3 tl = some (.lst (as.map V.ref)) /\ as.length = i /\ (∀ j, j < i -> H3 (as.getD j 0) = some (.lst (ns.map V.int)) /\ as.getD j 0 ≠ tl) /\ ∀ j, j < i -> 0 <= rs.getD j 0 /\ rs.getD j 0 < (ns.length : Int))
    ⟨[], none, rfl, pa2, s2, zh, rfl, fun j hj => absurd hj (Nat.not_lt_zero _), fun j hj => absurd hj (Nat.not_lt_zero _)⟩ (fun i σ H3 _ ⟨_, _, _, _, ss, _⟩ => ss.seq hR) ?_ ?_⟩
   ·rintro i y σ H3 hi ⟨as, v, rfl, pa3, s3, t3, la, ea, hin⟩
    obtain ⟨k, hk, rfl⟩ := zaj hi
    have ek : rs.getD i 0 = k := by rw [List.getD_eq_getElem?_getD, hk]; rfl
    have il := (List.getElem?_eq_some_iff.mp hk).1
    obtain ⟨dx, hx⟩ := pa3.ob
    refine ⟨_, rfl, .inl ⟨rfl, _, SqL.of t3⟩, _, rfl, x', T.P, dx, _, rfl, hx, .inl rfl, nP (by decide +kernel) (by decide +kernel) _ _, .inl ⟨rfl, x', l', ns, rfl, pa3, fun p1 hp1 => ?_⟩⟩
    have np : p1 ≠ tl := fun z => by rw [z, t3] at hp1; cases hp1
    have nx' : x' ≠ tl := xR hx t3 (by intro z; cases z)
    refine ⟨tl, _, _, rfl, rfl, zF t3 hp1, jO (by rw [List.length_map]; omega), ?_⟩
    have s4 : Same H (upd (upd H3 p1 (.lst (ns.map V.int))) tl (.lst (as.map V.ref ++ [.ref p1]))) := fun b o e => by
     rw [zj (zu e htH)]
     exact zF (s3 _ _ e) hp1
    have pa4 : PlainAt T.P (upd (upd H3 p1 (.lst (ns.map V.int))) tl (.lst (as.map V.ref ++ [.ref p1]))) x' l' ns := by
     obtain ⟨⟨d, e1⟩, e2⟩ := pa3
     exact ⟨⟨d, by rw [zj nx']; exact zF e1 hp1⟩, by rw [zj nlt]; exact zF e2 hp1⟩
    have t4 : (upd (upd H3 p1 (.lst (ns.map V.int))) tl (.lst (as.map V.ref ++ [.ref p1]))) tl = some (.lst ((as ++ [p1]).map V.ref)) := by rw [zh, List.map_append]; rfl
    have p4 : (upd (upd H3 p1 (.lst (ns.map V.int))) tl (.lst (as.map V.ref ++ [.ref p1]))) p1 = some (.lst (ns.map V.int)) := by rw [zj np, zh]
    have ea4 : ∀ j, j < i -> (upd (upd H3 p1 (.lst (ns.map V.int))) tl (.lst (as.map V.ref ++ [.ref p1]))) (as.getD j 0) = some (.lst (ns.map V.int)) := fun j hj => by
     rw [zj (ea j hj).2]
     exact zF (ea j hj).1 hp1
    generalize upd (upd H3 p1 (.lst (ns.map V.int))) tl (.lst (as.map V.ref ++ [.ref p1])) = H4 at s4 pa4 t4 p4 ea4 |-
    obtain ⟨d4, hx4⟩ := pa4.ob
    refine ⟨_, rfl, x', T.P, d4, _, rfl, hx4, .inl rfl, nP (by decide +kernel) (by decide +kernel) _ _, _, rfl, .inl ⟨rfl, ?_⟩⟩
    by_cases kr : 0 <= k /\ k < (ns.length : Int)
    ·refine .inl ⟨x', l', ns, k, rfl, pa4, kr.1, kr.2, as ++ [p1], some (.int k), rfl, pa4, s4, t4, by rw [List.length_append, la]; rfl, fun j hj => ?_, fun j hj => ?_⟩
     ·by_cases hji : j < i
      ·have eg : (as ++ [p1]).getD j 0 = as.getD j 0 := by rw [List.getD_eq_getElem?_getD, List.getElem?_append_left (by rw [la]; exact hji), List.getD_eq_getElem?_getD]
       rw [eg]
       exact ⟨ea4 j hji, (ea j hji).2⟩
      ·have ej : j = i := by omega
       subst ej
       have eg : (as ++ [p1]).getD j 0 = p1 := by rw [List.getD_eq_getElem?_getD, List.getElem?_append_right (by rw [la]; exact Nat.le_refl _), la, Nat.sub_self]; rfl
       rw [eg]
       exact ⟨p4, np⟩
     ·rcases Nat.lt_or_ge j i with z | z
      ·exact hin j z
      ·have : j = i := by omega
       rw [this, ek]
       exact kr
    ·exact .inr ⟨x', l', ns, k, rfl, pa4, kr, _, Less.same s4, q⟩
   ·rintro σ H3 ⟨as, v, rfl, pa3, s3, t3, la, ea, hin⟩
    rw [List.length_map] at la ea hin
    rcases pb with ⟨j, jl, _, jb⟩ | ⟨r0, _, z0⟩
    ·exact absurd (hin j jl) jb
    refine ⟨_, rfl, _, rfl, r, tl, _, _, rfl, s3.seq hR, SqL.of t3, by rw [List.length_map, List.length_map, la], fun D ts H4 s4 nD lts eD etup => ?_⟩
    rw [List.length_map] at lts
    refine ⟨D, _, rfl, SqL.of eD, qh (K := K) (a := D) (xs := ts.map V.ref) (fun i σ H5 => ∃ (v w : Option V), σ = [some (.int p), some (.ref x), some (.ref r), some (.ref x'), some (.ref tl), v, w] /\ H5 = H4 /\ i = 0) ⟨v, none, rfl, rfl, rfl⟩ (fun i σ H5 _ ⟨_, _, _, e, _⟩ => e ▸ SqL.of eD) ?_ ?_⟩
    ·rintro i y σ H5 hi ⟨v, w', rfl, rfl, e0⟩
     subst e0
     obtain ⟨h1, rfl⟩ := vF hi
     have ej : ts.length - 1 - 0 = rs.length - 1 := by omega
     rw [ej]
     have tup := etup (rs.length - 1) _ _ (zcd (by omega)) (yU (ls := as) (i := rs.length - 1) (by omega))
     have hr1 := hin (rs.length - 1) (by omega)
     refine ⟨_, _, rfl, SqT.of tup, rfl, _, _, rfl, _, _, rfl, rfl, ?_⟩
     exact ⟨_, rfl, _, rfl, _, rfl, .inr ⟨p, as.getD (rs.length - 1) 0, ns, _, rfl, SqL.of (s4 _ _ (ea _ (by omega)).1), .inr (.inr ⟨gc, hp, .inr ⟨hr1.1, hr1.2, z0⟩, _, Less.same (s3.trans s4), q⟩)⟩⟩
    ·rintro σ H5 ⟨v, w', rfl, rfl, e0⟩
     rw [List.length_map] at e0
     omega
abbrev zdu : Stmt := top 54
def Sx44 : zm ["pile", "model", "many", "pupil", "row", "place", "taken"] ["pile", "model", "many"] (zd zdu) := by walk_at "s"
def Bx44 (K : Frag) (T : Cl) (ec : Ec) : BSp := fun vs H E => ∃ (p m : Int) (x : Addr), vs = [.int p, .ref x, .int m] /\ p < 0 /\ E (.ref ec.noPile) none H
abbrev Yx44 : Prop := CalX P w K mg base 2 "read" ["pile", "model", "many"] (fun vs H _ E => Bx44 K T ec vs H E)
theorem ox44 (D : Def K mg "read" zdu ["pile", "model", "many"]) (Cx6 : @Yx6 P w K mg base T ec) : @Yx44 P w K mg base T ec := by
 refine D.okR Sx44 ?_ (fun _ _ _ _ _ H vs E hr h => ?_)
 ·walk_at "l"
 ·obtain ⟨p, m, x, rfl, hp, q⟩ := h
  refine ⟨_, (yz (zi (zp (Cx6.up) zr hr rfl (zc (pv 0) za)))), ?_⟩
  exact ⟨_, rfl, .inr ⟨p, rfl, hp, _, Less.refl, q⟩⟩
abbrev zdv : Stmt := top 56
def Sx45 : zm ["one", "other", "rest"] ["one", "other"] (zd zdv) := by walk_at "s"
def Px45 (K : Frag) (T : Cl) (ec : Ec) : Sp := fun vs H Q _ => ∃ (a b : Nat), vs = [.int (a : Int), .int (b : Int)] /\ Q (.int ((Nat.gcd a b : Nat) : Int)) H
abbrev Yx45 : Prop := Cal P w K mg base 1 "greatest_divisor" ["one", "other"] (Px45 K T ec)
theorem ox45 (D : Def K mg "greatest_divisor" zdv ["one", "other"]) : @Yx45 P w K mg base T ec := by
 refine D.ok Sx45 ?_ (fun _ _ _ _ _ H vs Q E hr h => ?_)
 ·walk_at "l"
 obtain ⟨a, b, rfl, q⟩ := h
 refine ⟨_, (zf (yY PassesOwn.never (zl qm (pv 1) zb (zt _)) (zf (zx (i := 2) Sx45.nd rfl (Or.inl rfl) (zq zR (pv 0) (pv 1)))
   (zf (zx (i := 0) Sx45.nd rfl (Or.inl rfl) (pv 1))
   (ze (zx (i := 1) Sx45.nd rfl (Or.inl rfl) (pv 2))))))
   (ze (zV (pv 0)))), ?_⟩
 refine xg (fun σ H2 => ∃ (a' b' : Nat) (v : Option V), σ = [some (.int (a' : Int)), some (.int (b' : Int)), v] /\ H2 = H /\ Nat.gcd a' b' = Nat.gcd a b)
  (fun σ _ => match σ with | [_, some (.int b'), _] => b'.toNat | _ => 0) ⟨a, b, none, rfl, rfl, rfl⟩ ?_ ?_
 ·rintro σ H2 ⟨a', b', v, rfl, rfl, e⟩
  refine ⟨_, rfl, _, _, rfl, rfl, _, rfl, ?_⟩
  refine zL (fun c => ?_) (fun c => ?_)
  ·have c' : (0 : Int) < (b' : Int) := of_decide_eq_true c
   refine ⟨_, rfl, _, rfl, _, _, rfl, rfl, c', ?_⟩
   refine ⟨_, rfl, ?_⟩
   refine ⟨_, rfl, ?_⟩
   have em : (a' : Int) % (b' : Int) = ((a' % b' : Nat) : Int) := (Int.natCast_emod a' b').symm
   refine ⟨⟨b', a' % b', some (.int ((a' : Int) % (b' : Int))), ?_, rfl, ?_⟩, ?_⟩
   ·rw [<- em]
    rfl
   ·rw [<- e, Nat.gcd_comm a' b', Nat.gcd_rec b' a', Nat.gcd_comm]
   ·show (((a' : Int) % (b' : Int))).toNat < ((b' : Int)).toNat
    have := Nat.mod_lt a' (show 0 < b' by omega)
    rw [em]
    omega
  ·have c' : ¬ (0 : Int) < (b' : Int) := of_decide_eq_false (Bool.eq_false_iff.mpr c)
   have e0 : b' = 0 := by omega
   subst e0
   rw [Nat.gcd_zero_right] at e
   rw [<- e] at q
   exact ⟨_, rfl, _, Less.refl, q⟩
 ·rintro σ H2 Q1 Q2 hq ⟨v1, e1, i, j, x1, x2, k, x3, h⟩
  exact ⟨v1, e1, i, j, x1, x2, k, x3, hq _ _ h⟩
abbrev zdw : Stmt := top 57
def Sx46 : zm ["total", "step"] ["total"] (zd zdw) := by walk_at "s"
def Px46 (K : Frag) (T : Cl) (ec : Ec) : Sp := fun vs H Q _ => ∃ (w : Nat), vs = [.int (w : Int)] /\ 1 <= w /\ Q (.int ((stepOf w : Nat) : Int)) H
abbrev Yx46 : Prop := Cal P w K mg base 2 "step_of" ["total"] (Px46 K T ec)
theorem ox46 (D : Def K mg "step_of" zdw ["total"]) (Cx45 : @Yx45 P w K mg base T ec) : @Yx46 P w K mg base T ec := by
 refine D.ok Sx46 ?_ (fun _ _ _ _ _ H vs Q E hr h => ?_)
 ·walk_at "l"
 obtain ⟨w, rfl, w1, q⟩ := h
 refine ⟨_, (zf (zx (i := 1) Sx46.nd rfl (Or.inl rfl) (zq z8 (zq z8 (zq yi (pv 0) zb) (zq yi (pv 0) zb)) zb))
   (zf (yY PassesOwn.never (zl qm (zN (Cx45.up) hr rfl (zc (pv 1) (zc (pv 0) za))) zb (zt _)) (ze (jL (i := 1) Sx46.nd rfl (Or.inl rfl) zb ww)))
   (ze (zV (pv 1))))), ?_⟩
 have l0 := vO w1
 refine ⟨_, rfl, _, _, rfl, rfl, ⟨by decide, by decide⟩, _, rfl, _, _, rfl, rfl, ⟨by decide, by decide⟩, _, _, rfl, rfl, _, _, rfl, rfl, ?_⟩
 have e0 : (w : Int) / 2 + (w : Int) / 8 + 3 = ((step0 w : Nat) : Int) := by unfold step0; omega
 dsimp only
 rw [e0]
 refine xg (fun σ H2 => ∃ (s : Nat), σ = [some (.int (w : Int)), some (.int (s : Int))] /\ H2 = H /\ s <= 3 * w + 1 /\ jd w (3 * w + 1 - s) s = stepOf w)
  (fun σ _ => match σ with | [_, some (.int s)] => 3 * w + 1 - s.toNat | _ => 0) ⟨step0 w, rfl, rfl, l0, rfl⟩ ?_ ?_
 ·rintro σ H2 ⟨s, rfl, rfl, hs, e⟩
  refine ⟨_, rfl, _, rfl, s, w, rfl, _, _, rfl, rfl, _, rfl, ?_⟩
  refine zL (fun c => ?_) (fun c => ?_)
  ·have c' : (1 : Int) < ((Nat.gcd s w : Nat) : Int) := of_decide_eq_true c
   obtain ⟨g1, g2⟩ := zcA hs (show 1 < Nat.gcd s w by omega)
   refine ⟨_, rfl, _, _, rfl, rfl, ⟨s + 1, ?_, rfl, by omega, by rw [<- g2]; exact e⟩, ?_⟩
   ·rfl
   ·show 3 * w + 1 - ((s : Int) + 1).toNat < 3 * w + 1 - ((s : Int)).toNat
    omega
  ·have c' : ¬ (1 : Int) < ((Nat.gcd s w : Nat) : Int) := of_decide_eq_false (Bool.eq_false_iff.mpr c)
   rw [w4 (by omega)] at e
   rw [<- e] at q
   exact ⟨_, rfl, _, Less.refl, q⟩
 ·rintro σ H2 Q1 Q2 hq ⟨v1, e1, v2, e2, a, b, e3, i, j, x1, x2, k, x3, h⟩
  exact ⟨v1, e1, v2, e2, a, b, e3, i, j, x1, x2, k, x3, hq _ _ h⟩
abbrev zdx : Stmt := top 58
def Sx47 : zm ["counts", "total", "step", "signs", "slot", "sign", "count", "turn"] ["counts"] (zd zdx) := by walk_at "s"
def Px47 (K : Frag) (T : Cl) (ec : Ec) : Sp := fun vs H Q _ => ∃ (a : Addr) (cs : List Int), vs = [.ref a] /\ H a = some (.lst (cs.map V.int)) /\ GoodC cs /\ ∀ p, H p = none -> Q (.ref p) (upd H p (.lst ((z9 cs).map V.int)))
def Bx47 (K : Frag) (T : Cl) (ec : Ec) : BSp := fun vs H E => ∃ (a : Addr) (cs : List Int), vs = [.ref a] /\ SqL K H a (cs.map V.int) /\ ¬ GoodC cs /\ E (.ref ec.noShares) none H
abbrev Yx47 : Prop := CalX P w K mg base 3 "deal" ["counts"] (orS (Px47 K T ec) (Bx47 K T ec))
theorem ox47 (D : Def K mg "deal" zdx ["counts"]) (Cx3 : @Yx3 P w K mg base T ec) (Cx46 : @Yx46 P w K mg base T ec) : @Yx47 P w K mg base T ec := by
 refine D.okB Sx47 ?_ ?_ (fun _ _ _ _ _ H vs Q E hr h => ?_) (fun _ _ _ _ _ H vs E hr h => ?_)
 ·walk_at "l"
 ·walk_at "l"
 ·obtain ⟨a, cs, rfl, ha, gc, q⟩ := h
  refine ⟨_, (zf (zx (i := 1) Sx47.nd rfl (Or.inl rfl) (zN (Cx3.good.up) hr rfl (zc (pv 0) za)))
   (zf (zx (i := 2) Sx47.nd rfl (Or.inl rfl) (zN (Cx46.up) hr rfl (zc (pv 1) za)))
   (zf (zx (i := 3) Sx47.nd rfl (Or.inl rfl) (zq wH (xi (zc zb za)) (pv 1)))
   (zf (zx (i := 4) Sx47.nd rfl (Or.inl rfl) zb)
   (zf (yE PassesOwn.never rfl (zaF rfl z.enumerate (zc (pv 0) za)) (ql rfl (yK (zX (i := 5) Sx47.nd rfl (Or.inl rfl)) (yK (zX (i := 6) Sx47.nd rfl (Or.inl rfl)) jt))) (ze (yE PassesOwn.never rfl (xC rfl z.range (zc (pv 6) za)) (zX (i := 7) Sx47.nd rfl (Or.inl rfl)) (zf (zeG (pv 5) (zeF (pv 3) (pv 4) zb4))
   (ze (zx (i := 4) Sx47.nd rfl (Or.inl rfl) (zq zR (zq z8 (pv 4) (pv 2)) (pv 1))))))))
   (ze (zV (pv 3)))))))), ?_⟩
  obtain ⟨w1, w2, w3⟩ := gc.wpos
  refine ⟨_, rfl, a, cs, rfl, SqL.of ha, gc, ?_⟩
  rw [<- w2]
  refine ⟨_, rfl, wN cs, rfl, w1, ?_⟩
  refine ⟨zl1, fun u hu => ?_⟩
  refine ⟨_, rfl, u, _, _, rfl, rfl, zh, by omega, by omega, szl2 (by show 1 * _ <= _; rw [Int.toNat_natCast]; omega), fun D hD => ?_⟩
  have ez : (List.replicate ((wN cs : Nat) : Int).toNat ([.int 0] : List V)).flatten = (xy cs (stepOf (wN cs)) (wN cs) 0).map V.int := by
   rw [Int.toNat_natCast]
   show _ = (List.replicate (wN cs) (0 : Int)).map V.int
   rw [List.map_replicate]
   generalize wN cs = n
   induction n with
   | zero => rfl
   | succ n ih => rw [List.replicate_succ, List.flatten_cons, ih, List.replicate_succ]; rfl
  rw [ez]
  have hDH : H D = none := (zB hu).free hD
  have naD : a ≠ D := zu ha hDH
  have s1 := (zB (u := .lst [.int 0]) hu).trans (zB (u := .lst ((xy cs (stepOf (wN cs)) (wN cs) 0).map V.int)) hD)
  have d1 : (upd (upd H u (.lst [.int 0])) D (.lst ((xy cs (stepOf (wN cs)) (wN cs) 0).map V.int))) D = some (.lst ((xy cs (stepOf (wN cs)) (wN cs) 0).map V.int)) := zh
  generalize upd (upd H u (.lst [.int 0])) D (.lst ((xy cs (stepOf (wN cs)) (wN cs) 0).map V.int)) = H1 at s1 d1 |-
  have fN : ∀ s, s <= cs.length -> 0 <= first cs s /\ first cs s <= cs.sum := fun s hs => by
   have h1 := yx gc.rng (i := 0) (j := s) (Nat.zero_le _) hs
   have h2 := yx gc.rng (i := s) (j := cs.length) hs (Nat.le_refl _)
   rw [yB] at h1
   rw [xa] at h2
   exact ⟨h1, h2⟩
  refine ⟨_, rfl, a, cs.map V.int, rfl, s1 _ _ ha, vN (a := a) (xs := cs.map V.int) (fun i σ H2 => ∃ (v5 v6 v7 : Option V), σ = [some (.ref a), some (.int ((wN cs : Nat) : Int)), some (.int ((stepOf (wN cs) : Nat) : Int)), some (.ref D), some (.int (((first cs i).toNat * stepOf (wN cs) % wN cs : Nat) : Int)), v5, v6, v7] /\ Same H H2 /\ H2 D = some (.lst ((xy cs (stepOf (wN cs)) (wN cs) (first cs i).toNat).map V.int)))
   ⟨none, none, none, ?_, s1, ?_⟩ (fun i σ H2 _ ⟨_, _, _, _, s, _⟩ => s _ _ ha) ?_ ?_⟩
  ·rw [yB]
   simp
   rfl
  ·rw [yB]
   exact d1
  ·rintro i y p σ H2 hi ⟨v5, v6, v7, rfl, s2, d2⟩ hp
   have hi' : i < cs.length := by
    have := (List.getElem?_eq_some_iff.mp hi).1
    simpa using this
   have ey : y = .int (cs.getD i 0) := by
    rw [zcd hi'] at hi
    exact (Option.some.inj hi).symm
   subst ey
   have hc := gc.at i
   have f0 := fN i (by omega)
   have f1 := fN (i + 1) (by omega)
   have fs := yH hi'
   have s3 := s2.trans (zB (u := .tup [.int ((i : Nat) : Int), .int (cs.getD i 0)]) hp)
   have d3 := zF (u := .tup [.int ((i : Nat) : Int), .int (cs.getD i 0)]) d2 hp
   have t3 : (upd H2 p (.tup [.int ((i : Nat) : Int), .int (cs.getD i 0)])) p = some (.tup [.int ((i : Nat) : Int), .int (cs.getD i 0)]) := zh
   generalize upd H2 p (.tup [.int ((i : Nat) : Int), .int (cs.getD i 0)]) = H3 at s3 d3 t3 |-
   refine ⟨p, _, rfl, SqT.of t3, rfl, _, _, rfl, _, _, rfl, rfl, ?_⟩
   refine ⟨_, rfl, cs.getD i 0, rfl, by omega, by omega, jM (n := (cs.getD i 0).toNat) (fun j σ H4 => ∃ (v7 : Option V), σ = [some (.ref a), some (.int ((wN cs : Nat) : Int)), some (.int ((stepOf (wN cs) : Nat) : Int)), some (.ref D), some (.int ((((first cs i).toNat + j) * stepOf (wN cs) % wN cs : Nat) : Int)), some (.int ((i : Nat) : Int)), some (.int (cs.getD i 0)), v7] /\ Same H H4 /\ H4 D = some (.lst ((xy cs (stepOf (wN cs)) (wN cs) ((first cs i).toNat + j)).map V.int))) ⟨v7, rfl, s3, d3⟩ ?_ ?_⟩
   ·rintro j σ H4 hj ⟨v7', rfl, s4, d4⟩
    have lt : (first cs i).toNat + j < wN cs := by omega
    have sg : signOf cs ((((first cs i).toNat + j : Nat) : Nat) : Int) = i := (zcB gc lt hi').mpr ⟨by omega, by omega⟩
    have ml := Nat.mod_lt (((first cs i).toNat + j) * stepOf (wN cs)) (show 0 < wN cs by omega)
    have dl := xZ cs (stepOf (wN cs)) (wN cs) ((first cs i).toNat + j)
    generalize hk : (first cs i).toNat + j = k at lt sg ml dl d4 |-
    refine ⟨_, rfl, _, rfl, _, rfl, D, _, _, _, rfl, rfl, d4, ixZ (by omega) (by rw [List.length_map, dl]; omega), ?_⟩
    rw [Int.toNat_natCast, map_set]
    refine ⟨_, rfl, _, rfl, _, _, rfl, rfl, _, rfl, _, _, rfl, rfl, (by show (0 : Int) < ((wN cs : Nat) : Int); omega), ?_⟩
    have em : (((k * stepOf (wN cs) % wN cs : Nat) : Int) + ((stepOf (wN cs) : Nat) : Int)) % ((wN cs : Nat) : Int) = (((k + 1) * stepOf (wN cs) % wN cs : Nat) : Int) := by
     have e1 : ((k * stepOf (wN cs) % wN cs : Nat) : Int) + ((stepOf (wN cs) : Nat) : Int) = ((k * stepOf (wN cs) % wN cs + stepOf (wN cs) : Nat) : Int) := by omega
     rw [e1, <- Int.natCast_emod, Nat.mod_add_mod, <- Nat.succ_mul]
    dsimp only
    rw [em]
    have ek : (first cs i).toNat + (j + 1) = k + 1 := by omega
    rw [ek]
    refine ⟨_, rfl, fun b o e => by rw [zj (zu e hDH)]; exact s4 b o e, ?_⟩
    rw [zh]
    show _ = some (HO.lst (((xy cs (stepOf (wN cs)) (wN cs) k).set (k * stepOf (wN cs) % wN cs) ((signOf cs ((k : Nat) : Int) : Nat) : Int)).map V.int))
    rw [sg]
   ·rintro σ H4 ⟨v7', rfl, s4, d4⟩
    have ef : (first cs i).toNat + (cs.getD i 0).toNat = (first cs (i + 1)).toNat := by omega
    rw [ef] at d4 |-
    exact ⟨_, _, _, rfl, s4, d4⟩
  ·rintro σ H2 ⟨v5, v6, v7, rfl, s2, d2⟩
   rw [List.length_map, xa] at d2
   exact ⟨_, rfl, _, Less.new s2 hDH d2 rfl, q D hDH⟩
 ·obtain ⟨a, cs, rfl, hS, ng, q⟩ := h
  refine ⟨_, (yz (zx (i := 1) Sx47.nd rfl (Or.inl rfl) (zp (Cx3.up) zr hr rfl (zc (pv 0) za)))), ?_⟩
  exact ⟨_, rfl, .inr ⟨a, cs, rfl, hS, ng, _, Less.refl, q⟩⟩
abbrev zbH : Stmt := yj (top 59) 0
def Sx48 : zm ["self", "counts", "signs", "places", "numbers", "slot", "sign"] ["self", "counts"] (zd zbH) := by walk_at "s"
def Px48 (K : Frag) (T : Cl) (ec : Ec) : Sp := fun vs H Q _ => ∃ (x dx a : Addr) (cs : List Int), vs = [.ref x, .ref a] /\ H x = some (.ins T.O dx []) /\ H a = some (.lst (cs.map V.int)) /\ GoodC cs ∧
 ∀ H', zer T.O H H' x cs -> (∀ b o, H b = some o -> b ≠ x -> H' b = some o) -> Q .non H'
def Bx48 (K : Frag) (T : Cl) (ec : Ec) : BSp := fun vs H E => ∃ (x dx a : Addr) (cs : List Int), vs = [.ref x, .ref a] /\ H x = some (.ins T.O dx []) /\ SqL K H a (cs.map V.int) /\ ¬ GoodC cs /\ E (.ref ec.noShares) none H
def Bx49 (K : Frag) (T : Cl) (ec : Ec) : BSp := fun vs H E => ∃ (a : Addr) (cs : List Int), vs = [.ref a] /\ SqL K H a (cs.map V.int) /\ ¬ GoodC cs /\ ∀ H', Same H H' -> E (.ref ec.noShares) none H'
def Px49 (K : Frag) (T : Cl) : Sp := fun vs H Q _ => ∃ (a : Addr) (cs : List Int), vs = [.ref a] /\ H a = some (.lst (cs.map V.int)) /\ GoodC cs /\ ∀ x H', H x = none -> zer T.O H H' x cs -> Same H H' -> Q (.ref x) H'
abbrev zan : Prop := CalAX P w K mg base 5 "Slots" (orS (Px49 K T) (Bx49 K T ec))
theorem ox48 (D : DefI K T.O "Slots.__init__" zbH ["self", "counts"] []) (Cx47 : @Yx47 P w K mg base T ec) : @zan P w K mg base T ec /\ @zan P w K mg base T ec := by
 refine D.okB (sp := Px48 K T ec) (bd := Bx48 K T ec) tf.mO Sx48 ?_ ?_ (fun _ _ _ _ _ H vs Q E hr h => ?_) (fun vs H Q h x dx nx ndx nd => ?_) (fun vs H Q h x dx nx ndx nd => ?_) (fun _ _ _ _ _ H vs E hr h => ?_) (fun vs H E h x dx nx ndx nd => ?_) (fun vs H E h x dx nx ndx nd => ?_)
 ·walk_at "l"
 ·walk_at "l"
 ·obtain ⟨x, dx, a, cs, rfl, hx, ha, gc, q⟩ := h
  refine ⟨_, (zf (zx (i := 2) Sx48.nd rfl (Or.inl rfl) (zN (Cx47.good.up) hr rfl (zc (pv 1) za)))
   (zf (qq (i := 3) Sx48.nd rfl (Or.inl rfl) (caps := []) rfl (yN (pv 1)) ⟨rfl, by decide +kernel, by decide +kernel, rfl⟩ trivial rfl (by decide +kernel) (fun _ _ _ _ => yX) (fun _ _ _ _ => (xi za)))
   (zf (zx (i := 4) Sx48.nd rfl (Or.inl rfl) (xi za))
   (zdY (yE PassesOwn.never rfl (zaF rfl z.enumerate (zc (pv 2) za)) (ql rfl (yK (zX (i := 5) Sx48.nd rfl (Or.inl rfl)) (yK (zX (i := 6) Sx48.nd rfl (Or.inl rfl)) jt))) (zf (zi (xv PySem.F.plainAttrs_list PySem.F.slot_list_append PySem.F.type_list_append yS (pv 4) (zc (zq z8 (zU zK (pv 1) (pv 6) (fun _ _ => rfl)) (zw zC rfl z.len yg (zc (zU zK (pv 3) (pv 6) (fun _ _ => rfl)) za))) za)))
   (ze (zi (xv PySem.F.plainAttrs_list PySem.F.slot_list_append PySem.F.type_list_append yS (zU zK (pv 3) (pv 6) (fun _ _ => rfl)) (zc (pv 5) za))))))
   (zf (yw (pv 0) (yV yI rfl z.list ji (zc (pv 1) za)) rfl)
   (zf (yw (pv 0) (zw zC rfl z.len yg (zc (pv 2) za)) rfl)
   (zf (yw (pv 0) (pv 2) rfl)
   (zf (yw (pv 0) (pv 3) rfl)
   (ze (yw (pv 0) (pv 4) rfl)))))))))), ?_⟩
  obtain ⟨w1, w2, w3⟩ := gc.wpos
  have len1 := gc.len1
  have dl := qy cs
  refine ⟨_, rfl, a, cs, rfl, ha, gc, fun sg hsg => ?_⟩
  have s1 := zB (u := .lst ((z9 cs).map V.int)) hsg
  have g1 : (upd H sg (.lst ((z9 cs).map V.int))) sg = some (.lst ((z9 cs).map V.int)) := zh
  generalize upd H sg (.lst ((z9 cs).map V.int)) = H1 at s1 g1 |-
  refine ⟨_, rfl, a, rfl, ⟨_, SqL.of (s1 _ _ ha)⟩, fun pl hpl => ?_⟩
  have w := zcv (K := K) (SqL.of (s1 _ _ ha))
  refine zcu (fun i => (cs.map V.int).getD i .non) (fun _ => []) (by rw [List.length_map]; exact szl (by omega)) hpl w.1 w.2 ?_ ?_
  ·intro i H' R hi s r
   exact ⟨zl0, r⟩
  intro as H2 T2
  have ep : ((List.range (cs.map V.int).length).map fun _ => ([] : List Int)) = yP cs 0 := by rw [List.length_map]; rfl
  rw [ep] at T2
  have s2 := s1.trans T2.sm
  have g2 := T2.sm _ _ g1
  refine ⟨zl0, fun nl hnl => ?_⟩
  have s3 := s2.trans (zB (u := .lst []) hnl)
  have g3 := zF (u := .lst []) g2 hnl
  have k3 := T2.kp.same (zB (u := .lst []) hnl)
  have n3 : (upd H2 nl (.lst [])) nl = some (.lst []) := zh
  have tk : ∀ b ∈ pl :: as, ∃ o, H2 b = some o := fun b hb => by
   rcases List.mem_cons.mp hb with z | z
   ·rw [z]; exact ⟨_, T2.kp.ls⟩
   ·obtain ⟨j, hj, ej⟩ := List.getElem_of_mem z
    have := T2.kp.at_ j (by rw [<- T2.kp.len]; exact hj)
    rw [List.getD_eq_getElem?_getD, List.getElem?_eq_getElem hj] at this
    rw [<- ej]
    exact ⟨_, this⟩
  have nnl : ∀ b ∈ pl :: as, b ≠ nl := fun b hb => by obtain ⟨o, e⟩ := tk b hb; exact zu e hnl
  have nsg : sg ≠ nl := zu g2 hnl
  have nga : ∀ b ∈ pl :: as, b ≠ sg := fun b hb z => by have := T2.fr b hb; rw [z, g1] at this; cases this
  have hH : ∀ b ∈ pl :: as, H b = none := fun b hb => s1.free (T2.fr b hb)
  have hnH : H nl = none := s2.free hnl
  generalize upd H2 nl (.lst []) = H3 at s3 g3 k3 n3 |-
  refine ⟨fun σ H4 => ∃ (v5 v6 : Option V), σ = [some (.ref x), some (.ref a), some (.ref sg), some (.ref pl), some (.ref nl), v5, v6] /\ Same H H4 /\ H4 sg = some (.lst ((z9 cs).map V.int)) /\ KeptAt H4 pl as (yP cs (wN cs)) /\ H4 nl = some (.lst ((yZ cs (wN cs)).map V.int)), ?_, ?_⟩
  ·refine ⟨_, rfl, sg, _, rfl, g3, vN (a := sg) (xs := (z9 cs).map V.int) (fun i σ H4 => ∃ (v5 v6 : Option V), σ = [some (.ref x), some (.ref a), some (.ref sg), some (.ref pl), some (.ref nl), v5, v6] /\ Same H H4 /\ H4 sg = some (.lst ((z9 cs).map V.int)) /\ KeptAt H4 pl as (yP cs i) /\ H4 nl = some (.lst ((yZ cs i).map V.int)))
    ⟨none, none, rfl, s3, g3, k3, n3⟩ (fun i σ H4 _ ⟨_, _, _, _, e, _⟩ => e) ?_ ?_⟩
   ·rintro i y p σ H4 hi ⟨v5, v6, rfl, s4, g4, k4, n4⟩ hp
    have hi' : i < wN cs := by
     have := (List.getElem?_eq_some_iff.mp hi).1
     rw [List.length_map, dl] at this
     exact this
    have ey : y = .int ((z9 cs).getD i 0) := by
     rw [zcd (by rw [dl]; exact hi')] at hi
     exact (Option.some.inj hi).symm
    subst ey
    obtain ⟨s, es, hs, hc⟩ := za9 gc hi'
    have ln : (jk cs s i).length <= 99900 := by
     have : (jk cs s i).length <= (List.range i).length := List.length_filter_le _ _
     rw [List.length_range] at this
     omega
    rw [es]
    have s5 := s4.trans (zB (u := .tup [.int ((i : Nat) : Int), .int ((s : Nat) : Int)]) hp)
    have g5 := zF (u := .tup [.int ((i : Nat) : Int), .int ((s : Nat) : Int)]) g4 hp
    have k5 := k4.same (zB (u := .tup [.int ((i : Nat) : Int), .int ((s : Nat) : Int)]) hp)
    have n5 := zF (u := .tup [.int ((i : Nat) : Int), .int ((s : Nat) : Int)]) n4 hp
    have t5 : (upd H4 p (.tup [.int ((i : Nat) : Int), .int ((s : Nat) : Int)])) p = some (.tup [.int ((i : Nat) : Int), .int ((s : Nat) : Int)]) := zh
    generalize upd H4 p (.tup [.int ((i : Nat) : Int), .int ((s : Nat) : Int)]) = H5 at s5 g5 k5 n5 t5 |-
    refine ⟨p, _, rfl, SqT.of t5, rfl, _, _, rfl, _, _, rfl, rfl, ?_⟩
    have tb5 : TabL K H5 pl as (yP cs i) := k5.tab
    have pln : (yP cs i).length = cs.length := by unfold yP; rw [List.length_map, List.length_range]
    have es2 : ((s : Nat) : Int).toNat = s := Int.toNat_natCast s
    have row5 : H5 (as.getD s 0) = some (.lst (((jk cs s i).map fun p => ((p : Nat) : Int)).map V.int)) := by
     have := k5.at_ s (by rw [pln]; exact hs)
     rw [w6 hs] at this
     exact this
    have ix5 : atI (as.map V.ref) ((s : Nat) : Int) = some (.ref (as.getD s 0)) := qg (yU (by rw [k5.len, pln]; exact hs))
    refine ⟨_, rfl, .inl ⟨rfl, _, SqL.of n5⟩, _, rfl, _, rfl, a, _, _, _, rfl, rfl, SqL.of (s5 _ _ ha), atN hs, _, rfl, _, rfl, pl, _, _, _, rfl, rfl, tb5.ls, ix5, _, _, rfl, .inl (SqL.of row5), _, _, rfl, rfl, ?_⟩
    refine ⟨nl, _, _, rfl, rfl, n5, szlt (by rw [List.length_map, km]; omega), ?_⟩
    have en : ((yZ cs i).map V.int) ++ [.int (cs.getD s 0 + ((((jk cs s i).map fun p => ((p : Nat) : Int)).map V.int).length : Int))] = (yZ cs (i + 1)).map V.int := by
     unfold yZ
     rw [List.range_succ, List.map_append, List.map_append]
     congr 1
     show _ = [V.int (jT cs i)]
     unfold jT
     rw [es, es2, List.length_map, List.length_map]
    dsimp only
    rw [en]
    have nas : as.getD s 0 ∈ pl :: as := List.mem_cons_of_mem _ (xx (by rw [k5.len, pln]; exact hs))
    have s6 : Same H (upd H5 nl (.lst ((yZ cs (i + 1)).map V.int))) := fun b o e => by rw [zj (zu e hnH)]; exact s5 b o e
    have g6 : (upd H5 nl (.lst ((yZ cs (i + 1)).map V.int))) sg = some (.lst ((z9 cs).map V.int)) := by rw [zj nsg]; exact g5
    have k6 : KeptAt (upd H5 nl (.lst ((yZ cs (i + 1)).map V.int))) pl as (yP cs i) := k5.frame fun b o hb e => by rw [zj (nnl b hb)]; exact e
    have n6 : (upd H5 nl (.lst ((yZ cs (i + 1)).map V.int))) nl = some (.lst ((yZ cs (i + 1)).map V.int)) := zh
    have row6 : (upd H5 nl (.lst ((yZ cs (i + 1)).map V.int))) (as.getD s 0) = some (.lst (((jk cs s i).map fun p => ((p : Nat) : Int)).map V.int)) := by rw [zj (nnl _ nas)]; exact row5
    generalize upd H5 nl (.lst ((yZ cs (i + 1)).map V.int)) = H6 at s6 g6 k6 n6 row6 |-
    refine ⟨_, rfl, _, rfl, pl, _, _, _, rfl, rfl, SqL.of k6.ls, ix5, .inl ⟨rfl, _, SqL.of row6⟩, _, rfl, as.getD s 0, _, _, rfl, rfl, row6, szlt (by rw [List.length_map, List.length_map]; omega), ?_⟩
    have er : (((jk cs s i).map fun p => ((p : Nat) : Int)).map V.int) ++ [.int ((i : Nat) : Int)] = (((jk cs s i).map fun p => ((p : Nat) : Int)) ++ [((i : Nat) : Int)]).map V.int := by rw [List.map_append]; rfl
    rw [er]
    have k7 := k6.set T2.nd (s := s) (by rw [pln]; exact hs) (((jk cs s i).map fun p => ((p : Nat) : Int)) ++ [((i : Nat) : Int)])
    rw [<- kW hs es] at k7
    exact ⟨_, _, rfl, fun b o e => by rw [zj (zu e (hH _ nas))]; exact s6 b o e, by rw [zj (nga _ nas).symm]; exact g6, k7, by rw [zj (nnl _ nas).symm]; exact n6⟩
   ·rintro σ H4 ⟨v5, v6, rfl, s4, g4, k4, n4⟩
    rw [List.length_map, dl] at k4 n4
    exact ⟨v5, v6, rfl, s4, g4, k4, n4⟩
  rintro σ H4 ⟨v5, v6, rfl, s4, g4, k4, n4⟩
  have x4 := s4 _ _ hx
  refine ⟨_, rfl, a, _, rfl, .inl (SqL.of (s4 _ _ ha)), fun kl hkl => ?_⟩
  have s5 := zB (u := .lst (cs.map V.int)) hkl
  have k5 : (upd H4 kl (.lst (cs.map V.int))) kl = some (.lst (cs.map V.int)) := zh
  generalize upd H4 kl (.lst (cs.map V.int)) = H5 at s5 k5 |-
  have x5 := s5 _ _ x4
  have nx : ∀ {b : Addr} {xs : List V}, H5 b = some (.lst xs) -> b ≠ x := fun e => xR e x5 (by intro z; cases z)
  refine ⟨_, rfl, x, T.O, dx, _, rfl, x5, tf.fO.cl, tf.fO.nKept, (by show 0 < 1000; decide), ?_⟩
  have e0 : yA "kept" (.ref kl) ([] : List (Str × V)) = ([("kept", .ref kl)] : List (Str × V)) := rfl
  rw [e0]
  refine ⟨_, rfl, sg, _, rfl, .inl (SqL.of (by rw [zj (nx (s5 _ _ g4))]; exact s5 _ _ g4)), _, rfl, x, T.O, dx, _, rfl, zh, tf.fO.cl, tf.fO.nTotal, (by show 1 < 1000; decide), ?_⟩
  rw [List.length_map, dl, w2, w9, yM]
  refine ⟨_, rfl, _, rfl, x, T.O, dx, _, rfl, zh, tf.fO.cl, tf.fO.nSigns, (by show 2 < 1000; decide), ?_⟩
  rw [zaa, yM]
  refine ⟨_, rfl, _, rfl, x, T.O, dx, _, rfl, zh, tf.fO.cl, tf.fO.nPlaces, (by show 3 < 1000; decide), ?_⟩
  rw [vT, yM]
  refine ⟨_, rfl, _, rfl, x, T.O, dx, _, rfl, zh, tf.fO.cl, tf.fO.nNumbers, (by show 4 < 1000; decide), ?_⟩
  rw [kY, yM]
  have k5' := k4.same s5
  refine q _ (fun H'' st => ?_) fun b o e n => ?_
  ·have stn : ∀ b o, H5 b = some o -> H b = none -> H'' b = some o := fun b o e n => st b o (by
    have nb : b ≠ x := fun z => by rw [z, hx] at n; cases n
    rw [zj nb]; exact e) (.inl n)
   exact ⟨gc, dx, kl, sg, pl, nl, as, st _ _ zh (.inr rfl), stn _ _ k5 (s4.free hkl), stn _ _ (s5 _ _ g4) hsg, k5'.frame fun b o hb e => stn _ _ e (hH b hb), stn _ _ (s5 _ _ n4) hnH⟩
  ·rw [zj n]
   exact s5 _ _ (s4 _ _ e)
 ·obtain ⟨a, cs, rfl, ha, gc, q⟩ := h
  exact ⟨x, dx, a, cs, rfl, zh, by rw [zj (zu ha nx), zj (zu ha ndx)]; exact ha, gc, fun H' pa fr => ⟨rfl, q x H' nx (fun H'' st => pa H'' fun b o e n => st b o e (n.imp yO id)) (ye nx ndx fr)⟩⟩
 ·obtain ⟨a, cs, rfl, ha, gc, q⟩ := h
  rw [List.append_nil]
  exact ⟨x, dx, a, cs, rfl, zh, by rw [zj (zu ha nx), zj (zu ha ndx)]; exact ha, gc, fun H' pa fr => ⟨rfl, q x H' nx (fun H'' st => pa H'' fun b o e n => st b o e (n.imp yO id)) (ye nx ndx fr)⟩⟩
 ·obtain ⟨x, dx, a, cs, rfl, hx, hS, ng, q⟩ := h
  refine ⟨_, (yz (zx (i := 2) Sx48.nd rfl (Or.inl rfl) (zp (Cx47.up) zr hr rfl (zc (pv 1) za)))), ?_⟩
  exact ⟨_, rfl, .inr ⟨a, cs, rfl, hS, ng, q⟩⟩
 ·obtain ⟨a, ns, rfl, hS, ng, q⟩ := h
  exact ⟨x, dx, a, ns, rfl, zh, qa hS nx ndx nd, ng, q _ (ye nx ndx fun _ _ e _ => e)⟩
 ·obtain ⟨a, ns, rfl, hS, ng, q⟩ := h
  exact ⟨x, dx, a, ns, rfl, zh, qa hS nx ndx nd, ng, q _ (ye nx ndx fun _ _ e _ => e)⟩
abbrev zbI : Stmt := yj (top 59) 1
def Sx50 : zm ["self", "number"] ["self", "number"] (zd zbI) := by walk_at "s"
def zdy (K : Frag) (T : Cl) (ec : Ec) : Sp := fun vs H Q _ => ∃ (x : Addr) (cs : List Int) (n : Int), vs = [.ref x, .int n] /\ SlAt T.O H x cs /\ cs.sum <= n /\ n < 2 * cs.sum /\ Q .non H
def Bx50 (K : Frag) (T : Cl) (ec : Ec) : BSp := fun vs H E => ∃ (x : Addr) (cs : List Int) (n : Int), vs = [.ref x, .int n] /\ SlAt T.O H x cs /\ ¬ (cs.sum <= n /\ n < 2 * cs.sum) /\ E (.ref ec.noPile) none H
abbrev Yx50 : Prop := CalMX P w K mg base 1 T.O "check_number" ["self", "number"] (orS (zdy K T ec) (Bx50 K T ec))
theorem ox50 (D : DefM K T.O "check_number" "Slots.check_number" zbI ["self", "number"]) : @Yx50 P w K mg base T ec := by
 refine D.okB Sx50 ?_ ?_ (fun _ _ _ _ _ H vs Q E hr h => ?_) (fun _ _ _ _ _ H vs E hr h => ?_)
 ·walk_at "l"
 ·walk_at "l"
 ·obtain ⟨x, cs, n, rfl, ⟨gc, dx, kl, sg, pl, nl, as, hx, hk, hg, kp, hn⟩, h0, h1, q⟩ := h
  refine ⟨_, (ze (zy (yv (z6 yo xh (z5 (pv 0) rfl) (pv 1) (zq y0 zb (z5 (pv 0) rfl)))) (ze yf) zE)), ?_⟩
  have gl := gc.le
  have gp := gc.pos
  refine ⟨_, rfl, x, T.O, dx, _, _, rfl, hx, tf.fO.cl, tf.fO.nTotal, xH _ _ _ _ _, _, rfl, _, _, rfl, rfl, _, rfl, ?_⟩
  refine zL (fun _ => ?_) (fun c => absurd (decide_eq_true h0) c)
  refine ⟨_, rfl, x, T.O, dx, _, _, rfl, hx, tf.fO.cl, tf.fO.nTotal, xH _ _ _ _ _, _, _, rfl, rfl, .inl ⟨by decide, by decide⟩, _, _, rfl, rfl, _, rfl, ?_⟩
  have e1 : decide (n < 2 * cs.sum) = true := decide_eq_true h1
  rw [e1]
  refine xD ?_
  exact ⟨_, Less.refl, q⟩
 ·obtain ⟨x, cs, n, rfl, ⟨gc, dx, kl, sg, pl, nl, as, hx, hk, hg, kp, hn⟩, nn, q⟩ := h
  refine ⟨_, (ze (zy (yv (z6 yo xh (z5 (pv 0) rfl) (pv 1) (zq y0 zb (z5 (pv 0) rfl)))) (ze (zQ zW rfl rfl rfl xf.m2 xf.o2 (zc yd za))) zE)), ?_⟩
  refine ⟨_, rfl, x, T.O, dx, _, _, rfl, hx, tf.fO.cl, tf.fO.nTotal, xH _ _ _ _ _, _, rfl, _, _, rfl, rfl, _, rfl, ?_⟩
  refine zL (fun c => ?_) (fun c => ?_)
  ·have c1 : cs.sum <= n := of_decide_eq_true c
   refine ⟨_, rfl, x, T.O, dx, _, _, rfl, hx, tf.fO.cl, tf.fO.nTotal, xH _ _ _ _ _, _, _, rfl, rfl, .inl ⟨by decide, by decide⟩, _, _, rfl, rfl, _, rfl, ?_⟩
   have e1 : decide (n < 2 * cs.sum) = false := decide_eq_false (fun z => nn ⟨c1, z⟩)
   rw [e1]
   refine yR ?_
   exact ⟨zl1, _, Less.refl, q⟩
  ·refine ⟨_, rfl, ?_⟩
   refine yR ?_
   exact ⟨zl1, _, Less.refl, q⟩
abbrev zbJ : Stmt := yj (top 59) 3
def Sx51 : zm ["self", "sign", "number", "count"] ["self", "sign", "number"] (zd zbJ) := by walk_at "s"
def Bx51 (K : Frag) (T : Cl) (ec : Ec) : BSp := fun vs H E => ∃ (x : Addr) (cs : List Int) (k n : Int), vs = [.ref x, .int k, .int n] /\ SlAt T.O H x cs /\ ((zai cs k /\ E (.ref ec.noSign) none H) \/ (OkS cs k /\ ¬ (cs.getD k.toNat 0 <= n /\ n < 2 * cs.getD k.toNat 0) /\ E (.ref ec.noSlot) none H))
abbrev Yx51 : Prop := CalMX P w K mg base 3 T.O "raised" ["self", "sign", "number"] (fun vs H _ E => Bx51 K T ec vs H E)
theorem ox51 (D : DefM K T.O "raised" "Slots.raised" zbJ ["self", "sign", "number"]) (Cx2 : @Yx2 P w K mg base T ec) : @Yx51 P w K mg base T ec := by
 refine D.okR Sx51 ?_ (fun _ _ _ _ _ H vs E hr h => ?_)
 ·walk_at "l"
 ·obtain ⟨x, cs, k, n, rfl, ⟨gc, dx, kl, sg, pl, nl, as, hx, hk, hg, kp, hn⟩, h⟩ := h
  refine ⟨_, (zf (zx (i := 3) Sx51.nd rfl (Or.inl rfl) (zp (Cx2.up) zr hr rfl (zc (z5 (pv 0) rfl) (zc (pv 1) za))))
   (yz (zy (yv (z6 yo xh (pv 3) (pv 2) (zq y0 zb (pv 3)))) (ze (zQ zW rfl rfl rfl xf.m4 xf.o4 (zc yd za))) zE))), ?_⟩
  rcases h with ⟨b, q⟩ | ⟨⟨k0, k1, k2⟩, nn, q⟩
  ·exact ⟨_, rfl, x, T.O, dx, _, _, rfl, hx, tf.fO.cl, tf.fO.nKept, kX _ _ _ _ _, _, rfl, .inr ⟨kl, cs, k, rfl, SqL.of hk, b, _, Less.refl, q⟩⟩
  refine ⟨_, rfl, x, T.O, dx, _, _, rfl, hx, tf.fO.cl, tf.fO.nKept, kX _ _ _ _ _, _, rfl, .inl ⟨kl, cs, k, rfl, SqL.of hk, k0, k1, k2, ?_⟩⟩
  have hcc := gc.at k.toNat
  refine ⟨_, rfl, _, rfl, _, _, rfl, rfl, _, rfl, ?_⟩
  refine zL (fun c => ?_) (fun c => ?_)
  ·have c1 : cs.getD k.toNat 0 <= n := of_decide_eq_true c
   refine ⟨_, rfl, _, _, rfl, rfl, .inl ⟨by decide, by decide⟩, _, _, rfl, rfl, _, rfl, ?_⟩
   have e1 : decide (n < 2 * cs.getD k.toNat 0) = false := decide_eq_false (fun z => nn ⟨c1, z⟩)
   rw [e1]
   refine yR ?_
   exact ⟨zl1, _, Less.refl, q⟩
  ·refine ⟨_, rfl, ?_⟩
   refine yR ?_
   exact ⟨zl1, _, Less.refl, q⟩
abbrev zbK : Stmt := yj (top 59) 4
def Sx52 : zm ["self", "number", "slot"] ["self", "number"] (zd zbK) := by walk_at "s"
def Px52 (K : Frag) (T : Cl) (ec : Ec) : Sp := fun vs H Q _ => ∃ (x : Addr) (cs : List Int) (p : Nat), vs = [.ref x, .int (cs.sum + ((p : Nat) : Int))] /\ SlAt T.O H x cs /\ p < wN cs /\ ∀ t, H t = none -> Q (.ref t) (upd H t (.tup [.int ((z9 cs).getD p 0), .int (jT cs p)]))
def Bx52 (K : Frag) (T : Cl) (ec : Ec) : BSp := fun vs H E => ∃ (x : Addr) (cs : List Int) (n : Int), vs = [.ref x, .int n] /\ SlAt T.O H x cs /\ ¬ (cs.sum <= n /\ n < 2 * cs.sum) /\ E (.ref ec.noPile) none H
abbrev Yx52 : Prop := CalMX P w K mg base 2 T.O "lowered" ["self", "number"] (orS (Px52 K T ec) (Bx52 K T ec))
theorem ox52 (D : DefM K T.O "lowered" "Slots.lowered" zbK ["self", "number"]) (Cx50 : @Yx50 P w K mg base T ec) : @Yx52 P w K mg base T ec := by
 refine D.okB Sx52 ?_ ?_ (fun _ _ _ _ _ H vs Q E hr h => ?_) (fun _ _ _ _ _ H vs E hr h => ?_)
 ·walk_at "l"
 ·walk_at "l"
 ·obtain ⟨x, cs, p, rfl, sl, hp, q⟩ := h
  refine ⟨_, (zf (zi (zcl (Cs := fun C => C = T.O) (spm := fun _ => fun vs H Q _ => zdy K T ec vs H Q E0) (pv 0) (fun _ e => by subst e; exact ⟨tf.fO.cl, Cx50.good.up⟩) hr (zc (pv 1) za)))
   (zf (zx (i := 2) Sx52.nd rfl (Or.inl rfl) (zq xz (pv 1) (z5 (pv 0) rfl)))
   (ze (zV (kG (zc (zU zK (z5 (pv 0) rfl) (pv 2) (fun _ _ => rfl)) (zc (zU zK (z5 (pv 0) rfl) (pv 2) (fun _ _ => rfl)) za))))))), ?_⟩
  have sl0 := sl
  obtain ⟨gc, dx, kl, sg, pl, nl, as, hx, hk, hg, kp, hn⟩ := sl
  obtain ⟨w1, w2, w3⟩ := gc.wpos
  refine ⟨_, rfl, x, T.O, dx, _, rfl, hx, rfl, xI _ _ _ _ _, _, rfl, x, cs, _, rfl, sl0, by omega, by omega, ?_⟩
  refine ⟨_, rfl, _, rfl, x, T.O, dx, _, _, rfl, hx, tf.fO.cl, tf.fO.nTotal, xH _ _ _ _ _, _, _, rfl, rfl, ?_⟩
  have e0 : cs.sum + ((p : Nat) : Int) - cs.sum = ((p : Nat) : Int) := by omega
  dsimp only
  rw [e0]
  refine ⟨_, rfl, x, T.O, dx, _, _, rfl, hx, tf.fO.cl, tf.fO.nSigns, zcD _ _ _ _ _, _, rfl, sg, _, _, _, rfl, rfl, SqL.of hg, atN (by rw [qy]; exact hp), ?_⟩
  refine ⟨_, rfl, x, T.O, dx, _, _, rfl, hx, tf.fO.cl, tf.fO.nNumbers, w8 _ _ _ _ _, _, rfl, nl, _, _, _, rfl, rfl, SqL.of hn, atN (by rw [km]; exact hp), ?_⟩
  rw [zcC hp]
  refine ⟨zl2, fun t ht => ?_⟩
  exact ⟨_, Less.new (zB ht) ht zh rfl, q t ht⟩
 ·obtain ⟨x, cs, n, rfl, sl, nn, q⟩ := h
  refine ⟨_, (yz (zi (yc (Cs := fun C => C = T.O) (spm := fun _ => orS (zdy K T ec) (Bx50 K T ec)) (pv 0) (fun _ e => by subst e; exact ⟨tf.fO.cl, Cx50.up⟩) zr hr (zc (pv 1) za)))), ?_⟩
  obtain ⟨gc, dx, kl, sg, pl, nl, as, hx, hk, hg, kp, hn⟩ := id sl
  exact ⟨_, rfl, x, T.O, dx, _, rfl, hx, rfl, xI _ _ _ _ _, _, rfl, .inr ⟨x, cs, _, rfl, sl, nn, _, Less.refl, q⟩⟩
abbrev zbL : Stmt := yj (top 59) 5
def Sx53 : zm ["self", "number", "row", "bits", "sign", "count"] ["self", "number", "row"] (zd zbL) := by walk_at "s"
def Bx53 (K : Frag) (T : Cl) (ec : Ec) : BSp := fun vs H E => ∃ (x r : Addr) (cs : List Int) (n : Int) (rs : List Int), vs = [.ref x, .int n, .ref r] /\ SlAt T.O H x cs /\ SqL K H r (rs.map V.int) /\ ((¬ (cs.sum <= n /\ n < 2 * cs.sum) /\ E (.ref ec.noPile) none H) \/ (cs.sum <= n /\ n < 2 * cs.sum /\ 0 < rs.length /\ zai cs (rs.reverse.getD 0 0) /\ E (.ref ec.noSign) none H))
abbrev Yx53 : Prop := CalMX P w K mg base 4 T.O "laid" ["self", "number", "row"] (fun vs H _ E => Bx53 K T ec vs H E)
theorem ox53 (D : DefM K T.O "laid" "Slots.laid" zbL ["self", "number", "row"]) (Cx50 : @Yx50 P w K mg base T ec) (Cx2 : @Yx2 P w K mg base T ec) (Cx51 : @Yx51 P w K mg base T ec) : @Yx53 P w K mg base T ec := by
 refine D.okR Sx53 ?_ (fun _ _ _ _ _ H vs E hr h => ?_)
 ·walk_at "l"
 ·obtain ⟨x, r, cs, n, rs, rfl, sl, hR, h⟩ := h
  refine ⟨_, (zf (zi (yc (Cs := fun C => C = T.O) (spm := fun _ => orS (zdy K T ec) (Bx50 K T ec)) (pv 0) (fun _ e => by subst e; exact ⟨tf.fO.cl, Cx50.up⟩) zr hr (zc (pv 1) za)))
   (zf (zx (i := 3) Sx53.nd rfl (Or.inl rfl) (xi za))
   (yz (yE PassesOwn.leaving rfl (kQ rfl z.reversed (zc (pv 2) za)) (zX (i := 4) Sx53.nd rfl (Or.inl rfl)) (zf (zx (i := 5) Sx53.nd rfl (Or.inl rfl) (zp (Cx2.up) zr hr rfl (zc (z5 (pv 0) rfl) (zc (pv 4) za))))
   (zf (yY PassesOwn.leaving (zl zbZ (pv 1) (zq y0 zb (pv 5)) (zt _)) (zf (zi (xv PySem.F.plainAttrs_list PySem.F.slot_list_append PySem.F.type_list_append yS (pv 3) (zc (zq zR (pv 1) zb) za)))
   (ze (jL (i := 1) Sx53.nd rfl (Or.inl rfl) zb zaC))))
   (ze (zx (i := 1) Sx53.nd rfl (Or.inl rfl) (yc (Cs := fun C => C = T.O) (spm := fun _ => fun vs H _ E => Bx51 K T ec vs H E) (pv 0) (fun _ e => by subst e; exact ⟨tf.fO.cl, Cx51.up⟩) zr hr (zc (pv 4) (zc (pv 1) za))))))))))), ?_⟩
  obtain ⟨gc, dx, kl, sg, pl, nl, as, hx, hk, hg, kp, hn⟩ := id sl
  rcases h with ⟨nn, q⟩ | ⟨h0, h1, rl, b, q⟩
  ·exact ⟨_, rfl, x, T.O, dx, _, rfl, hx, rfl, xI _ _ _ _ _, _, rfl, .inr ⟨x, cs, _, rfl, sl, nn, _, Less.refl, q⟩⟩
  refine ⟨_, rfl, x, T.O, dx, _, rfl, hx, rfl, xI _ _ _ _ _, _, rfl, .inl ⟨x, cs, _, rfl, sl, h0, h1, ?_⟩⟩
  refine ⟨zl0, fun l hl => ?_⟩
  refine ⟨_, rfl, r, _, rfl, hR.up hl, qh (K := K) (a := r) (xs := rs.map V.int) (fun i σ H2 => ∃ (v4 v5 : Option V), σ = [some (.ref x), some (.int n), some (.ref r), some (.ref l), v4, v5] /\ H2 = upd H l (.lst []) /\ i = 0) ⟨none, none, rfl, rfl, rfl⟩ (fun i σ H2 _ ⟨_, _, _, e, _⟩ => e ▸ hR.up hl) ?_ ?_⟩
  ·rintro i y σ H2 hi ⟨v4, v5, rfl, rfl, e0⟩
   obtain ⟨h1', rfl, hm⟩ := wL hi
   subst e0
   exact ⟨_, rfl, x, T.O, dx, _, _, rfl, zF hx hl, tf.fO.cl, tf.fO.nKept, kX _ _ _ _ _, _, rfl, .inr ⟨kl, cs, _, rfl, SqL.of (zF hk hl), b, _, Less.same (zB hl), q⟩⟩
  ·rintro σ H2 ⟨v4, v5, rfl, rfl, e0⟩
   rw [List.length_map] at e0
   omega
abbrev zbM : Stmt := yj (top 59) 6
def Sx54 : zm ["self", "number", "bits", "many", "left", "row", "turn", "found"] ["self", "number", "bits", "many"] (zd zbM) := by walk_at "s"
def Bx54 (K : Frag) (T : Cl) (ec : Ec) : BSp := fun vs H E => ∃ (x b : Addr) (cs : List Int) (n m : Int), vs = [.ref x, .int n, .ref b, .int m] /\ SlAt T.O H x cs /\ SqL K H b [] /\ ((¬ (cs.sum <= n /\ n < 2 * cs.sum) /\ E (.ref ec.noPile) none H) \/ (cs.sum <= n /\ n < 2 * cs.sum /\ 1 <= m /\ m <= 1000 /\ (∀ p, p < wN cs -> jT cs p < cs.sum) /\ E (.ref ec.noMore) none H))
abbrev Yx54 : Prop := CalMX P w K mg base 3 T.O "taken" ["self", "number", "bits", "many"] (fun vs H _ E => Bx54 K T ec vs H E)
theorem ox54 (D : DefM K T.O "taken" "Slots.taken" zbM ["self", "number", "bits", "many"]) (Cx50 : @Yx50 P w K mg base T ec) (Cx52 : @Yx52 P w K mg base T ec) : @Yx54 P w K mg base T ec := by
 refine D.okR Sx54 ?_ (fun _ _ _ _ _ H vs E hr h => ?_)
 ·walk_at "l"
 ·obtain ⟨x, b, cs, n, m, rfl, sl, hb, h⟩ := h
  refine ⟨_, (zf (zi (yc (Cs := fun C => C = T.O) (spm := fun _ => orS (zdy K T ec) (Bx50 K T ec)) (pv 0) (fun _ e => by subst e; exact ⟨tf.fO.cl, Cx50.up⟩) zr hr (zc (pv 1) za)))
   (zf (zx (i := 4) Sx54.nd rfl (Or.inl rfl) (yV yI rfl z.list ji (zc (pv 2) za)))
   (zf (zx (i := 5) Sx54.nd rfl (Or.inl rfl) (xi za))
   (yz (yE PassesOwn.leaving rfl (xC rfl z.range (zc (pv 3) za)) (zX (i := 6) Sx54.nd rfl (Or.inl rfl)) (zf (zx (i := 7) Sx54.nd rfl (Or.inl rfl) (yc (Cs := fun C => C = T.O) (spm := fun _ => orS (Px52 K T ec) (Bx52 K T ec)) (pv 0) (fun _ e => by subst e; exact ⟨tf.fO.cl, Cx52.up⟩) zr hr (zc (pv 1) za)))
   (zf (zi (xv PySem.F.plainAttrs_list PySem.F.slot_list_append PySem.F.type_list_append yS (pv 5) (zc (zU y8 (pv 7) zb (fun _ _ => rfl)) za)))
   (zf (zx (i := 1) Sx54.nd rfl (Or.inl rfl) (zU y8 (pv 7) zb (fun _ _ => rfl)))
   (ze (yY PassesOwn.leaving (zl xh (pv 1) (z5 (pv 0) rfl) (zt _)) (zf (zy (zl zH (zw zC rfl z.len yg (zc (pv 4) za)) zb (zt _)) (ze (zQ zW rfl rfl rfl xf.m5 xf.o5 (zc yd za))) zE)
   (ze (zx (i := 1) Sx54.nd rfl (Or.inl rfl) (zq z8 (zq y0 zb (pv 1)) (wF PySem.F.plainAttrs_list PySem.F.slot_list_pop PySem.F.type_list_pop zb9 (pv 4)))))))))))))))), ?_⟩
  obtain ⟨gc, dx, kl, sg, pl, nl, as, hx, hk, hg, kp, hn⟩ := id sl
  obtain ⟨w1, w2, w3⟩ := gc.wpos
  rcases h with ⟨nn, q⟩ | ⟨h0, h1, m0, m1, lw, q⟩
  ·exact ⟨_, rfl, x, T.O, dx, _, rfl, hx, rfl, xI _ _ _ _ _, _, rfl, .inr ⟨x, cs, _, rfl, sl, nn, _, Less.refl, q⟩⟩
  refine ⟨_, rfl, x, T.O, dx, _, rfl, hx, rfl, xI _ _ _ _ _, _, rfl, .inl ⟨x, cs, n, rfl, sl, h0, h1, ?_⟩⟩
  refine ⟨_, rfl, b, _, rfl, .inl hb, fun l hl => ?_⟩
  refine ⟨zl0, fun r hr' => ?_⟩
  have nrl : r ≠ l := fun z => by rw [z, zh] at hr'; cases hr'
  have hrH : H r = none := (zB hl).free hr'
  have s1 := (zB (u := .lst []) hl).trans (zB (u := .lst []) hr')
  have l1 : (upd (upd H l (.lst [])) r (.lst [])) l = some (.lst []) := zF zh hr'
  have r1 : (upd (upd H l (.lst [])) r (.lst [])) r = some (.lst []) := zh
  generalize upd (upd H l (.lst [])) r (.lst []) = H1 at s1 l1 r1 |-
  refine ⟨_, rfl, m, rfl, by omega, by omega, jM (n := m.toNat) (fun i σ H2 => ∃ (v6 v7 : Option V), σ = [some (.ref x), some (.int n), some (.ref b), some (.int m), some (.ref l), some (.ref r), v6, v7] /\ H2 = H1 /\ i = 0) ⟨none, none, rfl, rfl, rfl⟩ ?_ ?_⟩
  ·rintro i σ H2 hi ⟨v6, v7, rfl, rfl, e0⟩
   obtain ⟨p, ep⟩ : ∃ p : Nat, n = cs.sum + (p : Int) := ⟨(n - cs.sum).toNat, by omega⟩
   have hp : p < wN cs := by omega
   have sl2 := sl.same s1
   have hx2 := s1 _ _ hx
   refine ⟨_, rfl, x, T.O, dx, _, rfl, hx2, rfl, qz _ _ _ _ _, _, rfl, .inl ⟨x, cs, p, by rw [ep], sl2, hp, fun t ht => ?_⟩⟩
   have s3 := zB (u := .tup [.int ((z9 cs).getD p 0), .int (jT cs p)]) ht
   have t3 : (upd H2 t (.tup [.int ((z9 cs).getD p 0), .int (jT cs p)])) t = some (.tup [.int ((z9 cs).getD p 0), .int (jT cs p)]) := zh
   generalize upd H2 t (.tup [.int ((z9 cs).getD p 0), .int (jT cs p)]) = H3 at s3 t3 |-
   have l3 := s3 _ _ l1
   have r3 := s3 _ _ r1
   have ntr : t ≠ r := xR t3 r3 (by intro z; cases z)
   refine ⟨_, rfl, .inl ⟨rfl, _, SqL.of r3⟩, _, rfl, t, _, _, _, rfl, rfl, SqT.of t3, rfl, r, _, _, rfl, rfl, r3, szlt (Nat.zero_le _), ?_⟩
   have s4 : Same H (upd H3 r (.lst ([] ++ [.int ((z9 cs).getD p 0)]))) := fun c o e => by rw [zj (zu e hrH)]; exact s3 _ _ (s1 _ _ e)
   have t4 : (upd H3 r (.lst ([] ++ [.int ((z9 cs).getD p 0)]))) t = some (.tup [.int ((z9 cs).getD p 0), .int (jT cs p)]) := by rw [zj ntr]; exact t3
   have l4 : (upd H3 r (.lst ([] ++ [.int ((z9 cs).getD p 0)]))) l = some (.lst []) := by rw [zj nrl.symm]; exact l3
   generalize upd H3 r (.lst ([] ++ [.int ((z9 cs).getD p 0)])) = H4 at s4 t4 l4 |-
   refine ⟨_, rfl, t, _, _, _, rfl, rfl, SqT.of t4, rfl, ?_⟩
   refine xg (fun σ H5 => σ = [some (.ref x), some (.int (jT cs p)), some (.ref b), some (.int m), some (.ref l), some (.ref r), some (.int (0 + (i : Int))), some (.ref t)] /\ H5 = H4) (fun _ _ => 0) ⟨rfl, rfl⟩ ?_ ?_
   ·rintro σ H5 ⟨rfl, rfl⟩
    have hx5 := s4 _ _ hx
    refine ⟨_, rfl, _, rfl, x, T.O, dx, _, _, rfl, hx5, tf.fO.cl, tf.fO.nTotal, xH _ _ _ _ _, _, _, rfl, rfl, _, rfl, ?_⟩
    refine zL (fun c => ?_) (fun c => absurd (decide_eq_true (lw p hp)) c)
    refine ⟨_, rfl, l, _, rfl, .inl (SqL.of l4), ?_⟩
    refine ⟨rfl, _, rfl, ?_⟩
    exact ⟨zl1, _, Less.same s4, q⟩
   ·rintro σ H5 Q1 Q2 hq ⟨v1, e1, v2, e2, a1, C1, d1, f1, w1, y1, y2, y3, y4, y5, i2, j2, z1, z2, k', z3, h⟩
    exact ⟨v1, e1, v2, e2, a1, C1, d1, f1, w1, y1, y2, y3, y4, y5, i2, j2, z1, z2, k', z3, hq _ _ h⟩
  ·rintro σ H2 ⟨v6, v7, rfl, rfl, e0⟩
   omega
abbrev zbN : Stmt := yj (top 64) 0
def Sx55 : zm ["self", "counts", "base", "grain", "total"] ["self", "counts", "base", "grain"] (zd zbN) := by walk_at "s"
def Px55 (K : Frag) (T : Cl) (ec : Ec) : Sp := fun vs H Q _ => ∃ (x dx a : Addr) (cs : List Int) (b g : Int), vs = [.ref x, .ref a, .int b, .int g] /\ H x = some (.ins T.S dx []) /\ SqL K H a (cs.map V.int) /\ GoodC cs /\ 2 <= b /\ b <= 1000 /\ 1 <= g /\ g <= 100 ∧
 ∀ kl wl H', H kl = none -> H wl = none -> StAt T.S H' x kl wl cs b g (g * cs.sum) [] -> (∀ b o, H b = some o -> b ≠ x -> H' b = some o) -> Q .non H'
def Bx55 (K : Frag) (T : Cl) (ec : Ec) : BSp := fun vs H E => ∃ (x dx a : Addr) (cs : List Int) (b g : Int), vs = [.ref x, .ref a, .int b, .int g] /\ H x = some (.ins T.S dx []) /\ SqL K H a (cs.map V.int) /\ ¬ (GoodC cs /\ 2 <= b /\ b <= 1000 /\ 1 <= g /\ g <= 100) /\ E (.ref ec.noShares) none H
def Bx56 (K : Frag) (T : Cl) (ec : Ec) : BSp := fun vs H E => ∃ (a : Addr) (cs : List Int) (b g : Int), vs = [.ref a, .int b, .int g] /\ SqL K H a (cs.map V.int) /\ ¬ (GoodC cs /\ 2 <= b /\ b <= 1000 /\ 1 <= g /\ g <= 100) /\ ∀ H', Same H H' -> E (.ref ec.noShares) none H'
def Bx57 (K : Frag) (T : Cl) (ec : Ec) : BSp := fun vs H E => ∃ (a : Addr) (cs : List Int) (b : Int), vs = [.ref a, .int b] /\ SqL K H a (cs.map V.int) /\ ¬ (GoodC cs /\ 2 <= b /\ b <= 1000) /\ ∀ H', Same H H' -> E (.ref ec.noShares) none H'
def Px56 (K : Frag) (T : Cl) : Sp := fun vs H Q _ => ∃ (a : Addr) (cs : List Int) (b g : Int), vs = [.ref a, .int b, .int g] /\ SqL K H a (cs.map V.int) /\ GoodC cs /\ 2 <= b /\ b <= 1000 /\ 1 <= g /\ g <= 100 /\ ∀ x kl wl H', H x = none -> H kl = none -> H wl = none -> StAt T.S H' x kl wl cs b g (g * cs.sum) [] -> Same H H' -> Q (.ref x) H'
def Px57 (K : Frag) (T : Cl) : Sp := fun vs H Q _ => ∃ (a : Addr) (cs : List Int) (b : Int), vs = [.ref a, .int b] /\ SqL K H a (cs.map V.int) /\ GoodC cs /\ 2 <= b /\ b <= 1000 /\ ∀ x kl wl H', H x = none -> H kl = none -> H wl = none -> StAt T.S H' x kl wl cs b 4 (4 * cs.sum) [] -> Same H H' -> Q (.ref x) H'
abbrev Yx56 : Prop := CalAX P w K mg base 4 "Stream" (orS (Px56 K T) (Bx56 K T ec))
abbrev Yx57 : Prop := CalAX P w K mg base 4 "Stream" (orS (Px57 K T) (Bx57 K T ec))
theorem ox55 (D : DefI K T.S "Stream.__init__" zbN ["self", "counts", "base", "grain"] [.int 4]) (Cx3 : @Yx3 P w K mg base T ec) : @Yx56 P w K mg base T ec /\ @Yx57 P w K mg base T ec := by
 refine D.okB (sp := Px55 K T ec) (bd := Bx55 K T ec) tf.mS Sx55 ?_ ?_ (fun _ _ _ _ _ H vs Q E hr h => ?_) (fun vs H Q h x dx nx ndx nd => ?_) (fun vs H Q h x dx nx ndx nd => ?_) (fun _ _ _ _ _ H vs E hr h => ?_) (fun vs H E h x dx nx ndx nd => ?_) (fun vs H E h x dx nx ndx nd => ?_)
 ·walk_at "l"
 ·walk_at "l"
 ·obtain ⟨x, dx, a, cs, b, gr, rfl, hx, hS, gc, b0, b1, g0, g1, q⟩ := h
  refine ⟨_, (zf (zx (i := 4) Sx55.nd rfl (Or.inl rfl) (zN (Cx3.good.up) hr rfl (zc (pv 1) za)))
   (zf (zy (yv (z6 yo yo (yq rfl g.LEAST_BASE) (pv 2) (yq rfl g.MOST_BASE))) (ze yf) zE)
   (zf (zy (yv (z6 yo yo zb (pv 3) (yq rfl g.MOST_GRAIN))) (ze yf) zE)
   (zf (yw (pv 0) (yV yI rfl z.list ji (zc (pv 1) za)) rfl)
   (zf (yw (pv 0) (pv 2) rfl)
   (zf (yw (pv 0) (pv 3) rfl)
   (zf (yw (pv 0) (zq y0 (pv 3) (pv 4)) rfl)
   (zf (yw (pv 0) (z5 (pv 0) rfl) rfl)
   (ze (yw (pv 0) (xi za) rfl)))))))))), ?_⟩
  refine ⟨_, rfl, a, cs, rfl, hS, gc, ?_⟩
  have le := gc.le
  have gp := gc.pos
  walk_at "r"
  refine zL (fun _ => ?_) (fun c => absurd (decide_eq_true b0) c)
  refine ⟨_, _, rfl, rfl, _, rfl, ?_⟩
  have e1 : decide (b <= 1000) = true := decide_eq_true b1
  rw [e1]
  refine xD ?_
  walk_at "r"
  refine zL (fun _ => ?_) (fun c => absurd (decide_eq_true g0) c)
  refine ⟨_, _, rfl, rfl, _, rfl, ?_⟩
  have e2 : decide (gr <= 100) = true := decide_eq_true g1
  rw [e2]
  refine xD ?_
  refine ⟨_, rfl, a, _, rfl, .inl hS, fun kl hkl => ?_⟩
  have nkx : kl ≠ x := fun z => by rw [z, hx] at hkl; cases hkl
  refine ⟨_, rfl, x, T.S, dx, _, rfl, zF hx hkl, tf.fS.cl, tf.fS.nKept, (by show 0 < 1000; decide), ?_⟩
  have k1 : (upd (upd H kl (.lst (cs.map V.int))) x (.ins T.S dx (yA "kept" (.ref kl) []))) kl = some (.lst (cs.map V.int)) := by rw [zj nkx]; exact zh
  have f1 : ∀ c o, H c = some o -> c ≠ x -> (upd (upd H kl (.lst (cs.map V.int))) x (.ins T.S dx (yA "kept" (.ref kl) []))) c = some o := fun c o e n => by rw [zj n, zj (zu e hkl)]; exact e
  have x1 : (upd (upd H kl (.lst (cs.map V.int))) x (.ins T.S dx (yA "kept" (.ref kl) []))) x = some (.ins T.S dx [("kept", .ref kl)]) := zh
  have n1 : ∀ c, (upd (upd H kl (.lst (cs.map V.int))) x (.ins T.S dx (yA "kept" (.ref kl) []))) c = none -> H c = none /\ c ≠ x /\ c ≠ kl := fun c e => by
   have n1 : c ≠ x := fun z => by rw [z, zh] at e; cases e
   rw [zj n1] at e
   have n2 : c ≠ kl := fun z => by rw [z, zh] at e; cases e
   rw [zj n2] at e
   exact ⟨e, n1, n2⟩
  generalize upd (upd H kl (.lst (cs.map V.int))) x (.ins T.S dx (yA "kept" (.ref kl) [])) = H1 at k1 f1 x1 n1 |-
  refine ⟨_, rfl, _, rfl, x, T.S, dx, _, rfl, x1, tf.fS.cl, tf.fS.nBase, (by show 1 < 1000; decide), ?_⟩
  rw [za3]
  refine ⟨_, rfl, _, rfl, x, T.S, dx, _, rfl, zh, tf.fS.cl, tf.fS.nGrain, (by show 2 < 1000; decide), ?_⟩
  rw [wX, yM]
  refine ⟨_, rfl, _, rfl, _, _, rfl, rfl, .inl ⟨by omega, by omega⟩, _, rfl, x, T.S, dx, _, rfl, zh, tf.fS.cl, tf.fS.nLow, (by show 3 < 1000; decide), ?_⟩
  rw [zcz, yM]
  refine ⟨_, rfl, x, T.S, dx, _, _, rfl, zh, tf.fS.cl, tf.fS.nLow, za5 _ _ _ _, _, rfl, x, T.S, dx, _, rfl, zh, tf.fS.cl, tf.fS.nNumber, (by show 4 < 1000; decide), ?_⟩
  rw [za4, yM]
  refine ⟨zl0, fun wl hwl => ?_⟩
  have nwx : wl ≠ x := fun z => by rw [z, zh] at hwl; cases hwl
  rw [zj nwx] at hwl
  obtain ⟨w1, w2, w3⟩ := n1 wl hwl
  refine ⟨_, rfl, x, T.S, dx, _, rfl, (by rw [zj nwx.symm]; exact zh), tf.fS.cl, tf.fS.nWords, (by show 5 < 1000; decide), ?_⟩
  rw [wY]
  refine q kl wl _ hkl w1 ⟨⟨dx, zh⟩, ?_, ?_, w3.symm⟩ fun c o e n => ?_
  ·rw [zj nkx, zj w3.symm, zj nkx]
   exact k1
  ·rw [zj nwx, zh]
   rfl
  ·have e' := f1 c o e n
   rw [zj n, zj (zu e' hwl), zj n]
   exact e'
 ·obtain ⟨a, cs, b, gr, rfl, hS, gc, b0, b1, g0, g1, q⟩ := h
  exact ⟨x, dx, a, cs, b, gr, rfl, zh, Same.seq (ye nx ndx fun c o e n => e) hS, gc, b0, b1, g0, g1, fun kl wl H' hk hw pa fr => ⟨rfl, q x kl wl H' nx (yO hk) (yO hw) pa (ye nx ndx fr)⟩⟩
 ·obtain ⟨a, cs, b, rfl, hS, gc, b0, b1, q⟩ := h
  exact ⟨x, dx, a, cs, b, 4, rfl, zh, Same.seq (ye nx ndx fun c o e n => e) hS, gc, b0, b1, by decide, by decide, fun kl wl H' hk hw pa fr => ⟨rfl, q x kl wl H' nx (yO hk) (yO hw) pa (ye nx ndx fr)⟩⟩
 ·obtain ⟨x, dx, a, cs, b, gr, rfl, hx, hS, nb, q⟩ := h
  refine ⟨_, (zf (zx (i := 4) Sx55.nd rfl (Or.inl rfl) (zp (Cx3.up) zr hr rfl (zc (pv 1) za)))
   (zf (zy (yv (z6 yo yo (yq rfl g.LEAST_BASE) (pv 2) (yq rfl g.MOST_BASE))) (ze (zQ zW rfl rfl rfl xf.m1 xf.o1 (zc yd za))) zE)
   (yz (zy (yv (z6 yo yo zb (pv 3) (yq rfl g.MOST_GRAIN))) (ze (zQ zW rfl rfl rfl xf.m1 xf.o1 (zc yd za))) zE)))), ?_⟩
  by_cases gc : GoodC cs
  rotate_left
  ·exact ⟨_, rfl, .inr ⟨a, cs, rfl, hS, gc, q⟩⟩
  refine ⟨_, rfl, .inl ⟨a, cs, rfl, hS, gc, ?_⟩⟩
  walk_at "r"
  refine zL (fun c => ?_) (fun c => ?_)
  rotate_left
  ·refine ⟨_, rfl, ?_⟩
   refine yR ?_
   exact ⟨zl1, q⟩
  have b0 : 2 <= b := of_decide_eq_true c
  refine ⟨_, _, rfl, rfl, _, rfl, ?_⟩
  by_cases b1 : b <= 1000
  rotate_left
  ·have e1 : decide (b <= 1000) = false := decide_eq_false b1
   rw [e1]
   refine yR ?_
   exact ⟨zl1, q⟩
  have e1 : decide (b <= 1000) = true := decide_eq_true b1
  rw [e1]
  refine xD ?_
  walk_at "r"
  refine zL (fun c => ?_) (fun c => ?_)
  ·have g0 : 1 <= gr := of_decide_eq_true c
   refine ⟨_, _, rfl, rfl, _, rfl, ?_⟩
   have e2 : decide (gr <= 100) = false := decide_eq_false (fun z => nb ⟨gc, b0, b1, g0, z⟩)
   rw [e2]
   refine yR ?_
   exact ⟨zl1, q⟩
  ·refine ⟨_, rfl, ?_⟩
   refine yR ?_
   exact ⟨zl1, q⟩
 ·obtain ⟨a, cs, b, gr, rfl, hS, nb, q⟩ := h
  exact ⟨x, dx, a, cs, b, gr, rfl, zh, qa hS nx ndx nd, nb, q _ (ye nx ndx fun _ _ e _ => e)⟩
 ·obtain ⟨a, cs, b, rfl, hS, nb, q⟩ := h
  exact ⟨x, dx, a, cs, b, 4, rfl, zh, qa hS nx ndx nd, fun z => nb ⟨z.1, z.2.1, z.2.2.1⟩, q _ (ye nx ndx fun _ _ e _ => e)⟩
abbrev zbO : Stmt := yj (top 64) 1
def Sx58 : zm ["self", "sign", "bound"] ["self", "sign"] (zd zbO) := by walk_at "s"
def Bx58 (K : Frag) (T : Cl) (ec : Ec) : BSp := fun vs H E => ∃ (x kl wl : Addr) (cs : List Int) (b g n : Int) (ws : List Int) (k : Int), vs = [.ref x, .int k] /\ StAt T.S H x kl wl cs b g n ws /\ SOk cs b g n ws /\ zai cs k /\ E (.ref ec.noSign) none H
abbrev Yx58 : Prop := CalMX P w K mg base 3 T.S "lay_sign" ["self", "sign"] (fun vs H _ E => Bx58 K T ec vs H E)
theorem ox58 (D : DefM K T.S "lay_sign" "Stream.lay_sign" zbO ["self", "sign"]) (Cx2 : @Yx2 P w K mg base T ec) : @Yx58 P w K mg base T ec := by
 refine D.okR Sx58 ?_ (fun _ _ _ _ _ H vs E hr h => ?_)
 ·walk_at "l"
 ·obtain ⟨x, kl, wl, cs, b, gr, n, ws, k, rfl, pa, so, bs, q⟩ := h
  refine ⟨_, (yz (zx (i := 2) Sx58.nd rfl (Or.inl rfl) (zq y0 (zq y0 (z5 (pv 0) rfl) (z5 (pv 0) rfl)) (zp (Cx2.up) zr hr rfl (zc (z5 (pv 0) rfl) (zc (pv 1) za)))))), ?_⟩
  have b0 := so.b0
  have b1 := so.b1
  have g0 := so.g0
  have g1 := so.g1
  obtain ⟨dx, hx⟩ := pa.ob
  refine ⟨_, rfl, x, T.S, dx, _, _, rfl, hx, tf.fS.cl, tf.fS.nGrain, zcy _ _ _ _ _ _, _, rfl, x, T.S, dx, _, _, rfl, hx, tf.fS.cl, tf.fS.nBase, zaE _ _ _ _ _ _, _, _, rfl, rfl, .inl ⟨by omega, by omega⟩, ?_⟩
  exact ⟨_, rfl, x, T.S, dx, _, _, rfl, hx, tf.fS.cl, tf.fS.nKept, zaD _ _ _ _ _ _, _, rfl, .inr ⟨kl, cs, k, rfl, SqL.of pa.kp, bs, _, Less.refl, q⟩⟩
abbrev zbP : Stmt := yj (top 64) 2
def Sx59 : zm ["self", "taken", "number", "left"] ["self"] (zd zbP) := by walk_at "s"
def Px59 (K : Frag) (T : Cl) (ec : Ec) : Sp := fun vs H Q E => ∃ (x kl wl : Addr) (cs : List Int) (b g n : Int) (ws : List Int), vs = [.ref x] /\ StAt T.S H x kl wl cs b g n ws /\ SOk cs b g n ws ∧
 ((jS cs b g n ws = none /\ ∀ H', Same H H' -> E (.ref ec.noMore) none H') \/ ∃ n' r, jS cs b g n ws = some (n', r) /\ ∀ H', StAt T.S H' x kl wl cs b g n' r.reverse -> (∀ b o, H b = some o -> b ≠ x -> b ≠ wl -> H' b = some o) -> Q (.int ((takeS cs n : Nat) : Int)) H')
abbrev Yx59 : Prop := CalMX P w K mg base 5 T.S "take_sign" ["self"] (Px59 K T ec)
theorem ox59 (D : DefM K T.S "take_sign" "Stream.take_sign" zbP ["self"]) (Cx8 : @Yx8 P w K mg base T ec) : @Yx59 P w K mg base T ec := by
 refine D.okX Sx59 ?_ (fun _ _ _ _ _ H vs Q E hr h => ?_)
 ·walk_at "l"
 obtain ⟨x, kl, wl, cs, b, gr, n, ws, rfl, pa, so, q⟩ := h
 refine ⟨_, (zf (zx (i := 1) Sx59.nd rfl (Or.inl rfl) (zN (Cx8.good.up) hr rfl (zc (z5 (pv 0) rfl) (zc (z5 (pv 0) rfl) za))))
   (zf (zx (i := 2) Sx59.nd rfl (Or.inl rfl) (zU y8 (pv 1) zb (fun _ _ => rfl)))
   (zf (zx (i := 3) Sx59.nd rfl (Or.inl rfl) (zw zC rfl z.len yg (zc (z5 (pv 0) rfl) za)))
   (zf (yY PassesOwn.leaving (zl xh (pv 2) (z5 (pv 0) rfl) (zt _)) (zf (zy (zl zH (pv 3) zb (zt _)) (ze (zQ zW rfl rfl rfl xf.m5 xf.o5 (zc yd za))) zE)
   (zf (jL (i := 3) Sx59.nd rfl (Or.inl rfl) zb zeH)
   (ze (zx (i := 2) Sx59.nd rfl (Or.inl rfl) (zq z8 (zq y0 (z5 (pv 0) rfl) (pv 2)) (zU zK (z5 (pv 0) rfl) (pv 3) (fun _ _ => rfl))))))))
   (zf (yY PassesOwn.leaving (zl qm (zw zC rfl z.len yg (zc (z5 (pv 0) rfl) za)) (pv 3) (zt _)) (ze (zi (wF PySem.F.plainAttrs_list PySem.F.slot_list_pop PySem.F.type_list_pop zb9 (z5 (pv 0) rfl)))))
   (zf (yw (pv 0) (pv 2) rfl)
   (ze (zV (zU y8 (pv 1) zb (fun _ _ => rfl)))))))))), ?_⟩
 have b0 := so.b0
 have b1 := so.b1
 have nn := so.off.2
 obtain ⟨dx, hx⟩ := pa.ob
 refine ⟨_, rfl, x, T.S, dx, _, _, rfl, hx, tf.fS.cl, tf.fS.nNumber, za2 _ _ _ _ _ _, _, rfl, x, T.S, dx, _, _, rfl, hx, tf.fS.cl, tf.fS.nKept, zaD _ _ _ _ _ _, n, kl, cs, rfl, SqL.of pa.kp, so.gc, nn, fun t ht => ?_⟩
 have s1 := zB (u := .tup [.int ((takeS cs n : Nat) : Int), .int (yD cs n)]) ht
 have t1 : (upd H t (.tup [.int ((takeS cs n : Nat) : Int), .int (yD cs n)])) t = some (.tup [.int ((takeS cs n : Nat) : Int), .int (yD cs n)]) := zh
 generalize upd H t (.tup [.int ((takeS cs n : Nat) : Int), .int (yD cs n)]) = H1 at s1 t1 |-
 have pa1 := pa.same s1
 have hx1 := s1 _ _ hx
 have el : (ws.map V.int).length = ws.length := List.length_map _
 refine ⟨_, rfl, t, _, _, _, rfl, rfl, SqT.of t1, rfl, ?_⟩
 refine ⟨_, rfl, x, T.S, dx, _, _, rfl, hx1, tf.fS.cl, tf.fS.nWords, jz _ _ _ _ _ _, wl, _, rfl, .inl (SqL.of pa1.wd), ?_⟩
 rw [el]
 refine xg (fun σ H2 => ∃ (m : Int) (l : Nat), σ = [some (.ref x), some (.ref t), some (.int m), some (.int (l : Int))] /\ H2 = H1 /\ l <= ws.length /\ xo b (gr * cs.sum) (ws.take l).reverse m = jS cs b gr n ws)
  (fun σ H2 => match σ with | [_, _, _, some (.int l)] => l.toNat | _ => 0) ⟨yD cs n, ws.length, rfl, rfl, Nat.le_refl _, by rw [List.take_length]; rfl⟩ ?_ ?_
 ·rintro σ H2 ⟨m, l, rfl, rfl, hl, rf⟩
  refine ⟨_, rfl, _, rfl, x, T.S, dx, _, _, rfl, hx1, tf.fS.cl, tf.fS.nLow, zeU _ _ _ _ _ _, _, _, rfl, rfl, _, rfl, ?_⟩
  refine zL (fun c => ?_) (fun c => ?_)
  ·have c' : m < gr * cs.sum := of_decide_eq_true c
   refine ⟨_, rfl, rfl, _, rfl, ?_⟩
   refine zL (fun e => ?_) (fun e => ?_)
   ·have e' : (l : Int) = 0 := V.int.inj (of_decide_eq_true e)
    have e2 : l = 0 := by omega
    subst e2
    have rn : jS cs b gr n ws = none := by
     rw [<- rf, List.take_zero]
     show xo b (gr * cs.sum) [] m = none
     unfold xo
     rw [if_pos c']
    rcases q with ⟨_, q⟩ | ⟨n', r, e3, _⟩
    ·exact ⟨zl1, q _ s1⟩
    ·rw [rn] at e3; cases e3
   ·have e' : l ≠ 0 := fun z => e (decide_eq_true (by rw [z]; rfl))
    obtain ⟨l', rfl⟩ : ∃ l', l = l' + 1 := ⟨l - 1, by omega⟩
    have hl' : l' < ws.length := by omega
    refine ⟨_, rfl, _, _, rfl, rfl, ?_⟩
    have ec : (((l' + 1 : Nat) : Int) - 1) = (l' : Int) := by omega
    dsimp only
    rw [ec]
    refine ⟨_, rfl, x, T.S, dx, _, _, rfl, hx1, tf.fS.cl, tf.fS.nBase, zaE _ _ _ _ _ _, _, rfl, _, _, rfl, rfl, .inl ⟨by omega, by omega⟩, ?_⟩
    refine ⟨_, rfl, x, T.S, dx, _, _, rfl, hx1, tf.fS.cl, tf.fS.nWords, jz _ _ _ _ _ _, _, rfl, wl, _, _, _, rfl, rfl, SqL.of pa1.wd, atN hl', _, _, rfl, rfl, ?_⟩
    refine ⟨⟨b * m + ws.getD l' 0, l', rfl, rfl, by omega, ?_⟩, ?_⟩
    ·rw [<- rf, qP hl']
     conv => rhs; unfold xo
     rw [if_pos c']
    ·show ((l' : Int)).toNat < (((l' + 1 : Nat) : Int)).toNat
     omega
  ·have c' : ¬ m < gr * cs.sum := of_decide_eq_false (Bool.eq_false_iff.mpr c)
   rw [vL (by omega)] at rf
   rcases q with ⟨e3, _⟩ | ⟨n', r, e3, q⟩
   ·rw [e3] at rf; cases rf
   rw [e3] at rf
   have e4 := Prod.mk.inj (Option.some.inj rf)
   rw [<- e4.1, <- e4.2, List.reverse_reverse] at q
   refine xg (fun σ H3 => ∃ (j : Nat), σ = [some (.ref x), some (.ref t), some (.int m), some (.int (l : Int))] /\ StAt T.S H3 x kl wl cs b gr n (ws.take j) /\ (∀ b o, H2 b = some o -> b ≠ x -> b ≠ wl -> H3 b = some o) /\ l <= j /\ j <= ws.length)
    (fun σ H3 => qw H3 wl) ⟨ws.length, rfl, by rw [List.take_length]; exact pa1, fun c o e _ _ => e, hl, Nat.le_refl _⟩ ?_ ?_
   ·rintro σ H3 ⟨j, rfl, pa3, fr3, hlj, hj⟩
    obtain ⟨dx3, hx3⟩ := pa3.ob
    have lj : ((ws.take j).map V.int).length = j := by rw [List.length_map, List.length_take]; omega
    refine ⟨_, rfl, x, T.S, dx3, _, _, rfl, hx3, tf.fS.cl, tf.fS.nWords, jz _ _ _ _ _ _, wl, _, rfl, .inl (SqL.of pa3.wd), _, rfl, ?_⟩
    rw [lj]
    refine ⟨_, _, rfl, rfl, _, rfl, ?_⟩
    refine zL (fun e => ?_) (fun e => ?_)
    ·have e' : (l : Int) < (j : Int) := of_decide_eq_true e
     obtain ⟨j', rfl⟩ : ∃ j', j = j' + 1 := ⟨j - 1, by omega⟩
     have gl : ((ws.take (j' + 1)).map V.int)[((ws.take (j' + 1)).map V.int).length - 1]? = some (.int (ws.getD j' 0)) := by
      rw [lj]
      have : j' + 1 - 1 = j' := by omega
      rw [this, zcd (by rw [List.length_take]; omega), List.getD_eq_getElem?_getD, List.getElem?_take_of_lt (by omega), List.getD_eq_getElem?_getD]
     refine ⟨_, rfl, x, T.S, dx3, _, _, rfl, hx3, tf.fS.cl, tf.fS.nWords, jz _ _ _ _ _ _, .inl ⟨rfl, _, SqL.of pa3.wd⟩, wl, _, _, rfl, rfl, pa3.wd, gl, ?_⟩
     have ed : ((ws.take (j' + 1)).map V.int).dropLast = (ws.take j').map V.int := by rw [<- List.map_dropLast, wZ hj]
     rw [ed]
     refine ⟨⟨j', rfl, ⟨⟨dx3, by rw [zj pa3.nxw]; exact hx3⟩, by rw [zj pa3.ne]; exact pa3.kp, zh, pa3.ne⟩, fun c o e n1 n3 => by rw [zj n3]; exact fr3 c o e n1 n3, by omega, by omega⟩, ?_⟩
     show qw _ wl < qw H3 wl
     rw [ki zh, ki pa3.wd, lj, List.length_map, List.length_take]
     omega
    ·have e' : ¬ (l : Int) < (j : Int) := of_decide_eq_false (Bool.eq_false_iff.mpr e)
     have ej : j = l := by omega
     subst ej
     refine ⟨_, rfl, _, rfl, x, T.S, dx3, _, rfl, hx3, tf.fS.cl, tf.fS.nNumber, (by show 6 < 1000; decide), ?_⟩
     rw [vM]
     have ntx : t ≠ x := xR t1 hx1 (by intro z; cases z)
     have ntw : t ≠ wl := xR t1 pa1.wd (by intro z; cases z)
     refine ⟨_, rfl, t, _, _, _, rfl, rfl, SqT.of (by rw [zj ntx]; exact fr3 _ _ t1 ntx ntw), rfl, ?_⟩
     exact q _ ⟨⟨dx3, zh⟩, by rw [zj pa3.nxk.symm]; exact pa3.kp, by rw [zj pa3.nxw.symm]; exact pa3.wd, pa3.ne⟩ fun c o e n1 n3 => by rw [zj n1]; exact fr3 c o (s1 c o e) n1 n3
   ·rintro σ H3 Q1 Q2 hq ⟨v1, e1, a1, C1, d1, f1, w1, y1, y2, y3, y4, y5, l1, xs1, z1, z2, v2, e2, i, j, x1, x2, k1, x3, h⟩
    exact ⟨v1, e1, a1, C1, d1, f1, w1, y1, y2, y3, y4, y5, l1, xs1, z1, z2, v2, e2, i, j, x1, x2, k1, x3, hq _ _ h⟩
 ·rintro σ H2 Q1 Q2 hq ⟨v0, e0, v1, e1, a1, C1, d1, f1, w1, y1, y2, y3, y4, y5, i, j, x1, x2, k1, x3, h⟩
  exact ⟨v0, e0, v1, e1, a1, C1, d1, f1, w1, y1, y2, y3, y4, y5, i, j, x1, x2, k1, x3, hq _ _ h⟩
abbrev zdz : Stmt := top 66
def Sx60 : zm ["script", "k"] ["script", "k"] (zd zdz) := by walk_at "s"
def Px60 (K : Frag) (T : Cl) (ec : Ec) : Sp := fun vs H Q _ => ∃ (a : Addr) (ns : List Int) (k : Int), vs = [.ref a, .int k] /\ SqL K H a (ns.map V.int) /\ 0 <= k /\ Q (.int (xm ns k)) H
abbrev Yx60 : Prop := Cal P w K mg base 1 "_law_cell_at" ["script", "k"] (Px60 K T ec)
theorem ox60 (D : Def K mg "_law_cell_at" zdz ["script", "k"]) : @Yx60 P w K mg base T ec := by
 refine D.ok Sx60 ?_ (fun _ _ _ _ _ H vs Q E hr h => ?_)
 ·walk_at "l"
 obtain ⟨a, ns, k, rfl, hS, h0, q⟩ := h
 refine ⟨_, (zf (zy (zl xh (pv 1) (zw zC rfl z.len yg (@zg _ _ _ _ _ (pv 0) za rfl)) (zt _)) (ze (zV (zU zK (pv 0) (pv 1) (fun _ _ => rfl)))) zE)
   (ze (zV zb))), ?_⟩
 have hl : (ns.map V.int).length = ns.length := List.length_map _
 refine ⟨_, rfl, _, rfl, a, _, rfl, .inl hS, _, _, rfl, rfl, _, rfl, ?_⟩
 refine zL (fun c => ?_) (fun c => ?_)
 ·have c' : k < ((ns.map V.int).length : Int) := of_decide_eq_true c
  rw [hl] at c'
  exact ⟨_, rfl, _, rfl, a, _, _, _, rfl, rfl, hS, atZ h0 c', _, Less.refl, q⟩
 ·have c' : ¬ k < ((ns.map V.int).length : Int) := of_decide_eq_false (Bool.eq_false_iff.mpr c)
  rw [hl] at c'
  have e : xm ns k = 0 := by
   unfold xm
   rw [List.getD_eq_getElem?_getD, List.getElem?_eq_none (by omega)]
   rfl
  rw [e] at q
  exact ⟨_, Less.refl, q⟩
abbrev zdA : Stmt := top 67
def Sx61 : zm ["e", "first"] ["e"] (zd zdA) := by walk_at "s"
def Px61 (K : Frag) (T : Cl) (ec : Ec) : Addr -> VK -> Hp -> Prop := fun C Q H => ∃ w0 : Nat, w0 < 7 /\ C = ecAt ec w0 /\ ∀ p H', Same H H' -> H' p = some (.lst (qI w0)) -> Q (.ref p) H'
abbrev Yx61 : Prop := CalW P w K mg base 1 "_law_which" (Px61 K T ec)
theorem ox61 (D : Def K mg "_law_which" zdA ["e"]) : @Yx61 P w K mg base T ec := by
 refine D.okW Sx61 (fun _ _ _ _ _ H Q e C t tb hr hp h => ?_)
 obtain ⟨w0, hw, rfl, q⟩ := h
 refine ⟨_, (zf (zx (i := 1) Sx61.nd rfl (Or.inl rfl) (@zD _ _ _ _ (@zg _ _ _ _ _ (zw (yW hp) rfl z.isinstance yu (zc (pv 0) (zc (xN rfl xf.m1) za))) (@zg _ _ _ _ _ (zw (yW hp) rfl z.isinstance yu (zc (pv 0) (zc (xN rfl xf.m2) za))) (@zg _ _ _ _ _ (zw (yW hp) rfl z.isinstance yu (zc (pv 0) (zc (xN rfl xf.m3) za))) (@zg _ _ _ _ _ (zw (yW hp) rfl z.isinstance yu (zc (pv 0) (zc (xN rfl xf.m4) za))) za rfl) rfl) rfl) rfl)))
   (ze (zV (zq zeL (pv 1) (@zD _ _ _ _ (@zg _ _ _ _ _ (zw (yW hp) rfl z.isinstance yu (zc (pv 0) (zc (xN rfl xf.m5) za))) (@zg _ _ _ _ _ (zw (yW hp) rfl z.isinstance yu (zc (pv 0) (zc (xN rfl xf.m6) za))) (@zg _ _ _ _ _ (zw (yW hp) rfl z.isinstance yu (zc (pv 0) (zc (xN rfl xf.m7) za))) (@zg _ _ _ _ _ (zw (zbs hp) rfl z.isinstance yu (zc (pv 0) (zc (zeN rfl z.ValueError vm) za))) za rfl) rfl) rfl) rfl)))))), ?_⟩
 have hw : w0 = 0 \/ w0 = 1 \/ w0 = 2 \/ w0 = 3 \/ w0 = 4 \/ w0 = 5 \/ w0 = 6 := by omega
 rcases hw with rfl | rfl | rfl | rfl | rfl | rfl | rfl
 ·refine ⟨_, rfl, xf.f1, _, _, rfl, xf.k1_1, _, rfl, xf.f1, _, _, rfl, xf.k1_2, _, rfl, xf.f1, _, _, rfl, xf.k1_3, _, rfl, xf.f1, _, _, rfl, xf.k1_4, zl4, fun p1 n1 => ?_⟩
  obtain ⟨H1, q1, s1, e1⟩ := zA n1 [.bl true, .bl false, .bl false, .bl false]
  rw [<- q1]
  refine ⟨_, rfl, _, rfl, xf.f1, _, _, rfl, xf.k1_5, _, rfl, xf.f1, _, _, rfl, xf.k1_6, _, rfl, xf.f1, _, _, rfl, xf.k1_7, _, rfl, xf.f1, _, _, rfl, xf.k1_8, zl4, fun p2 n2 => ?_⟩
  obtain ⟨H2, q2, s2, e2⟩ := zA n2 [.bl false, .bl false, .bl false, .bl true]
  rw [<- q2]
  exact ⟨p1, p2, _, _, rfl, rfl, s2 _ _ e1, e2, zl8, fun p3 n3 => q p3 _ (s1.trans (s2.trans (zB n3))) zh⟩
 ·refine ⟨_, rfl, xf.f2, _, _, rfl, xf.k2_1, _, rfl, xf.f2, _, _, rfl, xf.k2_2, _, rfl, xf.f2, _, _, rfl, xf.k2_3, _, rfl, xf.f2, _, _, rfl, xf.k2_4, zl4, fun p1 n1 => ?_⟩
  obtain ⟨H1, q1, s1, e1⟩ := zA n1 [.bl false, .bl true, .bl false, .bl false]
  rw [<- q1]
  refine ⟨_, rfl, _, rfl, xf.f2, _, _, rfl, xf.k2_5, _, rfl, xf.f2, _, _, rfl, xf.k2_6, _, rfl, xf.f2, _, _, rfl, xf.k2_7, _, rfl, xf.f2, _, _, rfl, xf.k2_8, zl4, fun p2 n2 => ?_⟩
  obtain ⟨H2, q2, s2, e2⟩ := zA n2 [.bl false, .bl false, .bl false, .bl true]
  rw [<- q2]
  exact ⟨p1, p2, _, _, rfl, rfl, s2 _ _ e1, e2, zl8, fun p3 n3 => q p3 _ (s1.trans (s2.trans (zB n3))) zh⟩
 ·refine ⟨_, rfl, xf.f3, _, _, rfl, xf.k3_1, _, rfl, xf.f3, _, _, rfl, xf.k3_2, _, rfl, xf.f3, _, _, rfl, xf.k3_3, _, rfl, xf.f3, _, _, rfl, xf.k3_4, zl4, fun p1 n1 => ?_⟩
  obtain ⟨H1, q1, s1, e1⟩ := zA n1 [.bl false, .bl false, .bl true, .bl false]
  rw [<- q1]
  refine ⟨_, rfl, _, rfl, xf.f3, _, _, rfl, xf.k3_5, _, rfl, xf.f3, _, _, rfl, xf.k3_6, _, rfl, xf.f3, _, _, rfl, xf.k3_7, _, rfl, xf.f3, _, _, rfl, xf.k3_8, zl4, fun p2 n2 => ?_⟩
  obtain ⟨H2, q2, s2, e2⟩ := zA n2 [.bl false, .bl false, .bl false, .bl true]
  rw [<- q2]
  exact ⟨p1, p2, _, _, rfl, rfl, s2 _ _ e1, e2, zl8, fun p3 n3 => q p3 _ (s1.trans (s2.trans (zB n3))) zh⟩
 ·refine ⟨_, rfl, xf.f4, _, _, rfl, xf.k4_1, _, rfl, xf.f4, _, _, rfl, xf.k4_2, _, rfl, xf.f4, _, _, rfl, xf.k4_3, _, rfl, xf.f4, _, _, rfl, xf.k4_4, zl4, fun p1 n1 => ?_⟩
  obtain ⟨H1, q1, s1, e1⟩ := zA n1 [.bl false, .bl false, .bl false, .bl true]
  rw [<- q1]
  refine ⟨_, rfl, _, rfl, xf.f4, _, _, rfl, xf.k4_5, _, rfl, xf.f4, _, _, rfl, xf.k4_6, _, rfl, xf.f4, _, _, rfl, xf.k4_7, _, rfl, xf.f4, _, _, rfl, xf.k4_8, zl4, fun p2 n2 => ?_⟩
  obtain ⟨H2, q2, s2, e2⟩ := zA n2 [.bl false, .bl false, .bl false, .bl true]
  rw [<- q2]
  exact ⟨p1, p2, _, _, rfl, rfl, s2 _ _ e1, e2, zl8, fun p3 n3 => q p3 _ (s1.trans (s2.trans (zB n3))) zh⟩
 ·refine ⟨_, rfl, xf.f5, _, _, rfl, xf.k5_1, _, rfl, xf.f5, _, _, rfl, xf.k5_2, _, rfl, xf.f5, _, _, rfl, xf.k5_3, _, rfl, xf.f5, _, _, rfl, xf.k5_4, zl4, fun p1 n1 => ?_⟩
  obtain ⟨H1, q1, s1, e1⟩ := zA n1 [.bl false, .bl false, .bl false, .bl false]
  rw [<- q1]
  refine ⟨_, rfl, _, rfl, xf.f5, _, _, rfl, xf.k5_5, _, rfl, xf.f5, _, _, rfl, xf.k5_6, _, rfl, xf.f5, _, _, rfl, xf.k5_7, _, rfl, xf.f5, _, _, rfl, xf.k5_8, zl4, fun p2 n2 => ?_⟩
  obtain ⟨H2, q2, s2, e2⟩ := zA n2 [.bl true, .bl false, .bl false, .bl true]
  rw [<- q2]
  exact ⟨p1, p2, _, _, rfl, rfl, s2 _ _ e1, e2, zl8, fun p3 n3 => q p3 _ (s1.trans (s2.trans (zB n3))) zh⟩
 ·refine ⟨_, rfl, xf.f6, _, _, rfl, xf.k6_1, _, rfl, xf.f6, _, _, rfl, xf.k6_2, _, rfl, xf.f6, _, _, rfl, xf.k6_3, _, rfl, xf.f6, _, _, rfl, xf.k6_4, zl4, fun p1 n1 => ?_⟩
  obtain ⟨H1, q1, s1, e1⟩ := zA n1 [.bl false, .bl false, .bl false, .bl false]
  rw [<- q1]
  refine ⟨_, rfl, _, rfl, xf.f6, _, _, rfl, xf.k6_5, _, rfl, xf.f6, _, _, rfl, xf.k6_6, _, rfl, xf.f6, _, _, rfl, xf.k6_7, _, rfl, xf.f6, _, _, rfl, xf.k6_8, zl4, fun p2 n2 => ?_⟩
  obtain ⟨H2, q2, s2, e2⟩ := zA n2 [.bl false, .bl true, .bl false, .bl true]
  rw [<- q2]
  exact ⟨p1, p2, _, _, rfl, rfl, s2 _ _ e1, e2, zl8, fun p3 n3 => q p3 _ (s1.trans (s2.trans (zB n3))) zh⟩
 ·refine ⟨_, rfl, xf.f7, _, _, rfl, xf.k7_1, _, rfl, xf.f7, _, _, rfl, xf.k7_2, _, rfl, xf.f7, _, _, rfl, xf.k7_3, _, rfl, xf.f7, _, _, rfl, xf.k7_4, zl4, fun p1 n1 => ?_⟩
  obtain ⟨H1, q1, s1, e1⟩ := zA n1 [.bl false, .bl false, .bl false, .bl false]
  rw [<- q1]
  refine ⟨_, rfl, _, rfl, xf.f7, _, _, rfl, xf.k7_5, _, rfl, xf.f7, _, _, rfl, xf.k7_6, _, rfl, xf.f7, _, _, rfl, xf.k7_7, _, rfl, xf.f7, _, _, rfl, xf.k7_8, zl4, fun p2 n2 => ?_⟩
  obtain ⟨H2, q2, s2, e2⟩ := zA n2 [.bl false, .bl false, .bl true, .bl true]
  rw [<- q2]
  exact ⟨p1, p2, _, _, rfl, rfl, s2 _ _ e1, e2, zl8, fun p3 n3 => q p3 _ (s1.trans (s2.trans (zB n3))) zh⟩
abbrev zdB : Stmt := top 68
def Sx62 : zm ["cell", "far", "some"] ["cell", "far"] (zd zdB) := by walk_at "s"
def Px62 (K : Frag) (T : Cl) (ec : Ec) : Sp := fun vs H Q _ => ∃ (cell far : Int), vs = [.int cell, .int far] /\ 0 <= far /\ ∀ p (ns : List Int), H p = none -> ¬ GoodC ns -> Q (.ref p) (upd H p (.lst (ns.map V.int)))
abbrev Yx62 : Prop := Cal P w K mg base 1 "_law_bad" ["cell", "far"] (Px62 K T ec)
theorem ox62 (D : Def K mg "_law_bad" zdB ["cell", "far"]) : @Yx62 P w K mg base T ec := by
 refine D.ok Sx62 ?_ (fun _ _ _ _ _ H vs Q E hr h => ?_)
 ·walk_at "l"
 obtain ⟨cell, far, rfl, hf, q⟩ := h
 refine ⟨_, (zf (zx (i := 2) Sx62.nd rfl (Or.inl rfl) (@zD _ _ _ _ (@zg _ _ _ _ _ (@zD _ _ _ _ za) (@zg _ _ _ _ _ (zq wH (@zD _ _ _ _ (@zg _ _ _ _ _ zb za rfl)) zb) (@zg _ _ _ _ _ (@zD _ _ _ _ (@zg _ _ _ _ _ zb (@zg _ _ _ _ _ (zq xz (yG yn zb) (pv 1)) (@zg _ _ _ _ _ zb za rfl) rfl) rfl)) (@zg _ _ _ _ _ (@zD _ _ _ _ (@zg _ _ _ _ _ zb (@zg _ _ _ _ _ (zq z8 zb (pv 1)) za rfl) rfl)) (@zg _ _ _ _ _ (@zD _ _ _ _ (@zg _ _ _ _ _ zb (@zg _ _ _ _ _ zb (@zg _ _ _ _ _ zb za rfl) rfl) rfl)) (@zg _ _ _ _ _ (@zD _ _ _ _ (@zg _ _ _ _ _ zb za rfl)) (@zg _ _ _ _ _ (@zD _ _ _ _ (@zg _ _ _ _ _ zb za rfl)) (@zg _ _ _ _ _ (@zD _ _ _ _ (@zg _ _ _ _ _ zb (@zg _ _ _ _ _ zb (@zg _ _ _ _ _ (zq zbW zb zb) za rfl) rfl) rfl)) za rfl) rfl) rfl) rfl) rfl) rfl) rfl) rfl)))
   (ze (zV (zU zK (pv 2) (zq zR (pv 0) zb) (fun _ _ => rfl))))), ?_⟩
 refine ⟨zl0, fun p1 n1 => ?_⟩
 obtain ⟨H1, q1, s1, e1⟩ := zA n1 []
 rw [<- q1]
 refine ⟨zl1, fun pu nu => ?_⟩
 obtain ⟨Hu, qu, su, eu⟩ := zA nu [.int 1]
 rw [<- qu]
 refine ⟨pu, 101, _, rfl, rfl, eu, by decide, by decide, zfg, fun p2 n2 => ?_⟩
 rw [zff]
 have s2 := zB (u := .lst jJ) n2
 have e2 : (upd Hu p2 (.lst jJ)) p2 = some (.lst jJ) := zh
 generalize upd Hu p2 (.lst jJ) = H2 at s2 e2 |-
 walk_at "r"
 refine ⟨zl3, fun p3 n3 => ?_⟩
 obtain ⟨H3, q3, s3, e3⟩ := zA n3 [.int 3, .int (-1 - far), .int 2]
 rw [<- q3]
 walk_at "r"
 refine ⟨zl2, fun p4 n4 => ?_⟩
 obtain ⟨H4, q4, s4, e4⟩ := zA n4 [.int 1, .int (1000 + far)]
 rw [<- q4]
 refine ⟨zl3, fun p5 n5 => ?_⟩
 obtain ⟨H5, q5, s5, e5⟩ := zA n5 [.int 0, .int 0, .int 0]
 rw [<- q5]
 refine ⟨zl1, fun p6 n6 => ?_⟩
 obtain ⟨H6, q6, s6, e6⟩ := zA n6 [.int 0]
 rw [<- q6]
 refine ⟨zl1, fun p7 n7 => ?_⟩
 obtain ⟨H7, q7, s7, e7⟩ := zA n7 [.int 1000]
 rw [<- q7]
 refine ⟨_, _, rfl, rfl, ⟨by decide, by decide, by decide⟩, ?_⟩
 refine ⟨zl3, fun p8 n8 => ?_⟩
 obtain ⟨H8, q8, s8, e8⟩ := zA n8 [.int 2, .int 0, (fun (i j : Int) => V.int (i ^ j.toNat)) 10 40]
 rw [<- q8]
 refine ⟨zl8, fun p9 n9 => ?_⟩
 obtain ⟨H9, q9, s9, e9⟩ := zA n9 [.ref p1, .ref p2, .ref p3, .ref p4, .ref p5, .ref p6, .ref p7, .ref p8]
 rw [<- q9]
 refine ⟨_, rfl, _, rfl, _, _, rfl, rfl, zi8, ?_⟩
 obtain ⟨y, hy, hc⟩ := at8 (.ref p1) (.ref p2) (.ref p3) (.ref p4) (.ref p5) (.ref p6) (.ref p7) (.ref p8) cell
 have S8 := s9
 have S7 := s8.trans S8
 have S6 := s7.trans S7
 have S5 := s6.trans S6
 have S4 := s5.trans S5
 have S3 := s4.trans S4
 have S2 := s3.trans S3
 have Su := s2.trans S2
 have S1 := su.trans Su
 have sA := s1.trans S1
 have fin : ∀ (p : Addr) (ns : List Int), H p = none -> H9 p = some (.lst (ns.map V.int)) -> ¬ GoodC ns -> ∃ H2, Less H H2 H9 /\ Q (.ref p) H2 := fun p ns h1 h2 h3 => ⟨_, Less.new sA h1 h2 rfl, q p ns h1 h3⟩
 refine ⟨p9, _, _, _, rfl, rfl, SqL.of e9, hy, ?_⟩
 have Tu := s1.trans su
 have T2 := Tu.trans s2
 have T3 := T2.trans s3
 have T4 := T3.trans s4
 have T5 := T4.trans s5
 have T6 := T5.trans s6
 have T7 := T6.trans s7
 rcases hc with rfl | rfl | rfl | rfl | rfl | rfl | rfl | rfl
 ·exact fin p1 [] n1 (S1 _ _ e1) fun g => absurd g.len0 (by decide)
 ·exact fin p2 (List.replicate 101 1) (Tu.free n2) (S2 _ _ e2) zfe
 ·exact fin p3 [3, -1 - far, 2] (T2.free n3) (S3 _ _ e3) fun g => by have := (g.rng (-1 - far) (by simp)).1; omega
 ·exact fin p4 [1, 1000 + far] (T3.free n4) (S4 _ _ e4) fun g => by have := (g.rng (1000 + far) (by simp)).2; omega
 ·exact fin p5 [0, 0, 0] (T4.free n5) (S5 _ _ e5) fun g => absurd g.pos (by decide)
 ·exact fin p6 [0] (T5.free n6) (S6 _ _ e6) fun g => absurd g.pos (by decide)
 ·exact fin p7 [1000] (T6.free n7) (S7 _ _ e7) fun g => absurd (g.rng 1000 (by decide)).2 (by decide)
 ·rw [lst40] at e8
  exact fin p8 [2, 0, 10 ^ 40] (T7.free n8) (S8 _ _ e8) big40
abbrev zdC : Stmt := top 69
def Sx63 : zm ["bad", "way"] ["bad", "way"] (zd zdC) := by walk_at "s"
def Bx63 (K : Frag) (T : Cl) (ec : Ec) : BSp := fun vs H E => ∃ (a : Addr) (ns : List Int) (w : Int), vs = [.ref a, .int w] /\ SqL K H a (ns.map V.int) /\ ¬ GoodC ns /\ E (.ref ec.noShares) none H
abbrev Yx63 : Prop := CalX P w K mg base 6 "_law_by_counts" ["bad", "way"] (fun vs H _ E => Bx63 K T ec vs H E)
theorem ox63 (D : Def K mg "_law_by_counts" zdC ["bad", "way"]) (Cx3 : @Yx3 P w K mg base T ec) (Cx4 : @Yx4 P w K mg base T ec) (Cx5 : @Yx5 P w K mg base T ec) (Cx7 : @Yx7 P w K mg base T ec) (Cx8 : @Yx8 P w K mg base T ec) (Cx9 : @Yx9 P w K mg base T ec) (Cx10 : @Yx10 P w K mg base T ec) (Cx29 : @zdr P w K mg base T ec) (Cx57 : @Yx57 P w K mg base T ec) (Cx49 : @zan P w K mg base T ec) (Cx14 : @zbu P w K mg base T ec) (Cx15 : @Yx15 P w K mg base T ec) : @Yx63 P w K mg base T ec := by
 refine D.okR Sx63 ?_ (fun _ _ _ _ _ H vs E hr h => ?_)
 ·walk_at "l"
 ·obtain ⟨a, ns, w, rfl, hS, ng, q⟩ := h
  refine ⟨_, (ze (zy (zl zH (pv 1) zb (zt _)) (ze (zi (zp (Cx3.up) zr hr rfl (@zg _ _ _ _ _ (pv 0) za rfl)))) (ze (zy (zl zH (pv 1) zb (zt _)) (ze (zi (zp (Cx4.up) zr hr rfl (@zg _ _ _ _ _ (pv 0) (@zg _ _ _ _ _ (yG yn zb) za rfl) rfl)))) (ze (zy (zl zH (pv 1) zb (zt _)) (ze (zi (zp (Cx5.up) zr hr rfl (@zg _ _ _ _ _ (pv 0) (@zg _ _ _ _ _ (yG yn zb) za rfl) rfl)))) (ze (zy (zl zH (pv 1) zb (zt _)) (ze (zi (zp (Cx7.up) zr hr rfl (@zg _ _ _ _ _ (yG yn zb) (@zg _ _ _ _ _ (pv 0) (@zg _ _ _ _ _ zb za rfl) rfl) rfl) (he := zG rfl) (hpl := zM rfl)))) (ze (zy (zl zH (pv 1) zb (zt _)) (ze (zi (zp (Cx8.up) zr hr rfl (@zg _ _ _ _ _ (yG yn zb) (@zg _ _ _ _ _ (pv 0) za rfl) rfl)))) (ze (zy (zl zH (pv 1) zb (zt _)) (ze (zi (zp (Cx9.up) zr hr rfl (@zg _ _ _ _ _ (yG yn zb) (@zg _ _ _ _ _ (pv 0) (@zg _ _ _ _ _ (@zD _ _ _ _ (@zg _ _ _ _ _ zb za rfl)) za rfl) rfl) rfl) (he := zG rfl) (hpl := zM rfl)))) (ze (zy (zl zH (pv 1) zb (zt _)) (ze (zi (zp (Cx10.up) zr hr rfl (@zg _ _ _ _ _ zb (@zg _ _ _ _ _ (pv 0) (@zg _ _ _ _ _ zb za rfl) rfl) rfl) (he := zG rfl) (hpl := zM rfl)))) (ze (zy (zl zH (pv 1) zb (zt _)) (ze (zi (zY (Cx29.up) zr hr rfl (@zg _ _ _ _ _ (pv 0) za rfl)))) (ze (zy (zl zH (pv 1) zb (zt _)) (ze (zi (zY (Cx57.up) zr hr rfl (@zg _ _ _ _ _ (pv 0) (@zg _ _ _ _ _ zb za rfl) rfl)))) (ze (zy (zl zH (pv 1) zb (zt _)) (ze (zi (zY (Cx49.up) zr hr rfl (@zg _ _ _ _ _ (pv 0) za rfl)))) (ze (zy (zl zH (pv 1) zb (zt _)) (ze (zi (zp (Cx14.up) zr hr rfl (@zg _ _ _ _ _ (yG yn zb) (@zg _ _ _ _ _ (@zD _ _ _ _ (@zg _ _ _ _ _ zb za rfl)) (@zg _ _ _ _ _ (@zD _ _ _ _ (@zg _ _ _ _ _ (@zD _ _ _ _ (@zg _ _ _ _ _ zb za rfl)) za rfl)) (@zg _ _ _ _ _ (@zD _ _ _ _ (@zg _ _ _ _ _ (pv 0) za rfl)) (@zg _ _ _ _ _ zb za rfl) rfl) rfl) rfl) rfl) (he := zG rfl) (hpl := zM rfl)))) (ze (zi (zp (Cx15.up) zr hr rfl (@zg _ _ _ _ _ (yG yn zb) (@zg _ _ _ _ _ (@zD _ _ _ _ (@zg _ _ _ _ _ zb (@zg _ _ _ _ _ zb za rfl) rfl)) (@zg _ _ _ _ _ (@zD _ _ _ _ (@zg _ _ _ _ _ (@zD _ _ _ _ (@zg _ _ _ _ _ zb za rfl)) (@zg _ _ _ _ _ (pv 0) za rfl) rfl)) (@zg _ _ _ _ _ (@zD _ _ _ _ (@zg _ _ _ _ _ (@zD _ _ _ _ (@zg _ _ _ _ _ zb (@zg _ _ _ _ _ zb za rfl) rfl)) za rfl)) za rfl) rfl) rfl) rfl) (he := zG rfl) (hpl := zM rfl)))))))))))))))))))))))))), ?_⟩
  refine ⟨_, rfl, rfl, _, rfl, ?_⟩
  refine zL (fun c => ?_) (fun c => ?_)
  ·exact ⟨_, rfl, .inr ⟨a, ns, rfl, hS, ng, _, Less.refl, q⟩⟩
  refine ⟨_, rfl, rfl, _, rfl, ?_⟩
  refine zL (fun c => ?_) (fun c => ?_)
  ·exact ⟨_, rfl, _, rfl, .inr ⟨a, ns, _, rfl, hS, .inl ⟨ng, _, Less.refl, q⟩⟩⟩
  refine ⟨_, rfl, rfl, _, rfl, ?_⟩
  refine zL (fun c => ?_) (fun c => ?_)
  ·exact ⟨_, rfl, _, rfl, .inr ⟨a, ns, _, rfl, hS, .inl ⟨ng, _, Less.refl, q⟩⟩⟩
  refine ⟨_, rfl, rfl, _, rfl, ?_⟩
  refine zL (fun c => ?_) (fun c => ?_)
  ·exact ⟨_, rfl, _, rfl, .inr ⟨_, a, ns, _, rfl, hS, .inl ⟨ng, _, Less.refl, q⟩⟩⟩
  refine ⟨_, rfl, rfl, _, rfl, ?_⟩
  refine zL (fun c => ?_) (fun c => ?_)
  ·exact ⟨_, rfl, _, rfl, .inr ⟨_, a, ns, rfl, hS, .inl ⟨ng, _, Less.refl, q⟩⟩⟩
  refine ⟨_, rfl, rfl, _, rfl, ?_⟩
  refine zL (fun c => ?_) (fun c => ?_)
  ·refine ⟨_, rfl, _, rfl, zl1, fun p1 n1 => ?_⟩
   obtain ⟨H1, q1, s1, e1⟩ := zA n1 [.int 0]
   rw [<- q1]
   exact .inr ⟨_, a, ns, p1, [0], rfl, s1.seq hS, SqL.of e1, .inl ⟨ng, _, Less.same s1, q⟩⟩
  refine ⟨_, rfl, rfl, _, rfl, ?_⟩
  refine zL (fun c => ?_) (fun c => ?_)
  ·exact ⟨_, rfl, .inr ⟨_, a, ns, _, rfl, hS, .inl ⟨ng, _, Less.refl, q⟩⟩⟩
  refine ⟨_, rfl, rfl, _, rfl, ?_⟩
  refine zL (fun c => ?_) (fun c => ?_)
  ·exact ⟨_, rfl, .inr ⟨a, ns, rfl, hS, ng, fun H' sm => ⟨_, Less.same sm, q⟩⟩⟩
  refine ⟨_, rfl, rfl, _, rfl, ?_⟩
  refine zL (fun c => ?_) (fun c => ?_)
  ·exact ⟨_, rfl, .inr ⟨a, ns, _, rfl, hS, fun z => ng z.1, fun H' sm => ⟨_, Less.same sm, q⟩⟩⟩
  refine ⟨_, rfl, rfl, _, rfl, ?_⟩
  refine zL (fun c => ?_) (fun c => ?_)
  ·exact ⟨_, rfl, .inr ⟨a, ns, rfl, hS, ng, fun H' sm => ⟨_, Less.same sm, q⟩⟩⟩
  refine ⟨_, rfl, rfl, _, rfl, ?_⟩
  refine zL (fun c => ?_) (fun c => ?_)
  ·refine ⟨_, rfl, zl1, fun p1 n1 => ?_⟩
   obtain ⟨H1, q1, s1, e1⟩ := zA n1 [.int 1]
   rw [<- q1]
   refine ⟨zl1, fun p2 n2 => ?_⟩
   obtain ⟨H2, q2, s2, e2⟩ := zA n2 [.int 1]
   rw [<- q2]
   refine ⟨zl1, fun p3 n3 => ?_⟩
   obtain ⟨H3, q3, s3, e3⟩ := zA n3 [.ref p2]
   rw [<- q3]
   refine ⟨_, rfl, zl1, fun p4 n4 => ?_⟩
   obtain ⟨H4, q4, s4, e4⟩ := zA n4 [.ref a]
   rw [<- q4]
   exact ⟨_, _, p1, p3, p4, [p2], [a], [1], [[1]], [ns], rfl, SqL.of ((s2.trans (s3.trans (s4))) _ _ e1), TabL.one ((s4) _ _ e3) (SqL.of ((s3.trans (s4)) _ _ e2)), TabL.one e4 (Same.seq (s1.trans (s2.trans (s3.trans (s4)))) hS), .inl ⟨fun t => ng (t.br 0 (Nat.zero_lt_succ _)).1.g, _, Less.same (s1.trans (s2.trans (s3.trans (s4)))), q⟩⟩
  refine ⟨_, rfl, zl2, fun p1 n1 => ?_⟩
  obtain ⟨H1, q1, s1, e1⟩ := zA n1 [.int 1, .int 2]
  rw [<- q1]
  refine ⟨zl1, fun p2 n2 => ?_⟩
  obtain ⟨H2, q2, s2, e2⟩ := zA n2 [.int 1]
  rw [<- q2]
  refine ⟨_, rfl, zl2, fun p3 n3 => ?_⟩
  obtain ⟨H3, q3, s3, e3⟩ := zA n3 [.ref p2, .ref a]
  rw [<- q3]
  refine ⟨zl2, fun p4 n4 => ?_⟩
  obtain ⟨H4, q4, s4, e4⟩ := zA n4 [.int 1, .int 1]
  rw [<- q4]
  refine ⟨zl1, fun p5 n5 => ?_⟩
  obtain ⟨H5, q5, s5, e5⟩ := zA n5 [.ref p4]
  rw [<- q5]
  exact ⟨_, p1, p3, p5, [p2, a], [p4], [1, 2], [[1], ns], [[1, 1]], rfl, SqL.of ((s2.trans (s3.trans (s4.trans (s5)))) _ _ e1), TabL.two ((s4.trans (s5)) _ _ e3) (SqL.of ((s3.trans (s4.trans (s5))) _ _ e2)) (Same.seq (s1.trans (s2.trans (s3.trans (s4.trans (s5))))) hS), TabL.one e5 (SqL.of ((s5) _ _ e4)), fun t => ng (t.gr 1 (Nat.lt_succ_self 1)).1.g, _, Less.same (s1.trans (s2.trans (s3.trans (s4.trans (s5))))), q⟩
abbrev zdD : Stmt := top 70
def Sx64 : zm ["way", "cell", "far"] ["way", "cell", "far"] (zd zdD) := by walk_at "s"
def Bx64 (K : Frag) (T : Cl) (ec : Ec) : BSp := fun vs H E => ∃ (w cell far : Int), vs = [.int w, .int cell, .int far] /\ 0 <= far /\ E (.ref ec.noShares) none H
abbrev Yx64 : Prop := CalX P w K mg base 6 "_law_more_shares" ["way", "cell", "far"] (fun vs H _ E => Bx64 K T ec vs H E)
theorem ox64 (D : Def K mg "_law_more_shares" zdD ["way", "cell", "far"]) (Cx14 : @zbu P w K mg base T ec) (Cx15 : @Yx15 P w K mg base T ec) (Cx34 : @zds P w K mg base T ec) (Cx40 : @Yx40 P w K mg base T ec) : @Yx64 P w K mg base T ec := by
 refine D.okR Sx64 ?_ (fun _ _ _ _ _ H vs E hr h => ?_)
 ·walk_at "l"
 ·obtain ⟨w, cell, far, rfl, hf, q⟩ := h
  refine ⟨_, (ze (zy (zl zH (pv 0) zb (zt _)) (ze (zi (zp (Cx14.up) zr hr rfl (@zg _ _ _ _ _ zb (@zg _ _ _ _ _ (@zD _ _ _ _ (@zg _ _ _ _ _ zb (@zg _ _ _ _ _ zb za rfl) rfl)) (@zg _ _ _ _ _ (@zD _ _ _ _ (@zg _ _ _ _ _ (@zD _ _ _ _ (@zg _ _ _ _ _ zb (@zg _ _ _ _ _ zb za rfl) rfl)) (@zg _ _ _ _ _ (@zD _ _ _ _ (@zg _ _ _ _ _ zb (@zg _ _ _ _ _ zb za rfl) rfl)) za rfl) rfl)) (@zg _ _ _ _ _ (@zD _ _ _ _ (@zg _ _ _ _ _ (@zD _ _ _ _ (@zg _ _ _ _ _ zb (@zg _ _ _ _ _ zb za rfl) rfl)) (@zg _ _ _ _ _ (@zD _ _ _ _ (@zg _ _ _ _ _ zb (@zg _ _ _ _ _ zb za rfl) rfl)) za rfl) rfl)) (@zg _ _ _ _ _ zb za rfl) rfl) rfl) rfl) rfl) (he := zG rfl) (hpl := zM rfl)))) (ze (zy (zl zH (pv 0) zb (zt _)) (ze (zi (zp (Cx15.up) zr hr rfl (@zg _ _ _ _ _ zb (@zg _ _ _ _ _ (zU zK (@zD _ _ _ _ (@zg _ _ _ _ _ (@zD _ _ _ _ za) (@zg _ _ _ _ _ (@zD _ _ _ _ (@zg _ _ _ _ _ zb (@zg _ _ _ _ _ zb (@zg _ _ _ _ _ zb za rfl) rfl) rfl)) za rfl) rfl)) (zq zR (pv 1) zb) (fun _ _ => rfl)) (@zg _ _ _ _ _ (@zD _ _ _ _ (@zg _ _ _ _ _ (@zD _ _ _ _ (@zg _ _ _ _ _ zb (@zg _ _ _ _ _ zb za rfl) rfl)) (@zg _ _ _ _ _ (@zD _ _ _ _ (@zg _ _ _ _ _ zb (@zg _ _ _ _ _ zb za rfl) rfl)) za rfl) rfl)) (@zg _ _ _ _ _ (@zD _ _ _ _ (@zg _ _ _ _ _ (@zD _ _ _ _ (@zg _ _ _ _ _ zb (@zg _ _ _ _ _ zb za rfl) rfl)) (@zg _ _ _ _ _ (@zD _ _ _ _ (@zg _ _ _ _ _ zb (@zg _ _ _ _ _ zb za rfl) rfl)) za rfl) rfl)) za rfl) rfl) rfl) rfl) (he := zG rfl) (hpl := zM rfl)))) (ze (zy (zl zH (pv 0) zb (zt _)) (ze (zi (zp (Cx15.up) zr hr rfl (@zg _ _ _ _ _ zb (@zg _ _ _ _ _ (@zD _ _ _ _ (@zg _ _ _ _ _ zb (@zg _ _ _ _ _ zb za rfl) rfl)) (@zg _ _ _ _ _ (@zD _ _ _ _ (@zg _ _ _ _ _ (@zD _ _ _ _ (@zg _ _ _ _ _ zb (@zg _ _ _ _ _ zb za rfl) rfl)) (@zg _ _ _ _ _ (@zD _ _ _ _ (@zg _ _ _ _ _ zb (@zg _ _ _ _ _ zb za rfl) rfl)) za rfl) rfl)) (@zg _ _ _ _ _ (@zD _ _ _ _ (@zg _ _ _ _ _ (@zD _ _ _ _ (@zg _ _ _ _ _ zb (@zg _ _ _ _ _ zb za rfl) rfl)) (@zg _ _ _ _ _ (@zD _ _ _ _ (@zg _ _ _ _ _ zb (@zg _ _ _ _ _ zb za rfl) rfl)) za rfl) rfl)) za rfl) rfl) rfl) rfl) (he := zG rfl) (hpl := zM rfl)))) (ze (zy (zl zH (zq zR (pv 1) zb) zb (zt _)) (ze (zi (zY (Cx34.up) zr hr rfl (@zg _ _ _ _ _ zb (@zg _ _ _ _ _ (zU zK (@zD _ _ _ _ (@zg _ _ _ _ _ zb (@zg _ _ _ _ _ (zq z8 zb (pv 2)) (@zg _ _ _ _ _ (yG yn (pv 2)) za rfl) rfl) rfl)) (zq zR (zq yi (pv 1) zb) zb) (fun _ _ => rfl)) za rfl) rfl)))) (ze (zi (zY (Cx40.up) zr hr rfl (@zg _ _ _ _ _ (zU zK (@zD _ _ _ _ (@zg _ _ _ _ _ zb (@zg _ _ _ _ _ (zq z8 zb (pv 2)) (@zg _ _ _ _ _ (yG yn (pv 2)) za rfl) rfl) rfl)) (zq zR (zq yi (pv 1) zb) zb) (fun _ _ => rfl)) (@zg _ _ _ _ _ zb za rfl) rfl)))))))))))), ?_⟩
  refine ⟨_, rfl, rfl, _, rfl, ?_⟩
  refine zL (fun c => ?_) (fun c => ?_)
  ·refine ⟨zl2, fun p1 n1 => ?_⟩
   obtain ⟨H1, q1, s1, e1⟩ := zA n1 [.int 1, .int 0]
   rw [<- q1]
   refine ⟨zl2, fun p2 n2 => ?_⟩
   obtain ⟨H2, q2, s2, e2⟩ := zA n2 [.int 1, .int 1]
   rw [<- q2]
   refine ⟨zl2, fun p3 n3 => ?_⟩
   obtain ⟨H3, q3, s3, e3⟩ := zA n3 [.int 1, .int 1]
   rw [<- q3]
   refine ⟨zl2, fun p4 n4 => ?_⟩
   obtain ⟨H4, q4, s4, e4⟩ := zA n4 [.ref p2, .ref p3]
   rw [<- q4]
   refine ⟨zl2, fun p5 n5 => ?_⟩
   obtain ⟨H5, q5, s5, e5⟩ := zA n5 [.int 1, .int 1]
   rw [<- q5]
   refine ⟨zl2, fun p6 n6 => ?_⟩
   obtain ⟨H6, q6, s6, e6⟩ := zA n6 [.int 1, .int 1]
   rw [<- q6]
   refine ⟨zl2, fun p7 n7 => ?_⟩
   obtain ⟨H7, q7, s7, e7⟩ := zA n7 [.ref p5, .ref p6]
   rw [<- q7]
   exact ⟨_, _, p1, p4, p7, [p2, p3], [p5, p6], [1, 0], [[1, 1], [1, 1]], [[1, 1], [1, 1]], rfl, SqL.of ((s2.trans (s3.trans (s4.trans (s5.trans (s6.trans (s7)))))) _ _ e1), TabL.two ((s5.trans (s6.trans (s7))) _ _ e4) (SqL.of ((s3.trans (s4.trans (s5.trans (s6.trans (s7))))) _ _ e2)) (SqL.of ((s4.trans (s5.trans (s6.trans (s7)))) _ _ e3)), TabL.two e7 (SqL.of ((s6.trans (s7)) _ _ e5)) (SqL.of ((s7) _ _ e6)), .inl ⟨fun t => absurd (t.p.one 0 (by decide)) (by decide), _, Less.same (s1.trans (s2.trans (s3.trans (s4.trans (s5.trans (s6.trans (s7))))))), q⟩⟩
  refine ⟨_, rfl, rfl, _, rfl, ?_⟩
  refine zL (fun c => ?_) (fun c => ?_)
  ·refine ⟨zl0, fun p1 n1 => ?_⟩
   obtain ⟨H1, q1, s1, e1⟩ := zA n1 []
   rw [<- q1]
   refine ⟨zl3, fun p2 n2 => ?_⟩
   obtain ⟨H2, q2, s2, e2⟩ := zA n2 [.int 2, .int 0, .int 1]
   rw [<- q2]
   refine ⟨zl2, fun p3 n3 => ?_⟩
   obtain ⟨H3, q3, s3, e3⟩ := zA n3 [.ref p1, .ref p2]
   rw [<- q3]
   obtain ⟨y, hv, hc⟩ := at2 (.ref p1) (.ref p2) cell
   refine ⟨_, rfl, _, _, rfl, rfl, zi2, p3, _, _, _, rfl, rfl, SqL.of e3, hv, zl2, fun p4 n4 => ?_⟩
   obtain ⟨H4, q4, s4, e4⟩ := zA n4 [.int 1, .int 1]
   rw [<- q4]
   refine ⟨zl2, fun p5 n5 => ?_⟩
   obtain ⟨H5, q5, s5, e5⟩ := zA n5 [.int 1, .int 1]
   rw [<- q5]
   refine ⟨zl2, fun p6 n6 => ?_⟩
   obtain ⟨H6, q6, s6, e6⟩ := zA n6 [.ref p4, .ref p5]
   rw [<- q6]
   refine ⟨zl2, fun p7 n7 => ?_⟩
   obtain ⟨H7, q7, s7, e7⟩ := zA n7 [.int 1, .int 1]
   rw [<- q7]
   refine ⟨zl2, fun p8 n8 => ?_⟩
   obtain ⟨H8, q8, s8, e8⟩ := zA n8 [.int 1, .int 1]
   rw [<- q8]
   refine ⟨zl2, fun p9 n9 => ?_⟩
   obtain ⟨H9, q9, s9, e9⟩ := zA n9 [.ref p7, .ref p8]
   rw [<- q9]
   rcases hc with rfl | rfl
   ·exact ⟨_, p1, p6, p9, [p4, p5], [p7, p8], [], [[1, 1], [1, 1]], [[1, 1], [1, 1]], rfl, SqL.of ((s2.trans (s3.trans (s4.trans (s5.trans (s6.trans (s7.trans (s8.trans (s9)))))))) _ _ e1), TabL.two ((s7.trans (s8.trans (s9))) _ _ e6) (SqL.of ((s5.trans (s6.trans (s7.trans (s8.trans (s9))))) _ _ e4)) (SqL.of ((s6.trans (s7.trans (s8.trans (s9)))) _ _ e5)), TabL.two e9 (SqL.of ((s8.trans (s9)) _ _ e7)) (SqL.of ((s9) _ _ e8)), fun t => absurd t.p.g.len0 (by decide), _, Less.same (s1.trans (s2.trans (s3.trans (s4.trans (s5.trans (s6.trans (s7.trans (s8.trans (s9))))))))), q⟩
   ·exact ⟨_, p2, p6, p9, [p4, p5], [p7, p8], [2, 0, 1], [[1, 1], [1, 1]], [[1, 1], [1, 1]], rfl, SqL.of ((s3.trans (s4.trans (s5.trans (s6.trans (s7.trans (s8.trans (s9))))))) _ _ e2), TabL.two ((s7.trans (s8.trans (s9))) _ _ e6) (SqL.of ((s5.trans (s6.trans (s7.trans (s8.trans (s9))))) _ _ e4)) (SqL.of ((s6.trans (s7.trans (s8.trans (s9)))) _ _ e5)), TabL.two e9 (SqL.of ((s8.trans (s9)) _ _ e7)) (SqL.of ((s9) _ _ e8)), fun t => absurd (t.p.one 0 (by decide)) (by decide), _, Less.same (s1.trans (s2.trans (s3.trans (s4.trans (s5.trans (s6.trans (s7.trans (s8.trans (s9))))))))), q⟩
  refine ⟨_, rfl, rfl, _, rfl, ?_⟩
  refine zL (fun c => ?_) (fun c => ?_)
  ·refine ⟨zl2, fun p1 n1 => ?_⟩
   obtain ⟨H1, q1, s1, e1⟩ := zA n1 [.int 1, .int 2]
   rw [<- q1]
   refine ⟨zl2, fun p2 n2 => ?_⟩
   obtain ⟨H2, q2, s2, e2⟩ := zA n2 [.int 1, .int 1]
   rw [<- q2]
   refine ⟨zl2, fun p3 n3 => ?_⟩
   obtain ⟨H3, q3, s3, e3⟩ := zA n3 [.int 1, .int 1]
   rw [<- q3]
   refine ⟨zl2, fun p4 n4 => ?_⟩
   obtain ⟨H4, q4, s4, e4⟩ := zA n4 [.ref p2, .ref p3]
   rw [<- q4]
   refine ⟨zl2, fun p5 n5 => ?_⟩
   obtain ⟨H5, q5, s5, e5⟩ := zA n5 [.int 1, .int 0]
   rw [<- q5]
   refine ⟨zl2, fun p6 n6 => ?_⟩
   obtain ⟨H6, q6, s6, e6⟩ := zA n6 [.int 1, .int 1]
   rw [<- q6]
   refine ⟨zl2, fun p7 n7 => ?_⟩
   obtain ⟨H7, q7, s7, e7⟩ := zA n7 [.ref p5, .ref p6]
   rw [<- q7]
   exact ⟨_, p1, p4, p7, [p2, p3], [p5, p6], [1, 2], [[1, 1], [1, 1]], [[1, 0], [1, 1]], rfl, SqL.of ((s2.trans (s3.trans (s4.trans (s5.trans (s6.trans (s7)))))) _ _ e1), TabL.two ((s5.trans (s6.trans (s7))) _ _ e4) (SqL.of ((s3.trans (s4.trans (s5.trans (s6.trans (s7))))) _ _ e2)) (SqL.of ((s4.trans (s5.trans (s6.trans (s7)))) _ _ e3)), TabL.two e7 (SqL.of ((s6.trans (s7)) _ _ e5)) (SqL.of ((s7) _ _ e6)), fun t => absurd ((t.br 0 (by decide)).1.one 0 (by decide)) (by decide), _, Less.same (s1.trans (s2.trans (s3.trans (s4.trans (s5.trans (s6.trans (s7))))))), q⟩
  refine ⟨_, rfl, _, _, rfl, rfl, zi2, rfl, _, rfl, ?_⟩
  refine zL (fun c => ?_) (fun c => ?_)
  ·obtain ⟨v, hv, hc⟩ := qK (0) (10 + far) (-far) (cell / 2)
   refine ⟨_, rfl, _, _, rfl, rfl, _, rfl, _, rfl, zl3, fun p1 n1 => ?_⟩
   obtain ⟨H1, q1, s1, e1⟩ := zA n1 [.int (0), .int (10 + far), .int (-far)]
   rw [<- q1]
   exact ⟨_, rfl, _, _, rfl, rfl, ⟨by decide, by decide⟩, _, _, rfl, rfl, zi3, p1, _, _, _, rfl, rfl, SqL.of e1, hv, .inr ⟨3, v, rfl, fun z => by omega, fun H' sm => ⟨_, Less.same ((s1).trans sm), q⟩⟩⟩
  ·obtain ⟨v, hv, hc⟩ := qK (0) (101 + far) (-far) (cell / 2)
   refine ⟨_, rfl, _, _, rfl, rfl, _, rfl, _, rfl, zl3, fun p1 n1 => ?_⟩
   obtain ⟨H1, q1, s1, e1⟩ := zA n1 [.int (0), .int (101 + far), .int (-far)]
   rw [<- q1]
   exact ⟨_, rfl, _, _, rfl, rfl, ⟨by decide, by decide⟩, _, _, rfl, rfl, zi3, p1, _, _, _, rfl, rfl, SqL.of e1, hv, .inr ⟨v, 2, rfl, fun z => by omega, fun H' sm => ⟨_, Less.same ((s1).trans sm), q⟩⟩⟩
abbrev zdE : Stmt := top 71
def Sx65 : zm ["cell", "far", "way"] ["cell", "far"] (zd zdE) := by walk_at "s"
def Bx65 (K : Frag) (T : Cl) (ec : Ec) : BSp := fun vs H E => ∃ (cell far : Int), vs = [.int cell, .int far] /\ 0 <= far /\ E (.ref ec.noShares) none H
abbrev Yx65 : Prop := CalX P w K mg base 7 "_law_no_shares" ["cell", "far"] (fun vs H _ E => Bx65 K T ec vs H E)
theorem ox65 (D : Def K mg "_law_no_shares" zdE ["cell", "far"]) (Cx63 : @Yx63 P w K mg base T ec) (Cx62 : @Yx62 P w K mg base T ec) (Cx34 : @zds P w K mg base T ec) (Cx40 : @Yx40 P w K mg base T ec) (Cx57 : @Yx57 P w K mg base T ec) (Cx56 : @Yx56 P w K mg base T ec) (Cx14 : @zbu P w K mg base T ec) (Cx15 : @Yx15 P w K mg base T ec) (Cx64 : @Yx64 P w K mg base T ec) : @Yx65 P w K mg base T ec := by
 refine D.okR Sx65 ?_ (fun _ _ _ _ _ H vs E hr h => ?_)
 ·walk_at "l"
 ·obtain ⟨cell, far, rfl, hf, q⟩ := h
  refine ⟨_, (zf (zx (i := 2) Sx65.nd rfl (Or.inl rfl) (zq zR (zq yi (pv 0) zb) zb))
   (ze (zy (zl xh (pv 2) zb (zt _)) (ze (zi (zp (Cx63.up) zr hr rfl (@zg _ _ _ _ _ (zN (Cx62.up) hr rfl (@zg _ _ _ _ _ (pv 0) (@zg _ _ _ _ _ (pv 1) za rfl) rfl)) (@zg _ _ _ _ _ (pv 2) za rfl) rfl)))) (ze (zy (zl zH (pv 2) zb (zt _)) (ze (zi (zY (Cx34.up) zr hr rfl (@zg _ _ _ _ _ (zU zK (@zD _ _ _ _ (@zg _ _ _ _ _ zb (@zg _ _ _ _ _ (zq z8 zb (pv 1)) (@zg _ _ _ _ _ (yG yn (pv 1)) za rfl) rfl) rfl)) (zq zR (pv 0) zb) (fun _ _ => rfl)) (@zg _ _ _ _ _ zb za rfl) rfl)))) (ze (zy (zl zH (pv 2) zb (zt _)) (ze (zi (zY (Cx40.up) zr hr rfl (@zg _ _ _ _ _ zb (@zg _ _ _ _ _ (zU zK (@zD _ _ _ _ (@zg _ _ _ _ _ zb (@zg _ _ _ _ _ (zq z8 zb (pv 1)) (@zg _ _ _ _ _ (yG yn (pv 1)) za rfl) rfl) rfl)) (zq zR (pv 0) zb) (fun _ _ => rfl)) za rfl) rfl)))) (ze (zy (zl zH (pv 2) zb (zt _)) (ze (zi (zY (Cx57.up) zr hr rfl (@zg _ _ _ _ _ (@zD _ _ _ _ (@zg _ _ _ _ _ zb (@zg _ _ _ _ _ zb za rfl) rfl)) (@zg _ _ _ _ _ (zU zK (@zD _ _ _ _ (@zg _ _ _ _ _ zb (@zg _ _ _ _ _ (zq z8 zb (pv 1)) (@zg _ _ _ _ _ (yG yn (pv 1)) za rfl) rfl) rfl)) (zq zR (pv 0) zb) (fun _ _ => rfl)) za rfl) rfl)))) (ze (zy (zl zH (pv 2) zb (zt _)) (ze (zi (zY (Cx56.up) zr hr rfl (@zg _ _ _ _ _ (@zD _ _ _ _ (@zg _ _ _ _ _ zb (@zg _ _ _ _ _ zb za rfl) rfl)) (@zg _ _ _ _ _ zb (@zg _ _ _ _ _ (zU zK (@zD _ _ _ _ (@zg _ _ _ _ _ zb (@zg _ _ _ _ _ (zq z8 zb (pv 1)) (@zg _ _ _ _ _ (yG yn (pv 1)) za rfl) rfl) rfl)) (zq zR (pv 0) zb) (fun _ _ => rfl)) za rfl) rfl) rfl) (he := zG rfl) (hpl := zM rfl)))) (ze (zy (zl zH (pv 2) zb (zt _)) (ze (zi (zp (Cx14.up) zr hr rfl (@zg _ _ _ _ _ zb (@zg _ _ _ _ _ (@zD _ _ _ _ (@zg _ _ _ _ _ zb (@zg _ _ _ _ _ zb za rfl) rfl)) (@zg _ _ _ _ _ (@zD _ _ _ _ (@zg _ _ _ _ _ (@zD _ _ _ _ (@zg _ _ _ _ _ zb (@zg _ _ _ _ _ zb za rfl) rfl)) za rfl)) (@zg _ _ _ _ _ (@zD _ _ _ _ (@zg _ _ _ _ _ (@zD _ _ _ _ (@zg _ _ _ _ _ zb (@zg _ _ _ _ _ zb za rfl) rfl)) (@zg _ _ _ _ _ (@zD _ _ _ _ (@zg _ _ _ _ _ zb (@zg _ _ _ _ _ zb za rfl) rfl)) za rfl) rfl)) (@zg _ _ _ _ _ zb za rfl) rfl) rfl) rfl) rfl) (he := zG rfl) (hpl := zM rfl)))) (ze (zy (zl zH (pv 2) zb (zt _)) (ze (zi (zp (Cx14.up) zr hr rfl (@zg _ _ _ _ _ (yG yn zb) (@zg _ _ _ _ _ (@zD _ _ _ _ (@zg _ _ _ _ _ zb (@zg _ _ _ _ _ zb za rfl) rfl)) (@zg _ _ _ _ _ (@zD _ _ _ _ (@zg _ _ _ _ _ (@zD _ _ _ _ (@zg _ _ _ _ _ zb (@zg _ _ _ _ _ zb za rfl) rfl)) (@zg _ _ _ _ _ (@zD _ _ _ _ (@zg _ _ _ _ _ zb za rfl)) za rfl) rfl)) (@zg _ _ _ _ _ (@zD _ _ _ _ (@zg _ _ _ _ _ (@zD _ _ _ _ (@zg _ _ _ _ _ zb (@zg _ _ _ _ _ zb za rfl) rfl)) (@zg _ _ _ _ _ (@zD _ _ _ _ (@zg _ _ _ _ _ zb (@zg _ _ _ _ _ zb za rfl) rfl)) za rfl) rfl)) (@zg _ _ _ _ _ zb za rfl) rfl) rfl) rfl) rfl) (he := zG rfl) (hpl := zM rfl)))) (ze (zy (zl zH (pv 2) zb (zt _)) (ze (zi (zp (Cx15.up) zr hr rfl (@zg _ _ _ _ _ zb (@zg _ _ _ _ _ (@zD _ _ _ _ (@zg _ _ _ _ _ zb (@zg _ _ _ _ _ zb za rfl) rfl)) (@zg _ _ _ _ _ (@zD _ _ _ _ (@zg _ _ _ _ _ (@zD _ _ _ _ (@zg _ _ _ _ _ zb (@zg _ _ _ _ _ zb za rfl) rfl)) (@zg _ _ _ _ _ (@zD _ _ _ _ (@zg _ _ _ _ _ zb (@zg _ _ _ _ _ zb za rfl) rfl)) za rfl) rfl)) (@zg _ _ _ _ _ (@zD _ _ _ _ (@zg _ _ _ _ _ (@zD _ _ _ _ (@zg _ _ _ _ _ zb (@zg _ _ _ _ _ zb za rfl) rfl)) (@zg _ _ _ _ _ (@zD _ _ _ _ (@zg _ _ _ _ _ zb (@zg _ _ _ _ _ zb za rfl) rfl)) za rfl) rfl)) za rfl) rfl) rfl) rfl) (he := zG rfl) (hpl := zM rfl)))) (ze (zy (zl zH (pv 2) zb (zt _)) (ze (zi (zp (Cx15.up) zr hr rfl (@zg _ _ _ _ _ zb (@zg _ _ _ _ _ (@zD _ _ _ _ (@zg _ _ _ _ _ zb (@zg _ _ _ _ _ zb za rfl) rfl)) (@zg _ _ _ _ _ (@zD _ _ _ _ (@zg _ _ _ _ _ (@zD _ _ _ _ (@zg _ _ _ _ _ zb (@zg _ _ _ _ _ zb za rfl) rfl)) (@zg _ _ _ _ _ (@zD _ _ _ _ (@zg _ _ _ _ _ zb (@zg _ _ _ _ _ zb za rfl) rfl)) za rfl) rfl)) (@zg _ _ _ _ _ (@zD _ _ _ _ (@zg _ _ _ _ _ (@zD _ _ _ _ (@zg _ _ _ _ _ zb (@zg _ _ _ _ _ zb za rfl) rfl)) (@zg _ _ _ _ _ (@zD _ _ _ _ (@zg _ _ _ _ _ zb (@zg _ _ _ _ _ zb (@zg _ _ _ _ _ zb za rfl) rfl) rfl)) za rfl) rfl)) za rfl) rfl) rfl) rfl) (he := zG rfl) (hpl := zM rfl)))) (ze (zi (zp (Cx64.up) zr hr rfl (@zg _ _ _ _ _ (pv 2) (@zg _ _ _ _ _ (pv 0) (@zg _ _ _ _ _ (pv 1) za rfl) rfl) rfl) (he := zG rfl) (hpl := zM rfl))))))))))))))))))))))), ?_⟩
  refine ⟨_, rfl, _, _, rfl, rfl, ⟨by decide, by decide⟩, _, _, rfl, rfl, zi24, ?_⟩
  refine ⟨_, rfl, _, _, rfl, rfl, _, rfl, ?_⟩
  refine zL (fun c => ?_) (fun c => ?_)
  ·exact ⟨_, rfl, _, rfl, cell, far, rfl, hf, fun p ns hp ng => ⟨_, rfl, p, ns, _, rfl, SqL.of zh, ng, _, Less.same (zB hp), q⟩⟩
  refine ⟨_, rfl, rfl, _, rfl, ?_⟩
  refine zL (fun c => ?_) (fun c => ?_)
  ·obtain ⟨v, hv, hc⟩ := qK (0) (101 + far) (-far) (cell)
   refine ⟨_, rfl, _, _, rfl, rfl, _, rfl, _, rfl, zl3, fun p1 n1 => ?_⟩
   obtain ⟨H1, q1, s1, e1⟩ := zA n1 [.int (0), .int (101 + far), .int (-far)]
   rw [<- q1]
   exact ⟨_, rfl, _, _, rfl, rfl, zi3, p1, _, _, _, rfl, rfl, SqL.of e1, hv, .inr ⟨v, 1, rfl, fun z => by omega, fun H' sm => ⟨_, Less.same ((s1).trans sm), q⟩⟩⟩
  refine ⟨_, rfl, rfl, _, rfl, ?_⟩
  refine zL (fun c => ?_) (fun c => ?_)
  ·obtain ⟨v, hv, hc⟩ := qK (0) (10 + far) (-far) (cell)
   refine ⟨_, rfl, _, _, rfl, rfl, _, rfl, _, rfl, zl3, fun p1 n1 => ?_⟩
   obtain ⟨H1, q1, s1, e1⟩ := zA n1 [.int (0), .int (10 + far), .int (-far)]
   rw [<- q1]
   exact ⟨_, rfl, _, _, rfl, rfl, zi3, p1, _, _, _, rfl, rfl, SqL.of e1, hv, .inr ⟨3, v, rfl, fun z => by omega, fun H' sm => ⟨_, Less.same ((s1).trans sm), q⟩⟩⟩
  refine ⟨_, rfl, rfl, _, rfl, ?_⟩
  refine zL (fun c => ?_) (fun c => ?_)
  ·obtain ⟨v, hv, hc⟩ := qK (1) (1001 + far) (-far) (cell)
   refine ⟨zl2, fun p1 n1 => ?_⟩
   obtain ⟨H1, q1, s1, e1⟩ := zA n1 [.int 1, .int 2]
   rw [<- q1]
   refine ⟨_, rfl, _, _, rfl, rfl, _, rfl, _, rfl, zl3, fun p2 n2 => ?_⟩
   obtain ⟨H2, q2, s2, e2⟩ := zA n2 [.int (1), .int (1001 + far), .int (-far)]
   rw [<- q2]
   exact ⟨_, rfl, _, _, rfl, rfl, zi3, p2, _, _, _, rfl, rfl, SqL.of e2, hv, .inr ⟨p1, [1, 2], v, rfl, SqL.of ((s2) _ _ e1), fun z => by omega, fun H' sm => ⟨_, Less.same ((s1.trans (s2)).trans sm), q⟩⟩⟩
  refine ⟨_, rfl, rfl, _, rfl, ?_⟩
  refine zL (fun c => ?_) (fun c => ?_)
  ·obtain ⟨v, hv, hc⟩ := qK (0) (101 + far) (-far) (cell)
   refine ⟨zl2, fun p1 n1 => ?_⟩
   obtain ⟨H1, q1, s1, e1⟩ := zA n1 [.int 1, .int 2]
   rw [<- q1]
   refine ⟨_, rfl, _, _, rfl, rfl, _, rfl, _, rfl, zl3, fun p2 n2 => ?_⟩
   obtain ⟨H2, q2, s2, e2⟩ := zA n2 [.int (0), .int (101 + far), .int (-far)]
   rw [<- q2]
   exact ⟨_, rfl, _, _, rfl, rfl, zi3, p2, _, _, _, rfl, rfl, SqL.of e2, hv, .inr ⟨p1, [1, 2], 10, v, rfl, SqL.of ((s2) _ _ e1), fun z => by omega, fun H' sm => ⟨_, Less.same ((s1.trans (s2)).trans sm), q⟩⟩⟩
  refine ⟨_, rfl, rfl, _, rfl, ?_⟩
  refine zL (fun c => ?_) (fun c => ?_)
  ·refine ⟨zl2, fun p1 n1 => ?_⟩
   obtain ⟨H1, q1, s1, e1⟩ := zA n1 [.int 1, .int 2]
   rw [<- q1]
   refine ⟨zl2, fun p2 n2 => ?_⟩
   obtain ⟨H2, q2, s2, e2⟩ := zA n2 [.int 1, .int 1]
   rw [<- q2]
   refine ⟨zl1, fun p3 n3 => ?_⟩
   obtain ⟨H3, q3, s3, e3⟩ := zA n3 [.ref p2]
   rw [<- q3]
   refine ⟨zl2, fun p4 n4 => ?_⟩
   obtain ⟨H4, q4, s4, e4⟩ := zA n4 [.int 1, .int 1]
   rw [<- q4]
   refine ⟨zl2, fun p5 n5 => ?_⟩
   obtain ⟨H5, q5, s5, e5⟩ := zA n5 [.int 1, .int 1]
   rw [<- q5]
   refine ⟨zl2, fun p6 n6 => ?_⟩
   obtain ⟨H6, q6, s6, e6⟩ := zA n6 [.ref p4, .ref p5]
   rw [<- q6]
   exact ⟨_, _, p1, p3, p6, [p2], [p4, p5], [1, 2], [[1, 1]], [[1, 1], [1, 1]], rfl, SqL.of ((s2.trans (s3.trans (s4.trans (s5.trans (s6))))) _ _ e1), TabL.one ((s4.trans (s5.trans (s6))) _ _ e3) (SqL.of ((s3.trans (s4.trans (s5.trans (s6)))) _ _ e2)), TabL.two e6 (SqL.of ((s5.trans (s6)) _ _ e4)) (SqL.of ((s6) _ _ e5)), .inl ⟨fun t => absurd t.g0 (by decide), _, Less.same (s1.trans (s2.trans (s3.trans (s4.trans (s5.trans (s6)))))), q⟩⟩
  refine ⟨_, rfl, rfl, _, rfl, ?_⟩
  refine zL (fun c => ?_) (fun c => ?_)
  ·refine ⟨_, rfl, zl2, fun p1 n1 => ?_⟩
   obtain ⟨H1, q1, s1, e1⟩ := zA n1 [.int 1, .int 2]
   rw [<- q1]
   refine ⟨zl2, fun p2 n2 => ?_⟩
   obtain ⟨H2, q2, s2, e2⟩ := zA n2 [.int 1, .int 1]
   rw [<- q2]
   refine ⟨zl1, fun p3 n3 => ?_⟩
   obtain ⟨H3, q3, s3, e3⟩ := zA n3 [.int 1]
   rw [<- q3]
   refine ⟨zl2, fun p4 n4 => ?_⟩
   obtain ⟨H4, q4, s4, e4⟩ := zA n4 [.ref p2, .ref p3]
   rw [<- q4]
   refine ⟨zl2, fun p5 n5 => ?_⟩
   obtain ⟨H5, q5, s5, e5⟩ := zA n5 [.int 1, .int 1]
   rw [<- q5]
   refine ⟨zl2, fun p6 n6 => ?_⟩
   obtain ⟨H6, q6, s6, e6⟩ := zA n6 [.int 1, .int 1]
   rw [<- q6]
   refine ⟨zl2, fun p7 n7 => ?_⟩
   obtain ⟨H7, q7, s7, e7⟩ := zA n7 [.ref p5, .ref p6]
   rw [<- q7]
   exact ⟨_, _, p1, p4, p7, [p2, p3], [p5, p6], [1, 2], [[1, 1], [1]], [[1, 1], [1, 1]], rfl, SqL.of ((s2.trans (s3.trans (s4.trans (s5.trans (s6.trans (s7)))))) _ _ e1), TabL.two ((s5.trans (s6.trans (s7))) _ _ e4) (SqL.of ((s3.trans (s4.trans (s5.trans (s6.trans (s7))))) _ _ e2)) (SqL.of ((s4.trans (s5.trans (s6.trans (s7)))) _ _ e3)), TabL.two e7 (SqL.of ((s6.trans (s7)) _ _ e5)) (SqL.of ((s7) _ _ e6)), .inl ⟨fun t => absurd (t.gr 1 (by decide)).2 (by decide), _, Less.same (s1.trans (s2.trans (s3.trans (s4.trans (s5.trans (s6.trans (s7))))))), q⟩⟩
  refine ⟨_, rfl, rfl, _, rfl, ?_⟩
  refine zL (fun c => ?_) (fun c => ?_)
  ·refine ⟨zl2, fun p1 n1 => ?_⟩
   obtain ⟨H1, q1, s1, e1⟩ := zA n1 [.int 1, .int 2]
   rw [<- q1]
   refine ⟨zl2, fun p2 n2 => ?_⟩
   obtain ⟨H2, q2, s2, e2⟩ := zA n2 [.int 1, .int 0]
   rw [<- q2]
   refine ⟨zl2, fun p3 n3 => ?_⟩
   obtain ⟨H3, q3, s3, e3⟩ := zA n3 [.int 1, .int 1]
   rw [<- q3]
   refine ⟨zl2, fun p4 n4 => ?_⟩
   obtain ⟨H4, q4, s4, e4⟩ := zA n4 [.ref p2, .ref p3]
   rw [<- q4]
   refine ⟨zl2, fun p5 n5 => ?_⟩
   obtain ⟨H5, q5, s5, e5⟩ := zA n5 [.int 1, .int 1]
   rw [<- q5]
   refine ⟨zl2, fun p6 n6 => ?_⟩
   obtain ⟨H6, q6, s6, e6⟩ := zA n6 [.int 1, .int 1]
   rw [<- q6]
   refine ⟨zl2, fun p7 n7 => ?_⟩
   obtain ⟨H7, q7, s7, e7⟩ := zA n7 [.ref p5, .ref p6]
   rw [<- q7]
   exact ⟨_, p1, p4, p7, [p2, p3], [p5, p6], [1, 2], [[1, 0], [1, 1]], [[1, 1], [1, 1]], rfl, SqL.of ((s2.trans (s3.trans (s4.trans (s5.trans (s6.trans (s7)))))) _ _ e1), TabL.two ((s5.trans (s6.trans (s7))) _ _ e4) (SqL.of ((s3.trans (s4.trans (s5.trans (s6.trans (s7))))) _ _ e2)) (SqL.of ((s4.trans (s5.trans (s6.trans (s7)))) _ _ e3)), TabL.two e7 (SqL.of ((s6.trans (s7)) _ _ e5)) (SqL.of ((s7) _ _ e6)), fun t => absurd ((t.gr 0 (by decide)).1.one 0 (by decide)) (by decide), _, Less.same (s1.trans (s2.trans (s3.trans (s4.trans (s5.trans (s6.trans (s7))))))), q⟩
  refine ⟨_, rfl, rfl, _, rfl, ?_⟩
  refine zL (fun c => ?_) (fun c => ?_)
  ·refine ⟨zl2, fun p1 n1 => ?_⟩
   obtain ⟨H1, q1, s1, e1⟩ := zA n1 [.int 1, .int 2]
   rw [<- q1]
   refine ⟨zl2, fun p2 n2 => ?_⟩
   obtain ⟨H2, q2, s2, e2⟩ := zA n2 [.int 1, .int 1]
   rw [<- q2]
   refine ⟨zl2, fun p3 n3 => ?_⟩
   obtain ⟨H3, q3, s3, e3⟩ := zA n3 [.int 1, .int 1]
   rw [<- q3]
   refine ⟨zl2, fun p4 n4 => ?_⟩
   obtain ⟨H4, q4, s4, e4⟩ := zA n4 [.ref p2, .ref p3]
   rw [<- q4]
   refine ⟨zl2, fun p5 n5 => ?_⟩
   obtain ⟨H5, q5, s5, e5⟩ := zA n5 [.int 1, .int 1]
   rw [<- q5]
   refine ⟨zl3, fun p6 n6 => ?_⟩
   obtain ⟨H6, q6, s6, e6⟩ := zA n6 [.int 1, .int 1, .int 1]
   rw [<- q6]
   refine ⟨zl2, fun p7 n7 => ?_⟩
   obtain ⟨H7, q7, s7, e7⟩ := zA n7 [.ref p5, .ref p6]
   rw [<- q7]
   exact ⟨_, p1, p4, p7, [p2, p3], [p5, p6], [1, 2], [[1, 1], [1, 1]], [[1, 1], [1, 1, 1]], rfl, SqL.of ((s2.trans (s3.trans (s4.trans (s5.trans (s6.trans (s7)))))) _ _ e1), TabL.two ((s5.trans (s6.trans (s7))) _ _ e4) (SqL.of ((s3.trans (s4.trans (s5.trans (s6.trans (s7))))) _ _ e2)) (SqL.of ((s4.trans (s5.trans (s6.trans (s7)))) _ _ e3)), TabL.two e7 (SqL.of ((s6.trans (s7)) _ _ e5)) (SqL.of ((s7) _ _ e6)), fun t => absurd (t.br 1 (by decide)).2 (by decide), _, Less.same (s1.trans (s2.trans (s3.trans (s4.trans (s5.trans (s6.trans (s7))))))), q⟩
  exact ⟨_, rfl, _, rfl, _, rfl, _, cell, far, rfl, hf, _, Less.refl, q⟩
abbrev zdF : Stmt := top 72
def Sx66 : zm ["cell", "far", "way", "low"] ["cell", "far"] (zd zdF) := by walk_at "s"
def Bx66 (K : Frag) (T : Cl) (ec : Ec) : BSp := fun vs H E => ∃ (cell far : Int), vs = [.int cell, .int far] /\ 0 <= far /\ E (.ref ec.noPile) none H
abbrev Yx66 : Prop := CalX P w K mg base 6 "_law_no_pile" ["cell", "far"] (fun vs H _ E => Bx66 K T ec vs H E)
theorem ox66 (D : Def K mg "_law_no_pile" zdF ["cell", "far"]) (Cx7 : @Yx7 P w K mg base T ec) (Cx8 : @Yx8 P w K mg base T ec) (Cx9 : @Yx9 P w K mg base T ec) (Cx10 : @Yx10 P w K mg base T ec) (Cx43 : @Yx43 P w K mg base T ec) (Cx35 : @Yx35 P w K mg base T ec) (Cx44 : @Yx44 P w K mg base T ec) (Cx41 : @Yx41 P w K mg base T ec) (Cx14 : @zbu P w K mg base T ec) (Cx52 : @Yx52 P w K mg base T ec) (Cx49 : @zan P w K mg base T ec) (Cx53 : @Yx53 P w K mg base T ec) (Cx54 : @Yx54 P w K mg base T ec) : @Yx66 P w K mg base T ec := by
 refine D.okR Sx66 ?_ (fun _ _ _ _ _ H vs E hr h => ?_)
 ·walk_at "l"
 ·obtain ⟨cell, far, rfl, hf, q⟩ := h
  refine ⟨_, (zf (zx (i := 2) Sx66.nd rfl (Or.inl rfl) (zq zR (pv 0) zb))
   (zf (zx (i := 3) Sx66.nd rfl (Or.inl rfl) (zq xz (yG yn zb) (pv 1)))
   (ze (zy (zl zH (pv 2) zb (zt _)) (ze (zi (zp (Cx7.up) zr hr rfl (@zg _ _ _ _ _ (pv 3) (@zg _ _ _ _ _ (@zD _ _ _ _ (@zg _ _ _ _ _ zb (@zg _ _ _ _ _ zb za rfl) rfl)) (@zg _ _ _ _ _ zb za rfl) rfl) rfl) (he := zG rfl) (hpl := zM rfl)))) (ze (zy (zl zH (pv 2) zb (zt _)) (ze (zi (zp (Cx8.up) zr hr rfl (@zg _ _ _ _ _ (pv 3) (@zg _ _ _ _ _ (@zD _ _ _ _ (@zg _ _ _ _ _ zb (@zg _ _ _ _ _ zb za rfl) rfl)) za rfl) rfl)))) (ze (zy (zl zH (pv 2) zb (zt _)) (ze (zi (zp (Cx9.up) zr hr rfl (@zg _ _ _ _ _ (pv 3) (@zg _ _ _ _ _ (@zD _ _ _ _ (@zg _ _ _ _ _ zb (@zg _ _ _ _ _ zb za rfl) rfl)) (@zg _ _ _ _ _ (@zD _ _ _ _ (@zg _ _ _ _ _ zb za rfl)) za rfl) rfl) rfl) (he := zG rfl) (hpl := zM rfl)))) (ze (zy (zl zH (pv 2) zb (zt _)) (ze (zi (zp (Cx10.up) zr hr rfl (@zg _ _ _ _ _ (pv 3) (@zg _ _ _ _ _ (@zD _ _ _ _ (@zg _ _ _ _ _ zb (@zg _ _ _ _ _ zb za rfl) rfl)) (@zg _ _ _ _ _ zb za rfl) rfl) rfl) (he := zG rfl) (hpl := zM rfl)))) (ze (zy (zl zH (pv 2) zb (zt _)) (ze (zi (zp (Cx43.up) zr hr rfl (@zg _ _ _ _ _ (pv 3) (@zg _ _ _ _ _ (zY (Cx35.up) zr hr rfl (@zg _ _ _ _ _ zb za rfl)) (@zg _ _ _ _ _ (@zD _ _ _ _ (@zg _ _ _ _ _ zb za rfl)) za rfl) rfl) rfl) (he := zG rfl) (hpl := zM rfl)))) (ze (zy (zl zH (pv 2) zb (zt _)) (ze (zi (zp (Cx44.up) zr hr rfl (@zg _ _ _ _ _ (pv 3) (@zg _ _ _ _ _ (zY (Cx41.up) zr hr rfl (@zg _ _ _ _ _ zb za rfl)) (@zg _ _ _ _ _ zb za rfl) rfl) rfl) (he := zG rfl) (hpl := zM rfl)))) (ze (zy (zl zH (pv 2) zb (zt _)) (ze (zi (zp (Cx14.up) zr hr rfl (@zg _ _ _ _ _ (pv 3) (@zg _ _ _ _ _ (@zD _ _ _ _ (@zg _ _ _ _ _ zb za rfl)) (@zg _ _ _ _ _ (@zD _ _ _ _ (@zg _ _ _ _ _ (@zD _ _ _ _ (@zg _ _ _ _ _ zb za rfl)) za rfl)) (@zg _ _ _ _ _ (@zD _ _ _ _ (@zg _ _ _ _ _ (@zD _ _ _ _ (@zg _ _ _ _ _ zb za rfl)) za rfl)) (@zg _ _ _ _ _ zb za rfl) rfl) rfl) rfl) rfl) (he := zG rfl) (hpl := zM rfl)))) (ze (zy (zl zH (pv 2) zb (zt _)) (ze (zi (yc (Cs := fun C => C = T.O) (spm := fun _ => orS (Px52 K T ec) (Bx52 K T ec)) (zY (Cx49.up) zr hr rfl (@zg _ _ _ _ _ (@zD _ _ _ _ (@zg _ _ _ _ _ zb (@zg _ _ _ _ _ zb za rfl) rfl)) za rfl)) (fun _ e => by subst e; exact ⟨tf.fO.cl, Cx52.up⟩) zr hr (@zg _ _ _ _ _ (zU zK (@zD _ _ _ _ (@zg _ _ _ _ _ zb (@zg _ _ _ _ _ zb (@zg _ _ _ _ _ (pv 3) (@zg _ _ _ _ _ (zq z8 zb (pv 1)) za rfl) rfl) rfl) rfl)) (zq zR (zq yi (pv 0) zb) zb) (fun _ _ => rfl)) za rfl)))) (ze (zy (zl zH (pv 2) zb (zt _)) (ze (zi (yc (Cs := fun C => C = T.O) (spm := fun _ => fun vs H _ E => Bx53 K T ec vs H E) (zY (Cx49.up) zr hr rfl (@zg _ _ _ _ _ (@zD _ _ _ _ (@zg _ _ _ _ _ zb (@zg _ _ _ _ _ zb za rfl) rfl)) za rfl)) (fun _ e => by subst e; exact ⟨tf.fO.cl, Cx53.up⟩) zr hr (@zg _ _ _ _ _ (zU zK (@zD _ _ _ _ (@zg _ _ _ _ _ zb (@zg _ _ _ _ _ zb (@zg _ _ _ _ _ (pv 3) (@zg _ _ _ _ _ (zq z8 zb (pv 1)) za rfl) rfl) rfl) rfl)) (zq zR (zq yi (pv 0) zb) zb) (fun _ _ => rfl)) (@zg _ _ _ _ _ (@zD _ _ _ _ (@zg _ _ _ _ _ zb za rfl)) za rfl) rfl)))) (ze (zi (yc (Cs := fun C => C = T.O) (spm := fun _ => fun vs H _ E => Bx54 K T ec vs H E) (zY (Cx49.up) zr hr rfl (@zg _ _ _ _ _ (@zD _ _ _ _ (@zg _ _ _ _ _ zb (@zg _ _ _ _ _ zb za rfl) rfl)) za rfl)) (fun _ e => by subst e; exact ⟨tf.fO.cl, Cx54.up⟩) zr hr (@zg _ _ _ _ _ (zU zK (@zD _ _ _ _ (@zg _ _ _ _ _ zb (@zg _ _ _ _ _ zb (@zg _ _ _ _ _ (pv 3) (@zg _ _ _ _ _ (zq z8 zb (pv 1)) za rfl) rfl) rfl) rfl)) (zq zR (zq yi (pv 0) zb) zb) (fun _ _ => rfl)) (@zg _ _ _ _ _ (@zD _ _ _ _ za) (@zg _ _ _ _ _ zb za rfl) rfl) rfl) (hst := zG rfl) (hpl := zM rfl)))))))))))))))))))))))), ?_⟩
  refine ⟨_, rfl, _, _, rfl, rfl, zi10, ?_⟩
  refine ⟨_, rfl, _, rfl, _, _, rfl, rfl, ?_⟩
  refine ⟨_, rfl, rfl, _, rfl, ?_⟩
  refine zL (fun c => ?_) (fun c => ?_)
  ·refine ⟨_, rfl, zl2, fun p1 n1 => ?_⟩
   obtain ⟨H1, q1, s1, e1⟩ := zA n1 [.int 1, .int 2]
   rw [<- q1]
   exact .inr ⟨_, p1, [1, 2], 7, rfl, SqL.of e1, .inr (.inl ⟨zbt, by omega, _, Less.same (s1), q⟩)⟩
  refine ⟨_, rfl, rfl, _, rfl, ?_⟩
  refine zL (fun c => ?_) (fun c => ?_)
  ·refine ⟨_, rfl, zl2, fun p1 n1 => ?_⟩
   obtain ⟨H1, q1, s1, e1⟩ := zA n1 [.int 1, .int 2]
   rw [<- q1]
   exact .inr ⟨_, p1, [1, 2], rfl, SqL.of e1, .inr ⟨zbt, by omega, _, Less.same (s1), q⟩⟩
  refine ⟨_, rfl, rfl, _, rfl, ?_⟩
  refine zL (fun c => ?_) (fun c => ?_)
  ·refine ⟨_, rfl, zl2, fun p1 n1 => ?_⟩
   obtain ⟨H1, q1, s1, e1⟩ := zA n1 [.int 1, .int 2]
   rw [<- q1]
   refine ⟨zl1, fun p2 n2 => ?_⟩
   obtain ⟨H2, q2, s2, e2⟩ := zA n2 [.int 9]
   rw [<- q2]
   exact .inr ⟨_, p1, [1, 2], p2, [9], rfl, SqL.of ((s2) _ _ e1), SqL.of e2, .inr (.inl ⟨zbt, by omega, _, Less.same (s1.trans (s2)), q⟩)⟩
  refine ⟨_, rfl, rfl, _, rfl, ?_⟩
  refine zL (fun c => ?_) (fun c => ?_)
  ·refine ⟨_, rfl, zl2, fun p1 n1 => ?_⟩
   obtain ⟨H1, q1, s1, e1⟩ := zA n1 [.int 1, .int 2]
   rw [<- q1]
   exact .inr ⟨_, p1, [1, 2], 0, rfl, SqL.of e1, .inr ⟨zbt, by omega, _, Less.same (s1), q⟩⟩
  refine ⟨_, rfl, rfl, _, rfl, ?_⟩
  refine zL (fun c => ?_) (fun c => ?_)
  ·refine ⟨_, rfl, .inl ⟨3, rfl, by decide, by decide, fun x l H' n1 n2 la sm => ?_⟩⟩
   exact ⟨zl1, fun p hp => ⟨_, x, p, rfl, .inl ⟨by omega, _, Less.same (sm.trans (zB hp)), q⟩⟩⟩
  refine ⟨_, rfl, rfl, _, rfl, ?_⟩
  refine zL (fun c => ?_) (fun c => ?_)
  ·exact ⟨_, rfl, .inl ⟨2, rfl, by decide, by decide, fun x own H' mo no sm => ⟨_, _, x, rfl, by omega, _, Less.same sm, q⟩⟩⟩
  refine ⟨_, rfl, rfl, _, rfl, ?_⟩
  refine zL (fun c => ?_) (fun c => ?_)
  ·refine ⟨_, rfl, zl1, fun p1 n1 => ?_⟩
   obtain ⟨H1, q1, s1, e1⟩ := zA n1 [.int 1]
   rw [<- q1]
   refine ⟨zl1, fun p2 n2 => ?_⟩
   obtain ⟨H2, q2, s2, e2⟩ := zA n2 [.int 1]
   rw [<- q2]
   refine ⟨zl1, fun p3 n3 => ?_⟩
   obtain ⟨H3, q3, s3, e3⟩ := zA n3 [.ref p2]
   rw [<- q3]
   refine ⟨zl1, fun p4 n4 => ?_⟩
   obtain ⟨H4, q4, s4, e4⟩ := zA n4 [.int 1]
   rw [<- q4]
   refine ⟨zl1, fun p5 n5 => ?_⟩
   obtain ⟨H5, q5, s5, e5⟩ := zA n5 [.ref p4]
   rw [<- q5]
   exact ⟨_, _, p1, p3, p5, [p2], [p4], [1], [[1]], [[1]], rfl, SqL.of ((s2.trans (s3.trans (s4.trans (s5)))) _ _ e1), TabL.one ((s4.trans (s5)) _ _ e3) (SqL.of ((s3.trans (s4.trans (s5))) _ _ e2)), TabL.one e5 (SqL.of ((s5) _ _ e4)), .inr (.inl ⟨tb1, by omega, _, Less.same (s1.trans (s2.trans (s3.trans (s4.trans (s5))))), q⟩)⟩
  refine ⟨_, rfl, rfl, _, rfl, ?_⟩
  refine zL (fun c => ?_) (fun c => ?_)
  ·obtain ⟨v, hv, hc⟩ := zc6 4 10 (-1 - far) (10 + far) (cell / 10)
   refine ⟨zl2, fun p1 n1 => ?_⟩
   obtain ⟨H1, q1, s1, e1⟩ := zA n1 [.int 2, .int 3]
   rw [<- q1]
   refine .inl ⟨p1, [2, 3], rfl, e1, gd23, fun x HO nx sn so => ?_⟩
   have sl := sn HO (fun b o e _ => e)
   obtain ⟨gc, dx, kl, sg, pl, nl, as, hx, hk, hg, kp, hn⟩ := id sl
   have s2 := so
   refine ⟨x, T.O, dx, _, rfl, hx, rfl, qz _ _ _ _ _, _, rfl, _, rfl, _, _, rfl, rfl, zl4, fun p3 n3 => ?_⟩
   obtain ⟨H3, q3, s3, e3⟩ := zA n3 [.int 4, .int 10, .int (-1 - far), .int (10 + far)]
   rw [<- q3]
   have hx3 := s3 _ _ hx
   have sl3 := sl.same s3
   exact ⟨_, rfl, _, _, rfl, rfl, ⟨by decide, by decide⟩, _, _, rfl, rfl, zi4, p3, _, _, _, rfl, rfl, SqL.of e3, hv, .inr ⟨x, [2, 3], v, rfl, sl3, (fun z => by have e : ([2, 3] : List Int).sum = 5 := rfl; omega), _, Less.same (s1.trans (s2.trans (s3))), q⟩⟩
  refine ⟨_, rfl, rfl, _, rfl, ?_⟩
  refine zL (fun c => ?_) (fun c => ?_)
  ·obtain ⟨v, hv, hc⟩ := zc6 4 10 (-1 - far) (10 + far) (cell / 10)
   refine ⟨zl2, fun p1 n1 => ?_⟩
   obtain ⟨H1, q1, s1, e1⟩ := zA n1 [.int 2, .int 3]
   rw [<- q1]
   refine .inl ⟨p1, [2, 3], rfl, e1, gd23, fun x HO nx sn so => ?_⟩
   have sl := sn HO (fun b o e _ => e)
   obtain ⟨gc, dx, kl, sg, pl, nl, as, hx, hk, hg, kp, hn⟩ := id sl
   have s2 := so
   refine ⟨x, T.O, dx, _, rfl, hx, rfl, zaG _ _ _ _ _, _, rfl, _, rfl, _, _, rfl, rfl, zl4, fun p3 n3 => ?_⟩
   obtain ⟨H3, q3, s3, e3⟩ := zA n3 [.int 4, .int 10, .int (-1 - far), .int (10 + far)]
   rw [<- q3]
   have hx3 := s3 _ _ hx
   have sl3 := sl.same s3
   refine ⟨_, rfl, _, _, rfl, rfl, ⟨by decide, by decide⟩, _, _, rfl, rfl, zi4, p3, _, _, _, rfl, rfl, SqL.of e3, hv, zl1, fun p4 n4 => ?_⟩
   obtain ⟨H4, q4, s4, e4⟩ := zA n4 [.int 7]
   rw [<- q4]
   exact ⟨x, p4, [2, 3], v, [7], rfl, sl3.same s4, SqL.of e4, .inl ⟨(fun z => by have e : ([2, 3] : List Int).sum = 5 := rfl; omega), _, Less.same (s1.trans (s2.trans (s3.trans (s4)))), q⟩⟩
  obtain ⟨v, hv, hc⟩ := zc6 4 10 (-1 - far) (10 + far) (cell / 10)
  refine ⟨zl2, fun p1 n1 => ?_⟩
  obtain ⟨H1, q1, s1, e1⟩ := zA n1 [.int 2, .int 3]
  rw [<- q1]
  refine .inl ⟨p1, [2, 3], rfl, e1, gd23, fun x HO nx sn so => ?_⟩
  have sl := sn HO (fun b o e _ => e)
  obtain ⟨gc, dx, kl, sg, pl, nl, as, hx, hk, hg, kp, hn⟩ := id sl
  have s2 := so
  refine ⟨x, T.O, dx, _, rfl, hx, rfl, vS _ _ _ _ _, _, rfl, _, rfl, _, _, rfl, rfl, zl4, fun p3 n3 => ?_⟩
  obtain ⟨H3, q3, s3, e3⟩ := zA n3 [.int 4, .int 10, .int (-1 - far), .int (10 + far)]
  rw [<- q3]
  have hx3 := s3 _ _ hx
  have sl3 := sl.same s3
  refine ⟨_, rfl, _, _, rfl, rfl, ⟨by decide, by decide⟩, _, _, rfl, rfl, zi4, p3, _, _, _, rfl, rfl, SqL.of e3, hv, zl0, fun p4 n4 => ?_⟩
  obtain ⟨H4, q4, s4, e4⟩ := zA n4 []
  rw [<- q4]
  exact ⟨x, p4, [2, 3], v, _, rfl, sl3.same s4, SqL.of e4, .inl ⟨(fun z => by have e : ([2, 3] : List Int).sum = 5 := rfl; omega), _, Less.same (s1.trans (s2.trans (s3.trans (s4)))), q⟩⟩
abbrev zdG : Stmt := top 73
def Sx67 : zm ["cell", "far", "sign", "way", "model"] ["cell", "far"] (zd zdG) := by walk_at "s"
def Bx67 (K : Frag) (T : Cl) (ec : Ec) : BSp := fun vs H E => ∃ (cell far : Int), vs = [.int cell, .int far] /\ 0 <= far /\ E (.ref ec.noSign) none H
abbrev Yx67 : Prop := CalX P w K mg base 6 "_law_no_sign" ["cell", "far"] (fun vs H _ E => Bx67 K T ec vs H E)
theorem ox67 (D : Def K mg "_law_no_sign" zdG ["cell", "far"]) (Cx7 : @Yx7 P w K mg base T ec) (Cx9 : @Yx9 P w K mg base T ec) (Cx4 : @Yx4 P w K mg base T ec) (Cx43 : @Yx43 P w K mg base T ec) (Cx29 : @zdr P w K mg base T ec) (Cx35 : @Yx35 P w K mg base T ec) (Cx41 : @Yx41 P w K mg base T ec) (Cx31 : @Yx31 P w K mg base T ec) (Cx37 : @Yx37 P w K mg base T ec) (Cx42 : @Yx42 P w K mg base T ec) (Cx58 : @Yx58 P w K mg base T ec) (Cx57 : @Yx57 P w K mg base T ec) (Cx14 : @zbu P w K mg base T ec) (Cx51 : @Yx51 P w K mg base T ec) (Cx49 : @zan P w K mg base T ec) (Cx53 : @Yx53 P w K mg base T ec) : @Yx67 P w K mg base T ec := by
 refine D.okR Sx67 ?_ (fun _ _ _ _ _ H vs E hr h => ?_)
 ·walk_at "l"
 ·obtain ⟨cell, far, rfl, hf, q⟩ := h
  refine ⟨_, (zf (zx (i := 2) Sx67.nd rfl (Or.inl rfl) (zU zK (@zD _ _ _ _ (@zg _ _ _ _ _ (zq xz (yG yn zb) (pv 1)) (@zg _ _ _ _ _ zb (@zg _ _ _ _ _ (zq z8 zb (pv 1)) (@zg _ _ _ _ _ zb za rfl) rfl) rfl) rfl)) (zq zR (zq yi (pv 0) zb) zb) (fun _ _ => rfl)))
   (zf (zx (i := 3) Sx67.nd rfl (Or.inl rfl) (zq zR (pv 0) zb))
   (ze (zy (zl zH (pv 3) zb (zt _)) (ze (zi (zp (Cx7.up) zr hr rfl (@zg _ _ _ _ _ zb (@zg _ _ _ _ _ (@zD _ _ _ _ (@zg _ _ _ _ _ zb (@zg _ _ _ _ _ zb (@zg _ _ _ _ _ zb za rfl) rfl) rfl)) (@zg _ _ _ _ _ (pv 2) za rfl) rfl) rfl) (he := zG rfl) (hpl := zM rfl)))) (ze (zy (zl zH (pv 3) zb (zt _)) (ze (zi (zp (Cx9.up) zr hr rfl (@zg _ _ _ _ _ zb (@zg _ _ _ _ _ (@zD _ _ _ _ (@zg _ _ _ _ _ zb (@zg _ _ _ _ _ zb (@zg _ _ _ _ _ zb za rfl) rfl) rfl)) (@zg _ _ _ _ _ (@zD _ _ _ _ (@zg _ _ _ _ _ zb (@zg _ _ _ _ _ (pv 2) (@zg _ _ _ _ _ zb za rfl) rfl) rfl)) za rfl) rfl) rfl) (he := zG rfl) (hpl := zM rfl)))) (ze (zy (zl zH (pv 3) zb (zt _)) (ze (zi (zp (Cx4.up) zr hr rfl (@zg _ _ _ _ _ (@zD _ _ _ _ (@zg _ _ _ _ _ zb (@zg _ _ _ _ _ zb (@zg _ _ _ _ _ zb za rfl) rfl) rfl)) (@zg _ _ _ _ _ (zU zK (@zD _ _ _ _ (@zg _ _ _ _ _ (zq xz (yG yn zb) (pv 1)) (@zg _ _ _ _ _ zb (@zg _ _ _ _ _ (zq z8 zb (pv 1)) za rfl) rfl) rfl)) (zq zR (zq yi (pv 0) zb) zb) (fun _ _ => rfl)) za rfl) rfl)))) (ze (zy (zl zH (pv 3) zb (zt _)) (ze (zi (zp (Cx43.up) zr hr rfl (@zg _ _ _ _ _ zb (@zg _ _ _ _ _ (zY (Cx29.up) zr hr rfl (@zg _ _ _ _ _ (@zD _ _ _ _ (@zg _ _ _ _ _ zb (@zg _ _ _ _ _ zb (@zg _ _ _ _ _ zb za rfl) rfl) rfl)) za rfl)) (@zg _ _ _ _ _ (@zD _ _ _ _ (@zg _ _ _ _ _ zb (@zg _ _ _ _ _ zb (@zg _ _ _ _ _ (pv 2) za rfl) rfl) rfl)) za rfl) rfl) rfl) (he := zG rfl) (hpl := zM rfl)))) (ze (zy (zl zH (pv 3) zb (zt _)) (ze (zi (zp (Cx43.up) zr hr rfl (@zg _ _ _ _ _ zb (@zg _ _ _ _ _ (zY (Cx35.up) zr hr rfl (@zg _ _ _ _ _ zb za rfl)) (@zg _ _ _ _ _ (@zD _ _ _ _ (@zg _ _ _ _ _ (zU zK (@zD _ _ _ _ (@zg _ _ _ _ _ (zq xz (yG yn zb) (pv 1)) (@zg _ _ _ _ _ zb (@zg _ _ _ _ _ (zq z8 zb (pv 1)) za rfl) rfl) rfl)) (zq zR (zq yi (pv 0) zb) zb) (fun _ _ => rfl)) (@zg _ _ _ _ _ zb za rfl) rfl)) za rfl) rfl) rfl) (he := zG rfl) (hpl := zM rfl)))) (ze (zy (zl zH (pv 3) zb (zt _)) (zf (zx (i := 4) Sx67.nd rfl (Or.inl rfl) (zU zK (@zD _ _ _ _ (@zg _ _ _ _ _ (zY (Cx41.up) zr hr rfl (@zg _ _ _ _ _ zb za rfl)) (@zg _ _ _ _ _ (zY (Cx35.up) zr hr rfl (@zg _ _ _ _ _ zb za rfl)) (@zg _ _ _ _ _ (zY (Cx29.up) zr hr rfl (@zg _ _ _ _ _ (@zD _ _ _ _ (@zg _ _ _ _ _ zb (@zg _ _ _ _ _ zb (@zg _ _ _ _ _ zb za rfl) rfl) rfl)) za rfl)) za rfl) rfl) rfl)) (zq zR (zq yi (pv 0) zb) zb) (fun _ _ => rfl)))
   (ze (zi (yc (Cs := zam T) (spm := qM K T ec) (pv 4) (wu tf (Cx31.up) (Cx37.up) (Cx42.up)) zr hr (@zg _ _ _ _ _ (zU zK (@zD _ _ _ _ (@zg _ _ _ _ _ (zq xz (yG yn zb) (pv 1)) (@zg _ _ _ _ _ zb (@zg _ _ _ _ _ (zq z8 zb (pv 1)) za rfl) rfl) rfl)) (zq zR (zq yi (pv 0) zb) zb) (fun _ _ => rfl)) za rfl))))) (ze (zy (zl zH (pv 3) zb (zt _)) (ze (zi (yc (Cs := fun C => C = T.S) (spm := fun _ => fun vs H _ E => Bx58 K T ec vs H E) (zY (Cx57.up) zr hr rfl (@zg _ _ _ _ _ (@zD _ _ _ _ (@zg _ _ _ _ _ zb (@zg _ _ _ _ _ zb (@zg _ _ _ _ _ zb za rfl) rfl) rfl)) (@zg _ _ _ _ _ zb za rfl) rfl)) (fun _ e => by subst e; exact ⟨tf.fS.cl, Cx58.up⟩) zr hr (@zg _ _ _ _ _ (pv 2) za rfl)))) (ze (zy (zl zH (pv 3) zb (zt _)) (ze (zi (zp (Cx14.up) zr hr rfl (@zg _ _ _ _ _ zb (@zg _ _ _ _ _ (@zD _ _ _ _ (@zg _ _ _ _ _ zb za rfl)) (@zg _ _ _ _ _ (@zD _ _ _ _ (@zg _ _ _ _ _ (@zD _ _ _ _ (@zg _ _ _ _ _ zb (@zg _ _ _ _ _ zb (@zg _ _ _ _ _ zb za rfl) rfl) rfl)) za rfl)) (@zg _ _ _ _ _ (@zD _ _ _ _ (@zg _ _ _ _ _ (@zD _ _ _ _ (@zg _ _ _ _ _ zb za rfl)) (@zg _ _ _ _ _ (@zD _ _ _ _ (@zg _ _ _ _ _ zb za rfl)) (@zg _ _ _ _ _ (@zD _ _ _ _ (@zg _ _ _ _ _ zb za rfl)) za rfl) rfl) rfl)) (@zg _ _ _ _ _ (zU zK (@zD _ _ _ _ (@zg _ _ _ _ _ (zq xz (yG yn zb) (pv 1)) (@zg _ _ _ _ _ zb (@zg _ _ _ _ _ (zq z8 zb (pv 1)) za rfl) rfl) rfl)) (zq zR (zq yi (pv 0) zb) zb) (fun _ _ => rfl)) za rfl) rfl) rfl) rfl) rfl) (he := zG rfl) (hpl := zM rfl)))) (ze (zy (zl zH (pv 3) zb (zt _)) (ze (zi (yc (Cs := fun C => C = T.O) (spm := fun _ => fun vs H _ E => Bx51 K T ec vs H E) (zY (Cx49.up) zr hr rfl (@zg _ _ _ _ _ (@zD _ _ _ _ (@zg _ _ _ _ _ zb (@zg _ _ _ _ _ zb (@zg _ _ _ _ _ zb za rfl) rfl) rfl)) za rfl)) (fun _ e => by subst e; exact ⟨tf.fO.cl, Cx51.up⟩) zr hr (@zg _ _ _ _ _ (pv 2) (@zg _ _ _ _ _ zb za rfl) rfl)))) (ze (zi (yc (Cs := fun C => C = T.O) (spm := fun _ => fun vs H _ E => Bx53 K T ec vs H E) (zY (Cx49.up) zr hr rfl (@zg _ _ _ _ _ (@zD _ _ _ _ (@zg _ _ _ _ _ zb (@zg _ _ _ _ _ zb (@zg _ _ _ _ _ zb za rfl) rfl) rfl)) za rfl)) (fun _ e => by subst e; exact ⟨tf.fO.cl, Cx53.up⟩) zr hr (@zg _ _ _ _ _ zb (@zg _ _ _ _ _ (@zD _ _ _ _ (@zg _ _ _ _ _ zb (@zg _ _ _ _ _ (pv 2) za rfl) rfl)) za rfl) rfl)))))))))))))))))))))))), ?_⟩
  obtain ⟨sg, hv, hc⟩ := zc6 (-1 - far) 3 (3 + far) 1 (cell / 10)
  refine ⟨_, rfl, _, rfl, _, _, rfl, rfl, _, rfl, _, _, rfl, rfl, zl4, fun p1 n1 => ?_⟩
  obtain ⟨H1, q1, s1, e1⟩ := zA n1 [.int (-1 - far), .int 3, .int (3 + far), .int 1]
  rw [<- q1]
  refine ⟨_, rfl, _, _, rfl, rfl, ⟨by decide, by decide⟩, _, _, rfl, rfl, zi4, p1, _, _, _, rfl, rfl, SqL.of e1, hv, ?_⟩
  have bs := zc7 hf hc
  refine ⟨_, rfl, _, _, rfl, rfl, zi10, ?_⟩
  refine ⟨_, rfl, rfl, _, rfl, ?_⟩
  refine zL (fun c => ?_) (fun c => ?_)
  ·refine ⟨zl3, fun p2 n2 => ?_⟩
   obtain ⟨H2, q2, s2, e2⟩ := zA n2 [.int 1, .int 0, .int 2]
   rw [<- q2]
   exact ⟨_, rfl, .inr ⟨5, p2, [1, 0, 2], sg, rfl, SqL.of e2, .inr (.inr ⟨xW, by decide, bs, _, Less.same (s1.trans (s2)), q⟩)⟩⟩
  refine ⟨_, rfl, rfl, _, rfl, ?_⟩
  refine zL (fun c => ?_) (fun c => ?_)
  ·refine ⟨zl3, fun p2 n2 => ?_⟩
   obtain ⟨H2, q2, s2, e2⟩ := zA n2 [.int 1, .int 0, .int 2]
   rw [<- q2]
   refine ⟨_, rfl, zl3, fun p3 n3 => ?_⟩
   obtain ⟨H3, q3, s3, e3⟩ := zA n3 [.int 0, .int sg, .int 2]
   rw [<- q3]
   exact .inr ⟨5, p2, [1, 0, 2], p3, [0, sg, 2], rfl, SqL.of ((s3) _ _ e2), SqL.of e3, .inr (.inr ⟨xW, by decide, ⟨1, by show 1 < 3; decide, bs, fun i hi => match i, hi with | 0, _ => (show OkS [1, 0, 2] 2 from ⟨by decide, by decide, by decide⟩)⟩, _, Less.same (s1.trans (s2.trans (s3))), q⟩)⟩
  refine ⟨_, rfl, rfl, _, rfl, ?_⟩
  refine zL (fun c => ?_) (fun c => ?_)
  ·obtain ⟨v, hv, hd⟩ := qK (-1 - far) 3 (3 + far) (cell / 10)
   refine ⟨zl3, fun p2 n2 => ?_⟩
   obtain ⟨H2, q2, s2, e2⟩ := zA n2 [.int 1, .int 0, .int 2]
   rw [<- q2]
   refine ⟨_, rfl, _, rfl, _, _, rfl, rfl, _, rfl, _, _, rfl, rfl, zl3, fun p3 n3 => ?_⟩
   obtain ⟨H3, q3, s3, e3⟩ := zA n3 [.int (-1 - far), .int (3), .int (3 + far)]
   rw [<- q3]
   exact ⟨_, rfl, _, _, rfl, rfl, ⟨by decide, by decide⟩, _, _, rfl, rfl, zi3, p3, _, _, _, rfl, rfl, SqL.of e3, hv, .inr ⟨p2, [1, 0, 2], v, rfl, SqL.of ((s3) _ _ e2), .inr ⟨xW, (fun z => by have z1 : 0 <= v := z.1; have z2 : v < 3 := z.2; omega), _, Less.same (s1.trans (s2.trans (s3))), q⟩⟩⟩
  refine ⟨_, rfl, rfl, _, rfl, ?_⟩
  refine zL (fun c => ?_) (fun c => ?_)
  ·refine ⟨zl3, fun p2 n2 => ?_⟩
   obtain ⟨H2, q2, s2, e2⟩ := zA n2 [.int 1, .int 0, .int 2]
   rw [<- q2]
   refine .inl ⟨p2, [1, 0, 2], rfl, SqL.of e2, xW, fun x l H3 nx nl pa s3 => ?_⟩
   refine ⟨_, rfl, zl3, fun p4 n4 => ?_⟩
   obtain ⟨H4, q4, s4, e4⟩ := zA n4 [.int 2, .int 0, .int sg]
   rw [<- q4]
   exact ⟨5, x, p4, rfl, .inr (.inr ⟨by decide, l, [1, 0, 2], [2, 0, sg], pa.same s4, xW, SqL.of e4, (by show 3 <= 900; decide), pbad hf hc, _, Less.same (s1.trans (s2.trans (s3.trans (s4)))), q⟩)⟩
  refine ⟨_, rfl, rfl, _, rfl, ?_⟩
  refine zL (fun c => ?_) (fun c => ?_)
  ·obtain ⟨v, hv, hd⟩ := qK (-1 - far) 3 (3 + far) (cell / 10)
   refine .inl ⟨3, rfl, by decide, by decide, fun x l H2 nx nl la s2 => ?_⟩
   refine ⟨_, rfl, _, rfl, _, _, rfl, rfl, _, rfl, _, _, rfl, rfl, zl3, fun p3 n3 => ?_⟩
   obtain ⟨H3, q3, s3, e3⟩ := zA n3 [.int (-1 - far), .int (3), .int (3 + far)]
   rw [<- q3]
   refine ⟨_, rfl, _, _, rfl, rfl, ⟨by decide, by decide⟩, _, _, rfl, rfl, zi3, p3, _, _, _, rfl, rfl, SqL.of e3, hv, zl2, fun p4 n4 => ?_⟩
   obtain ⟨H4, q4, s4, e4⟩ := zA n4 [.int v, .int 0]
   rw [<- q4]
   exact ⟨5, x, p4, rfl, .inr (.inl ⟨by decide, l, 3, 1, _, [v, 0], la.same (s3.trans (s4)), SqL.of e4, (by show 0 < 2; decide), by decide, by decide, by decide, by decide, (fun z => by have z1 : 0 <= v := z.1; have z2 : v < 3 := z.2; omega), _, Less.same (s1.trans (s2.trans (s3.trans (s4)))), q⟩)⟩
  refine ⟨_, rfl, rfl, _, rfl, ?_⟩
  refine zL (fun c => ?_) (fun c => ?_)
  ·obtain ⟨v, hv, hd⟩ := qK (-1 - far) 3 (3 + far) (cell / 10)
   refine .inl ⟨3, rfl, by decide, by decide, fun x1 own1 H2 mo no s2 => ?_⟩
   refine .inl ⟨3, rfl, by decide, by decide, fun x2 l2 H3 n21 n22 la s3 => ?_⟩
   refine ⟨zl3, fun p4 n4 => ?_⟩
   obtain ⟨H4, q4, s4, e4⟩ := zA n4 [.int 1, .int 2, .int 3]
   rw [<- q4]
   refine .inl ⟨p4, [1, 2, 3], rfl, SqL.of e4, zev, fun x3 l3 H5 n31 n32 pa s5 => ?_⟩
   refine ⟨zl3, fun p6 n6 => ?_⟩
   obtain ⟨H6, q6, s6, e6⟩ := zA n6 [.ref x1, .ref x2, .ref x3]
   rw [<- q6]
   obtain ⟨y, hy, hm⟩ := at3 (.ref x1) (.ref x2) (.ref x3) (cell / 30)
   refine ⟨_, rfl, _, _, rfl, rfl, ⟨by decide, by decide⟩, _, _, rfl, rfl, zi3, p6, _, _, _, rfl, rfl, SqL.of e6, hy, ?_⟩
   obtain ⟨bh, l0, k0, ls, ks, eo, F⟩ := mo
   have F6 := F.same (s3.trans (s4.trans (s5.trans (s6))))
   have L6 := la.same (s4.trans (s5.trans (s6)))
   have P6 := pa.same s6
   obtain ⟨dF, hF⟩ := F6.ob'
   obtain ⟨dL, hL⟩ := L6.ob
   obtain ⟨dP, hP⟩ := P6.ob
   rcases hm with rfl | rfl | rfl
   ·refine ⟨_, rfl, x1, T.F, dF, _, rfl, hF, .inr (.inr rfl), nF (by decide +kernel) (by decide +kernel) (by decide +kernel) (by decide +kernel) _ _ _ _, _, rfl, _, rfl, _, _, rfl, rfl, _, rfl, _, _, rfl, rfl, zl3, fun p7 n7 => ?_⟩
    obtain ⟨H7, q7, s7, e7⟩ := zA n7 [.int (-1 - far), .int (3), .int (3 + far)]
    rw [<- q7]
    exact ⟨_, rfl, _, _, rfl, rfl, ⟨by decide, by decide⟩, _, _, rfl, rfl, zi3, p7, _, _, _, rfl, rfl, SqL.of e7, hv, .inr (.inr ⟨rfl, x1, bh, l0, k0, ls, ks, 3, 1, _, _, _, v, rfl, F6.same s7, (fun z => by have z1 : 0 <= v := z.1; have z2 : v < 3 := z.2; omega), _, Less.same (s1.trans (s2.trans (s3.trans (s4.trans (s5.trans (s6.trans (s7))))))), q⟩)⟩
   ·refine ⟨_, rfl, x2, T.L, dL, _, rfl, hL, .inr (.inl rfl), nL (by decide +kernel) (by decide +kernel) (by decide +kernel) _ _ _, _, rfl, _, rfl, _, _, rfl, rfl, _, rfl, _, _, rfl, rfl, zl3, fun p7 n7 => ?_⟩
    obtain ⟨H7, q7, s7, e7⟩ := zA n7 [.int (-1 - far), .int (3), .int (3 + far)]
    rw [<- q7]
    exact ⟨_, rfl, _, _, rfl, rfl, ⟨by decide, by decide⟩, _, _, rfl, rfl, zi3, p7, _, _, _, rfl, rfl, SqL.of e7, hv, .inr (.inl ⟨rfl, x2, l2, 3, 1, _, v, rfl, L6.same s7, (fun z => by have z1 : 0 <= v := z.1; have z2 : v < 3 := z.2; omega), _, Less.same (s1.trans (s2.trans (s3.trans (s4.trans (s5.trans (s6.trans (s7))))))), q⟩)⟩
   ·refine ⟨_, rfl, x3, T.P, dP, _, rfl, hP, .inl rfl, nP (by decide +kernel) (by decide +kernel) _ _, _, rfl, _, rfl, _, _, rfl, rfl, _, rfl, _, _, rfl, rfl, zl3, fun p7 n7 => ?_⟩
    obtain ⟨H7, q7, s7, e7⟩ := zA n7 [.int (-1 - far), .int (3), .int (3 + far)]
    rw [<- q7]
    exact ⟨_, rfl, _, _, rfl, rfl, ⟨by decide, by decide⟩, _, _, rfl, rfl, zi3, p7, _, _, _, rfl, rfl, SqL.of e7, hv, .inl ⟨rfl, .inr ⟨x3, l3, [1, 2, 3], v, rfl, P6.same s7, (fun z => by have z1 : 0 <= v := z.1; have z2 : v < 3 := z.2; omega), _, Less.same (s1.trans (s2.trans (s3.trans (s4.trans (s5.trans (s6.trans (s7))))))), q⟩⟩⟩
  refine ⟨_, rfl, rfl, _, rfl, ?_⟩
  refine zL (fun c => ?_) (fun c => ?_)
  ·refine ⟨zl3, fun p2 n2 => ?_⟩
   obtain ⟨H2, q2, s2, e2⟩ := zA n2 [.int 1, .int 0, .int 2]
   rw [<- q2]
   refine .inl ⟨p2, [1, 0, 2], 10, rfl, SqL.of e2, xW, by decide, by decide, fun x kl wl H3 nx n4 n5 st s3 => ?_⟩
   obtain ⟨dx, hx⟩ := st.ob
   exact ⟨x, T.S, dx, _, rfl, hx, rfl, zeV _ _ _ _ _ _, _, rfl, ⟨x, kl, wl, [1, 0, 2], 10, 4, _, [], sg, rfl, st, kh xW (by decide) (by decide) (by decide) (by decide), bs, _, Less.same (s1.trans (s2.trans (s3))), q⟩⟩
  refine ⟨_, rfl, rfl, _, rfl, ?_⟩
  refine zL (fun c => ?_) (fun c => ?_)
  ·obtain ⟨v, hv, hd⟩ := qK (-1 - far) 3 (3 + far) (cell / 10)
   refine ⟨zl1, fun p2 n2 => ?_⟩
   obtain ⟨H2, q2, s2, e2⟩ := zA n2 [.int 1]
   rw [<- q2]
   refine ⟨zl3, fun p3 n3 => ?_⟩
   obtain ⟨H3, q3, s3, e3⟩ := zA n3 [.int 1, .int 1, .int 1]
   rw [<- q3]
   refine ⟨zl1, fun p4 n4 => ?_⟩
   obtain ⟨H4, q4, s4, e4⟩ := zA n4 [.ref p3]
   rw [<- q4]
   refine ⟨zl1, fun p5 n5 => ?_⟩
   obtain ⟨H5, q5, s5, e5⟩ := zA n5 [.int 1]
   rw [<- q5]
   refine ⟨zl1, fun p6 n6 => ?_⟩
   obtain ⟨H6, q6, s6, e6⟩ := zA n6 [.int 1]
   rw [<- q6]
   refine ⟨zl1, fun p7 n7 => ?_⟩
   obtain ⟨H7, q7, s7, e7⟩ := zA n7 [.int 1]
   rw [<- q7]
   refine ⟨zl3, fun p8 n8 => ?_⟩
   obtain ⟨H8, q8, s8, e8⟩ := zA n8 [.ref p5, .ref p6, .ref p7]
   rw [<- q8]
   refine ⟨_, rfl, _, rfl, _, _, rfl, rfl, _, rfl, _, _, rfl, rfl, zl3, fun p9 n9 => ?_⟩
   obtain ⟨H9, q9, s9, e9⟩ := zA n9 [.int (-1 - far), .int (3), .int (3 + far)]
   rw [<- q9]
   exact ⟨_, rfl, _, _, rfl, rfl, ⟨by decide, by decide⟩, _, _, rfl, rfl, zi3, p9, _, _, _, rfl, rfl, SqL.of e9, hv, ⟨_, _, p2, p4, p8, [p3], [p5, p6, p7], [1], [[1, 1, 1]], [[1], [1], [1]], rfl, SqL.of ((s3.trans (s4.trans (s5.trans (s6.trans (s7.trans (s8.trans (s9))))))) _ _ e2), TabL.one ((s5.trans (s6.trans (s7.trans (s8.trans (s9))))) _ _ e4) (SqL.of ((s4.trans (s5.trans (s6.trans (s7.trans (s8.trans (s9)))))) _ _ e3)), TabL.three ((s9) _ _ e8) (SqL.of ((s6.trans (s7.trans (s8.trans (s9)))) _ _ e5)) (SqL.of ((s7.trans (s8.trans (s9))) _ _ e6)) (SqL.of ((s8.trans (s9)) _ _ e7)), .inr (.inr ⟨tb3, by decide, (fun z => by have z1 : 0 <= v := z.1; have z2 : v < 3 := z.2; omega), _, Less.same (s1.trans (s2.trans (s3.trans (s4.trans (s5.trans (s6.trans (s7.trans (s8.trans (s9))))))))), q⟩)⟩⟩
  refine ⟨_, rfl, rfl, _, rfl, ?_⟩
  refine zL (fun c => ?_) (fun c => ?_)
  ·refine ⟨zl3, fun p2 n2 => ?_⟩
   obtain ⟨H2, q2, s2, e2⟩ := zA n2 [.int 1, .int 0, .int 2]
   rw [<- q2]
   refine .inl ⟨p2, [1, 0, 2], rfl, e2, xW, fun x H3 nx sn s3 => ?_⟩
   have sl := sn H3 (fun b o e _ => e)
   obtain ⟨gc, dx, kl, sgn, pl, nl, as, hx, hk, hg, kp, hn⟩ := id sl
   exact ⟨x, T.O, dx, _, rfl, hx, rfl, kn _ _ _ _ _, _, rfl, ⟨x, [1, 0, 2], sg, 1, rfl, sl, .inl ⟨bs, _, Less.same (s1.trans (s2.trans (s3))), q⟩⟩⟩
  refine ⟨zl3, fun p2 n2 => ?_⟩
  obtain ⟨H2, q2, s2, e2⟩ := zA n2 [.int 1, .int 0, .int 2]
  rw [<- q2]
  refine .inl ⟨p2, [1, 0, 2], rfl, e2, xW, fun x H3 nx sn s3 => ?_⟩
  have sl := sn H3 (fun b o e _ => e)
  obtain ⟨gc, dx, kl, sgn, pl, nl, as, hx, hk, hg, kp, hn⟩ := id sl
  refine ⟨x, T.O, dx, _, rfl, hx, rfl, zaG _ _ _ _ _, _, rfl, zl2, fun p4 n4 => ?_⟩
  obtain ⟨H4, q4, s4, e4⟩ := zA n4 [.int 2, .int sg]
  rw [<- q4]
  exact ⟨x, p4, [1, 0, 2], 4, [2, sg], rfl, sl.same s4, SqL.of e4, .inr ⟨by decide, by decide, (by show 0 < 2; decide), bs, _, Less.same (s1.trans (s2.trans (s3.trans (s4)))), q⟩⟩
abbrev zdH : Stmt := top 74
def Sx68 : zm ["cell", "far"] ["cell", "far"] (zd zdH) := by walk_at "s"
def Bx68 (K : Frag) (T : Cl) (ec : Ec) : BSp := fun vs H E => ∃ (cell far : Int), vs = [.int cell, .int far] /\ 0 <= far /\ E (.ref ec.noSlot) none H
abbrev Yx68 : Prop := CalX P w K mg base 6 "_law_no_slot" ["cell", "far"] (fun vs H _ E => Bx68 K T ec vs H E)
theorem ox68 (D : Def K mg "_law_no_slot" zdH ["cell", "far"]) (Cx5 : @Yx5 P w K mg base T ec) (Cx51 : @Yx51 P w K mg base T ec) (Cx49 : @zan P w K mg base T ec) : @Yx68 P w K mg base T ec := by
 refine D.okR Sx68 ?_ (fun _ _ _ _ _ H vs E hr h => ?_)
 ·walk_at "l"
 ·obtain ⟨cell, far, rfl, hf, q⟩ := h
  refine ⟨_, (ze (zy (zl zH (zq zR (pv 0) zb) zb (zt _)) (ze (zi (zp (Cx5.up) zr hr rfl (@zg _ _ _ _ _ (@zD _ _ _ _ (@zg _ _ _ _ _ zb (@zg _ _ _ _ _ zb (@zg _ _ _ _ _ zb za rfl) rfl) rfl)) (@zg _ _ _ _ _ (zU zK (@zD _ _ _ _ (@zg _ _ _ _ _ (zq xz (yG yn zb) (pv 1)) (@zg _ _ _ _ _ zb (@zg _ _ _ _ _ (zq z8 zb (pv 1)) za rfl) rfl) rfl)) (zq zR (zq yi (pv 0) zb) zb) (fun _ _ => rfl)) za rfl) rfl)))) (ze (zi (yc (Cs := fun C => C = T.O) (spm := fun _ => fun vs H _ E => Bx51 K T ec vs H E) (zY (Cx49.up) zr hr rfl (@zg _ _ _ _ _ (@zD _ _ _ _ (@zg _ _ _ _ _ zb (@zg _ _ _ _ _ zb (@zg _ _ _ _ _ zb za rfl) rfl) rfl)) za rfl)) (fun _ e => by subst e; exact ⟨tf.fO.cl, Cx51.up⟩) zr hr (@zg _ _ _ _ _ zb (@zg _ _ _ _ _ (zU zK (@zD _ _ _ _ (@zg _ _ _ _ _ zb (@zg _ _ _ _ _ zb (@zg _ _ _ _ _ (yG yn (pv 1)) (@zg _ _ _ _ _ (zq z8 zb (pv 1)) za rfl) rfl) rfl) rfl)) (zq zR (zq yi (pv 0) zb) zb) (fun _ _ => rfl)) za rfl) rfl)))))), ?_⟩
  refine ⟨_, rfl, _, _, rfl, rfl, zi3, rfl, _, rfl, ?_⟩
  refine zL (fun c => ?_) (fun c => ?_)
  ·obtain ⟨v, hv, hc⟩ := qK (-1 - far) (3) (3 + far) (cell / 3)
   refine ⟨zl3, fun p1 n1 => ?_⟩
   obtain ⟨H1, q1, s1, e1⟩ := zA n1 [.int 1, .int 0, .int 2]
   rw [<- q1]
   refine ⟨_, rfl, _, rfl, _, _, rfl, rfl, _, rfl, _, _, rfl, rfl, zl3, fun p2 n2 => ?_⟩
   obtain ⟨H2, q2, s2, e2⟩ := zA n2 [.int (-1 - far), .int (3), .int (3 + far)]
   rw [<- q2]
   exact ⟨_, rfl, _, _, rfl, rfl, ⟨by decide, by decide⟩, _, _, rfl, rfl, zi3, p2, _, _, _, rfl, rfl, SqL.of e2, hv, .inr ⟨p1, [1, 0, 2], v, rfl, SqL.of ((s2) _ _ e1), .inr ⟨xW, fun z => by have e : ([1, 0, 2] : List Int).sum = 3 := rfl; omega, _, Less.same (s1.trans (s2)), q⟩⟩⟩
  ·obtain ⟨v, hv, hc⟩ := zc6 1 4 (-far) (4 + far) (cell / 3)
   refine ⟨zl3, fun p1 n1 => ?_⟩
   obtain ⟨H1, q1, s1, e1⟩ := zA n1 [.int 1, .int 0, .int 2]
   rw [<- q1]
   refine .inl ⟨p1, [1, 0, 2], rfl, e1, xW, fun x HO nx sn s2 => ?_⟩
   have sl := sn HO (fun b o e _ => e)
   obtain ⟨gc, dx, kl, sg, pl, nl, as, hx, hk, hg, kp, hn⟩ := id sl
   refine ⟨x, T.O, dx, _, rfl, hx, rfl, kn _ _ _ _ _, _, rfl, _, rfl, _, rfl, _, _, rfl, rfl, zl4, fun p3 n3 => ?_⟩
   obtain ⟨H3, q3, s3, e3⟩ := zA n3 [.int 1, .int 4, .int (-far), .int (4 + far)]
   rw [<- q3]
   exact ⟨_, rfl, _, _, rfl, rfl, ⟨by decide, by decide⟩, _, _, rfl, rfl, zi4, p3, _, _, _, rfl, rfl, SqL.of e3, hv, ⟨x, [1, 0, 2], 2, v, rfl, sl.same s3, .inr ⟨⟨by decide, by decide, by decide⟩, fun z => by have e : ([1, 0, 2] : List Int).getD (2 : Int).toNat 0 = 2 := rfl; omega, _, Less.same (s1.trans (s2.trans (s3))), q⟩⟩⟩
abbrev zdI : Stmt := top 75
def Sx69 : zm ["way", "cell", "far"] ["way", "cell", "far"] (zd zdI) := by walk_at "s"
def Bx69 (K : Frag) (T : Cl) (ec : Ec) : BSp := fun vs H E => ∃ (w0 : Nat) (cell far : Int), vs = [.int (w0 : Int), .int cell, .int far] /\ w0 < 7 /\ 0 <= far /\ E (.ref (ecAt ec w0)) none H
abbrev Yx69 : Prop := CalX P w K mg base 8 "_law_done" ["way", "cell", "far"] (fun vs H _ E => Bx69 K T ec vs H E)
theorem ox69 (D : Def K mg "_law_done" zdI ["way", "cell", "far"]) (Cx65 : @Yx65 P w K mg base T ec) (Cx66 : @Yx66 P w K mg base T ec) (Cx67 : @Yx67 P w K mg base T ec) (Cx68 : @Yx68 P w K mg base T ec) (Cx59 : @Yx59 P w K mg base T ec) (Cx56 : @Yx56 P w K mg base T ec) (Cx54 : @Yx54 P w K mg base T ec) (Cx49 : @zan P w K mg base T ec) (Cx19 : @Yx19 P w K mg base T ec) (Cx26 : @Yx26 P w K mg base T ec) : @Yx69 P w K mg base T ec := by
 refine D.okR Sx69 ?_ (fun _ _ _ _ _ H vs E hr h => ?_)
 ·walk_at "l"
 ·obtain ⟨w0, cell, far, rfl, hw, hf, q⟩ := h
  refine ⟨_, (ze (zy (zl zH (pv 0) zb (zt _)) (ze (zi (zp (Cx65.up) zr hr rfl (@zg _ _ _ _ _ (pv 1) (@zg _ _ _ _ _ (pv 2) za rfl) rfl)))) (ze (zy (zl zH (pv 0) zb (zt _)) (ze (zi (zp (Cx66.up) zr hr rfl (@zg _ _ _ _ _ (pv 1) (@zg _ _ _ _ _ (pv 2) za rfl) rfl)))) (ze (zy (zl zH (pv 0) zb (zt _)) (ze (zi (zp (Cx67.up) zr hr rfl (@zg _ _ _ _ _ (pv 1) (@zg _ _ _ _ _ (pv 2) za rfl) rfl)))) (ze (zy (zl zH (pv 0) zb (zt _)) (ze (zi (zp (Cx68.up) zr hr rfl (@zg _ _ _ _ _ (pv 1) (@zg _ _ _ _ _ (pv 2) za rfl) rfl)))) (ze (zy (PW.pt (zeC (zl zH (pv 0) zb (zt _)) (zdM (zl zH (zq zR (pv 1) zb) zb (zt _))))) (ze (zi (zah (Cs := fun C => C = T.S) (spm := fun _ => Px59 K T ec) (zY (Cx56.up) zr hr rfl (@zg _ _ _ _ _ (@zD _ _ _ _ (@zg _ _ _ _ _ zb (@zg _ _ _ _ _ zb za rfl) rfl)) (@zg _ _ _ _ _ zb (@zg _ _ _ _ _ (zq z8 zb (zq zR (zq yi (pv 1) zb) zb)) za rfl) rfl) rfl) (he := zG rfl) (hpl := zM rfl)) (fun _ e => by subst e; exact ⟨tf.fS.cl, Cx59.up⟩) zr hr))) (ze (zy (zl zH (pv 0) zb (zt _)) (ze (zi (yc (Cs := fun C => C = T.O) (spm := fun _ => fun vs H _ E => Bx54 K T ec vs H E) (zY (Cx49.up) zr hr rfl (@zg _ _ _ _ _ (@zD _ _ _ _ (@zg _ _ _ _ _ zb (@zg _ _ _ _ _ zb (@zg _ _ _ _ _ zb za rfl) rfl) rfl)) za rfl)) (fun _ e => by subst e; exact ⟨tf.fO.cl, Cx54.up⟩) zr hr (@zg _ _ _ _ _ (zq z8 zb (zq zR (zq yi (pv 1) zb) zb)) (@zg _ _ _ _ _ (@zD _ _ _ _ za) (@zg _ _ _ _ _ zb za rfl) rfl) rfl) (hst := zG rfl) (hpl := zM rfl)))) (ze (zy (zl zH (pv 0) zb (zt _)) (ze (zi (zp (Cx19.up) zr hr rfl (@zg _ _ _ _ _ (zU zK (@zD _ _ _ _ (@zg _ _ _ _ _ (zq zaN (yl (m := [120]) (by decide +kernel)) zb) (@zg _ _ _ _ _ (yl (m := [97, 10, 98]) (by decide +kernel)) (@zg _ _ _ _ _ (yl (m := [9]) (by decide +kernel)) (@zg _ _ _ _ _ (zq zaN (yl (m := [120]) (by decide +kernel)) (zq z8 zb (zq zR (pv 2) zb))) za rfl) rfl) rfl) rfl)) (zq zR (pv 1) zb) (fun _ _ => rfl)) za rfl)))) (ze (zi (zp (Cx26.up) zr hr rfl (@zg _ _ _ _ _ (zU zK (@zD _ _ _ _ (@zg _ _ _ _ _ (yl (m := []) (by decide +kernel)) (@zg _ _ _ _ _ (yl (m := [59]) (by decide +kernel)) (@zg _ _ _ _ _ (yl (m := [49, 120, 49]) (by decide +kernel)) (@zg _ _ _ _ _ (yl (m := [49, 120, 49, 59, 98, 59]) (by decide +kernel)) (@zg _ _ _ _ _ (yl (m := [57, 120, 57]) (by decide +kernel)) za rfl) rfl) rfl) rfl) rfl)) (zq zR (pv 1) zb) (fun _ _ => rfl)) za rfl)))))))))))))))))), ?_⟩
  refine ⟨_, rfl, rfl, _, rfl, ?_⟩
  refine zL (fun c => ?_) (fun c => ?_)
  ·have e : (w0 : Int) = 0 := V.int.inj (of_decide_eq_true c)
   have e : w0 = 0 := by omega
   subst e
   exact ⟨_, rfl, _, rfl, cell, far, rfl, hf, _, Less.refl, q⟩
  have nw0 : w0 ≠ 0 := fun z => c (decide_eq_true (by rw [z]; rfl))
  refine ⟨_, rfl, rfl, _, rfl, ?_⟩
  refine zL (fun c => ?_) (fun c => ?_)
  ·have e : (w0 : Int) = 1 := V.int.inj (of_decide_eq_true c)
   have e : w0 = 1 := by omega
   subst e
   exact ⟨_, rfl, _, rfl, cell, far, rfl, hf, _, Less.refl, q⟩
  have nw1 : w0 ≠ 1 := fun z => c (decide_eq_true (by rw [z]; rfl))
  refine ⟨_, rfl, rfl, _, rfl, ?_⟩
  refine zL (fun c => ?_) (fun c => ?_)
  ·have e : (w0 : Int) = 2 := V.int.inj (of_decide_eq_true c)
   have e : w0 = 2 := by omega
   subst e
   exact ⟨_, rfl, _, rfl, cell, far, rfl, hf, _, Less.refl, q⟩
  have nw2 : w0 ≠ 2 := fun z => c (decide_eq_true (by rw [z]; rfl))
  refine ⟨_, rfl, rfl, _, rfl, ?_⟩
  refine zL (fun c => ?_) (fun c => ?_)
  ·have e : (w0 : Int) = 3 := V.int.inj (of_decide_eq_true c)
   have e : w0 = 3 := by omega
   subst e
   exact ⟨_, rfl, _, rfl, cell, far, rfl, hf, _, Less.refl, q⟩
  have nw3 : w0 ≠ 3 := fun z => c (decide_eq_true (by rw [z]; rfl))
  refine ⟨_, rfl, rfl, _, rfl, ?_⟩
  refine and2 (fun c => ?_) (fun c => ?_)
  ·have e : (w0 : Int) = 4 := V.int.inj (of_decide_eq_true c)
   have e : w0 = 4 := by omega
   subst e
   refine ⟨_, rfl, _, _, rfl, rfl, zi2, rfl, _, rfl, ?_⟩
   refine zL (fun c => ?_) (fun c => ?_)
   ·refine ⟨zl2, fun p1 n1 => ?_⟩
    obtain ⟨H1, q1, s1, e1⟩ := zA n1 [.int 1, .int 2]
    rw [<- q1]
    have g0 := Int.emod_nonneg (cell / 2) (show (100 : Int) ≠ 0 by decide)
    have g1 := Int.emod_lt_of_pos (cell / 2) (show (0 : Int) < 100 by decide)
    refine ⟨_, rfl, _, _, rfl, rfl, ⟨by decide, by decide⟩, _, _, rfl, rfl, zi100, _, _, rfl, rfl, .inl ⟨p1, [1, 2], 10, 1 + cell / 2 % 100, rfl, SqL.of e1, zbt, by decide, by decide, by omega, by omega, fun x kl wl H2 nx n4 n5 st s2 => ?_⟩⟩
    obtain ⟨dx, hx⟩ := st.ob
    exact ⟨x, T.S, dx, _, rfl, hx, rfl, zd7 _ _ _ _ _ _, x, kl, wl, [1, 2], 10, _, _, [], rfl, st, kh zbt (by decide) (by decide) (by omega) (by omega), .inl ⟨zek (by omega), fun H' sm => ⟨_, Less.same ((s1.trans (s2)).trans sm), q⟩⟩⟩
   refine ⟨_, rfl, rfl, _, rfl, ?_⟩
   refine zL (fun _ => ?_) (fun c => absurd (decide_eq_true rfl) c)
   refine ⟨zl3, fun p1 n1 => ?_⟩
   obtain ⟨H1, q1, s1, e1⟩ := zA n1 [.int 1, .int 2, .int 3]
   rw [<- q1]
   refine .inl ⟨p1, [1, 2, 3], rfl, e1, zev, fun x H2 nx sn s2 => ?_⟩
   have sl := sn H2 (fun b o e _ => e)
   obtain ⟨gc, dx, kl, sgn, pl, nl, as, hx, hk, hg, kp, hn⟩ := id sl
   have g0 := Int.emod_nonneg (cell / 2) (show (6 : Int) ≠ 0 by decide)
   have g1 := Int.emod_lt_of_pos (cell / 2) (show (0 : Int) < 6 by decide)
   refine ⟨x, T.O, dx, _, rfl, hx, rfl, vS _ _ _ _ _, _, rfl, _, _, rfl, rfl, ⟨by decide, by decide⟩, _, _, rfl, rfl, zi6, _, _, rfl, rfl, zl0, fun p3 n3 => ?_⟩
   obtain ⟨H3, q3, s3, e3⟩ := zA n3 []
   rw [<- q3]
   exact ⟨x, p3, [1, 2, 3], 6 + cell / 2 % 6, 9, rfl, sl.same s3, SqL.of e3, .inr ⟨(by show (6 : Int) <= _; omega), (by show _ < (12 : Int); omega), by decide, by decide, zfh, _, Less.same (s1.trans (s2.trans (s3))), q⟩⟩
  have nw4 : w0 ≠ 4 := fun z => by subst z; exact absurd c (by decide)
  refine ⟨_, rfl, rfl, _, rfl, ?_⟩
  refine zL (fun c => absurd (V.int.inj (of_decide_eq_true c)) (by omega)) (fun c => ?_)
  refine ⟨_, rfl, rfl, _, rfl, ?_⟩
  refine zL (fun c => ?_) (fun c => ?_)
  ·have e : (w0 : Int) = 5 := V.int.inj (of_decide_eq_true c)
   have e : w0 = 5 := by omega
   subst e
   have g0 := Int.emod_nonneg far (show (900 : Int) ≠ 0 by decide)
   have g1 := Int.emod_lt_of_pos far (show (0 : Int) < 900 by decide)
   refine ⟨120, 151, rfl, rfl, by decide, by decide, _, rfl, _, _, rfl, rfl, zi900, _, _, rfl, rfl, 120, _, rfl, rfl, by omega, by omega, zl4, fun p1 n1 => ?_⟩
   obtain ⟨H1, q1, s1, e1⟩ := zA n1 [.str (tx (List.replicate (151 : Int).toNat 120)), .str (tx [97, 10, 98]), .str (tx [9]), .str (tx (List.replicate (151 + far % 900).toNat 120))]
   rw [<- q1]
   obtain ⟨y, hv, hc⟩ := at4 (.str (tx (List.replicate (151 : Int).toNat 120))) (.str (tx [97, 10, 98])) (.str (tx [9])) (.str (tx (List.replicate (151 + far % 900).toNat 120))) cell
   refine ⟨_, rfl, _, _, rfl, rfl, zi4, p1, _, _, _, rfl, rfl, SqL.of e1, hv, ?_⟩
   rcases hc with rfl | rfl | rfl | rfl
   ·exact .inr ⟨_, rfl, fun g => by have := g.len; rw [List.length_replicate] at this; omega, by rw [List.length_replicate]; omega, _, Less.same s1, q⟩
   ·exact .inr ⟨_, rfl, fun g => absurd (g.sg 10 (by decide)) (by decide +kernel), by decide, _, Less.same s1, q⟩
   ·exact .inr ⟨_, rfl, fun g => absurd (g.sg 9 (by decide)) (by decide +kernel), by decide, _, Less.same s1, q⟩
   ·exact .inr ⟨_, rfl, fun g => by have := g.len; rw [List.length_replicate] at this; omega, by rw [List.length_replicate]; omega, _, Less.same s1, q⟩
  ·have nw5 : w0 ≠ 5 := fun z => c (decide_eq_true (by rw [z]; rfl))
   have e : w0 = 6 := by omega
   subst e
   refine ⟨zl5, fun p1 n1 => ?_⟩
   obtain ⟨H1, q1, s1, e1⟩ := zA n1 [.str (tx []), .str (tx [59]), .str (tx [49, 120, 49]), .str (tx [49, 120, 49, 59, 98, 59]), .str (tx [57, 120, 57])]
   rw [<- q1]
   obtain ⟨y, hv, hc⟩ := at5 (.str (tx [])) (.str (tx [59])) (.str (tx [49, 120, 49])) (.str (tx [49, 120, 49, 59, 98, 59])) (.str (tx [57, 120, 57])) cell
   refine ⟨_, rfl, _, _, rfl, rfl, zi5, p1, _, _, _, rfl, rfl, SqL.of e1, hv, ?_⟩
   have fin : ∀ m : List Nat, m.length <= 3000 -> (∀ c ∈ m, c < 128) -> (∀ c, m.getLast? = some c -> c < 97) -> Px26 K T ec [.str (tx m)] H1 (fun _ _ => False) (wq H E) := fun m h1 h2 h3 => ⟨m, rfl, ⟨h1, h2⟩, fun l hl => (by rw [zc5 h3] at hl; cases hl), fun _ H' sm => ⟨_, Less.same (s1.trans sm), q⟩⟩
   rcases hc with rfl | rfl | rfl | rfl | rfl
   ·exact fin [] (by decide) (by decide) (fun c h => by cases h)
   ·exact fin [59] (by decide) (by decide) (fun c h => by cases h; decide)
   ·exact fin [49, 120, 49] (by decide) (by decide) (fun c h => by cases h; decide)
   ·exact fin [49, 120, 49, 59, 98, 59] (by decide) (by decide) (fun c h => by cases h; decide)
   ·exact fin [57, 120, 57] (by decide) (by decide) (fun c h => by cases h; decide)
abbrev jK : Stmt := top 76
def Sx70 : zm ["script", "way", "far", "told", "e"] ["script"] (zd jK) := by walk_at "s"
def Px70 (K : Frag) (T : Cl) (ec : Ec) : Sp := fun vs H Q _ => ∃ (a : Addr) (ns : List Int), vs = [.ref a] /\ SqL K H a (ns.map V.int) /\ ns.length <= 63 /\ ∀ H', Q (.bl true) H'
theorem zfi {f : Addr} {fd : FuncData} (F : Fun K "law" "law" jK f fd) (Cx61 : @Yx61 P w K mg base T ec) (Cx60 : @Yx60 P w K mg base T ec) (Cx69 : @Yx69 P w K mg base T ec) : FnOk P w K mg base CX0 9 f fd ["script"] (Px70 K T ec) := by
 refine F.okD Sx70 ?_ (fun _ _ _ _ H vs Q E hr h => ?_)
 ·walk_at "l"
 obtain ⟨a, ns, rfl, hS, hlen, q⟩ := h
 refine ⟨_, (zf (zx (i := 1) Sx70.nd rfl (Or.inr rfl) (zq zR (zN (Cx60.up) hr rfl (@zg _ _ _ _ _ (pv 0) (@zg _ _ _ _ _ zb za rfl) rfl)) zb))
   (zf (zx (i := 2) Sx70.nd rfl (Or.inl rfl) (zq zR (zN (Cx60.up) hr rfl (@zg _ _ _ _ _ (pv 0) (@zg _ _ _ _ _ zb za rfl) rfl)) (zq zbW zb zb)))
   (zf (zx (i := 3) Sx70.nd rfl (Or.inl rfl) (@zD _ _ _ _ za))
   (zf (zcZ (i := 4) Sx70.nd rfl rfl ⟨rfl, rfl⟩ rfl (zct (jQ (Cx69.up) hr rfl rfl (@zg _ _ _ _ _ (pv 1) (@zg _ _ _ _ _ (zN (Cx60.up) hr rfl (@zg _ _ _ _ _ (pv 0) (@zg _ _ _ _ _ zb za rfl) rfl)) (@zg _ _ _ _ _ (pv 2) za rfl) rfl) rfl))) rfl xf.m0 xf.o0 (fun _ _ _ _ hx => withR (hr.h.mark _) fun hr => (ze (zx (i := 3) Sx70.nd rfl (Or.inl rfl) (zej (Cx61.up) hr rfl (@zg _ _ _ _ _ (pv 4) za rfl))))))
   (ze (zV (kD (zeh (hU hr)) (pv 3) (jv (caps := [(1, "way")]) rfl (xC rfl z.range (@zg _ _ _ _ _ zb za rfl)) ⟨rfl, by decide +kernel, by decide +kernel, rfl⟩ ⟨⟨rfl, Or.inl rfl, rfl⟩, trivial⟩ rfl (by decide +kernel) (fun _ _ _ _ => yX) (fun _ _ _ _ => (pe_or (kD zH (pv 0) (pv 1) (zt _)) (zeD (kD zH (pv 0) zb (zt _)))))) (zt _)))))))), ?_⟩
 have m0 := Int.emod_nonneg (xm ns 0) (show (7 : Int) ≠ 0 by decide)
 have m1 := Int.emod_lt_of_pos (xm ns 0) (show (0 : Int) < 7 by decide)
 have f0 := Int.emod_nonneg (xm ns 2) (show (10 ^ (59 : Int).toNat : Int) ≠ 0 by decide +kernel)
 refine ⟨_, rfl, a, ns, _, rfl, hS, by decide, _, _, rfl, rfl, zi7, ?_⟩
 refine ⟨_, rfl, a, ns, _, rfl, hS, by decide, _, _, rfl, rfl, ⟨by decide, by decide, by decide⟩, _, _, rfl, rfl, (by show (0 : Int) < 10 ^ (59 : Int).toNat; decide +kernel), ?_⟩
 obtain ⟨w0, ew⟩ : ∃ w0 : Nat, xm ns 0 % 7 = (w0 : Int) := ⟨_, (Int.toNat_of_nonneg m0).symm⟩
 have hw : w0 < 7 := by omega
 refine ⟨zl0, fun t0 nt => ?_⟩
 have mr : mroIn K (ecAt ec w0) (.ref ec.pileError) = some true := by
  have hw' : w0 = 0 \/ w0 = 1 \/ w0 = 2 \/ w0 = 3 \/ w0 = 4 \/ w0 = 5 \/ w0 = 6 := by omega
  rcases hw' with rfl | rfl | rfl | rfl | rfl | rfl | rfl
  ·exact xf.p1
  ·exact xf.p2
  ·exact xf.p3
  ·exact xf.p4
  ·exact xf.p5
  ·exact xf.p6
  ·exact xf.p7
 refine ⟨_, rfl, _, rfl, a, ns, _, rfl, hS.up nt, by decide, _, rfl, w0, xm ns 1, xm ns 2 % 10 ^ (59 : Int).toNat, (by rw [<- ew]), hw, f0, ecAt ec w0, rfl, mr, fun e he => ?_⟩
 refine ⟨_, rfl, rfl, w0, hw, rfl, fun p H' sm ep => ?_⟩
 refine ⟨_, rfl, 8, rfl, by decide, by decide, fun D hD => ?_⟩
 have w := zcb (lo := 0) (n := 8) (D := D) (H1 := H')
 refine jw (whF w0) (by rw [List.length_map, List.length_range]; exact szl (by decide)) w.1 w.2 ?_ ?_
 ·rintro x hx ys R r
  obtain ⟨k, hk, rfl⟩ := List.mem_map.mp hx
  have r' : R (.bl (decide (V.int (0 + ((k : Nat) : Int)) = V.int (w0 : Int)) || decide (V.int (0 + ((k : Nat) : Int)) = V.int 7))) (upd H' D (.lst ys)) := r
  rw [<- ew] at r'
  refine ⟨_, rfl, _, rfl, rfl, _, rfl, ?_⟩
  refine zL (fun c => ?_) (fun c => ?_)
  ·have c' : decide (V.int (0 + ((k : Nat) : Int)) = V.int (xm ns 0 % 7)) = true := c
   rw [c'] at r'
   exact r'
  ·have c' : decide (V.int (0 + ((k : Nat) : Int)) = V.int (xm ns 0 % 7)) = false := Bool.eq_false_iff.mpr c
   rw [c'] at r'
   exact ⟨_, rfl, rfl, r'⟩
 have ee : ((List.range 8).map fun k => V.int (0 + ((k : Nat) : Int))).map (whF w0) = qI w0 := zc8 hw
 rw [ee]
 obtain ⟨o1, o2⟩ := zc9 hw
 exact ⟨p, D, _, rfl, rfl, SqL.of (zF ep hD), SqL.of zh, o1, o2, _, Less.same ((zB nt).trans (sm.trans (zB hD))), q _⟩
end
def vn (K : Frag) : Sp := fun vs H Q _ => ∃ (a : Addr) (ns : List Int), vs = [.ref a] /\ SqL K H a (ns.map V.int) /\ ns.length <= 63 /\ ∀ H', Q (.bl true) H'
theorem all_mk {l : PySem.W.OpenLaw} {w : World} {K : Frag} {h : Heap} {mg : Mq} {fa : Addr} (X : K.In h) (G : h.Ns mainGlobals mg) (hfa : mg "law" = some (.ref fa)) {KM KP KL KF KO KS Kx0 Kx1 Kx2 Kx3 Kx4 Kx5 Kx6 Kx7 f0 f1 f2 f3 f4 f5 f6 f7 f8 f9 f10 f11 f12 f13 f14 f15 f16 f17 f18 f19 f20 f21 f22 f23 f24 f25 f26 f27 f28 f29 f30 f31 f32 dT32 f33 f34 f35 f36 dT36 f37 f38 f39 f40 f41 f42 f43 f44 f45 f46 f47 f48 f49 dT49 f50 f51 f52 f53 f54 f55 f56 f57 f58 f59 f60 f61 f62 : Addr} {od0 an0 od1 an1 od2 an2 od3 an3 od4 an4 od5 an5 od6 an6 od7 an7 od8 an8 od9 an9 od10 an10 od11 an11 od12 an12 od13 an13 od14 an14 od15 an15 od16 an16 od17 an17 od18 an18 od19 an19 od20 an20 od21 an21 od22 an22 od23 an23 od24 an24 od25 an25 od26 an26 od27 an27 od28 an28 od29 an29 od30 an30 od31 an31 od32 an32 dod32 od33 an33 od34 an34 od35 an35 od36 an36 dod36 od37 an37 od38 an38 od39 an39 od40 an40 od41 an41 od42 an42 od43 an43 od44 an44 od45 an45 od46 an46 od47 an47 od48 an48 od49 an49 dod49 od50 an50 od51 an51 od52 an52 od53 an53 od54 an54 od55 an55 od56 an56 od57 an57 od58 an58 od59 an59 od60 an60 od61 an61 od62 an62 : Option Addr} {sl0 sl1 sl2 sl3 sl4 sl5 sl6 sl7 sl8 sl9 sl10 sl11 sl12 sl13 sl14 sl15 sl16 sl17 sl18 sl19 sl20 sl21 sl22 sl23 sl24 sl25 sl26 sl27 sl28 sl29 sl30 sl31 sl32 dsl32 sl33 sl34 sl35 sl36 dsl36 sl37 sl38 sl39 sl40 sl41 sl42 sl43 sl44 sl45 sl46 sl47 sl48 sl49 dsl49 sl50 sl51 sl52 sl53 sl54 sl55 sl56 sl57 sl58 sl59 sl60 sl61 sl62 : Array (Option Value)} {oc0 kV0 dc0 pm0 cd0 ct0 oc1 kV1 dc1 pm1 cd1 ct1 oc2 kV2 dc2 pm2 cd2 ct2 oc3 kV3 dc3 pm3 cd3 ct3 oc4 kV4 dc4 pm4 cd4 ct4 oc5 kV5 dc5 pm5 cd5 ct5 oc6 kV6 dc6 pm6 cd6 ct6 oc7 kV7 dc7 pm7 cd7 ct7 oc8 kV8 dc8 pm8 cd8 ct8 oc9 kV9 dc9 pm9 cd9 ct9 oc10 kV10 dc10 pm10 cd10 ct10 oc11 kV11 dc11 pm11 cd11 ct11 oc12 kV12 dc12 pm12 cd12 ct12 oc13 kV13 dc13 pm13 cd13 ct13 oc14 kV14 dc14 pm14 cd14 ct14 oc15 kV15 dc15 pm15 cd15 ct15 oc16 kV16 dc16 pm16 cd16 ct16 oc17 kV17 dc17 pm17 cd17 ct17 oc18 kV18 dc18 pm18 cd18 ct18 oc19 kV19 dc19 pm19 cd19 ct19 oc20 kV20 dc20 pm20 cd20 ct20 oc21 kV21 dc21 pm21 cd21 ct21 oc22 kV22 dc22 pm22 cd22 ct22 oc23 kV23 dc23 pm23 cd23 ct23 oc24 kV24 dc24 pm24 cd24 ct24 oc25 kV25 dc25 pm25 cd25 ct25 oc26 kV26 dc26 pm26 cd26 ct26 oc27 kV27 dc27 pm27 cd27 ct27 oc28 kV28 dc28 pm28 cd28 ct28 oc29 kV29 dc29 pm29 cd29 ct29 oc30 kV30 dc30 pm30 cd30 ct30 oc31 kV31 dc31 pm31 cd31 ct31 oc32 kV32 dc32 pm32 cd32 ct32 doc32 oc33 kV33 dc33 pm33 cd33 ct33 oc34 kV34 dc34 pm34 cd34 ct34 oc35 kV35 dc35 pm35 cd35 ct35 oc36 kV36 dc36 pm36 cd36 ct36 doc36 oc37 kV37 dc37 pm37 cd37 ct37 oc38 kV38 dc38 pm38 cd38 ct38 oc39 kV39 dc39 pm39 cd39 ct39 oc40 kV40 dc40 pm40 cd40 ct40 oc41 kV41 dc41 pm41 cd41 ct41 oc42 kV42 dc42 pm42 cd42 ct42 oc43 kV43 dc43 pm43 cd43 ct43 oc44 kV44 dc44 pm44 cd44 ct44 oc45 kV45 dc45 pm45 cd45 ct45 oc46 kV46 dc46 pm46 cd46 ct46 oc47 kV47 dc47 pm47 cd47 ct47 oc48 kV48 dc48 pm48 cd48 ct48 oc49 kV49 dc49 pm49 cd49 ct49 doc49 oc50 kV50 dc50 pm50 cd50 ct50 oc51 kV51 dc51 pm51 cd51 ct51 oc52 kV52 dc52 pm52 cd52 ct52 oc53 kV53 dc53 pm53 cd53 ct53 oc54 kV54 dc54 pm54 cd54 ct54 oc55 kV55 dc55 pm55 cd55 ct55 oc56 kV56 dc56 pm56 cd56 ct56 oc57 kV57 dc57 pm57 cd57 ct57 oc58 kV58 dc58 pm58 cd58 ct58 oc59 kV59 dc59 pm59 cd59 ct59 oc60 kV60 dc60 pm60 cd60 ct60 oc61 kV61 dc61 pm61 cd61 ct61 oc62 kV62 dc62 pm62 cd62 ct62 : Value} {dn32 dn36 dn49 : Nat} {dtk32 dtk36 dtk49 tk_MOST_SIGNS tk_MOST_COUNT tk_MOST_TEXT tk_MOST_FIGURES tk_SIGNS tk_LETTERS tk_MOST_STEP tk_LEAST_BASE tk_MOST_BASE tk_MOST_GRAIN : Tok}
  (aCM : nsIn K mainGlobals "Model" = some (some (.ref KM)))
  (aCP : nsIn K mainGlobals "Plain" = some (some (.ref KP)))
  (aCL : nsIn K mainGlobals "Learner" = some (some (.ref KL)))
  (aCF : nsIn K mainGlobals "Follower" = some (some (.ref KF)))
  (aCO : nsIn K mainGlobals "Slots" = some (some (.ref KO)))
  (aCS : nsIn K mainGlobals "Stream" = some (some (.ref KS)))
  (pgP : plainGet K KP Str.empty = true)
  (hdP : hasDictIn K KP = true)
  (poP : plainOver K KP = true)
  (saP : findIn K (.ref KP) "__setattr__" = some (some (.builtin "object.__setattr__")))
  (n_manyP : findIn K (.ref KP) "many" = some none)
  (n_stepP : findIn K (.ref KP) "step" = some none)
  (n_learntP : findIn K (.ref KP) "learnt" = some none)
  (n_keptP : findIn K (.ref KP) "kept" = some none)
  (n_tellerP : findIn K (.ref KP) "teller" = some none)
  (n_behindP : findIn K (.ref KP) "behind" = some none)
  (x1P : findIn K (.ref KP) "__class__" = some (some (.builtin "object.__class__")))
  (x4P : mroIn K KP (.type "object") = some true)
  (ktP : kitOne K (.ref KP) (.ref KM) = some true)
  (pgL : plainGet K KL Str.empty = true)
  (hdL : hasDictIn K KL = true)
  (poL : plainOver K KL = true)
  (saL : findIn K (.ref KL) "__setattr__" = some (some (.builtin "object.__setattr__")))
  (n_manyL : findIn K (.ref KL) "many" = some none)
  (n_stepL : findIn K (.ref KL) "step" = some none)
  (n_learntL : findIn K (.ref KL) "learnt" = some none)
  (n_keptL : findIn K (.ref KL) "kept" = some none)
  (n_tellerL : findIn K (.ref KL) "teller" = some none)
  (n_behindL : findIn K (.ref KL) "behind" = some none)
  (x1L : findIn K (.ref KL) "__class__" = some (some (.builtin "object.__class__")))
  (x4L : mroIn K KL (.type "object") = some true)
  (ktL : kitOne K (.ref KL) (.ref KM) = some true)
  (pgF : plainGet K KF Str.empty = true)
  (hdF : hasDictIn K KF = true)
  (poF : plainOver K KF = true)
  (saF : findIn K (.ref KF) "__setattr__" = some (some (.builtin "object.__setattr__")))
  (n_manyF : findIn K (.ref KF) "many" = some none)
  (n_stepF : findIn K (.ref KF) "step" = some none)
  (n_learntF : findIn K (.ref KF) "learnt" = some none)
  (n_keptF : findIn K (.ref KF) "kept" = some none)
  (n_tellerF : findIn K (.ref KF) "teller" = some none)
  (n_behindF : findIn K (.ref KF) "behind" = some none)
  (x1F : findIn K (.ref KF) "__class__" = some (some (.builtin "object.__class__")))
  (x4F : mroIn K KF (.type "object") = some true)
  (ktF : kitOne K (.ref KF) (.ref KM) = some true)
  (pgO : plainGet K KO Str.empty = true)
  (hdO : hasDictIn K KO = true)
  (poO : plainOver K KO = true)
  (saO : findIn K (.ref KO) "__setattr__" = some (some (.builtin "object.__setattr__")))
  (n_keptO : findIn K (.ref KO) "kept" = some none)
  (n_totalO : findIn K (.ref KO) "total" = some none)
  (n_signsO : findIn K (.ref KO) "signs" = some none)
  (n_placesO : findIn K (.ref KO) "places" = some none)
  (n_numbersO : findIn K (.ref KO) "numbers" = some none)
  (pgS : plainGet K KS Str.empty = true)
  (hdS : hasDictIn K KS = true)
  (poS : plainOver K KS = true)
  (saS : findIn K (.ref KS) "__setattr__" = some (some (.builtin "object.__setattr__")))
  (n_keptS : findIn K (.ref KS) "kept" = some none)
  (n_baseS : findIn K (.ref KS) "base" = some none)
  (n_grainS : findIn K (.ref KS) "grain" = some none)
  (n_lowS : findIn K (.ref KS) "low" = some none)
  (n_numberS : findIn K (.ref KS) "number" = some none)
  (n_wordsS : findIn K (.ref KS) "words" = some none)
  (x2 : specialIn K (.builtin "object.__class__") "__get__" = some (some (.builtin "getset_descriptor.__get__")))
  (x3 : takesIn K (.builtin "object.__class__") = some true)
  (nnPL : KP ≠ KL)
  (nnPF : KP ≠ KF)
  (nnLP : KL ≠ KP)
  (nnLF : KL ≠ KF)
  (nnFP : KF ≠ KP)
  (nnFL : KF ≠ KL)
  (xa0 : nsIn K mainGlobals "PileError" = some (some (.ref Kx0)))
  (xo0 : excIn K Kx0 bmV "ValueError.__new__" = true)
  (xa1 : nsIn K mainGlobals "NoShares" = some (some (.ref Kx1)))
  (xo1 : excIn K Kx1 bmV "ValueError.__new__" = true)
  (xp1 : mroIn K Kx1 (.ref Kx0) = some true)
  (xa2 : nsIn K mainGlobals "NoPile" = some (some (.ref Kx2)))
  (xo2 : excIn K Kx2 bmV "ValueError.__new__" = true)
  (xp2 : mroIn K Kx2 (.ref Kx0) = some true)
  (xa3 : nsIn K mainGlobals "NoSign" = some (some (.ref Kx3)))
  (xo3 : excIn K Kx3 bmV "ValueError.__new__" = true)
  (xp3 : mroIn K Kx3 (.ref Kx0) = some true)
  (xa4 : nsIn K mainGlobals "NoSlot" = some (some (.ref Kx4)))
  (xo4 : excIn K Kx4 bmV "ValueError.__new__" = true)
  (xp4 : mroIn K Kx4 (.ref Kx0) = some true)
  (xa5 : nsIn K mainGlobals "NoMore" = some (some (.ref Kx5)))
  (xo5 : excIn K Kx5 bmV "ValueError.__new__" = true)
  (xp5 : mroIn K Kx5 (.ref Kx0) = some true)
  (xa6 : nsIn K mainGlobals "NoText" = some (some (.ref Kx6)))
  (xo6 : excIn K Kx6 bmV "ValueError.__new__" = true)
  (xp6 : mroIn K Kx6 (.ref Kx0) = some true)
  (xa7 : nsIn K mainGlobals "NotLeaf" = some (some (.ref Kx7)))
  (xo7 : excIn K Kx7 bmV "ValueError.__new__" = true)
  (xp7 : mroIn K Kx7 (.ref Kx0) = some true)
  (xgs : specialIn K (.builtin "object.__class__") "__get__" = some (some (.builtin "getset_descriptor.__get__")))
  (xtk : takesIn K (.builtin "object.__class__") = some true)
  (xga1 : findIn K (.ref Kx1) "__getattribute__" = some (some (.builtin "BaseException.__getattribute__")))
  (xgt1 : findIn K (.ref Kx1) "__getattr__" = some none)
  (xca1 : findIn K (.ref Kx1) "__class__" = some (some (.builtin "object.__class__")))
  (xmo1 : mroIn K Kx1 (.type "object") = some true)
  (xmb1 : mroIn K Kx1 (.type "BaseException") = some true)
  (xk1_1 : kitOne K (.ref Kx1) (.ref Kx1) = some true)
  (xk1_2 : kitOne K (.ref Kx1) (.ref Kx2) = some false)
  (xk1_3 : kitOne K (.ref Kx1) (.ref Kx3) = some false)
  (xk1_4 : kitOne K (.ref Kx1) (.ref Kx4) = some false)
  (xk1_5 : kitOne K (.ref Kx1) (.ref Kx5) = some false)
  (xk1_6 : kitOne K (.ref Kx1) (.ref Kx6) = some false)
  (xk1_7 : kitOne K (.ref Kx1) (.ref Kx7) = some false)
  (xk1_8 : kitOne K (.ref Kx1) (.type "ValueError") = some true)
  (xga2 : findIn K (.ref Kx2) "__getattribute__" = some (some (.builtin "BaseException.__getattribute__")))
  (xgt2 : findIn K (.ref Kx2) "__getattr__" = some none)
  (xca2 : findIn K (.ref Kx2) "__class__" = some (some (.builtin "object.__class__")))
  (xmo2 : mroIn K Kx2 (.type "object") = some true)
  (xmb2 : mroIn K Kx2 (.type "BaseException") = some true)
  (xk2_1 : kitOne K (.ref Kx2) (.ref Kx1) = some false)
  (xk2_2 : kitOne K (.ref Kx2) (.ref Kx2) = some true)
  (xk2_3 : kitOne K (.ref Kx2) (.ref Kx3) = some false)
  (xk2_4 : kitOne K (.ref Kx2) (.ref Kx4) = some false)
  (xk2_5 : kitOne K (.ref Kx2) (.ref Kx5) = some false)
  (xk2_6 : kitOne K (.ref Kx2) (.ref Kx6) = some false)
  (xk2_7 : kitOne K (.ref Kx2) (.ref Kx7) = some false)
  (xk2_8 : kitOne K (.ref Kx2) (.type "ValueError") = some true)
  (xga3 : findIn K (.ref Kx3) "__getattribute__" = some (some (.builtin "BaseException.__getattribute__")))
  (xgt3 : findIn K (.ref Kx3) "__getattr__" = some none)
  (xca3 : findIn K (.ref Kx3) "__class__" = some (some (.builtin "object.__class__")))
  (xmo3 : mroIn K Kx3 (.type "object") = some true)
  (xmb3 : mroIn K Kx3 (.type "BaseException") = some true)
  (xk3_1 : kitOne K (.ref Kx3) (.ref Kx1) = some false)
  (xk3_2 : kitOne K (.ref Kx3) (.ref Kx2) = some false)
  (xk3_3 : kitOne K (.ref Kx3) (.ref Kx3) = some true)
  (xk3_4 : kitOne K (.ref Kx3) (.ref Kx4) = some false)
  (xk3_5 : kitOne K (.ref Kx3) (.ref Kx5) = some false)
  (xk3_6 : kitOne K (.ref Kx3) (.ref Kx6) = some false)
  (xk3_7 : kitOne K (.ref Kx3) (.ref Kx7) = some false)
  (xk3_8 : kitOne K (.ref Kx3) (.type "ValueError") = some true)
  (xga4 : findIn K (.ref Kx4) "__getattribute__" = some (some (.builtin "BaseException.__getattribute__")))
  (xgt4 : findIn K (.ref Kx4) "__getattr__" = some none)
  (xca4 : findIn K (.ref Kx4) "__class__" = some (some (.builtin "object.__class__")))
  (xmo4 : mroIn K Kx4 (.type "object") = some true)
  (xmb4 : mroIn K Kx4 (.type "BaseException") = some true)
  (xk4_1 : kitOne K (.ref Kx4) (.ref Kx1) = some false)
  (xk4_2 : kitOne K (.ref Kx4) (.ref Kx2) = some false)
  (xk4_3 : kitOne K (.ref Kx4) (.ref Kx3) = some false)
  (xk4_4 : kitOne K (.ref Kx4) (.ref Kx4) = some true)
  (xk4_5 : kitOne K (.ref Kx4) (.ref Kx5) = some false)
  (xk4_6 : kitOne K (.ref Kx4) (.ref Kx6) = some false)
  (xk4_7 : kitOne K (.ref Kx4) (.ref Kx7) = some false)
  (xk4_8 : kitOne K (.ref Kx4) (.type "ValueError") = some true)
  (xga5 : findIn K (.ref Kx5) "__getattribute__" = some (some (.builtin "BaseException.__getattribute__")))
  (xgt5 : findIn K (.ref Kx5) "__getattr__" = some none)
  (xca5 : findIn K (.ref Kx5) "__class__" = some (some (.builtin "object.__class__")))
  (xmo5 : mroIn K Kx5 (.type "object") = some true)
  (xmb5 : mroIn K Kx5 (.type "BaseException") = some true)
  (xk5_1 : kitOne K (.ref Kx5) (.ref Kx1) = some false)
  (xk5_2 : kitOne K (.ref Kx5) (.ref Kx2) = some false)
  (xk5_3 : kitOne K (.ref Kx5) (.ref Kx3) = some false)
  (xk5_4 : kitOne K (.ref Kx5) (.ref Kx4) = some false)
  (xk5_5 : kitOne K (.ref Kx5) (.ref Kx5) = some true)
  (xk5_6 : kitOne K (.ref Kx5) (.ref Kx6) = some false)
  (xk5_7 : kitOne K (.ref Kx5) (.ref Kx7) = some false)
  (xk5_8 : kitOne K (.ref Kx5) (.type "ValueError") = some true)
  (xga6 : findIn K (.ref Kx6) "__getattribute__" = some (some (.builtin "BaseException.__getattribute__")))
  (xgt6 : findIn K (.ref Kx6) "__getattr__" = some none)
  (xca6 : findIn K (.ref Kx6) "__class__" = some (some (.builtin "object.__class__")))
  (xmo6 : mroIn K Kx6 (.type "object") = some true)
  (xmb6 : mroIn K Kx6 (.type "BaseException") = some true)
  (xk6_1 : kitOne K (.ref Kx6) (.ref Kx1) = some false)
  (xk6_2 : kitOne K (.ref Kx6) (.ref Kx2) = some false)
  (xk6_3 : kitOne K (.ref Kx6) (.ref Kx3) = some false)
  (xk6_4 : kitOne K (.ref Kx6) (.ref Kx4) = some false)
  (xk6_5 : kitOne K (.ref Kx6) (.ref Kx5) = some false)
  (xk6_6 : kitOne K (.ref Kx6) (.ref Kx6) = some true)
  (xk6_7 : kitOne K (.ref Kx6) (.ref Kx7) = some false)
  (xk6_8 : kitOne K (.ref Kx6) (.type "ValueError") = some true)
  (xga7 : findIn K (.ref Kx7) "__getattribute__" = some (some (.builtin "BaseException.__getattribute__")))
  (xgt7 : findIn K (.ref Kx7) "__getattr__" = some none)
  (xca7 : findIn K (.ref Kx7) "__class__" = some (some (.builtin "object.__class__")))
  (xmo7 : mroIn K Kx7 (.type "object") = some true)
  (xmb7 : mroIn K Kx7 (.type "BaseException") = some true)
  (xk7_1 : kitOne K (.ref Kx7) (.ref Kx1) = some false)
  (xk7_2 : kitOne K (.ref Kx7) (.ref Kx2) = some false)
  (xk7_3 : kitOne K (.ref Kx7) (.ref Kx3) = some false)
  (xk7_4 : kitOne K (.ref Kx7) (.ref Kx4) = some false)
  (xk7_5 : kitOne K (.ref Kx7) (.ref Kx5) = some false)
  (xk7_6 : kitOne K (.ref Kx7) (.ref Kx6) = some false)
  (xk7_7 : kitOne K (.ref Kx7) (.ref Kx7) = some true)
  (xk7_8 : kitOne K (.ref Kx7) (.type "ValueError") = some true)
  (a0 : nsIn K mainGlobals "check_counts" = some (some (.ref f0)))
  (l0 : K.lookup f0 = some ⟨oc0, od0, .func (fnOf "check_counts" "check_counts" (zo sx0) (zk sx0) (zd sx0) .none kV0 dc0 pm0 an0 cd0 ct0), sl0⟩) (c0 : codeIn K cd0 "check_counts" = true)
  (k0 : keepIn K (.ref f0) = true)
  (a1 : nsIn K mainGlobals "check_sign" = some (some (.ref f1)))
  (l1 : K.lookup f1 = some ⟨oc1, od1, .func (fnOf "check_sign" "check_sign" (zo sx1) (zk sx1) (zd sx1) .none kV1 dc1 pm1 an1 cd1 ct1), sl1⟩) (c1 : codeIn K cd1 "check_sign" = true)
  (k1 : keepIn K (.ref f1) = true)
  (a2 : nsIn K mainGlobals "count_of" = some (some (.ref f2)))
  (l2 : K.lookup f2 = some ⟨oc2, od2, .func (fnOf "count_of" "count_of" (zo sx2) (zk sx2) (zd sx2) .none kV2 dc2 pm2 an2 cd2 ct2), sl2⟩) (c2 : codeIn K cd2 "count_of" = true)
  (k2 : keepIn K (.ref f2) = true)
  (a3 : nsIn K mainGlobals "whole" = some (some (.ref f3)))
  (l3 : K.lookup f3 = some ⟨oc3, od3, .func (fnOf "whole" "whole" (zo sx3) (zk sx3) (zd sx3) .none kV3 dc3 pm3 an3 cd3 ct3), sl3⟩) (c3 : codeIn K cd3 "whole" = true)
  (k3 : keepIn K (.ref f3) = true)
  (a4 : nsIn K mainGlobals "first_of" = some (some (.ref f4)))
  (l4 : K.lookup f4 = some ⟨oc4, od4, .func (fnOf "first_of" "first_of" (zo sx4) (zk sx4) (zd sx4) .none kV4 dc4 pm4 an4 cd4 ct4), sl4⟩) (c4 : codeIn K cd4 "first_of" = true)
  (k4 : keepIn K (.ref f4) = true)
  (a5 : nsIn K mainGlobals "sign_of" = some (some (.ref f5)))
  (l5 : K.lookup f5 = some ⟨oc5, od5, .func (fnOf "sign_of" "sign_of" (zo sx5) (zk sx5) (zd sx5) .none kV5 dc5 pm5 an5 cd5 ct5), sl5⟩) (c5 : codeIn K cd5 "sign_of" = true)
  (k5 : keepIn K (.ref f5) = true)
  (a6 : nsIn K mainGlobals "check_pile" = some (some (.ref f6)))
  (l6 : K.lookup f6 = some ⟨oc6, od6, .func (fnOf "check_pile" "check_pile" (zo sx6) (zk sx6) (zd sx6) .none kV6 dc6 pm6 an6 cd6 ct6), sl6⟩) (c6 : codeIn K cd6 "check_pile" = true)
  (k6 : keepIn K (.ref f6) = true)
  (a7 : nsIn K mainGlobals "lay" = some (some (.ref f7)))
  (l7 : K.lookup f7 = some ⟨oc7, od7, .func (fnOf "lay" "lay" (zo sx7) (zk sx7) (zd sx7) .none kV7 dc7 pm7 an7 cd7 ct7), sl7⟩) (c7 : codeIn K cd7 "lay" = true)
  (k7 : keepIn K (.ref f7) = true)
  (a8 : nsIn K mainGlobals "take" = some (some (.ref f8)))
  (l8 : K.lookup f8 = some ⟨oc8, od8, .func (fnOf "take" "take" (zo sx8) (zk sx8) (zd sx8) .none kV8 dc8 pm8 an8 cd8 ct8), sl8⟩) (c8 : codeIn K cd8 "take" = true)
  (k8 : keepIn K (.ref f8) = true)
  (a9 : nsIn K mainGlobals "lay_row" = some (some (.ref f9)))
  (l9 : K.lookup f9 = some ⟨oc9, od9, .func (fnOf "lay_row" "lay_row" (zo sx9) (zk sx9) (zd sx9) .none kV9 dc9 pm9 an9 cd9 ct9), sl9⟩) (c9 : codeIn K cd9 "lay_row" = true)
  (k9 : keepIn K (.ref f9) = true)
  (a10 : nsIn K mainGlobals "take_row" = some (some (.ref f10)))
  (l10 : K.lookup f10 = some ⟨oc10, od10, .func (fnOf "take_row" "take_row" (zo zda) (zk zda) (zd zda) .none kV10 dc10 pm10 an10 cd10 ct10), sl10⟩) (c10 : codeIn K cd10 "take_row" = true)
  (k10 : keepIn K (.ref f10) = true)
  (a11 : nsIn K mainGlobals "check_full" = some (some (.ref f11)))
  (l11 : K.lookup f11 = some ⟨oc11, od11, .func (fnOf "check_full" "check_full" (zo zdb) (zk zdb) (zd zdb) .none kV11 dc11 pm11 an11 cd11 ct11), sl11⟩) (c11 : codeIn K cd11 "check_full" = true)
  (k11 : keepIn K (.ref f11) = true)
  (a12 : nsIn K mainGlobals "check_rows" = some (some (.ref f12)))
  (l12 : K.lookup f12 = some ⟨oc12, od12, .func (fnOf "check_rows" "check_rows" (zo zdc) (zk zdc) (zd zdc) .none kV12 dc12 pm12 an12 cd12 ct12), sl12⟩) (c12 : codeIn K cd12 "check_rows" = true)
  (k12 : keepIn K (.ref f12) = true)
  (a13 : nsIn K mainGlobals "check_tables" = some (some (.ref f13)))
  (l13 : K.lookup f13 = some ⟨oc13, od13, .func (fnOf "check_tables" "check_tables" (zo zdd) (zk zdd) (zd zdd) .none kV13 dc13 pm13 an13 cd13 ct13), sl13⟩) (c13 : codeIn K cd13 "check_tables" = true)
  (k13 : keepIn K (.ref f13) = true)
  (a14 : nsIn K mainGlobals "lay_hidden" = some (some (.ref f14)))
  (l14 : K.lookup f14 = some ⟨oc14, od14, .func (fnOf "lay_hidden" "lay_hidden" (zo zde) (zk zde) (zd zde) .none kV14 dc14 pm14 an14 cd14 ct14), sl14⟩) (c14 : codeIn K cd14 "lay_hidden" = true)
  (k14 : keepIn K (.ref f14) = true)
  (a15 : nsIn K mainGlobals "take_hidden" = some (some (.ref f15)))
  (l15 : K.lookup f15 = some ⟨oc15, od15, .func (fnOf "take_hidden" "take_hidden" (zo zdf) (zk zdf) (zd zdf) .none kV15 dc15 pm15 an15 cd15 ct15), sl15⟩) (c15 : codeIn K cd15 "take_hidden" = true)
  (k15 : keepIn K (.ref f15) = true)
  (a16 : nsIn K mainGlobals "check_text" = some (some (.ref f16)))
  (l16 : K.lookup f16 = some ⟨oc16, od16, .func (fnOf "check_text" "check_text" (zo zdg) (zk zdg) (zd zdg) .none kV16 dc16 pm16 an16 cd16 ct16), sl16⟩) (c16 : codeIn K cd16 "check_text" = true)
  (k16 : keepIn K (.ref f16) = true)
  (a17 : nsIn K mainGlobals "entry" = some (some (.ref f17)))
  (l17 : K.lookup f17 = some ⟨oc17, od17, .func (fnOf "entry" "entry" (zo zdh) (zk zdh) (zd zdh) .none kV17 dc17 pm17 an17 cd17 ct17), sl17⟩) (c17 : codeIn K cd17 "entry" = true)
  (k17 : keepIn K (.ref f17) = true)
  (a18 : nsIn K mainGlobals "letters_of" = some (some (.ref f18)))
  (l18 : K.lookup f18 = some ⟨oc18, od18, .func (fnOf "letters_of" "letters_of" (zo zdi) (zk zdi) (zd zdi) .none kV18 dc18 pm18 an18 cd18 ct18), sl18⟩) (c18 : codeIn K cd18 "letters_of" = true)
  (k18 : keepIn K (.ref f18) = true)
  (a19 : nsIn K mainGlobals "packed" = some (some (.ref f19)))
  (l19 : K.lookup f19 = some ⟨oc19, od19, .func (fnOf "packed" "packed" (zo zdj) (zk zdj) (zd zdj) .none kV19 dc19 pm19 an19 cd19 ct19), sl19⟩) (c19 : codeIn K cd19 "packed" = true)
  (k19 : keepIn K (.ref f19) = true)
  (a20 : nsIn K mainGlobals "number_of" = some (some (.ref f20)))
  (l20 : K.lookup f20 = some ⟨oc20, od20, .func (fnOf "number_of" "number_of" (zo zdk) (zk zdk) (zd zdk) .none kV20 dc20 pm20 an20 cd20 ct20), sl20⟩) (c20 : codeIn K cd20 "number_of" = true)
  (k20 : keepIn K (.ref f20) = true)
  (a21 : nsIn K mainGlobals "entry_of" = some (some (.ref f21)))
  (l21 : K.lookup f21 = some ⟨oc21, od21, .func (fnOf "entry_of" "entry_of" (zo zdl) (zk zdl) (zd zdl) .none kV21 dc21 pm21 an21 cd21 ct21), sl21⟩) (c21 : codeIn K cd21 "entry_of" = true)
  (k21 : keepIn K (.ref f21) = true)
  (a22 : nsIn K mainGlobals "check_entries" = some (some (.ref f22)))
  (l22 : K.lookup f22 = some ⟨oc22, od22, .func (fnOf "check_entries" "check_entries" (zo zdm) (zk zdm) (zd zdm) .none kV22 dc22 pm22 an22 cd22 ct22), sl22⟩) (c22 : codeIn K cd22 "check_entries" = true)
  (k22 : keepIn K (.ref f22) = true)
  (a23 : nsIn K mainGlobals "entries_of" = some (some (.ref f23)))
  (l23 : K.lookup f23 = some ⟨oc23, od23, .func (fnOf "entries_of" "entries_of" (zo zdn) (zk zdn) (zd zdn) .none kV23 dc23 pm23 an23 cd23 ct23), sl23⟩) (c23 : codeIn K cd23 "entries_of" = true)
  (k23 : keepIn K (.ref f23) = true)
  (a24 : nsIn K mainGlobals "pile_of" = some (some (.ref f24)))
  (l24 : K.lookup f24 = some ⟨oc24, od24, .func (fnOf "pile_of" "pile_of" (zo zdo) (zk zdo) (zd zdo) .none kV24 dc24 pm24 an24 cd24 ct24), sl24⟩) (c24 : codeIn K cd24 "pile_of" = true)
  (k24 : keepIn K (.ref f24) = true)
  (a25 : nsIn K mainGlobals "text_of" = some (some (.ref f25)))
  (l25 : K.lookup f25 = some ⟨oc25, od25, .func (fnOf "text_of" "text_of" (zo zdp) (zk zdp) (zd zdp) .none kV25 dc25 pm25 an25 cd25 ct25), sl25⟩) (c25 : codeIn K cd25 "text_of" = true)
  (k25 : keepIn K (.ref f25) = true)
  (a26 : nsIn K mainGlobals "unpacked" = some (some (.ref f26)))
  (l26 : K.lookup f26 = some ⟨oc26, od26, .func (fnOf "unpacked" "unpacked" (zo zdq) (zk zdq) (zd zdq) .none kV26 dc26 pm26 an26 cd26 ct26), sl26⟩) (c26 : codeIn K cd26 "unpacked" = true)
  (k26 : keepIn K (.ref f26) = true)
  (r27 : readsIn K KM (.type "type") = true)
  (fc27 : findCls K (.ref KM) (.type "type") "__init__" = some (.val (.ref f27)))
  (l27 : K.lookup f27 = some ⟨oc27, od27, .func (fnOf "__init__" "Model.__init__" (zo zbv) (zk zbv) (zd zbv) .none kV27 dc27 pm27 an27 cd27 ct27), sl27⟩) (c27 : codeIn K cd27 "Model.__init__" = true)
  (sp27 : specialIn K (.ref KM) "__getattribute__" = some (some (.builtin "type.__getattribute__")))
  (k27 : keepIn K (.ref f27) = true)
  (a28 : findIn K (.ref KP) "__init__" = some (some (.ref f28)))
  (i28 : isFn K (.ref f28) = true)
  (mk28 : makesIn K KP = true)
  (k28 : keepIn K (.ref KP) = true)
  (l28 : K.lookup f28 = some ⟨oc28, od28, .func (fnOf "__init__" "Plain.__init__" (zo zbw) (zk zbw) (zd zbw) .none kV28 dc28 pm28 an28 cd28 ct28), sl28⟩) (c28 : codeIn K cd28 "Plain.__init__" = true)
  (a29 : findIn K (.ref KP) "counts" = some (some (.ref f29)))
  (i29 : isFn K (.ref f29) = true)
  (l29 : K.lookup f29 = some ⟨oc29, od29, .func (fnOf "counts" "Plain.counts" (zo zbx) (zk zbx) (zd zbx) .none kV29 dc29 pm29 an29 cd29 ct29), sl29⟩) (c29 : codeIn K cd29 "Plain.counts" = true)
  (k29 : keepIn K (.ref f29) = true)
  (a30 : findIn K (.ref KP) "see" = some (some (.ref f30)))
  (i30 : isFn K (.ref f30) = true)
  (l30 : K.lookup f30 = some ⟨oc30, od30, .func (fnOf "see" "Plain.see" (zo zby) (zk zby) (zd zby) .none kV30 dc30 pm30 an30 cd30 ct30), sl30⟩) (c30 : codeIn K cd30 "Plain.see" = true)
  (k30 : keepIn K (.ref f30) = true)
  (a31 : findIn K (.ref KP) "fresh" = some (some (.ref f31)))
  (i31 : isFn K (.ref f31) = true)
  (l31 : K.lookup f31 = some ⟨oc31, od31, .func (fnOf "fresh" "Plain.fresh" (zo zbz) (zk zbz) (zd zbz) .none kV31 dc31 pm31 an31 cd31 ct31), sl31⟩) (c31 : codeIn K cd31 "Plain.fresh" = true)
  (k31 : keepIn K (.ref f31) = true)
  (a32 : findIn K (.ref KL) "__init__" = some (some (.ref f32)))
  (i32 : isFn K (.ref f32) = true)
  (mk32 : makesIn K KL = true)
  (k32 : keepIn K (.ref KL) = true)
  (l32 : K.lookup f32 = some ⟨oc32, od32, .func (fnOf "__init__" "Learner.__init__" (zo zbA) (zk zbA) (zd zbA) (.ref dT32) kV32 dc32 pm32 an32 cd32 ct32), sl32⟩) (c32 : codeIn K cd32 "Learner.__init__" = true)
  (dl32 : K.lookup dT32 = some ⟨doc32, dod32, .seq #[.int 1 dtk32] dn32, dsl32⟩)
  (a33 : findIn K (.ref KL) "counts" = some (some (.ref f33)))
  (i33 : isFn K (.ref f33) = true)
  (l33 : K.lookup f33 = some ⟨oc33, od33, .func (fnOf "counts" "Learner.counts" (zo zbB) (zk zbB) (zd zbB) .none kV33 dc33 pm33 an33 cd33 ct33), sl33⟩) (c33 : codeIn K cd33 "Learner.counts" = true)
  (k33 : keepIn K (.ref f33) = true)
  (a34 : findIn K (.ref KL) "see" = some (some (.ref f34)))
  (i34 : isFn K (.ref f34) = true)
  (l34 : K.lookup f34 = some ⟨oc34, od34, .func (fnOf "see" "Learner.see" (zo zbC) (zk zbC) (zd zbC) .none kV34 dc34 pm34 an34 cd34 ct34), sl34⟩) (c34 : codeIn K cd34 "Learner.see" = true)
  (k34 : keepIn K (.ref f34) = true)
  (a35 : findIn K (.ref KL) "fresh" = some (some (.ref f35)))
  (i35 : isFn K (.ref f35) = true)
  (l35 : K.lookup f35 = some ⟨oc35, od35, .func (fnOf "fresh" "Learner.fresh" (zo zbD) (zk zbD) (zd zbD) .none kV35 dc35 pm35 an35 cd35 ct35), sl35⟩) (c35 : codeIn K cd35 "Learner.fresh" = true)
  (k35 : keepIn K (.ref f35) = true)
  (a36 : findIn K (.ref KF) "__init__" = some (some (.ref f36)))
  (i36 : isFn K (.ref f36) = true)
  (mk36 : makesIn K KF = true)
  (k36 : keepIn K (.ref KF) = true)
  (l36 : K.lookup f36 = some ⟨oc36, od36, .func (fnOf "__init__" "Follower.__init__" (zo zbE) (zk zbE) (zd zbE) (.ref dT36) kV36 dc36 pm36 an36 cd36 ct36), sl36⟩) (c36 : codeIn K cd36 "Follower.__init__" = true)
  (dl36 : K.lookup dT36 = some ⟨doc36, dod36, .seq #[.int 1 dtk36] dn36, dsl36⟩)
  (a37 : findIn K (.ref KF) "see" = some (some (.ref f37)))
  (i37 : isFn K (.ref f37) = true)
  (l37 : K.lookup f37 = some ⟨oc37, od37, .func (fnOf "see" "Follower.see" (zo zbF) (zk zbF) (zd zbF) .none kV37 dc37 pm37 an37 cd37 ct37), sl37⟩) (c37 : codeIn K cd37 "Follower.see" = true)
  (k37 : keepIn K (.ref f37) = true)
  (a38 : nsIn K mainGlobals "press" = some (some (.ref f38)))
  (l38 : K.lookup f38 = some ⟨oc38, od38, .func (fnOf "press" "press" (zo zdt) (zk zdt) (zd zdt) .none kV38 dc38 pm38 an38 cd38 ct38), sl38⟩) (c38 : codeIn K cd38 "press" = true)
  (k38 : keepIn K (.ref f38) = true)
  (a39 : nsIn K mainGlobals "read" = some (some (.ref f39)))
  (l39 : K.lookup f39 = some ⟨oc39, od39, .func (fnOf "read" "read" (zo zdu) (zk zdu) (zd zdu) .none kV39 dc39 pm39 an39 cd39 ct39), sl39⟩) (c39 : codeIn K cd39 "read" = true)
  (k39 : keepIn K (.ref f39) = true)
  (a40 : nsIn K mainGlobals "greatest_divisor" = some (some (.ref f40)))
  (l40 : K.lookup f40 = some ⟨oc40, od40, .func (fnOf "greatest_divisor" "greatest_divisor" (zo zdv) (zk zdv) (zd zdv) .none kV40 dc40 pm40 an40 cd40 ct40), sl40⟩) (c40 : codeIn K cd40 "greatest_divisor" = true)
  (k40 : keepIn K (.ref f40) = true)
  (a41 : nsIn K mainGlobals "step_of" = some (some (.ref f41)))
  (l41 : K.lookup f41 = some ⟨oc41, od41, .func (fnOf "step_of" "step_of" (zo zdw) (zk zdw) (zd zdw) .none kV41 dc41 pm41 an41 cd41 ct41), sl41⟩) (c41 : codeIn K cd41 "step_of" = true)
  (k41 : keepIn K (.ref f41) = true)
  (a42 : nsIn K mainGlobals "deal" = some (some (.ref f42)))
  (l42 : K.lookup f42 = some ⟨oc42, od42, .func (fnOf "deal" "deal" (zo zdx) (zk zdx) (zd zdx) .none kV42 dc42 pm42 an42 cd42 ct42), sl42⟩) (c42 : codeIn K cd42 "deal" = true)
  (k42 : keepIn K (.ref f42) = true)
  (a43 : findIn K (.ref KO) "__init__" = some (some (.ref f43)))
  (i43 : isFn K (.ref f43) = true)
  (mk43 : makesIn K KO = true)
  (k43 : keepIn K (.ref KO) = true)
  (l43 : K.lookup f43 = some ⟨oc43, od43, .func (fnOf "__init__" "Slots.__init__" (zo zbH) (zk zbH) (zd zbH) .none kV43 dc43 pm43 an43 cd43 ct43), sl43⟩) (c43 : codeIn K cd43 "Slots.__init__" = true)
  (a44 : findIn K (.ref KO) "check_number" = some (some (.ref f44)))
  (i44 : isFn K (.ref f44) = true)
  (l44 : K.lookup f44 = some ⟨oc44, od44, .func (fnOf "check_number" "Slots.check_number" (zo zbI) (zk zbI) (zd zbI) .none kV44 dc44 pm44 an44 cd44 ct44), sl44⟩) (c44 : codeIn K cd44 "Slots.check_number" = true)
  (k44 : keepIn K (.ref f44) = true)
  (a45 : findIn K (.ref KO) "raised" = some (some (.ref f45)))
  (i45 : isFn K (.ref f45) = true)
  (l45 : K.lookup f45 = some ⟨oc45, od45, .func (fnOf "raised" "Slots.raised" (zo zbJ) (zk zbJ) (zd zbJ) .none kV45 dc45 pm45 an45 cd45 ct45), sl45⟩) (c45 : codeIn K cd45 "Slots.raised" = true)
  (k45 : keepIn K (.ref f45) = true)
  (a46 : findIn K (.ref KO) "lowered" = some (some (.ref f46)))
  (i46 : isFn K (.ref f46) = true)
  (l46 : K.lookup f46 = some ⟨oc46, od46, .func (fnOf "lowered" "Slots.lowered" (zo zbK) (zk zbK) (zd zbK) .none kV46 dc46 pm46 an46 cd46 ct46), sl46⟩) (c46 : codeIn K cd46 "Slots.lowered" = true)
  (k46 : keepIn K (.ref f46) = true)
  (a47 : findIn K (.ref KO) "laid" = some (some (.ref f47)))
  (i47 : isFn K (.ref f47) = true)
  (l47 : K.lookup f47 = some ⟨oc47, od47, .func (fnOf "laid" "Slots.laid" (zo zbL) (zk zbL) (zd zbL) .none kV47 dc47 pm47 an47 cd47 ct47), sl47⟩) (c47 : codeIn K cd47 "Slots.laid" = true)
  (k47 : keepIn K (.ref f47) = true)
  (a48 : findIn K (.ref KO) "taken" = some (some (.ref f48)))
  (i48 : isFn K (.ref f48) = true)
  (l48 : K.lookup f48 = some ⟨oc48, od48, .func (fnOf "taken" "Slots.taken" (zo zbM) (zk zbM) (zd zbM) .none kV48 dc48 pm48 an48 cd48 ct48), sl48⟩) (c48 : codeIn K cd48 "Slots.taken" = true)
  (k48 : keepIn K (.ref f48) = true)
  (a49 : findIn K (.ref KS) "__init__" = some (some (.ref f49)))
  (i49 : isFn K (.ref f49) = true)
  (mk49 : makesIn K KS = true)
  (k49 : keepIn K (.ref KS) = true)
  (l49 : K.lookup f49 = some ⟨oc49, od49, .func (fnOf "__init__" "Stream.__init__" (zo zbN) (zk zbN) (zd zbN) (.ref dT49) kV49 dc49 pm49 an49 cd49 ct49), sl49⟩) (c49 : codeIn K cd49 "Stream.__init__" = true)
  (dl49 : K.lookup dT49 = some ⟨doc49, dod49, .seq #[.int 4 dtk49] dn49, dsl49⟩)
  (a50 : findIn K (.ref KS) "lay_sign" = some (some (.ref f50)))
  (i50 : isFn K (.ref f50) = true)
  (l50 : K.lookup f50 = some ⟨oc50, od50, .func (fnOf "lay_sign" "Stream.lay_sign" (zo zbO) (zk zbO) (zd zbO) .none kV50 dc50 pm50 an50 cd50 ct50), sl50⟩) (c50 : codeIn K cd50 "Stream.lay_sign" = true)
  (k50 : keepIn K (.ref f50) = true)
  (a51 : findIn K (.ref KS) "take_sign" = some (some (.ref f51)))
  (i51 : isFn K (.ref f51) = true)
  (l51 : K.lookup f51 = some ⟨oc51, od51, .func (fnOf "take_sign" "Stream.take_sign" (zo zbP) (zk zbP) (zd zbP) .none kV51 dc51 pm51 an51 cd51 ct51), sl51⟩) (c51 : codeIn K cd51 "Stream.take_sign" = true)
  (k51 : keepIn K (.ref f51) = true)
  (a52 : nsIn K mainGlobals "_law_cell_at" = some (some (.ref f52)))
  (l52 : K.lookup f52 = some ⟨oc52, od52, .func (fnOf "_law_cell_at" "_law_cell_at" (zo zdz) (zk zdz) (zd zdz) .none kV52 dc52 pm52 an52 cd52 ct52), sl52⟩) (c52 : codeIn K cd52 "_law_cell_at" = true)
  (k52 : keepIn K (.ref f52) = true)
  (a53 : nsIn K mainGlobals "_law_which" = some (some (.ref f53)))
  (l53 : K.lookup f53 = some ⟨oc53, od53, .func (fnOf "_law_which" "_law_which" (zo zdA) (zk zdA) (zd zdA) .none kV53 dc53 pm53 an53 cd53 ct53), sl53⟩) (c53 : codeIn K cd53 "_law_which" = true)
  (k53 : keepIn K (.ref f53) = true)
  (a54 : nsIn K mainGlobals "_law_bad" = some (some (.ref f54)))
  (l54 : K.lookup f54 = some ⟨oc54, od54, .func (fnOf "_law_bad" "_law_bad" (zo zdB) (zk zdB) (zd zdB) .none kV54 dc54 pm54 an54 cd54 ct54), sl54⟩) (c54 : codeIn K cd54 "_law_bad" = true)
  (k54 : keepIn K (.ref f54) = true)
  (a55 : nsIn K mainGlobals "_law_by_counts" = some (some (.ref f55)))
  (l55 : K.lookup f55 = some ⟨oc55, od55, .func (fnOf "_law_by_counts" "_law_by_counts" (zo zdC) (zk zdC) (zd zdC) .none kV55 dc55 pm55 an55 cd55 ct55), sl55⟩) (c55 : codeIn K cd55 "_law_by_counts" = true)
  (k55 : keepIn K (.ref f55) = true)
  (a56 : nsIn K mainGlobals "_law_more_shares" = some (some (.ref f56)))
  (l56 : K.lookup f56 = some ⟨oc56, od56, .func (fnOf "_law_more_shares" "_law_more_shares" (zo zdD) (zk zdD) (zd zdD) .none kV56 dc56 pm56 an56 cd56 ct56), sl56⟩) (c56 : codeIn K cd56 "_law_more_shares" = true)
  (k56 : keepIn K (.ref f56) = true)
  (a57 : nsIn K mainGlobals "_law_no_shares" = some (some (.ref f57)))
  (l57 : K.lookup f57 = some ⟨oc57, od57, .func (fnOf "_law_no_shares" "_law_no_shares" (zo zdE) (zk zdE) (zd zdE) .none kV57 dc57 pm57 an57 cd57 ct57), sl57⟩) (c57 : codeIn K cd57 "_law_no_shares" = true)
  (k57 : keepIn K (.ref f57) = true)
  (a58 : nsIn K mainGlobals "_law_no_pile" = some (some (.ref f58)))
  (l58 : K.lookup f58 = some ⟨oc58, od58, .func (fnOf "_law_no_pile" "_law_no_pile" (zo zdF) (zk zdF) (zd zdF) .none kV58 dc58 pm58 an58 cd58 ct58), sl58⟩) (c58 : codeIn K cd58 "_law_no_pile" = true)
  (k58 : keepIn K (.ref f58) = true)
  (a59 : nsIn K mainGlobals "_law_no_sign" = some (some (.ref f59)))
  (l59 : K.lookup f59 = some ⟨oc59, od59, .func (fnOf "_law_no_sign" "_law_no_sign" (zo zdG) (zk zdG) (zd zdG) .none kV59 dc59 pm59 an59 cd59 ct59), sl59⟩) (c59 : codeIn K cd59 "_law_no_sign" = true)
  (k59 : keepIn K (.ref f59) = true)
  (a60 : nsIn K mainGlobals "_law_no_slot" = some (some (.ref f60)))
  (l60 : K.lookup f60 = some ⟨oc60, od60, .func (fnOf "_law_no_slot" "_law_no_slot" (zo zdH) (zk zdH) (zd zdH) .none kV60 dc60 pm60 an60 cd60 ct60), sl60⟩) (c60 : codeIn K cd60 "_law_no_slot" = true)
  (k60 : keepIn K (.ref f60) = true)
  (a61 : nsIn K mainGlobals "_law_done" = some (some (.ref f61)))
  (l61 : K.lookup f61 = some ⟨oc61, od61, .func (fnOf "_law_done" "_law_done" (zo zdI) (zk zdI) (zd zdI) .none kV61 dc61 pm61 an61 cd61 ct61), sl61⟩) (c61 : codeIn K cd61 "_law_done" = true)
  (k61 : keepIn K (.ref f61) = true)
  (a62 : nsIn K mainGlobals "law" = some (some (.ref f62)))
  (l62 : K.lookup f62 = some ⟨oc62, od62, .func (fnOf "law" "law" (zo jK) (zk jK) (zd jK) .none kV62 dc62 pm62 an62 cd62 ct62), sl62⟩) (c62 : codeIn K cd62 "law" = true)
  (k62 : keepIn K (.ref f62) = true)
  (z_ValueError : nsIn K mainGlobals "ValueError" = some none)
  (z_len : nsIn K mainGlobals "len" = some none)
  (z_sum : nsIn K mainGlobals "sum" = some none)
  (z_isinstance : nsIn K mainGlobals "isinstance" = some none)
  (z_list : nsIn K mainGlobals "list" = some none)
  (z_int : nsIn K mainGlobals "int" = some none)
  (z_range : nsIn K mainGlobals "range" = some none)
  (z_reversed : nsIn K mainGlobals "reversed" = some none)
  (z_zip : nsIn K mainGlobals "zip" = some none)
  (z_min : nsIn K mainGlobals "min" = some none)
  (z_enumerate : nsIn K mainGlobals "enumerate" = some none)
  (g_MOST_SIGNS : nsIn K mainGlobals "MOST_SIGNS" = some (some (.int 100 tk_MOST_SIGNS)))
  (g_MOST_COUNT : nsIn K mainGlobals "MOST_COUNT" = some (some (.int 999 tk_MOST_COUNT)))
  (g_MOST_TEXT : nsIn K mainGlobals "MOST_TEXT" = some (some (.int 150 tk_MOST_TEXT)))
  (g_MOST_FIGURES : nsIn K mainGlobals "MOST_FIGURES" = some (some (.int 3 tk_MOST_FIGURES)))
  (g_SIGNS : nsIn K mainGlobals "SIGNS" = some (some (.str (Str.ofString " !\"#$&'()*+,-./0123456789:;<=>?@ABCDEFGHIJKLMNOPQRSTUVWXYZ[\\]^_`abcdefghijklmnopqrstuvwxyz{|}~") tk_SIGNS)))
  (g_LETTERS : nsIn K mainGlobals "LETTERS" = some (some (.str (Str.ofString "abcdefghijklmnopqrstuvwxyz") tk_LETTERS)))
  (g_MOST_STEP : nsIn K mainGlobals "MOST_STEP" = some (some (.int 9 tk_MOST_STEP)))
  (g_LEAST_BASE : nsIn K mainGlobals "LEAST_BASE" = some (some (.int 2 tk_LEAST_BASE)))
  (g_MOST_BASE : nsIn K mainGlobals "MOST_BASE" = some (some (.int 1000 tk_MOST_BASE)))
  (g_MOST_GRAIN : nsIn K mainGlobals "MOST_GRAIN" = some (some (.int 100 tk_MOST_GRAIN)))
  : ∃ fd : FuncData, (∀ (s : Shared) (v : Value), BindsTo s fd ⟨[v], []⟩ [("script", v)]) /\ ∀ base : Heap, K.In base -> base.Ns mainGlobals mg -> FnOk l.prog w K mg base CX0 9 fa fd ["script"] (vn K) := by
 have e := hfa.symm.trans (mg_of X G a62)
 cases e
 have z : BI mg := ⟨mg_none_of X G z_ValueError, mg_none_of X G z_len, mg_none_of X G z_sum, mg_none_of X G z_isinstance, mg_none_of X G z_list, mg_none_of X G z_int, mg_none_of X G z_range, mg_none_of X G z_reversed, mg_none_of X G z_zip, mg_none_of X G z_min, mg_none_of X G z_enumerate⟩
 have g : GC mg := ⟨⟨_, mg_of X G g_MOST_SIGNS⟩, ⟨_, mg_of X G g_MOST_COUNT⟩, ⟨_, mg_of X G g_MOST_TEXT⟩, ⟨_, mg_of X G g_MOST_FIGURES⟩, ⟨_, mg_of X G g_SIGNS⟩, ⟨_, mg_of X G g_LETTERS⟩, ⟨_, mg_of X G g_MOST_STEP⟩, ⟨_, mg_of X G g_LEAST_BASE⟩, ⟨_, mg_of X G g_MOST_BASE⟩, ⟨_, mg_of X G g_MOST_GRAIN⟩⟩
 have tf : TF K mg ⟨KP, KL, KF, KM, KS, KO⟩ := { mM := mg_of X G aCM, fP := ⟨⟨pgP, hdP, poP, saP⟩, n_manyP, n_stepP, n_learntP, n_keptP, n_tellerP, n_behindP, x1P, x2, x3, x4P⟩, mP := mg_of X G aCP, kP := ktP, fL := ⟨⟨pgL, hdL, poL, saL⟩, n_manyL, n_stepL, n_learntL, n_keptL, n_tellerL, n_behindL, x1L, x2, x3, x4L⟩, mL := mg_of X G aCL, kL := ktL, fF := ⟨⟨pgF, hdF, poF, saF⟩, n_manyF, n_stepF, n_learntF, n_keptF, n_tellerF, n_behindF, x1F, x2, x3, x4F⟩, mF := mg_of X G aCF, kF := ktF, fO := ⟨⟨pgO, hdO, poO, saO⟩, n_keptO, n_totalO, n_signsO, n_placesO, n_numbersO⟩, mO := mg_of X G aCO, fS := ⟨⟨pgS, hdS, poS, saS⟩, n_keptS, n_baseS, n_grainS, n_lowS, n_numberS, n_wordsS⟩, mS := mg_of X G aCS, nPL := nnPL, nPF := nnPF, nLP := nnLP, nLF := nnLF, nFP := nnFP, nFL := nnFL }
 have xf : XF K mg ⟨Kx0, Kx1, Kx2, Kx3, Kx4, Kx5, Kx6, Kx7⟩ := { m0 := mg_of X G xa0, o0 := xo0, m1 := mg_of X G xa1, o1 := xo1, p1 := xp1, m2 := mg_of X G xa2, o2 := xo2, p2 := xp2, m3 := mg_of X G xa3, o3 := xo3, p3 := xp3, m4 := mg_of X G xa4, o4 := xo4, p4 := xp4, m5 := mg_of X G xa5, o5 := xo5, p5 := xp5, m6 := mg_of X G xa6, o6 := xo6, p6 := xp6, m7 := mg_of X G xa7, o7 := xo7, p7 := xp7, f1 := ⟨xO xo1, xga1, xgt1, xca1, xgs, xtk, xmo1, xmb1⟩, k1_1 := xk1_1, k1_2 := xk1_2, k1_3 := xk1_3, k1_4 := xk1_4, k1_5 := xk1_5, k1_6 := xk1_6, k1_7 := xk1_7, k1_8 := xk1_8, f2 := ⟨xO xo2, xga2, xgt2, xca2, xgs, xtk, xmo2, xmb2⟩, k2_1 := xk2_1, k2_2 := xk2_2, k2_3 := xk2_3, k2_4 := xk2_4, k2_5 := xk2_5, k2_6 := xk2_6, k2_7 := xk2_7, k2_8 := xk2_8, f3 := ⟨xO xo3, xga3, xgt3, xca3, xgs, xtk, xmo3, xmb3⟩, k3_1 := xk3_1, k3_2 := xk3_2, k3_3 := xk3_3, k3_4 := xk3_4, k3_5 := xk3_5, k3_6 := xk3_6, k3_7 := xk3_7, k3_8 := xk3_8, f4 := ⟨xO xo4, xga4, xgt4, xca4, xgs, xtk, xmo4, xmb4⟩, k4_1 := xk4_1, k4_2 := xk4_2, k4_3 := xk4_3, k4_4 := xk4_4, k4_5 := xk4_5, k4_6 := xk4_6, k4_7 := xk4_7, k4_8 := xk4_8, f5 := ⟨xO xo5, xga5, xgt5, xca5, xgs, xtk, xmo5, xmb5⟩, k5_1 := xk5_1, k5_2 := xk5_2, k5_3 := xk5_3, k5_4 := xk5_4, k5_5 := xk5_5, k5_6 := xk5_6, k5_7 := xk5_7, k5_8 := xk5_8, f6 := ⟨xO xo6, xga6, xgt6, xca6, xgs, xtk, xmo6, xmb6⟩, k6_1 := xk6_1, k6_2 := xk6_2, k6_3 := xk6_3, k6_4 := xk6_4, k6_5 := xk6_5, k6_6 := xk6_6, k6_7 := xk6_7, k6_8 := xk6_8, f7 := ⟨xO xo7, xga7, xgt7, xca7, xgs, xtk, xmo7, xmb7⟩, k7_1 := xk7_1, k7_2 := xk7_2, k7_3 := xk7_3, k7_4 := xk7_4, k7_5 := xk7_5, k7_6 := xk7_6, k7_7 := xk7_7, k7_8 := xk7_8 }
 refine ⟨fnOf "law" "law" (zo jK) (zk jK) (zd jK) .none kV62 dc62 pm62 an62 cd62 ct62, fun s v => .of_eq rfl, fun base _ _ => ?_⟩
 have Cx0 := ox0 l.prog w base z g tf xf (zP X G a0 l0 c0 k0 (fun _ _ _ _ _ _ => us1 (fun _ => rfl)))
 have Cx1 := ox1 l.prog w base z g tf xf (zP X G a1 l1 c1 k1 (fun _ _ _ _ _ _ => us2 (fun _ _ => rfl)))
 have Cx2 := ox2 l.prog w base z g tf xf (zP X G a2 l2 c2 k2 (fun _ _ _ _ _ _ => us2 (fun _ _ => rfl))) Cx1
 have Cx3 := ox3 l.prog w base z g tf xf (zP X G a3 l3 c3 k3 (fun _ _ _ _ _ _ => us1 (fun _ => rfl))) Cx0
 have Cx4 := ox4 l.prog w base z g tf xf (zP X G a4 l4 c4 k4 (fun _ _ _ _ _ _ => us2 (fun _ _ => rfl))) Cx0 Cx1
 have Cx5 := ox5 l.prog w base z g tf xf (zP X G a5 l5 c5 k5 (fun _ _ _ _ _ _ => us2 (fun _ _ => rfl))) Cx3
 have Cx6 := ox6 l.prog w base z g tf xf (zP X G a6 l6 c6 k6 (fun _ _ _ _ _ _ => us1 (fun _ => rfl)))
 have Cx7 := ox7 l.prog w base z g tf xf (zP X G a7 l7 c7 k7 (fun _ _ _ _ _ _ => us3 (fun _ _ _ => rfl))) Cx3 Cx6 Cx2 Cx4
 have Cx8 := ox8 l.prog w base z g tf xf (zP X G a8 l8 c8 k8 (fun _ _ _ _ _ _ => us2 (fun _ _ => rfl))) Cx3 Cx6 Cx5 Cx4
 have Cx9 := ox9 l.prog w base z g tf xf (zP X G a9 l9 c9 k9 (fun _ _ _ _ _ _ => us3 (fun _ _ _ => rfl))) Cx0 Cx6 Cx7
 have Cx10 := ox10 l.prog w base z g tf xf (zP X G a10 l10 c10 k10 (fun _ _ _ _ _ _ => us3 (fun _ _ _ => rfl))) Cx0 Cx6 Cx8
 have Cx11 := ox11 l.prog w base z g tf xf (zP X G a11 l11 c11 k11 (fun _ _ _ _ _ _ => us1 (fun _ => rfl))) Cx0
 have Cx12 := ox12 l.prog w base z g tf xf (zP X G a12 l12 c12 k12 (fun _ _ _ _ _ _ => us3 (fun _ _ _ => rfl))) Cx11
 have Cx13 := ox13 l.prog w base z g tf xf (zP X G a13 l13 c13 k13 (fun _ _ _ _ _ _ => us3 (fun _ _ _ => rfl))) Cx11 Cx12
 have Cx14 := ox14 l.prog w base z g tf xf (zP X G a14 l14 c14 k14 (fun _ _ _ _ _ _ => us5 (fun _ _ _ _ _ => rfl))) Cx13 Cx6 Cx1
 have Cx15 := ox15 l.prog w base z g tf xf (zP X G a15 l15 c15 k15 (fun _ _ _ _ _ _ => us4 (fun _ _ _ _ => rfl))) Cx13
 have Cx16 := ox16 l.prog w base z g tf xf (zP X G a16 l16 c16 k16 (fun _ _ _ _ _ _ => us1 (fun _ => rfl)))
 have Cx17 := ox17 l.prog w base z g tf xf (zP X G a17 l17 c17 k17 (fun _ _ _ _ _ _ => us2 (fun _ _ => rfl)))
 have Cx18 := ox18 l.prog w base z g tf xf (zP X G a18 l18 c18 k18 (fun _ _ _ _ _ _ => us1 (fun _ => rfl)))
 have Cx19 := ox19 l.prog w base z g tf xf (zP X G a19 l19 c19 k19 (fun _ _ _ _ _ _ => us1 (fun _ => rfl))) Cx16 Cx9 Cx17 Cx18
 have Cx20 := ox20 l.prog w base z g tf xf (zP X G a20 l20 c20 k20 (fun _ _ _ _ _ _ => us1 (fun _ => rfl)))
 have Cx21 := ox21 l.prog w base z g tf xf (zP X G a21 l21 c21 k21 (fun _ _ _ _ _ _ => us1 (fun _ => rfl))) Cx20
 have Cx22 := ox22 l.prog w base z g tf xf (zP X G a22 l22 c22 k22 (fun _ _ _ _ _ _ => us1 (fun _ => rfl)))
 have Cx23 := ox23 l.prog w base z g tf xf (zP X G a23 l23 c23 k23 (fun _ _ _ _ _ _ => us1 (fun _ => rfl))) Cx21 Cx22
 have Cx24 := ox24 l.prog w base z g tf xf (zP X G a24 l24 c24 k24 (fun _ _ _ _ _ _ => us1 (fun _ => rfl)))
 have Cx25 := ox25 l.prog w base z g tf xf (zP X G a25 l25 c25 k25 (fun _ _ _ _ _ _ => us2 (fun _ _ => rfl))) Cx10
 have Cx26 := ox26 l.prog w base z g tf xf (zP X G a26 l26 c26 k26 (fun _ _ _ _ _ _ => us1 (fun _ => rfl))) Cx25 Cx23 Cx24 Cx19
 have Cx27 := ox27 l.prog w base z g tf xf ⟨f27, _, yk (st := zbv) l27 c27, .all (us2 (fun _ _ => rfl)), mg_of X G aCM, r27, fc27, sp27, k27⟩
 have Dx28 := ox28 l.prog w base z g tf xf ⟨.none, f28, _, [], yk (st := zbw) l28 c28, (.all (us2 (fun _ _ => rfl))), (.all (us2 (fun _ _ => rfl))), .nil, ⟨mk28, a28, i28, k28⟩⟩ Cx0 Cx27
 have Cx29 := Dx28.1
 have Cx30 := ox30 l.prog w base z g tf xf ⟨f29, _, yk (st := zbx) l29 c29, .all (us1 (fun _ => rfl)), ⟨a29, i29, k29⟩⟩
 have Cx31 := ox31 l.prog w base z g tf xf ⟨f30, _, yk (st := zby) l30 c30, .all (us2 (fun _ _ => rfl)), ⟨a30, i30, k30⟩⟩ Cx1
 have Cx32 := ox32 l.prog w base z g tf xf ⟨f31, _, yk (st := zbz) l31 c31, .all (us1 (fun _ => rfl)), ⟨a31, i31, k31⟩⟩ Cx29
 have Dx33 := ox33 l.prog w base z g tf xf ⟨.ref dT32, f32, _, [.int 1 dtk32], yk (st := zbA) l32 c32, (qb rfl fun s a b c hK => BindsTo.of_defaults rfl (hK _ _ dl32) rfl rfl rfl), (ke rfl fun s a b hK => BindsTo.of_defaults rfl (hK _ _ dl32) rfl rfl rfl), .cons ⟨_, rfl⟩ .nil, ⟨mk32, a32, i32, k32⟩⟩ Cx27
 have Cx34 := Dx33.1
 have Cx35 := Dx33.2
 have Cx36 := ox36 l.prog w base z g tf xf ⟨f33, _, yk (st := zbB) l33 c33, .all (us1 (fun _ => rfl)), ⟨a33, i33, k33⟩⟩
 have Cx37 := ox37 l.prog w base z g tf xf ⟨f34, _, yk (st := zbC) l34 c34, .all (us2 (fun _ _ => rfl)), ⟨a34, i34, k34⟩⟩ Cx1
 have Cx38 := ox38 l.prog w base z g tf xf ⟨f35, _, yk (st := zbD) l35 c35, .all (us1 (fun _ => rfl)), ⟨a35, i35, k35⟩⟩ Cx34
 have Dx39 := ox39 l.prog w base z g tf xf ⟨.ref dT36, f36, _, [.int 1 dtk36], yk (st := zbE) l36 c36, (qb rfl fun s a b c hK => BindsTo.of_defaults rfl (hK _ _ dl36) rfl rfl rfl), (ke rfl fun s a b hK => BindsTo.of_defaults rfl (hK _ _ dl36) rfl rfl rfl), .cons ⟨_, rfl⟩ .nil, ⟨mk36, a36, i36, k36⟩⟩ Cx27 Cx34
 have Cx40 := Dx39.1
 have Cx41 := Dx39.2
 have Cx42 := ox42 l.prog w base z g tf xf ⟨f37, _, yk (st := zbF) l37 c37, .all (us2 (fun _ _ => rfl)), ⟨a37, i37, k37⟩⟩ Cx37
 have Cx43 := ox43 l.prog w base z g tf xf (zP X G a38 l38 c38 k38 (fun _ _ _ _ _ _ => us3 (fun _ _ _ => rfl))) Cx6 Cx32 Cx38 Cx30 Cx36 Cx31 Cx37 Cx42 Cx7
 have Cx44 := ox44 l.prog w base z g tf xf (zP X G a39 l39 c39 k39 (fun _ _ _ _ _ _ => us3 (fun _ _ _ => rfl))) Cx6
 have Cx45 := ox45 l.prog w base z g tf xf (zP X G a40 l40 c40 k40 (fun _ _ _ _ _ _ => us2 (fun _ _ => rfl)))
 have Cx46 := ox46 l.prog w base z g tf xf (zP X G a41 l41 c41 k41 (fun _ _ _ _ _ _ => us1 (fun _ => rfl))) Cx45
 have Cx47 := ox47 l.prog w base z g tf xf (zP X G a42 l42 c42 k42 (fun _ _ _ _ _ _ => us1 (fun _ => rfl))) Cx3 Cx46
 have Dx48 := ox48 l.prog w base z g tf xf ⟨.none, f43, _, [], yk (st := zbH) l43 c43, (.all (us2 (fun _ _ => rfl))), (.all (us2 (fun _ _ => rfl))), .nil, ⟨mk43, a43, i43, k43⟩⟩ Cx47
 have Cx49 := Dx48.1
 have Cx50 := ox50 l.prog w base z g tf xf ⟨f44, _, yk (st := zbI) l44 c44, .all (us2 (fun _ _ => rfl)), ⟨a44, i44, k44⟩⟩
 have Cx51 := ox51 l.prog w base z g tf xf ⟨f45, _, yk (st := zbJ) l45 c45, .all (us3 (fun _ _ _ => rfl)), ⟨a45, i45, k45⟩⟩ Cx2
 have Cx52 := ox52 l.prog w base z g tf xf ⟨f46, _, yk (st := zbK) l46 c46, .all (us2 (fun _ _ => rfl)), ⟨a46, i46, k46⟩⟩ Cx50
 have Cx53 := ox53 l.prog w base z g tf xf ⟨f47, _, yk (st := zbL) l47 c47, .all (us3 (fun _ _ _ => rfl)), ⟨a47, i47, k47⟩⟩ Cx50 Cx2 Cx51
 have Cx54 := ox54 l.prog w base z g tf xf ⟨f48, _, yk (st := zbM) l48 c48, .all (us4 (fun _ _ _ _ => rfl)), ⟨a48, i48, k48⟩⟩ Cx50 Cx52
 have Dx55 := ox55 l.prog w base z g tf xf ⟨.ref dT49, f49, _, [.int 4 dtk49], yk (st := zbN) l49 c49, (wW rfl fun s a b c d hK => BindsTo.of_defaults rfl (hK _ _ dl49) rfl rfl rfl), (vK rfl fun s a b c hK => BindsTo.of_defaults rfl (hK _ _ dl49) rfl rfl rfl), .cons ⟨_, rfl⟩ .nil, ⟨mk49, a49, i49, k49⟩⟩ Cx3
 have Cx56 := Dx55.1
 have Cx57 := Dx55.2
 have Cx58 := ox58 l.prog w base z g tf xf ⟨f50, _, yk (st := zbO) l50 c50, .all (us2 (fun _ _ => rfl)), ⟨a50, i50, k50⟩⟩ Cx2
 have Cx59 := ox59 l.prog w base z g tf xf ⟨f51, _, yk (st := zbP) l51 c51, .all (us1 (fun _ => rfl)), ⟨a51, i51, k51⟩⟩ Cx8
 have Cx60 := ox60 l.prog w base z g tf xf (zP X G a52 l52 c52 k52 (fun _ _ _ _ _ _ => us2 (fun _ _ => rfl)))
 have Cx61 := ox61 l.prog w base z g tf xf (zP X G a53 l53 c53 k53 (fun _ _ _ _ _ _ => us1 (fun _ => rfl)))
 have Cx62 := ox62 l.prog w base z g tf xf (zP X G a54 l54 c54 k54 (fun _ _ _ _ _ _ => us2 (fun _ _ => rfl)))
 have Cx63 := ox63 l.prog w base z g tf xf (zP X G a55 l55 c55 k55 (fun _ _ _ _ _ _ => us2 (fun _ _ => rfl))) Cx3 Cx4 Cx5 Cx7 Cx8 Cx9 Cx10 Cx29 Cx57 Cx49 Cx14 Cx15
 have Cx64 := ox64 l.prog w base z g tf xf (zP X G a56 l56 c56 k56 (fun _ _ _ _ _ _ => us3 (fun _ _ _ => rfl))) Cx14 Cx15 Cx34 Cx40
 have Cx65 := ox65 l.prog w base z g tf xf (zP X G a57 l57 c57 k57 (fun _ _ _ _ _ _ => us2 (fun _ _ => rfl))) Cx63 Cx62 Cx34 Cx40 Cx57 Cx56 Cx14 Cx15 Cx64
 have Cx66 := ox66 l.prog w base z g tf xf (zP X G a58 l58 c58 k58 (fun _ _ _ _ _ _ => us2 (fun _ _ => rfl))) Cx7 Cx8 Cx9 Cx10 Cx43 Cx35 Cx44 Cx41 Cx14 Cx52 Cx49 Cx53 Cx54
 have Cx67 := ox67 l.prog w base z g tf xf (zP X G a59 l59 c59 k59 (fun _ _ _ _ _ _ => us2 (fun _ _ => rfl))) Cx7 Cx9 Cx4 Cx43 Cx29 Cx35 Cx41 Cx31 Cx37 Cx42 Cx58 Cx57 Cx14 Cx51 Cx49 Cx53
 have Cx68 := ox68 l.prog w base z g tf xf (zP X G a60 l60 c60 k60 (fun _ _ _ _ _ _ => us2 (fun _ _ => rfl))) Cx5 Cx51 Cx49
 have Cx69 := ox69 l.prog w base z g tf xf (zP X G a61 l61 c61 k61 (fun _ _ _ _ _ _ => us3 (fun _ _ _ => rfl))) Cx65 Cx66 Cx67 Cx68 Cx59 Cx56 Cx54 Cx49 Cx19 Cx26
 exact zfi _ _ _ z g tf xf (wI (st := jK) l62 c62 k62) Cx61 Cx60 Cx69
theorem walk {l : PySem.W.OpenLaw} {q : Program} {loose : List Str} {XP : (Mq) -> Heap -> Prop} {YP : World -> Heap -> Prop} {d : DefRec} {K : Params -> Frag} (hn : l.most = some 63) (hdf : d.params.defaults = [])
  (hY : ∀ (w : World) (h : Heap), YP w h -> (K w.params).In h)
  (F : ∀ (w : World) (mg : Mq) (fa : Addr) (h : Heap), (K w.params).In h -> h.Ns mainGlobals mg -> mg d.name = some (.ref fa) →
   ∃ fd : FuncData, (∀ (s : Shared) (u : Value), BindsTo s fd ⟨[u], []⟩ [("script", u)]) /\ ∀ base : Heap, (K w.params).In base -> base.Ns mainGlobals mg -> FnOk l.prog w (K w.params) mg base CX0 9 fa fd ["script"] (vn (K w.params))) :
  PySem.W.WalkO q loose XP YP l.row.toRowW d [] (fun f vs => PySem.call f vs) :=
 L2.walk_of (n := 63) (k := 9) (x := "script") (CX := fun _ => CX0) (sp := fun w => vn (K w.params)) hn (by decide) hdf ⟨rfl, by decide, by decide⟩ hY F (fun _ _ a ns hl _ hS => ⟨a, ns, rfl, hS, hl, fun _ => rfl⟩) fun _ _ _ _ _ z => z
end T
open PySem PySem.W PyProof.Rows
namespace PySem.W.Fast
theorem tw11785484367760625692 : True := trivial
theorem tw8218851435509664477 : True := trivial
theorem tw9845352814527660585 : True := trivial
theorem tw17296383013940822366 : True := trivial
theorem tw10312395236333959895 : True := trivial
theorem tw7492379623059452497 : True := trivial
theorem tw6796503862622992902 : True := trivial
theorem tw14216560361963103992 : True := trivial
theorem tw776150274632467502 : True := trivial
theorem tw9392651495969384854 : True := trivial
theorem tw13519962421757438130 : True := trivial
theorem tw4498713717522914556 : True := trivial
theorem tw7316032613067042477 : True := trivial
theorem tw8147751929571860236 : True := trivial
theorem tw13696475636597048024 : True := trivial
theorem tw13327690817923913153 : True := trivial
theorem tw13303655063590922818 : True := trivial
theorem tw17275525690910358541 : True := trivial
theorem tw8641708234220020447 : True := trivial
theorem tw10607008632200868407 : True := trivial
theorem tw1827522902530049600 : True := trivial
theorem tw13350139037473929827 : True := trivial
theorem tw5645447795274069040 : True := trivial
theorem tw18246588769121924013 : True := trivial
theorem tw3593614881317615112 : True := trivial
theorem tw16722553175241541157 : True := trivial
theorem tw261237429867256044 : True := trivial
theorem tw11787631371687700332 : True := trivial
theorem tw13756360446687669387 : True := trivial
theorem tw17272021232998907019 : True := trivial
theorem tw12332996848164963464 : True := trivial
theorem tw11325956761183638637 : True := trivial
theorem tw10273610944497193973 : True := trivial
theorem tw8871867164587762114 : True := trivial
theorem tw7256951765282296548 : True := trivial
theorem tw7062908212010655567 : True := trivial
theorem tw8029523680861936701 : True := trivial
theorem tw13300357397606196062 : True := trivial
theorem tw5473902817767532920 : True := trivial
theorem tw10533277974321737832 : True := trivial
theorem tw12194013594874455442 : True := trivial
theorem tw13428135006709991115 : True := trivial
theorem tw1328308024865737220 : True := trivial
theorem tw9785352415404620445 : True := trivial
theorem tw7432201723760758132 : True := trivial
theorem tw1051646598315741133 : True := trivial
theorem tw5043542414242664608 : True := trivial
theorem tw14035354933544017988 : True := trivial
theorem tw17635431905202166371 : True := trivial
theorem tw17258838261547328188 : True := trivial
theorem tw12401663854870071604 : True := trivial
theorem tw4951725368159831767 : True := trivial
theorem tw9380423883468535790 : True := trivial
theorem tw15410383437178911421 : True := trivial
theorem tw12669773949173328044 : True := trivial
theorem tw12308821214607976087 : True := trivial
theorem tw15270588299620644169 : True := trivial
theorem tw6510581264016906479 : True := trivial
theorem tw4135419143593190122 : True := trivial
theorem tw12939731378407761096 : True := trivial
theorem tw17141326539462214716 : True := trivial
theorem tw7962223205867560354 : True := trivial
theorem tw13938364662951565403 : True := trivial
theorem tw4773647447153804053 : True := trivial
theorem tw8525682106125815388 : True := trivial
theorem tw11870588844848697864 : True := trivial
theorem tw13647980962102094174 : True := trivial
theorem tw3415247625370447318 : True := trivial
theorem tw7048195241723393707 : True := trivial
theorem tw17229947136221637271 : True := trivial
theorem tw5375738053898328783 : True := trivial
theorem tw4337694150676142926 : True := trivial
theorem tw13607999138390634974 : True := trivial
theorem tw10564643806012984383 : True := trivial
theorem tw11411512246742920713 : True := trivial
theorem tw8021882324481559788 : True := trivial
theorem tw5270583370553042574 : True := trivial
theorem tw16287835343726519293 : True := trivial
theorem tw15823113325296122213 : True := trivial
theorem tw9126928569113469279 : True := trivial
theorem tw7161027984870202615 : True := trivial
theorem tw2546796745362196863 : True := trivial
theorem tw11642926910673923991 : True := trivial
theorem tw2543148631833038641 : True := trivial
theorem tw16630514810343240085 : True := trivial
theorem tw7384378484783141020 : True := trivial
theorem tw6245448639522403292 : True := trivial
theorem tw16142127442739411439 : True := trivial
theorem tw1211586672587881815 : True := trivial
theorem tw3502939138260796777 : True := trivial
end PySem.W.Fast
set_option maxRecDepth 100000 in
set_option maxHeartbeats 0 in
theorem PySem.Challenge.cw_numberpile_k19_each_refusal_its_own_holds : PySem.Challenge.rw_numberpile_k19_each_refusal_its_own.Holds := by
 w_on; o_law; k_head; (case hw => w_witness2)
 k_fill
 refine T.walk (l := PySem.Challenge.rw_numberpile_k19_each_refusal_its_own) rfl rfl (fun w h Y => PySem.W.kIn_of Y) ?F
 case F =>
  intro w mg fa h KX G hmg
  apply T.all_mk KX G hmg
  iterate 18 (k_is)
  iterate 1 (kit_is)
  iterate 12 (k_is)
  iterate 1 (kit_is)
  iterate 12 (k_is)
  iterate 1 (kit_is)
  iterate 21 (k_is)
  iterate 6 (decide)
  iterate 1 (k_is)
  iterate 1 (k_exc)
  iterate 1 (k_is)
  iterate 1 (k_exc)
  iterate 2 (k_is)
  iterate 1 (k_exc)
  iterate 2 (k_is)
  iterate 1 (k_exc)
  iterate 2 (k_is)
  iterate 1 (k_exc)
  iterate 2 (k_is)
  iterate 1 (k_exc)
  iterate 2 (k_is)
  iterate 1 (k_exc)
  iterate 2 (k_is)
  iterate 1 (k_exc)
  iterate 8 (k_is)
  iterate 8 (kit_is)
  iterate 5 (k_is)
  iterate 8 (kit_is)
  iterate 5 (k_is)
  iterate 8 (kit_is)
  iterate 5 (k_is)
  iterate 8 (kit_is)
  iterate 5 (k_is)
  iterate 8 (kit_is)
  iterate 5 (k_is)
  iterate 8 (kit_is)
  iterate 5 (k_is)
  iterate 8 (kit_is)
  iterate 302 (k_is)
