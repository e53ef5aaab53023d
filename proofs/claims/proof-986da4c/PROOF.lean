import PyProof.Rows.All
import Wide.All
import OpenK.AllK
import Wide.FinOn
import PyProof.EqAt
import PyProof.EqKinds
import PyProof.TupleCall
import KE.BitLaws
import PyProof.ZipIter
import PyProof.WalksMore
import PyProof.TupleIter
import PyProof.Rows.SortLt
import PyProof.ListRange
import PyProof.EnumMake
import PyProof.Draws
import PyProof.CollectIter
import KE.KSortKeySt
import KE.KSortAsk
import KE.KRevIter
import Open.SpecLaws
import KE.OsHead
import KE.OsGo
import PySem.Challenge.RW_toldworths_s01_answers

section
set_option Elab.async false
set_option linter.all false
set_option maxRecDepth 100000
namespace L2
open PySem PySem.Spec PyProof.Rows

abbrev Key := Sum Int Str
def keyIs : Key → Value → Bool
  | .inl k, v => Value.isInt k v
  | .inr x, v => Value.isStrOf x v
def keyH (w : World) : Key → Int
  | .inl k => hashInt k
  | .inr x => hashStr w x
theorem keyIs_shape : ∀ {k : Key} {v : Value}, keyIs k v = true → (∃ i t, k = Sum.inl i ∧ v = Value.int i t) ∨ (∃ x t, k = Sum.inr x ∧ v = Value.str x t)
  | .inl i, v, h => by
    obtain ⟨t, e⟩ := Value.isInt_shape (k := i) (v := v) h
    exact .inl ⟨i, t, rfl, e⟩
  | .inr x, v, h => by
    obtain ⟨t, e⟩ := Value.isStrOf_shape (x := x) (v := v) h
    exact .inr ⟨x, t, rfl, e⟩
theorem keyIs_int (i : Int) (t : Tok) : keyIs (.inl i) (.int i t) = true := by simp [keyIs, Value.isInt]
theorem keyIs_str (x : Str) (t : Tok) : keyIs (.inr x) (.str x t) = true := by simp [keyIs, Value.isStrOf]
theorem key_ll (a b : Int) : decide ((Sum.inl a : Key) = Sum.inl b) = (a == b) := by
  by_cases e : a = b
  · subst e; simp
  · have h : ¬ (Sum.inl a : Key) = Sum.inl b := fun q => e (Sum.inl.inj q)
    rw [decide_eq_false h]
    exact (beq_eq_false_iff_ne.mpr e).symm
theorem key_rr (a b : Str) : decide ((Sum.inr a : Key) = Sum.inr b) = decide (a = b) := by
  by_cases e : a = b
  · subst e; simp
  · have h : ¬ (Sum.inr a : Key) = Sum.inr b := fun q => e (Sum.inr.inj q)
    rw [decide_eq_false h, decide_eq_false e]
theorem key_lr (a : Int) (b : Str) : decide ((Sum.inl a : Key) = Sum.inr b) = false := decide_eq_false (fun q => nomatch q)
theorem key_rl (a : Str) (b : Int) : decide ((Sum.inr a : Key) = Sum.inl b) = false := decide_eq_false (fun q => nomatch q)

def mixKind (prog : Program) (w : World) : PySem.KeyKind prog w Key where
  is := keyIs
  hash := keyH w
  inj := fun v a b ha hb => by
    rcases keyIs_shape ha with ⟨i, t, rfl, rfl⟩ | ⟨x, t, rfl, rfl⟩
    · rcases keyIs_shape hb with ⟨j, u, rfl, e⟩ | ⟨y, u, rfl, e⟩
      · injection e with e1 _; rw [e1]
      · exact nomatch e
    · rcases keyIs_shape hb with ⟨j, u, rfl, e⟩ | ⟨y, u, rfl, e⟩
      · exact nomatch e
      · injection e with e1 _; rw [e1]
  byValue := fun k v h => by
    rcases keyIs_shape h with ⟨i, t, rfl, rfl⟩ | ⟨x, t, rfl, rfl⟩ <;> rfl
  pyHash := fun hv h => by
    rcases keyIs_shape hv with ⟨i, t, rfl, rfl⟩ | ⟨x, t, rfl, rfl⟩
    · exact wpAny_pyHash_int h
    · exact wpAny_pyHash_str h
  eqBool := fun hu hv h => by
    rcases keyIs_shape hu with ⟨i, t, rfl, rfl⟩ | ⟨x, t, rfl, rfl⟩
    · rcases keyIs_shape hv with ⟨j, u, rfl, rfl⟩ | ⟨y, u, rfl, rfl⟩
      · rw [key_ll] at h; exact wpAny_eqBool_int h
      · rw [key_lr] at h; exact SeqAt.EqAt.int_str i t y u _ _ _ _ h
    · rcases keyIs_shape hv with ⟨j, u, rfl, rfl⟩ | ⟨y, u, rfl, rfl⟩
      · rw [key_rl] at h; exact SeqAt.EqAt.str_int x t j u _ _ _ _ h
      · rw [key_rr] at h; exact wpAny_eqBool_str h
  «strs» := fun k x t v h => by
    rcases keyIs_shape h with ⟨i, u, rfl, e⟩ | ⟨y, u, rfl, e⟩
    · exact nomatch e
    · injection e with e1 _
      subst e1
      cases v <;> rfl

theorem mixKind_int (prog : Program) (w : World) (i : Int) (t : Tok) : (mixKind prog w).is (.inl i) (.int i t) = true := keyIs_int i t
theorem mixKind_str (prog : Program) (w : World) (x : Str) (t : Tok) : (mixKind prog w).is (.inr x) (.str x t) = true := keyIs_str x t
end L2

namespace L2
open PySem PySem.Spec PyProof.Rows

inductive V where
  | non | bl (b : Bool) | int (i : Int) | str (x : Str) | byt (b : Array UInt8) | flt (b : UInt64) | ref (a : Addr) | ty (n : String)
  deriving DecidableEq

def RelV : V → Value → Prop
  | .non, u => u = Value.none
  | .bl b, u => u = Value.bool b
  | .int i, u => ∃ t, u = Value.int i t
  | .str x, u => ∃ t, u = Value.str x t
  | .byt b, u => ∃ t, u = Value.bytes b t
  | .flt b, u => ∃ t, u = Value.float b t
  | .ref a, u => u = Value.ref a
  | .ty n, u => u = Value.type n

abbrev Vals : List V → List Value → Prop := Paired RelV
theorem Vals.length {xs : List V} {us : List Value} (r : Vals xs us) : xs.length = us.length := Paired.length r
theorem Vals.get : ∀ {xs : List V} {us : List Value} {i : Nat} {x : V}, Vals xs us → xs[i]? = some x → ∃ u, us[i]? = some u ∧ RelV x u
  | _, _, _, _, .nil, e => by simp at e
  | _, _, 0, _, .cons r _, e => by simp at e; subst e; exact ⟨_, rfl, r⟩
  | _, _, i + 1, x, .cons _ t, e => by
    obtain ⟨u, h1, h2⟩ := Vals.get (i := i) (x := x) t (by simpa using e)
    exact ⟨u, by simpa using h1, h2⟩
theorem Vals.set {x : V} {u : Value} (r : RelV x u) : ∀ {xs : List V} {us : List Value} (i : Nat), Vals xs us → Vals (xs.set i x) (us.set i u)
  | _, _, _, .nil => .nil
  | _, _, 0, .cons _ t => .cons r t
  | _, _, i + 1, .cons q t => .cons q (Vals.set r i t)
theorem Vals.append : ∀ {xs ys : List V} {us ws : List Value}, Vals xs us → Vals ys ws → Vals (xs ++ ys) (us ++ ws)
  | _, _, _, _, .nil, s => s
  | _, _, _, _, .cons r t, s => .cons r (Vals.append t s)
theorem Vals.take : ∀ {xs : List V} {us : List Value} (n : Nat), Vals xs us → Vals (xs.take n) (us.take n)
  | _, _, 0, _ => .nil
  | _, _, _ + 1, .nil => .nil
  | _, _, n + 1, .cons r t => .cons r (Vals.take n t)
theorem Vals.drop : ∀ {xs : List V} {us : List Value} (n : Nat), Vals xs us → Vals (xs.drop n) (us.drop n)
  | _, _, 0, r => r
  | _, _, _ + 1, .nil => .nil
  | _, _, n + 1, .cons _ t => Vals.drop n t
def RelO : Option V → Option Value → Prop
  | some v, some u => RelV v u
  | none, none => True
  | _, _ => False
def KV {κ : Type} : List (κ × V) → List (κ × Value) → Prop := Paired fun (p : κ × V) (q : κ × Value) => p.1 = q.1 ∧ RelV p.2 q.2

def kV : Key → V
  | .inl i => .int i
  | .inr x => .str x

inductive HO where
  /-- a list -/
  | lst (xs : List V)
  /-- a tuple (never changes) -/
  | tup (xs : List V)
  /-- a dict whose keys are ints and texts; one whose keys are tuples of ints and texts (the empty one is both) -/
  | dK (kvs : List (Key × V)) | dT (kvs : List (List Key × V))
  /-- a set of ints: its members, its size -/
  | set (S : Int → Bool) (n : Nat)
  /-- an instance of the class at C, its dict at dx, its attributes -/
  | ins (C dx : Addr) (fs : List (Str × V))
  /-- the dict of the instance at x -/
  | own (x : Addr)
  /-- the dict of an exception -/
  | xd (fs : List (Str × V))
  /-- a bound method, f of x -/
  | met (f x : Addr)
  /-- a range object lo, lo + 1, .. below hi -/
  | rng (lo hi : Int)
  /-- a thing that is known to the object (the script; a dict while a loop walks it): read, never written while it is so -/
  | frz (o : Obj) (u : HO)
  /-- a code object's table -/
  | tbl (ps : Array Value)
  /-- any other thing, by what is true of its one object (a def of one's own: SetO a S n := HO.ext fun h => ..) -/
  | ext (φ : Heap → Prop)

abbrev Hp := Addr → Option HO
def upd (H : Hp) (a : Addr) (o : HO) : Hp := fun b => if b = a then some o else H b
theorem upd_same {H : Hp} {a : Addr} {o : HO} : upd H a o a = some o := by unfold upd; rw [if_pos rfl]
theorem upd_ne {H : Hp} {a b : Addr} {o : HO} (h : b ≠ a) : upd H a o b = H b := by unfold upd; rw [if_neg h]
theorem ne_of_none {H : Hp} {a b : Addr} {o : HO} (h : H a = some o) (h' : H b = none) : a ≠ b := by
  intro e; subst e; rw [h] at h'; cases h'

section
variable (P : Program) (w : World)
def ObjOk (H : Hp) (h : Heap) (a : Addr) : HO → Prop
  | .lst xs => xs.length ≤ sizeLine ∧ ∃ (its : List Value) (n : Nat), Vals xs its ∧ h.get? a = some { cls := .type "list", data := .seq its.toArray n }
  | .tup xs => xs.length ≤ sizeLine ∧ ∃ its : List Value, Vals xs its ∧ IsTup h a its.toArray
  | .dK kvs => kvs.length ≤ sizeLine ∧ (a == sysModules) = false ∧ ∃ vs, KV kvs vs ∧ h.DictOf (mixKind P w) a vs
  | .dT kvs => kvs.length ≤ sizeLine ∧ (a == sysModules) = false ∧ ∃ xs : List (List Key × Addr × Value),
      Paired (fun (p : List Key × V) (q : List Key × Addr × Value) => p.1 = q.1 ∧ H q.2.1 = some (.tup (p.1.map kV)) ∧ RelV p.2 q.2.2) kvs xs ∧
      ∃ o es ep, h.get? a = some o ∧ o.ExactDict ∧ o.data = .dict es ep ∧ es.toList = xs.map (entryOfKey (tupleKind (mixKind P w))) ∧ (xs.map (·.1)).Nodup
  | .set S n => h.SetOf (intKind P w) a S n
  | .ins C dx fs => H dx = some (.own a) ∧ fs.length ≤ 1000 ∧ dx ≠ a ∧ h.get? a = some (PySem.W.instObj C dx) ∧
      ∃ mA, h.Ns1 dx mA ∧ (∀ f, RelO (fs.lookup f) (mA f)) ∧ PySem.Within mA (fs.map (·.1))
  | .own _ => ∃ o, h.get? a = some o
  | .xd fs => ∃ mA, h.Ns1 a mA ∧ ∀ f, RelO (fs.lookup f) (mA f)
  | .rng lo hi => ∃ t u v, h.get? a = some { cls := .type "range", data := .fields #[.int lo t, .int hi u, .int 1 v] }
  | .frz o u => h.get? a = some o ∧ ObjOk H h a u
  | .tbl ps => h.get? a = some { cls := .none, data := .fields ps }
  | .met f x => h.get? a = some (PySem.W.methodObj (.ref f) (.ref x))
  | .ext φ => φ h ∧ (∃ o, h.get? a = some o) ∧ ∀ h1 h2 : Heap, φ h1 → (∀ o, h1.get? a = some o → h2.get? a = some o) → φ h2
def HOk (H : Hp) (h : Heap) : Prop := ∀ a o, H a = some o → ObjOk P w H h a o
end

section
variable {P : Program} {w : World} {H H' : Hp} {h h' : Heap} {a : Addr} {o : HO}
theorem ObjOk.lt (x : ObjOk P w H h a o) : a < h.objs.size := by
  cases o with
  | lst xs => obtain ⟨_, _, _, _, e⟩ := x; exact Heap.lt_size e
  | tup xs => obtain ⟨_, _, _, p⟩ := x; exact p.lt
  | dK kvs => obtain ⟨_, _, _, _, o, _, _, e, _⟩ := x; exact Heap.lt_size e
  | dT kvs => obtain ⟨_, _, _, _, o, _, _, e, _⟩ := x; exact Heap.lt_size e
  | set S n => obtain ⟨o, _, _, _, e, _⟩ := x; exact Heap.lt_size e
  | ins C dx fs => obtain ⟨_, _, _, e, _⟩ := x; exact Heap.lt_size e
  | own y => obtain ⟨_, e⟩ := x; exact Heap.lt_size e
  | xd fs => obtain ⟨_, ⟨_, _, _, e, _⟩, _⟩ := x; exact Heap.lt_size e
  | rng lo hi => obtain ⟨_, _, _, e⟩ := x; exact Heap.lt_size e
  | frz ob u => obtain ⟨e, _⟩ := x; exact Heap.lt_size e
  | tbl ps => exact Heap.lt_size (show h.get? a = some _ from x)
  | met f y => exact Heap.lt_size (show h.get? a = some _ from x)
  | ext φ => obtain ⟨_, ⟨_, e⟩, _⟩ := x; exact Heap.lt_size e
theorem Paired.mapP {α β : Type} {F G : α → β → Prop} : ∀ {l₁ : List α} {l₂ : List β}, Paired F l₁ l₂ → (∀ a b, F a b → G a b) → Paired G l₁ l₂
  | _, _, .nil, _ => .nil
  | _, _, .cons r t, f => .cons (f _ _ r) (Paired.mapP t f)
theorem ObjOk.stay (x : ObjOk P w H h a o) (k : ∀ b u, (b = a ∨ H b = some (.own a)) → h.get? b = some u → h'.get? b = some u)
    (ho : ∀ b, H b = some (.own a) → H' b = some (.own a)) (ht : ∀ b xs, H b = some (.tup xs) → H' b = some (.tup xs)) : ObjOk P w H' h' a o := by
  induction o with
  | lst xs => obtain ⟨z, its, n, r, e⟩ := x; exact ⟨z, its, n, r, k _ _ (.inl rfl) e⟩
  | tup xs => obtain ⟨z, its, r, ob, e, c⟩ := x; exact ⟨z, its, r, ob, k _ _ (.inl rfl) e, c⟩
  | dK kvs => obtain ⟨z, y, vs, r, ob, es, ep, e, c⟩ := x; exact ⟨z, y, vs, r, ob, es, ep, k _ _ (.inl rfl) e, c⟩
  | dT kvs =>
    obtain ⟨z, y, xs, r, ob, es, ep, e, c⟩ := x
    exact ⟨z, y, xs, Paired.mapP r fun p q z => ⟨z.1, ht _ _ z.2.1, z.2.2⟩, ob, es, ep, k _ _ (.inl rfl) e, c⟩
  | set S n => obtain ⟨ob, es, ep, t, e, c⟩ := x; exact ⟨ob, es, ep, t, k _ _ (.inl rfl) e, c⟩
  | ins C dx fs =>
    obtain ⟨d, z, ne, e, mA, ⟨od, es, ep, e2, c⟩, r⟩ := x
    exact ⟨ho _ d, z, ne, k _ _ (.inl rfl) e, mA, ⟨od, es, ep, k _ _ (.inr d) e2, c⟩, r⟩
  | own y => obtain ⟨ob, e⟩ := x; exact ⟨ob, k _ _ (.inl rfl) e⟩
  | xd fs => obtain ⟨mA, ⟨od, es, ep, e, c⟩, r⟩ := x; exact ⟨mA, ⟨od, es, ep, k _ _ (.inl rfl) e, c⟩, r⟩
  | rng lo hi => obtain ⟨t, u, v, e⟩ := x; exact ⟨t, u, v, k _ _ (.inl rfl) e⟩
  | frz ob u ih => obtain ⟨e, q⟩ := x; exact ⟨k _ _ (.inl rfl) e, ih q⟩
  | tbl ps =>
    have e : h.get? a = some { cls := .none, data := .fields ps } := x
    show h'.get? a = some { cls := .none, data := .fields ps }
    exact k a _ (.inl rfl) e
  | met f y =>
    have e : h.get? a = some (PySem.W.methodObj (.ref f) (.ref y)) := x
    show h'.get? a = some (PySem.W.methodObj (.ref f) (.ref y))
    exact k a _ (.inl rfl) e
  | ext φ => obtain ⟨p, ⟨o, e⟩, st⟩ := x; exact ⟨st _ _ p fun o q => k _ _ (.inl rfl) q, ⟨o, k _ _ (.inl rfl) e⟩, st⟩
theorem HOk.lt (x : HOk P w H h) (e : H a = some o) : a < h.objs.size := (x a o e).lt
theorem HOk.fresh (x : HOk P w H h) (e : h.objs.size ≤ a) : H a = none := by
  cases q : H a with
  | none => rfl
  | some u => exact absurd (Nat.lt_of_lt_of_le (x.lt q) e) (Nat.lt_irrefl _)
theorem HOk.kept (x : HOk P w H h) (k : ∀ b u, h.get? b = some u → h'.get? b = some u) : HOk P w H h' := fun a o e =>
  (x a o e).stay (fun b u _ q => k b u q) (fun _ q => q) fun _ _ q => q
theorem HOk.laid (x : HOk P w H h) (k : ∀ b u, h.get? b = some u → h'.get? b = some u) (hp : h.objs.size ≤ a) (new : ObjOk P w (upd H a o) h' a o) : HOk P w (upd H a o) h' := fun b u e => by
  have hn := x.fresh hp
  by_cases hb : b = a
  · subst hb; rw [upd_same] at e; cases e; exact new
  · rw [upd_ne hb] at e
    exact (x b u e).stay (fun c v _ q => k c v q) (fun c q => by rw [upd_ne (ne_of_none q hn)]; exact q) fun c xs q => by rw [upd_ne (ne_of_none q hn)]; exact q
end

def Rd (H : Hp) (a : Addr) (u : HO) : Prop := H a = some u ∨ ∃ o, H a = some (.frz o u)
theorem Rd.ok {P : Program} {w : World} {H : Hp} {h : Heap} {a : Addr} {u : HO} (r : Rd H a u) (x : HOk P w H h) : ObjOk P w H h a u := by
  rcases r with r | ⟨o, r⟩
  · exact x a u r
  · obtain ⟨_, q⟩ := x a _ r
    exact q
def Mut : Option HO → Prop
  | some (.lst _) => True
  | some (.dK _) => True
  | some (.dT _) => True
  | some (.set _ _) => True
  | some (.ins _ _ _) => True
  | some (.ext _) => True
  | _ => False
section
variable {P : Program} {w : World} {H : Hp} {h h' : Heap} {x e : Addr} {o' : HO}
theorem HOk.write (ok : HOk P w H h) (mu : Mut (H x)) (he : e = x ∨ H e = some (.own x)) (k : ∀ b u, b ≠ e → h.get? b = some u → h'.get? b = some u) (heo : ∃ u, h'.get? e = some u)
    (new : ObjOk P w (upd H x o') h' x o') : HOk P w (upd H x o') h' := fun b u q => by
  have nown : ∀ c y, H c = some (.own y) → c ≠ x := fun c y r z => by subst z; rw [r] at mu; exact mu
  have ntup : ∀ c xs, H c = some (.tup xs) → c ≠ x := fun c xs r z => by subst z; rw [r] at mu; exact mu
  by_cases hb : b = x
  · subst hb; rw [upd_same] at q; cases q; exact new
  · rw [upd_ne hb] at q
    by_cases hbe : b = e
    · have q' : H b = some (.own x) := by
        rcases he with z | z
        · exact absurd (hbe.trans z) hb
        · rw [hbe]; exact z
      rw [q] at q'; cases q'
      obtain ⟨v, hv⟩ := heo
      exact ⟨v, by rw [hbe]; exact hv⟩
    · refine (ok b u q).stay (fun c v hc r => k c v ?_ r) (fun c r => by rw [upd_ne (nown c b r)]; exact r) fun c xs r => by rw [upd_ne (ntup c xs r)]; exact r
      rcases hc with rfl | hc
      · exact hbe
      · rintro rfl
        rcases he with z | z
        · exact nown c b hc z
        · rw [hc] at z; cases z; exact hb rfl
end

structure Un (fs ex : List Addr) (H H' : Hp) (h h' : Heap) : Prop where
  keep : ∀ b o, h.get? b = some o → H b = none → b ∉ fs → b ∉ ex → h'.get? b = some o
  slot : ∀ b o, h.get? b = some o → H b = none → b ∈ fs → b ∉ ex → ∃ sl, h'.get? b = some { o with slots := sl }
  free : ∀ b o, h.get? b = some o → H b = none → b ∉ ex → H' b = none
  there : ∀ b o, h.get? b = some o → b ∉ ex → ∃ o', h'.get? b = some o'
  tups : ∀ b xs, H b = some (.tup xs) → H' b = some (.tup xs)
  frzs : ∀ b o u, H b = some (.frz o u) → H' b = some (.frz o u)
  tbls : ∀ b ps, H b = some (.tbl ps) → ∃ more, H' b = some (.tbl (ps ++ more))
section
variable {fs fs' ex ex' : List Addr} {H H1 H2 : Hp} {h h1 h2 h' : Heap} {a x e : Addr} {o : HO}
theorem Un.any (u : Un fs ex H H1 h h1) {b : Addr} {ob : Obj} (q : h.get? b = some ob) (n : H b = none) (hx : b ∉ ex) : ∃ sl, h1.get? b = some { ob with slots := sl } := by
  by_cases hb : b ∈ fs
  · exact u.slot b ob q n hb hx
  · exact ⟨ob.slots, u.keep b ob q n hb hx⟩
theorem Un.kept (k : ∀ b u, h.get? b = some u → h'.get? b = some u) : Un fs ex H H h h' :=
  ⟨fun b ob q _ _ _ => k b ob q, fun b ob q _ _ _ => ⟨ob.slots, k b ob q⟩, fun _ _ _ n _ => n, fun b ob q _ => ⟨ob, k b ob q⟩, fun _ _ q => q, fun _ _ _ q => q, fun _ ps q => ⟨#[], by rw [q]; simp⟩⟩
theorem Un.refl : Un fs ex H H h h := Un.kept fun _ _ q => q
theorem Un.laid (k : ∀ b u, h.get? b = some u → h'.get? b = some u) (hp : h.objs.size ≤ a) (hn : H a = none) : Un fs ex H (upd H a o) h h' where
  keep := fun b u q _ _ _ => k b u q
  slot := fun b u q _ _ _ => ⟨u.slots, k b u q⟩
  free := fun b u q n _ => by rw [upd_ne (Nat.ne_of_lt (Nat.lt_of_lt_of_le (Heap.lt_size q) hp))]; exact n
  there := fun b u q _ => ⟨u, k b u q⟩
  tups := fun b xs q => by rw [upd_ne (ne_of_none q hn)]; exact q
  frzs := fun b u xs q => by rw [upd_ne (ne_of_none q hn)]; exact q
  tbls := fun b ps q => ⟨#[], by rw [upd_ne (ne_of_none q hn), q]; simp⟩
theorem Un.write (mu : Mut (H x)) (he : e = x ∨ H e = some (.own x)) (k : ∀ b u, b ≠ e → h.get? b = some u → h'.get? b = some u) (heo : ∃ u, h'.get? e = some u) : Un fs ex H (upd H x o) h h' := by
  have hx : ∀ b, H b = none → b ≠ x := fun b n z => by subst z; rw [n] at mu; exact mu
  have hb : ∀ b, H b = none → b ≠ e := fun b n z => by
    subst z
    rcases he with r | r
    · exact hx b n r
    · rw [n] at r; cases r
  have hm : ∀ b u, H b = some u → ¬ Mut (some u) → b ≠ x := fun b u q nm z => by subst z; rw [q] at mu; exact nm mu
  refine ⟨fun b u q n _ _ => k b u (hb b n) q, fun b u q n _ _ => ⟨u.slots, k b u (hb b n) q⟩, fun b u q n _ => by rw [upd_ne (hx b n)]; exact n, fun b u q _ => ?_,
    fun b xs q => by rw [upd_ne (hm b _ q fun z => z)]; exact q, fun b u xs q => by rw [upd_ne (hm b _ q fun z => z)]; exact q, fun b ps q => ⟨#[], by rw [upd_ne (hm b _ q fun z => z), q]; simp⟩⟩
  by_cases hbe : b = e
  · subst hbe; exact heo
  · exact ⟨u, k b u hbe q⟩
end

def trk (h : Heap) (H : Hp) : List Addr := (List.range h.objs.size).filter fun a => (H a).isSome
def hidT (h : Heap) (H : Hp) : Heap := PySem.W.hideAll h (trk h H)
theorem hidT_size (h : Heap) (H : Hp) : (hidT h H).objs.size = h.objs.size := PySem.W.hideAll_size _ _
theorem hidT_get {h : Heap} {H : Hp} {b : Addr} {o : Obj} (e : h.get? b = some o) (n : H b = none) : (hidT h H).get? b = some o :=
  PySem.W.hideAll_get _ e fun hm => by
    have q : (H b).isSome = true := (List.mem_filter.mp hm).2
    rw [n] at q; simp at q
theorem of_hidT {h : Heap} {H : Hp} {b : Addr} {o : Obj} (e : (hidT h H).get? b = some o) : h.get? b = some o ∧ H b = none := by
  have e' : h.get? b = some o := PySem.W.of_hideAll (trk h H) e
  refine ⟨e', ?_⟩
  cases q : H b with
  | none => rfl
  | some x =>
    have hm : b ∈ trk h H := List.mem_filter.mpr ⟨List.mem_range.mpr (Heap.lt_size e'), by simp [q]⟩
    have z : (hidT h H).get? b = none := PySem.W.hideAll_none (trk h H) hm
    rw [z] at e; cases e

def allNews (g h : Heap) (L : Addr) : List (Addr × Obj) := (List.range h.objs.size).filterMap fun a => if a = L ∨ (g.get? a).isSome = true then none else (h.get? a).map fun o => (a, o)
theorem mem_allNews {g h : Heap} {L a : Addr} {o : Obj} (h1 : a ≠ L) (h2 : g.get? a = none) (h3 : h.get? a = some o) : (a, o) ∈ allNews g h L :=
  List.mem_filterMap.mpr ⟨a, List.mem_range.mpr (Heap.lt_size h3), by simp [h1, h2, h3]⟩
theorem of_mem_allNews {g h : Heap} {L : Addr} {p : Addr × Obj} (hp : p ∈ allNews g h L) : p.1 ≠ L ∧ g.get? p.1 = none ∧ h.get? p.1 = some p.2 := by
  obtain ⟨b, _, e⟩ := List.mem_filterMap.mp hp
  split at e
  · cases e
  · rename_i hn
    cases q : h.get? b with
    | none => rw [q] at e; simp at e
    | some u =>
      rw [q] at e
      simp only [Option.map_some, Option.some.injEq] at e
      subst e
      refine ⟨fun z => hn (.inl z), ?_, q⟩
      show g.get? b = none
      cases r : g.get? b with
      | none => rfl
      | some v => exact (hn (.inr (by simp [r]))).elim
theorem news_all {g h : Heap} {L : Addr} : News g L h (allNews g h L) := fun p hp => let ⟨a, b, c⟩ := of_mem_allNews hp; ⟨c, a, b⟩
end L2

namespace L2
open PySem PySem.Spec PyProof.Rows

structure Mod (K : PySem.W.Frag) (mg : Str → Option Value) (base : Heap) : Prop where
  kin : K.In base
  glob : base.Ns mainGlobals mg
  blt : ∃ mb, base.Ns builtinsNs mb ∧ ∀ x : Str, x ≠ "__name__" → mb x = bootBuiltins x
  nolimit : base.NoLimit

structure Cx where
  prog : Program
  w : World
  K : PySem.W.Frag
  mg : Str → Option Value
  base : Heap
  A : Around
  N : List Str
  s_0 : Shared
  H_0 : Hp
  env : Env
  outer : List Env
  stack : List Env
  ex : List Addr
  fn : Str → Bool
  calm : Bool
  pn : List (Addr × Obj)
  xe : Value → Shared → Prop
def frs (l : List Env) : List Addr := l.filterMap (·.frame)
abbrev Cx.fs (X : Cx) : List Addr := frs X.outer

def Vis (sc : Scope) (x : Str) : Prop := sc.names.lookup x = some .local ∨ sc.names.lookup x = some .cell ∨ sc.names.lookup x = some .free
def Loc (sc : Scope) (x : Str) : Prop := sc.names.lookup x = some .local ∨ sc.names.lookup x = some .cell
def Look (env : Env) (h : Heap) (m : Str → Option Value) (x : Str) (u : Value) : Prop :=
  (env.kindOf x = some .local ∧ m x = some u) ∨ ((env.kindOf x = some .cell ∨ env.kindOf x = some .free) ∧ ∃ c, env.cells.lookup x = some c ∧ h.IsCell c (some u))

structure Cx.Ok (X : Cx) : Prop where
  mod : Mod X.K X.mg X.base
  kind : X.env.scope.kind = .function
  glob : X.env.globals = mainGlobals
  blt : X.env.builtins = builtinsNs
  above : X.s_0.heap.objs.size ≤ X.env.locals
  inj : ∀ x y c, X.env.cells.lookup x = some c → X.env.cells.lookup y = some c → x = y
  has : ∀ x, (X.env.kindOf x = some .cell ∨ X.env.kindOf x = some .free) → ∃ c, X.env.cells.lookup x = some c
  cab : ∀ x c, X.fn x = true → X.env.cells.lookup x = some c → X.s_0.heap.objs.size ≤ c
  hd : X.calm = true → X.A.handled = none
  frames : X.A.frames = some X.stack
  stk : X.stack = X.outer ∨ (X.stack = X.env :: X.outer ∧ X.env.frame = some X.env.locals)
  exf : ∀ b ∈ X.ex, b ≠ X.env.locals ∧ ∀ x c, X.env.cells.lookup x = some c → c ≠ b
  bs : ∀ b o, X.base.get? b = some o → X.s_0.heap.get? b = some o ∧ X.H_0 b = none
  bsz : X.base.objs.size ≤ X.s_0.heap.objs.size
  noex : ∀ b o, X.base.get? b = some o → b ∉ X.ex
  exfs : ∀ b ∈ X.ex, b ∉ X.fs
  funs : X.s_0.heap.FunFrames X.base X.outer
  frf : ∀ b ∈ X.fs, X.H_0 b = none

structure Inv (X : Cx) (pins : List (Addr × Obj)) (σ : List (Option V)) (H : Hp) (s : Shared) : Prop where
  ok : X.Ok
  os : s.os = X.s_0.os
  bare : AllBare s.gens
  base : Un X.fs X.ex X.H_0 H X.s_0.heap s.heap
  loc : ∃ m, s.heap.Ns X.env.locals m ∧ ∀ (i : Nat) (x : Str) (v : V), X.N[i]? = some x → σ[i]? = some (some v) → Vis X.env.scope x → ∃ u, RelV v u ∧ Look X.env s.heap m x u
  cell : ∀ x c, X.env.cells.lookup x = some c → ∃ v, s.heap.IsCell c v
  free : H X.env.locals = none
  freeC : ∀ x c, X.env.cells.lookup x = some c → H c = none
  pin : ∀ p ∈ X.pn ++ pins, s.heap.get? p.1 = some p.2 ∧ H p.1 = none ∧ p.1 ≠ X.env.locals ∧ p.1 ∉ X.fs ∧ ∀ v, p.2.data ≠ .cell v
  hok : HOk X.prog X.w H s.heap
  len : σ.length = X.N.length

section
variable {X : Cx} {pins : List (Addr × Obj)} {σ : List (Option V)} {H H' : Hp} {s : Shared} {h' : Heap}

theorem Cx.Ok.nofr (ok : X.Ok) {b : Addr} {o : Obj} (e : X.base.get? b = some o) : b ∉ X.fs := fun hb => by
  have := (ok.funs.mem hb).1
  rw [e] at this; cases this
theorem Inv.bs (I : Inv X pins σ H s) : ∀ b o, X.base.get? b = some o → s.heap.get? b = some o ∧ H b = none := fun b o e =>
  ⟨I.base.keep b o (I.ok.bs b o e).1 (I.ok.bs b o e).2 (I.ok.nofr e) (I.ok.noex b o e), I.base.free b o (I.ok.bs b o e).1 (I.ok.bs b o e).2 (I.ok.noex b o e)⟩
theorem Inv.bk (I : Inv X pins σ H s) : ∀ b o, X.base.get? b = some o → s.heap.get? b = some o := fun b o e => (I.bs b o e).1
theorem Inv.mod (I : Inv X pins σ H s) : Mod X.K X.mg X.base := I.ok.mod
theorem Inv.kIn (I : Inv X pins σ H s) : X.K.In s.heap := I.ok.mod.kin.keeps I.bk
theorem Inv.fr (I : Inv X pins σ H s) : ∃ m, Fr X.base X.env.locals s.heap m :=
  let ⟨m, hn, _⟩ := I.loc
  ⟨m, hn, I.bk, Nat.le_trans I.ok.bsz I.ok.above⟩
theorem Inv.lt (I : Inv X pins σ H s) : X.env.locals < s.heap.objs.size := let ⟨_, hn, _⟩ := I.loc; hn.lt
theorem Inv.sz (I : Inv X pins σ H s) : X.s_0.heap.objs.size ≤ s.heap.objs.size := Nat.le_trans I.ok.above (Nat.le_of_lt I.lt)
theorem Inv.nofs (I : Inv X pins σ H s) {a : Addr} (h : s.heap.objs.size ≤ a) : a ∉ X.fs := fun hb => by
  obtain ⟨_, o, ho, _⟩ := I.ok.funs.mem hb
  exact absurd (Nat.lt_of_lt_of_le (Heap.lt_size ho) (Nat.le_trans I.sz h)) (Nat.lt_irrefl _)
theorem Inv.cne (I : Inv X pins σ H s) : ∀ x c, X.env.cells.lookup x = some c → c ≠ X.env.locals := fun x c e z => by
  obtain ⟨v, o, ho, hd⟩ := I.cell x c e
  obtain ⟨m, ⟨o', es, ep, ho', hd', _⟩, _⟩ := I.loc
  rw [z, ho'] at ho; cases ho; rw [hd'] at hd; cases hd
theorem Inv.funs (I : Inv X pins σ H s) : s.heap.FunFrames X.base X.outer := by
  have all : ∀ (l : List Env), (∀ b ∈ frs l, b ∈ X.fs) → X.s_0.heap.FunFrames X.base l → s.heap.FunFrames X.base l := by
    intro l
    induction l with
    | nil => intro _ _; trivial
    | cons env r ih =>
      intro hs hl
      obtain ⟨hk, ⟨L, o, hf, hn, ho, hd⟩, hr⟩ := hl
      have hL : L ∈ X.fs := hs L (by unfold frs; rw [List.filterMap_cons, hf]; exact List.mem_cons_self)
      obtain ⟨sl, e⟩ := I.base.slot L o ho (I.ok.frf L hL) hL fun z => I.ok.exfs L z hL
      exact ⟨hk, ⟨L, _, hf, hn, e, hd⟩, ih (fun b hb => hs b (by unfold frs; rw [List.filterMap_cons, hf]; exact List.mem_cons_of_mem _ hb)) hr⟩
  exact all X.outer (fun _ hb => hb) I.ok.funs

theorem Inv.stack (I : Inv X pins σ H s) : s.heap.FunFrames X.base X.stack := by
  rcases I.ok.stk with e | ⟨e, hf⟩
  · rw [e]; exact I.funs
  · rw [e]
    obtain ⟨m, hn, _⟩ := I.loc
    refine .cons (by rw [I.ok.kind]; decide) hf hn ?_ I.funs
    exact Heap.get?_none_of_le (Nat.le_trans I.ok.bsz I.ok.above)
theorem Inv.stkSub (I : Inv X pins σ H s) : ∀ b ∈ frs X.stack, b ∈ X.env.locals :: X.fs := fun b hb => by
  rcases I.ok.stk with e | ⟨e, hf⟩
  · rw [e] at hb; exact List.mem_cons_of_mem _ hb
  · rw [e] at hb
    unfold frs at hb
    rw [List.filterMap_cons, hf] at hb
    exact hb
theorem Inv.stkFree (I : Inv X pins σ H s) : ∀ b ∈ frs X.stack, H b = none := fun b hb => by
  rcases List.mem_cons.mp (I.stkSub b hb) with e | hb
  · rw [e]; exact I.free
  · obtain ⟨_, o, ho, _⟩ := I.ok.funs.mem hb
    exact I.base.free b o ho (I.ok.frf b hb) fun z => I.ok.exfs b z hb

theorem Inv.step {g' : Array GenState} {t' : Nat} {d' : Drawn} {ch : List Addr} (I : Inv X pins σ H s)
    (hch : ∀ b ∈ ch, (b ∈ X.ex ∨ X.s_0.heap.objs.size ≤ b) ∧ b ≠ X.env.locals ∧ (∀ x c, X.env.cells.lookup x = some c → c ≠ b) ∧ ∀ p ∈ X.pn ++ pins, p.1 ≠ b)
    (keep : ∀ b o, b ≠ X.env.locals → b ∉ X.fs → b ∉ ch → s.heap.get? b = some o → H b = none → h'.get? b = some o)
    (slot : ∀ b o, b ≠ X.env.locals → b ∈ X.fs → b ∉ ch → s.heap.get? b = some o → H b = none → ∃ sl, h'.get? b = some { o with slots := sl }) (free : ∀ b o, b ∉ ch → s.heap.get? b = some o → H b = none → H' b = none)
    (there : ∀ b o, b ∉ ch → s.heap.get? b = some o → ∃ o', h'.get? b = some o')
    (tups : ∀ b xs, H b = some (.tup xs) → H' b = some (.tup xs)) (frzs : ∀ b o u, H b = some (.frz o u) → H' b = some (.frz o u)) (tbls : ∀ b ps, H b = some (.tbl ps) → ∃ more, H' b = some (.tbl (ps ++ more)))
    (ns : ∀ m, s.heap.Ns X.env.locals m → h'.Ns X.env.locals m) (hok : HOk X.prog X.w H' h') (hg : AllBare g') :
    Inv X pins σ H' { s with heap := h', gens := g', drawn := d', toks := t' } := by
  have neL : ∀ b o, X.s_0.heap.get? b = some o → b ≠ X.env.locals := fun b o e => Nat.ne_of_lt (Nat.lt_of_lt_of_le (Heap.lt_size e) I.ok.above)
  have neC : ∀ b o, X.s_0.heap.get? b = some o → b ∉ X.ex → b ∉ ch := fun b o e hx hb => by
    rcases (hch b hb).1 with z | z
    · exact hx z
    · exact absurd (Nat.lt_of_lt_of_le (Heap.lt_size e) z) (Nat.lt_irrefl _)
  have cellK : ∀ x c, X.env.cells.lookup x = some c → ∀ v, s.heap.IsCell c v → h'.IsCell c v := fun x c e v ⟨o, ho, hd⟩ => by
    have nch : c ∉ ch := fun z => (hch c z).2.2.1 x c e rfl
    by_cases hc : c ∈ X.fs
    · obtain ⟨sl, q⟩ := slot c o (I.cne x c e) hc nch ho (I.freeC x c e)
      exact ⟨_, q, hd⟩
    · exact ⟨o, keep c o (I.cne x c e) hc nch ho (I.freeC x c e), hd⟩
  refine ⟨I.ok, I.os, hg, ⟨fun b o e n hb hx => ?_, fun b o e n hb hx => ?_, fun b o e n hx => ?_, fun b o e hx => ?_, fun b xs e => tups b xs (I.base.tups b xs e), fun b o xs e => frzs b o xs (I.base.frzs b o xs e), fun b ps e => ?_⟩, ?_, fun x c e => ?_, ?_, fun x c e => ?_, fun p hp => ?_, hok, I.len⟩
  · exact keep b o (neL b o e) hb (neC b o e hx) (I.base.keep b o e n hb hx) (I.base.free b o e n hx)
  · obtain ⟨sl, e1⟩ := I.base.slot b o e n hb hx
    obtain ⟨sl', e2⟩ := slot b _ (neL b o e) hb (neC b o e hx) e1 (I.base.free b o e n hx)
    exact ⟨sl', e2⟩
  · obtain ⟨o', e1⟩ := I.base.there b o e hx
    exact free b o' (neC b o e hx) e1 (I.base.free b o e n hx)
  · obtain ⟨o', e1⟩ := I.base.there b o e hx
    exact there b o' (neC b o e hx) e1
  · obtain ⟨m1, e1⟩ := I.base.tbls b ps e
    obtain ⟨m2, e2⟩ := tbls b _ e1
    exact ⟨m1 ++ m2, by rw [e2, Array.append_assoc]⟩
  · obtain ⟨m, hn, hl⟩ := I.loc
    refine ⟨m, ns m hn, fun i x v e1 e2 e3 => ?_⟩
    obtain ⟨u, r, l⟩ := hl i x v e1 e2 e3
    refine ⟨u, r, ?_⟩
    rcases l with l | ⟨k, c, e, z⟩
    · exact .inl l
    · exact .inr ⟨k, c, e, cellK x c e _ z⟩
  · obtain ⟨v, z⟩ := I.cell x c e
    exact ⟨v, cellK x c e v z⟩
  · obtain ⟨m, ⟨o, _, _, ho, _⟩, _⟩ := I.loc
    exact free _ o (fun z => (hch _ z).2.1 rfl) ho I.free
  · obtain ⟨v, o, ho, hd⟩ := I.cell x c e
    exact free c o (fun z => (hch c z).2.2.1 x c e rfl) ho (I.freeC x c e)
  · obtain ⟨e, n, ne, nf, d⟩ := I.pin p hp
    have nch : p.1 ∉ ch := fun z => (hch p.1 z).2.2.2 p hp rfl
    exact ⟨keep p.1 p.2 ne nf nch e n, free p.1 p.2 nch e n, ne, nf, d⟩
theorem Inv.un {t' : Nat} (I : Inv X pins σ H s) (u : Un X.fs [] H H' s.heap h') (hok : HOk X.prog X.w H' h') : Inv X pins σ H' { s with heap := h', toks := t' } := by
  obtain ⟨m, ⟨o, es, ep, ho, r⟩, _⟩ := id I.loc
  obtain ⟨sl, hL⟩ := u.any ho I.free (by simp)
  exact I.step (g' := s.gens) (d' := s.drawn) (ch := []) (fun _ z => nomatch z) (fun b o _ hb _ e n => u.keep b o e n hb (by simp)) (fun b o _ hb _ e n => u.slot b o e n hb (by simp)) (fun b o _ e n => u.free b o e n (by simp)) (fun b o _ e => u.there b o e (by simp)) u.tups u.frzs u.tbls (fun m' hm => by
    obtain ⟨o', es', ep', ho', r'⟩ := hm
    rw [ho] at ho'; cases ho'
    exact ⟨_, es', ep', hL, r'⟩) hok I.bare
theorem Inv.call {g' : Array GenState} {t' : Nat} {d' : Drawn} {ch : List Addr} (I : Inv X pins σ H s) (u : Un (frs X.stack) ch H H' s.heap h') (hok : HOk X.prog X.w H' h') (hg : AllBare g')
    (hch : ∀ b ∈ ch, (b ∈ X.ex ∨ X.s_0.heap.objs.size ≤ b) ∧ b ≠ X.env.locals ∧ (∀ x c, X.env.cells.lookup x = some c → c ≠ b) ∧ ∀ p ∈ X.pn ++ pins, p.1 ≠ b) :
    Inv X pins σ H' { s with heap := h', gens := g', drawn := d', toks := t' } := by
  obtain ⟨m, ⟨o, es, ep, ho, r⟩, _⟩ := id I.loc
  obtain ⟨sl, hL⟩ := u.any ho I.free fun z => (hch _ z).2.1 rfl
  exact I.step (ch := ch) hch (fun b o hL hb hc e n => u.keep b o e n (fun z => (List.mem_cons.mp (I.stkSub b z)).elim hL hb) hc) (fun b o _ _ hc e n => u.any e n hc) (fun b o hc e n => u.free b o e n hc) (fun b o hc e => u.there b o e hc) u.tups u.frzs u.tbls (fun m' hm => by
    obtain ⟨o', es', ep', ho', r'⟩ := hm
    rw [ho] at ho'; cases ho'
    exact ⟨_, es', ep', hL, r'⟩) hok hg
theorem Inv.turned {t' : Nat} {it : Addr} (I : Inv X pins σ H s) (k : ∀ b o, b ≠ it → s.heap.get? b = some o → h'.get? b = some o) (hn : H it = none) (hL : it ≠ X.env.locals)
    (h1 : it ∈ X.ex ∨ X.s_0.heap.objs.size ≤ it) (h2 : ∀ x c, X.env.cells.lookup x = some c → c ≠ it) (h3 : ∀ p ∈ X.pn ++ pins, p.1 ≠ it) : Inv X pins σ H { s with heap := h', toks := t' } := by
  have nit : ∀ b u, H b = some u → b ≠ it := fun b u e z => by rw [z, hn] at e; cases e
  refine I.step (g' := s.gens) (d' := s.drawn) (ch := [it]) (fun b hb => ?_) (fun b o _ _ hc e _ => k b o (fun z => hc (by simp [z])) e) (fun b o _ _ hc e _ => ⟨o.slots, k b o (fun z => hc (by simp [z])) e⟩) (fun _ _ _ _ n => n)
    (fun b o hc e => ⟨o, k b o (fun z => hc (by simp [z])) e⟩) (fun _ _ e => e) (fun _ _ _ e => e) (fun b ps e => ⟨#[], by rw [e]; simp⟩) (fun m hm => ?_) (fun b u e => ?_) I.bare
  · have e : b = it := by simpa using hb
    subst e
    exact ⟨h1, hL, h2, h3⟩
  · obtain ⟨o, es, ep, ho, r⟩ := hm
    exact ⟨o, es, ep, k _ o (Ne.symm hL) ho, r⟩
  · refine (I.hok b u e).stay (fun c v hc q => k c v ?_ q) (fun _ q => q) fun _ _ q => q
    rcases hc with z | z
    · rw [z]; exact nit b u e
    · exact nit c _ z
theorem Inv.tok (I : Inv X pins σ H s) (t : Nat) : Inv X pins σ H { s with toks := t } := I.un (h' := s.heap) (t' := t) Un.refl I.hok
theorem Inv.kept {t' : Nat} (I : Inv X pins σ H s) (k : ∀ b u, s.heap.get? b = some u → h'.get? b = some u) : Inv X pins σ H { s with heap := h', toks := t' } := I.un (Un.kept k) (I.hok.kept k)
theorem Inv.laid {a : Addr} {o : HO} {t' : Nat} (I : Inv X pins σ H s) (k : ∀ b u, s.heap.get? b = some u → h'.get? b = some u) (hp : s.heap.objs.size ≤ a) (new : ObjOk X.prog X.w (upd H a o) h' a o) :
    Inv X pins σ (upd H a o) { s with heap := h', toks := t' } := I.un (Un.laid k hp (I.hok.fresh hp)) (I.hok.laid k hp new)
theorem Inv.write {x e : Addr} {o : HO} {t' : Nat} (I : Inv X pins σ H s) (mu : Mut (H x)) (he : e = x ∨ H e = some (.own x)) (k : ∀ b u, b ≠ e → s.heap.get? b = some u → h'.get? b = some u) (heo : ∃ u, h'.get? e = some u)
    (new : ObjOk X.prog X.w (upd H x o) h' x o) : Inv X pins σ (upd H x o) { s with heap := h', toks := t' } := I.un (Un.write mu he k heo) (I.hok.write mu he k heo new)
theorem Inv.weak {σ' : List (Option V)} (I : Inv X pins σ H s) (hl : σ'.length = σ.length) (w : ∀ (i : Nat) v, σ'[i]? = some (some v) → σ[i]? = some (some v)) : Inv X pins σ' H s :=
  ⟨I.ok, I.os, I.bare, I.base, let ⟨m, hn, hl'⟩ := I.loc; ⟨m, hn, fun i x v e1 e2 e3 => hl' i x v e1 (w i v e2) e3⟩, I.cell, I.free, I.freeC, I.pin, I.hok, hl.trans I.len⟩
theorem Inv.pins_of {pins' : List (Addr × Obj)} (I : Inv X pins σ H s) (h : ∀ p ∈ pins', s.heap.get? p.1 = some p.2 ∧ H p.1 = none ∧ p.1 ≠ X.env.locals ∧ p.1 ∉ X.fs ∧ ∀ v, p.2.data ≠ .cell v) : Inv X pins' σ H s :=
  ⟨I.ok, I.os, I.bare, I.base, I.loc, I.cell, I.free, I.freeC, fun p hp => (List.mem_append.mp hp).elim (fun z => I.pin p (List.mem_append_left _ z)) (h p), I.hok, I.len⟩

theorem nodup_ix {N : List Str} (hN : N.Nodup) {i j : Nat} {x : Str} (a : N[i]? = some x) (b : N[j]? = some x) : i = j := by
  obtain ⟨h1, e1⟩ := List.getElem?_eq_some_iff.mp a
  obtain ⟨h2, e2⟩ := List.getElem?_eq_some_iff.mp b
  exact (List.getElem_inj hN).mp (e1.trans e2.symm)

theorem store_ok2 {M : Model} {A : Around} {E : Value → Shared → Prop} {i : Nat} {x : Str} {v : V} {u : Value} {Q : Unit → Shared → Prop} (I : Inv X pins σ H s) (hN : X.N.Nodup) (hi : X.N[i]? = some x) (hx : Loc X.env.scope x) (r : RelV v u)
    (h : ∀ s', Inv X pins (σ.set i (some v)) H s' → (∃ a, Heap.SameBut a s.heap s'.heap ∧ (a = X.env.locals ∨ X.env.cells.lookup x = some a)) → Q () s') (hf : X.fn x = true ∨ X.env.scope.names.lookup x = some .local := by first | exact .inl rfl | exact .inr rfl | assumption) : wpAny M A (storeName X.env x u) Q E s := by
  obtain ⟨m, hn, hl⟩ := id I.loc
  have hcls : (X.env.scope.kind == .class || (X.env.scope.kind == .module && X.env.locals != X.env.globals)) = false := by rw [I.ok.kind]; rfl
  have hiσ : i < σ.length := by rw [I.len]; exact (List.getElem?_eq_some_iff.mp hi).1
  have cne := I.cne
  have tracked : ∀ {a : Addr} {h' : Heap}, (∃ o, s.heap.get? a = some o ∧ H a = none) → Heap.SameBut a s.heap h' → HOk X.prog X.w H h' := fun {a h'} ha hs b ob e => by
    obtain ⟨_, _, hfree⟩ := ha
    refine (I.hok b ob e).stay (fun c w' hc q => (hs.2 c ?_).trans q) (fun _ q => q) fun _ _ q => q
    rintro rfl
    rcases hc with rfl | hc
    · rw [hfree] at e; cases e
    · rw [hfree] at hc; cases hc
  rcases hx with hk | hk
  · refine wpAny_storeName_local hk hn (fun h' hn' hs => ?_) hcls
    obtain ⟨oL, _, _, hoL, _⟩ := id hn
    refine h _ ⟨I.ok, I.os, I.bare, ⟨fun b o e n hb hx => ?_, fun b o e n hb hx => ?_, I.base.free, fun b o e hx => ?_, I.base.tups, I.base.frzs, I.base.tbls⟩, ⟨_, hn', fun j y v' e1 e2 e3 => ?_⟩, fun y c e => ?_, I.free, I.freeC, fun p hp => ?_, tracked ⟨oL, hoL, I.free⟩ hs, by simpa using I.len⟩ ⟨_, hs, .inl rfl⟩
    · exact (hs.2 b (Nat.ne_of_lt (Nat.lt_of_lt_of_le (Heap.lt_size e) I.ok.above))).trans (I.base.keep b o e n hb hx)
    · obtain ⟨sl, e1⟩ := I.base.slot b o e n hb hx
      exact ⟨sl, (hs.2 b (Nat.ne_of_lt (Nat.lt_of_lt_of_le (Heap.lt_size e) I.ok.above))).trans e1⟩
    · obtain ⟨o', e1⟩ := I.base.there b o e hx
      exact ⟨o', (hs.2 b (Nat.ne_of_lt (Nat.lt_of_lt_of_le (Heap.lt_size e) I.ok.above))).trans e1⟩
    · by_cases hj : j = i
      · subst hj
        rw [hi] at e1; cases e1
        rw [List.getElem?_set_self hiσ] at e2
        cases e2
        exact ⟨u, r, .inl ⟨hk, by simp⟩⟩
      · rw [List.getElem?_set_ne (Ne.symm hj)] at e2
        obtain ⟨u', r', q⟩ := hl j y v' e1 e2 e3
        refine ⟨u', r', ?_⟩
        rcases q with ⟨k, e⟩ | ⟨k, c, e, z⟩
        · refine .inl ⟨k, ?_⟩
          have : y ≠ x := fun e => hj (nodup_ix hN e1 (e ▸ hi))
          simp [this, e]
        · exact .inr ⟨k, c, e, z.sameBut hs (cne y c e)⟩
    · obtain ⟨w', z⟩ := I.cell y c e
      exact ⟨w', z.sameBut hs (cne y c e)⟩
    · obtain ⟨e, n, ne, nf, d⟩ := I.pin p hp
      exact ⟨(hs.2 p.1 ne).trans e, n, ne, nf, d⟩
  · have hfn : X.fn x = true := by
      rcases hf with z | z
      · exact z
      · rw [z] at hk; cases hk
    obtain ⟨c, hc⟩ := I.ok.has x (.inl hk)
    obtain ⟨w', z⟩ := I.cell x c hc
    refine wpAny_storeName_cell I.ok.kind hk hc z (fun h' hc' hs => ?_)
    obtain ⟨oc, hoc, hocd⟩ := id z
    refine h { s with heap := h' } ⟨I.ok, I.os, I.bare, ⟨fun b o e n hb hx => ?_, fun b o e n hb hx => ?_, I.base.free, fun b o e hx => ?_, I.base.tups, I.base.frzs, I.base.tbls⟩, ⟨m, hn.sameBut hs (Ne.symm (cne x c hc)), fun j y v' e1 e2 e3 => ?_⟩, fun y c' e => ?_, I.free, I.freeC, fun p hp => ?_, tracked ⟨oc, hoc, I.freeC x c hc⟩ hs, by simpa using I.len⟩ ⟨c, hs, .inr hc⟩
    · exact (hs.2 b (Nat.ne_of_lt (Nat.lt_of_lt_of_le (Heap.lt_size e) (I.ok.cab x c hfn hc)))).trans (I.base.keep b o e n hb hx)
    · obtain ⟨sl, e1⟩ := I.base.slot b o e n hb hx
      exact ⟨sl, (hs.2 b (Nat.ne_of_lt (Nat.lt_of_lt_of_le (Heap.lt_size e) (I.ok.cab x c hfn hc)))).trans e1⟩
    · obtain ⟨o', e1⟩ := I.base.there b o e hx
      exact ⟨o', (hs.2 b (Nat.ne_of_lt (Nat.lt_of_lt_of_le (Heap.lt_size e) (I.ok.cab x c hfn hc)))).trans e1⟩
    · by_cases hj : j = i
      · subst hj
        rw [hi] at e1; cases e1
        rw [List.getElem?_set_self hiσ] at e2
        cases e2
        exact ⟨u, r, .inr ⟨.inl hk, c, hc, hc'⟩⟩
      · rw [List.getElem?_set_ne (Ne.symm hj)] at e2
        obtain ⟨u', r', q⟩ := hl j y v' e1 e2 e3
        refine ⟨u', r', ?_⟩
        rcases q with q | ⟨k, c', e, z'⟩
        · exact .inl q
        · refine .inr ⟨k, c', e, z'.sameBut hs ?_⟩
          rintro rfl
          exact hj (nodup_ix hN e1 (I.ok.inj _ _ _ e hc ▸ hi))
    · by_cases hcc : c' = c
      · subst hcc; exact ⟨_, hc'⟩
      · obtain ⟨w2, z2⟩ := I.cell y c' e
        exact ⟨w2, z2.sameBut hs hcc⟩
    · obtain ⟨e, n, ne, nf, d⟩ := I.pin p hp
      refine ⟨(hs.2 p.1 ?_).trans e, n, ne, nf, d⟩
      intro q
      rw [q, hoc] at e
      have q' : oc = p.2 := Option.some.inj e
      exact d w' (by rw [← q']; exact hocd)
theorem store_ok {M : Model} {A : Around} {E : Value → Shared → Prop} {i : Nat} {x : Str} {v : V} {u : Value} {Q : Unit → Shared → Prop} (I : Inv X pins σ H s) (hN : X.N.Nodup) (hi : X.N[i]? = some x) (hx : Loc X.env.scope x) (r : RelV v u)
    (h : ∀ s', Inv X pins (σ.set i (some v)) H s' → Q () s') (hf : X.fn x = true ∨ X.env.scope.names.lookup x = some .local := by first | exact .inl rfl | exact .inr rfl | assumption) : wpAny M A (storeName X.env x u) Q E s :=
  store_ok2 I hN hi hx r (fun s' I' _ => h s' I') hf
theorem Inv.call' {s' : Shared} {ch : List Addr} (I : Inv X pins σ H s) (ho : s'.os = s.os) (u : Un (frs X.stack) ch H H' s.heap s'.heap) (hok : HOk X.prog X.w H' s'.heap) (hg : AllBare s'.gens)
    (hch : ∀ b ∈ ch, (b ∈ X.ex ∨ X.s_0.heap.objs.size ≤ b) ∧ b ≠ X.env.locals ∧ (∀ x c, X.env.cells.lookup x = some c → c ≠ b) ∧ ∀ p ∈ X.pn ++ pins, p.1 ≠ b) : Inv X pins σ H' s' := by
  obtain ⟨h', g', d', t', o'⟩ := s'
  have e : o' = s.os := ho
  subst e
  exact I.call (g' := g') (t' := t') (d' := d') u hok hg hch
end

abbrev XK := Value → Option Addr → Hp → Prop
abbrev St := List (Option V)
abbrev VK := V → Hp → Prop
abbrev TE := St → Hp → VK → Prop
abbrev TT := St → Hp → (Bool → Hp → Prop) → Prop
abbrev TA := St → Hp → (List V → Hp → Prop) → Prop
structure Ends where
  nx : St → Hp → Prop
  rt : VK
  bk : St → Hp → Prop := fun _ _ => False
  ct : St → Hp → Prop := fun _ _ => False
abbrev TS := Ends → St → Hp → Prop

def EP (X : Cx) (pins : List (Addr × Obj)) (σ : St) (Q : VK) (u : Value) (s' : Shared) : Prop := ∃ v H', Inv X pins σ H' s' ∧ RelV v u ∧ Q v H'
def TP (X : Cx) (pins : List (Addr × Obj)) (σ : St) (Q : Bool → Hp → Prop) (b : Bool) (s' : Shared) : Prop := ∃ H', Inv X pins σ H' s' ∧ Q b H'
def AP (X : Cx) (pins : List (Addr × Obj)) (σ : St) (Q : List V → Hp → Prop) (us : List Value) (s' : Shared) : Prop := ∃ vs H', Inv X pins σ H' s' ∧ Vals vs us ∧ Q vs H'
def SP (X : Cx) (pins : List (Addr × Obj)) (D : Ends) (f : Flow) (s' : Shared) : Prop :=
  match f with
  | .next => ∃ σ' H', Inv X pins σ' H' s' ∧ D.nx σ' H'
  | .brk => ∃ σ' H', Inv X pins σ' H' s' ∧ D.bk σ' H'
  | .cont => ∃ σ' H', Inv X pins σ' H' s' ∧ D.ct σ' H'
  | .ret u => ∃ v σ' H', Inv X pins σ' H' s' ∧ RelV v u ∧ D.rt v H'

def PE (X : Cx) (e : Expr) (t : TE) : Prop :=
  ∀ (pins : List (Addr × Obj)) (s : Shared) (σ : St) (H : Hp) (Q : VK), Inv X pins σ H s → t σ H Q → wpAny (model X.prog X.w) X.A (eval e X.env) (EP X pins σ Q) X.xe s
def PT (X : Cx) (e : Expr) (t : TT) : Prop :=
  ∀ (pins : List (Addr × Obj)) (s : Shared) (σ : St) (H : Hp) (Q : Bool → Hp → Prop), Inv X pins σ H s → t σ H Q → wpAny (model X.prog X.w) X.A (isTrue e X.env (eval e X.env)) (TP X pins σ Q) X.xe s
def PW (X : Cx) (e : Expr) (t : TT) : Prop :=
  ∀ (whole : Sem Value) (pins : List (Addr × Obj)) (s : Shared) (σ : St) (H : Hp) (Q : Bool → Hp → Prop), Inv X pins σ H s → t σ H Q → wpAny (model X.prog X.w) X.A (isTrue e X.env whole) (TP X pins σ Q) X.xe s
theorem PW.pt {X : Cx} {e : Expr} {t : TT} (h : PW X e t) : PT X e t := h _
def PA (X : Cx) (es : List Expr) (t : TA) : Prop :=
  ∀ (pos : Pos) (pins : List (Addr × Obj)) (s : Shared) (σ : St) (H : Hp) (Q : List V → Hp → Prop), Inv X pins σ H s → t σ H Q → wpAny (model X.prog X.w) X.A (spliced (backTo pos (starEach es X.env))) (AP X pins σ Q) X.xe s
def PS (X : Cx) (st : Stmt) (t : TS) : Prop :=
  ∀ (pins : List (Addr × Obj)) (s : Shared) (σ : St) (H : Hp) (D : Ends), Inv X pins σ H s → t D σ H → wpAny (model X.prog X.w) X.A (exec st X.env) (SP X pins D) X.xe s
def PSs (X : Cx) (st : List Stmt) (t : TS) : Prop :=
  ∀ (pins : List (Addr × Obj)) (s : Shared) (σ : St) (H : Hp) (D : Ends), Inv X pins σ H s → t D σ H → wpAny (model X.prog X.w) X.A (execs st X.env) (SP X pins D) X.xe s
theorem thn {α : Type} {t : Sem α} {Q Q' : α → Shared → Prop} {M : Model} {A : Around} {E : Value → Shared → Prop} {s : Shared} (h : wpAny M A t Q E s) (hQ : ∀ a s, Q a s → Q' a s) : wpAny M A t Q' E s := wpAny_mono h hQ fun _ _ x => x
end L2

namespace L2
open PySem PySem.Spec PyProof.Rows
section
variable {X : Cx}

def tVar (i : Nat) : TE := fun σ H Q => ∃ v, σ[i]? = some (some v) ∧ Q v H
def tC (v : V) : TE := fun _ H Q => Q v H
theorem pe_var {i : Nat} {x : Str} {pos : Pos} (hN : X.N[i]? = some x) (hv : Vis X.env.scope x) (hd : (x == ("__debug__" : Str)) = false := by decide) (hcd : (x == ("__classdict__" : Str)) = false := by decide) : PE X (.Name x pos) (tVar i) := by
  intro pins s σ H Q I h
  obtain ⟨v, e, h⟩ := h
  obtain ⟨m, hn, hl⟩ := I.loc
  obtain ⟨u, r, l⟩ := hl i x v hN e hv
  have fin : EP X pins σ Q u s := ⟨v, H, I, r, h⟩
  rcases l with ⟨hk, hm⟩ | ⟨hk, c, hc, hcell⟩
  · exact wpAny_Name (wpAny_loadName_local I.ok.kind hk hn hm fin) hd
  · rcases hk with hk | hk
    · exact wpAny_Name (wpAny_loadName_cell I.ok.kind hk hc hcell fin) hd
    · exact wpAny_Name (wpAny_loadName_free I.ok.kind hk hc hcell fin hcd) hd
theorem pe_int {i j pos} : PE X (.Constant (.int i) j pos) (tC (.int i)) := fun _ _ _ H _ I h => wpAny_Constant_int ⟨.int i, H, I.tok _, ⟨_, rfl⟩, h⟩
theorem pe_str {x j pos} : PE X (.Constant (.str x) j pos) (tC (.str x)) := fun _ _ _ H _ I h => Calls.Constant_str ⟨.str x, H, I.tok _, ⟨_, rfl⟩, h⟩

def Gl (X : Cx) (x : Str) : Prop := X.env.kindOf x = some .globalImplicit
theorem ld_glob {E : Value → Shared → Prop} {pins : List (Addr × Obj)} {s : Shared} {σ : St} {H : Hp} {x : Str} {u : Value} {pos : Pos} {Q : Value → Shared → Prop} (I : Inv X pins σ H s) (hg : Gl X x) (hm : X.mg x = some u) (h : Q u s)
    (hd : (x == ("__debug__" : Str)) = false := by decide) : wpAny (model X.prog X.w) X.A (eval (.Name x pos) X.env) Q E s :=
  Calls.Name_function_global I.ok.kind hg (Calls.loadGlobal_global (by rw [I.ok.glob]; exact I.mod.glob.keeps I.bk) hm h) hd
theorem ld_blt {E : Value → Shared → Prop} {pins : List (Addr × Obj)} {s : Shared} {σ : St} {H : Hp} {x : Str} {u : Value} {pos : Pos} {Q : Value → Shared → Prop} (I : Inv X pins σ H s) (hg : Gl X x) (hm : X.mg x = none) (hv : bootBuiltins x = some u) (h : Q u s)
    (hn : x ≠ "__name__" := by decide) (hd : (x == ("__debug__" : Str)) = false := by decide) : wpAny (model X.prog X.w) X.A (eval (.Name x pos) X.env) Q E s := by
  obtain ⟨mb, h1, h2⟩ := I.mod.blt
  exact Calls.Name_function_global I.ok.kind hg (Calls.loadGlobal_builtin (by rw [I.ok.glob]; exact I.mod.glob.keeps I.bk) hm (by rw [I.ok.blt]; exact h1.keeps I.bk) ((h2 x hn).trans hv) h) hd
theorem pe_glob {x : Str} {v : V} {u : Value} {pos : Pos} (hg : Gl X x) (hm : X.mg x = some u) (r : RelV v u) (hd : (x == ("__debug__" : Str)) = false := by decide) : PE X (.Name x pos) (tC v) :=
  fun _ _ _ H _ I h => ld_glob I hg hm ⟨v, H, I, r, h⟩ hd
variable {a b : Expr} {ta tb : TE} {pos : Pos}
def tB (t : TE) : TT := fun σ H Q => t σ H fun x H1 => ∃ c, x = .bl c ∧ Q c H1
theorem pt_val {e : Expr} {t : TE} (h : PE X e t) (he : ∀ whole, isTrue e X.env whole = (do let v ← whole; standAt e.pos; holding [v] (truthy v)) := by intro _; rfl) : PT X e (tB t) := by
  intro pins s σ H Q I hw
  refine isTrue_plain (thn (h pins s σ H _ I hw) fun v s1 ⟨x, H1, I1, r1, q1⟩ => ?_) (he _)
  obtain ⟨d, rfl, q⟩ := q1
  cases r1
  exact wpAny_truthy_bool ⟨H1, I1, q⟩

variable {tA tB' : TT} {rest : List Expr}
def tAnd (t u : TT) : TT := fun σ H Q => t σ H fun c H1 => if c = true then u σ H1 Q else Q false H1
def tNot (t : TT) : TT := fun σ H Q => t σ H fun c H1 => Q (!c) H1
theorem pw_and1 (ha : PT X a tA) : PW X (.BoolOp .And [a] pos) tA := by
  intro wh pins s σ H Q I h
  refine isTrue_and (thn (ha pins s σ H Q I h) fun c s1 e => ?_)
  cases c with
  | true => exact isTrue_and_nil e
  | false => exact e
theorem pw_and (ha : PT X a tA) (hb : PW X (.BoolOp .And (b :: rest) pos) tB') : PW X (.BoolOp .And (a :: b :: rest) pos) (tAnd tA tB') := by
  intro wh pins s σ H Q I h
  refine isTrue_and (thn (ha pins s σ H _ I h) fun c s1 ⟨H1, I1, q1⟩ => ?_)
  cases c with
  | true => exact hb wh pins s1 σ H1 Q I1 q1
  | false => exact ⟨H1, I1, q1⟩
theorem pt_not (ha : PT X a tA) : PT X (.UnaryOp .Not a pos) (tNot tA) := by
  intro pins s σ H Q I h
  exact isTrue_not (ha pins s σ H (fun c H1 => Q (!c) H1) I h)
def tAndV (ta tb : TE) : TE := fun σ H Q => ta σ H fun x H1 => ∃ c, x = .bl c ∧ if c = true then tb σ H1 Q else Q (.bl false) H1
theorem pe_one {op} {t : TE} (h : PE X a t) : PE X (.BoolOp op [a] pos) t := fun pins s σ H Q I hw => BoolOp_one (h pins s σ H Q I hw)
theorem pe_and (ha : PE X a ta) (hb : PE X (.BoolOp .And (b :: rest) pos) tb) : PE X (.BoolOp .And (a :: b :: rest) pos) (tAndV ta tb) := by
  intro pins s σ H Q I h
  refine BoolOp_and (thn (ha pins s σ H _ I h) fun v s1 ⟨x, H1, I1, r1, q1⟩ => ?_)
  obtain ⟨c, rfl, q1⟩ := q1
  cases r1
  refine wpAny_truthy_bool ?_
  cases c with
  | true => exact hb pins s1 σ H1 Q I1 q1
  | false => exact ⟨.bl false, H1, I1, rfl, q1⟩
def tIf (t : TT) (ta tb : TE) : TE := fun σ H Q => t σ H fun c H1 => if c = true then ta σ H1 Q else tb σ H1 Q
theorem pe_ifExp {c : Expr} (hc : PT X c tA) (ha : PE X a ta) (hb : PE X b tb) : PE X (.IfExp c a b pos) (tIf tA ta tb) := by
  intro pins s σ H Q I h
  refine wpAny_IfExp (thn (hc pins s σ H _ I h) fun d s1 ⟨H1, I1, q1⟩ => ?_)
  cases d with
  | true => exact ha pins s1 σ H1 Q I1 q1
  | false => exact hb pins s1 σ H1 Q I1 q1
end
end L2

namespace L2
open PySem PySem.Spec PyProof.Rows

def SqL (K : PySem.W.Frag) (H : Hp) (a : Addr) (xs : List V) : Prop :=
  Rd H a (.lst xs) ∨
    ∃ (o : Obj) (its : Array Value) (n : Nat), K.lookup a = some o ∧ o.cls = .type "list" ∧ o.dict = none ∧ o.data = .seq its n ∧ its.size ≤ sizeLine ∧ Vals xs its.toList
def SqT (K : PySem.W.Frag) (H : Hp) (a : Addr) (xs : List V) : Prop :=
  Rd H a (.tup xs) ∨
    ∃ (o : Obj) (its : Array Value) (n : Nat), K.lookup a = some o ∧ o.cls = .type "tuple" ∧ o.data = .seq its n ∧ its.size ≤ sizeLine ∧ Vals xs its.toList
def absV : Value → Option V
  | .none => some .non
  | .bool b => some (.bl b)
  | .int i _ => some (.int i)
  | .str x _ => some (.str x)
  | .bytes b _ => some (.byt b)
  | .float b _ => some (.flt b)
  | .ref a => some (.ref a)
  | .type n => some (.ty n)
  | _ => none
theorem RelV.abs {x : V} {u : Value} (r : RelV x u) : absV u = some x := by
  cases x with
  | non => cases r; rfl
  | bl _ => cases r; rfl
  | int _ => obtain ⟨t, rfl⟩ := r; rfl
  | str _ => obtain ⟨t, rfl⟩ := r; rfl
  | byt _ => obtain ⟨t, rfl⟩ := r; rfl
  | flt _ => obtain ⟨t, rfl⟩ := r; rfl
  | ref _ => cases r; rfl
  | ty _ => cases r; rfl
theorem RelV.inj {x y : V} {u : Value} (r : RelV x u) (q : RelV y u) : x = y := Option.some.inj (r.abs.symm.trans q.abs)
theorem Vals.inj : ∀ {xs ys : List V} {us : List Value}, Vals xs us → Vals ys us → xs = ys
  | _, _, _, .nil, .nil => rfl
  | _, _, _, .cons r t, .cons r' t' => by rw [r.inj r', Vals.inj t t']
section
variable {X : Cx} {pins : List (Addr × Obj)} {σ : St} {H : Hp} {s : Shared} {a : Addr} {xs ys : List V}
theorem SqL.of {K : PySem.W.Frag} (h : H a = some (.lst xs)) : SqL K H a xs := .inl (.inl h)
theorem SqT.of {K : PySem.W.Frag} (h : H a = some (.tup xs)) : SqT K H a xs := .inl (.inl h)
theorem Inv.list (I : Inv X pins σ H s) (h : SqL X.K H a xs) : ∃ its : List Value, Vals xs its ∧ PlainL s.heap a its.toArray ∧ xs.length ≤ sizeLine := by
  rcases h with h | ⟨o, its, n, hk, hc, hd, hs, hz, r⟩
  · obtain ⟨z, its, n, r, e⟩ := h.ok I.hok
    exact ⟨its, r, ⟨_, n, e, rfl, rfl, rfl⟩, z⟩
  · refine ⟨its.toList, r, ⟨o, n, I.kIn a o hk, hc, hd, by simpa using hs⟩, ?_⟩
    have e := r.length
    simp only [Array.length_toList] at e
    omega
theorem Inv.tuple (I : Inv X pins σ H s) (h : SqT X.K H a xs) : ∃ its : List Value, Vals xs its ∧ IsTup s.heap a its.toArray ∧ xs.length ≤ sizeLine := by
  rcases h with h | ⟨o, its, n, hk, hc, hs, hz, r⟩
  · obtain ⟨z, its, r, p⟩ := h.ok I.hok
    exact ⟨its, r, p, z⟩
  · refine ⟨its.toList, r, ⟨o, I.kIn a o hk, hc, n, by simpa using hs⟩, ?_⟩
    have e := r.length
    simp only [Array.length_toList] at e
    omega
theorem Inv.list_inj (I : Inv X pins σ H s) (h : SqL X.K H a xs) (h' : SqL X.K H a ys) : xs = ys := by
  obtain ⟨its, r, ⟨o, n, e, _, _, d⟩, _⟩ := I.list h
  obtain ⟨its', r', ⟨o', n', e', _, _, d'⟩, _⟩ := I.list h'
  rw [e] at e'; cases e'
  rw [d] at d'
  injection d' with d1 _
  have : its = its' := by simpa using congrArg Array.toList d1
  subst this
  exact r.inj r'
theorem Inv.tuple_inj (I : Inv X pins σ H s) (h : SqT X.K H a xs) (h' : SqT X.K H a ys) : xs = ys := by
  obtain ⟨its, r, ⟨o, e, _, n, d⟩, _⟩ := I.tuple h
  obtain ⟨its', r', ⟨o', e', _, n', d'⟩, _⟩ := I.tuple h'
  rw [e] at e'; cases e'
  rw [d] at d'
  injection d' with d1 _
  have : its = its' := by simpa using congrArg Array.toList d1
  subst this
  exact r.inj r'
end

abbrev Cx.wish (X : Cx) (E : Value → Shared → Prop) : Cx := { X with xe := E }
abbrev Cx.nox (X : Cx) : Cx := X.wish fun _ _ => False
theorem Cx.Ok.wish {X : Cx} (ok : X.Ok) (E : Value → Shared → Prop) : (X.wish E).Ok :=
  ⟨ok.mod, ok.kind, ok.glob, ok.blt, ok.above, ok.inj, ok.has, ok.cab, ok.hd, ok.frames, ok.stk, ok.exf, ok.bs, ok.bsz, ok.noex, ok.exfs, ok.funs, ok.frf⟩
theorem Cx.Ok.unwish {X : Cx} {E : Value → Shared → Prop} (ok : (X.wish E).Ok) : X.Ok :=
  ⟨ok.mod, ok.kind, ok.glob, ok.blt, ok.above, ok.inj, ok.has, ok.cab, ok.hd, ok.frames, ok.stk, ok.exf, ok.bs, ok.bsz, ok.noex, ok.exfs, ok.funs, ok.frf⟩
section
variable {X : Cx} {pins : List (Addr × Obj)} {σ : St} {H : Hp} {s : Shared} {E : Value → Shared → Prop}
theorem Inv.wish (I : Inv X pins σ H s) (E : Value → Shared → Prop) : Inv (X.wish E) pins σ H s := ⟨I.ok.wish E, I.os, I.bare, I.base, I.loc, I.cell, I.free, I.freeC, I.pin, I.hok, I.len⟩
theorem Inv.unwish (I : Inv (X.wish E) pins σ H s) : Inv X pins σ H s := ⟨I.ok.unwish, I.os, I.bare, I.base, I.loc, I.cell, I.free, I.freeC, I.pin, I.hok, I.len⟩
theorem SP.unwish {D : Ends} {f : Flow} {s' : Shared} (h : SP (X.wish E) pins D f s') : SP X pins D f s' := by
  cases f with
  | next => obtain ⟨σ', H', I, q⟩ := h; exact ⟨σ', H', I.unwish, q⟩
  | brk => obtain ⟨σ', H', I, q⟩ := h; exact ⟨σ', H', I.unwish, q⟩
  | cont => obtain ⟨σ', H', I, q⟩ := h; exact ⟨σ', H', I.unwish, q⟩
  | ret u => obtain ⟨v, σ', H', I, r, q⟩ := h; exact ⟨v, σ', H', I.unwish, r, q⟩
theorem PSs.nox {st : List Stmt} {t : TS} (h : PSs X.nox st t) : PSs X st t := fun pins s σ H D I hw =>
  wpAny_mono (h pins s σ H D (I.wish _) hw) (fun _ _ q => q.unwish) fun _ _ z => False.elim z
end

section
variable {X : Cx} {st : Stmt} {rest : List Stmt} {t u : TS} {e : Expr} {te : TE} {pos : Pos}
def tNext : TS := fun D σ H => D.nx σ H
def tSeq (t u : TS) : TS := fun D σ H => t { D with nx := u D } σ H
theorem pss_nil : PSs X [] tNext := fun _ _ σ H _ I h => wpAny_execs_nil ⟨σ, H, I, h⟩
theorem pss_cons (h1 : PS X st t) (h2 : PSs X rest u) : PSs X (st :: rest) (tSeq t u) := by
  intro pins s σ H D I h
  refine wpAny_execs_cons (thn (h1 pins s σ H { D with nx := u D } I h) fun f s1 q => ?_)
  cases f with
  | next =>
    obtain ⟨σ', H', I', q⟩ := q
    exact h2 pins s1 σ' H' D I' q
  | ret v => exact q
  | brk => exact q
  | cont => exact q
theorem pss_one (h1 : PS X st t) : PSs X [st] t := by
  intro pins s σ H D I h
  refine wpAny_execs_cons (thn (h1 pins s σ H D I h) fun f s1 q => ?_)
  cases f with
  | next => exact wpAny_execs_nil q
  | ret v => exact q
  | brk => exact q
  | cont => exact q
theorem Inv.quiet {pins : List (Addr × Obj)} {σ : St} {H : Hp} {s : Shared} (I : Inv X pins σ H s) : interactive X.env = false := by simp [interactive, I.ok.kind]
def tDrop (te : TE) : TS := fun D σ H => te σ H fun _ H1 => D.nx σ H1
theorem ps_expr (he : PE X e te) (hs : swapsWith e none pos.line X.env = pure false := by rfl) : PS X (.Expr e pos) (tDrop te) := by
  intro pins s σ H D I h
  exact wpAny_Expr_any (thn (he pins s σ H _ I h) fun v s1 ⟨x, H1, I1, r1, q1⟩ => ⟨σ, H1, I1, q1⟩) I.quiet hs
def tRet (te : TE) : TS := fun D σ H => te σ H D.rt
theorem ps_ret (he : PE X e te) : PS X (.Return (some e) pos) (tRet te) := by
  intro pins s σ H D I h
  exact wpAny_Return_some (thn (he pins s σ H _ I h) fun v s1 ⟨x, H1, I1, r1, q1⟩ => ⟨x, σ, H1, I1, r1, q1⟩)
def tIfS (c : TT) (t u : TS) : TS := fun D σ H => c σ H fun b H1 => if b = true then t D σ H1 else u D σ H1
theorem ps_if {c : Expr} {a b : List Stmt} {tc : TT} (hc : PT X c tc) (ha : PSs X a t) (hb : PSs X b u) : PS X (.If c a b pos) (tIfS tc t u) := by
  intro pins s σ H D I h
  refine wpAny_If (thn (hc pins s σ H _ I h) fun d s1 ⟨H1, I1, q1⟩ => ?_)
  cases d with
  | true => exact ha pins s1 σ H1 D I1 q1
  | false => exact hb pins s1 σ H1 D I1 q1
end

abbrev TG := V → St → Hp → (St → Hp → Prop) → Prop
abbrev TGs := List V → St → Hp → (St → Hp → Prop) → Prop
def PG (X : Cx) (target : Expr) (t : TG) : Prop :=
  ∀ (pins : List (Addr × Obj)) (s : Shared) (σ : St) (H : Hp) (v : V) (u : Value) (Q : St → Hp → Prop), Inv X pins σ H s → RelV v u → t v σ H Q →
    wpAny (model X.prog X.w) X.A (assign target X.env u) (fun _ s' => ∃ σ' H', Inv X pins σ' H' s' ∧ Q σ' H') X.xe s
def PGs (X : Cx) (ts : List Expr) (t : TGs) : Prop :=
  ∀ (pins : List (Addr × Obj)) (s : Shared) (σ : St) (H : Hp) (vs : List V) (us : List Value) (Q : St → Hp → Prop), Inv X pins σ H s → Vals vs us → t vs σ H Q →
    wpAny (model X.prog X.w) X.A (assignInOrder ((assignEach ts X.env).map (·.2)) us) (fun _ s' => ∃ σ' H', Inv X pins σ' H' s' ∧ Q σ' H') X.xe s
abbrev TSet := V → V → V → Hp → (Hp → Prop) → Prop
def PSet (X : Cx) (t : TSet) : Prop :=
  ∀ (pins : List (Addr × Obj)) (s : Shared) (σ : St) (H : Hp) (o i v : V) (ov iv u : Value) (Q : Hp → Prop), Inv X pins σ H s → RelV o ov → RelV i iv → RelV v u → t o i v H Q →
    wpAny (model X.prog X.w) X.A (setItem ov iv u) (fun _ s' => ∃ H', Inv X pins σ H' s' ∧ Q H') X.xe s
abbrev TIp := V → V → Hp → VK → Prop
def PIp (X : Cx) (op : Operator) (t : TIp) : Prop :=
  ∀ (pins : List (Addr × Obj)) (s : Shared) (σ : St) (H : Hp) (x y : V) (v u : Value) (Q : VK), Inv X pins σ H s → RelV x v → RelV y u → t x y H Q →
    wpAny (model X.prog X.w) X.A (inplaceOp op v u) (EP X pins σ Q) X.xe s
section
variable {X : Cx} {pos : Pos}
def gName (i : Nat) : TG := fun v σ H Q => Q (σ.set i (some v)) H
theorem pg_name {i : Nat} {x : Str} (hN : X.N.Nodup) (hi : X.N[i]? = some x) (hx : Loc X.env.scope x) (hf : X.fn x = true ∨ X.env.scope.names.lookup x = some .local := by first | exact .inl rfl | exact .inr rfl | assumption) : PG X (.Name x pos) (gName i) := by
  intro pins s σ H v u Q I r h
  exact wpAny_assign_Name (store_ok I hN hi hx r (fun s' I' => ⟨_, H, I', h⟩) hf)
def gNil : TGs := fun vs σ H Q => vs = [] ∧ Q σ H
def gCons (t : TG) (u : TGs) : TGs := fun vs σ H Q => ∃ v r, vs = v :: r ∧ t v σ H fun σ' H' => u r σ' H' Q
theorem pgs_nil : PGs X [] gNil := by
  intro pins s σ H vs us Q I r h
  obtain ⟨e, h⟩ := h
  subst e
  cases r
  exact assignInOrder_nil ⟨σ, H, I, h⟩
theorem pgs_cons {e : Expr} {es : List Expr} {t : TG} {u : TGs} (h1 : PG X e t) (h2 : PGs X es u)
    (hs : (assignEach (e :: es) X.env).map (·.2) = assign e X.env :: (assignEach es X.env).map (·.2) := by rfl) : PGs X (e :: es) (gCons t u) := by
  intro pins s σ H vs us Q I r h
  obtain ⟨v, vr, e1, h⟩ := h
  subst e1
  cases r with
  | cons r rr =>
    rw [hs]
    refine assignInOrder_cons (thn (h1 pins s σ H _ _ _ I r h) fun _ s1 ⟨σ1, H1, I1, q1⟩ => ?_)
    exact h2 pins s1 σ1 H1 _ _ Q I1 rr q1
def gTup (K : PySem.W.Frag) (n : Nat) (t : TGs) : TG := fun v σ H Q => ∃ a xs, v = .ref a ∧ SqT K H a xs ∧ xs.length = n ∧ t xs σ H Q
theorem pg_tup {es : List Expr} {k : Nat} {t : TGs} {n : Nat} (hc : X.calm = true) (h : PGs X es t)
    (hn : (assignEach es X.env).length = n := by rfl) (hst : (assignEach es X.env).findIdx? (·.1) = none := by rfl) : PG X (.Tuple es k pos) (gTup X.K n t) := by
  intro pins s σ H v u Q I r hw
  obtain ⟨a, xs, e1, hq, hl, hw⟩ := hw
  subst e1
  cases r
  obtain ⟨its, rv, ht, hz⟩ := I.tuple hq
  refine assign_Tuple_tuple (I.ok.hd hc) ht (by simp [hn, ← hl, rv.length]) hst fun h' hx => ?_
  have I1 : Inv X pins σ H { s with heap := h' } := I.kept (t' := s.toks) fun b o e => hx b o (Nat.ne_of_lt (Heap.lt_size e)) e
  exact h pins _ σ H xs _ Q I1 (by simpa using rv) hw
def gSub (to ti : TE) (t : TSet) : TG := fun v σ H Q => to σ H fun o H1 => ti σ H1 fun i H2 => t o i v H2 fun H3 => Q σ H3
theorem pg_sub {o i : Expr} {to ti : TE} {t : TSet} (ho : PE X o to) (hi : PE X i ti) (hs : PSet X t)
    (ha : ∀ v, assign (.Subscript o i pos) X.env v = (do
      let ov ← holding [v] (eval o X.env)
      let iv ← holding [v, ov] (eval i X.env)
      standAt pos
      holding [v, ov, iv] (setItem ov iv v)
      release [v, ov, iv] []) := by intro _; rfl) : PG X (.Subscript o i pos) (gSub to ti t) := by
  intro pins s σ H v u Q I r h
  rw [ha]
  refine wpAny_bind (wpAny_holding (thn (ho pins s σ H _ I h) fun ov s1 ⟨x, H1, I1, r1, q1⟩ => ?_))
  refine wpAny_bind (wpAny_holding (thn (hi pins s1 σ H1 _ I1 q1) fun iv s2 ⟨y, H2, I2, r2, q2⟩ => ?_))
  refine wpAny_bind (wpAny_standAt (wpAny_bind (wpAny_holding (thn (hs pins s2 σ H2 x y v ov iv u _ I2 r1 r2 r q2) fun _ s3 ⟨H3, I3, q3⟩ => ?_))))
  exact wpAny_release ⟨σ, H3, I3, q3⟩
def tAsg (te : TE) (g : TG) : TS := fun D σ H => te σ H fun x H1 => g x σ H1 D.nx
theorem ps_asg {tg e : Expr} {te : TE} {g : TG} (he : PE X e te) (hg : PG X tg g) (hs : swapsWithSole [tg] e pos.line X.env = pure false := by rfl) (hw : swappedStores [tg] e X.env = pure none := by rfl)
    (h1 : (assignEach [tg] X.env).map (·.2) = [assign tg X.env] := by rfl) : PS X (.Assign [tg] e pos) (tAsg te g) := by
  intro pins s σ H D I h
  refine wpAny_Assign_stores (thn (he pins s σ H _ I h) fun v s1 ⟨x, H1, I1, r1, q1⟩ => ?_) hs hw
  rw [h1]
  exact thn (hg pins s1 σ H1 x v _ I1 r1 q1) fun _ s2 q => q
theorem ps_set {i : Nat} {x : Str} {e : Expr} {te : TE} {pos' : Pos} (hN : X.N.Nodup) (hi : X.N[i]? = some x) (hx : Loc X.env.scope x) (he : PE X e te) (hs : swapsWith e (some (.Name x pos')) pos.line X.env = pure false := by rfl) (hf : X.fn x = true ∨ X.env.scope.names.lookup x = some .local := by first | exact .inl rfl | exact .inr rfl | assumption) :
    PS X (.Assign [.Name x pos'] e pos) (tAsg te (gName i)) := by
  intro pins s σ H D I h
  refine wpAny_Assign_Name (thn (he pins s σ H _ I h) fun v s1 ⟨y, H1, I1, r1, q1⟩ => ?_) hs
  exact store_ok I1 hN hi hx r1 (fun s2 I2 => ⟨_, H1, I2, q1⟩) hf
def tAugS (to ti te : TE) (tget : V → V → Hp → VK → Prop) (tip : TIp) (tset : TSet) : TS := fun D σ H => to σ H fun o H1 => ti σ H1 fun i H2 => tget o i H2 fun x H3 => te σ H3 fun y H4 => tip x y H4 fun z H5 => tset o i z H5 fun H6 => D.nx σ H6
def PGet (X : Cx) (t : V → V → Hp → VK → Prop) : Prop :=
  ∀ (pins : List (Addr × Obj)) (s : Shared) (σ : St) (H : Hp) (o i : V) (ov iv : Value) (Q : VK), Inv X pins σ H s → RelV o ov → RelV i iv → t o i H Q →
    wpAny (model X.prog X.w) X.A (getItem ov iv) (EP X pins σ Q) X.xe s
theorem ps_augS {o i e : Expr} {to ti te : TE} {tget : V → V → Hp → VK → Prop} {tip : TIp} {tset : TSet} {op : Operator} {tpos : Pos} (ho : PE X o to) (hi : PE X i ti) (hg : PGet X tget) (he : PE X e te) (hp : PIp X op tip) (hs : PSet X tset)
    (ha : ∀ ov iv new, augStore i ov iv new = (do holding [new, ov, iv] (setItem ov iv new); release [new, ov, iv] []; pure .next) := by intros; rfl) : PS X (.AugAssign (.Subscript o i tpos) op e pos) (tAugS to ti te tget tip tset) := by
  intro pins s σ H D I h
  refine wpAny_AugAssign_SubscriptAny (thn (ho pins s σ H _ I h) fun ov s1 ⟨x1, H1, I1, r1, q1⟩ => ?_) ha
  refine thn (hi pins s1 σ H1 _ I1 q1) fun iv s2 ⟨x2, H2, I2, r2, q2⟩ => ?_
  refine thn (hg pins s2 σ H2 x1 x2 ov iv _ I2 r1 r2 q2) fun old s3 ⟨x3, H3, I3, r3, q3⟩ => ?_
  refine thn (he pins s3 σ H3 _ I3 q3) fun v s4 ⟨x4, H4, I4, r4, q4⟩ => ?_
  refine thn (hp pins s4 σ H4 x3 x4 old v _ I4 r3 r4 q4) fun new s5 ⟨x5, H5, I5, r5, q5⟩ => ?_
  exact thn (hs pins s5 σ H5 x1 x2 x5 ov iv new _ I5 r1 r2 r5 q5) fun _ s6 ⟨H6, I6, q6⟩ => ⟨σ, H6, I6, q6⟩
def ipI (f : Int → Int → Int) : TIp := fun x y H Q => ∃ i j, x = .int i ∧ y = .int j ∧ Q (.int (f i j)) H
theorem ip_add : PIp X .Add (ipI fun i j => i + j) := by
  intro pins s σ H x y v u Q I r1 r2 h
  obtain ⟨i, j, e1, e2, q⟩ := h
  subst e1; subst e2
  obtain ⟨t, rfl⟩ := r1
  obtain ⟨t', rfl⟩ := r2
  exact iadd_int ⟨.int _, H, I.tok _, ⟨_, rfl⟩, q⟩
end

section
variable {X : Cx} {pos : Pos}
def tWhile (c : TT) (tb : TS) : TS := fun D σ H => ∃ W : Nat → St → Hp → Prop, (∃ m, W m σ H) ∧ ∀ m σ H, W m σ H →
  c σ H fun b H1 => if b = true then ∃ N : St → Hp → Prop, (∀ σ' H', N σ' H' → ∃ m', m' < m ∧ W m' σ' H') ∧ tb { D with nx := N, ct := N, bk := D.nx } σ H1 else D.nx σ H1
theorem ps_while {c : Expr} {body : List Stmt} {tc : TT} {tb : TS} (hp : PassesOwn (model X.prog X.w) X.A X.env X.xe) (hc : PT X c tc) (hb : PSs X body tb) : PS X (.While c body [] pos) (tWhile tc tb) := by
  intro pins s σ H D I h
  obtain ⟨W, ⟨m0, w0⟩, turn⟩ := h
  refine wpAny_While (codeAny_whileLoop (fun n s' => ∃ σ' H', Inv X pins σ' H' s' ∧ W n σ' H') ?_ m0 ⟨σ, H, I, w0⟩)
  rintro n s1 ⟨σ1, H1, I1, w1⟩
  refine wpAny_passesOwn hp (thn (hc pins s1 σ1 H1 _ I1 (turn n σ1 H1 w1)) fun b s2 ⟨H2, I2, q2⟩ => ?_)
  cases b with
  | true =>
    obtain ⟨N, hN, q2⟩ := q2
    rw [if_pos rfl]
    refine wpAny_passesOwn hp (thn (hb pins s2 σ1 H2 _ I2 q2) fun f s3 q3 => ?_)
    cases f with
    | next =>
      obtain ⟨σ3, H3, I3, n3⟩ := q3
      obtain ⟨m', hm, w3⟩ := hN σ3 H3 n3
      exact ⟨m', hm, σ3, H3, I3, w3⟩
    | cont =>
      obtain ⟨σ3, H3, I3, n3⟩ := q3
      obtain ⟨m', hm, w3⟩ := hN σ3 H3 n3
      exact ⟨m', hm, σ3, H3, I3, w3⟩
    | brk => exact q3
    | ret v => exact q3
  | false =>
    rw [if_neg Bool.false_ne_true]
    exact wpAny_execs_nil ⟨σ1, H2, I2, q2⟩
end

structure It where
  go : Nat → Hp → Prop
  yld : Nat → Hp → V → Hp → Prop
  stop : Nat → Hp → Prop
def FpOk (X : Cx) (pins : List (Addr × Obj)) (H : Hp) (b : Addr) : Prop :=
  H b = none ∧ b ≠ X.env.locals ∧ b ∉ X.fs ∧ (b ∈ X.ex ∨ X.s_0.heap.objs.size ≤ b) ∧ (∀ x c, X.env.cells.lookup x = some c → c ≠ b) ∧ ∀ p ∈ X.pn ++ pins, p.1 ≠ b
theorem Inv.fpOk {X : Cx} {pins : List (Addr × Obj)} {σ : St} {H H' : Hp} {s : Shared} {b : Addr} (I : Inv X pins σ H s) (hb : s.heap.objs.size ≤ b) (hn : H' b = none) : FpOk X pins H' b := by
  refine ⟨hn, Nat.ne_of_gt (Nat.lt_of_lt_of_le I.lt hb), I.nofs hb, .inr (Nat.le_trans I.sz hb), fun x c e z => ?_, fun p hp z => ?_⟩
  · obtain ⟨v, q⟩ := I.cell x c e
    exact absurd (Nat.lt_of_lt_of_le q.lt (by rw [z]; exact hb)) (Nat.lt_irrefl _)
  · exact absurd (Nat.lt_of_lt_of_le (Heap.lt_size (I.pin p hp).1) (by rw [z]; exact hb)) (Nat.lt_irrefl _)
structure Turn (P : Program) (w : World) (K : PySem.W.Frag) (tg : Expr) (J : It) (fp : List Addr) (it : Addr) (tn : Nat → Heap → Prop) : Prop where
  mem : it ∈ fp
  obj : ∀ i h, tn i h → ∀ b ∈ fp, ∃ o, h.get? b = some o ∧ ∀ v, o.data ≠ .cell v
  keep : ∀ i h h', tn i h → (∀ b ∈ fp, ∀ o, h.get? b = some o → h'.get? b = some o) → tn i h'
  item : ∀ (X : Cx), X.prog = P → X.w = w → X.K = K → X.calm = true → ∀ (i : Nat) (pins : List (Addr × Obj)) (s : Shared) (σ : St) (H : Hp) (E : Value → Shared → Prop), Inv X pins σ H s → (∀ b ∈ fp, FpOk X pins H b) → tn i s.heap → J.go i H →
    wpAny (model P w) X.A (pyNext (.ref it)) (fun r s1 => ∃ u, r = some u ∧
      wpAny (model P w) X.A (letOwnedTupleGo tg (.ref it) u) (fun _ s2 => ∃ x H', Inv X pins σ H' s2 ∧ RelV x u ∧ J.yld i H x H' ∧ tn (i + 1) s2.heap ∧ ∀ b ∈ fp, H' b = none) E s1) E s
  done : ∀ (X : Cx), X.prog = P → X.w = w → X.K = K → X.calm = true → ∀ (i : Nat) (pins : List (Addr × Obj)) (s : Shared) (σ : St) (H : Hp) (E : Value → Shared → Prop), Inv X pins σ H s → (∀ b ∈ fp, FpOk X pins H b) → tn i s.heap → J.stop i H →
    wpAny (model P w) X.A (pyNext (.ref it)) (fun r s1 => r = none ∧ Inv X pins σ H s1) E s
  self : ∀ (A : Around) (i : Nat) (s : Shared) (Q : Value → Shared → Prop) (E : Value → Shared → Prop), tn i s.heap → Q (.ref it) s → wpAny (model P w) A (pyIter (.ref it)) Q E s
abbrev TI := St → Hp → (It → Hp → Prop) → Prop
def PIE (X : Cx) (pins : List (Addr × Obj)) (σ : St) (tg : Expr) (R : It → Hp → Prop) (itv : Value) (s2 : Shared) : Prop :=
  ∃ (it : Addr) (fp : List Addr) (tn : Nat → Heap → Prop) (J : It) (H' : Hp), itv = .ref it ∧ Inv X pins σ H' s2 ∧ Turn X.prog X.w X.K tg J fp it tn ∧ tn 0 s2.heap ∧ (∀ b ∈ fp, FpOk X pins H' b) ∧ R J H'
def PI (X : Cx) (tg iter : Expr) (wi : TI) : Prop :=
  ∀ (pins : List (Addr × Obj)) (s : Shared) (σ : St) (H : Hp) (R : It → Hp → Prop), Inv X pins σ H s → wi σ H R →
    wpAny (model X.prog X.w) X.A (eval iter X.env) (fun v s1 => wpAny (model X.prog X.w) X.A (pyIter v) (PIE X pins σ tg R) X.xe s1) X.xe s

theorem go_of {M : Model} {A : Around} {E : Value → Shared → Prop} {s : Shared} {tg : Expr} {it : Addr} {u : Value} {o : Obj} {n : String} {vs : Array Value} {Q : Unit → Shared → Prop} (ho : s.heap.get? it = some o) (hc : o.cls = .type n) (hd : o.data = .fields vs)
    (hn : ["enumerate", "zip", "dict_itemiterator", "dict_reverseitemiterator", "odict_iterator", "itertools.zip_longest", "itertools.pairwise"].contains n = false) (hQ : Q () s) : wpAny M A (letOwnedTupleGo tg (.ref it) u) Q E s := by
  unfold letOwnedTupleGo
  cases tg <;> first
    | exact wpAny_pure hQ
    | (cases u <;> first
        | exact wpAny_pure hQ
        | (refine wpAny_bind (wpAny_load ho ?_)
           rw [hc, hd]
           show wpAny M A (if (["enumerate", "zip", "dict_itemiterator", "dict_reverseitemiterator", "odict_iterator", "itertools.zip_longest", "itertools.pairwise"].contains n && vs[0]? == some (rawInt _)) = true then _ else _) Q E s
           rw [if_neg (by intro h; rw [hn, Bool.false_and] at h; cases h)]
           exact wpAny_pure hQ))

def Itl (K : PySem.W.Frag) (a : Addr) : It :=
  ⟨fun i H => ∃ xs x, SqL K H a xs ∧ xs[i]? = some x, fun i H x H' => H' = H ∧ ∀ xs, SqL K H a xs → xs[i]? = some x, fun i H => ∃ xs, SqL K H a xs ∧ xs.length ≤ i⟩
def Itt (K : PySem.W.Frag) (a : Addr) : It :=
  ⟨fun i H => ∃ xs x, SqT K H a xs ∧ xs[i]? = some x, fun i H x H' => H' = H ∧ ∀ xs, SqT K H a xs → xs[i]? = some x, fun i H => ∃ xs, SqT K H a xs ∧ xs.length ≤ i⟩
def Itr (lo : Int) (n : Nat) : It := ⟨fun i _ => i < n, fun i H x H' => H' = H ∧ x = .int (lo + i), fun i _ => n ≤ i⟩
theorem turn_list {P : Program} {w : World} {K : PySem.W.Frag} {tg : Expr} (a it : Addr) : Turn P w K tg (Itl K a) [it] it (fun i h => h.IsListIter it a i) where
  mem := by simp
  obj := fun i h st b hb => by
    have e : b = it := by simpa using hb
    subst e
    obtain ⟨o, e, c, d⟩ := st
    exact ⟨o, e, fun v z => by rw [d] at z; cases z⟩
  keep := fun i h h' st k => st.at fun o e => k it (by simp) o e
  item := by
    intro X hP hw hK hc i pins s σ H E I hf st hg
    subst hP hw hK
    obtain ⟨xs, x, hq, hx⟩ := hg
    obtain ⟨its, rv, p, hz⟩ := I.list hq
    obtain ⟨u, hu, ru⟩ := rv.get hx
    obtain ⟨f0, f1, f2, f3, f4, f5⟩ := hf it (by simp)
    refine wpAny_pyNext_list_item st p.isList (x := u) (by simpa using hu) fun h' st' sb => ?_
    have I1 : Inv X pins σ H { s with heap := h' } := I.turned (t' := s.toks) (fun b o hb e => (sb.2 b hb).trans e) f0 f1 f3 f4 f5
    obtain ⟨o, e, c, d⟩ := id st'
    exact ⟨u, rfl, go_of (s := { s with heap := h' }) e c d (by decide) ⟨x, H, I1, ru, ⟨rfl, fun ys hy => by rw [I.list_inj hy hq]; exact hx⟩, st', fun b hb => (hf b hb).1⟩⟩
  done := by
    intro X hP hw hK hc i pins s σ H E I hf st hg
    subst hP hw hK
    obtain ⟨xs, hq, hx⟩ := hg
    obtain ⟨its, rv, p, hz⟩ := I.list hq
    obtain ⟨f0, f1, f2, f3, f4, f5⟩ := hf it (by simp)
    have hl := rv.length
    exact wpAny_pyNext_list_end (I.ok.hd hc) st p.isList (by simp; omega) fun h' eb => ⟨rfl, I.turned (t' := s.toks) (fun b o hb e => eb b o hb e) f0 f1 f3 f4 f5⟩
  self := fun _ _ _ _ _ st h => wpAny_pyIter_listiter st h
theorem turn_tuple {P : Program} {w : World} {K : PySem.W.Frag} {tg : Expr} (a it : Addr) : Turn P w K tg (Itt K a) [it] it (fun i h => h.IsTupleIter it a i) where
  mem := by simp
  obj := fun i h st b hb => by
    have e : b = it := by simpa using hb
    subst e
    obtain ⟨o, e, c, d⟩ := st
    exact ⟨o, e, fun v z => by rw [d] at z; cases z⟩
  keep := fun i h h' st k => st.at fun o e => k it (by simp) o e
  item := by
    intro X hP hw hK hc i pins s σ H E I hf st hg
    subst hP hw hK
    obtain ⟨xs, x, hq, hx⟩ := hg
    obtain ⟨its, rv, p, hz⟩ := I.tuple hq
    obtain ⟨u, hu, ru⟩ := rv.get hx
    obtain ⟨f0, f1, f2, f3, f4, f5⟩ := hf it (by simp)
    refine wpAny_pyNext_tuple_item st (show s.heap.IsTuple a its.toArray from p) (x := u) (by simpa using hu) fun h' st' sb => ?_
    have I1 : Inv X pins σ H { s with heap := h' } := I.turned (t' := s.toks) (fun b o hb e => (sb.2 b hb).trans e) f0 f1 f3 f4 f5
    obtain ⟨o, e, c, d⟩ := id st'
    exact ⟨u, rfl, go_of (s := { s with heap := h' }) e c d (by decide) ⟨x, H, I1, ru, ⟨rfl, fun ys hy => by rw [I.tuple_inj hy hq]; exact hx⟩, st', fun b hb => (hf b hb).1⟩⟩
  done := by
    intro X hP hw hK hc i pins s σ H E I hf st hg
    subst hP hw hK
    obtain ⟨xs, hq, hx⟩ := hg
    obtain ⟨its, rv, p, hz⟩ := I.tuple hq
    obtain ⟨f0, f1, f2, f3, f4, f5⟩ := hf it (by simp)
    have hl := rv.length
    exact wpAny_pyNext_tuple_end (I.ok.hd hc) st (show s.heap.IsTuple a its.toArray from p) (by simp; omega) fun h' eb => ⟨rfl, I.turned (t' := s.toks) (fun b o hb e => eb b o hb e) f0 f1 f3 f4 f5⟩
  self := fun _ _ _ _ _ st h => wpAny_pyIter_tupleiter st h
theorem turn_range {P : Program} {w : World} {K : PySem.W.Frag} {tg : Expr} (it : Addr) (lo : Int) (n : Nat) : Turn P w K tg (Itr lo n) [it] it (fun i h => IsRangeIter h it (lo + (i : Nat) * 1) ((n : Int) - (i : Nat)) 1) where
  mem := by simp
  obj := fun i h st b hb => by
    have e : b = it := by simpa using hb
    subst e
    exact ⟨_, st, fun v z => by
      have z' : Data.fields _ = Data.cell v := z
      cases z'⟩
  keep := fun i h h' st k => k it (by simp) _ st
  item := by
    intro X hP hw hK hc i pins s σ H E I hf st hg
    subst hP hw hK
    obtain ⟨f0, f1, f2, f3, f4, f5⟩ := hf it (by simp)
    have W := Walks.range (prog := X.prog) (w := X.w) (I.ok.hd hc) it lo 1 n
    refine W.item i s _ _ hg st fun v h' tk hv st' kk => ?_
    obtain ⟨t, rfl⟩ := hv
    have I1 : Inv X pins σ H { s with heap := h', toks := tk } := I.turned (fun b o hb e => kk b o (by simpa using hb) e) f0 f1 f3 f4 f5
    refine ⟨_, rfl, go_of (s := { s with heap := h', toks := tk }) (n := "range_iterator") st' rfl rfl (by decide) ⟨.int (lo + i), H, I1, ⟨t, ?_⟩, ⟨rfl, rfl⟩, st', fun b hb => (hf b hb).1⟩⟩
    rw [Int.mul_one]
  done := by
    intro X hP hw hK hc i pins s σ H E I hf st hg
    subst hP hw hK
    obtain ⟨f0, f1, f2, f3, f4, f5⟩ := hf it (by simp)
    exact wpAny_pyNext_range_end (I.ok.hd hc) st (by have : n ≤ i := hg; omega) fun h' eb => ⟨rfl, I.turned (t' := s.toks) (fun b o hb e => eb b o hb e) f0 f1 f3 f4 f5⟩
  self := fun _ _ _ _ _ st h => wpAny_pyIter_rangeiter st h
end L2

namespace L2
open PySem PySem.Spec PyProof.Rows
section
variable {X : Cx} {tg : Expr}
def iList (K : PySem.W.Frag) (tl : TE) : TI := fun σ H R => tl σ H fun x H1 => ∃ a, x = .ref a ∧ (∃ xs, SqL K H1 a xs) ∧ R (Itl K a) H1
def iTup (K : PySem.W.Frag) (tl : TE) : TI := fun σ H R => tl σ H fun x H1 => ∃ a, x = .ref a ∧ (∃ xs, SqT K H1 a xs) ∧ R (Itt K a) H1
theorem pi_list {l : Expr} {tl : TE} (hl : PE X l tl) : PI X tg l (iList X.K tl) := by
  intro pins s σ H R I h
  refine thn (hl pins s σ H _ I h) fun v s1 ⟨x, H1, I1, r1, q1⟩ => ?_
  obtain ⟨a, e, ⟨xs, hq⟩, q⟩ := q1
  subst e
  cases r1
  obtain ⟨its, rv, p, hz⟩ := I1.list hq
  refine wpAny_pyIter_list p.isList ?_
  refine ⟨s1.heap.objs.size, [s1.heap.objs.size], _, _, H1, rfl, I1.kept (t' := s1.toks) fun b o e => Heap.get?_push_of_some _ e, turn_list a _, ⟨_, Heap.get?_push_size _ rfl, rfl, rfl⟩, fun b hb => ?_, q⟩
  have e : b = s1.heap.objs.size := by simpa using hb
  subst e
  exact I1.fpOk (Nat.le_refl _) (I1.hok.fresh (Nat.le_refl _))
theorem pi_tup {l : Expr} {tl : TE} (hl : PE X l tl) : PI X tg l (iTup X.K tl) := by
  intro pins s σ H R I h
  refine thn (hl pins s σ H _ I h) fun v s1 ⟨x, H1, I1, r1, q1⟩ => ?_
  obtain ⟨a, e, ⟨xs, hq⟩, q⟩ := q1
  subst e
  cases r1
  obtain ⟨its, rv, p, hz⟩ := I1.tuple hq
  refine wpAny_pyIter_tuple (show s1.heap.IsTuple a its.toArray from p) ?_
  refine ⟨s1.heap.objs.size, [s1.heap.objs.size], _, _, H1, rfl, I1.kept (t' := s1.toks) fun b o e => Heap.get?_push_of_some _ e, turn_tuple a _, ⟨_, Heap.get?_push_size _ rfl, rfl, rfl⟩, fun b hb => ?_, q⟩
  have e : b = s1.heap.objs.size := by simpa using hb
  subst e
  exact I1.fpOk (Nat.le_refl _) (I1.hok.fresh (Nat.le_refl _))
theorem range_it {pins : List (Addr × Obj)} {σ : St} {H : Hp} {s : Shared} {R : It → Hp → Prop} {E : Value → Shared → Prop} {lo hi : Int} {t u v : Tok} {tk : Nat} (I : Inv X pins σ H s) (h1 : -(2 ^ 62) ≤ lo) (h2 : lo < 2 ^ 62) (h3 : -(2 ^ 62) ≤ hi) (h4 : hi < 2 ^ 62)
    (q : R (Itr lo (hi - lo).toNat) H) : wpAny (model X.prog X.w) X.A (pyIter (.ref s.heap.objs.size)) (PIE X pins σ tg R) E { s with heap := s.heap.push { cls := .type "range", data := .fields #[.int lo t, .int hi u, .int 1 v] }, toks := tk } := by
  refine wpAny_pyIter_range (IsRange.new ..) (small_one h1 h2 h3 h4) ?_
  have I1 : Inv X pins σ H { s with heap := s.heap.push { cls := .type "range", data := .fields #[.int lo t, .int hi u, .int 1 v] }, toks := tk } := I.kept fun b o e => Heap.get?_push_of_some _ e
  refine ⟨(s.heap.push { cls := .type "range", data := .fields #[.int lo t, .int hi u, .int 1 v] }).objs.size, [(s.heap.push { cls := .type "range", data := .fields #[.int lo t, .int hi u, .int 1 v] }).objs.size], _, _, H, rfl,
    I1.kept (t' := tk) fun b o e => Heap.get?_push_of_some _ e, turn_range _ lo (hi - lo).toNat, ?_, fun b hb => ?_, q⟩
  · have e1 : lo + ((0 : Nat) : Int) * 1 = lo := by simp
    have e2 : (((hi - lo).toNat : Nat) : Int) - ((0 : Nat) : Int) = Builtin.Range.rangeSize lo hi 1 := by rw [rangeSize_one]; split <;> omega
    show IsRangeIter _ _ (lo + ((0 : Nat) : Int) * 1) ((((hi - lo).toNat : Nat) : Int) - ((0 : Nat) : Int)) 1
    rw [e1, e2]
    exact Heap.get?_push_size _ rfl
  · have e : b = (s.heap.push { cls := .type "range", data := .fields #[.int lo t, .int hi u, .int 1 v] }).objs.size := by simpa using hb
    subst e
    exact I1.fpOk (Nat.le_refl _) (I1.hok.fresh (Nat.le_refl _))
def iRng1 (ta : TA) : TI := fun σ H R => ta σ H fun vs H1 => ∃ j : Int, vs = [.int j] ∧ -(2 ^ 62) ≤ j ∧ j < 2 ^ 62 ∧ R (Itr 0 j.toNat) H1
def iRng2 (ta : TA) : TI := fun σ H R => ta σ H fun vs H1 => ∃ i j : Int, vs = [.int i, .int j] ∧ (-(2 ^ 62) ≤ i ∧ i < 2 ^ 62 ∧ -(2 ^ 62) ≤ j ∧ j < 2 ^ 62) ∧ R (Itr i (j - i).toNat) H1
theorem pi_range1 {a : Expr} {ta : TA} {p pos : Pos} (hg : Gl X "range") (hm : X.mg "range" = none) (ha : PA X [a] ta) (hs : starEach [a] X.env = [(false, eval a X.env)] := by rfl) : PI X tg (.Call (.Name "range" p) [a] [] pos) (iRng1 ta) := by
  intro pins s σ H R I h
  refine Call_ (ld_blt I hg hm boot_range (PyProof.Rows.callWith_type1 (thn (ha pos pins s σ H _ I h) fun us s1 ⟨vs, H1, I1, r1, q1⟩ => ?_) hs rfl))
  obtain ⟨j, e, q1, q2, q⟩ := q1
  subst e
  cases r1 with
  | cons r rr =>
    cases rr
    obtain ⟨t, rfl⟩ := r
    exact call_range_1 (range_it I1 (by omega) (by omega) q1 q2 (by simpa using q))
theorem pi_range2 {a b : Expr} {ta : TA} {p pos : Pos} (hg : Gl X "range") (hm : X.mg "range" = none) (ha : PA X [a, b] ta) (hs : starEach [a, b] X.env = [(false, eval a X.env), (false, eval b X.env)] := by rfl) (hs2 : starEach [b] X.env = [(false, eval b X.env)] := by rfl) :
    PI X tg (.Call (.Name "range" p) [a, b] [] pos) (iRng2 ta) := by
  intro pins s σ H R I h
  refine Call_ (ld_blt I hg hm boot_range (PyProof.Rows.callWith_type1 (thn (ha pos pins s σ H _ I h) fun us s1 ⟨vs, H1, I1, r1, q1⟩ => ?_) (by rw [hs, hs2]) (by rw [hs2]; rfl)))
  obtain ⟨i, j, e, ⟨q1, q2, q3, q4⟩, q⟩ := q1
  subst e
  cases r1 with
  | cons r rr =>
    cases rr with
    | cons r' rr =>
      cases rr
      obtain ⟨t, rfl⟩ := r
      obtain ⟨t', rfl⟩ := r'
      exact call_range_2 (range_it I1 q1 q2 q3 q4 q)

def tFor (wi : TI) (g : TG) (tb : TS) : TS := fun D σ H => wi σ H fun J H1 => ∃ W : Nat → Nat → St → Hp → Prop, (∃ m, W 0 m σ H1) ∧ ∀ i m σ H, W i m σ H →
  (J.stop i H ∧ D.nx σ H) ∨ (J.go i H ∧ ∃ N : St → Hp → Prop, (∀ σ' H', N σ' H' → ∃ m', m' < m ∧ W (i + 1) m' σ' H') ∧ ∀ x H', J.yld i H x H' → g x σ H' fun σ2 H2 => tb { D with nx := N, ct := N, bk := D.nx } σ2 H2)
def pinsAt (fp : List Addr) (h : Heap) : List (Addr × Obj) := fp.filterMap fun b => (h.get? b).map fun o => (b, o)
theorem mem_pinsAt {fp : List Addr} {h : Heap} {b : Addr} {o : Obj} (hb : b ∈ fp) (e : h.get? b = some o) : (b, o) ∈ pinsAt fp h := List.mem_filterMap.mpr ⟨b, hb, by rw [e]; rfl⟩
theorem of_pinsAt {fp : List Addr} {h : Heap} {p : Addr × Obj} (hp : p ∈ pinsAt fp h) : p.1 ∈ fp ∧ h.get? p.1 = some p.2 := by
  obtain ⟨b, hb, e⟩ := List.mem_filterMap.mp hp
  cases q : h.get? b with
  | none => rw [q] at e; cases e
  | some o =>
    rw [q] at e
    have e' : (b, o) = p := Option.some.inj e
    subst e'
    exact ⟨hb, q⟩
theorem Inv.pinned {pins : List (Addr × Obj)} {σ : St} {H : Hp} {s : Shared} {fp : List Addr} (I : Inv X pins σ H s) (hf : ∀ b ∈ fp, FpOk X pins H b) (ho : ∀ b ∈ fp, ∃ o, s.heap.get? b = some o ∧ ∀ v, o.data ≠ .cell v) : Inv X (pins ++ pinsAt fp s.heap) σ H s :=
  I.pins_of fun p hp => (List.mem_append.mp hp).elim (fun z => I.pin p (List.mem_append_right _ z)) fun z => by
    obtain ⟨hb, e⟩ := of_pinsAt z
    obtain ⟨f0, f1, f2, _⟩ := hf p.1 hb
    obtain ⟨o, e', d⟩ := ho p.1 hb
    rw [e] at e'; cases e'
    exact ⟨e, f0, f1, f2, d⟩
theorem Inv.unpinned {pins pl : List (Addr × Obj)} {σ : St} {H : Hp} {s : Shared} (I : Inv X (pins ++ pl) σ H s) : Inv X pins σ H s := I.pins_of fun p hp => I.pin p (List.mem_append_right _ (List.mem_append_left _ hp))
theorem ps_for {iter : Expr} {body : List Stmt} {wi : TI} {g : TG} {tb : TS} {pos : Pos} (hp : PassesOwn (model X.prog X.w) X.A X.env X.xe) (hc : X.calm = true) (hi : PI X tg iter wi) (hg : PG X tg g) (hb : PSs X body tb)
    (hs : ∀ x, foldedSetIterable iter X.env x = pure x := by intro _; rfl) : PS X (.For tg iter body [] pos) (tFor wi g tb) := by
  intro pins s σ H D I h
  refine wpAny_For (thn (hi pins s σ H _ I h) fun v s1 h1 => thn h1 fun itv s2 h2 => ?_) hs
  obtain ⟨it, fp, tn, J, H2, e, I2, T, st2, f2, W, ⟨m0, w0⟩, turn⟩ := h2
  subst e
  -- what stays true of the iterator's objects through the loop
  have stat : ∀ {H' : Hp}, (∀ b ∈ fp, H' b = none) → ∀ b ∈ fp, FpOk X pins H' b := fun hn b hb => ⟨hn b hb, (f2 b hb).2⟩
  refine codeAny_forLoop_any (fun n s' => ∃ i σ' H', Inv X pins σ' H' s' ∧ tn i s'.heap ∧ (∀ b ∈ fp, H' b = none) ∧ W i n σ' H') ?_ m0 ⟨0, σ, H2, I2, st2, fun b hb => (f2 b hb).1, w0⟩
  rintro n s3 ⟨i, σ3, H3, I3, st3, fr3, w3⟩
  rcases turn i n σ3 H3 w3 with ⟨stop, qn⟩ | ⟨go, N, hN, step⟩
  · refine wpAny_passesOwn hp (thn (T.done X rfl rfl rfl hc i pins s3 σ3 H3 X.xe I3 (stat fr3) st3 stop) fun r s4 ⟨hr, I4⟩ => ?_)
    subst hr
    exact wpAny_execs_nil ⟨σ3, H3, I4, qn⟩
  · refine wpAny_passesOwn hp (thn (T.item X rfl rfl rfl hc i pins s3 σ3 H3 X.xe I3 (stat fr3) st3 go) fun r s4 ⟨u, hr, h4⟩ => ?_)
    subst hr
    refine wpAny_passesOwn hp (thn h4 fun _ s5 ⟨x, H5, I5, r5, y5, st5, fr5⟩ => ?_)
    have I5' := I5.pinned (stat fr5) (T.obj _ _ st5)
    refine wpAny_passesOwn hp (thn (hg _ s5 σ3 H5 x u _ I5' r5 (step x H5 y5)) fun _ s6 ⟨σ6, H6, I6, q6⟩ => ?_)
    refine wpAny_passesOwn hp (thn (hb _ s6 σ6 H6 _ I6 q6) fun f s7 q7 => ?_)
    have again : ∀ {σ7 : St} {H7 : Hp}, Inv X (pins ++ pinsAt fp s5.heap) σ7 H7 s7 → N σ7 H7 → ∃ m, m < n ∧ ∃ i σ' H', Inv X pins σ' H' s7 ∧ tn i s7.heap ∧ (∀ b ∈ fp, H' b = none) ∧ W i m σ' H' := fun {σ7 H7} I7 n7 => by
      obtain ⟨m', hm, w7⟩ := hN σ7 H7 n7
      refine ⟨m', hm, i + 1, σ7, H7, I7.unpinned, T.keep _ _ _ st5 fun b hb o e => (I7.pin (b, o) (List.mem_append_right _ (List.mem_append_right _ (mem_pinsAt hb e)))).1, fun b hb => ?_, w7⟩
      obtain ⟨o, e, d⟩ := T.obj _ _ st5 b hb
      exact (I7.pin (b, o) (List.mem_append_right _ (List.mem_append_right _ (mem_pinsAt hb e)))).2.1
    cases f with
    | next => obtain ⟨σ7, H7, I7, n7⟩ := q7; exact again I7 n7
    | cont => obtain ⟨σ7, H7, I7, n7⟩ := q7; exact again I7 n7
    | brk => obtain ⟨σ7, H7, I7, q7⟩ := q7; exact ⟨σ7, H7, I7.unpinned, q7⟩
    | ret v => obtain ⟨x7, σ7, H7, I7, r7, q7⟩ := q7; exact ⟨x7, σ7, H7, I7.unpinned, r7, q7⟩
end

theorem for_list {K : PySem.W.Frag} {a : Addr} {xs : List V} {g : TG} {tb : TS} {D : Ends} {σ : St} {H : Hp} (Pv : Nat → St → Hp → Prop) (h0 : Pv 0 σ H) (hl : ∀ i σ H, i ≤ xs.length → Pv i σ H → SqL K H a xs)
    (hs : ∀ i x σ H, xs[i]? = some x → Pv i σ H → g x σ H fun σ2 H2 => tb { D with nx := Pv (i + 1), ct := Pv (i + 1), bk := D.nx } σ2 H2) (hd : ∀ σ H, Pv xs.length σ H → D.nx σ H) :
    ∃ W : Nat → Nat → St → Hp → Prop, (∃ m, W 0 m σ H) ∧ ∀ i m σ H, W i m σ H →
      ((Itl K a).stop i H ∧ D.nx σ H) ∨ ((Itl K a).go i H ∧ ∃ N : St → Hp → Prop, (∀ σ' H', N σ' H' → ∃ m', m' < m ∧ W (i + 1) m' σ' H') ∧ ∀ x H', (Itl K a).yld i H x H' → g x σ H' fun σ2 H2 => tb { D with nx := N, ct := N, bk := D.nx } σ2 H2) := by
  refine ⟨fun i m σ H => m = xs.length - i ∧ i ≤ xs.length ∧ Pv i σ H, ⟨xs.length, by simp, Nat.zero_le _, h0⟩, ?_⟩
  rintro i m σ H ⟨rfl, hi, p⟩
  have q := hl i σ H hi p
  by_cases hlt : i < xs.length
  · refine .inr ⟨⟨xs, xs[i], q, by simp [hlt]⟩, Pv (i + 1), fun σ' H' p' => ⟨xs.length - (i + 1), by omega, rfl, hlt, p'⟩, fun x H' y => ?_⟩
    obtain ⟨e, y⟩ := y
    subst e
    exact hs i x σ _ (y xs q) p
  · have e : i = xs.length := by omega
    subst e
    exact .inl ⟨⟨xs, q, Nat.le_refl _⟩, hd σ H p⟩
theorem for_range {lo : Int} {n : Nat} {g : TG} {tb : TS} {D : Ends} {σ : St} {H : Hp} (Pv : Nat → St → Hp → Prop) (h0 : Pv 0 σ H)
    (hs : ∀ i σ H, i < n → Pv i σ H → g (.int (lo + i)) σ H fun σ2 H2 => tb { D with nx := Pv (i + 1), ct := Pv (i + 1), bk := D.nx } σ2 H2) (hd : ∀ σ H, Pv n σ H → D.nx σ H) :
    ∃ W : Nat → Nat → St → Hp → Prop, (∃ m, W 0 m σ H) ∧ ∀ i m σ H, W i m σ H →
      ((Itr lo n).stop i H ∧ D.nx σ H) ∨ ((Itr lo n).go i H ∧ ∃ N : St → Hp → Prop, (∀ σ' H', N σ' H' → ∃ m', m' < m ∧ W (i + 1) m' σ' H') ∧ ∀ x H', (Itr lo n).yld i H x H' → g x σ H' fun σ2 H2 => tb { D with nx := N, ct := N, bk := D.nx } σ2 H2) := by
  refine ⟨fun i m σ H => m = n - i ∧ i ≤ n ∧ Pv i σ H, ⟨n, by simp, Nat.zero_le _, h0⟩, ?_⟩
  rintro i m σ H ⟨rfl, hi, p⟩
  by_cases hlt : i < n
  · refine .inr ⟨hlt, Pv (i + 1), fun σ' H' p' => ⟨n - (i + 1), by omega, rfl, hlt, p'⟩, fun x H' y => ?_⟩
    obtain ⟨e, y⟩ := y
    subst e y
    exact hs i σ _ hlt p
  · have e : i = n := by omega
    subst e
    exact .inl ⟨Nat.le_refl _, hd σ H p⟩
end L2

namespace L2
open PySem PySem.Spec PyProof.Rows

abbrev R2 := V → V → Hp → VK → Prop
def OpR (X : Cx) (f : Value → Value → Sem Value) (r : R2) : Prop :=
  ∀ (pins : List (Addr × Obj)) (s : Shared) (σ : St) (H : Hp) (x y : V) (v u : Value) (Q : VK), Inv X pins σ H s → RelV x v → RelV y u → r x y H Q →
    wpAny (model X.prog X.w) X.A (f v u) (EP X pins σ Q) X.xe s
def UnR (X : Cx) (f : Value → Sem Value) (r : V → Hp → VK → Prop) : Prop :=
  ∀ (pins : List (Addr × Obj)) (s : Shared) (σ : St) (H : Hp) (x : V) (v : Value) (Q : VK), Inv X pins σ H s → RelV x v → r x H Q →
    wpAny (model X.prog X.w) X.A (f v) (EP X pins σ Q) X.xe s
def CallR (X : Cx) (f : Value) (r : List V → Hp → VK → Prop) : Prop :=
  ∀ (pins : List (Addr × Obj)) (s : Shared) (σ : St) (H : Hp) (xs : List V) (us : List Value) (Q : VK), Inv X pins σ H s → Vals xs us → r xs H Q →
    wpAny (model X.prog X.w) X.A (call f us) (EP X pins σ Q) X.xe s
def tOp (r : R2) (ta tb : TE) : TE := fun σ H Q => ta σ H fun x H1 => tb σ H1 fun y H2 => r x y H2 Q
def tUn (r : V → Hp → VK → Prop) (ta : TE) : TE := fun σ H Q => ta σ H fun x H1 => r x H1 Q
def rI (C : Int → Int → Prop) (g : Int → Int → V) : R2 := fun x y H Q => ∃ i j, x = .int i ∧ y = .int j ∧ C i j ∧ Q (g i j) H
def rI0 (g : Int → Int → V) : R2 := fun x y H Q => ∃ i j, x = .int i ∧ y = .int j ∧ Q (g i j) H
def rU (g : Int → V) : V → Hp → VK → Prop := fun x H Q => ∃ i, x = .int i ∧ Q (g i) H

section
variable {X : Cx} {a b c : Expr} {ta tb tc : TE} {pos : Pos}

theorem binT (ha : PE X a ta) (hb : PE X b tb) {pins : List (Addr × Obj)} {s : Shared} {σ : St} {H : Hp} {R : V → V → Hp → Prop} (I : Inv X pins σ H s)
    (h : ta σ H fun x H1 => tb σ H1 fun y H2 => R x y H2) {Q : Value → Shared → Prop} {f : Value → Value → Sem Value}
    (hf : ∀ v u s2 x y H2, Inv X pins σ H2 s2 → RelV x v → RelV y u → R x y H2 → wpAny (model X.prog X.w) X.A (f v u) Q X.xe s2) :
    wpAny (model X.prog X.w) X.A (eval a X.env) (fun v s₁ => wpAny (model X.prog X.w) X.A (eval b X.env) (fun u s₂ => wpAny (model X.prog X.w) X.A (f v u) Q X.xe s₂) X.xe s₁) X.xe s := by
  refine thn (ha pins s σ H _ I h) fun v s1 ⟨x, H1, I1, r1, q1⟩ => ?_
  refine thn (hb pins s1 σ H1 _ I1 q1) fun u s2 ⟨y, H2, I2, r2, q2⟩ => ?_
  exact hf v u s2 x y H2 I2 r1 r2 q2

theorem pe_op {op : Operator} {r : R2} (ho : OpR X (binaryOp op) r) (ha : PE X a ta) (hb : PE X b tb) : PE X (.BinOp a op b pos) (tOp r ta tb) := by
  intro pins s σ H Q I h
  exact wpAny_BinOp (binT ha hb I h fun v u s2 x y H2 I2 rx ry q => ho pins s2 σ H2 x y v u Q I2 rx ry q)
theorem pe_un {op : UnaryOp} {r : V → Hp → VK → Prop} (ho : UnR X (unaryOp op) r) (ha : PE X a ta) : PE X (.UnaryOp op a pos) (tUn r ta) := by
  intro pins s σ H Q I h
  exact UnaryOp_ (thn (ha pins s σ H _ I h) fun v s1 ⟨x, H1, I1, r1, q1⟩ => ho pins s1 σ H1 x v Q I1 r1 q1)
theorem opI {f : Value → Value → Sem Value} {C : Int → Int → Prop} {g : Int → Int → Int}
    (rule : ∀ (i j : Int) (t u : Tok) (s : Shared) (Q : Value → Shared → Prop) (E : Value → Shared → Prop), C i j → Q (.int (g i j) s.toks) { s with toks := s.toks + 1 } → wpAny (model X.prog X.w) X.A (f (.int i t) (.int j u)) Q E s) :
    OpR X f (rI C fun i j => .int (g i j)) := by
  intro pins s σ H x y v u Q I rx ry h
  obtain ⟨i, j, rfl, rfl, hc, q⟩ := h
  obtain ⟨t, rfl⟩ := rx
  obtain ⟨t', rfl⟩ := ry
  exact rule i j t t' s _ _ hc ⟨.int (g i j), H, I.tok _, ⟨_, rfl⟩, q⟩
theorem opI0 {f : Value → Value → Sem Value} {g : Int → Int → Int}
    (rule : ∀ (i j : Int) (t u : Tok) (s : Shared) (Q : Value → Shared → Prop) (E : Value → Shared → Prop), Q (.int (g i j) s.toks) { s with toks := s.toks + 1 } → wpAny (model X.prog X.w) X.A (f (.int i t) (.int j u)) Q E s) :
    OpR X f (rI0 fun i j => .int (g i j)) := by
  intro pins s σ H x y v u Q I rx ry h
  obtain ⟨i, j, rfl, rfl, q⟩ := h
  obtain ⟨t, rfl⟩ := rx
  obtain ⟨t', rfl⟩ := ry
  exact rule i j t t' s _ _ ⟨.int (g i j), H, I.tok _, ⟨_, rfl⟩, q⟩
theorem opB0 {f : Value → Value → Sem Value} {g : Int → Int → Bool}
    (rule : ∀ (i j : Int) (t u : Tok) (s : Shared) (Q : Value → Shared → Prop) (E : Value → Shared → Prop), Q (.bool (g i j)) s → wpAny (model X.prog X.w) X.A (f (.int i t) (.int j u)) Q E s) :
    OpR X f (rI0 fun i j => .bl (g i j)) := by
  intro pins s σ H x y v u Q I rx ry h
  obtain ⟨i, j, rfl, rfl, q⟩ := h
  obtain ⟨t, rfl⟩ := rx
  obtain ⟨t', rfl⟩ := ry
  exact rule i j t t' s _ _ ⟨.bl (g i j), H, I, rfl, q⟩

def CPow (i j : Int) : Prop := 0 ≤ j ∧ j ≤ 1000000 ∧ i.natAbs < 2 ^ 64
theorem op_add : OpR X (binaryOp .Add) (rI0 fun i j => .int (i + j)) := opI0 fun _ _ _ _ _ _ _ q => add_int q
theorem op_sub : OpR X (binaryOp .Sub) (rI0 fun i j => .int (i - j)) := opI0 fun _ _ _ _ _ _ _ q => sub_int q
theorem op_shl : OpR X (binaryOp .LShift) (rI CPow fun i j => .int (i * 2 ^ j.toNat)) := opI fun _ _ _ _ _ _ _ hc q => lshift_int_small hc.1 hc.2.1 hc.2.2 q
theorem op_and : OpR X (binaryOp .BitAnd) (rI0 fun i j => .int (Builtin.bitAnd i j)) := opI0 fun _ _ _ _ _ _ _ q => and_int q
theorem unI {f : Value → Sem Value} {g : Int → Int}
    (rule : ∀ (i : Int) (t : Tok) (s : Shared) (Q : Value → Shared → Prop) (E : Value → Shared → Prop), Q (.int (g i) s.toks) { s with toks := s.toks + 1 } → wpAny (model X.prog X.w) X.A (f (.int i t)) Q E s) :
    UnR X f (rU fun i => .int (g i)) := by
  intro pins s σ H x v Q I rx h
  obtain ⟨i, rfl, q⟩ := h
  obtain ⟨t, rfl⟩ := rx
  exact rule i t s _ _ ⟨.int (g i), H, I.tok _, ⟨_, rfl⟩, q⟩
theorem un_neg : UnR X (unaryOp .USub) (rU fun i => .int (-i)) := unI fun _ _ _ _ _ q => neg_int q
end

def scal : V → V → Bool
  | .non, .non => true | .non, .int _ => true | .int _, .non => true | .non, .bl _ => true | .bl _, .non => true | .non, .str _ => true | .str _, .non => true
  | .int _, .int _ => true | .bl _, .bl _ => true | .str _, .str _ => true | .byt _, .byt _ => true
  | .int _, .str _ => true | .str _, .int _ => true | .bl _, .str _ => true | .str _, .bl _ => true
  | _, _ => false
def rEq : R2 := fun x y H Q => scal x y = true ∧ Q (.bl (decide (x = y))) H
def rNe : R2 := fun x y H Q => scal x y = true ∧ Q (.bl (!decide (x = y))) H

theorem dec_int {i j : Int} : decide (V.int i = V.int j) = (i == j) := by
  rw [Bool.eq_iff_iff]
  simp
theorem dec_bl {i j : Bool} : decide (V.bl i = V.bl j) = (i == j) := by
  rw [Bool.eq_iff_iff]
  simp
theorem dec_str {i j : Str} : decide (V.str i = V.str j) = (i == j) := by
  rw [Bool.eq_iff_iff]
  simp
theorem dec_byt {i j : Array UInt8} : decide (V.byt i = V.byt j) = (i.toList == j.toList) := by
  rw [Bool.eq_iff_iff]
  cases i
  cases j
  simp

section
variable {X : Cx} {a b c : Expr} {ta tb tc : TE} {pos : Pos}
theorem fin_bl {pins : List (Addr × Obj)} {σ : St} {H : Hp} {s : Shared} {Q : VK} {k k' : Bool} (I : Inv X pins σ H s) (q : Q (.bl k) H) (e : k = k') : EP X pins σ Q (.bool k') s := by
  subst e
  exact ⟨.bl k, H, I, rfl, q⟩
theorem op_eq : OpR X (compareOp .Eq) rEq := by
  intro pins s σ H x y v u Q I rx ry h
  obtain ⟨hs, q⟩ := h
  cases x with
  | non =>
    cases rx
    cases y with
    | non => cases ry; exact PySem.EqNone.eq_none_none (fin_bl I q (by simp))
    | bl j => cases ry; exact PySem.EqNone.eq_none_bool (fin_bl I q (by simp))
    | int j => obtain ⟨t', rfl⟩ := ry; exact PySem.EqNone.eq_none_int (fin_bl I q (by simp))
    | str j => obtain ⟨t', rfl⟩ := ry; exact PySem.EqNone.eq_none_str (fin_bl I q (by simp))
    | _ => exact absurd (show false = true from hs) Bool.false_ne_true
  | bl i =>
    cases rx
    cases y with
    | non => cases ry; exact PySem.EqNone.eq_bool_none (fin_bl I q (by simp))
    | bl j => cases ry; exact eq_bool (fin_bl I q dec_bl)
    | str j => obtain ⟨t', rfl⟩ := ry; exact PySem.EqMixed.eq_bool_str (fin_bl I q (by simp))
    | _ => exact absurd (show false = true from hs) Bool.false_ne_true
  | int i =>
    obtain ⟨t, rfl⟩ := rx
    cases y with
    | non => cases ry; exact PySem.EqNone.eq_int_none (fin_bl I q (by simp))
    | int j => obtain ⟨t', rfl⟩ := ry; exact eq_int (fin_bl I q dec_int)
    | str j => obtain ⟨t', rfl⟩ := ry; exact PySem.EqMixed.eq_int_str (fin_bl I q (by simp))
    | _ => exact absurd (show false = true from hs) Bool.false_ne_true
  | str i =>
    obtain ⟨t, rfl⟩ := rx
    cases y with
    | non => cases ry; exact PySem.EqNone.eq_str_none (fin_bl I q (by simp))
    | bl j => cases ry; exact PySem.EqMixed.eq_str_bool (fin_bl I q (by simp))
    | int j => obtain ⟨t', rfl⟩ := ry; exact PySem.EqMixed.eq_str_int (fin_bl I q (by simp))
    | str j => obtain ⟨t', rfl⟩ := ry; exact eq_str (fin_bl I q dec_str)
    | _ => exact absurd (show false = true from hs) Bool.false_ne_true
  | byt i =>
    obtain ⟨t, rfl⟩ := rx
    cases y with
    | byt j => obtain ⟨t', rfl⟩ := ry; exact PySem.W.eq_bytes (fin_bl I q dec_byt)
    | _ => exact absurd (show false = true from hs) Bool.false_ne_true
  | _ => cases y <;> exact absurd (show false = true from hs) Bool.false_ne_true
theorem op_ne : OpR X (compareOp .NotEq) rNe := by
  intro pins s σ H x y v u Q I rx ry h
  obtain ⟨hs, q⟩ := h
  cases x with
  | non =>
    cases rx
    cases y with
    | non => cases ry; exact PySem.EqNone.ne_none_none (fin_bl I q (by simp))
    | bl j => cases ry; exact PySem.EqNone.ne_none_bool (fin_bl I q (by simp))
    | int j => obtain ⟨t', rfl⟩ := ry; exact PySem.EqNone.ne_none_int (fin_bl I q (by simp))
    | str j => obtain ⟨t', rfl⟩ := ry; exact PySem.EqNone.ne_none_str (fin_bl I q (by simp))
    | _ => exact absurd (show false = true from hs) Bool.false_ne_true
  | bl i =>
    cases rx
    cases y with
    | non => cases ry; exact PySem.EqNone.ne_bool_none (fin_bl I q (by simp))
    | bl j => cases ry; exact ne_bool (fin_bl I q (congrArg not dec_bl))
    | str j => obtain ⟨t', rfl⟩ := ry; exact PySem.EqMixed.ne_bool_str (fin_bl I q (by simp))
    | _ => exact absurd (show false = true from hs) Bool.false_ne_true
  | int i =>
    obtain ⟨t, rfl⟩ := rx
    cases y with
    | non => cases ry; exact PySem.EqNone.ne_int_none (fin_bl I q (by simp))
    | int j => obtain ⟨t', rfl⟩ := ry; exact ne_int (fin_bl I q (congrArg not dec_int))
    | str j => obtain ⟨t', rfl⟩ := ry; exact PySem.EqMixed.ne_int_str (fin_bl I q (by simp))
    | _ => exact absurd (show false = true from hs) Bool.false_ne_true
  | str i =>
    obtain ⟨t, rfl⟩ := rx
    cases y with
    | non => cases ry; exact PySem.EqNone.ne_str_none (fin_bl I q (by simp))
    | bl j => cases ry; exact PySem.EqMixed.ne_str_bool (fin_bl I q (by simp))
    | int j => obtain ⟨t', rfl⟩ := ry; exact PySem.EqMixed.ne_str_int (fin_bl I q (by simp))
    | str j => obtain ⟨t', rfl⟩ := ry; exact ne_str (fin_bl I q (congrArg not dec_str))
    | _ => exact absurd (show false = true from hs) Bool.false_ne_true
  | byt i =>
    obtain ⟨t, rfl⟩ := rx
    cases y with
    | byt j => obtain ⟨t', rfl⟩ := ry; exact PySem.W.ne_bytes (fin_bl I q (congrArg not dec_byt))
    | _ => exact absurd (show false = true from hs) Bool.false_ne_true
  | _ => cases y <;> exact absurd (show false = true from hs) Bool.false_ne_true

theorem op_le : OpR X (compareOp .LtE) (rI0 fun i j => .bl (decide (i ≤ j))) := opB0 fun _ _ _ _ _ _ _ q => le_int q
theorem op_gt : OpR X (compareOp .Gt) (rI0 fun i j => .bl (decide (j < i))) := opB0 fun _ _ _ _ _ _ _ q => gt_int q
theorem op_ge : OpR X (compareOp .GtE) (rI0 fun i j => .bl (decide (j ≤ i))) := opB0 fun _ _ _ _ _ _ _ q => ge_int q
theorem nomark (b : Expr) {op : CmpOp} (h : op ≠ .In := by decide) (h2 : op ≠ .NotIn := by decide) : behindInMarks op b = false := by
  have e1 : (op == CmpOp.In) = false := by cases op <;> first | rfl | exact absurd rfl h
  have e2 : (op == CmpOp.NotIn) = false := by cases op <;> first | rfl | exact absurd rfl h2
  cases b <;> simp [behindInMarks, e1, e2]
theorem pe_cmpR {op : CmpOp} {r : R2} (ho : OpR X (compareOp op) r) (ha : PE X a ta) (hb : PE X b tb) (hm : behindInMarks op b = false) : PE X (.Compare a [op] [b] pos) (tOp r ta tb) := by
  intro pins s σ H Q I h
  exact wpAny_Compare1 (binT ha hb I h fun v u s2 x y H2 I2 rx ry q => ho pins s2 σ H2 x y v u Q I2 rx ry q) hm
def tTest (t : TE) : TT := fun σ H Q => t σ H fun x H' => ∃ k, x = .bl k ∧ Q k H'
theorem pt_cmpR {op : CmpOp} {r : R2} (ho : OpR X (compareOp op) r) (ha : PE X a ta) (hb : PE X b tb) (hm : behindInMarks op b = false) : PT X (.Compare a [op] [b] pos) (tTest (tOp r ta tb)) := by
  intro pins s σ H Q I h
  refine wpAny_isTrue_Compare1 (thn (ha pins s σ H _ I h) fun v s1 ⟨x, H1, I1, r1, q1⟩ => thn (hb pins s1 σ H1 _ I1 q1) fun u s2 ⟨y, H2, I2, r2, q2⟩ =>
    thn (ho pins s2 σ H2 x y v u _ I2 r1 r2 q2) fun c s3 ⟨z, H3, I3, r3, k, e, q3⟩ => ?_) hm
  subst e
  cases r3
  exact wpAny_truthy_bool ⟨H3, I3, q3⟩
def tChain (r r' : R2) (ta tb tc : TE) : TE := fun σ H Q => ta σ H fun x H1 => tb σ H1 fun y H2 => r x y H2 fun z H3 => ∃ k, z = .bl k ∧
  (if k = true then tc σ H3 fun w' H4 => r' y w' H4 Q else Q (.bl false) H3)
theorem pe_chain {op op' : CmpOp} {r r' : R2} (ho : OpR X (compareOp op) r) (ho' : OpR X (compareOp op') r') (ha : PE X a ta) (hb : PE X b tb) (hc : PE X c tc)
    (hm : lastMarks [op, op'] [b, c] = false := by with_unfolding_all rfl) : PE X (.Compare a [op, op'] [b, c] pos) (tChain r r' ta tb tc) := by
  intro pins s σ H Q I h
  refine Compare_chain (thn (ha pins s σ H _ I h) fun v s1 ⟨x, H1, I1, r1, q1⟩ => chain_link (thn (hb pins s1 σ H1 _ I1 q1) fun u s2 ⟨y, H2, I2, r2, q2⟩ =>
    thn (ho pins s2 σ H2 x y v u _ I2 r1 r2 q2) fun d s3 ⟨z, H3, I3, r3, k, e, q3⟩ => ?_)) hm
  subst e
  cases r3
  refine wpAny_truthy_bool ?_
  cases k with
  | false => exact ite_ff ⟨.bl false, H3, I3, rfl, q3⟩
  | true => exact ite_tt (chain_last (thn (hc pins s3 σ H3 _ I3 q3) fun w' s4 ⟨z', H4, I4, r4, q4⟩ => ho' pins s4 σ H4 y z' u w' Q I4 r2 r4 q4))
theorem line63 : (sizeLine : Nat) < 2 ^ 63 := by rw [sizeLine_eq]; decide
theorem vals1 {x : V} {us : List Value} (r : Vals [x] us) : ∃ u, us = [u] ∧ RelV x u := by
  cases r with
  | cons r1 r2 => cases r2; exact ⟨_, rfl, r1⟩
theorem vals2 {x y : V} {us : List Value} (r : Vals [x, y] us) : ∃ u w', us = [u, w'] ∧ RelV x u ∧ RelV y w' := by
  cases r with
  | cons r1 r2 =>
    cases r2 with
    | cons r3 r4 => cases r4; exact ⟨_, _, rfl, r1, r3⟩
theorem call_max2 (hc : X.calm = true) : CallR X (.builtin "max") (fun xs H Q => ∃ i j, xs = [.int i, .int j] ∧ Q (.int (if j > i then j else i)) H) := by
  intro pins s σ H xs us Q I r h
  obtain ⟨i, j, rfl, q⟩ := h
  obtain ⟨u, w', rfl, ⟨t, rfl⟩, ⟨t', rfl⟩⟩ := vals2 r
  refine max_two_ints (I.ok.hd hc) fun h' tk k => ⟨_, H, I.kept k, ?_, q⟩
  by_cases hj : j > i
  · rw [if_pos hj, if_pos hj]; exact ⟨_, rfl⟩
  · rw [if_neg hj, if_neg hj]; exact ⟨_, rfl⟩
end
end L2

namespace L2
open PySem PySem.Spec PyProof.Rows

structure ObjM (h : Heap) (x dx C : Addr) (mA : Str → Option Value) : Prop where
  obj : h.get? x = some (PySem.W.instObj C dx)
  ns : h.Ns1 dx mA
  ne : dx ≠ x

theorem lookIn_ns {h : Heap} {dx : Addr} {mA : Str → Option Value} (n : h.Ns1 dx mA) : ∃ od, h.get? dx = some od ∧ ∀ name, PySem.W.lookIn name od = some (mA name) := by
  obtain ⟨o, es, ep, ho, hd, hk, _, hm⟩ := n
  refine ⟨o, ho, fun name => ?_⟩
  have e := hm name
  unfold nsFind findBy at e
  rw [← Array.find?_toList] at e
  unfold PySem.W.lookIn
  rw [hd]
  dsimp only
  split
  · rename_i y q
    rw [q] at e
    exact congrArg some e
  · rename_i q
    rw [q] at e
    have a : es.toList.any (·.refKey) = false := by
      rw [List.any_eq_false]
      intro y hy
      obtain ⟨z, t, hkey⟩ := hk y (Array.mem_toList_iff.mp hy)
      simp [DictEntry.refKey, hkey]
    have a' : ¬ es.toList.any (·.refKey) = true := by rw [a]; exact Bool.false_ne_true
    rw [if_neg a']
    exact congrArg some e

theorem ObjM.look {h : Heap} {x dx C : Addr} {mA : Str → Option Value} (I : ObjM h x dx C mA) : ∃ od, PySem.W.InstAt h x (PySem.W.instObj C dx) C (some od) ∧ ∀ name, PySem.W.lookIn name od = some (mA name) :=
  let ⟨od, ho, hl⟩ := lookIn_ns I.ns
  ⟨od, ⟨I.obj, rfl, rfl, ho⟩, hl⟩

section
variable {prog : Program} {w : World} {A : Around} {E : Value → Shared → Prop} {s : Shared} {K : PySem.W.Frag} {x dx C f : Addr} {mA : Str → Option Value} {name : Str} {v : Value}

theorem get_map {expr : Bool} {Q : Value → Shared → Prop} (X : K.In s.heap) (I : ObjM s.heap x dx C mA) (hg : PySem.W.plainGet K C name = true) (hh : PySem.W.hasDictIn K C = true)
    (ha : PySem.W.findIn K (.ref C) name = some none) (hv : mA name = some v) (hv' : PySem.W.handedIn v = true) (h : Q v { s with toks := s.toks + 1 }) :
    wpAny (model prog w) A (getAttr (.ref x) name expr) Q E s := by
  obtain ⟨od, J, hl⟩ := I.look
  exact PySem.W.get_value X J (PySem.W.plainGet_of hg).1 (PySem.W.findObj_own hh ha rfl (by rw [hl, hv])) hv' h

theorem get_meth {pl : Sem Bool} {Q : Value × List Value → Shared → Prop} (X : K.In s.heap) (I : ObjM s.heap x dx C mA) (hg : PySem.W.plainGet K C name = true)
    (hf : PySem.W.findIn K (.ref C) name = some (some (.ref f))) (ht : PySem.W.isFn K (.ref f) = true) (hv : mA name = none) (h : Q (.ref f, [.ref x]) s) :
    wpAny (model prog w) A (getMethod (.ref x) name pl) Q E s := by
  obtain ⟨od, J, hl⟩ := I.look
  exact PySem.W.method_fn X J (PySem.W.plainGet_of hg).1 (PySem.W.plainGet_of hg).2 hf (beq_iff_eq.mp ht) (by show (PySem.W.lookIn name od).map (·.isSome) = some false; rw [hl, hv]; rfl) h

theorem set_map {ns : List Str} {Q : Unit → Shared → Prop} (X : K.In s.heap) (I : ObjM s.heap x dx C mA)
    (hs : PySem.W.findIn K (.ref C) "__setattr__" = some (some (.builtin "object.__setattr__"))) (hp : PySem.W.plainOver K C = true) (ht : PySem.W.takerIn K C name = some none) (hh : PySem.W.hasDictIn K C = true)
    (hw : PySem.Within mA ns) (hsz : ns.length ≤ sizeLine)
    (h : ∀ h', ObjM h' x dx C (fun y => if y = name then some v else mA y) → Heap.SameBut dx s.heap h' → Q () { s with heap := h', toks := s.toks + 2 }) :
    wpAny (model prog w) A (setAttr (.ref x) name v) Q E s := by
  obtain ⟨od, J, hl⟩ := I.look
  refine PySem.W.set_plain X J hs (PySem.W.osa_open (s := { s with toks := s.toks + 1 }) (r := none) X J hp ht fun b => ?_)
  obtain ⟨cd, hc, hd'⟩ := PySem.W.any_some hh
  have hx : s.heap.get? x = some ⟨.ref C, some dx, .plain, #[]⟩ := I.obj
  refine wpAny_bind (wpAny_pure (wpAny_bind (wpAny_bind (wpAny_loadPart hx (wpAny_bind (PySem.W.Looks.here (s := { s with toks := s.toks + 1 }) (PySem.W.looks_clsIn X hc) ?_))))))
  rw [hd']
  refine wpAny_pure (a := some dx) (wpAny_bind (wpAny_pure (wpAny_bind ?_)))
  refine wpAny_nsSet1 (s := { s with toks := s.toks + 1 }) I.ns fun h' hn2 hs2 => ?_
  obtain ⟨oD, esD, epD, hoD, hdD, hcD⟩ := hn2.count (PySem.Within.cons name v hw)
  refine wpAny_bind (wpAny_lookBehind hoD (by rw [hdD]; exact pastItsLine_dict (Nat.le_trans hcD (by rw [List.length_cons]; omega))) ?_)
  exact wpAny_pure (h _ ⟨(hs2.2 _ (Ne.symm I.ne)).trans I.obj, hn2, I.ne⟩ hs2)

theorem make_map {R : Result → Shared → Prop} {vs : List Value} {kw : List (Str × Value)} (X : K.In s.heap) (hm : PySem.W.makesIn K C = true)
    (hi : PySem.W.findIn K (.ref C) "__init__" = some (some (.ref f))) (hf : PySem.W.typeIn K (.ref f) = some (.type "function"))
    (h : codeAny (model prog w) (A.under (.builtin "type.__call__" ⟨.ref C :: vs, kw⟩)) (.call (.ref f) ⟨.ref (s.heap.objs.size + 1) :: vs, kw⟩) (PySem.W.InitBack (s.heap.objs.size + 1) R)
      { s with heap := (s.heap.push PySem.W.emptyDict).push (PySem.W.instObj C s.heap.objs.size) }) :
    codeAny (model prog w) A (.call (.ref C) ⟨vs, kw⟩) R s := by
  obtain ⟨hh, g, d, t, os⟩ := s
  exact PySem.W.make_core (PySem.W.makes_of X hm) (PySem.W.looks_findIn X hi) (fun self => PySem.W.bind_fn X self hf) (.inl rfl) h
end

def putF (f : Str) (v : V) : List (Str × V) → List (Str × V)
  | [] => [(f, v)]
  | (g, x) :: r => if g = f then (g, v) :: r else (g, x) :: putF f v r
theorem lookup_putF (f g : Str) (v : V) : ∀ fs : List (Str × V), (putF f v fs).lookup g = if g = f then some v else fs.lookup g
  | [] => by
    show List.lookup g [(f, v)] = _
    by_cases h : g = f
    · have hb : (g == f) = true := beq_iff_eq.mpr h
      simp only [List.lookup, hb, if_pos h]
    · have hb : (g == f) = false := beq_eq_false_iff_ne.mpr h
      simp only [List.lookup, hb, if_neg h]
  | (k, x) :: r => by
    have ih := lookup_putF f g v r
    rw [show putF f v ((k, x) :: r) = (if k = f then (k, v) :: r else (k, x) :: putF f v r) from rfl]
    by_cases hk : k = f
    · rw [if_pos hk]
      by_cases h : g = k
      · have hb : (g == k) = true := beq_iff_eq.mpr h
        simp only [List.lookup, hb, if_pos (h.trans hk)]
      · have hb : (g == k) = false := beq_eq_false_iff_ne.mpr h
        simp only [List.lookup, hb, if_neg (fun e : g = f => h (e.trans hk.symm))]
    · rw [if_neg hk]
      by_cases h : g = k
      · have hb : (g == k) = true := beq_iff_eq.mpr h
        simp only [List.lookup, hb, if_neg (fun e : g = f => hk (h.symm.trans e))]
      · have hb : (g == k) = false := beq_eq_false_iff_ne.mpr h
        simp only [List.lookup, hb]
        exact ih
theorem keys_putF (f : Str) (v : V) : ∀ fs : List (Str × V), f ∈ (putF f v fs).map (·.1) ∧ ∀ g, g ∈ fs.map (·.1) → g ∈ (putF f v fs).map (·.1)
  | [] => ⟨by simp [putF], fun g h => by simp at h⟩
  | (k, x) :: r => by
    obtain ⟨i1, i2⟩ := keys_putF f v r
    rw [show putF f v ((k, x) :: r) = (if k = f then (k, v) :: r else (k, x) :: putF f v r) from rfl]
    by_cases hk : k = f
    · rw [if_pos hk]
      subst hk
      exact ⟨by simp, fun g h => by simpa using h⟩
    · rw [if_neg hk]
      refine ⟨?_, fun g h => ?_⟩
      · rw [List.map_cons]
        exact List.mem_cons_of_mem _ i1
      · rw [List.map_cons] at h ⊢
        rcases List.mem_cons.mp h with e | e
        · exact List.mem_cons.mpr (.inl e)
        · exact List.mem_cons_of_mem _ (i2 g e)
theorem length_putF (f : Str) (v : V) : ∀ fs : List (Str × V), (putF f v fs).length ≤ fs.length + 1
  | [] => by simp [putF]
  | (k, x) :: r => by
    have ih := length_putF f v r
    rw [show putF f v ((k, x) :: r) = (if k = f then (k, v) :: r else (k, x) :: putF f v r) from rfl]
    by_cases hk : k = f
    · rw [if_pos hk, List.length_cons, List.length_cons]; omega
    · rw [if_neg hk, List.length_cons, List.length_cons]; omega

theorem RelO.some_of {v : V} {o : Option Value} (r : RelO (some v) o) : ∃ u, o = some u ∧ RelV v u := by
  cases o with
  | none => exact (show False from r).elim
  | some u => exact ⟨u, rfl, r⟩
theorem RelO.none_of {o : Option Value} (r : RelO none o) : o = none := by
  cases o with
  | none => rfl
  | some u => exact (show False from r).elim
theorem handed_of {v : V} {u : Value} (r : RelV v u) : PySem.W.handedIn u = true := by
  cases v with
  | non => cases (show u = Value.none from r); rfl
  | bl b => cases (show u = Value.bool b from r); rfl
  | int i => obtain ⟨t, e⟩ := (show ∃ t, u = Value.int i t from r); cases e; rfl
  | str x => obtain ⟨t, e⟩ := (show ∃ t, u = Value.str x t from r); cases e; rfl
  | byt b => obtain ⟨t, e⟩ := (show ∃ t, u = Value.bytes b t from r); cases e; rfl
  | flt b => obtain ⟨t, e⟩ := (show ∃ t, u = Value.float b t from r); cases e; rfl
  | ref a => cases (show u = Value.ref a from r); rfl
  | ty n => cases (show u = Value.type n from r); rfl

section
variable {P : Program} {w : World} {H H' : Hp} {h h' : Heap} {a C dx : Addr} {fs fs' : List (Str × V)}
theorem ins_get (hok : HOk P w H h) (e : H a = some (.ins C dx fs)) : ∃ mA, ObjM h a dx C mA ∧ (∀ f, RelO (fs.lookup f) (mA f)) ∧ PySem.Within mA (fs.map (·.1)) ∧ fs.length ≤ 1000 ∧ H dx = some (.own a) := by
  obtain ⟨d, z, ne, ob, mA, n, r, q⟩ := (show ObjOk P w H h a (.ins C dx fs) from hok a _ e)
  exact ⟨mA, ⟨ob, n, ne⟩, r, q, z, d⟩
end

structure Cls (K : PySem.W.Frag) (C : Addr) : Prop where
  pg : PySem.W.plainGet K C Str.empty = true
  hd : PySem.W.hasDictIn K C = true
  po : PySem.W.plainOver K C = true
  sa : PySem.W.findIn K (.ref C) "__setattr__" = some (some (.builtin "object.__setattr__"))
theorem Cls.get {K : PySem.W.Frag} {C : Addr} (c : Cls K C) (f : Str) : PySem.W.plainGet K C f = true := c.pg
def NoAttr (K : PySem.W.Frag) (C : Addr) (f : Str) : Prop := PySem.W.findIn K (.ref C) f = some none
theorem NoAttr.taker {K : PySem.W.Frag} {C : Addr} {f : Str} (n : NoAttr K C f) : PySem.W.takerIn K C f = some none := by
  unfold PySem.W.takerIn
  rw [show PySem.W.findIn K (.ref C) f = some none from n]
  rfl
structure Meth (K : PySem.W.Frag) (C : Addr) (m : Str) (f : Addr) : Prop where
  at_ : PySem.W.findIn K (.ref C) m = some (some (.ref f))
  fn : PySem.W.isFn K (.ref f) = true
  kp : PySem.W.keepIn K (.ref f) = true

section
variable {X : Cx} {pins : List (Addr × Obj)} {σ : St} {H : Hp} {s : Shared} {a C dx : Addr} {fs : List (Str × V)} {f : Str} {v : V} {A : Around} {E : Value → Shared → Prop}

theorem getattr_ok {b : Bool} {Q : Value → Shared → Prop} (I : Inv X pins σ H s) (e : H a = some (.ins C dx fs)) (c : Cls X.K C) (n : NoAttr X.K C f) (l : fs.lookup f = some v)
    (h : ∀ u s', Inv X pins σ H s' → RelV v u → Q u s') : wpAny (model X.prog X.w) A (getAttr (.ref a) f b) Q E s := by
  obtain ⟨mA, O, r, _, _, _⟩ := ins_get I.hok e
  obtain ⟨u, hu, ru⟩ := RelO.some_of (v := v) (o := mA f) (by rw [← l]; exact r f)
  exact get_map I.kIn O (c.get f) c.hd n hu (handed_of ru) (h u _ (I.tok _) ru)

theorem getmeth_ok {m : Str} {g : Addr} {pl : Sem Bool} {Q : Value × List Value → Shared → Prop} (I : Inv X pins σ H s) (e : H a = some (.ins C dx fs)) (c : Cls X.K C) (k : Meth X.K C m g) (l : fs.lookup m = none)
    (h : Q (.ref g, [.ref a]) s) : wpAny (model X.prog X.w) A (getMethod (.ref a) m pl) Q E s := by
  obtain ⟨mA, O, r, _, _, _⟩ := ins_get I.hok e
  have hn : mA m = none := RelO.none_of (by rw [← l]; exact r m)
  exact get_meth I.kIn O (c.get m) k.at_ k.fn hn h

theorem setattr_ok {y : V} {u : Value} {Q : Unit → Shared → Prop} (I : Inv X pins σ H s) (e : H a = some (.ins C dx fs)) (c : Cls X.K C) (n : NoAttr X.K C f) (hl : fs.length < 1000) (ry : RelV y u)
    (h : ∀ s', Inv X pins σ (upd H a (.ins C dx (putF f y fs))) s' → Q () s') : wpAny (model X.prog X.w) A (setAttr (.ref a) f u) Q E s := by
  obtain ⟨mA, O, r, wi, _, ho⟩ := ins_get I.hok e
  have hz : (fs.map (·.1)).length ≤ sizeLine := by rw [List.length_map, sizeLine_eq]; omega
  refine set_map I.kIn O c.sa c.po n.taker c.hd wi hz fun h' O' sb => h _ ?_
  have hd : ∃ o, h'.get? dx = some o := let ⟨o, _, _, e', _⟩ := O'.ns; ⟨o, e'⟩
  refine I.write (x := a) (e := dx) (by rw [e]; exact True.intro) (.inr ho) (fun b q hb z => (sb.2 b hb).trans z) hd ?_
  refine ⟨by rw [upd_ne O.ne]; exact ho, ?_, O.ne, O'.obj, _, O'.ns, fun g => ?_, fun g hg => ?_⟩
  · have := length_putF f y fs; omega
  · show RelO ((putF f y fs).lookup g) (if g = f then some u else mA g)
    rw [lookup_putF]
    by_cases q : g = f
    · rw [if_pos q, if_pos q]; exact ry
    · rw [if_neg q, if_neg q]; exact r g
  · by_cases q : g = f
    · rw [q]; exact (keys_putF f y fs).1
    · refine (keys_putF f y fs).2 g (wi g fun z => hg ?_)
      show (if g = f then some u else mA g) = none
      rw [if_neg q]; exact z

theorem Inv.made (I : Inv X pins σ H s) : Inv X pins σ (upd (upd H s.heap.objs.size (.own (s.heap.objs.size + 1))) (s.heap.objs.size + 1) (.ins C s.heap.objs.size []))
    { s with heap := (s.heap.push PySem.W.emptyDict).push (PySem.W.instObj C s.heap.objs.size) } := by
  have e1 : (s.heap.push PySem.W.emptyDict).get? s.heap.objs.size = some PySem.W.emptyDict := Heap.get?_push_size s.heap rfl
  have e2 : ((s.heap.push PySem.W.emptyDict).push (PySem.W.instObj C s.heap.objs.size)).get? (s.heap.objs.size + 1) = some (PySem.W.instObj C s.heap.objs.size) := by
    have := Heap.get?_push_size (s.heap.push PySem.W.emptyDict) (o := PySem.W.instObj C s.heap.objs.size) rfl
    rwa [Heap.size_push] at this
  have e3 : (s.heap.push PySem.W.emptyDict).Ns s.heap.objs.size (fun _ => none) := ⟨PySem.W.emptyDict, #[], _, e1, rfl, (fun e he => absurd he (by simp)), fun _ => rfl⟩
  have I1 := I.laid (a := s.heap.objs.size) (o := .own (s.heap.objs.size + 1)) (h' := s.heap.push PySem.W.emptyDict) (t' := s.toks) (fun b u q => Heap.get?_push_of_some _ q) (Nat.le_refl _) ⟨_, e1⟩
  refine I1.laid (a := s.heap.objs.size + 1) (o := .ins C s.heap.objs.size []) (t' := s.toks) (fun b u q => Heap.get?_push_of_some _ q) (Nat.le_of_eq (Heap.size_push _ _)) ?_
  have ne : s.heap.objs.size ≠ s.heap.objs.size + 1 := Nat.ne_of_lt (Nat.lt_succ_self _)
  refine ⟨by rw [upd_ne ne, upd_same], Nat.zero_le _, ne, e2, fun _ => none, (Heap.Ns1.of_empty e3).at fun o q => Heap.get?_push_of_some _ q, fun _ => True.intro, fun y hy => absurd rfl hy⟩

theorem attr_of {prog : Program} {w : World} {env : Env} {e : Expr} {f : Str} {pos : Pos} {s : Shared} {Q : Value → Shared → Prop} (hb : attributeBase e f env (eval e env) = eval e env)
    (h : wpAny (model prog w) A (eval e env) (fun o s₁ => wpAny (model prog w) A (getAttr o f true) Q E s₁) E s) : wpAny (model prog w) A (eval (.Attribute e f pos) env) Q E s :=
  Attribute_any_ h (by rw [arm_eval_Attribute, hb])
end

def tFld (K : PySem.W.Frag) (ta : TE) (f : Str) : TE := fun σ H Q => ta σ H fun x H1 => ∃ a C dx fs v, x = .ref a ∧ H1 a = some (.ins C dx fs) ∧ Cls K C ∧ NoAttr K C f ∧ fs.lookup f = some v ∧ Q v H1
def sFld (K : PySem.W.Frag) (ta tv : TE) (f : Str) : TS := fun D σ H => tv σ H fun y H1 => ta σ H1 fun x H2 => ∃ a C dx fs, x = .ref a ∧ H2 a = some (.ins C dx fs) ∧ Cls K C ∧ NoAttr K C f ∧ fs.length < 1000 ∧
  D.nx σ (upd H2 a (.ins C dx (putF f y fs)))
section
variable {X : Cx} {o e value : Expr} {f : Str} {pos pos' tpos : Pos} {ta tv : TE}
theorem pe_fld (he : PE X e ta) (hb : attributeBase e f X.env (eval e X.env) = eval e X.env) : PE X (.Attribute e f pos) (tFld X.K ta f) := by
  intro pins s σ H Q I h
  refine attr_of hb (thn (he pins s σ H _ I h) fun u s1 ⟨x, H1, I1, rx, a, C, dx, fs, v, ex, ea, c, n, l, q⟩ => ?_)
  subst ex
  obtain rfl : u = Value.ref a := rx
  exact getattr_ok I1 ea c n l fun u' s2 I2 ru => ⟨v, H1, I2, ru, q⟩
theorem ps_fld (ha : PE X o ta) (hv : PE X value tv) (hs : swapsWith value (some (.Attribute o f pos')) pos.line X.env = pure false) : PS X (.Assign [.Attribute o f pos'] value pos) (sFld X.K ta tv f) := by
  intro pins s σ H D I h
  refine plainObj_wpAny_Assign_Attribute (thn (hv pins s σ H _ I h) fun u s1 ⟨y, H1, I1, ry, q⟩ => thn (ha pins s1 σ H1 _ I1 q) fun ov s2 ⟨x, H2, I2, rx, a, C, dx, fs, ex, ea, c, n, l, q2⟩ => ?_) hs
  subst ex
  obtain rfl : ov = Value.ref a := rx
  exact setattr_ok I2 ea c n l ry fun s3 I3 => ⟨σ, _, I3, q2⟩
end

section
variable {X : Cx} {pins : List (Addr × Obj)} {σ : St} {H : Hp} {s : Shared} {A : Around} {E : Value → Shared → Prop} {Q : Value → Shared → Prop} {c : Value} {b : Bool}
end
end L2

namespace L2
open PySem PySem.Spec PyProof.Rows

structure Room (k : Nat) (A : Around) : Prop where
  hd : A.handled = none
  dp : A.depth + 3 * k + 5 < recursionLimit
  un : A.units + 16 * k + 200 < cLine
theorem Room.mono {j k : Nat} {A : Around} (r : Room k A) (h : j ≤ k) : Room j A := ⟨r.hd, by have := r.dp; omega, by have := r.un; omega⟩
theorem Room.deeper {k : Nat} {A : Around} (r : Room (k + 1) A) (env : Env) : Room k (A.deeper env) :=
  ⟨r.hd, by have := r.dp; show A.depth + 1 + 3 * k + 5 < _; omega, by have := r.un; show A.units + 3 + 16 * k + 200 < _; omega⟩
theorem make_depth {A : Around} {C : Addr} {us : List Value} {kw : List (Str × Value)} : (A.under (.builtin "type.__call__" ⟨.ref C :: us, kw⟩)).depth = A.depth + 1 := by
  first | rfl | simp [Around.under, Code.weight, Code.isCreation, Code.isGuard, Code.isCaller, Code.frames, Code.isFrame, guardIds]
theorem make_units {A : Around} {C : Addr} {us : List Value} {kw : List (Str × Value)} : (A.under (.builtin "type.__call__" ⟨.ref C :: us, kw⟩)).units = A.units + 1 := by
  first | rfl | simp [Around.under, Code.cUnits, Code.frames, Code.isFrame]
theorem Room.make {k : Nat} {A : Around} (r : Room (k + 1) A) (C : Addr) (us : List Value) (kw : List (Str × Value)) : Room k (A.under (.builtin "type.__call__" ⟨.ref C :: us, kw⟩)) :=
  ⟨r.hd, by have := r.dp; rw [make_depth]; omega, by have := r.un; rw [make_units]; omega⟩
theorem Room.depth {k : Nat} {A : Around} (r : Room k A) : A.depth < recursionLimit := by have := r.dp; omega
theorem Room.units {k : Nat} {A : Around} (r : Room k A) : A.units + 64 < cLine := by have := r.un; omega
def tNil : TA := fun _ H Q => Q [] H
def tCons (ta : TE) (tr : TA) : TA := fun σ H Q => ta σ H fun x H1 => tr σ H1 fun xs H2 => Q (x :: xs) H2
section
variable {X : Cx} {e : Expr} {es : List Expr} {te : TE} {t : TA} {pos : Pos}
theorem pa_nil : PA X [] tNil := fun _ _ _ _ H Q I h => Calls.spliced_nil ⟨[], H, I, .nil, h⟩
theorem pa_cons (ha : PE X e te) (hr : PA X es t) (hs : starEach (e :: es) X.env = (false, eval e X.env) :: starEach es X.env := by rfl) : PA X (e :: es) (tCons te t) := by
  intro pos pins s σ H Q I h
  rw [hs]
  show wpAny _ _ (spliced ((false, eval e X.env) :: backTo pos (starEach es X.env))) _ _ s
  refine Calls.spliced_cons (thn (ha pins s σ H _ I h) fun u s1 ⟨x, H1, I1, r1, q1⟩ => ?_)
  exact thn (hr pos pins s1 σ H1 _ I1 q1) fun us s2 ⟨xs, H2, I2, r2, q2⟩ => ⟨x :: xs, H2, I2, .cons r1 r2, q2⟩

def tTup (t : TA) : TE := fun σ H Q => t σ H fun xs H1 => xs.length ≤ sizeLine ∧ ∀ p, H1 p = none → Q (.ref p) (upd H1 p (.tup xs))
def tLst (t : TA) : TE := fun σ H Q => t σ H fun xs H1 => xs.length ≤ sizeLine ∧ ∀ p, H1 p = none → Q (.ref p) (upd H1 p (.lst xs))
theorem pe_tup {x1} (h : PA X es t) : PE X (.Tuple es x1 pos) (tTup t) := by
  intro pins s σ H Q I hq
  refine wpAny_Tuple_spliced (thn (h pos pins s σ H _ I hq) fun us s1 ⟨xs, H1, I1, r, z, q⟩ => ⟨by rw [← r.length]; exact z, ?_⟩)
  have hf : H1 s1.heap.objs.size = none := I1.hok.fresh (Nat.le_refl _)
  refine ⟨.ref s1.heap.objs.size, upd H1 s1.heap.objs.size (.tup xs), I1.laid (t' := s1.toks) (fun b u e => Heap.get?_push_of_some _ e) (Nat.le_refl _) ?_, rfl, q _ hf⟩
  exact ⟨z, us, r, ⟨_, Heap.get?_push_size _ rfl, rfl, _, rfl⟩⟩
theorem pe_lst (h : PA X es t) : PE X (.List es pos) (tLst t) := by
  intro pins s σ H Q I hq
  refine wpAny_List_spliced (thn (h pos pins s σ H _ I hq) fun us s1 ⟨xs, H1, I1, r, z, q⟩ => ⟨by rw [← r.length]; exact z, ?_⟩)
  have hf : H1 s1.heap.objs.size = none := I1.hok.fresh (Nat.le_refl _)
  refine ⟨.ref s1.heap.objs.size, upd H1 s1.heap.objs.size (.lst xs), I1.laid (t' := s1.toks) (fun b u e => Heap.get?_push_of_some _ e) (Nat.le_refl _) ?_, rfl, q _ hf⟩
  exact ⟨z, us, 0, r, Heap.get?_push_size _ rfl⟩
end

abbrev Sp := List V → Hp → VK → XK → Prop
abbrev CXT := List Env → Hp → Shared → XK → Value → Shared → Prop

structure Env0 (P : Program) (w : World) (K : PySem.W.Frag) (mg : Str → Option Value) (base : Heap) (A : Around) (outer : List Env) (s : Shared) (H : Hp) : Prop where
  frames : A.frames = some outer
  mod : Mod K mg base
  bs : ∀ b o, base.get? b = some o → s.heap.get? b = some o ∧ H b = none
  bsz : base.objs.size ≤ s.heap.objs.size
  funs : s.heap.FunFrames base outer
  frf : ∀ b ∈ frs outer, H b = none
  hok : HOk P w H s.heap
  bare : AllBare s.gens
def CE (outer : List Env) (P : Program) (w : World) (H : Hp) (s : Shared) (Q : VK) (u : Value) (s' : Shared) : Prop :=
  ∃ v H', s'.os = s.os ∧ AllBare s'.gens ∧ Un (frs outer) [] H H' s.heap s'.heap ∧ HOk P w H' s'.heap ∧ RelV v u ∧ Q v H'
def CR (CX : CXT) (outer : List Env) (P : Program) (w : World) (H : Hp) (s : Shared) (Q : VK) (E : XK) (r : Result) (s' : Shared) : Prop :=
  match r with
  | .ok (.ret u) => CE outer P w H s Q u s'
  | .ok _ => False
  | .error e => CX outer H s E e s'
structure FnOk (P : Program) (w : World) (K : PySem.W.Frag) (mg : Str → Option Value) (base : Heap) (CX : CXT) (k : Nat) (f : Addr) (fd : FuncData) (ps : List Str) (sp : Sp) : Prop where
  len : ∀ vs H Q E, sp vs H Q E → vs.length = ps.length
  run : ∀ (A : Around) (outer : List Env) (s : Shared) (H : Hp) (args : Args) (us : List Value) (vs : List V) (Q : VK) (E : XK), Room k A → Env0 P w K mg base A outer s H → BindsTo s fd args (ps.zip us) → Vals vs us → sp vs H Q E →
    codeAny (model P w) A (.call (.ref f) args) (CR CX outer P w H s Q E) s
theorem Env0.make {P : Program} {w : World} {K : PySem.W.Frag} {mg : Str → Option Value} {base : Heap} {A : Around} {outer : List Env} {s : Shared} {H : Hp} (e : Env0 P w K mg base A outer s H) (C : Addr) (us : List Value) (kw : List (Str × Value)) :
    Env0 P w K mg base (A.under (.builtin "type.__call__" ⟨.ref C :: us, kw⟩)) outer s H := ⟨by first | exact e.frames | (simpa [Around.under, Code.envs, Code.isFrame, pushEnvs] using e.frames), e.mod, e.bs, e.bsz, e.funs, e.frf, e.hok, e.bare⟩
section
variable {X : Cx} {pins : List (Addr × Obj)} {σ : St} {H : Hp} {s s' : Shared}
theorem Inv.env0 (I : Inv X pins σ H s) : Env0 X.prog X.w X.K X.mg X.base X.A X.stack s H :=
  ⟨I.ok.frames, I.ok.mod, I.bs, Nat.le_trans I.ok.bsz I.sz, I.stack, I.stkFree, I.hok, I.bare⟩
theorem Inv.after {Q : VK} {u : Value} (I : Inv X pins σ H s) (h : CE X.stack X.prog X.w H s Q u s') : EP X pins σ Q u s' := by
  obtain ⟨v, H', os, bare, un, hok, r, q⟩ := h
  obtain ⟨hh, g, d, t, os'⟩ := s'
  obtain rfl : os' = s.os := os
  exact ⟨v, H', I.call (h' := hh) (g' := g) (d' := d) (t' := t) (ch := []) un hok bare (fun b z => absurd z (by simp)), r, q⟩
end

def tCall (sp : Sp) (dvs : List V) (E : XK) (t : TA) : TE := fun σ H Q => t σ H fun vs H1 => sp (vs ++ dvs) H1 Q E
def tMeth (C : Addr) (m : Str) (sp : Sp) (dvs : List V) (E : XK) (ta : TE) (t : TA) : TE := fun σ H Q => ta σ H fun x H1 => ∃ a dx fs, x = .ref a ∧ H1 a = some (.ins C dx fs) ∧ fs.lookup m = none ∧
  t σ H1 fun vs H2 => sp (x :: (vs ++ dvs)) H2 Q E
def tMake (C : Addr) (sp : Sp) (dvs : List V) (E : XK) (t : TA) : TE := fun σ H Q => t σ H fun vs H1 => ∀ x dx, H1 x = none → H1 dx = none → dx ≠ x →
  sp (.ref x :: (vs ++ dvs)) (upd (upd H1 dx (.own x)) x (.ins C dx [])) (fun v H2 => v = .non ∧ Q (.ref x) H2) E

def Binds (K : PySem.W.Frag) (fd : FuncData) (ps : List Str) (ds : List Value) : Prop :=
  ∀ (s : Shared) (us : List Value), K.In s.heap → (us ++ ds).length = ps.length → BindsTo s fd ⟨us, []⟩ (ps.zip (us ++ ds))
theorem Binds.all {K : PySem.W.Frag} {fd : FuncData} {ps : List Str} (h : ∀ us : List Value, us.length = ps.length → bindArgs fd ⟨us, []⟩ = pure (ps.zip us)) : Binds K fd ps [] := fun s us _ hl => by
  rw [List.append_nil] at hl ⊢
  exact .of_eq (h us hl)

def Passes (CX : CXT) (X : Cx) (E : XK) : Prop := ∀ (pins : List (Addr × Obj)) (σ : St) (H : Hp) (s : Shared) (e : Value) (s' : Shared), Inv X pins σ H s → CX X.stack H s E e s' → X.xe e s'

section
variable {X : Cx} {CX : CXT} {k : Nat} {f C : Addr} {fd : FuncData} {ps : List Str} {sp : Sp} {dvs : List V} {ds : List Value} {E : XK} {x m : Str} {p pos apos : Pos} {e o : Expr} {es : List Expr} {ta : TE} {t : TA}

theorem run_fn {pins : List (Addr × Obj)} {σ : St} {H : Hp} {s : Shared} {Q : VK} {us : List Value} {vs : List V} (F : FnOk X.prog X.w X.K X.mg X.base CX k f fd ps sp) (hr : Room k X.A) (hb : Binds X.K fd ps ds) (hd : Vals dvs ds) (hx : Passes CX X E)
    (I : Inv X pins σ H s) (r : Vals vs us) (h : sp (vs ++ dvs) H Q E) : wpAny (model X.prog X.w) X.A (call (.ref f) us) (EP X pins σ Q) X.xe s := by
  have r2 : Vals (vs ++ dvs) (us ++ ds) := r.append hd
  have hl : (us ++ ds).length = ps.length := by rw [← r2.length]; exact F.len _ _ _ _ h
  refine wpAny_call (codeAny_mono (F.run X.A X.stack s H ⟨us, []⟩ (us ++ ds) (vs ++ dvs) Q E hr I.env0 (hb s us I.kIn hl) r2 h) fun r s' hq => ?_)
  cases r with
  | error e => exact hx pins σ H s e s' I hq
  | ok fl =>
    cases fl with
    | ret u => exact I.after hq
    | next => exact False.elim hq
    | brk => exact False.elim hq
    | cont => exact False.elim hq

theorem pe_call (F : FnOk X.prog X.w X.K X.mg X.base CX k f fd ps sp) (hr : Room k X.A) (hg : Gl X x) (hm : X.mg x = some (.ref f)) (hk : PySem.W.keepIn X.K (.ref f) = true) (hb : Binds X.K fd ps ds) (hd : Vals dvs ds) (hx : Passes CX X E)
    (ha : PA X (e :: es) t) (hdb : (x == ("__debug__" : Str)) = false := by decide) (he : starEach (e :: es) X.env = (false, eval e X.env) :: starEach es X.env := by rfl) (hpl : (backTo pos (starEach es X.env)).any (·.1) = false := by rfl) :
    PE X (.Call (.Name x p) (e :: es) [] pos) (tCall sp dvs E t) := by
  intro pins s σ H Q I h
  refine wpAny_Call_Name_kw (ld_glob I hg hm ?_ hdb)
  refine PySem.W.callWith_K (h₀ := X.base) I.ok.mod.kin hk (thn (ha pos pins s σ H _ I h) fun us s1 ⟨vs, H1, I1, r, q⟩ => ⟨I1.kIn, ?_⟩) he hpl
  exact run_fn F hr hb hd hx I1 r q
theorem pe_meth {pl : Sem Bool} (he : PE X o ta) (c : Cls X.K C) (hm : Meth X.K C m f) (F : FnOk X.prog X.w X.K X.mg X.base CX k f fd ps sp) (hr : Room k X.A) (hb : Binds X.K fd ps ds) (hd : Vals dvs ds) (hx : Passes CX X E) (ha : PA X (e :: es) t)
    (hst : starEach (e :: es) X.env = (false, eval e X.env) :: starEach es X.env := by rfl) (hpl : (backTo pos (starEach es X.env)).any (·.1) = false := by rfl)
    (ht : eval (.Call (.Attribute o m apos) (e :: es) [] pos) X.env = (do
      let ov ← eval o X.env
      standAt apos.atName
      let (f, first) ← holding [ov] (getMethod ov m pl)
      callWith pos f first (backTo pos (starEach (e :: es) X.env)) (backToKw pos (keywordEach [] X.env))) := by rfl) :
    PE X (.Call (.Attribute o m apos) (e :: es) [] pos) (tMeth C m sp dvs E ta t) := by
  intro pins s σ H Q I h
  refine PySem.W.methodCall_KW (pl := pl) (thn (he pins s σ H _ I h) fun u s1 ⟨x, H1, I1, rx, a, dx, fs, ex, ea, l, q⟩ => ?_) ht
  subst ex
  obtain rfl : u = Value.ref a := rx
  refine getmeth_ok I1 ea c hm l ?_
  refine PySem.W.callWith_K (first := [.ref a]) (h₀ := X.base) I.ok.mod.kin hm.kp (thn (ha pos pins s1 σ H1 _ I1 q) fun us s2 ⟨vs, H2, I2, r, q2⟩ => ⟨I2.kIn, ?_⟩) hst hpl
  exact run_fn (us := .ref a :: us) (vs := .ref a :: vs) F hr hb hd hx I2 (.cons rfl r) q2
theorem pe_meth0 {pl : Sem Bool} (he : PE X o ta) (c : Cls X.K C) (hm : Meth X.K C m f) (F : FnOk X.prog X.w X.K X.mg X.base CX k f fd ps sp) (hr : Room k X.A) (hb : Binds X.K fd ps ds) (hd : Vals dvs ds) (hx : Passes CX X E)
    (ht : eval (.Call (.Attribute o m apos) [] [] pos) X.env = (do
      let ov ← eval o X.env
      standAt apos.atName
      let (f, first) ← holding [ov] (getMethod ov m pl)
      callWith pos f first (backTo pos (starEach [] X.env)) (backToKw pos (keywordEach [] X.env))) := by rfl) :
    PE X (.Call (.Attribute o m apos) [] [] pos) (tMeth C m sp dvs E ta tNil) := by
  intro pins s σ H Q I h
  refine PySem.W.methodCall_KW (pl := pl) (thn (he pins s σ H _ I h) fun u s1 ⟨x, H1, I1, rx, a, dx, fs, ex, ea, l, q⟩ => ?_) ht
  subst ex
  obtain rfl : u = Value.ref a := rx
  refine getmeth_ok I1 ea c hm l ?_
  exact PySem.W.callWith_K0 (first := [.ref a]) I1.kIn hm.kp (run_fn (us := [.ref a]) (vs := [.ref a]) F hr hb hd hx I1 (.cons rfl .nil) q)

structure Mk (K : PySem.W.Frag) (C f : Addr) : Prop where
  makes : PySem.W.makesIn K C = true
  init : PySem.W.findIn K (.ref C) "__init__" = some (some (.ref f))
  fn : PySem.W.isFn K (.ref f) = true
  kp : PySem.W.keepIn K (.ref C) = true

theorem run_make {pins : List (Addr × Obj)} {σ : St} {H : Hp} {s : Shared} {Q : VK} {us : List Value} {vs : List V} (M : Mk X.K C f) (F : FnOk X.prog X.w X.K X.mg X.base CX k f fd ps sp) (hr : Room (k + 1) X.A) (hb : Binds X.K fd ps ds) (hd : Vals dvs ds)
    (hx : Passes CX X E) (I : Inv X pins σ H s) (r : Vals vs us)
    (h : ∀ x dx, H x = none → H dx = none → dx ≠ x → sp (.ref x :: (vs ++ dvs)) (upd (upd H dx (.own x)) x (.ins C dx [])) (fun v H2 => v = .non ∧ Q (.ref x) H2) E) :
    wpAny (model X.prog X.w) X.A (call (.ref C) us) (EP X pins σ Q) X.xe s := by
  have hq := h (s.heap.objs.size + 1) s.heap.objs.size (I.hok.fresh (Nat.le_succ _)) (I.hok.fresh (Nat.le_refl _)) (Nat.ne_of_lt (Nat.lt_succ_self _))
  have I2 := Inv.made (C := C) I
  have r2 : Vals (V.ref (s.heap.objs.size + 1) :: (vs ++ dvs)) (Value.ref (s.heap.objs.size + 1) :: (us ++ ds)) := .cons rfl (r.append hd)
  have hl : (Value.ref (s.heap.objs.size + 1) :: us ++ ds).length = ps.length := by
    have e := r2.length
    rw [F.len _ _ _ _ hq] at e
    exact e.symm
  refine wpAny_call (make_map (f := f) I.kIn M.makes M.init (beq_iff_eq.mp M.fn) (codeAny_mono (F.run _ X.stack _ _ ⟨Value.ref (s.heap.objs.size + 1) :: us, []⟩ (Value.ref (s.heap.objs.size + 1) :: (us ++ ds)) _ _ E (hr.make C us [])
    (I2.env0.make C us []) (hb _ (Value.ref (s.heap.objs.size + 1) :: us) I2.kIn hl) r2 hq) fun r s' hq' => ?_))
  cases r with
  | error e => exact hx pins σ _ _ e s' I2 hq'
  | ok fl =>
    cases fl with
    | ret u =>
      obtain ⟨v, H', I3, rv, ev, q3⟩ := I2.after hq'
      subst ev
      exact ⟨rv, ⟨V.ref (s.heap.objs.size + 1), H', I3, rfl, q3⟩⟩
    | next => exact False.elim hq'
    | brk => exact False.elim hq'
    | cont => exact False.elim hq'
theorem pe_make (M : Mk X.K C f) (F : FnOk X.prog X.w X.K X.mg X.base CX k f fd ps sp) (hr : Room (k + 1) X.A) (hg : Gl X x) (hm : X.mg x = some (.ref C)) (hb : Binds X.K fd ps ds) (hd : Vals dvs ds) (hx : Passes CX X E)
    (ha : PA X (e :: es) t) (hdb : (x == ("__debug__" : Str)) = false := by decide) (he : starEach (e :: es) X.env = (false, eval e X.env) :: starEach es X.env := by rfl) (hpl : (backTo pos (starEach es X.env)).any (·.1) = false := by rfl) :
    PE X (.Call (.Name x p) (e :: es) [] pos) (tMake C sp dvs E t) := by
  intro pins s σ H Q I h
  refine wpAny_Call_Name_kw (ld_glob I hg hm ?_ hdb)
  refine PySem.W.callWith_K (h₀ := X.base) I.ok.mod.kin M.kp (thn (ha pos pins s σ H _ I h) fun us s1 ⟨vs, H1, I1, r, q⟩ => ⟨I1.kIn, ?_⟩) he hpl
  exact run_make M F hr hb hd hx I1 r q
end

section
variable {X : Cx} {CX : CXT} {k : Nat} {f C : Addr} {fd : FuncData} {ps ks : List Str} {sp : Sp} {E : XK} {x m : Str} {p pos apos kpos : Pos} {e o : Expr} {es : List Expr} {kws : List Keyword} {te ta : TE} {t tk : TA} {nm : Option Str}
variable {g : List Value → List Value → List Value} {gV : List V → List V → List V}
end

structure FnScope (N P : List Str) (sc : Scope) : Prop where
  kind : sc.kind = .function
  co : sc.isCoroutine = false
  gen : sc.isGenerator = false
  nd : N.Nodup
  pre : N.take P.length = P
  par : ∀ x ∈ P, sc.names.lookup x = some .local ∨ sc.names.lookup x = some .cell
  nofree : ∀ y ∈ sc.names, y.2 ≠ .free

theorem bindL_out {kindOf : Str → Option NameKind} {x : Str} : ∀ {binds : List (Str × Value)} {m : Str → Option Value}, (∀ v, (x, v) ∉ binds) → bindL kindOf binds m x = m x
  | [], _, _ => rfl
  | (n, v) :: r, m, h => by
    unfold bindL
    rw [bindL_out fun w hw => h w (List.mem_cons_of_mem _ hw)]
    split
    · have : x ≠ n := by rintro rfl; exact h v List.mem_cons_self
      simp [this]
    · rfl
theorem bindC_out {kindOf : Str → Option NameKind} {x : Str} : ∀ {binds : List (Str × Value)} {m : Str → Option Value}, (∀ v, (x, v) ∉ binds) → bindC kindOf binds m x = m x
  | [], _, _ => rfl
  | (n, v) :: r, m, h => by
    unfold bindC
    rw [bindC_out fun w hw => h w (List.mem_cons_of_mem _ hw)]
    split
    · rfl
    · have : x ≠ n := by rintro rfl; exact h v List.mem_cons_self
      simp [this]
theorem bindL_get {kindOf : Str → Option NameKind} {x : Str} {v : Value} : ∀ {P : List Str} {vs : List Value} {i : Nat} {m : Str → Option Value}, P.Nodup → P[i]? = some x → vs[i]? = some v → kindOf x = some .local →
    bindL kindOf (P.zip vs) m x = some v
  | [], _, _, _, _, h, _, _ => by simp at h
  | _ :: _, [], _, _, _, _, h, _ => by simp at h
  | p :: P, w :: vs, 0, m, nd, h1, h2, hk => by
    simp at h1 h2; subst h1; subst h2
    show bindL kindOf ((p, w) :: P.zip vs) m p = _
    unfold bindL
    rw [bindL_out fun v hv => (List.nodup_cons.mp nd).1 (List.of_mem_zip hv).1, if_pos hk]
    simp
  | p :: P, w :: vs, i + 1, m, nd, h1, h2, hk => by
    show bindL kindOf ((p, w) :: P.zip vs) m x = _
    unfold bindL
    exact bindL_get (i := i) (List.nodup_cons.mp nd).2 (by simpa using h1) (by simpa using h2) hk
theorem bindC_get {kindOf : Str → Option NameKind} {x : Str} {v : Value} : ∀ {P : List Str} {vs : List Value} {i : Nat} {m : Str → Option Value}, P.Nodup → P[i]? = some x → vs[i]? = some v → kindOf x ≠ some .local →
    bindC kindOf (P.zip vs) m x = some v
  | [], _, _, _, _, h, _, _ => by simp at h
  | _ :: _, [], _, _, _, _, h, _ => by simp at h
  | p :: P, w :: vs, 0, m, nd, h1, h2, hk => by
    simp at h1 h2; subst h1; subst h2
    show bindC kindOf ((p, w) :: P.zip vs) m p = _
    unfold bindC
    rw [bindC_out fun v hv => (List.nodup_cons.mp nd).1 (List.of_mem_zip hv).1, if_neg hk]
    simp
  | p :: P, w :: vs, i + 1, m, nd, h1, h2, hk => by
    show bindC kindOf ((p, w) :: P.zip vs) m x = _
    unfold bindC
    exact bindC_get (i := i) (List.nodup_cons.mp nd).2 (by simpa using h1) (by simpa using h2) hk

def start (N : List Str) (vs : List V) : St := vs.map some ++ List.replicate (N.length - vs.length) none

def cxOf (CX : CXT) (P : Program) (w : World) (K : PySem.W.Frag) (mg : Str → Option Value) (base : Heap) (N : List Str) (qual : Str) (scope : Scope) (f : Addr) (cd : Value) (A : Around) (outer : List Env) (s : Shared) (H : Hp) (E : XK) : Cx where
  prog := P
  w := w
  K := K
  mg := mg
  base := base
  A := A.deeper (envOfC qual scope s.heap.objs.size f cd)
  N := N
  s_0 := s
  H_0 := H
  env := envOfC qual scope s.heap.objs.size f cd
  outer := outer
  stack := envOfC qual scope s.heap.objs.size f cd :: outer
  ex := []
  calm := true
  fn := fun _ => true
  pn := []
  xe := fun e s' => wpAny (model P w) (A.deeper (envOfC qual scope s.heap.objs.size f cd)) (leaving (envOfC qual scope s.heap.objs.size f cd) e) (fun _ s'' => CX outer H s E e s'') (fun e' s'' => CX outer H s E e' s'') s'

theorem cell_has {sc : Scope} {n : Nat} {x : Str} (h : sc.names.lookup x = some .cell) : ∃ c, (cellsFrom n sc.names []).lookup x = some c := by
  have q := PySem.W.cellsFrom_some sc.names n [] (.inl h)
  exact Option.isSome_iff_exists.mp q

theorem inv_start {CX : CXT} {P : Program} {w : World} {K : PySem.W.Frag} {mg : Str → Option Value} {base : Heap} {N ps : List Str} {qual : Str} {scope : Scope} {f : Addr} {cd : Value} {A : Around} {outer : List Env} {s s1 : Shared} {H : Hp} {E : XK} {us : List Value} {vs : List V}
    (S : FnScope N ps scope) (hd : A.handled = none) (e0 : Env0 P w K mg base A outer s H) (hl : vs.length = ps.length) (r : Vals vs us)
    (x : InCallC s s.heap.objs.size (bindL (envOfC qual scope s.heap.objs.size f cd).kindOf (ps.zip us) fun _ => none) (cellsFrom (s.heap.objs.size + 1) scope.names []) (bindC (envOfC qual scope s.heap.objs.size f cd).kindOf (ps.zip us) fun _ => none) s1) :
    Inv (cxOf CX P w K mg base N qual scope f cd A outer s H E) [] (start N vs) H s1 := by
  have hpl : ps.length ≤ N.length := by have := congrArg List.length S.pre; rw [List.length_take] at this; omega
  obtain ⟨h1, tk, rfl, hk⟩ := x.done
  have noA : ∀ b : Addr, b ∉ (cxOf CX P w K mg base N qual scope f cd A outer s H E).ex := fun b z => absurd (show b ∈ ([] : List Addr) from z) (by simp)
  refine ⟨⟨e0.mod, S.kind, rfl, rfl, Nat.le_refl _, fun y z c h1 h2 => ?_, fun y hy => ?_, fun y c _ h => ?_, fun _ => hd, Around.frames_deeper e0.frames, .inr ⟨rfl, rfl⟩, fun b z => absurd z (noA b), e0.bs, e0.bsz, fun b _ _ => noA b, fun b z => absurd z (noA b), e0.funs, e0.frf⟩,
    rfl, e0.bare, Un.kept hk, ⟨_, x.toInCall.ns, fun i y v h1 h2 h3 => ?_⟩, fun y c h => ⟨_, x.cell y c h⟩, e0.hok.fresh (Nat.le_refl _), fun y c h => ?_, fun p hp => absurd (show p ∈ ([] : List (Addr × Obj)) from hp) (by simp), e0.hok.kept hk, ?_⟩
  · exact name_of_addr x.apart (PySem.mem_of_lookup h1) (PySem.mem_of_lookup h2)
  · have hy : scope.names.lookup y = some .cell ∨ scope.names.lookup y = some .free := hy
    rcases hy with hy | hy
    · exact cell_has hy
    · exact absurd rfl (S.nofree _ (PySem.mem_of_lookup hy))
  · exact Nat.le_of_lt (x.above y c (PySem.mem_of_lookup h))
  · have hi : i < vs.length := by
      unfold start at h2
      by_cases hi : i < vs.length
      · exact hi
      · rw [List.getElem?_append_right (by simpa using hi)] at h2
        rw [List.getElem?_replicate] at h2
        split at h2 <;> cases h2
    have ha : vs[i]? = some v := by
      unfold start at h2
      rw [List.getElem?_append_left (by simpa using hi), List.getElem?_map] at h2
      cases e : vs[i]? with
      | none => rw [e] at h2; cases h2
      | some a => rw [e] at h2; cases h2; rfl
    obtain ⟨u, hu, rv⟩ := r.get ha
    have hp : ps[i]? = some y := by
      rw [← S.pre, List.getElem?_take_of_lt (by omega)]; exact h1
    have ndP : ps.Nodup := by rw [← S.pre]; exact S.nd.sublist (List.take_sublist _ _)
    refine ⟨u, rv, ?_⟩
    rcases S.par y (List.mem_of_getElem? hp) with k | k
    · exact .inl ⟨k, bindL_get ndP hp hu k⟩
    · obtain ⟨c, e⟩ := cell_has (n := s.heap.objs.size + 1) k
      refine .inr ⟨.inl k, c, e, ?_⟩
      have q := x.cell y c e
      rw [bindC_get ndP hp hu (by show scope.names.lookup y ≠ _; rw [k]; decide)] at q
      exact q
  · exact e0.hok.fresh (Nat.le_of_lt (x.above y c (PySem.mem_of_lookup h)))
  · unfold start
    show _ = N.length
    rw [List.length_append, List.length_map, List.length_replicate]
    omega

theorem fn_of {CX : CXT} {P : Program} {w : World} {K : PySem.W.Frag} {mg : Str → Option Value} {base : Heap} {k : Nat} {f : Addr} {name qual : Str} {params : Arguments} {body : List Stmt} {scope : Scope} {dV kV doc pm cdv ct oc : Value} {an od : Option Addr}
    {osl : Array (Option Value)} {N ps : List Str} {sp : Sp} (lk : K.lookup f = some ⟨oc, od, .func (PySem.W.fnOf name qual params body scope dV kV doc pm an cdv ct), osl⟩) (hcd : PySem.W.codeIn K cdv qual = true) (S : FnScope N ps scope)
    (len : ∀ vs H Q E, sp vs H Q E → vs.length = ps.length)
    (hbody : ∀ (A : Around) (outer : List Env) (s : Shared) (H : Hp) (vs : List V) (Q : VK) (E : XK), Room k (A.deeper (envOfC qual scope s.heap.objs.size f cdv)) → sp vs H Q E →
      ∃ t, PSs (cxOf CX P w K mg base N qual scope f cdv A outer s H E) body t ∧ t { nx := fun _ H' => Q .non H', rt := Q } (start N vs) H) :
    FnOk P w K mg base CX (k + 1) f (PySem.W.fnOf name qual params body scope dV kV doc pm an cdv ct) ps sp := by
  refine ⟨len, fun A outer s H args us vs Q E hr e0 hb r hsp => ?_⟩
  have hl := len _ _ _ _ hsp
  have KX : K.In s.heap := e0.mod.kin.keeps fun b o e => (e0.bs b o e).1
  have lim : s.heap.NoLimit := e0.mod.nolimit.keeps fun b o e => (e0.bs b o e).1
  have hkind : ∀ y ∈ ps.zip us, scope.names.lookup y.1 = some .local ∨ (scope.names.lookup y.1 = some .cell ∧ ((cellsFrom (s.heap.objs.size + 1) scope.names []).lookup y.1).isSome = true) := fun ⟨n, v⟩ hy => by
    rcases S.par n (List.of_mem_zip hy).1 with q | q
    · exact .inl q
    · exact .inr ⟨q, PySem.W.cellsFrom_some _ _ _ (.inl q)⟩
  refine codeAny_call_function hr.depth (KX _ _ lk) rfl S.co S.gen rfl (PySem.W.codeRec_of KX hcd) (hb _ _ _ _ ?_)
  refine wpAny_newFunctionEnv_cells S.kind hkind fun env he s1 x => ?_
  subst he
  refine ⟨lim.keeps x.toInCall.keep, codeAny_func ?_⟩
  obtain ⟨t, ht, hq⟩ := hbody A outer s H vs Q E (hr.deeper _) hsp
  have I : Inv (cxOf CX P w K mg base N qual scope f cdv A outer s H E) [] (start N vs) H s1 := inv_start S hr.hd e0 hl r x
  refine wpAny_mono (ht [] s1 (start N vs) H _ I hq) (fun fl s' hs => ?_) fun e s' hs => hs
  have fin : ∀ {σ' : St} {H' : Hp} {v : V} {u : Value}, Inv (cxOf CX P w K mg base N qual scope f cdv A outer s H E) [] σ' H' s' → RelV v u → Q v H' → CE outer P w H s Q u s' :=
    fun {σ' H' v u} J rv q => ⟨v, H', J.os, J.bare, J.base, J.hok, rv, q⟩
  cases fl with
  | ret u =>
    obtain ⟨v, σ', H', J, rv, q⟩ := hs
    exact fin J rv q
  | next =>
    obtain ⟨σ', H', J, q⟩ := hs
    exact fin (v := V.non) (u := Value.none) J rfl q
  | brk =>
    obtain ⟨_, _, _, q⟩ := hs
    exact False.elim q
  | cont =>
    obtain ⟨_, _, _, q⟩ := hs
    exact False.elim q
end L2

namespace L2
open PySem PySem.Spec PyProof.Rows
section
variable {X : Cx} {x : Str} {p pos : Pos} {e : Expr} {es : List Expr} {t : TA} {id T : String} {r : List V → Hp → VK → Prop}

def tCB (r : List V → Hp → VK → Prop) (t : TA) : TE := fun σ H Q => t σ H fun vs H1 => r vs H1 Q
theorem pe_callB (hc : CallR X (.builtin id) r) (hg : Gl X x) (hm : X.mg x = none) (hv : bootBuiltins x = some (.builtin id)) (ha : PA X (e :: es) t) (hn : x ≠ "__name__" := by decide) (hdb : (x == ("__debug__" : Str)) = false := by decide)
    (he : starEach (e :: es) X.env = (false, eval e X.env) :: starEach es X.env := by rfl) (hpl : (backTo pos (starEach es X.env)).any (·.1) = false := by rfl) : PE X (.Call (.Name x p) (e :: es) [] pos) (tCB r t) := by
  intro pins s σ H Q I h
  refine wpAny_Call_Name_kw (ld_blt I hg hm hv ?_ hn hdb)
  exact PyProof.Rows.callWith_builtin1 (thn (ha pos pins s σ H _ I h) fun us s1 ⟨vs, H1, I1, r1, q1⟩ => hc pins s1 σ H1 vs us Q I1 r1 q1) he hpl
theorem pe_callTy (hc : CallR X (.type T) r) (hg : Gl X x) (hm : X.mg x = none) (hv : bootBuiltins x = some (.type T)) (ha : PA X (e :: es) t) (hn : x ≠ "__name__" := by decide) (hdb : (x == ("__debug__" : Str)) = false := by decide)
    (he : starEach (e :: es) X.env = (false, eval e X.env) :: starEach es X.env := by rfl) (hpl : (backTo pos (starEach es X.env)).any (·.1) = false := by rfl) : PE X (.Call (.Name x p) (e :: es) [] pos) (tCB r t) := by
  intro pins s σ H Q I h
  refine wpAny_Call_Name_kw (ld_blt I hg hm hv ?_ hn hdb)
  exact PyProof.Rows.callWith_type1 (thn (ha pos pins s σ H _ I h) fun us s1 ⟨vs, H1, I1, r1, q1⟩ => hc pins s1 σ H1 vs us Q I1 r1 q1) he hpl
end
end L2

namespace HT
open PySem PyProof.Rows

section
open PySem.SeqAt
open PySem.AutoSeq1 (wpAny_loadPart')
open PySem.MeetsSeq PySem.MeetsSeq2 PySem.MeetsSeq3

end

section
variable {prog : Program} {w : World} {A : Around} {E : Value → Shared → Prop} {s : Shared}

def sIx (n d : Nat) : Option Int → Nat
  | none => d
  | some v => if v < 0 then (v + (n : Int)).toNat else min v.toNat n
theorem sIx_none (n d : Nat) : sIx n d none = d := rfl
theorem sIx_nat (n d k : Nat) : sIx n d (some (k : Int)) = min k n := by
  show (if (k : Int) < 0 then ((k : Int) + (n : Int)).toNat else min (k : Int).toNat n) = min k n
  rw [if_neg (by omega), Int.toNat_natCast]
end
end HT

namespace L2
open PySem PySem.Spec PyProof.Rows

abbrev TO := St → Hp → (Option Int → Hp → Prop) → Prop
def PO (X : Cx) (e : Option Expr) (t : TO) : Prop :=
  ∀ (pins : List (Addr × Obj)) (s : Shared) (σ : St) (H : Hp) (Q : Option Int → Hp → Prop), Inv X pins σ H s → t σ H Q →
    wpAny (model X.prog X.w) X.A (evalPart e X.env) (fun u s' => ∃ o H', Inv X pins σ H' s' ∧ IsPart u o ∧ Q o H') X.xe s
def tNoPart : TO := fun _ H Q => Q none H
def tPart (t : TE) : TO := fun σ H Q => t σ H fun x H1 => ∃ i, x = .int i ∧ Q (some i) H1

section
variable {X : Cx} {e : Expr} {te : TE} {lo hi : Option Expr} {tl th : TO} {pos p2 : Pos}

theorem po_none : PO X none tNoPart := by
  intro pins s σ H Q I h
  rw [evalPart_none]
  exact wpAny_pure ⟨none, H, I, .none, h⟩
theorem po_some (h : PE X e te) : PO X (some e) (tPart te) := by
  intro pins s σ H Q I hw
  rw [evalPart_some]
  refine thn (h pins s σ H _ I hw) fun u s1 ⟨x, H1, I1, r1, q1⟩ => ?_
  obtain ⟨i, rfl, q⟩ := q1
  obtain ⟨t, rfl⟩ := r1
  exact ⟨some i, H1, I1, .int i t, q⟩

def SlR (X : Cx) (r : V → Option Int → Option Int → Hp → VK → Prop) : Prop :=
  ∀ (pins : List (Addr × Obj)) (s : Shared) (σ : St) (H : Hp) (x : V) (v vl vu : Value) (lo hi : Option Int) (sl : Addr) (Q : VK), Inv X pins σ H s → RelV x v → s.heap.IsSliceOf sl vl vu .none → IsPart vl lo → IsPart vu hi → r x lo hi H Q →
    ∃ T id, typeLookup (.type T) "__getitem__" = pure (some (.builtin id)) ∧ s.TypeIs v T ∧ wpAny (model X.prog X.w) X.A (getItem v (.ref sl)) (EP X pins σ Q) X.xe s
def tSl (r : V → Option Int → Option Int → Hp → VK → Prop) (te : TE) (tl th : TO) : TE := fun σ H Q => te σ H fun x H1 => tl σ H1 fun l H2 => th σ H2 fun u H3 => r x l u H3 Q
theorem pe_slice {r : V → Option Int → Option Int → Hp → VK → Prop} (hr : SlR X r) (he : PE X e te) (hl : PO X lo tl) (hu : PO X hi th) : PE X (.Subscript e (.Slice lo hi none p2) pos) (tSl r te tl th) := by
  intro pins s σ H Q I h
  refine Subscript_ (thn (he pins s σ H _ I h) fun v s1 ⟨x, H1, I1, r1, q1⟩ => ?_)
  refine wpAny_Slice (thn (hl pins s1 σ H1 _ I1 q1) fun vl s2 ⟨l, H2, I2, pl, q2⟩ => thn (hu pins s2 σ H2 _ I2 q2) fun vu s3 ⟨u, H3, I3, pu, q3⟩ => ?_)
  rw [evalPart_none]
  refine wpAny_pure ?_
  have I4 : Inv X pins σ H3 { s3 with heap := s3.heap.push { cls := .type "slice", data := .fields #[vl, vu, .none] } } := I3.kept (t' := s3.toks) fun b ob q => Heap.get?_push_of_some _ q
  obtain ⟨T, id, hT, ht, hg⟩ := hr pins { s3 with heap := s3.heap.push { cls := .type "slice", data := .fields #[vl, vu, .none] } } σ H3 x v vl vu l u s3.heap.objs.size Q I4 r1 (Heap.IsSliceOf.new ..) pl pu q3
  show wpAny (model X.prog X.w) X.A (subscriptTail e (.Slice lo hi none p2) v (.ref s3.heap.objs.size)) (EP X pins σ Q) X.xe { s3 with heap := s3.heap.push { cls := .type "slice", data := .fields #[vl, vu, .none] } }
  exact tail_any (ops := [.ref s3.heap.objs.size, v]) ht hT hg (by with_unfolding_all rfl)

def cutV (xs : List V) (lo hi : Option Int) : List V := (xs.drop (HT.sIx xs.length 0 lo)).take (HT.sIx xs.length xs.length hi - HT.sIx xs.length 0 lo)
theorem cutV_length (xs : List V) (lo hi : Option Int) : (cutV xs lo hi).length ≤ xs.length := by
  unfold cutV
  rw [List.length_take, List.length_drop]
  omega
end
end L2

namespace L2
open PySem PySem.Spec PyProof.Rows

def ixN (n : Nat) (i : Int) : Option Nat := if 0 ≤ i then (if i < n then some i.toNat else none) else if -(n : Int) ≤ i then some (i + n).toNat else none
def atI {α : Type} (xs : List α) (i : Int) : Option α := (ixN xs.length i).bind fun j => xs[j]?
theorem ixN_seq {n : Nat} {i : Int} {j : Nat} (h : ixN n i = some j) : seqIndex? i n = some j ∧ j < n ∧ -(n : Int) ≤ i ∧ i < n := by
  unfold ixN at h
  by_cases h0 : 0 ≤ i
  · rw [if_pos h0] at h
    by_cases h1 : i < n
    · rw [if_pos h1] at h
      have e : i.toNat = j := Option.some.inj h
      exact ⟨by rw [seqIndex_of h0 h1, e], by omega, by omega, h1⟩
    · rw [if_neg h1] at h; cases h
  · rw [if_neg h0] at h
    by_cases h1 : -(n : Int) ≤ i
    · rw [if_pos h1] at h
      have e : (i + n).toNat = j := Option.some.inj h
      exact ⟨by rw [seqIndex_neg (by omega) h1, e], by omega, h1, by omega⟩
    · rw [if_neg h1] at h; cases h
theorem atI_get {α : Type} {xs : List α} {i : Int} {v : α} (h : atI xs i = some v) : ∃ j, seqIndex? i xs.length = some j ∧ xs[j]? = some v ∧ j < xs.length ∧ -(xs.length : Int) ≤ i ∧ i < xs.length := by
  unfold atI at h
  cases e : ixN xs.length i with
  | none => rw [e] at h; cases h
  | some j =>
    rw [e] at h
    obtain ⟨h1, h2, h3, h4⟩ := ixN_seq e
    exact ⟨j, h1, h, h2, h3, h4⟩
theorem atI_nat {α : Type} {xs : List α} {j : Nat} {v : α} (h : xs[j]? = some v) : atI xs (j : Int) = some v := by
  have hj : j < xs.length := (List.getElem?_eq_some_iff.mp h).1
  have e : ixN xs.length (j : Int) = some j := by
    unfold ixN
    rw [if_pos (by omega), if_pos (by omega)]; simp
  unfold atI; rw [e]; exact h
theorem atI_last {α : Type} (xs : List α) (v : α) : atI (xs ++ [v]) (-1) = some v := by
  have hl : (xs ++ [v]).length = xs.length + 1 := by simp
  have e : ixN (xs ++ [v]).length (-1) = some xs.length := by
    unfold ixN
    rw [hl, if_neg (by decide), if_pos (by omega)]
    congr 1
    omega
  unfold atI
  rw [e]
  show (xs ++ [v])[xs.length]? = some v
  simp

def PlainIx (b : Expr) : Prop := ∀ o i, subscripted b false o i = operate [o, i] (getItem o i)
def IxR (X : Cx) (r : R2) : Prop :=
  ∀ (value slice : Expr) (pins : List (Addr × Obj)) (s : Shared) (σ : St) (H : Hp) (x y : V) (v u : Value) (Q : VK), Inv X pins σ H s → RelV x v → RelV y u → r x y H Q →
    subscripted slice false v u = operate [v, u] (getItem v u) → wpAny (model X.prog X.w) X.A (subscriptTail value slice v u) (EP X pins σ Q) X.xe s
def MtR (X : Cx) (id : String) (r : V → List V → Hp → VK → Prop) : Prop :=
  ∀ (pins : List (Addr × Obj)) (s : Shared) (σ : St) (H : Hp) (x : V) (xs : List V) (v : Value) (us : List Value) (Q : VK), Inv X pins σ H s → RelV x v → Vals xs us → r x xs H Q →
    wpAny (model X.prog X.w) X.A (call (.builtin id) (v :: us)) (EP X pins σ Q) X.xe s
section
variable {X : Cx} {a b : Expr} {ta tb : TE} {pos : Pos}
theorem pe_ix {r : R2} (hr : IxR X r) (ha : PE X a ta) (hb : PE X b tb) (hs : PlainIx b) : PE X (.Subscript a b pos) (tOp r ta tb) := by
  intro pins s σ H Q I h
  exact Subscript_ (binT ha hb I h fun v u s2 x y H2 I2 rx ry q => hr a b pins s2 σ H2 x y v u Q I2 rx ry q (hs _ _))

def rIxL (K : PySem.W.Frag) : R2 := fun x y H Q => ∃ p xs i v, x = .ref p ∧ y = .int i ∧ SqL K H p xs ∧ atI xs i = some v ∧ Q v H
def rIxT (K : PySem.W.Frag) : R2 := fun x y H Q => ∃ p xs i v, x = .ref p ∧ y = .int i ∧ SqT K H p xs ∧ atI xs i = some v ∧ Q v H
theorem ix_list : IxR X (rIxL X.K) := by
  intro value slice pins s σ H x y v u Q I rx ry h hs
  obtain ⟨p, xs, i, z, rfl, rfl, hq, he, q⟩ := h
  cases rx
  obtain ⟨t, rfl⟩ := ry
  obtain ⟨its, r, pl, hz⟩ := I.list hq
  obtain ⟨j, h1, h2, h3, h4, h5⟩ := atI_get he
  obtain ⟨w, ew, rw'⟩ := r.get h2
  have hl := r.length
  have hn := line63
  have fin : EP X pins σ Q w s := ⟨z, H, I, rw', q⟩
  by_cases h0 : 0 ≤ i
  · have hj : i.toNat = j := by
      rw [seqIndex_of h0 h5] at h1
      exact Option.some.inj h1
    exact item_listR pl.isList h0 (by omega) (by rw [hj]; simpa using ew) fin hs
  · have hj : (i + (its.toArray.size : Int)).toNat = j := by
      rw [seqIndex_neg (by omega) h4] at h1
      rw [List.size_toArray, ← hl]
      exact Option.some.inj h1
    exact subscriptTail_builtinR (x := w) pl.isList.typeIs slot_list_getitem.lookup
      (wpAny_getItem_list_neg (Q := fun r s' => r = w ∧ EP X pins σ Q r s') pl.isList (by omega) (by rw [List.size_toArray] <;> omega) (by omega) (by rw [hj]; simpa using ew) ⟨rfl, fin⟩) hs
theorem ix_tup : IxR X (rIxT X.K) := by
  intro value slice pins s σ H x y v u Q I rx ry h hs
  obtain ⟨p, xs, i, z, rfl, rfl, hq, he, q⟩ := h
  cases rx
  obtain ⟨t, rfl⟩ := ry
  obtain ⟨its, r, pl, hz⟩ := I.tuple hq
  obtain ⟨j, h1, h2, h3, h4, h5⟩ := atI_get he
  obtain ⟨w, ew, rw'⟩ := r.get h2
  have hl := r.length
  have hn := line63
  have fin : EP X pins σ Q w s := ⟨z, H, I, rw', q⟩
  exact subscriptTail_builtinR (x := w) pl.typeIs slot_tuple_getitem.lookup
    (getItem_tuple (j := j) (Q := fun r s' => r = w ∧ EP X pins σ Q r s') pl (by omega) (by omega) (by rw [List.size_toArray, ← hl]; exact h1) (by simpa using ew) ⟨rfl, fin⟩) hs
theorem mapSeq_set (its : List Value) (n j : Nat) (u : Value) : Obj.mapSeq (·.setIfInBounds j u) { cls := .type "list", data := .seq its.toArray n } = { cls := .type "list", data := .seq (its.set j u).toArray n } := by
  simp [Obj.mapSeq]
theorem Inv.lst {pins : List (Addr × Obj)} {σ : St} {H : Hp} {s : Shared} {p : Addr} {xs : List V} (I : Inv X pins σ H s) (h : H p = some (.lst xs)) :
    ∃ (its : List Value) (n : Nat), Vals xs its ∧ s.heap.get? p = some { cls := .type "list", data := .seq its.toArray n } ∧ xs.length ≤ sizeLine := by
  obtain ⟨z, its, n, r, e⟩ := I.hok p _ h
  exact ⟨its, n, r, e, z⟩
theorem Inv.lstUpd {pins : List (Addr × Obj)} {σ : St} {H : Hp} {s : Shared} {p : Addr} {xs ys : List V} {its its' : List Value} {n n' : Nat} {f : Obj → Obj} (I : Inv X pins σ H s) (h : H p = some (.lst xs))
    (ho : s.heap.get? p = some { cls := .type "list", data := .seq its.toArray n }) (hf : f { cls := .type "list", data := .seq its.toArray n } = { cls := .type "list", data := .seq its'.toArray n' }) (r : Vals ys its') (hz : ys.length ≤ sizeLine) (t : Nat) :
    Inv X pins σ (upd H p (.lst ys)) { s with heap := s.heap.update p f, toks := t } := by
  have e : (s.heap.update p f).get? p = some { cls := .type "list", data := .seq its'.toArray n' } := by
    rw [Heap.get?_update_self f ho (by rw [hf] <;> rfl), hf]
  refine I.write (x := p) (e := p) (by rw [h]; trivial) (.inl rfl) (fun b u hb q => (Heap.get?_update_other _ _ (Ne.symm hb)).trans q) ⟨_, e⟩ ?_
  exact ⟨hz, its', n', r, e⟩
def rSetL : V → V → V → Hp → (Hp → Prop) → Prop := fun o i v H Q => ∃ p xs k j, o = .ref p ∧ i = .int k ∧ H p = some (.lst xs) ∧ ixN xs.length k = some j ∧ Q (upd H p (.lst (xs.set j v)))
theorem set_list : PSet X rSetL := by
  intro pins s σ H o i v ov iv u Q I ro ri rv h
  obtain ⟨p, xs, k, j, rfl, rfl, hp, hj, q⟩ := h
  cases ro
  obtain ⟨t, rfl⟩ := ri
  obtain ⟨its, n, r, ho, hz⟩ := I.lst hp
  obtain ⟨h1, h2, h3, h4⟩ := ixN_seq hj
  have hl := r.length
  have hn := line63
  have I' : Inv X pins σ (upd H p (.lst (xs.set j v))) { s with heap := s.heap.update p (Obj.mapSeq (·.setIfInBounds j u)) } :=
    I.lstUpd hp ho (mapSeq_set its n j u) (r.set rv j) (by rw [List.length_set]; exact hz) s.toks
  by_cases h0 : 0 ≤ k
  · have hk : k.toNat = j := by
      rw [seqIndex_of h0 h4] at h1
      exact Option.some.inj h1
    exact PySem.W.ki_setAt ho h0 (by omega) (by rw [List.size_toArray, ← hl]; exact h4) (by rw [hk]; exact ⟨_, I', q⟩)
  · have hk : (k + (its.toArray.size : Int)).toNat = j := by
      rw [seqIndex_neg (by omega) h3] at h1
      rw [List.size_toArray, ← hl]
      exact Option.some.inj h1
    exact PySem.W.ki_setBack ho (by omega) (by rw [List.size_toArray, ← hl]; exact h3) (by omega) (by rw [hk]; exact ⟨_, I', q⟩)

theorem slice_bounds (lo hi : Option Int) (n : Nat) : (sliceBounds lo hi none n).1 = ((HT.sIx n 0 lo : Nat) : Int) ∧ (sliceBounds lo hi none n).2.1 = ((HT.sIx n n hi : Nat) : Int) ∧ (sliceBounds lo hi none n).2.2 = 1 := by
  refine ⟨?_, ?_, rfl⟩
  · cases lo with
    | none => simp [sliceBounds, HT.sIx]
    | some i =>
      simp only [sliceBounds, HT.sIx, Option.getD_none, show (1 : Int) > 0 by decide, if_true]
      by_cases h : i < 0
      · simp only [h, if_true] <;> omega
      · simp only [h, if_false] <;> omega
  · cases hi with
    | none => simp [sliceBounds, HT.sIx]
    | some i =>
      simp only [sliceBounds, HT.sIx, Option.getD_none, show (1 : Int) > 0 by decide, if_true]
      by_cases h : i < 0
      · simp only [h, if_true] <;> omega
      · simp only [h, if_false] <;> omega
theorem slicePick_cut (its : List Value) (lo hi : Option Int) : slicePick its.toArray lo hi none = ((its.drop (HT.sIx its.length 0 lo)).take (HT.sIx its.length its.length hi - HT.sIx its.length 0 lo)).toArray := by
  obtain ⟨h1, h2, h3⟩ := slice_bounds lo hi its.toArray.size
  unfold slicePick
  rw [h1, h2, h3]
  simp only [sliceRange_one, pick_run, List.size_toArray] <;> rfl
def rSlL (K : PySem.W.Frag) : V → Option Int → Option Int → Hp → VK → Prop := fun x lo hi H Q => ∃ a xs, x = .ref a ∧ SqL K H a xs ∧ ∀ p, H p = none → Q (.ref p) (upd H p (.lst (cutV xs lo hi)))
theorem sl_list : SlR X (rSlL X.K) := by
  intro pins s σ H x v vl vu lo hi sl Q I rx hs pl pu h
  obtain ⟨a, xs, rfl, hx, q⟩ := h
  cases rx
  obtain ⟨its, r, ht, hz⟩ := I.list hx
  have hlen := r.length
  refine ⟨"list", _, slot_list_getitem.lookup, ht.isList.typeIs, ?_⟩
  refine wpAny_getItem_list_slice ht.isList hs pl pu .none (by simp) ?_ (by rw [List.size_toArray] <;> omega)
  rw [slicePick_cut, ← hlen]
  refine ⟨.ref s.heap.objs.size, _, I.laid (t' := s.toks) (o := .lst (cutV xs lo hi)) (fun b ob q => Heap.get?_push_of_some _ q) (Nat.le_refl _) ?_, rfl, q _ (I.hok.fresh (Nat.le_refl _))⟩
  exact ⟨Nat.le_trans (cutV_length xs lo hi) hz, _, 0, (r.drop (HT.sIx xs.length 0 lo)).take (HT.sIx xs.length xs.length hi - HT.sIx xs.length 0 lo), Heap.get?_push_size _ rfl⟩

def flatV : V → Bool
  | .non => true
  | .bl _ => true
  | .int _ => true
  | .str _ => true
  | _ => false
def eqV : V → V → Bool
  | .non, .non => true
  | .bl a, .bl b => a == b
  | .bl a, .int b => (if a then 1 else 0) == b
  | .int a, .bl b => a == (if b then 1 else 0)
  | .int a, .int b => a == b
  | .str a, .str b => a == b
  | _, _ => false
theorem eqAt_V {A : Around} {s : Shared} {y x : V} {u v : Value} (ry : RelV y u) (rx : RelV x v) (fy : flatV y = true) (fx : flatV x = true) : SeqAt.EqAt A s u v (eqV y x) := by
  cases y with
  | non =>
    cases ry
    cases x with
    | non => cases rx; exact SeqAt.EqAt.same _
    | bl b => cases rx; exact SeqAt.EqAt.none_bool b
    | int b => obtain ⟨t, rfl⟩ := rx; exact SeqAt.EqAt.none_int b t
    | str b => obtain ⟨t, rfl⟩ := rx; exact SeqAt.EqAt.none_str b t
    | _ => exact absurd (show false = true from fx) Bool.false_ne_true
  | bl a =>
    cases ry
    cases x with
    | non => cases rx; exact SeqAt.EqAt.bool_none a
    | bl b => cases rx; exact SeqAt.EqAt.bool_bool a b
    | int b => obtain ⟨t, rfl⟩ := rx; exact SeqAt.EqAt.bool_int a b t
    | str b => obtain ⟨t, rfl⟩ := rx; exact SeqAt.EqAt.bool_str a b t
    | _ => exact absurd (show false = true from fx) Bool.false_ne_true
  | int a =>
    obtain ⟨t', rfl⟩ := ry
    cases x with
    | non => cases rx; exact SeqAt.EqAt.int_none a t'
    | bl b => cases rx; exact SeqAt.EqAt.int_bool a t' b
    | int b => obtain ⟨t, rfl⟩ := rx; exact SeqAt.EqAt.int_int a t' b t
    | str b => obtain ⟨t, rfl⟩ := rx; exact SeqAt.EqAt.int_str a t' b t
    | _ => exact absurd (show false = true from fx) Bool.false_ne_true
  | str a =>
    obtain ⟨t', rfl⟩ := ry
    cases x with
    | non => cases rx; exact SeqAt.EqAt.str_none a t'
    | bl b => cases rx; exact SeqAt.EqAt.str_bool a t' b
    | int b => obtain ⟨t, rfl⟩ := rx; exact SeqAt.EqAt.str_int a t' b t
    | str b => obtain ⟨t, rfl⟩ := rx; exact SeqAt.EqAt.str_str a t' b t
    | _ => exact absurd (show false = true from fx) Bool.false_ne_true
  | _ => exact absurd (show false = true from fy) Bool.false_ne_true
def eqU (x : V) (u : Value) : Bool := match u with
  | .none => eqV .non x
  | .bool b => eqV (.bl b) x
  | .int i _ => eqV (.int i) x
  | .str z _ => eqV (.str z) x
  | _ => false
theorem eqU_of {x y : V} {u : Value} (r : RelV y u) (f : flatV y = true) : eqU x u = eqV y x := by
  cases y with
  | non => cases r; rfl
  | bl b => cases r; rfl
  | int i => obtain ⟨t, rfl⟩ := r; rfl
  | str z => obtain ⟨t, rfl⟩ := r; rfl
  | _ => exact absurd (show false = true from f) Bool.false_ne_true
theorem any_eqU {x : V} : ∀ {xs : List V} {us : List Value}, Vals xs us → xs.all flatV = true → us.any (eqU x) = xs.any fun y => eqV y x
  | _, _, .nil, _ => rfl
  | y :: xs, u :: us, .cons r t, f => by
    rw [List.all_cons, Bool.and_eq_true] at f
    rw [List.any_cons, List.any_cons, eqU_of r f.1, any_eqU t f.2]
theorem mem_eqAt {A : Around} {s : Shared} {x : V} {v : Value} (rx : RelV x v) (fx : flatV x = true) : ∀ {xs : List V} {us : List Value}, Vals xs us → xs.all flatV = true → ∀ u ∈ us, SeqAt.EqAt A s u v (eqU x u)
  | _, _, .nil, _ => fun u hu => by cases hu
  | y :: xs, u :: us, .cons r t, f => fun u' hu => by
    rw [List.all_cons, Bool.and_eq_true] at f
    rcases List.mem_cons.mp hu with rfl | hu
    · rw [eqU_of r f.1]; exact eqAt_V r rx f.1 fx
    · exact mem_eqAt rx fx t f.2 u' hu
def inV (x : V) (xs : List V) : Bool := xs.any fun y => eqV y x
def rIn (K : PySem.W.Frag) (neg : Bool) : R2 := fun x y H Q => ∃ p xs, y = .ref p ∧ (SqL K H p xs ∨ SqT K H p xs) ∧ flatV x = true ∧ xs.all flatV = true ∧ Q (.bl (if neg then !inV x xs else inV x xs)) H
theorem op_in_seq : OpR X (compareOp .In) (rIn X.K false) := by
  intro pins s σ H x y v u Q I rx ry h
  obtain ⟨p, xs, rfl, hq, fx, fs, q⟩ := h
  cases ry
  rcases hq with hq | hq
  · obtain ⟨its, r, pl, hz⟩ := I.list hq
    refine SeqAt.in_listAt (eqU x) pl.isList (fun w hw => mem_eqAt rx fx r fs w (by simpa using hw)) ⟨.bl _, H, I, rfl, ?_⟩
    rw [show its.toArray.any (eqU x) = its.any (eqU x) by simp, any_eqU r fs]
    exact q
  · obtain ⟨its, r, pl, hz⟩ := I.tuple hq
    refine SeqAt.in_tupleAt (eqU x) pl (fun w hw => mem_eqAt rx fx r fs w (by simpa using hw)) ⟨.bl _, H, I, rfl, ?_⟩
    rw [show its.toArray.any (eqU x) = its.any (eqU x) by simp, any_eqU r fs]
    exact q
theorem call_len_seq : CallR X (.builtin "len") (fun xs H Q => ∃ p ys, xs = [.ref p] ∧ (SqL X.K H p ys ∨ SqT X.K H p ys) ∧ Q (.int ys.length) H) := by
  intro pins s σ H xs us Q I r h
  obtain ⟨p, ys, rfl, hq, q⟩ := h
  obtain ⟨u, rfl, rx⟩ := vals1 r
  cases rx
  have hn := line63
  rcases hq with hq | hq
  · obtain ⟨its, r', pl, hz⟩ := I.list hq
    have hlen := r'.length
    exact Calls.call_len_list pl.isList (by simp only [List.size_toArray] <;> omega) ⟨.int ys.length, H, I.tok _, ⟨s.toks + 1, by rw [List.size_toArray, hlen]⟩, q⟩
  · obtain ⟨its, r', pl, hz⟩ := I.tuple hq
    have hlen := r'.length
    exact len_tuple pl (by simp only [List.size_toArray] <;> omega) ⟨.int ys.length, H, I.tok _, ⟨s.toks + 1, by rw [List.size_toArray, hlen]⟩, q⟩
theorem CallR.or {f : Value} {r r' : List V → Hp → VK → Prop} (h : CallR X f r) (h' : CallR X f r') : CallR X f (fun xs H Q => r xs H Q ∨ r' xs H Q) := by
  intro pins s σ H xs us Q I rs q
  rcases q with q | q
  · exact h pins s σ H xs us Q I rs q
  · exact h' pins s σ H xs us Q I rs q
theorem call_list_of : CallR X (.type "list") (fun xs H Q => ∃ p ys, xs = [.ref p] ∧ (SqL X.K H p ys ∨ SqT X.K H p ys) ∧ ∀ l, H l = none → Q (.ref l) (upd H l (.lst ys))) := by
  intro pins s σ H xs us Q I r h
  obtain ⟨p, ys, rfl, hq, q⟩ := h
  obtain ⟨u, rfl, rx⟩ := vals1 r
  cases rx
  have fin : ∀ (its : List Value), Vals ys its → ys.length ≤ sizeLine → ∀ (h' : Heap) (c' : Nat), (∀ b o', s.heap.get? b = some o' → h'.get? b = some o') →
      h'.get? s.heap.objs.size = some { cls := .type "list", dict := none, data := .seq its.toArray c', slots := #[] } → EP X pins σ Q (.ref s.heap.objs.size) { s with heap := h' } := fun its r' hz h' c' kp e =>
    ⟨.ref s.heap.objs.size, _, I.laid (t' := s.toks) kp (Nat.le_refl _) (show ObjOk X.prog X.w _ h' _ (.lst ys) from ⟨hz, its, c', r', e⟩), rfl, q _ (I.hok.fresh (Nat.le_refl _))⟩
  rcases hq with hq | hq
  · obtain ⟨its, r', pl, hz⟩ := I.list hq
    have hlen := r'.length
    obtain ⟨o, ho, hc, n, hd⟩ := pl.isList
    exact call_list_seq p (.inl rfl) ho hc hd (fun h' c' kp e => fin its r' hz h' c' kp e) (by simp only [List.size_toArray] <;> omega)
  · obtain ⟨its, r', pl, hz⟩ := I.tuple hq
    have hlen := r'.length
    obtain ⟨o, ho, hc, n, hd⟩ := pl
    exact call_list_seq p (.inr rfl) ho hc hd (fun h' c' kp e => fin its r' hz h' c' kp e) (by simp only [List.size_toArray] <;> omega)
def tyV (K : PySem.W.Frag) (T : String) (x : V) (H : Hp) : Prop := match x with
  | .str _ => T = "str"
  | .int _ => T = "int"
  | .ref p => (T = "list" ∧ ∃ xs, SqL K H p xs) ∨ (T = "tuple" ∧ ∃ o, K.lookup p = some o ∧ o.cls = .type "tuple" ∧ o.dict = none) ∨
      (T = "dict" ∧ ((∃ kvs, H p = some (.dK kvs)) ∨ ∃ kvs, H p = some (.dT kvs))) ∨ (T = "set" ∧ ∃ S n, H p = some (.set S n))
  | _ => False
theorem tyV_is {pins : List (Addr × Obj)} {σ : St} {H : Hp} {s : Shared} {T : String} {x : V} {v : Value} (I : Inv X pins σ H s) (r : RelV x v) (ty : tyV X.K T x H) :
    s.TypeIs v T ∧ ∀ a, v = .ref a → ∃ ob, s.heap.get? a = some ob ∧ ob.dict = none := by
  cases x with
  | str z =>
    obtain ⟨t, rfl⟩ := r
    cases (show T = "str" from ty)
    exact ⟨typeIs_str s z t, fun _ e => nomatch e⟩
  | int i =>
    obtain ⟨t, rfl⟩ := r
    cases (show T = "int" from ty)
    exact ⟨typeIs_int s i t, fun _ e => nomatch e⟩
  | ref p =>
    cases r
    rcases ty with ⟨rfl, xs, hq⟩ | ⟨rfl, o, hk, hc, hd⟩ | ⟨rfl, hk⟩ | ⟨rfl, S, n, hk⟩
    · obtain ⟨its, _, pl, _⟩ := I.list hq
      refine ⟨pl.isList.typeIs, fun a e => ?_⟩
      cases e
      obtain ⟨o, n, e, c, hd, _⟩ := pl
      exact ⟨o, e, hd⟩
    · refine ⟨⟨o, I.kIn p o hk, hc⟩, fun a e => ?_⟩
      cases e
      exact ⟨o, I.kIn _ o hk, hd⟩
    · have z : ∃ o, s.heap.get? p = some o ∧ o.ExactDict := by
        rcases hk with ⟨kvs, hk⟩ | ⟨kvs, hk⟩
        · obtain ⟨_, _, _, _, o, _, _, e, ex, _⟩ := I.hok p _ hk
          exact ⟨o, e, ex⟩
        · obtain ⟨_, _, _, _, o, _, _, e, ex, _⟩ := I.hok p _ hk
          exact ⟨o, e, ex⟩
      obtain ⟨o, e, ex⟩ := z
      refine ⟨⟨o, e, ex.1⟩, fun a e2 => ?_⟩
      cases e2
      exact ⟨o, e, ex.2.1⟩
    · obtain ⟨o, _, _, _, e, ex, _⟩ := I.hok p _ hk
      refine ⟨⟨o, e, ex.1⟩, fun a e2 => ?_⟩
      cases e2
      exact ⟨o, e, ex.2.1⟩
  | _ => exact False.elim ty
def tBM0 (K : PySem.W.Frag) (T : String) (r : V → List V → Hp → VK → Prop) (to : TE) : TE := fun σ H Q => to σ H fun x H1 => tyV K T x H1 ∧ r x [] H1 Q
def tBM (K : PySem.W.Frag) (T : String) (r : V → List V → Hp → VK → Prop) (to : TE) (t : TA) : TE := fun σ H Q => to σ H fun x H1 => tyV K T x H1 ∧ t σ H1 fun xs H2 => r x xs H2 Q
variable {o e : Expr} {es : List Expr} {to : TE} {t : TA} {name : Str} {apos cpos : Pos} {T id : String} {r : V → List V → Hp → VK → Prop}
theorem pe_bm0 (pa : PlainAttrs T) (slot : Slot T name id) (hty : typeOf (.builtin id) = pure (.type "method_descriptor")) (hm : MtR X id r) (ho : PE X o to)
    (hbase : attributeBase o name X.env (eval o X.env) = eval o X.env := by rfl) (hline : (apos.endLine == cpos.line) = true := by rfl) : PE X (.Call (.Attribute o name apos) [] [] cpos) (tBM0 X.K T r to) := by
  intro pins s σ H Q I h
  refine wpAny_Call_method0_late hbase hline (thn (ho pins s σ H _ I h) fun v s1 ⟨x, H1, I1, r1, ty, q1⟩ => ?_)
  obtain ⟨h1, h2⟩ := tyV_is I1 r1 ty
  exact ⟨T, id, pa, slot, hty, h1, h2, Calls.callWith_builtin rfl (PySem.evalArgs_none (hm pins s1 σ H1 x [] v [] Q I1 r1 .nil q1))⟩
theorem pe_bm (pa : PlainAttrs T) (slot : Slot T name id) (hty : typeOf (.builtin id) = pure (.type "method_descriptor")) (hm : MtR X id r) (ho : PE X o to) (ha : PA X (e :: es) t)
    (hbase : attributeBase o name X.env (eval o X.env) = eval o X.env := by rfl)
    (hfew : ((backTo cpos (starEach (e :: es) X.env)).all (fun x => !x.1) && (backToKw cpos (keywordEach [] X.env)).all (fun x => x.1.isSome)
      && decide ((e :: es).length + ([] : List Keyword).length + (if ([] : List Keyword).isEmpty then 0 else 1) < 30)) = true := by rfl)
    (hline : (apos.endLine == cpos.line) = true := by rfl) (hs : starEach (e :: es) X.env = (false, eval e X.env) :: starEach es X.env := by rfl) (hplain : (backTo cpos (starEach es X.env)).any (·.1) = false := by rfl) :
    PE X (.Call (.Attribute o name apos) (e :: es) [] cpos) (tBM X.K T r to t) := by
  intro pins s σ H Q I h
  refine wpAny_Call_method_late hbase hfew hline rfl (thn (ho pins s σ H _ I h) fun v s1 ⟨x, H1, I1, r1, ty, q1⟩ => ?_)
  obtain ⟨h1, h2⟩ := tyV_is I1 r1 ty
  refine ⟨T, id, pa, slot, hty, h1, h2, ?_⟩
  have hA := ha cpos pins s1 σ H1 _ I1 q1
  rw [hs] at hA ⊢
  refine Calls.callWith_builtin (by show (false || (backTo cpos (starEach es X.env)).any (·.1)) = false; rw [hplain] <;> rfl) (Calls.evalArgs_plain ?_)
  exact thn hA fun us s2 ⟨vs, H2, I2, r2, q2⟩ => hm pins s2 σ H2 x vs v us Q I2 r1 r2 q2
end
end L2

namespace L2
open PySem PySem.Spec PyProof.Rows

def MtM (X : Cx) (id : String) (r : V → List V → Hp → VK → Prop) : Prop :=
  ∀ (pins : List (Addr × Obj)) (s : Shared) (σ : St) (H : Hp) (x : V) (xs : List V) (v : Value) (us : List Value) (Q : VK), Inv X pins σ H s → RelV x v → Vals xs us → r x xs H Q →
    wpAny (model X.prog X.w) X.A (call (.builtin id) (v :: us)) (EP X pins σ Q) X.xe s

theorem Vals.one : ∀ {x : V} {us : List Value}, Vals [x] us → ∃ u, us = [u] ∧ RelV x u
  | _, _, .cons r .nil => ⟨_, rfl, r⟩
theorem Vals.zero : ∀ {us : List Value}, Vals [] us → us = []
  | _, .nil => rfl
theorem Vals.dropLast {xs : List V} {us : List Value} (h : Vals xs us) : Vals xs.dropLast us.dropLast := by
  induction h with
  | nil => exact .nil
  | cons r t ih =>
    cases t with
    | nil => exact .nil
    | cons q t' => exact .cons r ih
theorem Vals.rep {xs : List V} {us : List Value} (h : Vals xs us) : ∀ k : Nat, Vals (List.replicate k xs).flatten (List.replicate k us).flatten
  | 0 => .nil
  | k + 1 => by
    rw [List.replicate_succ, List.replicate_succ, List.flatten_cons, List.flatten_cons]
    exact Vals.append h (Vals.rep h k)
theorem erase_last {α : Type} (l : List α) : l.eraseIdx (l.length - 1) = l.dropLast := by
  induction l with
  | nil => rfl
  | cons a r ih =>
    cases r with
    | nil => rfl
    | cons b r =>
      have e : (a :: b :: r).length - 1 = ((b :: r).length - 1) + 1 := by
        have h1 : (a :: b :: r).length = r.length + 2 := rfl
        have h2 : (b :: r).length = r.length + 1 := rfl
        omega
      rw [e, List.eraseIdx_cons_succ, ih]
      all_goals rfl
theorem foldl_rep (its : List Value) : ∀ (k : Nat) (acc : List Value),
    List.foldl (fun x1 x2 => x1 ++ x2) acc.toArray (List.replicate k its.toArray) = (acc ++ (List.replicate k its).flatten).toArray
  | 0, acc => by simp
  | k + 1, acc => by
    have e : acc.toArray ++ its.toArray = (acc ++ its).toArray := by simp
    have e2 : (acc ++ its) ++ (List.replicate k its).flatten = acc ++ (List.replicate (k + 1) its).flatten := by
      rw [List.replicate_succ, List.flatten_cons, List.append_assoc]
    rw [← e2, ← foldl_rep its k (acc ++ its), ← e, List.replicate_succ, List.foldl_cons]

section
variable {X : Cx} {pins : List (Addr × Obj)} {σ : St} {H : Hp} {s : Shared} {l b : Addr} {xs ys zs : List V}

theorem Inv.lset {its its' : List Value} {n : Nat} {f : Array Value → Array Value} {t' : Nat} (I : Inv X pins σ H s) (hH : H l = some (.lst xs))
    (e : s.heap.get? l = some { cls := .type "list", data := .seq its.toArray n }) (hf : f its.toArray = its'.toArray) (hv : Vals ys its') (hz : ys.length ≤ sizeLine) :
    Inv X pins σ (upd H l (.lst ys)) { s with heap := s.heap.update l (Obj.mapSeq f), toks := t' } := by
  have q := PySem.IsL.update e f
  rw [hf] at q
  refine I.write (x := l) (e := l) (by rw [hH]; exact trivial) (.inl rfl) (fun b' u hb hu => (Heap.get?_update_other s.heap (Obj.mapSeq f) (Ne.symm hb)).trans hu) ⟨_, q⟩ ?_
  exact ⟨hz, its', _, hv, q⟩
theorem Inv.lnew {its : List Value} {t' : Nat} (I : Inv X pins σ H s) (hv : Vals ys its) (hz : ys.length ≤ sizeLine) :
    Inv X pins σ (upd H s.heap.objs.size (.lst ys)) { s with heap := s.heap.push { cls := .type "list", data := .seq its.toArray }, toks := t' } :=
  I.laid (fun _ _ q => Heap.get?_push_of_some _ q) (Nat.le_refl _) ⟨hz, its, 0, hv, Heap.get?_push_size _ rfl⟩
theorem Inv.fresh (I : Inv X pins σ H s) : H s.heap.objs.size = none := I.hok.fresh (Nat.le_refl _)
theorem Inv.lstM (I : Inv X pins σ H s) (hH : H l = some (.lst xs)) : xs.length ≤ sizeLine ∧ ∃ (its : List Value) (n : Nat), Vals xs its ∧ xs.length = its.length ∧ s.heap.get? l = some { cls := .type "list", data := .seq its.toArray n } := by
  obtain ⟨z, its, n, r, e⟩ := I.hok l _ hH
  exact ⟨z, its, n, r, r.length, e⟩

theorem notLongL {n : Nat} (h : n ≤ sizeLine) : Builtin.List.listTooLong n = false := by
  unfold Builtin.List.listTooLong
  exact decide_eq_false (by omega)
end

section
variable {X : Cx}

def rAppend : V → List V → Hp → VK → Prop := fun x vs H Q => ∃ l xs y, x = .ref l ∧ vs = [y] ∧ H l = some (.lst xs) ∧ xs.length < sizeLine ∧ Q .non (upd H l (.lst (xs ++ [y])))
theorem mt_append : MtM X "list.append" rAppend := by
  intro pins s σ H x vs v us Q I rx rv h
  obtain ⟨l, xs, y, rfl, rfl, hH, hz, q⟩ := h
  cases rx
  obtain ⟨u, rfl, ru⟩ := rv.one
  obtain ⟨z, its, n, r, hl, e⟩ := I.lstM hH
  refine call_meets F.slot_list_append ⟨_, e, rfl⟩ F.entry_list_append (F.args_list_append_2 _ _) (PySem.list_append l its.toArray n u (by rw [List.size_toArray]; omega)) ⟨e, ?_⟩
  refine ⟨.non, _, I.lset (its' := its ++ [u]) hH e (by simp) (r.append (.cons ru .nil)) ?_, rfl, q⟩
  rw [List.length_append, List.length_singleton]
  omega

def rExtend : V → List V → Hp → VK → Prop := fun x vs H Q => ∃ l b xs zs, x = .ref l ∧ vs = [.ref b] ∧ H l = some (.lst xs) ∧ H b = some (.lst zs) ∧ xs.length + zs.length ≤ sizeLine ∧ Q .non (upd H l (.lst (xs ++ zs)))
theorem mt_extend : MtM X "list.extend" rExtend := by
  intro pins s σ H x vs v us Q I rx rv h
  obtain ⟨l, b, xs, zs, rfl, rfl, hH, hB, hz, q⟩ := h
  cases rx
  obtain ⟨u, rfl, ru⟩ := rv.one
  cases ru
  obtain ⟨z, its, n, r, hl, e⟩ := I.lstM hH
  obtain ⟨z2, its2, n2, r2, hl2, e2⟩ := I.lstM hB
  have hsz : its.toArray.size + its2.toArray.size ≤ sizeLine := by rw [List.size_toArray, List.size_toArray]; omega
  have hlong : ¬ (!its.toArray.isEmpty && Builtin.List.listTooLong (its.toArray.size + its2.toArray.size)) = true := by
    rw [notLongL hsz, Bool.and_false]
    exact Bool.false_ne_true
  refine call_meets F.slot_list_extend ⟨_, e, rfl⟩ F.entry_list_extend (F.args_list_extend_2 _ _)
    (AutoSeq1.list_extend_list_list_0 l its.toArray n b its2.toArray n2 hlong (by rw [List.size_toArray]; omega) (by omega)) ⟨e, e2, ?_⟩
  refine ⟨.non, _, I.lset (its' := its ++ its2) hH e (by simp) (r.append r2) ?_, rfl, q⟩
  rw [List.length_append]
  omega

def rPop : V → List V → Hp → VK → Prop := fun x vs H Q => ∃ l xs y, x = .ref l ∧ vs = [] ∧ H l = some (.lst xs) ∧ xs[xs.length - 1]? = some y ∧ Q y (upd H l (.lst xs.dropLast))
theorem mt_pop : MtM X "list.pop" rPop := by
  intro pins s σ H x vs v us Q I rx rv h
  obtain ⟨l, xs, y, rfl, rfl, hH, hy, q⟩ := h
  cases rx
  have hus := rv.zero
  subst hus
  obtain ⟨z, its, n, r, hl, e⟩ := I.lstM hH
  obtain ⟨u, hu, ru⟩ := r.get hy
  have hy' : its.toArray[its.toArray.size - 1]? = some u := by
    show its.toArray[its.length - 1]? = some u
    rw [← Array.getElem?_toList, ← hl]
    exact hu
  refine call_meets F.slot_list_pop ⟨_, e, rfl⟩ F.entry_list_pop (F.args_list_pop_1 _) (MeetsSeq.list_pop_last l its.toArray n u hy' (by rw [List.size_toArray]; omega)) ⟨e, ?_⟩
  refine ⟨y, _, I.lset (its' := its.dropLast) hH e ?_ r.dropLast ?_, ru, q⟩
  · show its.toArray.eraseIdxIfInBounds (its.toArray.size - 1) = its.dropLast.toArray
    rw [List.size_toArray, List.eraseIdxIfInBounds_toArray, erase_last]
  · rw [List.length_dropLast]
    omega

def rCat : R2 := fun x y H Q => ∃ l b xs zs, x = .ref l ∧ y = .ref b ∧ H l = some (.lst xs) ∧ H b = some (.lst zs) ∧ xs.length + zs.length ≤ sizeLine ∧ ∀ p, H p = none → Q (.ref p) (upd H p (.lst (xs ++ zs)))
theorem op_cat : OpR X (binaryOp .Add) rCat := by
  intro pins s σ H x y v u Q I rx ry h
  obtain ⟨l, b, xs, zs, rfl, rfl, hH, hB, hz, q⟩ := h
  cases rx
  cases ry
  obtain ⟨z, its, n, r, hl, e⟩ := I.lstM hH
  obtain ⟨z2, its2, n2, r2, hl2, e2⟩ := I.lstM hB
  refine PySem.P.add_list e e2 ?_ (by rw [List.size_toArray, List.size_toArray]; omega)
  have ea : its.toArray ++ its2.toArray = (its ++ its2).toArray := by simp
  rw [ea]
  exact ⟨.ref _, _, I.lnew (t' := s.toks) (r.append r2) (by rw [List.length_append]; omega), rfl, q _ I.fresh⟩
def rRep : R2 := fun x y H Q => ∃ l k xs, x = .ref l ∧ y = .int k ∧ H l = some (.lst xs) ∧ -(2 ^ 63) ≤ k ∧ k < 2 ^ 63 ∧ xs.length * k.toNat ≤ sizeLine ∧
  ∀ p, H p = none → Q (.ref p) (upd H p (.lst (List.replicate k.toNat xs).flatten))
theorem len_rep {α : Type} (xs : List α) (k : Nat) : (List.replicate k xs).flatten.length = k * xs.length := by
  induction k with
  | zero => simp
  | succ k ih => rw [List.replicate_succ, List.flatten_cons, List.length_append, ih, Nat.succ_mul, Nat.add_comm]
theorem op_rep : OpR X (binaryOp .Mult) rRep := by
  intro pins s σ H x y v u Q I rx ry h
  obtain ⟨l, k, xs, rfl, rfl, hH, h1, h2, hz, q⟩ := h
  cases rx
  obtain ⟨t, rfl⟩ := ry
  obtain ⟨z, its, n, r, hl, e⟩ := I.lstM hH
  have hlen : its.toArray.size * k.toNat ≤ sizeLine := by rw [List.size_toArray, ← hl]; exact hz
  have hcap : ¬ its.toArray.size * k.toNat > (2 ^ 63 - 1) / 8 := by
    have : (sizeLine : Nat) ≤ (2 ^ 63 - 1) / 8 := by decide
    omega
  have hfit : ¬ (!Builtin.List.listFitsIndex k) = true := by
    rw [fitsIndex_both h1 h2]
    exact Bool.false_ne_true
  have hlong : ¬ Builtin.List.listTooLong (its.toArray.size * k.toNat) = true := by
    rw [notLongL hlen]
    exact Bool.false_ne_true
  have hnew : List.foldl (fun x1 x2 => x1 ++ x2) #[] (List.replicate (if its.toArray.isEmpty = true then 0 else k.toNat) its.toArray) = (List.replicate k.toNat its).flatten.toArray := by
    have f0 : ∀ m : Nat, List.foldl (fun x1 x2 => x1 ++ x2) #[] (List.replicate m its.toArray) = (List.replicate m its).flatten.toArray := fun m => by
      have := foldl_rep its m []
      rw [List.nil_append] at this
      exact this
    rw [f0]
    cases its with
    | nil => simp
    | cons a r' => rw [if_neg (by simp)]
  refine wpAny_binaryOp_repeat_ref (T := "list") (U := "int") (by decide) ⟨_, e, rfl⟩ (fun s' => typeIs_int s' k t) noFill_list_mul F.fills_int_mul F.slot_int_rmul repeat_list F.slot_int_index.lookup
    (call_meets F.slot_int_rmul (typeIs_int s k t) F.entry_int_rmul (F.args_int_rmul_2 _ _) (int___rmul___int_list k t l its.toArray n)
      ⟨e, rfl, ⟨_, e, rfl⟩, call_meets F.slot_list_mul ⟨_, e, rfl⟩ F.entry_list_mul (F.args_list_mul_2 _ _) (AutoListH.list___mul___list_int_3 l its.toArray n k t hfit hcap hlong) ⟨e, ?_⟩⟩)
  rw [hnew]
  exact ⟨.ref _, _, I.lnew (t' := s.toks) (r.rep k.toNat) (by rw [len_rep, Nat.mul_comm]; exact hz), rfl, q _ I.fresh⟩

end

section
variable {prog : Program} {w : World} {A : Around} {E : Value → Shared → Prop} {s : Shared}
end

section
variable {X : Cx}
end
end L2

namespace L2
open PySem PySem.Spec PyProof.Rows

theorem Vals.ints : ∀ {ns : List Int} {us : List Value}, Vals (ns.map V.int) us → IntsAre us ns
  | [], us, h => by
    rw [List.map_nil] at h
    cases h
    exact IntsAre.nil
  | n :: ns, us, h => by
    rw [List.map_cons] at h
    cases h with
    | cons r t =>
      obtain ⟨k, rfl⟩ := r
      exact IntsAre.cons n k (Vals.ints t)
theorem Vals.bls : ∀ {bs : List Bool} {us : List Value}, Vals (bs.map V.bl) us → us = bs.map Value.bool
  | [], us, h => by
    rw [List.map_nil] at h
    cases h
    rfl
  | b :: bs, us, h => by
    rw [List.map_cons] at h
    cases h with
    | cons r t =>
      cases r
      rw [Vals.bls t, List.map_cons]
theorem Vals.ref1 {a : Addr} {us : List Value} (r : Vals [V.ref a] us) : us = [Value.ref a] := by
  cases r with
  | cons r t =>
    cases t
    cases r
    rfl
section
variable {prog : Program} {w : World} {A : Around} {E : Value → Shared → Prop} {s : Shared} {l : Addr} {its : List Value} {ns : List Int} {Q : Value → Shared → Prop}
theorem sum_raw (hh : A.handled = none) (hl : s.heap.IsList l its.toArray) (hi : IntsAre its ns)
    (h : ∀ h' tk t', (∀ b o, s.heap.get? b = some o → h'.get? b = some o) → Q (.int ns.sum t') { s with heap := h', toks := tk }) : wpAny (model prog w) A (call (.builtin "sum") [.ref l]) Q E s := by
  obtain ⟨xs, e⟩ := hi.allInts.items
  have hn : numsOf (intItems xs).toList = ns := by rw [← e]; exact hi.numsOf
  rw [nums_intItems] at hn
  rw [e] at hl
  refine PySem.sum_intListG hh hl fun h' tk t' hk => ?_
  have := h h' tk t' hk
  rw [preSum_eq, List.take_of_length_le (by simp), hn]; exact this
theorem max_raw (hh : A.handled = none) (hl : s.heap.IsList l its.toArray) (hi : IntsAre its ns) (hne : 0 < ns.length)
    (h : ∀ h' tk M t', (∀ b o, s.heap.get? b = some o → h'.get? b = some o) → M ∈ ns → (∀ a, a ∈ ns → a ≤ M) → Q (.int M t') { s with heap := h', toks := tk }) : wpAny (model prog w) A (call (.builtin "max") [.ref l]) Q E s := by
  obtain ⟨xs, e⟩ := hi.allInts.items
  have hn : numsOf (intItems xs).toList = ns := by rw [← e]; exact hi.numsOf
  rw [nums_intItems] at hn
  subst hn
  rw [e] at hl
  have hsz : 0 < xs.size := by simpa using hne
  refine PySem.max_intList hh hl hsz fun v h' tk hv hk => ?_
  obtain ⟨t, rfl⟩ := intItems_at hv
  obtain ⟨h1, h2⟩ := argBest_gt (numAt xs) (xs.size - 1)
  refine h h' tk _ t hk ?_ fun a ha => ?_
  · rw [numAt_eq]; exact PySem.getD_mem (by rw [List.length_map, Array.length_toList]; omega)
  · obtain ⟨j, hj, rfl⟩ := mem_getD ha
    rw [List.length_map, Array.length_toList] at hj
    rw [← numAt_eq]; exact h2 j (by omega)
theorem min_raw (hh : A.handled = none) (hl : s.heap.IsList l its.toArray) (hi : IntsAre its ns) (hne : 0 < ns.length)
    (h : ∀ h' tk M t', (∀ b o, s.heap.get? b = some o → h'.get? b = some o) → M ∈ ns → (∀ a, a ∈ ns → M ≤ a) → Q (.int M t') { s with heap := h', toks := tk }) : wpAny (model prog w) A (call (.builtin "min") [.ref l]) Q E s := by
  obtain ⟨xs, e⟩ := hi.allInts.items
  have hn : numsOf (intItems xs).toList = ns := by rw [← e]; exact hi.numsOf
  rw [nums_intItems] at hn
  subst hn
  rw [e] at hl
  have hsz : 0 < xs.size := by simpa using hne
  refine PySem.min_intList hh hl hsz fun v h' tk hv hk => ?_
  obtain ⟨t, rfl⟩ := intItems_at hv
  obtain ⟨h1, h2⟩ := argBest_lt (numAt xs) (xs.size - 1)
  refine h h' tk _ t hk ?_ fun a ha => ?_
  · rw [numAt_eq]; exact PySem.getD_mem (by rw [List.length_map, Array.length_toList]; omega)
  · obtain ⟨j, hj, rfl⟩ := mem_getD ha
    rw [List.length_map, Array.length_toList] at hj
    rw [← numAt_eq]; exact h2 j (by omega)
end

section
variable {X : Cx}
def rSum (K : PySem.W.Frag) : List V → Hp → VK → Prop := fun vs H Q => ∃ (a : Addr) (ns : List Int), vs = [V.ref a] ∧ SqL K H a (ns.map V.int) ∧ Q (.int ns.sum) H
def rMax (K : PySem.W.Frag) : List V → Hp → VK → Prop := fun vs H Q => ∃ (a : Addr) (ns : List Int), vs = [V.ref a] ∧ SqL K H a (ns.map V.int) ∧ 0 < ns.length ∧ ∀ m, m ∈ ns → (∀ y, y ∈ ns → y ≤ m) → Q (.int m) H
def rMin (K : PySem.W.Frag) : List V → Hp → VK → Prop := fun vs H Q => ∃ (a : Addr) (ns : List Int), vs = [V.ref a] ∧ SqL K H a (ns.map V.int) ∧ 0 < ns.length ∧ ∀ m, m ∈ ns → (∀ y, y ∈ ns → m ≤ y) → Q (.int m) H
theorem cr_sum (hc : X.calm = true) : CallR X (.builtin "sum") (rSum X.K) := by
  intro pins s σ H vs us Q I r h
  obtain ⟨a, ns, rfl, hs, q⟩ := h
  obtain ⟨its, rv, hl, _⟩ := I.list hs
  rw [Vals.ref1 r]
  exact sum_raw (I.ok.hd hc) hl.isList rv.ints fun h' tk t' hk => ⟨.int _, H, I.kept hk, ⟨_, rfl⟩, q⟩
theorem cr_max (hc : X.calm = true) : CallR X (.builtin "max") (rMax X.K) := by
  intro pins s σ H vs us Q I r h
  obtain ⟨a, ns, rfl, hs, hne, q⟩ := h
  obtain ⟨its, rv, hl, _⟩ := I.list hs
  rw [Vals.ref1 r]
  exact max_raw (I.ok.hd hc) hl.isList rv.ints hne fun h' tk m t' hk h1 h2 => ⟨.int _, H, I.kept hk, ⟨_, rfl⟩, q m h1 h2⟩
theorem cr_min (hc : X.calm = true) : CallR X (.builtin "min") (rMin X.K) := by
  intro pins s σ H vs us Q I r h
  obtain ⟨a, ns, rfl, hs, hne, q⟩ := h
  obtain ⟨its, rv, hl, _⟩ := I.list hs
  rw [Vals.ref1 r]
  exact min_raw (I.ok.hd hc) hl.isList rv.ints hne fun h' tk m t' hk h1 h2 => ⟨.int _, H, I.kept hk, ⟨_, rfl⟩, q m h1 h2⟩

end

section
variable {X : Cx}
end

section
variable {X : Cx}
end

theorem iter_any {prog : Program} {w : World} {A : Around} {E : Value → Shared → Prop} {s : Shared} {l : Addr} {items : Array Value} {Q : Value → Shared → Prop} (hl : s.heap.IsList l items)
    (h : ∀ s₂ : Shared, s₂ = { s with heap := s.heap.push { cls := .type "list_iterator", data := .fields #[.ref l, .int 0 0] } } →
      (s₂.heap.IsListIter s.heap.objs.size l 0 ∧ s₂.heap.IsList l items) → l ≠ s.heap.objs.size → Q (.ref s.heap.objs.size) s₂) : wpAny (model prog w) A (pyIter (.ref l)) Q E s := by
  have hlt : l < s.heap.objs.size := by obtain ⟨_, e, _⟩ := hl; exact Heap.lt_size e
  exact wpAny_pyIter_list hl (h _ rfl ⟨⟨_, Heap.get?_push_size _ rfl, rfl, rfl⟩, hl.push _⟩ (Nat.ne_of_lt hlt))
theorem truth_bools {prog : Program} {w : World} {A : Around} {bs : List Bool} {its : List Value} (e : its = bs.map Value.bool) :
    TruthOf prog w A (fun i v => its.toArray[i]? = some v) (fun i => bs.getD i false) := fun i v s Q E hv hq => by
  have hv' : its[i]? = some v := by simpa using hv
  rw [e, List.getElem?_map] at hv'
  obtain ⟨b, hb, rfl⟩ := Option.map_eq_some_iff.mp hv'
  have hg : bs.getD i false = b := by rw [List.getD_eq_getElem?_getD, hb] <;> rfl
  have hq' : Q (bs.getD i false) s := hq
  rw [hg] at hq'
  exact wpAny_truthy_bool hq'
theorem all_range : ∀ bs : List Bool, (List.range bs.length).all (fun i => bs.getD i false) = bs.all id
  | [] => rfl
  | b :: bs => by
    rw [List.length_cons, List.range_succ_eq_map, List.all_cons, List.all_map, List.all_cons, ← all_range bs]
    all_goals rfl
section
variable {X : Cx}
def rAll (K : PySem.W.Frag) : List V → Hp → VK → Prop := fun vs H Q => ∃ (a : Addr) (bs : List Bool), vs = [V.ref a] ∧ SqL K H a (bs.map V.bl) ∧ Q (.bl (bs.all id)) H
theorem cr_all (hc : X.calm = true) : CallR X (.builtin "all") (rAll X.K) := by
  intro pins s σ H vs us Q I r h
  obtain ⟨a, bs, rfl, hs, q⟩ := h
  obtain ⟨its, rv, hl, _⟩ := I.list hs
  rw [Vals.ref1 r]
  have hb := rv.bls
  refine call_all_walk (iter_any hl.isList fun s₂ e2 st hne => ?_)
  subst e2
  refine ⟨_, _, _, _, _, _, _, rfl, Walks.list (A := X.A.in1) (I.ok.hd hc) _ a hne its.toArray, st, truth_bools hb, fun h' tk hk => ?_⟩
  refine ⟨.bl _, H, I.kept fun b o eo => hk b o (fun hmem => ?_) (Heap.get?_push_of_some _ eo), ?_, q⟩
  · rcases List.mem_cons.mp hmem with e1 | hmem
    · exact absurd (e1 ▸ Heap.lt_size eo) (Nat.lt_irrefl _)
    · cases hmem
  · show Value.bool _ = Value.bool _
    rw [← all_range, hb, List.size_toArray, List.length_map]
end

mutual
inductive Dp (K : PySem.W.Frag) (H : Hp) : V → PyData → Prop
  | non : Dp K H .non .none
  | bl (b : Bool) : Dp K H (.bl b) (.bool b)
  | int (i : Int) : Dp K H (.int i) (.int i)
  | str (x : Str) : Dp K H (.str x) (.str x)
  | lst {a : Addr} {xs : List V} {ds : List PyData} : SqL K H a xs → DpAll K H xs ds → Dp K H (.ref a) (.list ds)
  | tup {a : Addr} {xs : List V} {ds : List PyData} : SqT K H a xs → DpAll K H xs ds → Dp K H (.ref a) (.tuple ds)
inductive DpAll (K : PySem.W.Frag) (H : Hp) : List V → List PyData → Prop
  | nil : DpAll K H [] []
  | cons {v : V} {vs : List V} {d : PyData} {ds : List PyData} : Dp K H v d → DpAll K H vs ds → DpAll K H (v :: vs) (d :: ds)
end
section
variable {X : Cx} {pins : List (Addr × Obj)} {σ : St} {H : Hp} {s : Shared}
mutual
theorem Dp.reads (I : Inv X pins σ H s) : ∀ (d : PyData) (v : V) (u : Value), Dp X.K H v d → RelV v u → ∃ as, Reads s.heap u d as
  | .none, _, _, h, r => by
    cases h
    cases r
    exact ⟨_, Reads.none⟩
  | .bool b, _, _, h, r => by
    cases h
    cases r
    exact ⟨_, Reads.bool b⟩
  | .int i, _, _, h, r => by
    cases h
    obtain ⟨t, rfl⟩ := r
    exact ⟨_, Reads.int i t⟩
  | .str x, _, _, h, r => by
    cases h
    obtain ⟨t, rfl⟩ := r
    exact ⟨_, Reads.str x t⟩
  | .list ds, _, _, h, r => by
    cases h with
    | lst hs ha =>
      cases r
      obtain ⟨its, rv, ⟨o, n, ho, hc, _, hd⟩, _⟩ := I.list hs
      obtain ⟨as, hr⟩ := Dp.readsAll I ds _ its ha rv
      exact ⟨_, Reads.list ho hc hd hr⟩
  | .tuple ds, _, _, h, r => by
    cases h with
    | tup hs ha =>
      cases r
      obtain ⟨its, rv, ⟨o, ho, hc, n, hd⟩, _⟩ := I.tuple hs
      obtain ⟨as, hr⟩ := Dp.readsAll I ds _ its ha rv
      exact ⟨_, Reads.tuple ho hc hd hr⟩
  | .dict _, _, _, h, _ => by cases h
theorem Dp.readsAll (I : Inv X pins σ H s) : ∀ (ds : List PyData) (vs : List V) (us : List Value), DpAll X.K H vs ds → Vals vs us → ∃ as, ReadsAll s.heap us ds as
  | [], _, _, h, r => by
    cases h
    cases r
    exact ⟨_, ReadsAll.nil⟩
  | d :: ds, _, _, h, r => by
    cases h with
    | cons h1 h2 =>
      cases r with
      | cons r1 r2 =>
        obtain ⟨as, q1⟩ := Dp.reads I d _ _ h1 r1
        obtain ⟨bs, q2⟩ := Dp.readsAll I ds _ _ h2 r2
        exact ⟨_, ReadsAll.cons q1 q2⟩
end
end
section
variable {X : Cx}
def rNeD (K : PySem.W.Frag) : R2 := fun x y H Q => ∃ d e, Dp K H x d ∧ Dp K H y e ∧ SeqAt.shaped d = true ∧ SeqAt.shaped e = true ∧ Q (.bl (!PyData.eqv d e)) H
theorem op_neD (hu : X.A.units + 64 < cLine) : OpR X (compareOp .NotEq) (rNeD X.K) := by
  intro pins s σ H x y v u Q I rx ry h
  obtain ⟨d, e, hd, he, sd, se, q⟩ := h
  obtain ⟨as, r1⟩ := Dp.reads I d x v hd rx
  obtain ⟨bs, r2⟩ := Dp.reads I e y u he ry
  exact SeqAt.compareNe_shaped r1 r2 sd se hu ⟨.bl _, H, I, rfl, q⟩
end
end L2

namespace L2
open PySem PySem.Spec PyProof.Rows
abbrev CellAt (h : Heap) (c : Addr) (v : Option Value) : Prop := h.IsCell c v
def relS (scope sc : Scope) : Scope :=
  { scope with names := scope.names.map fun (n, k) => if (k == .free && sc.kind == .function && sc.names.lookup n == some .cell) then (n, .cell) else (n, k) }

def cloFrom (cells : List (Str × Addr)) : List (Str × NameKind) → List (Str × Addr) → List (Str × Addr)
  | [], acc => acc
  | (n, k) :: r, acc => if k == .free then cloFrom cells r ((n, (cells.lookup n).getD 0) :: acc) else cloFrom cells r acc

theorem closure_loop (env : Env) (f : Str × NameKind → List (Str × Addr) → Sem (ForInStep (List (Str × Addr))))
    (hf : ∀ n k c, f (n, k) c = if k == .free then (do let a ← cellOf env n; pure (.yield ((n, a) :: c))) else pure (.yield c)) :
    ∀ (names : List (Str × NameKind)) (acc : List (Str × Addr)), (∀ y ∈ names, y.2 = .free → ∃ c, env.cells.lookup y.1 = some c) → forIn names acc f = pure (cloFrom env.cells names acc)
  | [], acc, _ => by rw [List.forIn_nil]; rfl
  | (n, k) :: r, acc, h => by
    rw [List.forIn_cons, hf]
    have ih := fun acc => closure_loop env f hf r acc fun y hy => h y (List.mem_cons_of_mem _ hy)
    unfold cloFrom
    by_cases hk : (k == NameKind.free) = true
    · rw [if_pos hk, if_pos hk]
      obtain ⟨c, hc⟩ := h (n, k) List.mem_cons_self (by simpa using hk)
      have e : cellOf env n = pure c := by unfold cellOf; rw [hc]
      rw [e]
      have e2 : (env.cells.lookup n).getD 0 = c := by rw [hc]; rfl
      rw [e2]
      exact ih _
    · rw [if_neg hk, if_neg hk]
      exact ih _
theorem closure_ok {scope : Scope} {env : Env} (h : ∀ y ∈ scope.names, y.2 = .free → ∃ c, env.cells.lookup y.1 = some c) : closureFor scope env = pure (cloFrom env.cells scope.names []) := by
  simp only [closureFor]
  rw [closure_loop env _ (fun n k c => rfl) scope.names [] h]
  rfl

theorem mem_lookup {α : Type} : ∀ {l : List (Str × α)} {n : Str} {c : α}, (n, c) ∈ l → ∃ c', l.lookup n = some c'
  | (k, v) :: r, n, c, h => by
    rw [List.lookup_cons]
    cases hb : n == k with
    | true => exact ⟨_, rfl⟩
    | false =>
      rcases List.mem_cons.mp h with e | h
      · cases e; simp at hb
      · exact mem_lookup h

theorem cloFrom_mem {cells : List (Str × Addr)} : ∀ {names : List (Str × NameKind)} {acc : List (Str × Addr)} {n : Str} {c : Addr}, (n, c) ∈ cloFrom cells names acc → (n, c) ∈ acc ∨ ((n, .free) ∈ names ∧ c = (cells.lookup n).getD 0)
  | [], _, _, _, h => .inl h
  | (m, k) :: r, acc, n, c, h => by
    unfold cloFrom at h
    split at h
    · rename_i hk
      have hk : k = .free := by simpa using hk
      rcases cloFrom_mem h with h | ⟨h1, h2⟩
      · rcases List.mem_cons.mp h with e | h
        · cases e; exact .inr ⟨hk ▸ List.mem_cons_self, rfl⟩
        · exact .inl h
      · exact .inr ⟨List.mem_cons_of_mem _ h1, h2⟩
    · rcases cloFrom_mem h with h | ⟨h1, h2⟩
      · exact .inl h
      · exact .inr ⟨List.mem_cons_of_mem _ h1, h2⟩
theorem cloFrom_acc {cells : List (Str × Addr)} : ∀ {names : List (Str × NameKind)} {acc : List (Str × Addr)} {p : Str × Addr}, p ∈ acc → p ∈ cloFrom cells names acc
  | [], _, _, h => h
  | (m, k) :: r, acc, p, h => by
    unfold cloFrom
    split
    · exact cloFrom_acc (List.mem_cons_of_mem _ h)
    · exact cloFrom_acc h
theorem cloFrom_has {cells : List (Str × Addr)} : ∀ {names : List (Str × NameKind)} {acc : List (Str × Addr)} {n : Str}, (n, .free) ∈ names → (n, (cells.lookup n).getD 0) ∈ cloFrom cells names acc
  | (m, k) :: r, acc, n, h => by
    unfold cloFrom
    rcases List.mem_cons.mp h with e | h
    · cases e
      exact cloFrom_acc List.mem_cons_self
    · split
      · exact cloFrom_has h
      · exact cloFrom_has h

theorem cells_mem : ∀ {names : List (Str × NameKind)} {h : Heap} {acc : List (Str × Addr)} {x : Str} {c : Addr}, (x, c) ∈ cellsFrom h.objs.size names acc →
    (x, c) ∈ acc ∨ ((x, .cell) ∈ names ∧ h.objs.size ≤ c ∧ CellAt (pushCells h names) c none)
  | [], _, _, _, _, h => .inl h
  | (n, k) :: r, h, acc, x, c, hm => by
    unfold cellsFrom at hm
    unfold pushCells
    split at hm
    · rename_i hk
      rw [if_pos hk]
      have hk : k = .cell := by simpa using hk
      rw [← Heap.size_push h { cls := .type "cell", data := .cell none }] at hm
      rcases cells_mem hm with hm | ⟨h1, h2, h3⟩
      · rcases List.mem_cons.mp hm with e | hm
        · cases e
          exact .inr ⟨hk ▸ List.mem_cons_self, Nat.le_refl _, _, pushCells_keeps r _ _ _ (Heap.get?_push_size _ rfl), rfl⟩
        · exact .inl hm
      · rw [Heap.size_push] at h2
        exact .inr ⟨List.mem_cons_of_mem _ h1, Nat.le_of_succ_le h2, h3⟩
    · rename_i hk
      rw [if_neg hk]
      rcases cells_mem hm with hm | ⟨h1, h2, h3⟩
      · exact .inl hm
      · exact .inr ⟨List.mem_cons_of_mem _ h1, h2, h3⟩
theorem cells_acc : ∀ {names : List (Str × NameKind)} {n : Nat} {acc : List (Str × Addr)} {p : Str × Addr}, p ∈ acc → p ∈ cellsFrom n names acc
  | [], _, _, _, h => h
  | (m, k) :: r, n, acc, p, h => by
    unfold cellsFrom
    split
    · exact cells_acc (List.mem_cons_of_mem _ h)
    · exact cells_acc h
theorem cells_has : ∀ {names : List (Str × NameKind)} {n : Nat} {acc : List (Str × Addr)} {x : Str}, (x, .cell) ∈ names → ∃ c, (x, c) ∈ cellsFrom n names acc
  | (m, k) :: r, n, acc, x, h => by
    unfold cellsFrom
    rcases List.mem_cons.mp h with e | h
    · cases e
      exact ⟨n, cells_acc List.mem_cons_self⟩
    · split
      · exact cells_has h
      · exact cells_has h
theorem cells_inj : ∀ {names : List (Str × NameKind)} {h : Heap} {acc : List (Str × Addr)} {x y : Str} {c : Addr}, (∀ p ∈ acc, p.2 < h.objs.size) → (∀ x y c, (x, c) ∈ acc → (y, c) ∈ acc → x = y) →
    (x, c) ∈ cellsFrom h.objs.size names acc → (y, c) ∈ cellsFrom h.objs.size names acc → x = y
  | [], _, _, _, _, _, _, hi, h1, h2 => hi _ _ _ h1 h2
  | (n, k) :: r, h, acc, x, y, c, hl, hi, h1, h2 => by
    unfold cellsFrom at h1 h2
    split at h1
    · rename_i hk
      rw [if_pos hk] at h2
      rw [← Heap.size_push h { cls := .type "cell", data := .cell none }] at h1 h2
      refine cells_inj (h := h.push _) (fun p hp => ?_) (fun x y c a b => ?_) h1 h2
      · rw [Heap.size_push]
        rcases List.mem_cons.mp hp with rfl | hp
        · exact Nat.lt_succ_self _
        · exact Nat.lt_succ_of_lt (hl p hp)
      · rcases List.mem_cons.mp a with e | a <;> rcases List.mem_cons.mp b with e' | b
        · cases e; cases e'; rfl
        · cases e; exact absurd (hl _ b) (Nat.lt_irrefl _)
        · cases e'; exact absurd (hl _ a) (Nat.lt_irrefl _)
        · exact hi _ _ _ a b
    · rename_i hk
      rw [if_neg hk] at h2
      exact cells_inj hl hi h1 h2

theorem newEnv_comp {M : Model} {A : Around} {E : Value → Shared → Prop} {s : Shared} {scope : Scope} {globals : Addr} {closure : List (Str × Addr)} {qual : Str} {func : Option Addr} {code : Value} {around : Env} {builtins : Addr} {Q : Env → Shared → Prop}
    (h : Q (newEnv scope s.heap.objs.size globals (cellsFrom (s.heap.objs.size + 1) scope.names closure) qual func code (some around) builtins)
      { s with heap := pushCells (s.heap.push { cls := .type "dict", data := .dict #[] }) scope.names }) :
    wpAny M A (newFunctionEnv scope globals closure [] qual func code (some around) builtins) Q E s := by
  simp only [newFunctionEnv, Option.isSome_some, if_true]
  refine wpAny_bind (wpAny_alloc ?_)
  refine wpAny_bind (wpAny_layCells _ (fun n k c => rfl) scope.names closure _ _ ?_)
  rw [show ({ s with heap := s.heap.push { cls := .type "dict", data := .dict #[] } } : Shared).heap.objs.size = s.heap.objs.size + 1 from Heap.size_push ..]
  rw [List.forIn_nil]
  exact wpAny_bind (wpAny_pure (wpAny_pure h))

theorem lookup_relS {sc : Scope} : ∀ {names : List (Str × NameKind)} {x : Str} {k : NameKind},
    (names.map fun (n, k) => if (k == NameKind.free && sc.kind == .function && sc.names.lookup n == some .cell) then (n, NameKind.cell) else (n, k)).lookup x = some k →
    ∃ k', names.lookup x = some k' ∧ (k = k' ∨ (k' = .free ∧ k = .cell))
  | [], _, _, h => by simp at h
  | (n, k₀) :: r, x, k, h => by
    have ih := @lookup_relS sc r x k
    have h' : List.lookup x ((if (k₀ == NameKind.free && sc.kind == .function && sc.names.lookup n == some .cell) = true then (n, NameKind.cell) else (n, k₀)) :: (r.map _)) = some k := h
    cases hx : x == n with
    | true =>
      simp only [List.lookup_cons, hx]
      by_cases hc : (k₀ == NameKind.free && sc.kind == .function && sc.names.lookup n == some .cell) = true
      · rw [if_pos hc] at h'
        simp only [List.lookup_cons, hx] at h'
        cases h'
        simp only [Bool.and_eq_true, beq_iff_eq] at hc
        exact ⟨k₀, rfl, .inr ⟨hc.1.1, rfl⟩⟩
      · rw [if_neg hc] at h'
        simp only [List.lookup_cons, hx] at h'
        cases h'
        exact ⟨_, rfl, .inl rfl⟩
    | false =>
      simp only [List.lookup_cons, hx]
      by_cases hc : (k₀ == NameKind.free && sc.kind == .function && sc.names.lookup n == some .cell) = true
      · rw [if_pos hc] at h'
        simp only [List.lookup_cons, hx] at h'
        exact ih h'
      · rw [if_neg hc] at h'
        simp only [List.lookup_cons, hx] at h'
        exact ih h'
structure BlkOk (N : List Str) (sc scope : Scope) (own : List (Str × Nat)) : Prop where
  kind : scope.kind = .function
  uniq : ∀ y ∈ scope.names, scope.names.lookup y.1 = some y.2
  ix : ∀ p ∈ own, N[p.2]? = some p.1
  free : ∀ y ∈ scope.names, y.2 = .free → sc.names.lookup y.1 = some .cell ∨ sc.names.lookup y.1 = some .free
  own : ∀ y ∈ scope.names, y.2 = .local ∨ y.2 = .cell → y.1 ∈ own.map (·.1) ∨ y.1 ∉ N
def wipe (σ : St) : List Nat → St
  | [] => σ
  | v :: vs => (wipe σ vs).set v none
theorem wipe_length (σ : St) : ∀ vs : List Nat, (wipe σ vs).length = σ.length
  | [] => rfl
  | v :: vs => by unfold wipe; rw [List.length_set, wipe_length σ vs]
theorem wipe_some {σ : St} {i : Nat} {x : V} : ∀ {vs : List Nat}, (wipe σ vs)[i]? = some (some x) → σ[i]? = some (some x) ∧ i ∉ vs
  | [], h => ⟨h, by simp⟩
  | v :: vs, h => by
    unfold wipe at h
    by_cases hi : v = i
    · subst hi
      by_cases hv : v < (wipe σ vs).length
      · rw [List.getElem?_set_self hv] at h; cases h
      · rw [List.getElem?_eq_none (by simpa using hv)] at h; cases h
    · rw [List.getElem?_set_ne hi] at h
      obtain ⟨h1, h2⟩ := wipe_some h
      exact ⟨h1, by simp only [List.mem_cons, not_or]; exact ⟨fun e => hi e.symm, h2⟩⟩

abbrev Cx.blk (X : Cx) (s : Shared) (H : Hp) (scope : Scope) (cenv : Env) (fp : List Addr) : Cx := { X with s_0 := s, H_0 := H, env := cenv, outer := X.stack, ex := fp, fn := fun x => scope.names.lookup x == some .cell, pn := [], xe := fun _ _ => False }
section
variable {X : Cx} {pins : List (Addr × Obj)} {σ : St} {H : Hp} {s : Shared}
theorem block_start {scope : Scope} {own : List (Str × Nat)} {fp : List Addr} (I : Inv X pins σ H s) (ok : BlkOk X.N X.env.scope scope own) (hN : X.N.Nodup) (hfp : ∀ b ∈ fp, FpOk X pins H b ∧ b < s.heap.objs.size) :
    Inv (X.blk s H scope (compEnvC scope (cellsFrom (s.heap.objs.size + 1) scope.names (cloFrom X.env.cells scope.names [])) s.heap.objs.size X.env) fp) [] (wipe σ (own.map (·.2))) H { s with heap := pushCells (s.heap.push { cls := .type "dict", data := .dict #[] }) scope.names } := by
  have hfree : ∀ y ∈ scope.names, y.2 = .free → ∃ c, X.env.cells.lookup y.1 = some c := fun y hy e => by
    rcases ok.free y hy e with k | k
    · exact I.ok.has _ (.inl k)
    · exact I.ok.has _ (.inr k)
  generalize hcenv : compEnvC scope (cellsFrom (s.heap.objs.size + 1) scope.names (cloFrom X.env.cells scope.names [])) s.heap.objs.size X.env = cenv
  have kp : ∀ b o, s.heap.get? b = some o → (pushCells (s.heap.push { cls := .type "dict", data := .dict #[] }) scope.names).get? b = some o := fun b o e => pushCells_keeps _ _ _ _ (Heap.get?_push_of_some _ e)
  have hL : cenv.locals = s.heap.objs.size := by rw [← hcenv]; rfl
  have hcl : cenv.cells = cellsFrom (s.heap.objs.size + 1) scope.names (cloFrom X.env.cells scope.names []) := by rw [← hcenv]; rfl
  have hsc : cenv.scope = relS scope X.env.scope := by rw [← hcenv]; rfl
  rw [← Heap.size_push s.heap { cls := .type "dict", data := .dict #[] }] at hcl
  have cm : ∀ {y c}, (y, c) ∈ cloFrom X.env.cells scope.names [] → X.env.cells.lookup y = some c ∧ c < s.heap.objs.size := fun {y c} hm => by
    rcases cloFrom_mem hm with hm | ⟨h1, rfl⟩
    · cases hm
    · obtain ⟨c, hc⟩ := hfree _ h1 rfl
      rw [hc]
      obtain ⟨w, z⟩ := I.cell _ _ hc
      exact ⟨rfl, z.lt⟩
  have mem : ∀ {y c}, cenv.cells.lookup y = some c → (X.env.cells.lookup y = some c ∧ c < s.heap.objs.size) ∨ (s.heap.objs.size + 1 ≤ c ∧ CellAt (pushCells (s.heap.push { cls := .type "dict", data := .dict #[] }) scope.names) c none) := fun {y c} e => by
    rw [hcl] at e
    rcases cells_mem (PySem.mem_of_lookup e) with hm | ⟨_, h2, h3⟩
    · exact .inl (cm hm)
    · rw [Heap.size_push] at h2; exact .inr ⟨h2, h3⟩
  have look : ∀ {y}, scope.names.lookup y = some .free → ∃ c, cenv.cells.lookup y = some c ∧ X.env.cells.lookup y = some c := fun {y} hl => by
    have hy : (y, NameKind.free) ∈ scope.names := PySem.mem_of_lookup hl
    obtain ⟨c', e'⟩ := mem_lookup (cells_acc (names := scope.names) (n := (s.heap.push { cls := .type "dict", data := .dict #[] }).objs.size) (cloFrom_has (cells := X.env.cells) (acc := []) hy))
    rw [← hcl] at e'
    refine ⟨c', e', ?_⟩
    rw [hcl] at e'
    rcases cells_mem (PySem.mem_of_lookup e') with hm | ⟨h1, _, _⟩
    · exact (cm hm).1
    · have := ok.uniq _ h1
      rw [hl] at this; cases this
  have okB : (X.blk s H scope cenv fp).Ok := by
    refine ⟨I.ok.mod, by show cenv.scope.kind = _; rw [hsc]; exact ok.kind, by show cenv.globals = _; rw [← hcenv]; exact I.ok.glob, by show cenv.builtins = _; rw [← hcenv]; exact I.ok.blt, by show s.heap.objs.size ≤ cenv.locals; rw [hL]; exact Nat.le_refl _,
      fun y z c e1 e2 => ?_, fun y hy => ?_, fun y c z e => ?_, I.ok.hd, I.ok.frames, .inl rfl, fun b hb => ⟨?_, fun y c e z => ?_⟩, I.bs, Nat.le_trans I.ok.bsz I.sz, fun b o e hb => ?_, fun b hb z => ?_, I.stack, I.stkFree⟩
    · have e1 : cenv.cells.lookup y = some c := e1
      have e2 : cenv.cells.lookup z = some c := e2
      rw [hcl] at e1 e2
      refine cells_inj (fun p hp => ?_) (fun y z c a b => I.ok.inj y z c (cm a).1 (cm b).1) (PySem.mem_of_lookup e1) (PySem.mem_of_lookup e2)
      rw [Heap.size_push]
      exact Nat.lt_succ_of_lt (cm (y := p.1) (c := p.2) hp).2
    · show ∃ c, cenv.cells.lookup y = some c
      have key : ∀ k, cenv.kindOf y = some k → (k = .cell ∨ k = .free) → ∃ c, cenv.cells.lookup y = some c := fun k hk hk' => by
        unfold Env.kindOf at hk
        rw [hsc] at hk
        obtain ⟨k', e, r⟩ := lookup_relS hk
        have : k' = .cell ∨ k' = .free := by
          rcases r with rfl | ⟨rfl, _⟩
          · exact hk'
          · exact .inr rfl
        rcases this with rfl | rfl
        · obtain ⟨c, hm⟩ := cells_has (n := (s.heap.push { cls := .type "dict", data := .dict #[] }).objs.size) (acc := cloFrom X.env.cells scope.names []) (PySem.mem_of_lookup e)
          obtain ⟨c', e'⟩ := mem_lookup hm
          exact ⟨c', by rw [hcl]; exact e'⟩
        · obtain ⟨c, h1, _⟩ := look e
          exact ⟨c, h1⟩
      rcases hy with hy | hy
      · exact key _ hy (.inl rfl)
      · exact key _ hy (.inr rfl)
    · have z : (scope.names.lookup y == some NameKind.cell) = true := z
      have z : scope.names.lookup y = some .cell := by simpa using z
      have e : cenv.cells.lookup y = some c := e
      rw [hcl] at e
      rcases cells_mem (PySem.mem_of_lookup e) with hm | ⟨_, h2, _⟩
      · rcases cloFrom_mem hm with hm | ⟨h1, _⟩
        · cases hm
        · have q := ok.uniq _ h1
          rw [z] at q; cases q
      · rw [Heap.size_push] at h2
        exact Nat.le_of_succ_le h2
    · show b ≠ cenv.locals
      rw [hL]; exact Nat.ne_of_lt (hfp b hb).2
    · have e : cenv.cells.lookup y = some c := e
      rcases mem e with ⟨h1, _⟩ | ⟨h1, _⟩
      · exact (hfp b hb).1.2.2.2.2.1 y c h1 z
      · have h2 : s.heap.objs.size + 1 ≤ b := by rw [← z]; exact h1
        exact absurd (Nat.lt_of_lt_of_le (hfp b hb).2 (Nat.le_of_succ_le h2)) (Nat.lt_irrefl _)
    · rcases (hfp b hb).1.2.2.2.1 with z | z
      · exact I.ok.noex b o e z
      · exact absurd (Nat.lt_of_lt_of_le (Heap.lt_size e) (Nat.le_trans I.ok.bsz z)) (Nat.lt_irrefl _)
    · rcases List.mem_cons.mp (I.stkSub b z) with z | z
      · exact (hfp b hb).1.2.1 z
      · exact (hfp b hb).1.2.2.1 z
  refine ⟨okB, rfl, I.bare, Un.kept kp, ⟨fun _ => none, ?_, fun i y av e1 e2 e3 => ?_⟩, fun y c e => ?_, ?_, fun y c e => ?_, fun p hp => ?_, I.hok.kept kp, by rw [wipe_length]; exact I.len⟩
  · show Heap.Ns _ cenv.locals _
    rw [hL]
    exact Heap.Ns.keeps (Heap.Ns.new ..) fun b o e => pushCells_keeps _ _ _ _ e
  · obtain ⟨e2, hne⟩ := wipe_some e2
    have hfr : scope.names.lookup y = some .free ∧ (cenv.kindOf y = some .cell ∨ cenv.kindOf y = some .free) := by
      have key : ∀ k, cenv.scope.names.lookup y = some k → k = .local ∨ k = .cell ∨ k = .free → scope.names.lookup y = some .free ∧ (cenv.kindOf y = some .cell ∨ cenv.kindOf y = some .free) := fun k hk hk' => by
        have hk0 := hk
        rw [hsc] at hk
        obtain ⟨k', e, r⟩ := lookup_relS hk
        have no : ¬ (k' = .local ∨ k' = .cell) := fun hh => by
          rcases ok.own _ (PySem.mem_of_lookup e) hh with e' | e'
          · obtain ⟨p, hp, hpy⟩ := List.mem_map.mp e'
            have e3 := ok.ix p hp
            have : p.1 = y := hpy
            rw [this] at e3
            exact hne (List.mem_map.mpr ⟨p, hp, nodup_ix hN e3 e1⟩)
          · exact e' (List.mem_of_getElem? e1)
        rcases r with rfl | ⟨rfl, rfl⟩
        · rcases hk' with rfl | rfl | rfl
          · exact absurd (.inl rfl) no
          · exact absurd (.inr rfl) no
          · exact ⟨e, .inr hk0⟩
        · exact ⟨e, .inl hk0⟩
      have e3 : Vis cenv.scope y := e3
      rcases e3 with e3 | e3 | e3
      · exact key _ e3 (.inl rfl)
      · exact key _ e3 (.inr (.inl rfl))
      · exact key _ e3 (.inr (.inr rfl))
    obtain ⟨m, hn, hl⟩ := I.loc
    have hvis : Vis X.env.scope y := (ok.free _ (PySem.mem_of_lookup hfr.1) rfl).elim (fun k => .inr (.inl k)) (fun k => .inr (.inr k))
    obtain ⟨w, r, q⟩ := hl i y av e1 e2 hvis
    refine ⟨w, r, .inr ⟨hfr.2, ?_⟩⟩
    obtain ⟨c, h1, h2⟩ := look hfr.1
    rcases q with ⟨k, _⟩ | ⟨_, c', e', z⟩
    · have k : X.env.scope.names.lookup y = some .local := k
      rcases ok.free _ (PySem.mem_of_lookup hfr.1) rfl with k' | k' <;> rw [show X.env.scope.names.lookup y = _ from k'] at k <;> cases k
    · rw [h2] at e'; cases e'
      exact ⟨c, h1, z.keeps kp⟩
  · have e : cenv.cells.lookup y = some c := e
    rcases mem e with ⟨h1, _⟩ | ⟨_, z⟩
    · obtain ⟨w, z⟩ := I.cell y c h1
      exact ⟨w, z.keeps kp⟩
    · exact ⟨_, z⟩
  · show H cenv.locals = none
    rw [hL]; exact I.hok.fresh (Nat.le_refl _)
  · have e : cenv.cells.lookup y = some c := e
    rcases mem e with ⟨h1, _⟩ | ⟨h1, _⟩
    · exact I.freeC y c h1
    · exact I.hok.fresh (Nat.le_of_succ_le h1)
  · exact absurd (show p ∈ ([] : List (Addr × Obj)) ++ [] from hp) (by simp)

theorem app_ok {E : Value → Shared → Prop} {D : Addr} {xs : List V} {y : V} {v : Value} {Q : Value → Shared → Prop} (I : Inv X pins σ H s) (hD : H D = some (.lst xs)) (hz : xs.length < sizeLine) (r : RelV y v)
    (h : ∀ s', Inv X pins σ (upd H D (.lst (xs ++ [y]))) s' → Q .none s') : wpAny (model X.prog X.w) X.A (call (.builtin "list.append") [.ref D, v]) Q E s := by
  obtain ⟨hz', its, n, ri, e⟩ := I.hok D _ hD
  have hl := ri.length
  refine append_at (hsz := by rw [List.size_toArray]; omega) e fun h' sb ho' => ?_
  refine h { s with heap := h' } (I.write (t' := s.toks) (by rw [hD]; trivial) (.inl rfl) (fun b u hb q => (sb.2 b hb).trans q) ⟨_, ho'⟩ ⟨by rw [List.length_append]; exact hz, its ++ [v], n + 1, ri.append (.cons r .nil), ?_⟩)
  rw [ho']
  simp

def PTs (X : Cx) (ifs : List Expr) (t : TT) : Prop :=
  ∀ (pins : List (Addr × Obj)) (s : Shared) (σ : St) (H : Hp) (Q : Bool → Hp → Prop), Inv X pins σ H s → t σ H Q →
    wpAny (model X.prog X.w) X.A (forIn ifs true fun c r => if r = true then do let ok ← isTrue c X.env (eval c X.env); pure (ForInStep.yield ok) else pure (ForInStep.yield r)) (TP X pins σ Q) X.xe s
def tYes : TT := fun _ H Q => Q true H
theorem pts_nil : PTs X [] tYes := fun _ _ _ H _ I h => wpAny_tests_nil ⟨H, I, h⟩
theorem pts_one {c : Expr} {t : TT} (h : PT X c t) : PTs X [c] t := fun pins s σ H Q I hw => wpAny_tests_one (h pins s σ H Q I hw)
end

theorem thnF {α : Type} {t : Sem α} {Q Q' : α → Shared → Prop} {M : Model} {A : Around} {E : Value → Shared → Prop} {s : Shared} (h : wpAny M A t Q (fun _ _ => False) s) (hQ : ∀ a s, Q a s → Q' a s) : wpAny M A t Q' E s := wpAny_mono h hQ fun _ _ z => False.elim z

theorem compLoop_any {prog : Program} {w : World} {A : Around} {R : Result → Shared → Prop} {s : Shared} {elt target iter : Expr} {ifs : List Expr} {scope : Scope} {pos : Pos} {it acc : Value} {env : Env} (I : Nat → Shared → Prop)
    (turn : ∀ n s, I n s → wpAny (model prog w) A (pyNext it) (fun r s₁ => match r with
      | none => R (.ok .next) s₁
      | some v => wpAny (model prog w) A (letOwnedTupleGo target it v) (fun _ s₁' => wpAny (model prog w) A (assign target env v) (fun _ s₂ =>
          wpAny (model prog w) A (forIn ifs true fun c r => if r = true then do let ok ← isTrue c env (eval c env); pure (ForInStep.yield ok) else pure (ForInStep.yield r)) (fun ok s₃ =>
            if ok = true then wpAny (model prog w) A (eval elt env) (fun x s₄ =>
              wpAny (model prog w) A (call (.builtin "list.append") [acc, x]) (fun _ s₅ => ∃ m, m < n ∧ I m s₅) (notedBy (model prog w) A env fun e s' => R (.error e) s') s₄) (notedBy (model prog w) A env fun e s' => R (.error e) s') s₃
            else ∃ m, m < n ∧ I m s₃) (notedBy (model prog w) A env fun e s' => R (.error e) s') s₂) (notedBy (model prog w) A env fun e s' => R (.error e) s') s₁') (notedBy (model prog w) A env fun e s' => R (.error e) s') s₁) (notedBy (model prog w) A env fun e s' => R (.error e) s') s)
    (n : Nat) (h : I n s) :
    codeAny (model prog w) A (.compLoop (.ListComp elt [⟨target, iter, ifs, 0⟩] scope pos) 0 it acc env) R s := by
  refine codeAny_loop rfl I (fun n s hI => ?_) n h
  show wpAny _ A ((compTurn (.ListComp elt [⟨target, iter, ifs, 0⟩] scope pos) 0 it acc env).onRaise (fun x => do noteFrame x env; theTreesLotGoes x)) _ _ s
  refine wpAny_noted ?_
  rw [compTurn_list]
  refine wpAny_bind (wpAny_standAt (wpAny_bind (wpAny_mono (turn n s hI) (fun r s₁ h₁ => ?_) fun _ _ h' => h')))
  cases r with
  | none => exact wpAny_pure h₁
  | some v =>
    refine wpAny_bind (wpAny_mono h₁ (fun _ s₁' h₁' => ?_) fun _ _ h' => h')
    refine wpAny_bind (wpAny_mono h₁' (fun _ s₂ h₂ => wpAny_bind (wpAny_mono h₂ (fun ok s₃ h₃ => ?_) fun _ _ h' => h')) fun _ _ h' => h')
    cases ok with
    | false => exact wpAny_pure ⟨rfl, h₃⟩
    | true =>
      exact wpAny_bind (wpAny_bind (wpAny_mono h₃ (fun x s₄ h₄ => wpAny_bind (wpAny_mono h₄ (fun _ s₅ h₅ => wpAny_pure (wpAny_pure ⟨rfl, h₅⟩)) fun _ _ h' => h')) fun _ _ h' => h'))

section
variable {X : Cx}
def tLc (wi : TI) (g : TG) (tt : TT) (te : TE) (vs : List Nat) : TE := fun σ H Q => wi σ H fun J H1 => ∀ D, H1 D = none → ∃ W : Nat → Nat → Hp → Prop, (∃ m, W 0 m (upd H1 D (.lst []))) ∧ ∀ i m H, W i m H →
  (J.stop i H ∧ Q (.ref D) H) ∨ (J.go i H ∧ ∃ Nx : Hp → Prop, (∀ H', Nx H' → ∃ m', m' < m ∧ W (i + 1) m' H') ∧ ∀ x H', J.yld i H x H' → g x (wipe σ vs) H' fun σ2 H2 => wipe σ2 vs = wipe σ vs ∧ tt σ2 H2 fun b H3 =>
    if b = true then te σ2 H3 fun y H4 => ∃ acc, H4 D = some (.lst acc) ∧ acc.length < sizeLine ∧ Nx (upd H4 D (.lst (acc ++ [y]))) else Nx H3)
theorem lc_core {pins : List (Addr × Obj)} {s : Shared} {σ : St} {H : Hp} {Q : VK} {elt tg iter : Expr} {ifs : List Expr} {scope : Scope} {own : List (Str × Nat)} {pos pos' : Pos} {wi : TI} {g : TG} {tt : TT} {te : TE} {use : Option (Value → Sem Unit)} {Qf : Value → Shared → Prop}
    (hc : X.calm = true) (hN : X.N.Nodup) (I : Inv X pins σ H s) (hi : PI X tg iter wi) (ok : BlkOk X.N X.env.scope scope own)
    (hg : ∀ (s : Shared) (H : Hp) (C : Addr) (cl : List (Str × Addr)) (fp : List Addr), PG (X.blk s H scope (compEnvC scope cl C X.env) fp) tg g) (ht : ∀ (s : Shared) (H : Hp) (C : Addr) (cl : List (Str × Addr)) (fp : List Addr), PTs (X.blk s H scope (compEnvC scope cl C X.env) fp) ifs tt)
    (he : ∀ (s : Shared) (H : Hp) (C : Addr) (cl : List (Str × Addr)) (fp : List Addr), PE (X.blk s H scope (compEnvC scope cl C X.env) fp) elt te) (hs : ∀ x, foldedSetIterable iter X.env x = pure x)
    (h : tLc wi g tt te (own.map (·.2)) σ H Q)
    (hRR : ∀ D C s' m H', Inv X pins σ H' s' → Q (.ref D) H' → s'.heap.Ns C m → FpOk X pins H' C → compPost (model X.prog X.w) X.A X.xe use Qf (.ref D) C (.ok .next) s') :
    wpAny (model X.prog X.w) X.A (comprehension (.ListComp elt [⟨tg, iter, ifs, 0⟩] scope pos) scope X.env pos' (newList []) false (eval iter X.env) use) Qf X.xe s := by
  have hfree : ∀ y ∈ scope.names, y.2 = .free → ∃ c, X.env.cells.lookup y.1 = some c := fun y hy e => by
    rcases ok.free y hy e with k | k
    · exact I.ok.has _ (.inl k)
    · exact I.ok.has _ (.inr k)
  refine wpAny_comprehension_free (use := use) rfl hs (closure_ok hfree) ok.kind (fun y hy e => by rw [ok.uniq y hy, e])
    (thn (hi pins s σ H _ I h) fun xv s1 hx => thn hx fun itv s2 h2 => ?_)
  obtain ⟨it, fp, tn, J, H2, e, I2, T, st2, f2, q⟩ := h2
  subst e
  refine wpAny_newObj_type (newEnv_comp ?_) (by show 0 ≤ sizeLine; decide)
  generalize hD : s2.heap.objs.size = D
  have hDn : H2 D = none := I2.hok.fresh (Nat.le_of_eq hD)
  obtain ⟨W, ⟨m0, w0⟩, turn⟩ := q D hDn
  -- the new list
  generalize hs3 : ({ s2 with heap := s2.heap.push { cls := .type "list", data := .seq ([] : List Value).toArray } } : Shared) = s3
  have I3 : Inv X pins σ (upd H2 D (.lst [])) s3 := by
    rw [← hs3]
    refine I2.laid (t' := s2.toks) (fun b o e => Heap.get?_push_of_some _ e) (Nat.le_of_eq hD) ⟨Nat.zero_le _, [], 0, .nil, ?_⟩
    rw [← hD]
    exact Heap.get?_push_size _ rfl
  have h3 : s3.heap = s2.heap.push { cls := .type "list", data := .seq ([] : List Value).toArray } := by rw [← hs3]
  have sz : ∀ b ∈ fp, b < s2.heap.objs.size := fun b hb => by
    obtain ⟨o, e, _⟩ := T.obj _ _ st2 b hb
    exact Heap.lt_size e
  have f3 : ∀ b ∈ fp, FpOk X pins (upd H2 D (.lst [])) b ∧ b < s3.heap.objs.size := fun b hb => by
    have hlt := sz b hb
    refine ⟨⟨?_, (f2 b hb).2⟩, by rw [h3, Heap.size_push]; exact Nat.lt_succ_of_lt hlt⟩
    rw [upd_ne (by rw [← hD]; exact Nat.ne_of_lt hlt)]
    exact (f2 b hb).1
  have st3 : tn 0 s3.heap := T.keep _ _ _ st2 fun b _ o e => by rw [h3]; exact Heap.get?_push_of_some _ e
  have I4 := block_start I3 ok hN f3
  have pg := hg s3 (upd H2 D (.lst [])) s3.heap.objs.size (cellsFrom (s3.heap.objs.size + 1) scope.names (cloFrom X.env.cells scope.names [])) fp
  have pt := ht s3 (upd H2 D (.lst [])) s3.heap.objs.size (cellsFrom (s3.heap.objs.size + 1) scope.names (cloFrom X.env.cells scope.names [])) fp
  have pe := he s3 (upd H2 D (.lst [])) s3.heap.objs.size (cellsFrom (s3.heap.objs.size + 1) scope.names (cloFrom X.env.cells scope.names [])) fp
  show codeAny _ _ (.compStart (.ListComp elt [⟨tg, iter, ifs, 0⟩] scope pos) 0 (.ref it) (.ref D) (compEnvC scope (cellsFrom (s3.heap.objs.size + 1) scope.names (cloFrom X.env.cells scope.names [])) s3.heap.objs.size X.env)) (compPost (model X.prog X.w) X.A X.xe use Qf (.ref D) s3.heap.objs.size) { s3 with heap := pushCells (s3.heap.push { cls := .type "dict", data := .dict #[] }) scope.names }
  have nfp : ∀ b ∈ fp, (upd H2 D (.lst [])) b = none := fun b hb => (f3 b hb).1.1
  generalize hce : compEnvC scope (cellsFrom (s3.heap.objs.size + 1) scope.names (cloFrom X.env.cells scope.names [])) s3.heap.objs.size X.env = ce at I4 pg pt pe ⊢
  have cL : ce.locals = s3.heap.objs.size := by subst hce; rfl
  generalize hH3 : upd H2 D (.lst []) = H3 at I3 I4 pg pt pe w0 nfp f3
  generalize hs4 : ({ s3 with heap := pushCells (s3.heap.push { cls := .type "dict", data := .dict #[] }) scope.names } : Shared) = s4 at I4 ⊢
  have st4 : tn 0 s4.heap := T.keep _ _ _ st3 fun b _ o e => by rw [← hs4]; exact pushCells_keeps _ _ _ _ (Heap.get?_push_of_some _ e)
  have stat : ∀ {σ' : St} {H' : Hp} {s' : Shared}, Inv (X.blk s3 H3 scope ce fp) [] σ' H' s' → (∀ b ∈ fp, H' b = none) → ∀ b ∈ fp, FpOk (X.blk s3 H3 scope ce fp) [] H' b := fun {σ' H' s'} I' hn b hb =>
    ⟨hn b hb, (I'.ok.exf b hb).1, I'.ok.exfs b hb, .inl hb, fun x c e => (I'.ok.exf b hb).2 x c e, fun p hp => absurd (show p ∈ ([] : List (Addr × Obj)) ++ [] from hp) (by simp)⟩
  have loop : codeAny (model X.prog X.w) X.A (.compLoop (.ListComp elt [⟨tg, iter, ifs, 0⟩] scope pos) 0 (.ref it) (.ref D) ce) (compPost (model X.prog X.w) X.A X.xe use Qf (.ref D) s3.heap.objs.size) s4 := by
    refine compLoop_any (fun n s' => ∃ i H', Inv (X.blk s3 H3 scope ce fp) [] (wipe σ (own.map (·.2))) H' s' ∧ tn i s'.heap ∧ (∀ b ∈ fp, H' b = none) ∧ W i n H') ?_ m0 ⟨0, H3, I4, st4, nfp, w0⟩
    rintro n s5 ⟨i, H5, I5, st5, n5, w5⟩
    rcases turn i n H5 w5 with ⟨stop, qq⟩ | ⟨go, Nx, hNx, step⟩
    · have td := T.done (X.blk s3 H3 scope ce fp) rfl rfl rfl hc i [] s5 _ H5 (fun _ _ => False) I5 (stat I5 n5) st5 stop
      refine thnF td fun r s6 ⟨hr, I6⟩ => ?_
      subst hr
      -- back in the def's context
      have I7 : Inv X pins σ H5 s6 := I3.call' (ch := fp) I6.os I6.base I6.hok I6.bare fun b hb => ⟨(f3 b hb).1.2.2.2.1, (f3 b hb).1.2.1, (f3 b hb).1.2.2.2.2.1, (f3 b hb).1.2.2.2.2.2⟩
      have nC : H5 s3.heap.objs.size = none := by
        have z : H5 ce.locals = none := I6.free
        rw [cL] at z
        exact z
      obtain ⟨m, hn, _⟩ := I6.loc
      have hn : s6.heap.Ns ce.locals m := hn
      rw [cL] at hn
      exact hRR D s3.heap.objs.size s6 m H5 I7 qq hn (I3.fpOk (Nat.le_refl _) nC)
    · have ti := T.item (X.blk s3 H3 scope ce fp) rfl rfl rfl hc i [] s5 _ H5 (fun _ _ => False) I5 (stat I5 n5) st5 go
      refine thnF ti fun r s6 ⟨u, hr, h6⟩ => ?_
      subst hr
      refine thnF h6 fun _ s7 ⟨x, H7, I7, r7, y7, st7, n7⟩ => ?_
      have I7' := I7.pinned (stat I7 n7) (T.obj _ _ st7)
      refine thnF (pg _ s7 _ H7 x u _ I7' r7 (step x H7 y7)) fun _ s8 ⟨σ8, H8, I8, hw8, q8⟩ => ?_
      refine thnF (pt _ s8 σ8 H8 _ I8 q8) fun b s9 ⟨H9, I9, q9⟩ => ?_
      -- the turn's end
      have fin : ∀ {s' : Shared} {H' : Hp}, Inv (X.blk s3 H3 scope ce fp) ([] ++ pinsAt fp s7.heap) σ8 H' s' → Nx H' → ∃ m, m < n ∧ ∃ i H', Inv (X.blk s3 H3 scope ce fp) [] (wipe σ (own.map (·.2))) H' s' ∧ tn i s'.heap ∧ (∀ b ∈ fp, H' b = none) ∧ W i m H' := fun {s' H'} I' nx => by
        obtain ⟨m', hm, w'⟩ := hNx H' nx
        have pin' : ∀ b ∈ fp, ∀ o, s7.heap.get? b = some o → s'.heap.get? b = some o ∧ H' b = none := fun b hb o e =>
          let z := I'.pin (b, o) (List.mem_append_right _ (List.mem_append_right _ (mem_pinsAt hb e)))
          ⟨z.1, z.2.1⟩
        have hl : (wipe σ (own.map (·.2))).length = σ8.length := by rw [← hw8, wipe_length]
        refine ⟨m', hm, i + 1, H', (I'.unpinned (pins := [])).weak hl (fun j v e => ?_), T.keep _ _ _ st7 fun b hb o e => (pin' b hb o e).1, fun b hb => ?_, w'⟩
        · rw [← hw8] at e
          exact (wipe_some e).1
        · obtain ⟨o, e, _⟩ := T.obj _ _ st7 b hb
          exact (pin' b hb o e).2
      cases b with
      | false =>
        simp only [Bool.false_eq_true, if_false] at q9 ⊢
        exact fin I9 q9
      | true =>
        simp only [if_true] at q9 ⊢
        refine thnF (pe _ s9 σ8 H9 _ I9 q9) fun z s10 ⟨yv, H10, I10, r10, acc, hD10, hz10, nx⟩ => ?_
        exact app_ok (X := X.blk s3 H3 scope ce fp) I10 hD10 hz10 r10 fun s11 I11 => fin I11 nx
  exact codeAny_compStart_list loop (T.self X.A 0 _ _ _ st4 loop)
theorem pe_lc {elt tg iter : Expr} {ifs : List Expr} {scope : Scope} {own : List (Str × Nat)} {pos : Pos} {wi : TI} {g : TG} {tt : TT} {te : TE} (hc : X.calm = true) (hN : X.N.Nodup) (hi : PI X tg iter wi) (ok : BlkOk X.N X.env.scope scope own)
    (hg : ∀ (s : Shared) (H : Hp) (C : Addr) (cl : List (Str × Addr)) (fp : List Addr), PG (X.blk s H scope (compEnvC scope cl C X.env) fp) tg g) (ht : ∀ (s : Shared) (H : Hp) (C : Addr) (cl : List (Str × Addr)) (fp : List Addr), PTs (X.blk s H scope (compEnvC scope cl C X.env) fp) ifs tt)
    (he : ∀ (s : Shared) (H : Hp) (C : Addr) (cl : List (Str × Addr)) (fp : List Addr), PE (X.blk s H scope (compEnvC scope cl C X.env) fp) elt te) (hs : ∀ x, foldedSetIterable iter X.env x = pure x := by intro _; rfl) :
    PE X (.ListComp elt [⟨tg, iter, ifs, 0⟩] scope pos) (tLc wi g tt te (own.map (·.2))) := by
  intro pins s σ H Q I h
  rw [eval_ListComp]
  refine lc_core hc hN I hi ok hg ht he hs h fun D C s' m H' I' q hn f => ⟨m, hn, fun h'' sb => ?_⟩
  obtain ⟨f0, f1, f2, f3, f4, f5⟩ := f
  exact ⟨.ref D, H', I'.turned (t' := s'.toks) (fun b o hb e => (sb.2 b hb).trans e) f0 f1 f3 f4 f5, rfl, q⟩
theorem ps_setLc {i : Nat} {y : Str} {py : Pos} {elt tg iter : Expr} {ifs : List Expr} {scope : Scope} {own : List (Str × Nat)} {pos spos : Pos} {wi : TI} {g : TG} {tt : TT} {te : TE} (hc : X.calm = true) (hN : X.N.Nodup) (hy : X.N[i]? = some y) (hyl : X.env.scope.names.lookup y = some .local)
    (hsw : swapsWith (.ListComp elt [⟨tg, iter, ifs, 0⟩] scope pos) (some (.Name y py)) spos.line X.env = pure true) (hi : PI X tg iter wi) (ok : BlkOk X.N X.env.scope scope own)
    (hg : ∀ (s : Shared) (H : Hp) (C : Addr) (cl : List (Str × Addr)) (fp : List Addr), PG (X.blk s H scope (compEnvC scope cl C X.env) fp) tg g) (ht : ∀ (s : Shared) (H : Hp) (C : Addr) (cl : List (Str × Addr)) (fp : List Addr), PTs (X.blk s H scope (compEnvC scope cl C X.env) fp) ifs tt)
    (he : ∀ (s : Shared) (H : Hp) (C : Addr) (cl : List (Str × Addr)) (fp : List Addr), PE (X.blk s H scope (compEnvC scope cl C X.env) fp) elt te) (hs : ∀ x, foldedSetIterable iter X.env x = pure x := by intro _; rfl) :
    PS X (.Assign [.Name y py] (.ListComp elt [⟨tg, iter, ifs, 0⟩] scope pos) spos) (tAsg (tLc wi g tt te (own.map (·.2))) (gName i)) := by
  intro pins s σ H D I h
  rw [exec_Assign_Name_used _ _ _ _ hsw]
  refine wpAny_bind (wpAny_standAt (wpAny_bind ?_))
  show wpAny _ X.A (do let _ ← comprehension (.ListComp elt [⟨tg, iter, ifs, 0⟩] scope pos) scope X.env (firstIterPos [⟨tg, iter, ifs, 0⟩] pos) (newList []) false (eval iter X.env) (some (assign (.Name y py) X.env))) _ _ s
  have h : tLc wi g tt te (own.map (·.2)) σ H (fun x H1 => gName i x σ H1 D.nx) := h
  refine wpAny_bind (thn (lc_core (Qf := fun _ s' => SP X pins D .next s') hc hN I hi ok hg ht he hs h fun L C s' m H' I' q hn f => ?_) fun _ s' hq => wpAny_pure (wpAny_pure hq))
  show wpAny _ _ (assign (.Name y py) X.env (.ref L)) _ _ _
  refine wpAny_assign_Name (store_ok2 (v := V.ref L) I' hN hy (.inl hyl) rfl (fun s2 I2 ⟨a, sb, ha⟩ => ?_) (.inr hyl))
  obtain ⟨f0, f1, f2, f3, f4, f5⟩ := f
  have haC : C ≠ a := by
    rcases ha with z | z
    · rw [z]; exact f1
    · exact fun e => f4 y a z e.symm
  refine ⟨m, hn.sameBut sb haC, fun h3 sb3 => ?_⟩
  exact ⟨_, H', I2.turned (t' := s2.toks) (fun b o hb e => (sb3.2 b hb).trans e) f0 f1 f3 f4 f5, q⟩
theorem sw_true {elt : Expr} {gs : List Comprehension} {scope : Scope} {pos py : Pos} {y : Str} {l : Nat} {env : Env} (hk : env.scope.kind = .function) (hy : env.scope.names.lookup y = some .local) (hl : (py.line == pos.line) = true)
    (ha : (scope.names.any fun (n, k) => n == y && (k == .local || k == .cell)) = false) : swapsWith (.ListComp elt gs scope pos) (some (.Name y py)) l env = pure true := by
  have ky : env.kindOf y = some .local := hy
  have hb : env.blockKind = .function := by unfold Env.blockKind; rw [hk]; rfl
  unfold swapsWith
  simp only [hb, ky, ha, Expr.pos, hl]
  rfl
end

theorem lc_range {lo : Int} {n : Nat} {g : TG} {tt : TT} {te : TE} {vs : List Nat} {σ : St} {H1 : Hp} {D : Addr} {Qd : Hp → Prop} (Pv : Nat → Hp → Prop) (h0 : Pv 0 (upd H1 D (.lst [])))
    (hs : ∀ i H, i < n → Pv i H → g (.int (lo + i)) (wipe σ vs) H fun σ2 H2 => wipe σ2 vs = wipe σ vs ∧ tt σ2 H2 fun b H3 =>
      if b = true then te σ2 H3 fun y H4 => ∃ acc, H4 D = some (.lst acc) ∧ acc.length < sizeLine ∧ Pv (i + 1) (upd H4 D (.lst (acc ++ [y]))) else Pv (i + 1) H3) (hd : ∀ H, Pv n H → Qd H) :
    ∃ W : Nat → Nat → Hp → Prop, (∃ m, W 0 m (upd H1 D (.lst []))) ∧ ∀ i m H, W i m H →
      ((Itr lo n).stop i H ∧ Qd H) ∨ ((Itr lo n).go i H ∧ ∃ Nx : Hp → Prop, (∀ H', Nx H' → ∃ m', m' < m ∧ W (i + 1) m' H') ∧ ∀ x H', (Itr lo n).yld i H x H' → g x (wipe σ vs) H' fun σ2 H2 => wipe σ2 vs = wipe σ vs ∧ tt σ2 H2 fun b H3 =>
        if b = true then te σ2 H3 fun y H4 => ∃ acc, H4 D = some (.lst acc) ∧ acc.length < sizeLine ∧ Nx (upd H4 D (.lst (acc ++ [y]))) else Nx H3) := by
  refine ⟨fun i m H => m = n - i ∧ i ≤ n ∧ Pv i H, ⟨n, by simp, Nat.zero_le _, h0⟩, ?_⟩
  rintro i m H ⟨rfl, hi, p⟩
  by_cases hlt : i < n
  · refine .inr ⟨hlt, Pv (i + 1), fun H' p' => ⟨n - (i + 1), by omega, rfl, hlt, p'⟩, fun x H' y => ?_⟩
    obtain ⟨e, y⟩ := y
    subst e y
    exact hs i _ hlt p
  · have e : i = n := by omega
    subst e
    exact .inl ⟨Nat.le_refl _, hd H p⟩
theorem lc_list {K : PySem.W.Frag} {a : Addr} {xs : List V} {g : TG} {tt : TT} {te : TE} {vs : List Nat} {σ : St} {H1 : Hp} {D : Addr} {Qd : Hp → Prop} (Pv : Nat → Hp → Prop) (h0 : Pv 0 (upd H1 D (.lst []))) (hl : ∀ i H, i ≤ xs.length → Pv i H → SqL K H a xs)
    (hs : ∀ i x H, xs[i]? = some x → Pv i H → g x (wipe σ vs) H fun σ2 H2 => wipe σ2 vs = wipe σ vs ∧ tt σ2 H2 fun b H3 =>
      if b = true then te σ2 H3 fun y H4 => ∃ acc, H4 D = some (.lst acc) ∧ acc.length < sizeLine ∧ Pv (i + 1) (upd H4 D (.lst (acc ++ [y]))) else Pv (i + 1) H3) (hd : ∀ H, Pv xs.length H → Qd H) :
    ∃ W : Nat → Nat → Hp → Prop, (∃ m, W 0 m (upd H1 D (.lst []))) ∧ ∀ i m H, W i m H →
      ((Itl K a).stop i H ∧ Qd H) ∨ ((Itl K a).go i H ∧ ∃ Nx : Hp → Prop, (∀ H', Nx H' → ∃ m', m' < m ∧ W (i + 1) m' H') ∧ ∀ x H', (Itl K a).yld i H x H' → g x (wipe σ vs) H' fun σ2 H2 => wipe σ2 vs = wipe σ vs ∧ tt σ2 H2 fun b H3 =>
        if b = true then te σ2 H3 fun y H4 => ∃ acc, H4 D = some (.lst acc) ∧ acc.length < sizeLine ∧ Nx (upd H4 D (.lst (acc ++ [y]))) else Nx H3) := by
  refine ⟨fun i m H => m = xs.length - i ∧ i ≤ xs.length ∧ Pv i H, ⟨xs.length, by simp, Nat.zero_le _, h0⟩, ?_⟩
  rintro i m H ⟨rfl, hi, p⟩
  have q := hl i H hi p
  by_cases hlt : i < xs.length
  · refine .inr ⟨⟨xs, xs[i], q, by simp [hlt]⟩, Pv (i + 1), fun H' p' => ⟨xs.length - (i + 1), by omega, rfl, hlt, p'⟩, fun x H' y => ?_⟩
    obtain ⟨e, y⟩ := y
    subst e
    exact hs i x _ (y xs q) p
  · have e : i = xs.length := by omega
    subst e
    exact .inl ⟨⟨xs, q, Nat.le_refl _⟩, hd H p⟩
theorem lc_tup {K : PySem.W.Frag} {a : Addr} {xs : List V} {g : TG} {tt : TT} {te : TE} {vs : List Nat} {σ : St} {H1 : Hp} {D : Addr} {Qd : Hp → Prop} (Pv : Nat → Hp → Prop) (h0 : Pv 0 (upd H1 D (.lst []))) (hl : ∀ i H, i ≤ xs.length → Pv i H → SqT K H a xs)
    (hs : ∀ i x H, xs[i]? = some x → Pv i H → g x (wipe σ vs) H fun σ2 H2 => wipe σ2 vs = wipe σ vs ∧ tt σ2 H2 fun b H3 =>
      if b = true then te σ2 H3 fun y H4 => ∃ acc, H4 D = some (.lst acc) ∧ acc.length < sizeLine ∧ Pv (i + 1) (upd H4 D (.lst (acc ++ [y]))) else Pv (i + 1) H3) (hd : ∀ H, Pv xs.length H → Qd H) :
    ∃ W : Nat → Nat → Hp → Prop, (∃ m, W 0 m (upd H1 D (.lst []))) ∧ ∀ i m H, W i m H →
      ((Itt K a).stop i H ∧ Qd H) ∨ ((Itt K a).go i H ∧ ∃ Nx : Hp → Prop, (∀ H', Nx H' → ∃ m', m' < m ∧ W (i + 1) m' H') ∧ ∀ x H', (Itt K a).yld i H x H' → g x (wipe σ vs) H' fun σ2 H2 => wipe σ2 vs = wipe σ vs ∧ tt σ2 H2 fun b H3 =>
        if b = true then te σ2 H3 fun y H4 => ∃ acc, H4 D = some (.lst acc) ∧ acc.length < sizeLine ∧ Nx (upd H4 D (.lst (acc ++ [y]))) else Nx H3) := by
  refine ⟨fun i m H => m = xs.length - i ∧ i ≤ xs.length ∧ Pv i H, ⟨xs.length, by simp, Nat.zero_le _, h0⟩, ?_⟩
  rintro i m H ⟨rfl, hi, p⟩
  have q := hl i H hi p
  by_cases hlt : i < xs.length
  · refine .inr ⟨⟨xs, xs[i], q, by simp [hlt]⟩, Pv (i + 1), fun H' p' => ⟨xs.length - (i + 1), by omega, rfl, hlt, p'⟩, fun x H' y => ?_⟩
    obtain ⟨e, y⟩ := y
    subst e
    exact hs i x _ (y xs q) p
  · have e : i = xs.length := by omega
    subst e
    exact .inl ⟨⟨xs, q, Nat.le_refl _⟩, hd H p⟩
def blkC (N : List Str) (sc scope : Scope) (own : List (Str × Nat)) : Bool :=
  (match scope.kind with | .function => true | _ => false) && (scope.names.all fun y => decide (scope.names.lookup y.1 = some y.2)) && (own.all fun p => decide (N[p.2]? = some p.1)) &&
    (scope.names.all fun y => match y.2 with
      | .free => (match sc.names.lookup y.1 with | some .cell => true | some .free => true | _ => false)
      | .local => decide (y.1 ∈ own.map (·.1)) || decide (y.1 ∉ N)
      | .cell => decide (y.1 ∈ own.map (·.1)) || decide (y.1 ∉ N)
      | _ => true)
theorem blkOk_by {N : List Str} {sc scope : Scope} {own : List (Str × Nat)} (h : blkC N sc scope own = true) : BlkOk N sc scope own := by
  unfold blkC at h
  simp only [Bool.and_eq_true, List.all_eq_true, decide_eq_true_eq] at h
  obtain ⟨⟨⟨h1, h2⟩, h3⟩, h4⟩ := h
  refine ⟨?_, h2, h3, fun y hy e => ?_, fun y hy e => ?_⟩
  · split at h1
    · assumption
    · cases h1
  · have q := h4 y hy
    simp only [e] at q
    split at q <;> first | exact .inl (by assumption) | exact .inr (by assumption) | cases q
  · have q := h4 y hy
    rcases e with e | e <;> (simp only [e, Bool.or_eq_true, decide_eq_true_eq] at q; exact q)
end L2

namespace L2
open PySem PySem.Spec PyProof.Rows

section
variable {prog : Program} {w : World} {A : Around} {R : Result → Shared → Prop} {s : Shared} {elt t0 i0 t1 i1 : Expr} {ifs0 ifs1 : List Expr} {scope : Scope} {pos : Pos} {it acc : Value} {env : Env}
end

section
variable {X : Cx}
end
end L2

namespace L2
open PySem PySem.Spec PyProof.Rows

section
variable {κ : Type} [DecidableEq κ]
end


theorem kV_is {P : Program} {w : World} {k : Key} {u : Value} (r : RelV (kV k) u) : (mixKind P w).is k u = true := by
  cases k with
  | inl i => obtain ⟨t, e⟩ := (show ∃ t, u = Value.int i t from r); subst e; exact mixKind_int P w i t
  | inr x => obtain ⟨t, e⟩ := (show ∃ t, u = Value.str x t from r); subst e; exact mixKind_str P w x t
section
variable {P : Program} {w : World} {H : Hp} {h : Heap} {a : Addr}
end

section
variable {X : Cx} {pins : List (Addr × Obj)} {σ : St} {H : Hp} {s : Shared} {a : Addr} {y v : V} {u r : Value} {o : Option V} {A : Around} {E : Value → Shared → Prop}

end

section
variable {X : Cx} {pins : List (Addr × Obj)} {σ : St} {H : Hp} {s : Shared} {a : Addr} {kvs : List (Key × V)} {k : Key} {u : Value} {A : Around} {E : Value → Shared → Prop}
end


def NoSl (i : Expr) : Prop := ∀ ov iv, subscripted i false ov iv = operate [ov, iv] (getItem ov iv)
theorem subD_of {prog : Program} {w : World} {A : Around} {E : Value → Shared → Prop} {s : Shared} {env : Env} {value slice : Expr} {pos : Pos} {T id : String} {Q : Value → Shared → Prop}
    (hl : typeLookup (.type T) "__getitem__" = pure (some (.builtin id))) (hs : NoSl slice)
    (h : wpAny (model prog w) A (eval value env) (fun o s₁ => wpAny (model prog w) A (eval slice env) (fun i s₂ => s₂.TypeIs o T ∧ wpAny (model prog w) A (getItem o i) Q E s₂) E s₁) E s) :
    wpAny (model prog w) A (eval (.Subscript value slice pos) env) Q E s := by
  refine Subscript_ (wpAny_mono h (fun o s₁ h₁ => wpAny_mono h₁ (fun i s₂ h₂ => ?_) fun _ _ x => x) fun _ _ x => x)
  obtain ⟨hT, h₂⟩ := h₂
  unfold subscriptTail
  refine wpAny_bind ?_
  rw [getitemInPython_of_ne hT.not_modules]
  refine wpAny_bind (wpAny_specialOf hT hl ?_)
  have fin : wpAny (model prog w) A (subscripted slice false o i) (fun r s₃ => wpAny (model prog w) A (letTemporaryGo value o r >>= fun _ => pure r) Q E s₃) E s₂ := by
    rw [hs o i]
    exact wpAny_operating (wpAny_mono h₂ (fun r s₃ h₃ => wpAny_bind (wpAny_letTemporaryGo (wpAny_pure h₃))) fun _ _ x => x)
  first
    | exact wpAny_pure (wpAny_bind fin)
    | exact wpAny_bind (wpAny_pure (wpAny_bind fin))
    | exact wpAny_bind fin

section
variable {X : Cx} {o i e value : Expr} {pos pos' tpos : Pos} {td ty tv : TE}
end


section
variable {X : Cx} {pos : Pos}
end

structure M2 (X : Cx) (o : Expr) (m : Str) (apos : Pos) (e f : Expr) (cpos : Pos) : Prop where
  base : attributeBase o m X.env (eval o X.env) = eval o X.env
  few : ((backTo cpos (starEach [e, f] X.env)).all (fun x => !x.1) && (backToKw cpos (keywordEach [] X.env)).all (fun x => x.1.isSome)
    && decide (([e, f] : List Expr).length + ([] : List Keyword).length + (if ([] : List Keyword).isEmpty then 0 else 1) < 30)) = true
  line : (apos.endLine == cpos.line) = true
  trees : backTo cpos (starEach [e, f] X.env) = [(false, eval e X.env), (false, eval f X.env)]

section
variable {X : Cx} {pins : List (Addr × Obj)} {σ : St} {H : Hp} {s : Shared} {a : Addr} {y d : V} {u r : Value} {o : Option V} {A : Around} {E : Value → Shared → Prop}
end

section
variable {X : Cx} {o e f : Expr} {apos cpos : Pos} {td ty tx : TE}
end

section
variable {X : Cx} {pins : List (Addr × Obj)} {σ : St} {H : Hp} {s : Shared} {a : Addr} {kvs : List (Key × V)} {A : Around} {E : Value → Shared → Prop}
end


section
variable {X : Cx} {pins : List (Addr × Obj)} {σ : St} {H : Hp} {s : Shared} {a : Addr} {y : V} {u : Value} {A : Around} {E : Value → Shared → Prop}
end
end L2

namespace L2
open PySem PySem.Spec PyProof.Rows

section
variable {prog : Program} {w : World} {A : Around} {E : Value → Shared → Prop}
end

section
variable {X : Cx}
end
end L2

namespace L2
open PySem PySem.Spec PyProof.Rows

theorem boot_reversed5 : bootBuiltins "reversed" = some (.type "reversed") := by decide +kernel

section
variable {X : Cx} {pins : List (Addr × Obj)} {σ : St} {H : Hp} {s : Shared} {h' : Heap}
theorem Inv.turnedL {t' : Nat} {ch : List Addr} (I : Inv X pins σ H s) (k : ∀ b o, b ∉ ch → s.heap.get? b = some o → h'.get? b = some o) (hf : ∀ b ∈ ch, FpOk X pins H b) : Inv X pins σ H { s with heap := h', toks := t' } := by
  have nit : ∀ b u, H b = some u → b ∉ ch := fun b u e z => by
    have q := (hf b z).1
    rw [q] at e; cases e
  refine I.step (g' := s.gens) (d' := s.drawn) (ch := ch) (fun b hb => ⟨(hf b hb).2.2.2.1, (hf b hb).2.1, (hf b hb).2.2.2.2.1, (hf b hb).2.2.2.2.2⟩) (fun b o _ _ hc e _ => k b o hc e) (fun b o _ _ hc e _ => ⟨o.slots, k b o hc e⟩)
    (fun _ _ _ _ n => n) (fun b o hc e => ⟨o, k b o hc e⟩) (fun _ _ e => e) (fun _ _ _ e => e) (fun b ps e => ⟨#[], by rw [e]; simp⟩) (fun m hm => ?_) (fun b u e => ?_) I.bare
  · obtain ⟨o, es, ep, ho, r⟩ := hm
    exact ⟨o, es, ep, k _ o (fun z => (hf _ z).2.1 rfl) ho, r⟩
  · refine (I.hok b u e).stay (fun c v hc q => k c v ?_ q) (fun _ q => q) fun _ _ q => q
    rcases hc with z | z
    · rw [z]; exact nit b u e
    · exact nit c _ z
theorem Inv.turnedNew {t' : Nat} {ch : List Addr} {T : Addr} {ob : HO} (I : Inv X pins σ H s) (k : ∀ b o, b ∉ ch → s.heap.get? b = some o → h'.get? b = some o) (hf : ∀ b ∈ ch, FpOk X pins H b) (hT : s.heap.objs.size ≤ T)
    (new : ObjOk X.prog X.w (upd H T ob) h' T ob) : Inv X pins σ (upd H T ob) { s with heap := h', toks := t' } := by
  have hn : H T = none := I.hok.fresh hT
  have nit : ∀ b u, H b = some u → b ∉ ch := fun b u e z => by
    have q := (hf b z).1
    rw [q] at e; cases e
  refine I.step (g' := s.gens) (d' := s.drawn) (ch := ch) (fun b hb => ⟨(hf b hb).2.2.2.1, (hf b hb).2.1, (hf b hb).2.2.2.2.1, (hf b hb).2.2.2.2.2⟩) (fun b o _ _ hc e _ => k b o hc e) (fun b o _ _ hc e _ => ⟨o.slots, k b o hc e⟩)
    (fun b o _ e n => ?_) (fun b o hc e => ⟨o, k b o hc e⟩) (fun b xs e => ?_) (fun b o u e => ?_) (fun b ps e => ⟨#[], ?_⟩) (fun m hm => ?_) (fun b u e => ?_) I.bare
  · rw [upd_ne (Nat.ne_of_lt (Nat.lt_of_lt_of_le (Heap.lt_size e) hT))]; exact n
  · rw [upd_ne (ne_of_none e hn)]; exact e
  · rw [upd_ne (ne_of_none e hn)]; exact e
  · rw [upd_ne (ne_of_none e hn), e]; simp
  · obtain ⟨o, es, ep, ho, r⟩ := hm
    exact ⟨o, es, ep, k _ o (fun z => (hf _ z).2.1 rfl) ho, r⟩
  · by_cases hb : b = T
    · subst hb
      rw [upd_same] at e
      cases e
      exact new
    · rw [upd_ne hb] at e
      refine (I.hok b u e).stay (fun c v hc q => k c v ?_ q) (fun c q => by rw [upd_ne (ne_of_none q hn)]; exact q) fun c xs q => by rw [upd_ne (ne_of_none q hn)]; exact q
      rcases hc with z | z
      · rw [z]; exact nit b u e
      · exact nit c _ z

end
section
variable {X : Cx}
theorem pi_one {tg : Expr} {pins : List (Addr × Obj)} {σ : St} {H : Hp} {s : Shared} {R : It → Hp → Prop} {J : It} {tn : Nat → Heap → Prop} {tk : Nat} (I : Inv X pins σ H s) (o : Obj)
    (T : Turn X.prog X.w X.K tg J [s.heap.objs.size] s.heap.objs.size tn) (st : tn 0 (s.heap.push o)) (q : R J H) : PIE X pins σ tg R (.ref s.heap.objs.size) { s with heap := s.heap.push o, toks := tk } := by
  refine ⟨s.heap.objs.size, [s.heap.objs.size], tn, J, H, rfl, I.kept fun b ob e => Heap.get?_push_of_some _ e, T, st, fun b hb => ?_, q⟩
  have e : b = s.heap.objs.size := by simpa using hb
  subst e
  exact I.fpOk (Nat.le_refl _) (I.hok.fresh (Nat.le_refl _))
end

section
variable {X : Cx} {tg : Expr}
end
def Itv (K : PySem.W.Frag) (a : Addr) (n : Nat) : It :=
  ⟨fun i H => i < n ∧ ∃ (xs : List V) (x : V), SqL K H a xs ∧ xs[n - 1 - i]? = some x, fun i H x H' => H' = H ∧ ∀ xs, SqL K H a xs → xs[n - 1 - i]? = some x, fun i _ => n ≤ i⟩
theorem turn_rev {P : Program} {w : World} {K : PySem.W.Frag} {tg : Expr} (a it : Addr) (n : Nat) : Turn P w K tg (Itv K a n) [it] it (fun i h => i ≤ n ∧ h.IsRevIter it a ((n : Int) - 1 - (i : Nat))) where
  mem := by simp
  obj := fun i h st b hb => by
    have e : b = it := by simpa using hb
    subst e
    obtain ⟨_, o, e, c, d⟩ := st
    exact ⟨o, e, fun v z => by rw [d] at z; cases z⟩
  keep := fun i h h' st k => ⟨st.1, st.2.at fun o e => k it (by simp) o e⟩
  item := by
    intro X hP hw hK hc i pins s σ H E I hf st hg
    subst hP hw hK
    obtain ⟨hin, xs, x, hq, hx⟩ := hg
    obtain ⟨its, rv, p, hz⟩ := I.list hq
    obtain ⟨u, hu, ru⟩ := rv.get hx
    obtain ⟨f0, f1, f2, f3, f4, f5⟩ := hf it (by simp)
    obtain ⟨_, hit⟩ := st
    have e1 : (n : Int) - 1 - ((i : Nat) : Int) = ((n - 1 - i : Nat) : Int) := by omega
    rw [e1] at hit
    refine wpAny_pyNext_rev_item hit p.isList (x := u) (by simpa using hu) fun h' st' sb => ?_
    have e2 : ((n - 1 - i : Nat) : Int) - 1 = (n : Int) - 1 - ((i + 1 : Nat) : Int) := by omega
    rw [e2] at st'
    have I1 : Inv X pins σ H { s with heap := h' } := I.turned (t' := s.toks) (fun b o hb e => (sb.2 b hb).trans e) f0 f1 f3 f4 f5
    obtain ⟨o, e, c, d⟩ := id st'
    exact ⟨u, rfl, go_of (s := { s with heap := h' }) e c d (by decide) ⟨x, H, I1, ru, ⟨rfl, fun ys hy => by rw [I.list_inj hy hq]; exact hx⟩, ⟨hin, st'⟩, fun b hb => (hf b hb).1⟩⟩
  done := by
    intro X hP hw hK hc i pins s σ H E I hf st hg
    subst hP hw hK
    obtain ⟨f0, f1, f2, f3, f4, f5⟩ := hf it (by simp)
    obtain ⟨hin, hit⟩ := st
    have hge : n ≤ i := hg
    have e1 : (n : Int) - 1 - ((i : Nat) : Int) = -1 := by omega
    rw [e1] at hit
    exact wpAny_pyNext_rev_end (I.ok.hd hc) hit fun h' eb => ⟨rfl, I.turned (t' := s.toks) (fun b o hb e => eb b o hb e) f0 f1 f3 f4 f5⟩
  self := fun A i s Q E st h => wpAny_pyIter_revIter st.2 h
def iRev (K : PySem.W.Frag) (ta : TA) : TI := fun σ H R => ta σ H fun vs H1 => ∃ (a : Addr) (xs : List V), vs = [.ref a] ∧ SqL K H1 a xs ∧ R (Itv K a xs.length) H1
section
variable {X : Cx} {tg : Expr}
theorem pi_reversed {e : Expr} {ta : TA} {p pos : Pos} (hg : Gl X "reversed") (hm : X.mg "reversed" = none) (ha : PA X [e] ta) (hs : starEach [e] X.env = [(false, eval e X.env)] := by rfl) : PI X tg (.Call (.Name "reversed" p) [e] [] pos) (iRev X.K ta) := by
  intro pins s σ H R I h
  refine Call_ (ld_blt I hg hm boot_reversed5 (PyProof.Rows.callWith_type1 (thn (ha pos pins s σ H _ I h) fun us s1 ⟨vs, H1, I1, r1, q1⟩ => ?_) hs rfl))
  obtain ⟨a, xs, e, hq, q⟩ := q1
  subst e
  cases r1 with
  | cons r rr =>
    cases rr
    cases r
    obtain ⟨its, rv, p', hz⟩ := I1.list hq
    have hl := rv.length
    have e1 : ((its.toArray.size : Nat) : Int) - 1 = (xs.length : Int) - 1 - ((0 : Nat) : Int) := by simp only [List.size_toArray]; omega
    refine call_reversed_list p'.isList (wpAny_pyIter_revIter (l := a) (i := ((its.toArray.size : Nat) : Int) - 1) ⟨_, Heap.get?_push_size _ rfl, rfl, rfl⟩ ?_)
    refine pi_one (tk := s1.toks) I1 _ (turn_rev a _ xs.length) ⟨Nat.zero_le _, ?_⟩ q
    rw [← e1]
    exact ⟨_, Heap.get?_push_size _ rfl, rfl, rfl⟩
end

section
variable {prog : Program} {w : World} {A : Around} {E : Value → Shared → Prop} {s : Shared}
end

section
variable {X : Cx} {pins : List (Addr × Obj)} {σ : St} {H : Hp} {s : Shared} {d : Addr} {o : Obj}
end

section
variable {P : Program} {w : World} {K : PySem.W.Frag} {tg : Expr} {d : Addr} {o : Obj} {es : Array DictEntry} {ep : Nat}
end

section
variable {X : Cx} {tg e : Expr} {td : TE} {apos cpos : Pos}
end

def Ite (K : PySem.W.Frag) (a : Addr) : It :=
  ⟨fun i H => ∃ (xs : List V) (x : V), SqL K H a xs ∧ xs[i]? = some x, fun i H v H' => ∃ T x, v = .ref T ∧ H T = none ∧ H' = upd H T (.tup [.int (i : Nat), x]) ∧ ∀ xs, SqL K H a xs → xs[i]? = some x, fun i H => ∃ xs : List V, SqL K H a xs ∧ xs.length ≤ i⟩
theorem turn_enum {P : Program} {w : World} {K : PySem.W.Frag} {elts : List Expr} {kk : Nat} {tpos : Pos} (a e it : Addr) :
    Turn P w K (.Tuple elts kk tpos) (Ite K a) [e, it] e (fun i h => (∃ old, IsEnum h e it ((i : Nat) : Int) old) ∧ h.IsListIter it a i ∧ e ≠ it) where
  mem := by simp
  obj := fun i h st b hb => by
    obtain ⟨⟨old, he⟩, ⟨o, ho, hc, hd⟩, _⟩ := st
    have e' : b = e ∨ b = it := by simpa using hb
    rcases e' with z | z
    · rw [z]; exact ⟨_, he, fun v q => nomatch q⟩
    · rw [z]; exact ⟨o, ho, fun v q => by rw [hd] at q; cases q⟩
  keep := fun i h h' st k => let ⟨⟨old, he⟩, hi, hne⟩ := st; ⟨⟨old, k e (by simp) _ he⟩, hi.at fun o q => k it (by simp) o q, hne⟩
  item := by
    intro X hP hw hK hc i pins s σ H E I hf st hg
    subst hP hw hK
    obtain ⟨⟨old, he⟩, hit, hne⟩ := st
    obtain ⟨xs, x, hq, hx⟩ := hg
    obtain ⟨its, rv, p, hz⟩ := I.list hq
    obtain ⟨u, hu, ru⟩ := rv.get hx
    have hel : e < s.heap.objs.size := Heap.lt_size he
    have hil : it < s.heap.objs.size := by obtain ⟨_, q, _⟩ := hit; exact Heap.lt_size q
    refine wpAny_pyNext_enum_item he hit p.isList (x := u) (by simpa using hu) hne fun h' ho hit' hT hsz hk => ?_
    refine ⟨_, rfl, wpAny_letOwnedTupleGo_enum (s := { s with heap := h', toks := s.toks + 1 }) ho fun h'' he' sb => ?_⟩
    have hT2 : h''.get? s.heap.objs.size = some { cls := .type "tuple", data := .seq #[.int i s.toks, u] } := (sb.2 _ (Nat.ne_of_gt hel)).trans hT
    have new : ObjOk X.prog X.w (upd H s.heap.objs.size (.tup [.int (i : Nat), x])) h'' s.heap.objs.size (.tup [.int (i : Nat), x]) :=
      ⟨by show 2 ≤ sizeLine; decide, [.int i s.toks, u], .cons ⟨_, rfl⟩ (.cons ru .nil), ⟨_, hT2, rfl, _, rfl⟩⟩
    have I1 : Inv X pins σ (upd H s.heap.objs.size (.tup [.int (i : Nat), x])) { s with heap := h'', toks := s.toks + 1 } :=
      I.turnedNew (ch := [e, it]) (fun b ob hb q => (sb.2 b (fun z => hb (by simp [z]))).trans (hk b ob (fun z => hb (by simp [z])) (fun z => hb (by simp [z])) q)) hf (Nat.le_refl _) new
    refine ⟨.ref s.heap.objs.size, _, I1, rfl, ⟨_, x, rfl, I.hok.fresh (Nat.le_refl _), rfl, fun ys hy => by rw [I.list_inj hy hq]; exact hx⟩, ⟨⟨u, ?_⟩, hit'.at fun o q => (sb.2 it (Ne.symm hne)).trans q, hne⟩, fun b hb => ?_⟩
    · have e1 : ((i + 1 : Nat) : Int) = (i : Int) + 1 := by omega
      rw [e1]; exact he'
    · have hb' : b < s.heap.objs.size := by
        have e' : b = e ∨ b = it := by simpa using hb
        rcases e' with z | z
        · rw [z]; exact hel
        · rw [z]; exact hil
      rw [upd_ne (Nat.ne_of_lt hb')]
      exact (hf b hb).1
  done := by
    intro X hP hw hK hc i pins s σ H E I hf st hg
    subst hP hw hK
    obtain ⟨⟨old, he⟩, hit, hne⟩ := st
    obtain ⟨xs, hq, hx⟩ := hg
    obtain ⟨its, rv, p, hz⟩ := I.list hq
    obtain ⟨f0, f1, f2, f3, f4, f5⟩ := hf it (by simp)
    have hl := rv.length
    exact wpAny_pyNext_enum_end (I.ok.hd hc) he hit p.isList (by simp; omega) fun h' eb => ⟨rfl, I.turned (t' := s.toks) (fun b o hb q => eb b o hb q) f0 f1 f3 f4 f5⟩
  self := fun A i s Q E st h => let ⟨⟨_, he⟩, _⟩ := st; wpAny_pyIter_enum he h
def iEnum (K : PySem.W.Frag) (ta : TA) : TI := fun σ H R => ta σ H fun vs H1 => ∃ a xs, vs = [.ref a] ∧ SqL K H1 a xs ∧ R (Ite K a) H1
theorem pi_enum {X : Cx} {e : Expr} {ta : TA} {p pos tpos : Pos} {elts : List Expr} {kk : Nat} (hg : Gl X "enumerate") (hm : X.mg "enumerate" = none) (ha : PA X [e] ta) (hs : starEach [e] X.env = [(false, eval e X.env)] := by rfl) :
    PI X (.Tuple elts kk tpos) (.Call (.Name "enumerate" p) [e] [] pos) (iEnum X.K ta) := by
  intro pins s σ H R I h
  refine Call_ (ld_blt I hg hm boot_enumerate (PyProof.Rows.callWith_type1 (thn (ha pos pins s σ H _ I h) fun us s1 ⟨vs, H1, I1, r1, q1⟩ => ?_) hs rfl))
  obtain ⟨a, xs, ex, hq, q⟩ := q1
  subst ex
  cases r1 with
  | cons r rr =>
    cases rr
    cases r
    obtain ⟨its, rv, p', hz⟩ := I1.list hq
    refine call_enumerate_list p'.isList fun h' he hit hsz hk => wpAny_pyIter_enum he ?_
    have I2 : Inv X pins σ H1 { s1 with heap := h' } := I1.kept (t' := s1.toks) hk
    refine ⟨s1.heap.objs.size + 1, [s1.heap.objs.size + 1, s1.heap.objs.size], _, _, H1, rfl, I2, turn_enum a (s1.heap.objs.size + 1) s1.heap.objs.size, ⟨⟨.none, he⟩, hit, Nat.succ_ne_self _⟩, fun b hb => ?_, q⟩
    have e' : b = s1.heap.objs.size + 1 ∨ b = s1.heap.objs.size := by simpa using hb
    have hle : s1.heap.objs.size ≤ b := by
      rcases e' with z | z
      · rw [z]; exact Nat.le_add_right _ _
      · rw [z]; exact Nat.le_refl _
    exact I1.fpOk hle (I1.hok.fresh hle)
theorem boot_zip5 : bootBuiltins "zip" = some (.type "zip") := by decide +kernel
def Itz (K : PySem.W.Frag) (a b : Addr) : It :=
  ⟨fun i H => ∃ (xs ys : List V) (x y : V), SqL K H a xs ∧ SqL K H b ys ∧ xs[i]? = some x ∧ ys[i]? = some y,
    fun i H v H' => ∃ T x y, v = .ref T ∧ H T = none ∧ H' = upd H T (.tup [x, y]) ∧ (∀ xs, SqL K H a xs → xs[i]? = some x) ∧ ∀ ys, SqL K H b ys → ys[i]? = some y,
    fun i H => ∃ xs ys : List V, SqL K H a xs ∧ SqL K H b ys ∧ (xs.length ≤ i ∨ ys.length ≤ i)⟩
theorem turn_zip {P : Program} {w : World} {K : PySem.W.Frag} {elts : List Expr} {kk : Nat} {tpos : Pos} {a b z TI TO i1 i2 : Addr} (D : ZipApart z TI TO i1 i2 a b) :
    Turn P w K (.Tuple elts kk tpos) (Itz K a b) [z, TI, TO, i1, i2] z (fun i h => IsZip h z TI TO .none ∧ IsPair h TI (.ref i1) (.ref i2) ∧ (∃ x y, IsPair h TO x y) ∧ h.IsListIter i1 a i ∧ h.IsListIter i2 b i) where
  mem := by simp
  obj := fun i h st c hc => by
    obtain ⟨hz, hTI, ⟨x, y, hTO⟩, ⟨o1, e1, _, d1⟩, ⟨o2, e2, _, d2⟩⟩ := st
    have e' : c = z ∨ c = TI ∨ c = TO ∨ c = i1 ∨ c = i2 := by simpa using hc
    rcases e' with q | q | q | q | q
    · rw [q]; exact ⟨_, hz, fun v q => nomatch q⟩
    · rw [q]; exact ⟨_, hTI, fun v q => nomatch q⟩
    · rw [q]; exact ⟨_, hTO, fun v q => nomatch q⟩
    · rw [q]; exact ⟨o1, e1, fun v q => by rw [d1] at q; cases q⟩
    · rw [q]; exact ⟨o2, e2, fun v q => by rw [d2] at q; cases q⟩
  keep := fun i h h' st k => by
    obtain ⟨hz, hTI, ⟨x, y, hTO⟩, h1, h2⟩ := st
    exact ⟨k z (by simp) _ hz, k TI (by simp) _ hTI, ⟨x, y, k TO (by simp) _ hTO⟩, h1.at fun o q => k i1 (by simp) o q, h2.at fun o q => k i2 (by simp) o q⟩
  item := by
    intro X hP hw hK hc i pins s σ H E I hf st hg
    subst hP hw hK
    obtain ⟨hz, hTI, ⟨x0, y0, hTO⟩, h1, h2⟩ := st
    obtain ⟨xs, ys, x, y, hqx, hqy, hx, hy⟩ := hg
    obtain ⟨its, rv, p, _⟩ := I.list hqx
    obtain ⟨its2, rv2, p2, _⟩ := I.list hqy
    obtain ⟨u, hu, ru⟩ := rv.get hx
    obtain ⟨u2, hu2, ru2⟩ := rv2.get hy
    have hzl : z < s.heap.objs.size := Heap.lt_size hz
    refine wpAny_pyNext_zip_item D hz hTI hTO h1 h2 p.isList p2.isList (x := u) (y := u2) (by simpa using hu) (by simpa using hu2) fun h' z' TO' h1' h2' hT hsz hk => ?_
    refine ⟨_, rfl, wpAny_letOwnedTupleGo_zip (s := { s with heap := h' }) z' fun h'' z'' sb => ?_⟩
    have hT2 : h''.get? s.heap.objs.size = some { cls := .type "tuple", data := .seq #[u, u2] } := (sb.2 _ (Nat.ne_of_gt hzl)).trans hT
    have new : ObjOk X.prog X.w (upd H s.heap.objs.size (.tup [x, y])) h'' s.heap.objs.size (.tup [x, y]) :=
      ⟨by show 2 ≤ sizeLine; decide, [u, u2], .cons ru (.cons ru2 .nil), ⟨_, hT2, rfl, _, rfl⟩⟩
    have I1 : Inv X pins σ (upd H s.heap.objs.size (.tup [x, y])) { s with heap := h'' } :=
      I.turnedNew (t' := s.toks) (ch := [z, TI, TO, i1, i2]) (fun c o hb q => (sb.2 c (fun q' => hb (by simp [q']))).trans (hk c o (fun q' => hb (by simp [q'])) (fun q' => hb (by simp [q'])) (fun q' => hb (by simp [q'])) (fun q' => hb (by simp [q'])) q)) hf (Nat.le_refl _) new
    refine ⟨.ref s.heap.objs.size, _, I1, rfl, ⟨_, x, y, rfl, I.hok.fresh (Nat.le_refl _), rfl, fun l hl => by rw [I.list_inj hl hqx]; exact hx, fun l hl => by rw [I.list_inj hl hqy]; exact hy⟩, ⟨z'', ?_, ⟨u, u2, ?_⟩, ?_, ?_⟩, fun c hcm => ?_⟩
    · exact (sb.2 _ D.TIz).trans (hk _ _ D.TIz D.TITO D.TIi1 D.TIi2 hTI)
    · exact (sb.2 _ D.TOz).trans TO'
    · exact h1'.at fun o q => (sb.2 _ D.i1z).trans q
    · exact h2'.at fun o q => (sb.2 _ D.i2z).trans q
    · have hlt : c < s.heap.objs.size := by
        have e' : c = z ∨ c = TI ∨ c = TO ∨ c = i1 ∨ c = i2 := by simpa using hcm
        rcases e' with q | q | q | q | q
        · rw [q]; exact hzl
        · rw [q]; exact Heap.lt_size hTI
        · rw [q]; exact Heap.lt_size hTO
        · rw [q]; obtain ⟨_, e1, _⟩ := h1; exact Heap.lt_size e1
        · rw [q]; obtain ⟨_, e2, _⟩ := h2; exact Heap.lt_size e2
      rw [upd_ne (Nat.ne_of_lt hlt)]
      exact (hf c hcm).1
  done := by
    intro X hP hw hK hc i pins s σ H E I hf st hg
    subst hP hw hK
    obtain ⟨hz, hTI, ⟨x0, y0, hTO⟩, h1, h2⟩ := st
    obtain ⟨xs, ys, hqx, hqy, hend⟩ := hg
    obtain ⟨its, rv, p, _⟩ := I.list hqx
    obtain ⟨its2, rv2, p2, _⟩ := I.list hqy
    have l1 := rv.length
    have l2 := rv2.length
    have he : its.toArray[i]? = none ∨ its2.toArray[i]? = none := by
      rcases hend with q | q
      · exact .inl (by simp; omega)
      · exact .inr (by simp; omega)
    exact wpAny_pyNext_zip_end (I.ok.hd hc) D hz hTI hTO h1 h2 p.isList p2.isList he fun h' hk => ⟨rfl, I.turnedL (t' := s.toks) (ch := [z, TI, TO, i1, i2]) (fun c o hb q =>
      hk c o (fun q' => hb (by simp [q'])) (fun q' => hb (by simp [q'])) (fun q' => hb (by simp [q'])) (fun q' => hb (by simp [q'])) q) hf⟩
  self := fun A i s Q E st h => wpAny_pyIter_zip st.1 h
def iZip (K : PySem.W.Frag) (ta : TA) : TI := fun σ H R => ta σ H fun vs H1 => ∃ a b xs ys, vs = [.ref a, .ref b] ∧ SqL K H1 a xs ∧ SqL K H1 b ys ∧ R (Itz K a b) H1
theorem pi_zip {X : Cx} {e e2 : Expr} {ta : TA} {p pos tpos : Pos} {elts : List Expr} {kk : Nat} (hg : Gl X "zip") (hm : X.mg "zip" = none) (ha : PA X [e, e2] ta)
    (hs : starEach [e, e2] X.env = (false, eval e X.env) :: starEach [e2] X.env := by rfl) (hpl : (backTo pos (starEach [e2] X.env)).any (·.1) = false := by rfl) :
    PI X (.Tuple elts kk tpos) (.Call (.Name "zip" p) [e, e2] [] pos) (iZip X.K ta) := by
  intro pins s σ H R I h
  refine Call_ (ld_blt I hg hm boot_zip5 (PyProof.Rows.callWith_type1 (thn (ha pos pins s σ H _ I h) fun us s1 ⟨vs, H1, I1, r1, q1⟩ => ?_) hs hpl))
  obtain ⟨a, b, xs, ys, ex, hqx, hqy, q⟩ := q1
  subst ex
  cases r1 with
  | cons r rr =>
    cases rr with
    | cons r' rr =>
      cases rr
      cases r
      cases r'
      obtain ⟨its, rv, p1, _⟩ := I1.list hqx
      obtain ⟨its2, rv2, p2, _⟩ := I1.list hqy
      have la : a < s1.heap.objs.size := p1.lt
      have lb : b < s1.heap.objs.size := p2.lt
      refine call_zip_2 p1.isList p2.isList fun h' hz hTI hTO h1 h2 hsz hk => wpAny_pyIter_zip hz ?_
      have I2 : Inv X pins σ H1 { s1 with heap := h' } := I1.kept (t' := s1.toks) hk
      refine ⟨s1.heap.objs.size + 4, [s1.heap.objs.size + 4, s1.heap.objs.size + 2, s1.heap.objs.size + 3, s1.heap.objs.size, s1.heap.objs.size + 1], _, _, H1, rfl, I2, turn_zip (PySem.W.ktu_apart s1.heap.objs.size a b la lb), ⟨hz, hTI, ⟨_, _, hTO⟩, h1, h2⟩, fun c hcm => ?_, q⟩
      have e' : c = s1.heap.objs.size + 4 ∨ c = s1.heap.objs.size + 2 ∨ c = s1.heap.objs.size + 3 ∨ c = s1.heap.objs.size ∨ c = s1.heap.objs.size + 1 := by simpa using hcm
      have hle : s1.heap.objs.size ≤ c := by
        rcases e' with z | z | z | z | z
        · rw [z]; exact Nat.le_add_right _ _
        · rw [z]; exact Nat.le_add_right _ _
        · rw [z]; exact Nat.le_add_right _ _
        · rw [z]; exact Nat.le_refl _
        · rw [z]; exact Nat.le_add_right _ _
      exact I1.fpOk hle (I1.hok.fresh hle)
end L2

section 
namespace Bits
open PySem PyProof.Rows

end Bits
end 

section 
namespace TL
open PySem PySem.Builtin PySem.Builtin.Str PySem.StrLaws

end TL
end 

namespace L2
open PySem PySem.Spec PyProof.Rows

section
variable {X : Cx} {pins : List (Addr × Obj)} {σ : St} {H : Hp} {s : Shared} {Q : VK}
end

section
variable {X : Cx}

end

section
variable {X : Cx} {o e : Expr} {to te : TE}
end
end L2

namespace L2
open PySem PySem.Spec PyProof.Rows

section
variable {X : Cx}
end

end L2

namespace Att
open PySem PySem.W PySem.Calls PyProof.Rows

section
variable {prog : Program} {w : World} {A : Around} {E : Value → Shared → Prop} {s : Shared} {K : Frag}

end
end Att

namespace L2
open PySem PySem.Spec PyProof.Rows

end L2

namespace L2
open PySem PySem.Spec PyProof.Rows

abbrev KOf {K : PySem.W.Frag} {h : Heap} (_ : K.In h) : PySem.W.Frag := K

end L2


namespace L2
open PySem PySem.Spec PyProof.Rows

def inClass (s : Stmt) (j : Nat) : Stmt := match s with
  | .ClassDef _ _ _ body _ _ _ _ _ _ _ => body.getD j (.Pass ⟨0, 0, 0, 0⟩)
  | _ => .Pass ⟨0, 0, 0, 0⟩
def defArgs (s : Stmt) : Arguments := match s with
  | .FunctionDef _ a _ _ _ _ _ _ _ _ => a
  | _ => { posonlyargs := [], args := [], vararg := none, kwonlyargs := [], kw_defaults := [], kwarg := none, defaults := [] }
def defBody (s : Stmt) : List Stmt := match s with
  | .FunctionDef _ _ b _ _ _ _ _ _ _ => b
  | _ => []
def defScope (s : Stmt) : Scope := match s with
  | .FunctionDef _ _ _ _ _ _ sc _ _ _ => sc
  | _ => { kind := .function, names := [], isGenerator := false, isCoroutine := false }

abbrev CX0 : CXT := fun _ _ _ _ _ _ => False
abbrev E0 : XK := fun _ _ _ => False
theorem pass0 {X : Cx} : Passes CX0 X E0 := fun _ _ _ _ _ _ _ h => h.elim

structure Fun (K : PySem.W.Frag) (x qual : Str) (st : Stmt) (f : Addr) (fd : FuncData) : Prop where
  ex : ∃ (oc : Value) (od : Option Addr) (kV doc pm : Value) (an : Option Addr) (cdv ct : Value) (osl : Array (Option Value)),
    fd = PySem.W.fnOf x qual (defArgs st) (defBody st) (defScope st) .none kV doc pm an cdv ct ∧ K.lookup f = some ⟨oc, od, .func fd, osl⟩ ∧ PySem.W.codeIn K cdv qual = true
  kp : PySem.W.keepIn K (.ref f) = true
section
variable {P : Program} {w : World} {K : PySem.W.Frag} {mg : Str → Option Value} {base : Heap}
theorem Fun.ok {x qual : Str} {st : Stmt} {f : Addr} {fd : FuncData} {N ps : List Str} {k : Nat} {sp : Sp} (F : Fun K x qual st f fd) (S : FnScope N ps (defScope st)) (len : ∀ vs H Q E, sp vs H Q E → vs.length = ps.length)
    (hbody : ∀ (cdv : Value) (A : Around) (outer : List Env) (s : Shared) (H : Hp) (vs : List V) (Q : VK) (E : XK), Room k (A.deeper (envOfC qual (defScope st) s.heap.objs.size f cdv)) → sp vs H Q E →
      ∃ t, PSs (cxOf CX0 P w K mg base N qual (defScope st) f cdv A outer s H E).nox (defBody st) t ∧ t { nx := fun _ H' => Q .non H', rt := Q } (start N vs) H) : FnOk P w K mg base CX0 (k + 1) f fd ps sp := by
  obtain ⟨oc, od, kV, doc, pm, an, cdv, ct, osl, rfl, lk, hcd⟩ := F.ex
  refine fn_of lk hcd S len fun A outer s H vs Q E hr hsp => ?_
  obtain ⟨t, h, q⟩ := hbody cdv A outer s H vs Q E hr hsp
  exact ⟨t, h.nox, q⟩
theorem Fun.binds {x qual : Str} {st : Stmt} {f : Addr} {fd : FuncData} {ps : List Str} (F : Fun K x qual st f fd)
    (h : ∀ (kV doc pm : Value) (an : Option Addr) (cdv ct : Value) (us : List Value), us.length = ps.length → bindArgs (PySem.W.fnOf x qual (defArgs st) (defBody st) (defScope st) .none kV doc pm an cdv ct) ⟨us, []⟩ = pure (ps.zip us)) : Binds K fd ps [] := by
  obtain ⟨oc, od, kV, doc, pm, an, cdv, ct, osl, rfl, lk, hcd⟩ := F.ex
  exact .all (h kV doc pm an cdv ct)
theorem fun_mk {x qual : Str} {st : Stmt} {f : Addr} {oc : Value} {od an : Option Addr} {osl : Array (Option Value)} {kV doc pm cdv ct : Value} (l : K.lookup f = some ⟨oc, od, .func (PySem.W.fnOf x qual (defArgs st) (defBody st) (defScope st) .none kV doc pm an cdv ct), osl⟩)
    (c : PySem.W.codeIn K cdv qual = true) (k : PySem.W.keepIn K (.ref f) = true) : Fun K x qual st f (PySem.W.fnOf x qual (defArgs st) (defBody st) (defScope st) .none kV doc pm an cdv ct) := ⟨⟨oc, od, kV, doc, pm, an, cdv, ct, osl, rfl, l, c⟩, k⟩
end
section
variable {X : Cx}
theorem pv (i : Nat) {x : Str} {pos : Pos} (hN : X.N[i]? = some x := by rfl) (hv : Vis X.env.scope x := by first | exact Or.inl rfl | exact Or.inr (Or.inl rfl) | exact Or.inr (Or.inr rfl)) (hd : (x == ("__debug__" : Str)) = false := by decide)
    (hcd : (x == ("__classdict__" : Str)) = false := by decide) : PE X (.Name x pos) (tVar i) := pe_var hN hv hd hcd
end

theorem iteF {A B : Prop} (h : B) : if false = true then A else B := by
  rw [if_neg Bool.false_ne_true]
  exact h
theorem iteT {A B : Prop} (h : A) : if true = true then A else B := by
  rw [if_pos rfl]
  exact h
theorem ite2 {c A B : Prop} [Decidable c] (h1 : c → A) (h2 : ¬ c → B) : if c then A else B := by
  by_cases h : c
  · rw [if_pos h]
    exact h1 h
  · rw [if_neg h]
    exact h2 h
def Same (H H' : Hp) : Prop := ∀ b o, H b = some o → H' b = some o
theorem Same.refl (H : Hp) : Same H H := fun _ _ h => h
theorem Same.trans {H H1 H2 : Hp} (a : Same H H1) (b : Same H1 H2) : Same H H2 := fun c o h => b c o (a c o h)
theorem Same.free {H H' : Hp} (e : Same H H') {l : Addr} (h : H' l = Option.none) : H l = Option.none := by
  cases q : H l with
  | none => rfl
  | some o =>
    rw [e l o q] at h
    cases h
theorem Same.seq {K : PySem.W.Frag} {H H' : Hp} {a : Addr} {xs : List V} (e : Same H H') (h : SqL K H a xs) : SqL K H' a xs := by
  rcases h with (h | ⟨o, h⟩) | h
  · exact .inl (.inl (e _ _ h))
  · exact .inl (.inr ⟨o, e _ _ h⟩)
  · exact .inr h

section
variable {κ : Type} [DecidableEq κ]
end
theorem nd_ix {α : Type} {l : List α} (hN : l.Nodup) {i j : Nat} {x : α} (a : l[i]? = some x) (b : l[j]? = some x) : i = j := by
  obtain ⟨h1, e1⟩ := List.getElem?_eq_some_iff.mp a
  obtain ⟨h2, e2⟩ := List.getElem?_eq_some_iff.mp b
  exact (List.getElem_inj hN).mp (e1.trans e2.symm)
theorem Same.made {H H1 : Hp} {x dx C : Addr} (nx : H x = Option.none) (nd : H dx = Option.none) (k : ∀ b o, (upd (upd H dx (.own x)) x (.ins C dx [])) b = some o → b ≠ x → H1 b = some o) : Same H H1 := fun b o e =>
  k b o (by rw [upd_ne (ne_of_none e nx), upd_ne (ne_of_none e nd)]; exact e) (ne_of_none e nx)
end L2

end

section
set_option Elab.async false
set_option linter.all false
set_option maxRecDepth 100000
set_option maxHeartbeats 2000000
namespace L2
open PySem PySem.Spec PyProof.Rows
open PySem.W (WData Codec OpenSpec Well WellAll ReadsW ReadsAllW)
mutual
/-- x stands for the datum d, lists and tuples all the way -/
inductive Dw (K : PySem.W.Frag) (H : Hp) : V → WData → Prop
  | non : Dw K H .non .none
  | bl (b : Bool) : Dw K H (.bl b) (.bool b)
  | int (i : Int) : Dw K H (.int i) (.int i)
  | str (x : Str) : Dw K H (.str x) (.str x)
  | byt (b : Array UInt8) : Dw K H (.byt b) (.bytes b.toList)
  | lst {a : Addr} {xs : List V} {ds : List WData} : SqL K H a xs → DwAll K H xs ds → Dw K H (.ref a) (.list ds)
  | tup {a : Addr} {xs : List V} {ds : List WData} : SqT K H a xs → DwAll K H xs ds → Dw K H (.ref a) (.tuple ds)
inductive DwAll (K : PySem.W.Frag) (H : Hp) : List V → List WData → Prop
  | nil : DwAll K H [] []
  | cons {v : V} {vs : List V} {d : WData} {ds : List WData} : Dw K H v d → DwAll K H vs ds → DwAll K H (v :: vs) (d :: ds)
end
theorem dw_ints {K : PySem.W.Frag} {H : Hp} : ∀ ns : List Int, DwAll K H (ns.map V.int) (ns.map WData.int)
  | [] => .nil
  | n :: r => .cons (.int n) (dw_ints r)
theorem ints_dw {K : PySem.W.Frag} {H : Hp} : ∀ (ns : List Int) (xs : List V), DwAll K H xs (ns.map WData.int) → xs = ns.map V.int
  | [], xs, h => by
    cases h
    rfl
  | n :: r, xs, h => by
    cases h with
    | cons h1 h2 =>
      cases h1
      rw [ints_dw r _ h2] <;> rfl
section
variable {P : Program} {w : World} {K : PySem.W.Frag} {H : Hp} {h : Heap} {R : PySem.W.WRecords} {cl : Str → Option Addr}
theorem sqL_at {a : Addr} {xs : List V} (hok : HOk P w H h) (KX : K.In h) (q : SqL K H a xs) : ∃ (its : List Value) (o : Obj) (n : Nat), Vals xs its ∧ h.get? a = some o ∧ o.cls = .type "list" ∧ o.data = .seq its.toArray n := by
  rcases q with q | ⟨o, its, n, e, hc, _, hd, _, hv⟩
  · obtain ⟨_, its, n, hv, e⟩ := (show ObjOk P w H h a (.lst xs) from q.ok hok)
    exact ⟨its, _, n, hv, e, rfl, rfl⟩
  · exact ⟨its.toList, o, n, hv, KX _ _ e, hc, by simp [hd]⟩
theorem sqT_at {a : Addr} {xs : List V} (hok : HOk P w H h) (KX : K.In h) (q : SqT K H a xs) : ∃ (its : List Value) (o : Obj) (n : Nat), Vals xs its ∧ h.get? a = some o ∧ o.cls = .type "tuple" ∧ o.data = .seq its.toArray n := by
  rcases q with q | ⟨o, its, n, e, hc, hd, _, hv⟩
  · obtain ⟨_, its, hv, o, e, hc, n, hd⟩ := (show ObjOk P w H h a (.tup xs) from q.ok hok)
    exact ⟨its, o, n, hv, e, hc, hd⟩
  · exact ⟨its.toList, o, n, hv, KX _ _ e, hc, by simp [hd]⟩
mutual
theorem Dw.reads (hok : HOk P w H h) (KX : K.In h) : ∀ (d : WData) (v : V) (u : Value), Dw K H v d → RelV v u → ∃ as, ReadsW R cl h u d as
  | .none, _, _, x, r => by
    cases x
    cases r
    exact ⟨_, ReadsW.none⟩
  | .bool b, _, _, x, r => by
    cases x
    cases r
    exact ⟨_, ReadsW.bool b⟩
  | .int i, _, _, x, r => by
    cases x
    obtain ⟨t, rfl⟩ := r
    exact ⟨_, ReadsW.int i t⟩
  | .str s, _, _, x, r => by
    cases x
    obtain ⟨t, rfl⟩ := r
    exact ⟨_, ReadsW.str s t⟩
  | .bytes b, _, _, x, r => by
    cases x
    obtain ⟨t, rfl⟩ := r
    exact ⟨_, ReadsW.bytes _ t⟩
  | .list ds, _, _, x, r => by
    cases x with
    | lst hs ha =>
      cases r
      obtain ⟨its, o, n, rv, ho, hc, hd⟩ := sqL_at hok KX hs
      obtain ⟨as, hr⟩ := Dw.readsAll hok KX ds _ its ha rv
      exact ⟨_, ReadsW.list ho hc hd hr⟩
  | .tuple ds, _, _, x, r => by
    cases x with
    | tup hs ha =>
      cases r
      obtain ⟨its, o, n, rv, ho, hc, hd⟩ := sqT_at hok KX hs
      obtain ⟨as, hr⟩ := Dw.readsAll hok KX ds _ its ha rv
      exact ⟨_, ReadsW.tuple ho hc hd hr⟩
  | .float _, _, _, x, _ => by cases x
  | .dict _, _, _, x, _ => by cases x
  | .bytearray _, _, _, x, _ => by cases x
  | .set _, _, _, x, _ => by cases x
  | .frozenset _, _, _, x, _ => by cases x
  | .obj _ _, _, _, x, _ => by cases x
theorem Dw.readsAll (hok : HOk P w H h) (KX : K.In h) : ∀ (ds : List WData) (vs : List V) (us : List Value), DwAll K H vs ds → Vals vs us → ∃ as, ReadsAllW R cl h us ds as
  | [], _, _, x, r => by
    cases x
    cases r
    exact ⟨_, ReadsAllW.nil⟩
  | d :: ds, _, _, x, r => by
    cases x with
    | cons h1 h2 =>
      cases r with
      | cons r1 r2 =>
        obtain ⟨as, q1⟩ := Dw.reads hok KX d _ _ h1 r1
        obtain ⟨bs, q2⟩ := Dw.readsAll hok KX ds _ _ h2 r2
        exact ⟨_, ReadsAllW.cons q1 q2⟩
end
end
mutual
/-- data that a codec tells -/
def plW : WData → Bool
  | .none => true
  | .bool _ => true
  | .int _ => true
  | .str _ => true
  | .bytes _ => true
  | .list xs => plWs xs
  | .tuple xs => plWs xs
  | _ => false
def plWs : List WData → Bool
  | [] => true
  | x :: r => plW x && plWs r
end
theorem plWs_map {α : Type} {f : α → WData} (h : ∀ a, plW (f a) = true) : ∀ l : List α, plWs (l.map f) = true
  | [] => rfl
  | x :: r => by
    show (plW (f x) && plWs (r.map f)) = true
    rw [h x, plWs_map h r] <;> rfl
theorem pl_enc : ∀ (c : Codec) (a : c.denote), plW (c.enc a) = true
  | .unit, _ => rfl
  | .bool, _ => rfl
  | .int _ _, _ => rfl
  | .nat _ _, _ => rfl
  | .u8, _ => rfl
  | .bytes _ _, _ => rfl
  | .text _ _ _ _, _ => rfl
  | .list _ _ c, a => plWs_map (fun x => pl_enc c x) a
  | .pair c d, a => by
    show (plW (c.enc a.1) && (plW (d.enc a.2) && true)) = true
    rw [pl_enc c a.1, pl_enc d a.2] <;> rfl
  | .triple c d e, a => by
    show (plW (c.enc a.1) && (plW (d.enc a.2.1) && (plW (e.enc a.2.2) && true))) = true
    rw [pl_enc c a.1, pl_enc d a.2.1, pl_enc e a.2.2] <;> rfl
  | .option c, none => rfl
  | .option c, some x => pl_enc c x
theorem pl_encAll : ∀ (cs : List Codec) (a : Codec.denoteAll cs), plWs (Codec.encAll cs a) = true
  | [], _ => rfl
  | c :: cs, a => by
    show (plW (c.enc a.1) && plWs (Codec.encAll cs a.2)) = true
    rw [pl_enc c a.1, pl_encAll cs a.2] <;> rfl
theorem weight_mem : ∀ {xs : List WData} {d : WData}, d ∈ xs → d.weight ≤ WData.weightAll xs
  | [], d, h => absurd h (by simp)
  | x :: r, d, h => by
    show d.weight ≤ x.weight + 1 + WData.weightAll r
    rcases List.mem_cons.mp h with e | m
    · rw [e]
      omega
    · have z := weight_mem m
      omega
def toV : Value → V
  | .none => .non
  | .bool b => .bl b
  | .int i _ => .int i
  | .str x _ => .str x
  | .bytes b _ => .byt b
  | .ref a => .ref a
  | _ => .non
def OkU (A : List Addr) : Value → Prop
  | .none => True
  | .bool _ => True
  | .int _ _ => True
  | .str _ _ => True
  | .bytes _ _ => True
  | .ref a => a ∈ A
  | _ => False
theorem OkU.mono {A B : List Addr} (h : ∀ a ∈ A, a ∈ B) : ∀ {u : Value}, OkU A u → OkU B u := fun {u} x => by
  cases u with
  | ref a => exact h a x
  | none => trivial
  | bool b => trivial
  | int i t => trivial
  | str s t => trivial
  | bytes b t => trivial
  | _ => exact False.elim x
theorem relV_toV {A : List Addr} {u : Value} (x : OkU A u) : RelV (toV u) u := by
  cases u with
  | ref a => rfl
  | none => rfl
  | bool b => rfl
  | int i t => exact ⟨t, rfl⟩
  | str s t => exact ⟨t, rfl⟩
  | bytes b t => exact ⟨t, rfl⟩
  | _ => exact False.elim x
theorem vals_toV {A : List Addr} : ∀ {vs : List Value}, (∀ u ∈ vs, OkU A u) → Vals (vs.map toV) vs
  | [], _ => .nil
  | u :: r, h => .cons (relV_toV (h u (List.mem_cons_self ..))) (vals_toV fun x hx => h x (List.mem_cons_of_mem _ hx))
def ArgOb (h : Heap) (A : List Addr) (a : Addr) : Prop := ∃ vs : List Value, vs.length ≤ sizeLine ∧ (∀ u ∈ vs, OkU A u) ∧
  (h.get? a = some { cls := .type "list", data := .seq vs.toArray } ∨ h.get? a = some { cls := .type "tuple", data := .seq vs.toArray })
theorem ArgOb.mono {h : Heap} {A B : List Addr} {a : Addr} (k : ∀ a ∈ A, a ∈ B) (x : ArgOb h A a) : ArgOb h B a := by
  obtain ⟨vs, h1, h2, h3⟩ := x
  exact ⟨vs, h1, fun u hu => (h2 u hu).mono k, h3⟩
theorem wellAll_len {P : Params} {h : Heap} : ∀ {vs : List Value} {ds : List WData}, WellAll P h vs ds → vs.length = ds.length
  | _, _, .nil => rfl
  | _, _, .cons _ b => by
    show _ + 1 = _ + 1
    rw [wellAll_len b]
theorem well_list {P : Params} {h : Heap} {v : Value} {ds : List WData} (x : Well P h v (.list ds)) : ∃ (a : Addr) (vs : List Value), v = .ref a ∧ h.get? a = some { cls := .type "list", data := .seq vs.toArray } ∧ WellAll P h vs ds := by
  cases x with
  | list ho hall => exact ⟨_, _, rfl, ho, hall⟩
theorem well_tuple {P : Params} {h : Heap} {v : Value} {ds : List WData} (x : Well P h v (.tuple ds)) : ∃ (a : Addr) (vs : List Value), v = .ref a ∧ h.get? a = some { cls := .type "tuple", data := .seq vs.toArray } ∧ WellAll P h vs ds := by
  cases x with
  | tuple ho hall => exact ⟨_, _, rfl, ho, hall⟩
theorem well_cons {P : Params} {h : Heap} {us : List Value} {d : WData} {ds : List WData} (x : WellAll P h us (d :: ds)) : ∃ (v : Value) (vs : List Value), us = v :: vs ∧ Well P h v d ∧ WellAll P h vs ds := by
  cases x with
  | cons a b => exact ⟨_, _, rfl, a, b⟩
theorem line_of {n : Nat} (h : n ≤ 1048576) : n ≤ sizeLine := Nat.le_trans h (by decide)
section
variable {P : Params} {h : Heap}
mutual
theorem area_one : ∀ (d : WData) (v : Value), Well P h v d → plW d = true → d.weight ≤ 1048576 → ∃ A : List Addr, OkU A v ∧ ∀ a ∈ A, ArgOb h A a
  | .none, _, x, _, _ => by
    cases x
    exact ⟨[], trivial, fun a m => absurd m (by simp)⟩
  | .bool b, _, x, _, _ => by
    cases x
    exact ⟨[], trivial, fun a m => absurd m (by simp)⟩
  | .int i, _, x, _, _ => by
    cases x
    exact ⟨[], trivial, fun a m => absurd m (by simp)⟩
  | .str s, _, x, _, _ => by
    cases x
    exact ⟨[], trivial, fun a m => absurd m (by simp)⟩
  | .bytes b, _, x, _, _ => by
    cases x
    exact ⟨[], trivial, fun a m => absurd m (by simp)⟩
  | .list ds, _, x, p, z => by
    obtain ⟨a, vs, rfl, ho, hall⟩ := well_list x
    have z2 : WData.weightAll ds ≤ 1048576 := z
    obtain ⟨A, h1, h2⟩ := area_all ds _ hall p fun d hd => Nat.le_trans (weight_mem hd) z2
    have k : ∀ b ∈ A, b ∈ a :: A := fun b hb => List.mem_cons_of_mem _ hb
    refine ⟨a :: A, List.mem_cons_self .., fun b hb => ?_⟩
    rcases List.mem_cons.mp hb with e | m
    · rw [e]
      exact ⟨vs, line_of (by rw [wellAll_len hall]; exact Nat.le_trans (PySem.W.length_le_weightAllW ds) z2), fun u hu => (h1 u hu).mono k, .inl ho⟩
    · exact (h2 b m).mono k
  | .tuple ds, _, x, p, z => by
    obtain ⟨a, vs, rfl, ho, hall⟩ := well_tuple x
    have z2 : WData.weightAll ds ≤ 1048576 := z
    obtain ⟨A, h1, h2⟩ := area_all ds _ hall p fun d hd => Nat.le_trans (weight_mem hd) z2
    have k : ∀ b ∈ A, b ∈ a :: A := fun b hb => List.mem_cons_of_mem _ hb
    refine ⟨a :: A, List.mem_cons_self .., fun b hb => ?_⟩
    rcases List.mem_cons.mp hb with e | m
    · rw [e]
      exact ⟨vs, line_of (by rw [wellAll_len hall]; exact Nat.le_trans (PySem.W.length_le_weightAllW ds) z2), fun u hu => (h1 u hu).mono k, .inr ho⟩
    · exact (h2 b m).mono k
  | .float _, _, _, p, _ => Bool.noConfusion (show false = true from p)
  | .dict _, _, _, p, _ => Bool.noConfusion (show false = true from p)
  | .bytearray _, _, _, p, _ => Bool.noConfusion (show false = true from p)
  | .set _, _, _, p, _ => Bool.noConfusion (show false = true from p)
  | .frozenset _, _, _, p, _ => Bool.noConfusion (show false = true from p)
  | .obj _ _, _, _, p, _ => Bool.noConfusion (show false = true from p)
theorem area_all : ∀ (ds : List WData) (vs : List Value), WellAll P h vs ds → plWs ds = true → (∀ d ∈ ds, d.weight ≤ 1048576) → ∃ A : List Addr, (∀ u ∈ vs, OkU A u) ∧ ∀ a ∈ A, ArgOb h A a
  | [], _, x, _, _ => by
    cases x
    exact ⟨[], fun u m => absurd m (by simp), fun a m => absurd m (by simp)⟩
  | d :: ds, _, x, p, z => by
    obtain ⟨v, vs, rfl, x1, x2⟩ := well_cons x
    have q : plW d = true ∧ plWs ds = true := Bool.and_eq_true_iff.mp p
    obtain ⟨A, a1, a2⟩ := area_one d v x1 q.1 (z d (List.mem_cons_self ..))
    obtain ⟨B, b1, b2⟩ := area_all ds vs x2 q.2 fun e he => z e (List.mem_cons_of_mem _ he)
    have kA : ∀ b ∈ A, b ∈ A ++ B := fun b hb => List.mem_append.mpr (.inl hb)
    have kB : ∀ b ∈ B, b ∈ A ++ B := fun b hb => List.mem_append.mpr (.inr hb)
    refine ⟨A ++ B, fun u hu => ?_, fun b hb => ?_⟩
    · rcases List.mem_cons.mp hu with e | m
      · rw [e]
        exact a1.mono kA
      · exact (b1 u m).mono kB
    · rcases List.mem_append.mp hb with m | m
      · exact (a2 b m).mono kA
      · exact (b2 b m).mono kB
end
end
def hoOf (o : Obj) : Option HO := match o.data with
  | .seq vs _ => if (o.cls == Value.type "list") = true then some (.frz o (.lst (vs.toList.map toV))) else some (.frz o (.tup (vs.toList.map toV)))
  | _ => none
def argH (K : PySem.W.Frag) (h : Heap) (A : List Addr) : Hp := fun b => if b ∈ A then (if (K.lookup b).isNone = true then (h.get? b).bind hoOf else none) else none
def OnlyF (H : Hp) : Prop := ∀ b, H b = none ∨ ∃ o u, H b = some (.frz o u)
theorem hoOf_lst (vs : List Value) : hoOf { cls := .type "list", data := .seq vs.toArray } = some (.frz { cls := .type "list", data := .seq vs.toArray } (.lst (vs.map toV))) := by
  show (if (Value.type "list" == Value.type "list") = true then some (HO.frz { cls := .type "list", data := .seq vs.toArray } (.lst (vs.toArray.toList.map toV))) else some (HO.frz { cls := .type "list", data := .seq vs.toArray } (.tup (vs.toArray.toList.map toV)))) = _
  rw [if_pos (beq_self_eq_true _)]
theorem hoOf_tup (vs : List Value) : hoOf { cls := .type "tuple", data := .seq vs.toArray } = some (.frz { cls := .type "tuple", data := .seq vs.toArray } (.tup (vs.map toV))) := by
  show (if (Value.type "tuple" == Value.type "list") = true then some (HO.frz { cls := .type "tuple", data := .seq vs.toArray } (.lst (vs.toArray.toList.map toV))) else some (HO.frz { cls := .type "tuple", data := .seq vs.toArray } (.tup (vs.toArray.toList.map toV)))) = _
  rw [if_neg (by decide)]
section
variable {P : Program} {w : World} {K : PySem.W.Frag} {h : Heap} {A : List Addr}
theorem argH_at {b : Addr} {o : Obj} (hb : b ∈ A) (hk : K.lookup b = none) (e : h.get? b = some o) : argH K h A b = hoOf o := by
  unfold argH
  rw [if_pos hb, hk, if_pos (show (none : Option Obj).isNone = true from rfl), e] <;> rfl
theorem of_argH {b : Addr} {u : HO} (q : argH K h A b = some u) : b ∈ A ∧ K.lookup b = none := by
  unfold argH at q
  by_cases hb : b ∈ A
  · rw [if_pos hb] at q
    cases hk : K.lookup b with
    | none => exact ⟨hb, rfl⟩
    | some o =>
      rw [hk, if_neg (by simp)] at q
      cases q
  · rw [if_neg hb] at q
    cases q
theorem argH_is (ar : ∀ a ∈ A, ArgOb h A a) {b : Addr} {u : HO} (q : argH K h A b = some u) : K.lookup b = none ∧ ∃ vs : List Value, vs.length ≤ sizeLine ∧ (∀ u ∈ vs, OkU A u) ∧
    ((h.get? b = some { cls := .type "list", data := .seq vs.toArray } ∧ u = .frz { cls := .type "list", data := .seq vs.toArray } (.lst (vs.map toV))) ∨
     (h.get? b = some { cls := .type "tuple", data := .seq vs.toArray } ∧ u = .frz { cls := .type "tuple", data := .seq vs.toArray } (.tup (vs.map toV)))) := by
  obtain ⟨hb, hk⟩ := of_argH q
  obtain ⟨vs, h1, h2, h3⟩ := ar b hb
  refine ⟨hk, vs, h1, h2, ?_⟩
  rcases h3 with e | e
  · rw [argH_at hb hk e, hoOf_lst] at q
    exact .inl ⟨e, (Option.some.inj q).symm⟩
  · rw [argH_at hb hk e, hoOf_tup] at q
    exact .inr ⟨e, (Option.some.inj q).symm⟩
theorem argH_only (ar : ∀ a ∈ A, ArgOb h A a) : OnlyF (argH K h A) := fun b => by
  cases q : argH K h A b with
  | none => exact .inl rfl
  | some u =>
    obtain ⟨_, vs, _, _, ⟨_, e⟩ | ⟨_, e⟩⟩ := argH_is ar q
    · exact .inr ⟨_, _, by rw [e]⟩
    · exact .inr ⟨_, _, by rw [e]⟩
theorem argH_ok (ar : ∀ a ∈ A, ArgOb h A a) : HOk P w (argH K h A) h := fun b u q => by
  obtain ⟨_, vs, h1, h2, ⟨e, rfl⟩ | ⟨e, rfl⟩⟩ := argH_is ar q
  · exact ⟨e, by rw [List.length_map]; exact h1, vs, _, vals_toV h2, e⟩
  · exact ⟨e, by rw [List.length_map]; exact h1, vs, vals_toV h2, _, e, rfl, _, rfl⟩
theorem seq_inj {c c' : Value} {vs us : List Value} (e : (some { cls := c, data := .seq vs.toArray } : Option Obj) = some { cls := c', data := .seq us.toArray }) : c = c' ∧ vs = us := by
  have e1 := Option.some.inj e
  have e2 : c = c' := congrArg Obj.cls e1
  have e3 : Data.seq vs.toArray = Data.seq us.toArray := congrArg Obj.data e1
  injection e3 with e4
  refine ⟨e2, ?_⟩
  have e5 := congrArg Array.toList e4
  simpa using e5
theorem argL (KX : K.In h) (ar : ∀ a ∈ A, ArgOb h A a) {a : Addr} {vs : List Value} (ha : a ∈ A) (e : h.get? a = some { cls := .type "list", data := .seq vs.toArray }) : (∀ u ∈ vs, OkU A u) ∧ SqL K (argH K h A) a (vs.map toV) := by
  obtain ⟨us, h1, h2, h3⟩ := ar a ha
  have hu : us = vs := by
    rcases h3 with q | q
    · rw [e] at q
      exact (seq_inj q).2.symm
    · rw [e] at q
      exact absurd (Value.type.inj (seq_inj q).1) (by decide)
  subst hu
  refine ⟨h2, ?_⟩
  cases hk : K.lookup a with
  | none => exact .inl (.inr ⟨_, by rw [argH_at ha hk e, hoOf_lst]⟩)
  | some o =>
    have e2 := KX a o hk
    rw [e] at e2
    obtain rfl := Option.some.inj e2
    exact .inr ⟨_, us.toArray, _, hk, rfl, rfl, rfl, by rw [List.size_toArray]; exact h1, by simpa using vals_toV h2⟩
theorem argT (KX : K.In h) (ar : ∀ a ∈ A, ArgOb h A a) {a : Addr} {vs : List Value} (ha : a ∈ A) (e : h.get? a = some { cls := .type "tuple", data := .seq vs.toArray }) : (∀ u ∈ vs, OkU A u) ∧ SqT K (argH K h A) a (vs.map toV) := by
  obtain ⟨us, h1, h2, h3⟩ := ar a ha
  have hu : us = vs := by
    rcases h3 with q | q
    · rw [e] at q
      exact absurd (Value.type.inj (seq_inj q).1) (by decide)
    · rw [e] at q
      exact (seq_inj q).2.symm
  subst hu
  refine ⟨h2, ?_⟩
  cases hk : K.lookup a with
  | none => exact .inl (.inr ⟨_, by rw [argH_at ha hk e, hoOf_tup]⟩)
  | some o =>
    have e2 := KX a o hk
    rw [e] at e2
    obtain rfl := Option.some.inj e2
    exact .inr ⟨_, us.toArray, _, hk, rfl, rfl, by rw [List.size_toArray]; exact h1, by simpa using vals_toV h2⟩
mutual
theorem dw_one {Pm : Params} (KX : K.In h) (ar : ∀ a ∈ A, ArgOb h A a) : ∀ (d : WData) (v : Value), Well Pm h v d → plW d = true → OkU A v → Dw K (argH K h A) (toV v) d
  | .none, _, x, _, _ => by
    cases x
    exact .non
  | .bool b, _, x, _, _ => by
    cases x
    exact .bl b
  | .int i, _, x, _, _ => by
    cases x
    exact .int i
  | .str s, _, x, _, _ => by
    cases x
    exact .str s
  | .bytes b, _, x, _, _ => by
    cases x
    have z := Dw.byt (K := K) (H := argH K h A) b.toArray
    exact z
  | .list ds, _, x, p, hu => by
    obtain ⟨a, vs, rfl, ho, hall⟩ := well_list x
    obtain ⟨h2, hs⟩ := argL KX ar hu ho
    exact .lst hs (dw_all KX ar ds _ hall p h2)
  | .tuple ds, _, x, p, hu => by
    obtain ⟨a, vs, rfl, ho, hall⟩ := well_tuple x
    obtain ⟨h2, hs⟩ := argT KX ar hu ho
    exact .tup hs (dw_all KX ar ds _ hall p h2)
  | .float _, _, _, p, _ => Bool.noConfusion (show false = true from p)
  | .dict _, _, _, p, _ => Bool.noConfusion (show false = true from p)
  | .bytearray _, _, _, p, _ => Bool.noConfusion (show false = true from p)
  | .set _, _, _, p, _ => Bool.noConfusion (show false = true from p)
  | .frozenset _, _, _, p, _ => Bool.noConfusion (show false = true from p)
  | .obj _ _, _, _, p, _ => Bool.noConfusion (show false = true from p)
theorem dw_all {Pm : Params} (KX : K.In h) (ar : ∀ a ∈ A, ArgOb h A a) : ∀ (ds : List WData) (vs : List Value), WellAll Pm h vs ds → plWs ds = true → (∀ u ∈ vs, OkU A u) → DwAll K (argH K h A) (vs.map toV) ds
  | [], _, x, _, _ => by
    cases x
    exact .nil
  | d :: ds, _, x, p, hu => by
    obtain ⟨v, vs, rfl, x1, x2⟩ := well_cons x
    have q : plW d = true ∧ plWs ds = true := Bool.and_eq_true_iff.mp p
    exact .cons (dw_one KX ar d v x1 q.1 (hu _ (List.mem_cons_self ..))) (dw_all KX ar ds vs x2 q.2 fun u m => hu u (List.mem_cons_of_mem _ m))
end
end
theorem spec_call {P : Program} {w : World} {K : PySem.W.Frag} {mg mb : Str → Option Value} {CX : CXT} {k : Nat} {fa : Addr} {fd : FuncData} {ps : List Str} {sp : Sp} {s₁ : Shared} {vals : List Value} {ds : List WData} {R : PySem.W.WRecords} {cl : Str → Option Addr} {d0 : WData}
    (KX : K.In s₁.heap) (hns : s₁.heap.Ns mainGlobals mg) (hb : s₁.heap.Ns builtinsNs mb) (hbb : ∀ x : Str, x ≠ "__name__" → mb x = bootBuiltins x) (hlim : s₁.heap.NoLimit) (hg : s₁.gens = #[])
    (hwl : WellAll w.params s₁.heap vals ds) (hpl : plWs ds = true) (hwt : ∀ d ∈ ds, d.weight ≤ 1048576) (hr : Room k callerA)
    (F : ∀ base : Heap, K.In base → base.Ns mainGlobals mg → FnOk P w K mg base CX k fa fd ps sp) (hbind : ∀ (s : Shared) (us : List Value), us.length = ps.length → BindsTo s fd ⟨us, []⟩ (ps.zip us)) (hlen : ds.length = ps.length)
    (hsp : ∀ (H : Hp) (xs : List V), OnlyF H → DwAll K H xs ds → sp xs H (fun v H' => Dw K H' v d0) fun _ _ _ => False)
    (hCX : ∀ H e s', CX [] H s₁ (fun _ _ _ => False) e s' → False) :
    codeAny (model P w) callerA (.call (.ref fa) ⟨vals, []⟩) (fun r s' => ∃ u as, r = .ok (.ret u) ∧ ReadsW R cl s'.heap u d0 as ∧ OldK s₁.heap s'.heap ∧ s'.os = s₁.os ∧ AllBare s'.gens) s₁ := by
  obtain ⟨A, ho, ar⟩ := area_all ds vals hwl hpl hwt
  have hO : OnlyF (argH K s₁.heap A) := argH_only ar
  have hok : HOk P w (argH K s₁.heap A) s₁.heap := argH_ok ar
  have hS := dw_all KX ar ds vals hwl hpl ho
  have hV := vals_toV ho
  have hK : ∀ b u, argH K s₁.heap A b = some u → K.lookup b = none := fun b u q => (argH_is ar q).1
  have noA : ∀ {b : Addr} {o : Obj} {es : Array DictEntry} {ep : Nat}, s₁.heap.get? b = some o → o.data = .dict es ep → argH K s₁.heap A b = none := fun {b o es ep} e d => by
    cases q : argH K s₁.heap A b with
    | none => rfl
    | some u =>
      obtain ⟨_, vs, _, _, ⟨e2, _⟩ | ⟨e2, _⟩⟩ := argH_is ar q
      · rw [e2] at e
        cases e
        have d' : Data.seq vs.toArray _ = Data.dict es ep := d
        cases d'
      · rw [e2] at e
        cases e
        have d' : Data.seq vs.toArray _ = Data.dict es ep := d
        cases d'
  generalize argH K s₁.heap A = H at hO hok hS hK noA
  have base_of : ∀ {b : Addr} {o : Obj}, s₁.heap.get? b = some o → H b = none → (hidT s₁.heap H).get? b = some o := fun e n => hidT_get e n
  have nsK : ∀ {b : Addr} {m : Str → Option Value}, s₁.heap.Ns b m → (hidT s₁.heap H).Ns b m := fun {b m} ⟨o, es, ep, e, d, r⟩ => ⟨o, es, ep, base_of e (noA e d), d, r⟩
  have nK : ∀ b o, K.lookup b = some o → H b = none := fun b o e => by
    cases q : H b with
    | none => rfl
    | some u =>
      rw [hK b u q] at e
      cases e
  have hKb : K.In (hidT s₁.heap H) := fun b o e => base_of (KX b o e) (nK b o e)
  have hM : Mod K mg (hidT s₁.heap H) := ⟨hKb, nsK hns, ⟨mb, nsK hb, hbb⟩, let ⟨mc, h1, h2⟩ := hlim; ⟨mc, nsK h1, h2⟩⟩
  have e0 : Env0 P w K mg (hidT s₁.heap H) callerA [] s₁ H := ⟨rfl, hM, fun b o e => of_hidT e, Nat.le_of_eq (hidT_size _ _), trivial, fun b hb => absurd (show b ∈ ([] : List Addr) from hb) (by simp), hok, .of_eq hg⟩
  have hl : vals.length = ps.length := by rw [wellAll_len hwl]; exact hlen
  refine codeAny_mono ((F _ hKb (nsK hns)).run callerA [] s₁ H ⟨vals, []⟩ vals (vals.map toV) _ _ hr e0 (hbind s₁ vals hl) hV (hsp H _ hO hS)) fun r s' x => ?_
  cases r with
  | error e => exact (hCX H e s' x).elim
  | ok fl =>
    cases fl with
    | next => exact False.elim x
    | brk => exact False.elim x
    | cont => exact False.elim x
    | ret u =>
      obtain ⟨v, H', os, bare, un, hok', r', q⟩ := x
      have kept : ∀ b o, s₁.heap.get? b = some o → s'.heap.get? b = some o := fun b o e => by
        cases q2 : H b with
        | none => exact un.keep b o e q2 (by intro z; exact absurd (show b ∈ ([] : List Addr) from z) (by simp)) (by simp)
        | some u2 =>
          rcases hO b with z | ⟨ob, u3, z⟩
          · rw [q2] at z
            cases z
          · have z2 := un.frzs b ob _ z
            obtain ⟨e1, _⟩ := hok b _ z
            obtain ⟨e2, _⟩ := hok' b _ z2
            rw [e] at e1
            cases e1
            exact e2
      have KX' : K.In s'.heap := fun b o e => kept b o (KX b o e)
      obtain ⟨as, hrd⟩ := Dw.reads (R := R) (cl := cl) hok' KX' d0 v u q r'
      exact ⟨u, as, rfl, hrd, OldK.of_keep kept, os, bare⟩
theorem layable_weight {ds : List WData} (h : WData.layableAll ds = true) : ∀ d ∈ ds, d.weight ≤ 1048576 := fun d hd =>
  (PySem.W.layableW_iff.mp (List.all_eq_true.mp h d hd)).2.2
theorem encAll_len : ∀ (cs : List Codec) (a : Codec.denoteAll cs), (Codec.encAll cs a).length = cs.length
  | [], _ => rfl
  | c :: cs, a => by
    show (Codec.encAll cs a.2).length + 1 = cs.length + 1
    rw [encAll_len cs a.2]
theorem walk_spec {r : OpenSpec} {k : Nat} {q : Program} {loose : List Str} {XP : (Str → Option Value) → Heap → Prop} {YP : World → Heap → Prop} {d : DefRec} {K : Params → PySem.W.Frag} {CX : World → CXT} {ps : List Str} {sp : World → Sp}
    (hwell : r.wellSaid = true) (hdf : d.params.defaults = []) (hlen : r.args.length = ps.length) (hr : Room k callerA)
    (hY : ∀ (w : World) (h : Heap), YP w h → (K w.params).In h)
    (F : ∀ (w : World) (mg : Str → Option Value) (fa : Addr) (h : Heap), YP w h → (K w.params).In h → h.Ns mainGlobals mg → mg d.name = some (.ref fa) →
      ∃ fd : FuncData, (∀ (s : Shared) (us : List Value), us.length = ps.length → BindsTo s fd ⟨us, []⟩ (ps.zip us)) ∧
        ∀ base : Heap, (K w.params).In base → base.Ns mainGlobals mg → FnOk r.prog w (K w.params) mg base (CX w) k fa fd ps (sp w))
    (hsp : ∀ (w : World) (H : Hp) (xs : List V) (a : Codec.denoteAll r.args), OnlyF H → Codec.withinAll r.args a = true → Codec.app r.args r.asked a = true → DwAll (K w.params) H xs (Codec.encAll r.args a) →
      sp w xs H (fun v H' => Dw (K w.params) H' v (r.ret.enc (Codec.app r.args r.f a))) fun _ _ _ => False)
    (hCX : ∀ (w : World) (H : Hp) (s : Shared) (e : Value) (s' : Shared), CX w [] H s (fun _ _ _ => False) e s' → False) :
    PySem.W.WalkOS q loose XP YP r d [] (fun f vs => PySem.call f vs) := by
  intro w s_0 s₁ mg mb G Y fa o pm cd doc dV kV ho hd hcd hD hmg hg args vals as hpre hlay hrd hwl hlo
  obtain ⟨a, e1, e2⟩ := PySem.W.os_pre_some hpre
  obtain ⟨e3, hwi⟩ := Codec.encAll_of_decAll r.args args a e1
  subst e3
  have KX := hY w _ Y
  obtain ⟨fd, hb, hF⟩ := F w mg fa _ Y KX G.T.g hmg
  refine PySem.W.enter_call (codeAny_mono (spec_call (R := []) (cl := classAt s_0.heap) (d0 := r.ret.enc (Codec.app r.args r.f a)) KX G.T.g G.T.b G.T.builtins G.T.nolimit hg hwl (pl_encAll _ _) (layable_weight hlay) hr hF hb (by rw [encAll_len]; exact hlen)
    (fun H xs hO hS => hsp w H xs a hO hwi e2 hS) fun H e s' => hCX w H s₁ e s') fun r' s' hq => ?_)
  obtain ⟨u, as', rfl, h1, h2, h3, h4⟩ := hq
  exact ⟨.inl ⟨u, _, as', rfl, fun _ => rfl, h1, (OpenSpec.post_iff hwell hwi _ _).mpr rfl, fun z => Bool.noConfusion (show false = true from z)⟩, h2, h3, h4⟩
theorem walk_specK {r : OpenSpec} {k : Nat} {q : Program} {loose : List Str} {XP : (Str → Option Value) → Heap → Prop} {YP : World → Heap → Prop} {d : DefRec} {K : Params → PySem.W.Frag} {CX : CXT} {ps : List Str} {sp : PySem.W.Frag → Sp}
    (hwell : r.wellSaid = true) (hdf : d.params.defaults = []) (hlen : r.args.length = ps.length) (hr : Room k callerA)
    (hY : ∀ (w : World) (h : Heap), YP w h → (K w.params).In h)
    (F : ∀ (w : World) (mg : Str → Option Value) (fa : Addr) (h : Heap), YP w h → (K w.params).In h → h.Ns mainGlobals mg → mg d.name = some (.ref fa) →
      ∃ fd : FuncData, (∀ (s : Shared) (us : List Value), us.length = ps.length → BindsTo s fd ⟨us, []⟩ (ps.zip us)) ∧
        ∀ base : Heap, (K w.params).In base → base.Ns mainGlobals mg → FnOk r.prog w (K w.params) mg base CX k fa fd ps (sp (K w.params)))
    (hsp : ∀ (K : PySem.W.Frag) (H : Hp) (xs : List V) (a : Codec.denoteAll r.args), OnlyF H → Codec.withinAll r.args a = true → Codec.app r.args r.asked a = true → DwAll K H xs (Codec.encAll r.args a) →
      sp K xs H (fun v H' => Dw K H' v (r.ret.enc (Codec.app r.args r.f a))) fun _ _ _ => False)
    (hCX : ∀ (H : Hp) (s : Shared) (e : Value) (s' : Shared), CX [] H s (fun _ _ _ => False) e s' → False) :
    PySem.W.WalkOS q loose XP YP r d [] (fun f vs => PySem.call f vs) :=
  walk_spec (K := K) (CX := fun _ => CX) (sp := fun w => sp (K w.params)) hwell hdf hlen hr hY F (fun w H xs a h1 h2 h3 h4 => hsp (K w.params) H xs a h1 h2 h3 h4) fun _ H s e s' => hCX H s e s'
end L2
end

section
set_option Elab.async false
namespace TW
open Vbsgag

theorem most_cons (a : Int) (l : List Int) (b : Int) : most (a :: l) b = most l (max b a) := rfl
theorem le_most : ∀ (l : List Int) (b : Int), b ≤ most l b
  | [], b => Int.le_refl _
  | a :: l, b => by
    rw [most_cons]
    have := le_most l (max b a)
    omega
theorem mem_le_most : ∀ (l : List Int) (b x : Int), x ∈ l → x ≤ most l b
  | [], b, x, h => by cases h
  | a :: l, b, x, h => by
    rw [most_cons]
    rcases List.mem_cons.mp h with h | h
    · subst h
      have := le_most l (max b x)
      omega
    · exact mem_le_most l _ x h
theorem most_le : ∀ (l : List Int) (b c : Int), b ≤ c → (∀ x ∈ l, x ≤ c) → most l b ≤ c
  | [], b, c, h, _ => h
  | a :: l, b, c, h, k => by
    rw [most_cons]
    have h1 := k a List.mem_cons_self
    exact most_le l _ c (by omega) fun x hx => k x (List.mem_cons_of_mem _ hx)
theorem most_mem : ∀ (l : List Int) (b : Int), most l b = b ∨ most l b ∈ l
  | [], b => .inl rfl
  | a :: l, b => by
    rw [most_cons]
    rcases most_mem l (max b a) with h | h
    · rw [h]
      by_cases hb : a ≤ b
      · exact .inl (by omega)
      · exact .inr (by have : max b a = a := by omega
                       rw [this]; exact List.mem_cons_self)
    · exact .inr (List.mem_cons_of_mem _ h)
theorem most_perm {l l' : List Int} (h : l.Perm l') (b : Int) : most l b = most l' b := by
  apply Int.le_antisymm
  · exact most_le _ _ _ (le_most _ _) fun x hx => mem_le_most _ _ _ (h.mem_iff.mp hx)
  · exact most_le _ _ _ (le_most _ _) fun x hx => mem_le_most _ _ _ (h.mem_iff.mpr hx)
theorem top_cons (s : State) (p : Nat) (r l : List Nat) : top s (p :: r) l = most (l.map fun i => net s p i + top s r (l.erase i)) (top s r l) := rfl
theorem top_perm (s : State) : ∀ (ps : List Nat) {l l' : List Nat}, l.Perm l' → top s ps l = top s ps l'
  | [], _, _, _ => rfl
  | p :: r, l, l', h => by
    rw [top_cons, top_cons, top_perm s r h]
    have e : (l'.map fun i => net s p i + top s r (l.erase i)) = l'.map fun i => net s p i + top s r (l'.erase i) := by
      apply List.map_congr_left
      intro i _
      rw [top_perm s r (h.erase i)]
    rw [← e]
    exact most_perm (h.map _) _
theorem top_more (s : State) : ∀ (ps : List Nat) (l : List Nat) (i : Nat), top s ps l ≤ top s ps (i :: l)
  | [], _, _ => Int.le_refl _
  | p :: r, l, i => by
    rw [top_cons, top_cons]
    refine most_le _ _ _ ?_ fun x hx => ?_
    · exact Int.le_trans (top_more s r l i) (le_most _ _)
    · obtain ⟨j, hj, rfl⟩ := List.mem_map.mp hx
      refine Int.le_trans ?_ (mem_le_most _ _ (net s p j + top s r ((i :: l).erase j)) (List.mem_map.mpr ⟨j, List.mem_cons_of_mem _ hj, rfl⟩))
      refine Int.add_le_add_left ?_ _
      by_cases e : i = j
      · subst e
        rw [List.erase_cons_head]
        have h1 : l.Perm (i :: l.erase i) := List.perm_cons_erase hj
        rw [top_perm s r h1]
        exact top_more s r _ i
      · rw [List.erase_cons_tail (by simpa using e)]
        exact top_more s r _ i
theorem top_snoc (s : State) (ps l : List Nat) (i : Nat) : top s ps l ≤ top s ps (l ++ [i]) := by
  have h : (l ++ [i]).Perm (i :: l) := List.perm_append_singleton i l
  rw [top_perm s ps h]
  exact top_more s ps l i
theorem top_erase (s : State) (ps l : List Nat) {i : Nat} (h : i ∈ l) : top s ps (l.erase i) ≤ top s ps l := by
  rw [top_perm s ps (List.perm_cons_erase h)]
  exact top_more s ps _ i
def G : List (List Int) → List Nat → Int
  | [], _ => 0
  | row :: rest, sl => most (sl.map fun j => row.getD j 0 + G rest (sl.erase j)) (G rest sl)
theorem G_cons (row : List Int) (rest : List (List Int)) (sl : List Nat) : G (row :: rest) sl = most (sl.map fun j => row.getD j 0 + G rest (sl.erase j)) (G rest sl) := rfl
theorem map_erase (F : Nat → Nat) {sl : List Nat} {j : Nat} (h : j ∈ sl) : ((sl.map F).erase (F j)).Perm ((sl.erase j).map F) := by
  have h1 : (sl.map F).Perm (F j :: (sl.erase j).map F) := (List.perm_cons_erase h).map F
  have h2 := h1.erase (F j)
  rwa [List.erase_cons_head] at h2
theorem top_G (s : State) (F : Nat → Nat) (R : Nat → List Int) : ∀ (ps sl : List Nat), (∀ p ∈ ps, ∀ j ∈ sl, (R p).getD j 0 = net s p (F j)) → top s ps (sl.map F) = G (ps.map R) sl
  | [], _, _ => rfl
  | p :: r, sl, h => by
    rw [top_cons, List.map_cons, G_cons, List.map_map]
    have h0 : ∀ q ∈ r, ∀ j ∈ sl, (R q).getD j 0 = net s q (F j) := fun q hq j hj => h q (List.mem_cons_of_mem _ hq) j hj
    rw [top_G s F R r sl h0]
    congr 1
    apply List.map_congr_left
    intro j hj
    show net s p (F j) + top s r ((sl.map F).erase (F j)) = _
    rw [top_perm s r (map_erase F hj), h p List.mem_cons_self j hj, top_G s F R r (sl.erase j) fun q hq k hk => h0 q hq k (List.mem_of_mem_erase hk)]

def bits (M mask : Nat) : List Nat := (List.range M).filter fun j => mask.testBit j
theorem mem_bits {M mask j : Nat} : j ∈ bits M mask ↔ j < M ∧ mask.testBit j = true := by
  unfold bits
  rw [List.mem_filter, List.mem_range]
theorem bits_nodup (M mask : Nat) : (bits M mask).Nodup := List.Pairwise.filter _ List.nodup_range
theorem xor_add_and (m : Nat) : ∀ n : Nat, (m ^^^ n) + 2 * (m &&& n) = m + n := by
  induction m using Nat.strongRecOn with
  | _ m ih =>
    intro n
    by_cases h : m = 0
    · subst h; simp
    · have e1 := ih (m / 2) (by omega) (n / 2)
      have e2 : (m ^^^ n) / 2 = m / 2 ^^^ n / 2 := Nat.xor_div_two
      have e3 : (m &&& n) / 2 = m / 2 &&& n / 2 := Nat.and_div_two
      have hx := Nat.testBit_xor m n 0
      have hb := Nat.testBit_and m n 0
      simp only [Nat.testBit_zero] at hb hx
      have k1 : (m ^^^ n) % 2 = 0 ∨ (m ^^^ n) % 2 = 1 := by omega
      have k2 : (m &&& n) % 2 = 0 ∨ (m &&& n) % 2 = 1 := by omega
      have hm : m % 2 = 0 ∨ m % 2 = 1 := by omega
      have hn : n % 2 = 0 ∨ n % 2 = 1 := by omega
      rcases hm with hm | hm <;> rcases hn with hn | hn <;> rcases k1 with k1 | k1 <;> rcases k2 with k2 | k2 <;> simp [hm, hn, k1, k2] at hb hx <;> omega
theorem sub_bit {mask j : Nat} (h : mask.testBit j = true) : mask - 2 ^ j = mask ^^^ 2 ^ j ∧ 2 ^ j ≤ mask := by
  have e := xor_add_and mask (2 ^ j)
  have e2 : mask &&& 2 ^ j = 2 ^ j := by
    apply Nat.eq_of_testBit_eq
    intro k
    rw [Nat.testBit_and, Nat.testBit_two_pow]
    by_cases hk : j = k
    · subst hk; simp [h]
    · simp [hk]
  rw [e2] at e
  have h3 : 2 ^ j ≤ mask := Nat.ge_two_pow_of_testBit h
  omega
theorem testBit_sub {mask j k : Nat} (h : mask.testBit j = true) : (mask - 2 ^ j).testBit k = (mask.testBit k && !decide (k = j)) := by
  rw [(sub_bit h).1, Nat.testBit_xor, Nat.testBit_two_pow]
  by_cases hk : k = j
  · subst hk; simp [h]
  · have : ¬ j = k := fun e => hk e.symm
    simp [hk, this]
theorem bits_sub {M mask j : Nat} (h : mask.testBit j = true) (hj : j < M) : bits M (mask - 2 ^ j) = (bits M mask).erase j := by
  rw [(bits_nodup M mask).erase_eq_filter]
  unfold bits
  rw [List.filter_filter]
  apply List.filter_congr
  intro k _
  rw [testBit_sub h, Bool.and_comm]
  congr 1
theorem bits_all (M : Nat) : bits M (2 ^ M - 1) = List.range M := by
  unfold bits
  rw [List.filter_eq_self]
  intro j hj
  rw [Nat.testBit_two_pow_sub_one]
  simpa using List.mem_range.mp hj
theorem bits_all_but {M j : Nat} (h : j < M) : bits M (2 ^ M - 1 - 2 ^ j) = (List.range M).erase j := by
  rw [bits_sub (by rw [Nat.testBit_two_pow_sub_one]; simpa using h) h, bits_all]

def wonBy (s : State) : List Nat → List Nat → Int
  | p :: ps, i :: a => (if i = 0 then 0 else net s p i) + wonBy s ps a
  | _, _ => 0
theorem wonBy_cons (s : State) (p i : Nat) (ps a : List Nat) : wonBy s (p :: ps) (i :: a) = (if i = 0 then 0 else net s p i) + wonBy s ps a := rfl
theorem sum_zip (s : State) : ∀ (ps a : List Nat), sum ((ps.zip a).map fun x => if x.2 = 0 then 0 else net s x.1 x.2) = wonBy s ps a
  | [], a => by cases a <;> rfl
  | p :: ps, [] => rfl
  | p :: ps, i :: a => by
    rw [wonBy_cons, ← sum_zip s ps a]
    rfl
theorem won_eq (s : State) (a : List Nat) : won s a = wonBy s ((List.range a.length).map fun k => k + 1) a := sum_zip s _ a
theorem won_players (s : State) {a : List Nat} (h : a.length = s.n) : won s a = wonBy s (players s) a := by
  rw [won_eq, h]
  rfl
theorem assignments_succ (k : Nat) (items : List Nat) : assignments (k + 1) items = (items.flatMap fun i => (assignments k (items.erase i)).map fun l => i :: l) ++ (assignments k items).map fun l => 0 :: l := rfl
theorem length_assignments : ∀ (k : Nat) (items : List Nat) {a : List Nat}, a ∈ assignments k items → a.length = k
  | 0, items, a, h => by
    have : a = [] := by simpa [assignments] using h
    subst this; rfl
  | k + 1, items, a, h => by
    rw [assignments_succ, List.mem_append] at h
    rcases h with h | h
    · obtain ⟨i, _, h⟩ := List.mem_flatMap.mp h
      obtain ⟨l, hl, rfl⟩ := List.mem_map.mp h
      rw [List.length_cons, length_assignments k _ hl]
    · obtain ⟨l, hl, rfl⟩ := List.mem_map.mp h
      rw [List.length_cons, length_assignments k _ hl]
theorem mem_assignments : ∀ (k : Nat) (items a : List Nat), items.Nodup → 0 ∉ items →
    (a ∈ assignments k items ↔ a.length = k ∧ (∀ i ∈ a, i ≠ 0 → i ∈ items) ∧ (a.filter fun i => i != 0).Nodup)
  | 0, items, a, _, _ => by
    constructor
    · intro h
      have : a = [] := by simpa [assignments] using h
      subst this
      exact ⟨rfl, by simp, by simp⟩
    · rintro ⟨h, _⟩
      have : a = [] := List.eq_nil_of_length_eq_zero h
      subst this
      simp [assignments]
  | k + 1, items, a, hn, h0 => by
    rw [assignments_succ, List.mem_append]
    constructor
    · rintro (h | h)
      · obtain ⟨i, hi, h⟩ := List.mem_flatMap.mp h
        obtain ⟨l, hl, rfl⟩ := List.mem_map.mp h
        have hi0 : i ≠ 0 := fun e => h0 (e ▸ hi)
        obtain ⟨h1, h2, h3⟩ := (mem_assignments k (items.erase i) l (hn.erase i) fun e => h0 (List.mem_of_mem_erase e)).mp hl
        refine ⟨by rw [List.length_cons, h1], fun j hj hj0 => ?_, ?_⟩
        · rcases List.mem_cons.mp hj with e | e
          · exact e ▸ hi
          · exact List.mem_of_mem_erase (h2 j e hj0)
        · rw [List.filter_cons, if_pos (by simpa using hi0)]
          refine List.nodup_cons.mpr ⟨fun hm => ?_, h3⟩
          have h4 := List.mem_filter.mp hm
          have h5 := h2 i h4.1 hi0
          exact absurd h5 (hn.not_mem_erase)
      · obtain ⟨l, hl, rfl⟩ := List.mem_map.mp h
        obtain ⟨h1, h2, h3⟩ := (mem_assignments k items l hn h0).mp hl
        refine ⟨by rw [List.length_cons, h1], fun j hj hj0 => ?_, ?_⟩
        · rcases List.mem_cons.mp hj with e | e
          · exact absurd e hj0
          · exact h2 j e hj0
        · rw [List.filter_cons, if_neg (by simp)]
          exact h3
    · rintro ⟨h1, h2, h3⟩
      cases a with
      | nil => simp at h1
      | cons i l =>
        have hl : l.length = k := by simpa using h1
        by_cases hi0 : i = 0
        · subst hi0
          refine .inr (List.mem_map.mpr ⟨l, (mem_assignments k items l hn h0).mpr ⟨hl, fun j hj => h2 j (List.mem_cons_of_mem _ hj), ?_⟩, rfl⟩)
          rwa [List.filter_cons, if_neg (by simp)] at h3
        · have hi := h2 i List.mem_cons_self hi0
          rw [List.filter_cons, if_pos (by simpa using hi0)] at h3
          obtain ⟨h4, h5⟩ := List.nodup_cons.mp h3
          refine .inl (List.mem_flatMap.mpr ⟨i, hi, List.mem_map.mpr ⟨l, (mem_assignments k (items.erase i) l (hn.erase i) fun e => h0 (List.mem_of_mem_erase e)).mpr ⟨hl, fun j hj hj0 => ?_, h5⟩, rfl⟩⟩)
          refine (hn.mem_erase_iff).mpr ⟨fun e => h4 ?_, h2 j (List.mem_cons_of_mem _ hj) hj0⟩
          subst e
          exact List.mem_filter.mpr ⟨hj, by simpa using hj0⟩
theorem wonBy_le (s : State) : ∀ (ps items : List Nat) {a : List Nat}, 0 ∉ items → a ∈ assignments ps.length items → wonBy s ps a ≤ top s ps items
  | [], items, a, _, h => by cases a <;> exact Int.le_refl _
  | p :: ps, items, a, h0, h => by
    rw [List.length_cons, assignments_succ, List.mem_append] at h
    rw [top_cons]
    rcases h with h | h
    · obtain ⟨i, hi, h⟩ := List.mem_flatMap.mp h
      obtain ⟨l, hl, rfl⟩ := List.mem_map.mp h
      have hi0 : i ≠ 0 := fun e => h0 (e ▸ hi)
      rw [wonBy_cons, if_neg hi0]
      have h1 := wonBy_le s ps (items.erase i) (fun e => h0 (List.mem_of_mem_erase e)) hl
      exact Int.le_trans (Int.add_le_add_left h1 _) (mem_le_most _ _ _ (List.mem_map.mpr ⟨i, hi, rfl⟩))
    · obtain ⟨l, hl, rfl⟩ := List.mem_map.mp h
      rw [wonBy_cons, if_pos rfl, Int.zero_add]
      exact Int.le_trans (wonBy_le s ps items h0 hl) (le_most _ _)
def bestBy (s : State) : List Nat → List Nat → List Nat
  | [], _ => []
  | p :: r, items => match items.find? fun i => net s p i + top s r (items.erase i) == top s (p :: r) items with
    | some i => i :: bestBy s r (items.erase i)
    | none => 0 :: bestBy s r items
theorem bestBy_some {s : State} {p i : Nat} {r items : List Nat} (e : (items.find? fun i => net s p i + top s r (items.erase i) == top s (p :: r) items) = some i) : bestBy s (p :: r) items = i :: bestBy s r (items.erase i) := by
  conv => lhs; unfold bestBy
  rw [e]
theorem bestBy_none {s : State} {p : Nat} {r items : List Nat} (e : (items.find? fun i => net s p i + top s r (items.erase i) == top s (p :: r) items) = none) : bestBy s (p :: r) items = 0 :: bestBy s r items := by
  conv => lhs; unfold bestBy
  rw [e]
theorem find_congr {α : Type} {p q : α → Bool} : ∀ {l : List α}, (∀ x ∈ l, p x = q x) → l.find? p = l.find? q
  | [], _ => rfl
  | a :: l, h => by
    rw [List.find?_cons, List.find?_cons, h a List.mem_cons_self, find_congr fun x hx => h x (List.mem_cons_of_mem _ hx)]
theorem findSome_if {α β : Type} (c : α → Bool) (g : α → β) (f : α → Option β) : ∀ (l : List α), (∀ x ∈ l, f x = if c x = true then some (g x) else none) → l.findSome? f = (l.find? c).map g
  | [], _ => rfl
  | a :: l, h => by
    rw [List.findSome?_cons, h a List.mem_cons_self, List.find?_cons]
    cases e : c a
    · have ih := findSome_if c g f l fun x hx => h x (List.mem_cons_of_mem _ hx)
      simp [ih]
    · simp
theorem top_step (s : State) (p : Nat) (r items : List Nat) {i : Nat} (h : i ∈ items) : net s p i + top s r (items.erase i) ≤ top s (p :: r) items := mem_le_most _ _ _ (List.mem_map.mpr ⟨i, h, rfl⟩)
theorem top_none (s : State) (p : Nat) (r items : List Nat) (h : ∀ i ∈ items, ¬ net s p i + top s r (items.erase i) = top s (p :: r) items) : top s (p :: r) items = top s r items := by
  rcases most_mem (items.map fun i => net s p i + top s r (items.erase i)) (top s r items) with e | e
  · exact e
  · obtain ⟨i, hi, e⟩ := List.mem_map.mp e
    exact absurd e (h i hi)
theorem find_best (s : State) : ∀ (ps items : List Nat), 0 ∉ items → (assignments ps.length items).find? (fun a => wonBy s ps a == top s ps items) = some (bestBy s ps items)
  | [], items, _ => rfl
  | p :: r, items, h0 => by
    have h0e : ∀ i, 0 ∉ items.erase i := fun i e => h0 (List.mem_of_mem_erase e)
    rw [List.length_cons, assignments_succ, List.find?_append, List.find?_flatMap]
    rw [findSome_if (fun i => net s p i + top s r (items.erase i) == top s (p :: r) items) (fun i => i :: bestBy s r (items.erase i))]
    · cases e : items.find? fun i => net s p i + top s r (items.erase i) == top s (p :: r) items with
      | some i =>
        simp only [Option.map_some, Option.some_or]
        first | rw [bestBy_some e] | rw [bestBy_none e]
        try rfl
      | none =>
        have hn : top s (p :: r) items = top s r items := top_none s p r items fun i hi => by
          have := List.find?_eq_none.mp e i hi
          simpa using this
        simp only [Option.map_none, Option.none_or]
        rw [List.find?_map, hn]
        have e2 : ((fun a => wonBy s (p :: r) a == top s r items) ∘ fun l => 0 :: l) = fun l => wonBy s r l == top s r items := by
          funext l
          show (wonBy s (p :: r) (0 :: l) == top s r items) = _
          rw [wonBy_cons, if_pos rfl, Int.zero_add]
        rw [e2, find_best s r items h0]
        first | rw [bestBy_some e] | rw [bestBy_none e]
        try rfl
    · intro i hi
      have hi0 : i ≠ 0 := fun e => h0 (e ▸ hi)
      rw [List.find?_map]
      have e2 : ((fun a => wonBy s (p :: r) a == top s (p :: r) items) ∘ fun l => i :: l) = fun l => net s p i + wonBy s r l == top s (p :: r) items := by
        funext l
        show (wonBy s (p :: r) (i :: l) == top s (p :: r) items) = _
        rw [wonBy_cons, if_neg hi0]
      rw [e2]
      by_cases c : net s p i + top s r (items.erase i) = top s (p :: r) items
      · rw [if_pos (by simpa using c)]
        have e3 : (fun l => net s p i + wonBy s r l == top s (p :: r) items) = fun l => wonBy s r l == top s r (items.erase i) := by
          funext l
          rw [← c]
          by_cases q : wonBy s r l = top s r (items.erase i)
          · simp [q]
          · have q2 : ¬ net s p i + wonBy s r l = net s p i + top s r (items.erase i) := fun z => q (by omega)
            rw [beq_eq_false_iff_ne.mpr q, beq_eq_false_iff_ne.mpr q2]
        rw [e3, find_best s r (items.erase i) (h0e i)]
        rfl
      · rw [if_neg (by simpa using c)]
        have h1 := top_step s p r items hi
        have : (assignments r.length (items.erase i)).find? (fun l => net s p i + wonBy s r l == top s (p :: r) items) = none := by
          rw [List.find?_eq_none]
          intro l hl
          have h2 := wonBy_le s r (items.erase i) (h0e i) hl
          simp only [beq_iff_eq]
          omega
        rw [this]
        rfl
theorem players_length (s : State) : (players s).length = s.n := by simp [players]
theorem zero_firms (s : State) : 0 ∉ firms s := by simp [firms]
theorem firms_nodup (s : State) : (firms s).Nodup := by
  unfold firms
  exact List.Pairwise.map _ (fun a b h e => h (by omega)) List.nodup_range
theorem best_eq (s : State) : best s = bestBy s (players s) (firms s) := by
  show ((all s).find? fun a => won s a == total s).getD [] = _
  have e : (all s).find? (fun a => won s a == total s) = (all s).find? (fun a => wonBy s (players s) a == total s) := by
    apply find_congr
    intro a ha
    rw [won_players s (length_assignments _ _ ha)]
  rw [e]
  have := find_best s (players s) (firms s) (zero_firms s)
  rw [players_length] at this
  show (List.find? (fun a => wonBy s (players s) a == top s (players s) (firms s)) (assignments s.n (firms s))).getD [] = _
  rw [this]
  rfl
theorem length_bestBy (s : State) : ∀ ps items : List Nat, (bestBy s ps items).length = ps.length
  | [], _ => rfl
  | p :: r, items => by
    unfold bestBy
    cases items.find? fun i => net s p i + top s r (items.erase i) == top s (p :: r) items with
    | some i => simp [length_bestBy s r]
    | none => simp [length_bestBy s r]
theorem wonBy_bestBy (s : State) : ∀ (ps items : List Nat), 0 ∉ items → wonBy s ps (bestBy s ps items) = top s ps items := fun ps items h0 => by
  have h := List.find?_some (find_best s ps items h0)
  simpa using h
def bestG : List (List Int) → List Nat → List Nat
  | [], _ => []
  | row :: rest, sl => match sl.find? fun j => row.getD j 0 + G rest (sl.erase j) == G (row :: rest) sl with
    | some j => (j + 1) :: bestG rest (sl.erase j)
    | none => 0 :: bestG rest sl
theorem map_erase_inj (F : Nat → Nat) (hF : ∀ a b, F a = F b → a = b) : ∀ (sl : List Nat) (j : Nat), (sl.map F).erase (F j) = (sl.erase j).map F
  | [], j => rfl
  | a :: sl, j => by
    by_cases e : a = j
    · subst e
      rw [List.map_cons, List.erase_cons_head, List.erase_cons_head]
    · have e2 : ¬ F a = F j := fun z => e (hF _ _ z)
      rw [List.map_cons, List.erase_cons_tail (by simpa using e2), List.erase_cons_tail (by simpa using e), List.map_cons, map_erase_inj F hF sl j]
theorem bestBy_G (s : State) (R : Nat → List Int) : ∀ (ps sl : List Nat), (∀ p ∈ ps, ∀ j ∈ sl, (R p).getD j 0 = net s p (j + 1)) → bestBy s ps (sl.map fun j => j + 1) = bestG (ps.map R) sl
  | [], _, _ => rfl
  | p :: r, sl, h => by
    have hF : ∀ a b : Nat, a + 1 = b + 1 → a = b := fun a b e => by omega
    have h0 : ∀ q ∈ r, ∀ j ∈ sl, (R q).getD j 0 = net s q (j + 1) := fun q hq j hj => h q (List.mem_cons_of_mem _ hq) j hj
    have hE : ∀ k, ∀ q ∈ r, ∀ j ∈ sl.erase k, (R q).getD j 0 = net s q (j + 1) := fun k q hq j hj => h0 q hq j (List.mem_of_mem_erase hj)
    rw [List.map_cons]
    unfold bestBy bestG
    rw [List.find?_map]
    have e : sl.find? ((fun i => net s p i + top s r ((sl.map fun j => j + 1).erase i) == top s (p :: r) (sl.map fun j => j + 1)) ∘ fun j => j + 1)
        = sl.find? fun j => (R p).getD j 0 + G (r.map R) (sl.erase j) == G (R p :: r.map R) sl := by
      apply find_congr
      intro j hj
      show (net s p (j + 1) + top s r ((sl.map fun j => j + 1).erase (j + 1)) == top s (p :: r) (sl.map fun j => j + 1)) = _
      rw [map_erase_inj (fun j => j + 1) hF sl j, top_G s (fun j => j + 1) R r (sl.erase j) (hE j), top_G s (fun j => j + 1) R (p :: r) sl h, h p List.mem_cons_self j hj]
      rfl
    rw [e]
    cases sl.find? fun j => (R p).getD j 0 + G (r.map R) (sl.erase j) == G (R p :: r.map R) sl with
    | some j =>
      show (j + 1) :: bestBy s r ((sl.map fun j => j + 1).erase (j + 1)) = _
      rw [map_erase_inj (fun j => j + 1) hF sl j, bestBy_G s R r (sl.erase j) (hE j)]
    | none =>
      show 0 :: bestBy s r (sl.map fun j => j + 1) = _
      rw [bestBy_G s R r sl h0]
end TW

end

section
set_option Elab.async false
set_option linter.unusedVariables false
namespace TW
open Vbsgag

theorem most_snoc (l : List Int) (x b : Int) : most (l ++ [x]) b = max (most l b) x := by
  unfold most
  rw [List.foldl_append]
  rfl
theorem getD_map_range {α : Type} (f : Nat → α) (n i : Nat) (d : α) (h : i < n) : ((List.range n).map f).getD i d = f i := by
  rw [List.getD_eq_getElem?_getD, List.getElem?_map, List.getElem?_range h]
  rfl
def tab (M : Nat) (rows : List (List Int)) : List Int := (List.range (2 ^ M)).map fun mask => G rows (bits M mask)
theorem tab_length (M : Nat) (rows : List (List Int)) : (tab M rows).length = 2 ^ M := by simp [tab]
theorem tab_get {M mask : Nat} (rows : List (List Int)) (h : mask < 2 ^ M) : (tab M rows).getD mask 0 = G rows (bits M mask) := getD_map_range _ _ _ _ h
theorem tab_nil (M : Nat) : tab M [] = List.replicate (2 ^ M) 0 := by
  unfold tab
  rw [List.eq_replicate_iff]
  refine ⟨by simp, fun b hb => ?_⟩
  obtain ⟨_, _, rfl⟩ := List.mem_map.mp hb
  rfl
def upTo (row behind : List Int) (free i : Nat) : Int := most (((List.range i).filter fun j => free.testBit j).map fun j => row.getD j 0 + behind.getD (free - 2 ^ j) 0) (behind.getD free 0)
theorem upTo_in (row behind : List Int) (free i : Nat) (h : free.testBit i = true) : upTo row behind free (i + 1) = max (upTo row behind free i) (row.getD i 0 + behind.getD (free - 2 ^ i) 0) := by
  unfold upTo
  rw [List.range_succ, List.filter_append, List.filter_cons, if_pos h, List.filter_nil, List.map_append]
  exact most_snoc _ _ _
theorem upTo_out (row behind : List Int) (free i : Nat) (h : free.testBit i = false) : upTo row behind free (i + 1) = upTo row behind free i := by
  unfold upTo
  rw [List.range_succ, List.filter_append, List.filter_cons, if_neg (by simp [h]), List.filter_nil, List.append_nil]
theorem sub_lt {M mask j : Nat} (h : mask < 2 ^ M) : mask - 2 ^ j < 2 ^ M := Nat.lt_of_le_of_lt (Nat.sub_le _ _) h
theorem upTo_tab {M free : Nat} (row : List Int) (rest : List (List Int)) (h : free < 2 ^ M) : upTo row (tab M rest) free M = G (row :: rest) (bits M free) := by
  rw [G_cons]
  unfold upTo
  rw [tab_get rest h]
  congr 1
  apply List.map_congr_left
  intro j hj
  obtain ⟨h1, h2⟩ := mem_bits.mp hj
  rw [tab_get rest (sub_lt h), bits_sub h2 h1]
def gw (row behind : List Int) : List Int := (List.range behind.length).map fun free => upTo row behind free row.length
theorem gw_tab {M : Nat} (row : List Int) (rest : List (List Int)) (h : row.length = M) : gw row (tab M rest) = tab M (row :: rest) := by
  unfold gw
  rw [tab_length, h]
  show _ = (List.range (2 ^ M)).map fun mask => G (row :: rest) (bits M mask)
  apply List.map_congr_left
  intro free hf
  exact upTo_tab row rest (List.mem_range.mp hf)
structure WF (s : State) : Prop where
  n1 : 1 ≤ s.n
  n5 : s.n ≤ 5
  m1 : 1 ≤ s.m
  m6 : s.m ≤ 6
  lb : s.bases.length = s.m
  lr : s.rows.length = s.n
  lw : ∀ r ∈ s.rows, r.length = s.m
  lc : s.clock.length = s.m
def winRow (bases row : List Nat) : List Int := List.zipWith (fun (w b : Nat) => (w : Int) - (b : Int)) row bases
def wins (s : State) : List (List Int) := s.rows.map (winRow s.bases)
theorem wins_length {s : State} (h : WF s) : (wins s).length = s.n := by simp [wins, h.lr]
theorem winRow_length {s : State} (h : WF s) {r : List Nat} (hr : r ∈ s.rows) : (winRow s.bases r).length = s.m := by
  simp [winRow, h.lw r hr, h.lb]
theorem wins_row {s : State} (h : WF s) {r : List Int} (hr : r ∈ wins s) : r.length = s.m := by
  obtain ⟨q, hq, rfl⟩ := List.mem_map.mp hr
  exact winRow_length h hq
theorem winRow_get {bases row : List Nat} {j : Nat} (h1 : j < row.length) (h2 : j < bases.length) : (winRow bases row).getD j 0 = (row.getD j 0 : Int) - (bases.getD j 0 : Int) := by
  unfold winRow
  rw [List.getD_eq_getElem?_getD, List.getElem?_zipWith, List.getD_eq_getElem?_getD, List.getD_eq_getElem?_getD, List.getElem?_eq_getElem h1, List.getElem?_eq_getElem h2]
  rfl
def rowOf (s : State) (p : Nat) : List Int := winRow s.bases (s.rows.getD (p - 1) [])
theorem rowOf_get {s : State} (h : WF s) {p j : Nat} (hp : 1 ≤ p) (hp2 : p ≤ s.n) (hj : j < s.m) : (rowOf s p).getD j 0 = net s p (j + 1) := by
  unfold rowOf net worth base
  have h1 : p - 1 < s.rows.length := by rw [h.lr]; omega
  have e : s.rows.getD (p - 1) [] = s.rows[p - 1] := by simp [List.getD_eq_getElem?_getD, h1]
  have hl := h.lw _ (List.getElem_mem h1)
  rw [winRow_get (by rw [e, hl]; exact hj) (by rw [h.lb]; exact hj)]
  rfl
theorem wins_eq {s : State} (h : WF s) : wins s = (players s).map (rowOf s) := by
  unfold wins players rowOf
  rw [List.map_map]
  apply List.ext_getElem?
  intro k
  rw [List.getElem?_map, List.getElem?_map]
  by_cases hk : k < s.n
  · rw [List.getElem?_range hk]
    have h1 : k < s.rows.length := by rw [h.lr]; exact hk
    simp [h1, List.getD_eq_getElem?_getD]
  · have h1 : s.rows[k]? = none := List.getElem?_eq_none (by rw [h.lr]; omega)
    have h2 : (List.range s.n)[k]? = none := List.getElem?_eq_none (by simp; omega)
    rw [h1, h2]
    rfl
theorem mem_players {s : State} {p : Nat} : p ∈ players s ↔ 1 ≤ p ∧ p ≤ s.n := by
  unfold players
  rw [List.mem_map]
  constructor
  · rintro ⟨k, hk, rfl⟩
    have := List.mem_range.mp hk
    omega
  · rintro ⟨h1, h2⟩
    exact ⟨p - 1, List.mem_range.mpr (by omega), by omega⟩
theorem mem_firms {s : State} {i : Nat} : i ∈ firms s ↔ 1 ≤ i ∧ i ≤ s.m := by
  unfold firms
  rw [List.mem_map]
  constructor
  · rintro ⟨k, hk, rfl⟩
    have := List.mem_range.mp hk
    omega
  · rintro ⟨h1, h2⟩
    exact ⟨i - 1, List.mem_range.mpr (by omega), by omega⟩
theorem top_wins {s : State} (h : WF s) (sl : List Nat) (hs : ∀ j ∈ sl, j < s.m) : top s (players s) (sl.map fun j => j + 1) = G (wins s) sl := by
  rw [wins_eq h]
  exact top_G s (fun j => j + 1) (rowOf s) (players s) sl fun p hp j hj => rowOf_get h (mem_players.mp hp).1 (mem_players.mp hp).2 (hs j hj)
theorem total_wins {s : State} (h : WF s) : total s = G (wins s) (List.range s.m) := top_wins h _ fun j hj => List.mem_range.mp hj
theorem best_wins {s : State} (h : WF s) : best s = bestG (wins s) (List.range s.m) := by
  rw [best_eq, wins_eq h]
  exact bestBy_G s (rowOf s) (players s) (List.range s.m) fun p hp j hj => rowOf_get h (mem_players.mp hp).1 (mem_players.mp hp).2 (List.mem_range.mp hj)
def again (rows : List (List Int)) (i : Nat) : List (List Int) := rows.map fun r => r ++ [r.getD i 0]
theorem top_again {s : State} (h : WF s) {i : Nat} (hi : i < s.m) : top s (players s) (firms s ++ [i + 1]) = G (again (wins s) i) (List.range (s.m + 1)) := by
  have e : firms s ++ [i + 1] = (List.range (s.m + 1)).map fun j => (if j = s.m then i else j) + 1 := by
    rw [List.range_succ, List.map_append]
    unfold firms
    congr 1
    · apply List.map_congr_left
      intro j hj
      have := List.mem_range.mp hj
      rw [if_neg (by omega)]
    · simp
  rw [e]
  have e2 : again (wins s) i = (players s).map fun p => rowOf s p ++ [(rowOf s p).getD i 0] := by
    unfold again
    rw [wins_eq h, List.map_map]
    rfl
  rw [e2]
  refine top_G s (fun j => (if j = s.m then i else j) + 1) (fun p => rowOf s p ++ [(rowOf s p).getD i 0]) (players s) _ fun p hp j hj => ?_
  obtain ⟨p1, p2⟩ := mem_players.mp hp
  have hj := List.mem_range.mp hj
  have hl : (rowOf s p).length = s.m := by
    have h1 : p - 1 < s.rows.length := by rw [h.lr]; omega
    unfold rowOf
    rw [List.getD_eq_getElem?_getD, List.getElem?_eq_getElem h1]
    exact winRow_length h (List.getElem_mem h1)
  by_cases c : j = s.m
  · subst c
    rw [if_pos rfl, ← rowOf_get h p1 p2 hi]
    simp [List.getD_eq_getElem?_getD, hl]
  · rw [if_neg c, ← rowOf_get h p1 p2 (by omega)]
    rw [List.getD_eq_getElem?_getD, List.getElem?_append_left (by rw [hl]; omega), ← List.getD_eq_getElem?_getD]
theorem least_eq {s : State} (h : WF s) : Vbsgag.ints (least s) = (List.range s.m).map fun i => (s.bases.getD i 0 : Int) + G (again (wins s) i) (List.range (s.m + 1)) - G (wins s) (List.range s.m) := by
  unfold Vbsgag.ints least firms
  rw [List.map_map, List.map_map]
  apply List.map_congr_left
  intro i hi
  have hi := List.mem_range.mp hi
  show Int.ofNat (base s (i + 1) + (top s (players s) (firms s ++ [i + 1]) - total s).toNat) = _
  rw [← top_again h hi, ← total_wins h]
  have h1 := top_snoc s (players s) (firms s) (i + 1)
  have h2 : base s (i + 1) = s.bases.getD i 0 := rfl
  have h3 : total s = top s (players s) (firms s) := rfl
  rw [h2, h3]
  simp only [Int.ofNat_eq_natCast, Int.natCast_add]
  omega
theorem erase_firms (s : State) (i : Nat) : (firms s).erase (i + 1) = ((List.range s.m).erase i).map fun j => j + 1 := map_erase_inj (fun j => j + 1) (fun a b e => by omega) _ _
theorem greatest_eq {s : State} (h : WF s) : Vbsgag.ints (greatest s) = (List.range s.m).map fun i => (s.bases.getD i 0 : Int) + G (wins s) (List.range s.m) - G (wins s) ((List.range s.m).erase i) := by
  unfold Vbsgag.ints greatest firms
  rw [List.map_map, List.map_map]
  apply List.map_congr_left
  intro i hi
  have hi := List.mem_range.mp hi
  show Int.ofNat (base s (i + 1) + (total s - top s (players s) ((firms s).erase (i + 1))).toNat) = _
  have e := top_wins h ((List.range s.m).erase i) fun j hj => List.mem_range.mp (List.mem_of_mem_erase hj)
  rw [← e, ← erase_firms, ← total_wins h]
  have h1 := top_erase s (players s) (firms s) (i := i + 1) (mem_firms.mpr ⟨by omega, by omega⟩)
  have h2 : base s (i + 1) = s.bases.getD i 0 := rfl
  have h3 : total s = top s (players s) (firms s) := rfl
  rw [h2, h3]
  simp only [Int.ofNat_eq_natCast, Int.natCast_add]
  omega
end TW

end

section
set_option Elab.async false
set_option linter.unusedVariables false
namespace TW
open Vbsgag

theorem whole_id (c : List (List Int)) : PyVbsgag.whole c = c := by
  unfold PyVbsgag.whole
  split <;> rfl
theorem map_whole (cs : List (List (List Int))) : cs.map PyVbsgag.whole = cs := by
  rw [show PyVbsgag.whole = id from funext whole_id, List.map_id]
theorem asked_calls {ns : List Int} (h : PyVbsgag.answers_asked ns = true) : ∃ raw, PyFlat.calls PyVbsgag.shape ns.length ns = some raw ∧ raw ≠ [] ∧ raw.length ≤ 100 ∧
    PyVbsgag.answers ns = PyFlat.told (PyFlat.played VbsgagNeutral.step VbsgagNeutral.start raw) := by
  unfold PyVbsgag.answers_asked at h
  cases e : PyFlat.calls PyVbsgag.shape ns.length ns with
  | none =>
    rw [e] at h
    cases h
  | some raw =>
    rw [e] at h
    simp only [Bool.and_eq_true] at h
    refine ⟨raw, rfl, ?_, ?_, ?_⟩
    · intro z
      subst z
      simp at h
    · have := h.1.1.2
      unfold PyFlat.atMost at this
      simpa using this
    · unfold PyVbsgag.answers PyVbsgag.calls
      rw [e]
      show PyFlat.told (PyFlat.played VbsgagNeutral.step VbsgagNeutral.start (raw.map PyVbsgag.whole)) = _
      rw [map_whole]
def Reads (l : List Int) (cs : List (List (List Int))) : Prop := ∃ f, PyFlat.calls PyVbsgag.shape f l = some cs
theorem Reads.nil {cs : List (List (List Int))} (h : Reads [] cs) : cs = [] := by
  obtain ⟨f, h⟩ := h
  cases f <;> exact (Option.some.inj h).symm
theorem Reads.cons {p : Int} {r : List Int} {cs : List (List (List Int))} (h : Reads (p :: r) cs) : ∃ c t cs', PyFlat.call PyVbsgag.shape (p :: r) = some (c, t) ∧ Reads t cs' ∧ cs = c :: cs' := by
  obtain ⟨f, h⟩ := h
  cases f with
  | zero => cases h
  | succ f =>
    unfold PyFlat.calls at h
    cases e : PyFlat.call PyVbsgag.shape (p :: r) with
    | none =>
      rw [e] at h
      cases h
    | some x =>
      obtain ⟨c, t⟩ := x
      rw [e] at h
      simp only at h
      cases e2 : PyFlat.calls PyVbsgag.shape f t with
      | none =>
        rw [e2] at h
        cases h
      | some cs' =>
        rw [e2] at h
        exact ⟨c, t, cs', rfl, ⟨f, e2⟩, (Option.some.inj h).symm⟩
theorem call_plain {p : Int} {r t : List Int} {c : List (List Int)} {n : Nat} (h : PyFlat.call PyVbsgag.shape (p :: r) = some (c, t)) (hs : PyVbsgag.shape p = some (n, 0)) : n ≤ r.length ∧ c = [p :: r.take n] ∧ t = r.drop n := by
  unfold PyFlat.call at h
  simp only [hs] at h
  by_cases hl : r.length < n
  · rw [if_pos hl] at h
    cases h
  · rw [if_neg hl] at h
    have e : PyFlat.rows 0 (r.drop n) = some ([], r.drop n) := by simp [PyFlat.rows]
    rw [e] at h
    simp only [Option.some.injEq, Prod.mk.injEq] at h
    exact ⟨by omega, h.1.symm, h.2.symm⟩
theorem call_list {p : Int} {r t : List Int} {c : List (List Int)} {n : Nat} (h : PyFlat.call PyVbsgag.shape (p :: r) = some (c, t)) (hs : PyVbsgag.shape p = some (n, 1)) :
    n ≤ r.length ∧ ∃ (k : Nat) (r2 : List Int), r.drop n = (k : Int) :: r2 ∧ k ≤ r2.length ∧ c = [p :: r.take n, r2.take k] ∧ t = r2.drop k := by
  unfold PyFlat.call at h
  simp only [hs] at h
  by_cases hl : r.length < n
  · rw [if_pos hl] at h
    cases h
  · rw [if_neg hl] at h
    refine ⟨by omega, ?_⟩
    cases e : r.drop n with
    | nil =>
      rw [e] at h
      simp [PyFlat.rows, PyFlat.row] at h
    | cons q r2 =>
      rw [e] at h
      by_cases hq : 0 ≤ q ∧ q.toNat ≤ r2.length
      · have e1 : PyFlat.row (q :: r2) = some (r2.take q.toNat, r2.drop q.toNat) := by
          show (if 0 ≤ q ∧ q.toNat ≤ r2.length then some (r2.take q.toNat, r2.drop q.toNat) else none) = _
          rw [if_pos hq]
        have e2 : PyFlat.rows 1 (q :: r2) = some ([r2.take q.toNat], r2.drop q.toNat) := by
          show (match PyFlat.row (q :: r2) with | none => none | some (x, s) => match PyFlat.rows 0 s with | none => none | some (xs, t) => some (x :: xs, t)) = _
          rw [e1]
          simp [PyFlat.rows]
        rw [e2] at h
        simp only [Option.some.injEq, Prod.mk.injEq] at h
        exact ⟨q.toNat, r2, by rw [Int.toNat_of_nonneg hq.1], hq.2, h.1.symm, h.2.symm⟩
      · have e1 : PyFlat.row (q :: r2) = none := by
          show (if 0 ≤ q ∧ q.toNat ≤ r2.length then some (r2.take q.toNat, r2.drop q.toNat) else none) = _
          rw [if_neg hq]
        have e2 : PyFlat.rows 1 (q :: r2) = none := by
          show (match PyFlat.row (q :: r2) with | none => none | some (x, s) => match PyFlat.rows 0 s with | none => none | some (xs, t) => some (x :: xs, t)) = _
          rw [e1]
        rw [e2] at h
        cases h
theorem shape_cases {p : Int} {n k : Nat} (h : PyVbsgag.shape p = some (n, k)) : 0 ≤ p ∧ p ≤ 20 := by
  by_cases c : 0 ≤ p ∧ p ≤ 20
  · exact c
  · exfalso
    unfold PyVbsgag.shape at h
    iterate 21 rw [if_neg (by omega)] at h
    cases h
theorem call_shape {p : Int} {r : List Int} {x : List (List Int) × List Int} (h : PyFlat.call PyVbsgag.shape (p :: r) = some x) : ∃ n k, PyVbsgag.shape p = some (n, k) := by
  unfold PyFlat.call at h
  cases e : PyVbsgag.shape p with
  | none =>
    simp [e] at h
  | some y => exact ⟨y.1, y.2, rfl⟩
theorem told_cons (a : List Int) (l : List (List Int)) : PyFlat.told (a :: l) = ((a.length : Int) :: a) ++ PyFlat.told l := by
  unfold PyFlat.told
  rw [List.flatMap_cons]
end TW

end

section
set_option Elab.async false
set_option linter.unusedVariables false
namespace TW
open Vbsgag

def got (l : List Int) : List Int := l.filter fun i => !decide (i = 0)
def asgOk (s : State) (l : List Int) : Bool := decide (l.length = s.n) && ((got l).all (isFirm s) && decide (got l).Nodup)
theorem isFirm_iff {s : State} {i : Int} : isFirm s i = true ↔ 1 ≤ i ∧ i ≤ (s.m : Int) := by
  unfold isFirm between
  simp
theorem isPlayer_iff {s : State} {i : Int} : isPlayer s i = true ↔ 1 ≤ i ∧ i ≤ (s.n : Int) := by
  unfold isPlayer between
  simp
theorem isMoney_iff {i : Int} : isMoney i = true ↔ 0 ≤ i ∧ i ≤ 1000000000 := by
  unfold isMoney between MOST
  simp
theorem nodup_map_iff {α β : Type} {f : α → β} : ∀ {l : List α}, (∀ a ∈ l, ∀ b ∈ l, f a = f b → a = b) → ((l.map f).Nodup ↔ l.Nodup)
  | [], _ => by simp
  | a :: l, h => by
    rw [List.map_cons, List.nodup_cons, List.nodup_cons, nodup_map_iff fun x hx y hy => h x (List.mem_cons_of_mem _ hx) y (List.mem_cons_of_mem _ hy)]
    constructor
    · rintro ⟨h1, h2⟩
      exact ⟨fun hm => h1 (List.mem_map.mpr ⟨a, hm, rfl⟩), h2⟩
    · rintro ⟨h1, h2⟩
      refine ⟨fun hm => ?_, h2⟩
      obtain ⟨b, hb, e⟩ := List.mem_map.mp hm
      exact h1 (h b (List.mem_cons_of_mem _ hb) a List.mem_cons_self e ▸ hb)
theorem filter_nats : ∀ {l : List Int}, (∀ i ∈ l, 0 ≤ i) → (nats l).filter (fun i => i != 0) = (got l).map Int.toNat
  | [], _ => rfl
  | i :: l, h => by
    have ih := filter_nats (l := l) fun j hj => h j (List.mem_cons_of_mem _ hj)
    have hi := h i List.mem_cons_self
    unfold nats got at *
    rw [List.map_cons, List.filter_cons, List.filter_cons, ih]
    by_cases e : i = 0
    · subst e
      simp
    · have e2 : i.toNat ≠ 0 := by omega
      simp [e, e2]
theorem asg_iff (s : State) (l : List Int) : (l.all (fun i => decide (0 ≤ i)) && isAssignment s (nats l)) = asgOk s l := by
  by_cases hp : ∀ i ∈ l, 0 ≤ i
  · have h1 : l.all (fun i => decide (0 ≤ i)) = true := by simpa using hp
    rw [h1, Bool.true_and]
    have key : isAssignment s (nats l) = true ↔ asgOk s l = true := by
      unfold isAssignment
      rw [List.contains_iff_mem]
      show nats l ∈ assignments s.n (firms s) ↔ _
      rw [mem_assignments s.n (firms s) (nats l) (firms_nodup s) (zero_firms s), filter_nats hp]
      have hg : ∀ i ∈ got l, 0 ≤ i := fun i hi => hp i (List.mem_filter.mp hi).1
      rw [nodup_map_iff (f := Int.toNat) (l := got l) fun a ha b hb e => by have := hg a ha; have := hg b hb; omega]
      unfold asgOk
      simp only [Bool.and_eq_true, decide_eq_true_eq, List.all_eq_true]
      have hl : (nats l).length = l.length := by simp [nats]
      rw [hl]
      constructor
      · rintro ⟨a, b, c⟩
        refine ⟨a, fun i hi => ?_, c⟩
        obtain ⟨h2, h3⟩ := List.mem_filter.mp hi
        have h4 : i ≠ 0 := by simpa using h3
        have h5 := hp i h2
        have h6 := b i.toNat (List.mem_map.mpr ⟨i, h2, rfl⟩) (by omega)
        have h7 := mem_firms.mp h6
        rw [isFirm_iff]
        omega
      · rintro ⟨a, b, c⟩
        refine ⟨a, fun k hk hk0 => ?_, c⟩
        obtain ⟨i, hi, rfl⟩ := List.mem_map.mp hk
        have h2 := isFirm_iff.mp (b i (List.mem_filter.mpr ⟨hi, by simp; omega⟩))
        exact mem_firms.mpr (by omega)
    cases e : isAssignment s (nats l) with
    | true => exact (key.mp e).symm
    | false =>
      cases e2 : asgOk s l with
      | false => rfl
      | true => rw [key.mpr e2] at e; cases e
  · have hn : ∃ i ∈ l, ¬ 0 ≤ i := by
      apply Classical.byContradiction
      intro hc
      exact hp fun i hi => Classical.byContradiction fun h => hc ⟨i, hi, h⟩
    obtain ⟨i, hi, h0⟩ := hn
    have h1 : l.all (fun i => decide (0 ≤ i)) = false := by
      rw [List.all_eq_false]
      exact ⟨i, hi, by simpa using h0⟩
    rw [h1, Bool.false_and]
    unfold asgOk
    have h2 : (got l).all (isFirm s) = false := by
      rw [List.all_eq_false]
      refine ⟨i, List.mem_filter.mpr ⟨hi, by simp; omega⟩, fun h => ?_⟩
      have := isFirm_iff.mp h
      omega
    rw [h2]
    simp
def wonL : List Int → List (List Int) → List Int
  | i :: a, row :: rows => if i = 0 then wonL a rows else row.getD (i.toNat - 1) 0 :: wonL a rows
  | _, _ => []
theorem wonL_sum (s : State) (h : WF s) : ∀ (ps : List Nat) (a : List Int), (∀ p ∈ ps, 1 ≤ p ∧ p ≤ s.n) → (∀ i ∈ a, i = 0 ∨ isFirm s i = true) → (wonL a (ps.map (rowOf s))).sum = wonBy s ps (nats a)
  | [], a, _, _ => by cases a <;> rfl
  | p :: ps, [], _, _ => rfl
  | p :: ps, i :: a, hp, ha => by
    have ih := wonL_sum s h ps a (fun q hq => hp q (List.mem_cons_of_mem _ hq)) (fun j hj => ha j (List.mem_cons_of_mem _ hj))
    obtain ⟨p1, p2⟩ := hp p List.mem_cons_self
    show (wonL (i :: a) (rowOf s p :: ps.map (rowOf s))).sum = wonBy s (p :: ps) (i.toNat :: nats a)
    rw [wonBy_cons]
    unfold wonL
    rcases ha i List.mem_cons_self with e | e
    · subst e
      rw [if_pos rfl, ih]
      simp
    · have e1 := isFirm_iff.mp e
      rw [if_neg (by omega), List.sum_cons, ih, if_neg (by omega), rowOf_get h p1 p2 (by omega)]
      have e2 : i.toNat - 1 + 1 = i.toNat := by omega
      rw [e2]
theorem won_wonL {s : State} (h : WF s) {l : List Int} (hl : asgOk s l = true) : won s (nats l) = (wonL l (wins s)).sum := by
  unfold asgOk at hl
  simp only [Bool.and_eq_true, decide_eq_true_eq, List.all_eq_true] at hl
  obtain ⟨h1, h2, h3⟩ := hl
  rw [won_players s (by simp [nats, h1]), wins_eq h, wonL_sum s h (players s) l (fun p hp => mem_players.mp hp) fun i hi => ?_]
  by_cases e : i = 0
  · exact .inl e
  · exact .inr (h2 i (List.mem_filter.mpr ⟨hi, by simpa using e⟩))
def bestI (rows : List (List Int)) (M : Nat) : List Int := Vbsgag.ints (bestG rows (List.range M))
theorem nats_ints : ∀ l : List Nat, nats (Vbsgag.ints l) = l
  | [] => rfl
  | a :: l => by
    show (Int.ofNat a).toNat :: nats (Vbsgag.ints l) = _
    rw [nats_ints l]
    rfl
theorem mem_bestG : ∀ (rows : List (List Int)) (sl : List Nat) (i : Nat), i ∈ bestG rows sl → i = 0 ∨ ∃ j ∈ sl, i = j + 1
  | [], _, _, h => by cases h
  | row :: rows, sl, i, h => by
    unfold bestG at h
    cases e : sl.find? fun j => row.getD j 0 + G rows (sl.erase j) == G (row :: rows) sl with
    | some j =>
      rw [e] at h
      rcases List.mem_cons.mp h with h | h
      · exact .inr ⟨j, List.mem_of_find?_eq_some e, h⟩
      · rcases mem_bestG rows _ i h with h | ⟨k, hk, h⟩
        · exact .inl h
        · exact .inr ⟨k, List.mem_of_mem_erase hk, h⟩
    | none =>
      rw [e] at h
      rcases List.mem_cons.mp h with h | h
      · exact .inl h
      · exact mem_bestG rows _ i h
theorem best_won {s : State} (h : WF s) : (wonL (bestI (wins s) s.m) (wins s)).sum = total s := by
  have e : (wonL (bestI (wins s) s.m) (wins s)).sum = wonBy s (players s) (best s) := by
    conv => lhs; rw [show wonL (bestI (wins s) s.m) (wins s) = wonL (bestI (wins s) s.m) ((players s).map (rowOf s)) by rw [← wins_eq h]]
    rw [wonL_sum s h (players s) _ (fun p hp => mem_players.mp hp) fun i hi => ?_]
    · unfold bestI
      rw [nats_ints, best_wins h]
    · obtain ⟨k, hk, rfl⟩ := List.mem_map.mp hi
      rcases mem_bestG _ _ _ hk with e | ⟨j, hj, e⟩
      · exact .inl (by rw [e]; rfl)
      · have := List.mem_range.mp hj
        refine .inr (isFirm_iff.mpr ?_)
        simp only [Int.ofNat_eq_natCast]
        omega
  rw [e, best_eq, wonBy_bestBy s _ _ (zero_firms s)]
  rfl
end TW

end

section
set_option Elab.async false
set_option linter.unusedVariables false
namespace TW
open Vbsgag

theorem length_least (s : State) : (least s).length = s.m := by simp [least, firms]
theorem gains_eq {s : State} (h : WF s) : gains s = List.zipWith (fun (i : Nat) (row : List Nat) => if i = 0 then (0 : Int) else (row.getD (i - 1) 0 : Int) - ((least s).getD (i - 1) 0 : Int)) (best s) s.rows := by
  unfold gains players
  apply List.ext_getElem?
  intro k
  rw [List.map_map, List.getElem?_map, List.getElem?_zipWith]
  have hb : (best s).length = s.n := by rw [best_eq, length_bestBy, players_length]
  by_cases hk : k < s.n
  · have h1 : k < (best s).length := by omega
    have h2 : k < s.rows.length := by rw [h.lr]; exact hk
    rw [List.getElem?_range hk, List.getElem?_eq_getElem h1, List.getElem?_eq_getElem h2]
    simp only [Option.map_some, Function.comp]
    unfold gainAt worth priceOf
    simp [List.getD_eq_getElem?_getD, h1, h2]
  · have h1 : (List.range s.n)[k]? = none := List.getElem?_eq_none (by simp; omega)
    have h2 : (best s)[k]? = none := List.getElem?_eq_none (by omega)
    rw [h1, h2]
    rfl

theorem WF_fresh {n m : Nat} (n1 : 1 ≤ n) (n5 : n ≤ 5) (m1 : 1 ≤ m) (m6 : m ≤ 6) : WF (fresh n m) where
  n1 := n1
  n5 := n5
  m1 := m1
  m6 := m6
  lb := by simp [fresh]
  lr := by simp [fresh]
  lw := fun r hr => by
    have : r = List.replicate m 0 := (List.mem_replicate.mp hr).2
    rw [this]
    simp [fresh]
  lc := by simp [fresh]
theorem WF_wound {s : State} (h : WF s) : WF (wound s) := ⟨h.n1, h.n5, h.m1, h.m6, h.lb, h.lr, h.lw, h.lb⟩
theorem WF_base {s : State} (h : WF s) (i v : Nat) : WF { s with bases := s.bases.set i v } := ⟨h.n1, h.n5, h.m1, h.m6, by simp [h.lb], h.lr, h.lw, h.lc⟩
theorem WF_told {s : State} (h : WF s) (p : Nat) (row : List Nat) (hl : row.length = s.m) : WF (told s p row) := ⟨h.n1, h.n5, h.m1, h.m6, h.lb, by simp [told, h.lr], fun r hr => by
  rcases List.mem_or_eq_of_mem_set hr with z | z
  · exact h.lw r z
  · rw [z]; exact hl, h.lc⟩
theorem WF_worth {s : State} (h : WF s) {p i v : Nat} (hp : p < s.n) : WF { s with rows := s.rows.set p ((s.rows.getD p []).set i v) } := ⟨h.n1, h.n5, h.m1, h.m6, h.lb, by simp [h.lr], fun r hr => by
  rcases List.mem_or_eq_of_mem_set hr with z | z
  · exact h.lw r z
  · rw [z, List.length_set]
    have h1 : p < s.rows.length := by rw [h.lr]; exact hp
    rw [List.getD_eq_getElem?_getD, List.getElem?_eq_getElem h1]
    exact h.lw _ (List.getElem_mem h1), h.lc⟩
theorem WF_clock {s : State} (h : WF s) {q : List Nat} (hq : q.length = s.m) : WF { s with clock := q } := ⟨h.n1, h.n5, h.m1, h.m6, h.lb, h.lr, h.lw, hq⟩
theorem ints_length (l : List Nat) : (Vbsgag.ints l).length = l.length := by simp [Vbsgag.ints]
theorem ints_set (l : List Nat) (i v : Nat) : Vbsgag.ints (l.set i v) = (Vbsgag.ints l).set i (v : Int) := by
  unfold Vbsgag.ints
  rw [List.map_set]
  rfl
theorem ints_nats {l : List Int} (h : ∀ i ∈ l, 0 ≤ i) : Vbsgag.ints (nats l) = l := by
  unfold Vbsgag.ints nats
  rw [List.map_map]
  conv => rhs; rw [← List.map_id l]
  apply List.map_congr_left
  intro i hi
  have := h i hi
  show Int.ofNat i.toNat = i
  simp only [Int.ofNat_eq_natCast]
  omega
theorem ints_getElem? (l : List Nat) (k : Nat) : (Vbsgag.ints l)[k]? = (l[k]?).map Int.ofNat := by
  unfold Vbsgag.ints
  rw [List.getElem?_map]
theorem ints_replicate (n : Nat) : Vbsgag.ints (List.replicate n 0) = List.replicate n 0 := by simp [Vbsgag.ints]
theorem areMoney_nats {s : State} {l : List Int} (h : areMoney s l = true) : l.length = s.m ∧ (∀ i ∈ l, 0 ≤ i) ∧ Vbsgag.ints (nats l) = l := by
  unfold areMoney at h
  simp only [Bool.and_eq_true, decide_eq_true_eq, List.all_eq_true] at h
  have h2 : ∀ i ∈ l, 0 ≤ i := fun i hi => (isMoney_iff.mp (h.2 i hi)).1
  exact ⟨h.1, h2, ints_nats h2⟩
theorem winRow_ints (bases row : List Nat) : winRow bases row = List.zipWith (fun a b => a - b) (Vbsgag.ints row) (Vbsgag.ints bases) := by
  unfold winRow Vbsgag.ints
  rw [List.zipWith_map]
  rfl
end TW

end

section
set_option Elab.async false
set_option linter.unusedVariables false
namespace TW
open Vbsgag
end TW

end

section
set_option Elab.async false
set_option linter.unusedVariables false
namespace TW
open Vbsgag
theorem choose_len : ∀ (k : Nat) (items : List Nat) {l : List Nat}, l ∈ choose k items → l.length = k
  | 0, items, l, h => by
    have : l = [] := by cases items <;> simpa [choose] using h
    rw [this]; rfl
  | k + 1, [], l, h => by simp [choose] at h
  | k + 1, i :: r, l, h => by
    unfold choose at h
    rcases List.mem_append.mp h with h | h
    · obtain ⟨q, hq, rfl⟩ := List.mem_map.mp h
      rw [List.length_cons, choose_len k r hq]
    · exact choose_len (k + 1) r h
theorem asked_len {s : State} {l : List (Bool × Int)} {f : State × Ans} {n : Nat} (h : f.2.length ≤ n) (h1 : 1 ≤ n) : (asked s l f).2.length ≤ n := by
  unfold asked
  split
  · exact h1
  · exact h
theorem over_len {s : State} (wf : WF s) (q : List Nat) : ((over s q).getD []).length ≤ s.m := by
  cases e : over s q with
  | none => exact Nat.zero_le _
  | some l =>
    have h := List.mem_of_find?_eq_some (show (subsets s).find? _ = some l from e)
    obtain ⟨k, hk, h⟩ := List.mem_flatMap.mp h
    have h2 := choose_len k _ h
    have h3 := (mem_firms.mp hk).2
    show l.length ≤ s.m
    omega
theorem ticks_len {s : State} : ∀ (k : Nat) (q : List Nat), q.length = s.m → (ticks s k q).2.length = s.m
  | 0, q, h => h
  | k + 1, q, h => by
    unfold ticks
    cases over s q with
    | none => exact h
    | some l => exact ticks_len k _ (by simp [raised, firms])
theorem firms_length (s : State) : (firms s).length = s.m := by simp [firms]
theorem best_length {s : State} : (best s).length = s.n := by rw [best_eq, length_bestBy, players_length]
theorem vstep_len {s : State} (wf : WF s) (c : Vbsgag.Call) : (Vbsgag.step s c).2.length ≤ 20 := by
  have h5 := wf.n5
  have h6 := wf.m6
  cases c with
  | begin n m =>
    unfold Vbsgag.step
    simp only
    split <;> simp
  | base i v => exact asked_len (by simp) (by decide)
  | worth p i v => exact asked_len (by simp) (by decide)
  | row p l => exact asked_len (by simp) (by decide)
  | look p =>
    refine asked_len ?_ (by decide)
    show (Vbsgag.ints (s.rows.getD (p.toNat - 1) [])).length ≤ 20
    rw [ints_length, List.getD_eq_getElem?_getD]
    cases e : s.rows[p.toNat - 1]? with
    | none => simp
    | some r =>
      have := wf.lw r (List.mem_of_getElem? e)
      show r.length ≤ 20
      omega
  | total => simp [Vbsgag.step]
  | best =>
    show (total s :: Vbsgag.ints (best s)).length ≤ 20
    rw [List.length_cons, ints_length, best_length]
    omega
  | given l => exact asked_len (by simp) (by decide)
  | prices =>
    show (Vbsgag.ints (least s)).length ≤ 20
    rw [ints_length, length_least]
    omega
  | greatest =>
    show (Vbsgag.ints (greatest s)).length ≤ 20
    rw [ints_length]
    simp [greatest, firms_length]
    omega
  | gains =>
    show (gains s).length ≤ 20
    simp [gains, players_length]
    omega
  | competitive l => exact asked_len (by simp) (by decide)
  | demand p l =>
    refine asked_len ?_ (by decide)
    show (_ :: counted _).length ≤ 20
    unfold counted
    rw [List.length_cons, List.length_cons, ints_length]
    have : (demand s (nats l) p.toNat).length ≤ s.m := by
      unfold demand
      exact Nat.le_trans (List.length_filter_le _ _) (Nat.le_of_eq (firms_length s))
    omega
  | over l =>
    refine asked_len ?_ (by decide)
    show (counted _).length ≤ 20
    unfold counted
    rw [List.length_cons, ints_length]
    have := over_len wf (nats l)
    omega
  | clock =>
    show (Vbsgag.ints s.clock).length ≤ 20
    rw [ints_length, wf.lc]
    omega
  | tick k =>
    unfold Vbsgag.step
    simp only
    split
    · simp
    · show (_ :: Vbsgag.ints (ticks s k.toNat s.clock).2).length ≤ 20
      rw [List.length_cons, ints_length, ticks_len _ _ wf.lc]
      omega
  | restart => simp [Vbsgag.step]
  | without p => exact asked_len (by simp) (by decide)
  | lie p l => exact asked_len (by simp) (by decide)
  | burden p => exact asked_len (by simp) (by decide)
  | equals => simp [Vbsgag.step]
theorem step_len {s : State} (wf : WF s) (c : List (List Int)) : (VbsgagNeutral.step s c).2.length ≤ 20 := by
  unfold VbsgagNeutral.step
  cases VbsgagNeutral.callOf c with
  | none => simp
  | some x => exact vstep_len wf x
theorem played_cons {S : Type} (step : S → List (List Int) → S × List Int) (s : S) (c : List (List Int)) (r : List (List (List Int))) : PyFlat.played step s (c :: r) = (step s c).2 :: PyFlat.played step (step s c).1 r := rfl
end TW

end

section
set_option Elab.async false
set_option linter.unusedVariables false
namespace TW
open Vbsgag

def compBy (s : State) : List Nat → List Nat → List (List Nat)
  | [], _ => [[]]
  | p :: r, items => ((items.filter fun i => net s p i + top s r (items.erase i) == top s (p :: r) items).flatMap fun i => (compBy s r (items.erase i)).map fun l => i :: l) ++
      (if top s r items = top s (p :: r) items then (compBy s r items).map fun l => 0 :: l else [])
theorem compBy_cons (s : State) (p : Nat) (r items : List Nat) : compBy s (p :: r) items = ((items.filter fun i => net s p i + top s r (items.erase i) == top s (p :: r) items).flatMap fun i => (compBy s r (items.erase i)).map fun l => i :: l) ++
      (if top s r items = top s (p :: r) items then (compBy s r items).map fun l => 0 :: l else []) := rfl
theorem flatMap_if {α β : Type} (c : α → Bool) (g f : α → List β) : ∀ (l : List α), (∀ x ∈ l, f x = if c x = true then g x else []) → l.flatMap f = (l.filter c).flatMap g
  | [], _ => rfl
  | a :: l, h => by
    rw [List.flatMap_cons, h a List.mem_cons_self, List.filter_cons, flatMap_if c g f l fun x hx => h x (List.mem_cons_of_mem _ hx)]
    cases e : c a
    · simp
    · simp
theorem filter_map' {α β : Type} (p : β → Bool) (f : α → β) (l : List α) : (l.map f).filter p = (l.filter fun x => p (f x)).map f := by
  rw [List.filter_map]
  rfl
theorem filter_best (s : State) : ∀ (ps items : List Nat), 0 ∉ items → (assignments ps.length items).filter (fun a => wonBy s ps a == top s ps items) = compBy s ps items
  | [], items, _ => rfl
  | p :: r, items, h0 => by
    have h0e : ∀ i, 0 ∉ items.erase i := fun i e => h0 (List.mem_of_mem_erase e)
    rw [List.length_cons, assignments_succ, List.filter_append, List.filter_flatMap, compBy_cons]
    congr 1
    · refine flatMap_if _ _ _ items fun i hi => ?_
      have hi0 : i ≠ 0 := fun e => h0 (e ▸ hi)
      rw [filter_map']
      have e2 : (fun l => wonBy s (p :: r) (i :: l) == top s (p :: r) items) = fun l => net s p i + wonBy s r l == top s (p :: r) items := by
        funext l
        rw [wonBy_cons, if_neg hi0]
      rw [e2]
      by_cases c : net s p i + top s r (items.erase i) = top s (p :: r) items
      · rw [if_pos (by simpa using c)]
        have e3 : (fun l => net s p i + wonBy s r l == top s (p :: r) items) = fun l => wonBy s r l == top s r (items.erase i) := by
          funext l
          rw [← c]
          by_cases q : wonBy s r l = top s r (items.erase i)
          · simp [q]
          · have q2 : ¬ net s p i + wonBy s r l = net s p i + top s r (items.erase i) := fun z => q (by omega)
            rw [beq_eq_false_iff_ne.mpr q, beq_eq_false_iff_ne.mpr q2]
        rw [e3, filter_best s r (items.erase i) (h0e i)]
      · rw [if_neg (by simpa using c)]
        have h1 := top_step s p r items hi
        have : (assignments r.length (items.erase i)).filter (fun l => net s p i + wonBy s r l == top s (p :: r) items) = [] := by
          rw [List.filter_eq_nil_iff]
          intro l hl
          have h2 := wonBy_le s r (items.erase i) (h0e i) hl
          simp only [beq_iff_eq]
          omega
        rw [this]
        rfl
    · rw [filter_map']
      have e2 : (fun l => wonBy s (p :: r) (0 :: l) == top s (p :: r) items) = fun l => wonBy s r l == top s (p :: r) items := by
        funext l
        rw [wonBy_cons, if_pos rfl, Int.zero_add]
      rw [e2]
      by_cases c : top s r items = top s (p :: r) items
      · rw [if_pos c, ← c, filter_best s r items h0]
      · rw [if_neg c]
        have h1 : top s r items ≤ top s (p :: r) items := le_most _ _
        have : (assignments r.length items).filter (fun l => wonBy s r l == top s (p :: r) items) = [] := by
          rw [List.filter_eq_nil_iff]
          intro l hl
          have h2 := wonBy_le s r items h0 hl
          simp only [beq_iff_eq]
          omega
        rw [this]
        rfl
def compG : List (List Int) → List Nat → List (List Nat)
  | [], _ => [[]]
  | row :: rest, sl => ((sl.filter fun j => row.getD j 0 + G rest (sl.erase j) == G (row :: rest) sl).flatMap fun j => (compG rest (sl.erase j)).map fun l => (j + 1) :: l) ++
      (if G rest sl = G (row :: rest) sl then (compG rest sl).map fun l => 0 :: l else [])
theorem compG_cons (row : List Int) (rest : List (List Int)) (sl : List Nat) : compG (row :: rest) sl = ((sl.filter fun j => row.getD j 0 + G rest (sl.erase j) == G (row :: rest) sl).flatMap fun j => (compG rest (sl.erase j)).map fun l => (j + 1) :: l) ++
      (if G rest sl = G (row :: rest) sl then (compG rest sl).map fun l => 0 :: l else []) := rfl
theorem flatMap_congr' {α β : Type} {f g : α → List β} : ∀ {l : List α}, (∀ x ∈ l, f x = g x) → l.flatMap f = l.flatMap g
  | [], _ => rfl
  | a :: l, h => by rw [List.flatMap_cons, List.flatMap_cons, h a List.mem_cons_self, flatMap_congr' fun x hx => h x (List.mem_cons_of_mem _ hx)]
theorem compBy_G (s : State) (R : Nat → List Int) : ∀ (ps sl : List Nat), (∀ p ∈ ps, ∀ j ∈ sl, (R p).getD j 0 = net s p (j + 1)) → compBy s ps (sl.map fun j => j + 1) = compG (ps.map R) sl
  | [], _, _ => rfl
  | p :: r, sl, h => by
    have hF : ∀ a b : Nat, a + 1 = b + 1 → a = b := fun a b e => by omega
    have h0 : ∀ q ∈ r, ∀ j ∈ sl, (R q).getD j 0 = net s q (j + 1) := fun q hq j hj => h q (List.mem_cons_of_mem _ hq) j hj
    have hE : ∀ k, ∀ q ∈ r, ∀ j ∈ sl.erase k, (R q).getD j 0 = net s q (j + 1) := fun k q hq j hj => h0 q hq j (List.mem_of_mem_erase hj)
    have hT : top s (p :: r) (sl.map fun j => j + 1) = G (R p :: r.map R) sl := top_G s (fun j => j + 1) R (p :: r) sl h
    have hT2 : top s r (sl.map fun j => j + 1) = G (r.map R) sl := top_G s (fun j => j + 1) R r sl h0
    rw [List.map_cons, compBy_cons, compG_cons, hT, hT2, compBy_G s R r sl h0]
    congr 1
    rw [filter_map', List.flatMap_map]
    have e : (sl.filter fun x => net s p (x + 1) + top s r ((sl.map fun j => j + 1).erase (x + 1)) == G (R p :: r.map R) sl) = sl.filter fun j => (R p).getD j 0 + G (r.map R) (sl.erase j) == G (R p :: r.map R) sl := by
      apply List.filter_congr
      intro j hj
      rw [map_erase_inj (fun j => j + 1) hF sl j, top_G s (fun j => j + 1) R r (sl.erase j) (hE j), h p List.mem_cons_self j hj]
    rw [e]
    apply flatMap_congr'
    intro j hj
    rw [map_erase_inj (fun j => j + 1) hF sl j, compBy_G s R r (sl.erase j) (hE j)]
theorem comp_wins {s : State} (h : WF s) : compBy s (players s) (firms s) = compG (wins s) (List.range s.m) := by
  rw [wins_eq h]
  exact compBy_G s (rowOf s) (players s) (List.range s.m) fun p hp j hj => rowOf_get h (mem_players.mp hp).1 (mem_players.mp hp).2 (List.mem_range.mp hj)
theorem equals_wins {s : State} (h : WF s) : (all s).filter (fun a => won s a == total s) = compG (wins s) (List.range s.m) := by
  have e : (all s).filter (fun a => won s a == total s) = (all s).filter (fun a => wonBy s (players s) a == total s) := by
    apply List.filter_congr
    intro a ha
    rw [won_players s (length_assignments _ _ ha)]
  have h2 := filter_best s (players s) (firms s) (zero_firms s)
  rw [players_length] at h2
  rw [e, ← comp_wins h]
  exact h2
theorem best_head {s : State} (h : WF s) : (compG (wins s) (List.range s.m)).head? = some (best s) := by
  rw [← equals_wins h, List.head?_filter]
  have e : (all s).find? (fun a => won s a == total s) = (all s).find? (fun a => wonBy s (players s) a == total s) := by
    apply find_congr
    intro a ha
    rw [won_players s (length_assignments _ _ ha)]
  have h2 := find_best s (players s) (firms s) (zero_firms s)
  rw [players_length] at h2
  rw [e, best_eq]
  exact h2
def nextsTo (row greatest behind : List Int) (x : List Int × Nat) (k : Nat) : List (List Int × Nat) :=
  ((List.range k).filter fun j => x.2.testBit j && (row.getD j 0 + behind.getD (x.2 - 2 ^ j) 0 == greatest.getD x.2 0)).map fun j => (x.1 ++ [((j + 1 : Nat) : Int)], x.2 - 2 ^ j)
def nexts (row greatest behind : List Int) (x : List Int × Nat) : List (List Int × Nat) := nextsTo row greatest behind x row.length ++ (if behind.getD x.2 0 = greatest.getD x.2 0 then [(x.1 ++ [0], x.2)] else [])
theorem nextsTo_succ (row greatest behind : List Int) (x : List Int × Nat) (k : Nat) : nextsTo row greatest behind x (k + 1) = nextsTo row greatest behind x k ++ (if (x.2.testBit k && (row.getD k 0 + behind.getD (x.2 - 2 ^ k) 0 == greatest.getD x.2 0)) = true then [(x.1 ++ [((k + 1 : Nat) : Int)], x.2 - 2 ^ k)] else []) := by
  unfold nextsTo
  rw [List.range_succ, List.filter_append, List.map_append, List.filter_cons, List.filter_nil]
  split <;> rfl
def withNext (row greatest behind : List Int) (begun : List (List Int × Nat)) : List (List Int × Nat) := begun.flatMap (nexts row greatest behind)
def walkB (M : Nat) : List (List Int) → List (List Int × Nat) → List (List Int × Nat)
  | [], b => b
  | row :: rest, b => walkB M rest (withNext row (tab M (row :: rest)) (tab M rest) b)
theorem nexts_lt {M : Nat} {row greatest behind : List Int} {x y : List Int × Nat} (hx : x.2 < 2 ^ M) (hy : y ∈ nexts row greatest behind x) : y.2 < 2 ^ M := by
  unfold nexts at hy
  rcases List.mem_append.mp hy with hy | hy
  · obtain ⟨j, _, rfl⟩ := List.mem_map.mp hy
    exact sub_lt hx
  · by_cases c : behind.getD x.2 0 = greatest.getD x.2 0
    · rw [if_pos c] at hy
      have : y = (x.1 ++ [0], x.2) := by simpa using hy
      rw [this]
      exact hx
    · rw [if_neg c] at hy
      cases hy
theorem nexts_len (row greatest behind : List Int) (x : List Int × Nat) : (nexts row greatest behind x).length ≤ row.length + 1 := by
  unfold nexts nextsTo
  rw [List.length_append, List.length_map]
  have h1 := List.length_filter_le (fun j => x.2.testBit j && (row.getD j 0 + behind.getD (x.2 - 2 ^ j) 0 == greatest.getD x.2 0)) (List.range row.length)
  rw [List.length_range] at h1
  split
  · rw [List.length_singleton]
    omega
  · rw [List.length_nil]
    omega
theorem withNext_len (row greatest behind : List Int) : ∀ (b : List (List Int × Nat)), (withNext row greatest behind b).length ≤ b.length * (row.length + 1)
  | [] => by simp [withNext]
  | x :: b => by
    have h1 := nexts_len row greatest behind x
    have h2 := withNext_len row greatest behind b
    unfold withNext at h2 ⊢
    rw [List.flatMap_cons, List.length_append, List.length_cons, Nat.add_mul, Nat.one_mul]
    omega
theorem nexts_comp {M : Nat} (row : List Int) (rest : List (List Int)) (h : row.length = M) (x : List Int × Nat) (hx : x.2 < 2 ^ M) :
    ((nexts row (tab M (row :: rest)) (tab M rest) x).flatMap fun y => (compG rest (bits M y.2)).map fun l => y.1 ++ Vbsgag.ints l) = (compG (row :: rest) (bits M x.2)).map fun l => x.1 ++ Vbsgag.ints l := by
  subst h
  unfold nexts nextsTo
  rw [compG_cons, List.map_append, List.flatMap_append, List.flatMap_map]
  congr 1
  · have e : ((List.range row.length).filter fun j => x.2.testBit j && (row.getD j 0 + (tab row.length rest).getD (x.2 - 2 ^ j) 0 == (tab row.length (row :: rest)).getD x.2 0)) = (bits row.length x.2).filter fun j => row.getD j 0 + G rest ((bits row.length x.2).erase j) == G (row :: rest) (bits row.length x.2) := by
      unfold bits
      rw [List.filter_filter]
      apply List.filter_congr
      intro j hj
      cases hb : x.2.testBit j with
      | false => rw [Bool.false_and, Bool.and_false]
      | true =>
        rw [Bool.true_and, Bool.and_true, tab_get _ (sub_lt hx), tab_get _ hx, bits_sub hb (List.mem_range.mp hj)]
        rfl
    rw [e, List.map_flatMap]
    apply flatMap_congr'
    intro j hj
    obtain ⟨h1, h2⟩ := mem_bits.mp (List.mem_filter.mp hj).1
    rw [bits_sub h2 h1, List.map_map]
    apply List.map_congr_left
    intro l _
    show (x.1 ++ [((j + 1 : Nat) : Int)]) ++ Vbsgag.ints l = x.1 ++ Vbsgag.ints ((j + 1) :: l)
    rw [List.append_assoc]
    rfl
  · rw [tab_get _ hx, tab_get _ hx]
    by_cases c : G rest (bits row.length x.2) = G (row :: rest) (bits row.length x.2)
    · rw [if_pos c, if_pos c, List.map_map]
      rw [List.flatMap_cons, List.flatMap_nil, List.append_nil]
      apply List.map_congr_left
      intro l _
      show (x.1 ++ [0]) ++ Vbsgag.ints l = x.1 ++ Vbsgag.ints (0 :: l)
      rw [List.append_assoc]
      rfl
    · rw [if_neg c, if_neg c]
      rfl
theorem walkB_comp {M : Nat} : ∀ (rows : List (List Int)) (b : List (List Int × Nat)), (∀ r ∈ rows, r.length = M) → (∀ x ∈ b, x.2 < 2 ^ M) →
    (walkB M rows b).map (fun x => x.1) = b.flatMap fun x => (compG rows (bits M x.2)).map fun l => x.1 ++ Vbsgag.ints l
  | [], b, _, hb => by
    show b.map (fun x => x.1) = b.flatMap fun x => [x.1 ++ []]
    induction b with
    | nil => rfl
    | cons x b ih => rw [List.map_cons, List.flatMap_cons, ih fun y hy => hb y (List.mem_cons_of_mem _ hy), List.append_nil]; rfl
  | row :: rest, b, hM, hb => by
    show (walkB M rest (withNext row (tab M (row :: rest)) (tab M rest) b)).map (fun x => x.1) = _
    rw [walkB_comp rest _ (fun r hr => hM r (List.mem_cons_of_mem _ hr)) fun y hy => ?_]
    · unfold withNext
      rw [List.flatMap_assoc]
      apply flatMap_congr'
      intro x hx
      exact nexts_comp row rest (hM row List.mem_cons_self) x (hb x hx)
    · obtain ⟨x, hx, hy⟩ := List.mem_flatMap.mp hy
      exact nexts_lt (hb x hx) hy
def bestsI (rows : List (List Int)) (M : Nat) : List (List Int) := (compG rows (List.range M)).map Vbsgag.ints
theorem walkB_all {M : Nat} (rows : List (List Int)) (hM : ∀ r ∈ rows, r.length = M) : (walkB M rows [([], 2 ^ M - 1)]).map (fun x => x.1) = bestsI rows M := by
  have hpos := Nat.two_pow_pos M
  rw [walkB_comp rows _ hM fun x hx => by
    have : x = ([], 2 ^ M - 1) := by simpa using hx
    rw [this]
    show 2 ^ M - 1 < 2 ^ M
    omega]
  rw [List.flatMap_cons, List.flatMap_nil, List.append_nil, bits_all]
  rfl
theorem bestsI_head {s : State} (h : WF s) : (bestsI (wins s) s.m)[0]? = some (Vbsgag.ints (best s)) := by
  unfold bestsI
  rw [List.getElem?_map, ← List.head?_eq_getElem?, best_head h]
  rfl
theorem bestsI_len {s : State} (h : WF s) : (bestsI (wins s) s.m).length = ((all s).filter fun a => won s a == total s).length := by
  unfold bestsI
  rw [List.length_map, equals_wins h]
end TW

end

section
set_option Elab.async false
set_option linter.unusedVariables false
namespace TW
open Vbsgag

theorem told_rows (s : State) (p : Nat) (row : List Nat) : (told s p row).rows = s.rows.set (p - 1) row := rfl
theorem wins_told (s : State) (p : Nat) (row : List Nat) : wins (told s p row) = (wins s).set (p - 1) (winRow s.bases row) := by
  unfold wins
  rw [told_rows, List.map_set]
  rfl
theorem winRow_self : ∀ l : List Nat, winRow l l = List.replicate l.length 0
  | [] => rfl
  | a :: l => by
    have ih := winRow_self l
    unfold winRow at ih ⊢
    rw [List.zipWith_cons_cons, ih, List.length_cons, List.replicate_succ, Int.sub_self]
theorem worth_told {s : State} (h : WF s) {p : Nat} (h1 : 1 ≤ p) (h2 : p ≤ s.n) (row : List Nat) (q i : Nat) (hq : 1 ≤ q) : worth (told s p row) q i = if q = p then row.getD (i - 1) 0 else worth s q i := by
  unfold worth
  rw [told_rows]
  have hl : p - 1 < s.rows.length := by rw [h.lr]; omega
  by_cases e : q = p
  · subst e
    rw [if_pos rfl]
    simp [List.getD_eq_getElem?_getD, hl]
  · rw [if_neg e]
    have : ¬ p - 1 = q - 1 := by omega
    simp [List.getD_eq_getElem?_getD, List.getElem?_set_ne this]
theorem without_eq {s : State} (h : WF s) {p : Nat} (h1 : 1 ≤ p) (h2 : p ≤ s.n) : top s ((players s).filter fun q => q != p) (firms s) = G ((wins s).set (p - 1) (List.replicate s.m 0)) (List.range s.m) := by
  have wf := WF_told h p s.bases h.lb
  have e1 : (wins s).set (p - 1) (List.replicate s.m 0) = wins (told s p s.bases) := by
    rw [wins_told, winRow_self, h.lb]
  rw [e1]
  have e2 : G (wins (told s p s.bases)) (List.range s.m) = total (told s p s.bases) := (total_wins wf).symm
  rw [e2]
  show _ = top (told s p s.bases) (players s) (firms s)
  have hb : ∀ i, base (told s p s.bases) i = base s i := fun i => rfl
  -- a player 0 is none of the players: both sides are told over the players alone
  have key : ∀ (ps items : List Nat), (∀ q ∈ ps, 1 ≤ q) → top s (ps.filter fun q => q != p) items = top (told s p s.bases) ps items := by
    intro ps
    induction ps with
    | nil => intro items _; rfl
    | cons q r ih =>
      intro items hps
      have hr : ∀ q ∈ r, 1 ≤ q := fun x hx => hps x (List.mem_cons_of_mem _ hx)
      have hq := hps q List.mem_cons_self
      rw [List.filter_cons, top_cons]
      by_cases e : q = p
      · subst e
        rw [if_neg (by simp), ih items hr]
        apply Int.le_antisymm
        · exact le_most _ _
        · refine most_le _ _ _ (Int.le_refl _) fun x hx => ?_
          obtain ⟨i, hi, rfl⟩ := List.mem_map.mp hx
          have := top_erase (told s q s.bases) r items hi
          have e0 : net (told s q s.bases) q i = 0 := by
            unfold net
            rw [worth_told h h1 h2 _ _ _ hq, if_pos rfl, hb]
            unfold base
            omega
          rw [e0]
          omega
      · rw [if_pos (by simpa using e), top_cons, ih items hr]
        congr 1
        apply List.map_congr_left
        intro i hi
        rw [ih (items.erase i) hr]
        congr 1
        unfold net
        rw [worth_told h h1 h2 _ _ _ hq, if_neg e, hb]
  exact key (players s) (firms s) fun q hq => (mem_players.mp hq).1
theorem wonL_cons (i : Int) (a : List Int) (row : List Int) (rows : List (List Int)) : wonL (i :: a) (row :: rows) = if i = 0 then wonL a rows else row.getD (i.toNat - 1) 0 :: wonL a rows := rfl
theorem wonL_set : ∀ (a : List Int) (rows : List (List Int)) (k : Nat), k < a.length → a.length = rows.length →
    (wonL (a.set k 0) rows).sum = (wonL a rows).sum - (if a.getD k 0 = 0 then 0 else (rows.getD k []).getD ((a.getD k 0).toNat - 1) 0)
  | [], _, _, h, _ => by simp at h
  | _ :: _, [], _, _, h => by simp at h
  | i :: a, row :: rows, 0, _, _ => by
    rw [List.set_cons_zero, wonL_cons, wonL_cons, if_pos rfl]
    show (wonL a rows).sum = (if i = 0 then wonL a rows else row.getD (i.toNat - 1) 0 :: wonL a rows).sum - (if i = 0 then 0 else row.getD (i.toNat - 1) 0)
    by_cases e : i = 0
    · rw [if_pos e, if_pos e]; omega
    · rw [if_neg e, if_neg e, List.sum_cons]; omega
  | i :: a, row :: rows, k + 1, h, hl => by
    have ih := wonL_set a rows k (by simpa using h) (by simpa using hl)
    rw [List.set_cons_succ, wonL_cons, wonL_cons]
    show _ = _ - (if a.getD k 0 = 0 then 0 else (rows.getD k []).getD ((a.getD k 0).toNat - 1) 0)
    by_cases e : i = 0
    · rw [if_pos e, if_pos e, ih]
    · rw [if_neg e, if_neg e, List.sum_cons, List.sum_cons, ih]; omega
theorem ints_getD (l : List Nat) (k : Nat) : (Vbsgag.ints l).getD k 0 = (l.getD k 0 : Int) := by
  rw [List.getD_eq_getElem?_getD, ints_getElem?, List.getD_eq_getElem?_getD]
  cases l[k]? <;> rfl
theorem best_in {s : State} (h : WF s) (k : Nat) : (best s).getD k 0 = 0 ∨ (1 ≤ (best s).getD k 0 ∧ (best s).getD k 0 ≤ s.m) := by
  rw [best_wins h, List.getD_eq_getElem?_getD]
  cases e : (bestG (wins s) (List.range s.m))[k]? with
  | none => exact .inl rfl
  | some i =>
    rcases mem_bestG _ _ _ (List.mem_of_getElem? e) with q | ⟨j, hj, q⟩
    · exact .inl q
    · have := List.mem_range.mp hj
      exact .inr ⟨by show 1 ≤ i; omega, by show i ≤ s.m; omega⟩
theorem bestI_eq {s : State} (h : WF s) : bestI (wins s) s.m = Vbsgag.ints (best s) := by
  unfold bestI
  rw [best_wins h]
theorem others_eq {s : State} (h : WF s) {p : Nat} (h1 : 1 ≤ p) (h2 : p ≤ s.n) :
    (wonL ((Vbsgag.ints (best s)).set (p - 1) 0) (wins s)).sum = total s - (if (best s).getD (p - 1) 0 = 0 then 0 else net s p ((best s).getD (p - 1) 0)) := by
  have hbl : (Vbsgag.ints (best s)).length = (wins s).length := by rw [ints_length, best_length, wins_length h]
  have hk : p - 1 < (Vbsgag.ints (best s)).length := by rw [hbl, wins_length h]; omega
  rw [wonL_set _ _ _ hk hbl, ← bestI_eq h, best_won h, bestI_eq h, ints_getD]
  congr 1
  rcases best_in h (p - 1) with e | ⟨e1, e2⟩
  · rw [e]; rfl
  · have hn : ¬ ((best s).getD (p - 1) 0 : Int) = 0 := by omega
    rw [if_neg hn, if_neg (by omega)]
    have hj : (best s).getD (p - 1) 0 - 1 < s.m := by omega
    have hr := rowOf_get h h1 h2 hj
    rw [show (best s).getD (p - 1) 0 - 1 + 1 = (best s).getD (p - 1) 0 by omega] at hr
    rw [← hr]
    have hw : (wins s).getD (p - 1) [] = rowOf s p := by
      unfold wins rowOf
      have hl : p - 1 < s.rows.length := by rw [h.lr]; omega
      simp [List.getD_eq_getElem?_getD, hl]
    rw [hw]
    congr 1
theorem burden_eq {s : State} (h : WF s) {p : Nat} (h1 : 1 ≤ p) (h2 : p ≤ s.n) :
    burden s p = G ((wins s).set (p - 1) (List.replicate s.m 0)) (List.range s.m) - (wonL ((Vbsgag.ints (best s)).set (p - 1) 0) (wins s)).sum := by
  rw [others_eq h h1 h2, ← without_eq h h1 h2]
  rfl
theorem take_set_drop {α : Type} (l : List α) (k : Nat) (x : α) (h : k < l.length) : l.take k ++ [x] ++ l.drop (k + 1) = l.set k x := by
  rw [List.set_eq_take_append_cons_drop, if_pos h, List.append_assoc]
  rfl
theorem told_self {s : State} (h : WF s) {p : Nat} (h1 : 1 ≤ p) (h2 : p ≤ s.n) : told s p (s.rows.getD (p - 1) []) = s := by
  unfold told
  have hl : p - 1 < s.rows.length := by rw [h.lr]; omega
  have e : s.rows.set (p - 1) (s.rows.getD (p - 1) []) = s.rows := by
    rw [List.getD_eq_getElem?_getD, List.getElem?_eq_getElem hl]
    exact List.set_getElem_self hl
  rw [e]
end TW

end

section
set_option Elab.async false
set_option linter.unusedVariables false
namespace TW
open Vbsgag

def gl (ws ps : List Int) : List Int := List.zipWith (fun x y => x - y) ws ps
theorem gl_length (ws ps : List Int) (h : ws.length = ps.length) : (gl ws ps).length = ws.length := by
  unfold gl
  rw [List.length_zipWith]
  omega
theorem gl_firms {s : State} (h : WF s) {q : List Nat} (hq : q.length = s.m) {p : Nat} (h1 : 1 ≤ p) (h2 : p ≤ s.n) : gl (Vbsgag.ints (s.rows.getD (p - 1) [])) (Vbsgag.ints q) = (firms s).map (gainAt s q p) := by
  have hl : p - 1 < s.rows.length := by rw [h.lr]; omega
  have hr : s.rows.getD (p - 1) [] = s.rows[p - 1] := by simp [List.getD_eq_getElem?_getD, hl]
  have hlen := h.lw _ (List.getElem_mem hl)
  unfold gl firms
  rw [List.map_map]
  apply List.ext_getElem?
  intro k
  rw [List.getElem?_zipWith, List.getElem?_map, ints_getElem?, ints_getElem?]
  by_cases hk : k < s.m
  · have e1 : k < (s.rows.getD (p - 1) []).length := by rw [hr, hlen]; exact hk
    have e2 : k < q.length := by omega
    rw [List.getElem?_range hk, List.getElem?_eq_getElem e1, List.getElem?_eq_getElem e2]
    show some _ = some (gainAt s q p (k + 1))
    unfold gainAt worth priceOf
    rw [if_neg (by omega)]
    simp only [Nat.add_sub_cancel]
    rw [List.getD_eq_getElem?_getD (l := s.rows.getD (p - 1) []), List.getD_eq_getElem?_getD (l := q), List.getElem?_eq_getElem e1, List.getElem?_eq_getElem e2]
    rfl
  · rw [List.getElem?_eq_none (l := List.range s.m) (by simp; omega), List.getElem?_eq_none (l := q) (by omega)]
    cases (s.rows.getD (p - 1) [])[k]? <;> rfl
theorem bestGain_eq {s : State} (h : WF s) {q : List Nat} (hq : q.length = s.m) {p : Nat} (h1 : 1 ≤ p) (h2 : p ≤ s.n) : bestGain s q p = most (gl (Vbsgag.ints (s.rows.getD (p - 1) [])) (Vbsgag.ints q)) 0 := by
  rw [gl_firms h hq h1 h2]
  rfl
theorem bestGain_nonneg (s : State) (q : List Nat) (p : Nat) : 0 ≤ bestGain s q p := le_most _ _
theorem gain_le {s : State} {q : List Nat} {p i : Nat} (h : i = 0 ∨ i ∈ firms s) : gainAt s q p i ≤ bestGain s q p := by
  rcases h with h | h
  · rw [h]
    show (0 : Int) ≤ _
    exact bestGain_nonneg s q p
  · exact mem_le_most _ _ _ (List.mem_map.mpr ⟨i, h, rfl⟩)
def aboveS (s : State) (q : List Nat) (items : List Nat) : Int := (items.map fun i => (priceOf q i : Int) - (base s i : Int)).sum
def gainS (s : State) (q : List Nat) : List Nat → List Nat → Int
  | p :: ps, i :: a => gainAt s q p i + gainS s q ps a
  | _, _ => 0
theorem sum_perm {l l' : List Int} (h : l.Perm l') : l.sum = l'.sum := by
  induction h with
  | nil => rfl
  | cons x _ ih => rw [List.sum_cons, List.sum_cons, ih]
  | swap x y l => simp only [List.sum_cons]; omega
  | trans _ _ ih1 ih2 => rw [ih1, ih2]
theorem aboveS_erase (s : State) (q : List Nat) {items : List Nat} {i : Nat} (h : i ∈ items) : aboveS s q items = (priceOf q i : Int) - (base s i : Int) + aboveS s q (items.erase i) := by
  unfold aboveS
  rw [sum_perm ((List.perm_cons_erase h).map _), List.map_cons, List.sum_cons]
theorem net_split (s : State) (q : List Nat) (p i : Nat) (h : i ≠ 0) : net s p i = gainAt s q p i + ((priceOf q i : Int) - (base s i : Int)) := by
  unfold net gainAt
  rw [if_neg h]
  omega
theorem won_split (s : State) (q : List Nat) : ∀ (ps items : List Nat) {a : List Nat}, items.Nodup → 0 ∉ items → a ∈ assignments ps.length items →
    wonBy s ps a = gainS s q ps a + aboveS s q items - aboveS s q (items.filter fun i => !a.contains i)
  | [], items, a, _, _, h => by
    have : a = [] := by simpa [assignments] using h
    subst this
    have e : (items.filter fun i => !([] : List Nat).contains i) = items := by
      rw [List.filter_eq_self]
      intro i _
      rfl
    rw [e]
    show (0 : Int) = 0 + aboveS s q items - aboveS s q items
    omega
  | p :: ps, items, a, hn, h0, h => by
    rw [List.length_cons, assignments_succ, List.mem_append] at h
    rcases h with h | h
    · obtain ⟨i, hi, h⟩ := List.mem_flatMap.mp h
      obtain ⟨l, hl, rfl⟩ := List.mem_map.mp h
      have hi0 : i ≠ 0 := fun e => h0 (e ▸ hi)
      have ih := won_split s q ps (items.erase i) (hn.erase i) (fun e => h0 (List.mem_of_mem_erase e)) hl
      have e : (items.filter fun j => !(i :: l).contains j) = (items.erase i).filter fun j => !l.contains j := by
        rw [hn.erase_eq_filter, List.filter_filter]
        apply List.filter_congr
        intro j _
        rw [List.contains_cons, Bool.not_or, Bool.and_comm]
        congr 1
      rw [wonBy_cons, if_neg hi0, ih, e, aboveS_erase s q hi, net_split s q p i hi0]
      show _ = gainAt s q p i + gainS s q ps l + _ - _
      omega
    · obtain ⟨l, hl, rfl⟩ := List.mem_map.mp h
      have ih := won_split s q ps items hn h0 hl
      have e : (items.filter fun j => !(0 :: l).contains j) = items.filter fun j => !l.contains j := by
        apply List.filter_congr
        intro j hj
        have : j ≠ 0 := fun z => h0 (z ▸ hj)
        rw [List.contains_cons, beq_eq_false_iff_ne.mpr this, Bool.false_or]
      rw [wonBy_cons, if_pos rfl, ih, e]
      show _ = gainAt s q p 0 + gainS s q ps l + _ - _
      show _ = 0 + gainS s q ps l + _ - _
      omega
theorem sum_nonneg : ∀ {l : List Int}, (∀ x ∈ l, 0 ≤ x) → 0 ≤ l.sum
  | [], _ => Int.le_refl _
  | a :: l, h => by
    have h1 := h a List.mem_cons_self
    have h2 := sum_nonneg (l := l) fun x hx => h x (List.mem_cons_of_mem _ hx)
    rw [List.sum_cons]
    omega
theorem sum_zero : ∀ {l : List Int}, (∀ x ∈ l, 0 ≤ x) → l.sum ≤ 0 → ∀ x ∈ l, x = 0
  | [], _, _, x, hx => by cases hx
  | a :: l, h, hs, x, hx => by
    have h1 := h a List.mem_cons_self
    have h3 : ∀ x ∈ l, 0 ≤ x := fun x hx => h x (List.mem_cons_of_mem _ hx)
    have h2 := sum_nonneg h3
    rw [List.sum_cons] at hs
    rcases List.mem_cons.mp hx with e | e
    · omega
    · exact sum_zero h3 (by omega) x e
theorem gainS_le (s : State) (q : List Nat) : ∀ (ps a : List Nat), ps.length = a.length → (∀ i ∈ a, i = 0 ∨ i ∈ firms s) →
    gainS s q ps a ≤ (ps.map (bestGain s q)).sum ∧ ((ps.map (bestGain s q)).sum ≤ gainS s q ps a ↔ ∀ x ∈ ps.zip a, gainAt s q x.1 x.2 = bestGain s q x.1)
  | [], [], _, _ => ⟨Int.le_refl _, by simp [gainS]⟩
  | [], _ :: _, h, _ => by simp at h
  | _ :: _, [], h, _ => by simp at h
  | p :: ps, i :: a, h, ha => by
    obtain ⟨h1, h2⟩ := gainS_le s q ps a (by simpa using h) fun j hj => ha j (List.mem_cons_of_mem _ hj)
    have h3 := gain_le (q := q) (p := p) (ha i List.mem_cons_self)
    rw [List.map_cons, List.sum_cons, List.zip_cons_cons]
    show gainAt s q p i + gainS s q ps a ≤ _ ∧ (_ ≤ gainAt s q p i + gainS s q ps a ↔ _)
    refine ⟨by omega, ?_⟩
    constructor
    · intro hle x hx
      rcases List.mem_cons.mp hx with e | e
      · rw [e]
        show gainAt s q p i = bestGain s q p
        omega
      · exact h2.mp (by omega) x e
    · intro hx
      have e1 : gainAt s q p i = bestGain s q p := hx (p, i) List.mem_cons_self
      have e2 := h2.mpr fun x hx' => hx x (List.mem_cons_of_mem _ hx')
      omega
theorem all_mem {s : State} {a : List Nat} (h : a ∈ all s) : a.length = s.n ∧ ∀ i ∈ a, i = 0 ∨ i ∈ firms s := by
  obtain ⟨h1, h2, _⟩ := (mem_assignments s.n (firms s) a (firms_nodup s) (zero_firms s)).mp h
  exact ⟨h1, fun i hi => by
    by_cases e : i = 0
    · exact .inl e
    · exact .inr (h2 i hi e)⟩
theorem numbered_players {s : State} {a : List Nat} (h : a.length = s.n) : numbered a = (players s).zip a := by
  unfold numbered players
  rw [h]
theorem best_all (s : State) : best s ∈ all s := by
  have h := find_best s (players s) (firms s) (zero_firms s)
  rw [players_length] at h
  rw [best_eq]
  exact List.mem_of_find?_eq_some h
def compS (s : State) (q : List Nat) : Int := ((players s).map (bestGain s q)).sum + aboveS s q (firms s)
theorem competitive_iff (s : State) (q : List Nat) : competitive s q = true ↔ (∀ i ∈ firms s, base s i ≤ priceOf q i) ∧ compS s q = total s := by
  -- no assignment wins more
  have upper : (∀ i ∈ firms s, base s i ≤ priceOf q i) → ∀ a ∈ all s, wonBy s (players s) a ≤ compS s q ∧ (compS s q ≤ wonBy s (players s) a → bears s q a = true) := by
    intro hb a ha
    obtain ⟨hl, hm⟩ := all_mem ha
    have hs := won_split s q (players s) (firms s) (a := a) (firms_nodup s) (zero_firms s) (by rw [players_length]; exact ha)
    obtain ⟨g1, g2⟩ := gainS_le s q (players s) a (by rw [players_length, hl]) hm
    have hnn : ∀ x ∈ ((firms s).filter fun i => !a.contains i).map (fun i => (priceOf q i : Int) - (base s i : Int)), 0 ≤ x := by
      intro x hx
      obtain ⟨i, hi, rfl⟩ := List.mem_map.mp hx
      have := hb i (List.mem_filter.mp hi).1
      omega
    have h0 : 0 ≤ aboveS s q ((firms s).filter fun i => !a.contains i) := sum_nonneg hnn
    unfold compS
    refine ⟨by omega, fun hle => ?_⟩
    have e1 := g2.mp (by omega)
    have e2 : ∀ x ∈ ((firms s).filter fun i => !a.contains i).map (fun i => (priceOf q i : Int) - (base s i : Int)), x = 0 := sum_zero hnn (by
      show aboveS s q ((firms s).filter fun i => !a.contains i) ≤ 0
      omega)
    unfold bears
    rw [numbered_players hl, Bool.and_eq_true, List.all_eq_true, List.all_eq_true]
    refine ⟨fun x hx => by simpa using e1 x hx, fun i hi => ?_⟩
    rw [Bool.and_eq_true, Bool.or_eq_true]
    refine ⟨by simpa using hb i hi, ?_⟩
    cases hc : a.contains i with
    | true => exact .inl rfl
    | false =>
      have := e2 _ (List.mem_map.mpr ⟨i, List.mem_filter.mpr ⟨hi, by rw [hc]; rfl⟩, rfl⟩)
      exact .inr (by rw [beq_iff_eq]; omega)
  have hbest : wonBy s (players s) (best s) = total s := by
    rw [best_eq, wonBy_bestBy s _ _ (zero_firms s)]
    rfl
  constructor
  · intro h
    obtain ⟨a, ha, hbr⟩ := List.any_eq_true.mp h
    obtain ⟨hl, hm⟩ := all_mem ha
    unfold bears at hbr
    rw [numbered_players hl, Bool.and_eq_true, List.all_eq_true, List.all_eq_true] at hbr
    obtain ⟨b1, b2⟩ := hbr
    have hb : ∀ i ∈ firms s, base s i ≤ priceOf q i := fun i hi => by
      have := b2 i hi
      rw [Bool.and_eq_true] at this
      simpa using this.1
    refine ⟨hb, ?_⟩
    have hs := won_split s q (players s) (firms s) (a := a) (firms_nodup s) (zero_firms s) (by rw [players_length]; exact ha)
    obtain ⟨g1, g2⟩ := gainS_le s q (players s) a (by rw [players_length, hl]) hm
    have e1 := g2.mpr fun x hx => by simpa using b1 x hx
    have e2 : aboveS s q ((firms s).filter fun i => !a.contains i) = 0 := by
      unfold aboveS
      have : ((firms s).filter fun i => !a.contains i).map (fun i => (priceOf q i : Int) - (base s i : Int)) = ((firms s).filter fun i => !a.contains i).map fun _ => 0 := by
        apply List.map_congr_left
        intro i hi
        obtain ⟨f1, f2⟩ := List.mem_filter.mp hi
        have := b2 i f1
        rw [Bool.and_eq_true, Bool.or_eq_true] at this
        have f3 : a.contains i = false := by simpa using f2
        rcases this.2 with z | z
        · rw [f3] at z
          cases z
        · rw [beq_iff_eq] at z
          omega
      rw [this]
      generalize ((firms s).filter fun i => !a.contains i) = l
      induction l with
      | nil => rfl
      | cons x l ih => rw [List.map_cons, List.sum_cons, ih]; rfl
    have w1 : wonBy s (players s) a ≤ total s := wonBy_le s (players s) (firms s) (zero_firms s) (by rw [players_length]; exact ha)
    have w2 := (upper hb (best s) (best_all s)).1
    unfold compS at w2 ⊢
    omega
  · rintro ⟨hb, he⟩
    refine List.any_eq_true.mpr ⟨best s, best_all s, (upper hb (best s) (best_all s)).2 ?_⟩
    rw [hbest, he]
    exact Int.le_refl _
theorem gl_above {s : State} (h : WF s) {q : List Nat} (hq : q.length = s.m) : gl (Vbsgag.ints q) (Vbsgag.ints s.bases) = (firms s).map fun i => (priceOf q i : Int) - (base s i : Int) := by
  unfold gl firms
  rw [List.map_map]
  apply List.ext_getElem?
  intro k
  rw [List.getElem?_zipWith, List.getElem?_map, ints_getElem?, ints_getElem?]
  by_cases hk : k < s.m
  · have e1 : k < s.bases.length := by rw [h.lb]; exact hk
    have e2 : k < q.length := by omega
    rw [List.getElem?_range hk, List.getElem?_eq_getElem e1, List.getElem?_eq_getElem e2]
    show some _ = some ((priceOf q (k + 1) : Int) - (base s (k + 1) : Int))
    unfold priceOf base
    simp only [Nat.add_sub_cancel]
    rw [List.getD_eq_getElem?_getD, List.getD_eq_getElem?_getD, List.getElem?_eq_getElem e1, List.getElem?_eq_getElem e2]
    rfl
  · rw [List.getElem?_eq_none (l := List.range s.m) (by simp; omega), List.getElem?_eq_none (l := q) (by omega)]
    rfl
theorem rows_best {s : State} (h : WF s) {q : List Nat} (hq : q.length = s.m) : (s.rows.map fun row => most (gl (Vbsgag.ints row) (Vbsgag.ints q)) 0) = (players s).map (bestGain s q) := by
  unfold players
  rw [List.map_map]
  apply List.ext_getElem?
  intro k
  rw [List.getElem?_map, List.getElem?_map]
  by_cases hk : k < s.n
  · have hl : k < s.rows.length := by rw [h.lr]; exact hk
    rw [List.getElem?_range hk, List.getElem?_eq_getElem hl]
    show some _ = some (bestGain s q (k + 1))
    rw [bestGain_eq h hq (by omega) (by omega), Nat.add_sub_cancel]
    simp [List.getD_eq_getElem?_getD, hl]
  · rw [List.getElem?_eq_none (l := s.rows) (by rw [h.lr]; omega), List.getElem?_eq_none (l := List.range s.n) (by simp; omega)]
    rfl
theorem competitive_eq {s : State} (h : WF s) {q : List Nat} (hq : q.length = s.m) :
    competitive s q = ((gl (Vbsgag.ints q) (Vbsgag.ints s.bases)).all (fun x => decide (0 ≤ x)) && decide ((s.rows.map fun row => most (gl (Vbsgag.ints row) (Vbsgag.ints q)) 0).sum + (gl (Vbsgag.ints q) (Vbsgag.ints s.bases)).sum = total s)) := by
  rw [rows_best h hq, gl_above h hq]
  have hi := competitive_iff s q
  have hr : (((firms s).map fun i => (priceOf q i : Int) - (base s i : Int)).all (fun x => decide (0 ≤ x)) && decide (((players s).map (bestGain s q)).sum + ((firms s).map fun i => (priceOf q i : Int) - (base s i : Int)).sum = total s)) = true ↔ (∀ i ∈ firms s, base s i ≤ priceOf q i) ∧ compS s q = total s := by
    rw [Bool.and_eq_true, List.all_eq_true, decide_eq_true_eq]
    constructor
    · rintro ⟨a, b⟩
      refine ⟨fun i hi => ?_, b⟩
      have := a _ (List.mem_map.mpr ⟨i, hi, rfl⟩)
      have := of_decide_eq_true this
      omega
    · rintro ⟨a, b⟩
      refine ⟨fun x hx => ?_, b⟩
      obtain ⟨i, hi, rfl⟩ := List.mem_map.mp hx
      have := a i hi
      exact decide_eq_true (by omega)
  cases hc : competitive s q with
  | true => exact (hr.mpr (hi.mp hc)).symm
  | false =>
    symm
    apply Bool.eq_false_iff.mpr
    intro z
    rw [hi.mpr (hr.mp z)] at hc
    cases hc
end TW

end

section
set_option Elab.async false
set_option linter.unusedVariables false
namespace TW
open Vbsgag

def demL (g : List Int) : List Nat := ((List.range g.length).filter fun j => decide (g.getD j 0 = most g 0)).map fun j => j + 1
theorem demand_eq {s : State} (h : WF s) {q : List Nat} (hq : q.length = s.m) {p : Nat} (h1 : 1 ≤ p) (h2 : p ≤ s.n) : demand s q p = demL (gl (Vbsgag.ints (s.rows.getD (p - 1) [])) (Vbsgag.ints q)) := by
  have hg := gl_firms h hq h1 h2
  have hb := bestGain_eq h hq h1 h2
  unfold demand demL
  rw [← hb, hg, List.length_map, firms_length]
  conv => lhs; unfold firms
  rw [filter_map']
  congr 1
  apply List.filter_congr
  intro j hj
  have hj := List.mem_range.mp hj
  have e : ((firms s).map (gainAt s q p)).getD j 0 = gainAt s q p (j + 1) := by
    unfold firms
    rw [List.map_map, getD_map_range _ _ _ _ hj]
    rfl
  rw [e]
  by_cases c : gainAt s q p (j + 1) = bestGain s q p
  · rw [decide_eq_true c, c]; simp
  · rw [decide_eq_false c]; simp [c]
def demTo (g : List Int) (top : Int) (k : Nat) : List Nat := ((List.range k).filter fun j => decide (g.getD j 0 = top)).map fun j => j + 1
theorem demTo_succ (g : List Int) (top : Int) (k : Nat) : demTo g top (k + 1) = demTo g top k ++ (if g.getD k 0 = top then [k + 1] else []) := by
  unfold demTo
  rw [List.range_succ, List.filter_append, List.map_append, List.filter_cons, List.filter_nil]
  by_cases c : g.getD k 0 = top
  · rw [if_pos c, if_pos (decide_eq_true c)]; rfl
  · rw [if_neg c, if_neg (by simpa using c)]; rfl
theorem demTo_all (g : List Int) : demTo g (most g 0) g.length = demL g := rfl
theorem demTo_len (g : List Int) (top : Int) (k : Nat) : (demTo g top k).length ≤ k := by
  unfold demTo
  rw [List.length_map]
  have := List.length_filter_le (fun j => decide (g.getD j 0 = top)) (List.range k)
  rw [List.length_range] at this
  exact this
theorem demL_pos (g : List Int) : ∀ i ∈ demL g, 1 ≤ i ∧ i ≤ g.length := fun i hi => by
  obtain ⟨j, hj, rfl⟩ := List.mem_map.mp hi
  have := List.mem_range.mp (List.mem_filter.mp hj).1
  omega
theorem most_unique {l : List Int} {m : Int} (h1 : m ∈ (0 : Int) :: l) (h2 : ∀ x ∈ (0 : Int) :: l, x ≤ m) : m = most l 0 := by
  apply Int.le_antisymm
  · rcases List.mem_cons.mp h1 with e | e
    · rw [e]; exact le_most _ _
    · exact mem_le_most _ _ _ e
  · exact most_le _ _ _ (h2 0 List.mem_cons_self) fun x hx => h2 x (List.mem_cons_of_mem _ hx)
def setOf (l : List Nat) : Nat := (l.map fun i => 2 ^ (i - 1)).sum
theorem add_bit {x i : Nat} (h : x.testBit i = false) (j : Nat) : (2 ^ i + x).testBit j = (x.testBit j || decide (i = j)) := by
  have e := xor_add_and x (2 ^ i)
  have e2 : x &&& 2 ^ i = 0 := by
    apply Nat.eq_of_testBit_eq
    intro k
    rw [Nat.testBit_and, Nat.testBit_two_pow, Nat.zero_testBit]
    by_cases hk : i = k
    · subst hk; simp [h]
    · simp [hk]
  rw [e2] at e
  rw [show 2 ^ i + x = x ^^^ 2 ^ i by omega, Nat.testBit_xor, Nat.testBit_two_pow]
  by_cases hk : i = j
  · subst hk; simp [h]
  · simp [hk]
theorem setOf_bit : ∀ (l : List Nat), l.Nodup → (∀ i ∈ l, 1 ≤ i) → ∀ j, (setOf l).testBit j = l.contains (j + 1)
  | [], _, _, j => by simp [setOf]
  | i :: l, hn, hp, j => by
    obtain ⟨h1, h2⟩ := List.nodup_cons.mp hn
    have hi := hp i List.mem_cons_self
    have ih := setOf_bit l h2 fun k hk => hp k (List.mem_cons_of_mem _ hk)
    have hb : (setOf l).testBit (i - 1) = false := by
      rw [ih, show i - 1 + 1 = i by omega]
      simpa using h1
    show (2 ^ (i - 1) + setOf l).testBit j = _
    rw [add_bit hb, ih, List.contains_cons, Bool.or_comm]
    congr 1
    by_cases e : i - 1 = j
    · have : j + 1 = i := by omega
      simp [e, this]
    · have : ¬ j + 1 = i := by omega
      simp [e, this]
theorem set_sub {a b : List Nat} (ha : a.Nodup) (hb : b.Nodup) (pa : ∀ i ∈ a, 1 ≤ i) (pb : ∀ i ∈ b, 1 ≤ i) : (setOf a &&& setOf b = setOf a) ↔ a.all b.contains = true := by
  rw [List.all_eq_true]
  constructor
  · intro h i hi
    have h1 := congrArg (fun x => x.testBit (i - 1)) h
    simp only [Nat.testBit_and, setOf_bit a ha pa, setOf_bit b hb pb] at h1
    have hp := pa i hi
    rw [show i - 1 + 1 = i by omega] at h1
    have h2 : a.contains i = true := by simpa using hi
    rw [h2, Bool.true_and] at h1
    exact h1
  · intro h
    apply Nat.eq_of_testBit_eq
    intro j
    rw [Nat.testBit_and, setOf_bit a ha pa, setOf_bit b hb pb]
    cases e : a.contains (j + 1) with
    | false => rfl
    | true => rw [h (j + 1) (by simpa using e)]; rfl
def wantedL (rows : List (List Int)) (ps : List Int) : List Nat := ((rows.map fun r => gl r ps).filter fun g => decide (0 < most g 0)).map fun g => setOf (demL g)
theorem wanted_eq {s : State} (h : WF s) {q : List Nat} (hq : q.length = s.m) : wantedL (s.rows.map Vbsgag.ints) (Vbsgag.ints q) = ((players s).filter fun p => decide (0 < bestGain s q p)).map fun p => setOf (demand s q p) := by
  have e : (s.rows.map Vbsgag.ints).map (fun r => gl r (Vbsgag.ints q)) = (players s).map fun p => gl (Vbsgag.ints (s.rows.getD (p - 1) [])) (Vbsgag.ints q) := by
    unfold players
    rw [List.map_map, List.map_map]
    apply List.ext_getElem?
    intro k
    rw [List.getElem?_map, List.getElem?_map]
    by_cases hk : k < s.n
    · have hl : k < s.rows.length := by rw [h.lr]; exact hk
      rw [List.getElem?_range hk, List.getElem?_eq_getElem hl]
      simp [List.getD_eq_getElem?_getD, hl]
    · rw [List.getElem?_eq_none (l := s.rows) (by rw [h.lr]; omega), List.getElem?_eq_none (l := List.range s.n) (by simp; omega)]
      rfl
  unfold wantedL
  rw [e, filter_map', List.map_map]
  have e2 : ((players s).filter fun p => decide (0 < most (gl (Vbsgag.ints (s.rows.getD (p - 1) [])) (Vbsgag.ints q)) 0)) = (players s).filter fun p => decide (0 < bestGain s q p) := by
    apply List.filter_congr
    intro p hp
    obtain ⟨h1, h2⟩ := mem_players.mp hp
    rw [bestGain_eq h hq h1 h2]
  rw [e2]
  apply List.map_congr_left
  intro p hp
  obtain ⟨h1, h2⟩ := mem_players.mp (List.mem_filter.mp hp).1
  show setOf (demL _) = _
  rw [demand_eq h hq h1 h2]
def intoN (wanted : List Nat) (l : List Nat) : Nat := (wanted.filter fun f => decide (f &&& setOf l = f)).length
theorem choose_sub : ∀ (k : Nat) (items : List Nat) {l : List Nat}, l ∈ choose k items → l.Sublist items
  | 0, items, l, h => by
    have : l = [] := by cases items <;> simpa [choose] using h
    rw [this]; exact List.nil_sublist _
  | k + 1, [], l, h => by simp [choose] at h
  | k + 1, i :: r, l, h => by
    unfold choose at h
    rcases List.mem_append.mp h with h | h
    · obtain ⟨q, hq, rfl⟩ := List.mem_map.mp h
      exact (choose_sub k r hq).cons_cons i
    · exact (choose_sub (k + 1) r h).cons i
theorem subsets_mem {s : State} {l : List Nat} (h : l ∈ subsets s) : l.Nodup ∧ (∀ i ∈ l, 1 ≤ i ∧ i ≤ s.m) ∧ l ≠ [] := by
  obtain ⟨k, hk, h⟩ := List.mem_flatMap.mp h
  have hs := choose_sub k _ h
  have hl := choose_len k _ h
  refine ⟨hs.nodup (firms_nodup s), fun i hi => mem_firms.mp (hs.subset hi), fun e => ?_⟩
  have := (mem_firms.mp hk).1
  rw [e] at hl
  simp at hl
  omega
theorem demand_pos {s : State} {q : List Nat} {p : Nat} : (demand s q p).Nodup ∧ ∀ i ∈ demand s q p, 1 ≤ i :=
  ⟨List.Pairwise.filter _ (firms_nodup s), fun i hi => (mem_firms.mp (List.mem_filter.mp hi).1).1⟩
theorem into_eq {s : State} (h : WF s) {q : List Nat} (hq : q.length = s.m) {l : List Nat} (hl : l ∈ subsets s) : intoN (wantedL (s.rows.map Vbsgag.ints) (Vbsgag.ints q)) l = (wanting s q l).length := by
  obtain ⟨h1, h2, _⟩ := subsets_mem hl
  unfold intoN
  rw [wanted_eq h hq, filter_map', List.length_map, List.filter_filter]
  unfold wanting
  congr 1
  apply List.filter_congr
  intro p hp
  rw [Bool.and_comm]
  congr 1
  have hd := demand_pos (s := s) (q := q) (p := p)
  have hs := set_sub hd.1 h1 hd.2 fun i hi => (h2 i hi).1
  by_cases c : setOf (demand s q p) &&& setOf l = setOf (demand s q p)
  · rw [decide_eq_true c, hs.mp c]
  · rw [decide_eq_false c]
    symm
    exact Bool.eq_false_iff.mpr fun z => c (hs.mpr z)
def firstOver (wanted : List Nat) (lists : List (List Nat)) : List Nat := (lists.find? fun l => decide (l.length < intoN wanted l)).getD []
theorem over_eq {s : State} (h : WF s) {q : List Nat} (hq : q.length = s.m) : (over s q).getD [] = firstOver (wantedL (s.rows.map Vbsgag.ints) (Vbsgag.ints q)) (subsets s) := by
  unfold over firstOver
  congr 1
  apply find_congr
  intro l hl
  rw [into_eq h hq hl]
theorem firstOver_mem {s : State} {wanted : List Nat} (h : firstOver wanted (subsets s) ≠ []) : firstOver wanted (subsets s) ∈ subsets s := by
  unfold firstOver at h ⊢
  cases e : (subsets s).find? fun l => decide (l.length < intoN wanted l) with
  | none => rw [e] at h; exact absurd rfl h
  | some l => exact List.mem_of_find?_eq_some e
theorem firstOver_nil (lists : List (List Nat)) : firstOver [] lists = [] := by
  unfold firstOver
  have : lists.find? (fun l => decide (l.length < intoN [] l)) = none := by
    rw [List.find?_eq_none]
    intro l _
    simp [intoN]
  rw [this]
  rfl
def bump (q : List Nat) (i : Nat) : List Nat := q.set (i - 1) (q.getD (i - 1) 0 + 1)
theorem bump_at (q : List Nat) (i : Nat) (hi : 1 ≤ i) (k : Nat) : (bump q i)[k]? = (q[k]?).map fun v => if k + 1 = i then v + 1 else v := by
  unfold bump
  by_cases e : i - 1 = k
  · have e2 : k + 1 = i := by omega
    by_cases hk : k < q.length
    · rw [e, List.getElem?_set_self hk, List.getD_eq_getElem?_getD, List.getElem?_eq_getElem hk]
      simp [e2]
    · rw [List.getElem?_eq_none (by rw [List.length_set]; omega), List.getElem?_eq_none (by omega)]
      rfl
  · rw [List.getElem?_set_ne e]
    have e2 : ¬ k + 1 = i := by omega
    cases q[k]? <;> simp [e2]
theorem bumps_at : ∀ (l q : List Nat), l.Nodup → (∀ i ∈ l, 1 ≤ i) → ∀ k, (l.foldl bump q)[k]? = (q[k]?).map fun v => if l.contains (k + 1) = true then v + 1 else v
  | [], q, _, _, k => by
    show q[k]? = _
    cases q[k]? <;> rfl
  | i :: l, q, hn, hp, k => by
    obtain ⟨h1, h2⟩ := List.nodup_cons.mp hn
    have hi := hp i List.mem_cons_self
    rw [List.foldl_cons, bumps_at l (bump q i) h2 (fun j hj => hp j (List.mem_cons_of_mem _ hj)) k, bump_at q i hi]
    cases q[k]? with
    | none => rfl
    | some v =>
      show some _ = some _
      congr 1
      dsimp only
      by_cases e : k + 1 = i
      · have hc : l.contains (k + 1) = false := by rw [e]; simpa using h1
        rw [if_pos e, hc]
        simp [e]
      · rw [if_neg e]
        have hx : ((i :: l).contains (k + 1)) = l.contains (k + 1) := by
          rw [List.contains_cons, beq_eq_false_iff_ne.mpr e, Bool.false_or]
        rw [hx]
theorem bumps_len : ∀ (l q : List Nat), (l.foldl bump q).length = q.length
  | [], q => rfl
  | i :: l, q => by rw [List.foldl_cons, bumps_len l]; simp [bump]
theorem raised_eq {s : State} {q l : List Nat} (hq : q.length = s.m) (hn : l.Nodup) (hp : ∀ i ∈ l, 1 ≤ i) : raised s q l = l.foldl bump q := by
  apply List.ext_getElem?
  intro k
  rw [bumps_at l q hn hp k]
  unfold raised firms
  rw [List.map_map, List.getElem?_map]
  by_cases hk : k < s.m
  · have hl : k < q.length := by omega
    rw [List.getElem?_range hk, List.getElem?_eq_getElem hl]
    show some _ = some _
    simp only [Function.comp, priceOf, Nat.add_sub_cancel]
    simp [List.getD_eq_getElem?_getD, hl]
  · rw [List.getElem?_eq_none (l := List.range s.m) (by simp; omega), List.getElem?_eq_none (l := q) (by omega)]
    rfl
theorem over_none {s : State} {q : List Nat} (h : (over s q).getD [] = []) : over s q = none := by
  cases e : over s q with
  | none => rfl
  | some l =>
    rw [e] at h
    have hm := List.mem_of_find?_eq_some (show (subsets s).find? _ = some l from e)
    exact absurd h (subsets_mem hm).2.2
theorem ticks_stop {s : State} {q : List Nat} (k : Nat) (h : (over s q).getD [] = []) : ticks s k q = (0, q) := by
  cases k with
  | zero => rfl
  | succ k =>
    unfold ticks
    rw [over_none h]
theorem ticks_go {s : State} {q : List Nat} (k : Nat) (h : (over s q).getD [] ≠ []) : ticks s (k + 1) q = ((ticks s k (raised s q ((over s q).getD []))).1 + 1, (ticks s k (raised s q ((over s q).getD []))).2) := by
  conv => lhs; unfold ticks
  cases e : over s q with
  | none => rw [e] at h; exact absurd rfl h
  | some l => rfl
def powL : Nat → List (List Nat)
  | 0 => [[]]
  | k + 1 => powL k ++ (powL k).map fun l => l ++ [k + 1]
theorem powL_len : ∀ k, (powL k).length = 2 ^ k
  | 0 => rfl
  | k + 1 => by
    show (powL k ++ (powL k).map fun l => l ++ [k + 1]).length = _
    rw [List.length_append, List.length_map, powL_len k, Nat.pow_succ]
    omega
def subM (m : Nat) : List (List Nat) := ((List.range m).map fun i => i + 1).flatMap fun k => choose k ((List.range m).map fun i => i + 1)
theorem subsets_eq (s : State) : subsets s = subM s.m := rfl
end TW

end

section
set_option Elab.async false
set_option linter.unusedVariables false
namespace TW
open Vbsgag

inductive Kd where
  | players | firms | rounds | player | firm | amount | amounts | asg
  deriving DecidableEq
def Kd.isL : Kd → Bool
  | .amounts => true
  | .asg => true
  | _ => false
inductive Ag where
  | n (x : Int)
  | l (xs : List Int)
def takeArg (k : Kd) : List Int → Option (Ag × List Int)
  | [] => none
  | x :: r => if k.isL = true then (if 0 ≤ x ∧ x.toNat ≤ r.length then some (.l (r.take x.toNat), r.drop x.toNat) else none) else some (.n x, r)
def takeArgs : List Kd → List Int → Option (List Ag × List Int)
  | [], r => some ([], r)
  | k :: ks, r => match takeArg k r with
    | none => none
    | some (a, r1) => match takeArgs ks r1 with
      | none => none
      | some (as, r2) => some (a :: as, r2)
theorem takeArgs_cons {k : Kd} {ks : List Kd} {r t : List Int} {as : List Ag} (h : takeArgs (k :: ks) r = some (as, t)) : ∃ a r1 as', takeArg k r = some (a, r1) ∧ takeArgs ks r1 = some (as', t) ∧ as = a :: as' := by
  unfold takeArgs at h
  cases e : takeArg k r with
  | none => rw [e] at h; cases h
  | some x =>
    obtain ⟨a, r1⟩ := x
    rw [e] at h
    dsimp only at h
    cases e2 : takeArgs ks r1 with
    | none => rw [e2] at h; cases h
    | some y =>
      obtain ⟨as', t'⟩ := y
      rw [e2] at h
      simp only [Option.some.injEq, Prod.mk.injEq] at h
      obtain ⟨h1, h2⟩ := h
      subst h1 h2
      exact ⟨a, r1, as', rfl, e2, rfl⟩
theorem takeArgs_len : ∀ {ks : List Kd} {r t : List Int} {as : List Ag}, takeArgs ks r = some (as, t) → as.length = ks.length ∧ t.length ≤ r.length
  | [], r, t, as, h => by
    unfold takeArgs at h
    simp only [Option.some.injEq, Prod.mk.injEq] at h
    rw [← h.1, ← h.2]
    exact ⟨rfl, Nat.le_refl _⟩
  | k :: ks, r, t, as, h => by
    obtain ⟨a, r1, as', h1, h2, rfl⟩ := takeArgs_cons h
    obtain ⟨h3, h4⟩ := takeArgs_len h2
    refine ⟨by simp [h3], Nat.le_trans h4 ?_⟩
    unfold takeArg at h1
    cases r with
    | nil => cases h1
    | cons x r =>
      dsimp only at h1
      by_cases c : k.isL = true
      · rw [if_pos c] at h1
        by_cases c2 : 0 ≤ x ∧ x.toNat ≤ r.length
        · rw [if_pos c2] at h1
          simp only [Option.some.injEq, Prod.mk.injEq] at h1
          rw [← h1.2, List.length_drop, List.length_cons]
          omega
        · rw [if_neg c2] at h1
          cases h1
      · rw [if_neg c] at h1
        simp only [Option.some.injEq, Prod.mk.injEq] at h1
        rw [← h1.2, List.length_cons]
        omega
def rightK (s : State) : Kd → Ag → Bool
  | .players, .n x => between 1 x 5
  | .firms, .n x => between 1 x 6
  | .rounds, .n x => between 1 x 1000
  | .player, .n x => isPlayer s x
  | .firm, .n x => isFirm s x
  | .amount, .n x => isMoney x
  | .amounts, .l xs => areMoney s xs
  | .asg, .l xs => asgOk s xs
  | _, _ => false
def refOf : Kd → Int
  | .player => -1
  | .firm => -1
  | .asg => -3
  | _ => -2
def kindsT : List (List Kd) := [[.players, .firms], [.firm, .amount], [.player, .firm, .amount], [.player, .amounts], [.player], [], [], [.asg], [], [], [], [.amounts], [.player, .amounts], [.amounts], [], [.rounds], [], [.player], [.player, .amounts], [.player], []]
def kindsN (p : Int) : List Kd := kindsT.getD p.toNat []
def nums : List Ag → List Int
  | [] => []
  | .n x :: r => x :: nums r
  | .l _ :: r => nums r
def lsts : List Ag → List (List Int)
  | [] => []
  | .n _ :: r => lsts r
  | .l xs :: r => xs :: lsts r
def callRow (p : Int) (as : List Ag) : List (List Int) := (p :: nums as) :: lsts as
theorem kinds_len (p : Int) : (kindsN p).length ≤ 3 := by
  unfold kindsN
  have : ∀ l ∈ kindsT, l.length ≤ 3 := by decide
  rw [List.getD_eq_getElem?_getD]
  cases e : kindsT[p.toNat]? with
  | none => exact Nat.zero_le _
  | some l => exact this l (List.mem_of_getElem? e)
theorem takeL {r2 : List Int} {k : Nat} (kd : Kd) (hk : kd.isL = true) (h : k ≤ r2.length) : takeArg kd ((k : Int) :: r2) = some (.l (r2.take k), r2.drop k) := by
  unfold takeArg
  simp only [hk, if_true]
  rw [if_pos ⟨by omega, by rw [Int.toNat_natCast]; exact h⟩, Int.toNat_natCast]
theorem cases21 {p : Int} (h0 : 0 ≤ p) (h20 : p ≤ 20) : p = 0 ∨ p = 1 ∨ p = 2 ∨ p = 3 ∨ p = 4 ∨ p = 5 ∨ p = 6 ∨ p = 7 ∨ p = 8 ∨ p = 9 ∨ p = 10 ∨ p = 11 ∨ p = 12 ∨ p = 13 ∨ p = 14 ∨ p = 15 ∨ p = 16 ∨ p = 17 ∨ p = 18 ∨ p = 19 ∨ p = 20 := by omega
section
variable {p : Int} {r t : List Int} {c : List (List Int)}
theorem args0 (h : PyFlat.call PyVbsgag.shape (p :: r) = some (c, t)) (hs : PyVbsgag.shape p = some (0, 0)) (hk : kindsN p = []) : ∃ as, takeArgs (kindsN p) r = some (as, t) ∧ c = callRow p as := by
  obtain ⟨_, e1, e2⟩ := call_plain (n := 0) h hs
  rw [List.drop_zero] at e2
  rw [hk]
  exact ⟨[], by rw [e2]; rfl, e1⟩
theorem args1 {a : Kd} (h : PyFlat.call PyVbsgag.shape (p :: r) = some (c, t)) (hs : PyVbsgag.shape p = some (1, 0)) (hk : kindsN p = [a]) (ha : a.isL = false) : ∃ as, takeArgs (kindsN p) r = some (as, t) ∧ c = callRow p as := by
  obtain ⟨e0, e1, e2⟩ := call_plain (n := 1) h hs
  match r, e0, e1, e2 with
  | x :: r', _, e1, e2 =>
    rw [hk]
    exact ⟨[.n x], by rw [e2]; simp [takeArgs, takeArg, ha], e1⟩
theorem args2 {a b : Kd} (h : PyFlat.call PyVbsgag.shape (p :: r) = some (c, t)) (hs : PyVbsgag.shape p = some (2, 0)) (hk : kindsN p = [a, b]) (ha : a.isL = false) (hb : b.isL = false) : ∃ as, takeArgs (kindsN p) r = some (as, t) ∧ c = callRow p as := by
  obtain ⟨e0, e1, e2⟩ := call_plain (n := 2) h hs
  match r, e0, e1, e2 with
  | x :: y :: r', _, e1, e2 =>
    rw [hk]
    exact ⟨[.n x, .n y], by rw [e2]; simp [takeArgs, takeArg, ha, hb], e1⟩
theorem args3 {a b d : Kd} (h : PyFlat.call PyVbsgag.shape (p :: r) = some (c, t)) (hs : PyVbsgag.shape p = some (3, 0)) (hk : kindsN p = [a, b, d]) (ha : a.isL = false) (hb : b.isL = false) (hd : d.isL = false) : ∃ as, takeArgs (kindsN p) r = some (as, t) ∧ c = callRow p as := by
  obtain ⟨e0, e1, e2⟩ := call_plain (n := 3) h hs
  match r, e0, e1, e2 with
  | x :: y :: z :: r', _, e1, e2 =>
    rw [hk]
    exact ⟨[.n x, .n y, .n z], by rw [e2]; simp [takeArgs, takeArg, ha, hb, hd], e1⟩
theorem argsL {a : Kd} (h : PyFlat.call PyVbsgag.shape (p :: r) = some (c, t)) (hs : PyVbsgag.shape p = some (0, 1)) (hk : kindsN p = [a]) (ha : a.isL = true) : ∃ as, takeArgs (kindsN p) r = some (as, t) ∧ c = callRow p as := by
  obtain ⟨_, k, r2, e1, e2, e3, e4⟩ := call_list (n := 0) h hs
  rw [List.drop_zero] at e1
  rw [hk, e1]
  exact ⟨[.l (r2.take k)], by rw [e4]; simp only [takeArgs, takeL a ha e2], e3⟩
theorem argsPL {a b : Kd} (h : PyFlat.call PyVbsgag.shape (p :: r) = some (c, t)) (hs : PyVbsgag.shape p = some (1, 1)) (hk : kindsN p = [a, b]) (ha : a.isL = false) (hb : b.isL = true) : ∃ as, takeArgs (kindsN p) r = some (as, t) ∧ c = callRow p as := by
  obtain ⟨e0, k, r2, e1, e2, e3, e4⟩ := call_list (n := 1) h hs
  match r, e0, e1, e3 with
  | x :: r', _, e1, e3 =>
    have e1 : r' = (k : Int) :: r2 := e1
    rw [hk, e1]
    have ex : takeArg a (x :: (k : Int) :: r2) = some (.n x, (k : Int) :: r2) := by simp [takeArg, ha]
    exact ⟨[.n x, .l (r2.take k)], by rw [e4]; simp only [takeArgs, ex, takeL b hb e2], e3⟩
theorem call_args (h : PyFlat.call PyVbsgag.shape (p :: r) = some (c, t)) : ∃ as, takeArgs (kindsN p) r = some (as, t) ∧ c = callRow p as := by
  obtain ⟨n, k, hs⟩ := call_shape h
  obtain ⟨h0, h20⟩ := shape_cases hs
  rcases cases21 h0 h20 with e | e | e | e | e | e | e | e | e | e | e | e | e | e | e | e | e | e | e | e | e <;> subst e
  · exact args2 h rfl rfl rfl rfl
  · exact args2 h rfl rfl rfl rfl
  · exact args3 h rfl rfl rfl rfl rfl
  · exact argsPL h rfl rfl rfl rfl
  · exact args1 h rfl rfl rfl
  · exact args0 h rfl rfl
  · exact args0 h rfl rfl
  · exact argsL h rfl rfl rfl
  · exact args0 h rfl rfl
  · exact args0 h rfl rfl
  · exact args0 h rfl rfl
  · exact argsL h rfl rfl rfl
  · exact argsPL h rfl rfl rfl rfl
  · exact argsL h rfl rfl rfl
  · exact args0 h rfl rfl
  · exact args1 h rfl rfl rfl
  · exact args0 h rfl rfl
  · exact args1 h rfl rfl rfl
  · exact argsPL h rfl rfl rfl rfl
  · exact args1 h rfl rfl rfl
  · exact args0 h rfl rfl
end
def fitsK : Kd → Ag → Bool
  | k, .n _ => !k.isL
  | k, .l _ => k.isL
theorem takeArg_fits {k : Kd} {r t : List Int} {a : Ag} (h : takeArg k r = some (a, t)) : fitsK k a = true := by
  unfold takeArg at h
  cases r with
  | nil => cases h
  | cons x r =>
    dsimp only at h
    by_cases c : k.isL = true
    · rw [if_pos c] at h
      by_cases c2 : 0 ≤ x ∧ x.toNat ≤ r.length
      · rw [if_pos c2] at h
        simp only [Option.some.injEq, Prod.mk.injEq] at h
        rw [← h.1]
        exact c
      · rw [if_neg c2] at h
        cases h
    · rw [if_neg c] at h
      simp only [Option.some.injEq, Prod.mk.injEq] at h
      rw [← h.1]
      show (!k.isL) = true
      simp [c]
inductive Fits : List Kd → List Ag → Prop
  | nil : Fits [] []
  | cons {k : Kd} {a : Ag} {ks : List Kd} {as : List Ag} : fitsK k a = true → Fits ks as → Fits (k :: ks) (a :: as)
theorem takeArgs_fits : ∀ {ks : List Kd} {r t : List Int} {as : List Ag}, takeArgs ks r = some (as, t) → Fits ks as
  | [], r, t, as, h => by
    unfold takeArgs at h
    simp only [Option.some.injEq, Prod.mk.injEq] at h
    rw [← h.1]
    exact .nil
  | k :: ks, r, t, as, h => by
    obtain ⟨a, r1, as', h1, h2, rfl⟩ := takeArgs_cons h
    exact .cons (takeArg_fits h1) (takeArgs_fits h2)
def wrongs (s : State) (ks : List Kd) (as : List Ag) : List Kd := ((ks.zip as).filter fun x => !rightK s x.1 x.2).map fun x => x.1
theorem wrongs_cons (s : State) (k : Kd) (ks : List Kd) (a : Ag) (as : List Ag) : wrongs s (k :: ks) (a :: as) = (if rightK s k a = true then [] else [k]) ++ wrongs s ks as := by
  unfold wrongs
  rw [List.zip_cons_cons, List.filter_cons]
  cases rightK s k a <;> simp
theorem wrongs_nil (s : State) (as : List Ag) : wrongs s [] as = [] := rfl
def IsRef (ks : List Kd) (m : Int) : Prop := m ∈ ks.map refOf ∧ ∀ x ∈ ks.map refOf, x ≤ m
section
variable {s : State} {m : Int}
end
theorem step_wrong {s : State} {p : Int} {as : List Ag} {m : Int} (h0 : 0 ≤ p) (h20 : p ≤ 20) (hf : Fits (kindsN p) as) (hw : wrongs s (kindsN p) as ≠ []) (hm : IsRef (wrongs s (kindsN p) as) m) : VbsgagNeutral.step s (callRow p as) = (s, [m]) := by
  rcases cases21 h0 h20 with e | e | e | e | e | e | e | e | e | e | e | e | e | e | e | e | e | e | e | e | e <;> subst e
  · match as, hf with
    | [.n x, .n y], _ =>
      show (if (between 1 x 5 && between 1 y 6) = false then (s, [-2]) else (fresh x.toNat y.toNat, [0])) = _
      change wrongs s [.players, .firms] _ ≠ [] at hw
      change IsRef (wrongs s [.players, .firms] _) m at hm
      rw [wrongs_cons, wrongs_cons, wrongs_nil] at hw hm
      simp only [rightK] at hw hm
      cases h1 : between 1 x 5 <;> cases h2 : between 1 y 6 <;> simp [h1, h2, IsRef, refOf] at hw hm ⊢ <;> omega
    | [.l x, _], .cons h _ => cases h
    | [.n _, .l x], .cons _ (.cons h _) => cases h
  · match as, hf with
    | [.n x, .n y], _ =>
      show asked s [(isFirm s x, -1), (isMoney y, -2)] _ = _
      change wrongs s [.firm, .amount] _ ≠ [] at hw
      change IsRef (wrongs s [.firm, .amount] _) m at hm
      rw [wrongs_cons, wrongs_cons, wrongs_nil] at hw hm
      simp only [rightK] at hw hm
      cases h1 : isFirm s x <;> cases h2 : isMoney y <;> simp [h1, h2, IsRef, refOf, asked] at hw hm ⊢ <;> omega
    | [.l x, _], .cons h _ => cases h
    | [.n _, .l x], .cons _ (.cons h _) => cases h
  · match as, hf with
    | [.n x, .n y, .n z], _ =>
      show asked s [(isPlayer s x && isFirm s y, -1), (isMoney z, -2)] _ = _
      change wrongs s [.player, .firm, .amount] _ ≠ [] at hw
      change IsRef (wrongs s [.player, .firm, .amount] _) m at hm
      rw [wrongs_cons, wrongs_cons, wrongs_cons, wrongs_nil] at hw hm
      simp only [rightK] at hw hm
      cases h1 : isPlayer s x <;> cases h2 : isFirm s y <;> cases h3 : isMoney z <;> simp [h1, h2, h3, IsRef, refOf, asked] at hw hm ⊢ <;> omega
    | [.l x, _, _], .cons h _ => cases h
    | [.n _, .l x, _], .cons _ (.cons h _) => cases h
    | [.n _, .n _, .l x], .cons _ (.cons _ (.cons h _)) => cases h
  · match as, hf with
    | [.n x, .l y], _ =>
      show asked s [(isPlayer s x, -1), (areMoney s y, -2)] _ = _
      change wrongs s [.player, .amounts] _ ≠ [] at hw
      change IsRef (wrongs s [.player, .amounts] _) m at hm
      rw [wrongs_cons, wrongs_cons, wrongs_nil] at hw hm
      simp only [rightK] at hw hm
      cases h1 : isPlayer s x <;> cases h2 : areMoney s y <;> simp [h1, h2, IsRef, refOf, asked] at hw hm ⊢ <;> omega
    | [.l x, _], .cons h _ => cases h
    | [.n _, .n x], .cons _ (.cons h _) => cases h
  · match as, hf with
    | [.n x], _ =>
      show asked s [(isPlayer s x, -1)] _ = _
      change wrongs s [.player] _ ≠ [] at hw
      change IsRef (wrongs s [.player] _) m at hm
      rw [wrongs_cons, wrongs_nil] at hw hm
      simp only [rightK] at hw hm
      cases h1 : isPlayer s x <;> simp [h1, IsRef, refOf, asked] at hw hm ⊢ <;> omega
    | [.l x], .cons h _ => cases h
  · exact absurd rfl hw
  · exact absurd rfl hw
  · match as, hf with
    | [.l x], _ =>
      show asked s [(x.all (fun i => decide (0 ≤ i)) && isAssignment s (nats x), -3)] _ = _
      rw [asg_iff]
      change wrongs s [.asg] _ ≠ [] at hw
      change IsRef (wrongs s [.asg] _) m at hm
      rw [wrongs_cons, wrongs_nil] at hw hm
      simp only [rightK] at hw hm
      cases h1 : asgOk s x <;> simp [h1, IsRef, refOf, asked] at hw hm ⊢ <;> omega
    | [.n x], .cons h _ => cases h
  · exact absurd rfl hw
  · exact absurd rfl hw
  · exact absurd rfl hw
  · match as, hf with
    | [.l x], _ =>
      show asked s [(areMoney s x, -2)] _ = _
      change wrongs s [.amounts] _ ≠ [] at hw
      change IsRef (wrongs s [.amounts] _) m at hm
      rw [wrongs_cons, wrongs_nil] at hw hm
      simp only [rightK] at hw hm
      cases h1 : areMoney s x <;> simp [h1, IsRef, refOf, asked] at hw hm ⊢ <;> omega
    | [.n x], .cons h _ => cases h
  · match as, hf with
    | [.n x, .l y], _ =>
      show asked s [(isPlayer s x, -1), (areMoney s y, -2)] _ = _
      change wrongs s [.player, .amounts] _ ≠ [] at hw
      change IsRef (wrongs s [.player, .amounts] _) m at hm
      rw [wrongs_cons, wrongs_cons, wrongs_nil] at hw hm
      simp only [rightK] at hw hm
      cases h1 : isPlayer s x <;> cases h2 : areMoney s y <;> simp [h1, h2, IsRef, refOf, asked] at hw hm ⊢ <;> omega
    | [.l x, _], .cons h _ => cases h
    | [.n _, .n x], .cons _ (.cons h _) => cases h
  · match as, hf with
    | [.l x], _ =>
      show asked s [(areMoney s x, -2)] _ = _
      change wrongs s [.amounts] _ ≠ [] at hw
      change IsRef (wrongs s [.amounts] _) m at hm
      rw [wrongs_cons, wrongs_nil] at hw hm
      simp only [rightK] at hw hm
      cases h1 : areMoney s x <;> simp [h1, IsRef, refOf, asked] at hw hm ⊢ <;> omega
    | [.n x], .cons h _ => cases h
  · exact absurd rfl hw
  · match as, hf with
    | [.n x], _ =>
      show (if between 1 x 1000 = false then (s, [-2]) else _) = _
      change wrongs s [.rounds] _ ≠ [] at hw
      change IsRef (wrongs s [.rounds] _) m at hm
      rw [wrongs_cons, wrongs_nil] at hw hm
      simp only [rightK] at hw hm
      cases h1 : between 1 x 1000 <;> simp [h1, IsRef, refOf] at hw hm ⊢ <;> omega
    | [.l x], .cons h _ => cases h
  · exact absurd rfl hw
  · match as, hf with
    | [.n x], _ =>
      show asked s [(isPlayer s x, -1)] _ = _
      change wrongs s [.player] _ ≠ [] at hw
      change IsRef (wrongs s [.player] _) m at hm
      rw [wrongs_cons, wrongs_nil] at hw hm
      simp only [rightK] at hw hm
      cases h1 : isPlayer s x <;> simp [h1, IsRef, refOf, asked] at hw hm ⊢ <;> omega
    | [.l x], .cons h _ => cases h
  · match as, hf with
    | [.n x, .l y], _ =>
      show asked s [(isPlayer s x, -1), (areMoney s y, -2)] _ = _
      change wrongs s [.player, .amounts] _ ≠ [] at hw
      change IsRef (wrongs s [.player, .amounts] _) m at hm
      rw [wrongs_cons, wrongs_cons, wrongs_nil] at hw hm
      simp only [rightK] at hw hm
      cases h1 : isPlayer s x <;> cases h2 : areMoney s y <;> simp [h1, h2, IsRef, refOf, asked] at hw hm ⊢ <;> omega
    | [.l x, _], .cons h _ => cases h
    | [.n _, .n x], .cons _ (.cons h _) => cases h
  · match as, hf with
    | [.n x], _ =>
      show asked s [(isPlayer s x, -1)] _ = _
      change wrongs s [.player] _ ≠ [] at hw
      change IsRef (wrongs s [.player] _) m at hm
      rw [wrongs_cons, wrongs_nil] at hw hm
      simp only [rightK] at hw hm
      cases h1 : isPlayer s x <;> simp [h1, IsRef, refOf, asked] at hw hm ⊢ <;> omega
    | [.l x], .cons h _ => cases h
  · exact absurd rfl hw
inductive Right (s : State) : List Kd → List Ag → Prop
  | nil : Right s [] []
  | cons {k : Kd} {a : Ag} {ks : List Kd} {as : List Ag} : rightK s k a = true → Right s ks as → Right s (k :: ks) (a :: as)
theorem right_of {s : State} : ∀ {ks : List Kd} {as : List Ag}, Fits ks as → wrongs s ks as = [] → Right s ks as
  | _, _, .nil, _ => .nil
  | _, _, .cons (k := k) (a := a) _ r, h => by
    rw [wrongs_cons] at h
    obtain ⟨h1, h2⟩ := List.append_eq_nil_iff.mp h
    refine .cons ?_ (right_of r h2)
    cases e : rightK s k a with
    | true => rfl
    | false => rw [e] at h1; simp at h1
theorem right1 {s : State} {k : Kd} {as : List Ag} (h : Right s [k] as) : ∃ a, as = [a] ∧ rightK s k a = true := by
  cases h with
  | cons h1 h2 => cases h2; exact ⟨_, rfl, h1⟩
theorem right2 {s : State} {k l : Kd} {as : List Ag} (h : Right s [k, l] as) : ∃ a b, as = [a, b] ∧ rightK s k a = true ∧ rightK s l b = true := by
  cases h with
  | cons h1 h2 =>
    obtain ⟨b, rfl, h3⟩ := right1 h2
    exact ⟨_, _, rfl, h1, h3⟩
theorem right3 {s : State} {k l m : Kd} {as : List Ag} (h : Right s [k, l, m] as) : ∃ a b c, as = [a, b, c] ∧ rightK s k a = true ∧ rightK s l b = true ∧ rightK s m c = true := by
  cases h with
  | cons h1 h2 =>
    obtain ⟨b, c, rfl, h3, h4⟩ := right2 h2
    exact ⟨_, _, _, rfl, h1, h3, h4⟩
theorem right0 {s : State} {as : List Ag} (h : Right s [] as) : as = [] := by
  cases h
  rfl
end TW

end

section
set_option Elab.async false
set_option linter.all false
set_option maxRecDepth 100000
namespace TwI
open PySem
open PySem.AutoSeq1 (wpAny_loadPart')

abbrev kw1 (t : Tok) : List (Str × Value) := [(Str.ofString "start", .int 1 t)]
section
variable {prog : Program} {w : World} {A : Around} {E : Value → Shared → Prop} {s : Shared}
theorem callTypeK {T newId : String} {Bn : Builtin} {args : List Value} {kw : List (Str × Value)} {S : Spec} {Q Q₁ : Value → Shared → Prop} (ft : TypeCalled T newId "object.__init__")
    (c1 : checkTypeCall T ⟨args, kw⟩ = pure ()) (c2 : checkBuiltinCall newId ⟨.type T :: args, kw⟩ = pure ())
    (en : entryFor table newId = some Bn) (gn : Meets (Bn ⟨.type T :: args, kw⟩) S) (hn : S A.in1 (wants Q₁ E) s)
    (go : ∀ obj s₁, Q₁ obj s₁ → s₁.TypeIs obj T ∧ argsOk "object.__init__" ⟨obj :: args, kw⟩ ∧ ∃ Si, Meets (Builtin.«object.__init__» ⟨obj :: args, kw⟩) Si ∧ Si A.in1 (wants (fun r s₂ => r = .none ∧ Q obj s₂) E) s₁) :
    wpAny (model prog w) A (call (.type T) args kw) Q E s := by
  obtain ⟨c, tl, m1⟩ := ft.mro
  have m2 := ft.made
  have m3 := ft.sub
  refine wpAny_call (codeAny_of_tree ?_)
  show wpAny _ _ (callAny (.type T) _) _ _ _
  refine wpAny_pure ⟨Code.quiet_builtin _ (by decide +kernel), codeAny_builtin F.entry_type_call ?_⟩
  rw [Around.under_plain (weight_type_call_type T args kw) (units_type_call_type T args kw)]
  have n1 := ft.notType
  have n2 := ft.canCreate
  repeat any_goals (first | assumption | wp_step)
  refine codeAny_mono (codeAny_call_builtin ft.plain en (wpAny_of_eq c2 (gn prog w A.in1 _ s hn))) fun res s₁ hres => ?_
  cases res with
  | error e => exact hres
  | ok fl =>
    cases fl with
    | ret obj =>
      obtain ⟨hT, ao, Si, gi, si⟩ := go _ _ hres
      have l1 := ft.init.lookup
      have l2 := ft.init.bind obj
      repeat any_goals (first | assumption | wp_step)
      refine codeAny_mono (codeAny_call_builtin ft.init.plain F.entry_object_init (ft.init.check _ _ _ _ _ _ _ _ hT ao (gi prog w A.in1 _ s₁ si))) fun res2 s₂ hres2 => ?_
      cases res2 with
      | error e => exact hres2
      | ok fl2 =>
        cases fl2 with
        | ret r =>
          obtain ⟨rfl, hq⟩ := hres2
          repeat any_goals (first | assumption | wp_step)
        | _ => exact hres2.elim
    | _ => exact hres.elim
end
theorem enum_new1 (l : Addr) (items : Array Value) (n : Nat) (dct : Option Addr) (sl : Array (Option Value)) (t : Tok) :
    Meets (Builtin.«enumerate.__new__» ⟨[.type "enumerate", .ref l], kw1 t⟩) (fun _ R s => s.heap.get? l = some { cls := .type "list", dict := dct, data := .seq items n, slots := sl } ∧
      R (.ok (.ret (.ref (s.heap.push { cls := .type "list_iterator", data := .fields #[.ref l, .int 0 0] }).objs.size)))
        { s with heap := (s.heap.push { cls := .type "list_iterator", data := .fields #[.ref l, .int 0 0] }).push { cls := .type "enumerate", data := .fields #[.none, .bool false, .ref s.heap.objs.size, rawInt 1, .none, .none] } }) :=
  .of_wp fun prog w A R s h => by
    obtain ⟨hp, g, d, tk, os⟩ := s
    obtain ⟨gl, q⟩ := h
    have sb := sub_enumerate
    have isL : Heap.IsList (Shared.heap ⟨hp, g, d, tk, os⟩) l items := ⟨_, gl, rfl, n, rfl⟩
    wp_walk using wpAny_loadPart' gl
    refine wpAny_stack_any fun st => wpAny_pure ?_
    split
    · rename_i c _ _ _ _ _
      cases (c == Value.type "enumerate")
      · wp_walk using wpAny_loadPart' gl, wpAny_pyIter_list isL
        exact ⟨_, rfl, q⟩
      · wp_walk using wpAny_loadPart' gl, wpAny_pyIter_list isL
        exact ⟨_, rfl, q⟩
    · wp_walk using wpAny_loadPart' gl, wpAny_pyIter_list isL
      exact ⟨_, rfl, q⟩
theorem initK (self l : Value) (t : Tok) : Meets (Builtin.«object.__init__» ⟨[self, l], kw1 t⟩) (fun _ R s => s.TypeIs self "enumerate" ∧ R (.ok (.ret .none)) s) := by
  refine Meets.of_wp fun prog w A R s hs => ?_
  obtain ⟨hT, q⟩ := hs
  have l1 := F.called_enumerate.init.lookup
  have l2 := F.called_enumerate.made
  repeat any_goals (first | assumption | wp_step)
  exact ⟨_, rfl, q⟩
theorem tc1 (a : Value) (t : Tok) : checkTypeCall "enumerate" ⟨[a], kw1 t⟩ = pure () := by kernel_rfl
theorem nc1 (a : Value) (t : Tok) : checkBuiltinCall "enumerate.__new__" ⟨[.type "enumerate", a], kw1 t⟩ = pure () := by kernel_rfl
theorem ao1 (obj a : Value) (t : Tok) : argsOk "object.__init__" ⟨[obj, a], kw1 t⟩ := by
  unfold argsOk
  rw [signature?_of (id := "object.__init__") (n := ['_', '_', 't', 'i', 'n', 'i', '_', '_']) (o := ['t', 'c', 'e', 'j', 'b', 'o']) (by kernel_rfl) F.owner_object]
  kernel_rfl
section
variable {prog : Program} {w : World} {A : Around} {E : Value → Shared → Prop} {s : Shared}
theorem call_enum1 {l : Addr} {items : Array Value} {t : Tok} {Q : Value → Shared → Prop} (isL : s.heap.IsList l items)
    (h : ∀ h', IsEnum h' (s.heap.objs.size + 1) s.heap.objs.size 1 .none → h'.IsListIter s.heap.objs.size l 0 → h'.objs.size = s.heap.objs.size + 2 →
      (∀ b o, s.heap.get? b = some o → h'.get? b = some o) → Q (.ref (s.heap.objs.size + 1)) { s with heap := h' }) :
    wpAny (model prog w) A (call (.type "enumerate") [.ref l] (kw1 t)) Q E s := by
  obtain ⟨⟨c, dct, dt, sl⟩, gl, hc, n, hd⟩ := isL
  replace hc : c = .type "list" := hc
  replace hd : dt = .seq items n := hd
  subst hc hd
  have zz : (s.heap.push { cls := .type "list_iterator", data := .fields #[.ref l, .int 0 0] }).objs.size = s.heap.objs.size + 1 := Heap.size_push ..
  have ge : IsEnum ((s.heap.push { cls := .type "list_iterator", data := .fields #[.ref l, .int 0 0] }).push
      { cls := .type "enumerate", data := .fields #[.none, .bool false, .ref s.heap.objs.size, rawInt 1, .none, .none] }) (s.heap.objs.size + 1) s.heap.objs.size 1 .none := by
    have z1 := Heap.get?_push_size (s.heap.push { cls := .type "list_iterator", data := .fields #[.ref l, .int 0 0] })
      (o := { cls := .type "enumerate", data := .fields #[.none, .bool false, .ref s.heap.objs.size, rawInt 1, .none, .none] }) rfl
    rw [zz] at z1
    exact z1
  refine callTypeK (Q₁ := fun obj s₁ => s₁.TypeIs obj "enumerate" ∧ Q obj s₁) F.called_enumerate (tc1 _ _) (nc1 _ _) F.entry_enumerate_new (enum_new1 l items n dct sl t) ⟨gl, ?_⟩ ?_
  · show _ ∧ _
    rw [zz]
    exact ⟨⟨_, ge, rfl⟩, h _ ge ⟨_, Heap.get?_push_of_some _ (Heap.get?_push_size _ rfl), rfl, rfl⟩ (by rw [Heap.size_push, zz]) fun b o x => Heap.get?_push_of_some _ (Heap.get?_push_of_some _ x)⟩
  · rintro obj s₁ ⟨hT, q⟩
    exact ⟨hT, ao1 _ _ _, _, initK obj (.ref l) t, hT, rfl, q⟩
end
theorem draws1 {prog : Program} {w : World} {A : Around} (hh : A.handled = none) (it l : Addr) (ne : l ≠ it) (items : Array Value) :
    Draws prog w A it [it, l] (items.size + 1) (fun i v => items[i - 1]? = some v) (fun i h => 1 ≤ i ∧ h.IsListIter it l (i - 1) ∧ h.IsList l items) where
  live := fun _ _ st => let ⟨o, ho, _⟩ := st.2.1; ⟨o, ho⟩
  frame := fun _ _ _ st hk => ⟨st.1, st.2.1.at fun o e => hk it (by simp) o e, st.2.2.at fun o e => hk l (by simp) o e⟩
  item := fun i s Q E hi st hQ => by
    obtain ⟨h1, h2, h3⟩ := st
    have hi' : i - 1 < items.size := by omega
    refine wpAny_nextOf_list_item h2 h3 (x := items[i - 1]) (by simp [hi']) fun h' g1 g2 => ?_
    have e : i - 1 + 1 = i + 1 - 1 := by omega
    rw [e] at g1
    exact hQ _ h' s.toks (by simp [hi']) ⟨by omega, g1, h3.extBut g2.extBut ne⟩ g2
  done := fun s Q E st hE => wpAny_nextOf_list_end hh st.2.1 st.2.2 (by simp) hE
end TwI

end

section
set_option Elab.async false
set_option linter.all false
set_option maxRecDepth 100000
namespace TwI
open PySem

section
variable {prog : Program} {w : World} {A : Around} {E : Value → Shared → Prop} {s : Shared}
theorem tupNext {it t : Addr} {i : Nat} {items} {x : Value} {Q : Value → Shared → Prop} (gi : s.heap.IsTupleIter it t i) (gt : s.heap.IsTuple t items) (hx : items[i]? = some x)
    (k : ∀ h', h'.IsTupleIter it t (i + 1) → Heap.SameBut it s.heap h' → Q x { s with heap := h' }) : wpAny (model prog w) A (Builtin.SmallTypes.nextOf (.ref it)) Q E s := by
  obtain ⟨o, go, gc, gd⟩ := id gi
  obtain ⟨ol, gol, _, nl, gdl⟩ := gt
  unfold Builtin.SmallTypes.nextOf
  refine wpAny_bind (wpAny_callSpecial?_slot (name := Str.ofString "__next__") gi.typeIs F.slot_tuple_iterator_next
    (wpAny_call_entry F.slot_tuple_iterator_next gi.typeIs F.entry_tuple_iterator_next ?_ (F.args_tuple_iterator_next_1 _)))
  show wpAny _ _ (field (.ref it) 0 >>= _) _ _ s
  refine wpAny_bind (wpAny_field go gd (x := .ref t) rfl ?_)
  show wpAny _ _ (if (Value.ref t == Value.none) = true then _ else _) _ _ s
  rw [if_neg (show ¬ ((Value.ref t == Value.none) = true) from Bool.false_ne_true)]
  show wpAny _ _ (field (.ref it) 1 >>= _) _ _ s
  refine wpAny_bind (wpAny_field go gd (x := .int i 0) rfl ?_)
  show wpAny _ _ (seqItems? (.ref t) >>= _) _ _ s
  refine wpAny_bind (wpAny_seqItems gol gdl ?_)
  simp only [Int.toNat_natCast, hx]
  refine wpAny_bind (wpAny_setField go gd (by simp) (wpAny_pure ⟨x, rfl, wpAny_pure (k _ ?_ (Heap.SameBut.update ..))⟩))
  exact ⟨_, Heap.get?_update_self _ go (Obj.isFreed_of_fields (Obj.data_mapFields gd _)), (Obj.cls_mapFields ..).trans gc, by
    rw [Obj.data_mapFields gd]
    simp [rawInt]⟩
theorem tupEnd {it t : Addr} {i : Nat} {items} {Q : Value → Shared → Prop} (hh : A.handled = none) (gi : s.heap.IsTupleIter it t i) (gt : s.heap.IsTuple t items) (hx : items[i]? = none)
    (k : ∀ h' e, Heap.ExtBut it s.heap h' → (∃ o, h'.get? e = some o ∧ o.cls = .type "StopIteration") → E (.ref e) { s with heap := h' }) : wpAny (model prog w) A (Builtin.SmallTypes.nextOf (.ref it)) Q E s := by
  obtain ⟨o, go, gc, gd⟩ := id gi
  obtain ⟨ol, gol, _, nl, gdl⟩ := gt
  unfold Builtin.SmallTypes.nextOf
  refine wpAny_bind (wpAny_callSpecial?_slot (name := Str.ofString "__next__") gi.typeIs F.slot_tuple_iterator_next
    (wpAny_call_entry F.slot_tuple_iterator_next gi.typeIs F.entry_tuple_iterator_next ?_ (F.args_tuple_iterator_next_1 _)))
  show wpAny _ _ (field (.ref it) 0 >>= _) _ _ s
  refine wpAny_bind (wpAny_field go gd (x := .ref t) rfl ?_)
  show wpAny _ _ (if (Value.ref t == Value.none) = true then _ else _) _ _ s
  rw [if_neg (show ¬ ((Value.ref t == Value.none) = true) from Bool.false_ne_true)]
  show wpAny _ _ (field (.ref it) 1 >>= _) _ _ s
  refine wpAny_bind (wpAny_field go gd (x := .int i 0) rfl ?_)
  show wpAny _ _ (seqItems? (.ref t) >>= _) _ _ s
  refine wpAny_bind (wpAny_seqItems gol gdl ?_)
  simp only [Int.toNat_natCast, hx]
  refine wpAny_bind (wpAny_rule (wpAny_bind (wpAny_setField go gd (by simp) ?_)))
  show wpAny _ _ (newExc (.type "StopIteration") [] >>= _) _ _ _
  refine wpAny_bind ?_
  simp only [newExc, newTuple]
  refine wpAny_bind (wpAny_newObj_type ?_ (by size_fits))
  refine wpAny_bind (m := firstArgMember _ _) (wpAny_of_eq (a := Value.none) (by first | rfl | (simp only [firstArgMember]; rfl)) ?_)
  refine wpAny_newObj_type ?_ (by size_fits)
  simp only [raiseNew]
  refine wpAny_bind (wpAny_handled ?_)
  first | rw [show A.in1.handled = none from hh] | rw [hh]
  refine wpAny_bind (wpAny_pure (wpAny_throw ?_))
  exact k _ _ (((Heap.SameBut.update ..).extBut.push _).push _) ⟨_, Heap.get?_push_size _ rfl, rfl⟩
theorem zipT_item {z TI TO i1 i2 l1 l2 : Addr} {k1 k2 : Nat} {xs ys : Array Value} {x y a b : Value} {Q : Value → Shared → Prop} (D : ZipApart z TI TO i1 i2 l1 l2)
    (gz : IsZip s.heap z TI TO .none) (gTI : IsPair s.heap TI (.ref i1) (.ref i2)) (gTO : IsPair s.heap TO a b)
    (g1 : s.heap.IsTupleIter i1 l1 k1) (g2 : s.heap.IsListIter i2 l2 k2) (t1 : s.heap.IsTuple l1 xs) (t2 : s.heap.IsList l2 ys) (ex : xs[k1]? = some x) (ey : ys[k2]? = some y)
    (kq : ∀ h', IsZip h' z TI TO (rawInt s.heap.objs.size) → IsPair h' TO x y → h'.IsTupleIter i1 l1 (k1 + 1) → h'.IsListIter i2 l2 (k2 + 1) → IsPair h' s.heap.objs.size x y → h'.objs.size = s.heap.objs.size + 1 →
      (∀ c o, c ≠ z → c ≠ TO → c ≠ i1 → c ≠ i2 → s.heap.get? c = some o → h'.get? c = some o) → Q (.ref s.heap.objs.size) { s with heap := h' }) :
    wpAny (model prog w) A (Builtin.«zip.__next__» ⟨[.ref z], []⟩) (fun fin s' => ∃ v, fin = .done (.ret v) ∧ Q v s') E s := by
  show wpAny _ _ (field (.ref z) 2 >>= _) _ _ _
  refine wpAny_bind (wpAny_field gz rfl (x := .bool false) rfl ?_)
  show wpAny _ _ (field (.ref z) 3 >>= _) _ _ _
  refine wpAny_bind (wpAny_field gz rfl (x := .ref TI) rfl ?_)
  refine wpAny_bind (wpAny_seqItems gTI rfl ?_)
  show wpAny _ _ (Builtin.SmallTypes.ownedTupleIsFree (.ref z) >>= _) _ _ _
  refine wpAny_bind ?_
  unfold Builtin.SmallTypes.ownedTupleIsFree
  refine wpAny_bind (wpAny_field gz rfl (x := .none) rfl (wpAny_pure ?_))
  simp only [if_true]
  refine wpAny_bind (wpAny_rule ?_)
  refine wpAny_bind (wpAny_field gz rfl (x := .ref TO) rfl ?_)
  refine wpAny_bind (wpAny_setField_rec gz (by simp) fun H1 z1 b1 => ?_)
  replace z1 : IsZip H1 z TI TO .ellipsis := z1
  refine wpAny_bind ?_
  simp only [List.zipIdx_cons, List.zipIdx_nil, List.forIn_cons, List.forIn_nil]
  refine wpAny_bind (wpAny_bind (wpAny_onRaise ?_))
  show wpAny _ _ (Builtin.SmallTypes.nextOf (.ref i1) >>= _) _ _ _
  refine wpAny_bind (tupNext (g1.extBut b1.extBut D.i1z) (t1.extBut b1.extBut D.l1z) ex fun H2 g12 b2 => wpAny_pure ?_)
  have o2 : IsPair H2 TO a b := b2.extBut _ _ D.TOi1 (b1.extBut _ _ D.TOz gTO)
  refine wpAny_bind (wpAny_seqItems o2 rfl ?_)
  refine wpAny_bind (wpAny_updateSeq_pair o2 fun H3 o3 b3 => ?_)
  replace o3 : IsPair H3 TO x b := o3
  refine wpAny_bind (wpAny_letGo (wpAny_pure ?_))
  refine wpAny_bind (wpAny_bind (wpAny_onRaise ?_))
  show wpAny _ _ (Builtin.SmallTypes.nextOf (.ref i2) >>= _) _ _ _
  refine wpAny_bind (wpAny_nextOf_list_item (((g2.extBut b1.extBut D.i2z).extBut b2.extBut D.i12.symm).extBut b3.extBut D.TOi2.symm)
    (((t2.extBut b1.extBut D.l2z).extBut b2.extBut D.l2i1).extBut b3.extBut D.l2TO) ey fun H4 g24 b4 => wpAny_pure ?_)
  have o4 : IsPair H4 TO x b := b4.extBut _ _ D.TOi2 o3
  refine wpAny_bind (wpAny_seqItems o4 rfl ?_)
  refine wpAny_bind (wpAny_updateSeq_pair o4 fun H5 o5 b5 => ?_)
  replace o5 : IsPair H5 TO x y := o5
  refine wpAny_bind (wpAny_letGo (wpAny_pure (wpAny_pure ?_)))
  refine wpAny_bind (wpAny_seqItems o5 rfl ?_)
  refine wpAny_bind (wpAny_newTuple ?_)
  have size5 : H5.objs.size = s.heap.objs.size := by rw [b5.1, b4.1, b3.1, b2.1, b1.1]
  have z5 : IsZip H5 z TI TO .ellipsis := b5.extBut _ _ D.TOz.symm (b4.extBut _ _ D.i2z.symm (b3.extBut _ _ D.TOz.symm (b2.extBut _ _ D.i1z.symm z1)))
  have kp5 : ∀ c o, c ≠ z → c ≠ TO → c ≠ i1 → c ≠ i2 → s.heap.get? c = some o → H5.get? c = some o := fun c o c1 c2 c3 c4 e =>
    b5.extBut _ _ c2 (b4.extBut _ _ c4 (b3.extBut _ _ c2 (b2.extBut _ _ c3 (b1.extBut _ _ c1 e))))
  have g15 : H5.IsTupleIter i1 l1 (k1 + 1) := ((g12.extBut b3.extBut D.TOi1.symm).extBut b4.extBut D.i12).extBut b5.extBut D.TOi1.symm
  have g25 : H5.IsListIter i2 l2 (k2 + 1) := g24.extBut b5.extBut D.TOi2.symm
  have zlt : z < H5.objs.size := Heap.lt_size z5
  show wpAny _ _ (Builtin.SmallTypes.ownedTupleHandOut (.ref z) (.ref H5.objs.size) >>= _) _ _ _
  refine wpAny_bind ?_
  unfold Builtin.SmallTypes.ownedTupleHandOut
  have z6 : IsZip (H5.push { cls := .type "tuple", data := .seq #[x, y] }) z TI TO .ellipsis := Heap.get?_push_of_some _ z5
  refine wpAny_bind (wpAny_setField_rec z6 (by simp) fun H7 z7 b7 => ?_)
  replace z7 : IsZip H7 z TI TO (rawInt H5.objs.size) := z7
  refine wpAny_setField_rec z7 (by simp) fun H8 z8 b8 => ?_
  replace z8 : IsZip H8 z TI TO (rawInt H5.objs.size) := z8
  have up : ∀ c o, c ≠ z → H5.get? c = some o → H8.get? c = some o := fun c o c1 e => b8.extBut _ _ c1 (b7.extBut _ _ c1 (Heap.get?_push_of_some _ e))
  have p8 : IsPair H8 H5.objs.size x y := b8.extBut _ _ (Nat.ne_of_gt zlt) (b7.extBut _ _ (Nat.ne_of_gt zlt) (Heap.get?_push_size _ rfl))
  have s8 : H8.objs.size = H5.objs.size + 1 := by rw [b8.1, b7.1, Heap.size_push]
  rw [size5] at z8 p8 s8
  refine wpAny_pure ⟨_, rfl, ?_⟩
  show Q (.ref H5.objs.size) _
  rw [size5]
  exact kq H8 z8 (up _ _ D.TOz o5) (g15.at fun o e => up _ o D.i1z e) (g25.at fun o e => up _ o D.i2z e) p8 s8 fun c o c1 c2 c3 c4 e => up c o c1 (kp5 c o c1 c2 c3 c4 e)
theorem zipT_end {z TI TO i1 i2 l1 l2 : Addr} {k1 k2 : Nat} {xs ys : Array Value} {a b : Value} {Q : Fin → Shared → Prop} (hh : A.handled = none) (D : ZipApart z TI TO i1 i2 l1 l2)
    (gz : IsZip s.heap z TI TO .none) (gTI : IsPair s.heap TI (.ref i1) (.ref i2)) (gTO : IsPair s.heap TO a b)
    (g1 : s.heap.IsTupleIter i1 l1 k1) (g2 : s.heap.IsListIter i2 l2 k2) (t1 : s.heap.IsTuple l1 xs) (t2 : s.heap.IsList l2 ys) (ex : xs[k1]? = none)
    (kE : ∀ h' e, (∀ c o, c ≠ z → c ≠ TO → c ≠ i1 → c ≠ i2 → s.heap.get? c = some o → h'.get? c = some o) → (∃ o, h'.get? e = some o ∧ o.cls = .type "StopIteration") → E (.ref e) { s with heap := h' }) :
    wpAny (model prog w) A (Builtin.«zip.__next__» ⟨[.ref z], []⟩) Q E s := by
  show wpAny _ _ (field (.ref z) 2 >>= _) _ _ _
  refine wpAny_bind (wpAny_field gz rfl (x := .bool false) rfl ?_)
  show wpAny _ _ (field (.ref z) 3 >>= _) _ _ _
  refine wpAny_bind (wpAny_field gz rfl (x := .ref TI) rfl ?_)
  refine wpAny_bind (wpAny_seqItems gTI rfl ?_)
  show wpAny _ _ (Builtin.SmallTypes.ownedTupleIsFree (.ref z) >>= _) _ _ _
  refine wpAny_bind ?_
  unfold Builtin.SmallTypes.ownedTupleIsFree
  refine wpAny_bind (wpAny_field gz rfl (x := .none) rfl (wpAny_pure ?_))
  simp only [if_true]
  refine wpAny_bind (wpAny_rule ?_)
  refine wpAny_bind (wpAny_field gz rfl (x := .ref TO) rfl ?_)
  refine wpAny_bind (wpAny_setField_rec gz (by simp) fun H1 z1 b1 => ?_)
  replace z1 : IsZip H1 z TI TO .ellipsis := z1
  refine wpAny_bind ?_
  simp only [List.zipIdx_cons, List.zipIdx_nil, List.forIn_cons, List.forIn_nil]
  refine wpAny_bind (wpAny_bind (wpAny_onRaise ?_))
  show wpAny _ _ (Builtin.SmallTypes.nextOf (.ref i1) >>= _) _ _ _
  refine wpAny_bind (tupEnd hh (g1.extBut b1.extBut D.i1z) (t1.extBut b1.extBut D.l1z) ex fun H2 e b2 he => ?_)
  obtain ⟨oe, hoe, hce⟩ := he
  have z2 : IsZip H2 z TI TO .ellipsis := b2 _ _ D.i1z.symm z1
  have ez : e ≠ z := fun x => by
    subst x
    rw [z2] at hoe
    cases hoe
    simp at hce
  refine wpAny_setField_rec z2 (by simp) fun H3 _ b3 => kE H3 e (fun c o c1 _ c3 _ x => b3.extBut _ _ c1 (b2 _ _ c3 (b1.extBut _ _ c1 x))) ⟨oe, b3.extBut _ _ ez hoe, hce⟩
theorem nextZipT_item {z TI TO i1 i2 l1 l2 : Addr} {k1 k2 : Nat} {xs ys : Array Value} {x y a b : Value} {Q : Option Value → Shared → Prop} (D : ZipApart z TI TO i1 i2 l1 l2)
    (gz : IsZip s.heap z TI TO .none) (gTI : IsPair s.heap TI (.ref i1) (.ref i2)) (gTO : IsPair s.heap TO a b)
    (g1 : s.heap.IsTupleIter i1 l1 k1) (g2 : s.heap.IsListIter i2 l2 k2) (t1 : s.heap.IsTuple l1 xs) (t2 : s.heap.IsList l2 ys) (ex : xs[k1]? = some x) (ey : ys[k2]? = some y)
    (kq : ∀ h', IsZip h' z TI TO (rawInt s.heap.objs.size) → IsPair h' TO x y → h'.IsTupleIter i1 l1 (k1 + 1) → h'.IsListIter i2 l2 (k2 + 1) → IsPair h' s.heap.objs.size x y → h'.objs.size = s.heap.objs.size + 1 →
      (∀ c o, c ≠ z → c ≠ TO → c ≠ i1 → c ≠ i2 → s.heap.get? c = some o → h'.get? c = some o) → Q (some (.ref s.heap.objs.size)) { s with heap := h' }) :
    wpAny (model prog w) A (pyNext (.ref z)) Q E s := by
  have tz : s.TypeIs (.ref z) "zip" := ⟨_, gz, rfl⟩
  unfold pyNext
  exact wpAny_bind (wpAny_attempt (wpAny_callSpecial?_slot (name := Str.ofString "__next__") tz F.slot_zip_next
    (wpAny_call_entry F.slot_zip_next tz F.entry_zip_next
      (zipT_item D gz gTI gTO g1 g2 t1 t2 ex ey fun h' a1 a2 a3 a4 a5 a6 a7 => wpAny_pure (kq h' a1 a2 a3 a4 a5 a6 a7)) (F.args_zip_next_1 _))))
theorem nextZipT_end {z TI TO i1 i2 l1 l2 : Addr} {k1 k2 : Nat} {xs ys : Array Value} {a b : Value} {Q : Option Value → Shared → Prop} (hh : A.handled = none) (D : ZipApart z TI TO i1 i2 l1 l2)
    (gz : IsZip s.heap z TI TO .none) (gTI : IsPair s.heap TI (.ref i1) (.ref i2)) (gTO : IsPair s.heap TO a b)
    (g1 : s.heap.IsTupleIter i1 l1 k1) (g2 : s.heap.IsListIter i2 l2 k2) (t1 : s.heap.IsTuple l1 xs) (t2 : s.heap.IsList l2 ys) (ex : xs[k1]? = none)
    (kq : ∀ h', (∀ c o, c ≠ z → c ≠ TO → c ≠ i1 → c ≠ i2 → s.heap.get? c = some o → h'.get? c = some o) → Q none { s with heap := h' }) : wpAny (model prog w) A (pyNext (.ref z)) Q E s := by
  have tz : s.TypeIs (.ref z) "zip" := ⟨_, gz, rfl⟩
  unfold pyNext
  refine wpAny_bind (wpAny_attempt (wpAny_callSpecial?_slot (name := Str.ofString "__next__") tz F.slot_zip_next
    (wpAny_call_entry F.slot_zip_next tz F.entry_zip_next (zipT_end hh D gz gTI gTO g1 g2 t1 t2 ex fun h' e hk he => ?_) (F.args_zip_next_1 _))))
  obtain ⟨o, ho, hc⟩ := he
  refine wpAny_bind (wpAny_isInstance (T := "StopIteration") (b := true) ⟨o, ho, hc⟩ isSubtype_stop ?_)
  exact wpAny_pure (kq _ hk)
end
abbrev zT1 (h : Heap) (l1 : Addr) : Heap := h.push { cls := .type "tuple_iterator", data := .fields #[.ref l1, .int 0 0] }
abbrev zT2 (h : Heap) (l1 l2 : Addr) : Heap := (zT1 h l1).push { cls := .type "list_iterator", data := .fields #[.ref l2, .int 0 0] }
abbrev zT3 (h : Heap) (l1 l2 : Addr) : Heap := (zT2 h l1 l2).push { cls := .type "tuple", data := .seq #[.ref h.objs.size, .ref (zT1 h l1).objs.size] }
abbrev zT4 (h : Heap) (l1 l2 : Addr) : Heap := (zT3 h l1 l2).push { cls := .type "tuple", data := .seq #[.none, .none] }
abbrev zT5 (h : Heap) (l1 l2 : Addr) : Heap := (zT4 h l1 l2).push { cls := .type "zip", data := .fields #[.none, .bool false, .bool false, .ref (zT2 h l1 l2).objs.size, .ref (zT3 h l1 l2).objs.size] }
theorem zipT_new (l1 l2 : Addr) (xs ys : Array Value) :
    Meets (Builtin.«zip.__new__» ⟨[.type "zip", .ref l1, .ref l2], []⟩) (fun _ R s => s.heap.IsTuple l1 xs ∧ s.heap.IsList l2 ys ∧
      R (.ok (.ret (.ref (zT4 s.heap l1 l2).objs.size))) { s with heap := zT5 s.heap l1 l2 }) :=
  .of_wp fun prog w A R s h => by
    obtain ⟨hp, g, d, tk, os⟩ := s
    obtain ⟨t1, t2, q⟩ := h
    have sb := sub_zip
    have T1 : Heap.IsTuple (Shared.heap ⟨hp, g, d, tk, os⟩) l1 xs := t1
    have T2 : Heap.IsList (Shared.heap ⟨hp.push { cls := .type "tuple_iterator", data := .fields #[.ref l1, .int 0 0] }, g, d, tk, os⟩) l2 ys := Heap.IsList.push t2 _
    wp_walk using wpAny_pyIter_tuple T1, wpAny_pyIter_list T2
    exact ⟨_, rfl, q⟩
section
variable {prog : Program} {w : World} {A : Around} {E : Value → Shared → Prop} {s : Shared}
theorem call_zipT {l1 l2 : Addr} {xs ys : Array Value} {Q : Value → Shared → Prop} (t1 : s.heap.IsTuple l1 xs) (t2 : s.heap.IsList l2 ys)
    (h : ∀ h', IsZip h' (s.heap.objs.size + 4) (s.heap.objs.size + 2) (s.heap.objs.size + 3) .none → IsPair h' (s.heap.objs.size + 2) (.ref s.heap.objs.size) (.ref (s.heap.objs.size + 1)) →
      IsPair h' (s.heap.objs.size + 3) .none .none → h'.IsTupleIter s.heap.objs.size l1 0 → h'.IsListIter (s.heap.objs.size + 1) l2 0 → h'.objs.size = s.heap.objs.size + 5 →
      (∀ c o, s.heap.get? c = some o → h'.get? c = some o) → Q (.ref (s.heap.objs.size + 4)) { s with heap := h' }) :
    wpAny (model prog w) A (call (.type "zip") [.ref l1, .ref l2]) Q E s := by
  refine callType_new F.called_zip (by decide) (F.typeCall_zip_2 _ _) (F.newCall_zip_2 _ _) (fun obj => F.args_object_init_3 obj _ _) F.entry_zip_new (zipT_new l1 l2 xs ys) ⟨t1, t2, ?_⟩
  have z1 : (zT1 s.heap l1).objs.size = s.heap.objs.size + 1 := Heap.size_push ..
  have z2 : (zT2 s.heap l1 l2).objs.size = s.heap.objs.size + 2 := by rw [Heap.size_push, z1]
  have z3 : (zT3 s.heap l1 l2).objs.size = s.heap.objs.size + 3 := by rw [Heap.size_push, z2]
  have z4 : (zT4 s.heap l1 l2).objs.size = s.heap.objs.size + 4 := by rw [Heap.size_push, z3]
  have z5 : (zT5 s.heap l1 l2).objs.size = s.heap.objs.size + 5 := by rw [Heap.size_push, z4]
  have g5 : (zT5 s.heap l1 l2).get? (zT4 s.heap l1 l2).objs.size = some _ := Heap.get?_push_size _ rfl
  have g4 : (zT5 s.heap l1 l2).get? (zT3 s.heap l1 l2).objs.size = some _ := Heap.get?_push_of_some _ (Heap.get?_push_size _ rfl)
  have g3 : (zT5 s.heap l1 l2).get? (zT2 s.heap l1 l2).objs.size = some _ := Heap.get?_push_of_some _ (Heap.get?_push_of_some _ (Heap.get?_push_size _ rfl))
  have g2 : (zT5 s.heap l1 l2).get? (zT1 s.heap l1).objs.size = some _ := Heap.get?_push_of_some _ (Heap.get?_push_of_some _ (Heap.get?_push_of_some _ (Heap.get?_push_size _ rfl)))
  have g1 : (zT5 s.heap l1 l2).get? s.heap.objs.size = some _ := Heap.get?_push_of_some _ (Heap.get?_push_of_some _ (Heap.get?_push_of_some _ (Heap.get?_push_of_some _ (Heap.get?_push_size _ rfl))))
  show _ ∧ _
  rw [z2, z3, z4] at g5
  rw [z1, z2] at g3
  rw [z3] at g4
  rw [z1] at g2
  rw [z4]
  exact ⟨⟨_, g5, rfl⟩, h _ g5 g3 g4 ⟨_, g1, rfl, rfl⟩ ⟨_, g2, rfl, rfl⟩ z5 fun c o x =>
    Heap.get?_push_of_some _ (Heap.get?_push_of_some _ (Heap.get?_push_of_some _ (Heap.get?_push_of_some _ (Heap.get?_push_of_some _ x))))⟩
end
end TwI

end

section
set_option Elab.async false
set_option linter.all false
set_option maxRecDepth 100000
namespace TwI
open PySem

theorem lri_len : typeLookup (.type "list_reverseiterator") "__len__" = pure none := by
  rw [typeLookup_type, builtinLookup_eq_fast]
  kernel_rfl
theorem lri_hint : typeLookup (.type "list_reverseiterator") "__length_hint__" = pure (some (.builtin "list_reverseiterator.__length_hint__")) := by
  rw [typeLookup_type, builtinLookup_eq_fast]
  kernel_rfl
section
variable {prog : Program} {w : World} {A : Around} {E : Value → Shared → Prop} {s : Shared}
theorem extend_rev {R : Result → Shared → Prop} {it l S : Addr} {items : Array Value} {c₀ : Nat} (hh : A.handled = none) (gi : s.heap.IsRevIter it l ((items.size : Int) - 1)) (gl : s.heap.IsList l items) (ne : l ≠ it) (hz : items.size ≤ sizeLine)
    (hSi : S ≠ it) (hSl : S ≠ l) (res : Value) (hS : s.heap.get? S = some { cls := .type "list", dict := none, data := .seq #[] c₀, slots := #[] })
    (k : ∀ h' tk acc c, (∀ b o, b ≠ S → b ≠ it → s.heap.get? b = some o → h'.get? b = some o) → h'.get? S = some { cls := .type "list", dict := none, data := .seq acc c, slots := #[] } →
      ItemsOf (fun i v => items[items.size - 1 - i]? = some v) acc items.size → R (.ok (.ret res)) { s with heap := h', toks := tk }) :
    wpAny (model prog w) A.in1 (Builtin.List.listExtendWith (.ref S) (.ref it) res)
      (fun fin s' => match fin with | .done f => R (.ok f) s' | .again c' => c'.quiet = true ∧ codeAny (model prog w) A c' R s') (fun e s' => R (.error e) s') s := by
  have W := (Walks.listRev (prog := prog) (w := w) (A := A.in1) hh it l ne items).toS
  have hSf : S ∉ [it, l] := by simp [hSi, hSl]
  have tI : s.TypeIs (.ref it) "list_reverseiterator" := gi.typeIs
  unfold Builtin.List.listExtendWith
  refine wpAny_bind (wpAny_typeOf tI ?_)
  have e1 : Builtin.List.listSameRef (.ref S) (.ref it) = false := by simp [Builtin.List.listSameRef, hSi]
  have e2 : (Value.type "list_reverseiterator" == Value.type "list") = false := by decide
  have e3 : (Value.type "list_reverseiterator" == Value.type "tuple") = false := by decide
  simp only [e1, e2, e3, Bool.or_false, Bool.false_eq_true, if_false]
  refine wpAny_bind (wpAny_pyIter_revIter gi ?_)
  refine wpAny_bind (wpAny_holding ?_)
  unfold Builtin.List.listLengthHint
  refine wpAny_bind (wpAny_specialOf tI lri_len ?_)
  show wpAny _ A.in1 (specialOf (Value.ref it) (Str.ofString "__length_hint__") >>= _) _ _ _
  refine wpAny_bind (wpAny_specialOf tI lri_hint ?_)
  generalize hid : ("list_reverseiterator.__length_hint__" : String) = id0
  wp_delta
  rw [show splitId id0 = some ("list_reverseiterator", "__length_hint__") from by subst hid; decide +kernel]
  subst hid
  refine wpAny_bind (wpAny_isInstance (b := true) tI (by rw [isSubtype_type]; kernel_rfl) ?_)
  refine wpAny_pure ?_
  rw [if_neg (by decide)]
  refine wpAny_pure ⟨plainId_quiet F.plain_extend_loop _, codeAny_extend_loopS W hz S hSf res items.size 0 _ #[] c₀ rfl (Nat.zero_le _) ⟨Nat.zero_le _, by simpa using gi, gl⟩ hS (ItemsOf.nil _) fun s' acc' c' mv hS' hacc => ?_⟩
  rw [Moved.eq_with mv]
  refine k s'.heap s'.toks acc' c' (fun b o h1 h2 e => mv.heap b o (fun hm => ?_) e) hS' hacc
  rcases List.mem_cons.mp hm with q | q
  · exact h1 q
  · exact h2 (List.mem_singleton.mp q)
theorem call_list_rev {Q : Value → Shared → Prop} {it l : Addr} {items : Array Value} (hh : A.handled = none) (gi : s.heap.IsRevIter it l ((items.size : Int) - 1)) (gl : s.heap.IsList l items) (ne : l ≠ it) (hz : items.size ≤ sizeLine)
    (k : ∀ h' tk acc c, (∀ b o, b ≠ it → s.heap.get? b = some o → h'.get? b = some o) → h'.get? s.heap.objs.size = some { cls := .type "list", dict := none, data := .seq acc c, slots := #[] } →
      ItemsOf (fun i v => items[items.size - 1 - i]? = some v) acc items.size → Q (.ref s.heap.objs.size) { s with heap := h', toks := tk }) :
    wpAny (model prog w) A (call (.type "list") [.ref it]) Q E s := by
  refine callType_codes (Q₁ := fun obj s₁ => obj = .ref s.heap.objs.size ∧ s₁ = { s with heap := s.heap.push { cls := .type "list", data := .seq #[] } }) F.called_list (F.typeCall_list_1 _) F.entry_list_init
    (code_list_new _ ⟨rfl, rfl⟩) fun obj s₁ q₁ => ?_
  obtain ⟨rfl, rfl⟩ := q₁
  have hS : (s.heap.push { cls := .type "list", data := .seq #[] }).get? s.heap.objs.size = some { cls := .type "list", data := .seq #[] } := Heap.get?_push_size _ rfl
  have lit : it < s.heap.objs.size := by obtain ⟨_, e, _⟩ := gi; exact Heap.lt_size e
  have ll : l < s.heap.objs.size := by obtain ⟨_, e, _⟩ := gl; exact Heap.lt_size e
  refine ⟨⟨_, hS, rfl⟩, F.args_list_init_2 _ _, ?_⟩
  show wpAny _ _ (do let old ← Builtin.List.listItems (.ref s.heap.objs.size); Builtin.List.listUpdate (.ref s.heap.objs.size) (fun _ => #[]); letGo old.toList.reverse; Builtin.List.listExtendWith (.ref s.heap.objs.size) (.ref it) .none) _ _ _
  refine wpAny_bind ?_
  unfold Builtin.List.listItems
  refine wpAny_bind (wpAny_seqItems hS rfl (wpAny_pure ?_))
  show wpAny _ _ (updateSeq s.heap.objs.size (fun _ => #[]) >>= fun _ => letGo (#[] : Array Value).toList.reverse >>= fun _ => Builtin.List.listExtendWith (.ref s.heap.objs.size) (.ref it) .none) _ _ _
  refine wpAny_bind (wpAny_updateSeq hS rfl ?_)
  have hS2 := Heap.get?_update_self (Obj.mapSeq (fun _ => (#[] : Array Value))) hS rfl
  have oth : ∀ b o, s.heap.get? b = some o → ((s.heap.push { cls := .type "list", data := .seq #[] }).update s.heap.objs.size (Obj.mapSeq (fun _ => (#[] : Array Value)))).get? b = some o :=
    fun b o e => (Heap.get?_update_other _ _ (Nat.ne_of_gt (Heap.lt_size e))).trans (Heap.get?_push_of_some _ e)
  refine wpAny_bind (wpAny_letGo ?_)
  refine extend_rev (A := A.in1) hh (gi.at fun o e => oth _ o e) (gl.at fun o e => oth _ o e) ne hz (Nat.ne_of_gt lit) (Nat.ne_of_gt ll) .none hS2 fun h' tk acc c kp hS' hacc => ?_
  exact ⟨rfl, k h' tk acc c (fun b o h1 e => kp b o (Nat.ne_of_lt (Heap.lt_size e)) h1 (oth b o e)) hS' hacc⟩
end
end TwI

end

section
set_option Elab.async false
set_option linter.all false
set_option maxRecDepth 100000
namespace TwI
open PySem PyProof.Rows
open PySem.SeqAt
open PySem.AutoSeq1 (wpAny_loadPart')
open PySem.MeetsSeq PySem.MeetsSeq2 PySem.MeetsSeq3

def lexL : List Int → List Int → Bool
  | [], [] => false
  | [], _ :: _ => true
  | _ :: _, [] => false
  | x :: xs, y :: ys => if x = y then lexL xs ys else decide (x < y)
theorem lexL_cons (x y : Int) (xs ys : List Int) : lexL (x :: xs) (y :: ys) = if x = y then lexL xs ys else decide (x < y) := rfl
theorem ints_get {vs : List Value} {ns : List Int} (h : IntsAre vs ns) {k : Nat} {z : Int} (hz : ns[k]? = some z) : ∃ t, vs[k]? = some (.int z t) := by
  induction h generalizing k with
  | nil => simp at hz
  | cons a t _ ih =>
    cases k with
    | zero =>
      have : a = z := by simpa using hz
      exact ⟨t, by rw [this]; rfl⟩
    | succ k => exact ih (by simpa using hz)
theorem lt_loop (l b : Addr) (items items2 : Array Value) (n n2 : Nat) (dd dd2 : Option Addr) (sl sl2 : Array (Option Value)) (ns ms : List Int) (gi : IntsAre items.toList ns) (gj : IntsAre items2.toList ms) (m : Nat) :
    ∀ i : Nat, ns.length - i = m → Meets (Builtin.«list.__eq__.loop» ⟨[.ref l, .ref b, rawInt i, rawInt 0], []⟩)
      (fun A R s => s.heap.get? l = some { cls := .type "list", dict := dd, data := .seq items n, slots := sl } ∧ s.heap.get? b = some { cls := .type "list", dict := dd2, data := .seq items2 n2, slots := sl2 } ∧
        i ≤ ns.length ∧ i ≤ ms.length ∧ R (.ok (.ret (.bool (lexL (ns.drop i) (ms.drop i))))) s) := by
  have z1 : items.size = ns.length := by rw [← gi.length]; simp
  have z2 : items2.size = ms.length := by rw [← gj.length]; simp
  induction m with
  | zero =>
    intro i hk prog w A R s h
    obtain ⟨hp, g, d, tk, os⟩ := s
    obtain ⟨gl, gb, h1, h2, q⟩ := h
    wp_walk using wpAny_loadPart' gl, wpAny_loadPart' gb
    have e1 : items[((i : Nat) : Int).toNat]? = none := by simp; omega
    have ed : ns.drop i = [] := List.drop_of_length_le (by omega)
    rw [ed] at q
    rw [e1]
    wp_walk using wpAny_loadPart' gl, wpAny_loadPart' gb
    show R (.ok (.ret (.bool (decide (items.size < items2.size))))) _
    have ev : lexL [] (ms.drop i) = decide (items.size < items2.size) := by
      cases e : ms.drop i with
      | nil =>
        have := congrArg List.length e
        rw [List.length_drop, List.length_nil] at this
        exact (decide_eq_false (by omega)).symm
      | cons y ys =>
        have := congrArg List.length e
        rw [List.length_drop, List.length_cons] at this
        exact (decide_eq_true (by omega)).symm
    rw [ev] at q
    exact q
  | succ m ih =>
    intro i hk prog w A R s h
    obtain ⟨hp, g, d, tk, os⟩ := s
    obtain ⟨gl, gb, h1, h2, q⟩ := h
    have hi : i < ns.length := by omega
    obtain ⟨t, et⟩ := ints_get gi (List.getElem?_eq_getElem hi)
    have e1 : items[((i : Nat) : Int).toNat]? = some (.int ns[i] t) := by
      rw [Int.toNat_natCast, ← Array.getElem?_toList]
      exact et
    have ed : ns.drop i = ns[i] :: ns.drop (i + 1) := List.drop_eq_getElem_cons hi
    wp_walk using wpAny_loadPart' gl, wpAny_loadPart' gb
    by_cases hj : i < ms.length
    · obtain ⟨u, eu⟩ := ints_get gj (List.getElem?_eq_getElem hj)
      have e2 : items2[((i : Nat) : Int).toNat]? = some (.int ms[i] u) := by
        rw [Int.toNat_natCast, ← Array.getElem?_toList]
        exact eu
      have ed2 : ms.drop i = ms[i] :: ms.drop (i + 1) := List.drop_eq_getElem_cons hj
      have hc : ((i : Int) + 1) = ((i + 1 : Nat) : Int) := by push_cast; rfl
      rw [ed, ed2, lexL_cons] at q
      rw [e1, e2]
      refine wpAny_bind ((SeqAt.EqAt.int_int ns[i] t ms[i] u) prog w _ _ ?_)
      by_cases hq : ns[i] = ms[i]
      · have hb : (ns[i] == ms[i]) = true := by simpa using hq
        rw [if_pos hq] at q
        rw [hb]
        wp_walk
        rw [hc]
        exact ⟨plainId_quiet plain_eq_loop _, codeAny_builtin entry_eq_loop (by
          rw [Around.under_plainId plain_eq_loop _]
          exact ih (i + 1) (by omega) prog w A R _ ⟨gl, gb, by omega, by omega, q⟩)⟩
      · have hb : (ns[i] == ms[i]) = false := by simpa using hq
        rw [if_neg hq] at q
        rw [hb]
        wp_walk using wpAny_loadPart' gl, wpAny_loadPart' gb
        rw [e1, e2]
        refine wpAny_bind ((PyProof.Rows.lt_int (a := ns[i]) (b := ms[i]) ?_ : wpAny (model prog w) A.in1 (compareOp .Lt (.int ns[i] t) (.int ms[i] u)) _ _ _))
        exact wpAny_pure q
    · have e2 : items2[((i : Nat) : Int).toNat]? = none := by simp; omega
      have ed2 : ms.drop i = [] := List.drop_of_length_le (by omega)
      rw [ed, ed2] at q
      rw [e1, e2]
      wp_walk using wpAny_loadPart' gl, wpAny_loadPart' gb
      show R (.ok (.ret (.bool (decide (items.size < items2.size))))) _
      have ev : decide (items.size < items2.size) = false := decide_eq_false (by omega)
      rw [ev]
      exact q
theorem list_lt (l b : Addr) (items items2 : Array Value) (n n2 : Nat) (dd dd2 : Option Addr) (sl sl2 : Array (Option Value)) (ns ms : List Int) (gi : IntsAre items.toList ns) (gj : IntsAre items2.toList ms) :
    Meets (Builtin.«list.__lt__» ⟨[.ref l, .ref b], []⟩)
      (fun A R s => s.heap.get? l = some { cls := .type "list", dict := dd, data := .seq items n, slots := sl } ∧ s.heap.get? b = some { cls := .type "list", dict := dd2, data := .seq items2 n2, slots := sl2 } ∧
        R (.ok (.ret (.bool (lexL ns ms)))) s) := by
  intro prog w A R s h
  obtain ⟨hp, g, d, tk, os⟩ := s
  obtain ⟨gl, gb, q⟩ := h
  have f3 := AutoSeq1.sub_list_list
  wp_walk using wpAny_loadPart' gl, wpAny_loadPart' gb
  exact ⟨plainId_quiet plain_eq_loop _, codeAny_builtin entry_eq_loop (by
    rw [Around.under_plainId plain_eq_loop _]
    exact lt_loop l b items items2 n n2 dd dd2 sl sl2 ns ms gi gj _ 0 rfl prog w A R _ ⟨gl, gb, Nat.zero_le _, Nat.zero_le _, q⟩)⟩
end TwI
namespace TwI
open PySem PyProof.Rows
section
variable {prog : Program} {w : World} {A : Around} {E : Value → Shared → Prop} {s : Shared}
theorem oneLt_list {l b : Addr} {vs ws : List Value} {ns ms : List Int} {Q : Bool → Shared → Prop} (hl : s.heap.IsList l vs.toArray) (hb : s.heap.IsList b ws.toArray) (gi : IntsAre vs ns) (gj : IntsAre ws ms) (hu : A.units < cLine)
    (q : Q (lexL ns ms) s) : wpAny (model prog w) A (oneLt' true (.ref l) (.ref b)) Q E s := by
  obtain ⟨⟨c1, d1, da1, sl1⟩, o1, hc1, n1, hd1⟩ := hl
  obtain ⟨⟨c2, d2, da2, sl2⟩, o2, hc2, n2, hd2⟩ := hb
  simp only at hc1 hd1 hc2 hd2
  subst hc1 hd1 hc2 hd2
  rw [oneLt'_eq]
  simp only [if_true]
  refine wpAny_bind (wpAny_cRoomFor hu ?_)
  refine wpAny_bind (wpAny_callSpecialIfBound?_slot ⟨_, o1, rfl⟩ PySem.F.slot_list_lt
    (call_meets PySem.F.slot_list_lt ⟨_, o1, rfl⟩ PySem.F.entry_list_lt (PySem.F.args_list_lt_2 _ _) (list_lt l b vs.toArray ws.toArray n1 n2 d1 d2 sl1 sl2 ns ms (by simpa using gi) (by simpa using gj)) ⟨o1, o2, ?_⟩))
  exact wpAny_truthy_bool q
end
end TwI

end

section
set_option Elab.async false
set_option linter.all false
set_option maxRecDepth 100000
namespace L2
open PySem PySem.Spec PyProof.Rows

theorem for_it {J : It} {n : Nat} {g : TG} {tb : TS} {D : Ends} {σ : St} {H : Hp} (Pv : Nat → St → Hp → Prop) (h0 : Pv 0 σ H)
    (hgo : ∀ i σ H, i < n → Pv i σ H → J.go i H) (hst : ∀ σ H, Pv n σ H → J.stop n H)
    (hs : ∀ i σ H x H', i < n → Pv i σ H → J.yld i H x H' → g x σ H' fun σ2 H2 => tb { D with nx := Pv (i + 1), ct := Pv (i + 1), bk := D.nx } σ2 H2) (hd : ∀ σ H, Pv n σ H → D.nx σ H) :
    ∃ W : Nat → Nat → St → Hp → Prop, (∃ m, W 0 m σ H) ∧ ∀ i m σ H, W i m σ H →
      (J.stop i H ∧ D.nx σ H) ∨ (J.go i H ∧ ∃ N : St → Hp → Prop, (∀ σ' H', N σ' H' → ∃ m', m' < m ∧ W (i + 1) m' σ' H') ∧ ∀ x H', J.yld i H x H' → g x σ H' fun σ2 H2 => tb { D with nx := N, ct := N, bk := D.nx } σ2 H2) := by
  refine ⟨fun i m σ H => m = n - i ∧ i ≤ n ∧ Pv i σ H, ⟨n, by simp, Nat.zero_le _, h0⟩, ?_⟩
  rintro i m σ H ⟨rfl, hi, p⟩
  by_cases hlt : i < n
  · exact .inr ⟨hgo i σ H hlt p, Pv (i + 1), fun σ' H' p' => ⟨n - (i + 1), by omega, rfl, hlt, p'⟩, fun x H' y => hs i σ H x H' hlt p y⟩
  · have e : i = n := by omega
    subst e
    exact .inl ⟨hst σ H p, hd σ H p⟩
theorem lc_it {J : It} {n : Nat} {g : TG} {tt : TT} {te : TE} {vs : List Nat} {σ : St} {H1 : Hp} {D : Addr} {Qd : Hp → Prop} (Pv : Nat → Hp → Prop) (h0 : Pv 0 (upd H1 D (.lst [])))
    (hgo : ∀ i H, i < n → Pv i H → J.go i H) (hst : ∀ H, Pv n H → J.stop n H)
    (hs : ∀ i H x H', i < n → Pv i H → J.yld i H x H' → g x (wipe σ vs) H' fun σ2 H2 => wipe σ2 vs = wipe σ vs ∧ tt σ2 H2 fun b H3 =>
      if b = true then te σ2 H3 fun y H4 => ∃ acc, H4 D = some (.lst acc) ∧ acc.length < sizeLine ∧ Pv (i + 1) (upd H4 D (.lst (acc ++ [y]))) else Pv (i + 1) H3) (hd : ∀ H, Pv n H → Qd H) :
    ∃ W : Nat → Nat → Hp → Prop, (∃ m, W 0 m (upd H1 D (.lst []))) ∧ ∀ i m H, W i m H →
      (J.stop i H ∧ Qd H) ∨ (J.go i H ∧ ∃ Nx : Hp → Prop, (∀ H', Nx H' → ∃ m', m' < m ∧ W (i + 1) m' H') ∧ ∀ x H', J.yld i H x H' → g x (wipe σ vs) H' fun σ2 H2 => wipe σ2 vs = wipe σ vs ∧ tt σ2 H2 fun b H3 =>
        if b = true then te σ2 H3 fun y H4 => ∃ acc, H4 D = some (.lst acc) ∧ acc.length < sizeLine ∧ Nx (upd H4 D (.lst (acc ++ [y]))) else Nx H3) := by
  refine ⟨fun i m H => m = n - i ∧ i ≤ n ∧ Pv i H, ⟨n, by simp, Nat.zero_le _, h0⟩, ?_⟩
  rintro i m H ⟨rfl, hi, p⟩
  by_cases hlt : i < n
  · exact .inr ⟨hgo i H hlt p, Pv (i + 1), fun H' p' => ⟨n - (i + 1), by omega, rfl, hlt, p'⟩, fun x H' y => hs i H x H' hlt p y⟩
  · have e : i = n := by omega
    subst e
    exact .inl ⟨hst H p, hd H p⟩
theorem for_enum {K : PySem.W.Frag} {a : Addr} {xs : List V} {g : TG} {tb : TS} {D : Ends} {σ : St} {H : Hp} (Pv : Nat → St → Hp → Prop) (h0 : Pv 0 σ H) (hl : ∀ i σ H, i ≤ xs.length → Pv i σ H → SqL K H a xs)
    (hs : ∀ i x σ H T, xs[i]? = some x → Pv i σ H → H T = none → g (.ref T) σ (upd H T (.tup [.int (i : Nat), x])) fun σ2 H2 => tb { D with nx := Pv (i + 1), ct := Pv (i + 1), bk := D.nx } σ2 H2) (hd : ∀ σ H, Pv xs.length σ H → D.nx σ H) :
    ∃ W : Nat → Nat → St → Hp → Prop, (∃ m, W 0 m σ H) ∧ ∀ i m σ H, W i m σ H →
      ((Ite K a).stop i H ∧ D.nx σ H) ∨ ((Ite K a).go i H ∧ ∃ N : St → Hp → Prop, (∀ σ' H', N σ' H' → ∃ m', m' < m ∧ W (i + 1) m' σ' H') ∧ ∀ x H', (Ite K a).yld i H x H' → g x σ H' fun σ2 H2 => tb { D with nx := N, ct := N, bk := D.nx } σ2 H2) := by
  refine for_it (J := Ite K a) (n := xs.length) Pv h0 (fun i σ H hi p => ⟨xs, xs[i], hl i σ H (Nat.le_of_lt hi) p, by simp [hi]⟩) (fun σ H p => ⟨xs, hl _ σ H (Nat.le_refl _) p, Nat.le_refl _⟩) (fun i σ H v H' hi p y => ?_) hd
  obtain ⟨T, x, rfl, hT, rfl, hx⟩ := y
  exact hs i x σ H T (hx xs (hl i σ H (Nat.le_of_lt hi) p)) p hT
theorem lc_enum {K : PySem.W.Frag} {a : Addr} {xs : List V} {g : TG} {tt : TT} {te : TE} {vs : List Nat} {σ : St} {H1 : Hp} {D : Addr} {Qd : Hp → Prop} (Pv : Nat → Hp → Prop) (h0 : Pv 0 (upd H1 D (.lst []))) (hl : ∀ i H, i ≤ xs.length → Pv i H → SqL K H a xs)
    (hs : ∀ i x H T, xs[i]? = some x → Pv i H → H T = none → g (.ref T) (wipe σ vs) (upd H T (.tup [.int (i : Nat), x])) fun σ2 H2 => wipe σ2 vs = wipe σ vs ∧ tt σ2 H2 fun b H3 =>
      if b = true then te σ2 H3 fun y H4 => ∃ acc, H4 D = some (.lst acc) ∧ acc.length < sizeLine ∧ Pv (i + 1) (upd H4 D (.lst (acc ++ [y]))) else Pv (i + 1) H3) (hd : ∀ H, Pv xs.length H → Qd H) :
    ∃ W : Nat → Nat → Hp → Prop, (∃ m, W 0 m (upd H1 D (.lst []))) ∧ ∀ i m H, W i m H →
      ((Ite K a).stop i H ∧ Qd H) ∨ ((Ite K a).go i H ∧ ∃ Nx : Hp → Prop, (∀ H', Nx H' → ∃ m', m' < m ∧ W (i + 1) m' H') ∧ ∀ x H', (Ite K a).yld i H x H' → g x (wipe σ vs) H' fun σ2 H2 => wipe σ2 vs = wipe σ vs ∧ tt σ2 H2 fun b H3 =>
        if b = true then te σ2 H3 fun y H4 => ∃ acc, H4 D = some (.lst acc) ∧ acc.length < sizeLine ∧ Nx (upd H4 D (.lst (acc ++ [y]))) else Nx H3) := by
  refine lc_it (J := Ite K a) (n := xs.length) Pv h0 (fun i H hi p => ⟨xs, xs[i], hl i H (Nat.le_of_lt hi) p, by simp [hi]⟩) (fun H p => ⟨xs, hl _ H (Nat.le_refl _) p, Nat.le_refl _⟩) (fun i H v H' hi p y => ?_) hd
  obtain ⟨T, x, rfl, hT, rfl, hx⟩ := y
  exact hs i x H T (hx xs (hl i H (Nat.le_of_lt hi) p)) p hT
theorem lc_zip {K : PySem.W.Frag} {a b : Addr} {xs ys : List V} {g : TG} {tt : TT} {te : TE} {vs : List Nat} {σ : St} {H1 : Hp} {D : Addr} {Qd : Hp → Prop} (Pv : Nat → Hp → Prop) (he : xs.length = ys.length) (h0 : Pv 0 (upd H1 D (.lst []))) (hl : ∀ i H, i ≤ xs.length → Pv i H → SqL K H a xs ∧ SqL K H b ys)
    (hs : ∀ i x y H T, xs[i]? = some x → ys[i]? = some y → Pv i H → H T = none → g (.ref T) (wipe σ vs) (upd H T (.tup [x, y])) fun σ2 H2 => wipe σ2 vs = wipe σ vs ∧ tt σ2 H2 fun b H3 =>
      if b = true then te σ2 H3 fun y H4 => ∃ acc, H4 D = some (.lst acc) ∧ acc.length < sizeLine ∧ Pv (i + 1) (upd H4 D (.lst (acc ++ [y]))) else Pv (i + 1) H3) (hd : ∀ H, Pv xs.length H → Qd H) :
    ∃ W : Nat → Nat → Hp → Prop, (∃ m, W 0 m (upd H1 D (.lst []))) ∧ ∀ i m H, W i m H →
      ((Itz K a b).stop i H ∧ Qd H) ∨ ((Itz K a b).go i H ∧ ∃ Nx : Hp → Prop, (∀ H', Nx H' → ∃ m', m' < m ∧ W (i + 1) m' H') ∧ ∀ x H', (Itz K a b).yld i H x H' → g x (wipe σ vs) H' fun σ2 H2 => wipe σ2 vs = wipe σ vs ∧ tt σ2 H2 fun b H3 =>
        if b = true then te σ2 H3 fun y H4 => ∃ acc, H4 D = some (.lst acc) ∧ acc.length < sizeLine ∧ Nx (upd H4 D (.lst (acc ++ [y]))) else Nx H3) := by
  refine lc_it (J := Itz K a b) (n := xs.length) Pv h0 (fun i H hi p => ⟨xs, ys, xs[i], ys[i], (hl i H (Nat.le_of_lt hi) p).1, (hl i H (Nat.le_of_lt hi) p).2, by simp [hi], by simp [← he, hi]⟩)
    (fun H p => ⟨xs, ys, (hl _ H (Nat.le_refl _) p).1, (hl _ H (Nat.le_refl _) p).2, .inl (Nat.le_refl _)⟩) (fun i H v H' hi p y => ?_) hd
  obtain ⟨T, x, y, rfl, hT, rfl, hx, hy⟩ := y
  exact hs i x y H T (hx xs (hl i H (Nat.le_of_lt hi) p).1) (hy ys (hl i H (Nat.le_of_lt hi) p).2) p hT

theorem for_rev {K : PySem.W.Frag} {a : Addr} {xs : List V} {g : TG} {tb : TS} {D : Ends} {σ : St} {H : Hp} (Pv : Nat → St → Hp → Prop) (h0 : Pv 0 σ H) (hl : ∀ i σ H, i ≤ xs.length → Pv i σ H → SqL K H a xs)
    (hs : ∀ i x σ H, i < xs.length → xs[xs.length - 1 - i]? = some x → Pv i σ H → g x σ H fun σ2 H2 => tb { D with nx := Pv (i + 1), ct := Pv (i + 1), bk := D.nx } σ2 H2) (hd : ∀ σ H, Pv xs.length σ H → D.nx σ H) :
    ∃ W : Nat → Nat → St → Hp → Prop, (∃ m, W 0 m σ H) ∧ ∀ i m σ H, W i m σ H →
      ((Itv K a xs.length).stop i H ∧ D.nx σ H) ∨ ((Itv K a xs.length).go i H ∧ ∃ N : St → Hp → Prop, (∀ σ' H', N σ' H' → ∃ m', m' < m ∧ W (i + 1) m' σ' H') ∧ ∀ x H', (Itv K a xs.length).yld i H x H' → g x σ H' fun σ2 H2 => tb { D with nx := N, ct := N, bk := D.nx } σ2 H2) := by
  refine for_it (J := Itv K a xs.length) (n := xs.length) Pv h0 (fun i σ H hi p => ⟨hi, xs, xs[xs.length - 1 - i], hl i σ H (Nat.le_of_lt hi) p, List.getElem?_eq_getElem _⟩) (fun σ H p => Nat.le_refl _) (fun i σ H v H' hi p y => ?_) hd
  obtain ⟨e, y⟩ := y
  subst e
  exact hs i v σ _ hi (y xs (hl i σ _ (Nat.le_of_lt hi) p)) p
def tCallL (i : Nat) (R : Addr → Sp → Prop) (E : XK) (t : TA) : TE := fun σ H Q => ∃ f sp, σ[i]? = some (some (.ref f)) ∧ R f sp ∧ t σ H fun vs H1 => sp vs H1 Q E
theorem pe_callL {X : Cx} {R : Addr → Sp → Prop} {E : XK} {i : Nat} {x : Str} {p pos : Pos} {e : Expr} {es : List Expr} {t : TA} (hN : X.N[i]? = some x) (hv : Vis X.env.scope x)
    (hR : ∀ f sp, R f sp → ∃ (CX : CXT) (k : Nat) (fd : FuncData) (ps : List Str), FnOk X.prog X.w X.K X.mg X.base CX k f fd ps sp ∧ Room k X.A ∧ PySem.W.keepIn X.K (.ref f) = true ∧ Binds X.K fd ps [] ∧ Passes CX X E)
    (ha : PA X (e :: es) t) (hdb : (x == ("__debug__" : Str)) = false := by decide) (hcd : (x == ("__classdict__" : Str)) = false := by decide)
    (he : starEach (e :: es) X.env = (false, eval e X.env) :: starEach es X.env := by rfl) (hpl : (backTo pos (starEach es X.env)).any (·.1) = false := by rfl) :
    PE X (.Call (.Name x p) (e :: es) [] pos) (tCallL i R E t) := by
  intro pins s σ H Q I h
  obtain ⟨f, sp, hf, hr, h⟩ := h
  obtain ⟨CX, k, fd, ps, F, room, hk, hb, hx⟩ := hR f sp hr
  refine wpAny_Call_Name_kw (thn (pe_var hN hv hdb hcd pins s σ H (fun v H' => v = .ref f ∧ H' = H) I ⟨.ref f, hf, rfl, rfl⟩) fun u s1 ⟨v, H1, I1, r1, e1, e2⟩ => ?_)
  subst e1 e2
  obtain rfl : u = Value.ref f := r1
  refine PySem.W.callWith_K (h₀ := X.base) I.ok.mod.kin hk (thn (ha pos pins s1 σ H1 _ I1 h) fun us s2 ⟨vs, H2, I2, r, q⟩ => ⟨I2.kIn, ?_⟩) he hpl
  exact run_fn (dvs := []) (ds := []) F room hb .nil hx I2 r (by rw [List.append_nil]; exact q)

def tKGet (f : Int → Option V) (ty : TE) : TE := fun σ H Q => ty σ H fun y H1 => ∃ k v, y = .int k ∧ f k = some v ∧ Q v H1
def KDict (P : Program) (w : World) (K : PySem.W.Frag) (d : Addr) (f : Int → Option V) : Prop :=
  ∃ (o : Obj) (es : Array DictEntry) (ep : Nat), K.lookup d = some o ∧ o.ExactDict ∧ o.data = .dict es ep ∧ KeysOf (PySem.intKind P w) es ∧ ∀ k v, f k = some v → ∃ u, findBy (PySem.intKind P w).is es k = some u ∧ RelV v u
theorem pe_kget {X : Cx} {x : Str} {d : Addr} {f : Int → Option V} {i : Expr} {p pos : Pos} {ty : TE} (hg : Gl X x) (hm : X.mg x = some (.ref d)) (hK : KDict X.prog X.w X.K d f) (hi : PE X i ty) (hs : NoSl i) (hd : (x == ("__debug__" : Str)) = false := by decide) :
    PE X (.Subscript (.Name x p) i pos) (tKGet f ty) := by
  intro pins s σ H Q I h
  obtain ⟨o, es, ep, lk, ex, hda, hke, hfi⟩ := hK
  refine subD_of PySem.F.slot_dict_getitem.lookup hs (ld_glob I hg hm ?_ hd)
  refine thn (hi pins s σ H _ I h) fun iv s2 ⟨y, H2, I2, ry, k, v, ey, hf, q2⟩ => ?_
  subst ey
  obtain ⟨t, rfl⟩ := ry
  obtain ⟨u, hu, ru⟩ := hfi k v hf
  have ho := I2.kIn d o lk
  have hm : s2.heap.MapOf (PySem.intKind X.prog X.w) d (fun k => findBy (PySem.intKind X.prog X.w).is es k) := ⟨o, es, ep, ho, ex, hda, hke, fun _ => rfl⟩
  exact ⟨hm.typeIs, wpAny_getItem_of (knd := PySem.intKind X.prog X.w) (k := k) (by simp [PySem.intKind, Value.isInt]) hm hu ⟨v, H2, I2.tok _, ru, q2⟩⟩

def rSetN (K : PySem.W.Frag) : List V → Hp → VK → Prop := fun vs H Q => ∃ (a : Addr) (ns : List Int), vs = [V.ref a] ∧ SqL K H a (ns.map V.int) ∧ ns.length + 1 < scanBound ∧
  ∀ p S, H p = none → Q (.ref p) (upd H p (.set S (firstMet (fun i => ns.getD i 0) ns.length).length))
theorem cr_set {X : Cx} (hc : X.calm = true) : CallR X (.type "set") (rSetN X.K) := by
  intro pins s σ H vs us Q I r h
  obtain ⟨a, ns, rfl, hq, hz, h⟩ := h
  obtain rfl := Vals.ref1 r
  obtain ⟨its, rv, p, hzz⟩ := I.list hq
  have hl : its.length = ns.length := by have := rv.length; simpa using this.symm
  refine call_set_list (I.ok.hd hc) p.isList (ns := ns) (by simpa using Vals.ints rv) (by simpa [hl] using hz) fun h' tk hS hk => ?_
  have hf : H s.heap.objs.size = none := I.hok.fresh (Nat.le_refl _)
  have hsz : its.toArray.size = ns.length := by simpa using hl
  rw [hsz] at hS
  refine ⟨.ref s.heap.objs.size, _, I.laid (t' := tk) (fun b u e => hk b u (Heap.lt_size e) e) (Nat.le_refl _) ?_, rfl, h _ (fun k' => (firstMet (fun i => ns.getD i 0) ns.length).any (· == k')) hf⟩
  exact hS
theorem call_lenS {X : Cx} : CallR X (.builtin "len") (fun xs H Q => ∃ a S n, xs = [V.ref a] ∧ H a = some (.set S n) ∧ Q (.int n) H) := by
  intro pins s σ H vs us Q I r h
  obtain ⟨a, S, n, rfl, hH, h⟩ := h
  obtain rfl := Vals.ref1 r
  obtain ⟨o, es, ep, t, ho, hex, hd, he, hS, hb, hf, hn⟩ := I.hok a _ hH
  subst hn
  refine call_len_set ho hex hd hf (Int.lt_trans (Int.ofNat_lt.mpr hb) (by decide)) ⟨.int es.size, H, I.tok _, ⟨_, rfl⟩, h⟩

section
variable (K : PySem.W.Frag) {X : Cx} (hK : X.K = K)
include hK
theorem pe_fldK {e : Expr} {f : Str} {pos : Pos} {ta : TE} (he : PE X e ta) (hb : attributeBase e f X.env (eval e X.env) = eval e X.env) : PE X (.Attribute e f pos) (tFld K ta f) := by
  subst hK
  exact pe_fld he hb
theorem pg_tupK {es : List Expr} {k : Nat} {pos : Pos} {t : TGs} (n : Nat) (hc : X.calm = true) (h : PGs X es t)
    (hn : (assignEach es X.env).length = n) (hst : (assignEach es X.env).findIdx? (·.1) = none := by rfl) : PG X (.Tuple es k pos) (gTup K n t) := by
  subst hK
  exact pg_tup hc h hn hst
theorem ix_listK : IxR X (rIxL K) := by
  subst hK
  exact ix_list
end
theorem tyes {σ : St} {H : Hp} {A B : Hp → Prop} (h : A H) : tYes σ H (fun b H3 => if b = true then A H3 else B H3) := by
  show if true = true then A H else B H
  rw [if_pos rfl]
  exact h
end L2

end

section
set_option Elab.async false
set_option linter.all false
set_option maxRecDepth 100000
namespace TwI
open PySem PySem.W PyProof.Rows

def kasRun {α : Type} (n : Nat) (lt : Nat → Nat → Bool) : KasT α → Option α
  | .ret a => some a
  | .ask i j k => if i < n ∧ j < n then kasRun n lt (k (lt i j)) else none
theorem kasWp_run {α : Type} {cmp : Nat → Nat → (Bool → Shared → Prop) → Shared → Prop} {n : Nat} {lt : Nat → Nat → Bool} {s : Shared} {Q : α → Shared → Prop} {a : α} (hc : ∀ i j (C : Bool → Shared → Prop), i < n → j < n → C (lt i j) s → cmp i j C s) :
    ∀ t : KasT α, kasRun n lt t = some a → Q a s → t.kasWp cmp Q s
  | .ret b, h, q => by
    have e : b = a := Option.some.inj h
    subst e
    exact q
  | .ask i j k, h, q => by
    unfold kasRun at h
    by_cases c : i < n ∧ j < n
    · rw [if_pos c] at h
      exact hc i j _ c.1 c.2 (kasWp_run hc (k (lt i j)) h q)
    · rw [if_neg c] at h
      cases h
theorem keyed_unique {α : Type} (key : α → Int) : ∀ (l m : List α), l.Pairwise (fun a b => key a ≤ key b) → m.Pairwise (fun a b => key a ≤ key b) → (∀ c, l.filter (fun a => key a == c) = m.filter (fun a => key a == c)) → l = m
  | [], [], _, _, _ => rfl
  | [], b :: m, _, _, h => by
    have := h (key b)
    simp at this
  | a :: l, [], _, _, h => by
    have := h (key a)
    simp at this
  | a :: l, b :: m, hl, hm, h => by
    obtain ⟨l1, l2⟩ := List.pairwise_cons.mp hl
    obtain ⟨m1, m2⟩ := List.pairwise_cons.mp hm
    have ha : a ∈ (b :: m).filter (fun x => key x == key a) := by rw [← h (key a)]; simp
    have hb : b ∈ (a :: l).filter (fun x => key x == key b) := by rw [h (key b)]; simp
    have k1 : key b ≤ key a := by
      rcases List.mem_cons.mp (List.mem_filter.mp ha).1 with e | e
      · rw [e]; exact Int.le_refl _
      · exact m1 a e
    have k2 : key a ≤ key b := by
      rcases List.mem_cons.mp (List.mem_filter.mp hb).1 with e | e
      · rw [e]; exact Int.le_refl _
      · exact l1 b e
    have ke : key a = key b := by omega
    have h0 := h (key a)
    rw [List.filter_cons, List.filter_cons, if_pos (by simp), if_pos (by simp [ke])] at h0
    injection h0 with e1 e2
    subst e1
    congr 1
    refine keyed_unique key l m l2 m2 fun c => ?_
    have hc := h c
    rw [List.filter_cons, List.filter_cons] at hc
    by_cases e : (key a == c) = true
    · rw [if_pos e, if_pos e] at hc
      exact List.cons.inj hc |>.2
    · rw [if_neg e, if_neg e] at hc
      exact hc
theorem ns_fun {h : Heap} {L : Addr} {m m' : Str → Option Value} (a : h.Ns L m) (b : h.Ns L m') : m = m' := by
  obtain ⟨o, es, ep, ho, hd, _, hf⟩ := a
  obtain ⟨o', es', ep', ho', hd', _, hf'⟩ := b
  rw [ho] at ho'
  cases ho'
  rw [hd] at hd'
  cases hd'
  funext x
  rw [← hf x, ← hf' x]
end TwI
namespace L2
open PySem PySem.Spec PyProof.Rows
section
variable {X : Cx} {pins : List (Addr × Obj)} {σ : St} {H : Hp} {s : Shared} {h' : Heap} {m : Str → Option Value}
theorem ObjOk.there {P : Program} {w : World} {H : Hp} {h : Heap} {a : Addr} {o : HO} (x : ObjOk P w H h a o) : ∃ u, h.get? a = some u := by
  cases o with
  | lst xs => obtain ⟨_, _, _, _, e⟩ := x; exact ⟨_, e⟩
  | tup xs => obtain ⟨_, _, _, u, e, _⟩ := x; exact ⟨_, e⟩
  | dK kvs => obtain ⟨_, _, _, _, u, _, _, e, _⟩ := x; exact ⟨_, e⟩
  | dT kvs => obtain ⟨_, _, _, _, u, _, _, e, _⟩ := x; exact ⟨_, e⟩
  | set S n => obtain ⟨u, _, _, _, e, _⟩ := x; exact ⟨_, e⟩
  | ins C dx fs => obtain ⟨_, _, _, e, _⟩ := x; exact ⟨_, e⟩
  | own b => exact x
  | xd fs => obtain ⟨_, ⟨u, _, _, e, _⟩, _⟩ := x; exact ⟨_, e⟩
  | rng lo hi => obtain ⟨_, _, _, e⟩ := x; exact ⟨_, e⟩
  | frz u v => exact ⟨_, x.1⟩
  | tbl ps => exact ⟨_, x⟩
  | met f y => exact ⟨_, x⟩
  | ext φ => exact x.2.1
theorem Inv.ledger {t' : Nat} {D : Addr} {o : HO} (I : Inv X pins σ H s) (F0 : s.heap.Ns X.env.locals m) (F : h'.Ns X.env.locals m) (k : ∀ b u, b ≠ X.env.locals → s.heap.get? b = some u → h'.get? b = some u) (hD : s.heap.get? D = none)
    (new : ObjOk X.prog X.w (upd H D o) h' D o) : H D = none ∧ Inv X pins σ (upd H D o) { s with heap := h', toks := t' } := by
  have hn : H D = none := by
    cases e : H D with
    | none => rfl
    | some u =>
      obtain ⟨v, q⟩ := (I.hok D u e).there
      rw [hD] at q
      cases q
  have nD : ∀ b u, s.heap.get? b = some u → b ≠ D := fun b u e z => by
    rw [z, hD] at e
    cases e
  refine ⟨hn, I.step (g' := s.gens) (d' := s.drawn) (ch := []) (fun _ z => nomatch z) (fun b u hb _ _ e _ => k b u hb e) (fun b u hb _ _ e _ => ⟨u.slots, k b u hb e⟩) (fun b u _ e n => by rw [upd_ne (nD b u e)]; exact n)
    (fun b u _ e => ?_) (fun b xs e => by rw [upd_ne (fun z => by rw [z, hn] at e; cases e)]; exact e) (fun b u v e => by rw [upd_ne (fun z => by rw [z, hn] at e; cases e)]; exact e)
    (fun b ps e => ⟨#[], by rw [upd_ne (fun z => by rw [z, hn] at e; cases e), e]; simp⟩) (fun m' hm' => by rw [TwI.ns_fun hm' F0]; exact F) ?_ I.bare⟩
  · by_cases hb : b = X.env.locals
    · obtain ⟨o', _, _, ho', _⟩ := F
      exact ⟨o', by rw [hb]; exact ho'⟩
    · exact ⟨u, k b u hb e⟩
  · intro b u e
    by_cases hb : b = D
    · subst hb
      rw [upd_same] at e
      cases e
      exact new
    · rw [upd_ne hb] at e
      have hL : b ≠ X.env.locals := fun z => by rw [z, I.free] at e; cases e
      refine (I.hok b u e).stay (fun c v hc q => k c v ?_ q) (fun c q => ?_) fun c xs q => ?_
      · rcases hc with z | z
        · rw [z]; exact hL
        · exact fun z2 => by rw [z2, I.free] at z; cases z
      · rw [upd_ne (fun z => by rw [z, hn] at q; cases q)]; exact q
      · rw [upd_ne (fun z => by rw [z, hn] at q; cases q)]; exact q
theorem Inv.allNews_kept {D : Addr} {o : Obj} (I : Inv X pins σ H s) (F : Fr X.base X.env.locals h' m) (N : News X.base X.env.locals h' ((D, o) :: allNews X.base s.heap X.env.locals)) :
    ∀ b u, b ≠ X.env.locals → s.heap.get? b = some u → h'.get? b = some u := fun b u hb e => by
  cases q : X.base.get? b with
  | some v =>
    have := I.bk b v q
    rw [e] at this
    cases this
    exact F.keep b _ q
  | none => exact (N (b, u) (List.mem_cons_of_mem _ (mem_allNews hb q e))).1
theorem Inv.news_free {D : Addr} {o : Obj} (I : Inv X pins σ H s) (N : News X.base X.env.locals h' ((D, o) :: allNews X.base s.heap X.env.locals)) (lt : ∀ q ∈ allNews X.base s.heap X.env.locals, q.1 < D) : s.heap.get? D = none := by
  cases e : s.heap.get? D with
  | none => rfl
  | some u =>
    obtain ⟨_, n1, n2⟩ := N (D, o) List.mem_cons_self
    exact absurd (lt (D, u) (mem_allNews n1 n2 e)) (Nat.lt_irrefl _)
end
theorem refs_of : ∀ {rs : List Addr} {us : List Value}, Vals (rs.map V.ref) us → us = rs.map Value.ref
  | [], _, .nil => rfl
  | r :: rs, _, .cons h t => by
    rw [List.map_cons, ← refs_of t]
    cases h
    rfl
theorem vals_refs : ∀ (rs : List Addr), Vals (rs.map V.ref) (rs.map Value.ref)
  | [] => .nil
  | r :: rs => .cons rfl (vals_refs rs)
def rSortedLL (K : PySem.W.Frag) : List V → Hp → VK → Prop := fun vs H Q => ∃ (a : Addr) (rs : List Addr) (ls : List (List Int)) (p : Array Nat), vs = [V.ref a] ∧ SqL K H a (rs.map V.ref) ∧ rs.length = ls.length ∧ 2 ≤ rs.length ∧ rs.length < 64 ∧
  (∀ (k : Nat) (r : Addr) (l : List Int), rs[k]? = some r → ls[k]? = some l → H r = some (.lst (l.map V.int))) ∧
  TwI.kasRun rs.length (fun i j => TwI.lexL (ls.getD i []) (ls.getD j [])) (PySem.W.kas_sort rs.length) = some p ∧ (∀ i ∈ p.toList, i < rs.length) ∧ p.size ≤ 100 ∧
  ∀ q, H q = none → Q (.ref q) (upd H q (.lst ((p.toList.map fun i => rs.getD i 0).map V.ref)))
theorem cr_sortedLL {X : Cx} (hu : X.A.units + 2 < cLine) : CallR X (.builtin "sorted") (rSortedLL X.K) := by
  intro pins s σ H vs us Q I r h
  obtain ⟨a, rs, ls, p, rfl, hs, hl, h2, h64, hr, hrun, hp, hpz, q⟩ := h
  obtain ⟨its, rv, pl, hz⟩ := I.list hs
  rw [Vals.ref1 r]
  have ei := refs_of rv
  subst ei
  obtain ⟨m, F⟩ := I.fr
  have hln : (rs.map Value.ref).length = rs.length := List.length_map _
  -- the lists, in any heap that keeps them
  have look : ∀ (k : Nat) (hk : k < rs.length), ∃ (vs : List Value) (n : Nat), IntsAre vs (ls.getD k []) ∧ s.heap.get? (rs[k]) = some { cls := .type "list", data := .seq vs.toArray n } := fun k hk => by
    have e1 : rs[k]? = some rs[k] := List.getElem?_eq_getElem hk
    have e2 : ls[k]? = some ls[k] := List.getElem?_eq_getElem (by omega)
    obtain ⟨_, vs, n, rvs, e⟩ := I.hok _ _ (hr k _ _ e1 e2)
    have e3 : ls.getD k [] = ls[k] := by rw [List.getD_eq_getElem?_getD, e2]; rfl
    exact ⟨vs, n, by rw [e3]; exact rvs.ints, e⟩
  have nL : ∀ (k : Nat) (hk : k < rs.length), rs[k] ≠ X.env.locals := fun k hk z => by
    have e1 : rs[k]? = some rs[k] := List.getElem?_eq_getElem hk
    have e2 : ls[k]? = some ls[k] := List.getElem?_eq_getElem (by omega)
    have := hr k _ _ e1 e2
    rw [z, I.free] at this
    cases this
  have gd : ∀ (k : Nat) (hk : k < rs.length), (rs.map Value.ref).getD k Value.none = Value.ref rs[k] := fun k hk => by
    simp [List.getD_eq_getElem?_getD, hk]
  have N0 : News X.base X.env.locals s.heap (allNews X.base s.heap X.env.locals) := news_all
  have kp : ∀ (h1 : Heap), Fr X.base X.env.locals h1 m → News X.base X.env.locals h1 (allNews X.base s.heap X.env.locals) → ∀ b u, b ≠ X.env.locals → s.heap.get? b = some u → h1.get? b = some u := fun h1 F1 N1 b u hb e => by
    cases q : X.base.get? b with
    | some v =>
      have := I.bk b v q
      rw [e] at this
      cases this
      exact F1.keep b _ q
    | none => exact (N1 (b, u) (mem_allNews hb q e)).1
  refine PySem.W.kas_sorted (T := .type "list") F N0 pl.isList (by omega) (by omega) (fun h1 F1 N1 v hv => ?_) (by decide) fun D e1 h1 F1 N1 lt1 => ?_
  · obtain ⟨r0, hr0, rfl⟩ := List.mem_map.mp hv
    obtain ⟨k, hk, rfl⟩ := List.mem_iff_getElem.mp hr0
    obtain ⟨vs, n, _, e⟩ := look k hk
    have e' := kp h1 F1 N1 _ _ (nL k hk) e
    intro A Q' E' s' k' q'
    exact wpAny_typeOf ⟨_, k' _ _ e', rfl⟩ q'
  · have N1' : News X.base X.env.locals h1 (allNews X.base s.heap X.env.locals) := fun p hp => N1 p (List.mem_cons_of_mem _ hp)
    rw [hln]
    refine TwI.kasWp_run (n := rs.length) (lt := fun i j => TwI.lexL (ls.getD i []) (ls.getD j [])) (fun i j C hi hj hC => ?_) _ hrun ?_
    · show wpAny _ _ (keyLt' oneType' _ _) _ _ _
      rw [gd i hi, gd j hj, keyLt'_oneType]
      obtain ⟨v1, n1, g1, e1'⟩ := look i hi
      obtain ⟨v2, n2, g2, e2'⟩ := look j hj
      exact TwI.oneLt_list (A := X.A.in1.in1) ⟨_, kp h1 F1 N1' _ _ (nL i hi) e1', rfl, n1, rfl⟩ ⟨_, kp h1 F1 N1' _ _ (nL j hj) e2', rfl, n2, rfl⟩ g1 g2 hu hC
    · refine PySem.W.KasFin.intro F1 N1 (PySem.W.UpdF.head fun p hp => Nat.ne_of_lt (lt1 p hp)) fun h' c F' N' => ?_
      have hD := I.news_free N' lt1
      have eo : (p.toList.map fun i => (rs.map Value.ref).getD i Value.none) = (p.toList.map fun i => rs.getD i 0).map Value.ref := by
        rw [List.map_map]
        apply List.map_congr_left
        intro i hi
        have := hp i hi
        rw [gd i this]
        simp [List.getD_eq_getElem?_getD, this]
      have new : ObjOk X.prog X.w (upd H D (.lst ((p.toList.map fun i => rs.getD i 0).map V.ref))) h' D (.lst ((p.toList.map fun i => rs.getD i 0).map V.ref)) := by
        refine ⟨?_, _, c, vals_refs _, ?_⟩
        · rw [List.length_map, List.length_map, Array.length_toList]
          exact Nat.le_trans hpz (by decide)
        · have := (N' _ List.mem_cons_self).1
          rw [eo] at this
          exact this
      obtain ⟨hn, I'⟩ := I.ledger (t' := s.toks) F.ns F'.ns (I.allNews_kept F' N') hD new
      exact ⟨.ref D, _, I', rfl, q D hn⟩
def rSortedLen (K : PySem.W.Frag) : List V → Hp → VK → Prop := fun vs H Q => ∃ (a : Addr) (rs : List Addr) (kz : List Int), vs = [V.ref a] ∧ SqL K H a (rs.map V.ref) ∧ kz.length = rs.length ∧ rs.length ≤ 1000 ∧
  (∀ (k : Nat) (r : Addr) (z : Int), rs[k]? = some r → kz[k]? = some z → ∃ xs, H r = some (.lst xs) ∧ (xs.length : Int) = z) ∧
  ∀ (q : Addr) (ps : List (Int × Addr)), H q = none → ps.Perm (kz.zip rs) → ps.Pairwise (fun x y => x.1 ≤ y.1) → (∀ c, ps.filter (fun x => x.1 == c) = (kz.zip rs).filter (fun x => x.1 == c)) → Q (.ref q) (upd H q (.lst ((ps.map (·.2)).map V.ref)))
def adOf : Value → Addr
  | .ref a => a
  | _ => 0
theorem zip_refs : ∀ (kz : List Int) (rs : List Addr), kz.zip (rs.map Value.ref) = (kz.zip rs).map fun x => (x.1, Value.ref x.2)
  | [], _ => rfl
  | _ :: _, [] => rfl
  | z :: kz, r :: rs => by
    rw [List.map_cons, List.zip_cons_cons, List.zip_cons_cons, List.map_cons, zip_refs kz rs]
theorem sorted_len {X : Cx} {pins : List (Addr × Obj)} {s : Shared} {σ : St} {H : Hp} {vs : List V} {us : List Value} {Q : VK} (I : Inv X pins σ H s) (r : Vals vs us) (h : rSortedLen X.K vs H Q) :
    wpAny (model X.prog X.w) X.A (call (.builtin "sorted") us [(Str.ofString "key", .builtin "len")]) (EP X pins σ Q) X.xe s := by
  obtain ⟨a, rs, kz, rfl, hs, hkl, hz, hr, q⟩ := h
  obtain ⟨its, rv, pl, _⟩ := I.list hs
  rw [Vals.ref1 r]
  have ei := refs_of rv
  subst ei
  obtain ⟨m, F⟩ := I.fr
  have N0 : News X.base X.env.locals s.heap (allNews X.base s.heap X.env.locals) := news_all
  have hln : (rs.map Value.ref).length = rs.length := List.length_map _
  refine PyProof.Rows.ksk_sortedSt (kz := kz) (f := .builtin "len") (b := false) F N0 pl.isList (by omega) (by rw [hln]; exact Nat.le_trans hz (by decide)) (ksk_s1 _ _) (fun x => ksk_l1 _ _) (fun x => ksk_t4 "len" x) (fun i v k hv hk h1 tk own F1 N1 => ?_) fun D h' tk out c F' N' lt1 ko => ?_
  · rw [List.getElem?_map] at hv
    cases er : rs[i]? with
    | none => rw [er] at hv; cases hv
    | some r0 =>
      rw [er] at hv
      have ev : Value.ref r0 = v := Option.some.inj hv
      subst ev
      obtain ⟨xs, hx, hxz⟩ := hr i r0 k er hk
      obtain ⟨hzx, vs, n, rvs, e⟩ := I.hok _ _ hx
      have hL : r0 ≠ X.env.locals := fun z => by rw [z, I.free] at hx; cases hx
      have e' : h1.get? r0 = some { cls := .type "list", data := .seq vs.toArray n } := by
        cases qb : X.base.get? r0 with
        | some v =>
          have := I.bk r0 v qb
          rw [e] at this
          cases this
          exact F1.keep r0 _ qb
        | none => exact (N1 (r0, _) (List.mem_append_left _ (mem_allNews hL qb e))).1
      have hvl := rvs.length
      have hn := line63
      refine Calls.call_len_list (s := { s with heap := h1, toks := tk }) ⟨_, e', rfl, n, rfl⟩ (by simp only [List.size_toArray] <;> omega) ⟨h1, _, tk + 1, rfl, ?_, F1, N1⟩
      rw [List.size_toArray, ← hvl, hxz]
  · obtain ⟨ps, p1, p2, p3, p4⟩ := ko
    have hD := I.news_free N' lt1
    rw [zip_refs] at p1 p4
    have hps : ∀ x ∈ ps, x.2 = Value.ref (adOf x.2) := fun x hx => by
      obtain ⟨y, _, rfl⟩ := List.mem_map.mp (p1.mem_iff.mp hx)
      rfl
    have em : ∀ l : List (Int × Addr), (l.map fun x => (x.1, Value.ref x.2)).map (fun x => (x.1, adOf x.2)) = l := fun l => by
      rw [List.map_map]
      conv => rhs; rw [← List.map_id l]
      rfl
    have eo : out.toList = ((ps.map fun x => (x.1, adOf x.2)).map (·.2)).map Value.ref := by
      rw [p2, List.map_map, List.map_map]
      apply List.map_congr_left
      intro x hx
      exact hps x hx
    have q1 : (ps.map fun x => (x.1, adOf x.2)).Perm (kz.zip rs) := by
      have := p1.map fun x => (x.1, adOf x.2)
      rwa [em] at this
    have hlen : (ps.map fun x => (x.1, adOf x.2)).length ≤ 1000 := by
      rw [q1.length_eq, List.length_zip]
      omega
    have new : ObjOk X.prog X.w (upd H D (.lst (((ps.map fun x => (x.1, adOf x.2)).map (·.2)).map V.ref))) h' D (.lst (((ps.map fun x => (x.1, adOf x.2)).map (·.2)).map V.ref)) := by
      refine ⟨?_, _, c, vals_refs _, ?_⟩
      · rw [List.length_map, List.length_map]
        exact Nat.le_trans hlen (by decide)
      · have := (N' _ List.mem_cons_self).1
        rw [← eo]
        simpa using this
    obtain ⟨hn, I'⟩ := I.ledger (t' := tk) F.ns F'.ns (I.allNews_kept F' N') hD new
    refine ⟨.ref D, _, I', rfl, q D _ hn q1 ?_ fun c => ?_⟩
    · exact List.Pairwise.map _ (fun x y hxy => by simpa using hxy) p3
    · have := congrArg (fun l => l.map fun x : Int × Value => (x.1, adOf x.2)) (p4 c)
      simp only [List.filter_map] at this
      rw [em] at this
      rw [List.filter_map]
      exact this
def tSortedLen (K : PySem.W.Frag) (t : TA) : TE := fun σ H Q => t σ H fun vs H1 => rSortedLen K vs H1 Q
theorem pe_sortedLen {X : Cx} {e : Expr} {t : TA} {p p2 kp pos : Pos} (hg : Gl X "sorted") (hm : X.mg "sorted" = none) (hgl : Gl X "len") (hml : X.mg "len" = none) (ha : PA X [e] t) (hs : starEach [e] X.env = (false, eval e X.env) :: starEach [] X.env := by rfl) :
    PE X (.Call (.Name "sorted" p) [e] [⟨some "key", .Name "len" p2, kp⟩] pos) (tSortedLen X.K t) := by
  intro pins s σ H Q I h
  refine wpAny_Call_Name_kw (ld_blt I hg hm boot_sorted ?_)
  refine PyProof.Rows.callWith_kw (thn (ha pos pins s σ H _ I h) fun us s1 ⟨vs, H1, I1, r1, q1⟩ => ?_) (by rw [hs]; rfl) (by rw [hs]; rfl)
  refine PyProof.Rows.kws_cons (ld_blt I1 hgl hml PySem.boot_len (PyProof.Rows.kws_nil ?_))
  exact sorted_len I1 r1 q1
end L2

end

section
set_option Elab.async false
set_option linter.all false
set_option maxRecDepth 100000
namespace L2
open PySem PySem.Spec PyProof.Rows

def Ite1 (K : PySem.W.Frag) (a : Addr) : It :=
  ⟨fun i H => ∃ (xs : List V) (x : V), SqL K H a xs ∧ xs[i]? = some x, fun i H v H' => ∃ T x, v = .ref T ∧ H T = none ∧ H' = upd H T (.tup [.int ((i + 1 : Nat) : Int), x]) ∧ ∀ xs, SqL K H a xs → xs[i]? = some x, fun i H => ∃ xs : List V, SqL K H a xs ∧ xs.length ≤ i⟩
theorem turn_enum1 {P : Program} {w : World} {K : PySem.W.Frag} {elts : List Expr} {kk : Nat} {tpos : Pos} (a e it : Addr) :
    Turn P w K (.Tuple elts kk tpos) (Ite1 K a) [e, it] e (fun i h => (∃ old, IsEnum h e it ((i + 1 : Nat) : Int) old) ∧ h.IsListIter it a i ∧ e ≠ it) where
  mem := by simp
  obj := fun i h st b hb => by
    obtain ⟨⟨old, he⟩, ⟨o, ho, hc, hd⟩, _⟩ := st
    have e' : b = e ∨ b = it := by simpa using hb
    rcases e' with z | z
    · rw [z]; exact ⟨_, he, fun v q => nomatch q⟩
    · rw [z]; exact ⟨o, ho, fun v q => by rw [hd] at q; cases q⟩
  keep := fun i h h' st k => let ⟨⟨old, he⟩, hi, hne⟩ := st; ⟨⟨old, k e (by simp) _ he⟩, hi.at fun o q => k it (by simp) o q, hne⟩
  item := by
    intro X hP hw hK hc i pins s σ H E I hf st hg
    subst hP hw hK
    obtain ⟨⟨old, he⟩, hit, hne⟩ := st
    obtain ⟨xs, x, hq, hx⟩ := hg
    obtain ⟨its, rv, p, hz⟩ := I.list hq
    obtain ⟨u, hu, ru⟩ := rv.get hx
    have hel : e < s.heap.objs.size := Heap.lt_size he
    have hil : it < s.heap.objs.size := by obtain ⟨_, q, _⟩ := hit; exact Heap.lt_size q
    have hai : a ≠ it := fun z => by
      obtain ⟨o1, h1, c1, _⟩ := p.isList
      obtain ⟨o2, h2, c2, _⟩ := hit
      rw [z, h2] at h1
      cases h1
      rw [c1] at c2
      exact absurd (Value.type.inj c2) (by decide)
    have hae : e ≠ a := fun z => by
      obtain ⟨o1, h1, c1, _⟩ := p.isList
      rw [← z, he] at h1
      cases h1
      exact absurd (Value.type.inj c1) (by decide)
    have hlt : i < its.length := (List.getElem?_eq_some_iff.mp hu).1
    have D := TwI.draws1 (prog := X.prog) (w := X.w) (A := X.A.in1) (I.ok.hd hc) it a hai its.toArray
    refine wpAny_pyNext_enum_itemD (i := i + 1) D he ⟨by omega, hit, p.isList⟩ (by simp; omega) hne (by simp [hne, hae]) fun y h' tk hy ho hst hT hsz hk => ?_
    have ey : y = u := by
      rw [Nat.add_sub_cancel] at hy
      have hu' : its.toArray[i]? = some u := by simpa using hu
      rw [hu'] at hy
      exact (Option.some.inj hy).symm
    subst ey
    refine ⟨_, rfl, wpAny_letOwnedTupleGo_enum (s := { s with heap := h', toks := tk + 1 }) ho fun h'' he' sb => ?_⟩
    have hT2 : h''.get? s.heap.objs.size = some { cls := .type "tuple", data := .seq #[.int ((i + 1 : Nat) : Int) tk, y] } := (sb.2 _ (Nat.ne_of_gt hel)).trans hT
    have new : ObjOk X.prog X.w (upd H s.heap.objs.size (.tup [.int ((i + 1 : Nat) : Int), x])) h'' s.heap.objs.size (.tup [.int ((i + 1 : Nat) : Int), x]) :=
      ⟨by show 2 ≤ sizeLine; decide, [.int ((i + 1 : Nat) : Int) tk, y], .cons ⟨_, rfl⟩ (.cons ru .nil), ⟨_, hT2, rfl, _, rfl⟩⟩
    have I1 : Inv X pins σ (upd H s.heap.objs.size (.tup [.int ((i + 1 : Nat) : Int), x])) { s with heap := h'', toks := tk + 1 } :=
      I.turnedNew (ch := [e, it]) (fun b ob hb q => (sb.2 b (fun z => hb (by simp [z]))).trans (hk b ob (fun z => hb (by simp [z])) (fun z => hb (by simp [z])) q)) hf (Nat.le_refl _) new
    obtain ⟨_, hit', _⟩ := hst
    rw [show i + 1 + 1 - 1 = i + 1 by omega] at hit'
    refine ⟨.ref s.heap.objs.size, _, I1, rfl, ⟨_, x, rfl, I.hok.fresh (Nat.le_refl _), rfl, fun ys hy => by rw [I.list_inj hy hq]; exact hx⟩, ⟨⟨y, ?_⟩, hit'.at fun o q => (sb.2 it (Ne.symm hne)).trans q, hne⟩, fun b hb => ?_⟩
    · have e1 : ((i + 1 + 1 : Nat) : Int) = ((i + 1 : Nat) : Int) + 1 := by omega
      rw [e1]; exact he'
    · have hb' : b < s.heap.objs.size := by
        have e' : b = e ∨ b = it := by simpa using hb
        rcases e' with z | z
        · rw [z]; exact hel
        · rw [z]; exact hil
      rw [upd_ne (Nat.ne_of_lt hb')]
      exact (hf b hb).1
  done := by
    intro X hP hw hK hc i pins s σ H E I hf st hg
    subst hP hw hK
    obtain ⟨⟨old, he⟩, hit, hne⟩ := st
    obtain ⟨xs, hq, hx⟩ := hg
    obtain ⟨its, rv, p, hz⟩ := I.list hq
    obtain ⟨f0, f1, f2, f3, f4, f5⟩ := hf it (by simp)
    have hl := rv.length
    unfold pyNext
    have tz : s.TypeIs (.ref e) "enumerate" := ⟨_, he, rfl⟩
    refine wpAny_bind (wpAny_attempt (wpAny_callSpecial?_slot (name := Str.ofString "__next__") tz F.slot_enumerate_next
      (wpAny_call_entry F.slot_enumerate_next tz F.entry_enumerate_next ?_ (F.args_enumerate_next_1 _))))
    show wpAny _ _ (field (.ref e) 2 >>= _) _ _ _
    refine wpAny_bind (wpAny_field he rfl (x := .ref it) rfl ?_)
    refine wpAny_bind (wpAny_nextOf_list_end (I.ok.hd hc) hit p.isList (by simp; omega) fun h' x eb hx' => ?_)
    obtain ⟨o, ho, hoc⟩ := hx'
    refine wpAny_bind (wpAny_isInstance (T := "StopIteration") (b := true) ⟨o, ho, hoc⟩ isSubtype_stop ?_)
    exact wpAny_pure ⟨rfl, I.turned (t' := s.toks) (fun b o hb q => eb b o hb q) f0 f1 f3 f4 f5⟩
  self := fun A i s Q E st h => let ⟨⟨_, he⟩, _⟩ := st; wpAny_pyIter_enum he h
def iEnum1 (K : PySem.W.Frag) (ta : TA) : TI := fun σ H R => ta σ H fun vs H1 => ∃ a xs, vs = [.ref a] ∧ SqL K H1 a xs ∧ R (Ite1 K a) H1
theorem callWith_typeK {M : Model} {A : Around} {E : Value → Shared → Prop} {s : Shared} {env : Env} {pos : Pos} {T : String} {e : Expr} {kws : List Keyword} {Q : Value → Shared → Prop}
    (h : wpAny M A (spliced (backTo pos (starEach [e] env))) (fun vs s₁ => wpAny M A (evalAll ((backToKw pos (keywordEach kws env)).map (·.2)))
      (fun kvs s₂ => wpAny M A (call (.type T) vs (((backToKw pos (keywordEach kws env)).filterMap (·.1)).zip kvs)) Q E s₂) E s₁) E s)
    (he : backTo pos (starEach [e] env) = (false, eval e env) :: backTo pos (starEach [] env) := by rfl) (h1 : (backTo pos (starEach [e] env)).any (·.1) = false := by rfl)
    (h2 : (backToKw pos (keywordEach kws env)).all (·.1.isSome) = true := by rfl) (h3 : (backToKw pos (keywordEach kws env)).any (·.1.isNone) = false := by rfl) :
    wpAny M A (callWith pos (.type T) [] (backTo pos (starEach [e] env)) (backToKw pos (keywordEach kws env))) Q E s := by
  have hE : wpAny M A (evalArgs (.type T) true (backTo pos (starEach [e] env)) (backToKw pos (keywordEach kws env))) (fun a s₁ => wpAny M A (call (.type T) ([] ++ a.pos) a.kw) Q E s₁) E s := by
    rw [he] at h ⊢
    exact PyProof.Rows.evalArgs_kwB h2 h
  unfold callWith
  refine wpAny_bind (wpAny_holding (wpAny_mono hE (fun a s₁ g => wpAny_bind (wpAny_standAt ?_)) fun _ _ x => x))
  simp only [h1, h3, Bool.or_false]
  refine wpAny_bind (wpAny_pure ?_)
  exact wpAny_bind (wpAny_mono g (fun r s₂ hr => wpAny_bind (wpAny_holding (wpAny_point (wpAny_pure hr)))) fun _ _ x => x)
theorem pi_enum1 {X : Cx} {e : Expr} {ta : TA} {p p2 kp pos tpos : Pos} {elts : List Expr} {kk c1 : Nat} (hg : Gl X "enumerate") (hm : X.mg "enumerate" = none) (ha : PA X [e] ta) (hs : starEach [e] X.env = [(false, eval e X.env)] := by rfl) :
    PI X (.Tuple elts kk tpos) (.Call (.Name "enumerate" p) [e] [⟨some "start", .Constant (.int 1) c1 p2, kp⟩] pos) (iEnum1 X.K ta) := by
  intro pins s σ H R I h
  refine wpAny_Call_Name_kw (ld_blt I hg hm boot_enumerate (callWith_typeK (thn (ha pos pins s σ H _ I h) fun us s1 ⟨vs, H1, I1, r1, q1⟩ => ?_) (by rw [hs]; rfl) (by rw [hs]; rfl)))
  obtain ⟨a, xs, ex, hq, q⟩ := q1
  subst ex
  cases r1 with
  | cons r rr =>
    cases rr
    cases r
    obtain ⟨its, rv, p', hz⟩ := I1.list hq
    refine PyProof.Rows.kws_cons (thn (pe_int (X := X) pins s1 σ H1 (fun v H' => v = .int 1 ∧ H' = H1) I1 ⟨rfl, rfl⟩) fun u s2 ⟨v, H2, I2, rv2, e1, e2⟩ => PyProof.Rows.kws_nil ?_)
    subst e1 e2
    obtain ⟨t, rfl⟩ := rv2
    obtain ⟨its2, rv3, p2', hz2⟩ := I2.list hq
    refine TwI.call_enum1 (t := t) p2'.isList fun h' he hit hsz hk => wpAny_pyIter_enum he ?_
    have I3 : Inv X pins σ H2 { s2 with heap := h' } := I2.kept (t' := s2.toks) hk
    refine ⟨s2.heap.objs.size + 1, [s2.heap.objs.size + 1, s2.heap.objs.size], _, _, H2, rfl, I3, turn_enum1 a (s2.heap.objs.size + 1) s2.heap.objs.size, ⟨⟨.none, he⟩, hit, Nat.succ_ne_self _⟩, fun b hb => ?_, q⟩
    have e' : b = s2.heap.objs.size + 1 ∨ b = s2.heap.objs.size := by simpa using hb
    have hle : s2.heap.objs.size ≤ b := by
      rcases e' with z | z
      · rw [z]; exact Nat.le_add_right _ _
      · rw [z]; exact Nat.le_refl _
    exact I2.fpOk hle (I2.hok.fresh hle)
theorem lc_enum1 {K : PySem.W.Frag} {a : Addr} {xs : List V} {g : TG} {tt : TT} {te : TE} {vs : List Nat} {σ : St} {H1 : Hp} {D : Addr} {Qd : Hp → Prop} (Pv : Nat → Hp → Prop) (h0 : Pv 0 (upd H1 D (.lst []))) (hl : ∀ i H, i ≤ xs.length → Pv i H → SqL K H a xs)
    (hs : ∀ i x H T, xs[i]? = some x → Pv i H → H T = none → g (.ref T) (wipe σ vs) (upd H T (.tup [.int ((i + 1 : Nat) : Int), x])) fun σ2 H2 => wipe σ2 vs = wipe σ vs ∧ tt σ2 H2 fun b H3 =>
      if b = true then te σ2 H3 fun y H4 => ∃ acc, H4 D = some (.lst acc) ∧ acc.length < sizeLine ∧ Pv (i + 1) (upd H4 D (.lst (acc ++ [y]))) else Pv (i + 1) H3) (hd : ∀ H, Pv xs.length H → Qd H) :
    ∃ W : Nat → Nat → Hp → Prop, (∃ m, W 0 m (upd H1 D (.lst []))) ∧ ∀ i m H, W i m H →
      ((Ite1 K a).stop i H ∧ Qd H) ∨ ((Ite1 K a).go i H ∧ ∃ Nx : Hp → Prop, (∀ H', Nx H' → ∃ m', m' < m ∧ W (i + 1) m' H') ∧ ∀ x H', (Ite1 K a).yld i H x H' → g x (wipe σ vs) H' fun σ2 H2 => wipe σ2 vs = wipe σ vs ∧ tt σ2 H2 fun b H3 =>
        if b = true then te σ2 H3 fun y H4 => ∃ acc, H4 D = some (.lst acc) ∧ acc.length < sizeLine ∧ Nx (upd H4 D (.lst (acc ++ [y]))) else Nx H3) := by
  refine lc_it (J := Ite1 K a) (n := xs.length) Pv h0 (fun i H hi p => ⟨xs, xs[i], hl i H (Nat.le_of_lt hi) p, by simp [hi]⟩) (fun H p => ⟨xs, hl _ H (Nat.le_refl _) p, Nat.le_refl _⟩) (fun i H v H' hi p y => ?_) hd
  obtain ⟨T, x, rfl, hT, rfl, hx⟩ := y
  exact hs i x H T (hx xs (hl i H (Nat.le_of_lt hi) p)) p hT
def Itzt (K : PySem.W.Frag) (a b : Addr) : It :=
  ⟨fun i H => ∃ (xs ys : List V) (x y : V), SqT K H a xs ∧ SqL K H b ys ∧ xs[i]? = some x ∧ ys[i]? = some y,
    fun i H v H' => ∃ T x y, v = .ref T ∧ H T = none ∧ H' = upd H T (.tup [x, y]) ∧ (∀ xs, SqT K H a xs → xs[i]? = some x) ∧ ∀ ys, SqL K H b ys → ys[i]? = some y,
    fun i H => ∃ xs ys : List V, SqT K H a xs ∧ SqL K H b ys ∧ xs.length ≤ i⟩
theorem isTuple_of {h : Heap} {a : Addr} {its : Array Value} (p : IsTup h a its) : h.IsTuple a its := p
theorem turn_zipT {P : Program} {w : World} {K : PySem.W.Frag} {elts : List Expr} {kk : Nat} {tpos : Pos} {a b z TI TO i1 i2 : Addr} (D : ZipApart z TI TO i1 i2 a b) :
    Turn P w K (.Tuple elts kk tpos) (Itzt K a b) [z, TI, TO, i1, i2] z (fun i h => IsZip h z TI TO .none ∧ IsPair h TI (.ref i1) (.ref i2) ∧ (∃ x y, IsPair h TO x y) ∧ h.IsTupleIter i1 a i ∧ h.IsListIter i2 b i) where
  mem := by simp
  obj := fun i h st c hc => by
    obtain ⟨hz, hTI, ⟨x, y, hTO⟩, ⟨o1, e1, _, d1⟩, ⟨o2, e2, _, d2⟩⟩ := st
    have e' : c = z ∨ c = TI ∨ c = TO ∨ c = i1 ∨ c = i2 := by simpa using hc
    rcases e' with q | q | q | q | q
    · rw [q]; exact ⟨_, hz, fun v q => nomatch q⟩
    · rw [q]; exact ⟨_, hTI, fun v q => nomatch q⟩
    · rw [q]; exact ⟨_, hTO, fun v q => nomatch q⟩
    · rw [q]; exact ⟨o1, e1, fun v q => by rw [d1] at q; cases q⟩
    · rw [q]; exact ⟨o2, e2, fun v q => by rw [d2] at q; cases q⟩
  keep := fun i h h' st k => by
    obtain ⟨hz, hTI, ⟨x, y, hTO⟩, h1, h2⟩ := st
    exact ⟨k z (by simp) _ hz, k TI (by simp) _ hTI, ⟨x, y, k TO (by simp) _ hTO⟩, h1.at fun o q => k i1 (by simp) o q, h2.at fun o q => k i2 (by simp) o q⟩
  item := by
    intro X hP hw hK hc i pins s σ H E I hf st hg
    subst hP hw hK
    obtain ⟨hz, hTI, ⟨x0, y0, hTO⟩, h1, h2⟩ := st
    obtain ⟨xs, ys, x, y, hqx, hqy, hx, hy⟩ := hg
    obtain ⟨its, rv, p, _⟩ := I.tuple hqx
    obtain ⟨its2, rv2, p2, _⟩ := I.list hqy
    obtain ⟨u, hu, ru⟩ := rv.get hx
    obtain ⟨u2, hu2, ru2⟩ := rv2.get hy
    have hzl : z < s.heap.objs.size := Heap.lt_size hz
    refine TwI.nextZipT_item D hz hTI hTO h1 h2 (isTuple_of p) p2.isList (x := u) (y := u2) (by simpa using hu) (by simpa using hu2) fun h' z' TO' h1' h2' hT hsz hk => ?_
    refine ⟨_, rfl, wpAny_letOwnedTupleGo_zip (s := { s with heap := h' }) z' fun h'' z'' sb => ?_⟩
    have hT2 : h''.get? s.heap.objs.size = some { cls := .type "tuple", data := .seq #[u, u2] } := (sb.2 _ (Nat.ne_of_gt hzl)).trans hT
    have new : ObjOk X.prog X.w (upd H s.heap.objs.size (.tup [x, y])) h'' s.heap.objs.size (.tup [x, y]) :=
      ⟨by show 2 ≤ sizeLine; decide, [u, u2], .cons ru (.cons ru2 .nil), ⟨_, hT2, rfl, _, rfl⟩⟩
    have I1 : Inv X pins σ (upd H s.heap.objs.size (.tup [x, y])) { s with heap := h'' } :=
      I.turnedNew (t' := s.toks) (ch := [z, TI, TO, i1, i2]) (fun c o hb q => (sb.2 c (fun q' => hb (by simp [q']))).trans (hk c o (fun q' => hb (by simp [q'])) (fun q' => hb (by simp [q'])) (fun q' => hb (by simp [q'])) (fun q' => hb (by simp [q'])) q)) hf (Nat.le_refl _) new
    refine ⟨.ref s.heap.objs.size, _, I1, rfl, ⟨_, x, y, rfl, I.hok.fresh (Nat.le_refl _), rfl, fun l hl => by rw [I.tuple_inj hl hqx]; exact hx, fun l hl => by rw [I.list_inj hl hqy]; exact hy⟩, ⟨z'', ?_, ⟨u, u2, ?_⟩, ?_, ?_⟩, fun c hcm => ?_⟩
    · exact (sb.2 _ D.TIz).trans (hk _ _ D.TIz D.TITO D.TIi1 D.TIi2 hTI)
    · exact (sb.2 _ D.TOz).trans TO'
    · exact h1'.at fun o q => (sb.2 _ D.i1z).trans q
    · exact h2'.at fun o q => (sb.2 _ D.i2z).trans q
    · have hlt : c < s.heap.objs.size := by
        have e' : c = z ∨ c = TI ∨ c = TO ∨ c = i1 ∨ c = i2 := by simpa using hcm
        rcases e' with q | q | q | q | q
        · rw [q]; exact hzl
        · rw [q]; exact Heap.lt_size hTI
        · rw [q]; exact Heap.lt_size hTO
        · rw [q]; obtain ⟨_, e1, _⟩ := h1; exact Heap.lt_size e1
        · rw [q]; obtain ⟨_, e2, _⟩ := h2; exact Heap.lt_size e2
      rw [upd_ne (Nat.ne_of_lt hlt)]
      exact (hf c hcm).1
  done := by
    intro X hP hw hK hc i pins s σ H E I hf st hg
    subst hP hw hK
    obtain ⟨hz, hTI, ⟨x0, y0, hTO⟩, h1, h2⟩ := st
    obtain ⟨xs, ys, hqx, hqy, hend⟩ := hg
    obtain ⟨its, rv, p, _⟩ := I.tuple hqx
    obtain ⟨its2, rv2, p2, _⟩ := I.list hqy
    have l1 := rv.length
    have he : its.toArray[i]? = none := by simp; omega
    exact TwI.nextZipT_end (I.ok.hd hc) D hz hTI hTO h1 h2 (isTuple_of p) p2.isList he fun h' hk => ⟨rfl, I.turnedL (t' := s.toks) (ch := [z, TI, TO, i1, i2]) (fun c o hb q =>
      hk c o (fun q' => hb (by simp [q'])) (fun q' => hb (by simp [q'])) (fun q' => hb (by simp [q'])) (fun q' => hb (by simp [q'])) q) hf⟩
  self := fun A i s Q E st h => wpAny_pyIter_zip st.1 h
def iZipT (K : PySem.W.Frag) (ta : TA) : TI := fun σ H R => ta σ H fun vs H1 => ∃ a b xs ys, vs = [.ref a, .ref b] ∧ SqT K H1 a xs ∧ SqL K H1 b ys ∧ R (Itzt K a b) H1
theorem pi_zipT {X : Cx} {e e2 : Expr} {ta : TA} {p pos tpos : Pos} {elts : List Expr} {kk : Nat} (hg : Gl X "zip") (hm : X.mg "zip" = none) (ha : PA X [e, e2] ta)
    (hs : starEach [e, e2] X.env = (false, eval e X.env) :: starEach [e2] X.env := by rfl) (hpl : (backTo pos (starEach [e2] X.env)).any (·.1) = false := by rfl) :
    PI X (.Tuple elts kk tpos) (.Call (.Name "zip" p) [e, e2] [] pos) (iZipT X.K ta) := by
  intro pins s σ H R I h
  refine Call_ (ld_blt I hg hm boot_zip5 (PyProof.Rows.callWith_type1 (thn (ha pos pins s σ H _ I h) fun us s1 ⟨vs, H1, I1, r1, q1⟩ => ?_) hs hpl))
  obtain ⟨a, b, xs, ys, ex, hqx, hqy, q⟩ := q1
  subst ex
  cases r1 with
  | cons r rr =>
    cases rr with
    | cons r' rr =>
      cases rr
      cases r
      cases r'
      obtain ⟨its, rv, p1, _⟩ := I1.tuple hqx
      obtain ⟨its2, rv2, p2, _⟩ := I1.list hqy
      have la : a < s1.heap.objs.size := p1.lt
      have lb : b < s1.heap.objs.size := p2.lt
      refine TwI.call_zipT (isTuple_of p1) p2.isList fun h' hz hTI hTO h1 h2 hsz hk => wpAny_pyIter_zip hz ?_
      have I2 : Inv X pins σ H1 { s1 with heap := h' } := I1.kept (t' := s1.toks) hk
      refine ⟨s1.heap.objs.size + 4, [s1.heap.objs.size + 4, s1.heap.objs.size + 2, s1.heap.objs.size + 3, s1.heap.objs.size, s1.heap.objs.size + 1], _, _, H1, rfl, I2, turn_zipT (PySem.W.ktu_apart s1.heap.objs.size a b la lb), ⟨hz, hTI, ⟨_, _, hTO⟩, h1, h2⟩, fun c hcm => ?_, q⟩
      have e' : c = s1.heap.objs.size + 4 ∨ c = s1.heap.objs.size + 2 ∨ c = s1.heap.objs.size + 3 ∨ c = s1.heap.objs.size ∨ c = s1.heap.objs.size + 1 := by simpa using hcm
      have hle : s1.heap.objs.size ≤ c := by
        rcases e' with z | z | z | z | z
        · rw [z]; exact Nat.le_add_right _ _
        · rw [z]; exact Nat.le_add_right _ _
        · rw [z]; exact Nat.le_add_right _ _
        · rw [z]; exact Nat.le_refl _
        · rw [z]; exact Nat.le_add_right _ _
      exact I1.fpOk hle (I1.hok.fresh hle)
theorem lc_zipT {K : PySem.W.Frag} {a b : Addr} {xs ys : List V} {g : TG} {tt : TT} {te : TE} {vs : List Nat} {σ : St} {H1 : Hp} {D : Addr} {Qd : Hp → Prop} (Pv : Nat → Hp → Prop) (he : xs.length = ys.length) (h0 : Pv 0 (upd H1 D (.lst []))) (hl : ∀ i H, i ≤ xs.length → Pv i H → SqT K H a xs ∧ SqL K H b ys)
    (hs : ∀ i x y H T, xs[i]? = some x → ys[i]? = some y → Pv i H → H T = none → g (.ref T) (wipe σ vs) (upd H T (.tup [x, y])) fun σ2 H2 => wipe σ2 vs = wipe σ vs ∧ tt σ2 H2 fun b H3 =>
      if b = true then te σ2 H3 fun y H4 => ∃ acc, H4 D = some (.lst acc) ∧ acc.length < sizeLine ∧ Pv (i + 1) (upd H4 D (.lst (acc ++ [y]))) else Pv (i + 1) H3) (hd : ∀ H, Pv xs.length H → Qd H) :
    ∃ W : Nat → Nat → Hp → Prop, (∃ m, W 0 m (upd H1 D (.lst []))) ∧ ∀ i m H, W i m H →
      ((Itzt K a b).stop i H ∧ Qd H) ∨ ((Itzt K a b).go i H ∧ ∃ Nx : Hp → Prop, (∀ H', Nx H' → ∃ m', m' < m ∧ W (i + 1) m' H') ∧ ∀ x H', (Itzt K a b).yld i H x H' → g x (wipe σ vs) H' fun σ2 H2 => wipe σ2 vs = wipe σ vs ∧ tt σ2 H2 fun b H3 =>
        if b = true then te σ2 H3 fun y H4 => ∃ acc, H4 D = some (.lst acc) ∧ acc.length < sizeLine ∧ Nx (upd H4 D (.lst (acc ++ [y]))) else Nx H3) := by
  refine lc_it (J := Itzt K a b) (n := xs.length) Pv h0 (fun i H hi p => ⟨xs, ys, xs[i], ys[i], (hl i H (Nat.le_of_lt hi) p).1, (hl i H (Nat.le_of_lt hi) p).2, by simp [hi], by simp [← he, hi]⟩)
    (fun H p => ⟨xs, ys, (hl _ H (Nat.le_refl _) p).1, (hl _ H (Nat.le_refl _) p).2, Nat.le_refl _⟩) (fun i H v H' hi p y => ?_) hd
  obtain ⟨T, x, y, rfl, hT, rfl, hx, hy⟩ := y
  exact hs i x y H T (hx xs (hl i H (Nat.le_of_lt hi) p).1) (hy ys (hl i H (Nat.le_of_lt hi) p).2) p hT
theorem vals_rev : ∀ {xs : List V} {us : List Value}, Vals xs us → Vals xs.reverse us.reverse := by
  intro xs us h
  induction h with
  | nil => exact .nil
  | cons r t ih =>
    rw [List.reverse_cons, List.reverse_cons]
    exact Vals.append ih (.cons r .nil)
def tListRev (K : PySem.W.Frag) (t : TA) : TE := fun σ H Q => t σ H fun vs H1 => ∃ a xs, vs = [V.ref a] ∧ SqL K H1 a xs ∧ ∀ q, H1 q = none → Q (.ref q) (upd H1 q (.lst xs.reverse))
theorem pe_listRev {X : Cx} {e : Expr} {t : TA} {p p2 pos pos2 : Pos} (hc : X.calm = true) (hg : Gl X "list") (hm : X.mg "list" = none) (hg2 : Gl X "reversed") (hm2 : X.mg "reversed" = none) (ha : PA X [e] t) (hs : starEach [e] X.env = [(false, eval e X.env)] := by rfl)
    (hs2 : starEach [.Call (.Name "reversed" p2) [e] [] pos2] X.env = [(false, eval (.Call (.Name "reversed" p2) [e] [] pos2) X.env)] := by rfl) :
    PE X (.Call (.Name "list" p) [.Call (.Name "reversed" p2) [e] [] pos2] [] pos) (tListRev X.K t) := by
  intro pins s σ H Q I h
  refine wpAny_Call_Name_kw (ld_blt I hg hm boot_list ?_)
  refine PyProof.Rows.callWith_type1 ?_ hs2 rfl
  rw [hs2]
  show wpAny _ _ (spliced [(false, eval (.Call (.Name "reversed" p2) [e] [] pos2) X.env)]) _ _ s
  refine Calls.spliced_cons ?_
  refine wpAny_Call_Name_kw (ld_blt I hg2 hm2 boot_reversed5 ?_)
  refine PyProof.Rows.callWith_type1 (thn (ha pos2 pins s σ H _ I h) fun us s1 ⟨vs, H1, I1, r1, q1⟩ => ?_) hs rfl
  obtain ⟨a, xs, rfl, hq, q⟩ := q1
  rw [Vals.ref1 r1]
  obtain ⟨its, rv, pl, hz⟩ := I1.list hq
  have hl := rv.length
  refine call_reversed_list pl.isList (Calls.spliced_nil ?_)
  have la : a < s1.heap.objs.size := pl.lt
  have gl : (s1.heap.push (revObj a ((its.toArray.size : Int) - 1))).IsList a its.toArray := pl.isList.push _
  refine TwI.call_list_rev (it := s1.heap.objs.size) (items := its.toArray) (I1.ok.hd hc) ⟨_, Heap.get?_push_size _ rfl, rfl, rfl⟩ gl (Nat.ne_of_lt la) (by simp; omega) fun h' tk acc c kp hS hacc => ?_
  have zz : (s1.heap.push (revObj a ((its.toArray.size : Int) - 1))).objs.size = s1.heap.objs.size + 1 := Heap.size_push ..
  have k2 : ∀ b u, s1.heap.get? b = some u → h'.get? b = some u := fun b u e => kp b u (Nat.ne_of_lt (Heap.lt_size e)) (Heap.get?_push_of_some _ e)
  have ea : acc.toList = its.reverse := by
    apply List.ext_getElem?
    intro k
    obtain ⟨a1, a2⟩ := hacc
    have a1' : acc.size = its.length := by simpa using a1
    by_cases hk : k < acc.size
    · have e1 : acc[k]? = some acc[k] := Array.getElem?_eq_getElem hk
      have e2 := a2 k _ e1
      rw [Array.getElem?_toList, e1, ← e2, List.getElem?_reverse (by omega)]
      simp
    · rw [Array.getElem?_toList, Array.getElem?_eq_none (by omega), List.getElem?_eq_none (by simp; omega)]
  have new : ObjOk X.prog X.w (upd H1 (s1.heap.objs.size + 1) (.lst xs.reverse)) h' (s1.heap.objs.size + 1) (.lst xs.reverse) := by
    refine ⟨by rw [List.length_reverse]; exact hz, its.reverse, c, vals_rev rv, ?_⟩
    rw [zz] at hS
    rw [← ea]
    simpa using hS
  have I2 := I1.laid (t' := tk) k2 (Nat.le_succ _) new
  rw [zz]
  exact ⟨.ref (s1.heap.objs.size + 1), _, I2, rfl, q _ (I1.hok.fresh (Nat.le_succ _))⟩
def rGetL (K : PySem.W.Frag) : V → V → Hp → VK → Prop := fun o i H Q => ∃ (p : Addr) (xs : List V) (k : Nat) (v : V), o = .ref p ∧ i = .int (k : Int) ∧ SqL K H p xs ∧ xs[k]? = some v ∧ Q v H
theorem get_list {X : Cx} : PGet X (rGetL X.K) := by
  intro pins s σ H o i ov iv Q I ro ri h
  obtain ⟨p, xs, k, v, rfl, rfl, hq, hv, q⟩ := h
  cases ro
  obtain ⟨t, rfl⟩ := ri
  obtain ⟨its, rv, pl, hz⟩ := I.list hq
  obtain ⟨u, hu, ru⟩ := rv.get hv
  have hl := rv.length
  have hn := line63
  have hk : k < its.length := (List.getElem?_eq_some_iff.mp hu).1
  exact wpAny_getItem_list pl.isList (by omega) (by omega) (by rw [Int.toNat_natCast]; simpa using hu) ⟨v, H, I, ru, q⟩
def KDictS (P : Program) (w : World) (K : PySem.W.Frag) (d : Addr) (f : Str → Option V) : Prop :=
  ∃ (o : Obj) (es : Array DictEntry) (ep : Nat), K.lookup d = some o ∧ o.ExactDict ∧ o.data = .dict es ep ∧ KeysOf (mixKind P w) es ∧ (d == sysModules) = false ∧ ∀ k : Str, (f k = none ∧ findBy (mixKind P w).is es (Sum.inr k) = none) ∨ ∃ v u, f k = some v ∧ findBy (mixKind P w).is es (Sum.inr k) = some u ∧ RelV v u
def tKGetD (f : Str → Option V) (ty tz : TE) : TE := fun σ H Q => ty σ H fun y H1 => tz σ H1 fun z H2 => ∃ k, y = .str k ∧ Q ((f k).getD z) H2
theorem pe_kgetD {X : Cx} {x : Str} {d : Addr} {f : Str → Option V} {e g : Expr} {p apos cpos : Pos} {ty tz : TE} (hg : Gl X x) (hm : X.mg x = some (.ref d)) (hK : KDictS X.prog X.w X.K d f) (he : PE X e ty) (hz : PE X g tz) (m : M2 X (.Name x p) "get" apos e g cpos)
    (hdb : (x == ("__debug__" : Str)) = false := by decide) : PE X (.Call (.Attribute (.Name x p) "get" apos) [e, g] [] cpos) (tKGetD f ty tz) := by
  intro pins s σ H Q I h
  obtain ⟨o, es, ep, lk, ex, hda, hke, hd, hfi⟩ := hK
  have mp : ∀ {H' : Hp} {s' : Shared}, Inv X pins σ H' s' → s'.heap.MapOf (mixKind X.prog X.w) d (fun k => findBy (mixKind X.prog X.w).is es k) := fun I' => ⟨o, es, ep, I'.kIn d o lk, ex, hda, hke, fun _ => rfl⟩
  refine wpAny_Call_method m.base m.few m.line PySem.F.plainAttrs_dict PySem.F.slot_dict_get PySem.F.type_dict_get (ld_glob I hg hm ?_ hdb)
  refine ⟨(mp I).typeIs, fun b q => ?_, ?_⟩
  · cases q
    exact ⟨o, I.kIn d o lk, ex.2.1⟩
  rw [m.trees]
  refine Calls.callWith_builtin rfl (Calls.evalArgs_plain (Calls.spliced_cons (thn (he pins s σ H _ I h) fun iv s2 ⟨y, H2, I2, ry, q2⟩ =>
    Calls.spliced_cons (thn (hz pins s2 σ H2 _ I2 q2) fun fv s3 ⟨z, H3, I3, rz, k, ey, q3⟩ => Calls.spliced_nil ?_))))
  subst ey
  have hkey : (mixKind X.prog X.w).is (Sum.inr k) iv = true := kV_is (k := Sum.inr k) ry
  refine call_meetsIn PySem.F.slot_dict_get (mp I3).typeIs PySem.F.entry_dict_get (PySem.F.args_dict_get_3 _ _ _) (meets_dict_get_default (mixKind X.prog X.w) d hkey hd fv) ⟨_, mp I3, ?_⟩
  rcases hfi k with ⟨h1, h2⟩ | ⟨v, u, h1, h2, h3⟩
  · rw [h1] at q3
    rw [h2]
    exact ⟨z, H3, I3.tok _, rz, q3⟩
  · rw [h1] at q3
    rw [h2]
    exact ⟨v, H3, I3.tok _, h3, q3⟩
end L2

end

section
set_option Elab.async false
set_option linter.all false
set_option maxRecDepth 100000
namespace TwI
open PySem PySem.W PyProof.Rows
section
variable {prog : Program} {w : World} {A : Around} {E : Value → Shared → Prop} {s : Shared}
theorem sort_one {a : Addr} {v : Value} {n : Nat} {Pf : PySem.Fin → Shared → Prop} (ho : s.heap.get? a = some (seqObj "list" #[v] n)) (h : Pf (.done (.ret .none)) { s with heap := sortedHeap s.heap a [v] #[v] }) :
    wpAny (model prog w) A (Builtin.«list.sort» ⟨[.ref a], []⟩) Pf E s := by
  rw [list_sort_plain]
  have la : a < s.heap.objs.size := Heap.lt_size ho
  refine wpAny_bind (listItems_at ho rfl ?_)
  refine wpAny_bind (listUpdate_at ho rfl ?_)
  obtain ⟨e1, o1⟩ : ∃ e1, (s.heap.update a (Obj.mapSeq fun _ => #[])).get? a = some (seqObj "list" #[] e1) := ⟨_, get?_update_seq ho (fun _ => #[])⟩
  refine wpAny_bind (seqEpoch_at o1 rfl ?_)
  refine wpAny_bind (wpAny_newTuple ?_)
  refine wpAny_bind (wpAny_newList ?_)
  refine wpAny_holding ?_
  have o6 : (((s.heap.update a (Obj.mapSeq fun _ => #[])).push (seqObj "tuple" [v].toArray 0)).push (seqObj "list" #[] 0)).get? a = some (seqObj "list" #[] e1) := Heap.get?_push_of_some _ (Heap.get?_push_of_some _ o1)
  show wpAny (model prog w) A _ Pf E { s with heap := ((s.heap.update a (Obj.mapSeq fun _ => #[])).push (seqObj "tuple" [v].toArray 0)).push (seqObj "list" #[] 0) }
  dsimp only
  have z2 : (#[v] : Array Value).size < 2 := by show 1 < 2; decide
  rw [if_pos z2, if_pos z2]
  refine wpAny_bind (wpAny_pure ?_)
  rw [StateT.run_pure]
  refine wpAny_bind (wpAny_pure ?_)
  dsimp only
  refine wpAny_bind (seqEpoch_at o6 rfl ?_)
  have ea : (arrOf (SortSt.mk' general' (#[v].zip #[v]) #[] 7 none)).map (·.2) = #[v] := by
    show (#[v].zip #[v]).map (·.2) = #[v]
    simp
  refine wpAny_bind (listUpdate_at o6 rfl ?_ (hsz2 := by rw [ea]; show 1 ≤ _; decide))
  simp only [bne_self_eq_false, Bool.false_eq_true, if_false]
  refine wpAny_pure ?_
  have e2 : (((s.heap.update a (Obj.mapSeq fun _ => #[])).push (seqObj "tuple" [v].toArray 0)).push (seqObj "list" #[] 0)).update a (Obj.mapSeq fun _ => (arrOf (SortSt.mk' general' (#[v].zip #[v]) #[] 7 none)).map (·.2)) = sortedHeap s.heap a [v] #[v] := by
    rw [ea]
    rfl
  rw [← e2] at h
  exact h
theorem sorted_one {l : Addr} {v : Value} {Q : Value → Shared → Prop} (hl : s.heap.IsList l #[v]) (h : Q (.ref (s.heap.objs.size + 1)) { s with heap := sortedAll s.heap [v] #[v] }) :
    wpAny (model prog w) A (call (.builtin "sorted") [.ref l]) Q E s := by
  refine Calls.call_function_entry kind_sorted plain_sorted entry_sorted (args_sorted1 _) ?_
  unfold Builtin.«sorted»
  refine wpAny_bind (m := checkCount "sorted" 1 1 _) (wpAny_pure ?_)
  refine wpAny_bind (collect_list (vs := [v]) hl ?_)
  refine wpAny_bind (wpAny_newList ?_)
  have zz : ((s.heap.push (seqObj "list" #[] 0)).update s.heap.objs.size (Obj.mapSeq (· ++ [v].toArray))).objs.size = s.heap.objs.size + 1 := by
    rw [Heap.size_update, size_push']
  have oL : (((s.heap.push (seqObj "list" #[] 0)).update s.heap.objs.size (Obj.mapSeq (· ++ [v].toArray))).push (seqObj "list" [v].toArray 0)).get? (s.heap.objs.size + 1) = some (seqObj "list" [v].toArray 0) := by
    rw [← zz]
    exact Heap.get?_push_size _ rfl
  show wpAny _ _ _ _ _ { s with heap := ((s.heap.push (seqObj "list" #[] 0)).update s.heap.objs.size (Obj.mapSeq (· ++ [v].toArray))).push (seqObj "list" [v].toArray 0) }
  rw [zz]
  refine wpAny_bind (wpAny_holding (wpAny_call_entry slot_list_sort ⟨_, oL, rfl⟩ entry_list_sort (sort_one oL ⟨_, rfl, ?_⟩) (args_list_sort _)))
  exact wpAny_pure ⟨_, rfl, h⟩
end
end TwI
namespace L2
open PySem PySem.Spec PyProof.Rows
def rSortedOne (K : PySem.W.Frag) : List V → Hp → VK → Prop := fun vs H Q => ∃ (a : Addr) (x : V), vs = [V.ref a] ∧ SqL K H a [x] ∧ ∀ q, H q = none → Q (.ref q) (upd H q (.lst [x]))
theorem cr_sortedOne {X : Cx} : CallR X (.builtin "sorted") (rSortedOne X.K) := by
  intro pins s σ H vs us Q I r h
  obtain ⟨a, x, rfl, hs, q⟩ := h
  obtain ⟨its, rv, pl, _⟩ := I.list hs
  rw [Vals.ref1 r]
  cases rv with
  | cons rx rt =>
    cases rt
    rename_i u
    refine TwI.sorted_one (v := u) pl.isList ?_
    obtain ⟨ep, he'⟩ := PyProof.Rows.sortedAll_at s.heap [u] #[u]
    exact ⟨.ref _, upd H (s.heap.objs.size + 1) (.lst [x]), I.laid (t' := s.toks) (fun _ _ => PyProof.Rows.sortedAll_old) (Nat.le_succ _) ⟨by show 1 ≤ _; decide, [u], ep, .cons rx .nil, he'⟩, rfl, q _ (I.hok.fresh (Nat.le_succ _))⟩
end L2

end

section
set_option Elab.async false
set_option linter.all false
set_option maxRecDepth 100000
namespace TW
open PySem PySem.W

def lexS : List Nat → List (List Nat)
  | [] => []
  | i :: r => [i] :: ((lexS r).map (fun l => i :: l) ++ lexS r)
def fm (m : Nat) : List Nat := (List.range m).map fun i => i + 1
def rawL (m : Nat) : List (List Nat) := (powL m).drop 1
def ltm (m : Nat) (i j : Nat) : Bool := TwI.lexL (((rawL m).map Vbsgag.ints).getD i []) (((rawL m).map Vbsgag.ints).getD j [])
def chk (m : Nat) : Bool := match TwI.kasRun (2 ^ m - 1) (ltm m) (kas_sort (2 ^ m - 1)) with
  | some p => p.toList.all (fun i => decide (i < 2 ^ m - 1)) && (decide (p.size ≤ 100) && decide (p.toList.map (fun i => (rawL m).getD i []) = lexS (fm m)))
  | none => false
theorem chk2 : chk 2 = true := by decide +kernel
theorem chk3 : chk 3 = true := by decide +kernel
theorem chk4 : chk 4 = true := by decide +kernel
theorem chk5 : chk 5 = true := by decide +kernel
theorem chk6 : chk 6 = true := by decide +kernel
theorem chk_run {m : Nat} (h2 : 2 ≤ m) (h6 : m ≤ 6) : ∃ p, TwI.kasRun (2 ^ m - 1) (ltm m) (kas_sort (2 ^ m - 1)) = some p ∧ (∀ i ∈ p.toList, i < 2 ^ m - 1) ∧ p.size ≤ 100 ∧ p.toList.map (fun i => (rawL m).getD i []) = lexS (fm m) := by
  have h : chk m = true := by
    have e : m = 2 ∨ m = 3 ∨ m = 4 ∨ m = 5 ∨ m = 6 := by omega
    rcases e with e | e | e | e | e
    · rw [e]; exact chk2
    · rw [e]; exact chk3
    · rw [e]; exact chk4
    · rw [e]; exact chk5
    · rw [e]; exact chk6
  unfold chk at h
  cases e : TwI.kasRun (2 ^ m - 1) (ltm m) (kas_sort (2 ^ m - 1)) with
  | none => rw [e] at h; cases h
  | some p =>
    rw [e] at h
    simp only [Bool.and_eq_true, List.all_eq_true, decide_eq_true_eq] at h
    exact ⟨p, rfl, h.1, h.2.1, h.2.2⟩
theorem lexS_len (m : Nat) (h : m ≤ 6) : (lexS (fm m)).length = 2 ^ m - 1 := by
  have e : m = 0 ∨ m = 1 ∨ m = 2 ∨ m = 3 ∨ m = 4 ∨ m = 5 ∨ m = 6 := by omega
  rcases e with e | e | e | e | e | e | e <;> subst e <;> decide +kernel
theorem rawL_one : (rawL 1) = lexS (fm 1) := by decide
def lenAt (m i : Nat) : Nat := ((lexS (fm m)).getD i []).length
def qs (m : Nat) : List Nat := (List.range m).flatMap fun c => (List.range (2 ^ m - 1)).filter fun i => lenAt m i == c + 1
def chkQ (m : Nat) : Bool := decide ((qs m).map (fun i => (lexS (fm m)).getD i []) = subM m) && (decide ((qs m).Pairwise fun i j => lenAt m i ≤ lenAt m j) && ((List.range 8).all (fun c => decide ((qs m).filter (fun i => lenAt m i == c) = (List.range (2 ^ m - 1)).filter fun i => lenAt m i == c)) &&
  ((List.range (2 ^ m - 1)).all (fun i => decide (lenAt m i < 8)) && (qs m).all fun i => decide (i < 2 ^ m - 1))))
theorem chkQ1 : chkQ 1 = true := by decide +kernel
theorem chkQ2 : chkQ 2 = true := by decide +kernel
theorem chkQ3 : chkQ 3 = true := by decide +kernel
theorem chkQ4 : chkQ 4 = true := by decide +kernel
theorem chkQ5 : chkQ 5 = true := by decide +kernel
theorem chkQ6 : chkQ 6 = true := by decide +kernel
theorem chkQ_all {m : Nat} (h1 : 1 ≤ m) (h6 : m ≤ 6) : (qs m).map (fun i => (lexS (fm m)).getD i []) = subM m ∧ (qs m).Pairwise (fun i j => lenAt m i ≤ lenAt m j) ∧
    (∀ c : Nat, (qs m).filter (fun i => lenAt m i == c) = (List.range (2 ^ m - 1)).filter fun i => lenAt m i == c) ∧ ∀ i ∈ qs m, i < 2 ^ m - 1 := by
  have h : chkQ m = true := by
    have e : m = 1 ∨ m = 2 ∨ m = 3 ∨ m = 4 ∨ m = 5 ∨ m = 6 := by omega
    rcases e with e | e | e | e | e | e
    · rw [e]; exact chkQ1
    · rw [e]; exact chkQ2
    · rw [e]; exact chkQ3
    · rw [e]; exact chkQ4
    · rw [e]; exact chkQ5
    · rw [e]; exact chkQ6
  unfold chkQ at h
  simp only [Bool.and_eq_true, List.all_eq_true, decide_eq_true_eq] at h
  obtain ⟨a, b, c, d, e⟩ := h
  refine ⟨a, b, fun k => ?_, e⟩
  by_cases hk : k < 8
  · exact c k (List.mem_range.mpr hk)
  · have f1 : (List.range (2 ^ m - 1)).filter (fun i => lenAt m i == k) = [] := by
      rw [List.filter_eq_nil_iff]
      intro i hi
      have := d i hi
      simp
      omega
    have f2 : (qs m).filter (fun i => lenAt m i == k) = [] := by
      rw [List.filter_eq_nil_iff]
      intro i hi
      have := d i (List.mem_range.mpr (e i hi))
      simp
      omega
    rw [f1, f2]
theorem by_len {m : Nat} (h1 : 1 ≤ m) (h6 : m ≤ 6) (rs : List Addr) (hl : rs.length = 2 ^ m - 1) (ps : List (Int × Addr)) (hp : ps.Pairwise fun x y => x.1 ≤ y.1)
    (hf : ∀ c, ps.filter (fun x => x.1 == c) = ((((lexS (fm m)).map fun l => (l.length : Int)).zip rs).filter fun x => x.1 == c)) : ps = (qs m).map fun i => ((lenAt m i : Int), rs.getD i 0) := by
  obtain ⟨a, b, c, d⟩ := chkQ_all h1 h6
  have hz : ((lexS (fm m)).map fun l => (l.length : Int)).zip rs = (List.range (2 ^ m - 1)).map fun i => ((lenAt m i : Int), rs.getD i 0) := by
    have hll := lexS_len m h6
    apply List.ext_getElem?
    intro k
    rw [List.getElem?_map, List.zip_eq_zipWith, List.getElem?_zipWith]
    by_cases hk : k < 2 ^ m - 1
    · have e1 : k < (lexS (fm m)).length := by omega
      have e2 : k < rs.length := by omega
      rw [List.getElem?_range hk, List.getElem?_map, List.getElem?_eq_getElem e1, List.getElem?_eq_getElem e2]
      simp [lenAt, List.getD_eq_getElem?_getD, e1, e2]
    · rw [List.getElem?_eq_none (l := List.range (2 ^ m - 1)) (by simp; omega), List.getElem?_map, List.getElem?_eq_none (l := lexS (fm m)) (by omega)]
      rfl
  refine TwI.keyed_unique (fun x : Int × Addr => x.1) _ _ hp ?_ fun k => ?_
  · exact List.Pairwise.map _ (fun x y hxy => by simpa using hxy) b
  · rw [hf k, hz, filter_map', filter_map']
    congr 1
    by_cases hk : 0 ≤ k
    · have e : ∀ l : List Nat, (l.filter fun i => ((lenAt m i : Int) == k)) = l.filter fun i => lenAt m i == k.toNat := fun l => by
        apply List.filter_congr
        intro i _
        by_cases h : (lenAt m i : Int) = k
        · have h2 : lenAt m i = k.toNat := by omega
          rw [beq_iff_eq.mpr h, beq_iff_eq.mpr h2]
        · have h2 : ¬ lenAt m i = k.toNat := by omega
          rw [beq_eq_false_iff_ne.mpr h, beq_eq_false_iff_ne.mpr h2]
      show (List.range (2 ^ m - 1)).filter (fun i => ((lenAt m i : Int) == k)) = (qs m).filter fun i => ((lenAt m i : Int) == k)
      rw [e, e, c]
    · have e : ∀ l : List Nat, (l.filter fun i => ((lenAt m i : Int) == k)) = [] := fun l => by
        rw [List.filter_eq_nil_iff]
        intro i _
        simp
        omega
      show (List.range (2 ^ m - 1)).filter (fun i => ((lenAt m i : Int) == k)) = (qs m).filter fun i => ((lenAt m i : Int) == k)
      rw [e, e]
end TW

end

section
set_option Elab.async false
set_option linter.all false
set_option maxRecDepth 100000
set_option maxHeartbeats 2000000
namespace TW
open PySem PySem.Spec PyProof.Rows L2

abbrev IL (H : Hp) (a : Addr) (l : List Int) : Prop := H a = some (.lst (l.map V.int))
theorem same_new {H : Hp} {p : Addr} {o : HO} (h : H p = Option.none) : Same H (upd H p o) := fun b u e => by
  rw [upd_ne (ne_of_none e h)]
  exact e
theorem _root_.L2.Same.put {H H' : Hp} {D : Addr} {o : HO} (s : Same H H') (h : H D = Option.none) : Same H (upd H' D o) := fun b u e => by
  rw [upd_ne (ne_of_none e h)]
  exact s b u e
theorem int_at {l : List Int} {i : Nat} {x : V} (h : (l.map V.int)[i]? = some x) : ∃ z, l[i]? = some z ∧ x = V.int z := by
  rw [List.getElem?_map] at h
  cases e : l[i]? with
  | none =>
    rw [e] at h
    cases h
  | some z =>
    rw [e] at h
    exact ⟨z, rfl, (Option.some.inj h).symm⟩
theorem ref_at {l : List Addr} {i : Nat} {x : V} (h : (l.map V.ref)[i]? = some x) : ∃ z, l[i]? = some z ∧ x = V.ref z := by
  rw [List.getElem?_map] at h
  cases e : l[i]? with
  | none =>
    rw [e] at h
    cases h
  | some z =>
    rw [e] at h
    exact ⟨z, rfl, (Option.some.inj h).symm⟩
theorem map_at {α : Type} {f : α → V} {l : List α} {i : Nat} {z : α} (h : l[i]? = some z) : (l.map f)[i]? = some (f z) := by
  rw [List.getElem?_map, h]
  rfl
theorem take_snoc {α : Type} {l : List α} {i : Nat} {x : α} (h : l[i]? = some x) : l.take (i + 1) = l.take i ++ [x] := by
  rw [List.take_add_one, h]
  rfl
theorem zip_at {f : Int → Int → Int} {a b : List Int} {i : Nat} {x y : Int} (hx : a[i]? = some x) (hy : b[i]? = some y) : (List.zipWith f a b)[i]? = some (f x y) := by
  rw [List.getElem?_zipWith, hx, hy]
theorem small {n : Nat} (h : n ≤ 100000) : n < sizeLine := Nat.lt_of_le_of_lt h (by decide)
theorem smallE {n : Nat} (h : n ≤ 100000) : n ≤ sizeLine := Nat.le_of_lt (small h)
theorem il_at {l : List Int} {k : Nat} {z : Int} (h : l[k]? = some z) : atI (l.map V.int) (k : Int) = some (V.int z) := atI_nat (map_at h)
theorem getD_at {l : List Int} {k : Nat} (h : k < l.length) : l[k]? = some (l.getD k 0) := by
  rw [List.getD_eq_getElem?_getD, List.getElem?_eq_getElem h]
  rfl
def Mat (H : Hp) (a : Addr) (rows : List (List Int)) : Prop := ∃ rs : List Addr, H a = some (.lst (rs.map V.ref)) ∧ rs.length = rows.length ∧ ∀ (k : Nat) (r : Addr) (row : List Int), rs[k]? = some r → rows[k]? = some row → IL H r row
theorem _root_.L2.Same.il {H H' : Hp} {a : Addr} {l : List Int} (s : Same H H') (h : IL H a l) : IL H' a l := s _ _ h
theorem _root_.L2.Same.mat {H H' : Hp} {a : Addr} {rows : List (List Int)} (s : Same H H') (h : Mat H a rows) : Mat H' a rows := by
  obtain ⟨rs, h1, h2, h3⟩ := h
  exact ⟨rs, s _ _ h1, h2, fun k r row a b => s _ _ (h3 k r row a b)⟩

def stm (i : Nat) : Stmt := PySem.Challenge.pw_toldworths_s01_answers.main.body.getD i (.Pass ⟨0, 0, 0, 0⟩)
structure Blt (mg : Str → Option Value) : Prop where
  len : mg "len" = Option.none
  range : mg "range" = Option.none
  zip : mg "zip" = Option.none
  enumerate : mg "enumerate" = Option.none
  reversed : mg "reversed" = Option.none
  max : mg "max" = Option.none
  sum : mg "sum" = Option.none
  all : mg "all" = Option.none
  list : mg "list" = Option.none
  set : mg "set" = Option.none
  min : mg "min" = Option.none
  sorted : mg "sorted" = Option.none
theorem bt_len : bootBuiltins "len" = some (.builtin "len") := by decide +kernel
theorem bt_max : bootBuiltins "max" = some (.builtin "max") := by decide +kernel
theorem bt_min : bootBuiltins "min" = some (.builtin "min") := by decide +kernel
theorem bt_sorted : bootBuiltins "sorted" = some (.builtin "sorted") := by decide +kernel
theorem bt_sum : bootBuiltins "sum" = some (.builtin "sum") := by decide +kernel
theorem bt_all : bootBuiltins "all" = some (.builtin "all") := by decide +kernel
theorem bt_list : bootBuiltins "list" = some (.type "list") := by decide +kernel
theorem bt_set : bootBuiltins "set" = some (.type "set") := by decide +kernel
structure Df (K : PySem.W.Frag) (mg : Str → Option Value) (name : Str) (st : Stmt) (ps : List Str) (f : Addr) (fd : FuncData) : Prop where
  fn : Fun K name name st f fd
  mg : mg name = some (.ref f)
  b : Binds K fd ps []
structure Md (K : PySem.W.Frag) (C : Addr) (name qual : Str) (st : Stmt) (ps : List Str) (f : Addr) (fd : FuncData) : Prop where
  fn : Fun K name qual st f fd
  m : Meth K C name f
  b : Binds K fd ps []

abbrev sGat : Stmt := stm 8
def spGat : Sp := fun vs H Q _ => ∃ (a b : Addr) (ws bs : List Int), vs = [.ref a, .ref b] ∧ IL H a ws ∧ IL H b bs ∧ ws.length = bs.length ∧ ws.length ≤ 1000 ∧
  ∀ (H' : Hp) (p : Addr), Same H H' → H p = Option.none → IL H' p (gl ws bs) → Q (.ref p) H'
section
variable {P : Program} {w : World} {K : PySem.W.Frag} {mg : Str → Option Value} {base : Heap}
theorem scGat : FnScope ["worths", "prices", "worth", "price"] ["worths", "prices"] (defScope sGat) := ⟨rfl, rfl, rfl, by decide +kernel, rfl, by decide +kernel, by decide +kernel⟩
theorem ok_gat {f : Addr} {fd : FuncData} (F : Fun K "gains_at" "gains_at" sGat f fd) (B : Blt mg) : FnOk P w K mg base CX0 1 f fd ["worths", "prices"] spGat := by
  refine F.ok scGat (fun vs H Q E h => ?_) (fun cdv A outer s H vs Q E hr h => ?_)
  · obtain ⟨a, b, ws, bs, rfl, _⟩ := h
    rfl
  · obtain ⟨a, b, ws, bs, rfl, ha, hb, hl, hz, k⟩ := h
    refine ⟨_, pss_one (ps_ret (pe_lc rfl scGat.nd (pi_zip rfl B.zip (pa_cons (pv 0) (pa_cons (pv 1) pa_nil))) (blkOk_by (own := [("worth", 2), ("price", 3)]) rfl)
      (fun _ _ _ _ _ => pg_tupK K rfl 2 rfl (pgs_cons (pg_name (i := 2) scGat.nd rfl (Or.inl rfl) (Or.inr rfl)) (pgs_cons (pg_name (i := 3) scGat.nd rfl (Or.inl rfl) (Or.inr rfl)) pgs_nil)) rfl) (fun _ _ _ _ _ => pts_nil) (fun _ _ _ _ _ => pe_op op_sub (pv 2) (pv 3)))), ?_⟩
    refine ⟨_, rfl, _, rfl, a, b, _, _, rfl, SqL.of ha, SqL.of hb, fun D hD => ?_⟩
    refine lc_zip (K := K) (a := a) (b := b) (xs := ws.map V.int) (ys := bs.map V.int) (fun i H' => Same H H' ∧ IL H' D ((List.zipWith (fun x y => x - y) ws bs).take i)) (by simp [hl]) ⟨same_new hD, upd_same⟩
      (fun i H' _ p => ⟨p.1.seq (SqL.of ha), p.1.seq (SqL.of hb)⟩) ?_ ?_
    · rintro i x y H' T hx hy ⟨s1, hD1⟩ hT
      obtain ⟨wv, hw, rfl⟩ := int_at hx
      obtain ⟨bv, hbv, rfl⟩ := int_at hy
      refine ⟨T, _, rfl, SqT.of upd_same, rfl, _, _, rfl, _, _, rfl, rfl, rfl, ?_⟩
      refine tyes ?_
      refine ⟨_, rfl, _, rfl, wv, bv, rfl, rfl, (((List.zipWith (fun x y => x - y) ws bs).take i).map V.int), ?_, ?_, ?_, ?_⟩
      · rw [upd_ne (ne_of_none hD1 hT)]
        exact hD1
      · rw [List.length_map, List.length_take, List.length_zipWith]
        exact small (by omega)
      · exact Same.put (Same.put s1 (s1.free hT)) hD
      · rw [IL, upd_same, take_snoc (zip_at hw hbv), List.map_append]
        rfl
    · rintro H' ⟨s1, hD1⟩
      refine k H' D s1 hD ?_
      rw [List.take_of_length_le (by simp [hl])] at hD1
      exact hD1
end
end TW

end

section
set_option Elab.async false
set_option linter.all false
set_option maxRecDepth 100000
set_option maxHeartbeats 2000000
namespace TW
open PySem PySem.Spec PyProof.Rows L2

theorem shl_nat (i : Nat) : (1 : Int) * 2 ^ ((i : Int)).toNat = ((2 ^ i : Nat) : Int) := by
  rw [Int.toNat_natCast, Int.one_mul]
  simp
theorem and_bit (x i : Nat) : Builtin.bitAnd (x : Int) ((2 ^ i : Nat) : Int) = if x.testBit i = true then ((2 ^ i : Nat) : Int) else 0 := by
  rw [bitAnd_pp (Int.natCast_nonneg _) (Int.natCast_nonneg _), Int.toNat_natCast, Int.toNat_natCast]
  have e : x &&& 2 ^ i = if x.testBit i = true then 2 ^ i else 0 := by
    apply Nat.eq_of_testBit_eq
    intro k
    rw [Nat.testBit_and, Nat.testBit_two_pow]
    cases hx : x.testBit i with
    | true =>
      rw [if_pos rfl, Nat.testBit_two_pow]
      by_cases hk : i = k
      · subst hk
        simp [hx]
      · simp [hk]
    | false =>
      rw [if_neg (by simp), Nat.zero_testBit]
      by_cases hk : i = k
      · subst hk
        simp [hx]
      · simp [hk]
  rw [e]
  split <;> rfl
theorem bit_ne (x i : Nat) : decide (V.int (Builtin.bitAnd (x : Int) ((1 : Int) * 2 ^ ((i : Int)).toNat)) = V.int 0) = !x.testBit i := by
  rw [shl_nat, and_bit]
  have h : (2 ^ i : Nat) ≠ 0 := by
    have := Nat.two_pow_pos i
    omega
  cases x.testBit i with
  | true =>
    simp only [if_true, Bool.not_true]
    refine decide_eq_false fun e => h ?_
    have e2 : ((2 ^ i : Nat) : Int) = 0 := V.int.inj e
    exact_mod_cast e2
  | false => simp
theorem cpow_small (i : Nat) (h : i ≤ 1000) : CPow 1 (i : Int) := ⟨by omega, by omega, by decide⟩

abbrev sGw : Stmt := stm 10
def spGw : Sp := fun vs H Q _ => ∃ (a b : Addr) (row behind : List Int), vs = [.ref a, .ref b] ∧ IL H a row ∧ IL H b behind ∧ row.length ≤ 10 ∧ behind.length = 2 ^ row.length ∧
  ∀ (H' : Hp) (p : Addr), Same H H' → H p = Option.none → IL H' p (gw row behind) → Q (.ref p) H'
section
variable {P : Program} {w : World} {K : PySem.W.Frag} {mg : Str → Option Value} {base : Heap}
theorem scGw : FnScope ["row", "behind", "greatest", "free", "most", "i", "win"] ["row", "behind"] (defScope sGw) := ⟨rfl, rfl, rfl, by decide +kernel, rfl, by decide +kernel, by decide +kernel⟩
theorem ok_gw {f : Addr} {fd : FuncData} (F : Fun K "greatest_with" "greatest_with" sGw f fd) (B : Blt mg) : FnOk P w K mg base CX0 1 f fd ["row", "behind"] spGw := by
  refine F.ok scGw (fun vs H Q E h => ?_) (fun cdv A outer s H vs Q E hr h => ?_)
  · obtain ⟨a, b, ws, bs, rfl, _⟩ := h
    rfl
  · obtain ⟨a, b, row, behind, rfl, ha, hb, hl, h2, k⟩ := h
    have hbl : behind.length ≤ 1024 := by rw [h2]; exact Nat.pow_le_pow_right (by decide) hl
    refine ⟨_, pss_cons (ps_set (i := 2) scGw.nd rfl (Or.inl rfl) (pe_lst pa_nil))
      (pss_cons (ps_for PassesOwn.never rfl (pi_range1 rfl B.range (pa_cons (pe_callB call_len_seq rfl B.len bt_len (pa_cons (pv 1) pa_nil)) pa_nil)) (pg_name (i := 3) scGw.nd rfl (Or.inl rfl))
        (pss_cons (ps_set (i := 4) scGw.nd rfl (Or.inl rfl) (pe_ix ix_list (pv 1) (pv 3) (fun _ _ => rfl)))
        (pss_cons (ps_for PassesOwn.never rfl (pi_enum rfl B.enumerate (pa_cons (pv 0) pa_nil)) (pg_tup rfl (pgs_cons (pg_name (i := 5) scGw.nd rfl (Or.inl rfl)) (pgs_cons (pg_name (i := 6) scGw.nd rfl (Or.inl rfl)) pgs_nil)))
          (pss_one (ps_if (pt_cmpR op_ne (pe_op op_and (pv 3) (pe_op op_shl pe_int (pv 5))) pe_int (nomark _))
            (pss_one (ps_set (i := 4) scGw.nd rfl (Or.inl rfl) (pe_callB (call_max2 rfl) rfl B.max bt_max (pa_cons (pv 4) (pa_cons (pe_op op_add (pv 6) (pe_ix ix_list (pv 1) (pe_op op_sub (pv 3) (pe_op op_shl pe_int (pv 5))) (fun _ _ => rfl))) pa_nil)))))
            pss_nil)))
        (pss_one (ps_expr (pe_bm PySem.F.plainAttrs_list PySem.F.slot_list_append PySem.F.type_list_append mt_append (pv 2) (pa_cons (pv 4) pa_nil)))))))
      (pss_one (ps_ret (pv 2)))), ?_⟩
    refine ⟨Nat.zero_le _, fun q hq => ?_⟩
    have s0 : Same H (upd H q (.lst [])) := same_new hq
    refine ⟨_, rfl, b, behind.map V.int, rfl, .inl (SqL.of (s0.il hb)), _, rfl, by rw [List.length_map]; omega, by rw [List.length_map]; omega, ?_⟩
    have en : (((behind.map V.int).length : Nat) : Int).toNat = behind.length := by simp
    rw [en]
    refine for_range (lo := 0) (n := behind.length) (fun i σ H' => ∃ v3 v4 v5 v6 : Option V, σ = [some (.ref a), some (.ref b), some (.ref q), v3, v4, v5, v6] ∧ Same H H' ∧ IL H' q ((gw row behind).take i))
      ⟨none, none, none, none, rfl, s0, upd_same⟩ ?_ ?_
    · rintro free σ H1 hf ⟨v3, v4, v5, v6, rfl, s1, hq1⟩
      have ef : (0 : Int) + (free : Nat) = (free : Int) := by omega
      rw [ef]
      refine ⟨_, rfl, _, rfl, b, behind.map V.int, free, _, rfl, rfl, SqL.of (s1.il hb), il_at (getD_at hf), ?_⟩
      refine ⟨_, rfl, a, row.map V.int, rfl, SqL.of (s1.il ha), ?_⟩
      refine for_enum (K := K) (a := a) (xs := row.map V.int) (fun i σ H' => ∃ v5 v6 : Option V, σ = [some (.ref a), some (.ref b), some (.ref q), some (.int free), some (.int (upTo row behind free i)), v5, v6] ∧ Same H H' ∧ IL H' q ((gw row behind).take free))
        ⟨v5, v6, rfl, s1, hq1⟩ (fun i σ H' _ ⟨_, _, _, s2, _⟩ => s2.seq (SqL.of ha)) ?_ ?_
      · rintro i x σ H2 T hx ⟨u5, u6, rfl, s2, hq2⟩ hT
        obtain ⟨win, hwin, rfl⟩ := int_at hx
        have hi : i < row.length := (List.getElem?_eq_some_iff.mp hwin).1
        have s3 : Same H (upd H2 T (.tup [.int (i : Nat), .int win])) := Same.put s2 (s2.free hT)
        have q3 : IL (upd H2 T (.tup [.int (i : Nat), .int win])) q ((gw row behind).take free) := by
          rw [IL, upd_ne (ne_of_none hq2 hT)]
          exact hq2
        have ew : row.getD i 0 = win := by rw [List.getD_eq_getElem?_getD, hwin]; rfl
        refine ⟨T, _, rfl, SqT.of upd_same, rfl, _, _, rfl, _, _, rfl, rfl, ?_⟩
        refine ⟨_, rfl, _, rfl, 1, i, rfl, rfl, cpow_small i (by omega), free, _, rfl, rfl, rfl, _, rfl, ?_⟩
        rw [bit_ne, Bool.not_not]
        cases hb2 : free.testBit i with
        | false =>
          refine iteF ⟨some (.int i), some (.int win), ?_, s3, q3⟩
          rw [upTo_out row behind free i hb2]
          rfl
        | true =>
          have hle := (sub_bit hb2).2
          refine iteT ⟨_, rfl, _, rfl, _, rfl, _, rfl, _, rfl, 1, i, rfl, rfl, cpow_small i (by omega), free, _, rfl, rfl, b, behind.map V.int, _, _, rfl, rfl, SqL.of (s3.il hb), ?_, win, behind.getD (free - 2 ^ i) 0, rfl, rfl, _, _, rfl, ?_⟩
          · rw [shl_nat, show (free : Int) - ((2 ^ i : Nat) : Int) = ((free - 2 ^ i : Nat) : Int) by omega]
            exact il_at (getD_at (Nat.lt_of_le_of_lt (Nat.sub_le _ _) hf))
          · refine ⟨some (.int i), some (.int win), ?_, s3, q3⟩
            rw [upTo_in row behind free i hb2, ew]
            have em : ∀ x y : Int, (if y > x then y else x) = max x y := fun x y => by
              split <;> omega
            rw [em]
            rfl
      · rintro σ H2 ⟨u5, u6, rfl, s2, hq2⟩
        refine ⟨_, rfl, .inl ⟨rfl, _, SqL.of hq2⟩, _, rfl, q, _, _, rfl, rfl, hq2, ?_, ?_⟩
        · rw [List.length_map, List.length_take]
          exact small (by omega)
        · refine ⟨_, _, _, _, rfl, Same.put s2 hq, ?_⟩
          have eg : (gw row behind)[free]? = some (upTo row behind free row.length) := by
            unfold gw
            rw [List.getElem?_map, List.getElem?_range hf]
            rfl
          rw [IL, upd_same, take_snoc eg, List.map_append, List.length_map]
          rfl
    · rintro σ H1 ⟨v3, v4, v5, v6, rfl, s1, hq1⟩
      refine ⟨_, rfl, k H1 q s1 hq ?_⟩
      rw [List.take_of_length_le (by simp [gw])] at hq1
      exact hq1
end
end TW

end

section
set_option Elab.async false
set_option linter.all false
set_option maxRecDepth 100000
set_option maxHeartbeats 2000000
namespace TW
open PySem PySem.Spec PyProof.Rows L2

def Kb (l : Addr) (H H' : Hp) : Prop := ∀ b o, H b = some o → b ≠ l → H' b = some o
theorem Kb.upd {l : Addr} {H : Hp} {o : HO} : Kb l H (upd H l o) := fun b u e hb => by
  rw [upd_ne hb]
  exact e
theorem Kb.trans {l : Addr} {H H1 H2 : Hp} (a : Kb l H H1) (b : Kb l H1 H2) : Kb l H H2 := fun c o e hc => b c o (a c o e hc) hc
def tf (b ws c : Addr) : List (Str × V) := putF "clock" (.ref c) (putF "worths" (.ref ws) (putF "bases" (.ref b) []))
theorem tf_bases (b ws c : Addr) : (tf b ws c).lookup ("bases" : Str) = some (.ref b) := by
  unfold tf
  rw [lookup_putF, if_neg (by decide +kernel), lookup_putF, if_neg (by decide +kernel), lookup_putF, if_pos rfl]
theorem tf_worths (b ws c : Addr) : (tf b ws c).lookup ("worths" : Str) = some (.ref ws) := by
  unfold tf
  rw [lookup_putF, if_neg (by decide +kernel), lookup_putF, if_pos rfl]
theorem tf_clock (b ws c : Addr) : (tf b ws c).lookup ("clock" : Str) = some (.ref c) := by
  unfold tf
  rw [lookup_putF, if_pos rfl]
theorem tf_no (b ws c : Addr) {m : Str} (h1 : ¬ m = "clock") (h2 : ¬ m = "worths") (h3 : ¬ m = "bases") : (tf b ws c).lookup m = Option.none := by
  unfold tf
  rw [lookup_putF, if_neg h1, lookup_putF, if_neg h2, lookup_putF, if_neg h3]
  rfl
theorem tf_putC (b ws c c' : Addr) : putF "clock" (.ref c') (tf b ws c) = tf b ws c' := by
  unfold tf putF
  rfl
structure Tb where
  dx : Addr
  b : Addr
  ws : Addr
  c : Addr
  rs : List Addr
def Tb.foot (d : Tb) (t : Addr) : List Addr := t :: d.b :: d.ws :: d.c :: d.rs
structure TabAt (C : Addr) (H : Hp) (t : Addr) (s : Vbsgag.State) (d : Tb) : Prop where
  ob : H t = some (.ins C d.dx (tf d.b d.ws d.c))
  hb : IL H d.b (Vbsgag.ints s.bases)
  hw : H d.ws = some (.lst (d.rs.map V.ref))
  hc : IL H d.c (Vbsgag.ints s.clock)
  hl : d.rs.length = s.n
  hr : ∀ (k : Nat) (r : Addr) (row : List Nat), d.rs[k]? = some r → s.rows[k]? = some row → IL H r (Vbsgag.ints row)
  nd : (d.foot t).Nodup
  wf : WF s
structure TTx (K : PySem.W.Frag) (C : Addr) : Prop where
  cl : Cls K C
  nB : NoAttr K C "bases"
  nW : NoAttr K C "worths"
  nC : NoAttr K C "clock"
end TW

end

section
set_option Elab.async false
set_option linter.all false
set_option maxRecDepth 100000
set_option maxHeartbeats 2000000
namespace TW
open PySem PySem.Spec PyProof.Rows L2

def MatUp (H : Hp) (D : Addr) (rows : List (List Int)) (i : Nat) : Prop := ∃ rs : List Addr, H D = some (.lst (rs.map V.ref)) ∧ rs.length = i ∧ ∀ (k : Nat) (r : Addr) (row : List Int), rs[k]? = some r → rows[k]? = some row → IL H r row ∧ r ≠ D
theorem MatUp.zero {H : Hp} {D : Addr} {rows : List (List Int)} : MatUp (upd H D (.lst [])) D rows 0 := ⟨[], upd_same, rfl, fun k r row a _ => by simp at a⟩
theorem MatUp.step {H' H4 : Hp} {D p : Addr} {rows : List (List Int)} {row : List Int} {i : Nat} (m : MatUp H' D rows i) (s : Same H' H4) (hp : p ≠ D) (hrow : rows[i]? = some row) (h : IL H4 p row) :
    ∃ acc, H4 D = some (.lst acc) ∧ acc.length = i ∧ MatUp (upd H4 D (.lst (acc ++ [.ref p]))) D rows (i + 1) := by
  obtain ⟨rs, h1, h2, h3⟩ := m
  refine ⟨rs.map V.ref, s _ _ h1, by simp [h2], rs ++ [p], ?_, by simp [h2], fun k r row' a b => ?_⟩
  · rw [upd_same, List.map_append]
    rfl
  · by_cases hk : k < rs.length
    · rw [List.getElem?_append_left hk] at a
      obtain ⟨h4, h5⟩ := h3 k r row' a b
      exact ⟨by rw [IL, upd_ne h5]; exact s _ _ h4, h5⟩
    · have hk2 : k = i := by
        have := (List.getElem?_eq_some_iff.mp a).1
        simp at this
        omega
      subst hk2
      rw [List.getElem?_append_right (by omega)] at a
      have e : p = r := by simpa [h2] using a
      subst e
      rw [hrow] at b
      cases b
      exact ⟨by rw [IL, upd_ne hp]; exact h, hp⟩
theorem MatUp.done {H : Hp} {D : Addr} {rows : List (List Int)} (m : MatUp H D rows rows.length) : Mat H D rows := by
  obtain ⟨rs, h1, h2, h3⟩ := m
  exact ⟨rs, h1, h2, fun k r row a b => (h3 k r row a b).1⟩
theorem Mat.at {H : Hp} {a : Addr} {rows : List (List Int)} (m : Mat H a rows) {k : Nat} {row : List Int} (h : rows[k]? = some row) : ∃ (rs : List Addr) (r : Addr), H a = some (.lst (rs.map V.ref)) ∧ rs[k]? = some r ∧ IL H r row := by
  obtain ⟨rs, h1, h2, h3⟩ := m
  have hk : k < rs.length := by rw [h2]; exact (List.getElem?_eq_some_iff.mp h).1
  exact ⟨rs, rs[k], h1, List.getElem?_eq_getElem hk, h3 k _ row (List.getElem?_eq_getElem hk) h⟩

abbrev sGbl : Stmt := stm 11
def tabs (M : Nat) (rows : List (List Int)) : List (List Int) := (List.range (rows.length + 1)).map fun k => tab M (rows.drop (rows.length - k))
def spGbl : Sp := fun vs H Q _ => ∃ (a : Addr) (rows : List (List Int)) (M : Nat), vs = [.ref a] ∧ Mat H a rows ∧ rows ≠ [] ∧ (∀ r ∈ rows, r.length = M) ∧ M ≤ 10 ∧ rows.length ≤ 10 ∧
  ∀ (H' : Hp) (p : Addr), Same H H' → H p = Option.none → Mat H' p (tabs M rows) → Q (.ref p) H'
theorem tabs_get (M : Nat) (rows : List (List Int)) {k : Nat} (h : k ≤ rows.length) : (tabs M rows)[k]? = some (tab M (rows.drop (rows.length - k))) := by
  unfold tabs
  rw [List.getElem?_map, List.getElem?_range (by omega)]
  rfl
theorem tabs_len (M : Nat) (rows : List (List Int)) : (tabs M rows).length = rows.length + 1 := by simp [tabs]
section
variable {P : Program} {w : World} {K : PySem.W.Frag} {mg : Str → Option Value} {base : Heap}
theorem scGbl : FnScope ["wins", "by_last", "row"] ["wins"] (defScope sGbl) := ⟨rfl, rfl, rfl, by decide +kernel, rfl, by decide +kernel, by decide +kernel⟩
theorem rep_zero (n : Nat) : (List.replicate n [V.int 0]).flatten = (List.replicate n (0 : Int)).map V.int := by
  induction n with
  | zero => rfl
  | succ n ih =>
    rw [List.replicate_succ, List.flatten_cons, ih, List.replicate_succ, List.map_cons]
    rfl
theorem ok_gbl {f fG : Addr} {fd fdG : FuncData} (F : Fun K "greatest_by_last" "greatest_by_last" sGbl f fd) (B : Blt mg) (DG : Df K mg "greatest_with" sGw ["row", "behind"] fG fdG) : FnOk P w K mg base CX0 2 f fd ["wins"] spGbl := by
  refine F.ok scGbl (fun vs H Q E h => ?_) (fun cdv A outer s H vs Q E hr h => ?_)
  · obtain ⟨a, rows, M, rfl, _⟩ := h
    rfl
  · obtain ⟨a, rows, M, rfl, hm, hne, hM, hM10, hr10, k⟩ := h
    have h0 : 0 < rows.length := List.length_pos_iff.mpr hne
    refine ⟨_, pss_cons (ps_set (i := 1) scGbl.nd rfl (Or.inl rfl) (pe_lst (pa_cons (pe_op op_rep (pe_lst (pa_cons pe_int pa_nil)) (pe_op op_shl pe_int (pe_callB call_len_seq rfl B.len bt_len (pa_cons (pe_ix ix_list (pv 0) pe_int (fun _ _ => rfl)) pa_nil)))) pa_nil)))
      (pss_cons (ps_for PassesOwn.never rfl (pi_reversed rfl B.reversed (pa_cons (pv 0) pa_nil)) (pg_name (i := 2) scGbl.nd rfl (Or.inl rfl))
        (pss_one (ps_expr (pe_bm PySem.F.plainAttrs_list PySem.F.slot_list_append PySem.F.type_list_append mt_append (pv 1)
          (pa_cons (pe_call (ok_gw DG.fn B) hr rfl DG.mg DG.fn.kp DG.b .nil pass0 (pa_cons (pv 2) (pa_cons (pe_ix ix_list (pv 1) (pe_un un_neg pe_int) (fun _ _ => rfl)) pa_nil))) pa_nil)))))
      (pss_one (ps_ret (pv 1)))), ?_⟩
    obtain ⟨rs, hrs, hrl, hrr⟩ := id hm
    have hrs0 : rs[0]? = some rs[0] := List.getElem?_eq_getElem (by omega)
    have hrow0 : rows[0]? = some rows[0] := List.getElem?_eq_getElem h0
    have hil0 := hrr 0 _ _ hrs0 hrow0
    have hlen0 : rows[0].length = M := hM _ (List.getElem_mem h0)
    refine ⟨(by show 1 ≤ sizeLine; decide), fun l0 hl0 => ?_⟩
    have s0 : Same H (upd H l0 (.lst [.int 0])) := same_new hl0
    refine ⟨_, rfl, a, rs.map V.ref, 0, _, rfl, rfl, SqL.of (s0 _ _ hrs), atI_nat (map_at hrs0), rs[0], rows[0].map V.int, rfl, .inl (SqL.of (s0.il hil0)), 1, _, rfl, rfl, ?_, l0, _, _, rfl, rfl, upd_same, ?_⟩
    · rw [List.length_map, hlen0]
      exact cpow_small M (by omega)
    have eM : (1 : Int) * (2 : Int) ^ ((((rows[0].map V.int).length : Nat) : Int)).toNat = ((2 ^ M : Nat) : Int) := by
      rw [List.length_map, hlen0, shl_nat]
    have hM2 : 2 ^ M ≤ 1024 := Nat.pow_le_pow_right (n := 2) (by decide) hM10
    rw [eM]
    refine ⟨Int.le_trans (by decide) (Int.natCast_nonneg _), Int.lt_of_le_of_lt (Int.ofNat_le.mpr hM2) (by decide), by rw [Int.toNat_natCast]; exact smallE (by rw [List.length_singleton, Nat.one_mul]; omega), fun p0 hp0 => ?_⟩
    have hp0' : H p0 = Option.none := s0.free hp0
    have s1 := Same.put (o := .lst (List.replicate (((2 ^ M : Nat) : Int)).toNat [V.int 0]).flatten) s0 hp0'
    refine ⟨(by show 1 ≤ sizeLine; decide), fun q hq => ?_⟩
    have hq' : H q = Option.none := s1.free hq
    have s2 := Same.put (o := .lst [V.ref p0]) s1 hq'
    have hpq : p0 ≠ q := ne_of_none upd_same hq
    have m1 : MatUp (upd (upd (upd H l0 (.lst [.int 0])) p0 (.lst (List.replicate (((2 ^ M : Nat) : Int)).toNat [V.int 0]).flatten)) q (.lst [V.ref p0])) q (tabs M rows) 1 := by
      refine ⟨[p0], upd_same, rfl, fun j r row ha hb => ?_⟩
      have hj : j = 0 := by
        have := (List.getElem?_eq_some_iff.mp ha).1
        simp at this
        exact this
      subst hj
      have e1 : p0 = r := by simpa using ha
      subst e1
      rw [tabs_get M rows (Nat.zero_le _)] at hb
      have e2 := Option.some.inj hb
      rw [Nat.sub_zero, List.drop_length, tab_nil] at e2
      subst e2
      refine ⟨?_, hpq⟩
      rw [IL, upd_ne hpq, upd_same, Int.toNat_natCast, rep_zero]
    generalize hH2 : upd (upd (upd H l0 (.lst [.int 0])) p0 (.lst (List.replicate (((2 ^ M : Nat) : Int)).toNat [V.int 0]).flatten)) q (.lst [V.ref p0]) = H2 at s2 m1 ⊢
    refine ⟨_, rfl, a, rs.map V.ref, rfl, SqL.of (s2 _ _ hrs), ?_⟩
    refine for_rev (K := K) (a := a) (xs := rs.map V.ref) (fun i σ H' => ∃ v2 : Option V, σ = [some (.ref a), some (.ref q), v2] ∧ Same H H' ∧ MatUp H' q (tabs M rows) (i + 1))
      ⟨none, rfl, s2, m1⟩ (fun i σ H' _ ⟨_, _, s3, _⟩ => SqL.of (s3 _ _ hrs)) ?_ ?_
    · rintro i x σ H3 hi hx ⟨v2, rfl, s3, m3⟩
      rw [List.length_map] at hi hx
      obtain ⟨r, hr', rfl⟩ := ref_at hx
      have hi2 : i < rows.length := by omega
      have hrow : rows[rs.length - 1 - i]? = some rows[rs.length - 1 - i] := List.getElem?_eq_getElem (by omega)
      have hil := hrr _ _ _ hr' hrow
      obtain ⟨ts, hts, htl, htr⟩ := id m3
      have htk : ts[i]? = some ts[i] := List.getElem?_eq_getElem (by omega)
      obtain ⟨ht1, ht2⟩ := htr i _ _ htk (tabs_get M rows (by omega))
      have hat : atI (ts.map V.ref) (-1) = some (V.ref ts[i]) := by
        have e : ts = ts.take i ++ [ts[i]] := by
          rw [← take_snoc htk, List.take_of_length_le (by omega)]
        have e2 : ts.map V.ref = (ts.take i).map V.ref ++ [V.ref ts[i]] := by
          conv => lhs; rw [e]
          rw [List.map_append]
          rfl
        rw [e2]
        exact atI_last _ _
      refine ⟨_, rfl, .inl ⟨rfl, _, SqL.of hts⟩, _, rfl, _, rfl, 1, rfl, q, _, _, _, rfl, rfl, SqL.of hts, hat, ?_⟩
      have hlenr : rows[rs.length - 1 - i].length = M := hM _ (List.getElem_mem _)
      refine ⟨r, ts[i], rows[rs.length - 1 - i], _, rfl, s3.il hil, ht1, by omega, by rw [tab_length, hlenr], fun H4 p s4 hp h4 => ?_⟩
      have e5 : gw rows[rs.length - 1 - i] (tab M (rows.drop (rows.length - i))) = tab M (rows.drop (rows.length - (i + 1))) := by
        rw [gw_tab _ _ hlenr]
        congr 1
        rw [List.drop_eq_getElem_cons (show rows.length - (i + 1) < rows.length by omega)]
        congr 1
        · congr 1
          omega
        · congr 1
          omega
      rw [e5] at h4
      have hpq4 : p ≠ q := Ne.symm (ne_of_none hts hp)
      obtain ⟨acc, ha1, ha2, ha3⟩ := m3.step s4 hpq4 (tabs_get M rows (by omega)) h4
      refine ⟨q, acc, _, rfl, rfl, ha1, by rw [ha2]; exact small (by omega), _, rfl, Same.put (s3.trans s4) hq', ha3⟩
    · rintro σ H3 ⟨v2, rfl, s3, m3⟩
      refine ⟨_, rfl, k H3 q s3 hq' (MatUp.done ?_)⟩
      rw [tabs_len, ← hrl, ← List.length_map (f := V.ref)]
      exact m3
end
end TW

end

section
set_option Elab.async false
set_option linter.all false
set_option maxRecDepth 100000
set_option maxHeartbeats 2000000
namespace TW
open PySem PySem.Spec PyProof.Rows L2

theorem atI_m1 {α : Type} {xs : List α} {n : Nat} {v : α} (hn : xs.length = n + 1) (h : xs[n]? = some v) : atI xs (-1) = some v := by
  have e : xs = xs.take n ++ [v] := by
    rw [← take_snoc h, List.take_of_length_le (by omega)]
  rw [e]
  exact atI_last _ _

abbrev sGt : Stmt := stm 12
def spGt : Sp := fun vs H Q _ => ∃ (a : Addr) (rows : List (List Int)) (M : Nat), vs = [.ref a] ∧ Mat H a rows ∧ rows ≠ [] ∧ (∀ r ∈ rows, r.length = M) ∧ M ≤ 10 ∧ rows.length ≤ 10 ∧
  ∀ H' : Hp, Same H H' → Q (.int (G rows (List.range M))) H'
section
variable {P : Program} {w : World} {K : PySem.W.Frag} {mg : Str → Option Value} {base : Heap}
theorem scGt : FnScope ["wins"] ["wins"] (defScope sGt) := ⟨rfl, rfl, rfl, by decide +kernel, rfl, by decide +kernel, by decide +kernel⟩
theorem ok_gt {f fB : Addr} {fd fdB : FuncData} (F : Fun K "greatest_total" "greatest_total" sGt f fd) (DB : Df K mg "greatest_by_last" sGbl ["wins"] fB fdB) (GB : FnOk P w K mg base CX0 2 fB fdB ["wins"] spGbl) : FnOk P w K mg base CX0 3 f fd ["wins"] spGt := by
  refine F.ok scGt (fun vs H Q E h => ?_) (fun cdv A outer s H vs Q E hr h => ?_)
  · obtain ⟨a, rows, M, rfl, _⟩ := h
    rfl
  · obtain ⟨a, rows, M, rfl, hm, hne, hM, hM10, hr10, k⟩ := h
    refine ⟨_, pss_one (ps_ret (pe_ix ix_list (pe_ix ix_list (pe_call GB hr rfl DB.mg DB.fn.kp DB.b .nil pass0 (pa_cons (pv 0) pa_nil)) (pe_un un_neg pe_int) (fun _ _ => rfl)) (pe_un un_neg pe_int) (fun _ _ => rfl))), ?_⟩
    refine ⟨_, rfl, a, rows, M, rfl, hm, hne, hM, hM10, hr10, fun H1 p s1 hp m1 => ?_⟩
    obtain ⟨ts, r, h1, h2, h3⟩ := m1.at (tabs_get M rows (Nat.le_refl _))
    have hl : ts.length = rows.length + 1 := by
      obtain ⟨ts', g1, g2, _⟩ := m1
      rw [g1] at h1
      have e := HO.lst.inj (Option.some.inj h1)
      have e2 := congrArg List.length e
      simp only [List.length_map] at e2
      rw [← e2, g2, tabs_len]
    rw [Nat.sub_self, List.drop_zero] at h3
    refine ⟨1, rfl, p, ts.map V.ref, _, _, rfl, rfl, SqL.of h1, atI_m1 (by simp [hl]) (map_at h2), 1, rfl, r, (tab M rows).map V.int, _, _, rfl, rfl, SqL.of h3, ?_, k H1 s1⟩
    have hpos := Nat.two_pow_pos M
    refine atI_m1 (n := 2 ^ M - 1) (by rw [List.length_map, tab_length]; omega) ?_
    have e : (tab M rows)[2 ^ M - 1]? = some (G rows (List.range M)) := by
      rw [getD_at (by rw [tab_length]; omega), tab_get rows (by omega), bits_all]
    exact map_at e
end
end TW

end

section
set_option Elab.async false
set_option linter.all false
set_option maxRecDepth 100000
set_option maxHeartbeats 2000000
namespace TW
open PySem PySem.Spec PyProof.Rows L2

theorem Mat.ix {K : PySem.W.Frag} {H : Hp} {a : Addr} {rows : List (List Int)} (m : Mat H a rows) {k : Nat} {row : List Int} (h : rows[k]? = some row) : ∃ (xs : List V) (r : Addr), SqL K H a xs ∧ atI xs (k : Int) = some (V.ref r) ∧ IL H r row := by
  obtain ⟨rs, r, h1, h2, h3⟩ := m.at h
  exact ⟨_, r, SqL.of h1, atI_nat (map_at h2), h3⟩
def PairAt (H : Hp) (t : Addr) (x : List Int × Nat) (r : Addr) : Prop := H t = some (.tup [.ref r, .int (x.2 : Nat)]) ∧ IL H r x.1
def Begun (H : Hp) (a : Addr) (b : List (List Int × Nat)) : Prop := ∃ ts : List Addr, H a = some (.lst (ts.map V.ref)) ∧ ts.length = b.length ∧ ∀ (k : Nat) (t : Addr) (x : List Int × Nat), ts[k]? = some t → b[k]? = some x → ∃ r, PairAt H t x r
def BegUp (H : Hp) (D : Addr) (b : List (List Int × Nat)) : Prop := ∃ ts : List Addr, H D = some (.lst (ts.map V.ref)) ∧ ts.length = b.length ∧ ∀ (k : Nat) (t : Addr) (x : List Int × Nat), ts[k]? = some t → b[k]? = some x → t ≠ D ∧ ∃ r, PairAt H t x r ∧ r ≠ D
theorem BegUp.done {H : Hp} {D : Addr} {b : List (List Int × Nat)} (m : BegUp H D b) : Begun H D b := by
  obtain ⟨ts, h1, h2, h3⟩ := m
  exact ⟨ts, h1, h2, fun k t x a b => by obtain ⟨_, r, h4, _⟩ := h3 k t x a b; exact ⟨r, h4⟩⟩
theorem BegUp.nil {H : Hp} {D : Addr} : BegUp (upd H D (.lst [])) D [] := ⟨[], upd_same, rfl, fun k t x a _ => by simp at a⟩
theorem BegUp.keep {H H' : Hp} {D : Addr} {b : List (List Int × Nat)} (m : BegUp H D b) (s : Same H H') : BegUp H' D b := by
  obtain ⟨ts, h1, h2, h3⟩ := m
  exact ⟨ts, s _ _ h1, h2, fun k t x a b => by obtain ⟨h4, r, h5, h6⟩ := h3 k t x a b; exact ⟨h4, r, ⟨s _ _ h5.1, s _ _ h5.2⟩, h6⟩⟩
theorem BegUp.at {H : Hp} {D : Addr} {b : List (List Int × Nat)} (m : BegUp H D b) : ∃ acc : List V, H D = some (.lst acc) ∧ acc.length = b.length := by
  obtain ⟨ts, h1, h2, _⟩ := m
  exact ⟨_, h1, by simp [h2]⟩
theorem BegUp.step {H : Hp} {D t r : Addr} {b : List (List Int × Nat)} {x : List Int × Nat} (m : BegUp H D b) {acc : List V} (ha : H D = some (.lst acc)) (ht : t ≠ D) (hr : r ≠ D) (hp : PairAt H t x r) :
    BegUp (upd H D (.lst (acc ++ [.ref t]))) D (b ++ [x]) := by
  obtain ⟨ts, h1, h2, h3⟩ := m
  rw [h1] at ha
  cases ha
  refine ⟨ts ++ [t], ?_, by simp [h2], fun k u y a c => ?_⟩
  · rw [upd_same, List.map_append]
    rfl
  · by_cases hk : k < ts.length
    · rw [List.getElem?_append_left hk] at a
      rw [List.getElem?_append_left (by omega)] at c
      obtain ⟨h4, r', h5, h6⟩ := h3 k u y a c
      exact ⟨h4, r', ⟨by rw [upd_ne h4]; exact h5.1, by rw [IL, upd_ne h6]; exact h5.2⟩, h6⟩
    · have hk2 : k = ts.length := by
        have := (List.getElem?_eq_some_iff.mp a).1
        simp at this
        omega
      subst hk2
      rw [List.getElem?_append_right (Nat.le_refl _)] at a
      rw [List.getElem?_append_right (by omega)] at c
      have e1 : t = u := by simpa using a
      have e2 : x = y := by simpa [h2] using c
      subst e1 e2
      exact ⟨ht, r, ⟨by rw [upd_ne ht]; exact hp.1, by rw [IL, upd_ne hr]; exact hp.2⟩, hr⟩
abbrev sWn : Stmt := stm 13
def spWn : Sp := fun vs H Q _ => ∃ (a r g b : Addr) (begun : List (List Int × Nat)) (row greatest behind : List Int), vs = [.ref a, .ref r, .ref g, .ref b] ∧ Begun H a begun ∧ IL H r row ∧ IL H g greatest ∧ IL H b behind ∧
  row.length ≤ 6 ∧ begun.length ≤ 10000 ∧ (∀ x ∈ begun, x.2 < behind.length ∧ x.2 < greatest.length ∧ x.1.length ≤ 100) ∧
  ∀ (H' : Hp) (p : Addr), Same H H' → H p = Option.none → Begun H' p (withNext row greatest behind begun) → Q (.ref p) H'
section
variable {P : Program} {w : World} {K : PySem.W.Frag} {mg : Str → Option Value} {base : Heap}
theorem withNext_snoc (row greatest behind : List Int) {begun : List (List Int × Nat)} {i : Nat} {x : List Int × Nat} (h : begun[i]? = some x) : withNext row greatest behind (begun.take (i + 1)) = withNext row greatest behind (begun.take i) ++ nexts row greatest behind x := by
  unfold withNext
  rw [take_snoc h, List.flatMap_append, List.flatMap_cons, List.flatMap_nil, List.append_nil]
theorem nextsTo_len (row greatest behind : List Int) (x : List Int × Nat) (k : Nat) : (nextsTo row greatest behind x k).length ≤ k := by
  unfold nextsTo
  rw [List.length_map]
  have := List.length_filter_le (fun j => x.2.testBit j && (row.getD j 0 + behind.getD (x.2 - 2 ^ j) 0 == greatest.getD x.2 0)) (List.range k)
  rw [List.length_range] at this
  exact this
theorem scWn : FnScope ["begun", "row", "greatest", "behind", "longer", "assignment", "free", "i", "win"] ["begun", "row", "greatest", "behind"] (defScope sWn) := ⟨rfl, rfl, rfl, by decide +kernel, rfl, by decide +kernel, by decide +kernel⟩
theorem ok_wn {f : Addr} {fd : FuncData} (F : Fun K "with_next" "with_next" sWn f fd) (B : Blt mg) : FnOk P w K mg base CX0 1 f fd ["begun", "row", "greatest", "behind"] spWn := by
  refine F.ok scWn (fun vs H Q E h => ?_) (fun cdv A outer s H vs Q E hr h => ?_)
  · obtain ⟨a, r, g, b, begun, row, greatest, behind, rfl, _⟩ := h
    rfl
  · obtain ⟨a, r, g, b, begun, row, greatest, behind, rfl, hBg, hR, hG, hB, hl, hbl, hx, k⟩ := h
    refine ⟨_, pss_cons (ps_set (i := 4) scWn.nd rfl (Or.inl rfl) (pe_lst pa_nil))
      (pss_cons (ps_for PassesOwn.never rfl (pi_list (pv 0)) (pg_tup rfl (pgs_cons (pg_name (i := 5) scWn.nd rfl (Or.inl rfl)) (pgs_cons (pg_name (i := 6) scWn.nd rfl (Or.inl rfl)) pgs_nil)))
        (pss_cons (ps_for PassesOwn.never rfl (pi_enum rfl B.enumerate (pa_cons (pv 1) pa_nil)) (pg_tup rfl (pgs_cons (pg_name (i := 7) scWn.nd rfl (Or.inl rfl)) (pgs_cons (pg_name (i := 8) scWn.nd rfl (Or.inl rfl)) pgs_nil)))
          (pss_one (ps_if (PW.pt (pw_and (pt_cmpR op_ne (pe_op op_and (pv 6) (pe_op op_shl pe_int (pv 7))) pe_int (nomark _)) (pw_and1 (pt_cmpR op_eq (pe_op op_add (pv 8) (pe_ix ix_list (pv 3) (pe_op op_sub (pv 6) (pe_op op_shl pe_int (pv 7))) (fun _ _ => rfl))) (pe_ix ix_list (pv 2) (pv 6) (fun _ _ => rfl)) (nomark _)))))
            (pss_one (ps_expr (pe_bm PySem.F.plainAttrs_list PySem.F.slot_list_append PySem.F.type_list_append mt_append (pv 4) (pa_cons (pe_tup (pa_cons (pe_op op_cat (pv 5) (pe_lst (pa_cons (pe_op op_add (pv 7) pe_int) pa_nil))) (pa_cons (pe_op op_sub (pv 6) (pe_op op_shl pe_int (pv 7))) pa_nil))) pa_nil))))
            pss_nil)))
        (pss_one (ps_if (pt_cmpR op_eq (pe_ix ix_list (pv 3) (pv 6) (fun _ _ => rfl)) (pe_ix ix_list (pv 2) (pv 6) (fun _ _ => rfl)) (nomark _))
          (pss_one (ps_expr (pe_bm PySem.F.plainAttrs_list PySem.F.slot_list_append PySem.F.type_list_append mt_append (pv 4) (pa_cons (pe_tup (pa_cons (pe_op op_cat (pv 5) (pe_lst (pa_cons pe_int pa_nil))) (pa_cons (pv 6) pa_nil))) pa_nil))))
          pss_nil))))
      (pss_one (ps_ret (pv 4)))), ?_⟩
    obtain ⟨ts, hts, htl, htr⟩ := id hBg
    refine ⟨Nat.zero_le _, fun q hq => ?_⟩
    have s0 : Same H (upd H q (.lst [])) := same_new hq
    refine ⟨_, rfl, a, rfl, ⟨_, SqL.of (s0 _ _ hts)⟩, ?_⟩
    have h7 : ∀ j, (withNext row greatest behind (begun.take j)).length ≤ 70000 := fun j => by
      have h1 := withNext_len row greatest behind (begun.take j)
      have h2 : (begun.take j).length ≤ 10000 := by rw [List.length_take]; omega
      exact Nat.le_trans h1 (Nat.le_trans (Nat.mul_le_mul h2 (show row.length + 1 ≤ 7 by omega)) (by decide))
    refine for_list (K := K) (a := a) (xs := ts.map V.ref) (fun i σ H' => ∃ v5 v6 v7 v8 : Option V, σ = [some (.ref a), some (.ref r), some (.ref g), some (.ref b), some (.ref q), v5, v6, v7, v8] ∧ Same H H' ∧ BegUp H' q (withNext row greatest behind (begun.take i)))
      ⟨none, none, none, none, rfl, s0, BegUp.nil⟩ (fun i σ H' _ ⟨_, _, _, _, _, s2, _⟩ => SqL.of (s2 _ _ hts)) ?_ ?_
    · rintro i x0 σ H1 hx0 ⟨v5, v6, v7, v8, rfl, s1, m1⟩
      obtain ⟨t, ht, rfl⟩ := ref_at hx0
      have hi : i < begun.length := by
        rw [← htl]
        exact (List.getElem?_eq_some_iff.mp ht).1
      have hxi : begun[i]? = some begun[i] := List.getElem?_eq_getElem hi
      obtain ⟨ra, hp1, hp2⟩ := htr i t _ ht hxi
      obtain ⟨hxb, hxg, hxl⟩ := hx _ (List.getElem_mem hi)
      generalize begun[i] = x at hp1 hp2 hxb hxg hxl hxi
      refine ⟨t, _, rfl, SqT.of (s1 _ _ hp1), rfl, _, _, rfl, _, _, rfl, rfl, ?_⟩
      refine ⟨_, rfl, r, row.map V.int, rfl, SqL.of (s1.il hR), ?_⟩
      refine for_enum (K := K) (a := r) (xs := row.map V.int) (fun j σ H' => ∃ v7 v8 : Option V, σ = [some (.ref a), some (.ref r), some (.ref g), some (.ref b), some (.ref q), some (.ref ra), some (.int (x.2 : Nat)), v7, v8] ∧ Same H H' ∧ BegUp H' q (withNext row greatest behind (begun.take i) ++ nextsTo row greatest behind x j))
        ⟨v7, v8, rfl, s1, by show BegUp H1 q (_ ++ []); rw [List.append_nil]; exact m1⟩ (fun j σ H' _ ⟨_, _, _, s2, _⟩ => s2.seq (SqL.of hR)) ?_ ?_
      · rintro j y σ H2 T hy ⟨u7, u8, rfl, s2, m2⟩ hT
        obtain ⟨win, hwin, rfl⟩ := int_at hy
        have hj : j < row.length := (List.getElem?_eq_some_iff.mp hwin).1
        have ew : row.getD j 0 = win := by rw [List.getD_eq_getElem?_getD, hwin]; rfl
        have sT : Same H2 (upd H2 T (.tup [.int (j : Nat), .int win])) := same_new hT
        have s3 : Same H (upd H2 T (.tup [.int (j : Nat), .int win])) := s2.trans sT
        have m3 := m2.keep sT
        have hns := nextsTo_succ row greatest behind x j
        have h7i := h7 i
        have hnl := nextsTo_len row greatest behind x j
        refine ⟨T, _, rfl, SqT.of upd_same, rfl, _, _, rfl, _, _, rfl, rfl, ?_⟩
        generalize upd H2 T (.tup [.int (j : Nat), .int win]) = H3 at s3 m3 ⊢
        refine ⟨_, rfl, _, rfl, 1, j, rfl, rfl, cpow_small j (by omega), x.2, _, rfl, rfl, rfl, _, rfl, ?_⟩
        rw [bit_ne, Bool.not_not]
        cases hb2 : x.2.testBit j with
        | false =>
          rw [hb2, Bool.false_and, if_neg (by simp), List.append_nil] at hns
          exact iteF (iteF ⟨_, _, rfl, s3, by rw [hns]; exact m3⟩)
        | true =>
          rw [hb2, Bool.true_and, ew] at hns
          have hle := (sub_bit hb2).2
          have esub : (x.2 : Int) - ((2 ^ j : Nat) : Int) = ((x.2 - 2 ^ j : Nat) : Int) := by omega
          refine iteT ⟨_, rfl, _, rfl, _, rfl, _, rfl, 1, j, rfl, rfl, cpow_small j (by omega), x.2, _, rfl, rfl, b, behind.map V.int, _, _, rfl, rfl, SqL.of (s3.il hB), ?_, win, behind.getD (x.2 - 2 ^ j) 0, rfl, rfl, _, rfl, _, rfl, g, greatest.map V.int, _, V.int (greatest.getD x.2 0), rfl, rfl, SqL.of (s3.il hG), il_at (getD_at hxg), rfl, _, rfl, ?_⟩
          · rw [shl_nat, esub]
            exact il_at (getD_at (Nat.lt_of_le_of_lt (Nat.sub_le _ _) hxb))
          · refine ite2 (fun hc => ?_) (fun hc => ?_)
            · have hc2 : win + behind.getD (x.2 - 2 ^ j) 0 = greatest.getD x.2 0 := V.int.inj (of_decide_eq_true hc)
              rw [if_pos (by simpa using hc2)] at hns
              obtain ⟨acc, hacc, hal⟩ := m3.at
              have hra3 : IL H3 ra x.1 := s3.il hp2
              refine ⟨_, rfl, .inl ⟨rfl, _, SqL.of hacc⟩, _, rfl, _, rfl, (j : Int), 1, rfl, rfl, (by show 1 ≤ sizeLine; decide), fun l hl0 => ?_⟩
              have s4 : Same H3 (upd H3 l (.lst [V.int ((j : Int) + 1)])) := same_new hl0
              refine ⟨ra, l, _, _, rfl, rfl, s4.il hra3, upd_same, ?_, fun p hp => ?_⟩
              · rw [List.length_map]
                exact smallE (by show x.1.length + 1 ≤ 100000; omega)
              have hp3 : H3 p = Option.none := s4.free hp
              have s5 : Same H3 (upd (upd H3 l (.lst [V.int ((j : Int) + 1)])) p (.lst (x.1.map V.int ++ [V.int ((j : Int) + 1)]))) := Same.put s4 hp3
              have hil5 : IL (upd (upd H3 l (.lst [V.int ((j : Int) + 1)])) p (.lst (x.1.map V.int ++ [V.int ((j : Int) + 1)]))) p (x.1 ++ [((j + 1 : Nat) : Int)]) := by
                rw [IL, upd_same, List.map_append]
                rfl
              generalize upd (upd H3 l (.lst [V.int ((j : Int) + 1)])) p (.lst (x.1.map V.int ++ [V.int ((j : Int) + 1)])) = H5 at s5 hil5 ⊢
              refine ⟨_, rfl, _, rfl, 1, j, rfl, rfl, cpow_small j (by omega), x.2, _, rfl, rfl, (by show 2 ≤ sizeLine; decide), fun tp htp => ?_⟩
              rw [shl_nat]
              dsimp only
              rw [esub]
              have s6 : Same H5 (upd H5 tp (.tup [.ref p, .int ((x.2 - 2 ^ j : Nat) : Int)])) := same_new htp
              have m6 := m3.keep (s5.trans s6)
              have ha6 := s6 _ _ (s5 _ _ hacc)
              have hpq : p ≠ q := Ne.symm (ne_of_none hacc hp3)
              have htq : tp ≠ q := Ne.symm (ne_of_none (s5 _ _ hacc) htp)
              have pr : PairAt (upd H5 tp (.tup [.ref p, .int ((x.2 - 2 ^ j : Nat) : Int)])) tp (x.1 ++ [((j + 1 : Nat) : Int)], x.2 - 2 ^ j) p := ⟨upd_same, s6.il hil5⟩
              have m7 := m6.step ha6 htq hpq pr
              rw [List.append_assoc, ← hns] at m7
              refine ⟨q, acc, _, rfl, rfl, ha6, ?_, _, _, rfl, Same.put ((s3.trans s5).trans s6) hq, m7⟩
              rw [hal, List.length_append]
              exact small (by omega)
            · have hc2 : ¬ win + behind.getD (x.2 - 2 ^ j) 0 = greatest.getD x.2 0 := fun z => hc (decide_eq_true (congrArg V.int z))
              rw [if_neg (by simpa using hc2), List.append_nil] at hns
              exact ⟨_, _, rfl, s3, by rw [hns]; exact m3⟩
      · rintro σ H2 ⟨u7, u8, rfl, s2, m2⟩
        rw [List.length_map] at m2
        have hwn := withNext_snoc row greatest behind hxi
        have h7i := h7 i
        have hnl := nextsTo_len row greatest behind x row.length
        refine ⟨_, rfl, _, rfl, b, behind.map V.int, _, V.int (behind.getD x.2 0), rfl, rfl, SqL.of (s2.il hB), il_at (getD_at hxb), _, rfl, _, rfl, g, greatest.map V.int, _, V.int (greatest.getD x.2 0), rfl, rfl, SqL.of (s2.il hG), il_at (getD_at hxg), rfl, _, rfl, ?_⟩
        refine ite2 (fun hc => ?_) (fun hc => ?_)
        · have hc2 : behind.getD x.2 0 = greatest.getD x.2 0 := V.int.inj (of_decide_eq_true hc)
          have en : nexts row greatest behind x = nextsTo row greatest behind x row.length ++ [(x.1 ++ [0], x.2)] := by
            unfold nexts
            rw [if_pos hc2]
          obtain ⟨acc, hacc, hal⟩ := m2.at
          have hra3 : IL H2 ra x.1 := s2.il hp2
          refine ⟨_, rfl, .inl ⟨rfl, _, SqL.of hacc⟩, _, rfl, (by show 1 ≤ sizeLine; decide), fun l hl0 => ?_⟩
          have s4 : Same H2 (upd H2 l (.lst [V.int 0])) := same_new hl0
          refine ⟨ra, l, _, _, rfl, rfl, s4.il hra3, upd_same, ?_, fun p hp => ?_⟩
          · rw [List.length_map]
            exact smallE (by show x.1.length + 1 ≤ 100000; omega)
          have hp3 : H2 p = Option.none := s4.free hp
          have s5 : Same H2 (upd (upd H2 l (.lst [V.int 0])) p (.lst (x.1.map V.int ++ [V.int 0]))) := Same.put s4 hp3
          have hil5 : IL (upd (upd H2 l (.lst [V.int 0])) p (.lst (x.1.map V.int ++ [V.int 0]))) p (x.1 ++ [0]) := by
            rw [IL, upd_same, List.map_append]
            rfl
          generalize upd (upd H2 l (.lst [V.int 0])) p (.lst (x.1.map V.int ++ [V.int 0])) = H5 at s5 hil5 ⊢
          refine ⟨_, rfl, (by show 2 ≤ sizeLine; decide), fun tp htp => ?_⟩
          have s6 : Same H5 (upd H5 tp (.tup [.ref p, .int (x.2 : Nat)])) := same_new htp
          have m6 := m2.keep (s5.trans s6)
          have ha6 := s6 _ _ (s5 _ _ hacc)
          have hpq : p ≠ q := Ne.symm (ne_of_none hacc hp3)
          have htq : tp ≠ q := Ne.symm (ne_of_none (s5 _ _ hacc) htp)
          have pr : PairAt (upd H5 tp (.tup [.ref p, .int (x.2 : Nat)])) tp (x.1 ++ [0], x.2) p := ⟨upd_same, s6.il hil5⟩
          have m7 := m6.step ha6 htq hpq pr
          rw [List.append_assoc, ← en, ← hwn] at m7
          refine ⟨q, acc, _, rfl, rfl, ha6, ?_, _, _, _, _, rfl, Same.put ((s2.trans s5).trans s6) hq, m7⟩
          rw [hal, List.length_append]
          exact small (by omega)
        · have hc2 : ¬ behind.getD x.2 0 = greatest.getD x.2 0 := fun z => hc (decide_eq_true (congrArg V.int z))
          have en : nexts row greatest behind x = nextsTo row greatest behind x row.length := by
            unfold nexts
            rw [if_neg hc2, List.append_nil]
          rw [← en, ← hwn] at m2
          exact ⟨_, _, _, _, rfl, s2, m2⟩
    · rintro σ H1 ⟨v5, v6, v7, v8, rfl, s1, m1⟩
      rw [List.length_map, htl, List.take_length] at m1
      exact ⟨_, rfl, k H1 q s1 hq m1.done⟩
end
end TW

end

section
set_option Elab.async false
set_option linter.all false
set_option maxRecDepth 100000
set_option maxHeartbeats 2000000
namespace TW
open PySem PySem.Spec PyProof.Rows L2

abbrev sBas : Stmt := stm 14
def spBas : Sp := fun vs H Q _ => ∃ (a : Addr) (rows : List (List Int)) (M : Nat), vs = [.ref a] ∧ Mat H a rows ∧ rows ≠ [] ∧ (∀ r ∈ rows, r.length = M) ∧ M ≤ 6 ∧ rows.length ≤ 5 ∧
  ∀ (H' : Hp) (p : Addr), Same H H' → H p = Option.none → Mat H' p (bestsI rows M) → Q (.ref p) H'
section
variable {P : Program} {w : World} {K : PySem.W.Frag} {mg : Str → Option Value} {base : Heap}
theorem nexts_asg {row greatest behind : List Int} {x y : List Int × Nat} (hy : y ∈ nexts row greatest behind x) : y.1.length = x.1.length + 1 := by
  unfold nexts at hy
  rcases List.mem_append.mp hy with hy | hy
  · obtain ⟨j, _, rfl⟩ := List.mem_map.mp hy
    simp
  · by_cases c : behind.getD x.2 0 = greatest.getD x.2 0
    · rw [if_pos c] at hy
      have : y = (x.1 ++ [0], x.2) := by simpa using hy
      rw [this]
      simp
    · rw [if_neg c] at hy
      cases hy
theorem pow7 {i : Nat} (h : i ≤ 4) : 7 ^ i ≤ 10000 := Nat.le_trans (Nat.pow_le_pow_right (by decide) h) (by decide)
theorem pow7b {i : Nat} (h : i ≤ 5) : 7 ^ i ≤ 50000 := Nat.le_trans (Nat.pow_le_pow_right (by decide) h) (by decide)
theorem scBas : FnScope ["wins", "by_last", "begun", "p", "row", "left", "assignment", "free"] ["wins"] (defScope sBas) := ⟨rfl, rfl, rfl, by decide +kernel, rfl, by decide +kernel, by decide +kernel⟩
theorem ok_bas {f fB fW : Addr} {fd fdB fdW : FuncData} (F : Fun K "best_assignments" "best_assignments" sBas f fd) (B : Blt mg) (DB : Df K mg "greatest_by_last" sGbl ["wins"] fB fdB) (GB : FnOk P w K mg base CX0 2 fB fdB ["wins"] spGbl)
    (DW : Df K mg "with_next" sWn ["begun", "row", "greatest", "behind"] fW fdW) : FnOk P w K mg base CX0 3 f fd ["wins"] spBas := by
  refine F.ok scBas (fun vs H Q E h => ?_) (fun cdv A outer s H vs Q E hr h => ?_)
  · obtain ⟨a, rows, M, rfl, _⟩ := h
    rfl
  · obtain ⟨a, rows, M, rfl, hm, hne, hM, hM6, hr5, k⟩ := h
    have GW : FnOk P w K mg base CX0 1 fW fdW ["begun", "row", "greatest", "behind"] spWn := ok_wn DW.fn B
    refine ⟨_, pss_cons (ps_set (i := 1) scBas.nd rfl (Or.inl rfl) (pe_call GB (hr.mono (by decide)) rfl DB.mg DB.fn.kp DB.b .nil pass0 (pa_cons (pv 0) pa_nil)))
      (pss_cons (ps_set (i := 2) scBas.nd rfl (Or.inl rfl) (pe_lst (pa_cons (pe_tup (pa_cons (pe_lst pa_nil) (pa_cons (pe_op op_sub (pe_callB call_len_seq rfl B.len bt_len (pa_cons (pe_ix ix_list (pv 1) pe_int (fun _ _ => rfl)) pa_nil)) pe_int) pa_nil))) pa_nil)))
      (pss_cons (ps_for PassesOwn.never rfl (pi_enum rfl B.enumerate (pa_cons (pv 0) pa_nil)) (pg_tup rfl (pgs_cons (pg_name (i := 3) scBas.nd rfl (Or.inl rfl)) (pgs_cons (pg_name (i := 4) scBas.nd rfl (Or.inl rfl)) pgs_nil)))
        (pss_cons (ps_set (i := 5) scBas.nd rfl (Or.inl rfl) (pe_op op_sub (pe_callB call_len_seq rfl B.len bt_len (pa_cons (pv 0) pa_nil)) (pv 3)))
        (pss_one (ps_set (i := 2) scBas.nd rfl (Or.inl rfl) (pe_call GW (hr.mono (by decide)) rfl DW.mg DW.fn.kp DW.b .nil pass0 (pa_cons (pv 2) (pa_cons (pv 4) (pa_cons (pe_ix ix_list (pv 1) (pv 5) (fun _ _ => rfl)) (pa_cons (pe_ix ix_list (pv 1) (pe_op op_sub (pv 5) pe_int) (fun _ _ => rfl)) pa_nil)))))))))
      (pss_one (ps_ret (pe_lc rfl scBas.nd (pi_list (pv 2)) (blkOk_by (own := [("assignment", 6), ("free", 7)]) rfl)
        (fun _ _ _ _ _ => pg_tupK K rfl 2 rfl (pgs_cons (pg_name (i := 6) scBas.nd rfl (Or.inl rfl) (Or.inr rfl)) (pgs_cons (pg_name (i := 7) scBas.nd rfl (Or.inl rfl) (Or.inr rfl)) pgs_nil)) rfl)
        (fun _ _ _ _ _ => pts_nil) (fun _ _ _ _ _ => pv 6)))))), ?_⟩
    have h0 : 0 < rows.length := List.length_pos_iff.mpr hne
    have hpos := Nat.two_pow_pos M
    refine ⟨_, rfl, a, rows, M, rfl, hm, hne, hM, by omega, by omega, fun H1 t s1 ht m1 => ?_⟩
    obtain ⟨xs0, r0, q1, q2, q3⟩ := m1.ix (K := K) (tabs_get M rows (Nat.zero_le _))
    have e1 : (((((tab M (rows.drop (rows.length - 0))).map V.int).length : Nat) : Int) - 1) = ((2 ^ M - 1 : Nat) : Int) := by
      rw [List.length_map, tab_length]
      omega
    refine ⟨Nat.zero_le _, fun e0 he0 => ?_⟩
    have s2 : Same H1 (upd H1 e0 (.lst [])) := same_new he0
    refine ⟨_, rfl, t, xs0, 0, _, rfl, rfl, s2.seq q1, q2, r0, _, rfl, .inl (SqL.of (s2.il q3)), _, _, rfl, rfl, (by show 2 ≤ sizeLine; decide), fun tp htp => ?_⟩
    dsimp only
    rw [e1]
    have s3 : Same (upd H1 e0 (.lst [])) (upd (upd H1 e0 (.lst [])) tp (.tup [.ref e0, .int ((2 ^ M - 1 : Nat) : Int)])) := same_new htp
    have pr : PairAt (upd (upd H1 e0 (.lst [])) tp (.tup [.ref e0, .int ((2 ^ M - 1 : Nat) : Int)])) tp ([], 2 ^ M - 1) e0 := ⟨upd_same, s3 _ _ upd_same⟩
    have s4 : Same H1 (upd (upd H1 e0 (.lst [])) tp (.tup [.ref e0, .int ((2 ^ M - 1 : Nat) : Int)])) := s2.trans s3
    generalize upd (upd H1 e0 (.lst [])) tp (.tup [.ref e0, .int ((2 ^ M - 1 : Nat) : Int)]) = H4 at pr s4 ⊢
    refine ⟨(by show 1 ≤ sizeLine; decide), fun bg hbg => ?_⟩
    have s5 : Same H4 (upd H4 bg (.lst [.ref tp])) := same_new hbg
    have b5 : Begun (upd H4 bg (.lst [.ref tp])) bg [([], 2 ^ M - 1)] := by
      refine ⟨[tp], upd_same, rfl, fun j u x hu hx => ?_⟩
      have hj : j = 0 := by
        have := (List.getElem?_eq_some_iff.mp hu).1
        simp at this
        exact this
      subst hj
      have e1 : tp = u := by simpa using hu
      have e2 : ([], 2 ^ M - 1) = x := by simpa using hx
      subst e1 e2
      exact ⟨e0, s5 _ _ pr.1, s5 _ _ pr.2⟩
    have s6 : Same H1 (upd H4 bg (.lst [.ref tp])) := s4.trans s5
    generalize upd H4 bg (.lst [.ref tp]) = H5 at b5 s6 ⊢
    obtain ⟨rs, hrs, hrl, hrr⟩ := id hm
    refine ⟨_, rfl, a, rs.map V.ref, rfl, SqL.of (s6 _ _ (s1 _ _ hrs)), ?_⟩
    refine for_enum (K := K) (a := a) (xs := rs.map V.ref) (fun i σ H' => ∃ (v3 v4 v5 v6 v7 : Option V) (bg : Addr) (bl : List (List Int × Nat)), σ = [some (.ref a), some (.ref t), some (.ref bg), v3, v4, v5, v6, v7] ∧ Same H1 H' ∧ Begun H' bg bl ∧
        bl.length ≤ 7 ^ i ∧ (∀ x ∈ bl, x.2 < 2 ^ M ∧ x.1.length = i) ∧ walkB M rows [([], 2 ^ M - 1)] = walkB M (rows.drop i) bl)
      ⟨none, none, none, none, none, bg, _, rfl, s6, b5, by simp, fun x hx => by
        have : x = ([], 2 ^ M - 1) := by simpa using hx
        rw [this]
        exact ⟨by show 2 ^ M - 1 < 2 ^ M; omega, rfl⟩, rfl⟩ (fun i σ H' _ ⟨_, _, _, _, _, _, _, _, s3, _⟩ => SqL.of (s3 _ _ (s1 _ _ hrs))) ?_ ?_
    · rintro i x σ H2 T hx ⟨u3, u4, u5, u6, u7, bg2, bl, rfl, s7, b7, hbl, hbx, hw⟩ hT
      obtain ⟨r, hr', rfl⟩ := ref_at hx
      have hi : i < rows.length := by
        rw [← hrl]
        exact (List.getElem?_eq_some_iff.mp hr').1
      have hrow : rows[i]? = some rows[i] := List.getElem?_eq_getElem hi
      have hil := hrr i r _ hr' hrow
      have hlr : rows[i].length = M := hM _ (List.getElem_mem hi)
      have sT : Same H2 (upd H2 T (.tup [.int (i : Nat), .ref r])) := same_new hT
      have s8 : Same H1 (upd H2 T (.tup [.int (i : Nat), .ref r])) := s7.trans sT
      have b8 : Begun (upd H2 T (.tup [.int (i : Nat), .ref r])) bg2 bl := by
        obtain ⟨ts, h1, h2, h3⟩ := b7
        exact ⟨ts, sT _ _ h1, h2, fun k t x a b => by obtain ⟨r, h4, h5⟩ := h3 k t x a b; exact ⟨r, sT _ _ h4, sT _ _ h5⟩⟩
      refine ⟨T, _, rfl, SqT.of upd_same, rfl, _, _, rfl, _, _, rfl, rfl, ?_⟩
      generalize upd H2 T (.tup [.int (i : Nat), .ref r]) = H3 at s8 b8 ⊢
      have t1 := tabs_get M rows (k := rows.length - i - 1) (by omega)
      have t2 := tabs_get M rows (k := rows.length - i) (by omega)
      rw [show rows.length - (rows.length - i - 1) = i + 1 by omega] at t1
      rw [show rows.length - (rows.length - i) = i by omega] at t2
      obtain ⟨xs1, b1, g1, g2, g3⟩ := (s8.mat m1).ix (K := K) t1
      obtain ⟨xs2, b2, g4, g5, g6⟩ := (s8.mat m1).ix (K := K) t2
      have ei : ((((rs.map V.ref).length : Nat) : Int) - ((i : Nat) : Int)) = ((rows.length - i : Nat) : Int) := by
        rw [List.length_map, hrl]
        omega
      have ei1 : ((((rs.map V.ref).length : Nat) : Int) - ((i : Nat) : Int)) - 1 = ((rows.length - i - 1 : Nat) : Int) := by
        rw [List.length_map, hrl]
        omega
      have ed : rows.drop i = rows[i] :: rows.drop (i + 1) := List.drop_eq_getElem_cons hi
      refine ⟨_, rfl, a, rs.map V.ref, rfl, .inl (SqL.of (s8 _ _ (s1 _ _ hrs))), _, rfl, _, _, rfl, rfl, ?_⟩
      refine ⟨_, rfl, _, rfl, _, rfl, _, rfl, t, xs2, _, _, rfl, rfl, g4, by rw [ei]; exact g5, _, rfl, _, rfl, _, _, rfl, rfl, t, xs1, _, _, rfl, rfl, g1, by rw [ei1]; exact g2, ?_⟩
      have h7 : bl.length ≤ 10000 := Nat.le_trans hbl (pow7 (by omega))
      refine ⟨bg2, r, b2, b1, bl, rows[i], _, _, rfl, b8, s8.il (s1.il hil), g6, g3, by omega, h7, fun x hx => ?_, fun H6 p s9 hp b9 => ?_⟩
      · obtain ⟨h1, h2⟩ := hbx x hx
        rw [tab_length, tab_length]
        exact ⟨h1, h1, by omega⟩
      · refine ⟨_, _, _, _, _, p, _, rfl, s8.trans s9, b9, ?_, fun y hy => ?_, ?_⟩
        · have h1 := withNext_len rows[i] (tab M (rows.drop i)) (tab M (rows.drop (i + 1))) bl
          rw [hlr] at h1
          have h2 : bl.length * (M + 1) ≤ 7 ^ i * 7 := Nat.mul_le_mul hbl (by omega)
          rw [Nat.pow_succ]
          omega
        · obtain ⟨x, hx, hy⟩ := List.mem_flatMap.mp hy
          obtain ⟨h1, h2⟩ := hbx x hx
          exact ⟨nexts_lt h1 hy, by rw [nexts_asg hy, h2]⟩
        · rw [hw, ed]
          rfl
    · rintro σ H2 ⟨u3, u4, u5, u6, u7, bg2, bl, rfl, s7, b7, hbl, hbx, hw⟩
      rw [List.length_map, hrl] at hbl hw
      rw [List.drop_length] at hw
      have hw : walkB M rows [([], 2 ^ M - 1)] = bl := hw
      have hall := walkB_all rows hM
      rw [hw] at hall
      obtain ⟨ts, hts, htl, htr⟩ := id b7
      have h7 : bl.length ≤ 50000 := Nat.le_trans hbl (pow7b hr5)
      refine ⟨_, rfl, bg2, rfl, ⟨_, SqL.of hts⟩, fun D hD => ?_⟩
      refine lc_list (K := K) (a := bg2) (xs := ts.map V.ref) (fun j H' => Same H2 H' ∧ MatUp H' D (bestsI rows M) j) ⟨same_new hD, MatUp.zero⟩ (fun j H' _ p => SqL.of (p.1 _ _ hts)) ?_ ?_
      · rintro j x H' hx ⟨s8, m8⟩
        obtain ⟨tp, htp, rfl⟩ := ref_at hx
        have hj : j < bl.length := by
          rw [← htl]
          exact (List.getElem?_eq_some_iff.mp htp).1
        have hbj : bl[j]? = some bl[j] := List.getElem?_eq_getElem hj
        obtain ⟨r, hp1, hp2⟩ := htr j tp _ htp hbj
        refine ⟨tp, _, rfl, SqT.of (s8 _ _ hp1), rfl, _, _, rfl, _, _, rfl, rfl, rfl, tyes ?_⟩
        have hrD : r ≠ D := Ne.symm (fun z => by rw [z] at hD; rw [hp2] at hD; cases hD)
        have hb2 : (bestsI rows M)[j]? = some bl[j].1 := by
          rw [← hall, List.getElem?_map, hbj]
          rfl
        obtain ⟨acc, a1, a2, a3⟩ := m8.step (p := r) (Same.refl H') hrD hb2 (s8.il hp2)
        exact ⟨_, rfl, acc, a1, by rw [a2]; exact small (by omega), Same.put s8 hD, a3⟩
      · rintro H' ⟨s8, m8⟩
        refine k H' D ((s1.trans s7).trans s8) (s1.free (s7.free hD)) (MatUp.done ?_)
        have e : (bestsI rows M).length = (ts.map V.ref).length := by
          rw [← hall, List.length_map, List.length_map, htl]
        rw [e]
        exact m8
abbrev sRep : Stmt := stm 9
def spRep : Sp := fun vs H Q _ => ∃ (a : Addr) (xs : List V) (p : Int) (v : V), vs = [.ref a, .int p, v] ∧ H a = some (.lst xs) ∧ 1 ≤ p ∧ p ≤ (xs.length : Int) ∧ xs.length ≤ 1000 ∧
  ∀ (H' : Hp) (q : Addr), Same H H' → H q = Option.none → H' q = some (.lst (xs.set (p.toNat - 1) v)) → Q (.ref q) H'
theorem scRep : FnScope ["some", "p", "new"] ["some", "p", "new"] (defScope sRep) := ⟨rfl, rfl, rfl, by decide +kernel, rfl, by decide +kernel, by decide +kernel⟩
theorem cut_to (xs : List V) {j : Nat} (h : j ≤ xs.length) : cutV xs Option.none (some (j : Int)) = xs.take j := by
  unfold cutV
  rw [HT.sIx_none, HT.sIx_nat, Nat.min_eq_left h, List.drop_zero, Nat.sub_zero]
theorem cut_from (xs : List V) {j : Nat} (h : j ≤ xs.length) : cutV xs (some (j : Int)) Option.none = xs.drop j := by
  unfold cutV
  rw [HT.sIx_none, HT.sIx_nat, Nat.min_eq_left h, List.take_of_length_le (by rw [List.length_drop]; exact Nat.le_refl _)]
theorem ok_rep {f : Addr} {fd : FuncData} (F : Fun K "replaced" "replaced" sRep f fd) : FnOk P w K mg base CX0 1 f fd ["some", "p", "new"] spRep := by
  refine F.ok scRep (fun vs H Q E h => ?_) (fun cdv A outer s H vs Q E hr h => ?_)
  · obtain ⟨a, xs, p, v, rfl, _⟩ := h
    rfl
  · obtain ⟨a, xs, p, v, rfl, ha, h1, h2, h3, k⟩ := h
    refine ⟨_, pss_one (ps_ret (pe_op op_cat (pe_op op_cat (pe_slice sl_list (pv 0) po_none (po_some (pe_op op_sub (pv 1) pe_int))) (pe_lst (pa_cons (pv 2) pa_nil))) (pe_slice sl_list (pv 0) (po_some (pv 1)) po_none))), ?_⟩
    have ep : p - 1 = ((p.toNat - 1 : Nat) : Int) := by omega
    have ep2 : p = ((p.toNat : Nat) : Int) := by omega
    refine ⟨_, rfl, _, rfl, _, _, rfl, rfl, _, rfl, a, xs, rfl, SqL.of ha, fun p1 hp1 => ?_⟩
    rw [ep, cut_to xs (by omega)]
    have s1 : Same H (upd H p1 (.lst (xs.take (p.toNat - 1)))) := same_new hp1
    have q1 : (upd H p1 (.lst (xs.take (p.toNat - 1)))) p1 = some (.lst (xs.take (p.toNat - 1))) := upd_same
    generalize upd H p1 (.lst (xs.take (p.toNat - 1))) = H1 at s1 q1 ⊢
    refine ⟨_, rfl, (by show 1 ≤ sizeLine; decide), fun p2 hp2 => ?_⟩
    have s2 : Same H1 (upd H1 p2 (.lst [v])) := same_new hp2
    refine ⟨p1, p2, _, _, rfl, rfl, s2 _ _ q1, upd_same, ?_, fun p3 hp3 => ?_⟩
    · rw [List.length_take]
      exact smallE (by show _ + 1 ≤ 100000; omega)
    have s3 : Same H (upd (upd H1 p2 (.lst [v])) p3 (.lst (xs.take (p.toNat - 1) ++ [v]))) := Same.put (s1.trans s2) ((s1.trans s2).free hp3)
    have q3 : (upd (upd H1 p2 (.lst [v])) p3 (.lst (xs.take (p.toNat - 1) ++ [v]))) p3 = some (.lst (xs.take (p.toNat - 1) ++ [v])) := upd_same
    generalize upd (upd H1 p2 (.lst [v])) p3 (.lst (xs.take (p.toNat - 1) ++ [v])) = H3 at s3 q3 ⊢
    refine ⟨_, rfl, _, rfl, _, rfl, a, xs, rfl, SqL.of (s3 _ _ ha), fun p4 hp4 => ?_⟩
    have ec : cutV xs (some p) Option.none = xs.drop p.toNat := by
      conv => lhs; rw [ep2]
      exact cut_from xs (by omega)
    rw [ec]
    have s4 : Same H3 (upd H3 p4 (.lst (xs.drop p.toNat))) := same_new hp4
    refine ⟨p3, p4, _, _, rfl, rfl, s4 _ _ q3, upd_same, ?_, fun p5 hp5 => ?_⟩
    · rw [List.length_append, List.length_take, List.length_drop, List.length_singleton]
      exact smallE (by omega)
    have s5 := s3.trans s4
    refine k _ p5 (Same.put s5 (s5.free hp5)) (s5.free hp5) ?_
    have e := take_set_drop xs (p.toNat - 1) v (by omega)
    rw [show p.toNat - 1 + 1 = p.toNat by omega] at e
    rw [upd_same, e]
theorem Mat.set {H H' : Hp} {a q z : Addr} {rows : List (List Int)} {row : List Int} {k : Nat} (m : Mat H a rows) {xs : List V} (ha : H a = some (.lst xs)) (s : Same H H') (hq : H' q = some (.lst (xs.set k (.ref z)))) (hz : IL H' z row) : Mat H' q (rows.set k row) := by
  obtain ⟨rs, h1, h2, h3⟩ := m
  rw [h1] at ha
  cases ha
  refine ⟨rs.set k z, by rw [hq, List.map_set], by simp [h2], fun j r row' a b => ?_⟩
  by_cases e : k = j
  · subst e
    have hk : k < rs.length := by
      have := (List.getElem?_eq_some_iff.mp a).1
      simpa using this
    rw [List.getElem?_set_self hk] at a
    rw [List.getElem?_set_self (by omega)] at b
    cases a
    cases b
    exact hz
  · rw [List.getElem?_set_ne e] at a b
    exact s _ _ (h3 j r row' a b)
theorem mat_len {H : Hp} {a : Addr} {rows : List (List Int)} (m : Mat H a rows) : ∃ xs : List V, H a = some (.lst xs) ∧ xs.length = rows.length := by
  obtain ⟨rs, h1, h2, _⟩ := m
  exact ⟨_, h1, by simp [h2]⟩
abbrev sTw : Stmt := stm 16
def spTw : Sp := fun vs H Q _ => ∃ (a : Addr) (rows : List (List Int)) (M : Nat) (p : Int), vs = [.ref a, .int p] ∧ Mat H a rows ∧ (∀ r ∈ rows, r.length = M) ∧ M ≤ 10 ∧ rows.length ≤ 10 ∧ 1 ≤ p ∧ p ≤ (rows.length : Int) ∧
  ∀ H' : Hp, Same H H' → Q (.int (G (rows.set (p.toNat - 1) (List.replicate M 0)) (List.range M))) H'
theorem scTw : FnScope ["wins", "p"] ["wins", "p"] (defScope sTw) := ⟨rfl, rfl, rfl, by decide +kernel, rfl, by decide +kernel, by decide +kernel⟩
theorem ok_tw {f fG fR : Addr} {fd fdG fdR : FuncData} (F : Fun K "total_without" "total_without" sTw f fd) (B : Blt mg) (DG : Df K mg "greatest_total" sGt ["wins"] fG fdG) (GG : FnOk P w K mg base CX0 3 fG fdG ["wins"] spGt)
    (DR : Df K mg "replaced" sRep ["some", "p", "new"] fR fdR) : FnOk P w K mg base CX0 4 f fd ["wins", "p"] spTw := by
  refine F.ok scTw (fun vs H Q E h => ?_) (fun cdv A outer s H vs Q E hr h => ?_)
  · obtain ⟨a, rows, M, p, rfl, _⟩ := h
    rfl
  · obtain ⟨a, rows, M, p, rfl, hm, hM, hM10, hr10, h1, h2, k⟩ := h
    have GR : FnOk P w K mg base CX0 1 fR fdR ["some", "p", "new"] spRep := ok_rep DR.fn
    refine ⟨_, pss_one (ps_ret (pe_call GG (hr.mono (by decide)) rfl DG.mg DG.fn.kp DG.b .nil pass0 (pa_cons (pe_call GR (hr.mono (by decide)) rfl DR.mg DR.fn.kp DR.b .nil pass0 (pa_cons (pv 0) (pa_cons (pv 1) (pa_cons
      (pe_op op_rep (pe_lst (pa_cons pe_int pa_nil)) (pe_callB call_len_seq rfl B.len bt_len (pa_cons (pe_ix ix_list (pv 0) pe_int (fun _ _ => rfl)) pa_nil))) pa_nil)))) pa_nil))), ?_⟩
    have h0 : 0 < rows.length := by omega
    have hrow0 : rows[0]? = some rows[0] := List.getElem?_eq_getElem h0
    have hlen0 : rows[0].length = M := hM _ (List.getElem_mem h0)
    refine ⟨_, rfl, _, rfl, (by show 1 ≤ sizeLine; decide), fun l0 hl0 => ?_⟩
    have s0 : Same H (upd H l0 (.lst [.int 0])) := same_new hl0
    obtain ⟨xs0, r0, q1, q2, q3⟩ := (s0.mat hm).ix (K := K) hrow0
    refine ⟨_, rfl, a, xs0, 0, _, rfl, rfl, q1, q2, r0, _, rfl, .inl (SqL.of q3), l0, _, _, rfl, rfl, upd_same, ?_⟩
    rw [List.length_map, hlen0]
    refine ⟨by omega, by omega, by rw [Int.toNat_natCast]; exact smallE (by rw [List.length_singleton, Nat.one_mul]; omega), fun z hz => ?_⟩
    have s1 : Same H (upd (upd H l0 (.lst [.int 0])) z (.lst (List.replicate ((M : Int)).toNat [V.int 0]).flatten)) := Same.put s0 (s0.free hz)
    have hzil : IL (upd (upd H l0 (.lst [.int 0])) z (.lst (List.replicate ((M : Int)).toNat [V.int 0]).flatten)) z (List.replicate M 0) := by
      rw [IL, upd_same, Int.toNat_natCast, rep_zero]
    generalize upd (upd H l0 (.lst [.int 0])) z (.lst (List.replicate ((M : Int)).toNat [V.int 0]).flatten) = H1 at s1 hzil ⊢
    obtain ⟨xs, hxs, hxl⟩ := mat_len hm
    refine ⟨a, xs, p, _, rfl, s1 _ _ hxs, h1, by omega, by omega, fun H2 q s2 hq hq2 => ?_⟩
    have m2 := Mat.set (s1.mat hm) (s1 _ _ hxs) s2 hq2 (s2.il hzil)
    refine ⟨q, _, M, rfl, m2, fun e => ?_, fun r hr => ?_, hM10, by rw [List.length_set]; exact hr10, fun H3 s3 => k H3 ((s1.trans s2).trans s3)⟩
    · have := congrArg List.length e
      rw [List.length_set, List.length_nil] at this
      omega
    · rcases List.mem_or_eq_of_mem_set hr with e | e
      · exact hM r e
      · rw [e]; simp
end
end TW

end

section
set_option Elab.async false
set_option linter.all false
set_option maxRecDepth 100000
set_option maxHeartbeats 2000000
namespace TW
open PySem PySem.Spec PyProof.Rows L2

def GInt (mg : Str → Option Value) (x : Str) (z : Int) : Prop := ∃ t, mg x = some (.int z t)
theorem pe_gint {X : Cx} {x : Str} {z : Int} {pos : Pos} (hg : Gl X x) (h : GInt X.mg x z) (hd : (x == ("__debug__" : Str)) = false := by decide) : PE X (.Name x pos) (tC (.int z)) := by
  obtain ⟨t, h⟩ := h
  exact pe_glob hg h ⟨t, rfl⟩ hd
theorem wonL_snoc : ∀ (a : List Int) (rows : List (List Int)) (i : Int) (row : List Int), a.length = rows.length → wonL (a ++ [i]) (rows ++ [row]) = wonL a rows ++ (if i = 0 then [] else [row.getD (i.toNat - 1) 0])
  | [], [], i, row, _ => by
    show wonL [i] [row] = _
    unfold wonL
    by_cases h : i = 0
    · rw [if_pos h, if_pos h]
      rfl
    · rw [if_neg h, if_neg h]
      rfl
  | [], _ :: _, _, _, h => by simp at h
  | _ :: _, [], _, _, h => by simp at h
  | j :: a, r :: rows, i, row, h => by
    have ih := wonL_snoc a rows i row (by simpa using h)
    show wonL (j :: (a ++ [i])) (r :: (rows ++ [row])) = wonL (j :: a) (r :: rows) ++ _
    unfold wonL
    by_cases hj : j = 0
    · rw [if_pos hj, if_pos hj, ih]
    · rw [if_neg hj, if_neg hj, ih]
      rfl
theorem wonL_len : ∀ (a : List Int) (rows : List (List Int)), (wonL a rows).length ≤ a.length
  | [], rows => by cases rows <;> exact Nat.le_refl _
  | _ :: _, [] => Nat.zero_le _
  | j :: a, r :: rows => by
    have ih := wonL_len a rows
    unfold wonL
    split
    · rw [List.length_cons]
      omega
    · rw [List.length_cons, List.length_cons]
      omega
abbrev sWon : Stmt := stm 15
def spWon : Sp := fun vs H Q _ => ∃ (a b : Addr) (asg : List Int) (rows : List (List Int)) (M : Nat), vs = [.ref a, .ref b] ∧ IL H a asg ∧ Mat H b rows ∧ asg.length = rows.length ∧ rows.length ≤ 1000 ∧ (∀ r ∈ rows, r.length = M) ∧ (∀ i ∈ asg, i = 0 ∨ (1 ≤ i ∧ i ≤ M)) ∧
  ∀ H' : Hp, Same H H' → Q (.int (wonL asg rows).sum) H'
section
variable {P : Program} {w : World} {K : PySem.W.Frag} {mg : Str → Option Value} {base : Heap}
theorem scWon : FnScope ["assignment", "wins", "i", "row"] ["assignment", "wins"] (defScope sWon) := ⟨rfl, rfl, rfl, by decide +kernel, rfl, by decide +kernel, by decide +kernel⟩
theorem ok_won {f : Addr} {fd : FuncData} (F : Fun K "won_by" "won_by" sWon f fd) (B : Blt mg) : FnOk P w K mg base CX0 1 f fd ["assignment", "wins"] spWon := by
  refine F.ok scWon (fun vs H Q E h => ?_) (fun cdv A outer s H vs Q E hr h => ?_)
  · obtain ⟨a, b, asg, rows, M, rfl, _⟩ := h
    rfl
  · obtain ⟨a, b, asg, rows, M, rfl, ha, hb, hl, hz, hM, hA, k⟩ := h
    refine ⟨_, pss_one (ps_ret (pe_callB (cr_sum rfl) rfl B.sum bt_sum (pa_cons (pe_lc rfl scWon.nd (pi_zip rfl B.zip (pa_cons (pv 0) (pa_cons (pv 1) pa_nil))) (blkOk_by (own := [("i", 2), ("row", 3)]) rfl)
      (fun _ _ _ _ _ => pg_tupK K rfl 2 rfl (pgs_cons (pg_name (i := 2) scWon.nd rfl (Or.inl rfl) (Or.inr rfl)) (pgs_cons (pg_name (i := 3) scWon.nd rfl (Or.inl rfl) (Or.inr rfl)) pgs_nil)) rfl)
      (fun _ _ _ _ _ => pts_one (pt_cmpR op_ne (pv 2) pe_int (nomark _))) (fun _ _ _ _ _ => pe_ix (ix_listK K rfl) (pv 3) (pe_op op_sub (pv 2) pe_int) (fun _ _ => rfl))) pa_nil))), ?_⟩
    obtain ⟨rs, hrs, hrl, hrr⟩ := id hb
    refine ⟨_, rfl, _, rfl, a, b, _, _, rfl, SqL.of ha, SqL.of hrs, fun D hD => ?_⟩
    refine lc_zip (K := K) (a := a) (b := b) (xs := asg.map V.int) (ys := rs.map V.ref) (fun i H' => Same H H' ∧ IL H' D (wonL (asg.take i) (rows.take i))) (by simp [hl, hrl]) ⟨same_new hD, upd_same⟩
      (fun i H' _ p => ⟨p.1.seq (SqL.of ha), SqL.of (p.1 _ _ hrs)⟩) ?_ ?_
    · rintro i x y H' T hx hy ⟨s1, hD1⟩ hT
      obtain ⟨z, hz1, rfl⟩ := int_at hx
      obtain ⟨r, hr1, rfl⟩ := ref_at hy
      have hi : i < rows.length := by
        rw [← hl]
        exact (List.getElem?_eq_some_iff.mp hz1).1
      have hrow : rows[i]? = some rows[i] := List.getElem?_eq_getElem hi
      have hil := hrr i r _ hr1 hrow
      have s2 : Same H (upd H' T (.tup [.int z, .ref r])) := Same.put s1 (s1.free hT)
      have hD2 : IL (upd H' T (.tup [.int z, .ref r])) D (wonL (asg.take i) (rows.take i)) := by
        rw [IL, upd_ne (ne_of_none hD1 hT)]
        exact hD1
      have es := wonL_snoc (asg.take i) (rows.take i) z rows[i] (by simp [hl])
      rw [← take_snoc hz1, ← take_snoc hrow] at es
      refine ⟨T, _, rfl, SqT.of upd_same, rfl, _, _, rfl, _, _, rfl, rfl, rfl, ?_⟩
      generalize upd H' T (.tup [.int z, .ref r]) = H2 at s2 hD2 ⊢
      refine ⟨_, rfl, rfl, _, rfl, ?_⟩
      by_cases e0 : z = 0
      · have ez : (!decide (V.int z = V.int 0)) = false := by
          rw [e0]
          rfl
        rw [ez]
        rw [if_pos e0, List.append_nil] at es
        exact iteF ⟨s2, by rw [es]; exact hD2⟩
      · have ez : (!decide (V.int z = V.int 0)) = true := by
          rw [decide_eq_false fun e => e0 (V.int.inj e)]
          rfl
        rw [ez]
        rw [if_neg e0] at es
        have hzM : 1 ≤ z ∧ z ≤ (M : Int) := by
          rcases hA z (List.mem_of_getElem? hz1) with q | q
          · exact absurd q e0
          · exact q
        have hlr : rows[i].length = M := hM _ (List.getElem_mem hi)
        have ei : z - 1 = ((z.toNat - 1 : Nat) : Int) := by omega
        refine iteT ⟨_, rfl, _, rfl, _, _, rfl, rfl, r, rows[i].map V.int, _, V.int (rows[i].getD (z.toNat - 1) 0), rfl, rfl, SqL.of (s2.il hil), ?_, _, hD2, ?_, Same.put s2 hD, ?_⟩
        · show atI (rows[i].map V.int) (z - 1) = _
          rw [ei]
          exact il_at (getD_at (by omega))
        · have := wonL_len (asg.take i) (rows.take i)
          rw [List.length_take] at this
          rw [List.length_map]
          exact small (by omega)
        · rw [IL, upd_same, es, List.map_append]
          rfl
    · rintro H' ⟨s1, hD1⟩
      rw [List.length_map, List.take_of_length_le (Nat.le_refl _), List.take_of_length_le (by omega)] at hD1
      exact ⟨D, _, rfl, SqL.of hD1, k H' s1⟩

abbrev sAgain : Stmt := stm 17
def spAgain : Sp := fun vs H Q _ => ∃ (a : Addr) (rows : List (List Int)) (i M : Nat), vs = [.ref a, .int i] ∧ Mat H a rows ∧ rows.length ≤ 1000 ∧ (∀ r ∈ rows, r.length = M) ∧ i < M ∧ M ≤ 1000 ∧
  ∀ (H' : Hp) (p : Addr), Same H H' → H p = Option.none → Mat H' p (again rows i) → Q (.ref p) H'
theorem scAgain : FnScope ["wins", "i", "row"] ["wins", "i"] (defScope sAgain) := ⟨rfl, rfl, rfl, by decide +kernel, rfl, by decide +kernel, by decide +kernel⟩
theorem ok_again {f : Addr} {fd : FuncData} (F : Fun K "with_firm_again" "with_firm_again" sAgain f fd) : FnOk P w K mg base CX0 1 f fd ["wins", "i"] spAgain := by
  refine F.ok scAgain (fun vs H Q E h => ?_) (fun cdv A outer s H vs Q E hr h => ?_)
  · obtain ⟨a, rows, i, M, rfl, _⟩ := h
    rfl
  · obtain ⟨a, rows, i, M, rfl, hm, hz, hM, hi, hM2, k⟩ := h
    refine ⟨_, pss_one (ps_ret (pe_lc rfl scAgain.nd (pi_list (pv 0)) (blkOk_by (own := [("row", 2)]) rfl) (fun _ _ _ _ _ => pg_name (i := 2) scAgain.nd rfl (Or.inl rfl) (Or.inr rfl)) (fun _ _ _ _ _ => pts_nil)
      (fun _ _ _ _ _ => pe_op op_cat (pv 2) (pe_lst (pa_cons (pe_ix (ix_listK K rfl) (pv 2) (pv 1) (fun _ _ => rfl)) pa_nil))))), ?_⟩
    obtain ⟨rs, hrs, hrl, hrr⟩ := id hm
    refine ⟨_, rfl, a, rfl, ⟨_, SqL.of hrs⟩, fun D hD => ?_⟩
    refine lc_list (K := K) (a := a) (xs := rs.map V.ref) (fun j H' => Same H H' ∧ MatUp H' D (again rows i) j) ⟨same_new hD, MatUp.zero⟩ (fun j H' _ p => SqL.of (p.1 _ _ hrs)) ?_ ?_
    · rintro j x H' hx ⟨s1, m1⟩
      obtain ⟨r, hr1, rfl⟩ := ref_at hx
      have hj : j < rows.length := by
        rw [← hrl]
        exact (List.getElem?_eq_some_iff.mp hr1).1
      have hrow : rows[j]? = some rows[j] := List.getElem?_eq_getElem hj
      have hil := s1.il (hrr j r _ hr1 hrow)
      have hlr : rows[j].length = M := hM _ (List.getElem_mem hj)
      refine ⟨rfl, tyes ?_⟩
      refine ⟨_, rfl, _, rfl, _, rfl, r, _, _, V.int (rows[j].getD i 0), rfl, rfl, SqL.of hil, il_at (getD_at (by omega)), (by show 1 ≤ sizeLine; decide), fun l hl => ?_⟩
      have s2 : Same H' (upd H' l (.lst [V.int (rows[j].getD i 0)])) := same_new hl
      refine ⟨r, l, _, _, rfl, rfl, s2.il hil, upd_same, ?_, fun p hp => ?_⟩
      · rw [List.length_map, hlr]
        exact smallE (by show M + 1 ≤ 100000; omega)
      · have hp' : H' p = Option.none := s2.free hp
        have s3 : Same H' (upd (upd H' l (.lst [V.int (rows[j].getD i 0)])) p (.lst (rows[j].map V.int ++ [V.int (rows[j].getD i 0)]))) := Same.put s2 hp'
        obtain ⟨ts, ht, _⟩ := id m1
        have hpD : p ≠ D := Ne.symm (ne_of_none ht hp')
        obtain ⟨acc, a1, a2, a3⟩ := m1.step (p := p) (row := rows[j] ++ [rows[j].getD i 0]) s3 hpD (by unfold again; rw [List.getElem?_map, hrow]; rfl) (by rw [IL, upd_same, List.map_append]; rfl)
        exact ⟨acc, a1, by rw [a2]; exact small (by omega), Same.put (s1.trans s3) hD, a3⟩
    · rintro H' ⟨s1, m1⟩
      refine k H' D s1 hD (MatUp.done ?_)
      have e : (again rows i).length = (rs.map V.ref).length := by simp [again, hrl]
      rw [e]
      exact m1
end
end TW

end

section
set_option Elab.async false
set_option linter.all false
set_option maxRecDepth 100000
set_option maxHeartbeats 2000000
namespace TW
open PySem PySem.Spec PyProof.Rows L2

abbrev sLeast : Stmt := stm 18
def leastL (bases : List Int) (rows : List (List Int)) (M : Nat) : List Int := (List.range bases.length).map fun i => bases.getD i 0 + G (again rows i) (List.range (M + 1)) - G rows (List.range M)
def spLeast : Sp := fun vs H Q _ => ∃ (a b : Addr) (bases : List Int) (rows : List (List Int)) (M : Nat), vs = [.ref a, .ref b] ∧ IL H a bases ∧ Mat H b rows ∧ rows ≠ [] ∧ (∀ r ∈ rows, r.length = M) ∧ bases.length = M ∧ M ≤ 9 ∧ rows.length ≤ 10 ∧
  ∀ (H' : Hp) (p : Addr), Same H H' → H p = Option.none → IL H' p (leastL bases rows M) → Q (.ref p) H'
section
variable {P : Program} {w : World} {K : PySem.W.Frag} {mg : Str → Option Value} {base : Heap}
theorem again_len {rows : List (List Int)} {M i : Nat} (hM : ∀ r ∈ rows, r.length = M) : ∀ r ∈ again rows i, r.length = M + 1 := fun r hr => by
  obtain ⟨q, hq, rfl⟩ := List.mem_map.mp hr
  rw [List.length_append, hM q hq]
  rfl
theorem scLeast : FnScope ["bases", "wins", "total", "i", "base"] ["bases", "wins"] (defScope sLeast) := ⟨rfl, rfl, rfl, by decide +kernel, rfl, by decide +kernel, by decide +kernel⟩
theorem ok_least {f fG fA : Addr} {fd fdG fdA : FuncData} (F : Fun K "least_prices" "least_prices" sLeast f fd) (B : Blt mg) (DG : Df K mg "greatest_total" sGt ["wins"] fG fdG) (GG : FnOk P w K mg base CX0 3 fG fdG ["wins"] spGt)
    (DA : Df K mg "with_firm_again" sAgain ["wins", "i"] fA fdA) : FnOk P w K mg base CX0 4 f fd ["bases", "wins"] spLeast := by
  refine F.ok scLeast (fun vs H Q E h => ?_) (fun cdv A outer s H vs Q E hr h => ?_)
  · obtain ⟨a, b, bases, rows, M, rfl, _⟩ := h
    rfl
  · obtain ⟨a, b, bases, rows, M, rfl, ha, hm, hne, hM, hbM, hM9, hr10, k⟩ := h
    have GA : FnOk P w K mg base CX0 1 fA fdA ["wins", "i"] spAgain := ok_again DA.fn
    refine ⟨_, pss_cons (ps_set (i := 2) scLeast.nd rfl (Or.inr rfl) (pe_call GG hr rfl DG.mg DG.fn.kp DG.b .nil pass0 (pa_cons (pv 1) pa_nil)))
      (pss_one (ps_ret (pe_lc rfl scLeast.nd (pi_enum rfl B.enumerate (pa_cons (pv 0) pa_nil)) (blkOk_by (own := [("i", 3), ("base", 4)]) rfl)
      (fun _ _ _ _ _ => pg_tupK K rfl 2 rfl (pgs_cons (pg_name (i := 3) scLeast.nd rfl (Or.inl rfl) (Or.inr rfl)) (pgs_cons (pg_name (i := 4) scLeast.nd rfl (Or.inl rfl) (Or.inr rfl)) pgs_nil)) rfl)
      (fun _ _ _ _ _ => pts_nil) (fun _ _ _ _ _ => pe_op op_sub (pe_op op_add (pv 4) (pe_call GG hr rfl DG.mg DG.fn.kp DG.b .nil pass0 (pa_cons (pe_call GA (hr.mono (by decide)) rfl DA.mg DA.fn.kp DA.b .nil pass0 (pa_cons (pv 1) (pa_cons (pv 3) pa_nil))) pa_nil))) (pv 2))))), ?_⟩
    refine ⟨_, rfl, b, rows, M, rfl, hm, hne, hM, by omega, hr10, fun H1 s1 => ?_⟩
    refine ⟨_, rfl, a, _, rfl, SqL.of (s1.il ha), fun D hD => ?_⟩
    refine lc_enum (K := K) (a := a) (xs := bases.map V.int) (fun i H' => Same H1 H' ∧ IL H' D ((leastL bases rows M).take i)) ⟨same_new hD, upd_same⟩ (fun i H' _ p => p.1.seq (SqL.of (s1.il ha))) ?_ ?_
    · rintro i x H' T hx ⟨s2, hD2⟩ hT
      obtain ⟨bv, hbv, rfl⟩ := int_at hx
      have hi : i < bases.length := (List.getElem?_eq_some_iff.mp hbv).1
      have s3 : Same H1 (upd H' T (.tup [.int (i : Nat), .int bv])) := Same.put s2 (s2.free hT)
      have hD3 : IL (upd H' T (.tup [.int (i : Nat), .int bv])) D ((leastL bases rows M).take i) := by
        rw [IL, upd_ne (ne_of_none hD2 hT)]
        exact hD2
      refine ⟨T, _, rfl, SqT.of upd_same, rfl, _, _, rfl, _, _, rfl, rfl, rfl, tyes ?_⟩
      generalize upd H' T (.tup [.int (i : Nat), .int bv]) = H2 at s3 hD3 ⊢
      refine ⟨_, rfl, _, rfl, _, rfl, b, rows, i, M, rfl, s3.mat (s1.mat hm), by omega, hM, by omega, by omega, fun H4 p s4 hp m4 => ?_⟩
      refine ⟨p, again rows i, M + 1, rfl, m4, fun e => hne (List.map_eq_nil_iff.mp e), again_len hM, by omega, by simp [again]; omega, fun H5 s5 => ?_⟩
      refine ⟨_, _, rfl, rfl, _, rfl, _, _, rfl, rfl, _, s5 _ _ (s4 _ _ hD3), ?_, Same.put ((s3.trans s4).trans s5) hD, ?_⟩
      · rw [List.length_map, List.length_take]
        exact small (by omega)
      · have eg : (leastL bases rows M)[i]? = some (bv + G (again rows i) (List.range (M + 1)) - G rows (List.range M)) := by
          unfold leastL
          have ev : bases.getD i 0 = bv := by rw [List.getD_eq_getElem?_getD, hbv]; rfl
          rw [List.getElem?_map, List.getElem?_range hi, ← ev]
          rfl
        rw [IL, upd_same, take_snoc eg, List.map_append]
        rfl
    · rintro H' ⟨s2, hD2⟩
      rw [List.take_of_length_le (by simp [leastL])] at hD2
      exact k H' D (s1.trans s2) (s1.free hD) hD2

abbrev sGreat : Stmt := stm 19
def greatL (bases : List Int) (rows : List (List Int)) (M : Nat) : List Int := (List.range bases.length).map fun i => bases.getD i 0 + G rows (List.range M) - G rows ((List.range M).erase i)
def spGreat : Sp := fun vs H Q _ => ∃ (a b : Addr) (bases : List Int) (rows : List (List Int)) (M : Nat), vs = [.ref a, .ref b] ∧ IL H a bases ∧ Mat H b rows ∧ rows ≠ [] ∧ (∀ r ∈ rows, r.length = M) ∧ bases.length = M ∧ M ≤ 9 ∧ rows.length ≤ 10 ∧
  ∀ (H' : Hp) (p : Addr), Same H H' → H p = Option.none → IL H' p (greatL bases rows M) → Q (.ref p) H'
theorem scGreat : FnScope ["bases", "wins", "by_set", "every", "i", "base"] ["bases", "wins"] (defScope sGreat) := ⟨rfl, rfl, rfl, by decide +kernel, rfl, by decide +kernel, by decide +kernel⟩
theorem ok_great {f fB : Addr} {fd fdB : FuncData} (F : Fun K "greatest_prices" "greatest_prices" sGreat f fd) (B : Blt mg) (DB : Df K mg "greatest_by_last" sGbl ["wins"] fB fdB) (GB : FnOk P w K mg base CX0 2 fB fdB ["wins"] spGbl) : FnOk P w K mg base CX0 4 f fd ["bases", "wins"] spGreat := by
  refine F.ok scGreat (fun vs H Q E h => ?_) (fun cdv A outer s H vs Q E hr h => ?_)
  · obtain ⟨a, b, bases, rows, M, rfl, _⟩ := h
    rfl
  · obtain ⟨a, b, bases, rows, M, rfl, ha, hm, hne, hM, hbM, hM9, hr10, k⟩ := h
    refine ⟨_, pss_cons (ps_set (i := 2) scGreat.nd rfl (Or.inr rfl) (pe_ix ix_list (pe_call GB (hr.mono (by decide)) rfl DB.mg DB.fn.kp DB.b .nil pass0 (pa_cons (pv 1) pa_nil)) (pe_un un_neg pe_int) (fun _ _ => rfl)))
      (pss_cons (ps_set (i := 3) scGreat.nd rfl (Or.inr rfl) (pe_op op_sub (pe_callB call_len_seq rfl B.len bt_len (pa_cons (pv 2) pa_nil)) pe_int))
      (pss_one (ps_ret (pe_lc rfl scGreat.nd (pi_enum rfl B.enumerate (pa_cons (pv 0) pa_nil)) (blkOk_by (own := [("i", 4), ("base", 5)]) rfl)
      (fun _ _ _ _ _ => pg_tupK K rfl 2 rfl (pgs_cons (pg_name (i := 4) scGreat.nd rfl (Or.inl rfl) (Or.inr rfl)) (pgs_cons (pg_name (i := 5) scGreat.nd rfl (Or.inl rfl) (Or.inr rfl)) pgs_nil)) rfl)
      (fun _ _ _ _ _ => pts_nil) (fun _ _ _ _ _ => pe_op op_sub (pe_op op_add (pv 5) (pe_ix (ix_listK K rfl) (pv 2) (pv 3) (fun _ _ => rfl))) (pe_ix (ix_listK K rfl) (pv 2) (pe_op op_sub (pv 3) (pe_op op_shl pe_int (pv 4))) (fun _ _ => rfl))))))), ?_⟩
    have hpos := Nat.two_pow_pos M
    refine ⟨_, rfl, b, rows, M, rfl, hm, hne, hM, by omega, hr10, fun H1 p s1 hp m1 => ?_⟩
    obtain ⟨ts, r, h1, h2, h3⟩ := m1.at (tabs_get M rows (Nat.le_refl _))
    have hl : ts.length = rows.length + 1 := by
      obtain ⟨ts', g1, g2, _⟩ := m1
      rw [g1] at h1
      have e := HO.lst.inj (Option.some.inj h1)
      have e2 := congrArg List.length e
      simp only [List.length_map] at e2
      rw [← e2, g2, tabs_len]
    rw [Nat.sub_self, List.drop_zero] at h3
    refine ⟨1, rfl, p, ts.map V.ref, _, _, rfl, rfl, SqL.of h1, atI_m1 (by simp [hl]) (map_at h2), ?_⟩
    have el : (((((tab M rows).map V.int).length : Nat) : Int) - 1) = ((2 ^ M - 1 : Nat) : Int) := by
      rw [List.length_map, tab_length]
      omega
    refine ⟨_, rfl, r, _, rfl, .inl (SqL.of h3), _, _, rfl, rfl, ?_⟩
    refine ⟨_, rfl, a, _, rfl, SqL.of (s1.il ha), fun D hD => ?_⟩
    refine lc_enum (K := K) (a := a) (xs := bases.map V.int) (fun i H' => Same H1 H' ∧ IL H' D ((greatL bases rows M).take i)) ⟨same_new hD, upd_same⟩ (fun i H' _ p => p.1.seq (SqL.of (s1.il ha))) ?_ ?_
    · rintro i x H' T hx ⟨s2, hD2⟩ hT
      obtain ⟨bv, hbv, rfl⟩ := int_at hx
      have hi : i < bases.length := (List.getElem?_eq_some_iff.mp hbv).1
      have s3 : Same H1 (upd H' T (.tup [.int (i : Nat), .int bv])) := Same.put s2 (s2.free hT)
      have hD3 : IL (upd H' T (.tup [.int (i : Nat), .int bv])) D ((greatL bases rows M).take i) := by
        rw [IL, upd_ne (ne_of_none hD2 hT)]
        exact hD2
      have hbit : (2 ^ M - 1).testBit i = true := by
        rw [Nat.testBit_two_pow_sub_one]
        simp
        omega
      have hle := (sub_bit hbit).2
      refine ⟨T, _, rfl, SqT.of upd_same, rfl, _, _, rfl, _, _, rfl, rfl, rfl, tyes ?_⟩
      generalize upd H' T (.tup [.int (i : Nat), .int bv]) = H2 at s3 hD3 ⊢
      refine ⟨_, rfl, _, rfl, _, rfl, r, _, _, V.int (G rows (List.range M)), rfl, rfl, SqL.of (s3.il h3), ?_, _, _, rfl, rfl, _, rfl, _, rfl, _, rfl, 1, _, rfl, rfl, cpow_small i (by omega), _, _, rfl, rfl, r, _, _, V.int (G rows ((List.range M).erase i)), rfl, rfl, SqL.of (s3.il h3), ?_, _, _, rfl, rfl, _, hD3, ?_, Same.put s3 hD, ?_⟩
      · rw [el]
        have e : (tab M rows)[2 ^ M - 1]? = some (G rows (List.range M)) := by
          rw [getD_at (by rw [tab_length]; omega), tab_get rows (by omega), bits_all]
        exact il_at e
      · rw [el, shl_nat, show ((2 ^ M - 1 : Nat) : Int) - ((2 ^ i : Nat) : Int) = ((2 ^ M - 1 - 2 ^ i : Nat) : Int) by omega]
        have e : (tab M rows)[2 ^ M - 1 - 2 ^ i]? = some (G rows ((List.range M).erase i)) := by
          have hlt : 2 ^ M - 1 - 2 ^ i < 2 ^ M := Nat.lt_of_le_of_lt (Nat.sub_le _ _) (by omega)
          rw [getD_at (by rw [tab_length]; exact hlt), tab_get rows hlt, bits_all_but (by omega)]
        exact il_at e
      · rw [List.length_map, List.length_take]
        exact small (by omega)
      · have eg : (greatL bases rows M)[i]? = some (bv + G rows (List.range M) - G rows ((List.range M).erase i)) := by
          unfold greatL
          have ev : bases.getD i 0 = bv := by rw [List.getD_eq_getElem?_getD, hbv]; rfl
          rw [List.getElem?_map, List.getElem?_range hi, ← ev]
          rfl
        rw [IL, upd_same, take_snoc eg, List.map_append]
        rfl
    · rintro H' ⟨s2, hD2⟩
      rw [List.take_of_length_le (by simp [greatL])] at hD2
      exact k H' D (s1.trans s2) (s1.free hD) hD2

abbrev sGain : Stmt := stm 20
def gainI (i : Int) (ws ps : List Int) : Int := if i = 0 then 0 else ws.getD (i.toNat - 1) 0 - ps.getD (i.toNat - 1) 0
def spGain : Sp := fun vs H Q _ => ∃ (a b : Addr) (i : Int) (ws ps : List Int), vs = [.int i, .ref a, .ref b] ∧ IL H a ws ∧ IL H b ps ∧ (i = 0 ∨ (1 ≤ i ∧ i ≤ (ws.length : Int) ∧ i ≤ (ps.length : Int))) ∧ Q (.int (gainI i ws ps)) H
theorem scGain : FnScope ["i", "worths", "prices"] ["i", "worths", "prices"] (defScope sGain) := ⟨rfl, rfl, rfl, by decide +kernel, rfl, by decide +kernel, by decide +kernel⟩
theorem ok_gain {f : Addr} {fd : FuncData} (F : Fun K "gain_by" "gain_by" sGain f fd) : FnOk P w K mg base CX0 1 f fd ["i", "worths", "prices"] spGain := by
  refine F.ok scGain (fun vs H Q E h => ?_) (fun cdv A outer s H vs Q E hr h => ?_)
  · obtain ⟨a, b, i, ws, ps, rfl, _⟩ := h
    rfl
  · obtain ⟨a, b, i, ws, ps, rfl, ha, hb, hi, k⟩ := h
    refine ⟨_, pss_one (ps_ret (pe_ifExp (pt_cmpR op_eq (pv 0) pe_int (nomark _)) pe_int (pe_op op_sub (pe_ix ix_list (pv 1) (pe_op op_sub (pv 0) pe_int) (fun _ _ => rfl)) (pe_ix ix_list (pv 2) (pe_op op_sub (pv 0) pe_int) (fun _ _ => rfl))))), ?_⟩
    refine ⟨_, rfl, rfl, _, rfl, ?_⟩
    refine ite2 (fun hc => ?_) (fun hc => ?_)
    · have e : i = 0 := V.int.inj (of_decide_eq_true hc)
      have e2 : gainI i ws ps = 0 := by rw [gainI, if_pos e]
      rw [e2] at k
      exact k
    · have e : ¬ i = 0 := fun z => hc (decide_eq_true (congrArg V.int z))
      rcases hi with hi | hi
      · exact absurd hi e
      · have ei : i - 1 = ((i.toNat - 1 : Nat) : Int) := by omega
        refine ⟨_, rfl, _, rfl, _, _, rfl, rfl, a, _, _, V.int (ws.getD (i.toNat - 1) 0), rfl, rfl, SqL.of ha, ?_, _, rfl, _, rfl, _, _, rfl, rfl, b, _, _, V.int (ps.getD (i.toNat - 1) 0), rfl, rfl, SqL.of hb, ?_, _, _, rfl, rfl, ?_⟩
        · rw [ei]
          exact il_at (getD_at (by omega))
        · rw [ei]
          exact il_at (getD_at (by omega))
        · rw [gainI, if_neg e] at k
          exact k
end
end TW

end

section
set_option Elab.async false
set_option linter.all false
set_option maxRecDepth 100000
set_option maxHeartbeats 2000000
namespace TW
open PySem PySem.Spec PyProof.Rows L2

theorem all_id (l : List Int) (p : Int → Bool) : (l.map p).all id = l.all p := by
  rw [List.all_map]
  rfl

theorem TabAt.keep {C : Addr} {H H' : Hp} {t : Addr} {s : Vbsgag.State} {d : Tb} (T : TabAt C H t s d) (k : ∀ x, x ∈ d.foot t → ∀ o, H x = some o → H' x = some o) : TabAt C H' t s d where
  ob := k _ (by simp [Tb.foot]) _ T.ob
  hb := k _ (by simp [Tb.foot]) _ T.hb
  hw := k _ (by simp [Tb.foot]) _ T.hw
  hc := k _ (by simp [Tb.foot]) _ T.hc
  hl := T.hl
  hr := fun i r row a b => k _ (by simp [Tb.foot, List.mem_of_getElem? a]) _ (T.hr i r row a b)
  nd := T.nd
  wf := T.wf
theorem TabAt.same {C : Addr} {H H' : Hp} {t : Addr} {s : Vbsgag.State} {d : Tb} (T : TabAt C H t s d) (k : Same H H') : TabAt C H' t s d := T.keep fun x _ o e => k x o e
theorem TabAt.kb {C : Addr} {H H' : Hp} {t l : Addr} {s : Vbsgag.State} {d : Tb} (T : TabAt C H t s d) (k : Kb l H H') (hl : l ∉ d.foot t) : TabAt C H' t s d := T.keep fun x hx o e => k x o e fun z => hl (z ▸ hx)
theorem Kb.of_same {l : Addr} {H H' : Hp} (s : Same H H') : Kb l H H' := fun b o e _ => s b o e
theorem Kb.free {l x : Addr} {H H' : Hp} (k : Kb l H H') (h : H' x = Option.none) (ne : x ≠ l) : H x = Option.none := by
  cases e : H x with
  | none => rfl
  | some o =>
    rw [k x o e ne] at h
    cases h
theorem Kb.put {l x : Addr} {H H' : Hp} {o : HO} (k : Kb l H H') (h : H x = Option.none) : Kb l H (L2.upd H' x o) := fun b u e hb => by
  rw [upd_ne (ne_of_none e h)]
  exact k b u e hb
abbrev sBack : Stmt := inClass (stm 7) 2
abbrev sWins : Stmt := inClass (stm 7) 3
def spBack (C : Addr) : Sp := fun vs H Q _ => ∃ (t : Addr) (s : Vbsgag.State) (d : Tb), vs = [.ref t] ∧ TabAt C H t s d ∧ ∀ (H' : Hp) (c : Addr), TabAt C H' t (Vbsgag.wound s) { d with c := c } → H c = Option.none → Kb t H H' → Q .non H'
def spWins (C : Addr) : Sp := fun vs H Q _ => ∃ (t : Addr) (s : Vbsgag.State) (d : Tb), vs = [.ref t] ∧ TabAt C H t s d ∧ ∀ (H' : Hp) (p : Addr), Same H H' → H p = Option.none → Mat H' p (wins s) → Q (.ref p) H'
section
variable {P : Program} {w : World} {K : PySem.W.Frag} {mg : Str → Option Value} {base : Heap}
theorem scBack : FnScope ["self"] ["self"] (defScope sBack) := ⟨rfl, rfl, rfl, by decide +kernel, rfl, by decide +kernel, by decide +kernel⟩
theorem ok_back {f C : Addr} {fd : FuncData} (F : Fun K "set_clock_back" "Table.set_clock_back" sBack f fd) (B : Blt mg) (T : TTx K C) : FnOk P w K mg base CX0 1 f fd ["self"] (spBack C) := by
  refine F.ok scBack (fun vs H Q E h => ?_) (fun cdv A outer s H vs Q E hr h => ?_)
  · obtain ⟨t, st, d, rfl, _⟩ := h
    rfl
  · obtain ⟨t, st, d, rfl, TA, k⟩ := h
    refine ⟨_, pss_one (ps_fld (pv 0) (pe_callTy call_list_of rfl B.list bt_list (pa_cons (pe_fld (pv 0) rfl) pa_nil)) rfl), ?_⟩
    refine ⟨_, rfl, t, C, d.dx, _, _, rfl, TA.ob, T.cl, T.nB, tf_bases _ _ _, d.b, _, rfl, .inl (SqL.of TA.hb), fun c hc => ?_⟩
    have s1 : Same H (upd H c (.lst ((Vbsgag.ints st.bases).map V.int))) := same_new hc
    have T1 := TA.same s1
    have hct : c ≠ t := Ne.symm (ne_of_none TA.ob hc)
    refine ⟨_, rfl, t, C, d.dx, _, rfl, T1.ob, T.cl, T.nC, (by show 3 < 1000; decide), ?_⟩
    rw [tf_putC]
    have nd := TA.nd
    have hcf : ∀ x ∈ d.foot t, c ≠ x := fun x hx e => by
      subst e
      simp only [Tb.foot, List.mem_cons] at hx
      rcases hx with e | e | e | e | e
      · exact hct e
      · rw [e, TA.hb] at hc; cases hc
      · rw [e, TA.hw] at hc; cases hc
      · rw [e, TA.hc] at hc; cases hc
      · obtain ⟨i, hi, e⟩ := List.mem_iff_getElem.mp e
        have h1 : d.rs[i]? = some c := by rw [List.getElem?_eq_getElem hi, e]
        have hi2 : i < st.rows.length := by rw [TA.wf.lr, ← TA.hl]; exact hi
        have h2 : st.rows[i]? = some st.rows[i] := List.getElem?_eq_getElem hi2
        rw [TA.hr i c _ h1 h2] at hc
        cases hc
    simp only [Tb.foot, List.nodup_cons, List.mem_cons, not_or] at nd hcf
    obtain ⟨⟨n1, n2, n3, n4⟩, ⟨n5, n6, n7⟩, ⟨n8, n9⟩, n10, n11⟩ := nd
    refine k _ c ⟨upd_same, ?_, ?_, ?_, TA.hl, fun i r row a b => ?_, ?_, WF_wound TA.wf⟩ hc (Kb.trans (Kb.of_same s1) Kb.upd)
    · rw [IL, upd_ne (Ne.symm n1)]
      exact T1.hb
    · rw [upd_ne (Ne.symm n2)]
      exact T1.hw
    · rw [IL, upd_ne hct]
      exact upd_same
    · have hr1 : r ∈ d.rs := List.mem_of_getElem? a
      rw [IL, upd_ne (fun e : r = t => n4 (e ▸ hr1))]
      exact T1.hr i r row a b
    · simp only [Tb.foot, List.nodup_cons, List.mem_cons, not_or]
      exact ⟨⟨n1, n2, Ne.symm hct, n4⟩, ⟨n5, Ne.symm (hcf d.b (.inr (.inl rfl))), n7⟩, ⟨Ne.symm (hcf d.ws (.inr (.inr (.inl rfl)))), n9⟩, fun hm => hcf c (.inr (.inr (.inr (.inr hm)))) rfl, n11⟩
theorem scWins : FnScope ["self", "worths"] ["self"] (defScope sWins) := ⟨rfl, rfl, rfl, by decide +kernel, rfl, by decide +kernel, by decide +kernel⟩
theorem ok_wins {f C fL : Addr} {fd fdL : FuncData} (F : Fun K "wins" "Table.wins" sWins f fd) (B : Blt mg) (T : TTx K C) (DL : Df K mg "gains_at" sGat ["worths", "prices"] fL fdL) : FnOk P w K mg base CX0 2 f fd ["self"] (spWins C) := by
  refine F.ok scWins (fun vs H Q E h => ?_) (fun cdv A outer s H vs Q E hr h => ?_)
  · obtain ⟨t, st, d, rfl, _⟩ := h
    rfl
  · obtain ⟨t, st, d, rfl, TA, k⟩ := h
    have GL : FnOk P w K mg base CX0 1 fL fdL ["worths", "prices"] spGat := ok_gat DL.fn B
    refine ⟨_, pss_one (ps_ret (pe_lc rfl scWins.nd (pi_list (pe_fld (pv 0) rfl)) (blkOk_by (own := [("worths", 1)]) rfl) (fun _ _ _ _ _ => pg_name (i := 1) scWins.nd rfl (Or.inl rfl) (Or.inr rfl)) (fun _ _ _ _ _ => pts_nil)
      (fun _ _ _ _ _ => pe_call GL hr rfl DL.mg DL.fn.kp DL.b .nil pass0 (pa_cons (pv 1) (pa_cons (pe_fldK K rfl (pv 0) rfl) pa_nil))))), ?_⟩
    refine ⟨_, rfl, t, C, d.dx, _, _, rfl, TA.ob, T.cl, T.nW, tf_worths _ _ _, d.ws, rfl, ⟨_, SqL.of TA.hw⟩, fun D hD => ?_⟩
    refine lc_list (K := K) (a := d.ws) (xs := d.rs.map V.ref) (fun j H' => Same H H' ∧ MatUp H' D (wins st) j) ⟨same_new hD, MatUp.zero⟩ (fun j H' _ p => SqL.of (p.1 _ _ TA.hw)) ?_ ?_
    · rintro j x H' hx ⟨s1, m1⟩
      obtain ⟨r, hr1, rfl⟩ := ref_at hx
      have hj : j < st.rows.length := by
        rw [TA.wf.lr, ← TA.hl]
        exact (List.getElem?_eq_some_iff.mp hr1).1
      have hrow : st.rows[j]? = some st.rows[j] := List.getElem?_eq_getElem hj
      have T1 := TA.same s1
      have hil := T1.hr j r _ hr1 hrow
      have hlr : st.rows[j].length = st.m := TA.wf.lw _ (List.getElem_mem hj)
      have := TA.wf.m6
      refine ⟨rfl, tyes ?_⟩
      refine ⟨_, rfl, _, rfl, t, C, d.dx, _, _, rfl, T1.ob, T.cl, T.nB, tf_bases _ _ _, r, d.b, _, _, rfl, hil, T1.hb, by rw [ints_length, ints_length, hlr, TA.wf.lb], by rw [ints_length, hlr]; omega, fun H4 p s4 hp h4 => ?_⟩
      have h4 : IL H4 p (winRow st.bases st.rows[j]) := by rw [winRow_ints]; exact h4
      obtain ⟨ts, ht, _⟩ := id m1
      have hpD : p ≠ D := Ne.symm (ne_of_none ht hp)
      obtain ⟨acc, a1, a2, a3⟩ := m1.step (p := p) s4 hpD (by unfold wins; rw [List.getElem?_map, hrow]; rfl) h4
      have hn5 := TA.wf.n5
      have hlr2 := TA.wf.lr
      exact ⟨acc, a1, by rw [a2]; exact small (by omega), Same.put (s1.trans s4) hD, a3⟩
    · rintro H' ⟨s1, m1⟩
      refine k H' D s1 hD (MatUp.done ?_)
      have e : (wins st).length = (d.rs.map V.ref).length := by rw [wins_length TA.wf, List.length_map, TA.hl]
      rw [e]
      exact m1
end
end TW

end

section
set_option Elab.async false
set_option linter.all false
set_option maxRecDepth 100000
set_option maxHeartbeats 2000000
namespace TW
open PySem PySem.Spec PyProof.Rows L2

abbrev sLay : Stmt := inClass (stm 7) 1
abbrev sTabInit : Stmt := inClass (stm 7) 0
def FsOk (fs : List (Str × V)) : Prop := fs = [] ∨ ∃ b ws c : Addr, fs = tf b ws c
theorem FsOk.put {fs : List (Str × V)} (h : FsOk fs) (b ws c : Addr) : putF "clock" (.ref c) (putF "worths" (.ref ws) (putF "bases" (.ref b) fs)) = tf b ws c := by
  rcases h with h | ⟨b', ws', c', h⟩
  · rw [h]
    rfl
  · rw [h]
    unfold tf putF
    rfl
theorem FsOk.len {fs : List (Str × V)} (h : FsOk fs) : fs.length ≤ 3 := by
  rcases h with h | ⟨b', ws', c', h⟩
  · rw [h]
    exact Nat.zero_le _
  · rw [h]
    exact Nat.le_refl _
def spLay (C : Addr) : Sp := fun vs H Q _ => ∃ (t dx : Addr) (fs : List (Str × V)) (n m : Nat), vs = [.ref t, .int n, .int m] ∧ H t = some (.ins C dx fs) ∧ FsOk fs ∧ 1 ≤ n ∧ n ≤ 5 ∧ 1 ≤ m ∧ m ≤ 6 ∧
  ∀ (H' : Hp) (d : Tb), TabAt C H' t (Vbsgag.fresh n m) d → Kb t H H' → (∀ x ∈ d.foot t, x = t ∨ H x = Option.none) → Q .non H'
def spTabInit (C : Addr) : Sp := fun vs H Q _ => ∃ (t dx : Addr) (n m : Nat), vs = [.ref t, .int n, .int m] ∧ H t = some (.ins C dx []) ∧ 1 ≤ n ∧ n ≤ 5 ∧ 1 ≤ m ∧ m ≤ 6 ∧
  ∀ (H' : Hp) (d : Tb), TabAt C H' t (Vbsgag.fresh n m) d → Kb t H H' → (∀ x ∈ d.foot t, x = t ∨ H x = Option.none) → Q .non H'
def ZUp (H0 H : Hp) (D : Addr) (m i : Nat) : Prop := ∃ rs : List Addr, H D = some (.lst (rs.map V.ref)) ∧ rs.length = i ∧ rs.Nodup ∧ ∀ r ∈ rs, IL H r (List.replicate m 0) ∧ r ≠ D ∧ H0 r = Option.none
section
variable {P : Program} {w : World} {K : PySem.W.Frag} {mg : Str → Option Value} {base : Heap}
theorem scLay : FnScope ["self", "players", "firms", "p"] ["self", "players", "firms"] (defScope sLay) := ⟨rfl, rfl, rfl, by decide +kernel, rfl, by decide +kernel, by decide +kernel⟩
theorem ok_lay {f C : Addr} {fd : FuncData} (F : Fun K "lay" "Table.lay" sLay f fd) (B : Blt mg) (T : TTx K C) : FnOk P w K mg base CX0 1 f fd ["self", "players", "firms"] (spLay C) := by
  refine F.ok scLay (fun vs H Q E h => ?_) (fun cdv A outer s H vs Q E hr h => ?_)
  · obtain ⟨t, dx, fs, n, m, rfl, _⟩ := h
    rfl
  · obtain ⟨t, dx, fs, n, m, rfl, ht, hfs, n1, n5, m1, m6, k⟩ := h
    refine ⟨_, pss_cons (ps_fld (pv 0) (pe_op op_rep (pe_lst (pa_cons pe_int pa_nil)) (pv 2)) rfl)
      (pss_cons (ps_fld (pv 0) (pe_lc rfl scLay.nd (pi_range1 rfl B.range (pa_cons (pv 1) pa_nil)) (blkOk_by (own := [("p", 3)]) rfl) (fun _ _ _ _ _ => pg_name (i := 3) scLay.nd rfl (Or.inl rfl) (Or.inr rfl)) (fun _ _ _ _ _ => pts_nil)
        (fun _ _ _ _ _ => pe_op op_rep (pe_lst (pa_cons pe_int pa_nil)) (pv 2))) rfl)
      (pss_one (ps_fld (pv 0) (pe_op op_rep (pe_lst (pa_cons pe_int pa_nil)) (pv 2)) rfl))), ?_⟩
    have hfl := hfs.len
    have em : ((m : Int)).toNat = m := Int.toNat_natCast m
    have hmz : [V.int 0].length * ((m : Int)).toNat ≤ sizeLine := by rw [em]; exact smallE (by rw [List.length_singleton, Nat.one_mul]; omega)
    -- self.bases
    refine ⟨(by show 1 ≤ sizeLine; decide), fun l0 hl0 => ⟨_, rfl, l0, _, _, rfl, rfl, upd_same, by omega, by omega, hmz, fun b hb => ?_⟩⟩
    have s0 : Same H (upd H l0 (.lst [V.int 0])) := same_new hl0
    have hbH : H b = Option.none := s0.free hb
    have s1 : Same H (upd (upd H l0 (.lst [V.int 0])) b (.lst (List.replicate ((m : Int)).toNat [V.int 0]).flatten)) := Same.put s0 hbH
    have hil1 : IL (upd (upd H l0 (.lst [V.int 0])) b (.lst (List.replicate ((m : Int)).toNat [V.int 0]).flatten)) b (List.replicate m 0) := by
      rw [IL, upd_same, em, rep_zero]
    generalize upd (upd H l0 (.lst [V.int 0])) b (.lst (List.replicate ((m : Int)).toNat [V.int 0]).flatten) = H1 at s1 hil1 ⊢
    have hbt : b ≠ t := Ne.symm (ne_of_none ht hbH)
    refine ⟨_, rfl, t, C, dx, fs, rfl, s1 _ _ ht, T.cl, T.nB, by omega, ?_⟩
    have k2 : Kb t H (upd H1 t (.ins C dx (putF "bases" (.ref b) fs))) := Kb.trans (Kb.of_same s1) Kb.upd
    have hil2 : IL (upd H1 t (.ins C dx (putF "bases" (.ref b) fs))) b (List.replicate m 0) := by
      rw [IL, upd_ne hbt]
      exact hil1
    have ht2 : (upd H1 t (.ins C dx (putF "bases" (.ref b) fs))) t = some (.ins C dx (putF "bases" (.ref b) fs)) := upd_same
    generalize upd H1 t (.ins C dx (putF "bases" (.ref b) fs)) = H2 at k2 hil2 ht2 ⊢
    -- self.worths
    refine ⟨_, rfl, _, rfl, by omega, by omega, fun D hD => ?_⟩
    rw [show ((n : Int)).toNat = n from Int.toNat_natCast n]
    refine lc_range (lo := 0) (n := n) (fun i H' => Same H2 H' ∧ ZUp H2 H' D m i) ⟨same_new hD, [], upd_same, rfl, by simp, fun r hr => by simp at hr⟩ ?_ ?_
    · rintro i H' hi ⟨s3, rs, hrs, hrl, hnd, hrr⟩
      refine ⟨rfl, tyes ?_⟩
      refine ⟨(by show 1 ≤ sizeLine; decide), fun l1 hl1 => ⟨_, rfl, l1, _, _, rfl, rfl, upd_same, by omega, by omega, hmz, fun r hr => ?_⟩⟩
      have s4 : Same H' (upd H' l1 (.lst [V.int 0])) := same_new hl1
      have hrH : H' r = Option.none := s4.free hr
      have s5 : Same H' (upd (upd H' l1 (.lst [V.int 0])) r (.lst (List.replicate ((m : Int)).toNat [V.int 0]).flatten)) := Same.put s4 hrH
      have hil5 : IL (upd (upd H' l1 (.lst [V.int 0])) r (.lst (List.replicate ((m : Int)).toNat [V.int 0]).flatten)) r (List.replicate m 0) := by
        rw [IL, upd_same, em, rep_zero]
      generalize upd (upd H' l1 (.lst [V.int 0])) r (.lst (List.replicate ((m : Int)).toNat [V.int 0]).flatten) = H5 at s5 hil5 ⊢
      have hrD : r ≠ D := Ne.symm (ne_of_none hrs hrH)
      refine ⟨_, s5 _ _ hrs, by rw [List.length_map, hrl]; exact small (by omega), Same.put (s3.trans s5) hD, rs ++ [r], ?_, by simp [hrl], ?_, fun x hx => ?_⟩
      · rw [upd_same, List.map_append]
        rfl
      · rw [List.nodup_append]
        refine ⟨hnd, by simp, fun a ha b hb e => ?_⟩
        have e2 : b = r := by simpa using hb
        rw [e, e2] at ha
        rw [(hrr r ha).1] at hrH
        cases hrH
      · rcases List.mem_append.mp hx with hx | hx
        · obtain ⟨h1, h2, h3⟩ := hrr x hx
          exact ⟨by rw [IL, upd_ne h2]; exact s5 _ _ h1, h2, h3⟩
        · have e2 : x = r := by simpa using hx
          rw [e2]
          exact ⟨by rw [IL, upd_ne hrD]; exact hil5, hrD, s3.free hrH⟩
    · rintro H' ⟨s3, rs, hrs, hrl, hnd, hrr⟩
      have hDt : D ≠ t := Ne.symm (ne_of_none ht2 hD)
      have hDb : D ≠ b := Ne.symm (ne_of_none hil2 hD)
      have hrt : t ∉ rs := fun hm => by
        have := (hrr t hm).2.2
        rw [ht2] at this
        cases this
      have hrb : b ∉ rs := fun hm => by
        have := (hrr b hm).2.2
        rw [hil2] at this
        cases this
      have hrD : D ∉ rs := fun hm => (hrr D hm).2.1 rfl
      have hl1 := length_putF "bases" (.ref b) fs
      refine ⟨_, rfl, t, C, dx, _, rfl, s3 _ _ ht2, T.cl, T.nW, by omega, ?_⟩
      have k4 : Kb t H2 (upd H' t (.ins C dx (putF "worths" (.ref D) (putF "bases" (.ref b) fs)))) := Kb.trans (Kb.of_same s3) Kb.upd
      have ht4 : (upd H' t (.ins C dx (putF "worths" (.ref D) (putF "bases" (.ref b) fs)))) t = some (.ins C dx (putF "worths" (.ref D) (putF "bases" (.ref b) fs))) := upd_same
      have hD4 : (upd H' t (.ins C dx (putF "worths" (.ref D) (putF "bases" (.ref b) fs)))) D = some (.lst (rs.map V.ref)) := by
        rw [upd_ne hDt]
        exact hrs
      have hr4 : ∀ r ∈ rs, IL (upd H' t (.ins C dx (putF "worths" (.ref D) (putF "bases" (.ref b) fs)))) r (List.replicate m 0) := fun r hr => by
        rw [IL, upd_ne (fun e : r = t => hrt (e ▸ hr))]
        exact (hrr r hr).1
      generalize upd H' t (.ins C dx (putF "worths" (.ref D) (putF "bases" (.ref b) fs))) = H4 at k4 ht4 hD4 hr4 ⊢
      -- self.clock
      refine ⟨(by show 1 ≤ sizeLine; decide), fun l2 hl2 => ⟨_, rfl, l2, _, _, rfl, rfl, upd_same, by omega, by omega, hmz, fun c hc => ?_⟩⟩
      have s5 : Same H4 (upd H4 l2 (.lst [V.int 0])) := same_new hl2
      have hcH : H4 c = Option.none := s5.free hc
      have s6 : Same H4 (upd (upd H4 l2 (.lst [V.int 0])) c (.lst (List.replicate ((m : Int)).toNat [V.int 0]).flatten)) := Same.put s5 hcH
      have hil6 : IL (upd (upd H4 l2 (.lst [V.int 0])) c (.lst (List.replicate ((m : Int)).toNat [V.int 0]).flatten)) c (List.replicate m 0) := by
        rw [IL, upd_same, em, rep_zero]
      generalize upd (upd H4 l2 (.lst [V.int 0])) c (.lst (List.replicate ((m : Int)).toNat [V.int 0]).flatten) = H6 at s6 hil6 ⊢
      have hct : c ≠ t := Ne.symm (ne_of_none ht4 hcH)
      have hcb : c ≠ b := Ne.symm (ne_of_none (k4 _ _ hil2 hbt) hcH)
      have hcD : c ≠ D := Ne.symm (ne_of_none hD4 hcH)
      have hcr : c ∉ rs := fun hm => by
        rw [hr4 c hm] at hcH
        cases hcH
      have hl2 := length_putF "worths" (.ref D) (putF "bases" (.ref b) fs)
      refine ⟨_, rfl, t, C, dx, _, rfl, s6 _ _ ht4, T.cl, T.nC, by omega, ?_⟩
      rw [hfs.put]
      have kk : Kb t H (upd H6 t (.ins C dx (tf b D c))) := Kb.trans (Kb.trans k2 k4) (Kb.trans (Kb.of_same s6) Kb.upd)
      refine k _ ⟨dx, b, D, c, rs⟩ ⟨upd_same, ?_, ?_, ?_, ?_, fun i r row a b => ?_, ?_, WF_fresh n1 n5 m1 m6⟩ kk fun x hx => ?_
      · show IL _ b (Vbsgag.ints (List.replicate m 0))
        rw [ints_replicate, IL, upd_ne hbt]
        exact s6 _ _ (k4 _ _ hil2 hbt)
      · show upd H6 t _ D = _
        rw [upd_ne hDt]
        exact s6 _ _ hD4
      · show IL _ c (Vbsgag.ints (List.replicate m 0))
        rw [ints_replicate, IL, upd_ne hct]
        exact hil6
      · exact hrl
      · have hr' : r ∈ rs := List.mem_of_getElem? a
        have e : row = List.replicate m 0 := (List.mem_replicate.mp (List.mem_of_getElem? b)).2
        rw [e, ints_replicate, IL, upd_ne (fun e : r = t => hrt (e ▸ hr'))]
        exact s6 _ _ (hr4 r hr')
      · show (t :: b :: D :: c :: rs).Nodup
        simp only [List.nodup_cons, List.mem_cons, not_or]
        exact ⟨⟨Ne.symm hbt, Ne.symm hDt, Ne.symm hct, hrt⟩, ⟨Ne.symm hDb, Ne.symm hcb, hrb⟩, ⟨Ne.symm hcD, hrD⟩, hcr, hnd⟩
      · have hx' : x ∈ t :: b :: D :: c :: rs := hx
        simp only [List.mem_cons] at hx'
        rcases hx' with e | e | e | e | e
        · exact .inl e
        · exact .inr (e ▸ hbH)
        · rw [e]
          exact .inr (k2.free hD hDt)
        · rw [e]
          exact .inr (k2.free (k4.free hcH hct) hct)
        · have hxt : x ≠ t := fun z => hrt (z ▸ e)
          exact .inr (k2.free (hrr x e).2.2 hxt)
end
end TW

end

section
set_option Elab.async false
set_option linter.all false
set_option maxRecDepth 100000
set_option maxHeartbeats 2000000
namespace TW
open PySem PySem.Spec PyProof.Rows L2

theorem dedup_len : ∀ (l acc : List Int), (l.foldl step_dedup acc).length ≤ acc.length + l.length ∧ ((l.foldl step_dedup acc).length = acc.length + l.length ↔ l.Nodup ∧ ∀ x ∈ l, x ∉ acc)
  | [], acc => ⟨Nat.le_refl _, by simp⟩
  | a :: l, acc => by
    rw [List.foldl_cons]
    obtain ⟨h1, h2⟩ := dedup_len l (step_dedup acc a)
    unfold step_dedup at h1 h2 ⊢
    by_cases ha : a ∈ acc
    · have e : acc.any (fun x => x == a) = true := by
        rw [List.any_eq_true]
        exact ⟨a, ha, by simp⟩
      simp only [e, if_true] at h1 h2 ⊢
      refine ⟨by rw [List.length_cons]; omega, ⟨fun h => ?_, fun h => ?_⟩⟩
      · rw [List.length_cons] at h
        omega
      · exact absurd ha (h.2 a List.mem_cons_self)
    · have e : acc.any (fun x => x == a) = false := by
        rw [List.any_eq_false]
        intro x hx h
        exact ha (eq_of_beq h ▸ hx)
      simp only [e, Bool.false_eq_true, if_false] at h1 h2 ⊢
      rw [List.length_append, List.length_singleton] at h1 h2
      refine ⟨by rw [List.length_cons]; omega, ?_⟩
      rw [List.length_cons, show acc.length + (l.length + 1) = acc.length + 1 + l.length by omega, h2, List.nodup_cons]
      constructor
      · rintro ⟨n1, n2⟩
        refine ⟨⟨fun hm => n2 a hm (by simp), n1⟩, fun x hx => ?_⟩
        rcases List.mem_cons.mp hx with z | z
        · rw [z]; exact ha
        · exact fun hm => n2 x z (by simp [hm])
      · rintro ⟨⟨n1, n2⟩, n3⟩
        refine ⟨n2, fun x hx hm => ?_⟩
        rcases List.mem_append.mp hm with z | z
        · exact n3 x (List.mem_cons_of_mem _ hx) z
        · have : x = a := by simpa using z
          exact n1 (this ▸ hx)
theorem range_getD (l : List Int) : (List.range l.length).map (fun i => l.getD i 0) = l := by
  apply List.ext_getElem?
  intro k
  rw [List.getElem?_map]
  by_cases h : k < l.length
  · rw [List.getElem?_range h, getD_at h]
    rfl
  · rw [List.getElem?_eq_none (by simpa using h), List.getElem?_eq_none (by simpa using h)]
    rfl
theorem met_nodup (l : List Int) : decide (V.int (((firstMet (fun i => l.getD i 0) l.length).length : Nat) : Int) = V.int (l.length : Int)) = decide l.Nodup := by
  have h := (dedup_len l []).2
  have e : firstMet (fun i => l.getD i 0) l.length = l.foldl step_dedup [] := by
    unfold firstMet
    rw [range_getD]
  rw [e]
  simp only [List.length_nil, Nat.zero_add, List.not_mem_nil, not_false_eq_true, implies_true, and_true] at h
  by_cases hn : l.Nodup
  · rw [decide_eq_true hn, decide_eq_true (by rw [h.mpr hn])]
  · rw [decide_eq_false hn, decide_eq_false fun z => hn (h.mp (by have := V.int.inj z; omega))]
theorem got_snoc (l : List Int) (i : Int) : got (l ++ [i]) = got l ++ (if i = 0 then [] else [i]) := by
  unfold got
  rw [List.filter_append]
  by_cases h : i = 0
  · rw [if_pos h, List.filter_cons, if_neg (by simp [h]), List.filter_nil]
  · rw [if_neg h, List.filter_cons, if_pos (by simp [h]), List.filter_nil]
theorem got_len (l : List Int) : (got l).length ≤ l.length := List.length_filter_le _ _
section
variable {P : Program} {w : World} {K : PySem.W.Frag} {mg : Str → Option Value} {base : Heap}
theorem scTabInit : FnScope ["self", "players", "firms"] ["self", "players", "firms"] (defScope sTabInit) := ⟨rfl, rfl, rfl, by decide +kernel, rfl, by decide +kernel, by decide +kernel⟩
theorem ok_tabInit {f C fL : Addr} {fd fdL : FuncData} (F : Fun K "__init__" "Table.__init__" sTabInit f fd) (B : Blt mg) (T : TTx K C) (M : Md K C "lay" "Table.lay" sLay ["self", "players", "firms"] fL fdL) : FnOk P w K mg base CX0 2 f fd ["self", "players", "firms"] (spTabInit C) := by
  refine F.ok scTabInit (fun vs H Q E h => ?_) (fun cdv A outer s H vs Q E hr h => ?_)
  · obtain ⟨t, dx, n, m, rfl, _⟩ := h
    rfl
  · obtain ⟨t, dx, n, m, rfl, ht, n1, n5, m1, m6, k⟩ := h
    have GL : FnOk P w K mg base CX0 1 fL fdL ["self", "players", "firms"] (spLay C) := ok_lay M.fn B T
    refine ⟨_, pss_one (ps_expr (pe_meth (pv 0) T.cl M.m GL hr M.b .nil pass0 (pa_cons (pv 1) (pa_cons (pv 2) pa_nil)))), ?_⟩
    exact ⟨_, rfl, t, dx, _, rfl, ht, rfl, _, rfl, _, rfl, t, dx, [], n, m, rfl, ht, .inl rfl, n1, n5, m1, m6, k⟩
abbrev sGg : Stmt := stm 22
def spGg : Sp := fun vs H Q _ => ∃ (a : Addr) (g : List Int), vs = [.ref a] ∧ IL H a g ∧ g.length ≤ 1000 ∧ ∀ H' : Hp, Same H H' → Q (.int (Vbsgag.most g 0)) H'
theorem scGg : FnScope ["gains"] ["gains"] (defScope sGg) := ⟨rfl, rfl, rfl, by decide +kernel, rfl, by decide +kernel, by decide +kernel⟩
theorem ok_gg {f : Addr} {fd : FuncData} (F : Fun K "greatest_gain" "greatest_gain" sGg f fd) (B : Blt mg) : FnOk P w K mg base CX0 1 f fd ["gains"] spGg := by
  refine F.ok scGg (fun vs H Q E h => ?_) (fun cdv A outer s H vs Q E hr h => ?_)
  · obtain ⟨a, g, rfl, _⟩ := h
    rfl
  · obtain ⟨a, g, rfl, ha, hz, k⟩ := h
    refine ⟨_, pss_one (ps_ret (pe_callB (cr_max rfl) rfl B.max bt_max (pa_cons (pe_op op_cat (pe_lst (pa_cons pe_int pa_nil)) (pv 0)) pa_nil))), ?_⟩
    refine ⟨(by show 1 ≤ sizeLine; decide), fun l hl => ?_⟩
    have s1 : Same H (upd H l (.lst [V.int 0])) := same_new hl
    refine ⟨_, rfl, l, a, _, _, rfl, rfl, upd_same, s1.il ha, ?_, fun p hp => ?_⟩
    · rw [List.length_map]
      exact smallE (by show 1 + _ ≤ 100000; omega)
    have s2 : Same H (upd (upd H l (.lst [V.int 0])) p (.lst ([V.int 0] ++ g.map V.int))) := Same.put s1 (s1.free hp)
    refine ⟨p, (0 : Int) :: g, rfl, SqL.of upd_same, by simp, fun m h1 h2 => ?_⟩
    have q := k _ s2
    rw [← most_unique h1 h2] at q
    exact q
abbrev sDem : Stmt := stm 23
def spDem : Sp := fun vs H Q _ => ∃ (a : Addr) (g : List Int), vs = [.ref a] ∧ IL H a g ∧ g.length ≤ 1000 ∧ ∀ (H' : Hp) (p : Addr), Same H H' → H p = Option.none → IL H' p (Vbsgag.ints (demL g)) → Q (.ref p) H'
theorem scDem : FnScope ["gains", "greatest", "i", "gain"] ["gains"] (defScope sDem) := ⟨rfl, rfl, rfl, by decide +kernel, rfl, by decide +kernel, by decide +kernel⟩
theorem ok_dem {f fG : Addr} {fd fdG : FuncData} (F : Fun K "demanded" "demanded" sDem f fd) (B : Blt mg) (DG : Df K mg "greatest_gain" sGg ["gains"] fG fdG) : FnOk P w K mg base CX0 2 f fd ["gains"] spDem := by
  refine F.ok scDem (fun vs H Q E h => ?_) (fun cdv A outer s H vs Q E hr h => ?_)
  · obtain ⟨a, g, rfl, _⟩ := h
    rfl
  · obtain ⟨a, g, rfl, ha, hz, k⟩ := h
    have GG : FnOk P w K mg base CX0 1 fG fdG ["gains"] spGg := ok_gg DG.fn B
    refine ⟨_, pss_cons (ps_set (i := 1) scDem.nd rfl (Or.inr rfl) (pe_call GG (hr.mono (by decide)) rfl DG.mg DG.fn.kp DG.b .nil pass0 (pa_cons (pv 0) pa_nil)))
      (pss_one (ps_ret (pe_lc rfl scDem.nd (pi_enum1 rfl B.enumerate (pa_cons (pv 0) pa_nil)) (blkOk_by (own := [("i", 2), ("gain", 3)]) rfl)
        (fun _ _ _ _ _ => pg_tupK K rfl 2 rfl (pgs_cons (pg_name (i := 2) scDem.nd rfl (Or.inl rfl) (Or.inr rfl)) (pgs_cons (pg_name (i := 3) scDem.nd rfl (Or.inl rfl) (Or.inr rfl)) pgs_nil)) rfl)
        (fun _ _ _ _ _ => pts_one (pt_cmpR op_eq (pv 3) (pv 1) (nomark _))) (fun _ _ _ _ _ => pv 2)))), ?_⟩
    refine ⟨_, rfl, a, g, rfl, ha, hz, fun H1 s1 => ?_⟩
    refine ⟨_, rfl, a, _, rfl, SqL.of (s1.il ha), fun D hD => ?_⟩
    refine lc_enum1 (K := K) (a := a) (xs := g.map V.int) (fun i H' => Same H1 H' ∧ IL H' D (Vbsgag.ints (demTo g (Vbsgag.most g 0) i))) ⟨same_new hD, upd_same⟩ (fun i H' _ p => p.1.seq (SqL.of (s1.il ha))) ?_ ?_
    · rintro i x H' T hx ⟨s2, hD2⟩ hT
      obtain ⟨gv, hgv, rfl⟩ := int_at hx
      have hi : i < g.length := (List.getElem?_eq_some_iff.mp hgv).1
      have s3 : Same H1 (upd H' T (.tup [.int ((i + 1 : Nat) : Int), .int gv])) := Same.put s2 (s2.free hT)
      have hD3 : IL (upd H' T (.tup [.int ((i + 1 : Nat) : Int), .int gv])) D (Vbsgag.ints (demTo g (Vbsgag.most g 0) i)) := by
        rw [IL, upd_ne (ne_of_none hD2 hT)]
        exact hD2
      have ev : g.getD i 0 = gv := by rw [List.getD_eq_getElem?_getD, hgv]; rfl
      have es := demTo_succ g (Vbsgag.most g 0) i
      rw [ev] at es
      refine ⟨T, _, rfl, SqT.of upd_same, rfl, _, _, rfl, _, _, rfl, rfl, rfl, ?_⟩
      generalize upd H' T (.tup [.int ((i + 1 : Nat) : Int), .int gv]) = H2 at s3 hD3 ⊢
      refine ⟨_, rfl, _, rfl, rfl, _, rfl, ?_⟩
      by_cases c : gv = Vbsgag.most g 0
      · have ez : decide (V.int gv = V.int (Vbsgag.most g 0)) = true := decide_eq_true (congrArg V.int c)
        rw [ez]
        rw [if_pos c] at es
        refine iteT ⟨_, rfl, _, hD3, ?_, Same.put s3 hD, ?_⟩
        · rw [List.length_map, ints_length]
          have := demTo_len g (Vbsgag.most g 0) i
          exact small (by omega)
        · rw [IL, upd_same, es]
          unfold Vbsgag.ints
          rw [List.map_append, List.map_append]
          rfl
      · have ez : decide (V.int gv = V.int (Vbsgag.most g 0)) = false := decide_eq_false fun z => c (V.int.inj z)
        rw [ez]
        rw [if_neg c, List.append_nil] at es
        exact iteF ⟨s3, by rw [es]; exact hD3⟩
    · rintro H' ⟨s2, hD2⟩
      rw [List.length_map, demTo_all] at hD2
      exact k H' D (s1.trans s2) (s1.free hD) hD2
abbrev sSet : Stmt := stm 26
def spSet : Sp := fun vs H Q _ => ∃ (a : Addr) (l : List Nat), vs = [.ref a] ∧ IL H a (Vbsgag.ints l) ∧ l.length ≤ 1000 ∧ (∀ i ∈ l, 1 ≤ i ∧ i ≤ 1000) ∧ ∀ H' : Hp, Same H H' → Q (.int ((setOf l : Nat) : Int)) H'
theorem sum_pows : ∀ l : List Nat, (l.map fun i => ((2 ^ (i - 1) : Nat) : Int)).sum = ((setOf l : Nat) : Int)
  | [] => rfl
  | i :: l => by
    rw [List.map_cons, List.sum_cons, sum_pows l]
    show _ = ((2 ^ (i - 1) + setOf l : Nat) : Int)
    rw [Int.natCast_add]
theorem scSet : FnScope ["firms", "i"] ["firms"] (defScope sSet) := ⟨rfl, rfl, rfl, by decide +kernel, rfl, by decide +kernel, by decide +kernel⟩
theorem ok_set {f : Addr} {fd : FuncData} (F : Fun K "set_of" "set_of" sSet f fd) (B : Blt mg) : FnOk P w K mg base CX0 1 f fd ["firms"] spSet := by
  refine F.ok scSet (fun vs H Q E h => ?_) (fun cdv A outer s H vs Q E hr h => ?_)
  · obtain ⟨a, l, rfl, _⟩ := h
    rfl
  · obtain ⟨a, l, rfl, ha, hz, hi, k⟩ := h
    refine ⟨_, pss_one (ps_ret (pe_callB (cr_sum rfl) rfl B.sum bt_sum (pa_cons (pe_lc rfl scSet.nd (pi_list (pv 0)) (blkOk_by (own := [("i", 1)]) rfl)
      (fun _ _ _ _ _ => pg_name (i := 1) scSet.nd rfl (Or.inl rfl) (Or.inr rfl)) (fun _ _ _ _ _ => pts_nil) (fun _ _ _ _ _ => pe_op op_shl pe_int (pe_op op_sub (pv 1) pe_int))) pa_nil))), ?_⟩
    refine ⟨_, rfl, a, rfl, ⟨_, SqL.of ha⟩, fun D hD => ?_⟩
    refine lc_list (K := K) (a := a) (xs := (Vbsgag.ints l).map V.int) (fun j H' => Same H H' ∧ IL H' D ((l.map fun i => ((2 ^ (i - 1) : Nat) : Int)).take j)) ⟨same_new hD, upd_same⟩ (fun j H' _ p => p.1.seq (SqL.of ha)) ?_ ?_
    · rintro j x H' hx ⟨s1, hD1⟩
      obtain ⟨z, hz1, rfl⟩ := int_at hx
      rw [ints_getElem?] at hz1
      cases el : l[j]? with
      | none => rw [el] at hz1; cases hz1
      | some n =>
        rw [el] at hz1
        have ez : (n : Int) = z := Option.some.inj hz1
        subst ez
        obtain ⟨n1, n2⟩ := hi n (List.mem_of_getElem? el)
        have en : (n : Int) - 1 = ((n - 1 : Nat) : Int) := by omega
        have hj : j < l.length := (List.getElem?_eq_some_iff.mp el).1
        refine ⟨rfl, tyes ?_⟩
        refine ⟨_, rfl, _, _, rfl, rfl, 1, _, rfl, rfl, ?_, _, hD1, ?_, Same.put s1 hD, ?_⟩
        · rw [en]
          exact cpow_small _ (by omega)
        · rw [List.length_map, List.length_take, List.length_map]
          exact small (by omega)
        · have ev : (l.map fun i => ((2 ^ (i - 1) : Nat) : Int))[j]? = some ((2 ^ (n - 1) : Nat) : Int) := by
            rw [List.getElem?_map, el]
            rfl
          rw [IL, upd_same, take_snoc ev, List.map_append, en]
          dsimp only
          rw [shl_nat]
          rfl
    · rintro H' ⟨s1, hD1⟩
      rw [List.length_map, ints_length, List.take_of_length_le (by rw [List.length_map]; exact Nat.le_refl _)] at hD1
      refine ⟨D, _, rfl, SqL.of hD1, ?_⟩
      rw [sum_pows]
      exact k H' s1
end
end TW

end

section
set_option Elab.async false
set_option linter.all false
set_option maxRecDepth 100000
set_option maxHeartbeats 2000000
namespace TW
open PySem PySem.Spec PyProof.Rows L2

theorem wins_ne {s : Vbsgag.State} (wf : WF s) : wins s ≠ [] := fun e => by
  have h1 := wins_length wf
  rw [e] at h1
  have := wf.n1
  simp at h1
  omega
theorem least_L {s : Vbsgag.State} (wf : WF s) : leastL (Vbsgag.ints s.bases) (wins s) s.m = Vbsgag.ints (Vbsgag.least s) := by
  rw [least_eq wf]
  unfold leastL
  rw [ints_length, wf.lb]
  apply List.map_congr_left
  intro i hi
  rw [ints_getD]
theorem great_L {s : Vbsgag.State} (wf : WF s) : greatL (Vbsgag.ints s.bases) (wins s) s.m = Vbsgag.ints (Vbsgag.greatest s) := by
  rw [greatest_eq wf]
  unfold greatL
  rw [ints_length, wf.lb]
  apply List.map_congr_left
  intro i hi
  rw [ints_getD]
theorem gain_at (s : Vbsgag.State) (q : List Nat) (p i : Nat) : Vbsgag.gainAt s q p i = gainI (i : Int) (Vbsgag.ints (s.rows.getD (p - 1) [])) (Vbsgag.ints q) := by
  unfold Vbsgag.gainAt gainI Vbsgag.worth Vbsgag.priceOf
  by_cases h : i = 0
  · rw [if_pos h, if_pos (by rw [h]; rfl)]
  · rw [if_neg h, if_neg (by omega), ints_getD, ints_getD, Int.toNat_natCast]
theorem TabAt.row {C : Addr} {H : Hp} {t : Addr} {s : Vbsgag.State} {d : Tb} (T : TabAt C H t s d) {q : Int} (h : Vbsgag.isPlayer s q = true) : ∃ r, d.rs[q.toNat - 1]? = some r ∧ IL H r (Vbsgag.ints (s.rows.getD (q.toNat - 1) [])) ∧ q - 1 = ((q.toNat - 1 : Nat) : Int) ∧ q.toNat - 1 < s.n ∧ (s.rows.getD (q.toNat - 1) []).length = s.m ∧ 1 ≤ q.toNat ∧ q.toNat ≤ s.n := by
  have h1 := isPlayer_iff.mp h
  have h2 : q.toNat - 1 < d.rs.length := by rw [T.hl]; omega
  have h3 : q.toNat - 1 < s.rows.length := by rw [T.wf.lr]; omega
  have e : s.rows.getD (q.toNat - 1) [] = s.rows[q.toNat - 1] := by rw [List.getD_eq_getElem?_getD, List.getElem?_eq_getElem h3]; rfl
  refine ⟨d.rs[q.toNat - 1], List.getElem?_eq_getElem h2, ?_, by omega, by omega, by rw [e]; exact T.wf.lw _ (List.getElem_mem h3), by omega, by omega⟩
  rw [e]
  exact T.hr _ _ _ (List.getElem?_eq_getElem h2) (List.getElem?_eq_getElem h3)
theorem TabAt.mat {C : Addr} {H : Hp} {t : Addr} {s : Vbsgag.State} {d : Tb} (T : TabAt C H t s d) : Mat H d.ws (s.rows.map Vbsgag.ints) := by
  refine ⟨d.rs, T.hw, by rw [T.hl, List.length_map, T.wf.lr], fun k r row a b => ?_⟩
  rw [List.getElem?_map] at b
  cases e : s.rows[k]? with
  | none => rw [e] at b; cases b
  | some row' =>
    rw [e] at b
    cases b
    exact T.hr k r row' a e
abbrev sWs : Stmt := stm 27
def spWs : Sp := fun vs H Q _ => ∃ (a b : Addr) (rows : List (List Int)) (ps : List Int), vs = [.ref a, .ref b] ∧ Mat H a rows ∧ IL H b ps ∧ (∀ r ∈ rows, r.length = ps.length) ∧ ps.length ≤ 100 ∧ rows.length ≤ 100 ∧
  ∀ (H' : Hp) (p : Addr), Same H H' → H p = Option.none → IL H' p (Vbsgag.ints (wantedL rows ps)) → Q (.ref p) H'
def wl (gs : List (List Int)) : List Nat := (gs.filter fun g => decide (0 < Vbsgag.most g 0)).map fun g => setOf (demL g)
theorem wl_snoc {gs : List (List Int)} {j : Nat} {g : List Int} (h : gs[j]? = some g) : wl (gs.take (j + 1)) = wl (gs.take j) ++ (if 0 < Vbsgag.most g 0 then [setOf (demL g)] else []) := by
  unfold wl
  rw [take_snoc h, List.filter_append, List.map_append, List.filter_cons, List.filter_nil]
  by_cases c : 0 < Vbsgag.most g 0
  · rw [if_pos (decide_eq_true c), if_pos c]
    rfl
  · rw [if_neg (by simpa using c), if_neg c]
    rfl
theorem wl_len (gs : List (List Int)) : (wl gs).length ≤ gs.length := by
  unfold wl
  rw [List.length_map]
  exact List.length_filter_le _ _
section
variable {P : Program} {w : World} {K : PySem.W.Frag} {mg : Str → Option Value} {base : Heap}
theorem scWs : FnScope ["rows", "prices", "all_gains", "worths", "gains"] ["rows", "prices"] (defScope sWs) := ⟨rfl, rfl, rfl, by decide +kernel, rfl, by decide +kernel, by decide +kernel⟩
theorem ok_ws {f fL fG fD fS : Addr} {fd fdL fdG fdD fdS : FuncData} (F : Fun K "wanted_sets" "wanted_sets" sWs f fd) (B : Blt mg) (DL : Df K mg "gains_at" sGat ["worths", "prices"] fL fdL) (DG : Df K mg "greatest_gain" sGg ["gains"] fG fdG)
    (DD : Df K mg "demanded" sDem ["gains"] fD fdD) (DS : Df K mg "set_of" sSet ["firms"] fS fdS) : FnOk P w K mg base CX0 3 f fd ["rows", "prices"] spWs := by
  refine F.ok scWs (fun vs H Q E h => ?_) (fun cdv A outer s H vs Q E hr h => ?_)
  · obtain ⟨a, b, rows, ps, rfl, _⟩ := h
    rfl
  · obtain ⟨a, b, rows, ps, rfl, hm, hb, hl, hz, hr100, k⟩ := h
    have GL : FnOk P w K mg base CX0 1 fL fdL ["worths", "prices"] spGat := ok_gat DL.fn B
    have GG : FnOk P w K mg base CX0 1 fG fdG ["gains"] spGg := ok_gg DG.fn B
    have GD : FnOk P w K mg base CX0 2 fD fdD ["gains"] spDem := ok_dem DD.fn B DG
    have GS : FnOk P w K mg base CX0 1 fS fdS ["firms"] spSet := ok_set DS.fn B
    have r1 : Room 1 _ := hr.mono (by decide)
    have r2 : Room 2 _ := hr.mono (by decide)
    refine ⟨_, pss_cons (ps_setLc (i := 2) rfl scWs.nd rfl rfl (sw_true rfl rfl rfl rfl) (pi_list (pv 0)) (blkOk_by (own := [("worths", 3)]) rfl) (fun _ _ _ _ _ => pg_name (i := 3) scWs.nd rfl (Or.inl rfl) (Or.inr rfl)) (fun _ _ _ _ _ => pts_nil)
        (fun _ _ _ _ _ => pe_call GL r1 rfl DL.mg DL.fn.kp DL.b .nil pass0 (pa_cons (pv 3) (pa_cons (pv 1) pa_nil))))
      (pss_one (ps_ret (pe_lc rfl scWs.nd (pi_list (pv 2)) (blkOk_by (own := [("gains", 4)]) rfl) (fun _ _ _ _ _ => pg_name (i := 4) scWs.nd rfl (Or.inl rfl) (Or.inr rfl))
        (fun _ _ _ _ _ => pts_one (pt_cmpR op_gt (pe_call GG r1 rfl DG.mg DG.fn.kp DG.b .nil pass0 (pa_cons (pv 4) pa_nil)) pe_int (nomark _)))
        (fun _ _ _ _ _ => pe_call GS r1 rfl DS.mg DS.fn.kp DS.b .nil pass0 (pa_cons (pe_call GD r2 rfl DD.mg DD.fn.kp DD.b .nil pass0 (pa_cons (pv 4) pa_nil)) pa_nil))))), ?_⟩
    obtain ⟨rs, hrs, hrl, hrr⟩ := id hm
    refine ⟨_, rfl, a, rfl, ⟨_, SqL.of hrs⟩, fun D hD => ?_⟩
    refine lc_list (K := K) (a := a) (xs := rs.map V.ref) (fun j H' => Same H H' ∧ MatUp H' D (rows.map fun r => gl r ps) j) ⟨same_new hD, MatUp.zero⟩ (fun j H' _ p => SqL.of (p.1 _ _ hrs)) ?_ ?_
    · rintro j x H' hx ⟨s1, m1⟩
      obtain ⟨r, hr1, rfl⟩ := ref_at hx
      have hj : j < rows.length := by
        rw [← hrl]
        exact (List.getElem?_eq_some_iff.mp hr1).1
      have hrow : rows[j]? = some rows[j] := List.getElem?_eq_getElem hj
      have hlr : rows[j].length = ps.length := hl _ (List.getElem_mem hj)
      refine ⟨rfl, tyes ?_⟩
      refine ⟨_, rfl, _, rfl, r, b, _, _, rfl, s1.il (hrr j r _ hr1 hrow), s1.il hb, hlr, by omega, fun H4 p s4 hp h4 => ?_⟩
      obtain ⟨ts, ht, _⟩ := id m1
      have hpD : p ≠ D := Ne.symm (ne_of_none ht hp)
      obtain ⟨acc, a1, a2, a3⟩ := m1.step (p := p) s4 hpD (by rw [List.getElem?_map, hrow]; rfl) h4
      exact ⟨acc, a1, by rw [a2]; exact small (by omega), Same.put (s1.trans s4) hD, a3⟩
    · rintro H1 ⟨s1, m1⟩
      have m1 : Mat H1 D (rows.map fun r => gl r ps) := by
        refine MatUp.done ?_
        have e : (rows.map fun r => gl r ps).length = (rs.map V.ref).length := by simp [hrl]
        rw [e]
        exact m1
      obtain ⟨gs, hgs, hgl, hgr⟩ := id m1
      have hgl2 : gs.length = rows.length := by rw [hgl, List.length_map]
      refine ⟨_, rfl, D, rfl, ⟨_, SqL.of hgs⟩, fun E1 hE => ?_⟩
      refine lc_list (K := K) (a := D) (xs := gs.map V.ref) (fun j H' => Same H1 H' ∧ IL H' E1 (Vbsgag.ints (wl ((rows.map fun r => gl r ps).take j)))) ⟨same_new hE, upd_same⟩ (fun j H' _ p => SqL.of (p.1 _ _ hgs)) ?_ ?_
      · rintro j x H' hx ⟨s2, hE2⟩
        obtain ⟨g, hg1, rfl⟩ := ref_at hx
        have hj : j < rows.length := by
          rw [← hgl2]
          exact (List.getElem?_eq_some_iff.mp hg1).1
        have hlr : rows[j].length = ps.length := hl _ (List.getElem_mem hj)
        have hgj : (rows.map fun r => gl r ps)[j]? = some (gl rows[j] ps) := by
          rw [List.getElem?_map, List.getElem?_eq_getElem hj]
          rfl
        have hil := hgr j g _ hg1 hgj
        have hgz : (gl rows[j] ps).length ≤ 100 := by rw [gl_length _ _ hlr]; omega
        have es := wl_snoc hgj
        have hwl := wl_len ((rows.map fun r => gl r ps).take j)
        rw [List.length_take] at hwl
        refine ⟨rfl, _, rfl, g, _, rfl, s2.il hil, by omega, fun H3 s3 => ⟨_, _, rfl, rfl, _, rfl, ?_⟩⟩
        have hE3 := s3.il hE2
        by_cases c : 0 < Vbsgag.most (gl rows[j] ps) 0
        · rw [decide_eq_true c]
          rw [if_pos c] at es
          refine iteT ⟨_, rfl, g, _, rfl, s3.il (s2.il hil), by omega, fun H4 p s4 hp h4 => ?_⟩
          refine ⟨p, demL (gl rows[j] ps), rfl, h4, ?_, fun i hi => ?_, fun H5 s5 => ⟨_, s5.il (s4.il hE3), ?_, Same.put ((s2.trans s3).trans (s4.trans s5)) hE, ?_⟩⟩
          · have := demTo_len (gl rows[j] ps) (Vbsgag.most (gl rows[j] ps) 0) (gl rows[j] ps).length
            rw [demTo_all] at this
            omega
          · have := demL_pos _ i hi
            omega
          · rw [List.length_map, ints_length]
            exact small (by omega)
          · rw [IL, upd_same, es]
            unfold Vbsgag.ints
            rw [List.map_append, List.map_append]
            rfl
        · rw [decide_eq_false c]
          rw [if_neg c, List.append_nil] at es
          exact iteF ⟨s2.trans s3, by rw [es]; exact hE3⟩
      · rintro H' ⟨s2, hE2⟩
        rw [List.length_map, List.take_of_length_le (by rw [List.length_map]; omega)] at hE2
        exact k H' E1 (s1.trans s2) (s1.free hE) hE2
abbrev sCp : Stmt := stm 24
def spCp (C : Addr) : Sp := fun vs H Q _ => ∃ (t a : Addr) (s : Vbsgag.State) (d : Tb) (q : List Nat), vs = [.ref t, .ref a] ∧ TabAt C H t s d ∧ IL H a (Vbsgag.ints q) ∧ q.length = s.m ∧ ∀ H' : Hp, Same H H' → Q (.bl (Vbsgag.competitive s q)) H'
theorem min_ge {l : List Int} {m : Int} (h1 : m ∈ l) (h2 : ∀ y, y ∈ l → m ≤ y) : decide (0 ≤ m) = l.all fun x => decide (0 ≤ x) := by
  by_cases c : 0 ≤ m
  · rw [decide_eq_true c]
    symm
    rw [List.all_eq_true]
    intro x hx
    have := h2 x hx
    exact decide_eq_true (by omega)
  · rw [decide_eq_false c]
    symm
    rw [List.all_eq_false]
    exact ⟨m, h1, by simpa using c⟩
theorem scCp : FnScope ["table", "prices", "above", "greatest", "worths"] ["table", "prices"] (defScope sCp) := ⟨rfl, rfl, rfl, by decide +kernel, rfl, by decide +kernel, by decide +kernel⟩
theorem ok_cp {f C fL fG fT fW : Addr} {fd fdL fdG fdT fdW : FuncData} (F : Fun K "is_competitive" "is_competitive" sCp f fd) (B : Blt mg) (T : TTx K C) (DL : Df K mg "gains_at" sGat ["worths", "prices"] fL fdL) (DG : Df K mg "greatest_gain" sGg ["gains"] fG fdG)
    (DT : Df K mg "greatest_total" sGt ["wins"] fT fdT) (GT : FnOk P w K mg base CX0 3 fT fdT ["wins"] spGt) (MW : Md K C "wins" "Table.wins" sWins ["self"] fW fdW) : FnOk P w K mg base CX0 4 f fd ["table", "prices"] (spCp C) := by
  refine F.ok scCp (fun vs H Q E h => ?_) (fun cdv A outer s H vs Q E hr h => ?_)
  · obtain ⟨t, a, st, d, q, rfl, _⟩ := h
    rfl
  · obtain ⟨t, a, st, d, q, rfl, TA, ha, hq, k⟩ := h
    have GL : FnOk P w K mg base CX0 1 fL fdL ["worths", "prices"] spGat := ok_gat DL.fn B
    have GG : FnOk P w K mg base CX0 1 fG fdG ["gains"] spGg := ok_gg DG.fn B
    have GW : FnOk P w K mg base CX0 2 fW fdW ["self"] (spWins C) := ok_wins MW.fn B T DL
    have r1 : Room 1 _ := hr.mono (by decide)
    refine ⟨_, pss_cons (ps_set (i := 2) scCp.nd rfl (Or.inl rfl) (pe_call GL r1 rfl DL.mg DL.fn.kp DL.b .nil pass0 (pa_cons (pv 1) (pa_cons (pe_fld (pv 0) rfl) pa_nil))))
      (pss_cons (ps_setLc (i := 3) rfl scCp.nd rfl rfl (sw_true rfl rfl rfl rfl) (pi_list (pe_fld (pv 0) rfl)) (blkOk_by (own := [("worths", 4)]) rfl) (fun _ _ _ _ _ => pg_name (i := 4) scCp.nd rfl (Or.inl rfl) (Or.inr rfl)) (fun _ _ _ _ _ => pts_nil)
        (fun _ _ _ _ _ => pe_call GG r1 rfl DG.mg DG.fn.kp DG.b .nil pass0 (pa_cons (pe_call GL r1 rfl DL.mg DL.fn.kp DL.b .nil pass0 (pa_cons (pv 4) (pa_cons (pv 1) pa_nil))) pa_nil)))
      (pss_one (ps_ret (pe_and (pe_cmpR op_ge (pe_callB (cr_min rfl) rfl B.min bt_min (pa_cons (pv 2) pa_nil)) pe_int (nomark _)) (pe_one (pe_cmpR op_eq (pe_op op_add (pe_callB (cr_sum rfl) rfl B.sum bt_sum (pa_cons (pv 3) pa_nil)) (pe_callB (cr_sum rfl) rfl B.sum bt_sum (pa_cons (pv 2) pa_nil)))
        (pe_call GT (hr.mono (by decide)) rfl DT.mg DT.fn.kp DT.b .nil pass0 (pa_cons (pe_meth0 (pv 0) T.cl MW.m GW (hr.mono (by decide)) MW.b .nil pass0) pa_nil)) (nomark _))))))), ?_⟩
    have wf := TA.wf
    have := wf.m6
    have := wf.n5
    have hlb : (Vbsgag.ints q).length = (Vbsgag.ints st.bases).length := by rw [ints_length, ints_length, wf.lb, hq]
    refine ⟨_, rfl, _, rfl, t, C, d.dx, _, _, rfl, TA.ob, T.cl, T.nB, tf_bases _ _ _, a, d.b, _, _, rfl, ha, TA.hb, hlb, by rw [ints_length]; omega, fun H1 ab s1 hab h1 => ?_⟩
    have TA1 := TA.same s1
    refine ⟨_, rfl, t, C, d.dx, _, _, rfl, TA1.ob, T.cl, T.nW, tf_worths _ _ _, d.ws, rfl, ⟨_, SqL.of TA1.hw⟩, fun D hD => ?_⟩
    refine lc_list (K := K) (a := d.ws) (xs := d.rs.map V.ref) (fun j H' => Same H1 H' ∧ IL H' D ((st.rows.map fun row => Vbsgag.most (gl (Vbsgag.ints row) (Vbsgag.ints q)) 0).take j)) ⟨same_new hD, upd_same⟩ (fun j H' _ p => SqL.of (p.1 _ _ TA1.hw)) ?_ ?_
    · rintro j x H' hx ⟨s2, hD2⟩
      obtain ⟨r, hr1, rfl⟩ := ref_at hx
      have hj : j < st.rows.length := by
        rw [wf.lr, ← TA.hl]
        exact (List.getElem?_eq_some_iff.mp hr1).1
      have hrow : st.rows[j]? = some st.rows[j] := List.getElem?_eq_getElem hj
      have hlr : st.rows[j].length = st.m := wf.lw _ (List.getElem_mem hj)
      have hil := s2.il (TA1.hr j r _ hr1 hrow)
      refine ⟨rfl, tyes ?_⟩
      refine ⟨_, rfl, _, rfl, r, a, _, _, rfl, hil, s2.il (s1.il ha), by rw [ints_length, ints_length, hlr, hq], by rw [ints_length]; omega, fun H3 g s3 hg h3 => ?_⟩
      refine ⟨g, _, rfl, h3, ?_, fun H4 s4 => ⟨_, s4.il (s3.il hD2), ?_, Same.put ((s2.trans s3).trans s4) hD, ?_⟩⟩
      · rw [gl_length _ _ (by rw [ints_length, ints_length, hlr, hq]), ints_length]
        omega
      · rw [List.length_map, List.length_take, List.length_map]
        have := wf.lr
        exact small (by omega)
      · have ev : (st.rows.map fun row => Vbsgag.most (gl (Vbsgag.ints row) (Vbsgag.ints q)) 0)[j]? = some (Vbsgag.most (gl (Vbsgag.ints st.rows[j]) (Vbsgag.ints q)) 0) := by
          rw [List.getElem?_map, hrow]
          rfl
        rw [IL, upd_same, take_snoc ev, List.map_append]
        rfl
    · rintro H2 ⟨s2, hD2⟩
      have hrl := wf.lr
      rw [List.length_map, TA.hl, List.take_of_length_le (by rw [List.length_map, hrl]; exact Nat.le_refl _)] at hD2
      have hgz : 0 < (gl (Vbsgag.ints q) (Vbsgag.ints st.bases)).length := by
        rw [gl_length _ _ hlb, ints_length, hq]
        exact wf.m1
      refine ⟨_, rfl, ab, _, rfl, SqL.of (s2.il h1), hgz, fun m hm1 hm2 => ⟨_, _, rfl, rfl, _, rfl, ?_⟩⟩
      have hcp := competitive_eq wf hq
      rw [← min_ge hm1 hm2] at hcp
      cases hc : decide ((0 : Int) ≤ m) with
      | false =>
        rw [hc, Bool.false_and] at hcp
        have q2 := k H2 (s1.trans s2)
        rw [hcp] at q2
        exact iteF q2
      | true =>
        rw [hc, Bool.true_and] at hcp
        have TA2 := TA1.same s2
        refine iteT ⟨_, rfl, D, _, rfl, SqL.of hD2, _, rfl, ab, _, rfl, SqL.of (s2.il h1), _, _, rfl, rfl, _, rfl, t, d.dx, _, rfl, TA2.ob, tf_no _ _ _ (by decide +kernel) (by decide +kernel) (by decide +kernel), t, st, d, rfl, TA2, fun H3 q3 s3 hq3 m3 => ?_⟩
        have hwl := wins_length wf
        refine ⟨q3, wins st, st.m, rfl, m3, wins_ne wf, fun r hr => wins_row wf hr, by omega, by omega, fun H4 s4 => ⟨rfl, ?_⟩⟩
        have q2 := k H4 (((s1.trans s2).trans s3).trans s4)
        rw [hcp, total_wins wf] at q2
        have ed : ∀ x y : Int, decide (V.int x = V.int y) = decide (x = y) := fun x y => by
          by_cases h : x = y
          · rw [decide_eq_true h, decide_eq_true (congrArg V.int h)]
          · rw [decide_eq_false h, decide_eq_false fun z => h (V.int.inj z)]
        rw [← ed] at q2
        exact q2
end
end TW

end

section
set_option Elab.async false
set_option linter.all false
set_option maxRecDepth 100000
set_option maxHeartbeats 2000000
namespace TW
open PySem PySem.Spec PyProof.Rows L2

abbrev sGit : Stmt := stm 21
def spGit (C : Addr) : Sp := fun vs H Q _ => ∃ (t r : Addr) (s : Vbsgag.State) (d : Tb) (p : Int) (row : List Nat), vs = [.ref t, .int p, .ref r] ∧ TabAt C H t s d ∧ IL H r (Vbsgag.ints row) ∧ row.length = s.m ∧ Vbsgag.isPlayer s p = true ∧
  ∀ H' : Hp, Same H H' → Q (.int (Vbsgag.trueGain s (Vbsgag.told s p.toNat row) p.toNat)) H'
section
variable {P : Program} {w : World} {K : PySem.W.Frag} {mg : Str → Option Value} {base : Heap}
theorem scGit : FnScope ["table", "p", "told", "wins", "i"] ["table", "p", "told"] (defScope sGit) := ⟨rfl, rfl, rfl, by decide +kernel, rfl, by decide +kernel, by decide +kernel⟩
theorem ok_git {f C fL fR fB fA fE fW : Addr} {fd fdL fdR fdB fdA fdE fdW : FuncData} (F : Fun K "gain_if_told" "gain_if_told" sGit f fd) (B : Blt mg) (T : TTx K C) (DL : Df K mg "gains_at" sGat ["worths", "prices"] fL fdL) (DR : Df K mg "replaced" sRep ["some", "p", "new"] fR fdR)
    (DB : Df K mg "best_assignments" sBas ["wins"] fB fdB) (GB : FnOk P w K mg base CX0 3 fB fdB ["wins"] spBas) (DA : Df K mg "gain_by" sGain ["i", "worths", "prices"] fA fdA) (DE : Df K mg "least_prices" sLeast ["bases", "wins"] fE fdE) (GE : FnOk P w K mg base CX0 4 fE fdE ["bases", "wins"] spLeast)
    (MW : Md K C "wins" "Table.wins" sWins ["self"] fW fdW) : FnOk P w K mg base CX0 5 f fd ["table", "p", "told"] (spGit C) := by
  refine F.ok scGit (fun vs H Q E h => ?_) (fun cdv A outer s H vs Q E hr h => ?_)
  · obtain ⟨t, r, st, d, p, row, rfl, _⟩ := h
    rfl
  · obtain ⟨t, r, st, d, p, row, rfl, TA, hrow, hrl, hp, k⟩ := h
    have GL : FnOk P w K mg base CX0 1 fL fdL ["worths", "prices"] spGat := ok_gat DL.fn B
    have GR : FnOk P w K mg base CX0 1 fR fdR ["some", "p", "new"] spRep := ok_rep DR.fn
    have GA : FnOk P w K mg base CX0 1 fA fdA ["i", "worths", "prices"] spGain := ok_gain DA.fn
    have GW : FnOk P w K mg base CX0 2 fW fdW ["self"] (spWins C) := ok_wins MW.fn B T DL
    have r1 : Room 1 _ := hr.mono (by decide)
    refine ⟨_, pss_cons (ps_set (i := 3) scGit.nd rfl (Or.inl rfl) (pe_call GR r1 rfl DR.mg DR.fn.kp DR.b .nil pass0 (pa_cons (pe_meth0 (pv 0) T.cl MW.m GW (hr.mono (by decide)) MW.b .nil pass0) (pa_cons (pv 1) (pa_cons (pe_call GL r1 rfl DL.mg DL.fn.kp DL.b .nil pass0 (pa_cons (pv 2) (pa_cons (pe_fld (pv 0) rfl) pa_nil))) pa_nil)))))
      (pss_cons (ps_set (i := 4) scGit.nd rfl (Or.inl rfl) (pe_ix ix_list (pe_ix ix_list (pe_call GB (hr.mono (by decide)) rfl DB.mg DB.fn.kp DB.b .nil pass0 (pa_cons (pv 3) pa_nil)) pe_int (fun _ _ => rfl)) (pe_op op_sub (pv 1) pe_int) (fun _ _ => rfl)))
      (pss_one (ps_ret (pe_call GA r1 rfl DA.mg DA.fn.kp DA.b .nil pass0 (pa_cons (pv 4) (pa_cons (pe_ix ix_list (pe_fld (pv 0) rfl) (pe_op op_sub (pv 1) pe_int) (fun _ _ => rfl)) (pa_cons (pe_call GE (hr.mono (by decide)) rfl DE.mg DE.fn.kp DE.b .nil pass0 (pa_cons (pe_fld (pv 0) rfl) (pa_cons (pv 3) pa_nil))) pa_nil))))))), ?_⟩
    have wf := TA.wf
    have := wf.m6
    have := wf.n5
    have hpi := isPlayer_iff.mp hp
    obtain ⟨rr, hrr1, hrr2, ep, hpn, hrlen, hp1, hp2⟩ := TA.row hp
    have wft : WF (Vbsgag.told st p.toNat row) := WF_told wf p.toNat row hrl
    have hwl := wins_length wf
    -- wins
    refine ⟨_, rfl, t, d.dx, _, rfl, TA.ob, tf_no _ _ _ (by decide +kernel) (by decide +kernel) (by decide +kernel), t, st, d, rfl, TA, fun H1 q1 s1 hq1 m1 => ?_⟩
    have TA1 := TA.same s1
    refine ⟨_, rfl, _, rfl, _, rfl, t, C, d.dx, _, _, rfl, TA1.ob, T.cl, T.nB, tf_bases _ _ _, r, d.b, _, _, rfl, s1.il hrow, TA1.hb, by rw [ints_length, ints_length, wf.lb, hrl], by rw [ints_length]; omega, fun H2 g s2 hg h2 => ?_⟩
    obtain ⟨xs, hxs, hxl⟩ := mat_len m1
    refine ⟨q1, xs, p, _, rfl, s2 _ _ hxs, hpi.1, by rw [hxl, hwl]; exact hpi.2, by omega, fun H3 q3 s3 hq3 h3 => ?_⟩
    have h2' : IL H2 g (winRow st.bases row) := by rw [winRow_ints]; exact h2
    have m3 := Mat.set (s2.mat m1) (s2 _ _ hxs) s3 h3 (s3.il h2')
    rw [← wins_told] at m3
    have hwt : (wins (Vbsgag.told st p.toNat row)).length = st.n := wins_length wft
    -- i
    refine ⟨_, rfl, q3, _, st.m, rfl, m3, wins_ne wft, fun r hr => wins_row wft hr, by omega, by omega, fun H4 q4 s4 hq4 m4 => ?_⟩
    obtain ⟨xs4, b4, g1, g2, g3⟩ := m4.ix (K := K) (k := 0) (bestsI_head wft)
    have hbl : (Vbsgag.best (Vbsgag.told st p.toNat row)).length = st.n := best_length
    have hbi : (Vbsgag.ints (Vbsgag.best (Vbsgag.told st p.toNat row)))[p.toNat - 1]? = some (((Vbsgag.best (Vbsgag.told st p.toNat row)).getD (p.toNat - 1) 0 : Nat) : Int) := by
      rw [getD_at (by rw [ints_length, hbl]; exact hpn), ints_getD]
    refine ⟨q4, xs4, 0, _, rfl, rfl, g1, g2, _, rfl, _, _, rfl, rfl, b4, _, _, _, rfl, rfl, SqL.of g3, by rw [ep]; exact il_at hbi, ?_⟩
    -- gain_by
    have s14 := ((s1.trans s2).trans s3).trans s4
    have TA4 := TA.same s14
    refine ⟨_, rfl, _, rfl, t, C, d.dx, _, _, rfl, TA4.ob, T.cl, T.nW, tf_worths _ _ _, _, rfl, _, _, rfl, rfl, d.ws, _, _, V.ref rr, rfl, rfl, SqL.of TA4.hw, by rw [ep]; exact atI_nat (map_at hrr1), ?_⟩
    refine ⟨_, rfl, t, C, d.dx, _, _, rfl, TA4.ob, T.cl, T.nB, tf_bases _ _ _, _, rfl, d.b, q3, _, _, st.m, rfl, TA4.hb, s4.mat m3, wins_ne wft, fun r hr => wins_row wft hr, by rw [ints_length, wf.lb], by omega, by omega, fun H5 q5 s5 hq5 h5 => ?_⟩
    have h5' : IL H5 q5 (Vbsgag.ints (Vbsgag.least (Vbsgag.told st p.toNat row))) := by
      rw [← least_L wft]
      exact h5
    refine ⟨rr, q5, _, _, _, rfl, (s14.trans s5).il hrr2, h5', ?_, ?_⟩
    · rw [ints_length, ints_length, hrlen, length_least]
      rcases best_in wft (p.toNat - 1) with e | ⟨e1, e2⟩
      · exact .inl (by rw [e]; rfl)
      · have e2 : (Vbsgag.best (Vbsgag.told st p.toNat row)).getD (p.toNat - 1) 0 ≤ st.m := e2
        exact .inr ⟨by omega, by omega, by show _ ≤ (st.m : Int); omega⟩
    · have q := k H5 (s14.trans s5)
      unfold Vbsgag.trueGain at q
      rw [gain_at] at q
      exact q
abbrev sFo : Stmt := stm 28
def spFo : Sp := fun vs H Q _ => ∃ (a b : Addr) (wanted : List Nat) (lists : List (List Nat)), vs = [.ref a, .ref b] ∧ IL H a (Vbsgag.ints wanted) ∧ Mat H b (lists.map Vbsgag.ints) ∧ wanted.length ≤ 100 ∧ lists.length ≤ 1000 ∧ (∀ l ∈ lists, l.length ≤ 100 ∧ ∀ i ∈ l, 1 ≤ i ∧ i ≤ 1000) ∧
  ∀ (H' : Hp) (p : Addr), Same H H' → IL H' p (Vbsgag.ints (firstOver wanted lists)) → (H p = Option.none ∨ ∃ xs, H b = some (.lst xs) ∧ V.ref p ∈ xs) → Q (.ref p) H'
theorem and_eq (x y : Nat) : decide (V.int (Builtin.bitAnd (x : Int) (y : Int)) = V.int (x : Int)) = decide (x &&& y = x) := by
  rw [bitAnd_pp (Int.natCast_nonneg _) (Int.natCast_nonneg _), Int.toNat_natCast, Int.toNat_natCast]
  by_cases h : x &&& y = x
  · rw [decide_eq_true h, decide_eq_true (by rw [h])]
  · rw [decide_eq_false h, decide_eq_false fun z => h (by have := V.int.inj z; exact_mod_cast this)]
theorem filter_snoc {c : Nat → Bool} {l : List Nat} {j x : Nat} (h : l[j]? = some x) : (l.take (j + 1)).filter c = (l.take j).filter c ++ (if c x = true then [x] else []) := by
  rw [take_snoc h, List.filter_append, List.filter_cons, List.filter_nil]
theorem nat_at {l : List Nat} {j : Nat} {x : V} (h : ((Vbsgag.ints l).map V.int)[j]? = some x) : ∃ n, l[j]? = some n ∧ x = V.int (n : Int) := by
  obtain ⟨z, hz, rfl⟩ := int_at h
  rw [ints_getElem?] at hz
  cases e : l[j]? with
  | none => rw [e] at hz; cases hz
  | some n =>
    rw [e] at hz
    have : (n : Int) = z := Option.some.inj hz
    exact ⟨n, rfl, by rw [this]⟩
theorem scFo : FnScope ["wanted", "lists", "some", "within", "into", "firms"] ["wanted", "lists"] (defScope sFo) := ⟨rfl, rfl, rfl, by decide +kernel, rfl, by decide +kernel, by decide +kernel⟩
theorem ok_fo {f fS : Addr} {fd fdS : FuncData} (F : Fun K "first_over" "first_over" sFo f fd) (B : Blt mg) (DS : Df K mg "set_of" sSet ["firms"] fS fdS) : FnOk P w K mg base CX0 2 f fd ["wanted", "lists"] spFo := by
  refine F.ok scFo (fun vs H Q E h => ?_) (fun cdv A outer s H vs Q E hr h => ?_)
  · obtain ⟨a, b, wanted, lists, rfl, _⟩ := h
    rfl
  · obtain ⟨a, b, wanted, lists, rfl, ha, hm, hw, hl, hls, k⟩ := h
    have GS : FnOk P w K mg base CX0 1 fS fdS ["firms"] spSet := ok_set DS.fn B
    refine ⟨_, pss_cons (ps_for PassesOwn.never rfl (pi_list (pv 1)) (pg_name (i := 2) scFo.nd rfl (Or.inl rfl))
        (pss_cons (ps_set (i := 3) scFo.nd rfl (Or.inr rfl) (pe_call GS (hr.mono (by decide)) rfl DS.mg DS.fn.kp DS.b .nil pass0 (pa_cons (pv 2) pa_nil)))
        (pss_cons (ps_setLc (i := 4) rfl scFo.nd rfl rfl (sw_true rfl rfl rfl rfl) (pi_list (pv 0)) (blkOk_by (own := [("firms", 5)]) rfl) (fun _ _ _ _ _ => pg_name (i := 5) scFo.nd rfl (Or.inl rfl) (Or.inr rfl))
          (fun _ _ _ _ _ => pts_one (pt_cmpR op_eq (pe_op op_and (pv 5) (pv 3)) (pv 5) (nomark _))) (fun _ _ _ _ _ => pv 5))
        (pss_one (ps_if (pt_cmpR op_gt (pe_callB call_len_seq rfl B.len bt_len (pa_cons (pv 4) pa_nil)) (pe_callB call_len_seq rfl B.len bt_len (pa_cons (pv 2) pa_nil)) (nomark _)) (pss_one (ps_ret (pv 2))) pss_nil)))))
      (pss_one (ps_ret (pe_lst pa_nil))), ?_⟩
    obtain ⟨rs, hrs, hrl, hrr⟩ := id hm
    have hrl2 : rs.length = lists.length := by rw [hrl, List.length_map]
    refine ⟨_, rfl, b, rfl, ⟨_, SqL.of hrs⟩, ?_⟩
    refine for_list (K := K) (a := b) (xs := rs.map V.ref) (fun i σ H' => ∃ v2 v3 v4 v5 : Option V, σ = [some (.ref a), some (.ref b), v2, v3, v4, v5] ∧ Same H H' ∧ ∀ l ∈ lists.take i, ¬ l.length < intoN wanted l)
      ⟨none, none, none, none, rfl, Same.refl H, fun l hl => by simp at hl⟩ (fun i σ H' _ ⟨_, _, _, _, _, s2, _⟩ => SqL.of (s2 _ _ hrs)) ?_ ?_
    · rintro i x0 σ H1 hx0 ⟨v2, v3, v4, v5, rfl, s1, hno⟩
      obtain ⟨r, hr1, rfl⟩ := ref_at hx0
      have hi : i < lists.length := by
        rw [← hrl2]
        exact (List.getElem?_eq_some_iff.mp hr1).1
      have hli : lists[i]? = some lists[i] := List.getElem?_eq_getElem hi
      have hil := hrr i r (Vbsgag.ints lists[i]) hr1 (by rw [List.getElem?_map, hli]; rfl)
      obtain ⟨hll, hlp⟩ := hls _ (List.getElem_mem hi)
      refine ⟨_, rfl, r, lists[i], rfl, s1.il hil, by omega, hlp, fun H2 s2 => ?_⟩
      have ha2 := s2.il (s1.il ha)
      refine ⟨_, rfl, a, rfl, ⟨_, SqL.of ha2⟩, fun D hD => ?_⟩
      refine lc_list (K := K) (a := a) (xs := (Vbsgag.ints wanted).map V.int) (fun j H' => Same H2 H' ∧ IL H' D (Vbsgag.ints ((wanted.take j).filter fun f => decide (f &&& setOf lists[i] = f)))) ⟨same_new hD, upd_same⟩ (fun j H' _ p => SqL.of (p.1.il ha2)) ?_ ?_
      · rintro j x H' hx ⟨s3, hD3⟩
        obtain ⟨n, hn, rfl⟩ := nat_at hx
        have hj : j < wanted.length := (List.getElem?_eq_some_iff.mp hn).1
        have es := filter_snoc (c := fun f => decide (f &&& setOf lists[i] = f)) hn
        refine ⟨rfl, _, rfl, _, rfl, (n : Int), ((setOf lists[i] : Nat) : Int), rfl, rfl, _, rfl, rfl, _, rfl, ?_⟩
        dsimp only
        rw [and_eq]
        by_cases c : n &&& setOf lists[i] = n
        · rw [decide_eq_true c]
          rw [if_pos (decide_eq_true c)] at es
          refine iteT ⟨_, rfl, _, hD3, ?_, Same.put s3 hD, ?_⟩
          · rw [List.length_map, ints_length]
            have := List.length_filter_le (fun f => decide (f &&& setOf lists[i] = f)) (wanted.take j)
            rw [List.length_take] at this
            exact small (by omega)
          · rw [IL, upd_same, es]
            unfold Vbsgag.ints
            rw [List.map_append, List.map_append]
            rfl
        · rw [decide_eq_false c]
          rw [if_neg (by simpa using c), List.append_nil] at es
          exact iteF ⟨s3, by rw [es]; exact hD3⟩
      · rintro H3 ⟨s3, hD3⟩
        rw [List.length_map, ints_length, List.take_of_length_le (Nat.le_refl _)] at hD3
        have s123 := (s1.trans s2).trans s3
        have hil3 := s123.il hil
        refine ⟨_, rfl, D, _, rfl, .inl (SqL.of hD3), _, rfl, r, _, rfl, .inl (SqL.of hil3), _, _, rfl, rfl, _, rfl, ?_⟩
        have ec : decide ((((((Vbsgag.ints lists[i]).map V.int).length : Nat) : Int)) < (((((Vbsgag.ints (wanted.filter fun f => decide (f &&& setOf lists[i] = f))).map V.int).length : Nat) : Int))) = decide (lists[i].length < intoN wanted lists[i]) := by
          rw [List.length_map, List.length_map, ints_length, ints_length]
          unfold intoN
          by_cases h : lists[i].length < (wanted.filter fun f => decide (f &&& setOf lists[i] = f)).length
          · rw [decide_eq_true h, decide_eq_true (by omega)]
          · rw [decide_eq_false h, decide_eq_false (by omega)]
        rw [ec]
        by_cases c : lists[i].length < intoN wanted lists[i]
        · rw [decide_eq_true c]
          refine iteT ⟨_, rfl, k H3 r s123 ?_ (.inr ⟨_, hrs, List.mem_map.mpr ⟨r, List.mem_of_getElem? hr1, rfl⟩⟩)⟩
          have ef : firstOver wanted lists = lists[i] := by
            unfold firstOver
            have e2 : lists = lists.take i ++ lists[i] :: lists.drop (i + 1) := by
              rw [← List.drop_eq_getElem_cons hi, List.take_append_drop]
            have e3 : (lists.take i).find? (fun l => decide (l.length < intoN wanted l)) = Option.none := by
              rw [List.find?_eq_none]
              intro l hl
              simpa using hno l hl
            have e4 : lists.find? (fun l => decide (l.length < intoN wanted l)) = some lists[i] := by
              conv => lhs; rw [e2]
              rw [List.find?_append, e3, Option.none_or, List.find?_cons, decide_eq_true c]
            rw [e4]
            rfl
          rw [ef]
          exact hil3
        · rw [decide_eq_false c]
          refine iteF ⟨_, _, _, _, rfl, s123, fun l hl => ?_⟩
          rw [take_snoc hli] at hl
          rcases List.mem_append.mp hl with z | z
          · exact hno l z
          · have : l = lists[i] := by simpa using z
            rw [this]
            exact c
    · rintro σ H1 ⟨v2, v3, v4, v5, rfl, s1, hno⟩
      rw [List.length_map, hrl2, List.take_length] at hno
      refine ⟨Nat.zero_le _, fun q hq => ?_⟩
      have ef : firstOver wanted lists = [] := by
        unfold firstOver
        have : lists.find? (fun l => decide (l.length < intoN wanted l)) = Option.none := by
          rw [List.find?_eq_none]
          intro l hl
          simpa using hno l hl
        rw [this]
        rfl
      refine k _ q (Same.put s1 (s1.free hq)) ?_ (.inl (s1.free hq))
      rw [ef]
      exact upd_same
end
end TW

end

section
set_option Elab.async false
set_option linter.all false
set_option maxRecDepth 100000
set_option maxHeartbeats 2000000
namespace TW
open PySem PySem.Spec PyProof.Rows L2

abbrev sLio : Stmt := stm 25
def NewRows (H0 H : Hp) (a : Addr) : Prop := ∀ (xs : List V) (r : Addr), H a = some (.lst xs) → V.ref r ∈ xs → H0 r = Option.none
theorem NewRows.at {H0 H : Hp} {a : Addr} {ys : List V} (h : H a = some (.lst ys)) (k : ∀ r, V.ref r ∈ ys → H0 r = Option.none) : NewRows H0 H a := fun xs r e m => by
  rw [h] at e
  cases e
  exact k r m
def spLio : Sp := fun vs H Q _ => ∃ m : Nat, vs = [.int m] ∧ 1 ≤ m ∧ m ≤ 6 ∧ ∀ (H' : Hp) (p : Addr), Same H H' → H p = Option.none → Mat H' p ((subM m).map Vbsgag.ints) → NewRows H H' p → Q (.ref p) H'
theorem Mat.append {H : Hp} {a b p : Addr} {A B : List (List Int)} {xs ys : List V} (m : Mat H a A) (n : Mat H b B) (ha : H a = some (.lst xs)) (hb : H b = some (.lst ys)) (hp : H p = some (.lst (xs ++ ys))) : Mat H p (A ++ B) := by
  obtain ⟨rs, h1, h2, h3⟩ := m
  obtain ⟨ts, g1, g2, g3⟩ := n
  rw [h1] at ha
  rw [g1] at hb
  cases ha
  cases hb
  refine ⟨rs ++ ts, by rw [hp, List.map_append], by simp [h2, g2], fun k r row u v => ?_⟩
  by_cases hk : k < rs.length
  · rw [List.getElem?_append_left hk] at u
    rw [List.getElem?_append_left (by omega)] at v
    exact h3 k r row u v
  · rw [List.getElem?_append_right (by omega)] at u
    rw [List.getElem?_append_right (by omega), ← h2] at v
    exact g3 _ r row u v
theorem powL_short : ∀ (k : Nat), ∀ l ∈ powL k, l.length ≤ k
  | 0, l, h => by
    have : l = [] := by simpa [powL] using h
    rw [this]
    exact Nat.le_refl _
  | k + 1, l, h => by
    have h : l ∈ powL k ++ (powL k).map fun l => l ++ [k + 1] := h
    rcases List.mem_append.mp h with h | h
    · have := powL_short k l h
      omega
    · obtain ⟨q, hq, rfl⟩ := List.mem_map.mp h
      have := powL_short k q hq
      rw [List.length_append, List.length_singleton]
      omega
theorem pow64 {i : Nat} (h : i ≤ 6) : 2 ^ i ≤ 64 := Nat.le_trans (Nat.pow_le_pow_right (by decide) h) (by decide)
section
variable {P : Program} {w : World} {K : PySem.W.Frag} {mg : Str → Option Value} {base : Heap}
theorem scLio : FnScope ["firms", "lists", "i", "some"] ["firms"] (defScope sLio) := ⟨rfl, rfl, rfl, by decide +kernel, rfl, by decide +kernel, by decide +kernel⟩
theorem ok_lio {f : Addr} {fd : FuncData} (F : Fun K "lists_in_order" "lists_in_order" sLio f fd) (B : Blt mg) : FnOk P w K mg base CX0 1 f fd ["firms"] spLio := by
  refine F.ok scLio (fun vs H Q E h => ?_) (fun cdv A outer s H vs Q E hr h => ?_)
  · obtain ⟨m, rfl, _⟩ := h
    rfl
  · obtain ⟨m, rfl, m1, m6, k⟩ := h
    have hu := Nat.lt_of_le_of_lt (Nat.add_le_add_left (by decide : 2 ≤ 64) _) hr.units
    refine ⟨_, pss_cons (ps_set (i := 1) scLio.nd rfl (Or.inl rfl) (pe_lst (pa_cons (pe_lst pa_nil) pa_nil)))
      (pss_cons (ps_for PassesOwn.never rfl (pi_range2 rfl B.range (pa_cons pe_int (pa_cons (pe_op op_add (pv 0) pe_int) pa_nil))) (pg_name (i := 2) scLio.nd rfl (Or.inr rfl))
        (pss_one (ps_set (i := 1) scLio.nd rfl (Or.inl rfl) (pe_op op_cat (pv 1) (pe_lc rfl scLio.nd (pi_list (pv 1)) (blkOk_by (own := [("some", 3)]) rfl) (fun _ _ _ _ _ => pg_name (i := 3) scLio.nd rfl (Or.inl rfl) (Or.inr rfl)) (fun _ _ _ _ _ => pts_nil)
          (fun _ _ _ _ _ => pe_op op_cat (pv 3) (pe_lst (pa_cons (pv 2) pa_nil))))))))
      (pss_one (ps_ret (pe_sortedLen rfl B.sorted rfl B.len (pa_cons (pe_callB (CallR.or cr_sortedOne (cr_sortedLL hu)) rfl B.sorted bt_sorted (pa_cons (pe_slice sl_list (pv 1) (po_some pe_int) po_none) pa_nil)) pa_nil))))), ?_⟩
    refine ⟨Nat.zero_le _, fun e0 he0 => ⟨(by show 1 ≤ sizeLine; decide), fun l0 hl0 => ?_⟩⟩
    have s1 : Same H (upd H e0 (.lst [])) := same_new he0
    have s2 : Same (upd H e0 (.lst [])) (upd (upd H e0 (.lst [])) l0 (.lst [.ref e0])) := same_new hl0
    have mt0 : Mat (upd (upd H e0 (.lst [])) l0 (.lst [.ref e0])) l0 ((powL 0).map Vbsgag.ints) := by
      refine ⟨[e0], upd_same, rfl, fun j r row hu hx => ?_⟩
      have hj : j = 0 := by
        have := (List.getElem?_eq_some_iff.mp hu).1
        simp at this
        exact this
      subst hj
      have e1 : e0 = r := by simpa using hu
      have e2 : ([] : List Int) = row := by simpa [powL, Vbsgag.ints] using hx
      subst e1 e2
      exact s2 _ _ upd_same
    have s3 := s1.trans s2
    have nr0 : NewRows H (upd (upd H e0 (.lst [])) l0 (.lst [.ref e0])) l0 := NewRows.at upd_same fun r hr => by
      have : r = e0 := by simpa using hr
      rw [this]
      exact he0
    generalize upd (upd H e0 (.lst [])) l0 (.lst [.ref e0]) = H1 at s3 mt0 nr0 ⊢
    refine ⟨_, rfl, _, _, rfl, rfl, 1, _, rfl, ⟨by decide, by decide, by omega, by omega⟩, ?_⟩
    have en : (((m : Int) + 1) - 1).toNat = m := by omega
    rw [en]
    refine for_range (lo := 1) (n := m) (fun i σ H' => ∃ (v2 v3 : Option V) (l : Addr), σ = [some (.int m), some (.ref l), v2, v3] ∧ Same H H' ∧ H l = Option.none ∧ Mat H' l ((powL i).map Vbsgag.ints) ∧ NewRows H H' l)
      ⟨none, none, l0, rfl, s3, s1.free hl0, mt0, nr0⟩ ?_ ?_
    · rintro i σ H2 hi ⟨v2, v3, l, rfl, s4, hln, mt, nr⟩
      obtain ⟨rs, hrs, hrl, hrr⟩ := id mt
      rw [List.length_map, powL_len] at hrl
      have hp64 := pow64 (show i ≤ 6 by omega)
      have hi1 : (1 : Int) + (i : Nat) = ((i + 1 : Nat) : Int) := by omega
      refine ⟨_, rfl, _, rfl, l, rfl, ⟨_, SqL.of hrs⟩, fun D hD => ?_⟩
      refine lc_list (K := K) (a := l) (xs := rs.map V.ref) (fun j H' => Same H2 H' ∧ MatUp H' D ((powL i).map fun q => Vbsgag.ints (q ++ [i + 1])) j ∧ NewRows H H' D) ⟨same_new hD, MatUp.zero, NewRows.at upd_same fun r hr => by simp at hr⟩ (fun j H' _ p => SqL.of (p.1 _ _ hrs)) ?_ ?_
      · rintro j x H' hx ⟨s5, mu, nu⟩
        obtain ⟨r, hr1, rfl⟩ := ref_at hx
        have hj : j < (powL i).length := by
          rw [powL_len, ← hrl]
          exact (List.getElem?_eq_some_iff.mp hr1).1
        have hpj : (powL i)[j]? = some (powL i)[j] := List.getElem?_eq_getElem hj
        have hil := s5.il (hrr j r (Vbsgag.ints (powL i)[j]) hr1 (by rw [List.getElem?_map, hpj]; rfl))
        have hsh := powL_short i _ (List.getElem_mem hj)
        refine ⟨rfl, tyes ?_⟩
        refine ⟨_, rfl, _, rfl, (by show 1 ≤ sizeLine; decide), fun l1 hl1 => ?_⟩
        have s6 : Same H' (upd H' l1 (.lst [V.int ((1 : Int) + (i : Nat))])) := same_new hl1
        refine ⟨r, l1, _, _, rfl, rfl, s6.il hil, upd_same, ?_, fun p hp => ?_⟩
        · rw [List.length_map, ints_length]
          exact smallE (by show _ + 1 ≤ 100000; omega)
        have hp' : H' p = Option.none := s6.free hp
        have s7 : Same H' (upd (upd H' l1 (.lst [V.int ((1 : Int) + (i : Nat))])) p (.lst ((Vbsgag.ints (powL i)[j]).map V.int ++ [V.int ((1 : Int) + (i : Nat))]))) := Same.put s6 hp'
        obtain ⟨ts, ht, _⟩ := id mu
        have hpD : p ≠ D := Ne.symm (ne_of_none ht hp')
        obtain ⟨acc, a1, a2, a3⟩ := mu.step (p := p) (row := Vbsgag.ints ((powL i)[j] ++ [i + 1])) s7 hpD (by rw [List.getElem?_map, hpj]; rfl) (by
          rw [IL, upd_same, hi1]
          unfold Vbsgag.ints
          rw [List.map_append, List.map_append]
          rfl)
        refine ⟨acc, a1, by rw [a2]; rw [powL_len] at hj; exact small (by omega), Same.put (s5.trans s7) hD, a3, NewRows.at upd_same fun r hr => ?_⟩
        rw [s7 _ _ ht] at a1
        cases a1
        rcases List.mem_append.mp hr with z | z
        · exact nu _ r ht z
        · have : r = p := by simpa using z
          rw [this]
          exact s4.free (s5.free hp')
      · rintro H3 ⟨s5, mu, nu⟩
        have mD : Mat H3 D ((powL i).map fun q => Vbsgag.ints (q ++ [i + 1])) := by
          refine MatUp.done ?_
          have e : ((powL i).map fun q => Vbsgag.ints (q ++ [i + 1])).length = (rs.map V.ref).length := by rw [List.length_map, List.length_map, powL_len, hrl]
          rw [e]
          exact mu
        obtain ⟨ys, hys, hyl⟩ := mat_len mD
        rw [List.length_map, powL_len] at hyl
        refine ⟨l, D, _, _, rfl, rfl, s5 _ _ hrs, hys, ?_, fun p hp => ?_⟩
        · rw [List.length_map, hrl, hyl]
          exact smallE (by omega)
        have s6 : Same H3 (upd H3 p (.lst (rs.map V.ref ++ ys))) := same_new hp
        have mA := Mat.append (s6.mat (s5.mat mt)) (s6.mat mD) (s6 _ _ (s5 _ _ hrs)) (s6 _ _ hys) upd_same
        have ep : (powL i).map Vbsgag.ints ++ (powL i).map (fun q => Vbsgag.ints (q ++ [i + 1])) = (powL (i + 1)).map Vbsgag.ints := by
          show _ = (powL i ++ (powL i).map fun l => l ++ [i + 1]).map Vbsgag.ints
          rw [List.map_append, List.map_map]
          rfl
        rw [ep] at mA
        refine ⟨_, _, p, rfl, (s4.trans s5).trans s6, s4.free (s5.free hp), mA, NewRows.at upd_same fun r hr => ?_⟩
        rcases List.mem_append.mp hr with z | z
        · exact nr _ r hrs z
        · exact nu _ r hys z
    · rintro σ H2 ⟨v2, v3, l, rfl, s4, hln, mt, nr⟩
      obtain ⟨rs, hrs, hrl, hrr⟩ := id mt
      rw [List.length_map, powL_len] at hrl
      have hp64 := pow64 m6
      have hpos := Nat.pow_le_pow_right (n := 2) (by decide) m1
      -- lists[1:]
      refine ⟨_, rfl, _, rfl, l, _, rfl, SqL.of hrs, fun p1 hp1 => ?_⟩
      have ec : cutV (rs.map V.ref) (some 1) Option.none = (rs.drop 1).map V.ref := by
        have := cut_from (rs.map V.ref) (j := 1) (by rw [List.length_map, hrl]; omega)
        rw [List.map_drop]
        exact this
      rw [ec]
      have s5 : Same H2 (upd H2 p1 (.lst ((rs.drop 1).map V.ref))) := same_new hp1
      have hq1 : (upd H2 p1 (.lst ((rs.drop 1).map V.ref))) p1 = some (.lst ((rs.drop 1).map V.ref)) := upd_same
      generalize upd H2 p1 (.lst ((rs.drop 1).map V.ref)) = H3 at s5 hq1 ⊢
      have hdl : (rs.drop 1).length = 2 ^ m - 1 := by rw [List.length_drop, hrl]
      have hraw : (rawL m).length = 2 ^ m - 1 := by unfold rawL; rw [List.length_drop, powL_len]
      have hrow : ∀ (j : Nat) (r : Addr) (q : List Nat), (rs.drop 1)[j]? = some r → (rawL m)[j]? = some q → IL H3 r (Vbsgag.ints q) := fun j r q a b => by
        rw [List.getElem?_drop] at a
        unfold rawL at b
        rw [List.getElem?_drop] at b
        exact s5.il (hrr _ r _ a (by rw [List.getElem?_map, b]; rfl))
      -- the rest, whatever the first sort has made of it
      have fin : ∀ (H4 : Hp) (p2 : Addr) (us : List Addr), (∀ r ∈ us, H r = Option.none) → Same H3 H4 → H4 p2 = some (.lst (us.map V.ref)) → us.length = 2 ^ m - 1 → (∀ (j : Nat) (r : Addr) (q : List Nat), us[j]? = some r → (lexS (fm m))[j]? = some q → IL H4 r (Vbsgag.ints q)) →
          rSortedLen K [V.ref p2] H4 Q := fun H4 p2 us hnu s6 h2 hul hur => by
        have hll := lexS_len m m6
        refine ⟨p2, us, (lexS (fm m)).map fun q => (q.length : Int), rfl, SqL.of h2, by rw [List.length_map]; omega, by omega, fun j r z a b => ?_, fun q ps hq hp hpw hpf => ?_⟩
        · rw [List.getElem?_map] at b
          cases e : (lexS (fm m))[j]? with
          | none => rw [e] at b; cases b
          | some q =>
            rw [e] at b
            have b : ((q.length : Nat) : Int) = z := Option.some.inj b
            exact ⟨_, hur j r q a e, by rw [List.length_map, ints_length]; exact b⟩
        · have eps := by_len m1 m6 us hul ps hpw hpf
          obtain ⟨c1, c2, c3, c4⟩ := chkQ_all m1 m6
          have s7 : Same H4 (upd H4 q (.lst ((ps.map (·.2)).map V.ref))) := same_new hq
          have s8 := ((s4.trans s5).trans s6).trans s7
          have hnew : NewRows H (upd H4 q (.lst ((ps.map (·.2)).map V.ref))) q := NewRows.at upd_same fun r hr => by
            obtain ⟨r', hr', e⟩ := List.mem_map.mp hr
            cases e
            rw [eps, List.map_map] at hr'
            obtain ⟨i, hi, e⟩ := List.mem_map.mp hr'
            have hi2 := c4 i hi
            have e : us.getD i 0 = r := e
            rw [← e, List.getD_eq_getElem?_getD, List.getElem?_eq_getElem (by omega : i < us.length)]
            exact hnu _ (List.getElem_mem _)
          refine k _ q s8 (((s4.trans s5).trans s6).free hq) ⟨ps.map (·.2), upd_same, ?_, fun j r row a b => ?_⟩ hnew
          · rw [eps, List.length_map, List.length_map, List.length_map, ← c1, List.length_map]
          · rw [eps, List.map_map, List.getElem?_map] at a
            rw [List.getElem?_map, ← c1, List.getElem?_map] at b
            cases e : (qs m)[j]? with
            | none => rw [e] at a; cases a
            | some i =>
              rw [e] at a b
              have hi := c4 i (List.mem_of_getElem? e)
              have a : us.getD i 0 = r := Option.some.inj a
              have b : Vbsgag.ints ((lexS (fm m)).getD i []) = row := Option.some.inj b
              subst a b
              have u1 : us[i]? = some (us.getD i 0) := by
                rw [List.getD_eq_getElem?_getD, List.getElem?_eq_getElem (by omega : i < us.length)]
                rfl
              have u2 : (lexS (fm m))[i]? = some ((lexS (fm m)).getD i []) := by
                rw [List.getD_eq_getElem?_getD, List.getElem?_eq_getElem (by omega : i < (lexS (fm m)).length)]
                rfl
              exact s7.il (hur i _ _ u1 u2)
      have hnd : ∀ r ∈ rs.drop 1, H r = Option.none := fun r hr => nr _ r hrs (List.mem_map.mpr ⟨r, List.mem_of_mem_drop hr, rfl⟩)
      by_cases h1 : m = 1
      · -- one list
        have hd1 : (rs.drop 1).length = 1 := by rw [hdl, h1]
        obtain ⟨r0, er0⟩ := List.length_eq_one_iff.mp hd1
        refine .inl ⟨p1, V.ref r0, rfl, SqL.of (by rw [hq1, er0]; rfl), fun p2 hp2 => ?_⟩
        have s6 : Same H3 (upd H3 p2 (.lst [V.ref r0])) := same_new hp2
        refine fin _ p2 [r0] (by rw [← er0]; exact hnd) s6 upd_same (by rw [← er0, hdl]) fun j r q a b => ?_
        rw [← er0] at a
        have b : (rawL m)[j]? = some q := by rw [h1] at b ⊢; rw [rawL_one]; exact b
        exact s6.il (hrow j r q a b)
      · obtain ⟨pm, hrun, hpm, hpz, hmap⟩ := chk_run (show 2 ≤ m by omega) m6
        have h4 : 2 ^ 2 ≤ 2 ^ m := Nat.pow_le_pow_right (by decide) (by omega)
        refine .inr ⟨p1, rs.drop 1, (rawL m).map Vbsgag.ints, pm, rfl, SqL.of hq1, by rw [hdl, List.length_map, hraw], by rw [hdl]; omega, by rw [hdl]; omega, fun j r q a b => ?_, by rw [hdl]; exact hrun, by rw [hdl]; exact hpm, hpz, fun p2 hp2 => ?_⟩
        · rw [List.getElem?_map] at b
          cases e : (rawL m)[j]? with
          | none => rw [e] at b; cases b
          | some q' =>
            rw [e] at b
            have b : Vbsgag.ints q' = q := Option.some.inj b
            subst b
            exact hrow j r q' a e
        · have s6 : Same H3 (upd H3 p2 (.lst ((pm.toList.map fun i => (rs.drop 1).getD i 0).map V.ref))) := same_new hp2
          refine fin _ p2 _ (fun r hr => ?_) s6 upd_same ?_ fun j r q a b => ?_
          · obtain ⟨i, hi, e⟩ := List.mem_map.mp hr
            have hi2 := hpm i hi
            rw [← e, List.getD_eq_getElem?_getD, List.getElem?_eq_getElem (by omega : i < (rs.drop 1).length)]
            exact hnd _ (List.getElem_mem _)
          · have := congrArg List.length hmap
            rw [List.length_map, lexS_len m m6] at this
            rw [List.length_map]
            exact this
          · rw [List.getElem?_map] at a
            rw [← hmap, List.getElem?_map] at b
            cases e : pm.toList[j]? with
            | none => rw [e] at a; cases a
            | some i =>
              rw [e] at a b
              have hi := hpm i (List.mem_of_getElem? e)
              have a : (rs.drop 1).getD i 0 = r := Option.some.inj a
              have b : (rawL m).getD i [] = q := Option.some.inj b
              subst a b
              have u1 : (rs.drop 1)[i]? = some ((rs.drop 1).getD i 0) := by
                rw [List.getD_eq_getElem?_getD, List.getElem?_eq_getElem (by omega : i < (rs.drop 1).length)]
                rfl
              have u2 : (rawL m)[i]? = some ((rawL m).getD i []) := by
                rw [List.getD_eq_getElem?_getD, List.getElem?_eq_getElem (by omega : i < (rawL m).length)]
                rfl
              exact s6.il (hrow i _ _ u1 u2)
end
end TW

end

section
set_option Elab.async false
set_option linter.all false
set_option maxRecDepth 100000
set_option maxHeartbeats 2000000
namespace TW
open PySem PySem.Spec PyProof.Rows L2

theorem ixN_nat {n j : Nat} (h : j < n) : ixN n (j : Int) = some j := by
  unfold ixN
  rw [if_pos (by omega), if_pos (by omega), Int.toNat_natCast]
theorem map_set_int (l : List Nat) (j : Nat) (v : Int) (hv : 0 ≤ v) : ((Vbsgag.ints l).map V.int).set j (V.int v) = (Vbsgag.ints (l.set j v.toNat)).map V.int := by
  rw [ints_set, List.map_set]
  congr 2
  omega
theorem TabAt.parts {C : Addr} {H : Hp} {t : Addr} {s : Vbsgag.State} {d : Tb} (T : TabAt C H t s d) :
    (t ≠ d.b ∧ t ≠ d.ws ∧ t ≠ d.c ∧ t ∉ d.rs) ∧ (d.b ≠ d.ws ∧ d.b ≠ d.c ∧ d.b ∉ d.rs) ∧ (d.ws ≠ d.c ∧ d.ws ∉ d.rs) ∧ d.c ∉ d.rs ∧ d.rs.Nodup := by
  have nd := T.nd
  simp only [Tb.foot, List.nodup_cons, List.mem_cons, not_or] at nd
  exact nd
theorem TabAt.setC {C : Addr} {H : Hp} {t : Addr} {s : Vbsgag.State} {d : Tb} (T : TabAt C H t s d) {q : List Nat} (hq : q.length = s.m) : TabAt C (upd H d.c (.lst ((Vbsgag.ints q).map V.int))) t { s with clock := q } d := by
  obtain ⟨⟨n1, n2, n3, n4⟩, ⟨n5, n6, n7⟩, ⟨n8, n9⟩, n10, n11⟩ := T.parts
  refine ⟨?_, ?_, ?_, upd_same, T.hl, fun i r row a b => ?_, T.nd, WF_clock T.wf hq⟩
  · rw [upd_ne n3]; exact T.ob
  · rw [IL, upd_ne n6]; exact T.hb
  · rw [upd_ne n8]; exact T.hw
  · have hr1 : r ∈ d.rs := List.mem_of_getElem? a
    rw [IL, upd_ne (fun e : r = d.c => n10 (e ▸ hr1))]
    exact T.hr i r row a b
theorem dp_ints {K : PySem.W.Frag} {H : Hp} : ∀ l : List Int, DpAll K H (l.map V.int) (l.map PyData.int)
  | [] => .nil
  | i :: l => .cons (.int i) (dp_ints l)
theorem lay_ints : ∀ l : List Int, PyData.canLayAll0 (l.map PyData.int) = true
  | [] => rfl
  | i :: l => by
    show (PyData.canLay0 (.int i) && PyData.canLayAll0 (l.map PyData.int)) = true
    rw [lay_ints l]
    rfl
theorem dep_ints : ∀ l : List Int, PyData.depthAll (l.map PyData.int) = 0
  | [] => rfl
  | i :: l => by
    show max (PyData.depth (.int i)) (PyData.depthAll (l.map PyData.int)) = 0
    rw [dep_ints l]
    rfl
theorem shp_ints (l : List Int) : SeqAt.shaped (.list (l.map PyData.int)) = true := by
  unfold SeqAt.shaped
  rw [Bool.and_eq_true]
  refine ⟨lay_ints l, decide_eq_true ?_⟩
  show PyData.depthAll (l.map PyData.int) + 1 ≤ 64
  rw [dep_ints]
  decide
theorem eqv_ints : ∀ l m : List Int, PyData.eqvAll (l.map PyData.int) (m.map PyData.int) = decide (l = m)
  | [], [] => rfl
  | [], _ :: _ => by simp [PyData.eqvAll]
  | _ :: _, [] => by simp [PyData.eqvAll]
  | i :: l, j :: m => by
    show ((i == j) && PyData.eqvAll (l.map PyData.int) (m.map PyData.int)) = _
    rw [eqv_ints l m]
    by_cases h : i = j
    · subst h
      by_cases h2 : l = m
      · simp [h2]
      · simp [h2]
    · simp [h]
theorem ints_inj {l m : List Nat} (h : Vbsgag.ints l = Vbsgag.ints m) : l = m := by
  have := congrArg Vbsgag.nats h
  rwa [nats_ints, nats_ints] at this
abbrev sMr : Stmt := stm 29
def spMr (C : Addr) : Sp := fun vs H Q _ => ∃ (t : Addr) (s : Vbsgag.State) (d : Tb) (n : Nat), vs = [.ref t, .int n] ∧ TabAt C H t s d ∧ n ≤ 1000 ∧
  ∀ H' : Hp, TabAt C H' t { s with clock := (Vbsgag.ticks s n s.clock).2 } d → Kb d.c H H' → Q (.int ((Vbsgag.ticks s n s.clock).1 : Nat)) H'
theorem TabAt.wanted {C : Addr} {H : Hp} {t : Addr} {s : Vbsgag.State} {d : Tb} (T : TabAt C H t s d) : ∀ r ∈ s.rows.map Vbsgag.ints, r.length = s.m := fun r hr => by
  obtain ⟨q, hq, rfl⟩ := List.mem_map.mp hr
  rw [ints_length]
  exact T.wf.lw q hq
theorem wantedL_len (rows : List (List Int)) (ps : List Int) : (wantedL rows ps).length ≤ rows.length := by
  have := wl_len (rows.map fun r => gl r ps)
  rw [List.length_map] at this
  exact this
theorem Kb.il {l : Addr} {H H' : Hp} {a : Addr} {x : List Int} (k : Kb l H H') (h : IL H a x) (ne : a ≠ l) : IL H' a x := k _ _ h ne
theorem Kb.same {l : Addr} {H H1 H2 : Hp} (k : Kb l H H1) (s : Same H1 H2) : Kb l H H2 := Kb.trans k (Kb.of_same s)
theorem Kb.mat {l : Addr} {H H' : Hp} {a : Addr} {rows : List (List Int)} (k : Kb l H H') (m : Mat H a rows) (ne : a ≠ l) (nr : ∀ (xs : List V) (r : Addr), H a = some (.lst xs) → V.ref r ∈ xs → r ≠ l) : Mat H' a rows := by
  obtain ⟨rs, h1, h2, h3⟩ := m
  exact ⟨rs, k _ _ h1 ne, h2, fun j r row u v => k _ _ (h3 j r row u v) (nr _ r h1 (List.mem_map.mpr ⟨r, List.mem_of_getElem? u, rfl⟩))⟩
section
variable {P : Program} {w : World} {K : PySem.W.Frag} {mg : Str → Option Value} {base : Heap}
theorem scMr : FnScope ["table", "k", "lists", "before", "some", "made", "wanted", "i"] ["table", "k"] (defScope sMr) := ⟨rfl, rfl, rfl, by decide +kernel, rfl, by decide +kernel, by decide +kernel⟩
theorem ok_mr {f C fI fW fO : Addr} {fd fdI fdW fdO : FuncData} (F : Fun K "make_rounds" "make_rounds" sMr f fd) (B : Blt mg) (T : TTx K C) (DI : Df K mg "lists_in_order" sLio ["firms"] fI fdI) (DW : Df K mg "wanted_sets" sWs ["rows", "prices"] fW fdW) (GW : FnOk P w K mg base CX0 3 fW fdW ["rows", "prices"] spWs)
    (DO : Df K mg "first_over" sFo ["wanted", "lists"] fO fdO) (GO : FnOk P w K mg base CX0 2 fO fdO ["wanted", "lists"] spFo) : FnOk P w K mg base CX0 4 f fd ["table", "k"] (spMr C) := by
  refine F.ok scMr (fun vs H Q E h => ?_) (fun cdv A outer s H vs Q E hr h => ?_)
  · obtain ⟨t, st, d, n, rfl, _⟩ := h
    rfl
  · obtain ⟨t, st, d, n, rfl, TA, hn, k⟩ := h
    have GI : FnOk P w K mg base CX0 1 fI fdI ["firms"] spLio := ok_lio DI.fn B
    have hu : _ + 64 < cLine := hr.units
    refine ⟨_, pss_cons (ps_set (i := 2) scMr.nd rfl (Or.inl rfl) (pe_call GI (hr.mono (by decide)) rfl DI.mg DI.fn.kp DI.b .nil pass0 (pa_cons (pe_callB call_len_seq rfl B.len bt_len (pa_cons (pe_fld (pv 0) rfl) pa_nil)) pa_nil)))
      (pss_cons (ps_set (i := 3) scMr.nd rfl (Or.inl rfl) (pe_lst pa_nil))
      (pss_cons (ps_set (i := 4) scMr.nd rfl (Or.inl rfl) (pe_lst pa_nil))
      (pss_cons (ps_for PassesOwn.never rfl (pi_range1 rfl B.range (pa_cons (pv 1) pa_nil)) (pg_name (i := 5) scMr.nd rfl (Or.inl rfl))
        (pss_cons (ps_set (i := 6) scMr.nd rfl (Or.inl rfl) (pe_call GW (hr.mono (by decide)) rfl DW.mg DW.fn.kp DW.b .nil pass0 (pa_cons (pe_fld (pv 0) rfl) (pa_cons (pe_fld (pv 0) rfl) pa_nil))))
        (pss_cons (ps_if (pt_cmpR (op_neD hu) (pv 6) (pv 3) (nomark _)) (pss_one (ps_set (i := 4) scMr.nd rfl (Or.inl rfl) (pe_call GO (hr.mono (by decide)) rfl DO.mg DO.fn.kp DO.b .nil pass0 (pa_cons (pv 6) (pa_cons (pv 2) pa_nil))))) pss_nil)
        (pss_cons (ps_if (pt_cmpR op_eq (pe_callB call_len_seq rfl B.len bt_len (pa_cons (pv 4) pa_nil)) pe_int (nomark _)) (pss_one (ps_ret (pv 5))) pss_nil)
        (pss_cons (ps_for PassesOwn.never rfl (pi_list (pv 4)) (pg_name (i := 7) scMr.nd rfl (Or.inl rfl)) (pss_one (ps_augS (pe_fld (pv 0) rfl) (pe_op op_sub (pv 7) pe_int) get_list pe_int ip_add set_list)))
        (pss_one (ps_set (i := 3) scMr.nd rfl (Or.inl rfl) (pv 6))))))))
      (pss_one (ps_ret (pv 1)))))), ?_⟩
    have wf := TA.wf
    have := wf.m6
    have := wf.n5
    have hrn : (st.rows.map Vbsgag.ints).length = st.n := by rw [List.length_map, wf.lr]
    have hclk : (((Vbsgag.ints st.clock).map V.int).length : Nat) = st.m := by rw [List.length_map, ints_length, wf.lc]
    refine ⟨_, rfl, t, C, d.dx, _, _, rfl, TA.ob, T.cl, T.nC, tf_clock _ _ _, d.c, _, rfl, .inl (SqL.of TA.hc), st.m, by rw [hclk]; rfl, wf.m1, wf.m6, fun H1 ls s1 hls m1 nr1 => ?_⟩
    have hdc : H d.c ≠ Option.none := by rw [TA.hc]; simp
    have hlsc : ls ≠ d.c := fun e => hdc (e ▸ hls)
    have nr1' : ∀ (xs : List V) (r : Addr), H1 ls = some (.lst xs) → V.ref r ∈ xs → r ≠ d.c := fun xs r e m z => hdc (z ▸ nr1 xs r e m)
    refine ⟨Nat.zero_le _, fun bf hbf => ?_⟩
    have s2 : Same H1 (upd H1 bf (.lst [])) := same_new hbf
    refine ⟨Nat.zero_le _, fun sm hsm => ?_⟩
    have s3 : Same (upd H1 bf (.lst [])) (upd (upd H1 bf (.lst [])) sm (.lst [])) := same_new hsm
    have hbfc : bf ≠ d.c := fun e => hdc (e ▸ s1.free hbf)
    have hsmc : sm ≠ d.c := fun e => hdc (e ▸ (s1.trans s2).free hsm)
    have i1 : IL (upd (upd H1 bf (.lst [])) sm (.lst [])) bf (Vbsgag.ints []) := s3 _ _ upd_same
    have i2 : IL (upd (upd H1 bf (.lst [])) sm (.lst [])) sm (Vbsgag.ints (firstOver [] (subM st.m))) := by
      rw [firstOver_nil]
      exact upd_same
    have s23 : Same H1 (upd (upd H1 bf (.lst [])) sm (.lst [])) := s2.trans s3
    generalize upd (upd H1 bf (.lst [])) sm (.lst []) = H2 at i1 i2 s23 ⊢
    obtain ⟨lxs, hlxs, hlxl⟩ := mat_len m1
    have hsub : ∀ l ∈ subM st.m, l.Nodup ∧ (∀ i ∈ l, 1 ≤ i ∧ i ≤ st.m) ∧ l ≠ [] := fun l hl => subsets_mem (s := st) hl
    have hsl : ∀ l ∈ subM st.m, l.length ≤ st.m := fun l hl => by
      obtain ⟨kk, hk, h⟩ := List.mem_flatMap.mp hl
      have h2 := choose_len kk _ h
      have h3 := (mem_firms (s := st)).mp hk
      omega
    have hsub64 : (subM st.m).length ≤ 1000 := by
      have h1 := chkQ_all wf.m1 wf.m6
      rw [← h1.1, List.length_map]
      have h2 : (qs st.m).length ≤ 100 := by
        have e : st.m = 1 ∨ st.m = 2 ∨ st.m = 3 ∨ st.m = 4 ∨ st.m = 5 ∨ st.m = 6 := by have := wf.m1; omega
        rcases e with e | e | e | e | e | e <;> rw [e] <;> decide +kernel
      omega
    refine ⟨_, rfl, n, rfl, by omega, by omega, ?_⟩
    rw [Int.toNat_natCast]
    refine for_range (lo := 0) (n := n) (fun i σ H' => ∃ (v5 v6 v7 : Option V) (bf sm : Addr) (w0 q : List Nat), σ = [some (.ref t), some (.int n), some (.ref ls), some (.ref bf), some (.ref sm), v5, v6, v7] ∧ TabAt C H' t { st with clock := q } d ∧ Kb d.c H2 H' ∧
        IL H' bf (Vbsgag.ints w0) ∧ IL H' sm (Vbsgag.ints (firstOver w0 (subM st.m))) ∧ bf ≠ d.c ∧ sm ≠ d.c ∧ q.length = st.m ∧ w0.length ≤ 5 ∧ Vbsgag.ticks st n st.clock = ((Vbsgag.ticks st (n - i) q).1 + i, (Vbsgag.ticks st (n - i) q).2))
      ⟨none, none, none, bf, sm, [], st.clock, rfl, (TA.same s1).same s23, Kb.of_same (Same.refl H2), i1, i2, hbfc, hsmc, wf.lc, by simp, rfl⟩ ?_ ?_
    · rintro i σ H3 hi ⟨u5, u6, u7, bf, sm, w0, q, rfl, T3, k3, ib, is, hbc, hsc, hq, hw5, htk⟩
      rw [show (0 : Int) + (i : Nat) = (i : Int) by omega]
      have m3 : Mat H3 ls ((subM st.m).map Vbsgag.ints) := k3.mat (s23.mat m1) hlsc fun xs r e m => by
        rw [s23 _ _ hlxs] at e
        cases e
        exact nr1' _ r hlxs m
      -- wanted
      refine ⟨_, rfl, t, C, d.dx, _, _, rfl, T3.ob, T.cl, T.nW, tf_worths _ _ _, _, rfl, t, C, d.dx, _, _, rfl, T3.ob, T.cl, T.nC, tf_clock _ _ _, d.ws, d.c, _, _, rfl, T3.mat, T3.hc, fun r hr => ?_, ?_, ?_, fun H4 wn s4 hwn h4 => ?_⟩
      · rw [ints_length]
        show r.length = q.length
        rw [hq]
        exact TA.wanted r hr
      · rw [ints_length]
        show q.length ≤ 100
        omega
      · show (st.rows.map Vbsgag.ints).length ≤ 100
        omega
      have h4 : IL H4 wn (Vbsgag.ints (wantedL (st.rows.map Vbsgag.ints) (Vbsgag.ints q))) := h4
      have hwl : (wantedL (st.rows.map Vbsgag.ints) (Vbsgag.ints q)).length ≤ 5 := by
        have := wantedL_len (st.rows.map Vbsgag.ints) (Vbsgag.ints q)
        omega
      have hov := over_eq wf hq
      rw [subsets_eq] at hov
      have T4 := T3.same s4
      have k4 := k3.same s4
      have hwc : wn ≠ d.c := fun e => by
        rw [e, T3.hc] at hwn
        cases hwn
      -- if wanted != before
      refine ⟨_, rfl, _, rfl, _, _, .lst (SqL.of h4) (dp_ints _), .lst (SqL.of (s4.il ib)) (dp_ints _), shp_ints _, shp_ints _, _, rfl, ?_⟩
      -- behind it
      have rest : ∀ (D : Ends) (H5 : Hp) (sm : Addr), D.rt = Q → (∀ σ H', (∃ (v5 v6 v7 : Option V) (bf sm : Addr) (w0 q : List Nat), σ = [some (.ref t), some (.int n), some (.ref ls), some (.ref bf), some (.ref sm), v5, v6, v7] ∧ TabAt C H' t { st with clock := q } d ∧ Kb d.c H2 H' ∧
                IL H' bf (Vbsgag.ints w0) ∧ IL H' sm (Vbsgag.ints (firstOver w0 (subM st.m))) ∧ bf ≠ d.c ∧ sm ≠ d.c ∧ q.length = st.m ∧ w0.length ≤ 5 ∧ Vbsgag.ticks st n st.clock = ((Vbsgag.ticks st (n - (i + 1)) q).1 + (i + 1), (Vbsgag.ticks st (n - (i + 1)) q).2)) → D.nx σ H') →
          Same H4 H5 → IL H5 sm (Vbsgag.ints ((Vbsgag.over st q).getD [])) → sm ≠ d.c →
          tSeq (tIfS (tTest (tOp rEq (tCB (fun xs H Q => ∃ p ys, xs = [V.ref p] ∧ (SqL K H p ys ∨ SqT K H p ys) ∧ Q (V.int ys.length) H) (tCons (tVar 4) tNil)) (tC (.int 0)))) (tRet (tVar 5)) tNext) (tSeq (tFor (iList K (tVar 4)) (gName 7) (tAugS (tFld K (tVar 0) "clock") (tOp (rI0 fun i j => .int (i - j)) (tVar 7) (tC (.int 1))) (tC (.int 1)) (rGetL K) (ipI fun i j => i + j) rSetL)) (tAsg (tVar 6) (gName 3)))
            D [some (.ref t), some (.int n), some (.ref ls), some (.ref bf), some (.ref sm), some (.int i), some (.ref wn), u7] H5 := by
        intro D H5 sm hD hnx s5 is5 hsc5
        have T5 := T4.same s5
        have k5 := k4.same s5
        refine ⟨_, rfl, sm, _, rfl, .inl (SqL.of is5), rfl, _, rfl, ?_⟩
        by_cases hz : (Vbsgag.over st q).getD [] = []
        · -- no round
          have ez : decide (V.int ((((Vbsgag.ints ((Vbsgag.over st q).getD [])).map V.int).length : Nat) : Int) = V.int 0) = true := by
            rw [hz]
            rfl
          rw [ez]
          refine iteT ⟨_, rfl, ?_⟩
          rw [hD]
          have est := ticks_stop (n - i) hz
          rw [est] at htk
          have q1 := k H5 (by rw [htk]; exact T5) ((Kb.of_same (s1.trans s23)).trans k5)
          rw [htk] at q1
          dsimp only at q1
          rw [Nat.zero_add] at q1
          exact q1
        · have ez : decide (V.int ((((Vbsgag.ints ((Vbsgag.over st q).getD [])).map V.int).length : Nat) : Int) = V.int 0) = false := by
            rw [List.length_map, ints_length]
            refine decide_eq_false fun z => hz ?_
            have := V.int.inj z
            exact List.eq_nil_of_length_eq_zero (by omega)
          rw [ez]
          refine iteF ⟨_, rfl, sm, rfl, ⟨_, SqL.of is5⟩, ?_⟩
          have hmem : (Vbsgag.over st q).getD [] ∈ subM st.m := by
            rw [hov] at hz ⊢
            exact firstOver_mem (s := st) hz
          obtain ⟨hnd, hin, _⟩ := hsub _ hmem
          have hraise := raised_eq (s := st) hq hnd fun i hi => (hin i hi).1
          have hgo := ticks_go (s := st) (q := q) (n - (i + 1)) hz
          rw [show n - (i + 1) + 1 = n - i by omega, hraise] at hgo
          generalize (Vbsgag.over st q).getD [] = ov at is5 hov hin hnd hgo
          refine for_list (K := K) (a := sm) (xs := (Vbsgag.ints ov).map V.int) (fun j σ H' => ∃ v7 : Option V, σ = [some (.ref t), some (.int n), some (.ref ls), some (.ref bf), some (.ref sm), some (.int i), some (.ref wn), v7] ∧ TabAt C H' t { st with clock := (ov.take j).foldl bump q } d ∧ Kb d.c H5 H')
            ⟨u7, rfl, T5, Kb.of_same (Same.refl H5)⟩ (fun j σ H' _ ⟨_, _, _, k6⟩ => SqL.of (k6 _ _ is5 hsc5)) ?_ ?_
          · rintro j x σ H6 hx ⟨y7, rfl, T6, k6⟩
            obtain ⟨f, hf, rfl⟩ := nat_at hx
            obtain ⟨f1, f2⟩ := hin f (List.mem_of_getElem? hf)
            have hbl : ((ov.take j).foldl bump q).length = st.m := by rw [bumps_len, hq]
            have ef : (f : Int) - 1 = ((f - 1 : Nat) : Int) := by omega
            have hv : ((Vbsgag.ints ((ov.take j).foldl bump q)).map V.int)[f - 1]? = some (V.int ((((ov.take j).foldl bump q).getD (f - 1) 0 : Nat) : Int)) := by
              have h1 : (Vbsgag.ints ((ov.take j).foldl bump q))[f - 1]? = some ((Vbsgag.ints ((ov.take j).foldl bump q)).getD (f - 1) 0) := getD_at (by rw [ints_length, hbl]; omega)
              rw [ints_getD] at h1
              exact map_at h1
            refine ⟨_, rfl, t, C, d.dx, _, _, rfl, T6.ob, T.cl, T.nC, tf_clock _ _ _, _, rfl, _, _, rfl, rfl, d.c, _, f - 1, _, rfl, by show V.int ((f : Int) - 1) = _; rw [ef], SqL.of T6.hc, hv, _, _, rfl, rfl, d.c, _, _, f - 1, rfl, rfl, T6.hc, ?_, ?_⟩
            · show ixN _ ((f : Int) - 1) = _
              rw [ef]
              refine ixN_nat ?_
              rw [List.length_map, ints_length]
              show f - 1 < ((ov.take j).foldl bump q).length
              omega
            · have eb : (ov.take (j + 1)).foldl bump q = ((ov.take j).foldl bump q).set (f - 1) (((((ov.take j).foldl bump q).getD (f - 1) 0 : Nat) : Int) + 1).toNat := by
                rw [take_snoc hf, List.foldl_append]
                show bump ((ov.take j).foldl bump q) f = _
                unfold bump
                congr 1
              have T7 := T6.setC (q := (ov.take (j + 1)).foldl bump q) (by rw [bumps_len, hq])
              rw [eb] at T7
              have em := map_set_int ((ov.take j).foldl bump q) (f - 1) (((((ov.take j).foldl bump q).getD (f - 1) 0 : Nat) : Int) + 1) (by omega)
              refine ⟨_, rfl, ?_, Kb.trans k6 Kb.upd⟩
              rw [eb]
              have em2 : ((Vbsgag.ints ((ov.take j).foldl bump q)).map V.int).set (f - 1) (V.int (((((ov.take j).foldl bump q).getD (f - 1) 0 : Nat) : Int) + 1)) = _ := em
              rw [← em2] at T7
              exact T7
          · rintro σ H6 ⟨y7, rfl, T6, k6⟩
            rw [List.length_map, ints_length, List.take_length] at T6
            refine ⟨_, rfl, hnx _ _ ⟨_, _, _, wn, sm, wantedL (st.rows.map Vbsgag.ints) (Vbsgag.ints q), ov.foldl bump q, rfl, T6, k5.trans k6, k6.il (s5.il h4) hwc, ?_, hwc, hsc5, by rw [bumps_len, hq], hwl, ?_⟩⟩
            · rw [← hov]
              exact k6.il is5 hsc5
            · rw [htk, hgo]
              dsimp only
              congr 1
              omega
      rw [show PyData.eqv (.list ((Vbsgag.ints (wantedL (st.rows.map Vbsgag.ints) (Vbsgag.ints q))).map PyData.int)) (.list ((Vbsgag.ints w0).map PyData.int)) = decide (Vbsgag.ints (wantedL (st.rows.map Vbsgag.ints) (Vbsgag.ints q)) = Vbsgag.ints w0) from eqv_ints _ _]
      by_cases hc : Vbsgag.ints (wantedL (st.rows.map Vbsgag.ints) (Vbsgag.ints q)) = Vbsgag.ints w0
      · rw [decide_eq_true hc]
        have ew := ints_inj hc
        have is4 : IL H4 sm (Vbsgag.ints ((Vbsgag.over st q).getD [])) := by
          rw [hov, ew]
          exact s4.il is
        exact iteF (rest _ H4 sm rfl (fun σ H' h => h) (Same.refl H4) is4 hsc)
      · rw [decide_eq_false hc]
        refine iteT ⟨_, rfl, _, rfl, wn, ls, wantedL (st.rows.map Vbsgag.ints) (Vbsgag.ints q), subM st.m, rfl, h4, s4.mat m3, by omega, hsub64, fun l hl => ⟨by have := hsl l hl; omega, fun i hi => ?_⟩, fun H5 p s5 h5 hp => ?_⟩
        · have := (hsub l hl).2.1 i hi
          omega
        · rw [← hov] at h5
          refine rest _ H5 p rfl (fun σ H' h => h) s5 h5 fun e => ?_
          rcases hp with z | ⟨xs, z1, z2⟩
          · rw [e, T4.hc] at z
            cases z
          · rw [s4 _ _ (k3 _ _ (s23 _ _ hlxs) hlsc)] at z1
            cases z1
            exact nr1' _ p hlxs z2 e
    · rintro σ H3 ⟨u5, u6, u7, bf, sm, w0, q, rfl, T3, k3, ib, is, hbc, hsc, hq, hw5, htk⟩
      refine ⟨_, rfl, ?_⟩
      rw [Nat.sub_self] at htk
      have htk : Vbsgag.ticks st n st.clock = (0 + n, q) := htk
      have q1 := k H3 (by rw [htk]; exact T3) ((Kb.of_same (s1.trans s23)).trans k3)
      rw [htk] at q1
      dsimp only at q1
      rw [Nat.zero_add] at q1
      exact q1
end
end TW

end

section
set_option Elab.async false
set_option linter.all false
set_option maxRecDepth 100000
set_option maxHeartbeats 2000000
namespace TW
open PySem PySem.Spec PyProof.Rows L2

def Kd.str : Kd → Str
  | .players => "players"
  | .firms => "firms"
  | .rounds => "rounds"
  | .player => "player"
  | .firm => "firm"
  | .amount => "amount"
  | .amounts => "amounts"
  | .asg => "assignment"
theorem kd_str (a b : Kd) : decide (V.str a.str = V.str b.str) = decide (a = b) := by
  cases a <;> cases b <;> decide +kernel
theorem kyes {a : Kd} {x : Str} {A B : Prop} (hx : x = a.str) (h : A) : if decide (V.str a.str = V.str x) = true then A else B := by
  subst hx
  rw [kd_str, decide_eq_true rfl]
  exact h
theorem kno {a b : Kd} {x : Str} {A B : Prop} (hx : x = b.str) (hab : a ≠ b) (h : B) : if decide (V.str a.str = V.str x) = true then A else B := by
  subst hx
  rw [kd_str, decide_eq_false hab]
  exact h
def AgV (H : Hp) : Ag → V → Prop
  | .n x, v => v = .int x
  | .l xs, v => ∃ a, v = .ref a ∧ IL H a xs ∧ xs.length ≤ 17000
theorem AgV.same {H H' : Hp} {g : Ag} {v : V} (h : AgV H g v) (s : Same H H') : AgV H' g v := by
  cases g with
  | n x => exact h
  | l xs =>
    obtain ⟨a, h1, h2, h3⟩ := h
    exact ⟨a, h1, s.il h2, h3⟩
abbrev sRight : Stmt := stm 30
abbrev sAsg : Stmt := stm 31
def spNo : Sp := fun _ _ _ _ => False
def spRight (C : Addr) (b : Bool) : Sp := fun vs H Q _ => ∃ (t : Addr) (s : Vbsgag.State) (d : Tb) (k : Kd) (g : Ag) (v : V), vs = [.ref t, .str k.str, v] ∧ TabAt C H t s d ∧ AgV H g v ∧ fitsK k g = true ∧ (b = false → k.isL = false) ∧ ∀ H' : Hp, Same H H' → Q (.bl (rightK s k g)) H'
def spAsg (C : Addr) : Sp := fun vs H Q _ => ∃ (t a : Addr) (l : List Int) (s : Vbsgag.State) (d : Tb), vs = [.ref t, .ref a] ∧ IL H a l ∧ l.length ≤ 50000 ∧ TabAt C H t s d ∧ ∀ H' : Hp, Same H H' → Q (.bl (asgOk s l)) H'
theorem chain_ret {tb tc : TE} {σ : L2.St} {H : Hp} {lo hi x : Int} {Q : VK} (hb : ∀ Q' : VK, Q' (.int x) H → tb σ H Q') (hc : ∀ Q' : VK, Q' (.int hi) H → tc σ H Q') (h : Q (.bl (decide (lo ≤ x) && decide (x ≤ hi))) H) :
    tChain (rI0 fun i j => .bl (decide (i ≤ j))) (rI0 fun i j => .bl (decide (i ≤ j))) (tC (.int lo)) tb tc σ H Q := by
  refine hb _ ⟨lo, x, rfl, rfl, _, rfl, ?_⟩
  cases e : decide (lo ≤ x) with
  | true =>
    rw [e, Bool.true_and] at h
    exact iteT (hc _ ⟨x, hi, rfl, rfl, h⟩)
  | false =>
    rw [e, Bool.false_and] at h
    exact iteF h
section
variable {P : Program} {w : World} {K : PySem.W.Frag} {mg : Str → Option Value} {base : Heap}
structure RInts (mg : Str → Option Value) : Prop where
  mp : GInt mg "MOST_PLAYERS" 5
  mf : GInt mg "MOST_FIRMS" 6
  mm : GInt mg "MOST_MONEY" 1000000000
  mr : GInt mg "MOST_ROUNDS" 1000
theorem scRight : FnScope ["table", "kind", "argument", "v"] ["table", "kind", "argument"] (defScope sRight) := ⟨rfl, rfl, rfl, by decide +kernel, rfl, by decide +kernel, by decide +kernel⟩
theorem ok_rightNo {f : Addr} {fd : FuncData} (F : Fun K "is_right" "is_right" sRight f fd) : FnOk P w K mg base CX0 1 f fd ["table", "kind", "argument"] spNo := by
  refine F.ok scRight (fun vs H Q E h => h.elim) (fun cdv A outer s H vs Q E hr h => h.elim)
theorem scAsg : FnScope ["table", "some", "got", "i", "known"] ["table", "some"] (defScope sAsg) := ⟨rfl, rfl, rfl, by decide +kernel, rfl, by decide +kernel, by decide +kernel⟩
theorem ok_asgNo {f : Addr} {fd : FuncData} (F : Fun K "is_assignment" "is_assignment" sAsg f fd) : FnOk P w K mg base CX0 1 f fd ["table", "some"] spNo := by
  refine F.ok scAsg (fun vs H Q E h => h.elim) (fun cdv A outer s H vs Q E hr h => h.elim)

theorem ok_right1 {f C fA : Addr} {fd fdA : FuncData} (D : Df K mg "is_right" sRight ["table", "kind", "argument"] f fd) (B : Blt mg) (T : TTx K C) (R : RInts mg) (DA : Df K mg "is_assignment" sAsg ["table", "some"] fA fdA) : FnOk P w K mg base CX0 2 f fd ["table", "kind", "argument"] (spRight C false) := by
  refine D.fn.ok scRight (fun vs H Q E h => ?_) (fun cdv A outer s H vs Q E hr h => ?_)
  · obtain ⟨t, st, d, k, g, v, rfl, _⟩ := h
    rfl
  · obtain ⟨t, st, d, k, g, v, rfl, TA, hg, hf, hb, q⟩ := h
    have GI : FnOk P w K mg base CX0 1 f fd ["table", "kind", "argument"] spNo := ok_rightNo D.fn
    have GA : FnOk P w K mg base CX0 1 fA fdA ["table", "some"] spNo := ok_asgNo DA.fn
    refine ⟨_, pss_cons (ps_if (pt_cmpR op_eq (pv 1) pe_str (nomark _)) (pss_one (ps_ret (pe_chain op_le op_le pe_int (pv 2) (pe_gint rfl R.mp)))) pss_nil)
      (pss_cons (ps_if (pt_cmpR op_eq (pv 1) pe_str (nomark _)) (pss_one (ps_ret (pe_chain op_le op_le pe_int (pv 2) (pe_gint rfl R.mf)))) pss_nil)
      (pss_cons (ps_if (pt_cmpR op_eq (pv 1) pe_str (nomark _)) (pss_one (ps_ret (pe_chain op_le op_le pe_int (pv 2) (pe_gint rfl R.mr)))) pss_nil)
      (pss_cons (ps_if (pt_cmpR op_eq (pv 1) pe_str (nomark _)) (pss_one (ps_ret (pe_chain op_le op_le pe_int (pv 2) (pe_callB call_len_seq rfl B.len bt_len (pa_cons (pe_fld (pv 0) rfl) pa_nil))))) pss_nil)
      (pss_cons (ps_if (pt_cmpR op_eq (pv 1) pe_str (nomark _)) (pss_one (ps_ret (pe_chain op_le op_le pe_int (pv 2) (pe_callB call_len_seq rfl B.len bt_len (pa_cons (pe_fld (pv 0) rfl) pa_nil))))) pss_nil)
      (pss_cons (ps_if (pt_cmpR op_eq (pv 1) pe_str (nomark _)) (pss_one (ps_ret (pe_chain op_le op_le pe_int (pv 2) (pe_gint rfl R.mm)))) pss_nil)
      (pss_cons (ps_if (pt_cmpR op_eq (pv 1) pe_str (nomark _)) (pss_one (ps_ret (pe_and (pe_cmpR op_eq (pe_callB call_len_seq rfl B.len bt_len (pa_cons (pv 2) pa_nil)) (pe_callB call_len_seq rfl B.len bt_len (pa_cons (pe_fld (pv 0) rfl) pa_nil)) (nomark _))
          (pe_one (pe_callB (cr_all rfl) rfl B.all bt_all (pa_cons (pe_lc rfl scRight.nd (pi_list (pv 2)) (blkOk_by (own := [("v", 3)]) rfl) (fun _ _ _ _ _ => pg_name (i := 3) scRight.nd rfl (Or.inl rfl) (Or.inr rfl)) (fun _ _ _ _ _ => pts_nil)
            (fun _ _ _ _ _ => pe_call GI (hr.mono (by decide)) rfl D.mg D.fn.kp D.b .nil pass0 (pa_cons (pv 0) (pa_cons pe_str (pa_cons (pv 3) pa_nil))))) pa_nil)))))) pss_nil)
      (pss_one (ps_ret (pe_call GA (hr.mono (by decide)) rfl DA.mg DA.fn.kp DA.b .nil pass0 (pa_cons (pv 0) (pa_cons (pv 2) pa_nil))))))))))), ?_⟩
    have q0 := q H (Same.refl H)
    cases k with
    | players =>
      cases g with
      | l xs => cases hf
      | n x =>
        cases (show v = .int x from hg)
        refine ⟨_, rfl, rfl, _, rfl, ?_⟩
        refine kyes (a := .players) rfl ?_
        exact chain_ret (x := x) (hi := 5) (fun Q' z => ⟨_, rfl, z⟩) (fun Q' z => z) q0
    | firms =>
      cases g with
      | l xs => cases hf
      | n x =>
        cases (show v = .int x from hg)
        refine ⟨_, rfl, rfl, _, rfl, ?_⟩
        refine kno (a := .firms) (b := .players) rfl (by decide) ?_
        refine ⟨_, rfl, rfl, _, rfl, ?_⟩
        refine kyes (a := .firms) rfl ?_
        exact chain_ret (x := x) (hi := 6) (fun Q' z => ⟨_, rfl, z⟩) (fun Q' z => z) q0
    | rounds =>
      cases g with
      | l xs => cases hf
      | n x =>
        cases (show v = .int x from hg)
        refine ⟨_, rfl, rfl, _, rfl, ?_⟩
        refine kno (a := .rounds) (b := .players) rfl (by decide) ?_
        refine ⟨_, rfl, rfl, _, rfl, ?_⟩
        refine kno (a := .rounds) (b := .firms) rfl (by decide) ?_
        refine ⟨_, rfl, rfl, _, rfl, ?_⟩
        refine kyes (a := .rounds) rfl ?_
        exact chain_ret (x := x) (hi := 1000) (fun Q' z => ⟨_, rfl, z⟩) (fun Q' z => z) q0
    | player =>
      cases g with
      | l xs => cases hf
      | n x =>
        cases (show v = .int x from hg)
        refine ⟨_, rfl, rfl, _, rfl, ?_⟩
        refine kno (a := .player) (b := .players) rfl (by decide) ?_
        refine ⟨_, rfl, rfl, _, rfl, ?_⟩
        refine kno (a := .player) (b := .firms) rfl (by decide) ?_
        refine ⟨_, rfl, rfl, _, rfl, ?_⟩
        refine kno (a := .player) (b := .rounds) rfl (by decide) ?_
        refine ⟨_, rfl, rfl, _, rfl, ?_⟩
        refine kyes (a := .player) rfl ?_
        have e : Vbsgag.isPlayer st x = (decide (1 ≤ x) && decide (x ≤ (st.n : Int))) := rfl
        have q1 : Q (.bl (Vbsgag.isPlayer st x)) H := q0
        rw [e, ← TA.hl, ← List.length_map (f := V.ref)] at q1
        exact chain_ret (x := x) (fun Q' z => ⟨_, rfl, z⟩) (fun Q' z => ⟨_, rfl, t, C, d.dx, _, _, rfl, TA.ob, T.cl, T.nW, tf_worths _ _ _, d.ws, _, rfl, .inl (SqL.of TA.hw), z⟩) q1
    | firm =>
      cases g with
      | l xs => cases hf
      | n x =>
        cases (show v = .int x from hg)
        refine ⟨_, rfl, rfl, _, rfl, ?_⟩
        refine kno (a := .firm) (b := .players) rfl (by decide) ?_
        refine ⟨_, rfl, rfl, _, rfl, ?_⟩
        refine kno (a := .firm) (b := .firms) rfl (by decide) ?_
        refine ⟨_, rfl, rfl, _, rfl, ?_⟩
        refine kno (a := .firm) (b := .rounds) rfl (by decide) ?_
        refine ⟨_, rfl, rfl, _, rfl, ?_⟩
        refine kno (a := .firm) (b := .player) rfl (by decide) ?_
        refine ⟨_, rfl, rfl, _, rfl, ?_⟩
        refine kyes (a := .firm) rfl ?_
        have e : Vbsgag.isFirm st x = (decide (1 ≤ x) && decide (x ≤ (st.m : Int))) := rfl
        have q1 : Q (.bl (Vbsgag.isFirm st x)) H := q0
        rw [e, ← TA.wf.lb, ← ints_length, ← List.length_map (f := V.int)] at q1
        exact chain_ret (x := x) (fun Q' z => ⟨_, rfl, z⟩) (fun Q' z => ⟨_, rfl, t, C, d.dx, _, _, rfl, TA.ob, T.cl, T.nB, tf_bases _ _ _, d.b, _, rfl, .inl (SqL.of TA.hb), z⟩) q1
    | amount =>
      cases g with
      | l xs => cases hf
      | n x =>
        cases (show v = .int x from hg)
        refine ⟨_, rfl, rfl, _, rfl, ?_⟩
        refine kno (a := .amount) (b := .players) rfl (by decide) ?_
        refine ⟨_, rfl, rfl, _, rfl, ?_⟩
        refine kno (a := .amount) (b := .firms) rfl (by decide) ?_
        refine ⟨_, rfl, rfl, _, rfl, ?_⟩
        refine kno (a := .amount) (b := .rounds) rfl (by decide) ?_
        refine ⟨_, rfl, rfl, _, rfl, ?_⟩
        refine kno (a := .amount) (b := .player) rfl (by decide) ?_
        refine ⟨_, rfl, rfl, _, rfl, ?_⟩
        refine kno (a := .amount) (b := .firm) rfl (by decide) ?_
        refine ⟨_, rfl, rfl, _, rfl, ?_⟩
        refine kyes (a := .amount) rfl ?_
        exact chain_ret (x := x) (hi := 1000000000) (fun Q' z => ⟨_, rfl, z⟩) (fun Q' z => z) q0
    | amounts =>
      exact absurd (hb rfl) (by decide)
    | asg =>
      exact absurd (hb rfl) (by decide)
theorem ok_asg {f C fR : Addr} {fd fdR : FuncData} (F : Fun K "is_assignment" "is_assignment" sAsg f fd) (B : Blt mg) (T : TTx K C) (DR : Df K mg "is_right" sRight ["table", "kind", "argument"] fR fdR) (GR : FnOk P w K mg base CX0 2 fR fdR ["table", "kind", "argument"] (spRight C false)) : FnOk P w K mg base CX0 3 f fd ["table", "some"] (spAsg C) := by
  refine F.ok scAsg (fun vs H Q E h => ?_) (fun cdv A outer s H vs Q E hr h => ?_)
  · obtain ⟨t, a, l, st, d, rfl, _⟩ := h
    rfl
  · obtain ⟨t, a, l, st, d, rfl, ha, hz, TA, k⟩ := h
    refine ⟨_, pss_cons (ps_setLc (i := 2) rfl scAsg.nd rfl rfl (sw_true rfl rfl rfl rfl) (pi_list (pv 1)) (blkOk_by (own := [("i", 3)]) rfl) (fun _ _ _ _ _ => pg_name (i := 3) scAsg.nd rfl (Or.inl rfl) (Or.inr rfl)) (fun _ _ _ _ _ => pts_one (pt_cmpR op_ne (pv 3) pe_int (nomark _))) (fun _ _ _ _ _ => pv 3))
      (pss_cons (ps_set (i := 4) scAsg.nd rfl (Or.inl rfl) (pe_callB (cr_all rfl) rfl B.all bt_all (pa_cons (pe_lc rfl scAsg.nd (pi_list (pv 2)) (blkOk_by (own := [("i", 3)]) rfl) (fun _ _ _ _ _ => pg_name (i := 3) scAsg.nd rfl (Or.inl rfl) (Or.inr rfl)) (fun _ _ _ _ _ => pts_nil)
          (fun _ _ _ _ _ => pe_call GR (hr.mono (by decide)) rfl DR.mg DR.fn.kp DR.b .nil pass0 (pa_cons (pv 0) (pa_cons pe_str (pa_cons (pv 3) pa_nil))))) pa_nil)))
      (pss_one (ps_ret (pe_and (pe_cmpR op_eq (pe_callB call_len_seq rfl B.len bt_len (pa_cons (pv 1) pa_nil)) (pe_callB call_len_seq rfl B.len bt_len (pa_cons (pe_fld (pv 0) rfl) pa_nil)) (nomark _))
        (pe_and (pv 4) (pe_one (pe_cmpR op_eq (pe_callB call_lenS rfl B.len bt_len (pa_cons (pe_callTy (cr_set rfl) rfl B.set bt_set (pa_cons (pv 2) pa_nil)) pa_nil)) (pe_callB call_len_seq rfl B.len bt_len (pa_cons (pv 2) pa_nil)) (nomark _)))))))), ?_⟩
    refine ⟨_, rfl, a, rfl, ⟨_, SqL.of ha⟩, fun D hD => ?_⟩
    refine lc_list (K := K) (a := a) (xs := l.map V.int) (fun i H' => Same H H' ∧ IL H' D (got (l.take i))) ⟨same_new hD, upd_same⟩ (fun i H' _ p => p.1.seq (SqL.of ha)) ?_ ?_
    · rintro i x H' hx ⟨s1, hD1⟩
      obtain ⟨v, hv, rfl⟩ := int_at hx
      have es := got_snoc (l.take i) v
      rw [← take_snoc hv] at es
      refine ⟨rfl, _, rfl, rfl, _, rfl, ?_⟩
      by_cases e0 : v = 0
      · have ez : (!decide (V.int v = V.int 0)) = false := by
          rw [e0]
          rfl
        rw [ez]
        rw [if_pos e0, List.append_nil] at es
        exact iteF ⟨s1, by rw [es]; exact hD1⟩
      · have ez : (!decide (V.int v = V.int 0)) = true := by
          rw [decide_eq_false fun e => e0 (V.int.inj e)]
          rfl
        rw [ez]
        rw [if_neg e0] at es
        refine iteT ⟨_, rfl, _, hD1, ?_, Same.put s1 hD, ?_⟩
        · have h1 := got_len (l.take i)
          rw [List.length_take] at h1
          rw [List.length_map]
          exact small (by omega)
        · rw [IL, upd_same, es, List.map_append]
          rfl
    · rintro H1 ⟨s1, hD1⟩
      rw [List.length_map, List.take_of_length_le (Nat.le_refl _)] at hD1
      have hgl := got_len l
      refine ⟨_, rfl, D, rfl, ⟨_, SqL.of hD1⟩, fun E1 hE => ?_⟩
      refine lc_list (K := K) (a := D) (xs := (got l).map V.int) (fun i H' => Same H1 H' ∧ H' E1 = some (.lst ((((got l).map (Vbsgag.isFirm st)).take i).map V.bl))) ⟨same_new hE, upd_same⟩ (fun i H' _ p => p.1.seq (SqL.of hD1)) ?_ ?_
      · rintro i x H' hx ⟨s2, hE1⟩
        obtain ⟨v, hv, rfl⟩ := int_at hx
        have T1 := (TA.same s1).same s2
        have ev : ((got l).map (Vbsgag.isFirm st))[i]? = some (Vbsgag.isFirm st v) := by
          rw [List.getElem?_map, hv]
          rfl
        refine ⟨rfl, tyes ?_⟩
        refine ⟨_, rfl, _, rfl, t, st, d, .firm, .n v, .int v, rfl, T1, rfl, rfl, fun _ => rfl, fun H3 s3 => ⟨_, s3 _ _ hE1, ?_, Same.put (s2.trans s3) hE, ?_⟩⟩
        · have hi : i < (got l).length := (List.getElem?_eq_some_iff.mp hv).1
          rw [List.length_map, List.length_take]
          exact small (by omega)
        · rw [upd_same, take_snoc ev, List.map_append]
          rfl
      · rintro H2 ⟨s2, hE1⟩
        rw [List.length_map, List.take_of_length_le (by rw [List.length_map]; exact Nat.le_refl _)] at hE1
        refine ⟨E1, _, rfl, SqL.of hE1, ?_⟩
        rw [all_id]
        have TA2 := TA.same (s1.trans s2)
        refine ⟨_, rfl, a, _, rfl, .inl (SqL.of ((s1.trans s2).il ha)), _, rfl, t, C, d.dx, _, _, rfl, TA2.ob, T.cl, T.nW, tf_worths _ _ _, d.ws, _, rfl, .inl (SqL.of TA2.hw), rfl, _, rfl, ?_⟩
        have e : decide (V.int (((l.map V.int).length : Nat) : Int) = V.int (((d.rs.map V.ref).length : Nat) : Int)) = decide (l.length = st.n) := by
          rw [List.length_map, List.length_map, TA.hl]
          by_cases h : l.length = st.n
          · rw [decide_eq_true h, decide_eq_true (by rw [h])]
          · rw [decide_eq_false h, decide_eq_false fun z => h (by have := V.int.inj z; omega)]
        rw [e]
        unfold asgOk at k
        cases hd : decide (l.length = st.n) with
        | false =>
          have q := k H2 (s1.trans s2)
          rw [hd, Bool.false_and] at q
          exact iteF q
        | true =>
          refine iteT ⟨_, rfl, _, rfl, ?_⟩
          rw [hd] at k
          simp only [Bool.true_and] at k
          cases ha2 : (got l).all (Vbsgag.isFirm st) with
          | false =>
            have q := k H2 (s1.trans s2)
            rw [ha2, Bool.false_and] at q
            exact iteF q
          | true =>
            have hsb : (got l).length + 1 < scanBound := by
              have h1 : l.length = st.n := of_decide_eq_true hd
              have h2 := TA.wf.n5
              show (got l).length + 1 < 4096
              omega
            refine iteT ⟨_, rfl, D, got l, rfl, SqL.of (s2.il hD1), hsb, fun p S hp => ?_⟩
            have s3 : Same H2 (upd H2 p (.set S (firstMet (fun i => (got l).getD i 0) (got l).length).length)) := same_new hp
            refine ⟨p, S, _, rfl, upd_same, _, rfl, D, _, rfl, .inl (SqL.of (s3.il (s2.il hD1))), rfl, ?_⟩
            have q := k _ ((s1.trans s2).trans s3)
            rw [ha2, Bool.true_and, ← met_nodup, ← List.length_map (f := V.int) (as := got l)] at q
            simp only [List.length_map] at q ⊢
            exact q

theorem ok_right {f C fA : Addr} {fd fdA : FuncData} (D : Df K mg "is_right" sRight ["table", "kind", "argument"] f fd) (B : Blt mg) (T : TTx K C) (R : RInts mg) (DA : Df K mg "is_assignment" sAsg ["table", "some"] fA fdA) : FnOk P w K mg base CX0 4 f fd ["table", "kind", "argument"] (spRight C true) := by
  refine D.fn.ok scRight (fun vs H Q E h => ?_) (fun cdv A outer s H vs Q E hr h => ?_)
  · obtain ⟨t, st, d, k, g, v, rfl, _⟩ := h
    rfl
  · obtain ⟨t, st, d, k, g, v, rfl, TA, hg, hf, hb, q⟩ := h
    have GI : FnOk P w K mg base CX0 2 f fd ["table", "kind", "argument"] (spRight C false) := ok_right1 D B T R DA
    have GA : FnOk P w K mg base CX0 3 fA fdA ["table", "some"] (spAsg C) := ok_asg DA.fn B T D GI
    refine ⟨_, pss_cons (ps_if (pt_cmpR op_eq (pv 1) pe_str (nomark _)) (pss_one (ps_ret (pe_chain op_le op_le pe_int (pv 2) (pe_gint rfl R.mp)))) pss_nil)
      (pss_cons (ps_if (pt_cmpR op_eq (pv 1) pe_str (nomark _)) (pss_one (ps_ret (pe_chain op_le op_le pe_int (pv 2) (pe_gint rfl R.mf)))) pss_nil)
      (pss_cons (ps_if (pt_cmpR op_eq (pv 1) pe_str (nomark _)) (pss_one (ps_ret (pe_chain op_le op_le pe_int (pv 2) (pe_gint rfl R.mr)))) pss_nil)
      (pss_cons (ps_if (pt_cmpR op_eq (pv 1) pe_str (nomark _)) (pss_one (ps_ret (pe_chain op_le op_le pe_int (pv 2) (pe_callB call_len_seq rfl B.len bt_len (pa_cons (pe_fld (pv 0) rfl) pa_nil))))) pss_nil)
      (pss_cons (ps_if (pt_cmpR op_eq (pv 1) pe_str (nomark _)) (pss_one (ps_ret (pe_chain op_le op_le pe_int (pv 2) (pe_callB call_len_seq rfl B.len bt_len (pa_cons (pe_fld (pv 0) rfl) pa_nil))))) pss_nil)
      (pss_cons (ps_if (pt_cmpR op_eq (pv 1) pe_str (nomark _)) (pss_one (ps_ret (pe_chain op_le op_le pe_int (pv 2) (pe_gint rfl R.mm)))) pss_nil)
      (pss_cons (ps_if (pt_cmpR op_eq (pv 1) pe_str (nomark _)) (pss_one (ps_ret (pe_and (pe_cmpR op_eq (pe_callB call_len_seq rfl B.len bt_len (pa_cons (pv 2) pa_nil)) (pe_callB call_len_seq rfl B.len bt_len (pa_cons (pe_fld (pv 0) rfl) pa_nil)) (nomark _))
          (pe_one (pe_callB (cr_all rfl) rfl B.all bt_all (pa_cons (pe_lc rfl scRight.nd (pi_list (pv 2)) (blkOk_by (own := [("v", 3)]) rfl) (fun _ _ _ _ _ => pg_name (i := 3) scRight.nd rfl (Or.inl rfl) (Or.inr rfl)) (fun _ _ _ _ _ => pts_nil)
            (fun _ _ _ _ _ => pe_call GI (hr.mono (by decide)) rfl D.mg D.fn.kp D.b .nil pass0 (pa_cons (pv 0) (pa_cons pe_str (pa_cons (pv 3) pa_nil))))) pa_nil)))))) pss_nil)
      (pss_one (ps_ret (pe_call GA (hr.mono (by decide)) rfl DA.mg DA.fn.kp DA.b .nil pass0 (pa_cons (pv 0) (pa_cons (pv 2) pa_nil))))))))))), ?_⟩
    have q0 := q H (Same.refl H)
    cases k with
    | players =>
      cases g with
      | l xs => cases hf
      | n x =>
        cases (show v = .int x from hg)
        refine ⟨_, rfl, rfl, _, rfl, ?_⟩
        refine kyes (a := .players) rfl ?_
        exact chain_ret (x := x) (hi := 5) (fun Q' z => ⟨_, rfl, z⟩) (fun Q' z => z) q0
    | firms =>
      cases g with
      | l xs => cases hf
      | n x =>
        cases (show v = .int x from hg)
        refine ⟨_, rfl, rfl, _, rfl, ?_⟩
        refine kno (a := .firms) (b := .players) rfl (by decide) ?_
        refine ⟨_, rfl, rfl, _, rfl, ?_⟩
        refine kyes (a := .firms) rfl ?_
        exact chain_ret (x := x) (hi := 6) (fun Q' z => ⟨_, rfl, z⟩) (fun Q' z => z) q0
    | rounds =>
      cases g with
      | l xs => cases hf
      | n x =>
        cases (show v = .int x from hg)
        refine ⟨_, rfl, rfl, _, rfl, ?_⟩
        refine kno (a := .rounds) (b := .players) rfl (by decide) ?_
        refine ⟨_, rfl, rfl, _, rfl, ?_⟩
        refine kno (a := .rounds) (b := .firms) rfl (by decide) ?_
        refine ⟨_, rfl, rfl, _, rfl, ?_⟩
        refine kyes (a := .rounds) rfl ?_
        exact chain_ret (x := x) (hi := 1000) (fun Q' z => ⟨_, rfl, z⟩) (fun Q' z => z) q0
    | player =>
      cases g with
      | l xs => cases hf
      | n x =>
        cases (show v = .int x from hg)
        refine ⟨_, rfl, rfl, _, rfl, ?_⟩
        refine kno (a := .player) (b := .players) rfl (by decide) ?_
        refine ⟨_, rfl, rfl, _, rfl, ?_⟩
        refine kno (a := .player) (b := .firms) rfl (by decide) ?_
        refine ⟨_, rfl, rfl, _, rfl, ?_⟩
        refine kno (a := .player) (b := .rounds) rfl (by decide) ?_
        refine ⟨_, rfl, rfl, _, rfl, ?_⟩
        refine kyes (a := .player) rfl ?_
        have e : Vbsgag.isPlayer st x = (decide (1 ≤ x) && decide (x ≤ (st.n : Int))) := rfl
        have q1 : Q (.bl (Vbsgag.isPlayer st x)) H := q0
        rw [e, ← TA.hl, ← List.length_map (f := V.ref)] at q1
        exact chain_ret (x := x) (fun Q' z => ⟨_, rfl, z⟩) (fun Q' z => ⟨_, rfl, t, C, d.dx, _, _, rfl, TA.ob, T.cl, T.nW, tf_worths _ _ _, d.ws, _, rfl, .inl (SqL.of TA.hw), z⟩) q1
    | firm =>
      cases g with
      | l xs => cases hf
      | n x =>
        cases (show v = .int x from hg)
        refine ⟨_, rfl, rfl, _, rfl, ?_⟩
        refine kno (a := .firm) (b := .players) rfl (by decide) ?_
        refine ⟨_, rfl, rfl, _, rfl, ?_⟩
        refine kno (a := .firm) (b := .firms) rfl (by decide) ?_
        refine ⟨_, rfl, rfl, _, rfl, ?_⟩
        refine kno (a := .firm) (b := .rounds) rfl (by decide) ?_
        refine ⟨_, rfl, rfl, _, rfl, ?_⟩
        refine kno (a := .firm) (b := .player) rfl (by decide) ?_
        refine ⟨_, rfl, rfl, _, rfl, ?_⟩
        refine kyes (a := .firm) rfl ?_
        have e : Vbsgag.isFirm st x = (decide (1 ≤ x) && decide (x ≤ (st.m : Int))) := rfl
        have q1 : Q (.bl (Vbsgag.isFirm st x)) H := q0
        rw [e, ← TA.wf.lb, ← ints_length, ← List.length_map (f := V.int)] at q1
        exact chain_ret (x := x) (fun Q' z => ⟨_, rfl, z⟩) (fun Q' z => ⟨_, rfl, t, C, d.dx, _, _, rfl, TA.ob, T.cl, T.nB, tf_bases _ _ _, d.b, _, rfl, .inl (SqL.of TA.hb), z⟩) q1
    | amount =>
      cases g with
      | l xs => cases hf
      | n x =>
        cases (show v = .int x from hg)
        refine ⟨_, rfl, rfl, _, rfl, ?_⟩
        refine kno (a := .amount) (b := .players) rfl (by decide) ?_
        refine ⟨_, rfl, rfl, _, rfl, ?_⟩
        refine kno (a := .amount) (b := .firms) rfl (by decide) ?_
        refine ⟨_, rfl, rfl, _, rfl, ?_⟩
        refine kno (a := .amount) (b := .rounds) rfl (by decide) ?_
        refine ⟨_, rfl, rfl, _, rfl, ?_⟩
        refine kno (a := .amount) (b := .player) rfl (by decide) ?_
        refine ⟨_, rfl, rfl, _, rfl, ?_⟩
        refine kno (a := .amount) (b := .firm) rfl (by decide) ?_
        refine ⟨_, rfl, rfl, _, rfl, ?_⟩
        refine kyes (a := .amount) rfl ?_
        exact chain_ret (x := x) (hi := 1000000000) (fun Q' z => ⟨_, rfl, z⟩) (fun Q' z => z) q0
    | amounts =>
      cases g with
      | n x => cases hf
      | l xs =>
        obtain ⟨a, rfl, ha, hz⟩ := hg
        refine ⟨_, rfl, rfl, _, rfl, ?_⟩
        refine kno (a := .amounts) (b := .players) rfl (by decide) ?_
        refine ⟨_, rfl, rfl, _, rfl, ?_⟩
        refine kno (a := .amounts) (b := .firms) rfl (by decide) ?_
        refine ⟨_, rfl, rfl, _, rfl, ?_⟩
        refine kno (a := .amounts) (b := .rounds) rfl (by decide) ?_
        refine ⟨_, rfl, rfl, _, rfl, ?_⟩
        refine kno (a := .amounts) (b := .player) rfl (by decide) ?_
        refine ⟨_, rfl, rfl, _, rfl, ?_⟩
        refine kno (a := .amounts) (b := .firm) rfl (by decide) ?_
        refine ⟨_, rfl, rfl, _, rfl, ?_⟩
        refine kno (a := .amounts) (b := .amount) rfl (by decide) ?_
        refine ⟨_, rfl, rfl, _, rfl, ?_⟩
        refine kyes (a := .amounts) rfl ?_
        refine ⟨_, rfl, a, _, rfl, .inl (SqL.of ha), _, rfl, t, C, d.dx, _, _, rfl, TA.ob, T.cl, T.nB, tf_bases _ _ _, d.b, _, rfl, .inl (SqL.of TA.hb), rfl, _, rfl, ?_⟩
        have em : decide (V.int (((xs.map V.int).length : Nat) : Int) = V.int ((((Vbsgag.ints st.bases).map V.int).length : Nat) : Int)) = decide (xs.length = st.m) := by
          rw [List.length_map, List.length_map, ints_length, TA.wf.lb]
          by_cases h : xs.length = st.m
          · rw [decide_eq_true h, decide_eq_true (by rw [h])]
          · rw [decide_eq_false h, decide_eq_false fun z => h (by have := V.int.inj z; omega)]
        rw [em]
        have eq : rightK st .amounts (.l xs) = (decide (xs.length = st.m) && xs.all Vbsgag.isMoney) := rfl
        rw [eq] at q
        cases hd : decide (xs.length = st.m) with
        | false =>
          have q1 := q H (Same.refl H)
          rw [hd, Bool.false_and] at q1
          exact iteF q1
        | true =>
          refine iteT ⟨_, rfl, a, rfl, ⟨_, SqL.of ha⟩, fun D1 hD => ?_⟩
          refine lc_list (K := K) (a := a) (xs := xs.map V.int) (fun i H' => Same H H' ∧ H' D1 = some (.lst (((xs.map Vbsgag.isMoney).take i).map V.bl))) ⟨same_new hD, upd_same⟩ (fun i H' _ p => p.1.seq (SqL.of ha)) ?_ ?_
          · rintro i x H' hx ⟨s1, hD1⟩
            obtain ⟨y, hy, rfl⟩ := int_at hx
            have ev : (xs.map Vbsgag.isMoney)[i]? = some (Vbsgag.isMoney y) := by
              rw [List.getElem?_map, hy]
              rfl
            refine ⟨rfl, tyes ?_⟩
            refine ⟨_, rfl, _, rfl, t, st, d, .amount, .n y, .int y, rfl, TA.same s1, rfl, rfl, fun _ => rfl, fun H3 s3 => ⟨_, s3 _ _ hD1, ?_, Same.put (s1.trans s3) hD, ?_⟩⟩
            · have hi : i < xs.length := (List.getElem?_eq_some_iff.mp hy).1
              rw [List.length_map, List.length_take]
              exact small (by omega)
            · rw [upd_same, take_snoc ev, List.map_append]
              rfl
          · rintro H' ⟨s1, hD1⟩
            rw [List.length_map, List.take_of_length_le (by rw [List.length_map]; exact Nat.le_refl _)] at hD1
            refine ⟨D1, _, rfl, SqL.of hD1, ?_⟩
            have q1 := q H' s1
            rw [hd, Bool.true_and, ← all_id] at q1
            exact q1
    | asg =>
      cases g with
      | n x => cases hf
      | l xs =>
        obtain ⟨a, rfl, ha, hz⟩ := hg
        refine ⟨_, rfl, rfl, _, rfl, ?_⟩
        refine kno (a := .asg) (b := .players) rfl (by decide) ?_
        refine ⟨_, rfl, rfl, _, rfl, ?_⟩
        refine kno (a := .asg) (b := .firms) rfl (by decide) ?_
        refine ⟨_, rfl, rfl, _, rfl, ?_⟩
        refine kno (a := .asg) (b := .rounds) rfl (by decide) ?_
        refine ⟨_, rfl, rfl, _, rfl, ?_⟩
        refine kno (a := .asg) (b := .player) rfl (by decide) ?_
        refine ⟨_, rfl, rfl, _, rfl, ?_⟩
        refine kno (a := .asg) (b := .firm) rfl (by decide) ?_
        refine ⟨_, rfl, rfl, _, rfl, ?_⟩
        refine kno (a := .asg) (b := .amount) rfl (by decide) ?_
        refine ⟨_, rfl, rfl, _, rfl, ?_⟩
        refine kno (a := .asg) (b := .amounts) rfl (by decide) ?_
        exact ⟨_, rfl, _, rfl, t, a, xs, st, d, rfl, ha, by omega, TA, q⟩
end
end TW

end

section
set_option Elab.async false
set_option linter.all false
set_option maxRecDepth 100000
set_option maxHeartbeats 2000000
namespace TW
open PySem PySem.Spec PyProof.Rows L2
structure Prg (K : PySem.W.Frag) (mg : Str → Option Value) where
  CT : Addr
  T : TTx K CT
  B : Blt mg
  R : RInts mg
  oor : GInt mg "OUT_OF_RANGE" (-2)
  aTI : Addr
  gTI : FuncData
  mTI : Fun K "__init__" "Table.__init__" sTabInit aTI gTI
  bTI : Binds K gTI ["self", "players", "firms"] []
  kTI : Mk K CT aTI
  mgT : mg "Table" = some (.ref CT)
  aLay : Addr
  gLay : FuncData
  mLay : Md K CT "lay" "Table.lay" sLay ["self", "players", "firms"] aLay gLay
  aBack : Addr
  gBack : FuncData
  mBack : Md K CT "set_clock_back" "Table.set_clock_back" sBack ["self"] aBack gBack
  aWins : Addr
  gWins : FuncData
  mWins : Md K CT "wins" "Table.wins" sWins ["self"] aWins gWins
  aGat : Addr
  gGat : FuncData
  dGat : Df K mg "gains_at" sGat ["worths", "prices"] aGat gGat
  aRep : Addr
  gRep : FuncData
  dRep : Df K mg "replaced" sRep ["some", "p", "new"] aRep gRep
  aGw : Addr
  gGw : FuncData
  dGw : Df K mg "greatest_with" sGw ["row", "behind"] aGw gGw
  aGbl : Addr
  gGbl : FuncData
  dGbl : Df K mg "greatest_by_last" sGbl ["wins"] aGbl gGbl
  aGt : Addr
  gGt : FuncData
  dGt : Df K mg "greatest_total" sGt ["wins"] aGt gGt
  aWn : Addr
  gWn : FuncData
  dWn : Df K mg "with_next" sWn ["begun", "row", "greatest", "behind"] aWn gWn
  aBas : Addr
  gBas : FuncData
  dBas : Df K mg "best_assignments" sBas ["wins"] aBas gBas
  aWon : Addr
  gWon : FuncData
  dWon : Df K mg "won_by" sWon ["assignment", "wins"] aWon gWon
  aTw : Addr
  gTw : FuncData
  dTw : Df K mg "total_without" sTw ["wins", "p"] aTw gTw
  aAgain : Addr
  gAgain : FuncData
  dAgain : Df K mg "with_firm_again" sAgain ["wins", "i"] aAgain gAgain
  aLeast : Addr
  gLeast : FuncData
  dLeast : Df K mg "least_prices" sLeast ["bases", "wins"] aLeast gLeast
  aGreat : Addr
  gGreat : FuncData
  dGreat : Df K mg "greatest_prices" sGreat ["bases", "wins"] aGreat gGreat
  aGain : Addr
  gGain : FuncData
  dGain : Df K mg "gain_by" sGain ["i", "worths", "prices"] aGain gGain
  aGit : Addr
  gGit : FuncData
  dGit : Df K mg "gain_if_told" sGit ["table", "p", "told"] aGit gGit
  aGg : Addr
  gGg : FuncData
  dGg : Df K mg "greatest_gain" sGg ["gains"] aGg gGg
  aDem : Addr
  gDem : FuncData
  dDem : Df K mg "demanded" sDem ["gains"] aDem gDem
  aCp : Addr
  gCp : FuncData
  dCp : Df K mg "is_competitive" sCp ["table", "prices"] aCp gCp
  aLio : Addr
  gLio : FuncData
  dLio : Df K mg "lists_in_order" sLio ["firms"] aLio gLio
  aSet : Addr
  gSet : FuncData
  dSet : Df K mg "set_of" sSet ["firms"] aSet gSet
  aWs : Addr
  gWs : FuncData
  dWs : Df K mg "wanted_sets" sWs ["rows", "prices"] aWs gWs
  aFo : Addr
  gFo : FuncData
  dFo : Df K mg "first_over" sFo ["wanted", "lists"] aFo gFo
  aMr : Addr
  gMr : FuncData
  dMr : Df K mg "make_rounds" sMr ["table", "k"] aMr gMr
  aRight : Addr
  gRight : FuncData
  dRight : Df K mg "is_right" sRight ["table", "kind", "argument"] aRight gRight
  aAsg : Addr
  gAsg : FuncData
  dAsg : Df K mg "is_assignment" sAsg ["table", "some"] aAsg gAsg
section
variable {P : Program} {w : World} {K : PySem.W.Frag} {mg : Str → Option Value} {base : Heap}
theorem Prg.lay (p : Prg K mg) : FnOk P w K mg base CX0 1 p.aLay p.gLay ["self", "players", "firms"] (spLay p.CT) := ok_lay p.mLay.fn p.B p.T
theorem Prg.back (p : Prg K mg) : FnOk P w K mg base CX0 1 p.aBack p.gBack ["self"] (spBack p.CT) := ok_back p.mBack.fn p.B p.T
theorem Prg.wins (p : Prg K mg) : FnOk P w K mg base CX0 2 p.aWins p.gWins ["self"] (spWins p.CT) := ok_wins p.mWins.fn p.B p.T p.dGat
theorem Prg.gat (p : Prg K mg) : FnOk P w K mg base CX0 1 p.aGat p.gGat ["worths", "prices"] spGat := ok_gat p.dGat.fn p.B
theorem Prg.rep (p : Prg K mg) : FnOk P w K mg base CX0 1 p.aRep p.gRep ["some", "p", "new"] spRep := ok_rep p.dRep.fn
theorem Prg.gbl (p : Prg K mg) : FnOk P w K mg base CX0 2 p.aGbl p.gGbl ["wins"] spGbl := ok_gbl p.dGbl.fn p.B p.dGw
theorem Prg.gt (p : Prg K mg) : FnOk P w K mg base CX0 3 p.aGt p.gGt ["wins"] spGt := ok_gt p.dGt.fn p.dGbl p.gbl
theorem Prg.bas (p : Prg K mg) : FnOk P w K mg base CX0 3 p.aBas p.gBas ["wins"] spBas := ok_bas p.dBas.fn p.B p.dGbl p.gbl p.dWn
theorem Prg.won (p : Prg K mg) : FnOk P w K mg base CX0 1 p.aWon p.gWon ["assignment", "wins"] spWon := ok_won p.dWon.fn p.B
theorem Prg.tw (p : Prg K mg) : FnOk P w K mg base CX0 4 p.aTw p.gTw ["wins", "p"] spTw := ok_tw p.dTw.fn p.B p.dGt p.gt p.dRep
theorem Prg.least (p : Prg K mg) : FnOk P w K mg base CX0 4 p.aLeast p.gLeast ["bases", "wins"] spLeast := ok_least p.dLeast.fn p.B p.dGt p.gt p.dAgain
theorem Prg.great (p : Prg K mg) : FnOk P w K mg base CX0 4 p.aGreat p.gGreat ["bases", "wins"] spGreat := ok_great p.dGreat.fn p.B p.dGbl p.gbl
theorem Prg.gain (p : Prg K mg) : FnOk P w K mg base CX0 1 p.aGain p.gGain ["i", "worths", "prices"] spGain := ok_gain p.dGain.fn
theorem Prg.git (p : Prg K mg) : FnOk P w K mg base CX0 5 p.aGit p.gGit ["table", "p", "told"] (spGit p.CT) := ok_git p.dGit.fn p.B p.T p.dGat p.dRep p.dBas p.bas p.dGain p.dLeast p.least p.mWins
theorem Prg.gg (p : Prg K mg) : FnOk P w K mg base CX0 1 p.aGg p.gGg ["gains"] spGg := ok_gg p.dGg.fn p.B
theorem Prg.dem (p : Prg K mg) : FnOk P w K mg base CX0 2 p.aDem p.gDem ["gains"] spDem := ok_dem p.dDem.fn p.B p.dGg
theorem Prg.cp (p : Prg K mg) : FnOk P w K mg base CX0 4 p.aCp p.gCp ["table", "prices"] (spCp p.CT) := ok_cp p.dCp.fn p.B p.T p.dGat p.dGg p.dGt p.gt p.mWins
theorem Prg.lio (p : Prg K mg) : FnOk P w K mg base CX0 1 p.aLio p.gLio ["firms"] spLio := ok_lio p.dLio.fn p.B
theorem Prg.ws (p : Prg K mg) : FnOk P w K mg base CX0 3 p.aWs p.gWs ["rows", "prices"] spWs := ok_ws p.dWs.fn p.B p.dGat p.dGg p.dDem p.dSet
theorem Prg.fo (p : Prg K mg) : FnOk P w K mg base CX0 2 p.aFo p.gFo ["wanted", "lists"] spFo := ok_fo p.dFo.fn p.B p.dSet
theorem Prg.mr (p : Prg K mg) : FnOk P w K mg base CX0 4 p.aMr p.gMr ["table", "k"] (spMr p.CT) := ok_mr p.dMr.fn p.B p.T p.dLio p.dWs p.ws p.dFo p.fo
theorem Prg.right (p : Prg K mg) : FnOk P w K mg base CX0 4 p.aRight p.gRight ["table", "kind", "argument"] (spRight p.CT true) := ok_right p.dRight p.B p.T p.R p.dAsg
end
end TW

end

section
set_option Elab.async false
set_option linter.all false
set_option maxRecDepth 100000
set_option maxHeartbeats 2000000
namespace TW
open PySem PySem.Spec PyProof.Rows L2

def Kf (fs : List Addr) (H H' : Hp) : Prop := ∀ b o, H b = some o → b ∉ fs → H' b = some o
theorem Kf.of_same {fs : List Addr} {H H' : Hp} (s : Same H H') : Kf fs H H' := fun b o e _ => s b o e
theorem Kf.of_kb {fs : List Addr} {l : Addr} {H H' : Hp} (k : Kb l H H') (h : l ∈ fs) : Kf fs H H' := fun b o e hb => k b o e fun z => hb (z ▸ h)
theorem Kf.trans {fs : List Addr} {H H1 H2 : Hp} (a : Kf fs H H1) (b : Kf fs H1 H2) : Kf fs H H2 := fun c o e hc => b c o (a c o e hc) hc
theorem Kf.free {fs : List Addr} {H H' : Hp} {x : Addr} (k : Kf fs H H') (h : H' x = Option.none) (hx : x ∉ fs) : H x = Option.none := by
  cases e : H x with
  | none => rfl
  | some o =>
    rw [k x o e hx] at h
    cases h
structure Kn (fs : List Addr) (H H' : Hp) (p : Addr) : Prop where
  kf : Kf fs H H'
  new : ∀ x o, H x = some o → x ∉ fs → p ≠ x
theorem Kf.mk {fs : List Addr} {H H3 : Hp} {r : Addr} {o : HO} (k : Kf fs H H3) (h : H3 r = Option.none) : Kn fs H (upd H3 r o) r :=
  ⟨Kf.trans k (Kf.of_same (same_new h)), fun x u e hx z => by rw [z, k x u e hx] at h; cases h⟩
theorem Kf.mk2 {fs : List Addr} {H H1 H2 : Hp} {r : Addr} (k : Kf fs H H1) (h : H1 r = Option.none) (s : Same H1 H2) : Kn fs H H2 r :=
  ⟨Kf.trans k (Kf.of_same s), fun x u e hx z => by rw [z, k x u e hx] at h; cases h⟩
def AgsV (H : Hp) : List Ag → List V → Prop
  | [], [] => True
  | g :: as, v :: ws => AgV H g v ∧ AgsV H as ws
  | _, _ => False
def callD (s : Vbsgag.State) (num : Int) (as : List Ag) : Vbsgag.State × List Int := VbsgagNeutral.step s (callRow num as)
def spDo (C : Addr) (num : Int) : Sp := fun vs H Q _ => ∃ (t : Addr) (s : Vbsgag.State) (d : Tb) (as : List Ag) (ws : List V), vs = .ref t :: ws ∧ TabAt C H t s d ∧ AgsV H as ws ∧ Right s (kindsN num) as ∧ (∀ x, V.ref x ∈ ws → x ∉ d.foot t) ∧
  ∀ (H' : Hp) (p : Addr) (d' : Tb), TabAt C H' t (callD s num as).1 d' → IL H' p (callD s num as).2 → Kn (d.foot t) H H' p → (∀ x ∈ d'.foot t, x ∈ d.foot t ∨ H x = Option.none ∨ V.ref x ∈ ws) → Q (.ref p) H'
theorem rk_n {s : Vbsgag.State} {k : Kd} {g : Ag} (hk : k.isL = false) (h : rightK s k g = true) : ∃ x, g = .n x := by
  cases g with
  | n x => exact ⟨x, rfl⟩
  | l xs => cases k <;> first | cases h | cases hk
theorem rk_l {s : Vbsgag.State} {k : Kd} {g : Ag} (hk : k.isL = true) (h : rightK s k g = true) : ∃ xs, g = .l xs := by
  cases g with
  | l xs => exact ⟨xs, rfl⟩
  | n x => cases k <;> first | cases h | cases hk
theorem agv0 {H : Hp} {ws : List V} (h : AgsV H [] ws) : ws = [] := by
  cases ws with
  | nil => rfl
  | cons v ws => exact h.elim
theorem agv1 {H : Hp} {g : Ag} {as : List Ag} {ws : List V} (h : AgsV H (g :: as) ws) : ∃ v ws', ws = v :: ws' ∧ AgV H g v ∧ AgsV H as ws' := by
  cases ws with
  | nil => exact h.elim
  | cons v ws => exact ⟨v, ws, rfl, h.1, h.2⟩
section
variable {s : Vbsgag.State} {H : Hp} {as : List Ag} {ws : List V} {k l m : Kd}
theorem inv0 (h : Right s [] as) (a : AgsV H as ws) : as = [] ∧ ws = [] := by
  have e := right0 h
  subst e
  exact ⟨rfl, agv0 a⟩
theorem inv1 (h : Right s [k] as) (hk : k.isL = false) (a : AgsV H as ws) : ∃ x, as = [.n x] ∧ ws = [.int x] ∧ rightK s k (.n x) = true := by
  obtain ⟨g, rfl, h1⟩ := right1 h
  obtain ⟨x, rfl⟩ := rk_n hk h1
  obtain ⟨v, ws', rfl, a1, a2⟩ := agv1 a
  have e := agv0 a2
  subst e
  cases (show v = .int x from a1)
  exact ⟨x, rfl, rfl, h1⟩
theorem invL (h : Right s [k] as) (hk : k.isL = true) (a : AgsV H as ws) : ∃ xs b, as = [.l xs] ∧ ws = [.ref b] ∧ IL H b xs ∧ xs.length ≤ 17000 ∧ rightK s k (.l xs) = true := by
  obtain ⟨g, rfl, h1⟩ := right1 h
  obtain ⟨xs, rfl⟩ := rk_l hk h1
  obtain ⟨v, ws', rfl, ⟨b, rfl, a3, a4⟩, a2⟩ := agv1 a
  have e := agv0 a2
  subst e
  exact ⟨xs, b, rfl, rfl, a3, a4, h1⟩
theorem inv2 (h : Right s [k, l] as) (hk : k.isL = false) (hl : l.isL = false) (a : AgsV H as ws) : ∃ x y, as = [.n x, .n y] ∧ ws = [.int x, .int y] ∧ rightK s k (.n x) = true ∧ rightK s l (.n y) = true := by
  obtain ⟨g, g2, rfl, h1, h2⟩ := right2 h
  obtain ⟨x, rfl⟩ := rk_n hk h1
  obtain ⟨v, ws', rfl, a1, a2⟩ := agv1 a
  obtain ⟨y, e1, e2, h3⟩ := inv1 (.cons h2 .nil) hl a2
  cases (show v = .int x from a1)
  cases e1
  subst e2
  exact ⟨x, y, rfl, rfl, h1, h2⟩
theorem inv2L (h : Right s [k, l] as) (hk : k.isL = false) (hl : l.isL = true) (a : AgsV H as ws) : ∃ x ys b, as = [.n x, .l ys] ∧ ws = [.int x, .ref b] ∧ IL H b ys ∧ ys.length ≤ 17000 ∧ rightK s k (.n x) = true ∧ rightK s l (.l ys) = true := by
  obtain ⟨g, g2, rfl, h1, h2⟩ := right2 h
  obtain ⟨x, rfl⟩ := rk_n hk h1
  obtain ⟨v, ws', rfl, a1, a2⟩ := agv1 a
  obtain ⟨ys, b, e1, e2, h3, h4, h5⟩ := invL (.cons h2 .nil) hl a2
  cases (show v = .int x from a1)
  cases e1
  subst e2
  exact ⟨x, ys, b, rfl, rfl, h3, h4, h1, h2⟩
theorem inv3 (h : Right s [k, l, m] as) (hk : k.isL = false) (hl : l.isL = false) (hm : m.isL = false) (a : AgsV H as ws) : ∃ x y z, as = [.n x, .n y, .n z] ∧ ws = [.int x, .int y, .int z] ∧ rightK s k (.n x) = true ∧ rightK s l (.n y) = true ∧ rightK s m (.n z) = true := by
  obtain ⟨g, g2, g3, rfl, h1, h2, h3⟩ := right3 h
  obtain ⟨x, rfl⟩ := rk_n hk h1
  obtain ⟨v, ws', rfl, a1, a2⟩ := agv1 a
  obtain ⟨y, z, e1, e2, h4, h5⟩ := inv2 (.cons h2 (.cons h3 .nil)) hl hm a2
  cases (show v = .int x from a1)
  cases e1
  subst e2
  exact ⟨x, y, z, rfl, rfl, h1, h2, h3⟩
end
theorem TabAt.setB {C : Addr} {H : Hp} {t : Addr} {s : Vbsgag.State} {d : Tb} (T : TabAt C H t s d) (j v : Nat) : TabAt C (upd H d.b (.lst ((Vbsgag.ints (s.bases.set j v)).map V.int))) t { s with bases := s.bases.set j v } d := by
  obtain ⟨⟨n1, n2, n3, n4⟩, ⟨n5, n6, n7⟩, ⟨n8, n9⟩, n10, n11⟩ := T.parts
  refine ⟨?_, upd_same, ?_, ?_, T.hl, fun i r row a b => ?_, T.nd, WF_base T.wf j v⟩
  · rw [upd_ne n1]; exact T.ob
  · rw [upd_ne (Ne.symm n5)]; exact T.hw
  · rw [IL, upd_ne (Ne.symm n6)]; exact T.hc
  · have hr1 : r ∈ d.rs := List.mem_of_getElem? a
    rw [IL, upd_ne (fun e : r = d.b => n7 (e ▸ hr1))]
    exact T.hr i r row a b
theorem TabAt.setW {C : Addr} {H : Hp} {t r : Addr} {s : Vbsgag.State} {d : Tb} (T : TabAt C H t s d) {p : Nat} (hp : p < s.n) (hr : d.rs[p]? = some r) (j v : Nat) :
    TabAt C (upd H r (.lst ((Vbsgag.ints ((s.rows.getD p []).set j v)).map V.int))) t { s with rows := s.rows.set p ((s.rows.getD p []).set j v) } d := by
  obtain ⟨⟨n1, n2, n3, n4⟩, ⟨n5, n6, n7⟩, ⟨n8, n9⟩, n10, n11⟩ := T.parts
  have hrm : r ∈ d.rs := List.mem_of_getElem? hr
  refine ⟨?_, ?_, ?_, ?_, T.hl, fun i q row a b => ?_, T.nd, WF_worth T.wf hp⟩
  · rw [upd_ne (fun e : t = r => n4 (e ▸ hrm))]; exact T.ob
  · rw [IL, upd_ne (fun e : d.b = r => n7 (e ▸ hrm))]; exact T.hb
  · rw [upd_ne (fun e : d.ws = r => n9 (e ▸ hrm))]; exact T.hw
  · rw [IL, upd_ne (fun e : d.c = r => n10 (e ▸ hrm))]; exact T.hc
  · by_cases e : i = p
    · subst e
      rw [hr] at a
      cases a
      have h3 : i < s.rows.length := by rw [T.wf.lr]; exact hp
      rw [List.getElem?_set_self h3] at b
      cases b
      exact upd_same
    · have hq : q ≠ r := fun z => e (nd_ix n11 a (z ▸ hr))
      rw [List.getElem?_set_ne (fun z => e z.symm)] at b
      rw [IL, upd_ne hq]
      exact T.hr i q row a b
theorem TabAt.setR {C : Addr} {H : Hp} {t q : Addr} {s : Vbsgag.State} {d : Tb} (T : TabAt C H t s d) {p : Nat} {row : List Nat} (hp : p < s.n) (hq : q ∉ d.foot t) (hil : IL H q (Vbsgag.ints row)) (hl : row.length = s.m) :
    TabAt C (upd H d.ws (.lst ((d.rs.map V.ref).set p (.ref q)))) t (Vbsgag.told s (p + 1) row) { d with rs := d.rs.set p q } := by
  obtain ⟨⟨n1, n2, n3, n4⟩, ⟨n5, n6, n7⟩, ⟨n8, n9⟩, n10, n11⟩ := T.parts
  simp only [Tb.foot, List.mem_cons, not_or] at hq
  obtain ⟨q1, q2, q3, q4, q5⟩ := hq
  have hmem : ∀ x, x ∈ d.rs.set p q → x ∈ d.rs ∨ x = q := fun x hx => List.mem_or_eq_of_mem_set hx
  refine ⟨?_, ?_, ?_, ?_, by rw [List.length_set]; exact T.hl, fun i r row' a b => ?_, ?_, WF_told T.wf (p + 1) row hl⟩
  · show upd H d.ws _ t = some (.ins C d.dx (tf d.b d.ws d.c))
    rw [upd_ne n2]; exact T.ob
  · show IL _ d.b _
    rw [IL, upd_ne n5]; exact T.hb
  · show upd H d.ws _ d.ws = some (.lst ((d.rs.set p q).map V.ref))
    rw [upd_same, List.map_set]
  · show IL _ d.c _
    rw [IL, upd_ne (Ne.symm n8)]; exact T.hc
  · have b : (s.rows.set p row)[i]? = some row' := b
    have a : (d.rs.set p q)[i]? = some r := a
    by_cases e : i = p
    · subst e
      have h2 : i < d.rs.length := by rw [T.hl]; exact hp
      have h3 : i < s.rows.length := by rw [T.wf.lr]; exact hp
      rw [List.getElem?_set_self h2] at a
      rw [List.getElem?_set_self h3] at b
      cases a
      cases b
      rw [IL, upd_ne q3]
      exact hil
    · rw [List.getElem?_set_ne (fun z => e z.symm)] at a b
      have hr1 : r ∈ d.rs := List.mem_of_getElem? a
      rw [IL, upd_ne (fun z : r = d.ws => n9 (z ▸ hr1))]
      exact T.hr i r row' a b
  · show (t :: d.b :: d.ws :: d.c :: d.rs.set p q).Nodup
    simp only [List.nodup_cons, List.mem_cons, not_or]
    refine ⟨⟨n1, n2, n3, fun h => ?_⟩, ⟨n5, n6, fun h => ?_⟩, ⟨n8, fun h => ?_⟩, fun h => ?_, ?_⟩
    · rcases hmem _ h with z | z
      · exact n4 z
      · exact q1 z.symm
    · rcases hmem _ h with z | z
      · exact n7 z
      · exact q2 z.symm
    · rcases hmem _ h with z | z
      · exact n9 z
      · exact q3 z.symm
    · rcases hmem _ h with z | z
      · exact n10 z
      · exact q4 z.symm
    · have h2 : p < d.rs.length := by rw [T.hl]; exact hp
      refine List.pairwise_iff_getElem.mpr fun i j hi hj hij => ?_
      rw [List.length_set] at hi hj
      have hnd := List.pairwise_iff_getElem.mp n11
      rw [List.getElem_set, List.getElem_set]
      by_cases ei : p = i
      · rw [if_pos ei, if_neg (by omega)]
        exact fun z => q5 (z ▸ List.getElem_mem hj)
      · rw [if_neg ei]
        by_cases ej : p = j
        · rw [if_pos ej]
          exact fun z => q5 (z ▸ List.getElem_mem hi)
        · rw [if_neg ej]
          exact hnd i j hi hj hij
theorem foot_new {H H3 : Hp} {t c : Addr} {d d3 : Tb} {ws : List V} (kf : Kf (d.foot t) H H3) (hc : H3 c = Option.none) (sub : ∀ x ∈ d3.foot t, x ∈ d.foot t ∨ H x = Option.none ∨ V.ref x ∈ ws) :
    ∀ z ∈ ({ d3 with c := c } : Tb).foot t, z ∈ d.foot t ∨ H z = Option.none ∨ V.ref z ∈ ws := fun z hz => by
  have hz : z ∈ t :: d3.b :: d3.ws :: c :: d3.rs := hz
  by_cases ezc : z = c
  · rw [ezc]
    by_cases hcf : c ∈ d.foot t
    · exact .inl hcf
    · exact .inr (.inl (kf.free hc hcf))
  · refine sub z ?_
    simp only [Tb.foot, List.mem_cons] at hz ⊢
    rcases hz with q | q | q | q | q
    · exact .inl q
    · exact .inr (.inl q)
    · exact .inr (.inr (.inl q))
    · exact absurd q ezc
    · exact .inr (.inr (.inr (.inr q)))
section
variable {P : Program} {w : World} {K : PySem.W.Frag} {mg : Str → Option Value} {base : Heap}
theorem do_len {C : Addr} {num : Int} {vs : List V} {H : Hp} {Q : VK} {E : XK} {n : Nat} (hn : (kindsN num).length = n) (h : spDo C num vs H Q E) : vs.length = n + 1 := by
  obtain ⟨t, s, d, as, ws, rfl, _, ha, hr, _⟩ := h
  have h1 : ∀ {as : List Ag} {ws : List V}, AgsV H as ws → as.length = ws.length := by
    intro as
    induction as with
    | nil => intro ws h; rw [agv0 h]; rfl
    | cons g as ih =>
      intro ws h
      obtain ⟨v, ws', rfl, _, h2⟩ := agv1 h
      rw [List.length_cons, List.length_cons, ih h2]
  have h2 : ∀ {ks : List Kd} {as : List Ag}, Right s ks as → ks.length = as.length := by
    intro ks as h
    induction h with
    | nil => rfl
    | cons _ _ ih => rw [List.length_cons, List.length_cons, ih]
  rw [List.length_cons, ← h1 ha, ← h2 hr, hn]
abbrev sBegin : Stmt := stm 32
theorem scBegin : FnScope ["table", "n", "m"] ["table", "n", "m"] (defScope sBegin) := ⟨rfl, rfl, rfl, by decide +kernel, rfl, by decide +kernel, by decide +kernel⟩
theorem ok_begin {f : Addr} {fd : FuncData} (p : Prg K mg) (F : Fun K "answer_begin" "answer_begin" sBegin f fd) : FnOk P w K mg base CX0 6 f fd ["table", "n", "m"] (spDo p.CT 0) := by
  refine F.ok scBegin (fun vs H Q E h => do_len (n := 2) rfl h) (fun cdv A outer s H vs Q E hr h => ?_)
  obtain ⟨t, st, d, as, ws, rfl, TA, ha, hR, hws, post⟩ := h
  obtain ⟨x, y, rfl, rfl, hx, hy⟩ := inv2 (k := .players) (l := .firms) hR rfl rfl ha
  have hx : Vbsgag.between 1 x 5 = true := hx
  have hy : Vbsgag.between 1 y 6 = true := hy
  have e : callD st 0 [.n x, .n y] = (Vbsgag.fresh x.toNat y.toNat, [0]) := by
    show (if (Vbsgag.between 1 x 5 && Vbsgag.between 1 y 6) = false then (st, [-2]) else (Vbsgag.fresh x.toNat y.toNat, [0])) = _
    rw [hx, hy]
    rfl
  rw [e] at post
  unfold Vbsgag.between at hx hy
  simp only [Bool.and_eq_true, decide_eq_true_eq] at hx hy
  have r1 : Room 1 _ := hr.mono (by decide)
  refine ⟨_, pss_cons (ps_expr (pe_meth (pv 0) p.T.cl p.mLay.m p.lay r1 p.mLay.b .nil pass0 (pa_cons (pv 1) (pa_cons (pv 2) pa_nil)))) (pss_one (ps_ret (pe_lst (pa_cons pe_int pa_nil)))), ?_⟩
  have ex : (x : Int) = ((x.toNat : Nat) : Int) := by omega
  have ey : (y : Int) = ((y.toNat : Nat) : Int) := by omega
  refine ⟨_, rfl, t, d.dx, _, rfl, TA.ob, tf_no _ _ _ (by decide +kernel) (by decide +kernel) (by decide +kernel), _, rfl, _, rfl, t, d.dx, _, x.toNat, y.toNat, by rw [← ex, ← ey]; rfl, TA.ob, .inr ⟨_, _, _, rfl⟩, by omega, by omega, by omega, by omega, fun H3 d3 T3 k3 hf3 => ?_⟩
  refine ⟨(by show 1 ≤ sizeLine; decide), fun r hr2 => ?_⟩
  have s4 := same_new (o := .lst [V.int 0]) hr2
  refine post _ r d3 (T3.same s4) upd_same (Kf.mk (Kf.of_kb k3 (by simp [Tb.foot])) hr2) fun z hz => ?_
  rcases hf3 z hz with e | e
  · exact .inl (by rw [e]; simp [Tb.foot])
  · exact .inr (.inl e)
abbrev sBase : Stmt := stm 33
theorem scBase : FnScope ["table", "i", "v"] ["table", "i", "v"] (defScope sBase) := ⟨rfl, rfl, rfl, by decide +kernel, rfl, by decide +kernel, by decide +kernel⟩
theorem ok_base {f : Addr} {fd : FuncData} (p : Prg K mg) (F : Fun K "answer_base" "answer_base" sBase f fd) : FnOk P w K mg base CX0 6 f fd ["table", "i", "v"] (spDo p.CT 1) := by
  refine F.ok scBase (fun vs H Q E h => do_len (n := 2) rfl h) (fun cdv A outer s H vs Q E hr h => ?_)
  obtain ⟨t, st, d, as, ws, rfl, TA, ha, hR, hws, post⟩ := h
  obtain ⟨x, y, rfl, rfl, hx, hy⟩ := inv2 (k := .firm) (l := .amount) hR rfl rfl ha
  have hx : Vbsgag.isFirm st x = true := hx
  have hy : Vbsgag.isMoney y = true := hy
  have e : callD st 1 [.n x, .n y] = (Vbsgag.wound { st with bases := st.bases.set (x.toNat - 1) y.toNat }, [0]) := by
    show Vbsgag.asked st [(Vbsgag.isFirm st x, -1), (Vbsgag.isMoney y, -2)] _ = _
    rw [hx, hy]
    rfl
  rw [e] at post
  have r1 : Room 1 _ := hr.mono (by decide)
  refine ⟨_, pss_cons (ps_asg (pv 2) (pg_sub (pe_fld (pv 0) rfl) (pe_op op_sub (pv 1) pe_int) set_list))
    (pss_cons (ps_expr (pe_meth0 (pv 0) p.T.cl p.mBack.m p.back r1 p.mBack.b .nil pass0)) (pss_one (ps_ret (pe_lst (pa_cons pe_int pa_nil))))), ?_⟩
  have hx := isFirm_iff.mp hx
  have hy := isMoney_iff.mp hy
  have ex : x - 1 = ((x.toNat - 1 : Nat) : Int) := by omega
  refine ⟨_, rfl, _, rfl, t, p.CT, d.dx, _, _, rfl, TA.ob, p.T.cl, p.T.nB, tf_bases _ _ _, _, rfl, _, _, rfl, rfl, d.b, _, _, x.toNat - 1, rfl, rfl, TA.hb, ?_, ?_⟩
  · show ixN _ (x - 1) = _
    rw [ex]
    refine ixN_nat ?_
    rw [List.length_map, ints_length, TA.wf.lb]
    omega
  rw [map_set_int _ _ _ hy.1]
  have TA3 := TA.setB (x.toNat - 1) y.toNat
  have k3 : Kb d.b H (upd H d.b (.lst ((Vbsgag.ints (st.bases.set (x.toNat - 1) y.toNat)).map V.int))) := Kb.upd
  generalize upd H d.b (.lst ((Vbsgag.ints (st.bases.set (x.toNat - 1) y.toNat)).map V.int)) = H3 at TA3 k3 ⊢
  refine ⟨_, rfl, t, d.dx, _, rfl, TA3.ob, tf_no _ _ _ (by decide +kernel) (by decide +kernel) (by decide +kernel), t, _, d, rfl, TA3, fun H4 c T4 hc4 k4 => ?_⟩
  refine ⟨(by show 1 ≤ sizeLine; decide), fun r hr2 => ?_⟩
  have s5 := same_new (o := .lst [V.int 0]) hr2
  have kf3 : Kf (d.foot t) H H3 := Kf.of_kb k3 (by simp [Tb.foot])
  exact post _ r _ (T4.same s5) upd_same (Kf.mk (Kf.trans kf3 (Kf.of_kb k4 (by simp [Tb.foot]))) hr2) (foot_new kf3 hc4 fun z hz => .inl hz)
abbrev sWorth : Stmt := stm 34
theorem scWorth : FnScope ["table", "p", "i", "v"] ["table", "p", "i", "v"] (defScope sWorth) := ⟨rfl, rfl, rfl, by decide +kernel, rfl, by decide +kernel, by decide +kernel⟩
theorem ok_worth {f : Addr} {fd : FuncData} (p : Prg K mg) (F : Fun K "answer_worth" "answer_worth" sWorth f fd) : FnOk P w K mg base CX0 6 f fd ["table", "p", "i", "v"] (spDo p.CT 2) := by
  refine F.ok scWorth (fun vs H Q E h => do_len (n := 3) rfl h) (fun cdv A outer s H vs Q E hr h => ?_)
  obtain ⟨t, st, d, as, ws, rfl, TA, ha, hR, hws, post⟩ := h
  obtain ⟨x, y, v, rfl, rfl, hx, hy, hv⟩ := inv3 (k := .player) (l := .firm) (m := .amount) hR rfl rfl rfl ha
  have hx : Vbsgag.isPlayer st x = true := hx
  have hy : Vbsgag.isFirm st y = true := hy
  have hv : Vbsgag.isMoney v = true := hv
  have e : callD st 2 [.n x, .n y, .n v] = (Vbsgag.wound { st with rows := st.rows.set (x.toNat - 1) ((st.rows.getD (x.toNat - 1) []).set (y.toNat - 1) v.toNat) }, [0]) := by
    show Vbsgag.asked st [(Vbsgag.isPlayer st x && Vbsgag.isFirm st y, -1), (Vbsgag.isMoney v, -2)] _ = _
    rw [hx, hy, hv]
    rfl
  rw [e] at post
  have r1 : Room 1 _ := hr.mono (by decide)
  refine ⟨_, pss_cons (ps_asg (pv 3) (pg_sub (pe_ix ix_list (pe_fld (pv 0) rfl) (pe_op op_sub (pv 1) pe_int) (fun _ _ => rfl)) (pe_op op_sub (pv 2) pe_int) set_list))
    (pss_cons (ps_expr (pe_meth0 (pv 0) p.T.cl p.mBack.m p.back r1 p.mBack.b .nil pass0)) (pss_one (ps_ret (pe_lst (pa_cons pe_int pa_nil))))), ?_⟩
  have hy := isFirm_iff.mp hy
  have hv := isMoney_iff.mp hv
  obtain ⟨r, hr1, hr2, ex, hxn, hrl, _, _⟩ := TA.row hx
  have ey : y - 1 = ((y.toNat - 1 : Nat) : Int) := by omega
  refine ⟨_, rfl, _, rfl, t, p.CT, d.dx, _, _, rfl, TA.ob, p.T.cl, p.T.nW, tf_worths _ _ _, _, rfl, _, _, rfl, rfl, d.ws, _, _, V.ref r, rfl, rfl, SqL.of TA.hw, ?_, _, rfl, _, _, rfl, rfl, r, _, _, y.toNat - 1, rfl, rfl, hr2, ?_, ?_⟩
  · show atI _ (x - 1) = _
    rw [ex]
    exact atI_nat (map_at hr1)
  · show ixN _ (y - 1) = _
    rw [ey]
    refine ixN_nat ?_
    rw [List.length_map, ints_length, hrl]
    omega
  rw [map_set_int _ _ _ hv.1]
  have TA3 := TA.setW hxn hr1 (y.toNat - 1) v.toNat
  have hrm : r ∈ d.rs := List.mem_of_getElem? hr1
  have k3 : Kb r H (upd H r (.lst ((Vbsgag.ints ((st.rows.getD (x.toNat - 1) []).set (y.toNat - 1) v.toNat)).map V.int))) := Kb.upd
  generalize upd H r (.lst ((Vbsgag.ints ((st.rows.getD (x.toNat - 1) []).set (y.toNat - 1) v.toNat)).map V.int)) = H3 at TA3 k3 ⊢
  refine ⟨_, rfl, t, d.dx, _, rfl, TA3.ob, tf_no _ _ _ (by decide +kernel) (by decide +kernel) (by decide +kernel), t, _, d, rfl, TA3, fun H4 c T4 hc4 k4 => ?_⟩
  refine ⟨(by show 1 ≤ sizeLine; decide), fun r2 hr3 => ?_⟩
  have s5 := same_new (o := .lst [V.int 0]) hr3
  have kf3 : Kf (d.foot t) H H3 := Kf.of_kb k3 (by simp [Tb.foot, hrm])
  exact post _ r2 _ (T4.same s5) upd_same (Kf.mk (Kf.trans kf3 (Kf.of_kb k4 (by simp [Tb.foot]))) hr3) (foot_new kf3 hc4 fun z hz => .inl hz)
abbrev sRow : Stmt := stm 35
theorem scRow : FnScope ["table", "p", "worths"] ["table", "p", "worths"] (defScope sRow) := ⟨rfl, rfl, rfl, by decide +kernel, rfl, by decide +kernel, by decide +kernel⟩
theorem ok_row {f : Addr} {fd : FuncData} (p : Prg K mg) (F : Fun K "answer_row" "answer_row" sRow f fd) : FnOk P w K mg base CX0 6 f fd ["table", "p", "worths"] (spDo p.CT 3) := by
  refine F.ok scRow (fun vs H Q E h => do_len (n := 2) rfl h) (fun cdv A outer s H vs Q E hr h => ?_)
  obtain ⟨t, st, d, as, ws, rfl, TA, ha, hR, hws, post⟩ := h
  obtain ⟨x, ys, q, rfl, rfl, hil, hz, hx, hm⟩ := inv2L (k := .player) (l := .amounts) hR rfl rfl ha
  have hx : Vbsgag.isPlayer st x = true := hx
  have hm : Vbsgag.areMoney st ys = true := hm
  have e : callD st 3 [.n x, .l ys] = (Vbsgag.wound (Vbsgag.told st x.toNat (Vbsgag.nats ys)), [0]) := by
    show Vbsgag.asked st [(Vbsgag.isPlayer st x, -1), (Vbsgag.areMoney st ys, -2)] _ = _
    rw [hx, hm]
    rfl
  rw [e] at post
  have r1 : Room 1 _ := hr.mono (by decide)
  refine ⟨_, pss_cons (ps_asg (pv 2) (pg_sub (pe_fld (pv 0) rfl) (pe_op op_sub (pv 1) pe_int) set_list))
    (pss_cons (ps_expr (pe_meth0 (pv 0) p.T.cl p.mBack.m p.back r1 p.mBack.b .nil pass0)) (pss_one (ps_ret (pe_lst (pa_cons pe_int pa_nil))))), ?_⟩
  obtain ⟨m1, m2, m3⟩ := areMoney_nats hm
  have hx := isPlayer_iff.mp hx
  have ex : x - 1 = ((x.toNat - 1 : Nat) : Int) := by omega
  have hxn : x.toNat - 1 < st.n := by omega
  have ex1 : x.toNat - 1 + 1 = x.toNat := by omega
  have hqf : q ∉ d.foot t := hws q (by simp)
  refine ⟨_, rfl, _, rfl, t, p.CT, d.dx, _, _, rfl, TA.ob, p.T.cl, p.T.nW, tf_worths _ _ _, _, rfl, _, _, rfl, rfl, d.ws, _, _, x.toNat - 1, rfl, rfl, TA.hw, ?_, ?_⟩
  · show ixN _ (x - 1) = _
    rw [ex]
    refine ixN_nat ?_
    rw [List.length_map, TA.hl]
    exact hxn
  have hil3 : IL H q (Vbsgag.ints (Vbsgag.nats ys)) := by
    rw [m3]
    exact hil
  have TA4 := TA.setR hxn hqf hil3 (by rw [← m1]; simp [Vbsgag.nats])
  rw [ex1] at TA4
  have k4 : Kb d.ws H (upd H d.ws (.lst ((d.rs.map V.ref).set (x.toNat - 1) (.ref q)))) := Kb.upd
  generalize upd H d.ws (.lst ((d.rs.map V.ref).set (x.toNat - 1) (.ref q))) = H4 at TA4 k4 ⊢
  refine ⟨_, rfl, t, d.dx, _, rfl, TA4.ob, tf_no _ _ _ (by decide +kernel) (by decide +kernel) (by decide +kernel), t, _, _, rfl, TA4, fun H5 c T5 hc5 k5 => ?_⟩
  refine ⟨(by show 1 ≤ sizeLine; decide), fun r hr2 => ?_⟩
  have s6 := same_new (o := .lst [V.int 0]) hr2
  have kf4 : Kf (d.foot t) H H4 := Kf.of_kb k4 (by simp [Tb.foot])
  refine post _ r _ (T5.same s6) upd_same (Kf.mk (Kf.trans kf4 (Kf.of_kb k5 (by simp [Tb.foot]))) hr2) (foot_new (d3 := { d with rs := d.rs.set (x.toNat - 1) q }) kf4 hc5 fun z hz => ?_)
  have hz : z ∈ t :: d.b :: d.ws :: d.c :: d.rs.set (x.toNat - 1) q := hz
  simp only [List.mem_cons] at hz
  simp only [Tb.foot, List.mem_cons]
  rcases hz with e | e | e | e | e
  · exact .inl (.inl e)
  · exact .inl (.inr (.inl e))
  · exact .inl (.inr (.inr (.inl e)))
  · exact .inl (.inr (.inr (.inr (.inl e))))
  · rcases List.mem_or_eq_of_mem_set e with e | e
    · exact .inl (.inr (.inr (.inr (.inr e))))
    · exact .inr (.inr (by rw [e]; simp))
abbrev sLook : Stmt := stm 36
theorem scLook : FnScope ["table", "p"] ["table", "p"] (defScope sLook) := ⟨rfl, rfl, rfl, by decide +kernel, rfl, by decide +kernel, by decide +kernel⟩
theorem ok_look {f : Addr} {fd : FuncData} (p : Prg K mg) (F : Fun K "answer_look" "answer_look" sLook f fd) : FnOk P w K mg base CX0 6 f fd ["table", "p"] (spDo p.CT 4) := by
  refine F.ok scLook (fun vs H Q E h => do_len (n := 1) rfl h) (fun cdv A outer s H vs Q E hr h => ?_)
  obtain ⟨t, st, d, as, ws, rfl, TA, ha, hR, hws, post⟩ := h
  obtain ⟨x, rfl, rfl, hx⟩ := inv1 (k := .player) hR rfl ha
  have hx : Vbsgag.isPlayer st x = true := hx
  have e : callD st 4 [.n x] = (st, Vbsgag.ints (st.rows.getD (x.toNat - 1) [])) := by
    show Vbsgag.asked st [(Vbsgag.isPlayer st x, -1)] _ = _
    rw [hx]
    rfl
  rw [e] at post
  refine ⟨_, pss_one (ps_ret (pe_callTy call_list_of rfl p.B.list bt_list (pa_cons (pe_ix ix_list (pe_fld (pv 0) rfl) (pe_op op_sub (pv 1) pe_int) (fun _ _ => rfl)) pa_nil))), ?_⟩
  obtain ⟨r, hr1, hr2, eq, _⟩ := TA.row hx
  refine ⟨_, rfl, t, p.CT, d.dx, _, _, rfl, TA.ob, p.T.cl, p.T.nW, tf_worths _ _ _, _, rfl, _, _, rfl, rfl, d.ws, _, _, _, rfl, rfl, SqL.of TA.hw, ?_, r, _, rfl, .inl (SqL.of hr2), fun q hq => ?_⟩
  · show atI (d.rs.map V.ref) (x - 1) = some (V.ref r)
    rw [eq]
    exact atI_nat (map_at hr1)
  · have s3 := same_new (o := .lst ((Vbsgag.ints (st.rows.getD (x.toNat - 1) [])).map V.int)) hq
    exact post _ q d (TA.same s3) upd_same (Kf.mk (Kf.of_same (Same.refl H)) hq) fun x hx => .inl hx
end
end TW

end

section
set_option Elab.async false
set_option linter.all false
set_option maxRecDepth 100000
set_option maxHeartbeats 2000000
namespace TW
open PySem PySem.Spec PyProof.Rows L2

theorem best_asg {s : Vbsgag.State} (wf : WF s) : ∀ i ∈ Vbsgag.ints (Vbsgag.best s), i = 0 ∨ (1 ≤ i ∧ i ≤ (s.m : Int)) := fun i hi => by
  rw [← bestI_eq wf] at hi
  obtain ⟨k, hk, rfl⟩ := List.mem_map.mp hi
  rcases mem_bestG _ _ _ hk with e | ⟨j, hj, e⟩
  · exact .inl (by rw [e]; rfl)
  · have := List.mem_range.mp hj
    refine .inr ?_
    simp only [Int.ofNat_eq_natCast]
    omega
theorem best_len' {s : Vbsgag.State} (wf : WF s) : (Vbsgag.ints (Vbsgag.best s)).length = (wins s).length := by rw [ints_length, best_length, wins_length wf]
section
variable {P : Program} {w : World} {K : PySem.W.Frag} {mg : Str → Option Value} {base : Heap}
abbrev sTotal : Stmt := stm 37
theorem scTotal : FnScope ["table"] ["table"] (defScope sTotal) := ⟨rfl, rfl, rfl, by decide +kernel, rfl, by decide +kernel, by decide +kernel⟩
theorem ok_total {f : Addr} {fd : FuncData} (p : Prg K mg) (F : Fun K "answer_total" "answer_total" sTotal f fd) : FnOk P w K mg base CX0 6 f fd ["table"] (spDo p.CT 5) := by
  refine F.ok scTotal (fun vs H Q E h => do_len (n := 0) rfl h) (fun cdv A outer s H vs Q E hr h => ?_)
  obtain ⟨t, st, d, as, ws, rfl, TA, ha, hR, hws, post⟩ := h
  obtain ⟨rfl, rfl⟩ := inv0 hR ha
  have e : callD st 5 [] = (st, [Vbsgag.total st]) := rfl
  rw [e] at post
  refine ⟨_, pss_one (ps_ret (pe_lst (pa_cons (pe_call p.gt (hr.mono (by decide)) rfl p.dGt.mg p.dGt.fn.kp p.dGt.b .nil pass0 (pa_cons (pe_meth0 (pv 0) p.T.cl p.mWins.m p.wins (hr.mono (by decide)) p.mWins.b .nil pass0) pa_nil)) pa_nil))), ?_⟩
  have wf := TA.wf
  have hwl := wins_length wf
  have := wf.n5
  have := wf.m6
  refine ⟨_, rfl, t, d.dx, _, rfl, TA.ob, tf_no _ _ _ (by decide +kernel) (by decide +kernel) (by decide +kernel), t, st, d, rfl, TA, fun H1 q s1 hq m1 => ?_⟩
  refine ⟨q, wins st, st.m, rfl, m1, wins_ne wf, fun r hr => wins_row wf hr, by omega, by omega, fun H2 s2 => ?_⟩
  refine ⟨(by show 1 ≤ sizeLine; decide), fun r hr => ?_⟩
  have s3 := Same.put (o := .lst [V.int (G (wins st) (List.range st.m))]) (s1.trans s2) ((s1.trans s2).free hr)
  refine post _ r d (TA.same s3) ?_ (Kf.mk (Kf.of_same (s1.trans s2)) hr) fun x hx => .inl hx
  rw [IL, upd_same, total_wins wf]
  rfl
abbrev sBest : Stmt := stm 38
theorem scBest : FnScope ["table", "wins", "best"] ["table"] (defScope sBest) := ⟨rfl, rfl, rfl, by decide +kernel, rfl, by decide +kernel, by decide +kernel⟩
theorem ok_best {f : Addr} {fd : FuncData} (p : Prg K mg) (F : Fun K "answer_best" "answer_best" sBest f fd) : FnOk P w K mg base CX0 6 f fd ["table"] (spDo p.CT 6) := by
  refine F.ok scBest (fun vs H Q E h => do_len (n := 0) rfl h) (fun cdv A outer s H vs Q E hr h => ?_)
  obtain ⟨t, st, d, as, ws, rfl, TA, ha, hR, hws, post⟩ := h
  obtain ⟨rfl, rfl⟩ := inv0 hR ha
  have e : callD st 6 [] = (st, Vbsgag.total st :: Vbsgag.ints (Vbsgag.best st)) := rfl
  rw [e] at post
  refine ⟨_, pss_cons (ps_set (i := 1) scBest.nd rfl (Or.inl rfl) (pe_meth0 (pv 0) p.T.cl p.mWins.m p.wins (hr.mono (by decide)) p.mWins.b .nil pass0))
    (pss_cons (ps_set (i := 2) scBest.nd rfl (Or.inl rfl) (pe_ix ix_list (pe_call p.bas (hr.mono (by decide)) rfl p.dBas.mg p.dBas.fn.kp p.dBas.b .nil pass0 (pa_cons (pv 1) pa_nil)) pe_int (fun _ _ => rfl)))
    (pss_one (ps_ret (pe_op op_cat (pe_lst (pa_cons (pe_call p.won (hr.mono (by decide)) rfl p.dWon.mg p.dWon.fn.kp p.dWon.b .nil pass0 (pa_cons (pv 2) (pa_cons (pv 1) pa_nil))) pa_nil)) (pv 2))))), ?_⟩
  have wf := TA.wf
  have hwl := wins_length wf
  have := wf.n5
  have := wf.m6
  refine ⟨_, rfl, t, d.dx, _, rfl, TA.ob, tf_no _ _ _ (by decide +kernel) (by decide +kernel) (by decide +kernel), t, st, d, rfl, TA, fun H1 q s1 hq m1 => ?_⟩
  refine ⟨_, rfl, q, wins st, st.m, rfl, m1, wins_ne wf, fun r hr => wins_row wf hr, by omega, by omega, fun H2 bs s2 hbs m2 => ?_⟩
  obtain ⟨xs, b, g1, g2, h2⟩ := m2.ix (K := K) (k := 0) (bestsI_head wf)
  refine ⟨bs, xs, 0, _, rfl, rfl, g1, g2, ?_⟩
  refine ⟨_, rfl, _, rfl, b, q, _, _, st.m, rfl, h2, s2.mat m1, best_len' wf, by omega, fun r hr => wins_row wf hr, best_asg wf, fun H3 s3 => ?_⟩
  have ew : (wonL (Vbsgag.ints (Vbsgag.best st)) (wins st)).sum = Vbsgag.total st := by rw [← bestI_eq wf]; exact best_won wf
  rw [ew]
  refine ⟨(by show 1 ≤ sizeLine; decide), fun r hr => ?_⟩
  have s4 : Same H3 (upd H3 r (.lst [V.int (Vbsgag.total st)])) := same_new hr
  refine ⟨_, rfl, r, b, _, (Vbsgag.ints (Vbsgag.best st)).map V.int, rfl, rfl, upd_same, s4.il (s3.il h2), ?_, fun r2 hr2 => ?_⟩
  · have := best_len' wf
    rw [List.length_map]
    exact smallE (by show 1 + _ ≤ 100000; omega)
  · have s14 := ((s1.trans s2).trans s3).trans s4
    have s5 : Same H _ := Same.put (o := .lst ([V.int (Vbsgag.total st)] ++ (Vbsgag.ints (Vbsgag.best st)).map V.int)) s14 (s14.free hr2)
    refine post _ r2 d (TA.same s5) ?_ (Kf.mk (Kf.of_same s14) hr2) fun x hx => .inl hx
    rw [IL, upd_same]
    rfl
abbrev sGiven : Stmt := stm 39
theorem scGiven : FnScope ["table", "firms"] ["table", "firms"] (defScope sGiven) := ⟨rfl, rfl, rfl, by decide +kernel, rfl, by decide +kernel, by decide +kernel⟩
theorem ok_given {f : Addr} {fd : FuncData} (p : Prg K mg) (F : Fun K "answer_given" "answer_given" sGiven f fd) : FnOk P w K mg base CX0 6 f fd ["table", "firms"] (spDo p.CT 7) := by
  refine F.ok scGiven (fun vs H Q E h => do_len (n := 1) rfl h) (fun cdv A outer s H vs Q E hr h => ?_)
  obtain ⟨t, st, d, as, ws, rfl, TA, ha, hR, hws, post⟩ := h
  obtain ⟨l, q, rfl, rfl, hil, hz, hb⟩ := invL (k := .asg) hR rfl ha
  have hb : asgOk st l = true := hb
  have e : callD st 7 [.l l] = (st, [Vbsgag.won st (Vbsgag.nats l)]) := by
    show Vbsgag.asked st [(l.all (fun i => decide (0 ≤ i)) && Vbsgag.isAssignment st (Vbsgag.nats l), -3)] _ = _
    rw [asg_iff, hb]
    rfl
  rw [e] at post
  refine ⟨_, pss_one (ps_ret (pe_lst (pa_cons (pe_call p.won (hr.mono (by decide)) rfl p.dWon.mg p.dWon.fn.kp p.dWon.b .nil pass0 (pa_cons (pv 1) (pa_cons (pe_meth0 (pv 0) p.T.cl p.mWins.m p.wins (hr.mono (by decide)) p.mWins.b .nil pass0) pa_nil))) pa_nil))), ?_⟩
  have wf := TA.wf
  have hwl := wins_length wf
  have := wf.n5
  have := wf.m6
  refine ⟨_, rfl, _, rfl, t, d.dx, _, rfl, TA.ob, tf_no _ _ _ (by decide +kernel) (by decide +kernel) (by decide +kernel), t, st, d, rfl, TA, fun H4 b s4 hb4 m4 => ?_⟩
  have hb2 := hb
  unfold asgOk at hb2
  simp only [Bool.and_eq_true, decide_eq_true_eq, List.all_eq_true] at hb2
  obtain ⟨g1, g2, g3⟩ := hb2
  refine ⟨q, b, _, _, st.m, rfl, s4.il hil, m4, by rw [g1, hwl], by omega, fun r hr => wins_row wf hr, fun i hi => ?_, fun H5 s5 => ?_⟩
  · by_cases e : i = 0
    · exact .inl e
    · exact .inr (isFirm_iff.mp (g2 i (List.mem_filter.mpr ⟨hi, by simpa using e⟩)))
  · refine ⟨(by show 1 ≤ sizeLine; decide), fun r hr2 => ?_⟩
    have s6 := Same.put (o := .lst [V.int (wonL l (wins st)).sum]) (s4.trans s5) ((s4.trans s5).free hr2)
    refine post _ r d (TA.same s6) ?_ (Kf.mk (Kf.of_same (s4.trans s5)) hr2) fun x hx => .inl hx
    rw [IL, upd_same, won_wonL wf hb]
    rfl
abbrev sPrices : Stmt := stm 40
theorem scPrices : FnScope ["table"] ["table"] (defScope sPrices) := ⟨rfl, rfl, rfl, by decide +kernel, rfl, by decide +kernel, by decide +kernel⟩
theorem ok_prices {f : Addr} {fd : FuncData} (p : Prg K mg) (F : Fun K "answer_prices" "answer_prices" sPrices f fd) : FnOk P w K mg base CX0 6 f fd ["table"] (spDo p.CT 8) := by
  refine F.ok scPrices (fun vs H Q E h => do_len (n := 0) rfl h) (fun cdv A outer s H vs Q E hr h => ?_)
  obtain ⟨t, st, d, as, ws, rfl, TA, ha, hR, hws, post⟩ := h
  obtain ⟨rfl, rfl⟩ := inv0 hR ha
  have e : callD st 8 [] = (st, Vbsgag.ints (Vbsgag.least st)) := rfl
  rw [e] at post
  refine ⟨_, pss_one (ps_ret (pe_call p.least (hr.mono (by decide)) rfl p.dLeast.mg p.dLeast.fn.kp p.dLeast.b .nil pass0 (pa_cons (pe_fld (pv 0) rfl) (pa_cons (pe_meth0 (pv 0) p.T.cl p.mWins.m p.wins (hr.mono (by decide)) p.mWins.b .nil pass0) pa_nil)))), ?_⟩
  have wf := TA.wf
  have hwl := wins_length wf
  have := wf.n5
  have := wf.m6
  refine ⟨_, rfl, t, p.CT, d.dx, _, _, rfl, TA.ob, p.T.cl, p.T.nB, tf_bases _ _ _, _, rfl, t, d.dx, _, rfl, TA.ob, tf_no _ _ _ (by decide +kernel) (by decide +kernel) (by decide +kernel), t, st, d, rfl, TA, fun H1 q s1 hq m1 => ?_⟩
  refine ⟨d.b, q, _, _, st.m, rfl, s1.il TA.hb, m1, wins_ne wf, fun r hr => wins_row wf hr, by rw [ints_length, wf.lb], by omega, by omega, fun H2 r s2 hr h2 => ?_⟩
  rw [least_L wf] at h2
  exact post _ r d (TA.same (s1.trans s2)) h2 (Kf.mk2 (Kf.of_same s1) hr s2) fun x hx => .inl hx
abbrev sGreatest : Stmt := stm 41
theorem scGreatest : FnScope ["table"] ["table"] (defScope sGreatest) := ⟨rfl, rfl, rfl, by decide +kernel, rfl, by decide +kernel, by decide +kernel⟩
theorem ok_greatest {f : Addr} {fd : FuncData} (p : Prg K mg) (F : Fun K "answer_greatest" "answer_greatest" sGreatest f fd) : FnOk P w K mg base CX0 6 f fd ["table"] (spDo p.CT 9) := by
  refine F.ok scGreatest (fun vs H Q E h => do_len (n := 0) rfl h) (fun cdv A outer s H vs Q E hr h => ?_)
  obtain ⟨t, st, d, as, ws, rfl, TA, ha, hR, hws, post⟩ := h
  obtain ⟨rfl, rfl⟩ := inv0 hR ha
  have e : callD st 9 [] = (st, Vbsgag.ints (Vbsgag.greatest st)) := rfl
  rw [e] at post
  refine ⟨_, pss_one (ps_ret (pe_call p.great (hr.mono (by decide)) rfl p.dGreat.mg p.dGreat.fn.kp p.dGreat.b .nil pass0 (pa_cons (pe_fld (pv 0) rfl) (pa_cons (pe_meth0 (pv 0) p.T.cl p.mWins.m p.wins (hr.mono (by decide)) p.mWins.b .nil pass0) pa_nil)))), ?_⟩
  have wf := TA.wf
  have hwl := wins_length wf
  have := wf.n5
  have := wf.m6
  refine ⟨_, rfl, t, p.CT, d.dx, _, _, rfl, TA.ob, p.T.cl, p.T.nB, tf_bases _ _ _, _, rfl, t, d.dx, _, rfl, TA.ob, tf_no _ _ _ (by decide +kernel) (by decide +kernel) (by decide +kernel), t, st, d, rfl, TA, fun H1 q s1 hq m1 => ?_⟩
  refine ⟨d.b, q, _, _, st.m, rfl, s1.il TA.hb, m1, wins_ne wf, fun r hr => wins_row wf hr, by rw [ints_length, wf.lb], by omega, by omega, fun H2 r s2 hr h2 => ?_⟩
  rw [great_L wf] at h2
  exact post _ r d (TA.same (s1.trans s2)) h2 (Kf.mk2 (Kf.of_same s1) hr s2) fun x hx => .inl hx
end
def gainsL (asg : List Int) (rows : List (List Int)) (ps : List Int) : List Int := List.zipWith (fun i row => gainI i row ps) asg rows
theorem gains_L {s : Vbsgag.State} (wf : WF s) : gainsL (Vbsgag.ints (Vbsgag.best s)) (s.rows.map Vbsgag.ints) (Vbsgag.ints (Vbsgag.least s)) = Vbsgag.gains s := by
  rw [gains_eq wf]
  unfold gainsL Vbsgag.ints
  rw [List.zipWith_map]
  apply List.ext_getElem?
  intro k
  rw [List.getElem?_zipWith, List.getElem?_zipWith]
  cases h1 : (Vbsgag.best s)[k]? with
  | none => rfl
  | some i =>
    cases h2 : s.rows[k]? with
    | none => rfl
    | some row =>
      show some _ = some _
      congr 1
      unfold gainI
      have e1 : (Int.ofNat i).toNat = i := rfl
      rw [e1]
      by_cases h : i = 0
      · rw [if_pos h, if_pos (by rw [h]; rfl)]
      · rw [if_neg h, if_neg (fun e => h (by have : (Int.ofNat i) = Int.ofNat 0 := e; exact Int.ofNat.inj this))]
        have e2 : ∀ (l : List Nat) (j : Nat), (l.map Int.ofNat).getD j 0 = (l.getD j 0 : Int) := fun l j => by
          rw [List.getD_eq_getElem?_getD, List.getElem?_map, List.getD_eq_getElem?_getD]
          cases l[j]? <;> rfl
        rw [e2, e2]
section
variable {P : Program} {w : World} {K : PySem.W.Frag} {mg : Str → Option Value} {base : Heap}
abbrev sGains : Stmt := stm 42
theorem scGains : FnScope ["table", "wins", "prices", "i", "worths"] ["table"] (defScope sGains) := ⟨rfl, rfl, rfl, by decide +kernel, rfl, by decide +kernel, by decide +kernel⟩
theorem ok_gains {f : Addr} {fd : FuncData} (p : Prg K mg) (F : Fun K "answer_gains" "answer_gains" sGains f fd) : FnOk P w K mg base CX0 6 f fd ["table"] (spDo p.CT 10) := by
  refine F.ok scGains (fun vs H Q E h => do_len (n := 0) rfl h) (fun cdv A outer s H vs Q E hr h => ?_)
  obtain ⟨t, st, d, as, ws, rfl, TA, ha, hR, hws, post⟩ := h
  obtain ⟨rfl, rfl⟩ := inv0 hR ha
  have e : callD st 10 [] = (st, Vbsgag.gains st) := rfl
  rw [e] at post
  have r1 : Room 1 _ := hr.mono (by decide)
  refine ⟨_, pss_cons (ps_set (i := 1) scGains.nd rfl (Or.inl rfl) (pe_meth0 (pv 0) p.T.cl p.mWins.m p.wins (hr.mono (by decide)) p.mWins.b .nil pass0))
    (pss_cons (ps_set (i := 2) scGains.nd rfl (Or.inr rfl) (pe_call p.least (hr.mono (by decide)) rfl p.dLeast.mg p.dLeast.fn.kp p.dLeast.b .nil pass0 (pa_cons (pe_fld (pv 0) rfl) (pa_cons (pv 1) pa_nil))))
    (pss_one (ps_ret (pe_lc rfl scGains.nd (pi_zip rfl p.B.zip (pa_cons (pe_ix ix_list (pe_call p.bas (hr.mono (by decide)) rfl p.dBas.mg p.dBas.fn.kp p.dBas.b .nil pass0 (pa_cons (pv 1) pa_nil)) pe_int (fun _ _ => rfl)) (pa_cons (pe_fld (pv 0) rfl) pa_nil))) (blkOk_by (own := [("i", 3), ("worths", 4)]) rfl)
      (fun _ _ _ _ _ => pg_tupK K rfl 2 rfl (pgs_cons (pg_name (i := 3) scGains.nd rfl (Or.inl rfl) (Or.inr rfl)) (pgs_cons (pg_name (i := 4) scGains.nd rfl (Or.inl rfl) (Or.inr rfl)) pgs_nil)) rfl)
      (fun _ _ _ _ _ => pts_nil) (fun _ _ _ _ _ => pe_call p.gain r1 rfl p.dGain.mg p.dGain.fn.kp p.dGain.b .nil pass0 (pa_cons (pv 3) (pa_cons (pv 4) (pa_cons (pv 2) pa_nil)))))))), ?_⟩
  have wf := TA.wf
  have hwl := wins_length wf
  have := wf.n5
  have := wf.m6
  refine ⟨_, rfl, t, d.dx, _, rfl, TA.ob, tf_no _ _ _ (by decide +kernel) (by decide +kernel) (by decide +kernel), t, st, d, rfl, TA, fun H1 q s1 hq m1 => ?_⟩
  have TA1 := TA.same s1
  refine ⟨_, rfl, t, p.CT, d.dx, _, _, rfl, TA1.ob, p.T.cl, p.T.nB, tf_bases _ _ _, _, rfl, d.b, q, _, _, st.m, rfl, TA1.hb, m1, wins_ne wf, fun r hr => wins_row wf hr, by rw [ints_length, wf.lb], by omega, by omega, fun H2 pr s2 hpr h2 => ?_⟩
  rw [least_L wf] at h2
  refine ⟨_, rfl, q, wins st, st.m, rfl, s2.mat m1, wins_ne wf, fun r hr => wins_row wf hr, by omega, by omega, fun H3 bs s3 hbs m3 => ?_⟩
  obtain ⟨xs, b, g1, g2, h3⟩ := m3.ix (K := K) (k := 0) (bestsI_head wf)
  have s123 := (s1.trans s2).trans s3
  have TA3 := TA.same s123
  refine ⟨bs, xs, 0, _, rfl, rfl, g1, g2, _, rfl, t, p.CT, d.dx, _, _, rfl, TA3.ob, p.T.cl, p.T.nW, tf_worths _ _ _, b, d.ws, _, _, rfl, SqL.of h3, SqL.of TA3.hw, fun D hD => ?_⟩
  have hbl := best_len' wf
  refine lc_zip (K := K) (a := b) (b := d.ws) (xs := (Vbsgag.ints (Vbsgag.best st)).map V.int) (ys := d.rs.map V.ref) (fun i H' => Same H3 H' ∧ IL H' D ((gainsL (Vbsgag.ints (Vbsgag.best st)) (st.rows.map Vbsgag.ints) (Vbsgag.ints (Vbsgag.least st))).take i)) (by rw [List.length_map, List.length_map, TA.hl, hbl, hwl]) ⟨same_new hD, upd_same⟩
    (fun i H' _ p => ⟨p.1.seq (SqL.of h3), SqL.of (p.1 _ _ TA3.hw)⟩) ?_ ?_
  · rintro i x y H' T hx hy ⟨s4, hD4⟩ hT
    obtain ⟨z, hz1, rfl⟩ := int_at hx
    obtain ⟨r, hr1, rfl⟩ := ref_at hy
    have hi : i < st.rows.length := by
      rw [wf.lr, ← TA.hl]
      exact (List.getElem?_eq_some_iff.mp hr1).1
    have hrow : st.rows[i]? = some st.rows[i] := List.getElem?_eq_getElem hi
    have s5 : Same H3 (upd H' T (.tup [.int z, .ref r])) := Same.put s4 (s4.free hT)
    have hD5 : IL (upd H' T (.tup [.int z, .ref r])) D ((gainsL (Vbsgag.ints (Vbsgag.best st)) (st.rows.map Vbsgag.ints) (Vbsgag.ints (Vbsgag.least st))).take i) := by
      rw [IL, upd_ne (ne_of_none hD4 hT)]
      exact hD4
    refine ⟨T, _, rfl, SqT.of upd_same, rfl, _, _, rfl, _, _, rfl, rfl, rfl, tyes ?_⟩
    generalize upd H' T (.tup [.int z, .ref r]) = H5 at s5 hD5 ⊢
    have hil := s5.il (TA3.hr i r _ hr1 hrow)
    have hlr : st.rows[i].length = st.m := wf.lw _ (List.getElem_mem hi)
    have eg : (gainsL (Vbsgag.ints (Vbsgag.best st)) (st.rows.map Vbsgag.ints) (Vbsgag.ints (Vbsgag.least st)))[i]? = some (gainI z (Vbsgag.ints st.rows[i]) (Vbsgag.ints (Vbsgag.least st))) := by
      unfold gainsL
      rw [List.getElem?_zipWith, hz1, List.getElem?_map, hrow]
      rfl
    refine ⟨_, rfl, _, rfl, _, rfl, r, pr, z, _, _, rfl, hil, s5.il (s3.il h2), ?_, _, hD5, ?_, Same.put s5 hD, ?_⟩
    · rw [ints_length, ints_length, hlr, length_least]
      rcases best_asg wf z (List.mem_of_getElem? hz1) with e | e
      · exact .inl e
      · exact .inr ⟨e.1, e.2, e.2⟩
    · rw [List.length_map, List.length_take]
      have h9 := (List.getElem?_eq_some_iff.mp hz1).1
      exact small (by omega)
    · rw [IL, upd_same, take_snoc eg, List.map_append]
      rfl
  · rintro H' ⟨s4, hD4⟩
    rw [List.take_of_length_le (by unfold gainsL; rw [List.length_zipWith, List.length_map, List.length_map]; exact Nat.min_le_left _ _), gains_L wf] at hD4
    exact post _ D d (TA.same (s123.trans s4)) hD4 (Kf.mk2 (Kf.of_same s123) hD s4) fun x hx => .inl hx
end
end TW

end

section
set_option Elab.async false
set_option linter.all false
set_option maxRecDepth 100000
set_option maxHeartbeats 2000000
namespace TW
open PySem PySem.Spec PyProof.Rows L2

theorem subM_ok {s : Vbsgag.State} (wf : WF s) : (subM s.m).length ≤ 1000 ∧ ∀ l ∈ subM s.m, l.length ≤ s.m ∧ l.length ≤ 100 ∧ ∀ i ∈ l, 1 ≤ i ∧ i ≤ 1000 := by
  have := wf.m6
  refine ⟨?_, fun l hl => ?_⟩
  · have h1 := chkQ_all wf.m1 wf.m6
    rw [← h1.1, List.length_map]
    have h2 : (qs s.m).length ≤ 100 := by
      have e : s.m = 1 ∨ s.m = 2 ∨ s.m = 3 ∨ s.m = 4 ∨ s.m = 5 ∨ s.m = 6 := by have := wf.m1; omega
      rcases e with e | e | e | e | e | e <;> rw [e] <;> decide +kernel
    omega
  · have h0 := subsets_mem (s := s) hl
    obtain ⟨kk, hk, h⟩ := List.mem_flatMap.mp hl
    have h2 := choose_len kk _ h
    have h3 := (mem_firms (s := s)).mp hk
    refine ⟨by omega, by omega, fun i hi => ?_⟩
    have := h0.2.1 i hi
    omega
theorem nats_len (l : List Int) : (Vbsgag.nats l).length = l.length := by simp [Vbsgag.nats]
section
variable {P : Program} {w : World} {K : PySem.W.Frag} {mg : Str → Option Value} {base : Heap}
abbrev sCompetitive : Stmt := stm 43
theorem scCompetitive : FnScope ["table", "prices"] ["table", "prices"] (defScope sCompetitive) := ⟨rfl, rfl, rfl, by decide +kernel, rfl, by decide +kernel, by decide +kernel⟩
theorem ok_competitive {f : Addr} {fd : FuncData} (p : Prg K mg) (F : Fun K "answer_competitive" "answer_competitive" sCompetitive f fd) : FnOk P w K mg base CX0 6 f fd ["table", "prices"] (spDo p.CT 11) := by
  refine F.ok scCompetitive (fun vs H Q E h => do_len (n := 1) rfl h) (fun cdv A outer s H vs Q E hr h => ?_)
  obtain ⟨t, st, d, as, ws, rfl, TA, ha, hR, hws, post⟩ := h
  obtain ⟨l, q, rfl, rfl, hil, hz, hm⟩ := invL (k := .amounts) hR rfl ha
  have hm : Vbsgag.areMoney st l = true := hm
  have e : callD st 11 [.l l] = (st, [if Vbsgag.competitive st (Vbsgag.nats l) = true then 1 else 0]) := by
    show Vbsgag.asked st [(Vbsgag.areMoney st l, -2)] _ = _
    rw [hm]
    rfl
  rw [e] at post
  refine ⟨_, pss_one (ps_ret (pe_lst (pa_cons (pe_ifExp (pt_val (pe_call p.cp (hr.mono (by decide)) rfl p.dCp.mg p.dCp.fn.kp p.dCp.b .nil pass0 (pa_cons (pv 0) (pa_cons (pv 1) pa_nil)))) pe_int pe_int) pa_nil))), ?_⟩
  obtain ⟨m1, m2, m3⟩ := areMoney_nats hm
  refine ⟨_, rfl, _, rfl, t, q, st, d, Vbsgag.nats l, rfl, TA, by rw [m3]; exact hil, by rw [nats_len, m1], fun H1 s1 => ⟨_, rfl, ?_⟩⟩
  have fin : ∀ z : Int, z = (if Vbsgag.competitive st (Vbsgag.nats l) = true then 1 else 0) → (1 ≤ sizeLine ∧ ∀ r, H1 r = Option.none → Q (.ref r) (upd H1 r (.lst [V.int z]))) := fun z hz => by
    refine ⟨(by decide), fun r hr2 => ?_⟩
    have s2 := Same.put (o := .lst [V.int z]) s1 (s1.free hr2)
    refine post _ r d (TA.same s2) ?_ (Kf.mk (Kf.of_same s1) hr2) fun x hx => .inl hx
    rw [IL, upd_same, hz]
    rfl
  cases hc : Vbsgag.competitive st (Vbsgag.nats l) with
  | true => exact iteT (fin 1 (by rw [hc]; rfl))
  | false => exact iteF (fin 0 (by rw [hc]; rfl))
abbrev sDemand : Stmt := stm 44
theorem scDemand : FnScope ["table", "p", "prices", "gains", "firms"] ["table", "p", "prices"] (defScope sDemand) := ⟨rfl, rfl, rfl, by decide +kernel, rfl, by decide +kernel, by decide +kernel⟩
theorem ok_demand {f : Addr} {fd : FuncData} (p : Prg K mg) (F : Fun K "answer_demand" "answer_demand" sDemand f fd) : FnOk P w K mg base CX0 6 f fd ["table", "p", "prices"] (spDo p.CT 12) := by
  refine F.ok scDemand (fun vs H Q E h => do_len (n := 2) rfl h) (fun cdv A outer s H vs Q E hr h => ?_)
  obtain ⟨t, st, d, as, ws, rfl, TA, ha, hR, hws, post⟩ := h
  obtain ⟨x, l, q, rfl, rfl, hil, hz, hx, hm⟩ := inv2L (k := .player) (l := .amounts) hR rfl rfl ha
  have hx : Vbsgag.isPlayer st x = true := hx
  have hm : Vbsgag.areMoney st l = true := hm
  have e : callD st 12 [.n x, .l l] = (st, Vbsgag.bestGain st (Vbsgag.nats l) x.toNat :: Vbsgag.counted (Vbsgag.demand st (Vbsgag.nats l) x.toNat)) := by
    show Vbsgag.asked st [(Vbsgag.isPlayer st x, -1), (Vbsgag.areMoney st l, -2)] _ = _
    rw [hx, hm]
    rfl
  rw [e] at post
  have r1 : Room 1 _ := hr.mono (by decide)
  refine ⟨_, pss_cons (ps_set (i := 3) scDemand.nd rfl (Or.inl rfl) (pe_call p.gat r1 rfl p.dGat.mg p.dGat.fn.kp p.dGat.b .nil pass0 (pa_cons (pe_ix ix_list (pe_fld (pv 0) rfl) (pe_op op_sub (pv 1) pe_int) (fun _ _ => rfl)) (pa_cons (pv 2) pa_nil))))
    (pss_cons (ps_set (i := 4) scDemand.nd rfl (Or.inl rfl) (pe_call p.dem (hr.mono (by decide)) rfl p.dDem.mg p.dDem.fn.kp p.dDem.b .nil pass0 (pa_cons (pv 3) pa_nil)))
    (pss_one (ps_ret (pe_op op_cat (pe_lst (pa_cons (pe_call p.gg r1 rfl p.dGg.mg p.dGg.fn.kp p.dGg.b .nil pass0 (pa_cons (pv 3) pa_nil)) (pa_cons (pe_callB call_len_seq rfl p.B.len bt_len (pa_cons (pv 4) pa_nil)) pa_nil))) (pv 4))))), ?_⟩
  obtain ⟨m1, m2, m3⟩ := areMoney_nats hm
  obtain ⟨r, hr1, hr2, ex, hxn, hrl, hx1, hx2⟩ := TA.row hx
  have wf := TA.wf
  have := wf.m6
  have hq : (Vbsgag.nats l).length = st.m := by rw [nats_len, m1]
  have hil2 : IL H q (Vbsgag.ints (Vbsgag.nats l)) := by rw [m3]; exact hil
  have hgl : (gl (Vbsgag.ints (st.rows.getD (x.toNat - 1) [])) (Vbsgag.ints (Vbsgag.nats l))).length = st.m := by rw [gl_length _ _ (by rw [ints_length, ints_length, hrl, hq]), ints_length, hrl]
  rw [bestGain_eq wf hq hx1 hx2, demand_eq wf hq hx1 hx2] at post
  refine ⟨_, rfl, t, p.CT, d.dx, _, _, rfl, TA.ob, p.T.cl, p.T.nW, tf_worths _ _ _, _, rfl, _, _, rfl, rfl, d.ws, _, _, V.ref r, rfl, rfl, SqL.of TA.hw, by rw [ex]; exact atI_nat (map_at hr1), _, rfl, r, q, _, _, rfl, hr2, hil2, by rw [ints_length, ints_length, hrl, hq], by rw [ints_length, hrl]; omega, fun H1 g s1 hg h1 => ?_⟩
  generalize gl (Vbsgag.ints (st.rows.getD (x.toNat - 1) [])) (Vbsgag.ints (Vbsgag.nats l)) = G0 at hgl post h1
  refine ⟨_, rfl, g, G0, rfl, h1, by omega, fun H2 b s2 hb h2 => ?_⟩
  refine ⟨_, rfl, g, G0, rfl, s2.il h1, by omega, fun H3 s3 => ?_⟩
  have h3 := s3.il h2
  have hdl : (demL G0).length ≤ 6 := by
    have := demTo_len G0 (Vbsgag.most G0 0) G0.length
    rw [demTo_all] at this
    omega
  have el : (((Vbsgag.ints (demL G0)).map V.int).length : Nat) = (demL G0).length := by rw [List.length_map, ints_length]
  refine ⟨_, rfl, b, _, rfl, .inl (SqL.of h3), (by show 2 ≤ sizeLine; decide), fun c hc => ?_⟩
  rw [el]
  have s4 : Same H3 (upd H3 c (.lst [V.int (Vbsgag.most G0 0), V.int ((demL G0).length : Nat)])) := same_new hc
  refine ⟨_, rfl, c, b, _, _, rfl, rfl, upd_same, s4.il h3, by rw [el]; exact smallE (by show 2 + _ ≤ 100000; omega), fun c2 hc2 => ?_⟩
  have s14 := ((s1.trans s2).trans s3).trans s4
  have s5 := Same.put (o := .lst ([V.int (Vbsgag.most G0 0), V.int ((demL G0).length : Nat)] ++ (Vbsgag.ints (demL G0)).map V.int)) s14 (s14.free hc2)
  refine post _ c2 d (TA.same s5) ?_ (Kf.mk (Kf.of_same s14) hc2) fun x hx => .inl hx
  rw [IL, upd_same]
  rfl
abbrev sOver : Stmt := stm 45
theorem scOver : FnScope ["table", "prices", "firms"] ["table", "prices"] (defScope sOver) := ⟨rfl, rfl, rfl, by decide +kernel, rfl, by decide +kernel, by decide +kernel⟩
theorem ok_over {f : Addr} {fd : FuncData} (p : Prg K mg) (F : Fun K "answer_over" "answer_over" sOver f fd) : FnOk P w K mg base CX0 6 f fd ["table", "prices"] (spDo p.CT 13) := by
  refine F.ok scOver (fun vs H Q E h => do_len (n := 1) rfl h) (fun cdv A outer s H vs Q E hr h => ?_)
  obtain ⟨t, st, d, as, ws, rfl, TA, ha, hR, hws, post⟩ := h
  obtain ⟨l, q, rfl, rfl, hil, hz, hm⟩ := invL (k := .amounts) hR rfl ha
  have hm : Vbsgag.areMoney st l = true := hm
  have e : callD st 13 [.l l] = (st, Vbsgag.counted ((Vbsgag.over st (Vbsgag.nats l)).getD [])) := by
    show Vbsgag.asked st [(Vbsgag.areMoney st l, -2)] _ = _
    rw [hm]
    rfl
  rw [e] at post
  refine ⟨_, pss_cons (ps_set (i := 2) scOver.nd rfl (Or.inl rfl) (pe_call p.fo (hr.mono (by decide)) rfl p.dFo.mg p.dFo.fn.kp p.dFo.b .nil pass0 (pa_cons (pe_call p.ws (hr.mono (by decide)) rfl p.dWs.mg p.dWs.fn.kp p.dWs.b .nil pass0 (pa_cons (pe_fld (pv 0) rfl) (pa_cons (pv 1) pa_nil)))
      (pa_cons (pe_call p.lio (hr.mono (by decide)) rfl p.dLio.mg p.dLio.fn.kp p.dLio.b .nil pass0 (pa_cons (pe_callB call_len_seq rfl p.B.len bt_len (pa_cons (pv 1) pa_nil)) pa_nil)) pa_nil))))
    (pss_one (ps_ret (pe_op op_cat (pe_lst (pa_cons (pe_callB call_len_seq rfl p.B.len bt_len (pa_cons (pv 2) pa_nil)) pa_nil)) (pv 2)))), ?_⟩
  obtain ⟨m1, m2, m3⟩ := areMoney_nats hm
  have wf := TA.wf
  have := wf.m6
  have := wf.n5
  have hq : (Vbsgag.nats l).length = st.m := by rw [nats_len, m1]
  have hil2 : IL H q (Vbsgag.ints (Vbsgag.nats l)) := by rw [m3]; exact hil
  have hov := over_eq wf hq
  rw [subsets_eq] at hov
  rw [hov] at post
  generalize Vbsgag.nats l = N at hq hil2 post
  obtain ⟨hs1, hs2⟩ := subM_ok wf
  have hwl := wantedL_len (st.rows.map Vbsgag.ints) (Vbsgag.ints N)
  have hrn : (st.rows.map Vbsgag.ints).length = st.n := by rw [List.length_map, wf.lr]
  refine ⟨_, rfl, t, p.CT, d.dx, _, _, rfl, TA.ob, p.T.cl, p.T.nW, tf_worths _ _ _, _, rfl, d.ws, q, _, _, rfl, TA.mat, hil2, fun r hr => by rw [ints_length, hq]; exact TA.wanted r hr, by rw [ints_length]; omega, by omega, fun H1 wn s1 hwn h1 => ?_⟩
  have el : ∀ L : List Nat, (((Vbsgag.ints L).map V.int).length : Nat) = L.length := fun L => by rw [List.length_map, ints_length]
  refine ⟨_, rfl, q, _, rfl, .inl (SqL.of (s1.il hil2)), st.m, by rw [el, hq]; rfl, wf.m1, wf.m6, fun H2 ls s2 hls m2 nr2 => ?_⟩
  refine ⟨wn, ls, _, subM st.m, rfl, s2.il h1, m2, by omega, hs1, fun l hl => (hs2 l hl).2, fun H3 b s3 h3 hb => ?_⟩
  have hfl : (firstOver (wantedL (st.rows.map Vbsgag.ints) (Vbsgag.ints N)) (subM st.m)).length ≤ 6 := by
    by_cases hz : firstOver (wantedL (st.rows.map Vbsgag.ints) (Vbsgag.ints N)) (subM st.m) = []
    · rw [hz]
      exact Nat.zero_le _
    · have h9 : (firstOver (wantedL (st.rows.map Vbsgag.ints) (Vbsgag.ints N)) (subM st.m)).length ≤ st.m := (hs2 _ (firstOver_mem (s := st) hz)).1
      omega
  generalize firstOver (wantedL (st.rows.map Vbsgag.ints) (Vbsgag.ints N)) (subM st.m) = G0 at hfl post h3
  refine ⟨_, rfl, b, _, rfl, .inl (SqL.of h3), (by show 1 ≤ sizeLine; decide), fun c hc => ?_⟩
  rw [el]
  have s4 : Same H3 (upd H3 c (.lst [V.int (G0.length : Nat)])) := same_new hc
  refine ⟨_, rfl, c, b, _, _, rfl, rfl, upd_same, s4.il h3, by rw [el]; exact smallE (by show 1 + _ ≤ 100000; omega), fun c2 hc2 => ?_⟩
  have s14 := ((s1.trans s2).trans s3).trans s4
  have s5 := Same.put (o := .lst ([V.int (G0.length : Nat)] ++ (Vbsgag.ints G0).map V.int)) s14 (s14.free hc2)
  refine post _ c2 d (TA.same s5) ?_ (Kf.mk (Kf.of_same s14) hc2) fun x hx => .inl hx
  rw [IL, upd_same]
  rfl
abbrev sClock : Stmt := stm 46
theorem scClock : FnScope ["table"] ["table"] (defScope sClock) := ⟨rfl, rfl, rfl, by decide +kernel, rfl, by decide +kernel, by decide +kernel⟩
theorem ok_clock {f : Addr} {fd : FuncData} (p : Prg K mg) (F : Fun K "answer_clock" "answer_clock" sClock f fd) : FnOk P w K mg base CX0 6 f fd ["table"] (spDo p.CT 14) := by
  refine F.ok scClock (fun vs H Q E h => do_len (n := 0) rfl h) (fun cdv A outer s H vs Q E hr h => ?_)
  obtain ⟨t, st, d, as, ws, rfl, TA, ha, hR, hws, post⟩ := h
  obtain ⟨rfl, rfl⟩ := inv0 hR ha
  have e : callD st 14 [] = (st, Vbsgag.ints st.clock) := rfl
  rw [e] at post
  refine ⟨_, pss_one (ps_ret (pe_callTy call_list_of rfl p.B.list bt_list (pa_cons (pe_fld (pv 0) rfl) pa_nil))), ?_⟩
  refine ⟨_, rfl, t, p.CT, d.dx, _, _, rfl, TA.ob, p.T.cl, p.T.nC, tf_clock _ _ _, d.c, _, rfl, .inl (SqL.of TA.hc), fun q hq => ?_⟩
  have s3 := same_new (o := .lst ((Vbsgag.ints st.clock).map V.int)) hq
  exact post _ q d (TA.same s3) upd_same (Kf.mk (Kf.of_same (Same.refl H)) hq) fun x hx => .inl hx
abbrev sTick : Stmt := stm 47
theorem scTick : FnScope ["table", "k", "made"] ["table", "k"] (defScope sTick) := ⟨rfl, rfl, rfl, by decide +kernel, rfl, by decide +kernel, by decide +kernel⟩
theorem ok_tick {f : Addr} {fd : FuncData} (p : Prg K mg) (F : Fun K "answer_tick" "answer_tick" sTick f fd) : FnOk P w K mg base CX0 6 f fd ["table", "k"] (spDo p.CT 15) := by
  refine F.ok scTick (fun vs H Q E h => do_len (n := 1) rfl h) (fun cdv A outer s H vs Q E hr h => ?_)
  obtain ⟨t, st, d, as, ws, rfl, TA, ha, hR, hws, post⟩ := h
  obtain ⟨x, rfl, rfl, hx⟩ := inv1 (k := .rounds) hR rfl ha
  have hx : Vbsgag.between 1 x 1000 = true := hx
  have e : callD st 15 [.n x] = ({ st with clock := (Vbsgag.ticks st x.toNat st.clock).2 }, Int.ofNat (Vbsgag.ticks st x.toNat st.clock).1 :: Vbsgag.ints (Vbsgag.ticks st x.toNat st.clock).2) := by
    show (if Vbsgag.between 1 x 1000 = false then (st, [-2]) else _) = _
    rw [hx]
    rfl
  rw [e] at post
  unfold Vbsgag.between at hx
  simp only [Bool.and_eq_true, decide_eq_true_eq] at hx
  refine ⟨_, pss_cons (ps_set (i := 2) scTick.nd rfl (Or.inl rfl) (pe_call p.mr (hr.mono (by decide)) rfl p.dMr.mg p.dMr.fn.kp p.dMr.b .nil pass0 (pa_cons (pv 0) (pa_cons (pv 1) pa_nil))))
    (pss_one (ps_ret (pe_op op_cat (pe_lst (pa_cons (pv 2) pa_nil)) (pe_fld (pv 0) rfl)))), ?_⟩
  have ex : (x : Int) = ((x.toNat : Nat) : Int) := by omega
  refine ⟨_, rfl, _, rfl, t, st, d, x.toNat, by rw [← ex]; rfl, TA, by omega, fun H1 T1 k1 => ?_⟩
  have wf1 := T1.wf
  have hcl : (Vbsgag.ticks st x.toNat st.clock).2.length = st.m := wf1.lc
  have := TA.wf.m6
  generalize Vbsgag.ticks st x.toNat st.clock = R at T1 hcl post ⊢
  refine ⟨_, rfl, (by show 1 ≤ sizeLine; decide), fun c hc => ?_⟩
  have s2 : Same H1 (upd H1 c (.lst [V.int (R.1 : Nat)])) := same_new hc
  have T2 := T1.same s2
  have el : (((Vbsgag.ints R.2).map V.int).length : Nat) = R.2.length := by rw [List.length_map, ints_length]
  refine ⟨_, rfl, t, p.CT, d.dx, _, _, rfl, T2.ob, p.T.cl, p.T.nC, tf_clock _ _ _, c, d.c, _, _, rfl, rfl, upd_same, T2.hc, by show _ + ((Vbsgag.ints R.2).map V.int).length ≤ _; rw [el]; exact smallE (by show 1 + _ ≤ 100000; omega), fun c2 hc2 => ?_⟩
  have s3 : Same H1 (upd (upd H1 c (.lst [V.int (R.1 : Nat)])) c2 (.lst ([V.int (R.1 : Nat)] ++ (Vbsgag.ints R.2).map V.int))) := s2.trans (same_new hc2)
  have kf : Kf (d.foot t) H H1 := Kf.of_kb k1 (by simp [Tb.foot])
  refine post _ c2 d (T1.same s3) ?_ (Kf.mk2 kf (s2.free hc2) s3) fun x hx => .inl hx
  rw [IL]
  exact upd_same
abbrev sRestart : Stmt := stm 48
theorem scRestart : FnScope ["table"] ["table"] (defScope sRestart) := ⟨rfl, rfl, rfl, by decide +kernel, rfl, by decide +kernel, by decide +kernel⟩
theorem ok_restart {f : Addr} {fd : FuncData} (p : Prg K mg) (F : Fun K "answer_restart" "answer_restart" sRestart f fd) : FnOk P w K mg base CX0 6 f fd ["table"] (spDo p.CT 16) := by
  refine F.ok scRestart (fun vs H Q E h => do_len (n := 0) rfl h) (fun cdv A outer s H vs Q E hr h => ?_)
  obtain ⟨t, st, d, as, ws, rfl, TA, ha, hR, hws, post⟩ := h
  obtain ⟨rfl, rfl⟩ := inv0 hR ha
  have e : callD st 16 [] = (Vbsgag.wound st, [0]) := rfl
  rw [e] at post
  refine ⟨_, pss_cons (ps_expr (pe_meth0 (pv 0) p.T.cl p.mBack.m p.back (hr.mono (by decide)) p.mBack.b .nil pass0)) (pss_one (ps_ret (pe_lst (pa_cons pe_int pa_nil)))), ?_⟩
  refine ⟨_, rfl, t, d.dx, _, rfl, TA.ob, tf_no _ _ _ (by decide +kernel) (by decide +kernel) (by decide +kernel), t, _, d, rfl, TA, fun H4 c T4 hc4 k4 => ?_⟩
  refine ⟨(by show 1 ≤ sizeLine; decide), fun r hr2 => ?_⟩
  have s5 := same_new (o := .lst [V.int 0]) hr2
  exact post _ r _ (T4.same s5) upd_same (Kf.mk (Kf.of_kb k4 (by simp [Tb.foot])) hr2) (foot_new (Kf.of_same (Same.refl H)) hc4 fun z hz => .inl hz)
abbrev sWithout : Stmt := stm 49
theorem scWithout : FnScope ["table", "p"] ["table", "p"] (defScope sWithout) := ⟨rfl, rfl, rfl, by decide +kernel, rfl, by decide +kernel, by decide +kernel⟩
theorem ok_without {f : Addr} {fd : FuncData} (p : Prg K mg) (F : Fun K "answer_without" "answer_without" sWithout f fd) : FnOk P w K mg base CX0 6 f fd ["table", "p"] (spDo p.CT 17) := by
  refine F.ok scWithout (fun vs H Q E h => do_len (n := 1) rfl h) (fun cdv A outer s H vs Q E hr h => ?_)
  obtain ⟨t, st, d, as, ws, rfl, TA, ha, hR, hws, post⟩ := h
  obtain ⟨x, rfl, rfl, hx⟩ := inv1 (k := .player) hR rfl ha
  have hx : Vbsgag.isPlayer st x = true := hx
  have e : callD st 17 [.n x] = (st, [Vbsgag.top st ((Vbsgag.players st).filter fun q => q != x.toNat) (Vbsgag.firms st)]) := by
    show Vbsgag.asked st [(Vbsgag.isPlayer st x, -1)] _ = _
    rw [hx]
    rfl
  rw [e] at post
  refine ⟨_, pss_one (ps_ret (pe_lst (pa_cons (pe_call p.tw (hr.mono (by decide)) rfl p.dTw.mg p.dTw.fn.kp p.dTw.b .nil pass0 (pa_cons (pe_meth0 (pv 0) p.T.cl p.mWins.m p.wins (hr.mono (by decide)) p.mWins.b .nil pass0) (pa_cons (pv 1) pa_nil))) pa_nil))), ?_⟩
  have wf := TA.wf
  have hwl := wins_length wf
  have := wf.n5
  have := wf.m6
  have hxi := isPlayer_iff.mp hx
  rw [without_eq wf (p := x.toNat) (by omega) (by omega)] at post
  refine ⟨_, rfl, t, d.dx, _, rfl, TA.ob, tf_no _ _ _ (by decide +kernel) (by decide +kernel) (by decide +kernel), t, st, d, rfl, TA, fun H1 q s1 hq m1 => ?_⟩
  refine ⟨_, rfl, q, wins st, st.m, x, rfl, m1, fun r hr => wins_row wf hr, by omega, by omega, hxi.1, by rw [hwl]; exact hxi.2, fun H2 s2 => ?_⟩
  refine ⟨(by show 1 ≤ sizeLine; decide), fun r hr => ?_⟩
  have s3 := Same.put (o := .lst [V.int (G ((wins st).set (x.toNat - 1) (List.replicate st.m 0)) (List.range st.m))]) (s1.trans s2) ((s1.trans s2).free hr)
  refine post _ r d (TA.same s3) ?_ (Kf.mk (Kf.of_same (s1.trans s2)) hr) fun x hx => .inl hx
  rw [IL, upd_same]
  rfl
abbrev sLie : Stmt := stm 50
theorem scLie : FnScope ["table", "p", "worths"] ["table", "p", "worths"] (defScope sLie) := ⟨rfl, rfl, rfl, by decide +kernel, rfl, by decide +kernel, by decide +kernel⟩
theorem ok_lie {f : Addr} {fd : FuncData} (p : Prg K mg) (F : Fun K "answer_lie" "answer_lie" sLie f fd) : FnOk P w K mg base CX0 6 f fd ["table", "p", "worths"] (spDo p.CT 18) := by
  refine F.ok scLie (fun vs H Q E h => do_len (n := 2) rfl h) (fun cdv A outer s H vs Q E hr h => ?_)
  obtain ⟨t, st, d, as, ws, rfl, TA, ha, hR, hws, post⟩ := h
  obtain ⟨x, l, q, rfl, rfl, hil, hz, hx, hm⟩ := inv2L (k := .player) (l := .amounts) hR rfl rfl ha
  have hx : Vbsgag.isPlayer st x = true := hx
  have hm : Vbsgag.areMoney st l = true := hm
  have e : callD st 18 [.n x, .l l] = (st, [Vbsgag.trueGain st (Vbsgag.told st x.toNat (Vbsgag.nats l)) x.toNat, Vbsgag.trueGain st st x.toNat]) := by
    show Vbsgag.asked st [(Vbsgag.isPlayer st x, -1), (Vbsgag.areMoney st l, -2)] _ = _
    rw [hx, hm]
    rfl
  rw [e] at post
  have r5 : Room 5 _ := hr.mono (by decide)
  refine ⟨_, pss_one (ps_ret (pe_lst (pa_cons (pe_call p.git r5 rfl p.dGit.mg p.dGit.fn.kp p.dGit.b .nil pass0 (pa_cons (pv 0) (pa_cons (pv 1) (pa_cons (pv 2) pa_nil))))
    (pa_cons (pe_call p.git r5 rfl p.dGit.mg p.dGit.fn.kp p.dGit.b .nil pass0 (pa_cons (pv 0) (pa_cons (pv 1) (pa_cons (pe_ix ix_list (pe_fld (pv 0) rfl) (pe_op op_sub (pv 1) pe_int) (fun _ _ => rfl)) pa_nil)))) pa_nil)))), ?_⟩
  obtain ⟨m1, m2, m3⟩ := areMoney_nats hm
  obtain ⟨r, hr1, hr2, ex, hxn, hrl, hx1, hx2⟩ := TA.row hx
  have wf := TA.wf
  refine ⟨_, rfl, _, rfl, _, rfl, t, q, st, d, x, Vbsgag.nats l, rfl, TA, by rw [m3]; exact hil, by rw [nats_len, m1], hx, fun H1 s1 => ?_⟩
  have TA1 := TA.same s1
  refine ⟨_, rfl, _, rfl, _, rfl, t, p.CT, d.dx, _, _, rfl, TA1.ob, p.T.cl, p.T.nW, tf_worths _ _ _, _, rfl, _, _, rfl, rfl, d.ws, _, _, V.ref r, rfl, rfl, SqL.of TA1.hw, by rw [ex]; exact atI_nat (map_at hr1), ?_⟩
  refine ⟨t, r, st, d, x, _, rfl, TA1, s1.il hr2, hrl, hx, fun H2 s2 => ?_⟩
  rw [told_self wf hx1 hx2]
  refine ⟨(by show 2 ≤ sizeLine; decide), fun c hc => ?_⟩
  have s3 := Same.put (o := .lst [V.int (Vbsgag.trueGain st (Vbsgag.told st x.toNat (Vbsgag.nats l)) x.toNat), V.int (Vbsgag.trueGain st st x.toNat)]) (s1.trans s2) ((s1.trans s2).free hc)
  refine post _ c d (TA.same s3) ?_ (Kf.mk (Kf.of_same (s1.trans s2)) hc) fun x hx => .inl hx
  rw [IL, upd_same]
  rfl
abbrev sBurden : Stmt := stm 51
theorem scBurden : FnScope ["table", "p", "wins", "others"] ["table", "p"] (defScope sBurden) := ⟨rfl, rfl, rfl, by decide +kernel, rfl, by decide +kernel, by decide +kernel⟩
theorem ok_burden {f : Addr} {fd : FuncData} (p : Prg K mg) (F : Fun K "answer_burden" "answer_burden" sBurden f fd) : FnOk P w K mg base CX0 6 f fd ["table", "p"] (spDo p.CT 19) := by
  refine F.ok scBurden (fun vs H Q E h => do_len (n := 1) rfl h) (fun cdv A outer s H vs Q E hr h => ?_)
  obtain ⟨t, st, d, as, ws, rfl, TA, ha, hR, hws, post⟩ := h
  obtain ⟨x, rfl, rfl, hx⟩ := inv1 (k := .player) hR rfl ha
  have hx : Vbsgag.isPlayer st x = true := hx
  have e : callD st 19 [.n x] = (st, [Vbsgag.burden st x.toNat]) := by
    show Vbsgag.asked st [(Vbsgag.isPlayer st x, -1)] _ = _
    rw [hx]
    rfl
  rw [e] at post
  refine ⟨_, pss_cons (ps_set (i := 2) scBurden.nd rfl (Or.inl rfl) (pe_meth0 (pv 0) p.T.cl p.mWins.m p.wins (hr.mono (by decide)) p.mWins.b .nil pass0))
    (pss_cons (ps_set (i := 3) scBurden.nd rfl (Or.inl rfl) (pe_call p.rep (hr.mono (by decide)) rfl p.dRep.mg p.dRep.fn.kp p.dRep.b .nil pass0 (pa_cons (pe_ix ix_list (pe_call p.bas (hr.mono (by decide)) rfl p.dBas.mg p.dBas.fn.kp p.dBas.b .nil pass0 (pa_cons (pv 2) pa_nil)) pe_int (fun _ _ => rfl)) (pa_cons (pv 1) (pa_cons pe_int pa_nil)))))
    (pss_one (ps_ret (pe_lst (pa_cons (pe_op op_sub (pe_call p.tw (hr.mono (by decide)) rfl p.dTw.mg p.dTw.fn.kp p.dTw.b .nil pass0 (pa_cons (pv 2) (pa_cons (pv 1) pa_nil))) (pe_call p.won (hr.mono (by decide)) rfl p.dWon.mg p.dWon.fn.kp p.dWon.b .nil pass0 (pa_cons (pv 3) (pa_cons (pv 2) pa_nil)))) pa_nil))))), ?_⟩
  have wf := TA.wf
  have hwl := wins_length wf
  have := wf.n5
  have := wf.m6
  have hxi := isPlayer_iff.mp hx
  rw [burden_eq wf (p := x.toNat) (by omega) (by omega)] at post
  refine ⟨_, rfl, t, d.dx, _, rfl, TA.ob, tf_no _ _ _ (by decide +kernel) (by decide +kernel) (by decide +kernel), t, st, d, rfl, TA, fun H1 q s1 hq m1 => ?_⟩
  refine ⟨_, rfl, q, wins st, st.m, rfl, m1, wins_ne wf, fun r hr => wins_row wf hr, by omega, by omega, fun H2 bs s2 hbs m2 => ?_⟩
  obtain ⟨xs, b, g1, g2, h2⟩ := m2.ix (K := K) (k := 0) (bestsI_head wf)
  have hbl := best_len' wf
  refine ⟨bs, xs, 0, _, rfl, rfl, g1, g2, _, rfl, b, _, x, V.int 0, rfl, h2, hxi.1, by rw [List.length_map, hbl, hwl]; exact hxi.2, by rw [List.length_map, hbl]; omega, fun H3 o s3 ho h3 => ?_⟩
  have h3 : IL H3 o ((Vbsgag.ints (Vbsgag.best st)).set (x.toNat - 1) 0) := by
    rw [IL, h3, List.map_set]
  refine ⟨_, rfl, _, rfl, q, wins st, st.m, x, rfl, (s2.trans s3).mat m1, fun r hr => wins_row wf hr, by omega, by omega, hxi.1, by rw [hwl]; exact hxi.2, fun H4 s4 => ?_⟩
  refine ⟨_, rfl, _, rfl, o, q, _, _, st.m, rfl, s4.il h3, ((s2.trans s3).trans s4).mat m1, by rw [List.length_set]; exact hbl, by omega, fun r hr => wins_row wf hr, fun i hi => ?_, fun H5 s5 => ?_⟩
  · rcases List.mem_or_eq_of_mem_set hi with z | z
    · exact best_asg wf i z
    · exact .inl z
  refine ⟨_, _, rfl, rfl, (by show 1 ≤ sizeLine; decide), fun c hc => ?_⟩
  have s15 := (((s1.trans s2).trans s3).trans s4).trans s5
  have s6 := Same.put (o := .lst [V.int (G ((wins st).set (x.toNat - 1) (List.replicate st.m 0)) (List.range st.m) - (wonL ((Vbsgag.ints (Vbsgag.best st)).set (x.toNat - 1) 0) (wins st)).sum)]) s15 (s15.free hc)
  refine post _ c d (TA.same s6) ?_ (Kf.mk (Kf.of_same s15) hc) fun x hx => .inl hx
  rw [IL]
  exact upd_same
abbrev sEquals : Stmt := stm 52
theorem scEquals : FnScope ["table"] ["table"] (defScope sEquals) := ⟨rfl, rfl, rfl, by decide +kernel, rfl, by decide +kernel, by decide +kernel⟩
theorem ok_equals {f : Addr} {fd : FuncData} (p : Prg K mg) (F : Fun K "answer_equals" "answer_equals" sEquals f fd) : FnOk P w K mg base CX0 6 f fd ["table"] (spDo p.CT 20) := by
  refine F.ok scEquals (fun vs H Q E h => do_len (n := 0) rfl h) (fun cdv A outer s H vs Q E hr h => ?_)
  obtain ⟨t, st, d, as, ws, rfl, TA, ha, hR, hws, post⟩ := h
  obtain ⟨rfl, rfl⟩ := inv0 hR ha
  have e : callD st 20 [] = (st, [Int.ofNat ((Vbsgag.all st).filter fun a => Vbsgag.won st a == Vbsgag.total st).length]) := rfl
  rw [e] at post
  refine ⟨_, pss_one (ps_ret (pe_lst (pa_cons (pe_callB call_len_seq rfl p.B.len bt_len (pa_cons (pe_call p.bas (hr.mono (by decide)) rfl p.dBas.mg p.dBas.fn.kp p.dBas.b .nil pass0 (pa_cons (pe_meth0 (pv 0) p.T.cl p.mWins.m p.wins (hr.mono (by decide)) p.mWins.b .nil pass0) pa_nil)) pa_nil)) pa_nil))), ?_⟩
  have wf := TA.wf
  have hwl := wins_length wf
  have := wf.n5
  have := wf.m6
  rw [← bestsI_len wf] at post
  refine ⟨_, rfl, t, d.dx, _, rfl, TA.ob, tf_no _ _ _ (by decide +kernel) (by decide +kernel) (by decide +kernel), t, st, d, rfl, TA, fun H1 q s1 hq m1 => ?_⟩
  refine ⟨q, wins st, st.m, rfl, m1, wins_ne wf, fun r hr => wins_row wf hr, by omega, by omega, fun H2 bs s2 hbs m2 => ?_⟩
  obtain ⟨xs, hxs, hxl⟩ := mat_len m2
  refine ⟨bs, xs, rfl, .inl (SqL.of hxs), (by show 1 ≤ sizeLine; decide), fun c hc => ?_⟩
  rw [hxl]
  have s3 := Same.put (o := .lst [V.int ((bestsI (wins st) st.m).length : Nat)]) (s1.trans s2) ((s1.trans s2).free hc)
  refine post _ c d (TA.same s3) ?_ (Kf.mk (Kf.of_same (s1.trans s2)) hc) fun x hx => .inl hx
  rw [IL, upd_same]
  rfl
end
end TW

end

section
set_option Elab.async false
set_option linter.all false
set_option maxRecDepth 100000
set_option maxHeartbeats 2000000
namespace TW
open PySem PySem.Spec PyProof.Rows L2

theorem pe_bm0K {X : Cx} {o : Expr} {to : TE} {name : Str} {apos cpos : Pos} {T id : String} {r : V → List V → Hp → VK → Prop} (K : PySem.W.Frag) (hK : X.K = K) (pa : PlainAttrs T) (slot : Slot T name id) (hty : typeOf (.builtin id) = pure (.type "method_descriptor")) (hm : MtM X id r) (ho : PE X o to)
    (hbase : attributeBase o name X.env (eval o X.env) = eval o X.env := by rfl) (hline : (apos.endLine == cpos.line) = true := by rfl) : PE X (.Call (.Attribute o name apos) [] [] cpos) (tBM0 K T r to) := by
  subst hK
  exact pe_bm0 pa slot hty hm ho hbase hline
def KT (K : PySem.W.Frag) (a : Addr) (xs : List V) : Prop := ∃ (o : Obj) (its : Array Value) (n : Nat), K.lookup a = some o ∧ o.cls = .type "tuple" ∧ o.data = .seq its n ∧ its.size ≤ sizeLine ∧ Vals xs its.toList
theorem KT.sq {K : PySem.W.Frag} {a : Addr} {xs : List V} {H : Hp} (h : KT K a xs) : SqT K H a xs := .inr h
theorem pop_il {H : Hp} {l : Addr} {x : Int} {r : List Int} (h : IL H l (x :: r).reverse) : H l = some (.lst ((r.reverse ++ [x]).map V.int)) ∧ ((r.reverse ++ [x]).map V.int)[((r.reverse ++ [x]).map V.int).length - 1]? = some (V.int x) ∧ ((r.reverse ++ [x]).map V.int).dropLast = r.reverse.map V.int := by
  refine ⟨by rw [IL, List.reverse_cons] at h; exact h, ?_, ?_⟩
  · simp
  · rw [List.map_append, List.map_singleton, List.dropLast_concat]
abbrev sTaken : Stmt := stm 55
def spTaken : Sp := fun vs H Q _ => ∃ (l : Addr) (k : Kd) (g : Ag) (r t : List Int), vs = [.ref l, .str k.str] ∧ IL H l r.reverse ∧ r.length ≤ 17000 ∧ takeArg k r = some (g, t) ∧
  ∀ (H' : Hp) (v : V), AgV H' g v → IL H' l t.reverse → Kb l H H' → (∀ x, v = .ref x → H x = Option.none) → Q v H'
theorem inLists (k : Kd) : inV (V.str k.str) [V.str "amounts", V.str "assignment"] = k.isL := by
  cases k <;> decide +kernel
section
variable {P : Program} {w : World} {K : PySem.W.Frag} {mg : Str → Option Value} {base : Heap}
theorem scTaken : FnScope ["left", "kind", "number", "k"] ["left", "kind"] (defScope sTaken) := ⟨rfl, rfl, rfl, by decide +kernel, rfl, by decide +kernel, by decide +kernel⟩
theorem ok_taken {f aL : Addr} {fd : FuncData} (F : Fun K "taken" "taken" sTaken f fd) (B : Blt mg) (mgL : mg "LISTS" = some (.ref aL)) (hL : KT K aL [V.str "amounts", V.str "assignment"]) : FnOk P w K mg base CX0 1 f fd ["left", "kind"] spTaken := by
  refine F.ok scTaken (fun vs H Q E h => ?_) (fun cdv A outer s H vs Q E hr h => ?_)
  · obtain ⟨l, k, g, r, t, rfl, _⟩ := h
    rfl
  obtain ⟨l, kd, g, r, t, rfl, hl, hz, ht, post⟩ := h
  refine ⟨_, pss_cons (ps_set (i := 2) scTaken.nd rfl (Or.inl rfl) (pe_bm0 PySem.F.plainAttrs_list PySem.F.slot_list_pop PySem.F.type_list_pop mt_pop (pv 0)))
    (pss_cons (ps_if (pt_cmpR op_in_seq (pv 1) (pe_glob (v := .ref aL) rfl mgL rfl) (by with_unfolding_all rfl)) (pss_one (ps_ret (pe_lc rfl scTaken.nd (pi_range1 rfl B.range (pa_cons (pv 2) pa_nil)) (blkOk_by (own := [("k", 3)]) rfl) (fun _ _ _ _ _ => pg_name (i := 3) scTaken.nd rfl (Or.inl rfl) (Or.inr rfl)) (fun _ _ _ _ _ => pts_nil)
      (fun _ _ _ _ _ => pe_bm0K K rfl PySem.F.plainAttrs_list PySem.F.slot_list_pop PySem.F.type_list_pop mt_pop (pv 0))))) pss_nil)
    (pss_one (ps_ret (pv 2)))), ?_⟩
  unfold takeArg at ht
  cases r with
  | nil => cases ht
  | cons x r =>
    dsimp only at ht
    obtain ⟨p1, p2, p3⟩ := pop_il hl
    refine ⟨_, rfl, .inl ⟨rfl, _, SqL.of p1⟩, l, _, V.int x, rfl, rfl, p1, p2, ?_⟩
    rw [p3]
    have hl1 : IL (upd H l (.lst (r.reverse.map V.int))) l r.reverse := upd_same
    have k1 : Kb l H (upd H l (.lst (r.reverse.map V.int))) := Kb.upd
    have hn1 : ∀ y, (upd H l (.lst (r.reverse.map V.int))) y = Option.none → H y = Option.none := fun y e => by
      by_cases c : y = l
      · rw [c, hl1] at e; cases e
      · rwa [upd_ne c] at e
    generalize upd H l (.lst (r.reverse.map V.int)) = H1 at hl1 k1 hn1 ⊢
    refine ⟨_, rfl, aL, _, rfl, .inr hL.sq, rfl, rfl, _, rfl, ?_⟩
    rw [show (if false = true then !inV (V.str kd.str) [V.str "amounts", V.str "assignment"] else inV (V.str kd.str) [V.str "amounts", V.str "assignment"]) = kd.isL from inLists kd]
    cases hk : kd.isL with
    | false =>
      rw [hk] at ht
      simp only [Bool.false_eq_true, if_false, Option.some.injEq, Prod.mk.injEq] at ht
      obtain ⟨rfl, rfl⟩ := ht
      exact iteF ⟨_, rfl, post H1 _ rfl hl1 k1 (fun x e => by cases e)⟩
    | true =>
      rw [hk] at ht
      simp only [if_true] at ht
      by_cases c2 : 0 ≤ x ∧ x.toNat ≤ r.length
      · rw [if_pos c2] at ht
        simp only [Option.some.injEq, Prod.mk.injEq] at ht
        obtain ⟨rfl, rfl⟩ := ht
        rw [List.length_cons] at hz
        have hb : x < 2 ^ 62 := by
          have : (2 : Int) ^ 62 = 4611686018427387904 := by decide
          omega
        refine iteT ⟨_, rfl, x, rfl, by omega, by omega, fun D hD => ?_⟩
        have hDl : D ≠ l := Ne.symm (ne_of_none hl1 hD)
        have hn2 : IL (upd H1 D (.lst [])) l (r.drop 0).reverse := by rw [IL, upd_ne (Ne.symm hDl)]; exact hl1
        refine lc_range (lo := 0) (n := x.toNat) (fun j H' => IL H' l (r.drop j).reverse ∧ IL H' D (r.take j) ∧ Kb l H1 H') ⟨hn2, upd_same, Kb.of_same (same_new hD)⟩ ?_ ?_
        · rintro j H' hj ⟨i1, i2, k2⟩
          have hj2 : j < r.length := by omega
          have e0 : r.drop j = r[j] :: r.drop (j + 1) := List.drop_eq_getElem_cons hj2
          rw [e0] at i1
          obtain ⟨q1, q2, q3⟩ := pop_il i1
          refine ⟨rfl, tyes ?_⟩
          refine ⟨_, rfl, .inl ⟨rfl, _, SqL.of q1⟩, l, _, V.int r[j], rfl, rfl, q1, q2, ?_⟩
          rw [q3]
          refine ⟨(r.take j).map V.int, by rw [upd_ne hDl]; exact i2, ?_, ?_, ?_, ?_⟩
          · rw [List.length_map, List.length_take]
            exact small (by omega)
          · rw [IL, upd_ne (Ne.symm hDl), upd_same]
          · rw [IL, upd_same, take_snoc (List.getElem?_eq_getElem hj2), List.map_append]
            rfl
          · exact (k2.trans Kb.upd).put hD
        · rintro H' ⟨i1, i2, k2⟩
          refine post H' _ ⟨D, rfl, i2, ?_⟩ i1 (k1.trans k2) fun y e => ?_
          · rw [List.length_take]
            omega
          · cases e
            exact hn1 D hD
      · rw [if_neg c2] at ht
        cases ht
abbrev sBy : Stmt := stm 56
def IsAns (P : Program) (w : World) (K : PySem.W.Frag) (mg : Str → Option Value) (base : Heap) (C f : Addr) (num : Int) : Prop :=
  ∃ (fd : FuncData) (ps : List Str), FnOk P w K mg base CX0 6 f fd ps (spDo C num) ∧ PySem.W.keepIn K (.ref f) = true ∧ Binds K fd ps []
def spBy (P : Program) (w : World) (K : PySem.W.Frag) (mg : Str → Option Value) (base : Heap) (C : Addr) : Sp := fun vs H Q E => ∃ (f t q : Addr) (num : Int) (ws : List V), vs = [.ref f, .ref t, .ref q] ∧ IsAns P w K mg base C f num ∧ H q = some (.lst ws) ∧ spDo C num (.ref t :: ws) H Q E
theorem scBy : FnScope ["answer", "table", "told"] ["answer", "table", "told"] (defScope sBy) := ⟨rfl, rfl, rfl, by decide +kernel, rfl, by decide +kernel, by decide +kernel⟩
theorem len2 {ws : List V} (h : ws.length = 2) : ∃ a b, ws = [a, b] := by
  match ws, h with
  | [a, b], _ => exact ⟨a, b, rfl⟩
theorem len3 {ws : List V} (h : ws.length = 3) : ∃ a b c, ws = [a, b, c] := by
  match ws, h with
  | [a, b, c], _ => exact ⟨a, b, c, rfl⟩
theorem int_nat_dec (a b : Nat) : decide (V.int (a : Int) = V.int (b : Int)) = decide (a = b) := by
  by_cases h : a = b
  · rw [decide_eq_true h, decide_eq_true (by rw [h])]
  · rw [decide_eq_false h, decide_eq_false fun z => h (by have := V.int.inj z; omega)]
theorem ok_by {f C : Addr} {fd : FuncData} (F : Fun K "answer_by" "answer_by" sBy f fd) (B : Blt mg) : FnOk P w K mg base CX0 7 f fd ["answer", "table", "told"] (spBy P w K mg base C) := by
  refine F.ok scBy (fun vs H Q E h => ?_) (fun cdv A outer s H vs Q E hr h => ?_)
  · obtain ⟨f, t, q, num, ws, rfl, _⟩ := h
    rfl
  obtain ⟨g, t, q, num, ws, rfl, hA, hq, hd⟩ := h
  have hR0 : ∀ f sp, (∃ num, IsAns P w K mg base C f num ∧ sp = spDo C num) → ∃ (fd : FuncData) (ps : List Str), FnOk P w K mg base CX0 6 f fd ps sp ∧ PySem.W.keepIn K (.ref f) = true ∧ Binds K fd ps [] := by
    rintro f sp ⟨num, ⟨fd, ps, h1, h2, h3⟩, rfl⟩
    exact ⟨fd, ps, h1, h2, h3⟩
  refine ⟨_, pss_cons (ps_if (pt_cmpR op_eq (pe_callB call_len_seq rfl B.len bt_len (pa_cons (pv 2) pa_nil)) pe_int (nomark _)) (pss_one (ps_ret (pe_callL (i := 0) (E := E0) (R := fun f sp => ∃ num, IsAns P w K mg base C f num ∧ sp = spDo C num) rfl (Or.inl rfl) (fun f sp h => by obtain ⟨fd, ps, a, b, c⟩ := hR0 f sp h; exact ⟨CX0, 6, fd, ps, a, hr.mono (by decide), b, c, pass0⟩) (pa_cons (pv 1) pa_nil)))) pss_nil)
    (pss_cons (ps_if (pt_cmpR op_eq (pe_callB call_len_seq rfl B.len bt_len (pa_cons (pv 2) pa_nil)) pe_int (nomark _)) (pss_one (ps_ret (pe_callL (i := 0) (E := E0) (R := fun f sp => ∃ num, IsAns P w K mg base C f num ∧ sp = spDo C num) rfl (Or.inl rfl) (fun f sp h => by obtain ⟨fd, ps, a, b, c⟩ := hR0 f sp h; exact ⟨CX0, 6, fd, ps, a, hr.mono (by decide), b, c, pass0⟩) (pa_cons (pv 1) (pa_cons (pe_ix ix_list (pv 2) pe_int (fun _ _ => rfl)) pa_nil))))) pss_nil)
    (pss_cons (ps_if (pt_cmpR op_eq (pe_callB call_len_seq rfl B.len bt_len (pa_cons (pv 2) pa_nil)) pe_int (nomark _)) (pss_one (ps_ret (pe_callL (i := 0) (E := E0) (R := fun f sp => ∃ num, IsAns P w K mg base C f num ∧ sp = spDo C num) rfl (Or.inl rfl) (fun f sp h => by obtain ⟨fd, ps, a, b, c⟩ := hR0 f sp h; exact ⟨CX0, 6, fd, ps, a, hr.mono (by decide), b, c, pass0⟩) (pa_cons (pv 1) (pa_cons (pe_ix ix_list (pv 2) pe_int (fun _ _ => rfl)) (pa_cons (pe_ix ix_list (pv 2) pe_int (fun _ _ => rfl)) pa_nil)))))) pss_nil)
    (pss_one (ps_ret (pe_callL (i := 0) (E := E0) (R := fun f sp => ∃ num, IsAns P w K mg base C f num ∧ sp = spDo C num) rfl (Or.inl rfl) (fun f sp h => by obtain ⟨fd, ps, a, b, c⟩ := hR0 f sp h; exact ⟨CX0, 6, fd, ps, a, hr.mono (by decide), b, c, pass0⟩) (pa_cons (pv 1) (pa_cons (pe_ix ix_list (pv 2) pe_int (fun _ _ => rfl)) (pa_cons (pe_ix ix_list (pv 2) pe_int (fun _ _ => rfl)) (pa_cons (pe_ix ix_list (pv 2) pe_int (fun _ _ => rfl)) pa_nil))))))))), ?_⟩
  have hlen := do_len (n := (kindsN num).length) rfl hd
  have hk3 := kinds_len num
  rw [List.length_cons] at hlen
  have hlw : ws.length ≤ 3 := by omega
  have sq : SqL K H q ws := SqL.of hq
  have hix : ∀ {i : Nat} {a : V}, ws[i]? = some a → atI ws (i : Int) = some a := fun h => atI_nat h
  have e0 : decide (V.int ((ws.length : Nat) : Int) = V.int 0) = decide (ws.length = 0) := int_nat_dec ws.length 0
  have e1 : decide (V.int ((ws.length : Nat) : Int) = V.int 1) = decide (ws.length = 1) := int_nat_dec ws.length 1
  have e2 : decide (V.int ((ws.length : Nat) : Int) = V.int 2) = decide (ws.length = 2) := int_nat_dec ws.length 2
  refine ⟨_, rfl, q, ws, rfl, .inl sq, rfl, _, rfl, ?_⟩
  rw [e0]
  by_cases c0 : ws.length = 0
  · rw [decide_eq_true c0]
    have ew := List.eq_nil_of_length_eq_zero c0
    refine iteT ⟨g, _, rfl, ⟨num, hA, rfl⟩, _, rfl, ?_⟩
    rw [ew] at hd
    exact hd
  rw [decide_eq_false c0]
  refine iteF ⟨_, rfl, q, ws, rfl, .inl sq, rfl, _, rfl, ?_⟩
  rw [e1]
  by_cases c1 : ws.length = 1
  · rw [decide_eq_true c1]
    obtain ⟨a, ew⟩ := List.length_eq_one_iff.mp c1
    have h0 : ws[0]? = some a := by rw [ew]; rfl
    refine iteT ⟨g, _, rfl, ⟨num, hA, rfl⟩, _, rfl, _, rfl, q, _, _, a, rfl, rfl, sq, hix h0, ?_⟩
    rw [ew] at hd
    exact hd
  rw [decide_eq_false c1]
  refine iteF ⟨_, rfl, q, ws, rfl, .inl sq, rfl, _, rfl, ?_⟩
  rw [e2]
  by_cases c2 : ws.length = 2
  · rw [decide_eq_true c2]
    obtain ⟨a, b, ew⟩ := len2 c2
    have h0 : ws[0]? = some a := by rw [ew]; rfl
    have h1 : ws[1]? = some b := by rw [ew]; rfl
    refine iteT ⟨g, _, rfl, ⟨num, hA, rfl⟩, _, rfl, _, rfl, q, _, _, a, rfl, rfl, sq, hix h0, _, rfl, q, _, _, b, rfl, rfl, sq, hix h1, ?_⟩
    rw [ew] at hd
    exact hd
  rw [decide_eq_false c2]
  have c3 : ws.length = 3 := by omega
  obtain ⟨a, b, c, ew⟩ := len3 c3
  have h0 : ws[0]? = some a := by rw [ew]; rfl
  have h1 : ws[1]? = some b := by rw [ew]; rfl
  have h2 : ws[2]? = some c := by rw [ew]; rfl
  refine iteF ⟨g, _, rfl, ⟨num, hA, rfl⟩, _, rfl, _, rfl, q, _, _, a, rfl, rfl, sq, hix h0, _, rfl, q, _, _, b, rfl, rfl, sq, hix h1, _, rfl, q, _, _, c, rfl, rfl, sq, hix h2, ?_⟩
  rw [ew] at hd
  exact hd
end
end TW

end

section
set_option Elab.async false
set_option linter.all false
set_option maxRecDepth 100000
set_option maxHeartbeats 2000000
namespace TW
open PySem PySem.Spec PyProof.Rows L2

theorem TabAt.some {C : Addr} {H : Hp} {t x : Addr} {s : Vbsgag.State} {d : Tb} (T : TabAt C H t s d) (h : x ∈ d.foot t) : H x ≠ Option.none := by
  simp only [Tb.foot, List.mem_cons] at h
  rcases h with e | e | e | e | e
  · rw [e, T.ob]; simp
  · rw [e, T.hb]; simp
  · rw [e, T.hw]; simp
  · rw [e, T.hc]; simp
  · obtain ⟨i, hi, e⟩ := List.mem_iff_getElem.mp e
    have hi2 : i < s.rows.length := by rw [T.wf.lr, ← T.hl]; exact hi
    rw [← e, T.hr i _ _ (List.getElem?_eq_getElem hi) (List.getElem?_eq_getElem hi2)]
    simp
theorem AgV.keep {H H' : Hp} {g : Ag} {v : V} (h : AgV H g v) (s : ∀ x o, v = .ref x → H x = some o → H' x = some o) : AgV H' g v := by
  cases g with
  | n x => exact h
  | l xs =>
    obtain ⟨a, h1, h2, h3⟩ := h
    exact ⟨a, h1, s a _ h1 h2, h3⟩
theorem AgsV.keep {H H' : Hp} : ∀ {as : List Ag} {ws : List V}, AgsV H as ws → (∀ x o, V.ref x ∈ ws → H x = some o → H' x = some o) → AgsV H' as ws
  | [], ws, h, s => by
    have e := agv0 h
    subst e
    exact trivial
  | g :: as, ws, h, s => by
    obtain ⟨v, ws', rfl, h1, h2⟩ := agv1 h
    exact ⟨h1.keep fun x o e => s x o (e ▸ List.mem_cons_self), AgsV.keep h2 fun x o e => s x o (List.mem_cons_of_mem _ e)⟩
theorem AgsV.snoc {H : Hp} {g : Ag} {v : V} (hv : AgV H g v) : ∀ {as : List Ag} {ws : List V}, AgsV H as ws → AgsV H (as ++ [g]) (ws ++ [v])
  | [], ws, h => by
    have e := agv0 h
    subst e
    exact ⟨hv, trivial⟩
  | a :: as, ws, h => by
    obtain ⟨u, ws', rfl, h1, h2⟩ := agv1 h
    exact ⟨h1, AgsV.snoc hv h2⟩
theorem AgsV.len {H : Hp} : ∀ {as : List Ag} {ws : List V}, AgsV H as ws → as.length = ws.length
  | [], ws, h => by rw [agv0 h]; rfl
  | g :: as, ws, h => by
    obtain ⟨v, ws', rfl, _, h2⟩ := agv1 h
    rw [List.length_cons, List.length_cons, AgsV.len h2]
theorem AgsV.at {H : Hp} {g : Ag} {v : V} : ∀ {as : List Ag} {ws : List V} {i : Nat}, AgsV H as ws → as[i]? = some g → ws[i]? = some v → AgV H g v
  | [], _, _, _, h, _ => by simp at h
  | a :: as, ws, i, h, h1, h2 => by
    obtain ⟨u, ws', rfl, g1, g2⟩ := agv1 h
    cases i with
    | zero =>
      cases h1
      cases h2
      exact g1
    | succ i => exact AgsV.at g2 h1 h2
theorem Fits.len {ks : List Kd} {as : List Ag} (h : Fits ks as) : ks.length = as.length := by
  induction h with
  | nil => rfl
  | cons _ _ ih => rw [List.length_cons, List.length_cons, ih]
theorem Fits.at {ks : List Kd} {as : List Ag} (h : Fits ks as) : ∀ {i : Nat} {k : Kd} {g : Ag}, ks[i]? = some k → as[i]? = some g → fitsK k g = true := by
  induction h with
  | nil => intro i k g h; simp at h
  | cons h1 _ ih =>
    intro i k g a b
    cases i with
    | zero =>
      cases a
      cases b
      exact h1
    | succ i => exact ih a b
theorem wrongs_snoc {s : Vbsgag.State} {ks : List Kd} {as : List Ag} {i : Nat} {k : Kd} {g : Ag} (h1 : ks[i]? = some k) (h2 : as[i]? = some g) : wrongs s (ks.take (i + 1)) (as.take (i + 1)) = wrongs s (ks.take i) (as.take i) ++ (if rightK s k g = true then [] else [k]) := by
  have hl : (ks.take i).length = (as.take i).length := by
    have a1 := (List.getElem?_eq_some_iff.mp h1).1
    have a2 := (List.getElem?_eq_some_iff.mp h2).1
    rw [List.length_take, List.length_take]
    omega
  unfold wrongs
  rw [take_snoc h1, take_snoc h2, List.zip_append hl, List.filter_append, List.map_append]
  congr 1
  cases e : rightK s k g <;> simp [e]
theorem wrongs_sub {s : Vbsgag.State} {ks : List Kd} {as : List Ag} : (wrongs s ks as).length ≤ ks.length := by
  unfold wrongs
  rw [List.length_map]
  refine Nat.le_trans (List.length_filter_le _ _) ?_
  rw [List.length_zip]
  exact Nat.min_le_left _ _
theorem takeArg_len {k : Kd} {r t : List Int} {g : Ag} (h : takeArg k r = some (g, t)) : t.length ≤ r.length := by
  have h2 : takeArgs [k] r = some ([g], t) := by
    unfold takeArgs
    rw [h]
    rfl
  exact (takeArgs_len h2).2
abbrev sNext : Stmt := stm 57
def spNext (C : Addr) : Sp := fun vs H Q _ => ∃ (t l : Addr) (s : Vbsgag.State) (d : Tb) (ns rest : List Int) (c : List (List Int)), vs = [.ref t, .ref l] ∧ TabAt C H t s d ∧ IL H l ns.reverse ∧ ns.length ≤ 17000 ∧ l ∉ d.foot t ∧ PyFlat.call PyVbsgag.shape ns = some (c, rest) ∧
  ∀ (H' : Hp) (r : Addr) (d' : Tb), TabAt C H' t (VbsgagNeutral.step s c).1 d' → IL H' l rest.reverse → rest.length ≤ ns.length → IL H' r (VbsgagNeutral.step s c).2 → Kn (l :: d.foot t) H H' r → (∀ x ∈ d'.foot t, x ∈ d.foot t ∨ H x = Option.none) → Q (.ref r) H'
def Disp (P : Program) (w : World) (K : PySem.W.Frag) (mg : Str → Option Value) (base : Heap) (C : Addr) (fK : Int → Option V) : Prop :=
  ∀ num, 0 ≤ num → num ≤ 20 → ∃ (c kt f : Addr), fK num = some (.ref c) ∧ KT K c [.ref f, .ref kt] ∧ KT K kt ((kindsN num).map fun k => V.str k.str) ∧ IsAns P w K mg base C f num
section
variable {P : Program} {w : World} {K : PySem.W.Frag} {mg : Str → Option Value} {base : Heap}
theorem scNext : FnScope ["table", "left", "call", "told", "wrong", "kind", "argument"] ["table", "left"] (defScope sNext) := ⟨rfl, rfl, rfl, by decide +kernel, rfl, by decide +kernel, by decide +kernel⟩
theorem ok_next {f dC dR fT fB : Addr} {fd fdT fdB : FuncData} {fK : Int → Option V} {fR : Str → Option V} (p : Prg K mg) (F : Fun K "answer_next" "answer_next" sNext f fd) (mgC : mg "CALLS" = some (.ref dC)) (KD : KDict P w K dC fK) (D : Disp P w K mg base p.CT fK)
    (mgR : mg "REFUSALS" = some (.ref dR)) (KR : KDictS P w K dR fR) (hfR : ∀ k : Kd, (fR k.str).getD (.int (-2)) = .int (refOf k)) (DT : Df K mg "taken" sTaken ["left", "kind"] fT fdT) (GT : FnOk P w K mg base CX0 1 fT fdT ["left", "kind"] spTaken)
    (DB : Df K mg "answer_by" sBy ["answer", "table", "told"] fB fdB) : FnOk P w K mg base CX0 8 f fd ["table", "left"] (spNext p.CT) := by
  refine F.ok scNext (fun vs H Q E h => ?_) (fun cdv A outer s H vs Q E hr h => ?_)
  · obtain ⟨t, l, st, d, ns, rest, c, rfl, _⟩ := h
    rfl
  obtain ⟨t, l, st, d, ns, rest, c, rfl, TA, hl, hz, hlf, hcall, post⟩ := h
  have GB : FnOk P w K mg base CX0 7 fB fdB ["answer", "table", "told"] (spBy P w K mg base p.CT) := ok_by DB.fn p.B
  have r1 : Room 1 _ := hr.mono (by decide)
  have r4 : Room 4 _ := hr.mono (by decide)
  refine ⟨_, pss_cons (ps_set (i := 2) scNext.nd rfl (Or.inl rfl) (pe_kget rfl mgC KD (pe_bm0 PySem.F.plainAttrs_list PySem.F.slot_list_pop PySem.F.type_list_pop mt_pop (pv 1)) (fun _ _ => rfl)))
    (pss_cons (ps_setLc (i := 3) rfl scNext.nd rfl rfl (sw_true rfl rfl rfl rfl) (pi_tup (pe_ix ix_tup (pv 2) pe_int (fun _ _ => rfl))) (blkOk_by (own := [("kind", 5)]) rfl) (fun _ _ _ _ _ => pg_name (i := 5) scNext.nd rfl (Or.inl rfl) (Or.inr rfl)) (fun _ _ _ _ _ => pts_nil)
        (fun _ _ _ _ _ => pe_call GT r1 rfl DT.mg DT.fn.kp DT.b .nil pass0 (pa_cons (pv 1) (pa_cons (pv 5) pa_nil))))
    (pss_cons (ps_setLc (i := 4) rfl scNext.nd rfl rfl (sw_true rfl rfl rfl rfl) (pi_zipT rfl p.B.zip (pa_cons (pe_ix ix_tup (pv 2) pe_int (fun _ _ => rfl)) (pa_cons (pv 3) pa_nil))) (blkOk_by (own := [("kind", 5), ("argument", 6)]) rfl)
        (fun _ _ _ _ _ => pg_tupK K rfl 2 rfl (pgs_cons (pg_name (i := 5) scNext.nd rfl (Or.inl rfl) (Or.inr rfl)) (pgs_cons (pg_name (i := 6) scNext.nd rfl (Or.inl rfl) (Or.inr rfl)) pgs_nil)) rfl)
        (fun _ _ _ _ _ => pts_one (pt_not (pt_val (pe_call p.right r4 rfl p.dRight.mg p.dRight.fn.kp p.dRight.b .nil pass0 (pa_cons (pv 0) (pa_cons (pv 5) (pa_cons (pv 6) pa_nil))))))) (fun _ _ _ _ _ => pv 5))
    (pss_cons (ps_if (pt_cmpR op_gt (pe_callB call_len_seq rfl p.B.len bt_len (pa_cons (pv 4) pa_nil)) pe_int (nomark _))
        (pss_one (ps_ret (pe_lst (pa_cons (pe_callB (cr_max rfl) rfl p.B.max bt_max (pa_cons (pe_lc rfl scNext.nd (pi_list (pv 4)) (blkOk_by (own := [("kind", 5)]) rfl) (fun _ _ _ _ _ => pg_name (i := 5) scNext.nd rfl (Or.inl rfl) (Or.inr rfl)) (fun _ _ _ _ _ => pts_nil)
          (fun _ _ _ _ _ => pe_kgetD rfl mgR KR (pv 5) (pe_gint rfl p.oor) ⟨rfl, rfl, rfl, rfl⟩)) pa_nil)) pa_nil)))) pss_nil)
    (pss_one (ps_ret (pe_call GB (hr.mono (by decide)) rfl DB.mg DB.fn.kp DB.b .nil pass0 (pa_cons (pe_ix ix_tup (pv 2) pe_int (fun _ _ => rfl)) (pa_cons (pv 0) (pa_cons (pv 3) pa_nil))))))))), ?_⟩
  cases ns with
  | nil => cases hcall
  | cons num r =>
  obtain ⟨as, hargs, rfl⟩ := call_args hcall
  obtain ⟨_, _, hsh⟩ := call_shape hcall
  obtain ⟨h0, h20⟩ := shape_cases hsh
  obtain ⟨ca, kt, fa, hfK, hca, hkt, hans⟩ := D num h0 h20
  have hfit := takeArgs_fits hargs
  have hfl := hfit.len
  have hrl := (takeArgs_len hargs).2
  have hk3 := kinds_len num
  rw [List.length_cons] at hz
  -- call = CALLS[left.pop()]
  obtain ⟨p1, p2, p3⟩ := pop_il hl
  refine ⟨_, rfl, .inl ⟨rfl, _, SqL.of p1⟩, l, _, V.int num, rfl, rfl, p1, p2, ?_⟩
  rw [p3]
  have hl1 : IL (upd H l (.lst (r.reverse.map V.int))) l r.reverse := upd_same
  have k1 : Kb l H (upd H l (.lst (r.reverse.map V.int))) := Kb.upd
  have hn1 : ∀ y, (upd H l (.lst (r.reverse.map V.int))) y = Option.none → H y = Option.none := fun y e => by
    by_cases c : y = l
    · rw [c, hl1] at e; cases e
    · rwa [upd_ne c] at e
  generalize upd H l (.lst (r.reverse.map V.int)) = H1 at hl1 k1 hn1 ⊢
  refine ⟨num, .ref ca, rfl, hfK, ?_⟩
  have TA1 := TA.kb k1 hlf
  -- told = [taken(left, kind) for kind in call[1]]
  refine ⟨_, rfl, ca, _, 1, .ref kt, rfl, rfl, hca.sq, rfl, kt, rfl, ⟨_, hkt.sq⟩, fun DD hD => ?_⟩
  have hDl : DD ≠ l := Ne.symm (ne_of_none hl1 hD)
  have hdl : IL (upd H1 DD (.lst [])) l r.reverse := by rw [IL, upd_ne (Ne.symm hDl)]; exact hl1
  have hd1 : ∀ y, (upd H1 DD (.lst [])) y = Option.none → y ≠ DD ∧ y ≠ l ∧ H1 y = Option.none := fun y e => by
    refine ⟨fun z => ?_, fun z => ?_, ?_⟩
    · rw [z, upd_same] at e; cases e
    · rw [z, hdl] at e; cases e
    · by_cases c : y = DD
      · rw [c, upd_same] at e; cases e
      · rwa [upd_ne c] at e
  refine lc_tup (K := K) (a := kt) (xs := (kindsN num).map fun k => V.str k.str) (fun j H' => ∃ (rj : List Int) (ws : List V), takeArgs ((kindsN num).drop j) rj = some (as.drop j, rest) ∧ rj.length ≤ 17000 ∧ IL H' l rj.reverse ∧ Kb l H1 H' ∧ H' DD = some (.lst ws) ∧ AgsV H' (as.take j) ws ∧ (∀ x, V.ref x ∈ ws → (upd H1 DD (.lst [])) x = Option.none))
    ⟨r, [], by rw [List.drop_zero, List.drop_zero]; exact hargs, by omega, hdl, Kb.of_same (same_new hD), upd_same, by rw [List.take_zero]; exact trivial, fun x hx => by simp at hx⟩ (fun j H' _ _ => hkt.sq) ?_ ?_
  · rintro j x H' hx ⟨rj, ws, hta, hzj, hlj, kj, hDj, haj, hnj⟩
    rw [List.getElem?_map] at hx
    cases ek : (kindsN num)[j]? with
    | none => rw [ek] at hx; cases hx
    | some k =>
    rw [ek] at hx
    cases hx
    have hj := (List.getElem?_eq_some_iff.mp ek).1
    have hjk : (kindsN num)[j] = k := (List.getElem?_eq_some_iff.mp ek).2
    rw [List.drop_eq_getElem_cons hj, hjk] at hta
    obtain ⟨g, r2, as', t1, t2, t3⟩ := takeArgs_cons hta
    have hja : j < as.length := by omega
    rw [List.drop_eq_getElem_cons hja] at t3
    obtain ⟨t4, t5⟩ := List.cons.inj t3
    refine ⟨rfl, tyes ?_⟩
    refine ⟨_, rfl, _, rfl, l, k, g, rj, r2, rfl, hlj, hzj, t1, fun H4 v hv hl4 k4 hvn => ?_⟩
    have hD4 : H4 DD = some (.lst ws) := k4 _ _ hDj hDl
    have hvn2 : ∀ x, v = .ref x → (upd H1 DD (.lst [])) x = Option.none := fun x e => by
      have e2 := hvn x e
      cases e3 : (upd H1 DD (.lst [])) x with
      | none => rfl
      | some o =>
        by_cases c : x = DD
        · rw [c, hDj] at e2; cases e2
        · by_cases c2 : x = l
          · rw [c2, hlj] at e2; cases e2
          · rw [upd_ne c] at e3
            rw [kj _ _ e3 c2] at e2
            cases e2
    have hal := haj.len
    rw [List.length_take] at hal
    refine ⟨ws, hD4, small (by omega), r2, ws ++ [v], by rw [t5]; exact t2, Nat.le_trans (takeArg_len t1) hzj, ?_, (kj.trans k4).put hD, upd_same, ?_, fun x hx => ?_⟩
    · rw [IL, upd_ne (Ne.symm hDl)]
      exact hl4
    · have eg : as[j]? = some g := by rw [List.getElem?_eq_getElem hja, t4]
      rw [take_snoc eg]
      refine AgsV.snoc (hv.keep fun x o e h => ?_) (haj.keep fun x o e h => ?_)
      · rw [upd_ne (hd1 x (hvn2 x e)).1]
        exact h
      · obtain ⟨b1, b2, _⟩ := hd1 x (hnj x e)
        rw [upd_ne b1]
        exact k4 _ _ h b2
    · rcases List.mem_append.mp hx with e | e
      · exact hnj x e
      · exact hvn2 x (List.mem_singleton.mp e).symm
  rintro H2 ⟨rj, ws, hta, hzj, hl2, k2, hD2, ha2, hn2⟩
  rw [List.length_map, List.drop_of_length_le (Nat.le_refl _)] at hta
  rw [List.length_map, List.take_of_length_le (by omega)] at ha2
  have erj : rj = rest := by
    unfold takeArgs at hta
    simp only [Option.some.injEq, Prod.mk.injEq] at hta
    exact hta.2
  subst erj
  have TA2 := TA1.kb k2 hlf
  have hwl := ha2.len
  have hwn : ∀ x, V.ref x ∈ ws → H1 x = Option.none := fun x hx => (hd1 x (hn2 x hx)).2.2
  -- wrong = [..]
  refine ⟨_, rfl, ca, _, 1, .ref kt, rfl, rfl, hca.sq, rfl, _, rfl, kt, DD, _, _, rfl, hkt.sq, SqL.of hD2, fun EE hE => ?_⟩
  refine lc_zipT (K := K) (a := kt) (b := DD) (xs := (kindsN num).map fun k => V.str k.str) (ys := ws) (fun j H' => Same H2 H' ∧ H' EE = some (.lst ((wrongs st ((kindsN num).take j) (as.take j)).map fun k => V.str k.str))) (by rw [List.length_map]; omega) ⟨same_new hE, by rw [upd_same]; rfl⟩ (fun j H' _ q => ⟨hkt.sq, SqL.of (q.1 _ _ hD2)⟩) ?_ ?_
  · rintro j x y H' T hx hy ⟨s3, hE3⟩ hT
    rw [List.getElem?_map] at hx
    cases ek : (kindsN num)[j]? with
    | none => rw [ek] at hx; cases hx
    | some k =>
    rw [ek] at hx
    cases hx
    have hj := (List.getElem?_eq_some_iff.mp ek).1
    have eg : as[j]? = some as[j] := List.getElem?_eq_getElem (by omega)
    have s4 : Same H2 (upd H' T (.tup [V.str k.str, y])) := Same.put s3 (s3.free hT)
    have hE4 : (upd H' T (.tup [V.str k.str, y])) EE = some (.lst ((wrongs st ((kindsN num).take j) (as.take j)).map fun k => V.str k.str)) := by
      rw [upd_ne (ne_of_none hE3 hT)]
      exact hE3
    refine ⟨T, _, rfl, SqT.of upd_same, rfl, _, _, rfl, _, _, rfl, rfl, rfl, ?_⟩
    generalize upd H' T (.tup [V.str k.str, y]) = H4 at s4 hE4 ⊢
    have hag := (ha2.at eg hy).same s4
    refine ⟨_, rfl, _, rfl, _, rfl, t, st, d, k, as[j], y, rfl, TA2.same s4, hag, hfit.at ek eg, (fun e => absurd e (by decide)), fun H5 s5 => ⟨_, rfl, ?_⟩⟩
    have ew := wrongs_snoc (s := st) ek eg
    have hE5 := s5 _ _ hE4
    cases hc : rightK st k as[j] with
    | true =>
      rw [hc] at ew
      refine iteF ⟨s4.trans s5, ?_⟩
      rw [ew, if_pos rfl, List.append_nil]
      exact hE5
    | false =>
      rw [hc] at ew
      have hws := wrongs_sub (s := st) (ks := (kindsN num).take j) (as := as.take j)
      rw [List.length_take] at hws
      refine iteT ⟨_, rfl, _, hE5, ?_, Same.put (s4.trans s5) hE, ?_⟩
      · rw [List.length_map]
        exact small (by omega)
      · rw [upd_same, ew, if_neg Bool.false_ne_true, List.map_append]
        rfl
  rintro H3 ⟨s3, hE3⟩
  rw [List.length_map, List.take_of_length_le (Nat.le_refl _), List.take_of_length_le (by omega)] at hE3
  have TA3 := TA2.same s3
  have hl3 := s3.il hl2
  have kf3 : Kf (l :: d.foot t) H H3 := (Kf.of_kb (k1.trans k2) List.mem_cons_self).trans (Kf.of_same s3)
  have hfree : ∀ x, H3 x = Option.none → H x = Option.none := fun x e => by
    by_cases c : x = l
    · rw [c, hl3] at e; cases e
    · exact (k1.trans (k2.same s3)).free e c
  refine ⟨_, rfl, EE, _, rfl, .inl (SqL.of hE3), _, _, rfl, rfl, _, rfl, ?_⟩
  dsimp only
  by_cases hw : wrongs st (kindsN num) as = []
  · -- all are right
    rw [hw]
    refine iteF ?_
    have hright := right_of hfit hw
    refine ⟨_, rfl, ca, _, 0, .ref fa, rfl, rfl, hca.sq, rfl, _, rfl, _, rfl, fa, t, DD, num, ws, rfl, hans, s3 _ _ hD2, t, st, d, as, ws, rfl, TA3, ha2.keep (fun x o _ h => s3 x o h), hright, fun x hx hm => TA1.some hm (hwn x hx), fun H4 q d4 T4 h4 kn4 hf4 => ?_⟩
    refine post H4 q d4 T4 (kn4.kf _ _ hl3 hlf) (by rw [List.length_cons]; omega) h4 ⟨fun b o e hb => kn4.kf b o (kf3 b o e hb) (fun z => hb (List.mem_cons_of_mem _ z)), fun x o e hx => kn4.new x o (kf3 x o e hx) (fun z => hx (List.mem_cons_of_mem _ z))⟩ fun x hx => ?_
    rcases hf4 x hx with z | z | z
    · exact .inl z
    · exact .inr (hfree x z)
    · exact .inr (hn1 x (hwn x z))
  · -- some are wrong
    have hpos : 0 < (wrongs st (kindsN num) as).length := List.length_pos_iff.mpr hw
    have hws := wrongs_sub (s := st) (ks := kindsN num) (as := as)
    have ed : decide ((0 : Int) < ((((wrongs st (kindsN num) as).map fun k => V.str k.str).length : Nat) : Int)) = true := by
      rw [List.length_map]
      exact decide_eq_true (by omega)
    rw [ed]
    refine iteT ⟨_, rfl, EE, rfl, ⟨_, SqL.of hE3⟩, fun FF hF => ?_⟩
    refine lc_list (K := K) (a := EE) (xs := (wrongs st (kindsN num) as).map fun k => V.str k.str) (fun j H' => Same H3 H' ∧ IL H' FF (((wrongs st (kindsN num) as).take j).map refOf)) ⟨same_new hF, upd_same⟩ (fun j H' _ q => SqL.of (q.1 _ _ hE3)) ?_ ?_
    · rintro j x H' hx ⟨s4, hF4⟩
      rw [List.getElem?_map] at hx
      cases ek : (wrongs st (kindsN num) as)[j]? with
      | none => rw [ek] at hx; cases hx
      | some k =>
      rw [ek] at hx
      cases hx
      have hj := (List.getElem?_eq_some_iff.mp ek).1
      refine ⟨rfl, tyes ?_⟩
      refine ⟨_, rfl, k.str, rfl, ?_⟩
      rw [hfR]
      refine ⟨_, hF4, ?_, Same.put s4 hF, ?_⟩
      · rw [List.length_map, List.length_map, List.length_take]
        exact small (by omega)
      · rw [IL, upd_same, take_snoc ek, List.map_append, List.map_append]
        rfl
    · rintro H4 ⟨s4, hF4⟩
      rw [List.length_map, List.take_of_length_le (Nat.le_refl _)] at hF4
      refine ⟨FF, _, rfl, SqL.of hF4, by rw [List.length_map]; exact hpos, fun m hm1 hm2 => ?_⟩
      refine ⟨(by show 1 ≤ sizeLine; decide), fun q hq => ?_⟩
      have est := step_wrong (s := st) h0 h20 hfit hw ⟨hm1, hm2⟩
      rw [est] at post
      have s5 : Same H3 (upd H4 q (.lst [V.int m])) := Same.put s4 (s4.free hq)
      exact post _ q d (TA3.same s5) (s5.il hl3) (by rw [List.length_cons]; omega) upd_same (Kf.mk2 kf3 (s4.free hq) s5) fun x hx => .inl hx
end
end TW

end

section
set_option Elab.async false
set_option linter.all false
set_option maxRecDepth 100000
set_option maxHeartbeats 2000000
namespace TW
open PySem PySem.Spec PyProof.Rows L2

abbrev sAns : Stmt := stm 58
def spAns (K : PySem.W.Frag) : Sp := fun vs H Q _ => ∃ (a : Addr) (ns : List Int), vs = [.ref a] ∧ SqL K H a (ns.map V.int) ∧ ns.length ≤ 17000 ∧ PyVbsgag.answers_asked ns = true ∧
  ∀ (H' : Hp) (p : Addr), H' p = some (.lst ((PyVbsgag.answers ns).map V.int)) → Q (.ref p) H'
structure Lp (CT : Addr) (ns : List Int) (t l q : Addr) (m : Nat) (H : Hp) : Prop where
  ex : ∃ (r : List Int) (s : Vbsgag.State) (d : Tb) (cs : List (List (List Int))) (out : List Int), TabAt CT H t s d ∧ IL H l r.reverse ∧ r.length ≤ 17000 ∧ Reads r cs ∧ cs.length = m ∧ IL H q out ∧
    out ++ PyFlat.told (PyFlat.played VbsgagNeutral.step s cs) = PyVbsgag.answers ns ∧ out.length + 21 * m ≤ 2100 ∧ l ∉ d.foot t ∧ q ∉ l :: d.foot t
section
variable {P : Program} {w : World} {K : PySem.W.Frag} {mg : Str → Option Value} {base : Heap}
theorem scAns : FnScope ["calls", "left", "table", "told", "answered"] ["calls"] (defScope sAns) := ⟨rfl, rfl, rfl, by decide +kernel, rfl, by decide +kernel, by decide +kernel⟩
theorem ok_ans {f fN : Addr} {fd fdN : FuncData} (p : Prg K mg) (F : Fun K "answers" "answers" sAns f fd) (DN : Df K mg "answer_next" sNext ["table", "left"] fN fdN) (GN : FnOk P w K mg base CX0 8 fN fdN ["table", "left"] (spNext p.CT)) : FnOk P w K mg base CX0 10 f fd ["calls"] (spAns K) := by
  refine F.ok scAns (fun vs H Q E h => ?_) (fun cdv A outer s H vs Q E hr h => ?_)
  · obtain ⟨a, ns, rfl, _⟩ := h
    rfl
  · obtain ⟨a, ns, rfl, hS, hz, hask, k⟩ := h
    obtain ⟨raw, hraw, hne, h100, eans⟩ := asked_calls hask
    have GTI : FnOk P w K mg base CX0 2 p.aTI p.gTI ["self", "players", "firms"] (spTabInit p.CT) := ok_tabInit p.mTI p.B p.T p.mLay
    refine ⟨_, pss_cons (ps_set (i := 1) scAns.nd rfl (Or.inl rfl) (pe_listRev rfl rfl p.B.list rfl p.B.reversed (pa_cons (pv 0) pa_nil)))
      (pss_cons (ps_set (i := 2) scAns.nd rfl (Or.inl rfl) (pe_make p.kTI GTI (hr.mono (by decide)) rfl p.mgT p.bTI .nil pass0 (pa_cons pe_int (pa_cons pe_int pa_nil))))
      (pss_cons (ps_set (i := 3) scAns.nd rfl (Or.inl rfl) (pe_lst pa_nil))
      (pss_cons (ps_while PassesOwn.never (pt_cmpR op_gt (pe_callB call_len_seq rfl p.B.len bt_len (pa_cons (pv 1) pa_nil)) pe_int (nomark _))
        (pss_cons (ps_set (i := 4) scAns.nd rfl (Or.inl rfl) (pe_call GN (hr.mono (by decide)) rfl DN.mg DN.fn.kp DN.b .nil pass0 (pa_cons (pv 2) (pa_cons (pv 1) pa_nil))))
        (pss_cons (ps_expr (pe_bm PySem.F.plainAttrs_list PySem.F.slot_list_append PySem.F.type_list_append mt_append (pv 3) (pa_cons (pe_callB call_len_seq rfl p.B.len bt_len (pa_cons (pv 4) pa_nil)) pa_nil)))
        (pss_one (ps_expr (pe_bm PySem.F.plainAttrs_list PySem.F.slot_list_extend PySem.F.type_list_extend mt_extend (pv 3) (pa_cons (pv 4) pa_nil)))))))
      (pss_one (ps_ret (pv 3)))))), ?_⟩
    -- left = list(reversed(calls))
    refine ⟨_, rfl, a, _, rfl, hS, fun l hl => ?_⟩
    have hl1 : IL (upd H l (.lst (ns.map V.int).reverse)) l ns.reverse := by rw [IL, upd_same, List.map_reverse]
    generalize upd H l (.lst (ns.map V.int).reverse) = H1 at hl1 ⊢
    -- table = Table(1, 1)
    intro t dx2 nt nd2 _
    refine ⟨t, dx2, 1, 1, rfl, upd_same, by decide, by decide, by decide, by decide, fun H2 d T2 k2 hf2 => ⟨rfl, ?_⟩⟩
    have s2 : Same H1 H2 := Same.made nt nd2 k2
    have hfr : ∀ x ∈ d.foot t, H1 x = Option.none := fun x hx => by
      rcases hf2 x hx with e | e
      · rw [e]; exact nt
      · by_cases e1 : x = t
        · rw [e1]; exact nt
        · rw [upd_ne e1] at e
          by_cases e2 : x = dx2
          · rw [e2]; exact nd2
          · rwa [upd_ne e2] at e
    have hlf : l ∉ d.foot t := fun hm => by
      have := hfr l hm
      rw [hl1] at this
      cases this
    -- told = []
    refine ⟨Nat.zero_le _, fun q hq => ?_⟩
    have s3 : Same H2 (upd H2 q (.lst [])) := same_new hq
    have hl2 := s2.il hl1
    have hqf : q ∉ l :: d.foot t := fun hm => by
      rcases List.mem_cons.mp hm with e | e
      · rw [e, hl2] at hq; cases hq
      · exact T2.some e hq
    refine ⟨fun m σ H' => ∃ v4 : Option V, σ = [some (.ref a), some (.ref l), some (.ref t), some (.ref q), v4] ∧ Lp p.CT ns t l q m H', ⟨raw.length, none, rfl, ⟨ns, _, d, raw, [], T2.same s3, s3.il hl2, hz, ⟨ns.length, hraw⟩, rfl, upd_same, eans.symm, by simp; omega, hlf, hqf⟩⟩, ?_⟩
    -- while len(left) > 0
    rintro m σ H4 ⟨v4, rfl, ⟨r, st, d4, cs, out, T4, hl4, hz4, R4, hm4, hq4, ho4, hb4, hlf4, hqf4⟩⟩
    refine ⟨_, rfl, l, _, rfl, .inl (SqL.of hl4), _, _, rfl, rfl, _, rfl, ?_⟩
    dsimp only
    have ed : decide ((0 : Int) < (((r.reverse.map V.int).length : Nat) : Int)) = decide (0 < r.length) := by
      rw [List.length_map, List.length_reverse]
      by_cases c : 0 < r.length
      · rw [decide_eq_true c, decide_eq_true (by omega)]
      · rw [decide_eq_false c, decide_eq_false (by omega)]
    rw [ed]
    cases r with
    | nil =>
      have e := R4.nil
      subst e
      refine iteF ⟨_, rfl, k H4 q ?_⟩
      have e2 : out = PyVbsgag.answers ns := by
        rw [← ho4]
        show out = out ++ []
        rw [List.append_nil]
      rw [← e2]
      exact hq4
    | cons x r =>
      obtain ⟨c, rest, cs', hcall, R5, ecs⟩ := R4.cons
      subst ecs
      rw [show decide (0 < (x :: r).length) = true from rfl]
      refine iteT ⟨fun σ' H' => ∃ v4 : Option V, σ' = [some (.ref a), some (.ref l), some (.ref t), some (.ref q), v4] ∧ Lp p.CT ns t l q cs'.length H', fun σ' H' h => ⟨cs'.length, by rw [← hm4, List.length_cons]; exact Nat.lt_succ_self _, h⟩, ?_⟩
      -- answered = answer_next(table, left)
      refine ⟨_, rfl, _, rfl, t, l, st, d4, x :: r, rest, c, rfl, T4, hl4, hz4, hlf4, hcall, fun H6 r6 d6 T6 hl6 hrl6 hr6 kn6 hf6 => ?_⟩
      have wf4 := T4.wf
      have hsl := step_len wf4 c
      have hq6 : IL H6 q out := kn6.kf _ _ hq4 hqf4
      have hrq : r6 ≠ q := kn6.new _ _ hq4 hqf4
      -- told.append(len(answered))
      refine ⟨_, rfl, .inl ⟨rfl, _, SqL.of hq6⟩, _, rfl, r6, _, rfl, .inl (SqL.of hr6), q, _, _, rfl, rfl, hq6, ?_, ?_⟩
      · rw [List.length_map]
        exact small (by omega)
      -- told.extend(answered)
      have hq7 : (upd H6 q (.lst (out.map V.int ++ [V.int ((((VbsgagNeutral.step st c).2.map V.int).length : Nat) : Int)]))) q = some (.lst (out.map V.int ++ [V.int ((((VbsgagNeutral.step st c).2.map V.int).length : Nat) : Int)])) := upd_same
      have hr7 : IL (upd H6 q (.lst (out.map V.int ++ [V.int ((((VbsgagNeutral.step st c).2.map V.int).length : Nat) : Int)]))) r6 (VbsgagNeutral.step st c).2 := by
        rw [IL, upd_ne hrq]
        exact hr6
      have kq7 : Kb q H6 (upd H6 q (.lst (out.map V.int ++ [V.int ((((VbsgagNeutral.step st c).2.map V.int).length : Nat) : Int)]))) := Kb.upd
      generalize upd H6 q (.lst (out.map V.int ++ [V.int ((((VbsgagNeutral.step st c).2.map V.int).length : Nat) : Int)])) = H7 at hq7 hr7 kq7 ⊢
      refine ⟨_, rfl, .inl ⟨rfl, _, SqL.of hq7⟩, _, rfl, q, r6, _, _, rfl, rfl, hq7, hr7, ?_, ?_⟩
      · rw [List.length_append, List.length_map, List.length_map, List.length_singleton]
        exact smallE (by omega)
      have kq8 : Kb q H6 (upd H7 q (.lst ((out.map V.int ++ [V.int ((((VbsgagNeutral.step st c).2.map V.int).length : Nat) : Int)]) ++ (VbsgagNeutral.step st c).2.map V.int))) := Kb.trans kq7 Kb.upd
      have hqf6 : q ∉ l :: d6.foot t := fun hm => by
        rcases List.mem_cons.mp hm with e | e
        · exact hqf4 (e ▸ List.mem_cons_self)
        · rcases hf6 q e with e2 | e2
          · exact hqf4 (List.mem_cons_of_mem _ e2)
          · rw [hq4] at e2
            cases e2
      have hlf6 : l ∉ d6.foot t := fun hm => by
        rcases hf6 l hm with e2 | e2
        · exact hlf4 e2
        · rw [hl4] at e2
          cases e2
      refine ⟨_, rfl, ⟨rest, _, d6, cs', out ++ (((VbsgagNeutral.step st c).2.length : Int) :: (VbsgagNeutral.step st c).2), T6.kb kq8 (fun hm => hqf6 (List.mem_cons_of_mem _ hm)), kq8.il hl6 (fun e => hqf6 (e ▸ List.mem_cons_self)), Nat.le_trans hrl6 hz4, R5, rfl, ?_, ?_, ?_, hlf6, hqf6⟩⟩
      · rw [IL, upd_same, List.map_append, List.map_cons, List.length_map, List.append_assoc]
        rfl
      · rw [← ho4, played_cons, told_cons, List.append_assoc]
      · rw [List.length_append, List.length_cons]
        rw [← hm4, List.length_cons] at hb4
        omega
end
end TW

end

section
set_option Elab.async false
set_option linter.all false
set_option maxRecDepth 100000
set_option maxHeartbeats 2000000
namespace TW
open PySem PySem.Spec PyProof.Rows L2
open PySem.W (Codec)
theorem df_ex {K : PySem.W.Frag} {h : Heap} {mg : Str → Option Value} (X : K.In h) (G : h.Ns mainGlobals mg) {name : Str} {st : Stmt} {ps : List Str} {f : Addr} {oc kV doc pm cdv ct : Value} {od an : Option Addr} {sl : Array (Option Value)}
    (hb : ∀ (kV doc pm : Value) (an : Option Addr) (cdv ct : Value) (us : List Value), us.length = ps.length → bindArgs (PySem.W.fnOf name name (defArgs st) (defBody st) (defScope st) .none kV doc pm an cdv ct) ⟨us, []⟩ = pure (ps.zip us))
    (a : PySem.W.nsIn K mainGlobals name = some (some (.ref f))) (l : K.lookup f = some ⟨oc, od, .func (PySem.W.fnOf name name (defArgs st) (defBody st) (defScope st) .none kV doc pm an cdv ct), sl⟩) (c : PySem.W.codeIn K cdv name = true) (k : PySem.W.keepIn K (.ref f) = true) :
    ∃ (f : Addr) (fd : FuncData), Df K mg name st ps f fd := ⟨f, _, fun_mk l c k, PySem.W.mg_of X G a, (fun_mk l c k).binds hb⟩
theorem md_ex {K : PySem.W.Frag} {C : Addr} {name qual : Str} {st : Stmt} {ps : List Str} {f : Addr} {oc kV doc pm cdv ct : Value} {od an : Option Addr} {sl : Array (Option Value)}
    (hb : ∀ (kV doc pm : Value) (an : Option Addr) (cdv ct : Value) (us : List Value), us.length = ps.length → bindArgs (PySem.W.fnOf name qual (defArgs st) (defBody st) (defScope st) .none kV doc pm an cdv ct) ⟨us, []⟩ = pure (ps.zip us))
    (a : PySem.W.findIn K (.ref C) name = some (some (.ref f))) (i : PySem.W.isFn K (.ref f) = true) (l : K.lookup f = some ⟨oc, od, .func (PySem.W.fnOf name qual (defArgs st) (defBody st) (defScope st) .none kV doc pm an cdv ct), sl⟩) (c : PySem.W.codeIn K cdv qual = true) (k : PySem.W.keepIn K (.ref f) = true) :
    ∃ (f : Addr) (fd : FuncData), Md K C name qual st ps f fd := ⟨f, _, fun_mk l c k, ⟨a, i, k⟩, (fun_mk l c k).binds hb⟩
structure Ini (K : PySem.W.Frag) (C : Addr) (qual : Str) (st : Stmt) (ps : List Str) (f : Addr) (fd : FuncData) : Prop where
  fn : Fun K "__init__" qual st f fd
  b : Binds K fd ps []
  mkd : Mk K C f
theorem ini_ex {K : PySem.W.Frag} {C : Addr} {qual : Str} {st : Stmt} {ps : List Str} {f : Addr} {oc kV doc pm cdv ct : Value} {od an : Option Addr} {sl : Array (Option Value)}
    (hb : ∀ (kV doc pm : Value) (an : Option Addr) (cdv ct : Value) (us : List Value), us.length = ps.length → bindArgs (PySem.W.fnOf "__init__" qual (defArgs st) (defBody st) (defScope st) .none kV doc pm an cdv ct) ⟨us, []⟩ = pure (ps.zip us))
    (a : PySem.W.findIn K (.ref C) "__init__" = some (some (.ref f))) (i : PySem.W.isFn K (.ref f) = true) (l : K.lookup f = some ⟨oc, od, .func (PySem.W.fnOf "__init__" qual (defArgs st) (defBody st) (defScope st) .none kV doc pm an cdv ct), sl⟩) (c : PySem.W.codeIn K cdv qual = true) (k : PySem.W.keepIn K (.ref f) = true)
    (mk : PySem.W.makesIn K C = true) (kc : PySem.W.keepIn K (.ref C) = true) :
    ∃ (f : Addr) (fd : FuncData), Ini K C qual st ps f fd := ⟨f, _, fun_mk l c k, (fun_mk l c k).binds hb, ⟨mk, a, i, kc⟩⟩
theorem gint_mk {K : PySem.W.Frag} {h : Heap} {mg : Str → Option Value} (X : K.In h) (G : h.Ns mainGlobals mg) {x : Str} {z : Int} {t : Tok} (a : PySem.W.nsIn K mainGlobals x = some (some (.int z t))) : GInt mg x z := ⟨t, PySem.W.mg_of X G a⟩
theorem kdict_mk {P : Program} {w : World} {K : PySem.W.Frag} {d : Addr} {ep : Nat} (tbl : List (Int × Tok × Addr)) (l : K.lookup d = some ⟨.type "dict", none, .dict (tbl.map fun x => (⟨hashInt x.1, .int x.1 x.2.1, .ref x.2.2⟩ : DictEntry)).toArray ep, #[]⟩) :
    KDict P w K d (fun k => (tbl.find? fun x => x.1 == k).map fun x => V.ref x.2.2) := by
  refine ⟨_, _, ep, l, ⟨rfl, rfl, rfl⟩, rfl, fun e he => ?_, fun k v hv => ?_⟩
  · have he : e ∈ tbl.map fun x => (⟨hashInt x.1, .int x.1 x.2.1, .ref x.2.2⟩ : DictEntry) := by simpa using he
    obtain ⟨x, _, rfl⟩ := List.mem_map.mp he
    exact ⟨x.1, by simp [PySem.intKind, Value.isInt], rfl⟩
  · obtain ⟨x, hx, rfl⟩ := Option.map_eq_some_iff.mp hv
    refine ⟨.ref x.2.2, ?_, rfl⟩
    unfold findBy
    rw [List.find?_toArray, List.find?_map]
    have e : ((fun e : DictEntry => (PySem.intKind P w).is k e.key) ∘ fun x : Int × Tok × Addr => (⟨hashInt x.1, .int x.1 x.2.1, .ref x.2.2⟩ : DictEntry)) = fun x => x.1 == k := by
      funext y
      simp [PySem.intKind, Value.isInt]
    rw [e, hx]
    rfl
theorem kdictS_mk {P : Program} {w : World} {K : PySem.W.Frag} {d : Addr} {ep : Nat} (tbl : List (Int × Str × Tok × Int × Tok)) (hh : ∀ x ∈ tbl, x.1 = hashStr w x.2.1) (hs : (d == sysModules) = false)
    (l : K.lookup d = some ⟨.type "dict", none, .dict (tbl.map fun x => (⟨x.1, .str x.2.1 x.2.2.1, .int x.2.2.2.1 x.2.2.2.2⟩ : DictEntry)).toArray ep, #[]⟩) :
    KDictS P w K d (fun k => (tbl.find? fun x => decide (x.2.1 = k)).map fun x => V.int x.2.2.2.1) := by
  refine ⟨_, _, ep, l, ⟨rfl, rfl, rfl⟩, rfl, fun e he => ?_, hs, fun k => ?_⟩
  · have he : e ∈ tbl.map fun x => (⟨x.1, .str x.2.1 x.2.2.1, .int x.2.2.2.1 x.2.2.2.2⟩ : DictEntry) := by simpa using he
    obtain ⟨x, hx, rfl⟩ := List.mem_map.mp he
    exact ⟨.inr x.2.1, mixKind_str P w _ _, hh x hx⟩
  · unfold findBy
    rw [List.find?_toArray, List.find?_map]
    have e : ((fun e : DictEntry => (mixKind P w).is (Sum.inr k) e.key) ∘ fun x : Int × Str × Tok × Int × Tok => (⟨x.1, .str x.2.1 x.2.2.1, .int x.2.2.2.1 x.2.2.2.2⟩ : DictEntry)) = fun x => decide (x.2.1 = k) := by
      funext y
      show keyIs (Sum.inr k) (.str y.2.1 y.2.2.1) = _
      simp only [keyIs, Value.isStrOf]
      by_cases h : y.2.1 = k
      · rw [decide_eq_true h, h]
        simp
      · rw [decide_eq_false h]
        simp [h]
    rw [e]
    dsimp only
    cases e2 : tbl.find? fun x => decide (x.2.1 = k) with
    | none => exact .inl ⟨rfl, rfl⟩
    | some x => exact .inr ⟨_, _, rfl, rfl, ⟨_, rfl⟩⟩
theorem kt_mk {K : PySem.W.Frag} {a : Addr} {xs : List V} {its : Array Value} {n : Nat} {od : Option Addr} {sl : Array (Option Value)} (l : K.lookup a = some ⟨.type "tuple", od, .seq its n, sl⟩) (hz : its.size ≤ 100) (hv : Vals xs its.toList) : KT K a xs :=
  ⟨_, its, n, l, rfl, rfl, Nat.le_trans hz (by decide), hv⟩
def CallAt (P : Program) (w : World) (K : PySem.W.Frag) (mg : Str → Option Value) (base : Heap) (C : Addr) (num : Int) (c : Addr) : Prop :=
  ∃ kt f : Addr, KT K c [.ref f, .ref kt] ∧ KT K kt ((kindsN num).map fun k => V.str k.str) ∧ IsAns P w K mg base C f num
theorem call_mk {P : Program} {w : World} {K : PySem.W.Frag} {mg : Str → Option Value} {base : Heap} {C c kt f : Addr} {num : Int} {name : Str} {st : Stmt} {ps : List Str} {its : Array Value} {nu nv : Nat} {ou ov : Option Addr} {su sv : Array (Option Value)}
    {oc kV doc pm cdv ct : Value} {od an : Option Addr} {sl : Array (Option Value)}
    (hok : ∀ {fd : FuncData}, Fun K name name st f fd → FnOk P w K mg base CX0 6 f fd ps (spDo C num))
    (hb : ∀ (kV doc pm : Value) (an : Option Addr) (cdv ct : Value) (us : List Value), us.length = ps.length → bindArgs (PySem.W.fnOf name name (defArgs st) (defBody st) (defScope st) .none kV doc pm an cdv ct) ⟨us, []⟩ = pure (ps.zip us))
    (u : K.lookup c = some ⟨.type "tuple", ou, .seq #[.ref f, .ref kt] nu, su⟩) (v : K.lookup kt = some ⟨.type "tuple", ov, .seq its nv, sv⟩) (hz : its.size ≤ 100) (hv : Vals ((kindsN num).map fun k => V.str k.str) its.toList)
    (l : K.lookup f = some ⟨oc, od, .func (PySem.W.fnOf name name (defArgs st) (defBody st) (defScope st) .none kV doc pm an cdv ct), sl⟩) (hc : PySem.W.codeIn K cdv name = true) (k : PySem.W.keepIn K (.ref f) = true) : CallAt P w K mg base C num c :=
  ⟨kt, f, kt_mk u (by show 2 ≤ 100; decide) (.cons rfl (.cons rfl .nil)), kt_mk v hz hv, _, ps, hok (fun_mk l hc k), k, (fun_mk l hc k).binds hb⟩
def refT (h0 h1 h2 : Int) (a0 b0 a1 b1 a2 b2 : Tok) : List (Int × Str × Tok × Int × Tok) := [(h0, "player", a0, -1, b0), (h1, "firm", a1, -1, b1), (h2, "assignment", a2, -3, b2)]
theorem ref_k (h0 h1 h2 : Int) (a0 b0 a1 b1 a2 b2 : Tok) (k : Kd) : (((refT h0 h1 h2 a0 b0 a1 b1 a2 b2).find? fun x => decide (x.2.1 = k.str)).map fun x => V.int x.2.2.2.1).getD (.int (-2)) = .int (refOf k) := by
  have s1 : ∀ k : Kd, decide (("player" : Str) = k.str) = decide (k = .player) := by intro k; cases k <;> decide +kernel
  have s2 : ∀ k : Kd, decide (("firm" : Str) = k.str) = decide (k = .firm) := by intro k; cases k <;> decide +kernel
  have s3 : ∀ k : Kd, decide (("assignment" : Str) = k.str) = decide (k = .asg) := by intro k; cases k <;> decide +kernel
  unfold refT
  rw [List.find?_cons, List.find?_cons, List.find?_cons, List.find?_nil]
  dsimp only
  rw [s1, s2, s3]
  cases k <;> rfl

theorem ans_mk {P : Program} {w : World} {K : PySem.W.Frag} {h : Heap} {mg : Str → Option Value} {fa dC dR aL fT fB fN : Addr} {fdT fdB fdN : FuncData} {ep epR nL : Nat} {oL : Option Addr} {sL : Array (Option Value)} {c0 c1 c2 c3 c4 c5 c6 c7 c8 c9 c10 c11 c12 c13 c14 c15 c16 c17 c18 c19 c20 : Addr} {t0 t1 t2 t3 t4 t5 t6 t7 t8 t9 t10 t11 t12 t13 t14 t15 t16 t17 t18 t19 t20 : Tok} {h0 h1 h2 : Int} {ta0 tb0 ta1 tb1 ta2 tb2 tl0 tl1 : Tok} (X : K.In h) (G : h.Ns mainGlobals mg) (hfa : mg "answers" = some (.ref fa)) (p : Prg K mg)
    {fA : Addr} {ocA kVA dcA pmA cdA ctA : Value} {odA anA : Option Addr} {slA : Array (Option Value)}
    (DT : Df K mg "taken" sTaken ["left", "kind"] fT fdT) (DB : Df K mg "answer_by" sBy ["answer", "table", "told"] fB fdB) (DN : Df K mg "answer_next" sNext ["table", "left"] fN fdN)
    (aD : PySem.W.nsIn K mainGlobals "CALLS" = some (some (.ref dC))) (lD : K.lookup dC = some ⟨.type "dict", none, .dict #[⟨0, .int 0 t0, .ref c0⟩, ⟨1, .int 1 t1, .ref c1⟩, ⟨2, .int 2 t2, .ref c2⟩, ⟨3, .int 3 t3, .ref c3⟩, ⟨4, .int 4 t4, .ref c4⟩, ⟨5, .int 5 t5, .ref c5⟩, ⟨6, .int 6 t6, .ref c6⟩, ⟨7, .int 7 t7, .ref c7⟩, ⟨8, .int 8 t8, .ref c8⟩, ⟨9, .int 9 t9, .ref c9⟩, ⟨10, .int 10 t10, .ref c10⟩, ⟨11, .int 11 t11, .ref c11⟩, ⟨12, .int 12 t12, .ref c12⟩, ⟨13, .int 13 t13, .ref c13⟩, ⟨14, .int 14 t14, .ref c14⟩, ⟨15, .int 15 t15, .ref c15⟩, ⟨16, .int 16 t16, .ref c16⟩, ⟨17, .int 17 t17, .ref c17⟩, ⟨18, .int 18 t18, .ref c18⟩, ⟨19, .int 19 t19, .ref c19⟩, ⟨20, .int 20 t20, .ref c20⟩] ep, #[]⟩)
    (hc0 : ∀ base : Heap, CallAt P w K mg base p.CT 0 c0) (hc1 : ∀ base : Heap, CallAt P w K mg base p.CT 1 c1) (hc2 : ∀ base : Heap, CallAt P w K mg base p.CT 2 c2) (hc3 : ∀ base : Heap, CallAt P w K mg base p.CT 3 c3) (hc4 : ∀ base : Heap, CallAt P w K mg base p.CT 4 c4) (hc5 : ∀ base : Heap, CallAt P w K mg base p.CT 5 c5) (hc6 : ∀ base : Heap, CallAt P w K mg base p.CT 6 c6) (hc7 : ∀ base : Heap, CallAt P w K mg base p.CT 7 c7) (hc8 : ∀ base : Heap, CallAt P w K mg base p.CT 8 c8) (hc9 : ∀ base : Heap, CallAt P w K mg base p.CT 9 c9) (hc10 : ∀ base : Heap, CallAt P w K mg base p.CT 10 c10) (hc11 : ∀ base : Heap, CallAt P w K mg base p.CT 11 c11) (hc12 : ∀ base : Heap, CallAt P w K mg base p.CT 12 c12) (hc13 : ∀ base : Heap, CallAt P w K mg base p.CT 13 c13) (hc14 : ∀ base : Heap, CallAt P w K mg base p.CT 14 c14) (hc15 : ∀ base : Heap, CallAt P w K mg base p.CT 15 c15) (hc16 : ∀ base : Heap, CallAt P w K mg base p.CT 16 c16) (hc17 : ∀ base : Heap, CallAt P w K mg base p.CT 17 c17) (hc18 : ∀ base : Heap, CallAt P w K mg base p.CT 18 c18) (hc19 : ∀ base : Heap, CallAt P w K mg base p.CT 19 c19) (hc20 : ∀ base : Heap, CallAt P w K mg base p.CT 20 c20)
    (aR : PySem.W.nsIn K mainGlobals "REFUSALS" = some (some (.ref dR))) (lR : K.lookup dR = some ⟨.type "dict", none, .dict #[⟨h0, .str "player" ta0, .int (-1) tb0⟩, ⟨h1, .str "firm" ta1, .int (-1) tb1⟩, ⟨h2, .str "assignment" ta2, .int (-3) tb2⟩] epR, #[]⟩)
    (e0 : h0 = hashStr w "player") (e1 : h1 = hashStr w "firm") (e2 : h2 = hashStr w "assignment") (sy : (dR == sysModules) = false)
    (aLs : PySem.W.nsIn K mainGlobals "LISTS" = some (some (.ref aL))) (lLs : K.lookup aL = some ⟨.type "tuple", oL, .seq #[.str "amounts" tl0, .str "assignment" tl1] nL, sL⟩)
    (aA : PySem.W.nsIn K mainGlobals "answers" = some (some (.ref fA))) (lA : K.lookup fA = some ⟨ocA, odA, .func (PySem.W.fnOf "answers" "answers" (defArgs sAns) (defBody sAns) (defScope sAns) .none kVA dcA pmA anA cdA ctA), slA⟩) (cA : PySem.W.codeIn K cdA "answers" = true) (kA : PySem.W.keepIn K (.ref fA) = true) :
    ∃ fd : FuncData, (∀ (s : Shared) (us : List Value), us.length = (["calls"] : List Str).length → BindsTo s fd ⟨us, []⟩ ((["calls"] : List Str).zip us)) ∧ ∀ base : Heap, K.In base → base.Ns mainGlobals mg → FnOk P w K mg base CX0 10 fa fd ["calls"] (spAns K) := by
  have e := hfa.symm.trans (PySem.W.mg_of X G aA)
  cases e
  have FA := fun_mk (st := sAns) lA cA kA
  have hL : KT K aL [V.str "amounts", V.str "assignment"] := kt_mk lLs (by show 2 ≤ 100; decide) (.cons ⟨_, rfl⟩ (.cons ⟨_, rfl⟩ .nil))
  have KR : KDictS P w K dR _ := kdictS_mk (refT h0 h1 h2 ta0 tb0 ta1 tb1 ta2 tb2) (fun x hx => by
    rcases List.mem_cons.mp hx with z | hx
    · rw [z]; exact e0
    rcases List.mem_cons.mp hx with z | hx
    · rw [z]; exact e1
    rcases List.mem_cons.mp hx with z | hx
    · rw [z]; exact e2
    · cases hx) sy lR
  have KD : KDict P w K dC _ := kdict_mk [(0, t0, c0), (1, t1, c1), (2, t2, c2), (3, t3, c3), (4, t4, c4), (5, t5, c5), (6, t6, c6), (7, t7, c7), (8, t8, c8), (9, t9, c9), (10, t10, c10), (11, t11, c11), (12, t12, c12), (13, t13, c13), (14, t14, c14), (15, t15, c15), (16, t16, c16), (17, t17, c17), (18, t18, c18), (19, t19, c19), (20, t20, c20)] lD
  refine ⟨PySem.W.fnOf "answers" "answers" (defArgs sAns) (defBody sAns) (defScope sAns) .none kVA dcA pmA anA cdA ctA, fun s us hu => match us, hu with | [_], _ => .of_eq rfl, fun base _ _ => ?_⟩
  have hDisp : Disp P w K mg base p.CT (fun k => (([(0, t0, c0), (1, t1, c1), (2, t2, c2), (3, t3, c3), (4, t4, c4), (5, t5, c5), (6, t6, c6), (7, t7, c7), (8, t8, c8), (9, t9, c9), (10, t10, c10), (11, t11, c11), (12, t12, c12), (13, t13, c13), (14, t14, c14), (15, t15, c15), (16, t16, c16), (17, t17, c17), (18, t18, c18), (19, t19, c19), (20, t20, c20)] : List (Int × Tok × Addr)).find? fun x => x.1 == k).map fun x => V.ref x.2.2) := by
    intro num g0 g20
    rcases cases21 g0 g20 with e | e | e | e | e | e | e | e | e | e | e | e | e | e | e | e | e | e | e | e | e <;> subst e
    · obtain ⟨kt, f, a, b, c⟩ := hc0 base
      exact ⟨c0, kt, f, rfl, a, b, c⟩
    · obtain ⟨kt, f, a, b, c⟩ := hc1 base
      exact ⟨c1, kt, f, rfl, a, b, c⟩
    · obtain ⟨kt, f, a, b, c⟩ := hc2 base
      exact ⟨c2, kt, f, rfl, a, b, c⟩
    · obtain ⟨kt, f, a, b, c⟩ := hc3 base
      exact ⟨c3, kt, f, rfl, a, b, c⟩
    · obtain ⟨kt, f, a, b, c⟩ := hc4 base
      exact ⟨c4, kt, f, rfl, a, b, c⟩
    · obtain ⟨kt, f, a, b, c⟩ := hc5 base
      exact ⟨c5, kt, f, rfl, a, b, c⟩
    · obtain ⟨kt, f, a, b, c⟩ := hc6 base
      exact ⟨c6, kt, f, rfl, a, b, c⟩
    · obtain ⟨kt, f, a, b, c⟩ := hc7 base
      exact ⟨c7, kt, f, rfl, a, b, c⟩
    · obtain ⟨kt, f, a, b, c⟩ := hc8 base
      exact ⟨c8, kt, f, rfl, a, b, c⟩
    · obtain ⟨kt, f, a, b, c⟩ := hc9 base
      exact ⟨c9, kt, f, rfl, a, b, c⟩
    · obtain ⟨kt, f, a, b, c⟩ := hc10 base
      exact ⟨c10, kt, f, rfl, a, b, c⟩
    · obtain ⟨kt, f, a, b, c⟩ := hc11 base
      exact ⟨c11, kt, f, rfl, a, b, c⟩
    · obtain ⟨kt, f, a, b, c⟩ := hc12 base
      exact ⟨c12, kt, f, rfl, a, b, c⟩
    · obtain ⟨kt, f, a, b, c⟩ := hc13 base
      exact ⟨c13, kt, f, rfl, a, b, c⟩
    · obtain ⟨kt, f, a, b, c⟩ := hc14 base
      exact ⟨c14, kt, f, rfl, a, b, c⟩
    · obtain ⟨kt, f, a, b, c⟩ := hc15 base
      exact ⟨c15, kt, f, rfl, a, b, c⟩
    · obtain ⟨kt, f, a, b, c⟩ := hc16 base
      exact ⟨c16, kt, f, rfl, a, b, c⟩
    · obtain ⟨kt, f, a, b, c⟩ := hc17 base
      exact ⟨c17, kt, f, rfl, a, b, c⟩
    · obtain ⟨kt, f, a, b, c⟩ := hc18 base
      exact ⟨c18, kt, f, rfl, a, b, c⟩
    · obtain ⟨kt, f, a, b, c⟩ := hc19 base
      exact ⟨c19, kt, f, rfl, a, b, c⟩
    · obtain ⟨kt, f, a, b, c⟩ := hc20 base
      exact ⟨c20, kt, f, rfl, a, b, c⟩
  have GT : FnOk P w K mg base CX0 1 fT fdT ["left", "kind"] spTaken := ok_taken DT.fn p.B (PySem.W.mg_of X G aLs) hL
  exact ok_ans (P := P) (w := w) (base := base) p FA DN (ok_next (P := P) (w := w) (base := base) p DN.fn (PySem.W.mg_of X G aD) KD hDisp (PySem.W.mg_of X G aR) KR (fun k => ref_k _ _ _ _ _ _ _ _ _ k) DT GT DB)
end TW

end

set_option Elab.async false
set_option linter.all false
set_option maxRecDepth 100000
set_option maxHeartbeats 2000000
open PySem PySem.W PyProof.Rows
set_option maxRecDepth 100000 in
set_option maxHeartbeats 0 in
theorem PySem.Challenge.cw_toldworths_s01_answers_holds : PySem.Challenge.rw_toldworths_s01_answers.Holds := by
  w_on; k_headS; (case hw => exact ⟨[.list [.int 5]], by decide +kernel, by decide +kernel⟩)
  k_fillS
  refine L2.walk_specK (r := PySem.Challenge.rw_toldworths_s01_answers) (k := 10) (CX := L2.CX0) (ps := ["calls"]) (sp := TW.spAns) (by decide +kernel) rfl rfl ⟨rfl, by decide, by decide⟩ (fun w h Y => PySem.W.kIn_of Y) ?F ?S (fun _ _ _ _ z => z)
  case F =>
    intro w mg fa h Y KX G hmg
    have hB : TW.Blt mg := by
      refine' ⟨PySem.W.mg_none_of KX G ?blen, PySem.W.mg_none_of KX G ?brange, PySem.W.mg_none_of KX G ?bzip, PySem.W.mg_none_of KX G ?benumerate, PySem.W.mg_none_of KX G ?breversed, PySem.W.mg_none_of KX G ?bmax, PySem.W.mg_none_of KX G ?bsum, PySem.W.mg_none_of KX G ?ball, PySem.W.mg_none_of KX G ?blist, PySem.W.mg_none_of KX G ?bset, PySem.W.mg_none_of KX G ?bmin, PySem.W.mg_none_of KX G ?bsorted⟩
      (case blen => k_is)
      (case brange => k_is)
      (case bzip => k_is)
      (case benumerate => k_is)
      (case breversed => k_is)
      (case bmax => k_is)
      (case bsum => k_is)
      (case ball => k_is)
      (case blist => k_is)
      (case bset => k_is)
      (case bmin => k_is)
      (case bsorted => k_is)
    have h_mp : TW.GInt mg "MOST_PLAYERS" 5 := by
      refine' TW.gint_mk KX G ?a
      (case a => k_is)
    have h_mf : TW.GInt mg "MOST_FIRMS" 6 := by
      refine' TW.gint_mk KX G ?a
      (case a => k_is)
    have h_mm : TW.GInt mg "MOST_MONEY" 1000000000 := by
      refine' TW.gint_mk KX G ?a
      (case a => k_is)
    have h_mr : TW.GInt mg "MOST_ROUNDS" 1000 := by
      refine' TW.gint_mk KX G ?a
      (case a => k_is)
    have h_oor : TW.GInt mg "OUT_OF_RANGE" (-2) := by
      refine' TW.gint_mk KX G ?a
      (case a => k_is)
    have hc_CT : ∃ C, mg "Table" = some (.ref C) ∧ PySem.W.nsIn (L2.KOf KX) mainGlobals "Table" = some (some (.ref C)) ∧ TW.TTx (L2.KOf KX) C ∧ (∃ (f : Addr) (fd : FuncData), TW.Md (L2.KOf KX) C "lay" "Table.lay" TW.sLay ["self", "players", "firms"] f fd) ∧ (∃ (f : Addr) (fd : FuncData), TW.Md (L2.KOf KX) C "set_clock_back" "Table.set_clock_back" TW.sBack ["self"] f fd) ∧ (∃ (f : Addr) (fd : FuncData), TW.Md (L2.KOf KX) C "wins" "Table.wins" TW.sWins ["self"] f fd) ∧ (∃ (f : Addr) (fd : FuncData), TW.Ini (L2.KOf KX) C "Table.__init__" TW.sTabInit ["self", "players", "firms"] f fd) := by
      dsimp only [L2.KOf]
      refine' ⟨_, PySem.W.mg_of KX G ?a, ?a, ⟨⟨?pg, ?hd, ?po, ?sa⟩, ?nbases, ?nworths, ?nclock⟩, ?mLay, ?mBack, ?mWins, ?ini⟩
      (case a => k_is)
      (case pg => k_is)
      (case hd => k_is)
      (case po => k_is)
      (case sa => k_is)
      (case nbases => unfold L2.NoAttr; k_is)
      (case nworths => unfold L2.NoAttr; k_is)
      (case nclock => unfold L2.NoAttr; k_is)
      case mLay =>
        refine' TW.md_ex (fun _ _ _ _ _ _ us hl => match us, hl with | [_, _, _], _ => rfl) ?a ?i ?l ?c ?k
        (case a => k_is)
        (case i => k_is)
        (case l => k_is)
        (case c => k_is)
        (case k => k_is)
      case mBack =>
        refine' TW.md_ex (fun _ _ _ _ _ _ us hl => match us, hl with | [_], _ => rfl) ?a ?i ?l ?c ?k
        (case a => k_is)
        (case i => k_is)
        (case l => k_is)
        (case c => k_is)
        (case k => k_is)
      case mWins =>
        refine' TW.md_ex (fun _ _ _ _ _ _ us hl => match us, hl with | [_], _ => rfl) ?a ?i ?l ?c ?k
        (case a => k_is)
        (case i => k_is)
        (case l => k_is)
        (case c => k_is)
        (case k => k_is)
      case ini =>
        refine' TW.ini_ex (fun _ _ _ _ _ _ us hl => match us, hl with | [_, _, _], _ => rfl) ?a ?i ?l ?c ?k ?mk ?kc
        (case a => k_is)
        (case i => k_is)
        (case l => k_is)
        (case c => k_is)
        (case k => k_is)
        (case mk => k_is)
        (case kc => k_is)
    obtain ⟨CT, mg_CT, _, T_CT, ⟨aLay, gLay, mLay⟩, ⟨aBack, gBack, mBack⟩, ⟨aWins, gWins, mWins⟩, ⟨ai_CT, gi_CT, ini_CT⟩⟩ := hc_CT
    have hd_Gat : ∃ (f : Addr) (fd : FuncData), TW.Df (L2.KOf KX) mg "gains_at" TW.sGat ["worths", "prices"] f fd := by
      dsimp only [L2.KOf]
      refine' TW.df_ex KX G (fun _ _ _ _ _ _ us hl => match us, hl with | [_, _], _ => rfl) ?a ?l ?c ?k
      (case a => k_is)
      (case l => k_is)
      (case c => k_is)
      (case k => k_is)
    obtain ⟨aGat, gGat, dGat⟩ := hd_Gat
    have hd_Rep : ∃ (f : Addr) (fd : FuncData), TW.Df (L2.KOf KX) mg "replaced" TW.sRep ["some", "p", "new"] f fd := by
      dsimp only [L2.KOf]
      refine' TW.df_ex KX G (fun _ _ _ _ _ _ us hl => match us, hl with | [_, _, _], _ => rfl) ?a ?l ?c ?k
      (case a => k_is)
      (case l => k_is)
      (case c => k_is)
      (case k => k_is)
    obtain ⟨aRep, gRep, dRep⟩ := hd_Rep
    have hd_Gw : ∃ (f : Addr) (fd : FuncData), TW.Df (L2.KOf KX) mg "greatest_with" TW.sGw ["row", "behind"] f fd := by
      dsimp only [L2.KOf]
      refine' TW.df_ex KX G (fun _ _ _ _ _ _ us hl => match us, hl with | [_, _], _ => rfl) ?a ?l ?c ?k
      (case a => k_is)
      (case l => k_is)
      (case c => k_is)
      (case k => k_is)
    obtain ⟨aGw, gGw, dGw⟩ := hd_Gw
    have hd_Gbl : ∃ (f : Addr) (fd : FuncData), TW.Df (L2.KOf KX) mg "greatest_by_last" TW.sGbl ["wins"] f fd := by
      dsimp only [L2.KOf]
      refine' TW.df_ex KX G (fun _ _ _ _ _ _ us hl => match us, hl with | [_], _ => rfl) ?a ?l ?c ?k
      (case a => k_is)
      (case l => k_is)
      (case c => k_is)
      (case k => k_is)
    obtain ⟨aGbl, gGbl, dGbl⟩ := hd_Gbl
    have hd_Gt : ∃ (f : Addr) (fd : FuncData), TW.Df (L2.KOf KX) mg "greatest_total" TW.sGt ["wins"] f fd := by
      dsimp only [L2.KOf]
      refine' TW.df_ex KX G (fun _ _ _ _ _ _ us hl => match us, hl with | [_], _ => rfl) ?a ?l ?c ?k
      (case a => k_is)
      (case l => k_is)
      (case c => k_is)
      (case k => k_is)
    obtain ⟨aGt, gGt, dGt⟩ := hd_Gt
    have hd_Wn : ∃ (f : Addr) (fd : FuncData), TW.Df (L2.KOf KX) mg "with_next" TW.sWn ["begun", "row", "greatest", "behind"] f fd := by
      dsimp only [L2.KOf]
      refine' TW.df_ex KX G (fun _ _ _ _ _ _ us hl => match us, hl with | [_, _, _, _], _ => rfl) ?a ?l ?c ?k
      (case a => k_is)
      (case l => k_is)
      (case c => k_is)
      (case k => k_is)
    obtain ⟨aWn, gWn, dWn⟩ := hd_Wn
    have hd_Bas : ∃ (f : Addr) (fd : FuncData), TW.Df (L2.KOf KX) mg "best_assignments" TW.sBas ["wins"] f fd := by
      dsimp only [L2.KOf]
      refine' TW.df_ex KX G (fun _ _ _ _ _ _ us hl => match us, hl with | [_], _ => rfl) ?a ?l ?c ?k
      (case a => k_is)
      (case l => k_is)
      (case c => k_is)
      (case k => k_is)
    obtain ⟨aBas, gBas, dBas⟩ := hd_Bas
    have hd_Won : ∃ (f : Addr) (fd : FuncData), TW.Df (L2.KOf KX) mg "won_by" TW.sWon ["assignment", "wins"] f fd := by
      dsimp only [L2.KOf]
      refine' TW.df_ex KX G (fun _ _ _ _ _ _ us hl => match us, hl with | [_, _], _ => rfl) ?a ?l ?c ?k
      (case a => k_is)
      (case l => k_is)
      (case c => k_is)
      (case k => k_is)
    obtain ⟨aWon, gWon, dWon⟩ := hd_Won
    have hd_Tw : ∃ (f : Addr) (fd : FuncData), TW.Df (L2.KOf KX) mg "total_without" TW.sTw ["wins", "p"] f fd := by
      dsimp only [L2.KOf]
      refine' TW.df_ex KX G (fun _ _ _ _ _ _ us hl => match us, hl with | [_, _], _ => rfl) ?a ?l ?c ?k
      (case a => k_is)
      (case l => k_is)
      (case c => k_is)
      (case k => k_is)
    obtain ⟨aTw, gTw, dTw⟩ := hd_Tw
    have hd_Again : ∃ (f : Addr) (fd : FuncData), TW.Df (L2.KOf KX) mg "with_firm_again" TW.sAgain ["wins", "i"] f fd := by
      dsimp only [L2.KOf]
      refine' TW.df_ex KX G (fun _ _ _ _ _ _ us hl => match us, hl with | [_, _], _ => rfl) ?a ?l ?c ?k
      (case a => k_is)
      (case l => k_is)
      (case c => k_is)
      (case k => k_is)
    obtain ⟨aAgain, gAgain, dAgain⟩ := hd_Again
    have hd_Least : ∃ (f : Addr) (fd : FuncData), TW.Df (L2.KOf KX) mg "least_prices" TW.sLeast ["bases", "wins"] f fd := by
      dsimp only [L2.KOf]
      refine' TW.df_ex KX G (fun _ _ _ _ _ _ us hl => match us, hl with | [_, _], _ => rfl) ?a ?l ?c ?k
      (case a => k_is)
      (case l => k_is)
      (case c => k_is)
      (case k => k_is)
    obtain ⟨aLeast, gLeast, dLeast⟩ := hd_Least
    have hd_Great : ∃ (f : Addr) (fd : FuncData), TW.Df (L2.KOf KX) mg "greatest_prices" TW.sGreat ["bases", "wins"] f fd := by
      dsimp only [L2.KOf]
      refine' TW.df_ex KX G (fun _ _ _ _ _ _ us hl => match us, hl with | [_, _], _ => rfl) ?a ?l ?c ?k
      (case a => k_is)
      (case l => k_is)
      (case c => k_is)
      (case k => k_is)
    obtain ⟨aGreat, gGreat, dGreat⟩ := hd_Great
    have hd_Gain : ∃ (f : Addr) (fd : FuncData), TW.Df (L2.KOf KX) mg "gain_by" TW.sGain ["i", "worths", "prices"] f fd := by
      dsimp only [L2.KOf]
      refine' TW.df_ex KX G (fun _ _ _ _ _ _ us hl => match us, hl with | [_, _, _], _ => rfl) ?a ?l ?c ?k
      (case a => k_is)
      (case l => k_is)
      (case c => k_is)
      (case k => k_is)
    obtain ⟨aGain, gGain, dGain⟩ := hd_Gain
    have hd_Git : ∃ (f : Addr) (fd : FuncData), TW.Df (L2.KOf KX) mg "gain_if_told" TW.sGit ["table", "p", "told"] f fd := by
      dsimp only [L2.KOf]
      refine' TW.df_ex KX G (fun _ _ _ _ _ _ us hl => match us, hl with | [_, _, _], _ => rfl) ?a ?l ?c ?k
      (case a => k_is)
      (case l => k_is)
      (case c => k_is)
      (case k => k_is)
    obtain ⟨aGit, gGit, dGit⟩ := hd_Git
    have hd_Gg : ∃ (f : Addr) (fd : FuncData), TW.Df (L2.KOf KX) mg "greatest_gain" TW.sGg ["gains"] f fd := by
      dsimp only [L2.KOf]
      refine' TW.df_ex KX G (fun _ _ _ _ _ _ us hl => match us, hl with | [_], _ => rfl) ?a ?l ?c ?k
      (case a => k_is)
      (case l => k_is)
      (case c => k_is)
      (case k => k_is)
    obtain ⟨aGg, gGg, dGg⟩ := hd_Gg
    have hd_Dem : ∃ (f : Addr) (fd : FuncData), TW.Df (L2.KOf KX) mg "demanded" TW.sDem ["gains"] f fd := by
      dsimp only [L2.KOf]
      refine' TW.df_ex KX G (fun _ _ _ _ _ _ us hl => match us, hl with | [_], _ => rfl) ?a ?l ?c ?k
      (case a => k_is)
      (case l => k_is)
      (case c => k_is)
      (case k => k_is)
    obtain ⟨aDem, gDem, dDem⟩ := hd_Dem
    have hd_Cp : ∃ (f : Addr) (fd : FuncData), TW.Df (L2.KOf KX) mg "is_competitive" TW.sCp ["table", "prices"] f fd := by
      dsimp only [L2.KOf]
      refine' TW.df_ex KX G (fun _ _ _ _ _ _ us hl => match us, hl with | [_, _], _ => rfl) ?a ?l ?c ?k
      (case a => k_is)
      (case l => k_is)
      (case c => k_is)
      (case k => k_is)
    obtain ⟨aCp, gCp, dCp⟩ := hd_Cp
    have hd_Lio : ∃ (f : Addr) (fd : FuncData), TW.Df (L2.KOf KX) mg "lists_in_order" TW.sLio ["firms"] f fd := by
      dsimp only [L2.KOf]
      refine' TW.df_ex KX G (fun _ _ _ _ _ _ us hl => match us, hl with | [_], _ => rfl) ?a ?l ?c ?k
      (case a => k_is)
      (case l => k_is)
      (case c => k_is)
      (case k => k_is)
    obtain ⟨aLio, gLio, dLio⟩ := hd_Lio
    have hd_Set : ∃ (f : Addr) (fd : FuncData), TW.Df (L2.KOf KX) mg "set_of" TW.sSet ["firms"] f fd := by
      dsimp only [L2.KOf]
      refine' TW.df_ex KX G (fun _ _ _ _ _ _ us hl => match us, hl with | [_], _ => rfl) ?a ?l ?c ?k
      (case a => k_is)
      (case l => k_is)
      (case c => k_is)
      (case k => k_is)
    obtain ⟨aSet, gSet, dSet⟩ := hd_Set
    have hd_Ws : ∃ (f : Addr) (fd : FuncData), TW.Df (L2.KOf KX) mg "wanted_sets" TW.sWs ["rows", "prices"] f fd := by
      dsimp only [L2.KOf]
      refine' TW.df_ex KX G (fun _ _ _ _ _ _ us hl => match us, hl with | [_, _], _ => rfl) ?a ?l ?c ?k
      (case a => k_is)
      (case l => k_is)
      (case c => k_is)
      (case k => k_is)
    obtain ⟨aWs, gWs, dWs⟩ := hd_Ws
    have hd_Fo : ∃ (f : Addr) (fd : FuncData), TW.Df (L2.KOf KX) mg "first_over" TW.sFo ["wanted", "lists"] f fd := by
      dsimp only [L2.KOf]
      refine' TW.df_ex KX G (fun _ _ _ _ _ _ us hl => match us, hl with | [_, _], _ => rfl) ?a ?l ?c ?k
      (case a => k_is)
      (case l => k_is)
      (case c => k_is)
      (case k => k_is)
    obtain ⟨aFo, gFo, dFo⟩ := hd_Fo
    have hd_Mr : ∃ (f : Addr) (fd : FuncData), TW.Df (L2.KOf KX) mg "make_rounds" TW.sMr ["table", "k"] f fd := by
      dsimp only [L2.KOf]
      refine' TW.df_ex KX G (fun _ _ _ _ _ _ us hl => match us, hl with | [_, _], _ => rfl) ?a ?l ?c ?k
      (case a => k_is)
      (case l => k_is)
      (case c => k_is)
      (case k => k_is)
    obtain ⟨aMr, gMr, dMr⟩ := hd_Mr
    have hd_Right : ∃ (f : Addr) (fd : FuncData), TW.Df (L2.KOf KX) mg "is_right" TW.sRight ["table", "kind", "argument"] f fd := by
      dsimp only [L2.KOf]
      refine' TW.df_ex KX G (fun _ _ _ _ _ _ us hl => match us, hl with | [_, _, _], _ => rfl) ?a ?l ?c ?k
      (case a => k_is)
      (case l => k_is)
      (case c => k_is)
      (case k => k_is)
    obtain ⟨aRight, gRight, dRight⟩ := hd_Right
    have hd_Asg : ∃ (f : Addr) (fd : FuncData), TW.Df (L2.KOf KX) mg "is_assignment" TW.sAsg ["table", "some"] f fd := by
      dsimp only [L2.KOf]
      refine' TW.df_ex KX G (fun _ _ _ _ _ _ us hl => match us, hl with | [_, _], _ => rfl) ?a ?l ?c ?k
      (case a => k_is)
      (case l => k_is)
      (case c => k_is)
      (case k => k_is)
    obtain ⟨aAsg, gAsg, dAsg⟩ := hd_Asg
    have hd_Taken : ∃ (f : Addr) (fd : FuncData), TW.Df (L2.KOf KX) mg "taken" TW.sTaken ["left", "kind"] f fd := by
      dsimp only [L2.KOf]
      refine' TW.df_ex KX G (fun _ _ _ _ _ _ us hl => match us, hl with | [_, _], _ => rfl) ?a ?l ?c ?k
      (case a => k_is)
      (case l => k_is)
      (case c => k_is)
      (case k => k_is)
    obtain ⟨aTaken, gTaken, dTaken⟩ := hd_Taken
    have hd_By : ∃ (f : Addr) (fd : FuncData), TW.Df (L2.KOf KX) mg "answer_by" TW.sBy ["answer", "table", "told"] f fd := by
      dsimp only [L2.KOf]
      refine' TW.df_ex KX G (fun _ _ _ _ _ _ us hl => match us, hl with | [_, _, _], _ => rfl) ?a ?l ?c ?k
      (case a => k_is)
      (case l => k_is)
      (case c => k_is)
      (case k => k_is)
    obtain ⟨aBy, gBy, dBy⟩ := hd_By
    have hd_Next : ∃ (f : Addr) (fd : FuncData), TW.Df (L2.KOf KX) mg "answer_next" TW.sNext ["table", "left"] f fd := by
      dsimp only [L2.KOf]
      refine' TW.df_ex KX G (fun _ _ _ _ _ _ us hl => match us, hl with | [_, _], _ => rfl) ?a ?l ?c ?k
      (case a => k_is)
      (case l => k_is)
      (case c => k_is)
      (case k => k_is)
    obtain ⟨aNext, gNext, dNext⟩ := hd_Next
    have prg : TW.Prg (L2.KOf KX) mg := { CT := CT, T := T_CT, B := hB, R := ⟨h_mp, h_mf, h_mm, h_mr⟩, oor := h_oor, aTI := ai_CT, gTI := gi_CT, mTI := ini_CT.fn, bTI := ini_CT.b, kTI := ini_CT.mkd, mgT := mg_CT, aLay := aLay, gLay := gLay, mLay := mLay, aBack := aBack, gBack := gBack, mBack := mBack, aWins := aWins, gWins := gWins, mWins := mWins, aGat := aGat, gGat := gGat, dGat := dGat, aRep := aRep, gRep := gRep, dRep := dRep, aGw := aGw, gGw := gGw, dGw := dGw, aGbl := aGbl, gGbl := gGbl, dGbl := dGbl, aGt := aGt, gGt := gGt, dGt := dGt, aWn := aWn, gWn := gWn, dWn := dWn, aBas := aBas, gBas := gBas, dBas := dBas, aWon := aWon, gWon := gWon, dWon := dWon, aTw := aTw, gTw := gTw, dTw := dTw, aAgain := aAgain, gAgain := gAgain, dAgain := dAgain, aLeast := aLeast, gLeast := gLeast, dLeast := dLeast, aGreat := aGreat, gGreat := gGreat, dGreat := dGreat, aGain := aGain, gGain := gGain, dGain := dGain, aGit := aGit, gGit := gGit, dGit := dGit, aGg := aGg, gGg := gGg, dGg := dGg, aDem := aDem, gDem := gDem, dDem := dDem, aCp := aCp, gCp := gCp, dCp := dCp, aLio := aLio, gLio := gLio, dLio := dLio, aSet := aSet, gSet := gSet, dSet := dSet, aWs := aWs, gWs := gWs, dWs := dWs, aFo := aFo, gFo := gFo, dFo := dFo, aMr := aMr, gMr := gMr, dMr := dMr, aRight := aRight, gRight := gRight, dRight := dRight, aAsg := aAsg, gAsg := gAsg, dAsg := dAsg }
    dsimp only [L2.KOf] at prg dTaken dBy dNext
    refine' TW.ans_mk KX G hmg prg dTaken dBy dNext ?aD ?lD ?hc0 ?hc1 ?hc2 ?hc3 ?hc4 ?hc5 ?hc6 ?hc7 ?hc8 ?hc9 ?hc10 ?hc11 ?hc12 ?hc13 ?hc14 ?hc15 ?hc16 ?hc17 ?hc18 ?hc19 ?hc20 ?aR ?lR ?e0 ?e1 ?e2 ?sy ?aLs ?lLs ?aA ?lA ?cA ?kA
    (case aD => k_is)
    (case lD => k_is)
    case hc0 =>
      intro base
      refine' TW.call_mk (name := "answer_begin") (st := TW.sBegin) (ps := ["table", "n", "m"]) (fun F => TW.ok_begin prg F) (fun _ _ _ _ _ _ us hl => match us, hl with | [_, _, _], _ => rfl) ?u ?v ?z ?kv ?l ?c ?k
      (case u => k_is)
      (case v => k_is)
      (case l => k_is)
      (case c => k_is)
      (case k => k_is)
      (case z => decide)
      (case kv => exact (.cons ⟨_, rfl⟩ (.cons ⟨_, rfl⟩ .nil)))
    case hc1 =>
      intro base
      refine' TW.call_mk (name := "answer_base") (st := TW.sBase) (ps := ["table", "i", "v"]) (fun F => TW.ok_base prg F) (fun _ _ _ _ _ _ us hl => match us, hl with | [_, _, _], _ => rfl) ?u ?v ?z ?kv ?l ?c ?k
      (case u => k_is)
      (case v => k_is)
      (case l => k_is)
      (case c => k_is)
      (case k => k_is)
      (case z => decide)
      (case kv => exact (.cons ⟨_, rfl⟩ (.cons ⟨_, rfl⟩ .nil)))
    case hc2 =>
      intro base
      refine' TW.call_mk (name := "answer_worth") (st := TW.sWorth) (ps := ["table", "p", "i", "v"]) (fun F => TW.ok_worth prg F) (fun _ _ _ _ _ _ us hl => match us, hl with | [_, _, _, _], _ => rfl) ?u ?v ?z ?kv ?l ?c ?k
      (case u => k_is)
      (case v => k_is)
      (case l => k_is)
      (case c => k_is)
      (case k => k_is)
      (case z => decide)
      (case kv => exact (.cons ⟨_, rfl⟩ (.cons ⟨_, rfl⟩ (.cons ⟨_, rfl⟩ .nil))))
    case hc3 =>
      intro base
      refine' TW.call_mk (name := "answer_row") (st := TW.sRow) (ps := ["table", "p", "worths"]) (fun F => TW.ok_row prg F) (fun _ _ _ _ _ _ us hl => match us, hl with | [_, _, _], _ => rfl) ?u ?v ?z ?kv ?l ?c ?k
      (case u => k_is)
      (case v => k_is)
      (case l => k_is)
      (case c => k_is)
      (case k => k_is)
      (case z => decide)
      (case kv => exact (.cons ⟨_, rfl⟩ (.cons ⟨_, rfl⟩ .nil)))
    case hc4 =>
      intro base
      refine' TW.call_mk (name := "answer_look") (st := TW.sLook) (ps := ["table", "p"]) (fun F => TW.ok_look prg F) (fun _ _ _ _ _ _ us hl => match us, hl with | [_, _], _ => rfl) ?u ?v ?z ?kv ?l ?c ?k
      (case u => k_is)
      (case v => k_is)
      (case l => k_is)
      (case c => k_is)
      (case k => k_is)
      (case z => decide)
      (case kv => exact (.cons ⟨_, rfl⟩ .nil))
    case hc5 =>
      intro base
      refine' TW.call_mk (name := "answer_total") (st := TW.sTotal) (ps := ["table"]) (fun F => TW.ok_total prg F) (fun _ _ _ _ _ _ us hl => match us, hl with | [_], _ => rfl) ?u ?v ?z ?kv ?l ?c ?k
      (case u => k_is)
      (case v => k_is)
      (case l => k_is)
      (case c => k_is)
      (case k => k_is)
      (case z => decide)
      (case kv => exact .nil)
    case hc6 =>
      intro base
      refine' TW.call_mk (name := "answer_best") (st := TW.sBest) (ps := ["table"]) (fun F => TW.ok_best prg F) (fun _ _ _ _ _ _ us hl => match us, hl with | [_], _ => rfl) ?u ?v ?z ?kv ?l ?c ?k
      (case u => k_is)
      (case v => k_is)
      (case l => k_is)
      (case c => k_is)
      (case k => k_is)
      (case z => decide)
      (case kv => exact .nil)
    case hc7 =>
      intro base
      refine' TW.call_mk (name := "answer_given") (st := TW.sGiven) (ps := ["table", "firms"]) (fun F => TW.ok_given prg F) (fun _ _ _ _ _ _ us hl => match us, hl with | [_, _], _ => rfl) ?u ?v ?z ?kv ?l ?c ?k
      (case u => k_is)
      (case v => k_is)
      (case l => k_is)
      (case c => k_is)
      (case k => k_is)
      (case z => decide)
      (case kv => exact (.cons ⟨_, rfl⟩ .nil))
    case hc8 =>
      intro base
      refine' TW.call_mk (name := "answer_prices") (st := TW.sPrices) (ps := ["table"]) (fun F => TW.ok_prices prg F) (fun _ _ _ _ _ _ us hl => match us, hl with | [_], _ => rfl) ?u ?v ?z ?kv ?l ?c ?k
      (case u => k_is)
      (case v => k_is)
      (case l => k_is)
      (case c => k_is)
      (case k => k_is)
      (case z => decide)
      (case kv => exact .nil)
    case hc9 =>
      intro base
      refine' TW.call_mk (name := "answer_greatest") (st := TW.sGreatest) (ps := ["table"]) (fun F => TW.ok_greatest prg F) (fun _ _ _ _ _ _ us hl => match us, hl with | [_], _ => rfl) ?u ?v ?z ?kv ?l ?c ?k
      (case u => k_is)
      (case v => k_is)
      (case l => k_is)
      (case c => k_is)
      (case k => k_is)
      (case z => decide)
      (case kv => exact .nil)
    case hc10 =>
      intro base
      refine' TW.call_mk (name := "answer_gains") (st := TW.sGains) (ps := ["table"]) (fun F => TW.ok_gains prg F) (fun _ _ _ _ _ _ us hl => match us, hl with | [_], _ => rfl) ?u ?v ?z ?kv ?l ?c ?k
      (case u => k_is)
      (case v => k_is)
      (case l => k_is)
      (case c => k_is)
      (case k => k_is)
      (case z => decide)
      (case kv => exact .nil)
    case hc11 =>
      intro base
      refine' TW.call_mk (name := "answer_competitive") (st := TW.sCompetitive) (ps := ["table", "prices"]) (fun F => TW.ok_competitive prg F) (fun _ _ _ _ _ _ us hl => match us, hl with | [_, _], _ => rfl) ?u ?v ?z ?kv ?l ?c ?k
      (case u => k_is)
      (case v => k_is)
      (case l => k_is)
      (case c => k_is)
      (case k => k_is)
      (case z => decide)
      (case kv => exact (.cons ⟨_, rfl⟩ .nil))
    case hc12 =>
      intro base
      refine' TW.call_mk (name := "answer_demand") (st := TW.sDemand) (ps := ["table", "p", "prices"]) (fun F => TW.ok_demand prg F) (fun _ _ _ _ _ _ us hl => match us, hl with | [_, _, _], _ => rfl) ?u ?v ?z ?kv ?l ?c ?k
      (case u => k_is)
      (case v => k_is)
      (case l => k_is)
      (case c => k_is)
      (case k => k_is)
      (case z => decide)
      (case kv => exact (.cons ⟨_, rfl⟩ (.cons ⟨_, rfl⟩ .nil)))
    case hc13 =>
      intro base
      refine' TW.call_mk (name := "answer_over") (st := TW.sOver) (ps := ["table", "prices"]) (fun F => TW.ok_over prg F) (fun _ _ _ _ _ _ us hl => match us, hl with | [_, _], _ => rfl) ?u ?v ?z ?kv ?l ?c ?k
      (case u => k_is)
      (case v => k_is)
      (case l => k_is)
      (case c => k_is)
      (case k => k_is)
      (case z => decide)
      (case kv => exact (.cons ⟨_, rfl⟩ .nil))
    case hc14 =>
      intro base
      refine' TW.call_mk (name := "answer_clock") (st := TW.sClock) (ps := ["table"]) (fun F => TW.ok_clock prg F) (fun _ _ _ _ _ _ us hl => match us, hl with | [_], _ => rfl) ?u ?v ?z ?kv ?l ?c ?k
      (case u => k_is)
      (case v => k_is)
      (case l => k_is)
      (case c => k_is)
      (case k => k_is)
      (case z => decide)
      (case kv => exact .nil)
    case hc15 =>
      intro base
      refine' TW.call_mk (name := "answer_tick") (st := TW.sTick) (ps := ["table", "k"]) (fun F => TW.ok_tick prg F) (fun _ _ _ _ _ _ us hl => match us, hl with | [_, _], _ => rfl) ?u ?v ?z ?kv ?l ?c ?k
      (case u => k_is)
      (case v => k_is)
      (case l => k_is)
      (case c => k_is)
      (case k => k_is)
      (case z => decide)
      (case kv => exact (.cons ⟨_, rfl⟩ .nil))
    case hc16 =>
      intro base
      refine' TW.call_mk (name := "answer_restart") (st := TW.sRestart) (ps := ["table"]) (fun F => TW.ok_restart prg F) (fun _ _ _ _ _ _ us hl => match us, hl with | [_], _ => rfl) ?u ?v ?z ?kv ?l ?c ?k
      (case u => k_is)
      (case v => k_is)
      (case l => k_is)
      (case c => k_is)
      (case k => k_is)
      (case z => decide)
      (case kv => exact .nil)
    case hc17 =>
      intro base
      refine' TW.call_mk (name := "answer_without") (st := TW.sWithout) (ps := ["table", "p"]) (fun F => TW.ok_without prg F) (fun _ _ _ _ _ _ us hl => match us, hl with | [_, _], _ => rfl) ?u ?v ?z ?kv ?l ?c ?k
      (case u => k_is)
      (case v => k_is)
      (case l => k_is)
      (case c => k_is)
      (case k => k_is)
      (case z => decide)
      (case kv => exact (.cons ⟨_, rfl⟩ .nil))
    case hc18 =>
      intro base
      refine' TW.call_mk (name := "answer_lie") (st := TW.sLie) (ps := ["table", "p", "worths"]) (fun F => TW.ok_lie prg F) (fun _ _ _ _ _ _ us hl => match us, hl with | [_, _, _], _ => rfl) ?u ?v ?z ?kv ?l ?c ?k
      (case u => k_is)
      (case v => k_is)
      (case l => k_is)
      (case c => k_is)
      (case k => k_is)
      (case z => decide)
      (case kv => exact (.cons ⟨_, rfl⟩ (.cons ⟨_, rfl⟩ .nil)))
    case hc19 =>
      intro base
      refine' TW.call_mk (name := "answer_burden") (st := TW.sBurden) (ps := ["table", "p"]) (fun F => TW.ok_burden prg F) (fun _ _ _ _ _ _ us hl => match us, hl with | [_, _], _ => rfl) ?u ?v ?z ?kv ?l ?c ?k
      (case u => k_is)
      (case v => k_is)
      (case l => k_is)
      (case c => k_is)
      (case k => k_is)
      (case z => decide)
      (case kv => exact (.cons ⟨_, rfl⟩ .nil))
    case hc20 =>
      intro base
      refine' TW.call_mk (name := "answer_equals") (st := TW.sEquals) (ps := ["table"]) (fun F => TW.ok_equals prg F) (fun _ _ _ _ _ _ us hl => match us, hl with | [_], _ => rfl) ?u ?v ?z ?kv ?l ?c ?k
      (case u => k_is)
      (case v => k_is)
      (case l => k_is)
      (case c => k_is)
      (case k => k_is)
      (case z => decide)
      (case kv => exact .nil)
    (case aR => k_is)
    (case lR => k_is)
    (case e0 => exact rfl)
    (case e1 => exact rfl)
    (case e2 => exact rfl)
    (case sy => decide)
    (case aLs => k_is)
    (case lLs => k_is)
    (case aA => k_is)
    (case lA => k_is)
    (case cA => k_is)
    (case kA => k_is)
  case S =>
    intro K H xs a hO hwi hask hx
    cases hx with
    | cons h1 h2 =>
      cases h2
      cases h1 with
      | lst hs ha =>
        have e := L2.ints_dw a.1 _ ha
        subst e
        have q : ((Codec.inLen 0 17000 a.1 && a.1.all (Codec.inInt (-1000000000000000000) 1000000000000000000)) && true) = true := hwi
        rw [Bool.and_eq_true, Bool.and_eq_true] at q
        exact ⟨_, a.1, rfl, hs, (Codec.inNat_iff.mp q.1.1).2, hask, fun H' p hp => .lst (L2.SqL.of hp) (L2.dw_ints _)⟩
